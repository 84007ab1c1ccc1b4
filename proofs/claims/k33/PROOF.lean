import PyProof.Rows.All
import Wide.Line
import Wide.Once
import Wide.FinOn
import OpenK.KLine
import OpenK.KOwn
import Open.Pieces
import KE.RegKIsAll
import KE.KIntText
import KE.KFromBytes
import KE.KItem
import KE.KxBytes
import KE.KRevIter
import KE.KUnpack
import KE.KIsAll
import KE.BitLaws
import PyProof.EqAt
import PyProof.EqKinds
import PyProof.TupleCall
import PySem.Challenge.RW_keyrise_k33_whole_forms_as_texts
set_option Elab.async false
set_option compiler.extract_closed false
set_option linter.all false
section KRGG
namespace PySem.W.Fast
abbrev N:=Nat
local macro_rules|`(command|seal $x*)=>return Lean.mkNullNode (← x.mapM fun y=>`(command|def $y:ident:=N))
seal
tw12929076898859708914 tw979095866598319235 tw6464441962678878214 tw4308588477966451417 tw2603937958766002515 tw7282973088887362001 tw16021307707147614322 tw8198348009711851909 tw2800585891069229834 tw9598140139937879848 tw1682449418640646403 tw13387101714922238620 tw13993770264859607060 tw9752715208664976440 tw11142513036172890883 tw7641655053804212922 tw1047896766267292170 tw2045060781173590224 tw5925971950823716569 tw2595178466654632711 tw706413437343065287 tw2748281033721510175 tw12705032966748990930 tw17619121035282065317 tw4293394473162420937 tw11947081300509155493 tw15141951245957449888 tw12486050373300252547 tw8444509274746439545 tw8271353462625366252
tw1925500340575136261 tw5994684331937527369 tw18373042941175376860 tw16445618115269709447 tw17464368548865840442 tw16510651977684155507 tw2755113537372302902 tw12290359231426205268 tw8149973606672650572 tw16307601099808194058 tw18315530143329661884 tw14960132413030448048 tw3458499754373205744 tw14493444461128485499 tw7326072563784956183 tw9583891939944680207 tw5776684380695367415 tw14016077925794100948 tw1626347158939148043 tw4916794747413300625 tw14766651570165151062 tw5423630399285905547 tw17067888543445549965 tw12096954280704111516 tw16284063107998194767 tw1481096749480145279 tw5304375117506653382 tw11732817100397570911 tw14600268728220061657 tw2639974856218677684
tw12726062070055045554 tw5105101979040554145 tw3423487156022651951 tw8115278456737104686 tw1637925381571468267 tw3019954212238368686 tw17717966824309803867 tw16952133794870281701 tw2612798139559752852 tw18446714602270003655 tw2269424713412695953 tw11700902543329996500 tw12039447747258871975 tw18210239727384044819 tw6601600665307969228 tw14454210966556576505 tw800095618410063339 tw5802692131324389157 tw18104890421440548891 tw17002839979251464331 tw15131063527250869514 tw999979773515190286 tw13927593359582651390 tw4576315731270293460 tw17317105283661751559 tw15821177262365634016 tw12295860215002010512 tw5563434280631898639 tw17634687179499029151 tw9540936698529228801
tw12046717356344364200 tw1728882492508674789 tw8444026507587452794 tw949426192180410271 tw5487931154079388545 tw14975917137036982365 tw15413663042336620902 tw3960692059803108673 tw2930281174396233594 tw6857345925398412229 tw2279293803724898099 tw9394217582556762757 tw12701133670860617530 tw17945978012991258357 tw15713461617544865694 tw10588782336371210188 tw9682344936224972404 tw9060691092404425886 tw15098504102513207355 tw6686654764211167731 tw6723318066146181642 tw4606617000839895423 tw7852661146605823466 tw6500090671323327410 tw11028326114988807621 tw11687903995813581332 tw16301991351855385982 tw11665902751623663616 tw6098659767726216361 tw7988552534536481677
tw4976572293424302378 tw14641339888127758868 tw18371701374689127766 tw15902820786432078956 tw11315769273325084300 tw1236443528441221254 tw9765147763995856214 tw16124503543619060874 tw3324379312574851677 tw7308547379783275242 tw4039151722516807592 tw12176634488416654693 tw14242560256056461168 tw5482354944553638106 tw4590552824526937601 tw10066683132498034009 tw6970778866998757877 tw9350186808880309483 tw7743186908624475474 tw11870425822839731254 tw11954994729660938501 tw2188275223756736854 tw1275257110926951038 tw16123982690064747684 tw8462886300437884662 tw12013260607624027416 tw4409281312679245962 tw4234601287735525715 tw18266766643321487090 tw12121202963626943655
tw14139846279560748415 tw1703405274936547888 tw5054544982724999145 tw15095628436726586926 tw3501663332099671212 tw13681822730537243968 tw10133396611602707605 tw12573193184498266745 tw15200566140566403525 tw17299388237897513563 tw12873611715896670451 tw14129595898752064969 tw9223557606921253002 tw1380846671116394420 tw6886812593756787288 tw261391271351757251 tw4930923093125057211 tw12149481812727475462 tw17386352565408714812 tw13480357493076294493 tw7716613845612465473 tw1810377461874654782 tw10738042027035932062 tw14999110250244190938 tw7268284582052399196 tw15979864177956746166 tw787527674274854660 tw167458290919640474 tw13921122628923294719 tw6509975396172466417
tw10047506461416862307 tw8939485117305501957 tw900969061254537159 tw16280733232347729296 tw8412283242119140128 tw688874846632351730 tw2338737941685589406 tw9582087359850456495 tw7434740097610887572 tw3000177391843051813 tw5374606955664723296 tw6183741488026450974 tw7681541826314050604 tw13471410663960998231 tw17112542740825578585 tw10802145475942141591 tw12885064040608234305 tw2578170860629377882 tw3760283479024261750 tw600790827939664006 tw9597278942339295915 tw8703407867313422419 tw16472916588937435213 tw16713315506801229507 tw13900015306561063650 tw2828588286600598667 tw13618166362764249593 tw12318685703403614474 tw5208765011438694238 tw307999330539363400
tw16923895863266855850 tw7878770984980282356 tw7493996154002994169 tw387827332641408909 tw1003149137011667297 tw4320472122146082050 tw11759327689984386947 tw5010497432521878995 tw5726110170074747193 tw14286331109891190077 tw9803114728891638789 tw2718285584478994749 tw16152597676742336084 tw16830029006271970165 tw15574360059542611966 tw16648904514282998126 tw13125263547112173446 tw5842883321390131691 tw6540979109458130672 tw13801227716348152048 tw6083877750079984151 tw891002838783202686 tw8906014716154353783 tw11150490072903442251 tw15162926072850965159 tw9579416360768656751 tw2146752145474532397 tw1007139262186109004 tw16147437075745093082 tw2972111521326798826
tw10027675449354998160 tw363084935823045115 tw3612242250330009914 tw100798088378390084 tw12266725156936384947 tw17871124736394266738 tw18228334858345538506 tw6397855274030963072 tw2910005244558282157 tw5926326500719080359 tw1984902579716283286 tw4224244677098093314 tw4129223468700673910 tw9460176623380664215 tw5997419971334671823 tw15519734806073604344 tw15353138383827554243 tw17419498919005568336 tw918859620620758905 tw17153750386481938683 tw13983398514932933040 tw15042705083818482148 tw4063228840226174193 tw15844524063230519634 tw7091010090385736588 tw7932079643575695470 tw5571704247451501893 tw4068944919111353596 tw16711357431634272400 tw17249633076457077688
tw12142406325865977342 tw6676719871731928856 tw4603138725126698966 tw5426791105708701701 tw2247836410817055445 tw3621199119798838764 tw4265023369977571009 tw8083762859954685763 tw15622618165169982945 tw8069550894762769096 tw6804708784231499328 tw10573387944191192609 tw7932843739563104406 tw865383717961641771 tw13490777638504345508 tw17054272909408094977 tw1474368504577347151 tw15038175829335665188 tw10459804482560722591 tw15978971795092297532 tw10250282241524925770 tw17086452943708960654 tw6182810032598951256 tw7889227612338655764 tw2856518246684078442 tw7173941513611111938 tw545694091170230544 tw14138171971726270798 tw5409529122524549651 tw15684369583256266333
tw14419435886017763111 tw12508157939111785315 tw18355946215966688087 tw10598918385338248321 tw9585503120782033261 tw18154886300135633729 tw5738836393526004031 tw11391988462347972600 tw9905309056465499203 tw2339302741944197588 tw350654077528892626 tw5876046195037782208 tw12819475122750050310 tw4622184844143317426 tw4003167498065272914 tw7837726169097371360 tw11910603336464562912 tw10227109053712952099 tw17347524983925029797 tw9698050264377668718 tw905608150807628540 tw14262057899353484803 tw13189667740634344906 tw8742077665212701409 tw12556626980593034391 tw8654350408903477306 tw7556898640887410492 tw4854614600241232282 tw17679914534594612874 tw8384627691495929323
tw17811459885418963503 tw16765117239207161346 tw5659045528833179970 tw3004133718110596237 tw16571946902289060915 tw13341459520901514397 tw12897999774961528697 tw8538783234635623263 tw156149520175217139 tw2615724900306367522 tw4111417388926360783 tw583529700378162008 tw1339800756775419369 tw18093470941747135045 tw9408438521046710718 tw10651346142352792667 tw8511000120112713901 tw14486923263008737271 tw2817057100412788862 tw5560505710024145231 tw3111434803037931979 tw12139153730638005234 tw2738364485347043913 tw13129246335879660292 tw10955000621894857645 tw15786042982653418144 tw11947710737887398020 tw17043298291359783371 tw6113064460759774997 tw13797597059912455681
tw6914595462004973149 tw7867332529145446662 tw7094372049483544385 tw14340446740288317107 tw17591334716521158057 tw16404211833539216600 tw8589798970158192905 tw9821073994449887618 tw11940383639096623599 tw17315321091432428424 tw16648134937706268778 tw1583299925969838091 tw10563427844632195498 tw11632591965471361294 tw1938903184624923567 tw18101809857932046422 tw9678734936573261584 tw515031825258718592 tw15667407400155148432 tw2203222640345167141 tw13769963041230472250 tw5803920420477170816 tw3798184086160737800 tw12864075598428839544 tw9146316536929494326 tw7522298405516248640 tw4189817837058066142 tw12397081740008094995 tw5572739267495530028 tw10100761419291335208
tw16698154747235377169 tw4361216740525674223 tw8965731466663043249 tw5412731359938907310 tw14912787431195292559 tw1469132544525709738 tw13544216107996279232 tw17278935798399966792 tw2548765905597629124 tw284689883584891519 tw14591530160086093369 tw5619161020702665785 tw6797845994565971972 tw14012168891128000251 tw14851997194278260083 tw7913979102552151966 tw9648316306815926608 tw8243622923282002968 tw1573561428423211625 tw13588561820411570963 tw648222273322864865 tw13441299419454870634 tw17760997704772306159 tw8890686966309901619 tw3735632711852036394 tw4857428018390631631 tw1109581682223159220 tw213659481757357023 tw13804731231120810843 tw904113871397063810
tw7108571479440204893 tw12962770569685861552 tw3304017685199507442 tw5041625764093167169 tw17530066289364983234 tw12233575507938454776 tw464401457136662524 tw9833077695379936569 tw12516718328659653990 tw1463621254008839983 tw14459743502021417964 tw277910453597672830 tw3811007826317078804 tw11700000280649669486 tw12615686369584142623 tw9452316223650021748 tw2179740769267492435 tw5392502780500250490 tw14398413190338490405 tw17716783065658325425 tw12554511005400842163 tw16484373235233323003 tw17995487649970216013 tw6560831341857405188 tw2957610391716988187 tw1280781523901410495 tw13519223870425673645 tw3786836310519754435 tw7542359177645088717 tw570536188666196964
tw12558306636185774339 tw18230730500156482402 tw3376292998885809927 tw4007702977611917601 tw9159226492712250532 tw582514216201808304 tw15109539390990265211 tw16458165087540219119 tw7040511210672361547 tw9283659368360516404 tw12876523117734376790 tw4929986449012584819 tw2067323549077388404 tw224699819037663685 tw12098942765511562078 tw6998213161938522900 tw4326610084274348958 tw5805848659672292634 tw11607834733144295098 tw500264313278707665 tw4734801814590566819 tw6738352071283815821 tw18190185204631001880 tw8107812869155963119 tw5059717943422549806 tw10200059993226286397 tw3544379311049912519 tw2805262401423216358 tw14078468628056549199 tw17982380966025259097
tw12132233692589687852 tw9188348782090363411 tw7382381977655185285 tw3420983218328878144 tw12827554897745527710 tw18373710971657219128 tw8707733267729907353 tw15931482030086905401 tw8842269932181521606 tw2339693917918074106 tw6294919561818538912 tw6034421294495436054 tw17386970181781203576 tw7069800380616614578 tw5673925553662506520 tw4158992602462401241 tw2165785665058886603 tw17494895706616234866 tw17084728044919191291 tw7134813355022243634 tw8276171030340466950 tw11897515941300561919 tw14294035148547663238 tw15950856522889171842 tw15740602939248797377 tw949435806365088138 tw3882034941659532078 tw8433581840912296287 tw5522783929872431188 tw10008306750005261004
tw10734544981950097117 tw5727316428074385721 tw15086960929366060980 tw14518810652206154297 tw4970587566243318818 tw12570672764974369437 tw16178946059861808372 tw13580950089111385650 tw3005220699597455267 tw13662227704465424337 tw15208580336717222264 tw5419849810686911744 tw10252605792542045625 tw6035763669239987994 tw9660152165599737983 tw13959715836948417854 tw1893180900136571975 tw15290864278768649726 tw12472250882228931938 tw10778787267180771653 tw11275142999534072319 tw5701255106099306050 tw14639237481336493967 tw4520213468680950720 tw508075586028171355 tw15632092000759084696 tw8308499497431556597 tw16640557861163053985 tw9076782597863702263 tw8888416945669570296
tw5679581471857087449 tw16756735629156957909 tw15572265305415586925 tw15158552974777916586 tw15877951487091939105 tw14176907207384734371 tw921317336057122304 tw13283503453711509244 tw13123639739546271615 tw6028266773615531204 tw4479592329572115768 tw16659497228760137281 tw9711470040948127819 tw18167427246844881695 tw4681019145591326456 tw5174226388960520170 tw1182114722231220499 tw9620705151605917508 tw18059028215923703730 tw779942709315496868 tw6367764892505456789 tw4469125762781307192 tw15472867694328970971 tw1015835421314840547 tw5822436449353180372 tw1079344587163316163 tw1581829270864062712 tw4641582201713315045 tw2659072476663833792 tw2239616006098903733
tw2903556890666118487 tw15063333248055694053 tw15806072961048072294 tw16862253161938839916 tw5783977446148187586 tw5807470699869155036 tw17760976073967452093 tw3004425059709038798 tw10523096160501485240 tw6561266733053125175 tw17410833354666351251 tw8405495039745342860 tw12098585196044787596 tw16318444820982158067 tw14410754344454446675 tw18025103202204404123 tw15843338169517687949 tw10774753754001184815 tw8296829768672560329 tw1952033518263371900 tw3242402336591277416 tw12024721771578041517 tw16267289327600288432 tw8373112287167972867 tw6573526737922768992 tw9693927262274845679 tw9285997482530862105 tw14320370996805796159 tw14764417897463554539 tw5301597959401532501
tw4061077487453956855 tw8077606180856153581 tw847313969998217118 tw495142643808289351 tw17736870672931732487 tw2071797969213386317 tw16061933185449767267 tw5868471191974999324 tw17364153854445751430 tw6039484080631424987 tw3324397886060182399 tw1106591959969981299 tw4790876236763424128 tw14748738399395179780 tw4625087306586311813 tw3444120816966035124 tw10372223938963170680 tw6488823462650155774 tw13211948107722105406 tw17317701880320526256 tw10610854545958705997 tw6047365563440725995 tw13832733815926576180 tw6540949321753792492 tw11027099917682085862 tw11374688868214678212 tw7346845486541174555 tw15812157963002547977 tw10129147000763743623 tw12680321045046194154
tw12819515518724855866 tw9357969967824250668 tw10163691430736294714 tw320424620841066448 tw14726202185129308621 tw3473390170391611746 tw733321177604455444 tw10953808662954112860 tw6771092188161812869 tw13528607096364979331 tw654576482797278260 tw13876677068707418433 tw6155672485113672935 tw13346543185196990849 tw7078482656081952796 tw4118404134256650648 tw15041709281646791633 tw10583840195713265866 tw14001025553167179772 tw5665343698521536026 tw7591010384188692707 tw9954726010325826161 tw14743491529388615331 tw13955634912675928384 tw182808291194091155 tw6770007307098955102 tw14406599974565239766 tw9437761156204692261 tw11859305212891956925 tw9054662325665689622
tw399178502347227471 tw14748629417386118103 tw14333587435439405887 tw9643504594763753455 tw12625455369171716108 tw10278444759952635615 tw12054435875594549233 tw14207206061555126573 tw14556116028623525271 tw7689531397567431506 tw845945318944794582 tw576437894364537234 tw2445328891018983107 tw11510448295517971925 tw8241414290369838734 tw7448722249883384235 tw2928334294011617215 tw5243838088497855453 tw14133150251263811151 tw15472075141073827564 tw8158073586244320848 tw16740974391886585538 tw7264271350526374916 tw17511720933109403388 tw452480869414430431 tw5159747055805977399
end PySem.W.Fast
theorem KR.absorb{G P:Prop}(_ _:G)(m:P):P:=m
open PySem PySem.W PyProof.Rows
set_option maxRecDepth 100000 in
set_option maxHeartbeats 0 in
noncomputable def KR.GG:{G:Prop // G→PySem.Challenge.rw_keyrise_k33_whole_forms_as_texts.Holds}:=⟨_,fun hG=>by
 refine KR.absorb hG ?hc ?main
 case main =>
  w_on;o_law;k_head
  case hw=>w_witness2
 case hc=>exact hG⟩
end KRGG
set_option tactic.hygienic false
section
open Option renaming some → J,none → aA
open PySem renaming Str → aa,Addr → ag,Value → ax,Shared → aT,Stmt → bo,Heap → bR,wpAny → cc,sizeLine → cp,Obj → cE,wpAny_bind → cO,Expr → c3,World → dd,Builtin → dI,Program → dR,Around → ee,starEach → eI,wpAny_pure → e3,mainGlobals → fx,compareOp → h3,PassesOwn → iu,FuncData → i9,NameKind → ku,bootBuiltins → kv,binaryOp → l2,wpAny_mono → nc,codeAny → pa,wpAny_field → pb,wpAny_seqItems → t9,codeAny_mono → vH,keywordEach → vI,wpAny_Call_Name_kw → vJ,wpAny_passesOwn → vK,wpAny_setField_rec → xH,wpAny_truthy_bool → An,wpAny_call → EH,wpAny_getItem_str_slice → EI,codeAny_call_builtin → RX,wpAny_setField → RY
open Bool renaming true → ao,false → aI
open PySem.W renaming findIn → gU,nsIn → hu,emptyDict → nS,instObj → nT,fnOf → o9,keepIn → ry,kia_one → sU,kitOne → vG,makesIn → Am,codeIn → EF,plainGet → EG,callWith_K → JO,hasDictIn → JP,isFn → JQ,lookIn → JR,methodCall_KW → JS
def I{α:Sort _}{a:α}:a=a:=rfl
set_option maxHeartbeats 4000000
abbrev bT:=@PySem.W.Frag
abbrev ie:=@Option.some.inj
abbrev ig:=@PySem.W.mg_of
abbrev k7:=@PySem.W.mg_none_of
abbrev nq:=@List.mem_append_right
abbrev Uf:=@Option.map_eq_some_iff
abbrev lE:=@Bool.and_eq_true_iff
abbrev fJ:=@Ne.symm
abbrev cw:=@List.getElem?_eq_getElem
abbrev cd:=@List.length_map
abbrev eR:=@List.getD_eq_getElem?_getD
abbrev d9:=@List.mem_cons_of_mem
abbrev dJ:=@List.mem_cons
abbrev bE:=@List.length_append
abbrev cR:=@Nat.le_refl
abbrev dW:=@List.length_cons
abbrev eJ:=@List.getElem?_map
abbrev gZ:=@PySem.Heap.get?_push_of_some
abbrev eK:=@decide_eq_true
abbrev eg:=@List.size_toArray
abbrev jc:=@List.mem_of_getElem?
abbrev kE:=@List.getElem?_eq_some_iff
abbrev g0:=@List.mem_cons_self
abbrev fz:=@Nat.lt_of_lt_of_le
abbrev e8:=@decide_eq_false
abbrev c5:=@Nat.le_trans
abbrev eB:=@List.mem_singleton
abbrev fR:=@List.map_append
abbrev UF:=@Nat.zero_le
abbrev iw:=@PySem.Heap.get?_push_size
abbrev eC:=@List.append_assoc
abbrev ke:=@Bool.false_ne_true
abbrev hT:=@of_decide_eq_true
abbrev jW:=@Int.emod_lt_of_pos
abbrev fI:=@PySem.Heap.lt_size
abbrev fA:=@Array.length_toList
abbrev ix:=@Bool.and_eq_true
abbrev jX:=@Int.emod_nonneg
abbrev gI:=@List.map_cons
abbrev kf:=@List.length_singleton
abbrev hU:=@Nat.ne_of_lt
abbrev kg:=@List.length_take
abbrev pw:=@List.idxOf_lt_length_of_mem
abbrev hx:=@List.map_map
abbrev UV:=@List.take_of_length_le
abbrev k6:=@decide_eq_true_eq
abbrev mf:=@List.take_add_one
abbrev qJ:=@List.drop_eq_getElem_cons
abbrev h4:=@Nat.lt_or_ge
abbrev lF:=@List.length_drop
abbrev k8:=@List.length_range
abbrev lG:=@List.getElem_map
abbrev px:=@List.cons_ne_nil
abbrev hy:=@List.all_eq_true
abbrev jH:=@List.flatten_cons
abbrev pz:=@List.map_congr_left
abbrev uA:=@List.getElem?_eq_none
local macro_rules | `(⋯)=>`(by decide+kernel)
local macro_rules | `(tactic| lia) => `(tactic| first | (with_reducible first | assumption | exact Nat.le_of_succ_le_succ ‹_› | exact Nat.le_of_lt_succ ‹_› | exact Nat.le_of_lt ‹_› | exact Nat.sub_succ_lt_self _ _ ‹_› | exact Nat.succ_le_of_lt ‹_› | exact Nat.lt_of_lt_of_eq ‹_› ‹_› | exact Nat.lt_of_lt_of_eq ‹_› (Eq.symm ‹_›) | exact c5 ‹_› (by decide) | exact Nat.add_le_add_right ‹_› _ | exact c5 ‹_› ‹_› | exact Nat.lt_trans ‹_› ‹_› | exact Nat.le_add_right .. | exact Nat.le_add_left .. | exact fz ‹_› ‹_› | exact c5 (Nat.sub_le ..) ‹_› | exact c5 (c5 (Nat.min_le_right ..) (Nat.sub_le ..)) ‹_› | exact c5 (Nat.min_le_right ..) (Nat.sub_le ..) | exact fz ‹_› (Nat.min_le_right ..) | exact fz ‹_› (Nat.min_le_left ..) | exact Nat.max_le.mpr ⟨c5 (Nat.le_max_left ..) ‹_›, ‹_›⟩ | exact (Int.toNat_of_nonneg ‹_›).symm | exact c5 (Nat.le_max_right ..) ‹_› | exact Nat.sub_lt_sub_right ‹_› ‹_› | exact Nat.add_sub_of_le ‹_› | exact Nat.le_add_right_of_le ‹_› | exact c5 (Nat.le_add_right ..) ‹_› | exact Nat.le_antisymm ‹_› (Nat.not_lt.mp ‹_›) | exact Nat.le_of_eq ‹_› | exact c5 ‹_› (Nat.le_max_right ..) | exact Int.ofNat_lt.mpr ‹_› | exact Nat.lt_of_le_of_lt ‹_› (by decide) | exact Int.natCast_nonneg _ | exact c5 (Nat.le_of_eq ‹_›) ‹_›) | lia (splits := 9) | omega (config := {}))
open _root_ renaming autoParam→xv
theorem rss(_:True:=by first|exact .inl I|exact .inr I|assumption)(_:True:=by decide)(_:True:=by rfl)(_:True:=by first|exact Or.inl I|exact Or.inr I)(_:True:=by intro _;rfl)(_:True:=by decide+kernel)(_:True:=by first|exact Or.inl I|exact Or.inr (Or.inl I)|exact Or.inr (Or.inr I))(_:True:=by intros;rfl)(_:True:=by first|decide|lia)(_:True:=by intro _ _;rfl)(_:True:=by intro vs H Q E h;first|(cases h;subst_vars;rfl)|((repeat (obtain⟨_,h⟩:=h))<;>(subst_vars;rfl)))(_:True:=by exact rfl)(_:True:=by exact UF _):True:=trivial
def xw:=rss._auto_1
def yc:=rss._auto_2
def z0:=rss._auto_3
def z1:=rss._auto_4
def z2:=rss._auto_5
def z3:=rss._auto_6
def z4:=rss._auto_7
def z5:=rss._auto_8
def rrr:=rss._auto_9
def rrs:=rss._auto_10
def rru:=rss._auto_11
def rrv:=rss._auto_12
def rsr:=rss._auto_13
set_option Elab.async false
set_option linter.all false
set_option maxRecDepth 100000
open PySem
variable {us aV:List ax} {a it ah C:ag} {P prog:dR} {w:dd} {h zn:bR} {g':Array GenState} {t' i j k n:Nat} {d':Drawn} {ch cu:List ag} {x fj:aa} {N ns aJ:List aa} {M:Model} {A:ee} {E Q:ax->aT->Prop} {u doc pm bg ct jv:ax} {bw s:aT} {e e6 iter:c3} {α:Type} {bc pos':Pos} {ar:List (ag×cE)} {K:bT} {aZ:List c3} {body:List bo} {lo:Int} {f:ax->ax->Sem ax} {op:CmpOp} {f3 mg:aa->Option ax} {pl:Sem Bool} {kw:List (aa×ax)} {env:Env} {fd:i9} {outer:List Env} {sc d3:Scope} {an hr:Option ag} {mC:Array (Option ax)}
namespace c6
open PySem PySem.Spec PyProof.Rows
noncomputable abbrev Key:=Sum Int aa
noncomputable def Pk:Key->ax->Bool
 |.inl k,v=>ax.isInt k v
 |.inr x,v=>ax.isStrOf x v
noncomputable def aey(w:dd):Key->Int
 |.inl k=>hashInt k
 |.inr x=>hashStr w x
theorem rU:∀{k:Key}{v:ax},Pk k v=ao->(∃i t,k=Sum.inl i/\v=ax.int i t)\/(∃x t,k=Sum.inr x/\v=ax.str x t)
 |.inl i,v,h=>by
  obtain⟨t,e⟩:=ax.isInt_shape (k:=i) (v:=v) h;exact .inl ⟨i,t,I,e⟩
 |.inr x,v,h=>by
  obtain⟨t,e⟩:=ax.isStrOf_shape (x:=x) (v:=v) h;exact .inr ⟨x,t,I,e⟩
def Wo(a b:Int):decide ((Sum.inl a:Key)=Sum.inl b)=(a == b):=by
 by_cases e:a=b
 .subst e;simp
 ·have h:¬(Sum.inl a:Key)=Sum.inl b:=fun q=>e (Sum.inl.inj q);rw[e8 h];exact(beq_eq_false_iff_ne.mpr e).symm
def Wl(a b:aa):decide ((Sum.inr a:Key)=Sum.inr b)=decide (a=b):=by
 by_cases e:a=b
 .subst e;simp
 ·have h:¬(Sum.inr a:Key)=Sum.inr b:=fun q=>e (Sum.inr.inj q);rw[e8 h,e8 e]
def Wn(a:Int)(b:aa):decide ((Sum.inl a:Key)=Sum.inr b)=aI:=e8 (fun q=>nomatch q)
def Wm(a:aa)(b:Int):decide ((Sum.inr a:Key)=Sum.inl b)=aI:=e8 (fun q=>nomatch q)
noncomputable def Px(prog:dR)(w:dd):PySem.KeyKind prog w Key where
 is:=Pk
 hash:=aey w
 inj:=fun v a b aN al=>by
  rcases rU aN with⟨i,t,rfl,rfl⟩|⟨x,t,rfl,rfl⟩
  ·rcases rU al with⟨j,u,rfl,e⟩|⟨y,u,rfl,e⟩
   .injection e with aQ _;rw[aQ]
   .exact nomatch e
  ·rcases rU al with⟨j,u,rfl,e⟩|⟨y,u,rfl,e⟩
   .exact nomatch e
   .injection e with aQ _;rw[aQ]
 byValue:=fun k v h=>by
  rcases rU h with⟨i,t,rfl,rfl⟩|⟨x,t,rfl,rfl⟩<;>rfl
 pyHash:=fun cV h=>by
  rcases rU cV with⟨i,t,rfl,rfl⟩|⟨x,t,rfl,rfl⟩
  .exact wpAny_pyHash_int h
  .exact wpAny_pyHash_str h
 eqBool:=fun cG cV h=>by
  rcases rU cG with⟨i,t,rfl,rfl⟩|⟨x,t,rfl,rfl⟩
  ·rcases rU cV with⟨j,u,rfl,rfl⟩|⟨y,u,rfl,rfl⟩
   .rw[Wo]at h;exact wpAny_eqBool_int h
   .rw[Wn]at h;exact SeqAt.EqAt.int_str i t y u _ _ _ _ h
  ·rcases rU cV with⟨j,u,rfl,rfl⟩|⟨y,u,rfl,rfl⟩
   .rw[Wm]at h;exact SeqAt.EqAt.str_int x t j u _ _ _ _ h
   .rw[Wl]at h;exact wpAny_eqBool_str h
 «strs» := fun k x t v h=>by
  rcases rU h with⟨i,u,rfl,e⟩|⟨y,u,rfl,e⟩
  .exact nomatch e
  ·injection e with aQ _;subst aQ;cases v<;>rfl
inductive V where
 |bM|aS (b:Bool)|int (i:Int)|str (x:aa)|lL (b:Array UInt8)|uU (b:UInt64)|ref (a:ag)|ty (n:String)
 deriving DecidableEq
noncomputable def RelV:V->ax->Prop
 |.bM,u=>u=ax.none
 |.aS b,u=>u=ax.bool b
 |.int i,u=>∃t,u=ax.int i t
 |.str x,u=>∃t,u=ax.str x t
 |.lL b,u=>∃t,u=ax.bytes b t
 |.uU b,u=>∃t,u=ax.float b t
 |.ref a,u=>u=ax.ref a
 |.ty n,u=>u=ax.type n
noncomputable abbrev Vals:List V->List ax->Prop:=Paired RelV
theorem Vals.length{xs:List V}(r:Vals xs us):xs.length=us.length:=Paired.length r
theorem Vals.get:∀{xs:List V}{us:List ax}{i:Nat}{x:V},Vals xs us->xs[i]?=J x->∃u,us[i]?=J u/\RelV x u
 |_,_,_,_,.nil,e=>by simp at e
 |_,_,0,_,.cons r _,e=>by simp at e;subst e;exact⟨_,I,r⟩
 |_,_,i+1,x,.cons _ t,e=>by
  obtain⟨u,ai,aj⟩:=Vals.get (i:=i) (x:=x) t (by simpa using e);exact⟨u,by simpa using ai,aj⟩
theorem Vals.set{x:V}{u:ax}(r:RelV x u):∀{xs:List V}{us:List ax}(i:Nat),Vals xs us->Vals (xs.set i x) (us.set i u)
 |_,_,_,.nil =>.nil
 |_,_,0,.cons _ t =>.cons r t
 |_,_,i+1,.cons q t =>.cons q (Vals.set r i t)
theorem Vals.append:∀{xs aw:List V}{us ws:List ax},Vals xs us->Vals aw ws->Vals (xs++aw) (us++ws)
 |_,_,_,_,.nil,s=>s
 |_,_,_,_,.cons r t,s =>.cons r (Vals.append t s)
theorem Vals.take:∀{xs:List V}{us:List ax}(n:Nat),Vals xs us->Vals (xs.take n) (us.take n)
 |_,_,0,_ =>.nil
 |_,_,_+1,.nil =>.nil
 |_,_,n+1,.cons r t =>.cons r (Vals.take n t)
theorem Vals.drop:∀{xs:List V}{us:List ax}(n:Nat),Vals xs us->Vals (xs.drop n) (us.drop n)
 |_,_,0,r=>r
 |_,_,_+1,.nil =>.nil
 |_,_,n+1,.cons _ t=>Vals.drop n t
noncomputable def qH:Option V->Option ax->Prop
 |some v,J u=>RelV v u
 |none,aA=>True
 |_,_=>False
noncomputable def Fa{vF:Type}:List (vF×V)->List (vF×ax)->Prop:=Paired fun(p:vF×V)(q:vF×ax)=>p.1=q.1/\RelV p.2 q.2
noncomputable def hK:Key->V
 |.inl i =>.int i
 |.inr x =>.str x
inductive de where
  |lst (xs:List V)
  |tup (xs:List V)
  |oi (gR:List (Key×V))|mq (gR:List (List Key×V))
  |set (S:Int->Bool) (n:Nat)
  |ins (C ah:ag) (fs:List (aa×V))
  |own (x:ag)
  |nQ (fs:List (aa×V))
  |met (f x:ag)
  |D6 (lo aG:Int)
  |j0 (o:cE) (u:de)
  |t4 (aJ:Array ax)
  |ext (xG:bR->Prop)
noncomputable abbrev aq:=ag->Option de
noncomputable def upd(H:aq)(a:ag)(o:de):aq:=fun b=>if b=a then J o else H b
variable {H:aq}
def aB{o:de}:upd H a o a=J o:=by unfold upd;rw[if_pos rfl]
def bx{b:ag}{o:de}(h:b≠a):upd H a o b=H b:=by unfold upd;rw[if_neg h]
def hz{b:ag}{o:de}(h:H a=J o)(h':H b=aA):a≠b:=by
 intro e;subst e;rw[h]at h';cases h'
section
variable (P:dR) (w:dd)
noncomputable def iJ(H:aq)(h:bR)(a:ag):de->Prop
 |.lst xs=>xs.length<=cp/\∃(aV:List ax)(n:Nat),Vals xs aV/\h.get? a=J {cls :=.type "list",data :=.seq aV.toArray n}
 |.tup xs=>xs.length<=cp/\∃aV:List ax,Vals xs aV/\IsTup h a aV.toArray
 |.oi gR=>gR.length<=cp/\(a == sysModules)=aI/\∃vs,Fa gR vs/\h.DictOf (Px P w) a vs
 |.mq _=>False
 |.set S n=>h.SetOf (intKind P w) a S n
 | .ins C ah fs=>H ah=J (.own a)/\fs.length<=1000/\ah≠a/\h.get? a=J (nT C ah)/\
   ∃f3,h.Ns1 ah f3/\(∀f,qH (fs.lookup f) (f3 f))/\PySem.Within f3 (fs.map (·.1))
 |.own _=>∃o,h.get? a=J o
 |.nQ fs=>∃f3,h.Ns1 a f3/\∀f,qH (fs.lookup f) (f3 f)
 |.D6 lo aG=>∃t u v,h.get? a=J {cls :=.type "range",data :=.fields #[.int lo t,.int aG u,.int 1 v]}
 |.j0 o u=>h.get? a=J o/\iJ H h a u
 |.t4 aJ=>h.get? a=J {cls :=.none,data :=.fields aJ}
 |.met f x=>h.get? a=J (PySem.W.methodObj (.ref f) (.ref x))
 |.ext xG=>xG h/\(∃o,h.get? a=J o)/\∀ai aj:bR,xG ai->(∀o,ai.get? a=J o->aj.get? a=J o)->xG aj
def hE(H:aq)(h:bR):Prop:=∀a o,H a=J o->iJ P w H h a o
end
section
variable {P:dR} {w:dd} {H H':aq} {h h':bR} {a:ag} {o:de}
theorem iJ.lt(x:iJ P w H h a o):a<h.objs.size:=by
 cases o with
 |lst xs=>obtain⟨_,_,_,_,e⟩:=x;exact fI e
 |tup xs=>obtain⟨_,_,_,p⟩:=x;exact p.lt
 |oi gR=>obtain⟨_,_,_,_,o,_,_,e,_⟩:=x;exact fI e
 |mq gR=>exact(show False from x).elim
 |set S n=>obtain⟨o,_,_,_,e,_⟩:=x;exact fI e
 |ins C ah fs=>obtain⟨_,_,_,e,_⟩:=x;exact fI e
 |own y=>obtain⟨_,e⟩:=x;exact fI e
 |nQ fs=>obtain⟨_,⟨_,_,_,e,_⟩,_⟩:=x;exact fI e
 |D6 lo aG=>obtain⟨_,_,_,e⟩:=x;exact fI e
 |j0 eG u=>obtain⟨e,_⟩:=x;exact fI e
 |t4 aJ=>exact fI (show h.get? a=J _ from x)
 |met f y=>exact fI (show h.get? a=J _ from x)
 |ext xG=>obtain⟨_,⟨_,e⟩,_⟩:=x;exact fI e
def iJ.vA(x:iJ P w H h a o)(k:∀b u,(b=a\/H b=J (.own a))->h.get? b=J u->h'.get? b=J u)
  (aK:∀b,H b=J (.own a)->H' b=J (.own a)) (aP:∀b xs,H b=J (.tup xs)->H' b=J (.tup xs)):iJ P w H' h' a o:=by
 induction o with
 |lst xs=>obtain⟨z,aV,n,r,e⟩:=x;exact⟨z,aV,n,r,k _ _ (.inl I) e⟩
 |tup xs=>obtain⟨z,aV,r,eG,e,c⟩:=x;exact⟨z,aV,r,eG,k _ _ (.inl I) e,c⟩
 |oi gR=>obtain⟨z,y,vs,r,eG,aZ,hi,e,c⟩:=x;exact⟨z,y,vs,r,eG,aZ,hi,k _ _ (.inl I) e,c⟩
 |mq gR=>exact(show False from x).elim
 |set S n=>obtain⟨eG,aZ,hi,t,e,c⟩:=x;exact⟨eG,aZ,hi,t,k _ _ (.inl I) e,c⟩
 |ins C ah fs =>
  obtain⟨d,z,ne,e,f3,⟨hr,aZ,hi,aR,c⟩,r⟩:=x;exact⟨aK _ d,z,ne,k _ _ (.inl I) e,f3,⟨hr,aZ,hi,k _ _ (.inr d) aR,c⟩,r⟩
 |own y=>obtain⟨eG,e⟩:=x;exact⟨eG,k _ _ (.inl I) e⟩
 |nQ fs=>obtain⟨f3,⟨hr,aZ,hi,e,c⟩,r⟩:=x;exact⟨f3,⟨hr,aZ,hi,k _ _ (.inl I) e,c⟩,r⟩
 |D6 lo aG=>obtain⟨t,u,v,e⟩:=x;exact⟨t,u,v,k _ _ (.inl I) e⟩
 |j0 eG u bP=>obtain⟨e,q⟩:=x;exact⟨k _ _ (.inl I) e,bP q⟩
 |t4 aJ =>
  have e:h.get? a=J {cls :=.none,data :=.fields aJ}:=x;show h'.get? a=J {cls :=.none,data :=.fields aJ};exact k a _ (.inl I) e
 |met f y =>
  have e:h.get? a=J (PySem.W.methodObj (.ref f) (.ref y)):=x;show h'.get? a=J (PySem.W.methodObj (.ref f) (.ref y));exact k a _ (.inl I) e
 |ext xG=>obtain⟨p,⟨o,e⟩,st⟩:=x;exact⟨st _ _ p fun o q=>k _ _ (.inl I) q,⟨o,k _ _ (.inl I) e⟩,st⟩
theorem hE.lt(x:hE P w H h)(e:H a=J o):a<h.objs.size:=(x a o e).lt
def hE.fresh(x:hE P w H h)(e:h.objs.size<=a):H a=aA:=by
 cases q:H a with
 |none=>rfl
 |some u=>exact absurd (fz (x.lt q) e) (Nat.lt_irrefl _)
def hE.kept(x:hE P w H h)(k:∀b u,h.get? b=J u->h'.get? b=J u):hE P w H h':=fun a o e =>
 (x a o e).vA (fun b u _ q=>k b u q) (fun _ q=>q) fun _ _ q=>q
def hE.laid(x:hE P w H h)(k:∀b u,h.get? b=J u->h'.get? b=J u)(aX:h.objs.size<=a)(new:iJ P w (upd H a o) h' a o):hE P w (upd H a o) h':=fun b u e=>by
 have bj:=x.fresh aX;by_cases al:b=a
 .subst al;rw[aB]at e;cases e;exact new
 ·rw[bx al]at e;exact(x b u e).vA (fun c v _ q=>k c v q) (fun c q=>by rw[bx (hz q bj)];exact q) fun c xs q=>by rw[bx (hz q bj)];exact q
end
def oa(H:aq)(a:ag)(u:de):Prop:=H a=J u\/∃o,H a=J (.j0 o u)
def oa.ok{u:de}(r:oa H a u)(x:hE P w H h):iJ P w H h a u:=by
 rcases r with r|⟨o,r⟩
 .exact x a u r
 ·obtain⟨_,q⟩:=x a _ r;exact q
noncomputable def AV:Option de->Prop
 |some (.lst _)=>True
 |some (.oi _)=>True
 |some (.mq _)=>True
 |some (.set _ _)=>True
 |some (.ins _ _ _)=>True
 |some (.ext _)=>True
 |_=>False
section
variable {P:dR} {w:dd} {H:aq} {h h':bR} {x e:ag} {o':de}
def hE.write(ok:hE P w H h)(oP:AV (H x))(he:e=x\/H e=J (.own x))(k:∀b u,b≠e->h.get? b=J u->h'.get? b=J u)(w3:∃u,h'.get? e=J u)
  (new:iJ P w (upd H x o') h' x o'):hE P w (upd H x o') h':=fun b u q=>by
 have PF:∀c y,H c=J (.own y)->c≠x:=fun c y r z=>by subst z;rw[r]at oP;exact oP
 have afA:∀c xs,H c=J (.tup xs)->c≠x:=fun c xs r z=>by subst z;rw[r]at oP;exact oP
 by_cases al:b=x
 .subst al;rw[aB]at q;cases q;exact new
 ·rw[bx al]at q;by_cases u3:b=e
  ·have j4:H b=J (.own x):=by
    rcases he with z|z
    .exact absurd (u3.trans z) al
    .rw[u3];exact z
   rw[q]at j4;cases j4;obtain⟨v,cV⟩:=w3;exact⟨v,by rw[u3];exact cV⟩
  ·refine(ok b u q).vA (fun c v hc r=>k c v ?_ r) (fun c r=>by rw[bx (PF c b r)];exact r) fun c xs r=>by rw[bx (afA c xs r)];exact r
   rcases hc with rfl|hc
   .exact u3
   ·rintro rfl;rcases he with z|z
    .exact PF c b hc z
    .rw[hc]at z;cases z;exact al I
end
structure hV(fs ex:List ag)(H H':aq)(h h':bR):Prop where
 keep:∀b o,h.get? b=J o->H b=aA->b∉fs->b∉ex->h'.get? b=J o
 slot:∀b o,h.get? b=J o->H b=aA->b∈fs->b∉ex->∃eY,h'.get? b=J {o with slots:=eY}
 free:∀b o,h.get? b=J o->H b=aA->b∉ex->H' b=aA
 there:∀b o,h.get? b=J o->b∉ex->∃o',h'.get? b=J o'
 rr:∀b xs,H b=J (.tup xs)->H' b=J (.tup xs)
 pU:∀b o u,H b=J (.j0 o u)->H' b=J (.j0 o u)
 rq:∀b aJ,H b=J (.t4 aJ)->∃more,H' b=J (.t4 (aJ++more))
section
variable {fs fs' ex lQ:List ag} {H H1 az:aq} {h ai aj h':bR} {a x e:ag} {o:de}
def hV.any(u:hV fs ex H H1 h ai){b:ag}{eG:cE}(q:h.get? b=J eG)(n:H b=aA)(av:b∉ex):∃eY,ai.get? b=J {eG with slots:=eY}:=by
 by_cases al:b∈fs
 .exact u.slot b eG q n al av
 .exact⟨eG.slots,u.keep b eG q n al av⟩
def hV.kept(k:∀b u,h.get? b=J u->h'.get? b=J u):hV fs ex H H h h' :=
 ⟨fun b eG q _ _ _=>k b eG q,fun b eG q _ _ _=>⟨eG.slots,k b eG q⟩,fun _ _ _ n _=>n,fun b eG q _=>⟨eG,k b eG q⟩,fun _ _ q=>q,fun _ _ _ q=>q,fun _ aJ q=>⟨#[],by rw[q];simp⟩⟩
def hV.refl:hV fs ex H H h h:=hV.kept fun _ _ q=>q
def hV.laid(k:∀b u,h.get? b=J u->h'.get? b=J u)(aX:h.objs.size<=a)(bj:H a=aA):hV fs ex H (upd H a o) h h' where
 keep:=fun b u q _ _ _=>k b u q
 slot:=fun b u q _ _ _=>⟨u.slots,k b u q⟩
 free:=fun b u q n _=>by rw[bx (hU (fz (fI q) aX))];exact n
 there:=fun b u q _=>⟨u,k b u q⟩
 rr:=fun b xs q=>by rw[bx (hz q bj)];exact q
 pU:=fun b u xs q=>by rw[bx (hz q bj)];exact q
 rq:=fun b aJ q=>⟨#[],by rw[bx (hz q bj),q];simp⟩
def hV.write(oP:AV (H x))(he:e=x\/H e=J (.own x))(k:∀b u,b≠e->h.get? b=J u->h'.get? b=J u)(w3:∃u,h'.get? e=J u):hV fs ex H (upd H x o) h h':=by
 have av:∀b,H b=aA->b≠x:=fun b n z=>by subst z;rw[n]at oP;exact oP
 have al:∀b,H b=aA->b≠e:=fun b n z=>by
  subst z;rcases he with r|r
  .exact av b n r
  .rw[n]at r;cases r
 have hm:∀b u,H b=J u->¬AV (J u)->b≠x:=fun b u q nm z=>by subst z;rw[q]at oP;exact nm oP
 refine⟨fun b u q n _ _=>k b u (al b n) q,fun b u q n _ _=>⟨u.slots,k b u (al b n) q⟩,fun b u q n _=>by rw[bx (av b n)];exact n,fun b u q _=>?_,
  fun b xs q=>by rw[bx (hm b _ q fun z=>z)];exact q,fun b u xs q=>by rw[bx (hm b _ q fun z=>z)];exact q,fun b aJ q=>⟨#[],by rw[bx (hm b _ q fun z=>z),q];simp⟩⟩
 by_cases u3:b=e
 .subst u3;exact w3
 .exact⟨u,k b u u3 q⟩
end
noncomputable def Ew(h:bR)(H:aq):List ag:=(List.range h.objs.size).filter fun a=>(H a).isSome
noncomputable def sh(h:bR)(H:aq):bR:=PySem.W.hideAll h (Ew h H)
def TR(h:bR)(H:aq):(sh h H).objs.size=h.objs.size:=PySem.W.hideAll_size _ _
variable {o:cE}
def UP{b:ag}(e:h.get? b=J o)(n:H b=aA):(sh h H).get? b=J o :=
 PySem.W.hideAll_get _ e fun hm=>by
  have q:(H b).isSome=ao:=(List.mem_filter.mp hm).2;rw[n]at q;simp at q
def VH{b:ag}(e:(sh h H).get? b=J o):h.get? b=J o/\H b=aA:=by
 have e':h.get? b=J o:=PySem.W.of_hideAll (Ew h H) e;refine⟨e',?_⟩;cases q:H b with
 |none=>rfl
 |some x =>
  have hm:b∈Ew h H:=List.mem_filter.mpr ⟨List.mem_range.mpr (fI e'),by simp[q]⟩;have z:(sh h H).get? b=aA:=PySem.W.hideAll_none (Ew h H) hm;rw[z]at e;cases e
noncomputable def aaI(g h:bR)(L:ag):List (ag×cE):=(List.range h.objs.size).filterMap fun a=>if a=L\/(g.get? a).isSome=ao then aA else(h.get? a).map fun o=>(a,o)
noncomputable def rest(g h:bR)(L d:ag):List (ag×cE):=(aaI g h L).filter fun p=>decide (p.1≠d)
structure Mod(K:bT)(mg:aa->Option ax)(zn:bR):Prop where
 xf:K.In zn
 glob:zn.Ns fx mg
 blt:∃oN,zn.Ns builtinsNs oN/\∀x:aa,x≠"__name__"->oN x=kv x
 nolimit:zn.NoLimit
structure bS where
 prog:dR
 w:dd
 K:bT
 mg:aa->Option ax
 zn:bR
 A:ee
 N:List aa
 gH:aT
 k2:aq
 env:Env
 outer:List Env
 stack:List Env
 ex:List ag
 fn:aa->Bool
 calm:Bool
 pn:List (ag×cE)
 xe:ax->aT->Prop
noncomputable def ow(l:List Env):List ag:=l.filterMap (·.frame)
noncomputable abbrev bS.fs(X:bS):List ag:=ow X.outer
def Bf(sc:Scope)(x:aa):Prop:=sc.names.lookup x=J .local\/sc.names.lookup x=J .cell\/sc.names.lookup x=J .free
def Loc(sc:Scope)(x:aa):Prop:=sc.names.lookup x=J .local\/sc.names.lookup x=J .cell
def Look(env:Env)(h:bR)(m:aa->Option ax)(x:aa)(u:ax):Prop :=
 (env.kindOf x=J .local/\m x=J u)\/((env.kindOf x=J .cell\/env.kindOf x=J .free)/\∃c,env.cells.lookup x=J c/\h.IsCell c (J u))
structure bS.Ok(X:bS):Prop where
 mod:Mod X.K X.mg X.zn
 kind:X.env.scope.kind=.function
 glob:X.env.globals=fx
 blt:X.env.builtins=builtinsNs
 above:X.gH.heap.objs.size<=X.env.locals
 inj:∀x y c,X.env.cells.lookup x=J c->X.env.cells.lookup y=J c->x=y
 has:∀x,(X.env.kindOf x=J .cell\/X.env.kindOf x=J .free)->∃c,X.env.cells.lookup x=J c
 wD:∀x c,X.fn x=ao->X.env.cells.lookup x=J c->X.gH.heap.objs.size<=c
 hd:X.calm=ao->X.A.handled=aA
 frames:X.A.frames=J X.stack
 z7:X.stack=X.outer\/(X.stack=X.env::X.outer/\X.env.frame=J X.env.locals)
 HH:∀b∈X.ex,b≠X.env.locals/\∀x c,X.env.cells.lookup x=J c->c≠b
 bs:∀b o,X.zn.get? b=J o->X.gH.heap.get? b=J o/\X.k2 b=aA
 qR:X.zn.objs.size<=X.gH.heap.objs.size
 xo:∀b o,X.zn.get? b=J o->b∉X.ex
 yR:∀b∈X.ex,b∉X.fs
 nv:X.gH.heap.FunFrames X.zn X.outer
 tx:∀b∈X.fs,X.k2 b=aA
structure Inv(X:bS)(ar:List (ag×cE))(ab:List (Option V))(H:aq)(s:aT):Prop where
 ok:X.Ok
 os:s.os=X.gH.os
 bare:AllBare s.gens
 zn:hV X.fs X.ex X.k2 H X.gH.heap s.heap
 loc:∃m,s.heap.Ns X.env.locals m/\∀(i:Nat)(x:aa)(v:V),X.N[i]?=J x->ab[i]?=J (J v)->Bf X.env.scope x->∃u,RelV v u/\Look X.env s.heap m x u
 cell:∀x c,X.env.cells.lookup x=J c->∃v,s.heap.IsCell c v
 free:H X.env.locals=aA
 ov:∀x c,X.env.cells.lookup x=J c->H c=aA
 pin:∀p∈X.pn++ar,s.heap.get? p.1=J p.2/\H p.1=aA/\p.1≠X.env.locals/\p.1∉X.fs/\∀v,p.2.data≠.cell v
 aF:hE X.prog X.w H s.heap
 len:ab.length=X.N.length
variable {Q:Unit->aT->Prop}
section
variable {X:bS} {ar:List (ag×cE)} {ab:List (Option V)} {H H':aq} {s:aT} {h':bR}
def bS.Ok.afu(ok:X.Ok){b:ag}(e:X.zn.get? b=J o):b∉X.fs:=fun al=>by
 have:=(ok.nv.mem al).1;rw[e]at this;cases this
theorem Inv.bs(ae:Inv X ar ab H s):∀b o,X.zn.get? b=J o->s.heap.get? b=J o/\H b=aA:=fun b o e =>
 ⟨ae.zn.keep b o (ae.ok.bs b o e).1 (ae.ok.bs b o e).2 (ae.ok.afu e) (ae.ok.xo b o e),ae.zn.free b o (ae.ok.bs b o e).1 (ae.ok.bs b o e).2 (ae.ok.xo b o e)⟩
def Inv.bk(ae:Inv X ar ab H s):∀b o,X.zn.get? b=J o->s.heap.get? b=J o:=fun b o e=>(ae.bs b o e).1
theorem Inv.mod(ae:Inv X ar ab H s):Mod X.K X.mg X.zn:=ae.ok.mod
def Inv.h2(ae:Inv X ar ab H s):X.K.In s.heap:=ae.ok.mod.xf.keeps ae.bk
theorem Inv.lt(ae:Inv X ar ab H s):X.env.locals<s.heap.objs.size:=let ⟨_,bj,_⟩:=ae.loc;bj.lt
def Inv.dt(ae:Inv X ar ab H s):X.gH.heap.objs.size<=s.heap.objs.size:=c5 ae.ok.above (Nat.le_of_lt ae.lt)
def Inv.afw(ae:Inv X ar ab H s)(h:s.heap.objs.size<=a):a∉X.fs:=fun al=>by
 obtain⟨_,o,aK,_⟩:=ae.ok.nv.mem al;exact absurd (fz (fI aK) (c5 ae.dt h)) (Nat.lt_irrefl _)
def Inv.uR(ae:Inv X ar ab H s):∀x c,X.env.cells.lookup x=J c->c≠X.env.locals:=fun x c e z=>by
 obtain⟨v,o,aK,hd⟩:=ae.cell x c e;obtain⟨m,⟨o',aZ,hi,lh,y5,_⟩,_⟩:=ae.loc;rw[z,lh]at aK;cases aK;rw[y5]at hd;cases hd
theorem Inv.nv(ae:Inv X ar ab H s):s.heap.FunFrames X.zn X.outer:=by
 have all:∀(l:List Env),(∀b∈ow l,b∈X.fs)->X.gH.heap.FunFrames X.zn l->s.heap.FunFrames X.zn l:=by
  intro l
  induction l with
  |nil=>intro _ _;trivial
  |cons env r bP =>
   intro hs aC;obtain⟨hk,⟨L,o,aD,bj,aK,hd⟩,au⟩:=aC;have i1:L∈X.fs:=hs L (by unfold ow;rw[List.filterMap_cons,aD];exact g0);obtain⟨eY,e⟩:=ae.zn.slot L o aK (ae.ok.tx L i1) i1 fun z=>ae.ok.yR L z i1;exact⟨hk,⟨L,_,aD,bj,e,hd⟩,bP (fun b al=>hs b (by unfold ow;rw[List.filterMap_cons,aD];exact d9 _ al)) au⟩
 exact all X.outer (fun _ al=>al) ae.ok.nv
theorem Inv.stack(ae:Inv X ar ab H s):s.heap.FunFrames X.zn X.stack:=by
 rcases ae.ok.z7 with e|⟨e,aD⟩
 .rw[e];exact ae.nv
 ·rw[e];obtain⟨m,bj,_⟩:=ae.loc;refine .cons (by rw[ae.ok.kind];decide) aD bj ?_ ae.nv;exact bR.get?_none_of_le (c5 ae.ok.qR ae.ok.above)
def Inv.En(ae:Inv X ar ab H s):∀b∈ow X.stack,b∈X.env.locals::X.fs:=fun b al=>by
 rcases ae.ok.z7 with e|⟨e,aD⟩
 .rw[e]at al;exact d9 _ al
 ·rw[e]at al;unfold ow at al;rw[List.filterMap_cons,aD]at al;exact al
def Inv.RE(ae:Inv X ar ab H s):∀b∈ow X.stack,H b=aA:=fun b al=>by
 rcases dJ.mp (ae.En b al)with e|al
 .rw[e];exact ae.free
 ·obtain⟨_,o,aK,_⟩:=ae.ok.nv.mem al;exact ae.zn.free b o aK (ae.ok.tx b al) fun z=>ae.ok.yR b z al
def Inv.step(ae:Inv X ar ab H s)
  (m3:∀b∈ch,(b∈X.ex\/X.gH.heap.objs.size<=b)/\b≠X.env.locals/\(∀x c,X.env.cells.lookup x=J c->c≠b)/\∀p∈X.pn++ar,p.1≠b)
  (keep:∀b o,b≠X.env.locals->b∉X.fs->b∉ch->s.heap.get? b=J o->H b=aA->h'.get? b=J o)
  (slot:∀b o,b≠X.env.locals->b∈X.fs->b∉ch->s.heap.get? b=J o->H b=aA->∃eY,h'.get? b=J {o with slots:=eY}) (free:∀b o,b∉ch->s.heap.get? b=J o->H b=aA->H' b=aA)
  (there:∀b o,b∉ch->s.heap.get? b=J o->∃o',h'.get? b=J o')
  (rr:∀b xs,H b=J (.tup xs)->H' b=J (.tup xs)) (pU:∀b o u,H b=J (.j0 o u)->H' b=J (.j0 o u)) (rq:∀b aJ,H b=J (.t4 aJ)->∃more,H' b=J (.t4 (aJ++more)))
  (ns:∀m,s.heap.Ns X.env.locals m->h'.Ns X.env.locals m) (aF:hE X.prog X.w H' h') (bh:AllBare g') :
  Inv X ar ab H' {s with heap:=h',gens:=g',drawn:=d',toks:=t'}:=by
 have PC:∀b o,X.gH.heap.get? b=J o->b≠X.env.locals:=fun b o e=>hU (fz (fI e) ae.ok.above)
 have DU:∀b o,X.gH.heap.get? b=J o->b∉X.ex->b∉ch:=fun b o e av al=>by
  rcases(m3 b al).1 with z|z
  .exact av z
  .exact absurd (fz (fI e) z) (Nat.lt_irrefl _)
 have cellK:∀x c,X.env.cells.lookup x=J c->∀v,s.heap.IsCell c v->h'.IsCell c v:=fun x c e v ⟨o,aK,hd⟩=>by
  have qf:c∉ch:=fun z=>(m3 c z).2.2.1 x c e rfl;by_cases hc:c∈X.fs
  ·obtain⟨eY,q⟩:=slot c o (ae.uR x c e) hc qf aK (ae.ov x c e);exact⟨_,q,hd⟩
  .exact⟨o,keep c o (ae.uR x c e) hc qf aK (ae.ov x c e),hd⟩
 refine⟨ae.ok,ae.os,bh,⟨fun b o e n al av=>?_,fun b o e n al av=>?_,fun b o e n av=>?_,fun b o e av=>?_,fun b xs e=>rr b xs (ae.zn.rr b xs e),fun b o xs e=>pU b o xs (ae.zn.pU b o xs e),fun b aJ e=>?_⟩,?_,fun x c e=>?_,?_,fun x c e=>?_,fun p aX=>?_,aF,ae.len⟩
 .exact keep b o (PC b o e) al (DU b o e av) (ae.zn.keep b o e n al av) (ae.zn.free b o e n av)
 ·obtain⟨eY,aQ⟩:=ae.zn.slot b o e n al av;obtain⟨aiN,aR⟩:=slot b _ (PC b o e) al (DU b o e av) aQ (ae.zn.free b o e n av);exact⟨aiN,aR⟩
 ·obtain⟨o',aQ⟩:=ae.zn.there b o e av;exact free b o' (DU b o e av) aQ (ae.zn.free b o e n av)
 ·obtain⟨o',aQ⟩:=ae.zn.there b o e av;exact there b o' (DU b o e av) aQ
 ·obtain⟨dk,aQ⟩:=ae.zn.rq b aJ e;obtain⟨gu,aR⟩:=rq b _ aQ;exact⟨dk++gu,by rw[aR,Array.append_assoc]⟩
 ·obtain⟨m,bj,aC⟩:=ae.loc;refine⟨m,ns m bj,fun i x v aQ aR gn=>?_⟩;obtain⟨u,r,l⟩:=aC i x v aQ aR gn;refine⟨u,r,?_⟩;rcases l with l|⟨k,c,e,z⟩
  .exact .inl l
  .exact .inr ⟨k,c,e,cellK x c e _ z⟩
 ·obtain⟨v,z⟩:=ae.cell x c e;exact⟨v,cellK x c e v z⟩
 ·obtain⟨m,⟨o,_,_,aK,_⟩,_⟩:=ae.loc;exact free _ o (fun z=>(m3 _ z).2.1 I) aK ae.free
 ·obtain⟨v,o,aK,hd⟩:=ae.cell x c e;exact free c o (fun z=>(m3 c z).2.2.1 x c e I) aK (ae.ov x c e)
 ·obtain⟨e,n,ne,xn,d⟩:=ae.pin p aX;have qf:p.1∉ch:=fun z=>(m3 p.1 z).2.2.2 p aX rfl;exact⟨keep p.1 p.2 ne xn qf e n,free p.1 p.2 qf e n,ne,xn,d⟩
def Inv.un(ae:Inv X ar ab H s)(u:hV X.fs [] H H' s.heap h')(aF:hE X.prog X.w H' h'):Inv X ar ab H' {s with heap:=h',toks:=t'}:=by
 obtain⟨m,⟨o,aZ,hi,aK,r⟩,_⟩:=id ae.loc;obtain⟨eY,i1⟩:=u.any aK ae.free (by simp)
 exact ae.step (g':=s.gens) (d':=s.drawn) (ch:=[]) (fun _ z=>nomatch z) (fun b o _ al _ e n=>u.keep b o e n al (by simp)) (fun b o _ al _ e n=>u.slot b o e n al (by simp)) (fun b o _ e n=>u.free b o e n (by simp)) (fun b o _ e=>u.there b o e (by simp)) u.rr u.pU u.rq (fun b6 hm=>by
  obtain⟨o',yQ,HG,lh,ey⟩:=hm;rw[aK]at lh;cases lh
  exact⟨_,yQ,HG,i1,ey⟩) aF ae.bare
def Inv.call(ae:Inv X ar ab H s)(u:hV (ow X.stack) ch H H' s.heap h')(aF:hE X.prog X.w H' h')(bh:AllBare g')
  (m3:∀b∈ch,(b∈X.ex\/X.gH.heap.objs.size<=b)/\b≠X.env.locals/\(∀x c,X.env.cells.lookup x=J c->c≠b)/\∀p∈X.pn++ar,p.1≠b) :
  Inv X ar ab H' {s with heap:=h',gens:=g',drawn:=d',toks:=t'}:=by
 obtain⟨m,⟨o,aZ,hi,aK,r⟩,_⟩:=id ae.loc;obtain⟨eY,i1⟩:=u.any aK ae.free fun z=>(m3 _ z).2.1 rfl
 exact ae.step (ch:=ch) m3 (fun b o i1 al hc e n=>u.keep b o e n (fun z=>(dJ.mp (ae.En b z)).elim i1 al) hc) (fun b o _ _ hc e n=>u.any e n hc) (fun b o hc e n=>u.free b o e n hc) (fun b o hc e=>u.there b o e hc) u.rr u.pU u.rq (fun b6 hm=>by
  obtain⟨o',yQ,HG,lh,ey⟩:=hm;rw[aK]at lh;cases lh
  exact⟨_,yQ,HG,i1,ey⟩) aF bh
def Inv.turned(ae:Inv X ar ab H s)(k:∀b o,b≠it->s.heap.get? b=J o->h'.get? b=J o)(bj:H it=aA)(i1:it≠X.env.locals)
  (ai:it∈X.ex\/X.gH.heap.objs.size<=it) (aj:∀x c,X.env.cells.lookup x=J c->c≠it) (bt:∀p∈X.pn++ar,p.1≠it):Inv X ar ab H {s with heap:=h',toks:=t'}:=by
 have PD:∀b u,H b=J u->b≠it:=fun b u e z=>by rw[z,bj]at e;cases e
 refine ae.step (g':=s.gens) (d':=s.drawn) (ch:=[it]) (fun b al=>?_) (fun b o _ _ hc e _=>k b o (fun z=>hc (by simp[z])) e) (fun b o _ _ hc e _=>⟨o.slots,k b o (fun z=>hc (by simp[z])) e⟩) (fun _ _ _ _ n=>n)
  (fun b o hc e=>⟨o,k b o (fun z=>hc (by simp[z])) e⟩) (fun _ _ e=>e) (fun _ _ _ e=>e) (fun b aJ e=>⟨#[],by rw[e];simp⟩) (fun m hm=>?_) (fun b u e=>?_) ae.bare
 ·have e:b=it:=by simpa using al
  subst e;exact⟨ai,i1,aj,bt⟩
 ·obtain⟨o,aZ,hi,aK,r⟩:=hm;exact⟨o,aZ,hi,k _ o (fJ i1) aK,r⟩
 ·refine(ae.aF b u e).vA (fun c v hc q=>k c v ?_ q) (fun _ q=>q) fun _ _ q=>q;rcases hc with z|z
  .rw[z];exact PD b u e
  .exact PD c _ z
def Inv.tok(ae:Inv X ar ab H s)(t:Nat):Inv X ar ab H {s with toks:=t}:=ae.un (h':=s.heap) (t':=t) hV.refl ae.aF
theorem Inv.kept(ae:Inv X ar ab H s)(k:∀b u,s.heap.get? b=J u->h'.get? b=J u):Inv X ar ab H {s with heap:=h',toks:=t'}:=ae.un (hV.kept k) (ae.aF.kept k)
theorem Inv.laid{o:de}(ae:Inv X ar ab H s)(k:∀b u,s.heap.get? b=J u->h'.get? b=J u)(aX:s.heap.objs.size<=a)(new:iJ X.prog X.w (upd H a o) h' a o):
  Inv X ar ab (upd H a o) {s with heap:=h',toks:=t'}:=ae.un (hV.laid k aX (ae.aF.fresh aX)) (ae.aF.laid k aX new)
theorem Inv.write{x e:ag}{o:de}(ae:Inv X ar ab H s)(oP:AV (H x))(he:e=x\/H e=J (.own x))(k:∀b u,b≠e->s.heap.get? b=J u->h'.get? b=J u)(w3:∃u,h'.get? e=J u)
  (new:iJ X.prog X.w (upd H x o) h' x o):Inv X ar ab (upd H x o) {s with heap:=h',toks:=t'}:=ae.un (hV.write oP he k w3) (ae.aF.write oP he k w3 new)
def Inv.PS{zR:List (ag×cE)}(ae:Inv X ar ab H s)(h:∀p∈zR,s.heap.get? p.1=J p.2/\H p.1=aA/\p.1≠X.env.locals/\p.1∉X.fs/\∀v,p.2.data≠.cell v):Inv X zR ab H s :=
 ⟨ae.ok,ae.os,ae.bare,ae.zn,ae.loc,ae.cell,ae.free,ae.ov,fun p aX=>(List.mem_append.mp aX).elim (fun z=>ae.pin p (List.mem_append_left _ z)) (h p),ae.aF,ae.len⟩
def MN(fV:N.Nodup)(a:N[i]?=J x)(b:N[j]?=J x):i=j:=by
 obtain⟨ai,aQ⟩:=kE.mp a;obtain⟨aj,aR⟩:=kE.mp b;exact(List.getElem_inj fV).mp (aQ.trans aR.symm)
def L1{v:V}(ae:Inv X ar ab H s)(fV:X.N.Nodup)(aG:X.N[i]?=J x)(av:Loc X.env.scope x)(r:RelV v u)
  (h:∀bw,Inv X ar (ab.set i (J v)) H bw->(∃a,bR.SameBut a s.heap bw.heap/\(a=X.env.locals\/X.env.cells.lookup x=J a))->Q () bw) (aD:xv (X.fn x=ao\/X.env.scope.names.lookup x=J .local) xw):cc M A (storeName X.env x u) Q E s:=by
 obtain⟨m,bj,aC⟩:=id ae.loc;have ac4:(X.env.scope.kind ==.class||(X.env.scope.kind ==.module&&X.env.locals != X.env.globals))=aI:=by rw[ae.ok.kind];rfl
 have OO:i<ab.length:=by rw[ae.len];exact(kE.mp aG).1
 have uR:=ae.uR
 have tracked:∀{a:ag}{h':bR},(∃o,s.heap.get? a=J o/\H a=aA)->bR.SameBut a s.heap h'->hE X.prog X.w H h':=fun{a h'}aN hs b eG e=>by
  obtain⟨_,_,y9⟩:=aN;refine(ae.aF b eG e).vA (fun c nN hc q=>(hs.2 c ?_).trans q) (fun _ q=>q) fun _ _ q=>q;rintro rfl;rcases hc with rfl|hc
  .rw[y9]at e;cases e
  .rw[y9]at hc;cases hc
 rcases av with hk|hk
 ·refine wpAny_storeName_local hk bj (fun h' adD hs=>?_) ac4;obtain⟨afB,_,_,adJ,_⟩:=id bj;refine h _ ⟨ae.ok,ae.os,ae.bare,⟨fun b o e n al av=>?_,fun b o e n al av=>?_,ae.zn.free,fun b o e av=>?_,ae.zn.rr,ae.zn.pU,ae.zn.rq⟩,⟨_,adD,fun j y qt aQ aR gn=>?_⟩,fun y c e=>?_,ae.free,ae.ov,fun p aX=>?_,tracked ⟨afB,adJ,ae.free⟩ hs,by simpa using ae.len⟩ ⟨_,hs,.inl rfl⟩
  .exact(hs.2 b (hU (fz (fI e) ae.ok.above))).trans (ae.zn.keep b o e n al av)
  ·obtain⟨eY,aQ⟩:=ae.zn.slot b o e n al av;exact⟨eY,(hs.2 b (hU (fz (fI e) ae.ok.above))).trans aQ⟩
  ·obtain⟨o',aQ⟩:=ae.zn.there b o e av;exact⟨o',(hs.2 b (hU (fz (fI e) ae.ok.above))).trans aQ⟩
  ·by_cases cj:j=i
   ·subst cj;rw[aG]at aQ;cases aQ;rw[List.getElem?_set_self OO]at aR;cases aR;exact⟨u,r,.inl ⟨hk,by simp⟩⟩
   ·rw[List.getElem?_set_ne (fJ cj)]at aR;obtain⟨u',ey,q⟩:=aC j y qt aQ aR gn;refine⟨u',ey,?_⟩;rcases q with⟨k,e⟩|⟨k,c,e,z⟩
    ·refine .inl ⟨k,?_⟩;have:y≠x:=fun e=>cj (MN fV aQ (e ▸ aG));simp[this,e]
    .exact .inr ⟨k,c,e,z.sameBut hs (uR y c e)⟩
  ·obtain⟨nN,z⟩:=ae.cell y c e;exact⟨nN,z.sameBut hs (uR y c e)⟩
  ·obtain⟨e,n,ne,xn,d⟩:=ae.pin p aX;exact⟨(hs.2 p.1 ne).trans e,n,ne,xn,d⟩
 ·have Ig:X.fn x=ao:=by
   rcases aD with z|z
   .exact z
   .rw[z]at hk;cases hk
  obtain⟨c,hc⟩:=ae.ok.has x (.inl hk);obtain⟨nN,z⟩:=ae.cell x c hc;refine wpAny_storeName_cell ae.ok.kind hk hc z (fun h' js hs=>?_);obtain⟨jv,DG,Iz⟩:=id z;refine h {s with heap:=h'} ⟨ae.ok,ae.os,ae.bare,⟨fun b o e n al av=>?_,fun b o e n al av=>?_,ae.zn.free,fun b o e av=>?_,ae.zn.rr,ae.zn.pU,ae.zn.rq⟩,⟨m,bj.sameBut hs (fJ (uR x c hc)),fun j y qt aQ aR gn=>?_⟩,fun y ij e=>?_,ae.free,ae.ov,fun p aX=>?_,tracked ⟨jv,DG,ae.ov x c hc⟩ hs,by simpa using ae.len⟩ ⟨c,hs,.inr hc⟩
  .exact(hs.2 b (hU (fz (fI e) (ae.ok.wD x c Ig hc)))).trans (ae.zn.keep b o e n al av)
  ·obtain⟨eY,aQ⟩:=ae.zn.slot b o e n al av;exact⟨eY,(hs.2 b (hU (fz (fI e) (ae.ok.wD x c Ig hc)))).trans aQ⟩
  ·obtain⟨o',aQ⟩:=ae.zn.there b o e av;exact⟨o',(hs.2 b (hU (fz (fI e) (ae.ok.wD x c Ig hc)))).trans aQ⟩
  ·by_cases cj:j=i
   ·subst cj;rw[aG]at aQ;cases aQ;rw[List.getElem?_set_self OO]at aR;cases aR;exact⟨u,r,.inr ⟨.inl hk,c,hc,js⟩⟩
   ·rw[List.getElem?_set_ne (fJ cj)]at aR;obtain⟨u',ey,q⟩:=aC j y qt aQ aR gn;refine⟨u',ey,?_⟩;rcases q with q|⟨k,ij,e,qv⟩
    .exact .inl q
    ·refine .inr ⟨k,ij,e,qv.sameBut hs ?_⟩;rintro rfl;exact cj (MN fV aQ (ae.ok.inj _ _ _ e hc ▸ aG))
  ·by_cases Dx:ij=c
   .subst Dx;exact⟨_,js⟩
   ·obtain⟨k1,d2⟩:=ae.cell y ij e;exact⟨k1,d2.sameBut hs Dx⟩
  ·obtain⟨e,n,ne,xn,d⟩:=ae.pin p aX;refine⟨(hs.2 p.1 ?_).trans e,n,ne,xn,d⟩;intro q;rw[q,DG]at e;have j4:jv=p.2:=ie e;exact d nN (by rw[<-j4];exact Iz)
def MF{v:V}(ae:Inv X ar ab H s)(fV:X.N.Nodup)(aG:X.N[i]?=J x)(av:Loc X.env.scope x)(r:RelV v u)
  (h:∀bw,Inv X ar (ab.set i (J v)) H bw->Q () bw) (aD:xv (X.fn x=ao\/X.env.scope.names.lookup x=J .local) xw):cc M A (storeName X.env x u) Q E s :=
 L1 ae fV aG av r (fun bw jj _=>h bw jj) aD
def Inv.aaP(ae:Inv X ar ab H s)(aK:bw.os=s.os)(u:hV (ow X.stack) ch H H' s.heap bw.heap)(aF:hE X.prog X.w H' bw.heap)(bh:AllBare bw.gens)
  (m3:∀b∈ch,(b∈X.ex\/X.gH.heap.objs.size<=b)/\b≠X.env.locals/\(∀x c,X.env.cells.lookup x=J c->c≠b)/\∀p∈X.pn++ar,p.1≠b):Inv X ar ab H' bw:=by
 obtain⟨h',g',d',t',o'⟩:=bw;have e:o'=s.os:=aK;subst e;exact ae.call (g':=g') (t':=t') (d':=d') u aF bh m3
end
noncomputable abbrev cP:=ax->Option ag->aq->Prop
noncomputable abbrev St:=List (Option V)
noncomputable abbrev bI:=V->aq->Prop
noncomputable abbrev TE:=St->aq->bI->Prop
noncomputable abbrev ic:=St->aq->(Bool->aq->Prop)->Prop
noncomputable abbrev iL:=St->aq->(List V->aq->Prop)->Prop
structure Ends where
 nx:St->aq->Prop
 rt:bI
 bk:St->aq->Prop:=fun _ _=>False
 ct:St->aq->Prop:=fun _ _=>False
noncomputable abbrev gk:=Ends->St->aq->Prop
def ja(X:bS)(ar:List (ag×cE))(ab:St)(Q:bI)(u:ax)(bw:aT):Prop:=∃v H',Inv X ar ab H' bw/\RelV v u/\Q v H'
def A8(X:bS)(ar:List (ag×cE))(ab:St)(Q:Bool->aq->Prop)(b:Bool)(bw:aT):Prop:=∃H',Inv X ar ab H' bw/\Q b H'
def RZ(X:bS)(ar:List (ag×cE))(ab:St)(Q:List V->aq->Prop)(us:List ax)(bw:aT):Prop:=∃vs H',Inv X ar ab H' bw/\Vals vs us/\Q vs H'
def wb(X:bS)(ar:List (ag×cE))(D:Ends)(f:Flow)(bw:aT):Prop :=
 match f with
 |.next=>∃cb H',Inv X ar cb H' bw/\D.nx cb H'
 |.brk=>∃cb H',Inv X ar cb H' bw/\D.bk cb H'
 |.cont=>∃cb H',Inv X ar cb H' bw/\D.ct cb H'
 |.ret u=>∃v cb H',Inv X ar cb H' bw/\RelV v u/\D.rt v H'
def cF(X:bS)(e:c3)(t:TE):Prop :=
 ∀(ar:List (ag×cE))(s:aT)(ab:St)(H:aq)(Q:bI),Inv X ar ab H s->t ab H Q->cc (model X.prog X.w) X.A (eval e X.env) (ja X ar ab Q) X.xe s
def mb(X:bS)(e:c3)(t:ic):Prop :=
 ∀(ar:List (ag×cE))(s:aT)(ab:St)(H:aq)(Q:Bool->aq->Prop),Inv X ar ab H s->t ab H Q->cc (model X.prog X.w) X.A (isTrue e X.env (eval e X.env)) (A8 X ar ab Q) X.xe s
def gA(X:bS)(e:c3)(t:ic):Prop :=
 ∀(whole:Sem ax)(ar:List (ag×cE))(s:aT)(ab:St)(H:aq)(Q:Bool->aq->Prop),Inv X ar ab H s->t ab H Q->cc (model X.prog X.w) X.A (isTrue e X.env whole) (A8 X ar ab Q) X.xe s
variable {X:bS}
def gA.pt{t:ic}(h:gA X e t):mb X e t:=h _
def jl(X:bS)(aZ:List c3)(t:iL):Prop :=
 ∀(bc:Pos)(ar:List (ag×cE))(s:aT)(ab:St)(H:aq)(Q:List V->aq->Prop),Inv X ar ab H s->t ab H Q->cc (model X.prog X.w) X.A (spliced (backTo bc (eI aZ X.env))) (RZ X ar ab Q) X.xe s
def lC(X:bS)(st:bo)(t:gk):Prop :=
 ∀(ar:List (ag×cE))(s:aT)(ab:St)(H:aq)(D:Ends),Inv X ar ab H s->t D ab H->cc (model X.prog X.w) X.A (exec st X.env) (wb X ar D) X.xe s
def jE(X:bS)(st:List bo)(t:gk):Prop :=
 ∀(ar:List (ag×cE))(s:aT)(ab:St)(H:aq)(D:Ends),Inv X ar ab H s->t D ab H->cc (model X.prog X.w) X.A (execs st X.env) (wb X ar D) X.xe s
def dg{t:Sem α}{Q rP:α->aT->Prop}(h:cc M A t Q E s)(gQ:∀a s,Q a s->rP a s):cc M A t rP E s:=nc h gQ fun _ _ x=>x
variable {c:c3}
section
variable {X:bS}
inductive Kr(o:Option (Option V))(Q:V->Prop):Prop where
 |mk (v:V) (e:o=J (J v)) (h:Q v):Kr o Q
def Et(i:Nat):TE:=fun ab H Q=>Kr ab[i]? fun v=>Q v H
def rp(v:V):TE:=fun _ H Q=>Q v H
def Wb(fV:X.N[i]?=J x)(cV:Bf X.env.scope x)(hd:xv ((x == ("__debug__":aa))=aI) yc)(pZ:xv ((x == ("__classdict__":aa))=aI) yc):cF X (.Name x bc) (Et i):=by
 intro ar s ab H Q ae h;obtain⟨v,e,h⟩:=h;obtain⟨m,bj,aC⟩:=ae.loc;obtain⟨u,r,l⟩:=aC i x v fV e cV;have dG:ja X ar ab Q u s:=⟨v,H,ae,r,h⟩;rcases l with⟨hk,hm⟩|⟨hk,c,hc,OG⟩
 .exact wpAny_Name (wpAny_loadName_local ae.ok.kind hk bj hm dG) hd
 ·rcases hk with hk|hk
  .exact wpAny_Name (wpAny_loadName_cell ae.ok.kind hk hc OG dG) hd
  .exact wpAny_Name (wpAny_loadName_free ae.ok.kind hk hc OG dG pZ) hd
def aH{i j bc}:cF X (.Constant (.int i) j bc) (rp (.int i)):=fun _ _ _ H _ ae h=>wpAny_Constant_int ⟨.int i,H,ae.tok _,⟨_,rfl⟩,h⟩
def iY{b j bc}:cF X (.Constant (.bool b) j bc) (rp (.aS b)):=fun _ _ _ H _ ae h=>Constant_bool ⟨.aS b,H,ae,rfl,h⟩
def yE{j bc}:cF X (.Constant .none j bc) (rp .bM):=fun _ _ _ H _ ae h=>Constant_none ⟨.bM,H,ae,rfl,h⟩
def bu{x j bc}:cF X (.Constant (.str x) j bc) (rp (.str x)):=fun _ _ _ H _ ae h=>Calls.Constant_str ⟨.str x,H,ae.tok _,⟨_,rfl⟩,h⟩
def jU(X:bS)(x:aa):Prop:=X.env.kindOf x=J .globalImplicit
def CT{ab:St}{Q:ax->aT->Prop}(ae:Inv X ar ab H s)(bh:jU X x)(hm:X.mg x=J u)(h:Q u s)
  (hd:xv ((x == ("__debug__":aa))=aI) yc):cc (model X.prog X.w) X.A (eval (.Name x bc) X.env) Q E s :=
 Calls.Name_function_global ae.ok.kind bh (Calls.loadGlobal_global (by rw[ae.ok.glob];exact ae.mod.glob.keeps ae.bk) hm h) hd
def pI{ab:St}{Q:ax->aT->Prop}(ae:Inv X ar ab H s)(bh:jU X x)(hm:X.mg x=aA)(cV:kv x=J u)(h:Q u s)
  (bj:xv (x≠"__name__") yc) (hd:xv ((x == ("__debug__":aa))=aI) yc):cc (model X.prog X.w) X.A (eval (.Name x bc) X.env) Q E s:=by
 obtain⟨oN,ai,aj⟩:=ae.mod.blt;exact Calls.Name_function_global ae.ok.kind bh (Calls.loadGlobal_builtin (by rw[ae.ok.glob];exact ae.mod.glob.keeps ae.bk) hm (by rw[ae.ok.blt];exact ai.keeps ae.bk) ((aj x bj).trans cV) h) hd
def Vx{v:V}(bh:jU X x)(hm:X.mg x=J u)(r:RelV v u)(hd:xv ((x == ("__debug__":aa))=aI) yc):cF X (.Name x bc) (rp v) :=
 fun _ _ _ H _ ae h=>CT ae bh hm ⟨v,H,ae,r,h⟩ hd
def pG{v:V}(bh:jU X x)(hm:X.mg x=aA)(cV:kv x=J u)(r:RelV v u)(bj:xv (x≠"__name__") yc)(hd:xv ((x == ("__debug__":aa))=aI) yc):cF X (.Name x bc) (rp v) :=
 fun _ _ _ H _ ae h=>pI ae bh hm cV ⟨v,H,ae,r,h⟩ bj hd
variable {a b:c3} {cN dO:TE} {bc:Pos}
def Tf(X:bS)(op:CmpOp)(a b:c3)(t:TE):Prop :=
 ∀(ar:List (ag×cE))(s:aT)(ab:St)(H:aq)(Q:bI),Inv X ar ab H s->t ab H Q->
  cc (model X.prog X.w) X.A (eval a X.env) (fun v eD=>cc (model X.prog X.w) X.A (eval b X.env) (fun u sQ=>cc (model X.prog X.w) X.A (h3 op v u) (ja X ar ab Q) X.xe sQ) X.xe eD) X.xe s
variable {oW Eo:ic} {rest:List c3}
def aiW(t u:ic):ic:=fun ab H Q=>t ab H fun c H1=>if c=ao then u ab H1 Q else Q aI H1
def ajc(t u:ic):ic:=fun ab H Q=>t ab H fun c H1=>if c=ao then Q ao H1 else u ab H1 Q
def ajb(t:ic):ic:=fun ab H Q=>t ab H fun c H1=>Q (!c) H1
def tp(aN:mb X a oW):gA X (.BoolOp .And [a] bc) oW:=by
 intro Aj ar s ab H Q ae h;refine isTrue_and (dg (aN ar s ab H Q ae h) fun c s1 e=>?_);cases c with
 |true=>exact isTrue_and_nil e
 |false=>exact e
def kh(aN:mb X a oW):gA X (.BoolOp .Or [a] bc) oW:=by
 intro Aj ar s ab H Q ae h;refine isTrue_or (dg (aN ar s ab H Q ae h) fun c s1 e=>?_);cases c with
 |false=>exact isTrue_or_nil e
 |true=>exact e
def rX(aN:mb X a oW)(al:gA X (.BoolOp .And (b::rest) bc) Eo):gA X (.BoolOp .And (a::b::rest) bc) (aiW oW Eo):=by
 intro Aj ar s ab H Q ae h;refine isTrue_and (dg (aN ar s ab H _ ae h) fun c s1 b3=>?_);obtain⟨H1,bC,cn⟩:=b3;cases c with
 |true=>exact al Aj ar s1 ab H1 Q bC cn
 |false=>exact⟨H1,bC,cn⟩
def jD(aN:mb X a oW)(al:gA X (.BoolOp .Or (b::rest) bc) Eo):gA X (.BoolOp .Or (a::b::rest) bc) (ajc oW Eo):=by
 intro Aj ar s ab H Q ae h;refine isTrue_or (dg (aN ar s ab H _ ae h) fun c s1 b3=>?_);obtain⟨H1,bC,cn⟩:=b3;cases c with
 |true=>exact⟨H1,bC,cn⟩
 |false=>exact al Aj ar s1 ab H1 Q bC cn
def jI(aN:mb X a oW):mb X (.UnaryOp .Not a bc) (ajb oW):=by
 intro ar s ab H Q ae h;exact isTrue_not (aN ar s ab H (fun c H1=>Q (!c) H1) ae h)
def aiX(cN dO:TE):TE:=fun ab H Q=>cN ab H fun x H1=>∃c,x=.aS c/\if c=ao then dO ab H1 Q else Q (.aS aI) H1
def ajd(cN dO:TE):TE:=fun ab H Q=>cN ab H fun x H1=>∃c,x=.aS c/\if c=ao then Q (.aS ao) H1 else dO ab H1 Q
def md{op}{t:TE}(h:cF X a t):cF X (.BoolOp op [a] bc) t:=fun ar s ab H Q ae hw=>BoolOp_one (h ar s ab H Q ae hw)
def k9(aN:cF X a cN)(al:cF X (.BoolOp .And (b::rest) bc) dO):cF X (.BoolOp .And (a::b::rest) bc) (aiX cN dO):=by
 intro ar s ab H Q ae h;refine BoolOp_and (dg (aN ar s ab H _ ae h) fun v s1 b3=>?_);obtain⟨x,H1,bC,b9,cn⟩:=b3;obtain⟨c,rfl,cn⟩:=cn;cases b9;refine An ?_;cases c with
 |true=>exact al ar s1 ab H1 Q bC cn
 |false=>exact⟨.aS aI,H1,bC,I,cn⟩
def K5(aN:cF X a cN)(al:cF X (.BoolOp .Or (b::rest) bc) dO):cF X (.BoolOp .Or (a::b::rest) bc) (ajd cN dO):=by
 intro ar s ab H Q ae h;refine BoolOp_or (dg (aN ar s ab H _ ae h) fun v s1 b3=>?_);obtain⟨x,H1,bC,b9,cn⟩:=b3;obtain⟨c,rfl,cn⟩:=cn;cases b9;refine An ?_;cases c with
 |false=>exact al ar s1 ab H1 Q bC cn
 |true=>exact⟨.aS ao,H1,bC,I,cn⟩
def ai5(t:ic)(cN dO:TE):TE:=fun ab H Q=>t ab H fun c H1=>if c=ao then cN ab H1 Q else dO ab H1 Q
def oe(hc:mb X c oW)(aN:cF X a cN)(al:cF X b dO):cF X (.IfExp c a b bc) (ai5 oW cN dO):=by
 intro ar s ab H Q ae h;refine wpAny_IfExp (dg (hc ar s ab H _ ae h) fun d s1 b3=>?_);obtain⟨H1,bC,cn⟩:=b3;cases d with
 |true=>exact aN ar s1 ab H1 Q bC cn
 |false=>exact al ar s1 ab H1 Q bC cn
end
def c4(K:bT)(H:aq)(a:ag)(xs:List V):Prop :=
 oa H a (.lst xs)\/
  ∃(o:cE)(aV:Array ax)(n:Nat),K.lookup a=J o/\o.cls=.type "list"/\o.dict=aA/\o.data=.seq aV n/\aV.size<=cp/\Vals xs aV.toList
def hS(K:bT)(H:aq)(a:ag)(xs:List V):Prop :=
 oa H a (.tup xs)\/
  ∃(o:cE)(aV:Array ax)(n:Nat),K.lookup a=J o/\o.cls=.type "tuple"/\o.data=.seq aV n/\aV.size<=cp/\Vals xs aV.toList
noncomputable def aaG:ax->Option V
 |.none=>J .bM
 |.bool b=>J (.aS b)
 |.int i _=>J (.int i)
 |.str x _=>J (.str x)
 |.bytes b _=>J (.lL b)
 |.float b _=>J (.uU b)
 |.ref a=>J (.ref a)
 |.type n=>J (.ty n)
 |_=>aA
def RelV.abs{x:V}(r:RelV x u):aaG u=J x:=by
 cases x with
 |bM=>cases r;rfl
 |aS _=>cases r;rfl
 |int _=>obtain⟨t,rfl⟩:=r;rfl
 |str _=>obtain⟨t,rfl⟩:=r;rfl
 |lL _=>obtain⟨t,rfl⟩:=r;rfl
 |uU _=>obtain⟨t,rfl⟩:=r;rfl
 |ref _=>cases r;rfl
 |ty _=>cases r;rfl
variable {y:V}
def RelV.inj{x:V}(r:RelV x u)(q:RelV y u):x=y:=ie (r.abs.symm.trans q.abs)
theorem Vals.inj:∀{xs aw:List V}{us:List ax},Vals xs us->Vals aw us->xs=aw
 |_,_,_,.nil,.nil=>rfl
 |_,_,_,.cons r t,.cons ey t'=>by rw[r.inj ey,Vals.inj t t']
section
variable {X:bS} {ar:List (ag×cE)} {ab:St} {H:aq} {s:aT} {a:ag} {xs aw:List V}
def c4.of(h:H a=J (.lst xs)):c4 K H a xs :=.inl (.inl h)
def hS.of(h:H a=J (.tup xs)):hS K H a xs :=.inl (.inl h)
def Inv.list(ae:Inv X ar ab H s)(h:c4 X.K H a xs):∃aV:List ax,Vals xs aV/\PlainL s.heap a aV.toArray/\xs.length<=cp:=by
 rcases h with h|⟨o,aV,n,hk,hc,hd,hs,bX,r⟩
 ·obtain⟨z,aV,n,r,e⟩:=h.ok ae.aF;exact⟨aV,r,⟨_,n,e,I,I,I⟩,z⟩
 ·refine⟨aV.toList,r,⟨o,n,ae.h2 a o hk,hc,hd,by simpa using hs⟩,?_⟩;have e:=r.length;simp only[fA]at e;lia
def Inv.tuple(ae:Inv X ar ab H s)(h:hS X.K H a xs):∃aV:List ax,Vals xs aV/\IsTup s.heap a aV.toArray/\xs.length<=cp:=by
 rcases h with h|⟨o,aV,n,hk,hc,hs,bX,r⟩
 ·obtain⟨z,aV,r,p⟩:=h.ok ae.aF;exact⟨aV,r,p,z⟩
 ·refine⟨aV.toList,r,⟨o,ae.h2 a o hk,hc,n,by simpa using hs⟩,?_⟩;have e:=r.length;simp only[fA]at e;lia
def Inv.aeI(ae:Inv X ar ab H s)(h:c4 X.K H a xs)(h':c4 X.K H a aw):xs=aw:=by
 obtain⟨aV,r,⟨o,n,e,_,_,d⟩,_⟩:=ae.list h;obtain⟨its',ey,⟨o',n',e',_,_,d'⟩,_⟩:=ae.list h';rw[e]at e';cases e';rw[d]at d';injection d' with gO _;have:aV=its':=by simpa using congrArg Array.toList gO
 subst this;exact r.inj ey
end
noncomputable abbrev bS.o4(X:bS)(E:ax->aT->Prop):bS:={X with xe:=E}
noncomputable abbrev bS.sJ(X:bS):bS:=X.o4 fun _ _=>False
theorem bS.Ok.o4(ok:X.Ok)(E:ax->aT->Prop):(X.o4 E).Ok :=
 ⟨ok.mod,ok.kind,ok.glob,ok.blt,ok.above,ok.inj,ok.has,ok.wD,ok.hd,ok.frames,ok.z7,ok.HH,ok.bs,ok.qR,ok.xo,ok.yR,ok.nv,ok.tx⟩
def bS.Ok.oY(ok:(X.o4 E).Ok):X.Ok :=
 ⟨ok.mod,ok.kind,ok.glob,ok.blt,ok.above,ok.inj,ok.has,ok.wD,ok.hd,ok.frames,ok.z7,ok.HH,ok.bs,ok.qR,ok.xo,ok.yR,ok.nv,ok.tx⟩
section
variable {X:bS} {ar:List (ag×cE)} {ab:St} {H:aq} {s:aT} {E:ax->aT->Prop}
theorem Inv.o4(ae:Inv X ar ab H s)(E:ax->aT->Prop):Inv (X.o4 E) ar ab H s:=⟨ae.ok.o4 E,ae.os,ae.bare,ae.zn,ae.loc,ae.cell,ae.free,ae.ov,ae.pin,ae.aF,ae.len⟩
theorem Inv.oY(ae:Inv (X.o4 E) ar ab H s):Inv X ar ab H s:=⟨ae.ok.oY,ae.os,ae.bare,ae.zn,ae.loc,ae.cell,ae.free,ae.ov,ae.pin,ae.aF,ae.len⟩
theorem wb.oY{D:Ends}{f:Flow}(h:wb (X.o4 E) ar D f bw):wb X ar D f bw:=by
 cases f with
 |next=>obtain⟨cb,H',ae,q⟩:=h;exact⟨cb,H',ae.oY,q⟩
 |brk=>obtain⟨cb,H',ae,q⟩:=h;exact⟨cb,H',ae.oY,q⟩
 |cont=>obtain⟨cb,H',ae,q⟩:=h;exact⟨cb,H',ae.oY,q⟩
 |ret u=>obtain⟨v,cb,H',ae,r,q⟩:=h;exact⟨v,cb,H',ae.oY,r,q⟩
theorem jE.sJ{st:List bo}{t:gk}(h:jE X.sJ st t):jE X st t:=fun ar s ab H D ae hw =>
 nc (h ar s ab H D (ae.o4 _) hw) (fun _ _ q=>q.oY) fun _ _ z=>False.elim z
end
section
variable {X:bS} {st:bo} {rest:List bo} {t u:gk} {e:c3} {cT:TE} {bc:Pos}
def Er:gk:=fun D ab H=>D.nx ab H
def Ab(t u:gk):gk:=fun D ab H=>t {D with nx:=u D} ab H
def cm:jE X [] Er:=fun _ _ ab H _ ae h=>wpAny_execs_nil ⟨ab,H,ae,h⟩
def aO(ai:lC X st t)(aj:jE X rest u):jE X (st::rest) (Ab t u):=by
 intro ar s ab H D ae h;refine wpAny_execs_cons (dg (ai ar s ab H {D with nx:=u D} ae h) fun f s1 q=>?_);cases f with
 |next =>
  obtain⟨cb,H',jj,q⟩:=q;exact aj ar s1 cb H' D jj q
 |ret v=>exact q
 |brk=>exact q
 |cont=>exact q
def aL(ai:lC X st t):jE X [st] t:=by
 intro ar s ab H D ae h;refine wpAny_execs_cons (dg (ai ar s ab H D ae h) fun f s1 q=>?_);cases f with
 |next=>exact wpAny_execs_nil q
 |ret v=>exact q
 |brk=>exact q
 |cont=>exact q
def Inv.quiet{ab:St}(ae:Inv X ar ab H s):interactive X.env=aI:=by simp[interactive,ae.ok.kind]
def ai2(cT:TE):gk:=fun D ab H=>cT ab H fun _ H1=>D.nx ab H1
def iz(he:cF X e cT)(hs:xv (swapsWith e aA bc.line X.env=pure aI) z0):lC X (.Expr e bc) (ai2 cT):=by
 intro ar s ab H D ae h;refine wpAny_Expr_any (dg (he ar s ab H _ ae h) fun v s1 b3=>?_) ae.quiet hs;obtain⟨x,H1,bC,b9,cn⟩:=b3;exact ⟨ab,H1,bC,cn⟩
def ajf(cT:TE):gk:=fun D ab H=>cT ab H D.rt
def aY(he:cF X e cT):lC X (.Return (J e) bc) (ajf cT):=by
 intro ar s ab H D ae h;refine wpAny_Return_some (dg (he ar s ab H _ ae h) fun v s1 b3=>?_);obtain⟨x,H1,bC,b9,cn⟩:=b3;exact ⟨x,ab,H1,bC,b9,cn⟩
def JB(c:ic)(t u:gk):gk:=fun D ab H=>c ab H fun b H1=>if b=ao then t D ab H1 else u D ab H1
def cq{a b:List bo}{hQ:ic}(hc:mb X c hQ)(aN:jE X a t)(al:jE X b u):lC X (.If c a b bc) (JB hQ t u):=by
 intro ar s ab H D ae h;refine wpAny_If (dg (hc ar s ab H _ ae h) fun d s1 b3=>?_);obtain⟨H1,bC,cn⟩:=b3;cases d with
 |true=>exact aN ar s1 ab H1 D bC cn
 |false=>exact al ar s1 ab H1 D bC cn
def ai9:gk:=fun _ _ _=>False
def kG:lC X st ai9:=fun _ _ _ _ _ _ h=>h.elim
end
noncomputable abbrev gY:=V->St->aq->(St->aq->Prop)->Prop
noncomputable abbrev uz:=List V->St->aq->(St->aq->Prop)->Prop
def qG(X:bS)(ka:c3)(t:gY):Prop :=
 ∀(ar:List (ag×cE))(s:aT)(ab:St)(H:aq)(v:V)(u:ax)(Q:St->aq->Prop),Inv X ar ab H s->RelV v u->t v ab H Q->
  cc (model X.prog X.w) X.A (assign ka X.env u) (fun _ bw=>∃cb H',Inv X ar cb H' bw/\Q cb H') X.xe s
def xZ(X:bS)(Af:List c3)(t:uz):Prop :=
 ∀(ar:List (ag×cE))(s:aT)(ab:St)(H:aq)(vs:List V)(us:List ax)(Q:St->aq->Prop),Inv X ar ab H s->Vals vs us->t vs ab H Q->
  cc (model X.prog X.w) X.A (assignInOrder ((assignEach Af X.env).map (·.2)) us) (fun _ bw=>∃cb H',Inv X ar cb H' bw/\Q cb H') X.xe s
noncomputable abbrev Fm:=V->V->V->aq->(aq->Prop)->Prop
def Kh(X:bS)(t:Fm):Prop :=
 ∀(ar:List (ag×cE))(s:aT)(ab:St)(H:aq)(o i v:V)(hN sx u:ax)(Q:aq->Prop),Inv X ar ab H s->RelV o hN->RelV i sx->RelV v u->t o i v H Q->
  cc (model X.prog X.w) X.A (setItem hN sx u) (fun _ bw=>∃H',Inv X ar ab H' bw/\Q H') X.xe s
section
variable {X:bS} {bc:Pos}
def r5(i:Nat):gY:=fun v ab H Q=>Q (ab.set i (J v)) H
def d4(fV:X.N.Nodup)(aG:xv (X.N[i]?=J x) z0)(av:xv (Loc X.env.scope x) z1)(aD:xv (X.fn x=ao\/X.env.scope.names.lookup x=J .local) xw):qG X (.Name x bc) (r5 i):=by
 intro ar s ab H v u Q ae r h;exact wpAny_assign_Name (MF ae fV aG av r (fun bw jj=>⟨_,H,jj,h⟩) aD)
def acu:uz:=fun vs ab H Q=>vs=[]/\Q ab H
def acs(t:gY)(u:uz):uz:=fun vs ab H Q=>∃v r,vs=v::r/\t v ab H fun cb H'=>u r cb H' Q
def qN:xZ X [] acu:=by
 intro ar s ab H vs us Q ae r h;obtain⟨e,h⟩:=h;subst e;cases r;exact assignInOrder_nil ⟨ab,H,ae,h⟩
def iZ{t:gY}{u:uz}(ai:qG X e t)(aj:xZ X aZ u)
  (hs:xv ((assignEach (e::aZ) X.env).map (·.2)=assign e X.env::(assignEach aZ X.env).map (·.2)) z0):xZ X (e::aZ) (acs t u):=by
 intro ar s ab H vs us Q ae r h;obtain⟨v,alM,aQ,h⟩:=h;subst aQ;cases r with
 |cons r oT =>
  rw[hs];refine assignInOrder_cons (dg (ai ar s ab H _ _ _ ae r h) fun _ s1 b3=>?_);obtain⟨b0,H1,bC,cn⟩:=b3;exact aj ar s1 b0 H1 _ _ Q bC oT cn
def acw(K:bT)(n:Nat)(t:uz):gY:=fun v ab H Q=>∃a xs,v=.ref a/\hS K H a xs/\xs.length=n/\t xs ab H Q
def qP{t:uz}(hc:X.calm=ao)(h:xZ X aZ t)
  (bj:xv ((assignEach aZ X.env).length=n) z0) (vc:xv ((assignEach aZ X.env).findIdx? (·.1)=aA) z0):qG X (.Tuple aZ k bc) (acw X.K n t):=by
 intro ar s ab H v u Q ae r hw;obtain⟨a,xs,aQ,bl,aC,hw⟩:=hw;subst aQ;cases r;obtain⟨aV,dK,aP,bX⟩:=ae.tuple bl;refine assign_Tuple_tuple (ae.ok.hd hc) aP (by simp[bj,<-aC,dK.length]) vc fun h' av=>?_;have bC:Inv X ar ab H {s with heap:=h'}:=ae.kept (t':=s.toks) fun b o e=>av b o (hU (fI e)) e;exact h ar _ ab H xs _ Q bC (by simpa using dK) hw
def acv(to Eu:TE)(t:Fm):gY:=fun v ab H Q=>to ab H fun o H1=>Eu ab H1 fun i az=>t o i v az fun b5=>Q ab b5
def Wa{o i:c3}{to Eu:TE}{t:Fm}(aK:cF X o to)(aG:cF X i Eu)(hs:Kh X t)
  (aN:xv (∀v,assign (.Subscript o i bc) X.env v=(do
   let hN <-holding [v] (eval o X.env)
   let sx <-holding [v,hN] (eval i X.env)
   standAt bc
   holding [v,hN,sx] (setItem hN sx v)
   release [v,hN,sx] [])) z2):qG X (.Subscript o i bc) (acv to Eu t):=by
 intro ar s ab H v u Q ae r h;rw[aN];refine cO (wpAny_holding (dg (aK ar s ab H _ ae h) fun hN s1 b3=>?_));obtain⟨x,H1,bC,b9,cn⟩:=b3;refine cO (wpAny_holding (dg (aG ar s1 ab H1 _ bC cn) fun sx s2 b3=>?_));obtain⟨y,az,cW,ej,b8⟩:=b3;refine cO (wpAny_standAt (cO (wpAny_holding (dg (hs ar s2 ab az x y v hN sx u _ cW b9 ej r b8) fun _ i6 b3=>?_))));obtain⟨b5,jC,gh⟩:=b3;exact wpAny_release ⟨ab,b5,jC,gh⟩
def z8(cT:TE)(g:gY):gk:=fun D ab H=>cT ab H fun x H1=>g x ab H1 D.nx
def yD{cT:TE}{g:gY}(he:cF X e cT)(bh:qG X e6 g)(hs:xv (swapsWithSole [e6] e bc.line X.env=pure aI) z0)(hw:xv (swappedStores [e6] e X.env=pure aA) z0)
  (ai:xv ((assignEach [e6] X.env).map (·.2)=[assign e6 X.env]) z0):lC X (.Assign [e6] e bc) (z8 cT g):=by
 intro ar s ab H D ae h;refine wpAny_Assign_stores (dg (he ar s ab H _ ae h) fun v s1 b3=>?_) hs hw;obtain⟨x,H1,bC,b9,cn⟩:=b3;rw[ai];exact dg (bh ar s1 ab H1 x v _ bC b9 cn) fun _ s2 q=>q
def V7{cT:TE}(fV:X.N.Nodup)(aG:X.N[i]?=J x)(av:Loc X.env.scope x)(he:cF X e cT)(hs:xv (swapsWith e (J (.Name x pos')) bc.line X.env=pure aI) z0)(aD:xv (X.fn x=ao\/X.env.scope.names.lookup x=J .local) xw):
  lC X (.Assign [.Name x pos'] e bc) (z8 cT (r5 i)):=by
 intro ar s ab H D ae h;refine wpAny_Assign_Name (dg (he ar s ab H _ ae h) fun v s1 b3=>?_) hs;obtain⟨y,H1,bC,b9,cn⟩:=b3;exact MF bC fV aG av b9 (fun s2 cW=>⟨_,H1,cW,cn⟩) aD
end
section
variable {X:bS} {bc:Pos}
def ajj(c:ic)(dO:gk):gk:=fun D ab H=>∃W:Nat->St->aq->Prop,(∃m,W m ab H)/\∀m ab H,W m ab H->
 c ab H fun b H1=>if b=ao then ∃N:St->aq->Prop,(∀cb H',N cb H'->∃b6,b6<m/\W b6 cb H')/\dO {D with nx:=N,ct:=N,bk:=D.nx} ab H1 else D.nx ab H1
def pB{hQ:ic}{dO:gk}(aX:iu (model X.prog X.w) X.A X.env X.xe)(hc:mb X c hQ)(al:jE X body dO):lC X (.While c body [] bc) (ajj hQ dO):=by
 intro ar s ab H D ae h;obtain⟨W,⟨m0,nO⟩,turn⟩:=h;refine wpAny_While (codeAny_whileLoop (fun n bw=>∃cb H',Inv X ar cb H' bw/\W n cb H') ?_ m0 ⟨ab,H,ae,nO⟩);rintro n s1 ⟨b0,H1,bC,t7⟩;refine vK aX (dg (hc ar s1 b0 H1 _ bC (turn n b0 H1 t7)) fun b s2 b3=>?_);obtain⟨az,cW,b8⟩:=b3;cases b with
 | true =>
  obtain⟨N,fV,b8⟩:=b8;rw[if_pos rfl];refine vK aX (dg (al ar s2 b0 az _ cW b8) fun f i6 gh=>?_);cases f with
  |next =>
   obtain⟨l0,b5,jC,zK⟩:=gh;obtain⟨b6,hm,qu⟩:=fV l0 b5 zK;exact⟨b6,hm,l0,b5,jC,qu⟩
  |cont =>
   obtain⟨l0,b5,jC,zK⟩:=gh;obtain⟨b6,hm,qu⟩:=fV l0 b5 zK;exact⟨b6,hm,l0,b5,jC,qu⟩
  |brk=>exact gh
  |ret v=>exact gh
 |false =>
  rw[if_neg ke];exact wpAny_execs_nil ⟨b0,az,cW,b8⟩
end
structure k3 where
 go:Nat->aq->Prop
 rx:Nat->aq->V->aq->Prop
 stop:Nat->aq->Prop
def rE(X:bS)(ar:List (ag×cE))(H:aq)(b:ag):Prop :=
 H b=aA/\b≠X.env.locals/\b∉X.fs/\(b∈X.ex\/X.gH.heap.objs.size<=b)/\(∀x c,X.env.cells.lookup x=J c->c≠b)/\∀p∈X.pn++ar,p.1≠b
def Inv.qV{ab:St}{H':aq}{b:ag}(ae:Inv X ar ab H s)(al:s.heap.objs.size<=b)(bj:H' b=aA):rE X ar H' b:=by
 refine⟨bj,Nat.ne_of_gt (fz ae.lt al),ae.afw al,.inr (c5 ae.dt al),fun x c e z=>?_,fun p aX z=>?_⟩
 ·obtain⟨v,q⟩:=ae.cell x c e;exact absurd (fz q.lt (by rw[z];exact al)) (Nat.lt_irrefl _)
 .exact absurd (fz (fI (ae.pin p aX).1) (by rw[z];exact al)) (Nat.lt_irrefl _)
structure Turn(P:dR)(w:dd)(K:bT)(e6:c3)(eQ:k3)(cu:List ag)(it:ag)(iq:Nat->bR->Prop):Prop where
 mem:it∈cu
 obj:∀i h,iq i h->∀b∈cu,∃o,h.get? b=J o/\∀v,o.data≠.cell v
 keep:∀i h h',iq i h->(∀b∈cu,∀o,h.get? b=J o->h'.get? b=J o)->iq i h'
 item:∀(X:bS),X.prog=P->X.w=w->X.K=K->X.calm=ao->∀(i:Nat)(ar:List (ag×cE))(s:aT)(ab:St)(H:aq)(E:ax->aT->Prop),Inv X ar ab H s->(∀b∈cu,rE X ar H b)->iq i s.heap->eQ.go i H->
  cc (model P w) X.A (pyNext (.ref it)) (fun r s1=>∃u,r=J u/\
   cc (model P w) X.A (letOwnedTupleGo e6 (.ref it) u) (fun _ s2=>∃x H',Inv X ar ab H' s2/\RelV x u/\eQ.rx i H x H'/\iq (i+1) s2.heap/\∀b∈cu,H' b=aA) E s1) E s
 done:∀(X:bS),X.prog=P->X.w=w->X.K=K->X.calm=ao->∀(i:Nat)(ar:List (ag×cE))(s:aT)(ab:St)(H:aq)(E:ax->aT->Prop),Inv X ar ab H s->(∀b∈cu,rE X ar H b)->iq i s.heap->eQ.stop i H->
  cc (model P w) X.A (pyNext (.ref it)) (fun r s1=>r=aA/\Inv X ar ab H s1) E s
 self:∀(A:ee)(i:Nat)(s:aT)(Q:ax->aT->Prop)(E:ax->aT->Prop),iq i s.heap->Q (.ref it) s->cc (model P w) A (pyIter (.ref it)) Q E s
noncomputable abbrev d8:=St->aq->(k3->aq->Prop)->Prop
def Fg(X:bS)(ar:List (ag×cE))(ab:St)(e6:c3)(R:k3->aq->Prop)(IW:ax)(s2:aT):Prop :=
 ∃(it:ag)(cu:List ag)(iq:Nat->bR->Prop)(eQ:k3)(H':aq),IW=.ref it/\Inv X ar ab H' s2/\Turn X.prog X.w X.K e6 eQ cu it iq/\iq 0 s2.heap/\(∀b∈cu,rE X ar H' b)/\R eQ H'
def jV(X:bS)(e6 iter:c3)(jS:d8):Prop :=
 ∀(ar:List (ag×cE))(s:aT)(ab:St)(H:aq)(R:k3->aq->Prop),Inv X ar ab H s->jS ab H R->
  cc (model X.prog X.w) X.A (eval iter X.env) (fun v s1=>cc (model X.prog X.w) X.A (pyIter v) (Fg X ar ab e6 R) X.xe s1) X.xe s
def yG{n:String}{vs:Array ax}(aK:s.heap.get? it=J o)(hc:o.cls=.type n)(hd:o.data=.fields vs)
    (bj:["enumerate","zip","dict_itemiterator","dict_reverseitemiterator","odict_iterator","itertools.zip_longest","itertools.pairwise"].contains n=aI) (gQ:Q () s):cc M A (letOwnedTupleGo e6 (.ref it) u) Q E s:=by
  unfold letOwnedTupleGo
  cases e6<;>first
    |exact e3 gQ
    |(cases u<;>first
        |exact e3 gQ
        | (refine cO (wpAny_load aK ?_)
           rw[hc,hd];show cc M A (if(["enumerate","zip","dict_itemiterator","dict_reverseitemiterator","odict_iterator","itertools.zip_longest","itertools.pairwise"].contains n&&vs[0]? == J (rawInt _))=ao then _ else _) Q E s;rw[if_neg (by intro h;rw[bj,Bool.false_and]at h;cases h)]
           exact e3 gQ))
noncomputable def rF(K:bT)(a:ag):k3 :=
 ⟨fun i H=>∃xs x,c4 K H a xs/\xs[i]?=J x,fun i H x H'=>H'=H/\∀xs,c4 K H a xs->xs[i]?=J x,fun i H=>∃xs,c4 K H a xs/\xs.length<=i⟩
noncomputable def rG(lo:Int)(n:Nat):k3:=⟨fun i _=>i<n,fun i H x H'=>H'=H/\x=.int (lo+i),fun i _=>n<=i⟩
def aaq(a it:ag):Turn P w K e6 (rF K a) [it] it (fun i h=>h.IsListIter it a i) where
 mem:=by simp
 obj:=fun i h st b al=>by
  have e:b=it:=by simpa using al
  subst e;obtain⟨o,e,c,d⟩:=st;exact⟨o,e,fun v z=>by rw[d]at z;cases z⟩
 keep:=fun i h h' st k=>st.at fun o e=>k it (by simp) o e
 item:=by
  intro X dX hw ff hc i ar s ab H E ae aD st bh;subst dX hw ff;obtain⟨xs,x,bl,av⟩:=bh;obtain⟨aV,dK,p,bX⟩:=ae.list bl;obtain⟨u,cG,fo⟩:=dK.get av;obtain⟨f0,f1,f2,h8,f4,iO⟩:=aD it (by simp);refine wpAny_pyNext_list_item st p.isList (x:=u) (by simpa using cG) fun h' iG ro=>?_;have bC:Inv X ar ab H {s with heap:=h'}:=ae.turned (t':=s.toks) (fun b o al e=>(ro.2 b al).trans e) f0 f1 h8 f4 iO;obtain⟨o,e,c,d⟩:=id iG;exact⟨u,I,yG (s:={s with heap:=h'}) e c d (by decide) ⟨x,H,bC,fo,⟨I,fun aw ba=>by rw[ae.aeI ba bl];exact av⟩,iG,fun b al=>(aD b al).1⟩⟩
 done:=by
  intro X dX hw ff hc i ar s ab H E ae aD st bh;subst dX hw ff;obtain⟨xs,bl,av⟩:=bh;obtain⟨aV,dK,p,bX⟩:=ae.list bl;obtain⟨f0,f1,f2,h8,f4,iO⟩:=aD it (by simp);have aC:=dK.length;exact wpAny_pyNext_list_end (ae.ok.hd hc) st p.isList (by simp;lia) fun h' eE=>⟨I,ae.turned (t':=s.toks) (fun b o al e=>eE b o al e) f0 f1 h8 f4 iO⟩
 self:=fun _ _ _ _ _ st h=>wpAny_pyIter_listiter st h
def ZS(it:ag)(lo:Int)(n:Nat):Turn P w K e6 (rG lo n) [it] it (fun i h=>IsRangeIter h it (lo+(i:Nat)*1) ((n:Int)-(i:Nat)) 1) where
 mem:=by simp
 obj:=fun i h st b al=>by
  have e:b=it:=by simpa using al
  subst e
  exact⟨_,st,fun v z=>by
   have qv:Data.fields _=Data.cell v:=z
   cases qv⟩
 keep:=fun i h h' st k=>k it (by simp) _ st
 item:=by
  intro X dX hw ff hc i ar s ab H E ae aD st bh;subst dX hw ff;obtain⟨f0,f1,f2,h8,f4,iO⟩:=aD it (by simp);have W:=Walks.range (prog:=X.prog) (w:=X.w) (ae.ok.hd hc) it lo 1 n;refine W.item i s _ _ bh st fun v h' dP cV iG ck=>?_;obtain⟨t,rfl⟩:=cV;have bC:Inv X ar ab H {s with heap:=h',toks:=dP}:=ae.turned (fun b o al e=>ck b o (by simpa using al) e) f0 f1 h8 f4 iO;refine⟨_,I,yG (s:={s with heap:=h',toks:=dP}) (n:="range_iterator") iG I I (by decide) ⟨.int (lo+i),H,bC,⟨t,?_⟩,⟨I,I⟩,iG,fun b al=>(aD b al).1⟩⟩;rw[Int.mul_one]
 done:=by
  intro X dX hw ff hc i ar s ab H E ae aD st bh;subst dX hw ff;obtain⟨f0,f1,f2,h8,f4,iO⟩:=aD it (by simp);exact wpAny_pyNext_range_end (ae.ok.hd hc) st (by have:n<=i:=bh;lia) fun h' eE=>⟨I,ae.turned (t':=s.toks) (fun b o al e=>eE b o al e) f0 f1 h8 f4 iO⟩
 self:=fun _ _ _ _ _ st h=>wpAny_pyIter_rangeiter st h
section
variable {X:bS} {e6:c3}
def Pf(K:bT)(dQ:TE):d8:=fun ab H R=>dQ ab H fun x H1=>∃a,x=.ref a/\(∃xs,c4 K H1 a xs)/\R (rF K a) H1
def Vt{l:c3}{dQ:TE}(aC:cF X l dQ):jV X e6 l (Pf X.K dQ):=by
 intro ar s ab H R ae h;refine dg (aC ar s ab H _ ae h) fun v s1 b3=>?_;obtain⟨x,H1,bC,b9,cn⟩:=b3;obtain⟨a,e,⟨xs,bl⟩,q⟩:=cn;subst e;cases b9;obtain⟨aV,dK,p,bX⟩:=bC.list bl;refine wpAny_pyIter_list p.isList ?_;refine⟨s1.heap.objs.size,[s1.heap.objs.size],_,_,H1,I,bC.kept (t':=s1.toks) fun b o e=>gZ _ e,aaq a _,⟨_,iw _ I,I,I⟩,fun b al=>?_,q⟩;have e:b=s1.heap.objs.size:=by simpa using al
 subst e;exact bC.qV (cR _) (bC.aF.fresh (cR _))
def UA{ab:St}{R:k3->aq->Prop}{aG:Int}{t u v:Tok}{dP:Nat}(ae:Inv X ar ab H s)(ai : -(2^62)<=lo)(aj:lo<2^62)(bt : -(2^62)<=aG)(cf:aG<2^62)
  (q:R (rG lo (aG-lo).toNat) H):cc (model X.prog X.w) X.A (pyIter (.ref s.heap.objs.size)) (Fg X ar ab e6 R) E {s with heap:=s.heap.push {cls :=.type "range",data :=.fields #[.int lo t,.int aG u,.int 1 v]},toks:=dP}:=by
 refine wpAny_pyIter_range (IsRange.new ..) (small_one ai aj bt cf) ?_;have bC:Inv X ar ab H {s with heap:=s.heap.push {cls :=.type "range",data :=.fields #[.int lo t,.int aG u,.int 1 v]},toks:=dP}:=ae.kept fun b o e=>gZ _ e
 refine⟨(s.heap.push {cls :=.type "range",data :=.fields #[.int lo t,.int aG u,.int 1 v]}).objs.size,[(s.heap.push {cls :=.type "range",data :=.fields #[.int lo t,.int aG u,.int 1 v]}).objs.size],_,_,H,I,
  bC.kept (t':=dP) fun b o e=>gZ _ e,ZS _ lo (aG-lo).toNat,?_,fun b al=>?_,q⟩
 ·have aQ:lo+((0:Nat):Int)*1=lo:=by simp
  have aR:(((aG-lo).toNat:Nat):Int)-((0:Nat):Int)=dI.Range.rangeSize lo aG 1:=by rw[rangeSize_one];split<;>lia
  show IsRangeIter _ _ (lo+((0:Nat):Int)*1) ((((aG-lo).toNat:Nat):Int)-((0:Nat):Int)) 1;rw[aQ,aR];exact iw _ I
 ·have e:b=(s.heap.push {cls :=.type "range",data :=.fields #[.int lo t,.int aG u,.int 1 v]}).objs.size:=by simpa using al
  subst e;exact bC.qV (cR _) (bC.aF.fresh (cR _))
def aeq(cN:iL):d8:=fun ab H R=>cN ab H fun vs H1=>∃j:Int,vs=[.int j]/\-(2^62)<=j/\j<2^62/\R (rG 0 j.toNat) H1
def nt{a:c3}{cN:iL}{p:Pos}(bh:jU X "range")(hm:X.mg "range"=aA)(aN:jl X [a] cN)(hs:xv (eI [a] X.env=[(aI,eval a X.env)]) z0):jV X e6 (.Call (.Name "range" p) [a] [] bc) (aeq cN):=by
 intro ar s ab H R ae h;refine Call_ (pI ae bh hm boot_range (PyProof.Rows.callWith_type1 (dg (aN bc ar s ab H _ ae h) fun us s1 b3=>?_) hs I));obtain⟨vs,H1,bC,b9,cn⟩:=b3;obtain⟨j,e,cn,b8,q⟩:=cn;subst e;cases b9 with
 |cons r oT =>
  cases oT;obtain⟨t,rfl⟩:=r;exact call_range_1 (UA bC (by lia) (by lia) cn b8 (by simpa using q))
def ai4(jS:d8)(g:gY)(dO:gk):gk:=fun D ab H=>jS ab H fun eQ H1=>∃W:Nat->Nat->St->aq->Prop,(∃m,W 0 m ab H1)/\∀i m ab H,W i m ab H->
 (eQ.stop i H/\D.nx ab H)\/(eQ.go i H/\∃N:St->aq->Prop,(∀cb H',N cb H'->∃b6,b6<m/\W (i+1) b6 cb H')/\∀x H',eQ.rx i H x H'->g x ab H' fun bD az=>dO {D with nx:=N,ct:=N,bk:=D.nx} bD az)
noncomputable def zS(cu:List ag)(h:bR):List (ag×cE):=cu.filterMap fun b=>(h.get? b).map fun o=>(b,o)
def Ch{b:ag}(al:b∈cu)(e:h.get? b=J o):(b,o)∈zS cu h:=List.mem_filterMap.mpr ⟨b,al,by rw[e];rfl⟩
def TK{p:ag×cE}(aX:p∈zS cu h):p.1∈cu/\h.get? p.1=J p.2:=by
 obtain⟨b,al,e⟩:=List.mem_filterMap.mp aX;cases q:h.get? b with
 |none=>rw[q]at e;cases e
 |some o =>
  rw[q]at e;have e':(b,o)=p:=ie e;subst e';exact⟨al,q⟩
def Inv.pinned{ab:St}(ae:Inv X ar ab H s)(aD:∀b∈cu,rE X ar H b)(aK:∀b∈cu,∃o,s.heap.get? b=J o/\∀v,o.data≠.cell v):Inv X (ar++zS cu s.heap) ab H s :=
 ae.PS fun p aX=>(List.mem_append.mp aX).elim (fun z=>ae.pin p (nq _ z)) fun z=>by
  obtain⟨al,e⟩:=TK z;obtain⟨f0,f1,f2,_⟩:=aD p.1 al;obtain⟨o,e',d⟩:=aK p.1 al;rw[e]at e';cases e';exact⟨e,f0,f1,f2,d⟩
def Inv.Ey{pl:List (ag×cE)}{ab:St}(ae:Inv X (ar++pl) ab H s):Inv X ar ab H s:=ae.PS fun p aX=>ae.pin p (nq _ (List.mem_append_left _ aX))
def mS{jS:d8}{g:gY}{dO:gk}(aX:iu (model X.prog X.w) X.A X.env X.xe)(hc:X.calm=ao)(aG:jV X e6 iter jS)(bh:qG X e6 g)(al:jE X body dO)
  (hs:xv (∀x,foldedSetIterable iter X.env x=pure x) z2):lC X (.For e6 iter body [] bc) (ai4 jS g dO):=by
 intro ar s ab H D ae h;refine wpAny_For (dg (aG ar s ab H _ ae h) fun v s1 ai=>dg ai fun IW s2 aj=>?_) hs;obtain⟨it,cu,iq,eQ,az,e,cW,T,jy,f2,W,⟨m0,nO⟩,turn⟩:=aj;subst e;have vz:∀{H':aq},(∀b∈cu,H' b=aA)->∀b∈cu,rE X ar H' b:=fun bj b al=>⟨bj b al,(f2 b al).2⟩;refine codeAny_forLoop_any (fun n bw=>∃i cb H',Inv X ar cb H' bw/\iq i bw.heap/\(∀b∈cu,H' b=aA)/\W i n cb H') ?_ m0 ⟨0,ab,az,cW,jy,fun b al=>(f2 b al).1,nO⟩;rintro n i6 ⟨i,l0,b5,jC,kZ,yT,qu⟩;rcases turn i n l0 b5 qu with⟨stop,Jc⟩|⟨go,N,fV,step⟩
 ·refine vK aX (dg (T.done X I I I hc i ar i6 l0 b5 X.xe jC (vz yT) kZ stop) fun r vw b3=>?_);obtain⟨au,xT⟩:=b3;subst au;exact wpAny_execs_nil ⟨l0,b5,xT,Jc⟩
 ·refine vK aX (dg (T.item X I I I hc i ar i6 l0 b5 X.xe jC (vz yT) kZ go) fun r vw b3=>?_);obtain⟨u,au,cf⟩:=b3;subst au;refine vK aX (dg cf fun _ zU b3=>?_);obtain⟨x,d7,E5,Jd,JK,j9,HJ⟩:=b3;have E6:=E5.pinned (vz HJ) (T.obj _ _ j9);refine vK aX (dg (bh _ zU l0 d7 x u _ E6 Jd (step x d7 JK)) fun _ Jf b3=>?_);obtain⟨xF,ek,E7,Jb⟩:=b3;refine vK aX (dg (al _ Jf xF ek _ E7 Jb) fun f rn qm=>?_)
  have again:∀{l1:St}{iv:aq},Inv X (ar++zS cu zU.heap) l1 iv rn->N l1 iv->∃m,m<n/\∃i cb H',Inv X ar cb H' rn/\iq i rn.heap/\(∀b∈cu,H' b=aA)/\W i m cb H':=fun{l1 iv}kB zL=>by
   obtain⟨b6,hm,Ai⟩:=fV l1 iv zL;refine⟨b6,hm,i+1,l1,iv,kB.Ey,T.keep _ _ _ j9 fun b al o e=>(kB.pin (b,o) (nq _ (nq _ (Ch al e)))).1,fun b al=>?_,Ai⟩;obtain⟨o,e,d⟩:=T.obj _ _ j9 b al;exact(kB.pin (b,o) (nq _ (nq _ (Ch al e)))).2.1
  cases f with
  |next=>obtain⟨l1,iv,kB,zL⟩:=qm;exact again kB zL
  |cont=>obtain⟨l1,iv,kB,zL⟩:=qm;exact again kB zL
  |brk=>obtain⟨l1,iv,kB,qm⟩:=qm;exact⟨l1,iv,kB.Ey,qm⟩
  |ret v=>obtain⟨ajU,l1,iv,kB,ail,qm⟩:=qm;exact⟨ajU,l1,iv,kB.Ey,ail,qm⟩
end
def yl{xs:List V}{g:gY}{dO:gk}{D:Ends}{ab:St}(Pv:Nat->St->aq->Prop)(bb:Pv 0 ab H)(aC:∀i ab H,i<=xs.length->Pv i ab H->c4 K H a xs)
  (hs:∀i x ab H,xs[i]?=J x->Pv i ab H->g x ab H fun bD az=>dO {D with nx:=Pv (i+1),ct:=Pv (i+1),bk:=D.nx} bD az) (hd:∀ab H,Pv xs.length ab H->D.nx ab H) :
  ∃W:Nat->Nat->St->aq->Prop,(∃m,W 0 m ab H)/\∀i m ab H,W i m ab H->
   ((rF K a).stop i H/\D.nx ab H)\/((rF K a).go i H/\∃N:St->aq->Prop,(∀cb H',N cb H'->∃b6,b6<m/\W (i+1) b6 cb H')/\∀x H',(rF K a).rx i H x H'->g x ab H' fun bD az=>dO {D with nx:=N,ct:=N,bk:=D.nx} bD az):=by
 refine⟨fun i m ab H=>m=xs.length-i/\i<=xs.length/\Pv i ab H,⟨xs.length,by simp,UF _,bb⟩,?_⟩;rintro i m ab H ⟨rfl,aG,p⟩;have q:=aC i ab H aG p;by_cases iS:i<xs.length
 ·refine .inr ⟨⟨xs,xs[i],q,by simp[iS]⟩,Pv (i+1),fun cb H' vt=>⟨xs.length-(i+1),by lia,rfl,iS,vt⟩,fun x H' y=>?_⟩;obtain⟨e,y⟩:=y;subst e;exact hs i x ab _ (y xs q) p
 ·have e:i=xs.length:=by lia
  subst e;exact .inl ⟨⟨xs,q,cR _⟩,hd ab H p⟩
def wj{g:gY}{dO:gk}{D:Ends}{ab:St}(Pv:Nat->St->aq->Prop)(bb:Pv 0 ab H)
  (hs:∀i ab H,i<n->Pv i ab H->g (.int (lo+i)) ab H fun bD az=>dO {D with nx:=Pv (i+1),ct:=Pv (i+1),bk:=D.nx} bD az) (hd:∀ab H,Pv n ab H->D.nx ab H) :
  ∃W:Nat->Nat->St->aq->Prop,(∃m,W 0 m ab H)/\∀i m ab H,W i m ab H->
   ((rG lo n).stop i H/\D.nx ab H)\/((rG lo n).go i H/\∃N:St->aq->Prop,(∀cb H',N cb H'->∃b6,b6<m/\W (i+1) b6 cb H')/\∀x H',(rG lo n).rx i H x H'->g x ab H' fun bD az=>dO {D with nx:=N,ct:=N,bk:=D.nx} bD az):=by
 refine⟨fun i m ab H=>m=n-i/\i<=n/\Pv i ab H,⟨n,by simp,UF _,bb⟩,?_⟩;rintro i m ab H ⟨rfl,aG,p⟩;by_cases iS:i<n
 ·refine .inr ⟨iS,Pv (i+1),fun cb H' vt=>⟨n-(i+1),by lia,rfl,iS,vt⟩,fun x H' y=>?_⟩;obtain⟨e,y⟩:=y;subst e y;exact hs i ab _ iS p
 ·have e:i=n:=by lia
  subst e;exact .inl ⟨cR _,hd ab H p⟩
noncomputable abbrev iK:=V->V->aq->bI->Prop
def ef(X:bS)(f:ax->ax->Sem ax)(r:iK):Prop :=
 ∀(ar:List (ag×cE))(s:aT)(ab:St)(H:aq)(x y:V)(v u:ax)(Q:bI),Inv X ar ab H s->RelV x v->RelV y u->r x y H Q->
  cc (model X.prog X.w) X.A (f v u) (ja X ar ab Q) X.xe s
def Fq(X:bS)(f:ax->Sem ax)(r:V->aq->bI->Prop):Prop :=
 ∀(ar:List (ag×cE))(s:aT)(ab:St)(H:aq)(x:V)(v:ax)(Q:bI),Inv X ar ab H s->RelV x v->r x H Q->
  cc (model X.prog X.w) X.A (f v) (ja X ar ab Q) X.xe s
def hR(X:bS)(f:ax)(r:List V->aq->bI->Prop):Prop :=
 ∀(ar:List (ag×cE))(s:aT)(ab:St)(H:aq)(xs:List V)(us:List ax)(Q:bI),Inv X ar ab H s->Vals xs us->r xs H Q->
  cc (model X.prog X.w) X.A (call f us) (ja X ar ab Q) X.xe s
def Tx(X:bS)(r:V->aq->(Bool->aq->Prop)->Prop):Prop :=
 ∀(ar:List (ag×cE))(s:aT)(ab:St)(H:aq)(x:V)(v:ax)(Q:Bool->aq->Prop),Inv X ar ab H s->RelV x v->r x H Q->
  cc (model X.prog X.w) X.A (truthy v) (A8 X ar ab Q) X.xe s
def sR(r:iK)(cN dO:TE):TE:=fun ab H Q=>cN ab H fun x H1=>dO ab H1 fun y az=>r x y az Q
def aji(r:V->aq->bI->Prop)(cN:TE):TE:=fun ab H Q=>cN ab H fun x H1=>r x H1 Q
inductive Kk(C:Int->Int->Prop)(x y:V)(Q:Int->Int->Prop):Prop where
 |mk (i j:Int) (a:x=.int i) (b:y=.int j) (c:C i j) (h:Q i j):Kk C x y Q
def tX(C:Int->Int->Prop)(g:Int->Int->V):iK:=fun x y H Q=>Kk C x y fun i j=>Q (g i j) H
inductive Kl(x y:V)(Q:Int->Int->Prop):Prop where
 |mk (i j:Int) (a:x=.int i) (b:y=.int j) (h:Q i j):Kl x y Q
def nJ(g:Int->Int->V):iK:=fun x y H Q=>Kl x y fun i j=>Q (g i j) H
noncomputable def PZ(g:Int->V):V->aq->bI->Prop:=fun x H Q=>∃i,x=.int i/\Q (g i) H
variable {r:iK} {g:Int->Int->Int}
section
variable {X:bS} {a b c:c3} {cN dO hQ:TE} {bc:Pos}
def Hv(aN:cF X a cN)(al:cF X b dO){ab:St}{R:V->V->aq->Prop}(ae:Inv X ar ab H s)
  (h:cN ab H fun x H1=>dO ab H1 fun y az=>R x y az) {Q:ax->aT->Prop}
  (aD:∀v u s2 x y az,Inv X ar ab az s2->RelV x v->RelV y u->R x y az->cc (model X.prog X.w) X.A (f v u) Q X.xe s2) :
  cc (model X.prog X.w) X.A (eval a X.env) (fun v eD=>cc (model X.prog X.w) X.A (eval b X.env) (fun u sQ=>cc (model X.prog X.w) X.A (f v u) Q X.xe sQ) X.xe eD) X.xe s:=by
 refine dg (aN ar s ab H _ ae h) fun v s1 b3=>?_;obtain⟨x,H1,bC,b9,cn⟩:=b3;refine dg (al ar s1 ab H1 _ bC cn) fun u s2 b3=>?_;obtain⟨y,az,cW,ej,b8⟩:=b3;exact aD v u s2 x y az cW b9 ej b8
def aM{op:Operator}(aK:ef X (l2 op) r)(aN:cF X a cN)(al:cF X b dO):cF X (.BinOp a op b bc) (sR r cN dO):=by
 intro ar s ab H Q ae h;exact wpAny_BinOp (Hv aN al ae h fun v u s2 x y az cW bH cX q=>aK ar s2 ab az x y v u Q cW bH cX q)
def mU{op:UnaryOp}{r:V->aq->bI->Prop}(aK:Fq X (unaryOp op) r)(aN:cF X a cN):cF X (.UnaryOp op a bc) (aji r cN):=by
 intro ar s ab H Q ae h;refine UnaryOp_ (dg (aN ar s ab H _ ae h) fun v s1 b3=>?_);obtain⟨x,H1,bC,b9,cn⟩:=b3;exact aK ar s1 ab H1 x v Q bC b9 cn
def vq{C:Int->Int->Prop}
  (rule:∀(i j:Int)(t u:Tok)(s:aT)(Q:ax->aT->Prop)(E:ax->aT->Prop),C i j->Q (.int (g i j) s.toks) {s with toks:=s.toks+1}->cc (model X.prog X.w) X.A (f (.int i t) (.int j u)) Q E s) :
  ef X f (tX C fun i j =>.int (g i j)):=by
 intro ar s ab H x y v u Q ae bH cX h;obtain⟨i,j,rfl,rfl,hc,q⟩:=h;obtain⟨t,rfl⟩:=bH;obtain⟨t',rfl⟩:=cX;exact rule i j t t' s _ _ hc ⟨.int (g i j),H,ae.tok _,⟨_,I⟩,q⟩
def I9
  (rule:∀(i j:Int)(t u:Tok)(s:aT)(Q:ax->aT->Prop)(E:ax->aT->Prop),Q (.int (g i j) s.toks) {s with toks:=s.toks+1}->cc (model X.prog X.w) X.A (f (.int i t) (.int j u)) Q E s) :
  ef X f (nJ fun i j =>.int (g i j)):=by
 intro ar s ab H x y v u Q ae bH cX h;obtain⟨i,j,rfl,rfl,q⟩:=h;obtain⟨t,rfl⟩:=bH;obtain⟨t',rfl⟩:=cX;exact rule i j t t' s _ _ ⟨.int (g i j),H,ae.tok _,⟨_,I⟩,q⟩
def D0{g:Int->Int->Bool}
  (rule:∀(i j:Int)(t u:Tok)(s:aT)(Q:ax->aT->Prop)(E:ax->aT->Prop),Q (.bool (g i j)) s->cc (model X.prog X.w) X.A (f (.int i t) (.int j u)) Q E s) :
  ef X f (nJ fun i j =>.aS (g i j)):=by
 intro ar s ab H x y v u Q ae bH cX h;obtain⟨i,j,rfl,rfl,q⟩:=h;obtain⟨t,rfl⟩:=bH;obtain⟨t',rfl⟩:=cX;exact rule i j t t' s _ _ ⟨.aS (g i j),H,ae,I,q⟩
def R1(i j:Int):Prop:=0<j/\j<1073741824
def JW(i j:Int):Prop:=0<=j/\j<=1000000/\i.natAbs<2^64
def EM(i j:Int):Prop:=(-(2^64)<i/\i<2^64)\/(-(2^64)<j/\j<2^64)
def EM.ok{i j:Int}(h:EM i j):IntMulOk i j:=by
 rcases h with⟨ai,aj⟩|⟨ai,aj⟩
 .exact .of_left (intBits_le_64 ai aj)
 .exact .of_right (intBits_le_64 ai aj)
def ZR(k:Nat):(0:Int)<=2^k:=by
 rw[two_pow_cast];exact Int.natCast_nonneg _
def Wk:ef X (l2 .Add) (nJ fun i j =>.int (i+j)):=I9 fun _ _ _ _ _ _ _ q=>add_int q
def Wc:ef X (l2 .Sub) (nJ fun i j =>.int (i-j)):=I9 fun _ _ _ _ _ _ _ q=>sub_int q
def Wf:ef X (l2 .Mult) (tX EM fun i j =>.int (i*j)):=vq fun _ _ _ _ _ _ _ hc q=>mul_int q hc.ok
def ih:ef X (l2 .FloorDiv) (tX R1 fun i j =>.int (i/j)):=vq fun i j _ _ _ _ _ hc q=>by
 have ai:(0:Int)<j:=hc.1;have aj:j<1073741824:=hc.2;exact floordiv_int (by lia) (by rw[Int.fdiv_eq_ediv_of_nonneg i (by lia)];exact q) (.inl (PyProof.noPylong_small (by lia)))
def eu:ef X (l2 .Mod) (tX (fun _ j=>0<j) fun i j =>.int (i%j)):=vq fun i j _ _ _ _ _ hc q=>by
 have ai:(0:Int)<j:=hc;exact mod_int' (by lia) (by rw[Int.fmod_eq_emod_of_nonneg i (by lia)];exact q)
def wx:ef X (l2 .Pow) (tX JW fun i j =>.int (i^j.toNat)):=vq fun _ _ _ _ _ _ _ hc q=>pow_int_small hc.1 hc.2.1 hc.2.2 q
def KP:ef X (l2 .RShift) (tX (fun _ j=>0<=j) fun i j =>.int (i/2^j.toNat)):=vq fun i j _ _ _ _ _ hc q =>
 rshift_int hc (by rw[Int.fdiv_eq_ediv_of_nonneg i (ZR _)];exact q)
def Wj:ef X (l2 .BitAnd) (nJ fun i j =>.int (dI.bitAnd i j)):=I9 fun _ _ _ _ _ _ _ q=>and_int q
def ajR{f:ax->Sem ax}{g:Int->Int}
  (rule:∀(i:Int)(t:Tok)(s:aT)(Q:ax->aT->Prop)(E:ax->aT->Prop),Q (.int (g i) s.toks) {s with toks:=s.toks+1}->cc (model X.prog X.w) X.A (f (.int i t)) Q E s) :
  Fq X f (PZ fun i =>.int (g i)):=by
 intro ar s ab H x v Q ae bH h;obtain⟨i,rfl,q⟩:=h;obtain⟨t,rfl⟩:=bH;exact rule i t s _ _ ⟨.int (g i),H,ae.tok _,⟨_,I⟩,q⟩
def mP:Fq X (unaryOp .USub) (PZ fun i =>.int (-i)):=ajR fun _ _ _ _ _ q=>neg_int q
end
noncomputable def P4:V->V->Bool
 |.bM,.bM=>ao|.bM,.int _=>ao|.int _,.bM=>ao|.bM,.aS _=>ao|.aS _,.bM=>ao|.bM,.str _=>ao|.str _,.bM=>ao
 |.int _,.int _=>ao|.aS _,.aS _=>ao|.str _,.str _=>ao|.lL _,.lL _=>ao
 |.int _,.str _=>ao|.str _,.int _=>ao|.aS _,.str _=>ao|.str _,.aS _=>ao
 |_,_=>aI
def D4:iK:=fun x y H Q=>P4 x y=ao/\Q (.aS (decide (x=y))) H
def PY:iK:=fun x y H Q=>P4 x y=ao/\Q (.aS (!decide (x=y))) H
def yx{i j:Int}:decide (V.int i=V.int j)=(i == j):=by
 rw[Bool.eq_iff_iff];simp
def K0{i j:Bool}:decide (V.aS i=V.aS j)=(i == j):=by
 rw[Bool.eq_iff_iff];simp
def Ny{i j:aa}:decide (V.str i=V.str j)=(i == j):=by
 rw[Bool.eq_iff_iff];simp
def Nz{i j:Array UInt8}:decide (V.lL i=V.lL j)=(i.toList == j.toList):=by
 rw[Bool.eq_iff_iff];cases i;cases j;simp
section
variable {X:bS} {a b c:c3} {cN dO hQ:TE} {bc:Pos}
def ft{ab:St}{Q:bI}{k hC:Bool}(ae:Inv X ar ab H s)(q:Q (.aS k) H)(e:k=hC):ja X ar ab Q (.bool hC) s:=by
 subst e;exact⟨.aS k,H,ae,I,q⟩
def WJ:ef X (h3 .Eq) D4:=by
 intro ar s ab H x y v u Q ae bH cX h;obtain⟨hs,q⟩:=h;cases x with
 |bM =>
  cases bH;cases y with
  |bM=>cases cX;exact PySem.EqNone.eq_none_none (ft ae q (by simp))
  |aS j=>cases cX;exact PySem.EqNone.eq_none_bool (ft ae q (by simp))
  |int j=>obtain⟨t',rfl⟩:=cX;exact PySem.EqNone.eq_none_int (ft ae q (by simp))
  |str j=>obtain⟨t',rfl⟩:=cX;exact PySem.EqNone.eq_none_str (ft ae q (by simp))
  |_=>exact absurd (show aI=ao from hs) ke
 |aS i =>
  cases bH;cases y with
  |bM=>cases cX;exact PySem.EqNone.eq_bool_none (ft ae q (by simp))
  |aS j=>cases cX;exact eq_bool (ft ae q K0)
  |str j=>obtain⟨t',rfl⟩:=cX;exact PySem.EqMixed.eq_bool_str (ft ae q (by simp))
  |_=>exact absurd (show aI=ao from hs) ke
 |int i =>
  obtain⟨t,rfl⟩:=bH;cases y with
  |bM=>cases cX;exact PySem.EqNone.eq_int_none (ft ae q (by simp))
  |int j=>obtain⟨t',rfl⟩:=cX;exact eq_int (ft ae q yx)
  |str j=>obtain⟨t',rfl⟩:=cX;exact PySem.EqMixed.eq_int_str (ft ae q (by simp))
  |_=>exact absurd (show aI=ao from hs) ke
 |str i =>
  obtain⟨t,rfl⟩:=bH;cases y with
  |bM=>cases cX;exact PySem.EqNone.eq_str_none (ft ae q (by simp))
  |aS j=>cases cX;exact PySem.EqMixed.eq_str_bool (ft ae q (by simp))
  |int j=>obtain⟨t',rfl⟩:=cX;exact PySem.EqMixed.eq_str_int (ft ae q (by simp))
  |str j=>obtain⟨t',rfl⟩:=cX;exact eq_str (ft ae q Ny)
  |_=>exact absurd (show aI=ao from hs) ke
 |lL i =>
  obtain⟨t,rfl⟩:=bH;cases y with
  |lL j=>obtain⟨t',rfl⟩:=cX;exact PySem.W.eq_bytes (ft ae q Nz)
  |_=>exact absurd (show aI=ao from hs) ke
 |_=>cases y<;>exact absurd (show aI=ao from hs) ke
def WD:ef X (h3 .NotEq) PY:=by
 intro ar s ab H x y v u Q ae bH cX h;obtain⟨hs,q⟩:=h;cases x with
 |bM =>
  cases bH;cases y with
  |bM=>cases cX;exact PySem.EqNone.ne_none_none (ft ae q (by simp))
  |aS j=>cases cX;exact PySem.EqNone.ne_none_bool (ft ae q (by simp))
  |int j=>obtain⟨t',rfl⟩:=cX;exact PySem.EqNone.ne_none_int (ft ae q (by simp))
  |str j=>obtain⟨t',rfl⟩:=cX;exact PySem.EqNone.ne_none_str (ft ae q (by simp))
  |_=>exact absurd (show aI=ao from hs) ke
 |aS i =>
  cases bH;cases y with
  |bM=>cases cX;exact PySem.EqNone.ne_bool_none (ft ae q (by simp))
  |aS j=>cases cX;exact ne_bool (ft ae q (congrArg not K0))
  |str j=>obtain⟨t',rfl⟩:=cX;exact PySem.EqMixed.ne_bool_str (ft ae q (by simp))
  |_=>exact absurd (show aI=ao from hs) ke
 |int i =>
  obtain⟨t,rfl⟩:=bH;cases y with
  |bM=>cases cX;exact PySem.EqNone.ne_int_none (ft ae q (by simp))
  |int j=>obtain⟨t',rfl⟩:=cX;exact ne_int (ft ae q (congrArg not yx))
  |str j=>obtain⟨t',rfl⟩:=cX;exact PySem.EqMixed.ne_int_str (ft ae q (by simp))
  |_=>exact absurd (show aI=ao from hs) ke
 |str i =>
  obtain⟨t,rfl⟩:=bH;cases y with
  |bM=>cases cX;exact PySem.EqNone.ne_str_none (ft ae q (by simp))
  |aS j=>cases cX;exact PySem.EqMixed.ne_str_bool (ft ae q (by simp))
  |int j=>obtain⟨t',rfl⟩:=cX;exact PySem.EqMixed.ne_str_int (ft ae q (by simp))
  |str j=>obtain⟨t',rfl⟩:=cX;exact ne_str (ft ae q (congrArg not Ny))
  |_=>exact absurd (show aI=ao from hs) ke
 |lL i =>
  obtain⟨t,rfl⟩:=bH;cases y with
  |lL j=>obtain⟨t',rfl⟩:=cX;exact PySem.W.ne_bytes (ft ae q (congrArg not Nz))
  |_=>exact absurd (show aI=ao from hs) ke
 |_=>cases y<;>exact absurd (show aI=ao from hs) ke
def WE:ef X (h3 .Lt) (nJ fun i j =>.aS (decide (i<j))):=D0 fun _ _ _ _ _ _ _ q=>lt_int q
def WG:ef X (h3 .LtE) (nJ fun i j =>.aS (decide (i<=j))):=D0 fun _ _ _ _ _ _ _ q=>le_int q
def WH:ef X (h3 .Gt) (nJ fun i j =>.aS (decide (j<i))):=D0 fun _ _ _ _ _ _ _ q=>gt_int q
def WI:ef X (h3 .GtE) (nJ fun i j =>.aS (decide (j<=i))):=D0 fun _ _ _ _ _ _ _ q=>ge_int q
inductive A6(x y:V)(Q:aa->aa->Prop):Prop where
 |mk (i j:aa) (a:x=.str i) (b:y=.str j) (h:Q i j):A6 x y Q
def TG:ef X (h3 .Lt) (fun x y H Q=>A6 x y fun i j=>Q (.aS (decide (i.cps.toList<j.cps.toList))) H):=by
 intro ar s ab H x y v u Q ae bH cX h;obtain⟨i,j,rfl,rfl,q⟩:=h;obtain⟨t,rfl⟩:=bH;obtain⟨t',rfl⟩:=cX;exact lt_str (ft ae q I)
def Mb:ef X (h3 .In) (fun x y H Q=>A6 x y fun i j=>Q (.aS (!(dI.Str.occurrences j i 0 j.length 1).isEmpty)) H):=by
 intro ar s ab H x y v u Q ae bH cX h;obtain⟨i,j,rfl,rfl,q⟩:=h;obtain⟨t,rfl⟩:=bH;obtain⟨t',rfl⟩:=cX;exact in_str (ft ae q I)
def KQ:ef X (h3 .Is) (fun x y H Q=>y=.bM/\Q (.aS (decide (x=.bM))) H):=by
 intro ar s ab H x y v u Q ae bH cX h;obtain⟨rfl,q⟩:=h;cases cX;refine is_none_gen (ft ae q ?_)
 cases x<;>first
  |(cases bH;rfl)
  |(obtain⟨t,rfl⟩:=bH;rfl)
def ef.or{ey:iK}(h:ef X f r)(h':ef X f ey):ef X f (fun x y H Q=>r x y H Q\/ey x y H Q):=by
 intro ar s ab H x y v u Q ae bH cX q;rcases q with q|q
 .exact h ar s ab H x y v u Q ae bH cX q
 .exact h' ar s ab H x y v u Q ae bH cX q
def KV(b:c3)(h:xv (op≠.In) yc)(aj:xv (op≠.NotIn) yc):behindInMarks op b=aI:=by
 have aQ:(op == CmpOp.In)=aI:=by cases op<;>first|rfl|exact absurd I h
 have aR:(op == CmpOp.NotIn)=aI:=by cases op<;>first|rfl|exact absurd I aj
 cases b<;>simp[behindInMarks,aQ,aR]
def Ni(aK:ef X (h3 op) r)(aN:cF X a cN)(al:cF X b dO)(hm:behindInMarks op b=aI):cF X (.Compare a [op] [b] bc) (sR r cN dO):=by
 intro ar s ab H Q ae h;exact wpAny_Compare1 (Hv aN al ae h fun v u s2 x y az cW bH cX q=>aK ar s2 ab az x y v u Q cW bH cX q) hm
inductive Kq(x:V)(Q:Bool->Prop):Prop where
 |mk (k:Bool) (a:x=.aS k) (h:Q k):Kq x Q
def Es(t:TE):ic:=fun ab H Q=>t ab H fun x H'=>Kq x fun k=>Q k H'
def Hc(aK:ef X (h3 op) r)(aN:cF X a cN)(al:cF X b dO)(hm:behindInMarks op b=aI):mb X (.Compare a [op] [b] bc) (Es (sR r cN dO)):=by
 intro ar s ab H Q ae h
 refine wpAny_isTrue_Compare1 (dg (aN ar s ab H _ ae h) fun v s1 ⟨x,H1,bC,b9,cn⟩=>dg (al ar s1 ab H1 _ bC cn) fun u s2 ⟨y,az,cW,ej,b8⟩ =>
  dg (aK ar s2 ab az x y v u _ cW b9 ej b8) fun c i6 ⟨z,b5,jC,zT,k,e,gh⟩=>?_) hm
 subst e;cases zT;exact An ⟨b5,jC,gh⟩
def Ba(K:bT)(x:V)(H:aq)(k:Bool):Prop :=
 match x with
 |.bM=>k=aI
 |.aS b=>k=b
 |.int i=>k=(i != 0)
 |.str y=>y.length<=cp/\k=((y.length:Int) != 0)
 |.lL y=>y.size<=cp/\k=((y.size:Int) != 0)
 |.ref p=>(∃xs,c4 K H p xs/\k=!xs.isEmpty)\/(∃xs,hS K H p xs/\k=!xs.isEmpty)\/∃gR,H p=J (.oi gR)/\k=!gR.isEmpty
 |_=>False
def aae{vF:Type}{gR:List (vF×V)}{vs:List (vF×ax)}(r:Fa gR vs):(!vs.isEmpty)=!gR.isEmpty:=by
 cases r<;>rfl
def LV{xs:List V}(r:Vals xs aV):(!aV.toArray.isEmpty)=!xs.isEmpty:=by
 cases r<;>simp
def vl:(cp:Nat)<2^63:=by rw[sizeLine_eq];decide
def KG:Tx X (fun x H Q=>∃k,Ba X.K x H k/\Q k H):=by
 intro ar s ab H x v Q ae bH h;obtain⟨k,e,q⟩:=h;have aC:=vl;have hs:cp=16777216:=sizeLine_eq;cases x with
 |bM =>
  cases bH;have e':k=aI:=e;subst e';exact truthy_none ⟨H,ae,q⟩
 |aS b =>
  cases bH;have e':k=b:=e;subst e';exact An ⟨H,ae,q⟩
 |int i =>
  obtain⟨t,rfl⟩:=bH;have e':k=(i != 0):=e;subst e';exact PySem.P.truthy_int ⟨H,ae,q⟩
 |str y =>
  obtain⟨t,rfl⟩:=bH;obtain⟨ba,e'⟩:y.length<=cp/\k=((y.length:Int) != 0):=e;subst e';exact PySem.P.truthy_str (by lia) ⟨H,ae.tok _,q⟩
 |lL y =>
  obtain⟨t,rfl⟩:=bH;obtain⟨ba,e'⟩:y.size<=cp/\k=((y.size:Int) != 0):=e;subst e';exact PySem.W.truthy_bytes (by lia) ⟨H,ae.tok _,q⟩
 | ref p =>
  cases bH;have e':(∃xs,c4 X.K H p xs/\k=!xs.isEmpty)\/(∃xs,hS X.K H p xs/\k=!xs.isEmpty)\/∃gR,H p=J (.oi gR)/\k=!gR.isEmpty:=e;rcases e' with⟨xs,av,e'⟩|⟨xs,av,e'⟩|⟨gR,av,e'⟩
  ·subst e';obtain⟨aV,r,pl,bX⟩:=ae.list av;have c0:=r.length;exact wpAny_truthy_list pl.isList (by simp only[eg];lia) ⟨H,ae.tok _,by rw[LV r];exact q⟩
  ·subst e';obtain⟨aV,r,pl,bX⟩:=ae.tuple av;have c0:=r.length;exact truthy_tuple pl (by simp only[eg];lia) ⟨H,ae.tok _,by rw[LV r];exact q⟩
  ·subst e';obtain⟨bX,c7,vs,r,m⟩:gR.length<=cp/\(p == sysModules)=aI/\∃vs,Fa gR vs/\s.heap.DictOf (Px X.prog X.w) p vs:=ae.aF p _ av;have c0:gR.length=vs.length:=Paired.length r;exact wpAny_truthy_dict c7 m (by lia) ⟨H,ae.tok _,by rw[aae r];exact q⟩
 |_=>exact(show False from e).elim
def UC(aN:cF X a cN)(he:∀whole,isTrue a X.env whole=(do let v <-whole;standAt a.pos;holding [v] (truthy v))):
  mb X a (fun ab H Q=>cN ab H fun x H'=>∃k,Ba X.K x H' k/\Q k H'):=by
 intro ar s ab H Q ae h;refine isTrue_plain (dg (aN ar s ab H _ ae h) fun v s1 b3=>?_) (he _);obtain⟨x,H1,bC,b9,cn⟩:=b3;exact KG ar s1 ab H1 x v Q bC b9 cn
inductive Km(x y:V)(Q:aa->aa->Prop):Prop where
 |mk (i j:aa) (a:x=.str i) (b:y=.str j) (c:i.length+j.length<=cp) (h:Q i j):Km x y Q
def Z2:ef X (l2 .Add) (fun x y H Q=>Km x y fun i j=>Q (.str (i++j)) H):=by
 intro ar s ab H x y v u Q ae bH cX h;obtain⟨i,j,rfl,rfl,bX,q⟩:=h;obtain⟨t,rfl⟩:=bH;obtain⟨t',rfl⟩:=cX;exact add_str (fun t' dP=>⟨.str (i++j),H,ae.tok _,⟨_,I⟩,q⟩) bX
def vals1{x:V}(r:Vals [x] us):∃u,us=[u]/\RelV x u:=by
 cases r with
 |cons b9 ej=>cases ej;exact⟨_,I,b9⟩
def vals2{x:V}(r:Vals [x,y] us):∃u nN,us=[u,nN]/\RelV x u/\RelV y nN:=by
 cases r with
 |cons b9 ej =>
  cases ej with
  |cons zT PU=>cases PU;exact⟨_,_,I,b9,zT⟩
def Ue(hc:X.calm=ao):hR X (.builtin "max") (fun xs H Q=>∃i j,xs=[.int i,.int j]/\Q (.int (if j > i then j else i)) H):=by
 intro ar s ab H xs us Q ae r h;obtain⟨i,j,rfl,q⟩:=h;obtain⟨u,nN,rfl,⟨t,rfl⟩,⟨t',rfl⟩⟩:=vals2 r;refine max_two_ints (ae.ok.hd hc) fun h' dP k=>⟨_,H,ae.kept k,?_,q⟩;by_cases cj:j > i
 .rw[if_pos cj,if_pos cj];exact⟨_,I⟩
 .rw[if_neg cj,if_neg cj];exact⟨_,I⟩
def Uc(hc:X.calm=ao):hR X (.builtin "min") (fun xs H Q=>∃i j,xs=[.int i,.int j]/\Q (.int (if j<i then j else i)) H):=by
 intro ar s ab H xs us Q ae r h;obtain⟨i,j,rfl,q⟩:=h;obtain⟨u,nN,rfl,⟨t,rfl⟩,⟨t',rfl⟩⟩:=vals2 r;refine min_two_ints (ae.ok.hd hc) fun h' dP k=>⟨_,H,ae.kept k,?_,q⟩;by_cases cj:j<i
 .rw[if_pos cj,if_pos cj];exact⟨_,I⟩
 .rw[if_neg cj,if_neg cj];exact⟨_,I⟩
def Ug:hR X (.type "int") (fun xs H Q=>(∃i,xs=[.int i]/\Q (.int i) H)\/∃k,xs=[.aS k]/\Q (.int (if k then 1 else 0)) H):=by
 intro ar s ab H xs us Q ae r h;rcases h with⟨i,rfl,q⟩|⟨k,rfl,q⟩
 ·obtain⟨u,rfl,t,rfl⟩:=vals1 r;exact call_int_int ⟨.int i,H,ae,⟨_,I⟩,q⟩
 ·obtain⟨u,rfl,b9⟩:=vals1 r;cases b9;exact call_int_bool ⟨.int (if k then 1 else 0),H,ae.tok _,⟨_,rfl⟩,q⟩
def B1:hR X (.type "str") (fun xs H Q=>∃i,xs=[.int i]/\i.natAbs.log2<1920/\Q (.str (toString i)) H):=by
 intro ar s ab H xs us Q ae r h;obtain⟨i,rfl,bX,q⟩:=h;obtain⟨u,rfl,t,rfl⟩:=vals1 r;exact PySem.P.str_of_int bX ⟨.str _,H,ae.tok _,⟨_,I⟩,q⟩
def Ke(K:bT)(x:V)(H:aq)(n:Nat):Prop :=
 match x with
 |.str y=>y.length<=cp/\n=y.length
 |.lL y=>y.size<=cp/\n=y.size
 |.ref p=>(∃xs,c4 K H p xs/\n=xs.length)\/∃xs,hS K H p xs/\n=xs.length
 |_=>False
inductive Kd(K:bT)(xs:List V)(H:aq)(Q:Nat->Prop):Prop where
 |mk (x:V) (n:Nat) (a:xs=[x]) (b:Ke K x H n) (h:Q n):Kd K xs H Q
def eh:hR X (.builtin "len") (fun xs H Q=>Kd X.K xs H fun n=>Q (.int n) H):=by
 intro ar s ab H xs us Q ae r h;obtain⟨x,n,rfl,e,q⟩:=h;obtain⟨u,rfl,bH⟩:=vals1 r;have aC:=vl;have hs:cp=16777216:=sizeLine_eq;cases x with
 |str y =>
  obtain⟨t,rfl⟩:=bH;obtain⟨ba,e'⟩:y.length<=cp/\n=y.length:=e;subst e';exact len_str (by lia) ⟨.int _,H,ae.tok _,⟨_,I⟩,q⟩
 |lL y =>
  obtain⟨t,rfl⟩:=bH;obtain⟨ba,e'⟩:y.size<=cp/\n=y.size:=e;subst e';exact PySem.W.len_bytes (by lia) ⟨.int _,H,ae.tok _,⟨_,I⟩,q⟩
 | ref p =>
  cases bH;have e':(∃xs,c4 X.K H p xs/\n=xs.length)\/∃xs,hS X.K H p xs/\n=xs.length:=e;rcases e' with⟨xs,av,e'⟩|⟨xs,av,e'⟩
  ·subst e';obtain⟨aV,ey,pl,bX⟩:=ae.list av;have c0:=ey.length;exact Calls.call_len_list pl.isList (by simp only[eg];lia) ⟨.int xs.length,H,ae.tok _,⟨_,by simp only[eg];rw[c0]⟩,q⟩
  ·subst e';obtain⟨aV,ey,pl,bX⟩:=ae.tuple av;have c0:=ey.length;exact len_tuple pl (by simp only[eg];lia) ⟨.int xs.length,H,ae.tok _,⟨_,by simp only[eg];rw[c0]⟩,q⟩
 |_=>exact(show False from e).elim
end
structure uo(h:bR)(x ah C:ag)(f3:aa->Option ax):Prop where
 obj:h.get? x=J (nT C ah)
 ns:h.Ns1 ah f3
 ne:ah≠x
set_option tactic.hygienic true in
def TN(n:h.Ns1 ah f3):∃hr,h.get? ah=J hr/\∀name,JR name hr=J (f3 name):=by
 obtain⟨o,aZ,hi,aK,hd,hk,_,hm⟩:=n;refine⟨o,aK,fun name=>?_⟩;have e:=hm name;unfold nsFind findBy at e;rw[<-Array.find?_toList]at e;unfold JR;rw[hd];dsimp only;split
 ·rename_i y q;rw[q]at e;exact congrArg J e
 ·rename_i q;rw[q]at e
  have a:aZ.toList.any (·.refKey)=aI:=by
   rw[List.any_eq_false];intro y ba;obtain⟨z,t,adt⟩:=hk y (Array.mem_toList_iff.mp ba);simp[DictEntry.refKey,adt]
  have aaD:¬aZ.toList.any (·.refKey)=ao:=by rw[a];exact ke
  rw[if_neg aaD];exact congrArg J e
def uo.look{x:ag}(ae:uo h x ah C f3):∃hr,PySem.W.InstAt h x (nT C ah) C (J hr)/\∀name,JR name hr=J (f3 name) :=
 let ⟨hr,aK,aC⟩:=TN ae.ns
 ⟨hr,⟨ae.obj,rfl,rfl,aK⟩,aC⟩
section
variable {prog:dR} {w:dd} {A:ee} {E:ax->aT->Prop} {s:aT} {K:bT} {x ah C f:ag} {f3:aa->Option ax} {name:aa} {v:ax}
def get_map{expr:Bool}{Q:ax->aT->Prop}(X:K.In s.heap)(ae:uo s.heap x ah C f3)(bh:EG K C name=ao)(fg:JP K C=ao)
  (aN:gU K (.ref C) name=J aA) (cV:f3 name=J v) (lj:PySem.W.handedIn v=ao) (h:Q v {s with toks:=s.toks+1}) :
  cc (model prog w) A (getAttr (.ref x) name expr) Q E s:=by
 obtain⟨hr,eQ,aC⟩:=ae.look;exact PySem.W.get_value X eQ (PySem.W.plainGet_of bh).1 (PySem.W.findObj_own fg aN I (by rw[aC,cV])) lj h
def UR{Q:ax×List ax->aT->Prop}(X:K.In s.heap)(ae:uo s.heap x ah C f3)(bh:EG K C name=ao)
  (aD:gU K (.ref C) name=J (J (.ref f))) (aP:JQ K (.ref f)=ao) (cV:f3 name=aA) (h:Q (.ref f,[.ref x]) s) :
  cc (model prog w) A (getMethod (.ref x) name pl) Q E s:=by
 obtain⟨hr,eQ,aC⟩:=ae.look;exact PySem.W.method_fn X eQ (PySem.W.plainGet_of bh).1 (PySem.W.plainGet_of bh).2 aD (beq_iff_eq.mp aP) (by show(JR name hr).map (·.isSome)=J aI;rw[aC,cV];rfl) h
def Vm(X:K.In s.heap)(ae:uo s.heap x ah C f3)
  (hs:gU K (.ref C) "__setattr__"=J (J (.builtin "object.__setattr__"))) (aX:PySem.W.plainOver K C=ao) (aP:PySem.W.takerIn K C name=J aA) (fg:JP K C=ao)
  (hw:PySem.Within f3 ns) (jQ:ns.length<=cp)
  (h:∀h',uo h' x ah C (fun y=>if y=name then J v else f3 y)->bR.SameBut ah s.heap h'->Q () {s with heap:=h',toks:=s.toks+2}) :
  cc (model prog w) A (setAttr (.ref x) name v) Q E s:=by
 obtain⟨hr,eQ,aC⟩:=ae.look;refine PySem.W.set_plain X eQ hs (PySem.W.osa_open (s:={s with toks:=s.toks+1}) (r:=aA) X eQ aX aP fun b=>?_);obtain⟨fb,hc,y5⟩:=PySem.W.any_some fg;have av:s.heap.get? x=J ⟨.ref C,J ah,.plain,#[]⟩:=ae.obj;refine cO (e3 (cO (cO (wpAny_loadPart av (cO (PySem.W.Looks.here (s:={s with toks:=s.toks+1}) (PySem.W.looks_clsIn X hc) ?_))))));rw[y5];refine e3 (a:=J ah) (cO (e3 (cO ?_)));refine wpAny_nsSet1 (s:={s with toks:=s.toks+1}) ae.ns fun h' sl gd=>?_;obtain⟨alz,aky,akw,adI,ac6,ac1⟩:=sl.count (PySem.Within.cons name v hw);refine cO (wpAny_lookBehind adI (by rw[ac6];exact pastItsLine_dict (c5 ac1 (by rw[dW];lia))) ?_);exact e3 (h _ ⟨(gd.2 _ (fJ ae.ne)).trans ae.obj,sl,ae.ne⟩ gd)
def UN{R:Result->aT->Prop}{vs:List ax}(X:K.In s.heap)(hm:Am K C=ao)
  (aG:gU K (.ref C) "__init__"=J (J (.ref f))) (aD:PySem.W.typeIn K (.ref f)=J (.type "function"))
  (h:pa (model prog w) (A.under (.builtin "type.__call__" ⟨.ref C::vs,kw⟩)) (.call (.ref f) ⟨.ref (s.heap.objs.size+1)::vs,kw⟩) (PySem.W.InitBack (s.heap.objs.size+1) R)
   {s with heap:=(s.heap.push nS).push (nT C s.heap.objs.size)}) :
  pa (model prog w) A (.call (.ref C) ⟨vs,kw⟩) R s:=by
 obtain⟨fg,g,d,t,os⟩:=s;exact PySem.W.make_core (PySem.W.makes_of X hm) (PySem.W.looks_findIn X aG) (fun self=>PySem.W.bind_fn X self aD) (.inl I) h
def TM{R:Result->aT->Prop}(X:K.In s.heap)(hm:Am K C=ao)
  (aG:gU K (.ref C) "__init__"=J (J (.builtin "object.__init__")))
  (al:∀self,PySem.W.Looks (model prog w) s.heap (bindSpecial (.builtin "object.__init__") self) (.builtin "object.__init__",[self]))
  (h:pa (model prog w) (A.under (.builtin "type.__call__" ⟨[.ref C],[]⟩)) (.call (.builtin "object.__init__") ⟨[.ref (s.heap.objs.size+1)],[]⟩) (PySem.W.InitBack (s.heap.objs.size+1) R)
   {s with heap:=(s.heap.push nS).push (nT C s.heap.objs.size)}) :
  pa (model prog w) A (.call (.ref C) ⟨[],[]⟩) R s:=by
 obtain⟨fg,g,d,t,os⟩:=s;exact PySem.W.make_core (PySem.W.makes_of X hm) (PySem.W.looks_findIn X aG) al (.inr ⟨I,I⟩) h
end
noncomputable def fF(f:aa)(v:V):List (aa×V)->List (aa×V)
 |[]=>[(f,v)]
 |(g,x)::r=>if g=f then(g,v)::r else(g,x)::fF f v r
theorem LF(f g:aa)(v:V):∀fs:List (aa×V),(fF f v fs).lookup g=if g=f then J v else fs.lookup g
 | []=>by
  show List.lookup g [(f,v)]=_;by_cases h:g=f
  ·have al:(g == f)=ao:=beq_iff_eq.mpr h;simp only[List.lookup,al,if_pos h]
  ·have al:(g == f)=aI:=beq_eq_false_iff_ne.mpr h;simp only[List.lookup,al,if_neg h]
 | (k,x)::r=>by
  have bP:=LF f g v r;rw[show fF f v ((k,x)::r)=(if k=f then(k,v)::r else(k,x)::fF f v r)from rfl];by_cases hk:k=f
  ·rw[if_pos hk];by_cases h:g=k
   ·have al:(g == k)=ao:=beq_iff_eq.mpr h;simp only[List.lookup,al,if_pos (h.trans hk)]
   ·have al:(g == k)=aI:=beq_eq_false_iff_ne.mpr h;simp only[List.lookup,al,if_neg (fun e:g=f=>h (e.trans hk.symm))]
  ·rw[if_neg hk];by_cases h:g=k
   ·have al:(g == k)=ao:=beq_iff_eq.mpr h;simp only[List.lookup,al,if_neg (fun e:g=f=>hk (h.symm.trans e))]
   ·have al:(g == k)=aI:=beq_eq_false_iff_ne.mpr h;simp only[List.lookup,al];exact bP
theorem GS(f:aa)(v:V):∀fs:List (aa×V),f∈(fF f v fs).map (·.1)/\∀g,g∈fs.map (·.1)->g∈(fF f v fs).map (·.1)
 |[]=>⟨by simp[fF],fun g h=>by simp at h⟩
 | (k,x)::r=>by
  obtain⟨dC,df⟩:=GS f v r;rw[show fF f v ((k,x)::r)=(if k=f then(k,v)::r else(k,x)::fF f v r)from rfl];by_cases hk:k=f
  ·rw[if_pos hk];subst hk;exact⟨by simp,fun g h=>by simpa using h⟩
  ·rw[if_neg hk];refine⟨?_,fun g h=>?_⟩
   ·rw[gI];exact d9 _ dC
   ·rw[gI]at h ⊢;rcases dJ.mp h with e|e
    .exact dJ.mpr (.inl e)
    .exact d9 _ (df g e)
theorem LH(f:aa)(v:V):∀fs:List (aa×V),(fF f v fs).length<=fs.length+1
 |[]=>by simp[fF]
 |(k,x)::r=>by
  have bP:=LH f v r;rw[show fF f v ((k,x)::r)=(if k=f then(k,v)::r else(k,x)::fF f v r)from rfl];by_cases hk:k=f
  .rw[if_pos hk,dW,dW];lia
  .rw[if_neg hk,dW,dW];lia
def qH.aiQ{v:V}{o:Option ax}(r:qH (J v) o):∃u,o=J u/\RelV v u:=by
 cases o with
 |none=>exact(show False from r).elim
 |some u=>exact⟨u,I,r⟩
def qH.none_of{o:Option ax}(r:qH aA o):o=aA:=by
 cases o with
 |none=>rfl
 |some u=>exact(show False from r).elim
def TS{v:V}(r:RelV v u):PySem.W.handedIn u=ao:=by
 cases v with
 |bM=>cases(show u=ax.none from r);rfl
 |aS b=>cases(show u=ax.bool b from r);rfl
 |int i=>obtain⟨t,e⟩:=(show ∃t,u=ax.int i t from r);cases e;rfl
 |str x=>obtain⟨t,e⟩:=(show ∃t,u=ax.str x t from r);cases e;rfl
 |lL b=>obtain⟨t,e⟩:=(show ∃t,u=ax.bytes b t from r);cases e;rfl
 |uU b=>obtain⟨t,e⟩:=(show ∃t,u=ax.float b t from r);cases e;rfl
 |ref a=>cases(show u=ax.ref a from r);rfl
 |ty n=>cases(show u=ax.type n from r);rfl
section
variable {P:dR} {w:dd} {H H':aq} {h h':bR} {a C ah:ag} {fs fs':List (aa×V)}
def CU(aF:hE P w H h)(e:H a=J (.ins C ah fs)):∃f3,uo h a ah C f3/\(∀f,qH (fs.lookup f) (f3 f))/\PySem.Within f3 (fs.map (·.1))/\fs.length<=1000/\H ah=J (.own a):=by
 obtain⟨d,z,ne,eG,f3,n,r,q⟩:=(show iJ P w H h a (.ins C ah fs)from aF a _ e);exact⟨f3,⟨eG,n,ne⟩,r,q,z,d⟩
end
structure e7(K:bT)(C:ag):Prop where
 afN:EG K C aa.empty=ao
 hd:JP K C=ao
 po:PySem.W.plainOver K C=ao
 aiJ:gU K (.ref C) "__setattr__"=J (J (.builtin "object.__setattr__"))
def e7.get(c:e7 K C)(f:aa):EG K C f=ao:=c.afN
def kb(K:bT)(C:ag)(f:aa):Prop:=gU K (.ref C) f=J aA
def kb.ajt{f:aa}(n:kb K C f):PySem.W.takerIn K C f=J aA:=by
 unfold PySem.W.takerIn;rw[show gU K (.ref C) f=J aA from n];rfl
structure v5(K:bT)(C:ag)(m:aa)(f:ag):Prop where
 at_:gU K (.ref C) m=J (J (.ref f))
 fn:JQ K (.ref f)=ao
 dz:ry K (.ref f)=ao
section
variable {X:bS} {ar:List (ag×cE)} {ab:St} {H:aq} {s:aT} {a C ah:ag} {fs:List (aa×V)} {f:aa} {v:V} {A:ee} {E:ax->aT->Prop}
def aag{b:Bool}{Q:ax->aT->Prop}(ae:Inv X ar ab H s)(e:H a=J (.ins C ah fs))(c:e7 X.K C)(n:kb X.K C f)(l:fs.lookup f=J v)
  (h:∀u bw,Inv X ar ab H bw->RelV v u->Q u bw):cc (model X.prog X.w) A (getAttr (.ref a) f b) Q E s:=by
 obtain⟨f3,O,r,_,_,_⟩:=CU ae.aF e;obtain⟨u,cG,fo⟩:=qH.aiQ (v:=v) (o:=f3 f) (by rw[<-l];exact r f);exact get_map ae.h2 O (c.get f) c.hd n cG (TS fo) (h u _ (ae.tok _) fo)
def Cj{m:aa}{g:ag}{Q:ax×List ax->aT->Prop}(ae:Inv X ar ab H s)(e:H a=J (.ins C ah fs))(c:e7 X.K C)(k:v5 X.K C m g)(l:fs.lookup m=aA)
  (h:Q (.ref g,[.ref a]) s):cc (model X.prog X.w) A (getMethod (.ref a) m pl) Q E s:=by
 obtain⟨f3,O,r,_,_,_⟩:=CU ae.aF e;have bj:f3 m=aA:=qH.none_of (by rw[<-l];exact r m);exact UR ae.h2 O (c.get m) k.at_ k.fn bj h
def ZW(ae:Inv X ar ab H s)(e:H a=J (.ins C ah fs))(c:e7 X.K C)(n:kb X.K C f)(aC:fs.length<1000)(cX:RelV y u)
  (h:∀bw,Inv X ar ab (upd H a (.ins C ah (fF f y fs))) bw->Q () bw):cc (model X.prog X.w) A (setAttr (.ref a) f u) Q E s:=by
 obtain⟨f3,O,r,jS,_,aK⟩:=CU ae.aF e;have bX:(fs.map (·.1)).length<=cp:=by rw[cd,sizeLine_eq];lia
 refine Vm ae.h2 O c.aiJ c.po n.ajt c.hd jS bX fun h' Fe ro=>h _ ?_;have hd:∃o,h'.get? ah=J o:=let ⟨o,_,_,e',_⟩:=Fe.ns;⟨o,e'⟩;refine ae.write (x:=a) (e:=ah) (by rw[e];exact True.intro) (.inr aK) (fun b q al z=>(ro.2 b al).trans z) hd ?_;refine⟨by rw[bx O.ne];exact aK,?_,O.ne,Fe.obj,_,Fe.ns,fun g=>?_,fun g bh=>?_⟩
 .have:=LH f y fs;lia
 ·show qH ((fF f y fs).lookup g) (if g=f then J u else f3 g);rw[LF];by_cases q:g=f
  .rw[if_pos q,if_pos q];exact cX
  .rw[if_neg q,if_neg q];exact r g
 ·by_cases q:g=f
  .rw[q];exact(GS f y fs).1
  ·refine(GS f y fs).2 g (jS g fun z=>bh ?_);show(if g=f then J u else f3 g)=aA;rw[if_neg q];exact z
def Inv.made(ae:Inv X ar ab H s):Inv X ar ab (upd (upd H s.heap.objs.size (.own (s.heap.objs.size+1))) (s.heap.objs.size+1) (.ins C s.heap.objs.size []))
  {s with heap:=(s.heap.push nS).push (nT C s.heap.objs.size)}:=by
 have aQ:(s.heap.push nS).get? s.heap.objs.size=J nS:=iw s.heap rfl
 have aR:((s.heap.push nS).push (nT C s.heap.objs.size)).get? (s.heap.objs.size+1)=J (nT C s.heap.objs.size):=by
  have:=iw (s.heap.push nS) (o:=nT C s.heap.objs.size) rfl;rwa [bR.size_push]at this
 have gn:(s.heap.push nS).Ns s.heap.objs.size (fun _=>aA):=⟨nS,#[],_,aQ,rfl,(fun e he=>absurd he (by simp)),fun _=>rfl⟩;have bC:=ae.laid (a:=s.heap.objs.size) (o :=.own (s.heap.objs.size+1)) (h':=s.heap.push nS) (t':=s.toks) (fun b u q=>gZ _ q) (cR _) ⟨_,aQ⟩;refine bC.laid (a:=s.heap.objs.size+1) (o :=.ins C s.heap.objs.size []) (t':=s.toks) (fun b u q=>gZ _ q) (Nat.le_of_eq (bR.size_push _ _)) ?_;have ne:s.heap.objs.size≠s.heap.objs.size+1:=hU (Nat.lt_succ_self _);refine⟨by rw[bx ne,aB],UF _,ne,aR,fun _=>aA,(bR.Ns1.of_empty gn).at fun o q=>gZ _ q,fun _=>True.intro,fun y ba=>absurd rfl ba⟩
def V0{f:aa}{s:aT}{Q:ax->aT->Prop}(al:attributeBase e f env (eval e env)=eval e env)
  (h:cc (model prog w) A (eval e env) (fun o eD=>cc (model prog w) A (getAttr o f ao) Q E eD) E s):cc (model prog w) A (eval (.Attribute e f bc) env) Q E s :=
 Attribute_any_ h (by rw[arm_eval_Attribute,al])
end
inductive J6(K:bT)(f:aa)(x:V)(H:aq)(Q:V->Prop):Prop where
 |mk (a C ah:ag) (fs:List (aa×V)) (v:V) (e:x=.ref a) (h:H a=J (.ins C ah fs)) (c:e7 K C) (n:kb K C f) (l:fs.lookup f=J v) (q:Q v):J6 K f x H Q
def ai3(K:bT)(cN:TE)(f:aa):TE:=fun ab H Q=>cN ab H fun x H1=>J6 K f x H1 fun v=>Q v H1
def aiI(K:bT)(cN xA:TE)(f:aa):gk:=fun D ab H=>xA ab H fun y H1=>cN ab H1 fun x az=>∃a C ah fs,x=.ref a/\az a=J (.ins C ah fs)/\e7 K C/\kb K C f/\fs.length<1000/\
 D.nx ab (upd az a (.ins C ah (fF f y fs)))
section
variable {X:bS} {o e value:c3} {f:aa} {bc pos' t5:Pos} {cN xA:TE}
def dp(he:cF X e cN)(al:attributeBase e f X.env (eval e X.env)=eval e X.env):cF X (.Attribute e f bc) (ai3 X.K cN f):=by
 intro ar s ab H Q ae h;refine V0 al (dg (he ar s ab H _ ae h) fun u s1 b3=>?_);obtain⟨x,H1,bC,bH,a,C,ah,fs,v,ex,cD,c,n,l,q⟩:=b3;subst ex;obtain rfl:u=ax.ref a:=bH;exact aag bC cD c n l fun u' s2 cW fo=>⟨v,H1,cW,fo,q⟩
def jg(aN:cF X o cN)(cV:cF X value xA)(hs:swapsWith value (J (.Attribute o f pos')) bc.line X.env=pure aI):lC X (.Assign [.Attribute o f pos'] value bc) (aiI X.K cN xA f):=by
 intro ar s ab H D ae h;refine plainObj_wpAny_Assign_Attribute (dg (cV ar s ab H _ ae h) fun u s1 ⟨y,H1,bC,cX,q⟩=>dg (aN ar s1 ab H1 _ bC q) fun hN s2 b3=>?_) hs;obtain⟨x,az,cW,bH,a,C,ah,fs,ex,cD,c,n,l,b8⟩:=b3;subst ex;obtain rfl:hN=ax.ref a:=bH;exact ZW cW cD c n l cX fun i6 jC=>⟨ab,_,jC,b8⟩
end
section
variable {X:bS} {ar:List (ag×cE)} {ab:St} {H:aq} {s:aT} {A:ee} {E:ax->aT->Prop} {Q:ax->aT->Prop} {c:ax} {b:Bool}
inductive me (K:bT) (H:aq):V->ax->Prop where
 |bM:me K H .bM (.type "NoneType")
 |aS (x:Bool):me K H (.aS x) (.type "bool")
 |int (i:Int):me K H (.int i) (.type "int")
 |str (x:aa):me K H (.str x) (.type "str")
 |uU (x:UInt64):me K H (.uU x) (.type "float")
 |lst {a:ag} {xs:List V} (e:H a=J (.lst xs)):me K H (.ref a) (.type "list")
 |j0 {a:ag} {o:cE} {xs:List V} (e:H a=J (.j0 o (.lst xs))):me K H (.ref a) (.type "list")
 |tup {a:ag} {xs:List V} (e:H a=J (.tup xs)):me K H (.ref a) (.type "tuple")
 |oi {a:ag} {gR:List (Key×V)} (e:H a=J (.oi gR)):me K H (.ref a) (.type "dict")
 |mq {a:ag} {gR:List (List Key×V)} (e:H a=J (.mq gR)):me K H (.ref a) (.type "dict")
 | ins {a C ah:ag} {fs:List (aa×V)} (e:H a=J (.ins C ah fs)) (cl:e7 K C) (aN:gU K (.ref C) "__class__"=J (J (.builtin "object.__class__")))
   (bj:PySem.W.specialIn K (.builtin "object.__class__") "__get__"=J (J (.builtin "getset_descriptor.__get__"))) (p7:PySem.W.takesIn K (.builtin "object.__class__")=J ao)
   (hm:PySem.W.mroIn K C (.type "object")=J ao):me K H (.ref a) (.ref C)
def Mh{x:V}{t:ax}(ae:Inv X ar ab H s)(bH:RelV x u)(ty:me X.K H x t)(e:vG X.K t c=J b)(h:∀dP,Q (.bool b) {s with toks:=dP}):
  cc (model X.prog X.w) A (call (.builtin "isinstance") [u,c]) Q E s:=by
 cases ty with
 |bM=>cases(show u=ax.none from bH);exact sU PySem.W.kitx_none ae.h2 True.intro e (fun z=>nomatch z) h
 |aS y=>cases(show u=ax.bool y from bH);exact sU PySem.W.kitx_bool ae.h2 True.intro e (fun z=>nomatch z) h
 |int i=>obtain⟨t,q⟩:=(show ∃t,u=ax.int i t from bH);cases q;exact sU PySem.W.kitx_int ae.h2 True.intro e (fun z=>nomatch z) h
 |str y=>obtain⟨t,q⟩:=(show ∃t,u=ax.str y t from bH);cases q;exact sU PySem.W.kitx_str ae.h2 True.intro e (fun z=>nomatch z) h
 |uU y=>obtain⟨t,q⟩:=(show ∃t,u=ax.float y t from bH);cases q;exact sU PySem.W.kitx_float ae.h2 True.intro e (fun z=>nomatch z) h
 | @lst a xs cD =>
  cases(show u=ax.ref a from bH);obtain⟨_,_,n,_,ai⟩:=(show iJ X.prog X.w H s.heap a (.lst xs)from ae.aF a _ cD);exact sU PySem.W.kitx_list ae.h2 ⟨_,ai,I⟩ e (fun z=>nomatch z) h
 | @j0 a eG xs cD =>
  cases(show u=ax.ref a from bH);obtain⟨_,_,_,n,_,ai⟩:=(show iJ X.prog X.w H s.heap a (.j0 eG (.lst xs))from ae.aF a _ cD);exact sU PySem.W.kitx_list ae.h2 ⟨_,ai,I⟩ e (fun z=>nomatch z) h
 | @tup a xs cD =>
  cases(show u=ax.ref a from bH);obtain⟨_,_,_,p⟩:=(show iJ X.prog X.w H s.heap a (.tup xs)from ae.aF a _ cD);obtain⟨o,ai,aj,_⟩:=p;exact sU PySem.W.kitx_tuple ae.h2 ⟨o,ai,aj⟩ e (fun z=>nomatch z) h
 | @oi a gR cD =>
  cases(show u=ax.ref a from bH);obtain⟨_,_,vs,_,p⟩:=(show iJ X.prog X.w H s.heap a (.oi gR)from ae.aF a _ cD);obtain⟨o,aZ,hi,ai,aj,_⟩:=p;exact sU PySem.W.kitx_dict ae.h2 ⟨o,ai,aj.1⟩ e (fun z=>nomatch z) h
 | @mq a gR cD=>exact(show False from ae.aF a _ cD).elim
 | @ins a C ah fs cD cl aN bj p7 hm =>
  cases(show u=ax.ref a from bH);obtain⟨f3,O,_⟩:=CU ae.aF cD;obtain⟨hr,eQ,_⟩:=O.look;exact sU (PySem.W.kitx_own (cl.get _) cl.hd aN bj p7 hm) ae.h2 eQ e (fun z=>nomatch z) h
end
structure gM(k:Nat)(A:ee):Prop where
 hd:A.handled=aA
 C5:A.depth+3*k+5<recursionLimit
 un:A.units+16*k+200<cLine
 Dk:A.guards=J []
def gM.mono(r:gM k A)(h:j<=k):gM j A:=⟨r.hd,by have:=r.C5;lia,by have:=r.un;lia,r.Dk⟩
theorem gM.deeper(r:gM (k+1) A)(env:Env):gM k (A.deeper env) :=
 ⟨r.hd,by have:=r.C5;show A.depth+1+3*k+5<_;lia,by have:=r.un;show A.units+3+16*k+200<_;lia,r.Dk⟩
def aab:(A.under (.builtin "type.__call__" ⟨.ref C::us,kw⟩)).depth=A.depth+1:=by
 first|rfl|simp[ee.under,Code.weight,Code.isCreation,Code.isGuard,Code.isCaller,Code.frames,Code.isFrame,guardIds]
def aaa:(A.under (.builtin "type.__call__" ⟨.ref C::us,kw⟩)).units=A.units+1:=by
 first|rfl|simp[ee.under,Code.cUnits,Code.frames,Code.isFrame]
def gM.make(r:gM (k+1) A)(C:ag)(us:List ax)(kw:List (aa×ax)):gM k (A.under (.builtin "type.__call__" ⟨.ref C::us,kw⟩)) :=
 ⟨r.hd,by have:=r.C5;rw[aab];lia,by have:=r.un;rw[aaa];lia,r.Dk⟩
theorem gM.depth(r:gM k A):A.depth<recursionLimit:=by have:=r.C5;lia
def JC:iL:=fun _ H Q=>Q [] H
def ai0(cN:TE)(dA:iL):iL:=fun ab H Q=>cN ab H fun x H1=>dA ab H1 fun xs az=>Q (x::xs) az
section
variable {X:bS} {e:c3} {aZ:List c3} {cT:TE} {t:iL} {bc:Pos}
def ay:jl X [] JC:=fun _ _ _ _ H Q ae h=>Calls.spliced_nil ⟨[],H,ae,.nil,h⟩
def ak(aN:cF X e cT)(au:jl X aZ t)(hs:xv (eI (e::aZ) X.env=(aI,eval e X.env)::eI aZ X.env) z0):jl X (e::aZ) (ai0 cT t):=by
 intro bc ar s ab H Q ae h;rw[hs];show cc _ _ (spliced ((aI,eval e X.env)::backTo bc (eI aZ X.env))) _ _ s;refine Calls.spliced_cons (dg (aN ar s ab H _ ae h) fun u s1 b3=>?_);obtain⟨x,H1,bC,b9,cn⟩:=b3;refine dg (au bc ar s1 ab H1 _ bC cn) fun us s2 b3=>?_;obtain⟨xs,az,cW,ej,b8⟩:=b3;exact ⟨x::xs,az,cW,.cons b9 ej,b8⟩
def ajh(t:iL):TE:=fun ab H Q=>t ab H fun xs H1=>xs.length<=cp/\∀p,H1 p=aA->Q (.ref p) (upd H1 p (.tup xs))
def ai7(t:iL):TE:=fun ab H Q=>t ab H fun xs H1=>xs.length<=cp/\∀p,H1 p=aA->Q (.ref p) (upd H1 p (.lst xs))
def gJ{rv}(h:jl X aZ t):cF X (.Tuple aZ rv bc) (ajh t):=by
 intro ar s ab H Q ae bl;refine wpAny_Tuple_spliced (dg (h bc ar s ab H _ ae bl) fun us s1 b3=>?_);obtain⟨xs,H1,bC,r,z,q⟩:=b3;refine ⟨by rw[<-r.length];exact z,?_⟩;have aD:H1 s1.heap.objs.size=aA:=bC.aF.fresh (cR _);refine⟨.ref s1.heap.objs.size,upd H1 s1.heap.objs.size (.tup xs),bC.laid (t':=s1.toks) (fun b u e=>gZ _ e) (cR _) ?_,I,q _ aD⟩;exact⟨z,us,r,⟨_,iw _ I,I,_,I⟩⟩
def e0(h:jl X aZ t):cF X (.List aZ bc) (ai7 t):=by
 intro ar s ab H Q ae bl;refine wpAny_List_spliced (dg (h bc ar s ab H _ ae bl) fun us s1 b3=>?_);obtain⟨xs,H1,bC,r,z,q⟩:=b3;refine ⟨by rw[<-r.length];exact z,?_⟩;have aD:H1 s1.heap.objs.size=aA:=bC.aF.fresh (cR _);refine⟨.ref s1.heap.objs.size,upd H1 s1.heap.objs.size (.lst xs),bC.laid (t':=s1.toks) (fun b u e=>gZ _ e) (cR _) ?_,I,q _ aD⟩;exact⟨z,us,0,r,iw _ I⟩
end
noncomputable abbrev cH:=List V->aq->bI->cP->Prop
noncomputable abbrev nU:=List Env->aq->aT->cP->ax->aT->Prop
structure uh(P:dR)(w:dd)(K:bT)(mg:aa->Option ax)(zn:bR)(A:ee)(outer:List Env)(s:aT)(H:aq):Prop where
 frames:A.frames=J outer
 mod:Mod K mg zn
 bs:∀b o,zn.get? b=J o->s.heap.get? b=J o/\H b=aA
 qR:zn.objs.size<=s.heap.objs.size
 nv:s.heap.FunFrames zn outer
 tx:∀b∈ow outer,H b=aA
 aF:hE P w H s.heap
 bare:AllBare s.gens
def EL(outer:List Env)(P:dR)(w:dd)(H:aq)(s:aT)(Q:bI)(u:ax)(bw:aT):Prop :=
 ∃v H',bw.os=s.os/\AllBare bw.gens/\hV (ow outer) [] H H' s.heap bw.heap/\hE P w H' bw.heap/\RelV v u/\Q v H'
def R2(CX:nU)(outer:List Env)(P:dR)(w:dd)(H:aq)(s:aT)(Q:bI)(E:cP)(r:Result)(bw:aT):Prop :=
 match r with
 |.ok (.ret u)=>EL outer P w H s Q u bw
 |.ok _=>False
 |.error e=>CX outer H s E e bw
structure cB(P:dR)(w:dd)(K:bT)(mg:aa->Option ax)(zn:bR)(CX:nU)(k:Nat)(f:ag)(fd:i9)(aJ:List aa)(sp:cH):Prop where
 len:∀vs H Q E,sp vs H Q E->vs.length=aJ.length
 run:∀(A:ee)(outer:List Env)(s:aT)(H:aq)(args:Args)(us:List ax)(vs:List V)(Q:bI)(E:cP),gM k A->uh P w K mg zn A outer s H->BindsTo s fd args (aJ.zip us)->Vals vs us->sp vs H Q E->
  pa (model P w) A (.call (.ref f) args) (R2 CX outer P w H s Q E) s
variable {f:ag}
theorem cB.mono{CX:nU}{sp:cH}(F:cB P w K mg zn CX j f fd aJ sp)(h:j<=k):
  cB P w K mg zn CX k f fd aJ sp:=⟨F.len,fun A outer s H args us vs Q E au=>F.run A outer s H args us vs Q E (au.mono h)⟩
def uh.make(e:uh P w K mg zn A outer s H)(C:ag)(us:List ax)(kw:List (aa×ax)):
  uh P w K mg zn (A.under (.builtin "type.__call__" ⟨.ref C::us,kw⟩)) outer s H:=⟨by first|exact e.frames|(simpa [ee.under,Code.envs,Code.isFrame,pushEnvs] using e.frames),e.mod,e.bs,e.qR,e.nv,e.tx,e.aF,e.bare⟩
section
variable {X:bS} {ar:List (ag×cE)} {ab:St} {H:aq} {s bw:aT}
def Inv.N5(ae:Inv X ar ab H s):uh X.prog X.w X.K X.mg X.zn X.A X.stack s H :=
 ⟨ae.ok.frames,ae.ok.mod,ae.bs,c5 ae.ok.qR ae.dt,ae.stack,ae.RE,ae.aF,ae.bare⟩
def Inv.after{Q:bI}(ae:Inv X ar ab H s)(h:EL X.stack X.prog X.w H s Q u bw):ja X ar ab Q u bw:=by
 obtain⟨v,H',os,bare,un,aF,r,q⟩:=h;obtain⟨fg,g,d,t,zQ⟩:=bw;obtain rfl:zQ=s.os:=os;exact⟨v,H',ae.call (h':=fg) (g':=g) (d':=d) (t':=t) (ch:=[]) un aF bare (fun b z=>absurd z (by simp)),r,q⟩
end
def RK(sp:cH)(dvs:List V)(E:cP)(t:iL):TE:=fun ab H Q=>t ab H fun vs H1=>sp (vs++dvs) H1 Q E
inductive Kf(C:ag)(m:aa)(x:V)(H:aq)(R:Prop):Prop where
 |mk (a ah:ag) (fs:List (aa×V)) (e:x=.ref a) (h:H a=J (.ins C ah fs)) (l:fs.lookup m=aA) (q:R):Kf C m x H R
def Ep(C:ag)(m:aa)(sp:cH)(dvs:List V)(E:cP)(cN:TE)(t:iL):TE:=fun ab H Q=>cN ab H fun x H1=>Kf C m x H1 (
 t ab H1 fun vs az=>sp (x::(vs++dvs)) az Q E)
def RL(C:ag)(sp:cH)(dvs:List V)(E:cP)(t:iL):TE:=fun ab H Q=>t ab H fun vs H1=>∀x ah,H1 x=aA->H1 ah=aA->ah≠x->
 sp (.ref x::(vs++dvs)) (upd (upd H1 ah (.own x)) x (.ins C ah [])) (fun v az=>v=.bM/\Q (.ref x) az) E
def Binds(K:bT)(fd:i9)(aJ:List aa)(ds:List ax):Prop :=
 ∀(s:aT)(us:List ax),K.In s.heap->(us++ds).length=aJ.length->BindsTo s fd ⟨us,[]⟩ (aJ.zip (us++ds))
def Binds.all(h:∀us:List ax,us.length=aJ.length->bindArgs fd ⟨us,[]⟩=pure (aJ.zip us)):Binds K fd aJ []:=fun s us _ aC=>by
 rw[List.append_nil]at aC ⊢;exact .of_eq (h us aC)
def Passes(CX:nU)(X:bS)(E:cP):Prop:=∀(ar:List (ag×cE))(ab:St)(H:aq)(s:aT)(e:ax)(bw:aT),Inv X ar ab H s->CX X.stack H s E e bw->X.xe e bw
section
variable {X:bS} {CX:nU} {k:Nat} {f C:ag} {fd:i9} {aJ:List aa} {sp:cH} {dvs:List V} {ds:List ax} {E:cP} {x m:aa} {p bc apos:Pos} {e o:c3} {aZ:List c3} {cN:TE} {t:iL}
def yC{ab:St}{Q:bI}{vs:List V}(F:cB X.prog X.w X.K X.mg X.zn CX k f fd aJ sp)(au:gM k X.A)(al:Binds X.K fd aJ ds)(hd:Vals dvs ds)(av:Passes CX X E)
  (ae:Inv X ar ab H s) (r:Vals vs us) (h:sp (vs++dvs) H Q E):cc (model X.prog X.w) X.A (call (.ref f) us) (ja X ar ab Q) X.xe s:=by
 have ej:Vals (vs++dvs) (us++ds):=r.append hd;have aC:(us++ds).length=aJ.length:=by rw[<-ej.length];exact F.len _ _ _ _ h
 refine EH (vH (F.run X.A X.stack s H ⟨us,[]⟩ (us++ds) (vs++dvs) Q E au ae.N5 (al s us ae.h2 aC) ej h) fun r bw bl=>?_);cases r with
 |error e=>exact av ar ab H s e bw ae bl
 |ok nu =>
  cases nu with
  |ret u=>exact ae.after bl
  |next=>exact False.elim bl
  |brk=>exact False.elim bl
  |cont=>exact False.elim bl
def Vy(F:cB X.prog X.w X.K X.mg X.zn CX k f fd aJ sp)(au:gM k X.A)(bh:jU X x)(hm:X.mg x=J (.ref f))(hk:ry X.K (.ref f)=ao)(al:Binds X.K fd aJ ds)(hd:Vals dvs ds)(av:Passes CX X E)
  (aN:jl X (e::aZ) t) (ny:xv ((x == ("__debug__":aa))=aI) yc) (he:xv (eI (e::aZ) X.env=(aI,eval e X.env)::eI aZ X.env) z0) (hn:xv ((backTo bc (eI aZ X.env)).any (·.1)=aI) z0) :
  cF X (.Call (.Name x p) (e::aZ) [] bc) (RK sp dvs E t):=by
 intro ar s ab H Q ae h;refine vJ (CT ae bh hm ?_ ny);refine JO (h₀:=X.zn) ae.ok.mod.xf hk (dg (aN bc ar s ab H _ ae h) fun us s1 b3=>?_) he hn;obtain⟨vs,H1,bC,r,q⟩:=b3;refine ⟨bC.h2,?_⟩;exact yC F au al hd av bC r q
def Vv(he:cF X o cN)(c:e7 X.K C)(hm:v5 X.K C m f)(F:cB X.prog X.w X.K X.mg X.zn CX k f fd aJ sp)(au:gM k X.A)(al:Binds X.K fd aJ ds)(hd:Vals dvs ds)(av:Passes CX X E)(aN:jl X (e::aZ) t)
  (vc:xv (eI (e::aZ) X.env=(aI,eval e X.env)::eI aZ X.env) z0) (hn:xv ((backTo bc (eI aZ X.env)).any (·.1)=aI) z0)
  (aP:xv (eval (.Call (.Attribute o m apos) (e::aZ) [] bc) X.env=(do
   let hN <-eval o X.env
   standAt apos.atName
   let (f,first) <-holding [hN] (getMethod hN m pl)
   callWith bc f first (backTo bc (eI (e::aZ) X.env)) (backToKw bc (vI [] X.env)))) z0) :
  cF X (.Call (.Attribute o m apos) (e::aZ) [] bc) (Ep C m sp dvs E cN t):=by
 intro ar s ab H Q ae h;refine JS (pl:=pl) (dg (he ar s ab H _ ae h) fun u s1 b3=>?_) aP;obtain⟨x,H1,bC,bH,a,ah,fs,ex,cD,l,q⟩:=b3;subst ex;obtain rfl:u=ax.ref a:=bH;refine Cj bC cD c hm l ?_;refine JO (first:=[.ref a]) (h₀:=X.zn) ae.ok.mod.xf hm.dz (dg (aN bc ar s1 ab H1 _ bC q) fun us s2 b3=>?_) vc hn;obtain⟨vs,az,cW,r,b8⟩:=b3;refine ⟨cW.h2,?_⟩;exact yC (us :=.ref a::us) (vs :=.ref a::vs) F au al hd av cW (.cons I r) b8
def UD(he:cF X o cN)(c:e7 X.K C)(hm:v5 X.K C m f)(F:cB X.prog X.w X.K X.mg X.zn CX k f fd aJ sp)(au:gM k X.A)(al:Binds X.K fd aJ ds)(hd:Vals dvs ds)(av:Passes CX X E)
  (aP:xv (eval (.Call (.Attribute o m apos) [] [] bc) X.env=(do
   let hN <-eval o X.env
   standAt apos.atName
   let (f,first) <-holding [hN] (getMethod hN m pl)
   callWith bc f first (backTo bc (eI [] X.env)) (backToKw bc (vI [] X.env)))) z0) :
  cF X (.Call (.Attribute o m apos) [] [] bc) (Ep C m sp dvs E cN JC):=by
 intro ar s ab H Q ae h;refine JS (pl:=pl) (dg (he ar s ab H _ ae h) fun u s1 b3=>?_) aP;obtain⟨x,H1,bC,bH,a,ah,fs,ex,cD,l,q⟩:=b3;subst ex;obtain rfl:u=ax.ref a:=bH;refine Cj bC cD c hm l ?_;exact PySem.W.callWith_K0 (first:=[.ref a]) bC.h2 hm.dz (yC (us:=[.ref a]) (vs:=[.ref a]) F au al hd av bC (.cons I .nil) q)
structure Fd(K:bT)(C f:ag):Prop where
 makes:Am K C=ao
 init:gU K (.ref C) "__init__"=J (J (.ref f))
 fn:JQ K (.ref f)=ao
 dz:ry K (.ref C)=ao
def Uu{ab:St}{Q:bI}{vs:List V}(M:Fd X.K C f)(F:cB X.prog X.w X.K X.mg X.zn CX k f fd aJ sp)(au:gM (k+1) X.A)(al:Binds X.K fd aJ ds)(hd:Vals dvs ds)
  (av:Passes CX X E) (ae:Inv X ar ab H s) (r:Vals vs us)
  (h:∀x ah,H x=aA->H ah=aA->ah≠x->sp (.ref x::(vs++dvs)) (upd (upd H ah (.own x)) x (.ins C ah [])) (fun v az=>v=.bM/\Q (.ref x) az) E) :
  cc (model X.prog X.w) X.A (call (.ref C) us) (ja X ar ab Q) X.xe s:=by
 have bl:=h (s.heap.objs.size+1) s.heap.objs.size (ae.aF.fresh (Nat.le_succ _)) (ae.aF.fresh (cR _)) (hU (Nat.lt_succ_self _));have cW:=Inv.made (C:=C) ae;have ej:Vals (V.ref (s.heap.objs.size+1)::(vs++dvs)) (ax.ref (s.heap.objs.size+1)::(us++ds)) :=.cons rfl (r.append hd)
 have aC:(ax.ref (s.heap.objs.size+1)::us++ds).length=aJ.length:=by
  have e:=ej.length;rw[F.len _ _ _ _ bl]at e;exact e.symm
 refine EH (UN (f:=f) ae.h2 M.makes M.init (beq_iff_eq.mp M.fn) (vH (F.run _ X.stack _ _ ⟨ax.ref (s.heap.objs.size+1)::us,[]⟩ (ax.ref (s.heap.objs.size+1)::(us++ds)) _ _ E (au.make C us [])
  (cW.N5.make C us []) (al _ (ax.ref (s.heap.objs.size+1)::us) cW.h2 aC) ej bl) fun r bw zw=>?_))
 cases r with
 |error e=>exact av ar ab _ _ e bw cW zw
 | ok nu =>
  cases nu with
  |ret u =>
   obtain⟨v,H',jC,dK,ev,gh⟩:=cW.after zw;subst ev;exact⟨dK,⟨V.ref (s.heap.objs.size+1),H',jC,I,gh⟩⟩
  |next=>exact False.elim zw
  |brk=>exact False.elim zw
  |cont=>exact False.elim zw
def Vw(M:Fd X.K C f)(F:cB X.prog X.w X.K X.mg X.zn CX k f fd aJ sp)(au:gM (k+1) X.A)(bh:jU X x)(hm:X.mg x=J (.ref C))(al:Binds X.K fd aJ ds)(hd:Vals dvs ds)(av:Passes CX X E)
  (aN:jl X (e::aZ) t) (ny:xv ((x == ("__debug__":aa))=aI) yc) (he:xv (eI (e::aZ) X.env=(aI,eval e X.env)::eI aZ X.env) z0) (hn:xv ((backTo bc (eI aZ X.env)).any (·.1)=aI) z0) :
  cF X (.Call (.Name x p) (e::aZ) [] bc) (RL C sp dvs E t):=by
 intro ar s ab H Q ae h;refine vJ (CT ae bh hm ?_ ny);refine JO (h₀:=X.zn) ae.ok.mod.xf M.dz (dg (aN bc ar s ab H _ ae h) fun us s1 b3=>?_) he hn;obtain⟨vs,H1,bC,r,q⟩:=b3;refine ⟨bC.h2,?_⟩;exact Uu M F au al hd av bC r q
end
structure bL(N P:List aa)(sc:Scope):Prop where
 kind:sc.kind=.function
 co:sc.isCoroutine=aI
 gen:sc.isGenerator=aI
 br:N.Nodup
 pre:N.take P.length=P
 par:∀x∈P,sc.names.lookup x=J .local\/sc.names.lookup x=J .cell
 afv:∀y∈sc.names,y.2≠.free
def afU(N P:List aa)(sc:Scope):Bool:=decide ((sc.kind=.function)∧(sc.isCoroutine=aI)∧(sc.isGenerator=aI)∧(N.Nodup)∧(N.take P.length=P)∧(∀x∈P,sc.names.lookup x=J .local\/sc.names.lookup x=J .cell)∧(∀y∈sc.names,y.2≠.free))
def bU{P:List aa}(h:xv (afU N P sc=ao) z3):bL N P sc:=have ⟨a,b,c,d,e,f,g⟩:=of_decide_eq_true h;⟨a,b,c,d,e,f,g⟩
theorem Mw{kindOf:aa->Option ku}{x:aa}:∀{binds:List (aa×ax)}{m:aa->Option ax},(∀v,(x,v)∉binds)->bindL kindOf binds m x=m x
 |[],_,_=>rfl
 | (n,v)::r,m,h=>by
  unfold bindL;rw[Mw fun w hw=>h w (d9 _ hw)];split
  ·have:x≠n:=by rintro rfl;exact h v g0
   simp[this]
  .rfl
theorem My{kindOf:aa->Option ku}{x:aa}:∀{binds:List (aa×ax)}{m:aa->Option ax},(∀v,(x,v)∉binds)->bindC kindOf binds m x=m x
 |[],_,_=>rfl
 | (n,v)::r,m,h=>by
  unfold bindC;rw[My fun w hw=>h w (d9 _ hw)];split
  .rfl
  ·have:x≠n:=by rintro rfl;exact h v g0
   simp[this]
theorem Mx{kindOf:aa->Option ku}{x:aa}{v:ax}:∀{P:List aa}{vs:List ax}{i:Nat}{m:aa->Option ax},P.Nodup->P[i]?=J x->vs[i]?=J v->kindOf x=J .local->
  bindL kindOf (P.zip vs) m x=J v
 |[],_,_,_,_,h,_,_=>by simp at h
 |_::_,[],_,_,_,_,h,_=>by simp at h
 |p::P,w::vs,0,m,br,ai,aj,hk=>by
  simp at ai aj;subst ai;subst aj;show bindL kindOf ((p,w)::P.zip vs) m p=_;unfold bindL;rw[Mw fun v cV=>(List.nodup_cons.mp br).1 (List.of_mem_zip cV).1,if_pos hk];simp
 |p::P,w::vs,i+1,m,br,ai,aj,hk=>by
  show bindL kindOf ((p,w)::P.zip vs) m x=_;unfold bindL;exact Mx (i:=i) (List.nodup_cons.mp br).2 (by simpa using ai) (by simpa using aj) hk
theorem Mz{kindOf:aa->Option ku}{x:aa}{v:ax}:∀{P:List aa}{vs:List ax}{i:Nat}{m:aa->Option ax},P.Nodup->P[i]?=J x->vs[i]?=J v->kindOf x≠J .local->
  bindC kindOf (P.zip vs) m x=J v
 |[],_,_,_,_,h,_,_=>by simp at h
 |_::_,[],_,_,_,_,h,_=>by simp at h
 |p::P,w::vs,0,m,br,ai,aj,hk=>by
  simp at ai aj;subst ai;subst aj;show bindC kindOf ((p,w)::P.zip vs) m p=_;unfold bindC;rw[My fun v cV=>(List.nodup_cons.mp br).1 (List.of_mem_zip cV).1,if_neg hk];simp
 |p::P,w::vs,i+1,m,br,ai,aj,hk=>by
  show bindC kindOf ((p,w)::P.zip vs) m x=_;unfold bindC;exact Mz (i:=i) (List.nodup_cons.mp br).2 (by simpa using ai) (by simpa using aj) hk
noncomputable def start(N:List aa)(vs:List V):St:=vs.map J++List.replicate (N.length-vs.length) aA
noncomputable def pM(CX:nU)(P:dR)(w:dd)(K:bT)(mg:aa->Option ax)(zn:bR)(N:List aa)(fj:aa)(d3:Scope)(f:ag)(fb:ax)(A:ee)(outer:List Env)(s:aT)(H:aq)(E:cP):bS where
 prog:=P
 w:=w
 K:=K
 mg:=mg
 zn:=zn
 A:=A.deeper (envOfC fj d3 s.heap.objs.size f fb)
 N:=N
 gH:=s
 k2:=H
 env:=envOfC fj d3 s.heap.objs.size f fb
 outer:=outer
 stack:=envOfC fj d3 s.heap.objs.size f fb::outer
 ex:=[]
 calm:=ao
 fn:=fun _=>ao
 pn:=[]
 xe:=fun e bw=>cc (model P w) (A.deeper (envOfC fj d3 s.heap.objs.size f fb)) (leaving (envOfC fj d3 s.heap.objs.size f fb) e) (fun _ vv=>CX outer H s E e vv) (fun e' vv=>CX outer H s E e' vv) bw
def M3(h:sc.names.lookup x=J .cell):∃c,(cellsFrom n sc.names []).lookup x=J c:=by
 have q:=PySem.W.cellsFrom_some sc.names n [] (.inl h);exact Option.isSome_iff_exists.mp q
def TO{CX:nU}{fb:ax}{s1:aT}{E:cP}{vs:List V}
  (S:bL N aJ d3) (hd:A.handled=aA) (fl:uh P w K mg zn A outer s H) (aC:vs.length=aJ.length) (r:Vals vs us)
  (x:InCallC s s.heap.objs.size (bindL (envOfC fj d3 s.heap.objs.size f fb).kindOf (aJ.zip us) fun _=>aA) (cellsFrom (s.heap.objs.size+1) d3.names []) (bindC (envOfC fj d3 s.heap.objs.size f fb).kindOf (aJ.zip us) fun _=>aA) s1) :
  Inv (pM CX P w K mg zn N fj d3 f fb A outer s H E) [] (start N vs) H s1:=by
 have hn:aJ.length<=N.length:=by have:=congrArg List.length S.pre;rw[kg]at this;lia
 obtain⟨ai,dP,rfl,hk⟩:=x.done;have zN:∀b:ag,b∉(pM CX P w K mg zn N fj d3 f fb A outer s H E).ex:=fun b z=>absurd (show b∈([]:List ag)from z) (by simp)
 refine⟨⟨fl.mod,S.kind,I,I,cR _,fun y z c ai aj=>?_,fun y ba=>?_,fun y c _ h=>?_,fun _=>hd,ee.frames_deeper fl.frames,.inr ⟨I,I⟩,fun b z=>absurd z (zN b),fl.bs,fl.qR,fun b _ _=>zN b,fun b z=>absurd z (zN b),fl.nv,fl.tx⟩,
  rfl,fl.bare,hV.kept hk,⟨_,x.toInCall.ns,fun i y v ai aj bt=>?_⟩,fun y c h=>⟨_,x.cell y c h⟩,fl.aF.fresh (cR _),fun y c h=>?_,fun p aX=>absurd (show p∈([]:List (ag×cE))from aX) (by simp),fl.aF.kept hk,?_⟩
 .exact name_of_addr x.apart (PySem.mem_of_lookup ai) (PySem.mem_of_lookup aj)
 ·have ba:d3.names.lookup y=J .cell\/d3.names.lookup y=J .free:=ba;rcases ba with ba|ba
  .exact M3 ba
  .exact absurd I (S.afv _ (PySem.mem_of_lookup ba))
 .exact Nat.le_of_lt (x.above y c (PySem.mem_of_lookup h))
 ·have aG:i<vs.length:=by
   unfold start at aj;by_cases aG:i<vs.length
   .exact aG
   ·rw[List.getElem?_append_right (by simpa using aG)]at aj;rw[List.getElem?_replicate]at aj;split at aj<;>cases aj
  have aN:vs[i]?=J v:=by
   unfold start at aj;rw[List.getElem?_append_left (by simpa using aG),eJ]at aj;cases e:vs[i]? with
   |none=>rw[e]at aj;cases aj
   |some a=>rw[e]at aj;cases aj;rfl
  obtain⟨u,cG,dK⟩:=r.get aN
  have aX:aJ[i]?=J y:=by
   rw[<-S.pre,List.getElem?_take_of_lt (by lia)];exact ai
  have PB:aJ.Nodup:=by rw[<-S.pre];exact S.br.sublist (List.take_sublist _ _)
  refine⟨u,dK,?_⟩;rcases S.par y (jc aX)with k|k
  .exact .inl ⟨k,Mx PB aX cG k⟩
  ·obtain⟨c,e⟩:=M3 (n:=s.heap.objs.size+1) k;refine .inr ⟨.inl k,c,e,?_⟩;have q:=x.cell y c e;rw[Mz PB aX cG (by show d3.names.lookup y≠_;rw[k];decide)]at q;exact q
 .exact fl.aF.fresh (Nat.le_of_lt (x.above y c (PySem.mem_of_lookup h)))
 ·unfold start;show _=N.length;rw[bE,cd,List.length_replicate];lia
def WL{CX:nU}{name:aa}{params:Arguments}{C4 hK:ax}
  {sp:cH} (tT:K.lookup f=J ⟨jv,hr,.func (o9 name fj params body d3 C4 hK doc pm an bg ct),mC⟩) (pZ:EF K bg fj=ao) (S:bL N aJ d3)
  (len:∀vs H Q E,sp vs H Q E->vs.length=aJ.length)
  (pY:∀(A:ee)(outer:List Env)(s:aT)(H:aq)(vs:List V)(Q:bI)(E:cP),gM k (A.deeper (envOfC fj d3 s.heap.objs.size f bg))->sp vs H Q E->
   ∃t,jE (pM CX P w K mg zn N fj d3 f bg A outer s H E) body t/\t {nx:=fun _ H'=>Q .bM H',rt:=Q} (start N vs) H) :
  cB P w K mg zn CX (k+1) f (o9 name fj params body d3 C4 hK doc pm an bg ct) aJ sp:=by
 refine⟨len,fun A outer s H args us vs Q E au fl al r tO=>?_⟩;have aC:=len _ _ _ _ tO;have KX:K.In s.heap:=fl.mod.xf.keeps fun b o e=>(fl.bs b o e).1;have lim:s.heap.NoLimit:=fl.mod.nolimit.keeps fun b o e=>(fl.bs b o e).1
 have adu:∀y∈aJ.zip us,d3.names.lookup y.1=J .local\/(d3.names.lookup y.1=J .cell/\((cellsFrom (s.heap.objs.size+1) d3.names []).lookup y.1).isSome=ao):=fun⟨n,v⟩ ba=>by
  rcases S.par n (List.of_mem_zip ba).1 with q|q
  .exact .inl q
  .exact .inr ⟨q,PySem.W.cellsFrom_some _ _ _ (.inl q)⟩
 refine codeAny_call_function au.depth (KX _ _ tT) I S.co S.gen I (PySem.W.codeRec_of KX pZ) (al _ _ _ _ ?_);refine wpAny_newFunctionEnv_cells S.kind adu fun env he s1 x=>?_;subst he;refine⟨lim.keeps x.toInCall.keep,codeAny_func ?_⟩;obtain⟨t,aP,bl⟩:=pY A outer s H vs Q E (au.deeper _) tO;have ae:Inv (pM CX P w K mg zn N fj d3 f bg A outer s H E) [] (start N vs) H s1:=TO S au.hd fl aC r x;refine nc (aP [] s1 (start N vs) H _ ae bl) (fun nu bw hs=>?_) fun e bw hs=>hs
 have dG:∀{cb:St}{H':aq}{v:V}{u:ax},Inv (pM CX P w K mg zn N fj d3 f bg A outer s H E) [] cb H' bw->RelV v u->Q v H'->EL outer P w H s Q u bw :=
  fun{cb H' v u}eQ dK q=>⟨v,H',eQ.os,eQ.bare,eQ.zn,eQ.aF,dK,q⟩
 cases nu with
 |ret u =>
  obtain⟨v,cb,H',eQ,dK,q⟩:=hs;exact dG eQ dK q
 |next =>
  obtain⟨cb,H',eQ,q⟩:=hs;exact dG (v:=V.bM) (u:=ax.none) eQ I q
 |brk =>
  obtain⟨_,_,_,q⟩:=hs;exact False.elim q
 |cont =>
  obtain⟨_,_,_,q⟩:=hs;exact False.elim q
section
variable {X:bS} {x:aa} {p bc:Pos} {e:c3} {aZ:List c3} {t:iL} {id T:String} {r:List V->aq->bI->Prop}
def RJ(r:List V->aq->bI->Prop)(t:iL):TE:=fun ab H Q=>t ab H fun vs H1=>r vs H1 Q
def c1(hc:hR X (.builtin id) r)(bh:jU X x)(hm:X.mg x=aA)(cV:kv x=J (.builtin id))(aN:jl X (e::aZ) t)(bj:xv (x≠"__name__") yc)(ny:xv ((x == ("__debug__":aa))=aI) yc)
  (he:xv (eI (e::aZ) X.env=(aI,eval e X.env)::eI aZ X.env) z0) (hn:xv ((backTo bc (eI aZ X.env)).any (·.1)=aI) z0):cF X (.Call (.Name x p) (e::aZ) [] bc) (RJ r t):=by
 intro ar s ab H Q ae h;refine vJ (pI ae bh hm cV ?_ bj ny);refine PyProof.Rows.callWith_builtin1 (dg (aN bc ar s ab H _ ae h) fun us s1 b3=>?_) he hn;obtain⟨vs,H1,bC,b9,cn⟩:=b3;exact hc ar s1 ab H1 vs us Q bC b9 cn
def mj(hc:hR X (.type T) r)(bh:jU X x)(hm:X.mg x=aA)(cV:kv x=J (.type T))(aN:jl X (e::aZ) t)(bj:xv (x≠"__name__") yc)(ny:xv ((x == ("__debug__":aa))=aI) yc)
  (he:xv (eI (e::aZ) X.env=(aI,eval e X.env)::eI aZ X.env) z0) (hn:xv ((backTo bc (eI aZ X.env)).any (·.1)=aI) z0):cF X (.Call (.Name x p) (e::aZ) [] bc) (RJ r t):=by
 intro ar s ab H Q ae h;refine vJ (pI ae bh hm cV ?_ bj ny);refine PyProof.Rows.callWith_type1 (dg (aN bc ar s ab H _ ae h) fun us s1 b3=>?_) he hn;obtain⟨vs,H1,bC,b9,cn⟩:=b3;exact hc ar s1 ab H1 vs us Q bC b9 cn
end
end c6
namespace dU
open PySem PyProof.Rows
noncomputable def lexLt:List Int->List Int->Bool
 |[],[]=>aI
 |[],_::_=>ao
 |_::_,[]=>aI
 |x::xs,y::aw=>if x=y then lexLt xs aw else decide (x<y)
def zI(x y:Int)(xs aw:List Int):lexLt (x::xs) (y::aw)=if x=y then lexLt xs aw else decide (x<y):=rfl
def Ym(x:Int)(xs:List Int):lexLt (x::xs) []=aI:=rfl
def Uz(A:ee)(s:aT)(a:Int)(t:Tok)(c:Int)(u:Tok)(prog:dR)(w:dd)(E:ax->aT->Prop)(Q:ax->aT->Prop)(h:Q (.bool (decide (a<c))) s):
  cc (model prog w) A (richCompare .Lt (.int a t) (.int c u)) Q E s :=
 (PyProof.Rows.lt_int h:cc (model prog w) A (h3 .Lt (.int a t) (.int c u)) Q E s)
section
open PySem.SeqAt
open PySem.AutoSeq1 (wpAny_loadPart')
open PySem.MeetsSeq PySem.MeetsSeq2 PySem.MeetsSeq3
end
section
variable {prog:dR} {w:dd} {A:ee} {E:ax->aT->Prop} {s:aT}
noncomputable def ht(n d:Nat):Option Int->Nat
 |none=>d
 |some v=>if v<0 then(v+(n:Int)).toNat else min v.toNat n
def P2(n d:Nat):ht n d aA=d:=rfl
def tZ(n d k:Nat):ht n d (J (k:Int))=min k n:=by
 show(if(k:Int)<0 then((k:Int)+(n:Int)).toNat else min (k:Int).toNat n)=min k n;rw[if_neg (by lia),Int.toNat_natCast]
def P1(n d:Nat)(hd:d<=n)(o:Option Int):ht n d o<=n:=by
 cases o with
 |none=>exact hd
 |some v =>
  show(if v<0 then(v+(n:Int)).toNat else min v.toNat n)<=n;by_cases cV:v<0
  .rw[if_pos cV];lia
  .rw[if_neg cV];exact Nat.min_le_right _ _
end
end dU
variable {p:ag} {ab:c6.St} {H:c6.aq} {xs aw:List c6.V} {its':List ax} {n':Nat} {ey:List c6.V->c6.aq->c6.bI->Prop}
namespace c6
open PySem PySem.Spec PyProof.Rows
noncomputable abbrev dE:=St->aq->(Option Int->aq->Prop)->Prop
def x1(X:bS)(e:Option c3)(t:dE):Prop :=
 ∀(ar:List (ag×cE))(s:aT)(ab:St)(H:aq)(Q:Option Int->aq->Prop),Inv X ar ab H s->t ab H Q->
  cc (model X.prog X.w) X.A (evalPart e X.env) (fun u bw=>∃o H',Inv X ar ab H' bw/\IsPart u o/\Q o H') X.xe s
def aja:dE:=fun _ H Q=>Q aA H
def aje(t:TE):dE:=fun ab H Q=>t ab H fun x H1=>∃i,x=.int i/\Q (J i) H1
def LW{ns:List Int}:∀{us:List ax},Vals (ns.map V.int) us->IntsAre us ns:=by
 induction ns with
 |nil=>intro us r;rw[List.map_nil]at r;cases r;exact .nil
 | cons n ns bP =>
  intro us r;rw[gI]at r;cases r with
  |cons b9 ej =>
   obtain⟨t,e⟩:=b9;subst e;exact .cons n t (bP ej)
variable {r:V->Option Int->Option Int->aq->bI->Prop}
section
variable {X:bS} {e:c3} {cT:TE} {lo aG:Option c3} {dQ Ad:dE} {bc cS:Pos}
def tq:x1 X aA aja:=by
 intro ar s ab H Q ae h;rw[evalPart_none];exact e3 ⟨aA,H,ae,.none,h⟩
def mR(h:cF X e cT):x1 X (J e) (aje cT):=by
 intro ar s ab H Q ae hw;rw[evalPart_some];refine dg (h ar s ab H _ ae hw) fun u s1 b3=>?_;obtain⟨x,H1,bC,b9,cn⟩:=b3;obtain⟨i,rfl,q⟩:=cn;obtain⟨t,rfl⟩:=b9;exact⟨J i,H1,bC,.int i t,q⟩
def s5(X:bS)(r:V->Option Int->Option Int->aq->bI->Prop):Prop :=
 ∀(ar:List (ag×cE))(s:aT)(ab:St)(H:aq)(x:V)(v o1 o3:ax)(lo aG:Option Int)(eY:ag)(Q:bI),Inv X ar ab H s->RelV x v->s.heap.IsSliceOf eY o1 o3 .none->IsPart o1 lo->IsPart o3 aG->r x lo aG H Q->
  ∃T id,typeLookup (.type T) "__getitem__"=pure (J (.builtin id))/\s.TypeIs v T/\cc (model X.prog X.w) X.A (getItem v (.ref eY)) (ja X ar ab Q) X.xe s
def s5.or{ey:V->Option Int->Option Int->aq->bI->Prop}(h:s5 X r)(h':s5 X ey):s5 X (fun x lo aG H Q=>r x lo aG H Q\/ey x lo aG H Q):=by
 intro ar s ab H x v o1 o3 lo aG eY Q ae bH hs pl pu q;rcases q with q|q
 .exact h ar s ab H x v o1 o3 lo aG eY Q ae bH hs pl pu q
 .exact h' ar s ab H x v o1 o3 lo aG eY Q ae bH hs pl pu q
def ajg(r:V->Option Int->Option Int->aq->bI->Prop)(cT:TE)(dQ Ad:dE):TE:=fun ab H Q=>cT ab H fun x H1=>dQ ab H1 fun l az=>Ad ab az fun u b5=>r x l u b5 Q
def pC(au:s5 X r)(he:cF X e cT)(aC:x1 X lo dQ)(cG:x1 X aG Ad):cF X (.Subscript e (.Slice lo aG aA cS) bc) (ajg r cT dQ Ad):=by
 intro ar s ab H Q ae h;refine Subscript_ (dg (he ar s ab H _ ae h) fun v s1 b3=>?_);obtain⟨x,H1,bC,b9,cn⟩:=b3;refine wpAny_Slice (dg (aC ar s1 ab H1 _ bC cn) fun o1 s2 ⟨l,az,cW,pl,b8⟩=>dg (cG ar s2 ab az _ cW b8) fun o3 i6 b3=>?_);obtain⟨u,b5,jC,pu,gh⟩:=b3;rw[evalPart_none];refine e3 ?_;have xT:Inv X ar ab b5 {i6 with heap:=i6.heap.push {cls :=.type "slice",data :=.fields #[o1,o3,.none]}}:=jC.kept (t':=i6.toks) fun b eG q=>gZ _ q;obtain⟨T,id,bW,aP,bh⟩:=au ar {i6 with heap:=i6.heap.push {cls :=.type "slice",data :=.fields #[o1,o3,.none]}} ab b5 x v o1 o3 l u i6.heap.objs.size Q xT b9 (bR.IsSliceOf.new ..) pl pu gh;show cc (model X.prog X.w) X.A (subscriptTail e (.Slice lo aG aA cS) v (.ref i6.heap.objs.size)) (ja X ar ab Q) X.xe {i6 with heap:=i6.heap.push {cls :=.type "slice",data :=.fields #[o1,o3,.none]}};exact tail_any (ops:=[.ref i6.heap.objs.size,v]) aP bW bh (by with_unfolding_all rfl)
noncomputable def pK(xs:List V)(lo aG:Option Int):List V:=(xs.drop (dU.ht xs.length 0 lo)).take (dU.ht xs.length xs.length aG-dU.ht xs.length 0 lo)
def LJ(xs:List V)(lo aG:Option Int):(pK xs lo aG).length<=xs.length:=by
 unfold pK;rw[kg,lF];lia
end
noncomputable def qb(n:Nat)(i:Int):Option Nat:=if 0<=i then(if i<n then J i.toNat else aA)else if -(n:Int)<=i then J (i+n).toNat else aA
noncomputable def e9{α:Type}(xs:List α)(i:Int):Option α:=(qb xs.length i).bind fun j=>xs[j]?
def Nr{i:Int}(h:qb n i=J j):seqIndex? i n=J j/\j<n/\-(n:Int)<=i/\i<n:=by
 unfold qb at h;by_cases bb:0<=i
 ·rw[if_pos bb]at h;by_cases ai:i<n
  ·rw[if_pos ai]at h;have e:i.toNat=j:=ie h;exact⟨by rw[seqIndex_of bb ai,e],by lia,by lia,ai⟩
  .rw[if_neg ai]at h;cases h
 ·rw[if_neg bb]at h;by_cases ai : -(n:Int)<=i
  ·rw[if_pos ai]at h;have e:(i+n).toNat=j:=ie h;exact⟨by rw[seqIndex_neg (by lia) ai,e],by lia,ai,by lia⟩
  .rw[if_neg ai]at h;cases h
def Hn{xs:List α}{i:Int}{v:α}(h:e9 xs i=J v):∃j,seqIndex? i xs.length=J j/\xs[j]?=J v/\j<xs.length/\-(xs.length:Int)<=i/\i<xs.length:=by
 unfold e9 at h;cases e:qb xs.length i with
 |none=>rw[e]at h;cases h
 |some j =>
  rw[e]at h;obtain⟨ai,aj,bt,cf⟩:=Nr e;exact⟨j,ai,h,aj,bt,cf⟩
def dF{xs:List α}{v:α}(h:xs[j]?=J v):e9 xs (j:Int)=J v:=by
 have cj:j<xs.length:=(kE.mp h).1
 have e:qb xs.length (j:Int)=J j:=by
  unfold qb;rw[if_pos (by lia),if_pos (by lia)];simp
 unfold e9;rw[e];exact h
def M4(xs:List α)(v:α):e9 (xs++[v]) (-1)=J v:=by
 have aC:(xs++[v]).length=xs.length+1:=by simp
 have e:qb (xs++[v]).length (-1)=J xs.length:=by
  unfold qb;rw[aC,if_neg (by decide),if_pos (by lia)];congr 1;lia
 unfold e9;rw[e];show(xs++[v])[xs.length]?=J v;simp
def Ki(b:c3):Prop:=∀o i,subscripted b aI o i=operate [o,i] (getItem o i)
def pq(X:bS)(r:iK):Prop :=
 ∀(value slice:c3)(ar:List (ag×cE))(s:aT)(ab:St)(H:aq)(x y:V)(v u:ax)(Q:bI),Inv X ar ab H s->RelV x v->RelV y u->r x y H Q->
  subscripted slice aI v u=operate [v,u] (getItem v u)->cc (model X.prog X.w) X.A (subscriptTail value slice v u) (ja X ar ab Q) X.xe s
def sZ(X:bS)(id:String)(r:V->List V->aq->bI->Prop):Prop :=
 ∀(ar:List (ag×cE))(s:aT)(ab:St)(H:aq)(x:V)(xs:List V)(v:ax)(us:List ax)(Q:bI),Inv X ar ab H s->RelV x v->Vals xs us->r x xs H Q->
  cc (model X.prog X.w) X.A (call (.builtin id) (v::us)) (ja X ar ab Q) X.xe s
section
variable {X:bS} {a b:c3} {cN dO:TE} {bc:Pos}
def pq.or{r ey:iK}(h:pq X r)(h':pq X ey):pq X (fun x y H Q=>r x y H Q\/ey x y H Q):=by
 intro value slice ar s ab H x y v u Q ae bH cX q hs;rcases q with q|q
 .exact h value slice ar s ab H x y v u Q ae bH cX q hs
 .exact h' value slice ar s ab H x y v u Q ae bH cX q hs
def WC{r:iK}(au:pq X r)(aN:cF X a cN)(al:cF X b dO)(hs:Ki b):cF X (.Subscript a b bc) (sR r cN dO):=by
 intro ar s ab H Q ae h;exact Subscript_ (Hv aN al ae h fun v u s2 x y az cW bH cX q=>au a b ar s2 ab az x y v u Q cW bH cX q (hs _ _))
inductive Ka(K:bT)(x y:V)(H:aq)(Q:V->Prop):Prop where
 |mk (p:ag) (xs:List V) (i:Int) (v:V) (a:x=.ref p) (b:y=.int i) (c:c4 K H p xs) (d:e9 xs i=J v) (h:Q v):Ka K x y H Q
def PV(K:bT):iK:=fun x y H Q=>Ka K x y H fun v=>Q v H
inductive Kb(K:bT)(x y:V)(H:aq)(Q:V->Prop):Prop where
 |mk (p:ag) (xs:List V) (i:Int) (v:V) (a:x=.ref p) (b:y=.int i) (c:hS K H p xs) (d:e9 xs i=J v) (h:Q v):Kb K x y H Q
def PX(K:bT):iK:=fun x y H Q=>Kb K x y H fun v=>Q v H
def PW:iK:=fun x y H Q=>∃z i c,x=.str z/\y=.int i/\z.length<=cp/\e9 z.cps.toList i=J c/\Q (.str ⟨#[c]⟩) H
def VO:pq X (PV X.K):=by
 intro value slice ar s ab H x y v u Q ae bH cX h hs;obtain⟨p,xs,i,z,rfl,rfl,bl,he,q⟩:=h;cases bH;obtain⟨t,rfl⟩:=cX;obtain⟨aV,r,pl,bX⟩:=ae.list bl;obtain⟨j,ai,aj,bt,cf,eF⟩:=Hn he;obtain⟨w,jN,Je⟩:=r.get aj;have aC:=r.length;have bj:=vl;have dG:ja X ar ab Q w s:=⟨z,H,ae,Je,q⟩;by_cases bb:0<=i
 ·have cj:i.toNat=j:=by
   rw[seqIndex_of bb eF]at ai;exact ie ai
  exact item_listR pl.isList bb (by lia) (by rw[cj];simpa using jN) dG hs
 ·have cj:(i+(aV.toArray.size:Int)).toNat=j:=by
   rw[seqIndex_neg (by lia) cf]at ai;rw[eg,<-aC];exact ie ai
  exact subscriptTail_builtinR (x:=w) pl.isList.typeIs slot_list_getitem.lookup
   (wpAny_getItem_list_neg (Q:=fun r bw=>r=w/\ja X ar ab Q r bw) pl.isList (by lia) (by rw[eg]<;>lia) (by lia) (by rw[cj];simpa using jN) ⟨rfl,dG⟩) hs
def Wq:pq X (PX X.K):=by
 intro value slice ar s ab H x y v u Q ae bH cX h hs;obtain⟨p,xs,i,z,rfl,rfl,bl,he,q⟩:=h;cases bH;obtain⟨t,rfl⟩:=cX;obtain⟨aV,r,pl,bX⟩:=ae.tuple bl;obtain⟨j,ai,aj,bt,cf,eF⟩:=Hn he;obtain⟨w,jN,Je⟩:=r.get aj;have aC:=r.length;have bj:=vl;have dG:ja X ar ab Q w s:=⟨z,H,ae,Je,q⟩
 exact subscriptTail_builtinR (x:=w) pl.typeIs slot_tuple_getitem.lookup
  (getItem_tuple (j:=j) (Q:=fun r bw=>r=w/\ja X ar ab Q r bw) pl (by lia) (by lia) (by rw[eg,<-aC];exact ai) (by simpa using jN) ⟨rfl,dG⟩) hs
def Wr:pq X PW:=by
 intro value slice ar s ab H x y v u Q ae bH cX h hs;obtain⟨z,i,c,rfl,rfl,bX,he,q⟩:=h;obtain⟨t,rfl⟩:=bH;obtain⟨t',rfl⟩:=cX;obtain⟨j,ai,aj,bt,cf,eF⟩:=Hn he;have aC:z.cps.toList.length=z.length:=by simp[aa.length]
 rw[aC]at ai cf eF;have bj:=vl
 exact tail_any (typeIs_str s z t) slot_str_getitem.lookup (getItem_str (c:=c) (by
  have aQ:decide (i < -(2^63:Int))=aI:=e8 (by lia);have aR:decide (i>=2^63)=aI:=e8 (by lia)
  rw[aQ,aR,Bool.or_false]) (by rw[ai];simpa using aj) ⟨.str ⟨#[c]⟩,H,ae.tok _,⟨_,rfl⟩,q⟩) hs
def Z9(aV:List ax)(n j:Nat)(u:ax):cE.mapSeq (·.setIfInBounds j u) {cls :=.type "list",data :=.seq aV.toArray n}={cls :=.type "list",data :=.seq (aV.set j u).toArray n}:=by
 simp[cE.mapSeq]
theorem Inv.lst(ae:Inv X ar ab H s)(h:H p=J (.lst xs)):
  ∃(aV:List ax)(n:Nat),Vals xs aV/\s.heap.get? p=J {cls :=.type "list",data :=.seq aV.toArray n}/\xs.length<=cp:=by
 obtain⟨z,aV,n,r,e⟩:=ae.aF p _ h;exact⟨aV,n,r,e,z⟩
def Inv.aeM{f:cE->cE}(ae:Inv X ar ab H s)(h:H p=J (.lst xs))
  (aK:s.heap.get? p=J {cls :=.type "list",data :=.seq aV.toArray n}) (aD:f {cls :=.type "list",data :=.seq aV.toArray n}={cls :=.type "list",data :=.seq its'.toArray n'}) (r:Vals aw its') (bX:aw.length<=cp) (t:Nat) :
  Inv X ar ab (upd H p (.lst aw)) {s with heap:=s.heap.update p f,toks:=t}:=by
 have e:(s.heap.update p f).get? p=J {cls :=.type "list",data :=.seq its'.toArray n'}:=by
  rw[bR.get?_update_self f aK (by rw[aD]<;>rfl),aD]
 refine ae.write (x:=p) (e:=p) (by rw[h];trivial) (.inl I) (fun b u al q=>(bR.get?_update_other _ _ (fJ al)).trans q) ⟨_,e⟩ ?_;exact⟨bX,its',n',r,e⟩
noncomputable def aix:V->V->V->aq->(aq->Prop)->Prop:=fun o i v H Q=>∃p xs k j,o=.ref p/\i=.int k/\H p=J (.lst xs)/\qb xs.length k=J j/\Q (upd H p (.lst (xs.set j v)))
def Ut:Kh X aix:=by
 intro ar s ab H o i v hN sx u Q ae aiD aiC dK h;obtain⟨p,xs,k,j,rfl,rfl,aX,cj,q⟩:=h;cases aiD;obtain⟨t,rfl⟩:=aiC;obtain⟨aV,n,r,aK,bX⟩:=ae.lst aX;obtain⟨ai,aj,bt,cf⟩:=Nr cj;have aC:=r.length;have bj:=vl
 have jj:Inv X ar ab (upd H p (.lst (xs.set j v))) {s with heap:=s.heap.update p (cE.mapSeq (·.setIfInBounds j u))} :=
  ae.aeM aX aK (Z9 aV n j u) (r.set dK j) (by rw[List.length_set];exact bX) s.toks
 by_cases bb:0<=k
 ·have hk:k.toNat=j:=by
   rw[seqIndex_of bb cf]at ai;exact ie ai
  exact PySem.W.ki_setAt aK bb (by lia) (by rw[eg,<-aC];exact cf) (by rw[hk];exact⟨_,jj,q⟩)
 ·have hk:(k+(aV.toArray.size:Int)).toNat=j:=by
   rw[seqIndex_neg (by lia) bt]at ai;rw[eg,<-aC];exact ie ai
  exact PySem.W.ki_setBack aK (by lia) (by rw[eg,<-aC];exact bt) (by lia) (by rw[hk];exact⟨_,jj,q⟩)
def YV(lo aG:Option Int)(n:Nat):(sliceBounds lo aG aA n).1=((dU.ht n 0 lo:Nat):Int)/\(sliceBounds lo aG aA n).2.1=((dU.ht n n aG:Nat):Int)/\(sliceBounds lo aG aA n).2.2=1:=by
 refine⟨?_,?_,I⟩
 ·cases lo with
  |none=>simp[sliceBounds,dU.ht]
  |some i =>
   simp only[sliceBounds,dU.ht,Option.getD_none,show(1:Int) > 0 by decide,if_true];by_cases h:i<0
   .simp only[h,if_true]<;>lia
   .simp only[h,if_false]<;>lia
 ·cases aG with
  |none=>simp[sliceBounds,dU.ht]
  |some i =>
   simp only[sliceBounds,dU.ht,Option.getD_none,show(1:Int) > 0 by decide,if_true];by_cases h:i<0
   .simp only[h,if_true]<;>lia
   .simp only[h,if_false]<;>lia
def Ys(aV:List ax)(lo aG:Option Int):slicePick aV.toArray lo aG aA=((aV.drop (dU.ht aV.length 0 lo)).take (dU.ht aV.length aV.length aG-dU.ht aV.length 0 lo)).toArray:=by
 obtain⟨ai,aj,bt⟩:=YV lo aG aV.toArray.size;unfold slicePick;rw[ai,aj,bt];simp only[sliceRange_one,pick_run,eg]<;>rfl
inductive Kn(K:bT)(x:V)(H:aq)(Q:List V->Prop):Prop where
 |mk (a:ag) (xs:List V) (e:x=.ref a) (h:c4 K H a xs) (q:Q xs):Kn K x H Q
noncomputable def aiy(K:bT):V->Option Int->Option Int->aq->bI->Prop:=fun x lo aG H Q=>Kn K x H fun xs=>∀p,H p=aA->Q (.ref p) (upd H p (.lst (pK xs lo aG)))
def Vl:s5 X (aiy X.K):=by
 intro ar s ab H x v o1 o3 lo aG eY Q ae bH hs pl pu h;obtain⟨a,xs,rfl,av,q⟩:=h;cases bH;obtain⟨aV,r,aP,bX⟩:=ae.list av;have c0:=r.length;refine⟨"list",_,slot_list_getitem.lookup,aP.isList.typeIs,?_⟩;refine wpAny_getItem_list_slice aP.isList hs pl pu .none (by simp) ?_ (by rw[eg]<;>lia);rw[Ys,<-c0];refine⟨.ref s.heap.objs.size,_,ae.laid (t':=s.toks) (o :=.lst (pK xs lo aG)) (fun b eG q=>gZ _ q) (cR _) ?_,I,q _ (ae.aF.fresh (cR _))⟩;exact⟨c5 (LJ xs lo aG) bX,_,0,(r.drop (dU.ht xs.length 0 lo)).take (dU.ht xs.length xs.length aG-dU.ht xs.length 0 lo),iw _ I⟩
def hR.or{f:ax}{r:List V->aq->bI->Prop}(h:hR X f r)(h':hR X f ey):hR X f (fun xs H Q=>r xs H Q\/ey xs H Q):=by
 intro ar s ab H xs us Q ae rs q;rcases q with q|q
 .exact h ar s ab H xs us Q ae rs q
 .exact h' ar s ab H xs us Q ae rs q
def Lv:hR X (.type "list") (fun xs H Q=>∃p aw,xs=[.ref p]/\(c4 X.K H p aw\/hS X.K H p aw)/\∀l,H l=aA->Q (.ref l) (upd H l (.lst aw))):=by
 intro ar s ab H xs us Q ae r h;obtain⟨p,aw,rfl,bl,q⟩:=h;obtain⟨u,rfl,bH⟩:=vals1 r;cases bH
 have dG:∀(aV:List ax),Vals aw aV->aw.length<=cp->∀(h':bR)(ij:Nat),(∀b o',s.heap.get? b=J o'->h'.get? b=J o')->
   h'.get? s.heap.objs.size=J {cls :=.type "list",dict:=aA,data :=.seq aV.toArray ij,slots:=#[]}->ja X ar ab Q (.ref s.heap.objs.size) {s with heap:=h'}:=fun aV ey bX h' ij dz e =>
  ⟨.ref s.heap.objs.size,_,ae.laid (t':=s.toks) dz (cR _) (show iJ X.prog X.w _ h' _ (.lst aw)from⟨bX,aV,ij,ey,e⟩),rfl,q _ (ae.aF.fresh (cR _))⟩
 rcases bl with bl|bl
 ·obtain⟨aV,ey,pl,bX⟩:=ae.list bl;have c0:=ey.length;obtain⟨o,aK,hc,n,hd⟩:=pl.isList;exact call_list_seq p (.inl I) aK hc hd (fun h' ij dz e=>dG aV ey bX h' ij dz e) (by simp only[eg]<;>lia)
 ·obtain⟨aV,ey,pl,bX⟩:=ae.tuple bl;have c0:=ey.length;obtain⟨o,aK,hc,n,hd⟩:=pl;exact call_list_seq p (.inr I) aK hc hd (fun h' ij dz e=>dG aV ey bX h' ij dz e) (by simp only[eg]<;>lia)
def FY:hR X (.type "tuple") (fun xs H Q=>∃p aw,xs=[.ref p]/\((c4 X.K H p aw/\∀l,H l=aA->Q (.ref l) (upd H l (.tup aw)))\/(hS X.K H p aw/\Q (.ref p) H))):=by
 intro ar s ab H xs us Q ae r h;obtain⟨p,aw,rfl,h⟩:=h;obtain⟨u,rfl,bH⟩:=vals1 r;cases bH;rcases h with⟨bl,q⟩|⟨bl,q⟩
 ·obtain⟨aV,ey,pl,bX⟩:=ae.list bl;have c0:=ey.length;refine call_tuple_list pl.isList (fun h' dz=>?_) (by simp only[eg]<;>lia);have bC:Inv X ar ab H {s with heap:=h'}:=ae.kept (t':=s.toks) dz
  have cW:Inv X ar ab (upd H h'.objs.size (.tup aw)) {s with heap:=h'.push {cls :=.type "tuple",data :=.seq aV.toArray}} :=
   bC.laid (t':=s.toks) (fun b o e=>gZ _ e) (cR _) (show iJ X.prog X.w _ _ _ (.tup aw)from⟨bX,aV,ey,IsTup.new _ _⟩)
  exact⟨.ref h'.objs.size,_,cW,I,q _ (bC.aF.fresh (cR _))⟩
 ·obtain⟨aV,ey,pl,bX⟩:=ae.tuple bl;exact call_tuple_same pl ⟨.ref p,H,ae,I,q⟩
def JH(K:bT)(T:String)(x:V)(H:aq):Prop:=match x with
 |.str _=>T="str"
 |.int _=>T="int"
 | .ref p=>(T="list"/\∃xs,c4 K H p xs)\/(T="tuple"/\∃o,K.lookup p=J o/\o.cls=.type "tuple"/\o.dict=aA)\/
   (T="dict"/\((∃gR,H p=J (.oi gR))\/∃gR,H p=J (.mq gR)))\/(T="set"/\∃S n,H p=J (.set S n))
 |_=>False
def KD{T:String}{x:V}{v:ax}(ae:Inv X ar ab H s)(r:RelV x v)(ty:JH X.K T x H):
  s.TypeIs v T/\∀a,v=.ref a->∃eG,s.heap.get? a=J eG/\eG.dict=aA:=by
 cases x with
 |str z =>
  obtain⟨t,rfl⟩:=r;cases(show T="str" from ty);exact⟨typeIs_str s z t,fun _ e=>nomatch e⟩
 |int i =>
  obtain⟨t,rfl⟩:=r;cases(show T="int" from ty);exact⟨typeIs_int s i t,fun _ e=>nomatch e⟩
 | ref p =>
  cases r;rcases ty with⟨rfl,xs,bl⟩|⟨rfl,o,hk,hc,hd⟩|⟨rfl,hk⟩|⟨rfl,S,n,hk⟩
  ·obtain⟨aV,_,pl,_⟩:=ae.list bl;refine⟨pl.isList.typeIs,fun a e=>?_⟩;cases e;obtain⟨o,n,e,c,hd,_⟩:=pl;exact⟨o,e,hd⟩
  ·refine⟨⟨o,ae.h2 p o hk,hc⟩,fun a e=>?_⟩;cases e;exact⟨o,ae.h2 _ o hk,hd⟩
  ·have z:∃o,s.heap.get? p=J o/\o.ExactDict:=by
    rcases hk with⟨gR,hk⟩|⟨gR,hk⟩
    ·obtain⟨_,_,_,_,o,_,_,e,ex,_⟩:=ae.aF p _ hk;exact⟨o,e,ex⟩
    .exact(show False from ae.aF p _ hk).elim
   obtain⟨o,e,ex⟩:=z;refine⟨⟨o,e,ex.1⟩,fun a aR=>?_⟩;cases aR;exact⟨o,e,ex.2.1⟩
  ·obtain⟨o,_,_,_,e,ex,_⟩:=ae.aF p _ hk;refine⟨⟨o,e,ex.1⟩,fun a aR=>?_⟩;cases aR;exact⟨o,e,ex.2.1⟩
 |_=>exact False.elim ty
def aiZ(K:bT)(T:String)(r:V->List V->aq->bI->Prop)(to:TE):TE:=fun ab H Q=>to ab H fun x H1=>JH K T x H1/\r x [] H1 Q
def aiY(K:bT)(T:String)(r:V->List V->aq->bI->Prop)(to:TE)(t:iL):TE:=fun ab H Q=>to ab H fun x H1=>JH K T x H1/\t ab H1 fun xs az=>r x xs az Q
variable {o e:c3} {aZ:List c3} {to:TE} {t:iL} {name:aa} {apos r2:Pos} {T id:String} {r:V->List V->aq->bI->Prop}
def uM(xp:PlainAttrs T)(slot:Slot T name id)(IL:typeOf (.builtin id)=pure (.type "method_descriptor"))(hm:sZ X id r)(aK:cF X o to)
  (H7:xv (attributeBase o name X.env (eval o X.env)=eval o X.env) z0) (It:xv ((apos.endLine == r2.line)=ao) z0):cF X (.Call (.Attribute o name apos) [] [] r2) (aiZ X.K T r to):=by
 intro ar s ab H Q ae h;refine wpAny_Call_method0_late H7 It (dg (aK ar s ab H _ ae h) fun v s1 b3=>?_);obtain⟨x,H1,bC,b9,ty,cn⟩:=b3;obtain⟨ai,aj⟩:=KD bC b9 ty;exact⟨T,id,xp,slot,IL,ai,aj,Calls.callWith_builtin I (PySem.evalArgs_none (hm ar s1 ab H1 x [] v [] Q bC b9 .nil cn))⟩
def h6(xp:PlainAttrs T)(slot:Slot T name id)(IL:typeOf (.builtin id)=pure (.type "method_descriptor"))(hm:sZ X id r)(aK:cF X o to)(aN:jl X (e::aZ) t)
  (H7:xv (attributeBase o name X.env (eval o X.env)=eval o X.env) z0)
  (ade:xv (((backTo r2 (eI (e::aZ) X.env)).all (fun x=>!x.1)&&(backToKw r2 (vI [] X.env)).all (fun x=>x.1.isSome)
   && decide ((e::aZ).length+([]:List Keyword).length+(if([]:List Keyword).isEmpty then 0 else 1)<30))=ao) z0)
  (It:xv ((apos.endLine == r2.line)=ao) z0) (hs:xv (eI (e::aZ) X.env=(aI,eval e X.env)::eI aZ X.env) z0) (adQ:xv ((backTo r2 (eI aZ X.env)).any (·.1)=aI) z0) :
  cF X (.Call (.Attribute o name apos) (e::aZ) [] r2) (aiY X.K T r to t):=by
 intro ar s ab H Q ae h;refine wpAny_Call_method_late H7 ade It I (dg (aK ar s ab H _ ae h) fun v s1 b3=>?_);obtain⟨x,H1,bC,b9,ty,cn⟩:=b3;obtain⟨ai,aj⟩:=KD bC b9 ty;refine⟨T,id,xp,slot,IL,ai,aj,?_⟩;have gP:=aN r2 ar s1 ab H1 _ bC cn;rw[hs]at gP ⊢;refine Calls.callWith_builtin (by show(aI||(backTo r2 (eI aZ X.env)).any (·.1))=aI;rw[adQ]<;>rfl) (Calls.evalArgs_plain ?_);refine dg gP fun us s2 b3=>?_;obtain⟨vs,az,cW,ej,b8⟩:=b3;exact hm ar s2 ab az x vs v us Q cW b9 ej b8
end
def Kg(X:bS)(id:String)(r:V->List V->aq->bI->Prop):Prop :=
 ∀(ar:List (ag×cE))(s:aT)(ab:St)(H:aq)(x:V)(xs:List V)(v:ax)(us:List ax)(Q:bI),Inv X ar ab H s->RelV x v->Vals xs us->r x xs H Q->
  cc (model X.prog X.w) X.A (call (.builtin id) (v::us)) (ja X ar ab Q) X.xe s
theorem Vals.one:∀{x:V}{us:List ax},Vals [x] us->∃u,us=[u]/\RelV x u
 |_,_,.cons r .nil=>⟨_,rfl,r⟩
theorem Vals.zero:∀{us:List ax},Vals [] us->us=[]
 |_,.nil=>rfl
theorem Vals.dropLast(h:Vals xs us):Vals xs.dropLast us.dropLast:=by
 induction h with
 |nil=>exact .nil
 |cons r t bP =>
  cases t with
  |nil=>exact .nil
  |cons q t'=>exact .cons r bP
theorem Vals.rep{xs:List V}{us:List ax}(h:Vals xs us):∀k:Nat,Vals (List.replicate k xs).flatten (List.replicate k us).flatten
 |0 =>.nil
 |k+1=>by
  rw[List.replicate_succ,List.replicate_succ,jH,jH];exact Vals.append h (Vals.rep h k)
def aak(l:List α):l.eraseIdx (l.length-1)=l.dropLast:=by
 induction l with
 |nil=>rfl
 | cons a r bP =>
  cases r with
  |nil=>rfl
  | cons b r =>
   have e:(a::b::r).length-1=((b::r).length-1)+1:=by
    have ai:(a::b::r).length=r.length+2:=rfl;have aj:(b::r).length=r.length+1:=rfl;lia
   rw[e,List.eraseIdx_cons_succ,bP]
   all_goals rfl
theorem Mm(aV:List ax):∀(k:Nat)(acc:List ax),
  List.foldl (fun rv gT=>rv++gT) acc.toArray (List.replicate k aV.toArray)=(acc++(List.replicate k aV).flatten).toArray
 |0,acc=>by simp
 | k+1,acc=>by
  have e:acc.toArray++aV.toArray=(acc++aV).toArray:=by simp
  have aR:(acc++aV)++(List.replicate k aV).flatten=acc++(List.replicate (k+1) aV).flatten:=by
   rw[List.replicate_succ,jH,eC]
  rw[<-aR,<-Mm aV k (acc++aV),<-e,List.replicate_succ,List.foldl_cons]
section
variable {X:bS} {ar:List (ag×cE)} {ab:St} {H:aq} {s:aT} {l b:ag} {xs aw zs:List V}
def Inv.Ps{f:Array ax->Array ax}(ae:Inv X ar ab H s)(iR:H l=J (.lst xs))
  (e:s.heap.get? l=J {cls :=.type "list",data :=.seq aV.toArray n}) (aD:f aV.toArray=its'.toArray) (cV:Vals aw its') (bX:aw.length<=cp) :
  Inv X ar ab (upd H l (.lst aw)) {s with heap:=s.heap.update l (cE.mapSeq f),toks:=t'}:=by
 have q:=PySem.IsL.update e f;rw[aD]at q;refine ae.write (x:=l) (e:=l) (by rw[iR];exact trivial) (.inl I) (fun kj u al cG=>(bR.get?_update_other s.heap (cE.mapSeq f) (fJ al)).trans cG) ⟨_,q⟩ ?_;exact⟨bX,its',_,cV,q⟩
def Inv.Pq(ae:Inv X ar ab H s)(cV:Vals aw aV)(bX:aw.length<=cp):
  Inv X ar ab (upd H s.heap.objs.size (.lst aw)) {s with heap:=s.heap.push {cls :=.type "list",data :=.seq aV.toArray},toks:=t'} :=
 ae.laid (fun _ _ q=>gZ _ q) (cR _) ⟨bX,aV,0,cV,iw _ rfl⟩
theorem Inv.fresh(ae:Inv X ar ab H s):H s.heap.objs.size=aA:=ae.aF.fresh (cR _)
def Inv.oK(ae:Inv X ar ab H s)(iR:H l=J (.lst xs)):xs.length<=cp/\∃(aV:List ax)(n:Nat),Vals xs aV/\xs.length=aV.length/\s.heap.get? l=J {cls :=.type "list",data :=.seq aV.toArray n}:=by
 obtain⟨z,aV,n,r,e⟩:=ae.aF l _ iR;exact⟨z,aV,n,r,r.length,e⟩
def afx(h:n<=cp):dI.List.listTooLong n=aI:=by
 unfold dI.List.listTooLong;exact e8 (by lia)
end
section
variable {X:bS}
inductive JT(x:V)(vs:List V)(H:aq)(Q:ag->List V->V->Prop):Prop where
 |mk (l:ag) (xs:List V) (y:V) (e:x=.ref l) (a:vs=[y]) (h:H l=J (.lst xs)) (c:xs.length<cp) (q:Q l xs y):JT x vs H Q
noncomputable def ain:V->List V->aq->bI->Prop:=fun x vs H Q=>JT x vs H fun l xs y=>Q .bM (upd H l (.lst (xs++[y])))
def pA:Kg X "list.append" ain:=by
 intro ar s ab H x vs v us Q ae bH dK h;obtain⟨l,xs,y,rfl,rfl,iR,bX,q⟩:=h;cases bH;obtain⟨u,rfl,fo⟩:=dK.one;obtain⟨z,aV,n,r,aC,e⟩:=ae.oK iR;refine call_meets F.slot_list_append ⟨_,e,I⟩ F.entry_list_append (F.args_list_append_2 _ _) (PySem.list_append l aV.toArray n u (by rw[eg];lia)) ⟨e,?_⟩;refine⟨.bM,_,ae.Ps (its':=aV++[u]) iR e (by simp) (r.append (.cons fo .nil)) ?_,I,q⟩;rw[bE,kf];lia
noncomputable def aiv:V->List V->aq->bI->Prop:=fun x vs H Q=>∃l xs y,x=.ref l/\vs=[]/\H l=J (.lst xs)/\xs[xs.length-1]?=J y/\Q y (upd H l (.lst xs.dropLast))
def KW:Kg X "list.pop" aiv:=by
 intro ar s ab H x vs v us Q ae bH dK h;obtain⟨l,xs,y,rfl,rfl,iR,ba,q⟩:=h;cases bH;have ad3:=dK.zero;subst ad3;obtain⟨z,aV,n,r,aC,e⟩:=ae.oK iR;obtain⟨u,cG,fo⟩:=r.get ba
 have aec:aV.toArray[aV.toArray.size-1]?=J u:=by
  show aV.toArray[aV.length-1]?=J u;rw[<-Array.getElem?_toList,<-aC];exact cG
 refine call_meets F.slot_list_pop ⟨_,e,I⟩ F.entry_list_pop (F.args_list_pop_1 _) (MeetsSeq.list_pop_last l aV.toArray n u aec (by rw[eg];lia)) ⟨e,?_⟩;refine⟨y,_,ae.Ps (its':=aV.dropLast) iR e ?_ r.dropLast ?_,fo,q⟩
 ·show aV.toArray.eraseIdxIfInBounds (aV.toArray.size-1)=aV.dropLast.toArray;rw[eg,List.eraseIdxIfInBounds_toArray,aak]
 ·rw[List.length_dropLast];lia
def aip:iK:=fun x y H Q=>∃l b xs zs,x=.ref l/\y=.ref b/\H l=J (.lst xs)/\H b=J (.lst zs)/\xs.length+zs.length<=cp/\∀p,H p=aA->Q (.ref p) (upd H p (.lst (xs++zs)))
def Wi:ef X (l2 .Add) aip:=by
 intro ar s ab H x y v u Q ae bH cX h;obtain⟨l,b,xs,zs,rfl,rfl,iR,mY,bX,q⟩:=h;cases bH;cases cX;obtain⟨z,aV,n,r,aC,e⟩:=ae.oK iR;obtain⟨d2,fN,dm,ej,gE,aR⟩:=ae.oK mY;refine PySem.P.add_list e aR ?_ (by rw[eg,eg];lia);have cD:aV.toArray++fN.toArray=(aV++fN).toArray:=by simp
 rw[cD];exact⟨.ref _,_,ae.Pq (t':=s.toks) (r.append ej) (by rw[bE];lia),I,q _ ae.fresh⟩
def aiw:iK:=fun x y H Q=>∃l k xs,x=.ref l/\y=.int k/\H l=J (.lst xs)/\-(2^63)<=k/\k<2^63/\xs.length*k.toNat<=cp/\
 ∀p,H p=aA->Q (.ref p) (upd H p (.lst (List.replicate k.toNat xs).flatten))
def VM(xs:List α)(k:Nat):(List.replicate k xs).flatten.length=k*xs.length:=by
 induction k with
 |zero=>simp
 |succ k bP=>rw[List.replicate_succ,jH,bE,bP,Nat.succ_mul,Nat.add_comm]
def Wd:ef X (l2 .Mult) aiw:=by
 intro ar s ab H x y v u Q ae bH cX h;obtain⟨l,k,xs,rfl,rfl,iR,ai,aj,bX,q⟩:=h;cases bH;obtain⟨t,rfl⟩:=cX;obtain⟨z,aV,n,r,aC,e⟩:=ae.oK iR;have c0:aV.toArray.size*k.toNat<=cp:=by rw[eg,<-aC];exact bX
 have u4:¬aV.toArray.size*k.toNat > (2^63-1)/8:=by
  have:(cp:Nat)<=(2^63-1)/8:=by decide
  lia
 have q5:¬(!dI.List.listFitsIndex k)=ao:=by
  rw[fitsIndex_both ai aj];exact ke
 have ady:¬dI.List.listTooLong (aV.toArray.size*k.toNat)=ao:=by
  rw[afx c0];exact ke
 have adG:List.foldl (fun rv gT=>rv++gT) #[] (List.replicate (if aV.toArray.isEmpty=ao then 0 else k.toNat) aV.toArray)=(List.replicate k.toNat aV).flatten.toArray:=by
  have f0:∀m:Nat,List.foldl (fun rv gT=>rv++gT) #[] (List.replicate m aV.toArray)=(List.replicate m aV).flatten.toArray:=fun m=>by
   have:=Mm aV m [];rw[List.nil_append]at this;exact this
  rw[f0];cases aV with
  |nil=>simp
  |cons a ey=>rw[if_neg (by simp)]
 refine wpAny_binaryOp_repeat_ref (T:="list") (U:="int") (by decide) ⟨_,e,I⟩ (fun bw=>typeIs_int bw k t) noFill_list_mul F.fills_int_mul F.slot_int_rmul repeat_list F.slot_int_index.lookup
  (call_meets F.slot_int_rmul (typeIs_int s k t) F.entry_int_rmul (F.args_int_rmul_2 _ _) (int___rmul___int_list k t l aV.toArray n)
   ⟨e,rfl,⟨_,e,rfl⟩,call_meets F.slot_list_mul ⟨_,e,rfl⟩ F.entry_list_mul (F.args_list_mul_2 _ _) (AutoListH.list___mul___list_int_3 l aV.toArray n k t q5 u4 ady) ⟨e,?_⟩⟩)
 rw[adG];exact⟨.ref _,_,ae.Pq (t':=s.toks) (r.rep k.toNat) (by rw[VM,Nat.mul_comm];exact bX),I,q _ ae.fresh⟩
end
end c6
variable {loose:List aa} {wg:(aa->Option ax)->bR->Prop} {td:dd->bR->Prop}
namespace JV
open PySem PySem.W PySem.Calls PyProof.Rows
variable {P:Params}
def XQ:∀(ns:List Int)(vs:List ax),WellAll P h vs (ns.map WData.int)->IntsAre vs ns:=by
 intro ns
 induction ns with
 |nil =>
  intro vs w;rw[List.map_nil]at w;cases w;exact .nil
 | cons n ns bP =>
  intro vs w;rw[gI]at w;cases w with
  |cons a b =>
   cases a;exact .cons _ _ (bP _ b)
variable {l:OpenLaw}
def aay(bj:l.most=J n){args:List WData}{vals:List ax}
  (sm:l.row.toRowW.claim.pre args=ao) (IQ:WellAll P h vals args) :
  ∃a vs ns,vals=[ax.ref a]/\args=[WData.list (ns.map WData.int)]/\h.get? a=J {cls :=.type "list",data :=.seq vs.toArray}/\IntsAre vs ns/\ns.length<=n:=by
 have xa:WShape.hasAll [] args [.list .int]=ao:=(pre_splitW sm).1;have hc:l.pre.holds [] {args:=args}=ao:=(pre_splitW sm).2;obtain⟨d,r,rfl,ai,aj⟩:=hasAllW_cons xa;obtain rfl:=hasAllW_nil aj;obtain⟨xs,rfl,bt⟩:=hasW_list ai;obtain⟨ns,rfl⟩:=items_int bt
 have c0:ns.length<=n:=by
  unfold OpenLaw.pre at hc
  have cf:(WTm.not (.lt (.lit (.int (n:Int))) (.len (.arg 0)))).holds [] {args:=[.list (ns.map .int)]}=ao:=by
   have cf:=(holds_andW hc).1;rw[bj]at cf;exact cf
  have eF:=condW_of cf (w_not (w_lt w_lit (w_len_list (w_arg rfl))));rw[cd]at eF;refine Nat.le_of_not_lt fun q=>?_;have j4:(n:Int)<((ns.length:Nat):Int):=by lia
  first
   |(rw[eK j4]at eF;exact absurd eF (by decide))
   |(simp at eF;lia)
 cases IQ with
 |cons t7 k1 =>
  cases k1;cases t7 with
  |list aK hZ=>exact⟨_,_,ns,I,I,aK,XQ ns _ hZ,c0⟩
def aaC(l:OpenLaw)(args:List WData):l.row.toRowW.claim.post args (.bool ao) args=ao :=
 postW_of (r:=l.row.toRowW) (X:=(ao == ao))
  (show WShape.has [] (.bool ao) .bool=ao by first|rfl|decide|simp[WShape.has,WShape.arms,WShape.armsAll])
  (show(WTm.eq .res (.lit (.bool ao))).value [] {args:=args,res:=J (.bool ao),after:=args}=J (.bool (ao == ao))from w_eq_bool (w_res rfl) w_lit) rfl
def aaK{q:dR}{d:DefRec}
  (bj:l.most=J n) (sg:d.params.defaults=[])
  (call:∀(w:dd)(gH eD:aT)(mg oN:aa->Option ax)(fa:ag)(o:cE)(pm fb doc:ax)(a:ag)(vs:List ax)(ns:List Int),
   Ground q loose [] wg w gH mg oN eD.heap->td w eD.heap->
   eD.heap.get? fa=J o->o.data=.func (docDef d.name d.params d.body d.scope pm fb doc)->eD.heap.CodeRec fb d.name->mg d.name=J (.ref fa)->
   eD.heap.get? a=J {cls :=.type "list",data :=.seq vs.toArray}->IntsAre vs ns->ns.length<=n->eD.gens=#[]->
   pa (model l.prog w) callerA (.call (.ref fa) ⟨[.ref a],[]⟩) (fun r bw=>r=.ok (.ret (.bool ao))/\OldK eD.heap bw.heap/\bw.os=eD.os/\AllBare bw.gens) eD) :
  WalkO q loose wg td l.row.toRowW d [] (fun f vs=>PySem.call f vs):=by
 intro w gH eD mg oN G Y fa o pm fb doc C4 hK aK hd pZ b2 hmg bh args vals as sm ak0 alb IQ u7;obtain rfl:C4=.none:=Dflts.none b2 sg;obtain rfl:hK=.none:=Dflts.noKw b2;obtain⟨a,vs,ns,rfl,rfl,Iy,hints,c0⟩:=aay bj sm IQ;refine enter_call (vH (call w gH eD mg oN fa o pm fb doc a vs ns G Y aK (fd_plain hd) pZ hmg Iy hints c0 bh) fun r bw bl=>?_);obtain⟨rfl,aj,bt,cf⟩:=bl;exact⟨.inl ⟨.bool ao,.bool ao,[],I,fun _=>I,.bool ao,aaC l _,fun _=>⟨List.Pairwise.nil,fun _ hm=>(nomatch hm)⟩⟩,aj,bt,cf⟩
section
variable {prog:dR} {w:dd} {A:ee} {E:ax->aT->Prop} {s:aT} {K:Frag}
noncomputable def alr(h:bR)(L d:ag):List (ag×cE):=(List.range h.objs.size).filterMap fun a=>if a=L\/a=d then aA else(h.get? a).map fun o=>(a,o)
end
end JV
variable {CX:c6.nU} {fa:ag} {B:Prop} {H1 az H':c6.aq}
namespace c6
open PySem PySem.Spec PyProof.Rows
theorem LZ:∀{vs:List ax}{ns:List Int},IntsAre vs ns->Vals (ns.map V.int) vs
 |_,_,.nil =>.nil
 |_,_,.cons n t h =>.cons ⟨t,rfl⟩ (LZ h)
def Ff(H:aq):Prop:=∀b,H b=aA\/∃o xs,H b=J (.j0 o (.lst xs))
def aeC{oN:aa->Option ax}{sp:cH}{eD:aT}{vs:List ax}{ns:List Int}
  (KX:K.In eD.heap) (O2:eD.heap.Ns fx mg) (al:eD.heap.Ns builtinsNs oN) (H8:∀x:aa,x≠"__name__"->oN x=kv x) (Ir:eD.heap.NoLimit) (bh:eD.gens=#[])
  (aN:eD.heap.get? a=J {cls :=.type "list",data :=.seq vs.toArray}) (aG:IntsAre vs ns) (aC:ns.length<=cp) (au:gM k callerA)
  (F:∀zn:bR,K.In zn->zn.Ns fx mg->cB P w K mg zn CX k fa fd [x] sp) (acZ:∀(s:aT)(u:ax),BindsTo s fd ⟨[u],[]⟩ [(x,u)])
  (tO:∀H:aq,Ff H->c4 K H a (ns.map V.int)->sp [.ref a] H (fun v _=>v=.aS ao) fun _ _ _=>False)
  (HU:∀H e bw,CX [] H eD (fun _ _ _=>False) e bw->False) :
  pa (model P w) callerA (.call (.ref fa) ⟨[.ref a],[]⟩) (fun r bw=>r=.ok (.ret (.bool ao))/\OldK eD.heap bw.heap/\bw.os=eD.os/\AllBare bw.gens) eD:=by
 have dK:=LZ aG;have aeF:=aG.length
 have core:∀H:aq,Ff H->c4 K H a (ns.map V.int)->hE P w H eD.heap->(∀b,H b≠aA->b=a)->(H a≠aA->K.lookup a=aA)->
   pa (model P w) callerA (.call (.ref fa) ⟨[.ref a],[]⟩) (fun r bw=>r=.ok (.ret (.bool ao))/\OldK eD.heap bw.heap/\bw.os=eD.os/\AllBare bw.gens) eD:=by
  intro H Dr c7 aF gP ff;have base_of:∀{b:ag}{o:cE},eD.heap.get? b=J o->H b=aA->(sh eD.heap H).get? b=J o:=fun e n=>UP e n
  have zN:∀{b:ag}{o:cE}{aZ:Array DictEntry}{hi:Nat},eD.heap.get? b=J o->o.data=.dict aZ hi->H b=aA:=fun{b o aZ hi}e d=>by
   cases q:H b with
   |none=>rfl
   |some u =>
    have e':b=a:=gP b (by rw[q];simp);subst e';rw[aN]at e;cases e;have d':Data.seq vs.toArray _=Data.dict aZ hi:=d;cases d'
  have DW:∀{b:ag}{m:aa->Option ax},eD.heap.Ns b m->(sh eD.heap H).Ns b m:=fun {b m} ⟨o,aZ,hi,e,d,r⟩=>⟨o,aZ,hi,base_of e (zN e d),d,r⟩
  have Oz:K.In (sh eD.heap H):=fun b o e=>base_of (KX b o e) (by
   cases q:H b with
   |none=>rfl
   |some u =>
    have e':b=a:=gP b (by rw[q];simp);subst e'
    rw[ff (by rw[q];simp)]at e;cases e)
  have acI:Mod K mg (sh eD.heap H):=⟨Oz,DW O2,⟨oN,DW al,H8⟩,let ⟨aeZ,ai,aj⟩:=Ir;⟨aeZ,DW ai,aj⟩⟩;have fl:uh P w K mg (sh eD.heap H) callerA [] eD H:=⟨rfl,acI,fun b o e=>VH e,Nat.le_of_eq (TR _ _),trivial,fun b al=>absurd (show b∈([]:List ag)from al) (by simp),aF,.of_eq bh⟩;refine vH ((F _ Oz (DW O2)).run callerA [] eD H ⟨[.ref a],[]⟩ [.ref a] [.ref a] _ _ au fl (acZ eD (.ref a)) (.cons I .nil) (tO H Dr c7)) fun r bw h=>?_;cases r with
  |error e=>exact(HU H e bw h).elim
  | ok nu =>
   cases nu with
   |next=>exact False.elim h
   |brk=>exact False.elim h
   |cont=>exact False.elim h
   | ret u =>
    obtain⟨v,H',os,bare,un,adM,ey,q⟩:=h;have j4:v=.aS ao:=q;subst j4;obtain rfl:u=ax.bool ao:=ey;refine⟨I,OldK.of_keep fun b o e=>?_,os,bare⟩;cases q:H b with
    |none=>exact un.keep b o e q (by intro z;exact absurd (show b∈([]:List ag)from z) (by simp)) (by simp)
    | some u =>
     rcases Dr b with z|⟨eG,xs,z⟩
     .rw[q]at z;cases z
     ·have d2:=un.pU b eG _ z;obtain⟨aQ,_⟩:=aF b _ z;obtain⟨aR,_⟩:=adM b _ d2;rw[e]at aQ;cases aQ;exact aR
 cases hk:K.lookup a with
 |some o =>
  have e:=KX a o hk;rw[aN]at e;cases e;refine core (fun _=>aA) (fun _ =>.inl I) (.inr ⟨_,vs.toArray,_,hk,I,I,I,by rw[eg,aeF];exact aC,by simpa using dK⟩) (fun b u z=>by have qv:(aA:Option de)=J u:=z;cases qv) (fun b z=>absurd rfl z) fun z=>absurd rfl z
 | none =>
  refine core (fun b=>if b=a then J (.j0 {cls :=.type "list",data :=.seq vs.toArray} (.lst (ns.map V.int)))else aA) (fun b=>?_) (.inl (.inr ⟨{cls :=.type "list",data :=.seq vs.toArray},if_pos rfl⟩)) (fun b u z=>?_) (fun b z=>?_) fun _=>hk
  ·by_cases al:b=a
   .exact .inr ⟨_,_,if_pos al⟩
   .exact .inl (if_neg al)
  ·by_cases al:b=a
   ·have qv:=(if_pos al).symm.trans z;cases qv;subst al;exact⟨aN,by rw[cd];exact aC,vs,_,dK,aN⟩
   ·have qv:=(if_neg al).symm.trans z;cases qv
  ·by_cases al:b=a
   .exact al
   .exact absurd (if_neg al) z
def Vj{l:PySem.W.OpenLaw}{q:dR}{d:DefRec}{K:Params->bT}{CX:dd->nU}{sp:dd->cH}
  (bj:l.most=J n) (sl:n<=cp) (sg:d.params.defaults=[]) (au:gM k callerA)
  (H5:∀(w:dd)(h:bR),td w h->(K w.params).In h)
  (F:∀(w:dd)(mg:aa->Option ax)(fa:ag)(h:bR),(K w.params).In h->h.Ns fx mg->mg d.name=J (.ref fa)->
   ∃fd:i9,(∀(s:aT)(u:ax),BindsTo s fd ⟨[u],[]⟩ [(x,u)])/\
    ∀zn:bR,(K w.params).In zn->zn.Ns fx mg->cB l.prog w (K w.params) mg zn (CX w) k fa fd [x] (sp w))
  (tO:∀(w:dd)(H:aq)(a:ag)(ns:List Int),ns.length<=n->Ff H->c4 (K w.params) H a (ns.map V.int)->sp w [.ref a] H (fun v _=>v=.aS ao) fun _ _ _=>False)
  (HU:∀(w:dd)(H:aq)(s:aT)(e:ax)(bw:aT),CX w [] H s (fun _ _ _=>False) e bw->False) :
  PySem.W.WalkO q loose wg td l.row.toRowW d [] (fun f vs=>PySem.call f vs):=by
 refine JV.aaK bj sg fun w gH eD mg oN fa o pm fb doc a vs ns G Y aK hd pZ hmg Iy hints c0 bh=>?_;have KX:=H5 w _ Y;obtain⟨fd,al,bQ⟩:=F w mg fa _ KX G.T.g hmg;exact aeC KX G.T.g G.T.b G.T.builtins G.T.nolimit bh Iy hints (c5 c0 sl) au bQ al (fun H Dr c7=>tO w H a ns c0 Dr c7) fun H e bw=>HU w H eD e bw
noncomputable def dr(s:bo)(j:Nat):bo:=match s with
 |.ClassDef _ _ _ body _ _ _ _ _ _ _=>body.getD j (.Pass ⟨0,0,0,0⟩)
 |_ => .Pass ⟨0,0,0,0⟩
noncomputable def pO(s:bo):Arguments:=match s with
 |.FunctionDef _ a _ _ _ _ _ _ _ _=>a
 |_=>{posonlyargs:=[],args:=[],vararg:=aA,kwonlyargs:=[],kw_defaults:=[],kwarg:=aA,defaults:=[]}
noncomputable def lM(s:bo):List bo:=match s with
 |.FunctionDef _ _ b _ _ _ _ _ _ _=>b
 |_=>[]
noncomputable def bB(s:bo):Scope:=match s with
 |.FunctionDef _ _ _ _ _ _ sc _ _ _=>sc
 |_=>{kind :=.function,names:=[],isGenerator:=aI,isCoroutine:=aI}
noncomputable abbrev cM:nU:=fun _ _ _ _ _ _=>False
abbrev iI:cP:=fun _ _ _=>False
def xq{X:bS}:Passes cM X iI:=fun _ _ _ _ _ _ _ h=>h.elim
structure cU(K:bT)(x fj:aa)(st:bo)(f:ag)(fd:i9):Prop where
 ex:∃(jv:ax)(hr:Option ag)(hK doc pm:ax)(an:Option ag)(bg ct:ax)(mC:Array (Option ax)),
  fd=o9 x fj (pO st) (lM st) (bB st) .none hK doc pm an bg ct/\K.lookup f=J ⟨jv,hr,.func fd,mC⟩/\EF K bg fj=ao
 dz:ry K (.ref f)=ao
variable {f:ag}
section
variable {P:dR} {w:dd} {K:bT} {mg:aa->Option ax} {zn:bR}
def cU.ok{st:bo}{sp:cH}(F:cU K x fj st f fd)(S:bL N aJ (bB st))(len:∀vs H Q E,sp vs H Q E->vs.length=aJ.length)
  (pY:∀(bg:ax)(A:ee)(outer:List Env)(s:aT)(H:aq)(vs:List V)(Q:bI)(E:cP),gM k (A.deeper (envOfC fj (bB st) s.heap.objs.size f bg))->sp vs H Q E->
   ∃t,jE (pM cM P w K mg zn N fj (bB st) f bg A outer s H E).sJ (lM st) t/\t {nx:=fun _ H'=>Q .bM H',rt:=Q} (start N vs) H):cB P w K mg zn cM (k+1) f fd aJ sp:=by
 obtain⟨jv,hr,hK,doc,pm,an,bg,ct,mC,rfl,tT,pZ⟩:=F.ex;refine WL tT pZ S len fun A outer s H vs Q E au tO=>?_;obtain⟨t,h,q⟩:=pY bg A outer s H vs Q E au tO;exact⟨t,h.sJ,q⟩
def cU.binds{st:bo}(F:cU K x fj st f fd)
  (h:∀(hK doc pm:ax)(an:Option ag)(bg ct:ax)(us:List ax),us.length=aJ.length->bindArgs (o9 x fj (pO st) (lM st) (bB st) .none hK doc pm an bg ct) ⟨us,[]⟩=pure (aJ.zip us)):Binds K fd aJ []:=by
 obtain⟨jv,hr,hK,doc,pm,an,bg,ct,mC,rfl,tT,pZ⟩:=F.ex;exact .all (h hK doc pm an bg ct)
def KY{st:bo}{hK:ax}(l:K.lookup f=J ⟨jv,hr,.func (o9 x fj (pO st) (lM st) (bB st) .none hK doc pm an bg ct),mC⟩)
  (c:EF K bg fj=ao) (k:ry K (.ref f)=ao):cU K x fj st f (o9 x fj (pO st) (lM st) (bB st) .none hK doc pm an bg ct):=⟨⟨jv,hr,hK,doc,pm,an,bg,ct,mC,rfl,l,c⟩,k⟩
end
section
variable {X:bS}
def af(i:Nat)(fV:xv (X.N[i]?=J x) z0)(cV:xv (Bf X.env.scope x) z4)(hd:xv ((x == ("__debug__":aa))=aI) yc)
  (pZ:xv ((x == ("__classdict__":aa))=aI) yc):cF X (.Name x bc) (Et i):=Wb fV cV hd pZ
end
variable {A:Prop}
def e2(h:B):if aI=ao then A else B:=by
 rw[if_neg ke];exact h
def ho(h:A):if ao=ao then A else B:=by
 rw[if_pos rfl];exact h
def kp{c:Prop}[Decidable c](hc:c)(h:B):if(!decide c)=ao then A else B:=by
 rw[eK hc];exact e2 h
def et(H H':aq):Prop:=∀b o,H b=J o->H' b=J o
def et.refl(H:aq):et H H:=fun _ _ h=>h
def et.trans(a:et H H1)(b:et H1 az):et H az:=fun c o h=>b c o (a c o h)
def et.free(e:et H H'){l:ag}(h:H' l=Option.none):H l=Option.none:=by
 cases q:H l with
 |none=>rfl
 |some o =>
  rw[e l o q]at h;cases h
def et.seq(e:et H H')(h:c4 K H a xs):c4 K H' a xs:=by
 rcases h with(h|⟨o,h⟩)|h
 .exact .inl (.inl (e _ _ h))
 .exact .inl (.inr ⟨o,e _ _ h⟩)
 .exact .inr h
end c6
variable {o:c6.de} {cN:c6.iL} {y:aa} {fs':List (aa×c6.V)}
section
namespace c6
open PySem PySem.Spec PyProof.Rows
section
variable {X:bS}
def yh:sZ X "int.bit_length" (fun x xs H Q=>∃i,x=.int i/\xs=[]/\Q (.int ((dI.Int.intBits i:Nat):Int)) H):=by
 intro ar s ab H x xs v us Q ae bH dK h;obtain⟨i,rfl,rfl,q⟩:=h;obtain⟨t,rfl⟩:=bH;cases dK;exact call_gives F.slot_int_bit_length (typeIs_int s i t) F.entry_int_bit_length (F.args_int_bit_length_1 _) (AutoIntG2.int_bit_length_int_0 i t) ⟨.int _,H,ae.tok _,⟨_,I⟩,q⟩
theorem M8:∀{aw:List aa}{aV:List ax},Vals (aw.map V.str) aV->StrsAre aV aw
 |[],_,.nil =>.nil
 |_::_,_,.cons ⟨_,e⟩ r=>by subst e;exact .cons _ _ (M8 r)
def rW:sZ X "str.join" (fun x xs H Q=>∃y a aw,x=.str y/\xs=[.ref a]/\c4 X.K H a (aw.map V.str)/\(aw.map (·.length)).sum+aw.length*y.length<=16777216/\Q (.str (Txt.join y aw)) H):=by
 intro ar s ab H x xs v us Q ae bH dK h;obtain⟨y,a,aw,rfl,rfl,bl,bX,q⟩:=h;obtain⟨t,rfl⟩:=bH;obtain⟨u,rfl,fo⟩:=dK.one;cases fo;obtain⟨aV,r,pl,_⟩:=ae.list bl;exact join_list pl.isList (by simpa using M8 r) bX fun t' k=>⟨.str _,H,ae.tok _,⟨_,I⟩,q⟩
def Z1:ef X (l2 .Mult) (fun x y H Q=>∃z i,x=.str z/\y=.int i/\i<2^40/\-(2^40)<i/\z.length*i.toNat<=cp/\Q (.str (Txt.mul z i)) H):=by
 intro ar s ab H x y v u Q ae bH cX h;obtain⟨z,i,rfl,rfl,ai,aj,bt,q⟩:=h;obtain⟨t,rfl⟩:=bH;obtain⟨t',rfl⟩:=cX;refine SB.mul ⟨?_,fun cf _=>?_,fun cf _=>?_⟩ fun t' k=>⟨.str _,H,ae.tok _,⟨_,I⟩,q⟩
 .simp only[Bool.or_eq_false_iff,decide_eq_false_iff_not];lia
 ·intro c;have bj:(0:Int)<i:=by lia
  have akD:=vl
  have e:(z.length:Int)*i<=2^63-1:=by
   have:((z.length*i.toNat:Nat):Int)=(z.length:Int)*i:=by rw[Int.natCast_mul];congr 1;lia
   lia
  have:=(Int.le_ediv_iff_mul_le bj).mpr e;lia
 .unfold dI.Str.tooLong;simpa using bt
def YQ:hR X (.type "int") (fun xs H Q=>∃x n,xs=[.str x]/\PySem.intText? x=J n/\x.length<=640/\Q (.int n) H):=by
 intro ar s ab H xs us Q ae r h;obtain⟨x,n,rfl,bj,aC,q⟩:=h;obtain⟨u,rfl,t,rfl⟩:=vals1 r;exact PySem.W.KIN.call_text bj aC ⟨.int n,H,ae.tok _,⟨_,I⟩,q⟩
def V5:s5 X (fun x lo aG H Q=>∃z,x=.str z/\z.length<=cp/\Q (.str (Txt.slice z lo aG)) H):=by
 intro ar s ab H x v o1 o3 lo aG eY Q ae bH hs pl pu h;obtain⟨z,rfl,bX,q⟩:=h;obtain⟨t,rfl⟩:=bH;refine⟨"str",_,F.slot_str_getitem.lookup,typeIs_str s z t,?_⟩;have dG:∀(t':Tok)(k:Nat),ja X ar ab Q (.str (Txt.slice z lo aG) t') {s with toks:=k}:=fun t' k=>⟨.str _,H,ae.tok _,⟨_,rfl⟩,q⟩;obtain⟨o,aK,hc,hd⟩:=hs;cases pl with
 |none =>
  cases pu with
  |none=>exact EI (l:=aA) (u:=aA) (st:=aA) ⟨o,aK,hc,hd⟩ I (post_val_or_str ⟨c5 (Txt.slice_le z _ _) bX,dG⟩)
  |int j JI=>exact EI (l:=aA) (u:=J (j,JI)) (st:=aA) ⟨o,aK,hc,hd⟩ I (post_val_or_str ⟨c5 (Txt.slice_le z _ _) bX,dG⟩)
 |int i RQ =>
  cases pu with
  |none=>exact EI (l:=J (i,RQ)) (u:=aA) (st:=aA) ⟨o,aK,hc,hd⟩ I (post_val_or_str ⟨c5 (Txt.slice_le z _ _) bX,dG⟩)
  |int j JI=>exact EI (l:=J (i,RQ)) (u:=J (j,JI)) (st:=aA) ⟨o,aK,hc,hd⟩ I (post_val_or_str ⟨c5 (Txt.slice_le z _ _) bX,dG⟩)
def ZN:hR X (.builtin "isinstance") (fun xs H Q=>∃x T t b,xs=[x,.ty T]/\me X.K H x t/\vG X.K t (.type T)=J b/\Q (.aS b) H):=by
 intro ar s ab H xs us Q ae r h;obtain⟨x,T,t,b,rfl,ty,e,q⟩:=h;obtain⟨u,nN,rfl,b9,ej⟩:=vals2 r;cases(show nN=ax.type T from ej);exact Mh ae b9 ty e fun dP=>⟨.aS b,H,ae.tok _,I,q⟩
def Zo:hR X (.builtin "isinstance") (fun xs H Q=>∃x C t b,xs=[x,.ref C]/\me X.K H x t/\vG X.K t (.ref C)=J b/\Q (.aS b) H):=by
 intro ar s ab H xs us Q ae r h;obtain⟨x,C,t,b,rfl,ty,e,q⟩:=h;obtain⟨u,nN,rfl,b9,ej⟩:=vals2 r;cases(show nN=ax.ref C from ej);exact Mh ae b9 ty e fun dP=>⟨.aS b,H,ae.tok _,I,q⟩
end
noncomputable def xV(lo c:Int)(n:Nat):k3:=⟨fun i _=>i<n,fun i H x H'=>H'=H/\x=.int (lo+i*c),fun i _=>n<=i⟩
def Zq(it:ag)(lo c:Int)(n:Nat):Turn P w K e6 (xV lo c n) [it] it (fun i h=>IsRangeIter h it (lo+(i:Nat)*c) ((n:Int)-(i:Nat)) c) where
 mem:=by simp
 obj:=fun i h st b al=>by
  have e:b=it:=by simpa using al
  subst e
  exact⟨_,st,fun v z=>by
   have qv:Data.fields _=Data.cell v:=z
   cases qv⟩
 keep:=fun i h h' st k=>k it (by simp) _ st
 item:=by
  intro X dX hw ff hc i ar s ab H E ae aD st bh;subst dX hw ff;obtain⟨f0,f1,f2,h8,f4,iO⟩:=aD it (by simp);have W:=Walks.range (prog:=X.prog) (w:=X.w) (ae.ok.hd hc) it lo c n;refine W.item i s _ _ bh st fun v h' dP cV iG ck=>?_;obtain⟨t,rfl⟩:=cV;have bC:Inv X ar ab H {s with heap:=h',toks:=dP}:=ae.turned (fun b o al e=>ck b o (by simpa using al) e) f0 f1 h8 f4 iO;exact⟨_,I,yG (s:={s with heap:=h',toks:=dP}) (n:="range_iterator") iG I I (by decide) ⟨.int (lo+i*c),H,bC,⟨t,I⟩,⟨I,I⟩,iG,fun b al=>(aD b al).1⟩⟩
 done:=by
  intro X dX hw ff hc i ar s ab H E ae aD st bh;subst dX hw ff;obtain⟨f0,f1,f2,h8,f4,iO⟩:=aD it (by simp);exact wpAny_pyNext_range_end (ae.ok.hd hc) st (by have:n<=i:=bh;lia) fun h' eE=>⟨I,ae.turned (t':=s.toks) (fun b o al e=>eE b o al e) f0 f1 h8 f4 iO⟩
 self:=fun _ _ _ _ _ st h=>wpAny_pyIter_rangeiter st h
section
variable {X:bS} {e6:c3}
def aer(cN:iL):d8:=fun ab H R=>cN ab H fun vs H1=>∃i j:Int,vs=[.int i,.int j,.int (-1)]/\(-(2^61)<=i/\i<2^61/\-(2^61)<=j/\j<2^61)/\R (xV i (-1) (i-j).toNat) H1
end
section
variable {X:bS} {e6:c3}
def ZV{a b:Int}(aN : -(2^61)<=a)(q1:a<2^61)(al : -(2^61)<=b)(se:b<2^61):dI.Range.small a b (-1)=ao:=by
 unfold dI.Range.small dI.Range.rangeSize;simp only[dI.Range.rangeFitsLong,ix,Bool.or_eq_true,k6,beq_iff_eq,show ¬((-1:Int) > 0) by decide,if_false,Int.neg_neg,Int.ediv_one];split<;>lia
def Yc(a b:Int):dI.Range.rangeSize a b (-1)=(((a-b).toNat:Nat):Int):=by
 unfold dI.Range.rangeSize;rw[if_neg (by decide)];simp only[Int.neg_neg,Int.ediv_one];split<;>lia
def L8{a b c:c3}{p:Pos}(bh:jU X "range")(hm:X.mg "range"=aA)(aN:jl X [a,b,c] cN)
  (hs:xv (eI [a,b,c] X.env=[(aI,eval a X.env),(aI,eval b X.env),(aI,eval c X.env)]) z0) (gd:xv (eI [b,c] X.env=[(aI,eval b X.env),(aI,eval c X.env)]) z0) :
  jV X e6 (.Call (.Name "range" p) [a,b,c] [] bc) (aer cN):=by
 intro ar s ab H R ae h;refine Call_ (pI ae bh hm boot_range (PyProof.Rows.callWith_type1 (dg (aN bc ar s ab H _ ae h) fun us s1 ⟨vs,H1,bC,b9,cn⟩=>?_) (by rw[hs,gd]) (by rw[gd];rfl)));obtain⟨i,j,e,⟨cn,b8,gh,afR⟩,q⟩:=cn;subst e;cases b9 with
 | cons r oT =>
  cases oT with
  | cons ey oT =>
   cases oT with
   | cons aik oT =>
    cases oT;obtain⟨t,rfl⟩:=r;obtain⟨t',rfl⟩:=ey;obtain⟨aiU,rfl⟩:=aik;refine call_range_3 (by decide) ?_ (.inl (PyProof.noPylong_small (by decide)));refine wpAny_pyIter_range (IsRange.new ..) (ZV cn b8 gh afR) ?_;have cW:Inv X ar ab H1 {s1 with heap:=s1.heap.push {cls :=.type "range",data :=.fields #[.int i t,.int j t',.int (-1) aiU]}}:=bC.kept (t':=s1.toks) fun b o e=>gZ _ e;refine⟨_,[_],_,_,H1,I,cW.kept (t':=s1.toks) fun b o e=>gZ _ e,Zq _ i (-1) (i-j).toNat,?_,fun b al=>?_,q⟩
    ·have aQ:i+((0:Nat):Int)*(-1)=i:=by simp
     have aR:(((i-j).toNat:Nat):Int)-((0:Nat):Int)=dI.Range.rangeSize i j (-1):=by rw[Yc];simp
     show IsRangeIter _ _ (i+((0:Nat):Int)*(-1)) ((((i-j).toNat:Nat):Int)-((0:Nat):Int)) (-1);rw[aQ,aR];exact iw _ I
    ·have e:=eB.mp al;subst e;exact cW.qV (cR _) (cW.aF.fresh (cR _))
end
noncomputable def vY(x:aa):k3:=⟨fun i _=>i<x.cps.size,fun i H v H'=>H'=H/\∃c,x.cps[i]?=J c/\v=.str ⟨#[c]⟩,fun i _=>x.cps.size<=i⟩
section
variable {X:bS} {e6:c3}
def ME{e6:c3}(x:aa)(it:ag)(n:String)(t:Tok)(W:∀Ao:ee,Ao.handled=aA->Walks P w Ao it [it] [it] x.cps.size (SignAt x) (fun i h=>h.IsStrIter it n x t i))
  (bj:["enumerate","zip","dict_itemiterator","dict_reverseitemiterator","odict_iterator","itertools.zip_longest","itertools.pairwise"].contains n=aI)
  (ac8:∀(A:ee)(i:Nat)(s:aT)(Q:Option ax->aT->Prop)(E:ax->aT->Prop),A.handled=aA->s.heap.IsStrIter it n x t i->x.cps.size<=i->(∀h',(∀b o,b≠it->s.heap.get? b=J o->h'.get? b=J o)->Q aA {s with heap:=h'})->cc (model P w) A (pyNext (.ref it)) Q E s)
  (adV:∀(A:ee)(i:Nat)(s:aT)(Q:ax->aT->Prop)(E:ax->aT->Prop),s.heap.IsStrIter it n x t i->Q (.ref it) s->cc (model P w) A (pyIter (.ref it)) Q E s) :
  Turn P w K e6 (vY x) [it] it (fun i h=>h.IsStrIter it n x t i) where
 mem:=by simp
 obj:=fun i h st b al=>by
  have e:b=it:=by simpa using al
  subst e;obtain⟨o,aK,hc,hd⟩:=st;exact⟨o,aK,fun v z=>by rw[hd]at z;cases z⟩
 keep:=fun i h h' st k=>by
  obtain⟨o,aK,r⟩:=st;exact⟨o,k it (by simp) o aK,r⟩
 item:=by
  intro X dX hw ff hc i ar s ab H E ae aD st bh;subst dX hw ff;obtain⟨f0,f1,f2,h8,f4,iO⟩:=aD it (by simp);refine(W X.A (ae.ok.hd hc)).item i s _ _ bh st fun v h' dP cV iG ck=>?_;obtain⟨c,u,js,rfl⟩:=cV;have bC:Inv X ar ab H {s with heap:=h',toks:=dP}:=ae.turned (fun b o al e=>ck b o (by simpa using al) e) f0 f1 h8 f4 iO;obtain⟨o,aK,lU,hd⟩:=id iG;exact⟨_,I,yG (s:={s with heap:=h',toks:=dP}) (n:=n) aK lU hd bj ⟨.str ⟨#[c]⟩,H,bC,⟨u,I⟩,⟨I,c,js,I⟩,iG,fun b al=>(aD b al).1⟩⟩
 done:=by
  intro X dX hw ff hc i ar s ab H E ae aD st bh;subst dX hw ff;obtain⟨f0,f1,f2,h8,f4,iO⟩:=aD it (by simp);exact ac8 X.A i s _ _ (ae.ok.hd hc) st bh fun h' eE=>⟨I,ae.turned (t':=s.toks) (fun b o al e=>eE b o al e) f0 f1 h8 f4 iO⟩
 self:=fun A i s Q E st h=>adV A i s Q E st h
def Pg(dQ:TE):d8:=fun ab H R=>dQ ab H fun x H1=>∃y,x=.str y/\R (vY y) H1
def V8{l:c3}{dQ:TE}(aC:cF X l dQ):jV X e6 l (Pg dQ):=by
 intro ar s ab H R ae h;refine dg (aC ar s ab H _ ae h) fun v s1 b3=>?_;obtain⟨x,H1,bC,b9,cn⟩:=b3;obtain⟨y,e,q⟩:=cn;subst e;obtain⟨t,rfl⟩:=b9
 have dG:∀(o:cE)(iq:Nat->bR->Prop),Turn X.prog X.w X.K e6 (vY y) [s1.heap.objs.size] s1.heap.objs.size iq->iq 0 (s1.heap.push o)->Fg X ar ab e6 R (.ref s1.heap.objs.size) {s1 with heap:=s1.heap.push o}:=fun o iq T bb=>by
  refine⟨s1.heap.objs.size,[s1.heap.objs.size],iq,vY y,H1,I,bC.kept (t':=s1.toks) fun b o e=>gZ _ e,T,bb,fun b al=>?_,q⟩;have e:=eB.mp al;subst e;exact bC.qV (cR _) (bC.aF.fresh (cR _))
 cases aN:y.cps.all (· < 128)
 ·refine wpAny_pyIter_wide aN (dG _ _ (ME y _ "str_iterator" t (fun Ao gP=>Walks.strWide gP _ y t) (by decide) (fun A i s Q E fg st aG gQ=>?_) fun A i s Q E st bl=>wpAny_pyIter_striter_wide st bl) ⟨_,iw _ I,I,I⟩);exact wpAny_pyNext_wide_end fg st (by simpa using aG) fun h' Ib=>gQ h' fun b o al e=>Ib b o al e
 ·refine wpAny_pyIter_ascii aN (dG _ _ (ME y _ "str_ascii_iterator" t (fun Ao gP=>Walks.strAscii gP _ y t) (by decide) (fun A i s Q E fg st aG gQ=>?_) fun A i s Q E st bl=>wpAny_pyIter_striter_ascii st bl) ⟨_,iw _ I,I,I⟩);exact wpAny_pyNext_ascii_end fg st (by simpa using aG) fun h' Ib=>gQ h' fun b o al e=>Ib b o al e
end
noncomputable def C3(sc:Scope)(cs:List aa):Bool :=
 sc.kind ==.function&&sc.names.all (fun y=>y.2 !=.cell)&&sc.names.all (fun y=>y.2 !=.local||sc.names.lookup y.1 == J .local) &&
  sc.names.all (fun y=>y.2 !=.free||cs.contains y.1)&&cs.all (fun x=>sc.names.lookup x == J .free)
noncomputable def ub(X:bS):List (Nat×aa)->Prop
 |[]=>True
 |(j,x)::r=>X.N[j]?=J x/\(X.env.kindOf x=J .cell\/X.env.kindOf x=J .free)/\ub X r
theorem ub.at{X:bS}:∀{cs:List (Nat×aa)},ub X cs->∀p∈cs,X.N[p.1]?=J p.2/\(X.env.kindOf p.2=J .cell\/X.env.kindOf p.2=J .free)
 |[],_,_,h=>nomatch h
 |(j,x)::r,⟨ai,aj,bt⟩,p,h=>by
  rcases dJ.mp h with e|e
  .subst e;exact⟨ai,aj⟩
  .exact ub.at bt p e
noncomputable def pL(X:bS)(d3:Scope)(cl:List (aa×ag))(C:ag)(N:List aa)(s2:aT)(az:aq)(cu:List ag):bS where
 prog:=X.prog
 w:=X.w
 K:=X.K
 mg:=X.mg
 zn:=X.zn
 A:=X.A
 N:=N
 gH:=s2
 k2:=az
 env:=compEnvC d3 cl C X.env
 outer:=X.stack
 stack:=X.stack
 ex:=cu
 calm:=X.calm
 fn:=fun _=>aI
 pn:=[]
 xe:=fun _ _=>False
theorem GD{env:Env}:∀(names:List (aa×ku)),(∀y∈names,y.2=.free->∃c,env.cells.lookup y.1=J c)->
  ∀acc:List (aa×ag),(∀x c,acc.lookup x=J c->env.cells.lookup x=J c)->∃cl,
  (forIn names acc fun(x:aa×ku)r=>do
   if x.2 ==.free then pure (ForInStep.yield ((x.1,<-cellOf env x.1)::r))else pure (ForInStep.yield r):Sem (List (aa×ag)))=pure cl/\
  (∀x c,cl.lookup x=J c->env.cells.lookup x=J c)/\(∀y∈names,y.2=.free->∃c,cl.lookup y.1=J c)/\∀x c,acc.lookup x=J c->∃ij,cl.lookup x=J ij
 |[],_,acc,aN=>⟨acc,rfl,aN,(fun _ h=>nomatch h),fun _ c h=>⟨c,h⟩⟩
 | (n,k)::r,bj,acc,aN=>by
  by_cases hk:k=.free
  ·subst hk;obtain⟨c,hc⟩:=bj _ g0 rfl
   have q1:∀x ij,((n,c)::acc).lookup x=J ij->env.cells.lookup x=J ij:=fun x ij e=>by
    rw[List.lookup_cons]at e;by_cases av:x=n
    ·subst av;rw[beq_self_eq_true]at e;cases e;exact hc
    ·rw[beq_false_of_ne av]at e;exact aN x ij e
   obtain⟨cl,e,ai,aj,bt⟩:=GD r (fun y ba=>bj y (d9 _ ba)) ((n,c)::acc) q1;refine⟨cl,?_,ai,fun y ba aD=>?_,fun x ij av=>?_⟩
   ·rw[List.forIn_cons];simp only[cellOf,hc,beq_self_eq_true,if_true];exact e
   ·rcases dJ.mp ba with e'|e'
    ·subst e';exact bt n c (by rw[List.lookup_cons,beq_self_eq_true])
    .exact aj y e' aD
   ·by_cases Pd:x=n
    ·subst Pd;exact bt x c (by rw[List.lookup_cons,beq_self_eq_true])
    .exact bt x ij (by rw[List.lookup_cons,beq_false_of_ne Pd];exact av)
  ·obtain⟨cl,e,ai,aj,bt⟩:=GD r (fun y ba=>bj y (d9 _ ba)) acc aN;refine⟨cl,?_,ai,fun y ba aD=>?_,bt⟩
   ·rw[List.forIn_cons];have al:(k == ku.free)=aI:=by simpa using hk
    simp only[al,Bool.false_eq_true,if_false];exact e
   ·rcases dJ.mp ba with e'|e'
    ·subst e';exact absurd aD hk
    .exact aj y e' aD
def mK(eQ:k3)(g:gY)(hQ:ic)(cT:TE)(Q:bI)(fO:St)(H1:aq)(D:ag):Prop :=
 ∃ W:Nat->Nat->St->aq->Prop,(∃m,W 0 m fO (upd H1 D (.lst [])))/\∀i m b0 az,W i m b0 az->
  (eQ.stop i az/\Q (.ref D) az)\/
  (eQ.go i az/\∀x b5,eQ.rx i az x b5->g x b0 b5 fun bD gW=>hQ bD gW fun b d7 =>
   if b=ao then cT bD d7 fun y ek=>∃xs b6,ek D=J (.lst xs)/\xs.length<cp/\b6<m/\W (i+1) b6 bD (upd ek D (.lst (xs++[y])))
   else ∃b6,b6<m/\W (i+1) b6 bD d7)
def JA(jS:d8)(g:gY)(hQ:ic)(cT:TE)(fO:St->St):TE:=fun ab H Q=>jS ab H fun eQ H1=>∀D,H1 D=aA->mK eQ g hQ cT Q (fO ab) H1 D
def oX:ic:=fun _ H Q=>Q ao H
def x2(X:bS)(ifs:List c3)(t:ic):Prop :=
 ∀(ar:List (ag×cE))(s:aT)(ab:St)(H:aq)(Q:Bool->aq->Prop),Inv X ar ab H s->t ab H Q->
  cc (model X.prog X.w) X.A (forIn ifs ao fun c r=>if r=ao then do let ok <-isTrue c X.env (eval c X.env);pure (ForInStep.yield ok)else pure (ForInStep.yield r)) (A8 X ar ab Q) X.xe s
def hW{X:bS}:x2 X [] oX:=fun _ _ _ H _ ae h=>wpAny_tests_nil ⟨H,ae,h⟩
section
variable {prog:dR} {w:dd} {A:ee} {E:ax->aT->Prop} {R:Result->aT->Prop} {s:aT}
theorem Zn{elt ka:c3}{ifs:List c3}{it acc:ax}(ae:Nat->aT->Prop)
  (turn:∀n s,ae n s->cc (model prog w) A (pyNext it) (fun r eD=>match r with
   |none=>R (.ok .next) eD
   | some v=>cc (model prog w) A (letOwnedTupleGo ka it v) (fun _ RG=>cc (model prog w) A (assign ka env v) (fun _ sQ =>
     cc (model prog w) A (forIn ifs ao fun c r=>if r=ao then do let ok <-isTrue c env (eval c env);pure (ForInStep.yield ok)else pure (ForInStep.yield r)) (fun ok vB =>
      if ok=ao then cc (model prog w) A (eval elt env) (fun x RH =>
       cc (model prog w) A (call (.builtin "list.append") [acc,x]) (fun _ RI=>∃m,m<n/\ae m RI) (notedBy (model prog w) A env fun e bw=>R (.error e) bw) RH) (notedBy (model prog w) A env fun e bw=>R (.error e) bw) vB
      else ∃m,m<n/\ae m vB) (notedBy (model prog w) A env fun e bw=>R (.error e) bw) sQ) (notedBy (model prog w) A env fun e bw=>R (.error e) bw) RG) (notedBy (model prog w) A env fun e bw=>R (.error e) bw) eD) (notedBy (model prog w) A env fun e bw=>R (.error e) bw) s)
  (n:Nat) (h:ae n s) :
  pa (model prog w) A (.compLoop (.ListComp elt [⟨ka,iter,ifs,0⟩] d3 bc) 0 it acc env) R s:=by
 refine codeAny_loop I ae (fun n s dM=>?_) n h;show cc _ A ((compTurn (.ListComp elt [⟨ka,iter,ifs,0⟩] d3 bc) 0 it acc env).onRaise (fun x=>do noteFrame x env;theTreesLotGoes x)) _ _ s;refine wpAny_noted ?_;rw[compTurn_list];refine cO (wpAny_standAt (cO (nc (turn n s dM) (fun r eD q9=>?_) fun _ _ h'=>h')));cases r with
 |none=>exact e3 q9
 | some v =>
  refine cO (nc q9 (fun _ RG aef=>?_) fun _ _ h'=>h');refine cO (nc aef (fun _ sQ aeg=>cO (nc aeg (fun ok vB Pe=>?_) fun _ _ h'=>h')) fun _ _ h'=>h');cases ok with
  |false=>exact e3 ⟨I,Pe⟩
  |true =>
   exact cO (cO (nc Pe (fun x RH aeh=>cO (nc aeh (fun _ RI aei=>e3 (e3 ⟨I,aei⟩)) fun _ _ h'=>h')) fun _ _ h'=>h'))
end
section
variable {X:bS} {elt ka iter:c3} {ifs:List c3} {d3:Scope} {bc p:Pos} {g5:List (Nat×aa)} {ia:List aa} {jS:d8} {g:gY} {hQ:ic} {cT:TE}
noncomputable def qS(ia:List aa)(g5:List (Nat×aa)):St->St:=fun ab=>List.replicate ia.length aA++g5.map fun p=>(ab[p.1]?).join
theorem Lq{env:Env}:∀{names:List (aa×ku)}{x:aa},names.lookup x=J .free->
  ((names.map fun(n,k)=>if(k == ku.free&&env.scope.kind ==.function&&env.kindOf n == J .cell)then(n,ku.cell)else(n,k)).lookup x=J .cell\/
   (names.map fun(n,k)=>if(k == ku.free&&env.scope.kind ==.function&&env.kindOf n == J .cell)then(n,ku.cell)else(n,k)).lookup x=J .free)
 |[],_,h=>by cases h
 | (n,k)::r,x,h=>by
  rw[List.lookup_cons]at h;rw[gI];by_cases av:x=n
  ·subst av;rw[beq_self_eq_true]at h;cases h;dsimp only;split
   .exact .inl (by rw[List.lookup_cons,beq_self_eq_true])
   .exact .inr (by rw[List.lookup_cons,beq_self_eq_true])
  ·rw[beq_false_of_ne av]at h;have bP:=Lq (env:=env) h;dsimp only;split<;>(rw[List.lookup_cons,beq_false_of_ne av];exact bP)
set_option tactic.hygienic true in
theorem Lr{env:Env}:∀{names:List (aa×ku)}{x:aa},((names.map fun(n,k)=>if(k == ku.free&&env.scope.kind ==.function&&env.kindOf n == J .cell)then(n,ku.cell)else(n,k)).lookup x=J .cell\/
   (names.map fun(n,k)=>if(k == ku.free&&env.scope.kind ==.function&&env.kindOf n == J .cell)then(n,ku.cell)else(n,k)).lookup x=J .free)->(∀y∈names,y.2≠.cell)->names.lookup x=J .free
 |[],_,h,_=>by rcases h with h|h<;>cases h
 | (n,k)::r,x,h,bj=>by
  rw[List.lookup_cons];by_cases av:x=n
  ·subst av;rw[beq_self_eq_true];have hk:=bj _ g0;rw[gI]at h;dsimp only at h;split at h
   ·rename_i c;simp only[ix,beq_iff_eq]at c;exact congrArg J c.1.1
   ·rw[List.lookup_cons,beq_self_eq_true]at h;rcases h with h|h
    .cases h;exact absurd I hk
    .exact h
  ·rw[beq_false_of_ne av];refine Lr (env:=env) ?_ fun y ba=>bj y (d9 _ ba);rw[gI]at h;dsimp only at h;split at h<;>(rw[List.lookup_cons,beq_false_of_ne av]at h;exact h)
theorem FI:∀{names:List (aa×ku)}{x:aa}{k:ku},names.lookup x=J k->(x,k)∈names
 |[],_,_,h=>by cases h
 | (n,hC)::r,x,k,h=>by
  rw[List.lookup_cons]at h;by_cases av:x=n
  ·subst av;rw[beq_self_eq_true]at h;cases h;exact g0
  ·rw[beq_false_of_ne av]at h;exact d9 _ (FI h)
set_option maxHeartbeats 1000000
def Mt{use:Option (ax->Sem Unit)}{Qf:ax->aT->Prop}{Q:bI}
  (hc:X.calm=ao) (w9:C3 d3 (g5.map (·.2))=ao) (u4:ub X g5) (aG:jV X ka iter jS)
  (bh:∀cl C s2 az cu,qG (pL X d3 cl C (ia++g5.map (·.2)) s2 az cu) ka g)
  (aP:∀cl C s2 az cu,x2 (pL X d3 cl C (ia++g5.map (·.2)) s2 az cu) ifs hQ)
  (he:∀cl C s2 az cu,cF (pL X d3 cl C (ia++g5.map (·.2)) s2 az cu) elt cT)
  (ae:Inv X ar ab H s) (h:JA jS g hQ cT (qS ia g5) ab H Q)
  (dG:∀D C H' bw,Inv X ar ab H' bw->Q (.ref D) H'->H' C=aA->C≠X.env.locals->X.gH.heap.objs.size<=C->(∀x c,X.env.cells.lookup x=J c->c≠C)->(∀p∈X.pn++ar,p.1≠C)->(∃m,bw.heap.Ns C m)->
   compPost (model X.prog X.w) X.A X.xe use Qf (.ref D) C (.ok .next) bw)
  (hs:xv (∀x,foldedSetIterable iter X.env x=pure x) z2) :
  cc (model X.prog X.w) X.A (comprehension (.ListComp elt [⟨ka,iter,ifs,0⟩] d3 bc) d3 X.env p (newList []) aI (eval iter X.env) use) Qf X.xe s:=by
 simp only[C3,ix,hy,beq_iff_eq,bne_iff_ne,Bool.or_eq_true,List.contains_iff_mem]at w9;obtain⟨⟨⟨⟨gr,fD⟩,oI⟩,qc⟩,IY⟩:=w9;have adF:∀y∈d3.names,y.2=.local->d3.names.lookup y.1=J .local:=fun y ba aC=>(oI y ba).resolve_left fun z=>z aC;have NP:=u4.at
 have adg:∀y∈d3.names,y.2=.free->∃c,X.env.cells.lookup y.1=J c:=fun y ba aD=>by
  have hm:=(qc y ba).resolve_left fun z=>z aD;obtain⟨q,bl,e⟩:=List.mem_map.mp hm;have:=(NP q bl).2;rw[e]at this;exact ae.ok.has _ this
 obtain⟨cl,lU,ik,hZ,_⟩:=GD d3.names adg [] (fun x c e=>by cases e)
 have ac3:closureFor d3 X.env=pure cl:=by
  refine(show closureFor d3 X.env=(_ >>= pure)from rfl).trans ((congrArg (· >>= pure) lU).trans ?_);rfl
 refine wpAny_comprehension_free (use:=use) I hs ac3 gr adF (dg (aG ar s ab H _ ae h) fun v s1 ai=>dg ai fun IW s2 aj=>?_);obtain⟨it,cu,iq,eQ,az,e,cW,T,jy,f2,acQ⟩:=aj;subst e;have Og:az s2.heap.objs.size=aA:=cW.fresh;obtain⟨W,⟨m0,nO⟩,turn⟩:=acQ _ Og;refine wpAny_newObj_type (wpAny_newFunctionEnv fD (by intro y ba;simp at ba) (fun q9 Iw DJ=>?_) gr);dsimp only at Iw DJ ⊢;generalize HZ:s2.heap.push {cls :=.type "list",dict:=aA,data :=.seq ([]:List ax).toArray}=b5 at Iw DJ ⊢;have jr:b5.objs.size=s2.heap.objs.size+1:=by rw[<-HZ,bR.size_push]
 have Ot:s2.heap.objs.size≠b5.objs.size:=by rw[jr];exact hU (Nat.lt_succ_self _)
 have HV:s2.heap.objs.size<=b5.objs.size:=by rw[jr];exact Nat.le_succ _
 have below:∀b,b<s2.heap.objs.size->b≠b5.objs.size:=fun b al=>by rw[jr];exact hU (Nat.lt_succ_of_lt al)
 have old:∀b o,s2.heap.get? b=J o->q9.get? b=J o:=fun b o e=>DJ.extBut b o (below b (fI e)) (gZ _ (HZ ▸ gZ _ e));have acT:q9.get? s2.heap.objs.size=J {cls :=.type "list",dict:=aA,data :=.seq ([]:List ax).toArray}:=DJ.extBut _ _ Ot (gZ _ (HZ ▸ iw _ rfl));have abT:az b5.objs.size=aA:=cW.aF.fresh HV
 have HI:∀b∈cu,b<s2.heap.objs.size:=fun b al=>by
  obtain⟨o,aK,_⟩:=T.obj _ _ jy b al;exact fI aK
 let rS:=pL X d3 cl b5.objs.size (ia++g5.map (·.2)) s2 az cu
 have afE:rS.Ok:=by
  refine⟨cW.ok.mod,gr,cW.ok.glob,cW.ok.blt,HV,fun x y c av ba=>cW.ok.inj x y c (ik _ _ av) (ik _ _ ba),fun x av=>?_,(fun x c aD=>nomatch aD),cW.ok.hd,cW.ok.frames,.inl I,fun b al=>⟨below b (HI b al),fun x c av=>(f2 b al).2.2.2.2.1 x c (ik _ _ av)⟩,cW.bs,
   c5 cW.ok.qR cW.dt,fun b o e al=>?_,fun b al z=>?_,cW.stack,cW.RE⟩
  .exact hZ (x,.free) (FI (Lr av fD)) I
  ·rcases(f2 b al).2.2.2.1 with z|z
   .exact cW.ok.xo b o e z
   .exact absurd (fz (fI e) cW.ok.qR) (Nat.not_lt.mpr z)
  ·rcases dJ.mp (cW.En b z)with q|q
   .exact(f2 b al).2.1 q
   .exact(f2 b al).2.2.1 q
 have ajQ:hV (ow X.stack) cu az (upd az s2.heap.objs.size (.lst [])) s2.heap q9:=hV.laid old (cR _) Og;have adN:hE X.prog X.w (upd az s2.heap.objs.size (.lst [])) q9:=cW.aF.laid old (cR _) ⟨UF _,[],0,.nil,acT⟩
 have xT:∀dP,Inv rS [] (qS ia g5 ab) (upd az s2.heap.objs.size (.lst [])) {s2 with heap:=q9,toks:=dP}:=fun dP=>by
  refine⟨afE,I,cW.bare,ajQ,⟨_,Iw,fun i x v aQ aR gn=>?_⟩,fun x c av=>?_,?_,fun x c av=>?_,fun q bl=>?_,adN,?_⟩
  ·
   obtain⟨gu,_,gE⟩:=cW.loc
   have iS:ia.length<=i:=by
    rcases h4 i ia.length with z|z
    ·have:(qS ia g5 ab)[i]?=J aA:=by
      unfold qS;rw[List.getElem?_append_left (by simpa using z),List.getElem?_replicate,if_pos z]
     rw[this]at aR;cases aR
    .exact z
   have om:(ia++g5.map (·.2))[i]?=J x:=aQ;rw[List.getElem?_append_right iS,eJ]at om
   have yN:(g5.map fun p=>(ab[p.1]?).join)[i-ia.length]?=J (J v):=by
    have:(qS ia g5 ab)[i]?=(g5.map fun p=>(ab[p.1]?).join)[i-ia.length]?:=by
     unfold qS;rw[List.getElem?_append_right (by simpa using iS),List.length_replicate]
    rw[<-this];exact aR
   rw[eJ]at yN;cases bl:g5[i-ia.length]? with
   |none=>rw[bl]at om;cases om
   | some q =>
    rw[bl]at om yN;obtain rfl:q.2=x:=ie om;have C8:(ab[q.1]?).join=J v:=ie yN
    have aee:ab[q.1]?=J (J v):=by
     cases z:ab[q.1]? with
     |none=>rw[z]at C8;cases C8
     |some y=>rw[z]at C8;exact congrArg J C8
    have O4:q∈g5:=jc bl;obtain⟨dc,dm⟩:=NP q O4
    have ad7:Bf X.env.scope q.2:=by
     rcases dm with z|z
     .exact .inr (.inl z)
     .exact .inr (.inr z)
    obtain⟨u,fo,tT⟩:=gE q.1 q.2 v dc aee ad7;have y9:d3.names.lookup q.2=J .free:=IY q.2 (List.mem_map_of_mem O4);refine⟨u,fo,.inr ⟨Lq y9,?_⟩⟩;rcases tT with⟨z,_⟩|⟨_,c,Dx,jv,DG,Iz⟩
    .rcases dm with y|y<;>(rw[y]at z;cases z)
    ·obtain⟨ij,js⟩:=hZ (q.2,.free) (FI y9) rfl;have:=ik _ _ js;rw[Dx]at this;cases this;exact⟨c,js,jv,old _ _ DG,Iz⟩
  ·obtain⟨v,o,aK,hd⟩:=cW.cell x c (ik _ _ av);exact⟨v,o,old _ _ aK,hd⟩
  ·show upd az s2.heap.objs.size (.lst []) b5.objs.size=aA;rw[bx (fJ Ot)];exact abT
  ·have ac2:=cW.ov x c (ik _ _ av);obtain⟨v,o,aK,hd⟩:=cW.cell x c (ik _ _ av);rw[bx (hU (fI aK))];exact ac2
  ·have:q∈([]:List (ag×cE)):=bl;cases this
  ·show(qS ia g5 ab).length=(ia++g5.map (·.2)).length;simp[qS]
 have vz:∀{zR:List (ag×cE)}{H':aq},(∀b∈cu,H' b=aA)->(∀q∈zR,q.1∉cu)->∀b∈cu,rE rS zR H' b:=fun bj aX b al =>
  ⟨bj b al,below b (HI b al),fun z=>by
   rcases dJ.mp (cW.En b z)with q|q
   .exact(f2 b al).2.1 q
   .exact(f2 b al).2.2.1 q,.inl al,fun x c av=>(f2 b al).2.2.2.2.1 x c (ik _ _ av),fun q bl z=>aX q bl (z ▸ al)⟩
 have I6:∀q∈([]:List (ag×cE)),q.1∉cu:=fun _ z=>nomatch z;have RN:iq 0 q9:=T.keep _ _ _ jy fun b al o e=>old b o e
 have abZ:∀b∈cu,(upd az s2.heap.objs.size (.lst [])) b=aA:=fun b al=>by
  rw[bx (hU (HI b al))];exact(f2 b al).1
 have loop:∀vB:aT,vB={s2 with heap:=q9,toks:=s2.toks+([]:List (aa×ax)).length}->
   pa (model X.prog X.w) X.A (.compLoop (.ListComp elt [⟨ka,iter,ifs,0⟩] d3 bc) 0 (.ref it) (.ref s2.heap.objs.size) (compEnvC d3 cl b5.objs.size X.env))
    (compPost (model X.prog X.w) X.A X.xe use Qf (.ref s2.heap.objs.size) b5.objs.size) vB:=by
  rintro vB rfl;refine Zn (fun n bw=>∃i cb H',Inv rS [] cb H' bw/\iq i bw.heap/\(∀b∈cu,H' b=aA)/\W i n cb H') ?_ m0 ⟨0,_,_,xT _,RN,abZ,nO⟩;rintro n i6 ⟨i,l0,Az,jC,kZ,yT,qu⟩;rcases turn i n l0 Az qu with⟨stop,Jc⟩|⟨go,step⟩
  ·refine dg (T.done rS I I I hc i [] i6 l0 Az _ jC (vz yT I6) kZ stop) fun r vw b3=>?_;obtain⟨au,vX⟩:=b3;subst au;have un:=vX.zn;refine dG _ _ Az vw (cW.aaP vX.os un vX.aF vX.bare fun b al=>?_) Jc vX.free ?_ (c5 cW.dt HV) ?_ ?_ ?_
   .exact⟨(f2 b al).2.2.2.1,(f2 b al).2.1,(f2 b al).2.2.2.2.1,(f2 b al).2.2.2.2.2⟩
   .exact fJ (below _ cW.lt)
   ·intro x c av;obtain⟨v,o,aK,hd⟩:=cW.cell x c av;exact below c (fI aK)
   ·intro q bl;obtain⟨e,_⟩:=cW.pin q bl;exact below _ (fI e)
   ·obtain⟨m,hm,_⟩:=vX.loc;exact⟨m,hm⟩
  ·refine dg (T.item rS I I I hc i [] i6 l0 Az _ jC (vz yT I6) kZ go) fun r vw b3=>?_;obtain⟨u,au,cf⟩:=b3;subst au;refine dg cf fun _ zU b3=>?_;obtain⟨x,d7,E5,Jd,JK,j9,HJ⟩:=b3;have E6:=E5.pinned (vz HJ I6) (T.obj _ _ j9);refine nc (bh _ _ _ _ _ _ zU l0 d7 x u _ E6 Jd (step x d7 JK)) (fun _ Jf b3=>?_) fun _ _ z=>z.elim;obtain⟨xF,ek,E7,Jb⟩:=b3
   have again:∀{l1:St}{iv:aq}{rn:aT}{b6:Nat},Inv rS ([]++zS cu zU.heap) l1 iv rn->b6<n->W (i+1) b6 l1 iv->∃m,m<n/\∃i cb H',Inv rS [] cb H' rn/\iq i rn.heap/\(∀b∈cu,H' b=aA)/\W i m cb H':=fun{l1 iv rn b6}kB hm Ai=>by
    refine⟨b6,hm,i+1,l1,iv,kB.Ey,T.keep _ _ _ j9 fun b al o e=>(kB.pin (b,o) (nq _ (nq _ (Ch al e)))).1,fun b al=>?_,Ai⟩;obtain⟨o,e,d⟩:=T.obj _ _ j9 b al;exact(kB.pin (b,o) (nq _ (nq _ (Ch al e)))).2.1
   refine nc (aP _ _ _ _ _ _ Jf xF ek _ E7 Jb) (fun ok rn b3=>?_) fun _ _ z=>z.elim;obtain⟨iv,kB,qm⟩:=b3;cases ok with
   |false =>
    obtain⟨b6,hm,Ai⟩:=qm;exact again kB hm Ai
   |true =>
    refine nc (he _ _ _ _ _ _ rn xF iv _ kB qm) (fun ajZ aiG b3=>?_) fun _ _ z=>z.elim;obtain⟨y,AA,Tb,aim,afS⟩:=b3;obtain⟨xs,b6,b2,bX,hm,ajS⟩:=afS;refine nc (pA (X:=rS) _ aiG xF AA (.ref s2.heap.objs.size) [y] (.ref s2.heap.objs.size) [ajZ] (fun _ J9=>W (i+1) b6 xF J9) Tb I (.cons aim .nil) ⟨_,xs,y,I,I,b2,bX,ajS⟩) (fun _ alK b3=>?_) fun _ _ z=>z.elim;obtain⟨_,J9,Tc,_,afT⟩:=b3;exact again Tc hm afT
 exact codeAny_compStart_list (loop _ I) (T.self _ 0 _ _ _ RN (loop _ I))
noncomputable abbrev vN(α:Type):=List (aa×ag)->ag->aT->aq->List ag->α
def iA{g:vN gY}{hQ:vN ic}{cT:vN TE}(ia:List aa)(g5:List (Nat×aa))(hc:X.calm=ao)(w9:C3 d3 (g5.map (·.2))=ao)(u4:ub X g5)(aG:jV X ka iter jS)
  (bh:∀{cl C s2 az cu},qG (pL X d3 cl C (ia++g5.map (·.2)) s2 az cu) ka (g cl C s2 az cu))
  (aP:∀{cl C s2 az cu},x2 (pL X d3 cl C (ia++g5.map (·.2)) s2 az cu) ifs (hQ cl C s2 az cu))
  (he:∀{cl C s2 az cu},cF (pL X d3 cl C (ia++g5.map (·.2)) s2 az cu) elt (cT cl C s2 az cu))
  (uT:xv (∀cl C s2 az cu,g cl C s2 az cu=g [] 0 X.gH X.k2 []) z5) (jM:xv (∀cl C s2 az cu,hQ cl C s2 az cu=hQ [] 0 X.gH X.k2 []) z5) (qT:xv (∀cl C s2 az cu,cT cl C s2 az cu=cT [] 0 X.gH X.k2 []) z5)
  (hs:xv (∀x,foldedSetIterable iter X.env x=pure x) z2) :
  cF X (.ListComp elt [⟨ka,iter,ifs,0⟩] d3 bc) (JA jS (g [] 0 X.gH X.k2 []) (hQ [] 0 X.gH X.k2 []) (cT [] 0 X.gH X.k2 []) (qS ia g5)):=by
 intro ar s ab H Q ae h;rw[eval_ListComp];refine Mt (use:=aA) hc w9 u4 aG (fun cl C s2 az cu=>uT cl C s2 az cu ▸ @bh cl C s2 az cu) (fun cl C s2 az cu=>jM cl C s2 az cu ▸ @aP cl C s2 az cu) (fun cl C s2 az cu=>qT cl C s2 az cu ▸ @he cl C s2 az cu) ae h (fun D C H' bw jj q jr ai aj bt cf b3=>?_) hs;obtain⟨m,hm⟩:=b3;refine⟨m,hm,fun h' IF=>?_⟩;exact⟨.ref D,H',jj.turned (t':=bw.toks) (fun b o al e=>IF.extBut b o al e) jr ai (.inr aj) bt cf,I,q⟩
def Gz{g:vN gY}{hQ:vN ic}{cT:vN TE}{py RD:Pos}(ia:List aa)(g5:List (Nat×aa))(fV:X.N.Nodup)(adm:X.N[i]?=J y)(ba:X.env.scope.names.lookup y=J .local)(hc:X.calm=ao)(w9:C3 d3 (g5.map (·.2))=ao)(u4:ub X g5)(aG:jV X ka iter jS)
  (bh:∀{cl C s2 az cu},qG (pL X d3 cl C (ia++g5.map (·.2)) s2 az cu) ka (g cl C s2 az cu))
  (aP:∀{cl C s2 az cu},x2 (pL X d3 cl C (ia++g5.map (·.2)) s2 az cu) ifs (hQ cl C s2 az cu))
  (he:∀{cl C s2 az cu},cF (pL X d3 cl C (ia++g5.map (·.2)) s2 az cu) elt (cT cl C s2 az cu))
  (uT:xv (∀cl C s2 az cu,g cl C s2 az cu=g [] 0 X.gH X.k2 []) z5) (jM:xv (∀cl C s2 az cu,hQ cl C s2 az cu=hQ [] 0 X.gH X.k2 []) z5) (qT:xv (∀cl C s2 az cu,cT cl C s2 az cu=cT [] 0 X.gH X.k2 []) z5)
  (adZ:xv (swapsWith (.ListComp elt [⟨ka,iter,ifs,0⟩] d3 bc) (J (.Name y py)) RD.line X.env=pure ao) z0)
  (hs:xv (∀x,foldedSetIterable iter X.env x=pure x) z2) :
  lC X (.Assign [.Name y py] (.ListComp elt [⟨ka,iter,ifs,0⟩] d3 bc) RD) (z8 (JA jS (g [] 0 X.gH X.k2 []) (hQ [] 0 X.gH X.k2 []) (cT [] 0 X.gH X.k2 []) (qS ia g5)) (r5 i)):=by
 intro ar s ab H D ae h;rw[exec_Assign_Name_used _ _ _ _ adZ];refine cO (wpAny_standAt (cO ?_));show cc _ X.A (do let _ <-comprehension (.ListComp elt [⟨ka,iter,ifs,0⟩] d3 bc) d3 X.env _ (newList []) aI (eval iter X.env) (J (assign (.Name y py) X.env))) _ _ s;refine cO (dg (Mt (use:=J (assign (.Name y py) X.env)) (Qf:=fun _ bw=>wb X ar D .next bw) hc w9 u4 aG (fun cl C s2 az cu=>uT cl C s2 az cu ▸ @bh cl C s2 az cu) (fun cl C s2 az cu=>jM cl C s2 az cu ▸ @aP cl C s2 az cu) (fun cl C s2 az cu=>qT cl C s2 az cu ▸ @he cl C s2 az cu) ae h (fun JZ C H' bw jj q jr ai aj bt cf b3=>?_) hs) fun _ bw bl=>e3 (e3 bl));obtain⟨m,hm⟩:=b3;show cc _ X.A (assign (.Name y py) X.env (.ref JZ)) _ _ _;refine wpAny_assign_Name (L1 jj fV adm (.inl ba) (v :=.ref JZ) I (fun vv Ta b3=>?_) (.inr ba));obtain⟨a,IF,aN⟩:=b3
 have acD:C≠a:=by
  rcases aN with z|z
  .rw[z];exact ai
  .exact fJ (bt _ _ z)
 refine⟨m,hm.sameBut IF acD,fun h' adU=>?_⟩;exact⟨_,H',Ta.turned (t':=vv.toks) (fun b o al e=>adU.extBut b o al e) jr ai (.inr aj) bt cf,q⟩
end
noncomputable def mO(H:aq)(a:ag):de->Prop
 |.ins _ ah _=>H ah=J (.own a)
 |.j0 _ u=>mO H a u
 |_=>True
def lA(H:aq):Prop:=∀a o,H a=J o->mO H a o
def mO.of(x:iJ P w H h a o):mO H a o:=by
 induction o with
 |ins C ah fs=>exact x.1
 |j0 eG u bP=>exact bP x.2
 |_=>trivial
def hE.closed(x:hE P w H h):lA H:=fun a o e=>mO.of (x a o e)
def mO.mono(s:∀b u,H b=J u->H' b=J u)(x:mO H a o):mO H' a o:=by
 induction o with
 |ins C ah fs=>exact s _ _ x
 |j0 eG u bP=>exact bP x
 |_=>trivial
def iJ.sub(x:iJ P w H' h a o)(dV:mO H a o):iJ P w H h a o:=by
 induction o with
 |ins C ah fs=>exact⟨dV,x.2⟩
 |j0 eG u bP=>exact⟨x.1,bP x.2 dV⟩
 |lst _=>exact x
 |tup _=>exact x
 |oi _=>exact x
 |mq _=>exact x
 |set _ _=>exact x
 |own _=>exact x
 |nQ _=>exact x
 |met _ _=>exact x
 |D6 _ _=>exact x
 |t4 _=>exact x
 |ext _=>exact x
structure Sub(H kA H':aq):Prop where
 le:et kA H'
 ge:∀b o,H b=J o->∃u,kA b=J u
 cl:lA H->lA kA
def Sub.refl(h:et H H'):Sub H H H':=⟨h,fun _ o e=>⟨o,e⟩,id⟩
def Sub.all(h:∀b o,H b=J o->∃u,H' b=J u)(c:lA H->lA H'):Sub H H' H':=⟨et.refl _,h,c⟩
def cZ(h:H p=aA):et H (upd H p o):=fun b u q=>by rw[bx (hz q h)];exact q
def uq(c:lA H)(h:H p=aA)(aK:mO (upd H p o) p o):lA (upd H p o):=fun a u e=>by
 by_cases z:a=p
 .subst z;rw[aB]at e;cases e;exact aK
 ·rw[bx z]at e;exact(c a u e).mono (cZ h)
def Sub.new(h:H p=aA)(hs:et H H')(e:H' p=J o)(aK:mO (upd H p o) p o):Sub H (upd H p o) H' :=
 ⟨fun b u q=>by
  by_cases z:b=p
  .subst z;rw[aB]at q;cases q;exact e
  .rw[bx z]at q;exact hs b u q,fun b u q=>⟨u,cZ h b u q⟩,fun c=>uq c h aK⟩
theorem Sub.ins{fs:List (aa×V)}(h:H p=J (.ins C ah fs))(hs:∀b u,b≠p->H b=J u->H' b=J u)(e:H' p=J (.ins C ah fs')):Sub H (upd H p (.ins C ah fs')) H' :=
 ⟨fun b u q=>by
  by_cases z:b=p
  .subst z;rw[aB]at q;cases q;exact e
  .rw[bx z]at q;exact hs b u z q,fun b u q=>by
  by_cases z:b=p
  .subst z;exact⟨_,aB⟩
  .exact⟨u,by rw[bx z];exact q⟩,fun c a u q=>by
  have hd:H ah=J (.own p):=c p _ h;have br:ah≠p:=fun z=>by rw[z,h]at hd;cases hd
  by_cases z:a=p
  ·subst z;rw[aB]at q;cases q;show upd H a _ ah=_;rw[bx br];exact hd
  ·rw[bx z]at q;have x:=c a u q;revert x;generalize u=o;clear q
   induction o with
   |ins akj d' wM =>
    intro (x:H d'=J (.own a));show upd H p _ d'=_;rw[bx (fun y=>by rw[y,h]at x;cases x)];exact x
   |j0 eG u bP=>intro x;exact bP x
   |_=>intro _;trivial⟩
section
variable {X:bS} {ar:List (ag×cE)} {ab:St} {H H' kA:aq} {s s0:aT}
def hV.sub{fs ex:List ag}{Ax:aq}{ai aj:bR}(Ah:hV fs ex Ax H h ai)(u:hV fs ex Ax H' h aj)(d:Sub H kA H'):hV fs ex Ax kA h aj:=by
 refine⟨u.keep,u.slot,fun b o e n av=>?_,u.there,fun b xs e=>?_,fun b o v e=>?_,fun b aJ e=>?_⟩
 ·cases q:kA b with
  |none=>rfl
  |some v=>have:=d.le b v q;rw[u.free b o e n av]at this;cases this
 ·obtain⟨v,cV⟩:=d.ge b _ (Ah.rr b xs e);have:=d.le b v cV;rw[u.rr b xs e]at this;cases this;exact cV
 ·obtain⟨z,cV⟩:=d.ge b _ (Ah.pU b o v e);have:=d.le b z cV;rw[u.pU b o v e]at this;cases this;exact cV
 ·obtain⟨m0,fl⟩:=Ah.rq b aJ e;obtain⟨z,cV⟩:=d.ge b _ fl;obtain⟨m,aQ⟩:=u.rq b aJ e;have:=d.le b z cV;rw[aQ]at this;cases this;exact⟨m,cV⟩
theorem hE.sub(x:hE P w H' h)(c:lA kA)(d:et kA H'):hE P w kA h:=fun a o e=>(x a o (d a o e)).sub (c a o e)
end
inductive nk(H H':aq)(Q:aq->Prop):Prop where
 |mk (kA:aq) (s:Sub H kA H') (q:Q kA):nk H H' Q
def cB.keep{f:ag}{sp P9:cH}(F:cB P w K mg zn cM k f fd aJ sp)
  (h:∀vs H Q E,P9 vs H Q E->sp vs H (fun v H'=>nk H H' (Q v)) E):cB P w K mg zn cM k f fd aJ P9:=by
 refine⟨fun vs H Q E q=>F.len vs H _ E (h vs H Q E q),fun A outer s H args us vs Q E au fl al r q=>vH (F.run A outer s H args us vs _ E au fl al r (h vs H Q E q)) fun rs bw c=>?_⟩;cases rs with
 |error e=>exact c
 | ok nu =>
  cases nu with
  |ret u =>
   obtain⟨v,H',os,bare,un,aF,dK,kA,d,j4⟩:=c;exact⟨v,kA,os,bare,hV.sub (hV.refl (h:=s.heap)) un d,aF.sub (d.cl fl.aF.closed) d.le,dK,j4⟩
  |next=>exact c
  |brk=>exact c
  |cont=>exact c
def cU.PK{st:bo}{f:ag}{sp:cH}(F:cU K x fj st f fd)(S:bL N aJ (bB st))(len:∀vs H Q E,sp vs H Q E->vs.length=aJ.length)
  (pY:∀(bg:ax)(A:ee)(outer:List Env)(s:aT)(H:aq)(vs:List V)(Q:bI)(E:cP),gM k (A.deeper (envOfC fj (bB st) s.heap.objs.size f bg))->sp vs H Q E->
   ∃t,jE (pM cM P w K mg zn N fj (bB st) f bg A outer s H E).sJ (lM st) t/\t {nx:=fun _ H'=>nk H H' (Q .bM),rt:=fun v H'=>nk H H' (Q v)} (start N vs) H):cB P w K mg zn cM (k+1) f fd aJ sp :=
 (F.ok (sp:=fun vs H Q E=>∃rP,Q=(fun v H'=>nk H H' (rP v))/\sp vs H rP E) S (fun vs H Q E ⟨rP,_,h⟩=>len vs H rP E h) (fun bg A outer s H vs Q E au ⟨rP,e,h⟩=>by
  subst e
  exact pY bg A outer s H vs rP E au h)).keep fun vs H Q E h=>⟨Q,rfl,h⟩
end c6
end
variable {m:Nat} {L:List Bool}
section
namespace fk
noncomputable def dq(n:Nat):Nat->List Bool
 |0=>[]
 |w+1=>n.testBit w::dq n w
noncomputable def aE(n:Nat):Nat:=if n=0 then 0 else n.log2+1
def jm(n w:Nat):(dq n w).length=w:=by
 induction w with
 |zero=>rfl
 |succ w bP=>simp[dq,bP]
def qO(n:Nat):n<2^aE n:=by
 unfold aE;split
 .omega
 .exact Nat.lt_log2_self
set_option tactic.hygienic true in
def ki{w:Nat}(h:n<2^w):aE n<=w:=by
 unfold aE;split
 .omega
 ·rename_i bb;exact(Nat.log2_lt bb).mpr h
def pD(h:n≠0):0<aE n:=by unfold aE;rw[if_neg h];lia
def Hm(h:n≠0):2^(aE n-1)<=n:=by
 unfold aE;rw[if_neg h];exact Nat.log2_self_le h
def Mu(h:m<=n):aE m<=aE n:=ki (Nat.lt_of_le_of_lt h (qO n))
def YT(n:Nat)(b:Bool):(2*n+b.toNat).testBit 0=b:=by
 cases b<;>simp[Nat.testBit_zero]<;>lia
def ZU(n k:Nat)(b:Bool):(2*n+b.toNat).testBit (k+1)=n.testBit k:=by
 rw[Nat.testBit_succ];congr 1;cases b<;>simp<;>lia
def LY(n w:Nat)(b:Bool):dq (2*n+b.toNat) (w+1)=dq n w++[b]:=by
 induction w with
 |zero=>simp only[dq,List.nil_append,YT]
 |succ w bP =>
  rw[dq,bP,ZU];rfl
noncomputable def lq(a:Nat)(l:List Bool):Nat:=l.foldl (fun x b=>2*x+b.toNat) a
def akq(a:Nat):lq a []=a:=rfl
def Vp(a:Nat)(b:Bool)(l:List Bool):lq a (b::l)=lq (2*a+b.toNat) l:=rfl
def aaA(a:Nat)(l m:List Bool):lq a (l++m)=lq (lq a l) m:=by simp[lq,List.foldl_append]
def Vq(a n w:Nat):lq a (dq n w)=a*2^w+n%2^w:=by
 induction w generalizing a with
 |zero=>simp[dq,lq,Nat.mod_one]
 | succ w bP =>
  rw[dq,Vp,bP]
  have h:n%2^(w+1)=(n.testBit w).toNat*2^w+n%2^w:=by
   rw[Nat.pow_succ,Nat.mod_mul,Nat.testBit_eq_decide_div_mod_eq,Nat.add_comm,Nat.mul_comm];congr 1;have:n/2^w%2<2:=Nat.mod_lt _ (by decide);by_cases q:n/2^w%2=1
   .simp[q]
   ·have:n/2^w%2=0:=by lia
    simp[this]
  rw[h,Nat.pow_succ,Nat.add_mul];have e:2*a*2^w=a*(2^w*2):=by rw[Nat.mul_comm 2 a,Nat.mul_assoc,Nat.mul_comm 2 (2^w)]
  lia
def KM(h:n≠0):lq 1 (dq n (aE n-1))=n:=by
 rw[Vq,Nat.one_mul];have ai:=Hm h;have aj:=qO n;have bt:=pD h;have e:2^aE n=2^(aE n-1)*2:=by rw[<-Nat.pow_succ];congr 1;lia
 have:n%2^(aE n-1)=n-2^(aE n-1):=by
  rw[Nat.mod_eq_sub_mod ai,Nat.mod_eq_of_lt (by lia)]
 lia
def Sep(a b:List Bool):Prop:=∃c x y,a=c++aI::x/\b=c++ao::y
variable {a:List Bool}
def Sep.pre(p:List Bool){b:List Bool}(h:Sep a b):Sep (p++a) (p++b):=by
 obtain⟨c,x,y,rfl,rfl⟩:=h;exact⟨p++c,x,y,by simp,by simp⟩
def Sep.post{b:List Bool}(h:Sep a b)(u v:List Bool):Sep (a++u) (b++v):=by
 obtain⟨c,x,y,rfl,rfl⟩:=h;exact⟨c,x++u,y++v,by simp,by simp⟩
def Sep.turn{b:List Bool}(h:Sep a b):Sep (b.map (!·)) (a.map (!·)):=by
 obtain⟨c,x,y,rfl,rfl⟩:=h;exact⟨c.map (!·),y.map (!·),x.map (!·),by simp,by simp⟩
def CD{w:Nat}(h:n<n')(h':n'<2^w):Sep (dq n w) (dq n' w):=by
 induction w generalizing n n' with
 |zero=>lia
 | succ w bP =>
  have e:n=2*(n/2)+(decide (n%2=1)).toNat:=by
   by_cases q:n%2=1
   .simp[q];lia
   .simp[q];lia
  have e':n'=2*(n'/2)+(decide (n'%2=1)).toNat:=by
   by_cases q:n'%2=1
   .simp[q];lia
   .simp[q];lia
  rw[e,e',LY,LY];rw[Nat.pow_succ]at h';by_cases q:n/2<n'/2
  .exact(bP q (by lia)).post _ _
  ·have:n/2=n'/2:=by lia
   rw[this];have a:n%2=0:=by lia
   have b:n'%2=1:=by lia
   simp only[a,b];exact⟨_,[],[],I,I⟩
def Vn(h:i<j)(x y:List Bool):Sep (List.replicate i ao++aI::x) (List.replicate j ao++y):=by
 refine⟨List.replicate i ao,x,List.replicate (j-i-1) ao++y,I,?_⟩;have:j=i+(1+(j-i-1)):=by lia
 conv=>lhs;rw[this]
 rw[<-List.replicate_append_replicate,<-List.replicate_append_replicate];simp
noncomputable def fU(e:Nat):List Bool:=if e=8 then []else [aI]
noncomputable def cnt(n:Nat):List Bool :=
 List.replicate (aE (aE (n+1))-1) ao++(fU (aE (aE (n+1)))++(dq (aE (n+1)) (aE (aE (n+1))-1)++dq (n+1) (aE (n+1)-1)))
def Nn(h:n≠0):n%2^(aE n-1)=n-2^(aE n-1):=by
 have ai:=Hm h;have aj:=qO n;have bt:=pD h;have e:2^aE n=2^(aE n-1)*2:=by rw[<-Nat.pow_succ];congr 1;lia
 rw[Nat.mod_eq_sub_mod ai,Nat.mod_eq_of_lt (by lia)]
def Mv(n w:Nat):dq n w=dq (n%2^w) w:=by
 have:∀j,j<=w->dq n j=dq (n%2^w) j:=by
  intro j cj
  induction j with
  |zero=>rfl
  |succ j bP =>
   rw[dq,dq,bP (by lia),Nat.testBit_mod_two_pow];simp[show j<w by lia]
 exact this w (cR _)
def Nb(bb:n≠0)(h:n<n')(e:aE n=aE n'):Sep (dq n (aE n-1)) (dq n' (aE n' - 1)):=by
 have acB:n'≠0:=by lia
 rw[Mv n,Mv n',Nn bb,Nn acB,<-e];have ai:=Hm bb;have aj:=qO n';rw[<-e]at aj;have bt:=pD bb;have aR:2^aE n=2^(aE n-1)*2:=by rw[<-Nat.pow_succ];congr 1;lia
 exact CD (by lia) (by lia)
def Hk(h:n<n')(h':n'+1<2^255):Sep (cnt n) (cnt n'):=by
 unfold cnt;have hd:aE (n'+1)<=255:=ki h';have aX:0<aE (n+1):=pD (by lia);have ak8:0<aE (n'+1):=pD (by lia);have he:aE (aE (n'+1))<=8:=ki (by lia);have dk:aE (n+1)<=aE (n'+1):=Mu (by lia);have gu:aE (aE (n+1))<=aE (aE (n'+1)):=Mu dk;have bl:0<aE (aE (n+1)):=pD (by lia);by_cases q:aE (aE (n+1))<aE (aE (n'+1))
 ·have c:fU (aE (aE (n+1)))=[aI]:=by unfold fU;rw[if_neg (by lia)]
  rw[c];exact Vn (by lia) _ _
 ·have j4:aE (aE (n+1))=aE (aE (n'+1)):=by lia
  by_cases r:aE (n+1)<aE (n'+1)
  ·have s:=Nb (by lia) r j4;rw[<-j4]at s ⊢;exact((s.post _ _).pre _).pre _
  ·have ey:aE (n+1)=aE (n'+1):=by lia
   have s:=Nb (n:=n+1) (n':=n'+1) (by lia) (by lia) ey;rw[<-ey]at s ⊢;exact((s.pre _).pre _).pre _
def GC(h:n+1<2^255):(cnt n).length<=aE (n+1)+14:=by
 unfold cnt;have hd:aE (n+1)<=255:=ki h;have he:aE (aE (n+1))<=8:=ki (by lia);have bl:0<aE (n+1):=pD (by lia);simp only[bE,List.length_replicate,jm]
 have:(fU (aE (aE (n+1)))).length<=if aE (aE (n+1))=8 then 0 else 1:=by
  unfold fU;split<;>simp
 split at this<;>lia
noncomputable def gS(n:Int):List Bool:=if n<0 then aI::(cnt (-1-n).toNat).map (!·)else ao::cnt n.toNat
def M5{n n':Int}(h:n<n')(ai : -(2^255)<n)(aj:n'<2^255-1):Sep (gS n) (gS n'):=by
 unfold gS;by_cases a:n<0
 ·by_cases b:n'<0
  ·rw[if_pos a,if_pos b];have s:=Hk (n:=(-1-n').toNat) (n':=(-1-n).toNat) (by lia) (by lia);exact s.turn.pre [aI]
  ·rw[if_pos a,if_neg b];exact⟨[],_,_,I,I⟩
 ·rw[if_neg a,if_neg (by lia)];have s:=Hk (n:=n.toNat) (n':=n'.toNat) (by lia) (by lia);exact s.pre [ao]
end fk
namespace fk
structure R3(L:List Bool)(p n:Nat):Prop where
 ones:∀j,j<aE (aE (n+1))-1->L.getD (p+j) aI=ao
 zero:aE (aE (n+1))<8->L.getD (p+(aE (aE (n+1))-1)) aI=aI
 size:(L.drop (p+(aE (aE (n+1))-1)+(fU (aE (aE (n+1)))).length)).take (aE (aE (n+1))-1)=dq (aE (n+1)) (aE (aE (n+1))-1)
 more:(L.drop (p+(aE (aE (n+1))-1)+(fU (aE (aE (n+1)))).length+(aE (aE (n+1))-1))).take (aE (n+1)-1)=dq (n+1) (aE (n+1)-1)
 fits:p+(cnt n).length<=L.length
def NA(n:Nat):(cnt n).length=(aE (aE (n+1))-1)+(fU (aE (aE (n+1)))).length+(aE (aE (n+1))-1)+(aE (n+1)-1):=by
 unfold cnt;simp only[bE,List.length_replicate,jm];lia
def Wu{p:Nat}(h:cnt n <+: L.drop p)(aX:p<=L.length):R3 L p n:=by
 obtain⟨r,e⟩:=h;have aC:=congrArg List.length e;rw[bE,lF]at aC
 have key:∀j,j<(cnt n).length->L.getD (p+j) aI=(cnt n).getD j aI:=by
  intro j cj;have:(L.drop p)[j]?=(cnt n)[j]?:=by rw[<-e,List.getElem?_append_left cj]
  rw[List.getElem?_drop]at this;rw[eR,eR,this]
 have cl:=NA n;refine⟨fun j cj=>?_,fun kP=>?_,?_,?_,by lia⟩
 ·rw[key j (by lia)];unfold cnt;rw[eR,List.getElem?_append_left (by simpa using cj),List.getElem?_replicate,if_pos cj];rfl
 ·have hA:(fU (aE (aE (n+1))))=[aI]:=by unfold fU;rw[if_neg (by lia)]
  rw[key _ (by rw[cl,hA];simp only[dW,List.length_nil];lia)];unfold cnt;rw[hA,eR,List.getElem?_append_right (by simp)];simp
 ·have:L.drop (p+(aE (aE (n+1))-1)+(fU (aE (aE (n+1)))).length)=dq (aE (n+1)) (aE (aE (n+1))-1)++dq (n+1) (aE (n+1)-1)++r:=by
   rw[Nat.add_assoc,<-List.drop_drop,<-e];unfold cnt;rw[<-eC,<-eC,eC (List.replicate _ _++_),eC (List.replicate _ _++_)];have:(aE (aE (n+1))-1)+(fU (aE (aE (n+1)))).length=(List.replicate (aE (aE (n+1))-1) ao++fU (aE (aE (n+1)))).length:=by simp
   rw[this,List.drop_left]
  rw[this,eC,List.take_left' (jm _ _)]
 ·have:L.drop (p+(aE (aE (n+1))-1)+(fU (aE (aE (n+1)))).length+(aE (aE (n+1))-1))=dq (n+1) (aE (n+1)-1)++r:=by
   rw[Nat.add_assoc,Nat.add_assoc,<-List.drop_drop,<-e];unfold cnt;have aR:(List.replicate (aE (aE (n+1))-1) ao++(fU (aE (aE (n+1)))++(dq (aE (n+1)) (aE (aE (n+1))-1)++dq (n+1) (aE (n+1)-1))))++r=(List.replicate (aE (aE (n+1))-1) ao++fU (aE (aE (n+1)))++dq (aE (n+1)) (aE (aE (n+1))-1))++(dq (n+1) (aE (n+1)-1)++r):=by simp
   rw[aR];have:(aE (aE (n+1))-1)+((fU (aE (aE (n+1)))).length+(aE (aE (n+1))-1))=(List.replicate (aE (aE (n+1))-1) ao++fU (aE (aE (n+1)))++dq (aE (n+1)) (aE (aE (n+1))-1)).length:=by simp[jm,Nat.add_assoc]
   rw[this,List.drop_left]
  rw[this,List.take_left' (jm _ _)]
end fk
end
variable {c:Nat} {l:List Bool}
section
namespace fk
open PySem c6
noncomputable def tu(b:Bool):Nat:=if b then 49 else 48
noncomputable def bA(l:List Bool):aa:=⟨(l.map tu).toArray⟩
def yp{a b:aa}(h:a.cps.toList=b.cps.toList):a=b:=by
 obtain⟨x⟩:=a;obtain⟨y⟩:=b;exact congrArg aa.mk (Array.ext' h)
def qC(l:List Bool):(bA l).cps.toList=l.map tu:=by simp[bA]
def fu(l:List Bool):(bA l).length=l.length:=by simp[bA,aa.length]
def WA{a b:Bool}(h:tu a=tu b):a=b:=by cases a<;>cases b<;>first|rfl|(revert h;decide)
variable {a:List Bool}
def Ux{b:List Bool}(h:bA a=bA b):a=b:=by
 have:=congrArg (fun x:aa=>x.cps.toList) h;simp only[qC]at this;exact List.map_inj_right (fun _ _=>WA) |>.mp this
def mi(a b:List Bool):bA a++bA b=bA (a++b):=by
 apply yp;show((bA a).cps++(bA b).cps).toList=_;rw[Array.toList_append,qC,qC,qC,fR]
def s1:(aa.ofString "1")=bA [ao]:=⋯
def s0:(aa.ofString "0")=bA [aI]:=⋯
def aiH:(aa.ofString "")=bA []:=⋯
def Uy(a b:List Bool):decide (V.str (bA a)=V.str (bA b))=decide (a=b):=by
 by_cases h:a=b
 .subst h;simp
 ·have:¬V.str (bA a)=V.str (bA b):=fun q=>h (Ux (V.str.inj q));rw[e8 h,e8 this]
def Lu:∀aw:List aa,(Txt.join (aa.ofString "") aw).cps.toList=(aw.map (·.cps.toList)).flatten:=by
 have e:(aa.ofString "").cps=#[]:=⋯
 have key:∀(aw:List aa)(acc:Array Nat),(aw.foldl (fun acc p=>acc++(aa.ofString "").cps++p.cps) acc).toList=acc.toList++(aw.map (·.cps.toList)).flatten:=by
  intro aw
  induction aw with
  |nil=>intro acc;simp
  |cons y r bP=>intro acc;rw[List.foldl_cons,bP,e];simp
 intro aw;cases aw with
 |nil=>rfl
 |cons y r =>
  show((r.foldl (fun acc p=>acc++(aa.ofString "").cps++p.cps) y.cps)).toList=_;rw[key];simp
def uG(ls:List (List Bool)):Txt.join (aa.ofString "") (ls.map bA)=bA ls.flatten:=by
 apply yp;rw[Lu,qC,hx,List.map_flatten];exact congrArg List.flatten (pz fun l _=>qC l)
def TY(l:List Bool):(l.map fun b=>[b]).flatten=l:=by
 induction l with
 |nil=>rfl
 |cons b r bP=>rw[gI,jH,bP];rfl
def Mf(l:List Bool):Txt.join (aa.ofString "") (l.map fun b=>bA [b])=bA l:=by
 have:=uG (l.map fun b=>[b]);rw[hx]at this;rw[show(fun b=>bA [b])=bA ∘ (fun b=>[b])from rfl,this];exact congrArg bA (TY l)
def CS(b:Bool)(n:Int):Txt.mul (bA [b]) n=bA (List.replicate n.toNat b):=by
 unfold Txt.mul;by_cases h:n<1
 .rw[if_pos h,show n.toNat=0 by lia];rfl
 ·rw[if_neg h];by_cases ai:n=1
  .subst ai;rfl
  ·have:(n == 1||(bA [b]).length == 0)=aI:=by simp[fu,ai]
   rw[this,if_neg (by decide)];apply yp
   have key:∀(k:Nat)(acc:Array Nat),((List.replicate k (bA [b]).cps).foldl (· ++ ·) acc).toList=acc.toList++(List.replicate k b).map tu:=by
    intro k
    induction k with
    |zero=>intro acc;simp
    |succ k bP=>intro acc;rw[List.replicate_succ,List.foldl_cons,bP,List.replicate_succ];simp[bA]
   rw[qC];simpa using key n.toNat #[]
def aiO(lo aG:Option Int)(n:Nat):dI.Str.strSliceIndices lo aG 1 n=(List.range (dU.ht n n aG-dU.ht n 0 lo)).map (dU.ht n 0 lo+·):=by
 unfold dI.Str.strSliceIndices;rw[<-sliceRange_one];simp only[show((1:Int) > 0)=True from eq_true (by decide),if_true];congr 1
 ·cases lo with
  |none=>rfl
  |some i =>
   simp only[dU.ht];by_cases h:i<0
   .simp only[h,if_true];lia
   .simp only[h,if_false];lia
 ·cases aG with
  |none=>rfl
  |some i =>
   simp only[dU.ht];by_cases h:i<0
   .simp only[h,if_true];lia
   .simp only[h,if_false];lia
set_option tactic.hygienic true in
def yg(x:aa)(lo aG:Option Int):(Txt.slice x lo aG).cps.toList=(x.cps.toList.drop (dU.ht x.length 0 lo)).take (dU.ht x.length x.length aG-dU.ht x.length 0 lo):=by
 have aC:x.cps.toList.length=x.length:=by simp[aa.length]
 have ai:=dU.P1 x.length x.length (cR _) aG;have aj:=dU.P1 x.length 0 (UF _) lo;unfold Txt.slice;rw[aiO];split
 ·rename_i c;simp only[cd,k8,ix,beq_iff_eq]at c;have a0:dU.ht x.length 0 lo=0\/x.length=0:=by lia
  rcases a0 with a0|a0
  .rw[a0,List.drop_zero,UV (by lia)]
  ·have:x.cps.toList=[]:=List.length_eq_zero_iff.mp (by lia);rw[this];simp
 .rw[pick_run]
def Hp{b:List Bool}(h:Sep a b):(bA a).cps.toList<(bA b).cps.toList:=by
 obtain⟨c,x,y,rfl,rfl⟩:=h;simp only[qC,fR,gI];refine List.append_left_lt ?_;exact List.Lex.rel (by decide)
def Vo{b:List Bool}(h:Sep a b):¬(bA b).cps.toList<(bA a).cps.toList:=fun q=>List.lt_asymm q (Hp h)
def Uw{b:Bool}(h:l[i]?=J b):(bA l).cps.toList[i]?=J (tu b):=by rw[qC,eJ,h];rfl
def Us(b:Bool):PySem.intText? (bA [b])=J (b.toNat:Int):=by cases b<;>decide+kernel
def yz(n:Nat):dI.Int.intBits ((n:Nat):Int)=aE n:=by
 unfold dI.Int.intBits aE;by_cases h:n=0
 .subst h;rfl
 ·have:(((n:Nat):Int) == 0)=aI:=by simpa using h
  rw[this,if_neg (by decide),if_neg h];simp
def Uv(h:(bA l).cps[i]?=J c):V.str ⟨#[c]⟩=V.str (bA [l.getD i aI]):=by
 have h':(bA l).cps.toList[i]?=J c:=by simpa using h
 rw[qC,eJ]at h';rw[eR];cases e:l[i]? with
 |none=>rw[e]at h';cases h'
 |some b =>
  rw[e]at h';have:tu b=c:=ie h';rw[<-this];rfl
end fk
end
section
namespace c6
open PySem PySem.Spec PyProof.Rows
section
variable {X:bS}
noncomputable def cv:=ef.or (Wk (X:=X)) Z2
def hq:ef X (l2 .Sub) (nJ fun i j =>.int (i-j)):=Wc
noncomputable def kX:=ef.or (Wf (X:=X)) Z1
noncomputable def iV:=ef.or (WE (X:=X)) TG
noncomputable def cJ:=pq.or (pq.or (VO (X:=X)) Wq) Wr
noncomputable def qr:=s5.or (Vl (X:=X)) V5
def jV.or{it:c3}{jS RR:d8}(h:jV X e6 it jS)(h':jV X e6 it RR):jV X e6 it (fun ab H R=>jS ab H R\/RR ab H R):=fun ar s ab H R ae q=>q.elim (h ar s ab H R ae) (h' ar s ab H R ae)
def jw{l:c3}{dQ:TE}(aC:cF X l dQ):jV X e6 l (fun ab H R=>Pf X.K dQ ab H R\/Pg dQ ab H R):=(Vt aC).or (V8 aC)
end
def dB(K:bT)(mg:aa->Option ax)(x:aa)(st:bo)(aJ:List aa)(f:ag)(fd:i9):Prop:=cU K x x st f fd/\Binds K fd aJ []/\mg x=J (.ref f)
def bf(P:dR)(w:dd)(K:bT)(mg:aa->Option ax)(zn:bR)(k:Nat)(x:aa)(aJ:List aa)(sp:cH):Prop :=
 ∃f fd,cB P w K mg zn cM k f fd aJ sp/\Binds K fd aJ []/\ry K (.ref f)=ao/\mg x=J (.ref f)
def fp(P:dR)(w:dd)(K:bT)(mg:aa->Option ax)(zn:bR)(k:Nat)(C:ag)(m:aa)(aJ:List aa)(sp:cH):Prop :=
 ∃f fd,cB P w K mg zn cM k f fd aJ sp/\Binds K fd aJ []/\v5 K C m f
def gX(P:dR)(w:dd)(K:bT)(mg:aa->Option ax)(zn:bR)(k:Nat)(x:aa)(C:ag)(aJ:List aa)(sp:cH):Prop :=
 ∃f fd,Fd K C f/\cB P w K mg zn cM k f fd aJ sp/\Binds K fd aJ []/\mg x=J (.ref C)
def gj(mg:aa->Option ax)(x:aa)(v:V):Prop:=∃u,mg x=J u/\RelV v u
section
variable {X:bS} {k hC:Nat} {x m:aa} {C:ag} {aJ:List aa} {sp:cH} {e o:c3} {aZ:List c3} {t:iL} {cN:TE} {p bc apos:Pos} {v:V}
def kI(h:gj X.mg x v)(bh:xv (jU X x) z0)(hd:xv ((x == ("__debug__":aa))=aI) z3):cF X (.Name x p) (rp v):=by
 obtain⟨u,ai,aj⟩:=h;exact Vx bh ai aj hd
def b7(h:bf X.prog X.w X.K X.mg X.zn k x aJ sp)(au:gM hC X.A)(aN:jl X (e::aZ) t)(hk:xv (k<=hC) rrr)(bh:xv (jU X x) z0)(ny:xv ((x == ("__debug__":aa))=aI) z3)
  (he:xv (eI (e::aZ) X.env=(aI,eval e X.env)::eI aZ X.env) z0) (hn:xv ((backTo bc (eI aZ X.env)).any (·.1)=aI) z0):cF X (.Call (.Name x p) (e::aZ) [] bc) (RK sp [] iI t):=by
 obtain⟨f,fd,F,al,dz,hm⟩:=h;exact Vy F (au.mono hk) bh hm dz al .nil xq aN ny he hn
def lK(h:fp X.prog X.w X.K X.mg X.zn k C m aJ sp)(c:e7 X.K C)(au:gM hC X.A)(he:cF X o cN)(aN:jl X (e::aZ) t)(hk:xv (k<=hC) rrr)
  (vc:xv (eI (e::aZ) X.env=(aI,eval e X.env)::eI aZ X.env) z0) (hn:xv ((backTo bc (eI aZ X.env)).any (·.1)=aI) z0)
  (aP:xv (eval (.Call (.Attribute o m apos) (e::aZ) [] bc) X.env=(do
   let hN <-eval o X.env
   standAt apos.atName
   let (f,first) <-holding [hN] (getMethod hN m pl)
   callWith bc f first (backTo bc (eI (e::aZ) X.env)) (backToKw bc (vI [] X.env)))) z0) :
  cF X (.Call (.Attribute o m apos) (e::aZ) [] bc) (Ep C m sp [] iI cN t):=by
 obtain⟨f,fd,F,al,hm⟩:=h;exact Vv he c hm F (au.mono hk) al .nil xq aN vc hn aP
def jn(h:fp X.prog X.w X.K X.mg X.zn k C m aJ sp)(c:e7 X.K C)(au:gM hC X.A)(he:cF X o cN)(hk:xv (k<=hC) rrr)
  (aP:xv (eval (.Call (.Attribute o m apos) [] [] bc) X.env=(do
   let hN <-eval o X.env
   standAt apos.atName
   let (f,first) <-holding [hN] (getMethod hN m pl)
   callWith bc f first (backTo bc (eI [] X.env)) (backToKw bc (vI [] X.env)))) z0) :
  cF X (.Call (.Attribute o m apos) [] [] bc) (Ep C m sp [] iI cN JC):=by
 obtain⟨f,fd,F,al,hm⟩:=h;exact UD he c hm F (au.mono hk) al .nil xq aP
def kH(h:gX X.prog X.w X.K X.mg X.zn k x C aJ sp)(au:gM hC X.A)(aN:jl X (e::aZ) t)(hk:xv (k+1<=hC) rrr)(bh:xv (jU X x) z0)(ny:xv ((x == ("__debug__":aa))=aI) z3)
  (he:xv (eI (e::aZ) X.env=(aI,eval e X.env)::eI aZ X.env) z0) (hn:xv ((backTo bc (eI aZ X.env)).any (·.1)=aI) z0):cF X (.Call (.Name x p) (e::aZ) [] bc) (RL C sp [] iI t):=by
 obtain⟨f,fd,M,F,al,hm⟩:=h;exact Vw M F (au.mono hk) bh hm al .nil xq aN ny he hn
end
def dB.ok{st:bo}{f:ag}{sp:cH}(F:dB K mg x st aJ f fd)(S:bL N aJ (bB st))(len:∀vs H Q E,sp vs H Q E->vs.length=aJ.length)
  (pY:∀(bg:ax)(A:ee)(outer:List Env)(s:aT)(H:aq)(vs:List V)(Q:bI)(E:cP),gM k (A.deeper (envOfC x (bB st) s.heap.objs.size f bg))->sp vs H Q E->
   ∃t,jE (pM cM P w K mg zn N x (bB st) f bg A outer s H E).sJ (lM st) t/\t {nx:=fun _ H'=>nk H H' (Q .bM),rt:=fun v H'=>nk H H' (Q v)} (start N vs) H):bf P w K mg zn (k+1) x aJ sp :=
 ⟨f,fd,F.1.PK S len pY,F.2.1,F.1.dz,F.2.2⟩
section
variable {X:bS} {e:c3} {bc:Pos}
def dn:ef X (h3 .Eq) D4:=WJ
def kY:ef X (h3 .NotEq) PY:=WD
def zP:ef X (h3 .LtE) (nJ fun i j =>.aS (decide (i<=j))):=WG
def lY:ef X (h3 .Gt) (nJ fun i j =>.aS (decide (j<i))):=WH
def I7:ef X (h3 .GtE) (nJ fun i j =>.aS (decide (j<=i))):=WI
def hR.or'{f:ax}{r:List V->aq->bI->Prop}(h:hR X f r)(h':hR X f ey):hR X f (fun xs H Q=>r xs H Q\/ey xs H Q):=fun ar s ab H xs us Q ae dK q=>q.elim (h ar s ab H xs us Q ae dK) (h' ar s ab H xs us Q ae dK)
noncomputable def wk:=hR.or' (Ug (X:=X)) YQ
noncomputable def pF:=hR.or' (ZN (X:=X)) Zo
def Hd{cN:TE}(aN:cF X e cN):cF X (.UnaryOp .Not e bc) (fun ab H Q=>cN ab H fun x H'=>∃k,Ba X.K x H' k/\Q (.aS (!k)) H'):=by
 intro ar s ab H Q ae h;refine UnaryOp_ (dg (aN ar s ab H _ ae h) fun v s1 b3=>?_);obtain⟨x,H1,bC,b9,k,xA,cn⟩:=b3;exact not_of (dg (KG ar s1 ab H1 x v (fun b H'=>b=k/\Q (.aS (!k)) H') bC b9 ⟨k,xA,I,cn⟩) fun b s2 ⟨az,cW,e,b8⟩=>by subst e;exact⟨.aS (!b),az,cW,I,b8⟩)
end
end c6
namespace c6
open PySem
def uN:kv "int"=J (.type "int"):=⋯
def wy:kv "str"=J (.type "str"):=⋯
def ND:kv "bool"=J (.type "bool"):=⋯
def tk:kv "tuple"=J (.type "tuple"):=⋯
def Hl:kv "list"=J (.type "list"):=⋯
def ea:kv "len"=J (.builtin "len"):=⋯
def pE:kv "isinstance"=J (.builtin "isinstance"):=⋯
def Wz:kv "min"=J (.builtin "min"):=⋯
def K2:kv "max"=J (.builtin "max"):=⋯
def Wy:kv "sum"=J (.builtin "sum"):=⋯
def wz:kv "all"=J (.builtin "all"):=⋯
end c6
end
variable {t:Bool} {g:c6.gY} {eQ:c6.k3} {cT:c6.TE} {fO:c6.St} {dO:c6.gk}
section
namespace c6
open PySem PySem.Spec PyProof.Rows fk
def eS{u:de}:upd (upd H a o) a u=upd H a u:=by
 funext b;unfold upd;split<;>rfl
def M1{Q:bI}{D:ag}(n:Nat)(xs iP:Nat->V)(S:St->Prop)(bj:n<=cp)(bb:S fO)
  (Ii:∀i H,i<n->eQ.go i H) (IH:∀H,eQ.stop n H) (ba:∀i H x H',i<n->eQ.rx i H x H'->H'=H/\x=xs i)
  (aP:∀i b0 H1,i<n->S b0->∀R:St->V->aq->Prop,(∀bD,S bD->R bD (iP i) H1)->g (xs i) b0 H1 fun bD az=>cT bD az fun y b5=>R bD y b5)
  (bl:Q (.ref D) (upd H D (.lst ((List.range n).map iP)))) :
  mK eQ g oX cT Q fO H D:=by
 refine⟨fun i m b0 az=>i<=n/\m=n-i/\S b0/\az=upd H D (.lst ((List.range i).map iP)),⟨n,UF _,I,bb,I⟩,?_⟩;rintro i m b0 az ⟨ai,rfl,aj,rfl⟩;rcases h4 i n with z|z
 ·refine .inr ⟨Ii i _ z,fun x b5 y=>?_⟩;obtain⟨rfl,rfl⟩:=ba i _ x b5 z y;refine aP i b0 _ z aj (fun bD y ek=>∃xs b6,ek D=J (.lst xs)/\xs.length<cp/\b6<n-i/\(i+1<=n/\b6=n-(i+1)/\S bD/\upd ek D (.lst (xs++[y]))=upd H D (.lst ((List.range (i+1)).map iP)))) fun bD gh=>?_;refine⟨_,n-(i+1),aB,?_,by lia,by lia,rfl,gh,?_⟩
  .rw[cd,k8];lia
  .rw[eS,List.range_succ,fR];rfl
 ·have e:i=n:=by lia
  subst e;exact .inl ⟨IH _,bl⟩
def aaj{c:Int}{D:Ends}(Pv:Nat->St->aq->Prop)(bb:Pv 0 ab H)
  (hs:∀i ab H,i<n->Pv i ab H->g (.int (lo+i*c)) ab H fun bD az=>dO {D with nx:=Pv (i+1),ct:=Pv (i+1),bk:=D.nx} bD az) (hd:∀ab H,Pv n ab H->D.nx ab H) :
  ∃W:Nat->Nat->St->aq->Prop,(∃m,W 0 m ab H)/\∀i m ab H,W i m ab H->
   ((xV lo c n).stop i H/\D.nx ab H)\/((xV lo c n).go i H/\∃N:St->aq->Prop,(∀cb H',N cb H'->∃b6,b6<m/\W (i+1) b6 cb H')/\∀x H',(xV lo c n).rx i H x H'->g x ab H' fun bD az=>dO {D with nx:=N,ct:=N,bk:=D.nx} bD az):=by
 refine⟨fun i m ab H=>i<=n/\m=n-i/\Pv i ab H,⟨n,UF _,I,bb⟩,?_⟩;rintro i m ab H ⟨ai,rfl,aj⟩;rcases h4 i n with z|z
 ·refine .inr ⟨z,Pv (i+1),fun cb H' q=>⟨n-(i+1),by lia,by lia,rfl,q⟩,?_⟩;rintro x H' ⟨rfl,rfl⟩;exact hs i ab _ z aj
 ·have e:i=n:=by lia
  subst e;exact .inl ⟨cR _,hd ab H aj⟩
end c6
namespace c6
open PySem
set_option tactic.hygienic true in
def Cn(h:H a=J o):upd H a o=H:=by
 funext b;unfold upd;split
 .rename_i e;rw[e,h]
 .rfl
end c6
namespace fk
def U4(n k:Nat):n/2^k=2*(n/2^(k+1))+(n.testBit k).toNat:=by
 rw[Nat.testBit_eq_decide_div_mod_eq,Nat.pow_succ,<-Nat.div_div_eq_div_mul];have:n/2^k%2<2:=Nat.mod_lt _ (by decide);by_cases q:n/2^k%2=1
 .simp[q];lia
 ·have:n/2^k%2=0:=by lia
  simp[this];lia
def Uh{d:Nat}(h:j<d):(dq n d)[j]?=J (n.testBit (d-1-j)):=by
 induction d generalizing j with
 |zero=>lia
 | succ d bP =>
  cases j with
  |zero=>simp[dq]
  |succ j =>
   rw[dq,List.getElem?_cons_succ,bP (by lia)];congr 2;lia
def TC{d:Nat}(h:((l.drop i).take d).map (xor t)=dq n d)(cj:j<d)(aC:i+d<=l.length):∃b,l[i+j]?=J b/\xor t b=n.testBit (d-1-j):=by
 have e:=Uh (n:=n) cj;rw[<-h,eJ,List.getElem?_take_of_lt cj,List.getElem?_drop]at e;cases q:l[i+j]? with
 |none=>rw[q]at e;cases e
 |some b =>
  rw[q]at e;exact⟨b,I,ie e⟩
def yk(l:List Bool):l.map (xor aI)=l:=by
 rw[show(xor aI)=(id:Bool->Bool)from funext fun b=>by cases b<;>rfl,List.map_id]
end fk
namespace c6
open PySem
def UO(K:bT)(t:ax):vG K t t=J ao:=by
 unfold vG;rw[beq_self_eq_true,if_pos rfl]
end c6
namespace fk
def Ll{a:List Bool}(h:a.map (!·) <+: L):a <+: L.map (!·):=by
 obtain⟨r,e⟩:=h;refine⟨r.map (!·),?_⟩;rw[<-e,fR,hx];congr 1
 conv=>lhs;rw[<-List.map_id a]
 exact pz fun b _=>(Bool.not_not b).symm
def LB(l:List Bool)(t:Bool):(l.map (xor t)).map (!·)=l.map (xor (!t)):=by
 rw[hx];exact pz fun b _=>by cases t<;>cases b<;>rfl
def LO{n:Int}(ai : -(2^255)<n)(aj:n<2^255-1):(gS n).length<=270:=by
 have c:∀m:Nat,m+1<2^255->(cnt m).length<=269:=fun m h=>by
  have:=GC h;have:=ki h;lia
 unfold gS;split
 .rw[dW,cd];have:=c (-1-n).toNat (by lia);lia
 .rw[dW];have:=c n.toNat (by lia);lia
end fk
end
section
namespace c6
open PySem PySem.Spec PyProof.Rows
def R9(e:ag)(o:Option ag)(c:Option ax)(d:Option ag):Prop:=(o=d/\(d=aA\/c=J .none))\/(d=J e/\o=aA/\c=J .none)
def S8(h:bR)(e:ag)(cls:ax)(d:Option ag)(T:ag)(nu:ax):Prop :=
 ∃nI vs PI Af,h.get? e=J nI/\nI.cls=cls/\R9 e nI.dict vs[2]? d/\nI.data=.fields vs/\vs[1]?=J (.ref T)/\T≠e/\h.get? T=J PI/\PI.data=.fields Af/\Af[3]?=J nu/\True
end c6
end
section
namespace c6
open PySem PySem.W PySem.Spec PyProof.Rows
def ajM(X:bS)(pn:List (ag×cE))(E0:St->cP)(e:ax)(bw:aT):Prop:=∃a C d T cb H1 H' s1,e=.ref a/\Inv {X with pn:=pn} [] cb H1 s1/\Inv {X with pn:=pn} [] cb H' bw/\S8 bw.heap a (.ref C) d T .none/\
 H' a=aA/\H' T=aA/\s1.heap.get? a=aA/\s1.heap.get? T=aA/\E0 cb (.ref C) d H'
noncomputable def bS.ajL(X:bS)(pn:List (ag×cE))(E0:St->cP):bS:={X with pn:=pn,xe:=ajM X pn E0}
variable {X:bS}
def bS.Ok.afP(ok:X.Ok)(pn:List (ag×cE)):bS.Ok {X with pn:=pn} :=
 ⟨ok.mod,ok.kind,ok.glob,ok.blt,ok.above,ok.inj,ok.has,ok.wD,ok.hd,ok.frames,ok.z7,ok.HH,ok.bs,ok.qR,ok.xo,ok.yR,ok.nv,ok.tx⟩
def Inv.ins(ae:Inv X ar ab H s):Inv {X with pn:=X.pn++ar} [] ab H s :=
 ⟨ae.ok.afP _,ae.os,ae.bare,ae.zn,ae.loc,ae.cell,ae.free,ae.ov,fun p aX=>ae.pin p (by simpa using aX),ae.aF,ae.len⟩
def Inv.D1{Y:bS}(ok:X.Ok)(ae:Inv {X with pn:=X.pn++ar} [] ab H s):Inv X ar ab H s :=
 ⟨ok,ae.os,ae.bare,ae.zn,ae.loc,ae.cell,ae.free,ae.ov,fun p aX=>ae.pin p (by simpa using aX),ae.aF,ae.len⟩
section
variable {X:bS}
def He:ef X (l2 .Mult) (tX (fun i j=>dI.Int.intBits i<=2^20/\dI.Int.intBits j<=2^20) fun i j =>.int (i*j)):=vq fun _ _ _ _ _ _ _ hc q=>mul_int q (IntMulOk.of_bits hc.1 hc.2)
def mE(au:gM k A):A.units+64<cLine:=by have:=au.un;lia
end
end c6
end
section
namespace c6
open PySem PySem.W PySem.Spec PyProof.Rows PySem.Builtin.ObjectAttr
end c6
end
section
namespace c6
open PySem PySem.W PySem.Spec PyProof.Rows
noncomputable abbrev akp:=aa->St->aq->bI->Prop
section
variable {X:bS}
noncomputable def tW:=ef.or (cv (X:=X)) Wi
end
section
variable {X:bS}
def EK(i j:Int):Prop:=0<j/\(dI.Int.intBits j<=9000\/dI.Int.intBits i<=dI.Int.intBits j+4000)
def Md{j:Int}(h:j≠0):j.natAbs.log2+1=dI.Int.intBits j:=by
 unfold dI.Int.intBits;rw[if_neg (by simpa using h)]
def EK.ok{i j:Int}(h:EK i j):dI.divisionGoesByPylong i j=aI:=by
 unfold dI.divisionGoesByPylong;have cj:=Md (Int.ne_of_gt h.1);have aj:=h.2;have hI:(j == 0)=aI:=by have:=h.1;simp;lia
 simp only[Bool.and_eq_false_iff,decide_eq_false_iff_not,hI,if_neg (show ¬(aI=ao)from by decide)];rcases aj with aj|aj
 .left;lia
 ·right;by_cases aG:i=0
  .subst aG;rw[if_pos (by decide)];lia
  ·have nz:=Md aG;rw[if_neg (by simpa using aG)];lia
def UG:ef X (l2 .FloorDiv) (tX EK fun i j =>.int (i/j)):=vq fun i j _ _ _ _ _ hc q=>by
 have e:i.fdiv j=i/j:=Int.fdiv_eq_ediv_of_nonneg _ (Int.le_of_lt hc.1);exact floordiv_int (by have:=hc.1;lia) (by rw[e];exact q) (.inl hc.ok)
end
noncomputable def um(K:bT)(a:ag)(xs:List V):k3:=⟨fun i H=>c4 K H a xs/\i<xs.length,fun i H x H'=>H'=H/\xs[xs.length-1-i]?=J x,fun i H=>c4 K H a xs/\xs.length<=i⟩
def Up(a it:ag)(xs:List V):Turn P w K e6 (um K a xs) [it] it (fun i h=>i<=xs.length/\h.IsRevIter it a ((xs.length:Int)-1-i)) where
 mem:=by simp
 obj:=fun i h st b al=>by
  have e:b=it:=by simpa using al
  subst e;obtain⟨_,o,e,c,d⟩:=st;exact⟨o,e,fun v z=>by rw[d]at z;cases z⟩
 keep:=fun i h h' st k=>⟨st.1,st.2.at fun o e=>k it (by simp) o e⟩
 item:=by
  intro X dX hw ff hc i ar s ab H E ae aD st bh;subst dX hw ff;obtain⟨bl,aG⟩:=bh;obtain⟨aV,dK,p,bX⟩:=ae.list bl;have av:xs[xs.length-1-i]?=J (xs[xs.length-1-i]'(by lia)):=cw _;obtain⟨u,cG,fo⟩:=dK.get av;obtain⟨f0,f1,f2,h8,f4,iO⟩:=aD it (by simp);have ew:((xs.length:Int)-1-i)=((xs.length-1-i:Nat):Int):=by lia
  have i7:=st.2;rw[ew]at i7;refine wpAny_pyNext_rev_item i7 p.isList (x:=u) (by simpa using cG) fun h' iG ro=>?_;have bC:Inv X ar ab H {s with heap:=h'}:=ae.turned (t':=s.toks) (fun b o al e=>(ro.2 b al).trans e) f0 f1 h8 f4 iO;have hI:(((xs.length-1-i:Nat):Int)-1)=((xs.length:Int)-1-((i+1:Nat):Int)):=by lia
  rw[hI]at iG;obtain⟨o,e,c,d⟩:=id iG;exact⟨u,I,yG (s:={s with heap:=h'}) e c d (by decide) ⟨_,H,bC,fo,⟨I,av⟩,⟨by lia,iG⟩,fun b al=>(aD b al).1⟩⟩
 done:=by
  intro X dX hw ff hc i ar s ab H E ae aD st bh;subst dX hw ff;obtain⟨bl,av⟩:=bh;obtain⟨f0,f1,f2,h8,f4,iO⟩:=aD it (by simp);have ew:((xs.length:Int)-1-i) = -1:=by have:=st.1;lia
  have i7:=st.2;rw[ew]at i7;exact wpAny_pyNext_rev_end (ae.ok.hd hc) i7 fun h' eE=>⟨I,ae.turned (t':=s.toks) (fun b o al e=>eE b o al e) f0 f1 h8 f4 iO⟩
 self:=fun _ _ _ _ _ st h=>wpAny_pyIter_revIter st.2 h
section
variable {X:bS} {e6:c3}
def aep(K:bT)(dQ:TE):d8:=fun ab H R=>dQ ab H fun x H1=>∃a xs,x=.ref a/\c4 K H1 a xs/\R (um K a xs) H1
def V9{l:c3}{dQ:TE}{p:Pos}(bh:jU X "reversed")(hm:X.mg "reversed"=aA)(aC:cF X l dQ)(hs:xv (eI [l] X.env=[(aI,eval l X.env)]) z0):jV X e6 (.Call (.Name "reversed" p) [l] [] bc) (aep X.K dQ):=by
 intro ar s ab H R ae h;have aN:jl X [l] _:=ak aC ay (hs:=hs.trans rfl);refine Call_ (pI ae bh hm boot_reversed (callWith_type1 (dg (aN bc ar s ab H (fun vs H1=>∃x,vs=[x]/\∃a xs,x=.ref a/\c4 X.K H1 a xs/\R (um X.K a xs) H1) ae ?_) fun us s1 ⟨vs,H1,bC,b9,cn⟩=>?_) (by rw[hs];rfl) I))
 ·have h':dQ ab H fun x H1=>∃a xs,x=.ref a/\c4 X.K H1 a xs/\R (um X.K a xs) H1:=h;show dQ ab H fun x H1=>∃y,[x]=[y]/\_;exact cast (congrArg (dQ ab H) (funext fun x=>funext fun H1=>propext ⟨fun q=>⟨x,I,q⟩,fun⟨y,e,q⟩=>by cases e;exact q⟩)) h'
 ·obtain⟨x,rfl,a,xs,rfl,bl,q⟩:=cn;obtain⟨u,rfl,fo⟩:=vals1 b9;obtain rfl:u=ax.ref a:=fo;obtain⟨aV,dK,pl,bX⟩:=bC.list bl;have c0:=dK.length;refine call_reversed_list pl.isList ?_;have cW:Inv X ar ab H1 {s1 with heap:=s1.heap.push (revObj a ((aV.toArray.size:Int)-1))}:=bC.kept (t':=s1.toks) fun b o e=>gZ _ e
  have Em:(s1.heap.push (revObj a ((aV.toArray.size:Int)-1))).IsRevIter s1.heap.objs.size a ((xs.length:Int)-1-((0:Nat):Int)):=by
   have fl:((aV.toArray.size:Int)-1)=((xs.length:Int)-1-((0:Nat):Int)):=by rw[eg,<-c0];lia
   rw[fl];exact⟨_,iw _ I,I,I⟩
  refine wpAny_pyIter_revIter Em ?_;refine⟨_,[_],_,_,H1,I,cW,Up a _ xs,⟨UF _,Em⟩,fun b al=>?_,q⟩;have e:=eB.mp al;subst e;exact bC.qV (cR _) (bC.aF.fresh (cR _))
def VT{D:Ends}(Pv:Nat->St->aq->Prop)(bb:Pv 0 ab H)(aC:∀i ab H,i<=xs.length->Pv i ab H->c4 K H a xs)
  (hs:∀i x ab H,i<xs.length->xs[xs.length-1-i]?=J x->Pv i ab H->g x ab H fun bD az=>dO {D with nx:=Pv (i+1),ct:=Pv (i+1),bk:=D.nx} bD az) (hd:∀ab H,Pv xs.length ab H->D.nx ab H) :
  ∃W:Nat->Nat->St->aq->Prop,(∃m,W 0 m ab H)/\∀i m ab H,W i m ab H->
   ((um K a xs).stop i H/\D.nx ab H)\/((um K a xs).go i H/\∃N:St->aq->Prop,(∀cb H',N cb H'->∃b6,b6<m/\W (i+1) b6 cb H')/\∀x H',(um K a xs).rx i H x H'->g x ab H' fun bD az=>dO {D with nx:=N,ct:=N,bk:=D.nx} bD az):=by
 refine⟨fun i m ab H=>i<=xs.length/\m=xs.length-i/\Pv i ab H,⟨xs.length,UF _,I,bb⟩,?_⟩;rintro i m ab H ⟨ai,rfl,aj⟩;rcases h4 i xs.length with z|z
 ·refine .inr ⟨⟨aC i ab H ai aj,z⟩,Pv (i+1),fun cb H' q=>⟨xs.length-(i+1),by lia,by lia,rfl,q⟩,?_⟩;rintro x H' ⟨rfl,av⟩;exact hs i x ab _ z av aj
 ·have e:i=xs.length:=by lia
  subst e;exact .inl ⟨⟨aC _ ab H (cR _) aj,cR _⟩,hd ab H aj⟩
def wt(hc:X.calm=ao):hR X (.builtin "all") (fun xs H Q=>∃a,∃bs:List Bool,xs=[.ref a]/\c4 X.K H a (bs.map .aS)/\Q (.aS (bs.all id)) H):=by
 intro ar s ab H xs us Q ae r h;obtain⟨a,bs,rfl,bl,q⟩:=h;obtain⟨u,rfl,fo⟩:=vals1 r;obtain rfl:u=ax.ref a:=fo;obtain⟨aV,dK,pl,bX⟩:=ae.list bl;have c0:=dK.length;have iS:a<s.heap.objs.size:=by obtain⟨o,aK,_⟩:=pl.isList;exact fI aK
 refine call_all_walkS (wpAny_pyIter_list pl.isList ?_);refine⟨s.heap.objs.size,[s.heap.objs.size,a],[s.heap.objs.size],_,aV.toArray.size,_,_,fun i=>bs.getD i aI,I,(Walks.list (A:=X.A.in1) (ae.ok.hd hc) s.heap.objs.size a (hU iS) aV.toArray).toS,⟨⟨_,iw _ I,I,I⟩,?_⟩,?_,fun bw eX=>?_⟩
 .obtain⟨o,aK,r⟩:=pl.isList;exact⟨o,gZ _ aK,r⟩
 ·intro i v s2 akn eP cV b8;have lj:aV[i]?=J v:=by simpa using cV
  have aG:i<bs.length:=by
   have:=(kE.mp lj).1;rw[cd]at c0;lia
  have al:(bs.map V.aS)[i]?=J (.aS (bs.getD i aI)):=by rw[eJ,cw aG,eR,cw aG];rfl
  obtain⟨u,cG,fo⟩:=dK.get al;rw[lj]at cG;cases cG;obtain rfl:v=ax.bool (bs.getD i aI):=fo;exact An b8
 ·have hZ:(List.range aV.toArray.size).all (fun i=>bs.getD i aI)=bs.all id:=by
   rw[eg,<-c0,cd];apply Bool.eq_iff_iff.mpr;rw[hy,hy];constructor
   ·intro h x av;obtain⟨i,aG,rfl⟩:=List.mem_iff_getElem.mp av;have:=h i (List.mem_range.mpr aG);rw[eR,cw aG]at this;exact this
   ·intro h i aG;have u6:=List.mem_range.mp aG;rw[eR,cw u6];exact h _ (List.getElem_mem u6)
  rw[hZ];refine⟨.aS _,H,?_,I,q⟩;have cW:Inv X ar ab H {s with heap:=s.heap.push {cls :=.type "list_iterator",data :=.fields #[.ref a,.int 0 0]}}:=ae.kept (t':=s.toks) fun b o e=>gZ _ e;obtain⟨f0,f1,f2,h8,f4,iO⟩:=ae.qV (b:=s.heap.objs.size) (cR _) (ae.aF.fresh (cR _))
  have e:bw={s with heap:=bw.heap,toks:=bw.toks}:=by
   obtain⟨ai,g1,gO,t1,jR⟩:=bw;have:=eX.gens;have:=eX.drawn;have:=eX.os;dsimp only at *;subst_vars;rfl
  have jC:=cW.turned (t':=bw.toks) (it:=s.heap.objs.size) (h':=bw.heap) (fun b o al e=>eX.heap b o (by simpa using al) e) f0 f1 h8 f4 iO;rw[e];exact jC
end
def Mq(l:List V):pK l (J 1) aA=l.drop 1:=by
 unfold pK dU.ht;cases l with
 |nil=>rfl
 |cons a r=>simp
def T9(l:List V):pK l aA (J (-1))=l.take (l.length-1):=by
 unfold pK dU.ht;cases l with
 |nil=>rfl
 |cons a r =>
  simp only[show((-1:Int)<0)from by decide,if_true,List.drop_zero,Nat.sub_zero];congr 1;simp only[dW];lia
section
variable {X:bS}
theorem Me:∀ns:List Int,PyData.canLayAll0 (ns.map PyData.int)=ao
 |[]=>rfl
 |_::r=>by simp[PyData.canLayAll0,PyData.canLay0,Me r]
theorem MQ:∀ns:List Int,PyData.depthAll (ns.map PyData.int)=0
 |[]=>rfl
 |_::r=>by simp[PyData.depthAll,PyData.depth,MQ r]
def Cv(ns:List Int):SeqAt.shaped (.list (ns.map PyData.int))=ao:=by
 simp[SeqAt.shaped,PyData.canLay0,PyData.depth,Me,MQ]
theorem LU:∀ns ms:List Int,PySem.Spec.sameAll (ns.map PyData.int) (ms.map PyData.int)=decide (ns=ms)
 |[],[]=>by simp[PySem.Spec.sameAll]
 |[],_::_=>by simp[PySem.Spec.sameAll]
 |_::_,[]=>by simp[PySem.Spec.sameAll]
 |a::r,b::t=>by
  simp only[gI,PySem.Spec.sameAll,PySem.Spec.same,LU r t];by_cases h:a=b<;>by_cases h':r=t<;>simp[h,h']
def Nq(ns ms:List Int):PySem.Spec.same (.list (ns.map PyData.int)) (.list (ms.map PyData.int))=decide (ns=ms):=by
 simp only[PySem.Spec.same];exact LU ns ms
theorem ye:∀{vs:List ax}{ns:List Int},Vals (ns.map V.int) vs->CarriedAll vs (ns.map PyData.int)
 |[],[],_ =>.nil
 | v::vs,b::ns,h=>by
  cases h with
  |cons a r =>
   obtain⟨t,rfl⟩:=(show ∃t,v=ax.int b t from a);exact .cons (.int _ _) (ye r)
 |[],_::_,h=>by cases h
 |_::_,[],h=>by cases h
def aiq:iK:=fun x y H Q=>∃(l b:ag)(xs zs:List Int),x=.ref l/\y=.ref b/\H l=J (.lst (xs.map .int))/\H b=J (.lst (zs.map .int))/\Q (.aS (decide (xs=zs))) H
def aiu:iK:=fun x y H Q=>∃(l b:ag)(xs zs:List Int),x=.ref l/\y=.ref b/\H l=J (.lst (xs.map .int))/\H b=J (.lst (zs.map .int))/\Q (.aS (!decide (xs=zs))) H
def Wg(cG:X.A.units+64<cLine):ef X (h3 .Eq) aiq:=by
 intro ar s ab H x y v u Q ae bH cX h;obtain⟨l,b,xs,zs,rfl,rfl,ai,aj,q⟩:=h;cases bH;cases cX;obtain⟨_,aV,n,r,_,e⟩:=ae.oK ai;obtain⟨_,fN,dm,ej,_,aR⟩:=ae.oK aj;exact eq_dataH_same (reads_newData ⟨_,e,I,n,I⟩ (ye r)) (reads_newData ⟨_,aR,I,dm,I⟩ (ye ej)) (Cv _) (Cv _) cG (SeqAt.noMix_of_shape (.list .int) I _ _ (list_map_has fun _=>I) (list_map_has fun _=>I)) (by rw[Nq];exact⟨.aS _,H,ae,rfl,q⟩)
def We(cG:X.A.units+64<cLine):ef X (h3 .NotEq) aiu:=by
 intro ar s ab H x y v u Q ae bH cX h;obtain⟨l,b,xs,zs,rfl,rfl,ai,aj,q⟩:=h;cases bH;cases cX;obtain⟨_,aV,n,r,_,e⟩:=ae.oK ai;obtain⟨_,fN,dm,ej,_,aR⟩:=ae.oK aj;exact ne_dataH_same (reads_newData ⟨_,e,I,n,I⟩ (ye r)) (reads_newData ⟨_,aR,I,dm,I⟩ (ye ej)) (Cv _) (Cv _) cG (SeqAt.noMix_of_shape (.list .int) I _ _ (list_map_has fun _=>I) (list_map_has fun _=>I)) (by rw[Nq];exact⟨.aS _,H,ae,rfl,q⟩)
noncomputable def DY(cG:X.A.units+64<cLine):=ef.or (dn (X:=X)) (Wg cG)
noncomputable def I8(cG:X.A.units+64<cLine):=ef.or (kY (X:=X)) (We cG)
end
def Cx{Q:bI}{D:ag}(f:V->V)(S:St->Prop)(bX:xs.length<=cp)(bb:S fO)(b2:H D=aA)(aC:c4 K H a xs)
  (aP:∀x,x∈xs->∀b0 H1,S b0->et H H1->∀R:St->V->aq->Prop,(∀bD,S bD->R bD (f x) H1)->g x b0 H1 fun bD az=>cT bD az fun y b5=>R bD y b5)
  (bl:Q (.ref D) (upd H D (.lst (xs.map f)))) :
  mK (rF K a) g oX cT Q fO H D:=by
 refine⟨fun i m b0 az=>i<=xs.length/\m=xs.length-i/\S b0/\az=upd H D (.lst ((xs.take i).map f)),⟨xs.length,UF _,I,bb,I⟩,?_⟩;rintro i m b0 az ⟨ai,rfl,aj,rfl⟩;have gE:=(cZ (o :=.lst ((xs.take i).map f)) b2).seq aC;rcases h4 i xs.length with z|z
 ·refine .inr ⟨⟨xs,xs[i],gE,cw z⟩,?_⟩;rintro x b5 ⟨rfl,av⟩;have av:=av xs gE;refine aP x (jc av) b0 _ aj (cZ b2) (fun bD y ek=>∃aw b6,ek D=J (.lst aw)/\aw.length<cp/\b6<xs.length-i/\(i+1<=xs.length/\b6=xs.length-(i+1)/\S bD/\upd ek D (.lst (aw++[y]))=upd H D (.lst ((xs.take (i+1)).map f)))) fun bD gh=>?_;refine⟨_,xs.length-(i+1),aB,?_,by lia,by lia,rfl,gh,?_⟩
  .rw[cd,kg];lia
  .rw[eS,mf,av,fR];rfl
 ·have e:i=xs.length:=by lia
  subst e;rw[List.take_length];rw[List.take_length]at gE;exact .inl ⟨⟨xs,gE,cR _⟩,bl⟩
end c6
end
variable {q:Int}
section
namespace fk
open PySem c6
noncomputable def c2:List Int->Int×Int
 |[]=>(1,0)
 |a::r=>(a*(c2 r).1+(c2 r).2,(c2 r).1)
def Tail(r:List Int):Prop:=(∀x∈r,1<=x)/\∀h:r≠[],2<=r.getLast h
noncomputable def Good:List Int->Prop
 |[]=>False
 |_::r=>Tail r
def Tail.dQ{a:Int}{r:List Int}(h:Tail (a::r)):Tail r:=by
 refine⟨fun x av=>h.1 x (d9 _ av),fun au=>?_⟩;have:=h.2 (px _ _);rwa [List.getLast_cons au]at this
theorem Tail.c2:∀{r:List Int},Tail r->0<=(c2 r).2/\(c2 r).2<(c2 r).1/\(r≠[]->0<(c2 r).2)
 |[],_=>⟨by decide,by decide,fun h=>absurd rfl h⟩
 | a::r,h=>by
  obtain⟨ai,aj,bt⟩:=h.dQ.c2;have aN:=h.1 a (g0 ..);show 0<=(fk.c2 r).1/\(fk.c2 r).1<a*(fk.c2 r).1+(fk.c2 r).2/\(_->0<(fk.c2 r).1);refine⟨by lia,?_,fun _=>by lia⟩;by_cases au:r=[]
  ·subst au;have aC:=h.2 (px _ _);have OV:(2:Int)<=a:=aC;show(1:Int)<a*1+0;lia
  ·have:=bt au;have hm:1*(fk.c2 r).1<=a*(fk.c2 r).1:=Int.mul_le_mul_of_nonneg_right aN (by lia);lia
noncomputable def gp(p q:Int):List Int:=if h:0<q then(p/q)::gp q (p%q)else []
termination_by q.toNat
decreasing_by
 have:=jW p h;have:=jX p (Int.ne_of_gt h);lia
def lH{p:Int}(h:0<q):gp p q=(p/q)::gp q (p%q):=by rw[gp,dif_pos h]
def qE(p:Int):gp p 0=[]:=by rw[gp,dif_neg (by decide)]
def CQ(i:Int):dI.Int.intBits i=aE i.natAbs:=by
 unfold dI.Int.intBits aE;by_cases h:i=0
 .subst h;rfl
 .rw[if_neg (by simpa using h),if_neg (by lia)]
theorem Ml{B:Nat}:∀{s:List Int},(∀x∈s,x.natAbs<2^B)->(c2 s).1.natAbs<=2^((B+1)*s.length)/\(c2 s).2.natAbs<=2^((B+1)*s.length)
 |[],_=>⟨by rw[List.length_nil,Nat.mul_zero];decide,by rw[List.length_nil,Nat.mul_zero];decide⟩
 | a::r,h=>by
  obtain⟨ai,aj⟩:=Ml (s:=r) fun x av=>h x (d9 _ av);have aN:=h a (g0 ..);have e:(B+1)*(a::r).length=(B+1)*r.length+(B+1):=by rw[dW,Nat.mul_succ]
  rw[e,Nat.pow_add];obtain⟨T,bW⟩:∃T,T=2^((B+1)*r.length):=⟨_,rfl⟩;rw[<-bW]at ai aj ⊢;have al:1<=2^B:=Nat.one_le_two_pow;have aR:2^(B+1)=2^B*2:=Nat.pow_succ ..;rw[aR];obtain⟨b,H8⟩:∃b,b=2^B:=⟨_,rfl⟩;rw[<-H8]at aN al ⊢;have gn:T*(b*2)=b*T+T*b:=by rw[<-Nat.mul_assoc,Nat.mul_two,Nat.mul_comm b T]
  have gr:T*1<=T*b:=Nat.mul_le_mul_left _ al;constructor
  ·show(a*(c2 r).1+(c2 r).2).natAbs<=_;have z:=Int.natAbs_add_le (a*(c2 r).1) (c2 r).2;rw[Int.natAbs_mul]at z;have m:a.natAbs*(c2 r).1.natAbs<=b*T:=Nat.mul_le_mul (Nat.le_of_lt aN) ai;lia
  ·show(c2 r).1.natAbs<=_;have:0<=b*T:=UF _;lia
def NG{i:Int}(h:i.natAbs<=2^k):dI.Int.intBits i<=k+1:=by
 rw[CQ];refine ki ?_;rw[Nat.pow_succ];have:=Nat.two_pow_pos k;lia
def NF{i:Int}(h:i.natAbs<2^k):dI.Int.intBits i<=k:=by rw[CQ];exact ki h
def U5{p:Int}{B:Nat}(h:0<q)(hs:(p/q).natAbs<2^B):dI.Int.intBits p<=dI.Int.intBits q+(B+1):=by
 rw[CQ,CQ];refine ki ?_;have e:=Int.mul_ediv_add_emod p q;have gG:=jX p (Int.ne_of_gt h);have b9:=jW p h;have z:=Int.natAbs_add_le (q*(p/q)) (p%q);rw[e,Int.natAbs_mul]at z;have bl:=qO q.natAbs;have m:q.natAbs*(p/q).natAbs<=q.natAbs*2^B:=Nat.mul_le_mul_left _ (Nat.le_of_lt hs);rw[Nat.pow_add,Nat.pow_succ];have gu:q.natAbs*2^B<=2^aE q.natAbs*2^B:=Nat.mul_le_mul_right _ (Nat.le_of_lt bl);have al:1<=2^B:=Nat.one_le_two_pow;have i5:2^aE q.natAbs*1<=2^aE q.natAbs*2^B:=Nat.mul_le_mul_left _ al;have gn:2^aE q.natAbs*(2^B*2)=2^aE q.natAbs*2^B+2^aE q.natAbs*2^B:=by rw[<-Nat.mul_assoc,Nat.mul_two]
 lia
noncomputable def r6(s:List Int):Bool:=if s.length<2 then decide (s.length=1)else s.tail.all (fun x=>decide (0<x))&&decide (1<s.getLastD 0)
def Mk(s:List Int):r6 s=ao↔Good s:=by
 unfold r6
 match s with
 |[]=>simp[Good]
 |[a]=>simp[Good,Tail]
 | a::b::r =>
  rw[if_neg (by simp)];rw[ix,hy,k6]
  have e:(a::b::r).getLastD 0=(b::r).getLast (px _ _):=by
   rw[List.getLastD_cons,List.getLastD_eq_getLast?,List.getLast?_eq_some_getLast (px _ _)];rfl
  rw[e];constructor
  ·rintro⟨ai,aj⟩;exact⟨fun x av=>by have:=hT (ai x av);lia,fun _=>by lia⟩
  ·rintro⟨ai,aj⟩;exact⟨fun x av=>eK (by have:=ai x av;lia),by have:=aj (px _ _);lia⟩
def Good.ne{s:List Int}(h:Good s):s≠[]:=by intro e;subst e;exact h
end fk
end
variable {elts:List c3} {t5:Pos}
section
namespace c6
open PySem PySem.W PySem.Spec PyProof.Rows
section
variable {X:bS} {ar:List (ag×cE)} {ab:St} {H:aq} {s:aT} {h':bR}
def Inv.JG(ae:Inv X ar ab H s)(k:∀b u,b∉ch->s.heap.get? b=J u->h'.get? b=J u)(aD:∀b∈ch,rE X ar H b)(aN:s.heap.objs.size<=a)(new:iJ X.prog X.w (upd H a o) h' a o):
  Inv X ar ab (upd H a o) {s with heap:=h',toks:=t'}:=by
 have bj:=ae.aF.fresh aN;have qf:∀b u,H b=J u->b∉ch:=fun b u e z=>by have:=(aD b z).1;rw[this]at e;cases e
 have ne:∀b u,s.heap.get? b=J u->b≠a:=fun b u e z=>by subst z;exact absurd (fz (fI e) aN) (Nat.lt_irrefl _)
 refine ae.step (g':=s.gens) (d':=s.drawn) (ch:=ch) (fun b al=>?_) (fun b o _ _ hc e _=>k b o hc e) (fun b o _ _ hc e _=>⟨o.slots,k b o hc e⟩) (fun b u _ e n=>by rw[bx (ne b u e)];exact n)
  (fun b o hc e=>⟨o,k b o hc e⟩) (fun b xs e=>by rw[bx (hz e bj)];exact e) (fun b u v e=>by rw[bx (hz e bj)];exact e) (fun b aJ e=>⟨#[],by rw[bx (hz e bj),e];simp⟩) (fun m hm=>?_) (fun b u e=>?_) ae.bare
 ·obtain⟨f0,f1,f2,h8,f4,iO⟩:=aD b al;exact⟨h8,f1,f4,iO⟩
 ·obtain⟨eG,aZ,hi,aK,r⟩:=hm;exact⟨eG,aZ,hi,k _ eG (fun z=>(aD _ z).2.1 I) aK,r⟩
 ·by_cases al:b=a
  .subst al;rw[aB]at e;cases e;exact new
  ·rw[bx al]at e;refine(ae.aF b u e).vA (fun c v hc q=>k c v ?_ q) (fun c q=>by rw[bx (hz q bj)];exact q) fun c xs q=>by rw[bx (hz q bj)];exact q
   rcases hc with z|z
   .rw[z];exact qf b u e
   .exact qf c _ z
def Inv.JF(ae:Inv X ar ab H s)(k:∀b u,b∉ch->s.heap.get? b=J u->h'.get? b=J u)(aD:∀b∈ch,rE X ar H b):Inv X ar ab H {s with heap:=h',toks:=t'}:=by
 have qf:∀b u,H b=J u->b∉ch:=fun b u e z=>by have:=(aD b z).1;rw[this]at e;cases e
 refine ae.step (g':=s.gens) (d':=s.drawn) (ch:=ch) (fun b al=>?_) (fun b o _ _ hc e _=>k b o hc e) (fun b o _ _ hc e _=>⟨o.slots,k b o hc e⟩) (fun _ _ _ _ n=>n)
  (fun b o hc e=>⟨o,k b o hc e⟩) (fun _ _ e=>e) (fun _ _ _ e=>e) (fun b aJ e=>⟨#[],by rw[e];simp⟩) (fun m hm=>?_) (fun b u e=>?_) ae.bare
 ·obtain⟨f0,f1,f2,h8,f4,iO⟩:=aD b al;exact⟨h8,f1,f4,iO⟩
 ·obtain⟨eG,aZ,hi,aK,r⟩:=hm;exact⟨eG,aZ,hi,k _ eG (fun z=>(aD _ z).2.1 I) aK,r⟩
 ·refine(ae.aF b u e).vA (fun c v hc q=>k c v ?_ q) (fun _ q=>q) fun _ _ q=>q;rcases hc with z|z
  .rw[z];exact qf b u e
  .exact qf c _ z
end
noncomputable def uk(K:bT)(a:ag)(xs:List V):k3 :=
 ⟨fun i H=>c4 K H a xs/\i<xs.length,fun i H x H'=>∃(T:ag)(y:V),H T=aA/\xs[i]?=J y/\x=.ref T/\H'=upd H T (.tup [.int (i:Nat),y]),fun i H=>c4 K H a xs/\xs.length<=i⟩
def aar(a e it:ag)(xs:List V)(ai:e≠it)(aj:a≠e)(bt:a≠it):
  Turn P w K (.Tuple elts k bc) (uk K a xs) [e,it] e (fun i h=>i<=xs.length/\(∃old,IsEnum h e it (i:Nat) old)/\h.IsListIter it a i) where
 mem:=by simp
 obj:=fun i h st b al=>by
  obtain⟨_,⟨old,i7⟩,jy⟩:=st;rcases dJ.mp al with z|z
  ·subst z;exact⟨_,i7,fun v z=>by cases z⟩
  ·obtain rfl:=eB.mp z;obtain⟨o,e,c,d⟩:=jy;exact⟨o,e,fun v z=>by rw[d]at z;cases z⟩
 keep:=fun i h h' st k=>by
  obtain⟨aG,⟨old,i7⟩,jy⟩:=st;exact⟨aG,⟨old,k e (by simp) _ i7⟩,jy.at fun o e=>k it (by simp) o e⟩
 item:=by
  intro X dX hw ff hc i ar s ab H E ae aD st bh;subst dX hw ff;obtain⟨bl,aG⟩:=bh;obtain⟨aV,dK,p,bX⟩:=ae.list bl;have c0:=dK.length;have W:=WalksT.enumerate (prog:=X.prog) (w:=X.w) (ae.ok.hd hc) e it a ai aj bt aV.toArray;refine W.item i s _ _ (by rw[eg];lia) ⟨st.2.1,st.2.2,p.isList⟩ fun T vals h' dP cV bW IK mid ck=>?_;refine⟨_,I,W.go elts k bc i T _ _ _ mid fun HQ iG zH=>?_⟩;obtain⟨t,u,cG,rfl⟩:=cV;have ad2:aV[i]?=J u:=by simpa using cG
  have ba:xs[i]?=J (xs[i]'aG):=cw aG;obtain⟨ed,sq,fo⟩:=dK.get ba;rw[ad2]at sq;cases sq;have tE:=ae.aF.fresh bW;have j3:T∉[e,it]:=W.apart i T h' mid;refine⟨.ref T,upd H T (.tup [.int (i:Nat),xs[i]'aG]),?_,I,⟨T,_,tE,ba,I,I⟩,⟨by lia,iG.1,iG.2.1⟩,fun b al=>?_⟩
  ·refine ae.JG (ch:=[e,it]) (t':=dP) (fun b o al eE=>zH b o al (ck b o al eE)) aD bW ?_;refine⟨by show 2<=cp;decide,[ax.int (i:Nat) t,u],.cons ⟨t,rfl⟩ (.cons fo .nil),?_⟩;obtain⟨o,aK,r⟩:=IK;exact⟨o,zH T o j3 aK,r⟩
  ·have:=(aD b al).1;rw[bx]
   .exact this
   .intro z;subst z;exact j3 al
 done:=by
  intro X dX hw ff hc i ar s ab H E ae aD st bh;subst dX hw ff;obtain⟨bl,aG⟩:=bh;obtain⟨aV,dK,p,bX⟩:=ae.list bl;have c0:=dK.length;have W:=WalksT.enumerate (prog:=X.prog) (w:=X.w) (ae.ok.hd hc) e it a ai aj bt aV.toArray;have ew:i=aV.toArray.size:=by rw[eg];have:=st.1;lia
  subst ew;exact W.done s _ _ ⟨st.2.1,st.2.2,p.isList⟩ fun h' dP ck=>⟨I,ae.JF (t':=dP) ck aD⟩
 self:=fun A i s Q E st h=>by
  obtain⟨_,⟨old,i7⟩,_⟩:=st;exact wpAny_pyIter_enum i7 h
section
variable {X:bS}
def aeo(K:bT)(dQ:TE):d8:=fun ab H R=>dQ ab H fun x H1=>∃a xs,x=.ref a/\c4 K H1 a xs/\R (uk K a xs) H1
def Vu{l:c3}{dQ:TE}{p:Pos}(bh:jU X "enumerate")(hm:X.mg "enumerate"=aA)(aC:cF X l dQ)(hs:xv (eI [l] X.env=[(aI,eval l X.env)]) z0):jV X (.Tuple elts k t5) (.Call (.Name "enumerate" p) [l] [] bc) (aeo X.K dQ):=by
 intro ar s ab H R ae h;have aN:jl X [l] _:=ak aC ay (hs:=hs.trans rfl);refine Call_ (pI ae bh hm boot_enumerate (callWith_type1 (dg (aN bc ar s ab H (fun vs H1=>∃x,vs=[x]/\∃a xs,x=.ref a/\c4 X.K H1 a xs/\R (uk X.K a xs) H1) ae ?_) fun us s1 ⟨vs,H1,bC,b9,cn⟩=>?_) (by rw[hs];rfl) I))
 ·have h':dQ ab H fun x H1=>∃a xs,x=.ref a/\c4 X.K H1 a xs/\R (uk X.K a xs) H1:=h;show dQ ab H fun x H1=>∃y,[x]=[y]/\_;exact cast (congrArg (dQ ab H) (funext fun x=>funext fun H1=>propext ⟨fun q=>⟨x,I,q⟩,fun⟨y,e,q⟩=>by cases e;exact q⟩)) h'
 ·obtain⟨x,rfl,a,xs,rfl,bl,q⟩:=cn;obtain⟨u,rfl,fo⟩:=vals1 b9;obtain rfl:u=ax.ref a:=fo;obtain⟨aV,dK,pl,bX⟩:=bC.list bl;have iS:a<s1.heap.objs.size:=by obtain⟨o,aK,_⟩:=pl.isList;exact fI aK
  refine call_enumerate_list pl.isList fun h' he aG jQ ck=>?_;have cW:Inv X ar ab H1 {s1 with heap:=h'}:=bC.kept (t':=s1.toks) ck;refine wpAny_pyIter_enum he ?_;refine⟨_,[s1.heap.objs.size+1,s1.heap.objs.size],_,_,H1,I,cW,aar a _ _ xs (Nat.succ_ne_self _) (hU (Nat.lt_succ_of_lt iS)) (hU iS),⟨UF _,⟨_,he⟩,aG⟩,fun b al=>?_,q⟩;rcases dJ.mp al with z|z
  .subst z;exact bC.qV (by lia) (bC.aF.fresh (by lia))
  ·obtain rfl:=eB.mp z;exact bC.qV (cR _) (bC.aF.fresh (cR _))
def UY{D:Ends}(Pv:Nat->St->aq->Prop)(bb:Pv 0 ab H)(aC:∀i ab H,i<=xs.length->Pv i ab H->c4 K H a xs)
  (hs:∀i x ab H T,xs[i]?=J x->H T=aA->Pv i ab H->g (.ref T) ab (upd H T (.tup [.int (i:Nat),x])) fun bD az=>dO {D with nx:=Pv (i+1),ct:=Pv (i+1),bk:=D.nx} bD az) (hd:∀ab H,Pv xs.length ab H->D.nx ab H) :
  ∃W:Nat->Nat->St->aq->Prop,(∃m,W 0 m ab H)/\∀i m ab H,W i m ab H->
   ((uk K a xs).stop i H/\D.nx ab H)\/((uk K a xs).go i H/\∃N:St->aq->Prop,(∀cb H',N cb H'->∃b6,b6<m/\W (i+1) b6 cb H')/\∀x H',(uk K a xs).rx i H x H'->g x ab H' fun bD az=>dO {D with nx:=N,ct:=N,bk:=D.nx} bD az):=by
 refine⟨fun i m ab H=>i<=xs.length/\m=xs.length-i/\Pv i ab H,⟨xs.length,UF _,I,bb⟩,?_⟩;rintro i m ab H ⟨ai,rfl,aj⟩;rcases h4 i xs.length with z|z
 ·refine .inr ⟨⟨aC i ab H ai aj,z⟩,Pv (i+1),fun cb H' q=>⟨xs.length-(i+1),by lia,by lia,rfl,q⟩,?_⟩;rintro x H' ⟨T,y,bW,ba,rfl,rfl⟩;exact hs i y ab H T ba bW aj
 ·have e:i=xs.length:=by lia
  subst e;exact .inl ⟨⟨aC _ ab H (cR _) aj,cR _⟩,hd ab H aj⟩
end
end c6
end
section
namespace fk
open PySem c6
noncomputable def more:List Int->List Bool
 |[]=>[aI]
 |b::r=>ao::(cnt (b-1).toNat++more r).map (!·)
noncomputable def lg:List Int->List Bool
 |[]=>[]
 |a::r=>gS a++more r
noncomputable def odd(k:Nat):Bool:=decide (k%2=1)
def CF(k:Nat):odd (k+1)=!odd k:=by
 unfold odd;have h:k%2=0\/k%2=1:=by lia
 rcases h with h|h
 ·have:(k+1)%2=1:=by lia
  simp[h,this]
 ·have:(k+1)%2=0:=by lia
  simp[h,this]
noncomputable def iW(k:Nat)(x:Int)(last:Bool):List Bool:=((if k=0 then gS x else cnt (x-1).toNat)++[!last]).map (xor (odd k))
noncomputable def hO:Nat->List Int->List (List Bool)
 |_,[]=>[]
 |k,x::r=>iW k x r.isEmpty::hO (k+1) r
def GA(k:Nat)(s:List Int):(hO k s).length=s.length:=by
 induction s generalizing k with
 |nil=>rfl
 |cons x r bP=>simp only[hO,dW,bP]
def Nk{s:List Int}{x:Int}(h:s[i]?=J x):(hO k s)[i]?=J (iW (k+i) x (decide (i+1=s.length))):=by
 induction s generalizing k i with
 |nil=>cases h
 | cons y r bP =>
  cases i with
  |zero =>
   cases h;show J (iW k x r.isEmpty)=_;congr 2;cases r<;>simp
  |succ i =>
   have h':r[i]?=J x:=h;have:=bP (k:=k+1) h';show(hO (k+1) r)[i]?=_;rw[this];congr 2
   .omega
   .simp
def Un(l:List Bool)(t:Bool):(l.map (!·)).map (xor t)=l.map (xor (!t)):=by
 rw[hx];exact pz fun b _=>by cases t<;>cases b<;>rfl
def UE(hk:k≠0)(b:Int)(r:List Int):(hO k (b::r)).flatten=(cnt (b-1).toNat++more r).map (xor (odd k)):=by
 induction r generalizing k b with
 |nil =>
  show(iW k b ao++[])=_;rw[List.append_nil];unfold iW;rw[if_neg hk];rfl
 |cons c r bP =>
  show iW k b aI++(hO (k+1) (c::r)).flatten=_;rw[bP (by lia) c];unfold iW;rw[if_neg hk,CF,more,<-Un,<-fR,eC];rfl
def Vz(a:Int)(r:List Int):(hO 0 (a::r)).flatten=lg (a::r):=by
 have fl:∀l:List Bool,l.map (xor (odd 0))=l:=fun l=>yk l;cases r with
 |nil =>
  show(iW 0 a ao++[])=_;rw[List.append_nil];unfold iW;rw[if_pos rfl,fl];rfl
 |cons b r =>
  show iW 0 a aI++(hO 1 (b::r)).flatten=_;rw[UE (by decide)];unfold iW;rw[if_pos rfl,fl];show _=gS a++(ao::(cnt (b-1).toNat++more r).map (!·));rw[eC];congr 1;show ao::List.map (xor (odd 1)) _=ao::_;congr 1;exact pz fun b _=>by cases b<;>rfl
noncomputable def fb(p q:Int):Int:=if h:0<q then fb q (p%q)else p
termination_by q.toNat
decreasing_by
 have:=jW p h;have:=jX p (Int.ne_of_gt h);lia
def CW{p:Int}(h:0<q):fb p q=fb q (p%q):=by rw[fb,dif_pos h]
def yy(p:Int):fb p 0=p:=by rw[fb,dif_neg (by decide)]
end fk
namespace c6
open PySem PySem.Spec PyProof.Rows
def Sub.trans'{X:aq}(a:Sub H H1 X)(b:Sub H1 az H'):Sub H az H' :=
 ⟨b.le,fun c o e=>let ⟨u,cG⟩:=a.ge c o e;b.ge c u cG,fun z=>b.cl (a.cl z)⟩
def Sub.aeu{r:ag}{fs:List (aa×V)}(h:H p=J (.ins C ah fs))(au:H r=aA)(hs:∀b u,b≠p->H b=J u->H' b=J u)(e:H' p=J (.ins C ah fs'))(lO:H' r=J o)(aK:mO (upd (upd H p (.ins C ah fs')) r o) r o):
  Sub H (upd (upd H p (.ins C ah fs')) r o) H':=by
 have adS:r≠p:=fun z=>by rw[z,h]at au;cases au
 refine Sub.trans' (Sub.ins h hs e) (.new (by rw[bx adS];exact au) (fun b u q=>?_) lO aK);by_cases z:b=p
 .subst z;rw[aB]at q;cases q;exact e
 .rw[bx z]at q;exact hs b u z q
end c6
end
section
namespace fk
open PySem c6
def qw(s t:List Int):Prop:=(c2 s).1*(c2 t).2<(c2 t).1*(c2 s).2
variable {a:Int} {r u:List Int}
def MW{b:Int}(au:Tail r)(cG:Tail u)(h:a<b):qw (a::r) (b::u):=by
 obtain⟨ajX,RT,_⟩:=au.c2;obtain⟨ajY,alN,_⟩:=cG.c2;show(a*(c2 r).1+(c2 r).2)*(c2 u).1<(b*(c2 u).1+(c2 u).2)*(c2 r).1;generalize (c2 r).1=x at *;generalize (c2 r).2=y at *;generalize (c2 u).1=gx at *;generalize (c2 u).2=vD at *;have av:0<x:=by lia
 have Pc:0<gx:=by lia
 have gr:(a+1)*(x*gx)<=b*(x*gx):=Int.mul_le_mul_of_nonneg_right (by lia) (Int.le_of_lt (Int.mul_pos av Pc));have fD:y*gx<x*gx:=Int.mul_lt_mul_of_pos_right RT Pc;have oI:0<=vD*x:=Int.mul_nonneg ajY (Int.le_of_lt av);have aQ:(a*x+y)*gx=a*(x*gx)+y*gx:=by rw[Int.add_mul,Int.mul_assoc]
 have aR:(b*gx+vD)*x=b*(x*gx)+vD*x:=by rw[Int.add_mul,Int.mul_assoc,Int.mul_comm gx x]
 have gn:(a+1)*(x*gx)=a*(x*gx)+x*gx:=by rw[Int.add_mul,Int.one_mul]
 rw[aQ,aR];rw[gn]at gr;lia
def NT:qw (a::r) (a::u)↔qw u r:=by
 show(a*(c2 r).1+(c2 r).2)*(c2 u).1<(a*(c2 u).1+(c2 u).2)*(c2 r).1↔(c2 u).1*(c2 r).2<(c2 r).1*(c2 u).2;generalize (c2 r).1=x;generalize (c2 r).2=y;generalize (c2 u).1=gx;generalize (c2 u).2=vD;have aQ:(a*x+y)*gx=a*(x*gx)+gx*y:=by rw[Int.add_mul,Int.mul_assoc,Int.mul_comm y]
 have aR:(a*gx+vD)*x=a*(x*gx)+x*vD:=by rw[Int.add_mul,Int.mul_assoc,Int.mul_comm gx x,Int.mul_comm vD]
 rw[aQ,aR];lia
def Mr(cG:Tail u):¬qw [] u:=by
 obtain⟨ajX,RT,_⟩:=cG.c2;show ¬(1*(c2 u).2<(c2 u).1*0);lia
def uj(r:List Int):Prop:=∀x∈r,1<=x/\x<2^255
noncomputable def Ae:List Int->List Bool
 |[]=>[]
 |c::r=>cnt (c-1).toNat++more r
def Cu(c:Int)(r:List Int):more (c::r)=ao::(Ae (c::r)).map (!·):=rfl
def aas:∀(n:Nat){s t:List Int},s.length+t.length<=n->Tail s->Tail t->uj s->uj t->s≠[]->t≠[]->qw s t->Sep (Ae s) (Ae t):=by
 intro n
 induction n with
 |zero =>
  intro s t bj _ _ _ _ ai _ _;exact absurd (List.eq_nil_of_length_eq_zero (by lia)) ai
 | succ n bP =>
  intro s t bj hs aP is it ai aj h;obtain⟨a,r,rfl⟩:=List.exists_cons_of_ne_nil ai;obtain⟨b,u,rfl⟩:=List.exists_cons_of_ne_nil aj;have aN:=is a (g0 ..);have al:=it b (g0 ..);rcases Int.lt_trichotomy a b with c|c|c
  .exact(Hk (n:=(a-1).toNat) (n':=(b-1).toNat) (by lia) (by lia)).post _ _
  ·subst c;have h':=NT.mp h;refine Sep.pre _ ?_;have au:=hs.dQ;have cG:=aP.dQ;cases u with
   |nil=>exact absurd h' (Mr au)
   | cons d u =>
    cases r with
    |nil=>exact⟨[],[],_,I,I⟩
    |cons c r =>
     rw[Cu,Cu];exact Sep.pre [ao] (Sep.turn (bP (by simp only[dW]at bj ⊢;lia) cG au (fun x av=>it x (d9 _ av)) (fun x av=>is x (d9 _ av)) (px _ _) (px _ _) h'))
  ·have:=MW aP.dQ hs.dQ c;unfold qw at h this;lia
def Uq{s t:List Int}(hs:Tail s)(aP:Tail t)(is:uj s)(it:uj t)(ai:s≠[])(aj:t≠[])(h:qw s t):Sep (Ae s) (Ae t):=aas _ (cR _) hs aP is it ai aj h
def UW{b:Int}(au:Tail r)(cG:Tail u)(aN : -(2^255)<a/\a<2^255-1)(al : -(2^255)<b/\b<2^255-1)(zD:uj r)(zF:uj u)(h:qw (a::r) (b::u)):Sep (lg (a::r)) (lg (b::u)):=by
 rcases Int.lt_trichotomy a b with c|c|c
 .exact(M5 c aN.1 al.2).post _ _
 ·subst c;have h':=NT.mp h;refine Sep.pre _ ?_
  match r,u,h',au,cG,zD,zF with
  |r,[],h',au,cG,zD,zF=>exact absurd h' (Mr au)
  |[],d::u,h',au,cG,zD,zF=>exact⟨[],[],_,I,I⟩
  |c::r,d::u,h',au,cG,zD,zF =>
   rw[Cu,Cu];exact Sep.pre [ao] (Sep.turn (Uq cG au zF zD (px _ _) (px _ _) h'))
 ·have:=MW cG au c;unfold qw at h this;lia
end fk
end
section
namespace c6
open PySem PySem.W PySem.Spec PyProof.Rows
def yf{Q:bI}{D:ag}(iP:Nat->V)(S:St->Prop)(bX:xs.length<=cp)(bb:S fO)(b2:H D=aA)(aC:c4 K H a xs)
  (aP:∀i x,xs[i]?=J x->∀b0 H1,S b0->et H H1->∀R:St->V->aq->Prop,(∀bD,S bD->R bD (iP i) H1)->g x b0 H1 fun bD az=>cT bD az fun y b5=>R bD y b5)
  (bl:Q (.ref D) (upd H D (.lst ((List.range xs.length).map iP)))) :
  mK (rF K a) g oX cT Q fO H D:=by
 refine⟨fun i m b0 az=>i<=xs.length/\m=xs.length-i/\S b0/\az=upd H D (.lst ((List.range i).map iP)),⟨xs.length,UF _,I,bb,I⟩,?_⟩;rintro i m b0 az ⟨ai,rfl,aj,rfl⟩;have gE:=(cZ (o :=.lst ((List.range i).map iP)) b2).seq aC;rcases h4 i xs.length with z|z
 ·refine .inr ⟨⟨xs,xs[i],gE,cw z⟩,?_⟩;rintro x b5 ⟨rfl,av⟩;have av:=av xs gE;refine aP i x av b0 _ aj (cZ b2) (fun bD y ek=>∃aw b6,ek D=J (.lst aw)/\aw.length<cp/\b6<xs.length-i/\(i+1<=xs.length/\b6=xs.length-(i+1)/\S bD/\upd ek D (.lst (aw++[y]))=upd H D (.lst ((List.range (i+1)).map iP)))) fun bD gh=>?_;refine⟨_,xs.length-(i+1),aB,by rw[cd,k8];lia,by lia,by lia,rfl,gh,?_⟩;rw[eS,List.range_succ,fR];rfl
 ·have e:i=xs.length:=by lia
  subst e;exact .inl ⟨⟨xs,gE,cR _⟩,bl⟩
end c6
end
section
namespace fk
open PySem c6
noncomputable def mp:List Int->List Bool
 |[]=>[]
 |b::r=>ao::(cnt (b-1).toNat++mp r).map (!·)
def Lt(a b:List Bool):Prop:=(bA a).cps.toList<(bA b).cps.toList
noncomputable instance (a b:List Bool):Decidable (Lt a b):=inferInstanceAs (Decidable (_<_))
noncomputable def C2:List Bool->List Bool->Nat
 |x::a,y::b=>if x=y then C2 a b+1 else 0
 |_,_=>0
end fk
end
section
namespace c6
open PySem PySem.W PySem.Spec PyProof.Rows
section
variable {X:bS}
end
noncomputable def AB(K:bT)(a b:ag)(xs aw:List V):k3 :=
 ⟨fun i H=>c4 K H a xs/\c4 K H b aw/\i<min xs.length aw.length,fun i H x H'=>∃(T:ag)(u v:V),H T=aA/\xs[i]?=J u/\aw[i]?=J v/\x=.ref T/\H'=upd H T (.tup [u,v]),fun i H=>c4 K H a xs/\c4 K H b aw/\min xs.length aw.length<=i⟩
def Uo(a b z d8 dE dC df:ag)(xs aw:List V)(D:ZipApart z d8 dE dC df a b):
  Turn P w K (.Tuple elts k bc) (AB K a b xs aw) [z,d8,dE,dC,df] z (fun i h=>i<=min xs.length aw.length/\IsZip h z d8 dE .none/\IsPair h d8 (.ref dC) (.ref df)/\(∃a b,IsPair h dE a b)/\h.IsListIter dC a i/\h.IsListIter df b i) where
 mem:=by simp
 obj:=fun i h st c hc=>by
  obtain⟨_,i7,jy,⟨p,q,kZ⟩,oV,j9⟩:=st;rcases dJ.mp hc with e|hc
  .subst e;exact⟨_,i7,fun v z=>by cases z⟩
  rcases dJ.mp hc with e|hc
  .subst e;exact⟨_,jy,fun v z=>by cases z⟩
  rcases dJ.mp hc with e|hc
  .subst e;exact⟨_,kZ,fun v z=>by cases z⟩
  rcases dJ.mp hc with e|hc
  ·subst e;obtain⟨o,e,c,d⟩:=oV;exact⟨o,e,fun v z=>by rw[d]at z;cases z⟩
  ·obtain rfl:=eB.mp hc;obtain⟨o,e,c,d⟩:=j9;exact⟨o,e,fun v z=>by rw[d]at z;cases z⟩
 keep:=fun i h h' st k=>by
  obtain⟨aG,i7,jy,⟨p,q,kZ⟩,oV,j9⟩:=st;exact⟨aG,k z (by simp) _ i7,k d8 (by simp) _ jy,⟨p,q,k dE (by simp) _ kZ⟩,oV.at fun o e=>k dC (by simp) o e,j9.at fun o e=>k df (by simp) o e⟩
 item:=by
  intro X dX hw ff hc i ar s ab H E ae aD st bh;subst dX hw ff;obtain⟨p6,nE,aG⟩:=bh;obtain⟨i3,qn,c8,zB⟩:=ae.list p6;obtain⟨fN,qo,cS,zC⟩:=ae.list nE;have zi:=qn.length;have lW:=qo.length;have W:=WalksT.zip2 (prog:=X.prog) (w:=X.w) (ae.ok.hd hc) z d8 dE dC df a b D i3.toArray fN.toArray;refine W.item i s _ _ (by rw[eg,eg];lia) ⟨st.2.1,st.2.2.1,st.2.2.2.1,st.2.2.2.2.1,st.2.2.2.2.2,c8.isList,cS.isList⟩ fun T vals h' dP cV bW IK mid ck=>?_;refine⟨_,I,W.go elts k bc i T _ _ _ mid fun HQ iG zH=>?_⟩;obtain⟨ir,ed,so,sq,rfl⟩:=cV;have IM:i3[i]?=J ir:=by simpa using so
  have IP:fN[i]?=J ed:=by simpa using sq
  have mA:xs[i]?=J (xs[i]'(by lia)):=cw _;have sr:aw[i]?=J (aw[i]'(by lia)):=cw _;obtain⟨v1,ve,sO⟩:=qn.get mA;obtain⟨v2,vf,fh⟩:=qo.get sr;rw[IM]at ve;cases ve;rw[IP]at vf;cases vf;have tE:=ae.aF.fresh bW;have j3:T∉[z,dE,dC,df]:=W.apart i T h' mid
  have DS:∀c∈[z,d8,dE,dC,df],c≠T:=fun c e1 e=>by
   subst e;rcases dJ.mp e1 with e|e1
   .exact j3 (by rw[e];simp)
   rcases dJ.mp e1 with e|e1
   ·have bb:=fI st.2.2.1;rw[<-e]at bb;exact absurd (fz bb bW) (Nat.lt_irrefl _)
   .exact j3 (d9 _ e1)
  refine⟨.ref T,upd H T (.tup [xs[i]'(by lia),aw[i]'(by lia)]),?_,I,⟨T,_,_,tE,mA,sr,I,I⟩,⟨by lia,iG.1,iG.2.1,iG.2.2.1,iG.2.2.2.1,iG.2.2.2.2.1⟩,fun c e1=>?_⟩
  ·refine ae.JG (ch:=[z,dE,dC,df]) (t':=dP) (fun c o w0 pR=>zH c o w0 (ck c o w0 pR)) (fun c e1=>aD c ?_) bW ?_
   ·rcases dJ.mp e1 with e|e1
    .rw[e];simp
    .exact d9 _ (d9 _ e1)
   refine⟨by show 2<=cp;decide,[ir,ed],.cons sO (.cons fh .nil),?_⟩;obtain⟨o,aK,r⟩:=IK;exact⟨o,zH T o j3 aK,r⟩
  ·rw[bx (DS c e1)];exact(aD c e1).1
 done:=by
  intro X dX hw ff hc i ar s ab H E ae aD st bh;subst dX hw ff;obtain⟨p6,nE,aG⟩:=bh;obtain⟨i3,qn,c8,zB⟩:=ae.list p6;obtain⟨fN,qo,cS,zC⟩:=ae.list nE;have zi:=qn.length;have lW:=qo.length;have W:=WalksT.zip2 (prog:=X.prog) (w:=X.w) (ae.ok.hd hc) z d8 dE dC df a b D i3.toArray fN.toArray;have ew:i=min i3.toArray.size fN.toArray.size:=by rw[eg,eg];have:=st.1;lia
  subst ew;refine W.done s _ _ ⟨st.2.1,st.2.2.1,st.2.2.2.1,st.2.2.2.2.1,st.2.2.2.2.2,c8.isList,cS.isList⟩ fun h' dP ck=>⟨I,ae.JF (t':=dP) ck fun c e1=>aD c ?_⟩;rcases dJ.mp e1 with e|e1
  .rw[e];simp
  .exact d9 _ (d9 _ e1)
 self:=fun A i s Q E st h=>wpAny_pyIter_zip st.2.1 h
section
variable {X:bS}
def aes(K:bT)(cN:iL):d8:=fun ab H R=>cN ab H fun vs H1=>∃a b xs aw,vs=[.ref a,.ref b]/\c4 K H1 a xs/\c4 K H1 b aw/\R (AB K a b xs aw) H1
def KO{l m:c3}{p:Pos}(bh:jU X "zip")(hm:X.mg "zip"=aA)(aN:jl X [l,m] cN)(hs:xv (eI [l,m] X.env=[(aI,eval l X.env),(aI,eval m X.env)]) z0)(gd:xv (eI [m] X.env=[(aI,eval m X.env)]) z0):
  jV X (.Tuple elts k t5) (.Call (.Name "zip" p) [l,m] [] bc) (aes X.K cN):=by
 intro ar s ab H R ae h;refine Call_ (pI ae bh hm boot_zip (PyProof.Rows.callWith_type1 (dg (aN bc ar s ab H (fun vs H1=>∃a b xs aw,vs=[.ref a,.ref b]/\c4 X.K H1 a xs/\c4 X.K H1 b aw/\R (AB X.K a b xs aw) H1) ae h) fun us s1 ⟨vs,H1,bC,b9,cn⟩=>?_) (by rw[hs,gd]) (by rw[gd];rfl)));obtain⟨a,b,xs,aw,rfl,p6,nE,q⟩:=cn;obtain⟨ir,ed,rfl,sO,fh⟩:=vals2 b9;obtain rfl:ir=ax.ref a:=sO;obtain rfl:ed=ax.ref b:=fh;obtain⟨i3,qn,c8,zB⟩:=bC.list p6;obtain⟨fN,qo,cS,zC⟩:=bC.list nE;have bJ:a<s1.heap.objs.size:=by obtain⟨o,aK,_⟩:=c8.isList;exact fI aK
 have bZ:b<s1.heap.objs.size:=by obtain⟨o,aK,_⟩:=cS.isList;exact fI aK
 refine call_zip_2 c8.isList cS.isList fun h' d6 d2 jB o7 na jQ ck=>?_;have cW:Inv X ar ab H1 {s1 with heap:=h'}:=bC.kept (t':=s1.toks) ck;refine wpAny_pyIter_zip d6 ?_;refine⟨_,_,_,_,H1,I,cW,Uo a b _ _ _ _ _ xs aw (zipApart_new bJ bZ),⟨UF _,d6,d2,⟨_,_,jB⟩,o7,na⟩,fun c hc=>?_,q⟩
 have lU:s1.heap.objs.size<=c:=by
  rcases dJ.mp hc with e|hc
  .rw[e];exact Nat.le_add_right ..
  rcases dJ.mp hc with e|hc
  .rw[e];exact Nat.le_add_right ..
  rcases dJ.mp hc with e|hc
  .rw[e];exact Nat.le_add_right ..
  rcases dJ.mp hc with e|hc
  .rw[e];exact cR _
  .rw[eB.mp hc];exact Nat.le_add_right ..
 exact bC.qV lU (bC.aF.fresh lU)
end
def MY{b:ag}{Q:bI}{D:ag}(iP:Nat->V)(S:St->Prop)(bX:min xs.length aw.length<=100000)(bb:S fO)(b2:H D=aA)(mz:c4 K H a xs)(gE:c4 K H b aw)
  (aP:∀i x y,xs[i]?=J x->aw[i]?=J y->∀b0 H1 T,S b0->et H H1->H1 T=aA->∀R:St->V->aq->Prop,(∀bD b5,S bD->et (upd H1 T (.tup [x,y])) b5->R bD (iP i) b5)->g (.ref T) b0 (upd H1 T (.tup [x,y])) fun bD az=>cT bD az fun z b5=>R bD z b5)
  (bl:∀H':aq,et H H'->H' D=J (.lst ((List.range (min xs.length aw.length)).map iP))->Q (.ref D) H') :
  mK (AB K a b xs aw) g oX cT Q fO H D:=by
 refine⟨fun i m b0 az=>i<=min xs.length aw.length/\m=min xs.length aw.length-i/\S b0/\et H az/\az D=J (.lst ((List.range i).map iP)),⟨min xs.length aw.length,UF _,I,bb,cZ b2,aB⟩,?_⟩;rintro i m b0 az ⟨ai,rfl,aj,hs,kQ⟩;have cn:=hs.seq mz;have b8:=hs.seq gE;rcases h4 i (min xs.length aw.length)with z|z
 ·refine .inr ⟨⟨cn,b8,z⟩,?_⟩;rintro x b5 ⟨T,u,v,bW,cG,cV,rfl,rfl⟩;refine aP i u v cG cV b0 az T aj hs bW (fun bD y ek=>∃zs b6,ek D=J (.lst zs)/\zs.length<cp/\b6<min xs.length aw.length-i/\(i+1<=min xs.length aw.length/\b6=min xs.length aw.length-(i+1)/\S bD/\et H (upd ek D (.lst (zs++[y])))/\upd ek D (.lst (zs++[y])) D=J (.lst ((List.range (i+1)).map iP)))) fun bD ek gh tN=>?_;have I3:D≠T:=fun e=>by rw[e,bW]at kQ;cases kQ
  refine⟨(List.range i).map iP,min xs.length aw.length-(i+1),tN _ _ (by rw[bx I3];exact kQ),?_,by lia,by lia,rfl,gh,?_,?_⟩
  ·rw[cd,k8];exact fz (show i<100000 by lia) (by decide)
  ·intro c o e;rw[bx (hz e b2)];refine tN c o ?_;rw[bx (fun e'=>by rw[e',hs.free bW]at e;cases e)];exact hs c o e
  .rw[aB,List.range_succ,fR];rfl
 ·have e:i=min xs.length aw.length:=by lia
  subst e;exact .inl ⟨⟨cn,b8,cR _⟩,bl az hs kQ⟩
end c6
end
section
namespace fk
open PySem c6
noncomputable def ent(a r:List Bool):List Bool:=cnt (C2 a r)++cnt (r.length-C2 a r)++r.drop (C2 a r)
noncomputable def ents:List Bool->List (List Bool)->List Bool
 |_,[]=>[]
 |a,r::rs=>ent a r++ents r rs
noncomputable def alC(rs:List (List Bool)):List Bool:=cnt rs.length++ents [] rs
end fk
end
section
namespace c6
open PySem PySem.W PySem.Spec PyProof.Rows
def Vs{X:bS}{bb:ExceptHandler}{hs:List ExceptHandler}(al:∀pn,jE (X.ajL pn fun _ _ _ _=>False) body dO):lC X (.Try body (bb::hs) [] [] t5) dO:=by
 intro ar s ab H J0 ae ai;have ok:=ae.ok;refine wpAny_Try_except (nc (al (X.pn++ar) [] s ab H J0 (ae.ins.o4 _) ai) (fun f s1 z=>?_) (fun e s1 z=>?_))
 ·cases f with
  |next =>
   obtain⟨cb,H',jj,q⟩:=z;exact cm (X:=X) ar s1 cb H' J0 (Inv.D1 (Y:=X) ok (Inv.oY (X:={X with pn:=X.pn++ar}) jj)) q
  |brk=>obtain⟨cb,H',jj,q⟩:=z;exact⟨cb,H',Inv.D1 (Y:=X) ok (Inv.oY (X:={X with pn:=X.pn++ar}) jj),q⟩
  |cont=>obtain⟨cb,H',jj,q⟩:=z;exact⟨cb,H',Inv.D1 (Y:=X) ok (Inv.oY (X:={X with pn:=X.pn++ar}) jj),q⟩
  |ret u=>obtain⟨v,cb,H',jj,r,q⟩:=z;exact⟨v,cb,H',Inv.D1 (Y:=X) ok (Inv.oY (X:={X with pn:=X.pn++ar}) jj),r,q⟩
 obtain⟨a,C,d,T,cb,H1,H',s0,rfl,bC,cW,akA,fa,akz,xm,j3,q⟩:=z;exact q.elim
section
variable {X:bS}
end
def LK{Q:bI}{D:ag}(Pv:V->Prop)(S:St->Prop)(bj:n<=100000)(bb:S fO)(b2:H D=aA)
  (aP:∀i:Nat,i<n->∀b0 H1,S b0->et H H1->∀R:St->V->aq->Prop,(∀bD b5 y,S bD->et H1 b5->Pv y->R bD y b5)->g (.int (lo+(i:Int))) b0 H1 fun bD az=>cT bD az fun z b5=>R bD z b5)
  (bl:∀(aw:List V)(H':aq),aw.length=n->(∀y∈aw,Pv y)->et H H'->H' D=J (.lst aw)->Q (.ref D) H') :
  mK (rG lo n) g oX cT Q fO H D:=by
 refine⟨fun i m b0 az=>i<=n/\m=n-i/\S b0/\et H az/\∃aw:List V,aw.length=i/\(∀y∈aw,Pv y)/\az D=J (.lst aw),⟨n,UF _,I,bb,cZ b2,[],I,(fun y ba=>nomatch ba),aB⟩,?_⟩;rintro i m b0 az ⟨ai,rfl,aj,hs,aw,aC,aX,kQ⟩;rcases h4 i n with z|z
 ·refine .inr ⟨z,?_⟩;rintro x b5 ⟨rfl,rfl⟩;refine aP i z b0 _ aj hs (fun bD y ek=>∃zs b6,ek D=J (.lst zs)/\zs.length<cp/\b6<n-i/\(i+1<=n/\b6=n-(i+1)/\S bD/\et H (upd ek D (.lst (zs++[y])))/\∃aw:List V,aw.length=i+1/\(∀y∈aw,Pv y)/\upd ek D (.lst (zs++[y])) D=J (.lst aw))) fun bD ek y gh tN ba=>?_;refine⟨aw,n-(i+1),tN _ _ kQ,?_,by lia,by lia,rfl,gh,?_,aw++[y],by rw[bE,aC];rfl,?_,aB⟩
  .rw[aC];exact fz (show i<100000 by lia) (by decide)
  ·intro c o e;rw[bx (hz e b2)];exact tN c o (hs c o e)
  ·intro u cG;rcases List.mem_append.mp cG with w|w
   .exact aX u w
   .rw[eB.mp w];exact ba
 ·have e:i=n:=by lia
  subst e;exact .inl ⟨cR _,bl aw az aC aX hs kQ⟩
end c6
end
section
namespace fk
open PySem c6
end fk
namespace c6
open PySem PySem.W PySem.Spec PyProof.Rows
section
variable {X:bS}
end
end c6
end
section
namespace fk
open PySem c6
end fk
end
section
namespace c6
open PySem PySem.W PySem.Spec PyProof.Rows
end c6
end
section
namespace fk
open PySem
end fk
end
section
namespace c6
open PySem PySem.Spec
section
variable {w:dd} {aZ yQ:Array (Int×ax)} {t t':SetTable} {xg:List aa}
end
section
variable {prog:dR} {w:dd} {A:ee} {E:ax->aT->Prop} {s:aT} {a:ag} {aZ:Array (Int×ax)} {hi:Nat} {t:SetTable} {xg:List aa}
end
section
variable {prog:dR} {w:dd} {A:ee} {E:ax->aT->Prop} {s:aT} {a:ag} {aZ:Array (Int×ax)} {hi:Nat} {t:SetTable} {xg:List aa}
end
section
variable {prog:dR} {w:dd} {A:ee} {E:ax->aT->Prop} {s:aT} {a ae p:ag} {aZ:Array (Int×ax)} {hi:Nat} {t:SetTable} {xg:List aa}
end
end c6
end
section
namespace c6
open PySem PySem.Spec PyProof.Rows
section
variable {prog:dR} {w:dd} {A:ee} {E:ax->aT->Prop} {s:aT} {a:ag} {aZ:Array (Int×ax)} {hi:Nat} {t:SetTable} {xg:List aa}
end
end c6
end
variable {hQ:c6.ic}
section
namespace c6
open PySem PySem.W PySem.Spec PyProof.Rows
def ZM{Q:bI}{D:ag}(keep:Nat->Bool)(f:Nat->V)(S:St->Prop)(bj:n<=100000)(bb:S fO)(b2:H D=aA)
  (aP:∀i:Nat,i<n->∀b0 H1,S b0->et H H1->∀(R:St->V->aq->Prop)(uu:St->aq->Prop),(∀bD,S bD->if keep i=ao then R bD (f i) H1 else uu bD H1)->g (.int (lo+(i:Int))) b0 H1 fun bD az=>hQ bD az fun b b5=>if b=ao then cT bD b5 fun y gW=>R bD y gW else uu bD b5)
  (bl:Q (.ref D) (upd H D (.lst (((List.range n).filter keep).map f)))) :
  mK (rG lo n) g hQ cT Q fO H D:=by
 refine⟨fun i m b0 az=>i<=n/\m=n-i/\S b0/\az=upd H D (.lst (((List.range i).filter keep).map f)),⟨n,UF _,I,bb,I⟩,?_⟩;rintro i m b0 az ⟨ai,rfl,aj,rfl⟩;rcases h4 i n with z|z
 ·refine .inr ⟨z,?_⟩;rintro x b5 ⟨rfl,rfl⟩
  refine aP i z b0 _ aj (cZ b2) (fun bD y ek=>∃aw b6,ek D=J (.lst aw)/\aw.length<cp/\b6<n-i/\(i+1<=n/\b6=n-(i+1)/\S bD/\upd ek D (.lst (aw++[y]))=upd H D (.lst (((List.range (i+1)).filter keep).map f))))
   (fun bD d7=>∃b6,b6<n-i/\(i+1<=n/\b6=n-(i+1)/\S bD/\d7=upd H D (.lst (((List.range (i+1)).filter keep).map f)))) fun bD gh=>?_
  by_cases hk:keep i=ao
  ·rw[if_pos hk];refine⟨_,n-(i+1),aB,?_,by lia,by lia,rfl,gh,?_⟩
   ·rw[cd];have:=List.length_filter_le keep (List.range i);rw[k8]at this;exact Nat.lt_of_le_of_lt this (fz (show i<100000 by lia) (by decide))
   .rw[eS,List.range_succ,List.filter_append,fR,List.filter_cons_of_pos hk];rfl
  ·rw[if_neg hk];refine⟨n-(i+1),by lia,by lia,rfl,gh,?_⟩;rw[List.range_succ,List.filter_append,fR,List.filter_cons_of_neg hk];simp
 ·have e:i=n:=by lia
  subst e;exact .inl ⟨cR _,bl⟩
section
variable {X:bS} {e fc akt aZ:c3} {cT dQ Ad Af:TE} {cS bc:Pos}
def Ub(hc:X.calm=ao):hR X (.builtin "sum") (fun xs H Q=>∃(a:ag)(ns:List Int),xs=[.ref a]/\c4 X.K H a (ns.map V.int)/\∀i:Int,Q (.int i) H):=by
 intro ar s ab H xs us Q ae r h;obtain⟨a,ns,rfl,bl,q⟩:=h;obtain⟨u,rfl,fo⟩:=vals1 r;obtain rfl:u=ax.ref a:=fo;obtain⟨aV,dK,pl,_⟩:=ae.list bl
 have hZ:∃xs:Array (Int×Tok),aV.toArray=intItems xs:=by
  have:∀(ns:List Int)(aV:List ax),Vals (ns.map V.int) aV->∃aJ:List (Int×Tok),aV=aJ.map fun p=>ax.int p.1 p.2:=by
   intro ns
   induction ns with
   |nil=>intro aV h;cases h;exact⟨[],I⟩
   | cons n ns bP =>
    intro aV h;cases h with
    |cons a r =>
     obtain⟨t,rfl⟩:=(show ∃t,_=ax.int n t from a);obtain⟨aJ,rfl⟩:=bP _ r;exact⟨(n,t)::aJ,I⟩
  obtain⟨aJ,rfl⟩:=this ns aV dK;exact⟨aJ.toArray,by unfold intItems;simp⟩
 obtain⟨xs,e⟩:=hZ;have aC:s.heap.IsList a (intItems xs):=by rw[<-e];exact pl.isList
 exact sum_intListG (ae.ok.hd hc) aC fun h' dP t' hk=>⟨.int _,H,ae.kept hk,⟨_,I⟩,q _⟩
end
structure kD(K:bT)(C:ag):Prop where
 makes:Am K C=ao
 init:gU K (.ref C) "__init__"=J (J (.builtin "object.__init__"))
 dz:ry K (.ref C)=ao
section
variable {X:bS} {C:ag} {x:aa} {p bc:Pos}
def aaz{Q:bI}(M:kD X.K C)(ae:Inv X ar ab H s)(h:∀x ah,H x=aA->H ah=aA->ah≠x->Q (.ref x) (upd (upd H ah (.own x)) x (.ins C ah []))):
  cc (model X.prog X.w) X.A (call (.ref C) []) (ja X ar ab Q) X.xe s:=by
 have bl:=h (s.heap.objs.size+1) s.heap.objs.size (ae.aF.fresh (Nat.le_succ _)) (ae.aF.fresh (cR _)) (hU (Nat.lt_succ_self _));have cW:=Inv.made (C:=C) ae;have Y:=makes_of (M:=model X.prog X.w) ae.h2 M.makes;refine EH (TM ae.h2 M.makes M.init (fun self=>Looks.of_pure (oi_bind self)) ?_)
 have aR:((s.heap.push nS).push (nT C s.heap.objs.size)).get? (s.heap.objs.size+1)=J (nT C s.heap.objs.size):=by
  have:=iw (s.heap.push nS) (o:=nT C s.heap.objs.size) rfl;rwa [bR.size_push]at this
 have t1:Looks (model X.prog X.w) ((s.heap.push nS).push (nT C s.heap.objs.size)) (typeOf (.ref (s.heap.objs.size+1))) (.ref C):=(Looks.ld aR).andThen .now;have f6:Looks (model X.prog X.w) ((s.heap.push nS).push (nT C s.heap.objs.size)) (isInstance (.ref (s.heap.objs.size+1)) (.type "object")) ao:=t1.andThen (Y.top.keeps fun b o e=>gZ _ (gZ _ e));obtain⟨fg,g,d,t,os⟩:=s;refine RX oi_plain entry_oi (@check_slot (model X.prog X.w) _ _ _ "object.__init__" "object" "__init__" (.ref (fg.objs.size+1)) [] [] _ oi_kind oi_split f6 (oi_args (.ref (fg.objs.size+1))) ?_);rw[oi_run];exact e3 (And.intro I ⟨V.ref (fg.objs.size+1),_,cW,I,bl⟩)
def ai8(C:ag):TE:=fun _ H Q=>∀x ah,H x=aA->H ah=aA->ah≠x->Q (.ref x) (upd (upd H ah (.own x)) x (.ins C ah []))
def s4(M:kD X.K C)(bh:jU X x)(hm:X.mg x=J (.ref C))(ny:xv ((x == ("__debug__":aa))=aI) yc):cF X (.Call (.Name x p) [] [] bc) (ai8 C):=by
 intro ar s ab H Q ae h;refine vJ (CT ae bh hm ?_ ny);exact PySem.W.callWith_K0 ae.h2 M.dz (aaz M ae h)
def VU(a b:aa)(t u:Tok):MeetsSeq.EqGives (.str a t) (.str b u) (decide (a=b)):=by
 intro prog w A Q E s h;exact wpAny_eqBool_str h
end
end c6
end
section
namespace c6
open PySem PySem.Spec PyProof.Rows
end c6
end
variable {h':bR} {val:Nat->aa}
section
namespace c6
open PySem PySem.Spec
noncomputable def g8(val:Nat->aa):Nat->List aa
 |0=>[]
 |i+1=>if val i∈g8 val i then g8 val i else g8 val i++[val i]
theorem yt(val:Nat->aa):∀i,(g8 val i).length<=i
 |0=>cR _
 |i+1=>by
  have bP:=yt val i;unfold g8;split
  .omega
  .rw[bE,kf];lia
def DQ(val:Nat->aa)(i:Nat)(k:aa):(decide (k∈g8 val i)||decide (k=val i))=decide (k∈g8 val (i+1)):=by
 conv=>rhs;unfold g8
 by_cases h:val i∈g8 val i
 ·rw[if_pos h];by_cases e:k=val i
  .subst e;simp[h]
  .simp[e]
 ·rw[if_neg h];by_cases e:k=val i<;>simp[e]
def UL(val:Nat->aa)(i:Nat):(if decide (val i∈g8 val i)=ao then(g8 val i).length else(g8 val i).length+1)=(g8 val (i+1)).length:=by
 conv=>rhs;unfold g8
 by_cases h:val i∈g8 val i
 .rw[if_pos h,if_pos (eK h)]
 .rw[if_neg h,if_neg (by simpa using h),bE];rfl
section
variable {prog:dR} {w:dd} {A:ee} {R:Result->aT->Prop} {ae:ag} {cu wr:List ag} {G:Array GenState->Array GenState->Prop} {n:Nat} {Pv:Nat->ax->Prop} {St:Nat->aT->Prop}
abbrev pv(prog:dR)(w:dd)(h:bR)(S:ag)(val:Nat->aa)(i:Nat):Prop:=h.SetOf (PySem.strKind prog w) S (fun k=>decide (k∈g8 val i)) (g8 val i).length
def pv.keep{S:ag}(t:pv prog w h S val i)(k:∀o,h.get? S=J o->h'.get? S=J o):pv prog w h' S val i:=by
 obtain⟨o,aZ,hi,dO,aK,rest⟩:=t;exact⟨o,aZ,hi,dO,k o aK,rest⟩
def L4(W:WalksS prog w A.in1 ae cu wr G n Pv St)(S:ag)(wV:S∉cu)(val:Nat->aa)(ad5:∀i v,Pv i v->∃t,v=.str (val i) t)(al:n+1<scanBound):
  ∀(m i:Nat)(s:aT),n-i=m->i<=n->St i s->pv prog w s.heap S val i->(∀bw,Moved (S::wr) G s bw->pv prog w bw.heap S val n->R (.ok (.ret .none)) bw)->
   pa (model prog w) A (.builtin "set.update.loop" ⟨[.ref S,.ref ae],[]⟩) R s:=by
 have OC:S∉wr:=fun h=>wV (W.sub _ h);have up:∀b∈wr,b∈S::wr:=fun b h=>d9 _ h;intro m
 induction m with
 |zero =>
  intro i s hm aG st bW cL;obtain rfl:i=n:=by lia
  refine codeAny_builtin PyProof.Rows.F.entry_set_update_loop ?_;rw[ee.under_plainId PyProof.Rows.F.plain_set_update_loop _];refine cO (m:=pyNext (.ref ae)) (W.done s _ _ st fun bw eX=>?_);exact e3 (cL bw (eX.mono up) (bW.keep fun o e=>eX.heap S _ OC e))
 | succ m bP =>
  intro i s hm aG st bW cL;have iS:i<n:=by lia
  refine codeAny_builtin PyProof.Rows.F.entry_set_update_loop ?_;rw[ee.under_plainId PyProof.Rows.F.plain_set_update_loop _];refine cO (m:=pyNext (.ref ae)) (W.item i s _ _ iS st fun v bw dX iG eX=>?_);obtain⟨t,rfl⟩:=ad5 i v dX;have yX:pv prog w bw.heap S val i:=bW.keep fun o e=>eX.heap S _ OC e;have OM:(PySem.strKind prog w).is (val i) (.str (val i) t)=ao:=by simp[PySem.strKind,ax.isStrOf]
  refine cO (m:=holding [ax.str (val i) t] (setAdd S (.str (val i) t))) (wpAny_holding ?_);unfold setAdd;refine wpAny_holding (cO ((PySem.strKind prog w).pyHash (k:=val i) OM ?_));have room:(g8 val i).length+1<scanBound:=by have:=yt val i;lia
  refine wpAny_setAddHashed_of (knd:=PySem.strKind prog w) (s:={bw with toks:=bw.toks+1}) OM I yX room fun h' ro g7=>?_;have iD:pv prog w h' S val (i+1):=PyProof.Rows.SetOf_congr g7 (fun k=>DQ val i k) (UL val i);refine e3 ⟨plainId_quiet PyProof.Rows.F.plain_set_update_loop _,bP (i+1) _ (by lia) iS (W.frame _ bw _ _ iG (Nat.le_succ _) fun b acY o e=>?_) iD fun vv ae4 Dt=>?_⟩
  .rw[ro.2 b fun z:b=S=>wV (z ▸ acY)];exact e
  ·refine cL vv (Moved.trans W.gtrans ((eX.mono up).then_heap (Nat.le_succ _) fun b o ac0 e=>?_) ae4) Dt;rw[ro.2 b fun z:b=S=>ac0 (by rw[z];exact g0)];exact e
end
section
variable {prog:dR} {w:dd} {A:ee} {E:ax->aT->Prop} {s:aT}
noncomputable abbrev ll(led:Bool):cE:={cls :=.type "set",dict:=aA,data :=.set #[] 0 (.fresh 0 0 led)}
abbrev D8(prog:dR)(w:dd)(s:aT)(val:Nat->aa)(n:Nat)(r:ax)(sQ:aT):Prop:=r=.none/\∃h' dP,sQ={s with heap:=h',toks:=dP}/\pv prog w h' s.heap.objs.size val n/\∀b o,b<s.heap.objs.size->s.heap.get? b=J o->h'.get? b=J o
def xU(prog:dR)(w:dd)(A:ee)(E:ax->aT->Prop)(s:aT)(x:ax)(val:Nat->aa)(n:Nat)(led:Bool):Prop :=
 cc (model prog w) A.in1.in1 (dI.«set.__init__» ⟨[.ref s.heap.objs.size,x],[]⟩) (fun dG bw=>match dG with
   |Fin.done f=>wants (D8 prog w s val n) E (Except.ok f) bw
   |Fin.again ij=>ij.quiet=ao/\pa (model prog w) A.in1 ij (wants (D8 prog w s val n) E) bw)
  (fun e bw=>wants (D8 prog w s val n) E (Except.error e) bw) {s with heap:=s.heap.push (ll led)}
def LL{x:ax}
  (ik:∀led:Bool,xU prog w A E s x val n led)
  (h:∀h' dP,pv prog w h' s.heap.objs.size val n->(∀b o,b<s.heap.objs.size->s.heap.get? b=J o->h'.get? b=J o)->Q (.ref s.heap.objs.size) {s with heap:=h',toks:=dP}) :
  cc (model prog w) A (call (.type "set") [x]) Q E s:=by
 obtain⟨c,dQ,ak6⟩:=F.called_set.mro;have ak5:=F.called_set.made;have II:=F.called_set.sub;refine EH (codeAny_of_tree ?_);show cc _ _ (callAny (.type "set") _) _ _ _;refine e3 ⟨Code.quiet_builtin _ ⋯,codeAny_builtin F.entry_type_call ?_⟩;rw[ee.under_plain (weight_type_call_type "set" [x] []) rfl];have ai:=F.called_set.notType;have aj:=F.called_set.canCreate;have akM:=F.typeCall_set_1 x
 repeat (any_goals (first|assumption|wp_step))
 refine vH (PySem.code_set_new_1 x (E:=E) (Q₁:=fun obj eD=>∃led:Bool,obj=.ref s.heap.objs.size/\eD={s with heap:=s.heap.push (ll led)}) fun led=>⟨led,I,I⟩) fun r eD au=>?_;cases r with
 |error e=>exact au
 | ok nu =>
  cases nu with
  | ret obj =>
   obtain⟨led,rfl,rfl⟩:=au;have c7:(s.heap.push (ll led)).get? s.heap.objs.size=J (ll led):=iw _ rfl;have bW:aT.TypeIs {s with heap:=s.heap.push (ll led)} (.ref s.heap.objs.size) "set":=⟨_,c7,rfl⟩;have ak2:=F.called_set.init.lookup;have akH:=F.called_set.init.bind (.ref s.heap.objs.size)
   repeat (any_goals (first|assumption|wp_step))
   refine vH (RX (R:=wants (D8 prog w s val n) E) F.called_set.init.plain F.entry_set_init (PySem.check_set_init_1 bW ?_)) fun aiE sQ IE=>?_
   .exact ik led
   ·cases aiE with
    |error e=>exact IE
    | ok abY =>
     cases abY with
     |ret r =>
      obtain⟨rfl,h',dP,rfl,uY,oD⟩:=IE
      repeat (any_goals (first|assumption|wp_step))
      exact h _ _ uY oD
     |_=>exact IE.elim
  |_=>exact au.elim
def TQ{l:ag}{items:Array ax}(fg:A.handled=aA)(aC:s.heap.IsList l items)(cV:∀(i:Nat)(v:ax),items[i]?=J v->∃t,v=.str (val i) t)(al:items.size+1<scanBound)(led:Bool):xU prog w A E s (.ref l) val items.size led:=by
 unfold xU;obtain⟨ol,m4,lU,nl,p0⟩:=aC;obtain⟨alA,afD,alB,afG⟩:=ol;simp only at lU p0;subst lU;subst p0;have c7:(s.heap.push (ll led)).get? s.heap.objs.size=J (ll led):=iw _ rfl;have adO:(s.heap.push (ll led)).get? l=J {cls :=.type "list",dict:=afD,data :=.seq items nl,slots:=afG}:=gZ _ m4;have adY:=F.sub_list_set;have adX:=F.sub_list_frozenset;have hB:(ax.type "list" == ax.type "dict")=aI:=by decide
 have mz:(s.heap.push (ll led)).IsList l items:=⟨_,adO,rfl,nl,rfl⟩;unfold dI.«set.__init__» noKeywords dI.Frozenset.updateFrom;generalize H3:pyIter=jV
 wp_walk
 subst H3;refine wpAny_pyIter_list mz ?_;refine cO (wpAny_runValue ?_);have OW:l<s.heap.objs.size:=fI m4;have DA:A.in1.in1.in1.handled=aA:=by simp[fg]
 have jQ:(s.heap.push (ll led)).objs.size=s.heap.objs.size+1:=bR.size_push ..;have zo:l≠(s.heap.push (ll led)).objs.size:=by rw[jQ];exact hU (Nat.lt_succ_of_lt OW)
 have wV:s.heap.objs.size∉[(s.heap.push (ll led)).objs.size,l]:=fun z=>by
  rw[jQ]at z;rcases dJ.mp z with y|y
  .exact absurd y (hU (Nat.lt_succ_self _))
  .exact absurd (eB.mp y) (Nat.ne_of_gt OW)
 refine L4 ((Walks.list DA _ l zo items).toS) s.heap.objs.size wV val cV al items.size 0 _ (by lia) (UF _) ⟨⟨_,iw _ I,I,I⟩,mz.push _⟩ ?_ ?_
 .exact PyProof.Rows.SetOf_congr ((PyProof.Rows.setObjOf_fresh (knd:=PySem.strKind prog w) led).setOf (gZ _ c7) (by unfold scanBound;lia)) (fun _=>I) I
 ·intro bw hm uY;obtain⟨h',g',d',JD,zQ⟩:=bw;have uT:g'=s.gens:=hm.gens;have jq:d'=s.drawn:=hm.drawn;have HF:zQ=s.os:=hm.os;subst uT;subst jq;subst HF;refine e3 ?_;refine e3 (a:=Fin.done (Flow.ret ax.none)) ⟨I,h',JD,I,uY,fun b o y3 e=>?_⟩;refine hm.heap b o (fun z=>?_) (gZ _ (gZ _ e));rcases dJ.mp z with y|y
  .exact absurd y (hU y3)
  ·rcases dJ.mp y with y|y
   .rw[jQ]at y;exact absurd y (hU (Nat.lt_succ_of_lt y3))
   .cases y
end
section
variable {prog:dR} {w:dd} {A:ee} {E:ax->aT->Prop} {s:aT}
noncomputable def signsOf(x:aa)(i:Nat):aa:=⟨#[x.cps.getD i 0]⟩
def TP{t:Tok}(fg:A.handled=aA)(al:x.cps.size+1<scanBound)(led:Bool):xU prog w A E s (.str x t) (signsOf x) x.cps.size led:=by
 unfold xU;have c7:(s.heap.push (ll led)).get? s.heap.objs.size=J (ll led):=iw _ rfl;have adY:=F.sub_str_set;have adX:=F.sub_str_frozenset;have hB:(ax.type "str" == ax.type "dict")=aI:=by decide
 unfold dI.«set.__init__» noKeywords dI.Frozenset.updateFrom;generalize H3:pyIter=jV
 wp_walk
 subst H3;have jQ:(s.heap.push (ll led)).objs.size=s.heap.objs.size+1:=bR.size_push ..;refine wpAny_pyIter_str (s:={s with heap:=s.heap.push (ll led)}) fun o St W Em=>?_;refine cO (wpAny_runValue ?_);have DA:A.in1.in1.in1.handled=aA:=by simp[fg]
 have wV:s.heap.objs.size∉[(s.heap.push (ll led)).objs.size]:=fun z=>by
  rw[jQ]at z;exact absurd (eB.mp z) (hU (Nat.lt_succ_self _))
 refine L4 ((W _ DA).toS) s.heap.objs.size wV (signsOf x) (fun i v cV=>?_) al x.cps.size 0 _ (by lia) (UF _) Em ?_ ?_
 ·obtain⟨c,u,hc,rfl⟩:=cV;refine⟨u,?_⟩;unfold signsOf;rw[Array.getD_eq_getD_getElem?,hc];rfl
 .exact PyProof.Rows.SetOf_congr ((PyProof.Rows.setObjOf_fresh (knd:=PySem.strKind prog w) led).setOf (gZ _ c7) (by unfold scanBound;lia)) (fun _=>I) I
 ·intro bw hm uY;obtain⟨h',g',d',JD,zQ⟩:=bw;have uT:g'=s.gens:=hm.gens;have jq:d'=s.drawn:=hm.drawn;have HF:zQ=s.os:=hm.os;subst uT;subst jq;subst HF;refine e3 ?_;refine e3 (a:=Fin.done (Flow.ret ax.none)) ⟨I,h',JD,I,uY,fun b o' y3 e=>?_⟩;refine hm.heap b o' (fun z=>?_) (gZ _ (gZ _ e));rcases dJ.mp z with y|y
  .exact absurd y (hU y3)
  ·have y:=eB.mp y;rw[jQ]at y;exact absurd y (hU (Nat.lt_succ_of_lt y3))
def aac{S:ag}(bW:pv prog w s.heap S val i)(h:Q (.int ((g8 val i).length:Nat) (s.toks+1)) {s with toks:=s.toks+1+1}):cc (model prog w) A (call (.builtin "len") [.ref S]) Q E s:=by
 obtain⟨o,aZ,hi,t,aK,hex,hd,_,_,al,aD,bj⟩:=bW;refine call_len_set aK hex hd aD (by unfold scanBound at al;lia) ?_;rw[bj];exact h
end
section
variable {X:bS} {bc p cS D2:Pos} {e:c3} {cT:TE}
def Fp(K:bT)(H:aq)(x:V)(val:Nat->aa)(n:Nat):Prop:=(∃a,x=.ref a/\c4 K H a ((List.range n).map fun i=>V.str (val i)))\/(∃z,x=.str z/\n=z.cps.size/\val=signsOf z)
def ai6(K:bT)(cT:TE):TE:=fun ab H Q=>cT ab H fun x H1=>∃val n,Fp K H1 x val n/\n+1<scanBound/\Q (.int ((g8 val n).length:Nat)) H1
def L9(e1:X.calm=ao)(adi:jU X "len")(vb:X.mg "len"=aA)(adj:jU X "set")(tL:X.mg "set"=aA)(he:cF X e cT)
  (eW:xv (eI [.Call (.Name "set" cS) [e] [] D2] X.env=[(aI,eval (.Call (.Name "set" cS) [e] [] D2) X.env)]) z0) (gd:xv (eI [e] X.env=[(aI,eval e X.env)]) z0) :
  cF X (.Call (.Name "len" p) [.Call (.Name "set" cS) [e] [] D2] [] bc) (ai6 X.K cT):=by
 intro ar s ab H Q ae h;refine vJ (pI ae adi vb ea ?_ (by decide) (by decide));refine PyProof.Rows.callWith_builtin1 ?_ (eW.trans I) I;rw[eW];show cc _ _ (spliced ((aI,eval (.Call (.Name "set" cS) [e] [] D2) X.env)::[])) _ _ s;refine Calls.spliced_cons (vJ (pI ae adj tL (by decide+kernel:kv "set"=J (.type "set")) ?_ (by decide) (by decide)));refine PyProof.Rows.callWith_type1 ?_ (gd.trans I) I;rw[gd];show cc _ _ (spliced ((aI,eval e X.env)::[])) _ _ s;refine Calls.spliced_cons (dg (he ar s ab H _ ae h) fun u s1 b3=>?_);obtain⟨x,H1,bC,b9,val,n,av,al,q⟩:=b3;refine Calls.spliced_nil ?_
 have dG:∀(h':bR)(dP:Nat),pv X.prog X.w h' s1.heap.objs.size val n->(∀b o,b<s1.heap.objs.size->s1.heap.get? b=J o->h'.get? b=J o)->cc (model X.prog X.w) X.A (spliced []) (fun vs eD=>cc (model X.prog X.w) X.A (call (.builtin "len") (.ref s1.heap.objs.size::vs)) (ja X ar ab Q) X.xe eD) X.xe {s1 with heap:=h',toks:=dP}:=fun h' dP bW hk=>by
  refine Calls.spliced_nil (aac (s:={s1 with heap:=h',toks:=dP}) bW ?_);exact⟨.int _,H1,bC.kept (h':=h') (t':=dP+1+1) fun b o eE=>hk b o (fI eE) eE,⟨_,I⟩,q⟩
 rcases av with⟨a,rfl,bl⟩|⟨z,rfl,rfl,rfl⟩
 ·obtain rfl:u=ax.ref a:=b9;obtain⟨aV,dK,pl,bX⟩:=bC.list bl;have c0:=dK.length;rw[cd,k8]at c0;have jQ:aV.toArray.size=n:=by rw[eg];lia
  refine LL (fun led=>?_) dG;have aG:=TQ (prog:=X.prog) (w:=X.w) (E:=X.xe) (val:=val) (bC.ok.hd e1) pl.isList (fun i v cV=>?_) (by rw[jQ];exact al) led
  .rw[jQ]at aG;exact aG
  ·have lj:aV[i]?=J v:=by simpa using cV
   have adn:i<n:=by rw[c0];exact(kE.mp lj).1
   obtain⟨u,cG,fo⟩:=dK.get (i:=i) (x :=.str (val i)) (by rw[eJ,List.getElem?_range adn];rfl);rw[lj]at cG;cases cG;exact fo
 ·obtain⟨t,rfl⟩:=b9;exact LL (fun led=>TP (bC.ok.hd e1) al led) dG
end
end c6
end
variable {X:List ag} {S:List Nat} {xi:List c6.V} {aW:ag} {v:c6.V}
section
namespace c6
open PySem PySem.W PySem.Spec PyProof.Rows
def Ua{Q:bI}{D:ag}(keep:Nat->Bool)(f:Nat->V)(S:St->Prop)(bX:x.cps.size<=cp)(bb:S fO)(b2:H D=aA)
  (aP:∀c,c∈x.cps.toList->∀b0 H1,S b0->et H H1->∀(R:St->V->aq->Prop)(uu:St->aq->Prop),(∀bD,S bD->if keep c=ao then R bD (f c) H1 else uu bD H1)->g (.str ⟨#[c]⟩) b0 H1 fun bD az=>hQ bD az fun b b5=>if b=ao then cT bD b5 fun y gW=>R bD y gW else uu bD b5)
  (bl:Q (.ref D) (upd H D (.lst ((x.cps.toList.filter keep).map f)))) :
  mK (vY x) g hQ cT Q fO H D:=by
 have bj:x.cps.toList.length=x.cps.size:=fA;refine⟨fun i m b0 az=>i<=x.cps.size/\m=x.cps.size-i/\S b0/\az=upd H D (.lst (((x.cps.toList.take i).filter keep).map f)),⟨x.cps.size,UF _,I,bb,I⟩,?_⟩;rintro i m b0 az ⟨ai,rfl,aj,rfl⟩;rcases h4 i x.cps.size with z|z
 ·refine .inr ⟨z,?_⟩;rintro y b5 ⟨rfl,c,hc,rfl⟩;have js:x.cps.toList[i]?=J c:=by rw[Array.getElem?_toList];exact hc
  refine aP c (jc js) b0 _ aj (cZ b2) (fun bD y ek=>∃aw b6,ek D=J (.lst aw)/\aw.length<cp/\b6<x.cps.size-i/\(i+1<=x.cps.size/\b6=x.cps.size-(i+1)/\S bD/\upd ek D (.lst (aw++[y]))=upd H D (.lst (((x.cps.toList.take (i+1)).filter keep).map f))))
   (fun bD d7=>∃b6,b6<x.cps.size-i/\(i+1<=x.cps.size/\b6=x.cps.size-(i+1)/\S bD/\d7=upd H D (.lst (((x.cps.toList.take (i+1)).filter keep).map f)))) fun bD gh=>?_
  have jM:x.cps.toList.take (i+1)=x.cps.toList.take i++[c]:=by rw[mf,js];rfl
  by_cases hk:keep c=ao
  ·rw[if_pos hk];refine⟨_,x.cps.size-(i+1),aB,?_,by lia,by lia,rfl,gh,?_⟩
   ·rw[cd];have:=List.length_filter_le keep (x.cps.toList.take i);rw[kg]at this;lia
   .rw[eS,jM,List.filter_append,fR,List.filter_cons_of_pos hk];rfl
  ·rw[if_neg hk];refine⟨x.cps.size-(i+1),by lia,by lia,rfl,gh,?_⟩;rw[jM,List.filter_append,fR,List.filter_cons_of_neg hk];simp
 ·have e:i=x.cps.size:=by lia
  subst e;rw[UV (by lia)];exact .inl ⟨cR _,bl⟩
def MZ{Q:bI}{D:ag}(f:Nat->V)(S:St->Prop)(bX:x.cps.size<=cp)(bb:S fO)(b2:H D=aA)
  (aP:∀c,c∈x.cps.toList->∀b0 H1,S b0->et H H1->∀R:St->V->aq->Prop,(∀bD,S bD->R bD (f c) H1)->g (.str ⟨#[c]⟩) b0 H1 fun bD az=>cT bD az fun y gW=>R bD y gW)
  (bl:Q (.ref D) (upd H D (.lst (x.cps.toList.map f)))) :
  mK (vY x) g oX cT Q fO H D:=by
 refine Ua (fun _=>ao) f S bX bb b2 (fun c hc b0 H1 c7 hs R uu cL=>?_) (by rw[List.filter_eq_self.mpr fun _ _=>rfl];exact bl);exact aP c hc b0 H1 c7 hs R fun bD aj=>by have:=cL bD aj;rwa [if_pos rfl]at this
structure Ext(H H':aq):Prop where
 s:et H H'
 c:lA H->lA H'
theorem Ext.refl(H:aq):Ext H H:=⟨et.refl _,id⟩
variable {A B C:aq}
theorem Ext.trans(a:Ext A B)(b:Ext B C):Ext A C:=⟨a.s.trans b.s,fun z=>b.c (a.c z)⟩
def Ext.new(h:H p=aA)(aK:mO (upd H p o) p o):Ext H (upd H p o):=⟨cZ h,fun c=>uq c h aK⟩
theorem Ext.lst(h:H p=aA):Ext H (upd H p (.lst xs)) :=.new h trivial
theorem Ext.tup(h:H p=aA):Ext H (upd H p (.tup xs)) :=.new h trivial
def Ext.made{x C:ag}{fs:List (aa×V)}(ai:H x=aA)(aj:H ah=aA)(bt:ah≠x):Ext H (upd (upd H ah (.own x)) x (.ins C ah fs)):=by
 have av:upd H ah (.own x) x=aA:=by rw[bx (fJ bt)];exact ai
 refine⟨(cZ aj).trans (cZ av),fun c=>uq (uq c aj trivial) av ?_⟩;show upd (upd H ah (.own x)) x (.ins C ah fs) ah=J (.own x);rw[bx bt];exact aB
def Ext.sub(e:Ext H H'):Sub H H' H' :=.all (fun b o h=>⟨o,e.s b o h⟩) e.c
def vZ{i:Int}(hk:1<=k)(h:i.natAbs<10^k):(aa.ofString (toString i)).length<=k+1:=by
 rw[aa.ofString_eq_toList];show((toString i).toList.map Char.toNat).toArray.size<=_;rw[eg,cd];cases i with
 |ofNat m =>
  show(Nat.repr m).toList.length<=_;rw[Nat.toList_repr];have:=PyProof.Rows.digits10_le hk (show m<10^k from h);lia
 |negSucc m =>
  show("-"++Nat.repr (m+1)).toList.length<=_;rw[String.toList_append,bE,Nat.toList_repr];have:=PyProof.Rows.digits10_le hk (show m+1<10^k from h);show 1+_<=_;lia
def fS(x y:aa):(x++y).cps.toList=x.cps.toList++y.cps.toList:=Array.toList_append
def el(x y:aa):(x++y).length=x.length+y.length:=Array.size_append
structure lD(n:Nat)(S:List Nat)(x:aa):Prop where
 n:x.length<=n
 s:∀c,c∈x.cps.toList->c∈S
def lD.app(h:lD n S x)(h':lD m S y):lD (n+m) S (x++y):=⟨by rw[el];have:=h.n;have:=h'.n;lia,fun c hc=>by
 rw[fS]at hc
 exact(List.mem_append.mp hc).elim (h.s c) (h'.s c)⟩
def lD.one(h:c∈S):lD 1 S ⟨#[c]⟩:=⟨cR _,fun d hd=>by rw[eB.mp hd];exact h⟩
theorem lD.slice(h:lD n S x)(lo aG:Option Int):lD n S (Txt.slice x lo aG):=by
 have e:=fk.yg x lo aG;refine⟨?_,fun c hc=>h.s c ?_⟩
 ·have aR:=congrArg List.length e;rw[kg,lF]at aR;have gn:(Txt.slice x lo aG).cps.toList.length=(Txt.slice x lo aG).length:=fA;have lN:x.cps.toList.length=x.length:=fA;have:=h.n;lia
 ·rw[e]at hc;exact List.mem_of_mem_drop (List.mem_of_mem_take hc)
def Lo(x:aa)(k:Nat)(h:k<=x.length):(Txt.slice x aA (J (k:Int))).length=k:=by
 have aR:=congrArg List.length (fk.yg x aA (J (k:Int)));rw[dU.tZ,dU.P2,List.drop_zero,kg]at aR;have gn:(Txt.slice x aA (J (k:Int))).cps.toList.length=(Txt.slice x aA (J (k:Int))).length:=fA;have lN:x.cps.toList.length=x.length:=fA;lia
def XR(x:aa)(k:Nat)(h:k<=x.length):(Txt.slice x (J (k:Int)) aA).length=x.length-k:=by
 have aR:=congrArg List.length (fk.yg x (J (k:Int)) aA);rw[dU.tZ,dU.P2,kg,lF]at aR;have gn:(Txt.slice x (J (k:Int)) aA).cps.toList.length=(Txt.slice x (J (k:Int)) aA).length:=fA;have lN:x.cps.toList.length=x.length:=fA;lia
def NH(h:k<x.length):∃c,c∈x.cps.toList/\e9 x.cps.toList ((k:Nat):Int)=J c:=by
 have h':k<x.cps.toList.length:=by rw[fA];exact h
 exact⟨x.cps.toList[k],List.getElem_mem h',dF (cw h')⟩
noncomputable def C6(ns:List aa):Nat:=(g8 (fun i=>ns.getD i aa.empty) ns.length).length
noncomputable def C7(s:aa):Nat:=(g8 (signsOf s) s.cps.size).length
def Wt(ns:List aa):C6 ns<=ns.length:=yt ..
def Ws(s:aa):C7 s<=s.length:=yt ..
def B7(ns:List aa):((List.range ns.length).map fun i=>V.str (ns.getD i aa.empty))=ns.map V.str:=by
 apply List.ext_getElem
 .rw[cd,k8,cd]
 ·intro i ai aj;rw[cd]at aj;rw[lG,lG,List.getElem_range,eR,cw aj];rfl
def Zs(h:c4 K H a (ns.map V.str)):Fp K H (.ref a) (fun i=>ns.getD i aa.empty) ns.length :=.inl ⟨a,rfl,by rw[B7];exact h⟩
def ZT(s:aa):Fp K H (.str s) (signsOf s) s.cps.size :=.inr ⟨s,rfl,rfl,rfl⟩
noncomputable def fy:aa:="abcdefghijklmnopqrstuvwxyz"
noncomputable def mL:aa:="abcdefghijklmnopqrstuvwxyzABCDEFGHIJKLMNOPQRSTUVWXYZ0123456789"
noncomputable def hM(t s:aa):Bool:=t.cps.toList.all fun c=>decide (c∈s.cps.toList)
def Ho:fy.length=26:=⋯
noncomputable def qY(s:aa):Bool:=decide (s.length≠0/\s.length<=60/\C7 s=s.length)&&hM s mL
noncomputable def isName(n:aa):Bool:=decide (0<n.length/\n.length<=12)&&hM n fy
noncomputable def iQ(ns:List aa):Bool:=decide (ns.length≠0/\ns.length<=20/\C6 ns=ns.length)&&ns.all isName
def yi{i:Int}(h:i.natAbs<10^60):i.natAbs.log2<1920:=by
 by_cases z:i.natAbs=0
 .rw[z];decide
 ·rw[Nat.log2_lt z];exact Nat.lt_trans h ⋯
def Hb(s:aa):s=aa.ofString ""↔s.length=0:=by
 have e:aa.ofString ""=⟨#[]⟩:=⋯;rw[e];constructor
 .rintro rfl;rfl
 ·intro h;obtain⟨c⟩:=s;have:c=#[]:=Array.eq_empty_of_size_eq_zero h;rw[this]
def oc{b:ag}{x y:de}(h:a≠b):upd (upd H a x) b y=upd (upd H b y) a x:=by
 funext c;by_cases ai:c=b
 ·subst ai;rw[aB,bx (fJ h),aB]
 ·rw[bx ai];by_cases aj:c=a
  ·subst aj;rw[aB,aB]
  .rw[bx aj,bx aj,bx ai]
variable {l:List V}
def ur{D:ag}(h:H D=J (.lst l))(c:lA H):lA (upd H D (.lst xi)):=fun b u e=>by
 by_cases z:b=D
 .subst z;rw[aB]at e;cases e;trivial
 ·rw[bx z]at e;have dV:=c b u e;clear e
  induction u with
  |ins C ah fs =>
   have gx:H ah=J (.own b):=dV;show upd H D (.lst xi) ah=J (.own b);rw[bx fun z=>by rw[z,h]at gx;cases gx];exact gx
  |j0 eG u bP=>exact bP dV
  |_=>trivial
def Ext.set{D:ag}(bb:H D=aA)(e:Ext H H')(h:H' D=J (.lst l)):Ext H (upd H' D (.lst xi)) :=
 ⟨fun b u q=>by rw[bx (hz q bb)];exact e.s b u q,fun c=>ur h (e.c c)⟩
def VP(h:k<n):qb n ((k:Nat):Int)=J k:=by
 have:e9 (List.range n) ((k:Nat):Int)=J k:=dF (by rw[List.getElem?_range h]);unfold e9 at this;rw[k8]at this;cases av:qb n ((k:Nat):Int)with
 |none=>rw[av]at this;cases this
 |some j =>
  rw[av,Option.bind_some]at this;rw[kE]at this;obtain⟨_,z⟩:=this;rw[List.getElem_range]at z;rw[z]
theorem G3(val:Nat->aa):∀n k,k∈g8 val n->∃i,i<n/\k=val i
 |0,k,h=>by cases h
 | n+1,k,h=>by
  unfold g8 at h;by_cases z:val n∈g8 val n
  ·rw[if_pos z]at h;obtain⟨i,aG,e⟩:=G3 val n k h;exact⟨i,by lia,e⟩
  ·rw[if_neg z]at h;rcases List.mem_append.mp h with y|y
   ·obtain⟨i,aG,e⟩:=G3 val n k y;exact⟨i,by lia,e⟩
   .exact⟨n,Nat.lt_succ_self _,eB.mp y⟩
theorem G4(val:Nat->aa):∀n,(∀i j,i<n->j<n->val i=val j->i=j)->(g8 val n).length=n
 |0,_=>rfl
 | n+1,h=>by
  unfold g8
  have z:val n∉g8 val n:=fun z=>by
   obtain⟨i,aG,e⟩:=G3 val n _ z;have:=h n i (Nat.lt_succ_self _) (by lia) e;lia
  rw[if_neg z,bE,G4 val n fun i j aG cj e=>h i j (by lia) (by lia) e];rfl
def T3{s:aa}(h:s.cps.toList.Nodup):C7 s=s.length:=by
 refine G4 _ _ fun i j aG cj e=>?_;unfold signsOf at e;injection e with e;have e:=congrArg (fun a=>a[0]?) e;simp only[List.getElem?_toArray,List.getElem?_cons_zero,Option.some.injEq]at e;have u6:i<s.cps.toList.length:=by rw[fA];exact aG
 have OP:j<s.cps.toList.length:=by rw[fA];exact cj
 have g:∀k(hk:k<s.cps.toList.length),s.cps.getD k 0=s.cps.toList[k]:=fun k hk=>by
  rw[Array.getD_eq_getD_getElem?,<-Array.getElem?_toList,cw hk];rfl
 rw[g i u6,g j OP]at e;exact(List.getElem_inj h).mp e
def T4(h:ns.Nodup):C6 ns=ns.length:=by
 refine G4 _ _ fun i j aG cj e=>?_
 have g:∀k(hk:k<ns.length),ns.getD k aa.empty=ns[k]:=fun k hk=>by
  rw[eR,cw hk];rfl
 rw[g i aG,g j cj]at e;exact(List.getElem_inj h).mp e
def Um:fy.cps.toList.Nodup:=⋯
def Mi{n:aa}(h:lD 12 fy.cps.toList n)(bb:0<n.length):isName n=ao:=by
 unfold isName;rw[eK ⟨bb,h.n⟩,Bool.true_and];unfold hM;rw[hy];exact fun c hc=>eK (h.s c hc)
def Zm(bb:ns.length≠0)(ai:ns.length<=20)(bj:ns.Nodup)(hs:∀n,n∈ns->isName n=ao):iQ ns=ao:=by
 unfold iQ;rw[eK ⟨bb,ai,T4 bj⟩,Bool.true_and,hy];exact hs
def aad{n:aa}(h:isName n=ao):n.length<=12:=by
 unfold isName at h;simp only[ix,k6]at h;exact h.1.2
def jf(h:iQ ns=ao):ns.length<=20/\∀n,n∈ns->n.length<=12:=by
 unfold iQ at h;simp only[ix,k6,hy]at h;exact⟨h.1.2.1,fun n bj=>aad (h.2 n bj)⟩
structure gz(p:ag)(H H':aq):Prop where
 k:∀b u,b≠p->H b=J u->H' b=J u
 l:∃ns:List Int,H' p=J (.lst (ns.map V.int))/\ns.length<=90
 c:lA H->lA H'
def Fh(p:ag)(H:aq):Prop:=∃ns:List Int,H p=J (.lst (ns.map V.int))/\ns.length<=90
def gz.refl(h:Fh p H):gz p H H:=⟨fun _ _ _ e=>e,h,id⟩
def gz.trans(a:gz p A B)(b:gz p B C):gz p A C:=⟨fun x u n e=>b.k x u n (a.k x u n e),b.l,fun c=>b.c (a.c c)⟩
def gz.ext(a:gz p A B)(b:Ext B C):gz p A C:=by
 obtain⟨ns,h,bj⟩:=a.l;exact⟨fun x u n e=>b.s x u (a.k x u n e),⟨ns,b.s _ _ h,bj⟩,fun c=>b.c (a.c c)⟩
def gz.pop{ns:List Int}(h:Fh p H)(bj:ns.length<=90):gz p H (upd H p (.lst (ns.map V.int))):=by
 obtain⟨ms,e,_⟩:=h;exact⟨fun b u nb q=>by rw[bx nb];exact q,⟨ns,aB,bj⟩,fun c=>ur e c⟩
def gz.sub(h:gz p H H'):Sub H H' H' :=.all (fun b o e=>by
 by_cases z:b=p
 ·subst z;obtain⟨ns,e,_⟩:=h.l;exact⟨_,e⟩
 .exact⟨o,h.k b o z e⟩) h.c
def gz.free{b:ag}(h:gz p H H')(e:H' b=aA):H b=aA:=by
 cases z:H b with
 |none=>rfl
 | some u =>
  by_cases y:b=p
  ·subst y;obtain⟨ns,q,_⟩:=h.l;rw[e]at q;cases q
  .rw[h.k b u y z]at e;cases e
def bf.none{st:bo}{f:ag}{sp:cH}(F:dB K mg x st aJ f fd)(h:∀vs H Q E,¬sp vs H Q E):bf P w K mg zn k x aJ sp :=
 ⟨f,fd,⟨fun vs H Q E q=>absurd q (h _ _ _ _),fun A outer s H args us vs Q E _ _ _ _ q=>absurd q (h _ _ _ _)⟩,F.2.1,F.1.dz,F.2.2⟩
def gz.set{l:ag}(g:gz p H H')(bb:H l=aA)(h:H' l=J (.lst xs))(aC:l≠p):gz p H (upd H' l (.lst aw)):=by
 obtain⟨ns,e,bj⟩:=g.l;exact⟨fun b u nb q=>by rw[bx (hz q bb)];exact g.k b u nb q,⟨ns,by rw[bx (fJ aC)];exact e,bj⟩,fun c=>ur h (g.c c)⟩
def gz.ne{l:ag}(g:gz p H H')(h:H' l=aA):l≠p:=fun z=>by
 obtain⟨ns,e,_⟩:=g.l;rw[z,e]at h;cases h
section
variable {X:bS}
def YP:sZ X "str.startswith" (fun x xs H Q=>∃(y z:aa)(k:Nat),x=.str y/\xs=[.str z,.int ((k:Nat):Int)]/\k<=y.length/\Q (.aS (decide (z.cps.toList <+: y.cps.toList.drop k))) H):=by
 intro ar s ab H x xs v us Q ae bH dK h;obtain⟨y,z,k,rfl,rfl,hk,q⟩:=h;obtain⟨t,rfl⟩:=bH;obtain⟨ir,ed,rfl,⟨t1,rfl⟩,⟨f6,rfl⟩⟩:=vals2 dK;refine SC.startswith3 ?_
 have e:Txt.startswith3 y z ((k:Nat):Int)=decide (z.cps.toList <+: y.cps.toList.drop k):=by
  unfold Txt.startswith3
  have De:fromIndex y.length ((k:Nat):Int)=k:=by
   unfold fromIndex;rw[if_neg (by lia)];lia
  have fc:y.cps.toList.length=y.length:=fA;have wL:z.cps.toList.length=z.length:=fA;rw[De,StrLaws.subAt_eq,Bool.eq_iff_iff,k6,ix,k6,beq_iff_eq,List.prefix_iff_eq_take,wL];constructor
  .intro ⟨_,h⟩;exact h.symm
  ·intro h;refine⟨?_,h.symm⟩;have:=congrArg List.length h;rw[kg,lF,fc,wL]at this;lia
 rw[e];exact⟨.aS _,H,ae,I,q⟩
def TL:sZ X "str.index" (fun x xs H Q=>∃(y:aa)(c:Nat),x=.str y/\xs=[.str ⟨#[c]⟩]/\c∈y.cps.toList/\∀i:Nat,Q (.int ((i:Nat):Int)) H):=by
 intro ar s ab H x xs v us Q ae bH dK h;obtain⟨y,c,rfl,rfl,hc,q⟩:=h;obtain⟨t,rfl⟩:=bH;obtain⟨u,rfl,t',rfl⟩:=dK.one;have e:=StrLaws.found_one y c;rw[eK hc]at e;cases aK:dI.Str.occurrences y ⟨#[c]⟩ 0 y.length 1 with
 |nil=>rw[aK]at e;cases e
 |cons i rest =>
  exact call_gives F.slot_str_index (typeIs_str s y t) F.entry_str_index (F.args_str_index_2 _ _) (gives_str_index y ⟨#[c]⟩ t t' i rest aK) ⟨.int _,H,ae.tok _,⟨_,I⟩,q i⟩
noncomputable def ais:V->List V->aq->bI->Prop:=fun x vs H Q=>∃(l:ag)(ws:List aa)(w:aa)(k:Nat),x=.ref l/\vs=[.str w]/\H l=J (.lst (ws.map V.str))/\ws[k]?=J w/\(∀j,j<k->ws[j]?≠J w)/\ws.length<100000/\Q (.int ((k:Nat):Int)) H
def wi:sZ X "list.index" ais:=by
 intro ar s ab H x vs v us Q ae bH dK h;obtain⟨l,ws,w,k,rfl,rfl,iR,hk,w8,bX,q⟩:=h;cases bH;obtain⟨ir,rfl,⟨t,rfl⟩⟩:=vals1 dK;obtain⟨z,aV,n,oT,aC,e⟩:=ae.oK iR;have c0:=oT.length;rw[cd]at c0;have akY:k<ws.length:=(kE.mp hk).1
 have jO:∀(j:Nat)(cj:j<aV.length),∃t',aV[j] =.str (ws[j]'(by lia)) t':=fun j cj=>by
  obtain⟨u,cG,fo⟩:=oT.get (i:=j) (x :=.str (ws[j]'(by lia))) (by rw[eJ,cw (by lia)];rfl);rw[cw cj]at cG;obtain⟨t',ad0⟩:=(show ∃t,u=ax.str _ t from fo);exact⟨t',by rw[<-ad0];exact ie cG⟩
 let qT:ax->Bool:=fun y=>match y with|.str a _=>decide (a=w)|_=>aI
 have he:∀y,y∈aV.toArray->MeetsSeq.EqGives y (.str w t) (qT y):=fun y ba=>by
  obtain⟨j,cj,rfl⟩:=List.mem_iff_getElem.mp (List.mem_toArray.mp ba);obtain⟨t',e'⟩:=jO j cj;rw[e'];exact VU _ _ _ _
 have tH:qT (aV.toArray[k]'(by rw[eg];lia))=ao:=by
  obtain⟨t',e'⟩:=jO k (by lia);rw[List.getElem_toArray,e'];have:=(kE.mp hk).2;show decide (_=_)=ao;rw[this];exact eK I
 have adH:∀m(hm:m<aV.toArray.size),m<k->qT aV.toArray[m]=aI:=fun m hm adC=>by
  rw[eg]at hm;obtain⟨t',e'⟩:=jO m hm;rw[List.getElem_toArray,e'];show decide (_=_)=aI;refine e8 fun z=>w8 m adC ?_;rw[cw (by lia),z]
 refine call_meets F.slot_list_index ⟨_,e,I⟩ F.entry_list_index (F.args_list_index_2 _ _) (MeetsSeq.list_index l aV.toArray n (.str w t) qT he k (by rw[eg];lia) (by lia) tH adH) ⟨e,?_⟩;exact⟨.int _,H,ae.tok _,⟨_,I⟩,q⟩
def air:iK:=fun x y H Q=>∃(l b:ag)(xs:List V),x=.ref l/\y=.ref b/\H l=J (.lst xs)/\H b=J (.lst [])/\Q (.aS (decide (xs.length=0))) H
def UH(cG:X.A.units+64<cLine):ef X (h3 .Eq) air:=by
 intro ar s ab H x y v u Q ae bH cX h;obtain⟨l,b,xs,rfl,rfl,ai,aj,q⟩:=h;cases bH;cases cX;obtain⟨_,aV,n,r,_,e⟩:=ae.oK ai;obtain⟨_,Ph,m,ej,_,f⟩:=ae.oK aj;have aC:=r.length;have gE:=ej.length;have cj:Ph.length=0:=by rw[<-gE];rfl
 by_cases z:xs.length=0
 ·rw[eK z]at q;refine SeqAt.eq_listAt (e:=fun _=>ao) ⟨_,e,I,n,I⟩ ⟨_,f,I,m,I⟩ (by rw[eg,eg];lia) (by lia) (fun j ai aj=>?_) ?_
  .rw[eg]at aj;lia
  ·rw[eg,show aV.length=0 by lia];exact⟨.aS _,H,ae,I,q⟩
 ·rw[e8 z]at q;refine SeqAt.eq_list_lengthsAt (items:=aV.toArray) (items2:=Ph.toArray) ⟨_,e,I,n,I⟩ ⟨_,f,I,m,I⟩ ?_ (by lia) ⟨.aS _,H,ae,I,q⟩;rw[eg,eg,cj];simp only[bne_iff_ne,ne_eq];lia
noncomputable def zO(cG:X.A.units+64<cLine):=ef.or (DY (X:=X) cG) (UH cG)
end
inductive aU where
 |bare (k:Fin 4)
 |sp (a b:Int)
 |le (s:aa)
 |one (k:Fin 3) (f:aU)
 |two (k:Fin 2) (ns:List aa) (fs:List aU)
noncomputable def bN(s:String):List Nat:=(aa.ofString s).cps.toList
noncomputable def num(a:Int):List Nat:=(aa.ofString (toString a)).cps.toList
noncomputable def eT(k:Fin 4):aa:=[aa.ofString "nothing",aa.ofString "truth",aa.ofString "whole",aa.ofString "fraction"][k]
noncomputable def dV(k:Fin 3):aa:=[aa.ofString "maybe",aa.ofString "many",aa.ofString "turned"][k]
noncomputable def ez(k:Fin 2):aa:=[aa.ofString "record",aa.ofString "choice"][k]
mutual
noncomputable def bq:aU->List Nat
 |.bare k=>(eT k).cps.toList
 |.sp a b=>bN "span"++(bN "("++((num a++(bN ", "++num b))++bN ")"))
 |.le s=>bN "letters"++(bN "("++(s.cps.toList++bN ")"))
 |.one k f=>(dV k).cps.toList++(bN "("++(bq f++bN ")"))
 |.two k ns fs=>(ez k).cps.toList++(bN "("++(fi fs ns++bN ")"))
noncomputable def fi:List aU->List aa->List Nat
 |[],_=>[]
 |f::fs,ns=>(ns.headD aa.empty).cps.toList++(bN " "++(bq f++(match fs with|[]=>[]|_::_=>bN ", "++fi fs ns.tail)))
end
mutual
noncomputable def aP:aU->Nat
 |.bare _=>1
 |.sp _ _=>1
 |.le _=>1
 |.one _ f=>aP f+1
 |.two _ _ fs=>dv fs+1
noncomputable def dv:List aU->Nat
 |[]=>0
 |f::fs=>max (aP f) (dv fs)
end
mutual
noncomputable def fE:aU->Prop
 |.bare _=>True
 |.sp a b=>a<=b/\a.natAbs<10^58/\b.natAbs<10^58
 |.le s=>qY s=ao/\s.length<=60
 |.one _ f=>fE f
 |.two _ ns fs=>iQ ns=ao/\ns.length=fs.length/\lp fs
noncomputable def lp:List aU->Prop
 |[]=>True
 |f::fs=>fE f/\lp fs
end
structure c9 where
 b:Fin 4->ag
 s:ag
 l:ag
 o:Fin 3->ag
 t:Fin 2->ag
mutual
noncomputable def bG(c:c9)(X:List ag)(H:aq):aU->ag->Prop
 |.bare k,o=>o∉X/\∃ah,H o=J (.ins (c.b k) ah [])
 |.sp a b,o=>o∉X/\∃ah,H o=J (.ins c.s ah [("low",.int a),("high",.int b)])
 |.le s,o=>o∉X/\∃ah,H o=J (.ins c.l ah [("signs",.str s)])
 |.one k f,o=>o∉X/\∃ah i,H o=J (.ins (c.o k) ah [("inner",.ref i)])/\bG c X H f i
 |.two k ns fs,o=>o∉X/\∃ah bJ bZ os,H o=J (.ins (c.t k) ah [("names",.ref bJ),("forms",.ref bZ)])/\bJ∉X/\bZ∉X/\H bJ=J (.lst (ns.map V.str))/\H bZ=J (.lst (os.map V.ref))/\d0 c X H fs os
noncomputable def d0(c:c9)(X:List ag)(H:aq):List aU->List ag->Prop
 |[],os=>os=[]
 |f::fs,os=>∃o r,os=o::r/\bG c X H f o/\d0 c X H fs r
end
def eZ(P:dR)(w:dd)(K:bT)(mg:aa->Option ax)(zn:bR)(k:Nat)(m:aa)(aJ:List aa){sT:Type}(cl:sT->ag)(sp:sT->cH):Prop:=∀i,fp P w K mg zn k (cl i) m aJ (sp i)/\e7 K (cl i)
section
variable {X:bS} {k hC:Nat} {m:aa} {aJ:List aa} {sT:Type} {cl:sT->ag} {sp:sT->cH} {e o:c3} {aZ:List c3} {t:iL} {cN:TE} {bc apos:Pos}
inductive Fb{sT:Type}(cl:sT->ag)(m:aa)(x:V)(H:aq)(R:sT->Prop):Prop where
 |mk (a:ag) (i:sT) (ah:ag) (fs:List (aa×V)) (e:x=.ref a) (h:H a=J (.ins (cl i) ah fs)) (l:fs.lookup m=aA) (q:R i):Fb cl m x H R
def gB(h:eZ X.prog X.w X.K X.mg X.zn k m aJ cl sp)(au:gM hC X.A)(he:cF X o cN)(aN:jl X (e::aZ) t)(hk:xv (k<=hC) rrr)
  (vc:xv (eI (e::aZ) X.env=(aI,eval e X.env)::eI aZ X.env) z0) (hn:xv ((backTo bc (eI aZ X.env)).any (·.1)=aI) z0)
  (aP:xv (eval (.Call (.Attribute o m apos) (e::aZ) [] bc) X.env=(do
   let hN <-eval o X.env
   standAt apos.atName
   let (f,first) <-holding [hN] (getMethod hN m pl)
   callWith bc f first (backTo bc (eI (e::aZ) X.env)) (backToKw bc (vI [] X.env)))) z0) :
  cF X (.Call (.Attribute o m apos) (e::aZ) [] bc) (fun ab H Q=>cN ab H fun x H1=>Fb cl m x H1 fun i=>t ab H1 fun vs az=>sp i (x::vs) az Q iI):=by
 intro ar s ab H Q ae bl;refine JS (pl:=pl) (dg (he ar s ab H _ ae bl) fun u s1 b3=>?_) aP;obtain⟨x,H1,bC,bH,a,i,ah,fs,ex,cD,l,q⟩:=b3;subst ex;obtain rfl:u=ax.ref a:=bH;obtain⟨⟨f,fd,F,al,hm⟩,c⟩:=h i;refine Cj bC cD c hm l ?_;refine JO (first:=[.ref a]) (h₀:=X.zn) ae.ok.mod.xf hm.dz (dg (aN bc ar s1 ab H1 _ bC q) fun us s2 b3=>?_) vc hn;obtain⟨vs,az,cW,r,b8⟩:=b3;refine ⟨cW.h2,?_⟩;exact yC (us :=.ref a::us) (vs :=.ref a::vs) (dvs:=[]) (ds:=[]) F (au.mono hk) al .nil xq cW (.cons I r) (by rw[List.append_nil];exact b8)
def qL(h:eZ X.prog X.w X.K X.mg X.zn k m aJ cl sp)(au:gM hC X.A)(he:cF X o cN)(hk:xv (k<=hC) rrr)
  (aP:xv (eval (.Call (.Attribute o m apos) [] [] bc) X.env=(do
   let hN <-eval o X.env
   standAt apos.atName
   let (f,first) <-holding [hN] (getMethod hN m pl)
   callWith bc f first (backTo bc (eI [] X.env)) (backToKw bc (vI [] X.env)))) z0) :
  cF X (.Call (.Attribute o m apos) [] [] bc) (fun ab H Q=>cN ab H fun x H1=>Fb cl m x H1 fun i=>sp i [x] H1 Q iI):=by
 intro ar s ab H Q ae bl;refine JS (pl:=pl) (dg (he ar s ab H _ ae bl) fun u s1 b3=>?_) aP;obtain⟨x,H1,bC,bH,a,i,ah,fs,ex,cD,l,q⟩:=b3;subst ex;obtain rfl:u=ax.ref a:=bH;obtain⟨⟨f,fd,F,al,hm⟩,c⟩:=h i;refine Cj bC cD c hm l ?_;exact PySem.W.callWith_K0 (first:=[.ref a]) bC.h2 hm.dz (yC (us:=[.ref a]) (vs:=[.ref a]) (dvs:=[]) (ds:=[]) F (au.mono hk) al .nil xq bC (.cons I .nil) (by rw[List.append_nil];exact q))
end
def VJ(m:Nat):num ((m:Nat):Int)=(Nat.toDigits 10 m).map Char.toNat:=KIN.signs_num m
def VI(m:Nat):num (-((m+1:Nat):Int))=45::(Nat.toDigits 10 (m+1)).map Char.toNat:=by
 have e : -((m+1:Nat):Int)=Int.negSucc m:=rfl;rw[e];unfold num;rw[aa.ofString_eq_toList];show((("-"++Nat.repr (m+1)).toList.map Char.toNat))=_;rw[String.toList_append,fR,Nat.toList_repr];rfl
noncomputable def fL(m:Nat):List Nat:=(Nat.toDigits 10 m).map Char.toNat
def G8(h:m<10^58):(fL m).length<=58:=by unfold fL;rw[cd];exact PyProof.Rows.digits10_le (by decide) h
def yv(m:Nat):fL m≠[]:=fun e=>by
 have h:=PyProof.Rows.tDigits_len_ge 10 m;unfold fL at e;rw[List.map_eq_nil_iff.mp e]at h;exact absurd h (by decide)
def CL(m:Nat):NumText.AllDigits (fL m):=fun c hc=>by
 obtain⟨ch,m3,e⟩:=List.mem_map.mp hc;have r:=PyProof.Rows.digit_range (Nat.isDigit_of_mem_toDigits (by decide) (by decide) m3);rw[<-e];exact r
def T1(h:10<=m):fL m=fL (m/10)++fL (m%10):=by
 unfold fL;rw[<-fR,Nat.toDigits_append_toDigits (by decide) (by lia) (Nat.mod_lt _ (by decide)),Nat.div_add_mod]
def Mo:∀m:Nat,m≠0->(fL m).head?≠J 48:=by
 intro m
 induction m using Nat.strongRecOn with
 | _ m bP =>
  intro bb;by_cases h:m<10
  ·have:∀k:Fin 10,k.val≠0->(fL k.val).head?≠J 48:=⋯;exact this ⟨m,h⟩ bb
  ·rw[T1 (by lia)];have:=bP (m/10) (by lia) (by lia);cases e:fL (m/10)with
   |nil=>exact absurd e (yv _)
   |cons c r=>rw[e]at this;exact this
def TZ:fL 0=[48]:=⋯
def G9(h:m<10^58):PySem.intText? ⟨(fL m).toArray⟩=J ((m:Nat):Int):=by
 have e:=PySem.intText_digits (x:=⟨(fL m).toArray⟩) (CL m) (yv m) (c5 (G8 h) (by decide));rw[e];show J (((NumText.digitsVal (fL m):Nat)):Int)=_;unfold fL;rw[KIN.val_back]
structure cY(aW:ag)(H H':aq):Prop where
 k:∀b u,b≠aW->H b=J u->H' b=J u
 c:lA H->lA H'
def cY.refl(aW:ag)(H:aq):cY aW H H:=⟨fun _ _ _ e=>e,id⟩
def cY.trans(a:cY aW A B)(b:cY aW B C):cY aW A C:=⟨fun x u n e=>b.k x u n (a.k x u n e),fun c=>b.c (a.c c)⟩
def cY.ext(a:cY aW A B)(b:Ext B C):cY aW A C:=⟨fun x u n e=>b.s x u (a.k x u n e),fun c=>b.c (a.c c)⟩
def cY.move{C:ag}{fs:List (aa×V)}(h:H aW=J (.ins C ah fs)):cY aW H (upd H aW (.ins C ah fs')) :=
 ⟨fun b u nb e=>by rw[bx nb];exact e,(Sub.ins (H':=upd H aW (.ins C ah fs')) h (fun b u nb e=>by rw[bx nb];exact e) aB).cl⟩
def cY.sub(h:cY aW H H')(e:H' aW=J o):Sub H H' H' :=.all (fun b u q=>by
 by_cases z:b=aW
 .subst z;exact⟨_,e⟩
 .exact⟨u,h.k b u z q⟩) h.c
def cY.free{b:ag}(h:cY aW H H')(e:H' aW=J o)(q:H' b=aA):H b=aA:=by
 cases z:H b with
 |none=>rfl
 |some u =>
  by_cases y:b=aW
  .subst y;rw[e]at q;cases q
  .rw[h.k b u y z]at q;cases q
mutual
theorem bG.keep{c:c9}{X:List ag}{H H':aq}(k:∀b u,b∉X->H b=J u->H' b=J u):∀(f:aU){o:ag},bG c X H f o->bG c X H' f o
 |.bare i,o,h=>by
  obtain⟨n,ah,e⟩:=h;exact⟨n,ah,k _ _ n e⟩
 |.sp a b,o,h=>by
  obtain⟨n,ah,e⟩:=h;exact⟨n,ah,k _ _ n e⟩
 |.le s,o,h=>by
  obtain⟨n,ah,e⟩:=h;exact⟨n,ah,k _ _ n e⟩
 |.one i f,o,h=>by
  obtain⟨n,ah,j,e,q⟩:=h;exact⟨n,ah,j,k _ _ n e,bG.keep k f q⟩
 |.two i ns fs,o,h=>by
  obtain⟨n,ah,bJ,bZ,os,e,dc,dm,aQ,aR,q⟩:=h;exact⟨n,ah,bJ,bZ,os,k _ _ n e,dc,dm,k _ _ dc aQ,k _ _ dm aR,d0.keep k fs q⟩
theorem d0.keep{c:c9}{X:List ag}{H H':aq}(k:∀b u,b∉X->H b=J u->H' b=J u):∀(fs:List aU){os:List ag},d0 c X H fs os->d0 c X H' fs os
 |[],os,h=>h
 |f::fs,os,h=>by
  obtain⟨o,r,e,q,b8⟩:=h;exact⟨o,r,e,bG.keep k f q,d0.keep k fs b8⟩
end
mutual
theorem bG.weak{c:c9}{X Y:List ag}{H:aq}(hs:∀x,x∈X->x∈Y):∀(f:aU){o:ag},bG c Y H f o->bG c X H f o
 |.bare i,o,h=>⟨fun z=>h.1 (hs _ z),h.2⟩
 |.sp a b,o,h=>⟨fun z=>h.1 (hs _ z),h.2⟩
 |.le s,o,h=>⟨fun z=>h.1 (hs _ z),h.2⟩
 |.one i f,o,h=>by
  obtain⟨n,ah,j,e,q⟩:=h;exact⟨fun z=>n (hs _ z),ah,j,e,bG.weak hs f q⟩
 |.two i ns fs,o,h=>by
  obtain⟨n,ah,bJ,bZ,os,e,dc,dm,aQ,aR,q⟩:=h;exact⟨fun z=>n (hs _ z),ah,bJ,bZ,os,e,fun z=>dc (hs _ z),fun z=>dm (hs _ z),aQ,aR,d0.weak hs fs q⟩
theorem d0.weak{c:c9}{X Y:List ag}{H:aq}(hs:∀x,x∈X->x∈Y):∀(fs:List aU){os:List ag},d0 c Y H fs os->d0 c X H fs os
 |[],os,h=>h
 |f::fs,os,h=>by
  obtain⟨o,r,e,q,b8⟩:=h;exact⟨o,r,e,bG.weak hs f q,d0.weak hs fs b8⟩
end
theorem d0.snoc{c:c9}{X:List ag}{H:aq}{f:aU}{o:ag}(aD:bG c X H f o):∀(fs:List aU){os:List ag},d0 c X H fs os->d0 c X H (fs++[f]) (os++[o])
 |[],os,h=>by
  obtain rfl:os=[]:=h;exact⟨o,[],I,aD,I⟩
 |g::fs,os,h=>by
  obtain⟨o',r,rfl,q,b8⟩:=h;exact⟨o',r++[o],I,q,d0.snoc aD fs b8⟩
theorem d0.len{c:c9}{X:List ag}{H:aq}:∀(fs:List aU){os:List ag},d0 c X H fs os->os.length=fs.length
 |[],os,h=>by
  obtain rfl:os=[]:=h;rfl
 |g::fs,os,h=>by
  obtain⟨o',r,rfl,q,b8⟩:=h;rw[dW,d0.len fs b8];rfl
noncomputable def gw:aU->aa
 |.bare k=>eT k
 |.sp _ _=>aa.ofString "span"
 |.le _=>aa.ofString "letters"
 |.one k _=>dV k
 |.two k _ _=>ez k
noncomputable def bd:aU->List Nat
 |.bare _=>[]
 |.sp a b=>num a++(bN ", "++num b)
 |.le s=>s.cps.toList
 |.one _ f=>bq f
 |.two _ ns fs=>fi fs ns
noncomputable def zE:aU->Bool
 |.bare _=>ao
 |_=>aI
def V6(f:aU)(h:zE f=aI):bq f=(gw f).cps.toList++(bN "("++(bd f++bN ")")):=by
 cases f with
 |bare k=>cases h
 |sp a b=>rw[bq];rfl
 |le s=>rw[bq];rfl
 |one k f=>rw[bq];rfl
 |two k ns fs=>rw[bq];rfl
def MD(f:aU):∀ch,ch∈(gw f).cps.toList->ch∈fy.cps.toList:=by
 have al:∀k:Fin 4,∀ch,ch∈(eT k).cps.toList->ch∈fy.cps.toList:=⋯;have aK:∀k:Fin 3,∀ch,ch∈(dV k).cps.toList->ch∈fy.cps.toList:=⋯;have aP:∀k:Fin 2,∀ch,ch∈(ez k).cps.toList->ch∈fy.cps.toList:=⋯;have hs:∀ch,ch∈(aa.ofString "span").cps.toList->ch∈fy.cps.toList:=⋯;have aC:∀ch,ch∈(aa.ofString "letters").cps.toList->ch∈fy.cps.toList:=⋯;cases f with
 |bare k=>exact al k
 |sp a b=>exact hs
 |le s=>exact aC
 |one k f=>exact aK k
 |two k ns fs=>exact aP k
noncomputable def rD:aa:="0123456789"
def Nt(h:48<=c/\c<=57):c∈rD.cps.toList:=by
 have:∀k:Fin 10,(48+k.val)∈rD.cps.toList:=⋯;have aj:=this ⟨c-48,by lia⟩;rwa [show 48+(c-48)=c by lia]at aj
theorem oh:∀f:aU,1<=aP f
 |.bare _=>by rw[aP];exact cR _
 |.sp _ _=>by rw[aP];exact cR _
 |.le _=>by rw[aP];exact cR _
 |.one _ f=>by rw[aP];lia
 |.two _ _ fs=>by rw[aP];lia
mutual
theorem bG.add{c:c9}{X:List ag}{H:aq}{l:ag}(aC:H l=aA):∀(f:aU){o:ag},bG c X H f o->bG c (l::X) H f o
 |.bare i,o,h=>by
  obtain⟨n,ah,e⟩:=h;exact⟨fun z=>(dJ.mp z).elim (fun y=>by rw[y,aC]at e;cases e) n,ah,e⟩
 |.sp a b,o,h=>by
  obtain⟨n,ah,e⟩:=h;exact⟨fun z=>(dJ.mp z).elim (fun y=>by rw[y,aC]at e;cases e) n,ah,e⟩
 |.le s,o,h=>by
  obtain⟨n,ah,e⟩:=h;exact⟨fun z=>(dJ.mp z).elim (fun y=>by rw[y,aC]at e;cases e) n,ah,e⟩
 |.one i f,o,h=>by
  obtain⟨n,ah,j,e,q⟩:=h;exact⟨fun z=>(dJ.mp z).elim (fun y=>by rw[y,aC]at e;cases e) n,ah,j,e,bG.add aC f q⟩
 |.two i ns fs,o,h=>by
  obtain⟨n,ah,bJ,bZ,os,e,dc,dm,aQ,aR,q⟩:=h;exact⟨fun z=>(dJ.mp z).elim (fun y=>by rw[y,aC]at e;cases e) n,ah,bJ,bZ,os,e,fun z=>(dJ.mp z).elim (fun y=>by rw[y,aC]at aQ;cases aQ) dc,fun z=>(dJ.mp z).elim (fun y=>by rw[y,aC]at aR;cases aR) dm,aQ,aR,d0.add aC fs q⟩
theorem d0.add{c:c9}{X:List ag}{H:aq}{l:ag}(aC:H l=aA):∀(fs:List aU){os:List ag},d0 c X H fs os->d0 c (l::X) H fs os
 |[],os,h=>h
 |f::fs,os,h=>by
  obtain⟨o,r,e,q,b8⟩:=h;exact⟨o,r,e,bG.add aC f q,d0.add aC fs b8⟩
end
inductive fQ where
 |b (k:Fin 4)|s|l|o (k:Fin 3)|t (k:Fin 2)
noncomputable def eb(c:c9):fQ->ag
 |.b k=>c.b k
 |.s=>c.s
 |.l=>c.l
 |.o k=>c.o k
 |.t k=>c.t k
noncomputable def slot:aU->fQ
 |.bare k =>.b k
 |.sp _ _ =>.s
 |.le _ =>.l
 |.one k _ =>.o k
 |.two k _ _ =>.t k
theorem bG.ins{c:c9}{m:aa}(ai:(m == ("low":aa))=aI)(aj:(m == ("high":aa))=aI)(bt:(m == ("signs":aa))=aI)(cf:(m == ("inner":aa))=aI)(eF:(m == ("names":aa))=aI)(gD:(m == ("forms":aa))=aI):
  ∀(f:aU){o:ag},bG c X H f o->∃ah fs,H o=J (.ins (eb c (slot f)) ah fs)/\fs.lookup m=aA
 |.bare i,o,h=>by
  obtain⟨n,ah,e⟩:=h;exact⟨ah,_,e,I⟩
 |.sp a b,o,h=>by
  obtain⟨n,ah,e⟩:=h;exact⟨ah,_,e,by simp[List.lookup,ai,aj]⟩
 |.le s,o,h=>by
  obtain⟨n,ah,e⟩:=h;exact⟨ah,_,e,by simp[List.lookup,bt]⟩
 |.one i f,o,h=>by
  obtain⟨n,ah,j,e,q⟩:=h;exact⟨ah,_,e,by simp[List.lookup,cf]⟩
 |.two i ns fs,o,h=>by
  obtain⟨n,ah,bJ,bZ,os,e,_⟩:=h;exact⟨ah,_,e,by simp[List.lookup,eF,gD]⟩
def Gs{Q:bI}{D:ag}(f:Nat->V)(S:St->Prop)(bj:n<=100000)(bb:S fO)(b2:H D=aA)
  (aP:∀i:Nat,i<n->∀b0 H1,S b0->et H H1->∀R:St->V->aq->Prop,(∀bD,S bD->R bD (f i) H1)->g (.int (lo+(i:Int))) b0 H1 fun bD az=>cT bD az fun y gW=>R bD y gW)
  (bl:Q (.ref D) (upd H D (.lst ((List.range n).map f)))):mK (rG lo n) g oX cT Q fO H D:=by
 refine ZM (fun _=>ao) f S bj bb b2 (fun i aG b0 H1 c7 hs R uu cL=>?_) (by rw[List.filter_eq_self.mpr fun _ _=>rfl];exact bl);exact aP i aG b0 H1 c7 hs R fun bD aj=>by have:=cL bD aj;rwa [if_pos rfl]at this
def ai1(t u:gk):gk:=fun D ab H=>∃eQ:St->aq->Prop,t {D with nx:=eQ} ab H/\∀cb H',eQ cb H'->u D cb H'
def ys{X:bS}{st:bo}{rest:List bo}{t u:gk}(ai:lC X st t)(aj:jE X rest u):jE X (st::rest) (ai1 t u):=by
 intro ar s ab H D ae h;obtain⟨eQ,h,acH⟩:=h;refine wpAny_execs_cons (dg (ai ar s ab H {D with nx:=eQ} ae h) fun f s1 q=>?_);cases f with
 |next =>
  obtain⟨cb,H',jj,q⟩:=q;exact aj ar s1 cb H' D jj (acH _ _ q)
 |ret v=>exact q
 |brk=>exact q
 |cont=>exact q
inductive D where
 |bM
 |aS (b:Bool)
 |int (i:Int)
 |str (s:aa)
 |tup (ds:List D)
 |lst (ds:List D)
mutual
noncomputable def dZ(H:aq):D->V->Prop
 |.bM,v=>v=.bM
 |.aS b,v=>v=.aS b
 |.int i,v=>v=.int i
 |.str s,v=>v=.str s/\s.length<=16000000
 |.tup ds,v=>∃a vs,v=.ref a/\H a=J (.tup vs)/\dw H ds vs/\vs.length<=1000
 |.lst ds,v=>∃a vs,v=.ref a/\H a=J (.lst vs)/\dw H ds vs/\vs.length<=1000
noncomputable def dw(H:aq):List D->List V->Prop
 |[],vs=>vs=[]
 |d::ds,vs=>∃v r,vs=v::r/\dZ H d v/\dw H ds r
end
mutual
theorem dZ.same{H H':aq}(s:et H H'):∀(d:D){v:V},dZ H d v->dZ H' d v
 |.bM,v,h=>h
 |.aS b,v,h=>h
 |.int i,v,h=>h
 |.str t,v,h=>h
 |.tup ds,v,h=>by
  obtain⟨a,vs,e,ec,q,z⟩:=h;exact⟨a,vs,e,s _ _ ec,dw.same s ds q,z⟩
 |.lst ds,v,h=>by
  obtain⟨a,vs,e,ec,q,z⟩:=h;exact⟨a,vs,e,s _ _ ec,dw.same s ds q,z⟩
theorem dw.same{H H':aq}(s:et H H'):∀(ds:List D){vs:List V},dw H ds vs->dw H' ds vs
 |[],vs,h=>h
 |d::ds,vs,h=>by
  obtain⟨v,r,e,q,b8⟩:=h;exact⟨v,r,e,dZ.same s d q,dw.same s ds b8⟩
end
theorem dw.len{H:aq}:∀(ds:List D){vs:List V},dw H ds vs->vs.length=ds.length
 |[],vs,h=>by
  obtain rfl:vs=[]:=h;rfl
 |g::fs,vs,h=>by
  obtain⟨o',r,rfl,q,b8⟩:=h;rw[dW,dw.len fs b8];rfl
theorem dw.get{H:aq}:∀(ds:List D){vs:List V}{i:Nat}{v:V},dw H ds vs->vs[i]?=J v->∃d,ds[i]?=J d/\dZ H d v
 |[],vs,i,v,h,e=>by
  obtain rfl:vs=[]:=h;cases e
 |d::ds,vs,0,v,h,e=>by
  obtain⟨o',r,rfl,q,b8⟩:=h;cases e;exact⟨d,I,q⟩
 |d::ds,vs,i+1,v,h,e=>by
  obtain⟨o',r,rfl,q,b8⟩:=h;exact dw.get ds b8 e
noncomputable def Ag:D->String
 |.bM=>"NoneType"
 |.aS _=>"bool"
 |.int _=>"int"
 |.str _=>"str"
 |.tup _=>"tuple"
 |.lst _=>"list"
def dZ.ty{d:D}(h:dZ H d v):me K H v (.type (Ag d)):=by
 cases d with
 |bM=>obtain rfl:v=.bM:=h;exact .bM
 |aS b=>obtain rfl:v=.aS b:=h;exact .aS b
 |int i=>obtain rfl:v=.int i:=h;exact .int i
 |str s=>obtain⟨rfl,_⟩:=h;exact .str s
 |tup ds=>obtain⟨a,vs,rfl,e,_⟩:=h;exact .tup e
 |lst ds=>obtain⟨a,vs,rfl,e,_⟩:=h;exact .lst e
noncomputable def aev(d:D)(T:String):Bool:=Ag d == T||(Ag d == "bool"&&T == "int")
def VN(K:bT):∀a∈["NoneType","bool","int","str","tuple","list"],∀T∈["int","bool","str","tuple","list"],vG K (.type a) (.type T)=J (a == T||(a == "bool"&&T == "int")):=by
 intro a aN T bW;have q1:a="NoneType"\/a="bool"\/a="int"\/a="str"\/a="tuple"\/a="list":=by simpa using aN
 have yX:T="int"\/T="bool"\/T="str"\/T="tuple"\/T="list":=by simpa using bW
 rcases q1 with rfl|rfl|rfl|rfl|rfl|rfl<;>rcases yX with rfl|rfl|rfl|rfl|rfl<;>
  first
  |exact UO ..
  |(unfold vG;rw[if_neg (by decide)];unfold PySem.W.kitCls;kernel_rfl)
def oJ(K:bT)(d:D){T:String}(bW:T∈["int","bool","str","tuple","list"]):vG K (.type (Ag d)) (.type T)=J (aev d T):=by
 refine VN K _ ?_ T bW;cases d<;>simp[Ag]
section
variable {X:bS}
noncomputable def PT:V->Bool
 |.bM=>ao
 |.aS _=>ao
 |.int _=>ao
 |.str _=>ao
 |.ref _=>ao
 |_=>aI
def KS:ef X (h3 .Is) (fun x y H Q=>∃b,y=.aS b/\PT x=ao/\Q (.aS (decide (x=.aS b))) H):=by
 intro ar s ab H x y v u Q ae bH cX h;obtain⟨b,rfl,av,q⟩:=h;cases cX;cases x with
 |bM=>cases bH;exact e3 (ft ae q (by cases b<;>rfl))
 |aS c=>cases bH;cases b<;>cases c<;>exact e3 (ft ae q I)
 |int i=>obtain⟨t,rfl⟩:=bH;exact e3 (ft ae q (by cases b<;>rfl))
 |str i=>obtain⟨t,rfl⟩:=bH;exact e3 (ft ae q (by cases b<;>rfl))
 |ref a=>cases bH;exact e3 (ft ae q (by cases b<;>rfl))
 |_=>cases av
end
variable {t:ag}
section
variable {prog:dR} {w:dd} {A:ee} {E:ax->aT->Prop} {s:aT}
def YS{items:Array ax}{x:ax}(tH:s.heap.IsTupleIter it t i)(aP:s.heap.IsTuple t items)(av:items[i]?=J x)(gQ:∀h',h'.IsTupleIter it t (i+1)->bR.SameBut it s.heap h'->Q x {s with heap:=h'}):
  cc (model prog w) A (dI.SmallTypes.nextOf (.ref it)) Q E s:=by
 have ty:=tH.typeIs;have ON:=tH;obtain⟨o,aK,hc,hd⟩:=tH;obtain⟨afH,IB,_,qg,H9⟩:=aP;unfold dI.SmallTypes.nextOf;refine cO (wpAny_callSpecial?_slot (name:=aa.ofString "__next__") ty F.slot_tuple_iterator_next (wpAny_call_entry F.slot_tuple_iterator_next ty F.entry_tuple_iterator_next ?_ (F.args_tuple_iterator_next_1 _)));show cc _ _ (field (.ref it) 0 >>= _) _ _ s;refine cO (pb aK hd (x :=.ref t) I ?_);have nn:¬((ax.ref t == ax.none)=ao):=ke;show cc _ _ (if(ax.ref t == ax.none)=ao then _ else _) _ _ s;rw[if_neg nn];show cc _ _ (field (.ref it) 1 >>= _) _ _ s;refine cO (pb aK hd (x :=.int i 0) I ?_);show cc _ _ (seqItems? (.ref t) >>= _) _ _ s;refine cO (t9 IB H9 ?_);simp only[Int.toNat_natCast,av];refine cO (RY aK hd (by simp) (e3 ⟨x,I,e3 (gQ _ ⟨_,bR.get?_update_self _ aK (cE.isFreed_of_fields (cE.data_mapFields hd _)),(cE.cls_mapFields ..).trans hc,?_⟩ (bR.SameBut.update ..))⟩));rw[cE.data_mapFields hd];simp[rawInt]
def Zr{items:Array ax}(fg:A.handled=aA)(tH:s.heap.IsTupleIter it t i)(aP:s.heap.IsTuple t items)(av:items[i]?=aA)(wU:∀h' e,bR.ExtBut it s.heap h'->(∃o,h'.get? e=J o/\o.cls=.type "StopIteration")->E (.ref e) {s with heap:=h'}):
  cc (model prog w) A (dI.SmallTypes.nextOf (.ref it)) Q E s:=by
 have ty:=tH.typeIs;obtain⟨o,aK,hc,hd⟩:=tH;obtain⟨afH,IB,_,qg,H9⟩:=aP;unfold dI.SmallTypes.nextOf;refine cO (wpAny_callSpecial?_slot (name:=aa.ofString "__next__") ty F.slot_tuple_iterator_next (wpAny_call_entry F.slot_tuple_iterator_next ty F.entry_tuple_iterator_next ?_ (F.args_tuple_iterator_next_1 _)));show cc _ _ (field (.ref it) 0 >>= _) _ _ s;refine cO (pb aK hd (x :=.ref t) I ?_);have nn:¬((ax.ref t == ax.none)=ao):=ke;show cc _ _ (if(ax.ref t == ax.none)=ao then _ else _) _ _ s;rw[if_neg nn];show cc _ _ (field (.ref it) 1 >>= _) _ _ s;refine cO (pb aK hd (x :=.int i 0) I ?_);show cc _ _ (seqItems? (.ref t) >>= _) _ _ s;refine cO (t9 IB H9 ?_);simp only[Int.toNat_natCast,av];refine cO (wpAny_rule (cO (RY aK hd (by simp) ?_)));show cc _ _ (newExc (.type "StopIteration") [] >>= _) _ _ _;refine cO ?_;simp only[newExc,newTuple];refine cO (wpAny_newObj_type ?_ (by size_fits));refine cO (m:=firstArgMember _ _) (wpAny_of_eq (a:=ax.none) (by first|rfl|(simp only[firstArgMember];rfl)) ?_);refine wpAny_newObj_type ?_ (by size_fits);simp only[raiseNew];refine cO (wpAny_handled ?_)
 first|rw[show A.in1.handled=aA from fg]|rw[fg]
 exact cO (e3 (wpAny_throw (wU _ _ (((bR.SameBut.update ..).extBut.push _).push _) ⟨_,iw _ I,I⟩)))
end
def ajN{items:Array ax}(x:h.IsTuple a items)(k:∀o,h.get? a=J o->h'.get? a=J o):h'.IsTuple a items :=
 let ⟨o,aK,r⟩:=x;⟨o,k o aK,r⟩
def RO(x:h.IsTupleIter a t i)(k:∀o,h.get? a=J o->h'.get? a=J o):h'.IsTupleIter a t i :=
 let ⟨o,aK,r⟩:=x;⟨o,k o aK,r⟩
def Draws.tup{A:ee}(fg:A.handled=aA)(it t:ag)(hB:t≠it)(items:Array ax):
  Draws prog w A it [it,t] items.size (fun i v=>items[i]?=J v) (fun i h=>h.IsTupleIter it t i/\h.IsTuple t items) where
 live:=fun _ _ st=>let ⟨o,aK,_⟩:=st.1;⟨o,aK⟩
 frame:=fun _ _ _ st hk=>⟨RO st.1 fun o e=>hk it (by simp) o e,ajN st.2 fun o e=>hk t (by simp) o e⟩
 item:=fun i s Q E aG st gQ=>YS st.1 st.2 (x:=items[i]) (by simp[aG]) fun h' ON kS=>gQ _ h' s.toks (by simp[aG]) ⟨ON,st.2.extBut kS.extBut hB⟩ kS
 done:=fun s Q E st wU=>Zr fg st.1 st.2 (by simp) wU
structure wh(z d8 dE dC df:ag)(ot ou:List ag):Prop where
 TIz:d8≠z
 TOz:dE≠z
 i1z:dC≠z
 i2z:df≠z
 TITO:d8≠dE
 TIi1:d8≠dC
 TIi2:d8≠df
 TOi1:dE≠dC
 TOi2:dE≠df
 d6:z∉ot
 jR:dE∉ot
 tR:df∉ot
 d2:z∉ou
 iU:dE∉ou
 DO:dC∉ou
section
variable {prog:dR} {w:dd} {A:ee} {E:ax->aT->Prop} {s:aT}
variable {z d8 dE dC df:ag} {ot ou:List ag} {dc dm i:Nat} {v7 v8:Nat->ax->Prop} {jb kd:Nat->bR->Prop}
def Draws.but{A:ee}{b:ag}{i:Nat}{P:Nat->ax->Prop}{St:Nat->bR->Prop}(D:Draws prog w A it cu n P St)(x:bR.ExtBut b h h')(al:b∉cu)(st:St i h):St i h' :=
 D.frame i h h' st fun c hc o e=>x c o (fun z=>al (z ▸ hc)) e
def Vg{a b:ax}(ha:Draws prog w A dC ot dc v7 jb)(hv:Draws prog w A df ou dm v8 kd)(Z:wh z d8 dE dC df ot ou)(bX:IsZip s.heap z d8 dE .none)(u1:IsPair s.heap d8 (.ref dC) (.ref df))(u2:IsPair s.heap dE a b)(bJ:i<dc)(bZ:i<dm)(t1:jb i s.heap)(f6:kd i s.heap)
  (gQ:∀x y h' dP,v7 i x->v8 i y->IsZip h' z d8 dE (rawInt s.heap.objs.size)->IsPair h' dE x y->jb (i+1) h'->kd (i+1) h'->IsPair h' s.heap.objs.size x y->(∀c o,c≠z->c≠dE->c≠dC->c≠df->s.heap.get? c=J o->h'.get? c=J o)->Q (.ref s.heap.objs.size) {s with heap:=h',toks:=dP}) :
  cc (model prog w) A (dI.«zip.__next__» ⟨[.ref z],[]⟩) (fun dG bw=>∃v,dG=.done (.ret v)/\Q v bw) E s:=by
 show cc _ _ (field (.ref z) 2 >>= _) _ _ _;refine cO (pb bX I (x :=.bool aI) I ?_);show cc _ _ (field (.ref z) 3 >>= _) _ _ _;refine cO (pb bX I (x :=.ref d8) I (cO (t9 u1 I ?_)));show cc _ _ (dI.SmallTypes.ownedTupleIsFree (.ref z) >>= _) _ _ _;refine cO ?_;unfold dI.SmallTypes.ownedTupleIsFree;refine cO (pb bX I (x :=.none) I (e3 ?_));simp only[if_true];refine cO (wpAny_rule (cO (pb bX I (x :=.ref dE) I (cO (xH bX (by simp) fun aN t8 o5=>?_)))))
 replace t8:IsZip aN z d8 dE .ellipsis:=t8
 refine cO ?_;simp only[List.zipIdx_cons,List.zipIdx_nil,List.forIn_cons,List.forIn_nil];refine cO (cO (wpAny_onRaise ?_));show cc _ _ (dI.SmallTypes.nextOf (.ref dC) >>= _) _ _ _;refine cO (ha.item i _ _ _ bJ (Draws.but ha o5.extBut Z.d6 t1) fun x al RM c8 dO nP=>e3 ?_);have eG:IsPair al dE a b:=nP.extBut _ _ Z.TOi1 (o5.extBut _ _ Z.TOz u2);refine cO (t9 eG I (cO (wpAny_updateSeq_pair eG fun hc jv o6=>?_)))
 replace jv:IsPair hc dE x b:=jv
 refine cO (wpAny_letGo (e3 ?_));refine cO (cO (wpAny_onRaise ?_));show cc _ _ (dI.SmallTypes.nextOf (.ref df) >>= _) _ _ _;refine cO (hv.item i _ _ _ bZ (Draws.but hv o6.extBut Z.iU (Draws.but hv nP.extBut Z.DO (Draws.but hv o5.extBut Z.d2 f6))) fun y hd ajx cS aju nQ=>e3 ?_);have hr:IsPair hd dE x b:=nQ.extBut _ _ Z.TOi2 jv;refine cO (t9 hr I (cO (wpAny_updateSeq_pair hr fun he nI xe=>?_)))
 replace nI:IsPair he dE x y:=nI
 refine cO (wpAny_letGo (e3 (e3 ?_)));refine cO (t9 nI I (cO (wpAny_newTuple ?_)));have dt:he.objs.size=s.heap.objs.size:=by rw[xe.1,nQ.1,o6.1,nP.1,o5.1]
 have RW:IsZip he z d8 dE .ellipsis:=xe.extBut _ _ Z.TOz.symm (nQ.extBut _ _ Z.i2z.symm (o6.extBut _ _ Z.TOz.symm (nP.extBut _ _ Z.i1z.symm t8)));have xl:z<he.objs.size:=fI RW;show cc _ _ (dI.SmallTypes.ownedTupleHandOut (.ref z) (.ref he.objs.size) >>= _) _ _ _;refine cO ?_;unfold dI.SmallTypes.ownedTupleHandOut;refine cO (xH (show IsZip (he.push {cls :=.type "tuple",data :=.seq #[x,y]}) z d8 dE .ellipsis from gZ _ RW) (by simp) fun aD JM Al=>?_)
 replace JM:IsZip aD z d8 dE (rawInt he.objs.size):=JM
 refine xH JM (by simp) fun bh vE RS=>e3 ⟨_,I,?_⟩
 replace vE:IsZip bh z d8 dE (rawInt he.objs.size):=vE
 have up:bR.ExtBut z he bh:=fun c o hA e=>RS.extBut _ _ hA (Al.extBut _ _ hA (gZ _ e));have pn:IsPair bh he.objs.size x y:=RS.extBut _ _ (Nat.ne_of_gt xl) (Al.extBut _ _ (Nat.ne_of_gt xl) (iw _ rfl));have ajv:jb (i+1) bh:=Draws.but ha up Z.d6 (Draws.but ha xe.extBut Z.jR (Draws.but ha nQ.extBut Z.tR (Draws.but ha o6.extBut Z.jR dO)));have ajw:kd (i+1) bh:=Draws.but hv up Z.d2 (Draws.but hv xe.extBut Z.iU aju);show Q (.ref he.objs.size) _;rw[dt]at vE pn ⊢;exact gQ x y bh ajx c8 cS vE (up _ _ Z.TOz nI) ajv ajw pn fun c o hA jK jh yI e=>up c o hA (xe.extBut _ _ jK (nQ.extBut _ _ yI (o6.extBut _ _ jK (nP.extBut _ _ jh (o5.extBut _ _ hA e)))))
def V4{a b:ax}{Q:Fin->aT->Prop}(ha:Draws prog w A dC ot dc v7 jb)(hv:Draws prog w A df ou dm v8 kd)(Z:wh z d8 dE dC df ot ou)(bX:IsZip s.heap z d8 dE .none)(u1:IsPair s.heap d8 (.ref dC) (.ref df))(u2:IsPair s.heap dE a b)(l:i=dc\/(i<dc/\i=dm))(t1:jb i s.heap)(f6:kd i s.heap)
  (wU:∀h' e dP,(∀c o,c≠z->c≠dE->c≠dC->c≠df->s.heap.get? c=J o->h'.get? c=J o)->(∃o,h'.get? e=J o/\o.cls=.type "StopIteration")->E (.ref e) {s with heap:=h',toks:=dP}) :
  cc (model prog w) A (dI.«zip.__next__» ⟨[.ref z],[]⟩) Q E s:=by
 show cc _ _ (field (.ref z) 2 >>= _) _ _ _;refine cO (pb bX I (x :=.bool aI) I ?_);show cc _ _ (field (.ref z) 3 >>= _) _ _ _;refine cO (pb bX I (x :=.ref d8) I (cO (t9 u1 I ?_)));show cc _ _ (dI.SmallTypes.ownedTupleIsFree (.ref z) >>= _) _ _ _;refine cO ?_;unfold dI.SmallTypes.ownedTupleIsFree;refine cO (pb bX I (x :=.none) I (e3 ?_));simp only[if_true];refine cO (wpAny_rule (cO (pb bX I (x :=.ref dE) I (cO (xH bX (by simp) fun aN t8 o5=>?_)))))
 replace t8:IsZip aN z d8 dE .ellipsis:=t8
 refine cO ?_;simp only[List.zipIdx_cons,List.zipIdx_nil,List.forIn_cons,List.forIn_nil];refine cO (cO (wpAny_onRaise ?_));show cc _ _ (dI.SmallTypes.nextOf (.ref dC) >>= _) _ _ _;rcases l with rfl|⟨bJ,rfl⟩
 ·refine cO (ha.done _ _ _ (Draws.but ha o5.extBut Z.d6 t1) fun al e nP he=>?_);obtain⟨nI,ge,ce⟩:=he;have RU:IsZip al z d8 dE .ellipsis:=nP _ _ Z.i1z.symm t8;have wL:e≠z:=fun x=>by subst x;rw[RU]at ge;cases ge;simp at ce
  exact xH RU (by simp) fun hc _ o6=>wU hc e s.toks (fun c o hA _ jh _ g=>o6.extBut _ _ hA (nP _ _ jh (o5.extBut _ _ hA g))) ⟨nI,o6.extBut _ _ wL ge,ce⟩
 ·refine cO (ha.item i _ _ _ bJ (Draws.but ha o5.extBut Z.d6 t1) fun x al RM c8 dO nP=>e3 ?_);have eG:IsPair al dE a b:=nP.extBut _ _ Z.TOi1 (o5.extBut _ _ Z.TOz u2);refine cO (t9 eG I (cO (wpAny_updateSeq_pair eG fun hc jv o6=>?_)));refine cO (wpAny_letGo (e3 ?_));refine cO (cO (wpAny_onRaise ?_));show cc _ _ (dI.SmallTypes.nextOf (.ref df) >>= _) _ _ _;refine cO (hv.done _ _ _ (Draws.but hv o6.extBut Z.iU (Draws.but hv nP.extBut Z.DO (Draws.but hv o5.extBut Z.d2 f6))) fun hd e nQ he=>?_);obtain⟨nI,ge,ce⟩:=he;have RV:IsZip hd z d8 dE .ellipsis:=nQ _ _ Z.i2z.symm (o6.extBut _ _ Z.TOz.symm (nP.extBut _ _ Z.i1z.symm t8));have wL:e≠z:=fun x=>by subst x;rw[RV]at ge;cases ge;simp at ce
  exact xH RV (by simp) fun aD _ Al=>wU aD e RM (fun c o hA jK jh yI g=>Al.extBut _ _ hA (nQ _ _ yI (o6.extBut _ _ jK (nP.extBut _ _ jh (o5.extBut _ _ hA g))))) ⟨nI,Al.extBut _ _ wL ge,ce⟩
def YR{a b:ax}{Q:Option ax->aT->Prop}(ha:Draws prog w A.in1 dC ot dc v7 jb)(hv:Draws prog w A.in1 df ou dm v8 kd)(Z:wh z d8 dE dC df ot ou)(bX:IsZip s.heap z d8 dE .none)(u1:IsPair s.heap d8 (.ref dC) (.ref df))(u2:IsPair s.heap dE a b)(bJ:i<dc)(bZ:i<dm)(t1:jb i s.heap)(f6:kd i s.heap)
  (gQ:∀x y h' dP,v7 i x->v8 i y->IsZip h' z d8 dE (rawInt s.heap.objs.size)->IsPair h' dE x y->jb (i+1) h'->kd (i+1) h'->IsPair h' s.heap.objs.size x y->(∀c o,c≠z->c≠dE->c≠dC->c≠df->s.heap.get? c=J o->h'.get? c=J o)->Q (J (.ref s.heap.objs.size)) {s with heap:=h',toks:=dP}) :
  cc (model prog w) A (pyNext (.ref z)) Q E s:=by
 have bW:s.TypeIs (.ref z) "zip":=⟨_,bX,rfl⟩;unfold pyNext;exact cO (wpAny_attempt (wpAny_callSpecial?_slot (name:=aa.ofString "__next__") bW F.slot_zip_next (wpAny_call_entry F.slot_zip_next bW F.entry_zip_next (Vg ha hv Z bX u1 u2 bJ bZ t1 f6 fun x y h' dP a1 a2 a3 a4 a5 a6 a7 a8=>e3 (gQ x y h' dP a1 a2 a3 a4 a5 a6 a7 a8)) (F.args_zip_next_1 _))))
def Zp{a b:ax}{Q:Option ax->aT->Prop}(ha:Draws prog w A.in1 dC ot dc v7 jb)(hv:Draws prog w A.in1 df ou dm v8 kd)(Z:wh z d8 dE dC df ot ou)(bX:IsZip s.heap z d8 dE .none)(u1:IsPair s.heap d8 (.ref dC) (.ref df))(u2:IsPair s.heap dE a b)(l:i=dc\/(i<dc/\i=dm))(t1:jb i s.heap)(f6:kd i s.heap)
  (gQ:∀h' dP,(∀c o,c≠z->c≠dE->c≠dC->c≠df->s.heap.get? c=J o->h'.get? c=J o)->Q aA {s with heap:=h',toks:=dP}) :
  cc (model prog w) A (pyNext (.ref z)) Q E s:=by
 have bW:s.TypeIs (.ref z) "zip":=⟨_,bX,rfl⟩;unfold pyNext;refine cO (wpAny_attempt (wpAny_callSpecial?_slot (name:=aa.ofString "__next__") bW F.slot_zip_next (wpAny_call_entry F.slot_zip_next bW F.entry_zip_next (V4 ha hv Z bX u1 u2 l t1 f6 fun h' e dP hk he=>?_) (F.args_zip_next_1 _))));obtain⟨o,aK,hc⟩:=he;exact cO (wpAny_isInstance (T:="StopIteration") (b:=ao) ⟨o,aK,hc⟩ isSubtype_stop (e3 (gQ _ _ hk)))
end
def akh{a b:Nat}(ai:a<n)(aj:b<n):wh (n+4) (n+2) (n+3) n (n+1) [n,a] [n+1,b]:=by
 have nm:∀{x y z:Nat},x≠y->x≠z->x∉[y,z]:=fun aQ aR h=>by
  rcases dJ.mp h with h|h
  .exact aQ h
  .exact aR (eB.mp h)
 refine⟨?_,?_,?_,?_,?_,?_,?_,?_,?_,nm ?_ ?_,nm ?_ ?_,nm ?_ ?_,nm ?_ ?_,nm ?_ ?_,nm ?_ ?_⟩<;>(show(_:Nat)≠_;lia)
section
variable {prog:dR} {w:dd} {A:ee} {E:ax->aT->Prop} {s:aT}
noncomputable abbrev EB(h:bR)(a:ag):bR:=h.push {cls :=.type "list_iterator",data :=.fields #[.ref a,.int 0 0]}
noncomputable abbrev EC(h:bR)(a b:ag):bR:=(EB h a).push {cls :=.type "tuple_iterator",data :=.fields #[.ref b,.int 0 0]}
noncomputable abbrev ED(h:bR)(a b:ag):bR:=(EC h a b).push {cls :=.type "tuple",data :=.seq #[.ref h.objs.size,.ref (EB h a).objs.size]}
noncomputable abbrev EE(h:bR)(a b:ag):bR:=(ED h a b).push {cls :=.type "tuple",data :=.seq #[.none,.none]}
noncomputable abbrev xE(h:bR)(a b:ag):bR:=(EE h a b).push {cls :=.type "zip",data :=.fields #[.none,.bool aI,.bool aI,.ref (EC h a b).objs.size,.ref (ED h a b).objs.size]}
def Vh(a b:ag)(xs aw:Array ax):
  Meets (dI.«zip.__new__» ⟨[.type "zip",.ref a,.ref b],[]⟩) (fun _ R s=>s.heap.IsList a xs/\s.heap.IsTuple b aw/\R (.ok (.ret (.ref (EE s.heap a b).objs.size))) {s with heap:=xE s.heap a b}) :=
 .of_wp fun prog w A R s h=>by
  obtain⟨aX,g,d,dP,os⟩:=s;obtain⟨aQ,aR,h⟩:=h;have II:=sub_zip;have dk:bR.IsList (aT.heap ⟨aX,g,d,dP,os⟩) a xs:=aQ;have gu:bR.IsTuple (aT.heap ⟨aX.push {cls :=.type "list_iterator",data :=.fields #[.ref a,.int 0 0]},g,d,dP,os⟩) b aw:=bR.IsTuple.push aR _
  wp_walk using wpAny_pyIter_list dk,wpAny_pyIter_tuple gu
  exact⟨_,I,h⟩
def U8{b:ag}{xs aw:Array ax}(aQ:s.heap.IsList a xs)(aR:s.heap.IsTuple b aw)
  (h:∀h',IsZip h' (s.heap.objs.size+4) (s.heap.objs.size+2) (s.heap.objs.size+3) .none->IsPair h' (s.heap.objs.size+2) (.ref s.heap.objs.size) (.ref (s.heap.objs.size+1))->IsPair h' (s.heap.objs.size+3) .none .none->h'.IsListIter s.heap.objs.size a 0->h'.IsTupleIter (s.heap.objs.size+1) b 0->(∀c o,s.heap.get? c=J o->h'.get? c=J o)->Q (.ref (s.heap.objs.size+4)) {s with heap:=h'}) :
  cc (model prog w) A (call (.type "zip") [.ref a,.ref b]) Q E s:=by
 refine callType_new F.called_zip (by decide) (F.typeCall_zip_2 _ _) (F.newCall_zip_2 _ _) (fun obj=>F.args_object_init_3 obj _ _) F.entry_zip_new (Vh a b xs aw) ⟨aQ,aR,?_⟩;have up:∀{h:bR}{c o o'},h.get? c=J o->(h.push o').get? c=J o:=fun e=>gZ _ e;have s1:(EB s.heap a).objs.size=s.heap.objs.size+1:=bR.size_push ..;have s2:(EC s.heap a b).objs.size=s.heap.objs.size+2:=by rw[bR.size_push,s1]
 have i6:(ED s.heap a b).objs.size=s.heap.objs.size+3:=by rw[bR.size_push,s2]
 have vw:(EE s.heap a b).objs.size=s.heap.objs.size+4:=by rw[bR.size_push,i6]
 have yU:(xE s.heap a b).get? (EE s.heap a b).objs.size=J _:=iw _ rfl;have lR:(xE s.heap a b).get? (ED s.heap a b).objs.size=J _:=up (iw _ rfl);have g3:(xE s.heap a b).get? (EC s.heap a b).objs.size=J _:=up (up (iw _ rfl));have g2:(xE s.heap a b).get? (EB s.heap a).objs.size=J _:=up (up (up (iw _ rfl)));have g1:(xE s.heap a b).get? s.heap.objs.size=J _:=up (up (up (up (iw _ rfl))));show _/\_;rw[s2,i6,vw]at yU;rw[i6]at lR;rw[s1,s2]at g3;rw[s1]at g2;rw[vw];exact⟨⟨_,yU,I⟩,h _ yU g3 lR ⟨_,g1,I,I⟩ ⟨_,g2,I,I⟩ fun c o e=>up (up (up (up (up e))))⟩
end
noncomputable def AD(K:bT)(a b:ag)(xs aw:List V):k3 :=
 ⟨fun i H=>c4 K H a xs/\hS K H b aw/\i<min xs.length aw.length,fun i H x H'=>∃(T:ag)(u v:V),H T=aA/\xs[i]?=J u/\aw[i]?=J v/\x=.ref T/\H'=upd H T (.tup [u,v]),fun i H=>c4 K H a xs/\hS K H b aw/\min xs.length aw.length<=i⟩
def f9{xs:Array ax}(x:IsTup h a xs):h.IsTuple a xs:=x
def aap(a b z d8 dE dC df:ag)(xs aw:List V)(dc:a≠dC)(dm:b≠df)(D:wh z d8 dE dC df [dC,a] [df,b]):
  Turn P w K (.Tuple elts k bc) (AD K a b xs aw) [z,d8,dE,dC,df] z (fun i h=>i<=min xs.length aw.length/\IsZip h z d8 dE .none/\IsPair h d8 (.ref dC) (.ref df)/\(∃a b,IsPair h dE a b)/\h.IsListIter dC a i/\h.IsTupleIter df b i) where
 mem:=by simp
 obj:=fun i h st c hc=>by
  obtain⟨_,i7,jy,⟨p,q,kZ⟩,oV,j9⟩:=st;rcases dJ.mp hc with e|hc
  .subst e;exact⟨_,i7,fun v z=>by cases z⟩
  rcases dJ.mp hc with e|hc
  .subst e;exact⟨_,jy,fun v z=>by cases z⟩
  rcases dJ.mp hc with e|hc
  .subst e;exact⟨_,kZ,fun v z=>by cases z⟩
  rcases dJ.mp hc with e|hc
  ·subst e;obtain⟨o,e,c,d⟩:=oV;exact⟨o,e,fun v z=>by rw[d]at z;cases z⟩
  ·obtain rfl:=eB.mp hc;obtain⟨o,e,c,d⟩:=j9;exact⟨o,e,fun v z=>by rw[d]at z;cases z⟩
 keep:=fun i h h' st k=>by
  obtain⟨aG,i7,jy,⟨p,q,kZ⟩,oV,j9⟩:=st;exact⟨aG,k z (by simp) _ i7,k d8 (by simp) _ jy,⟨p,q,k dE (by simp) _ kZ⟩,oV.at fun o e=>k dC (by simp) o e,RO j9 fun o e=>k df (by simp) o e⟩
 item:=by
  intro X dX hw ff hc i ar s ab H E ae aD st bh;subst dX hw ff;obtain⟨p6,nE,aG⟩:=bh;obtain⟨i3,qn,c8,zB⟩:=ae.list p6;obtain⟨fN,qo,cS,zC⟩:=ae.tuple nE;have zi:=qn.length;have lW:=qo.length;obtain⟨_,i7,jy,⟨xp,afM,kZ⟩,oV,j9⟩:=st;have fg:=ae.ok.hd hc;refine YR (i:=i) (Draws.list (A:=X.A.in1) fg dC a dc i3.toArray) (Draws.tup (A:=X.A.in1) fg df b dm fN.toArray) D i7 jy kZ (by rw[eg];lia) (by rw[eg];lia) ⟨oV,c8.isList⟩ ⟨j9,f9 cS⟩ fun ir ed h' dP so sq hA jK jh yI aaO ck=>?_;refine⟨_,I,wpAny_letOwnedTupleGo_zip hA fun HQ aaN ajV=>?_⟩;have IM:i3[i]?=J ir:=by simpa using so
  have IP:fN[i]?=J ed:=by simpa using sq
  have mA:xs[i]?=J (xs[i]'(by lia)):=cw _;have sr:aw[i]?=J (aw[i]'(by lia)):=cw _;obtain⟨v1,ve,sO⟩:=qn.get mA;obtain⟨v2,vf,fh⟩:=qo.get sr;rw[IM]at ve;cases ve;rw[IP]at vf;cases vf;have bW:s.heap.objs.size<=s.heap.objs.size:=cR _;have tE:=ae.aF.fresh bW;have lt:∀{c o},s.heap.get? c=J o->c≠s.heap.objs.size:=fun e=>hU (fI e)
  have DS:∀c∈[z,d8,dE,dC,df],c≠s.heap.objs.size:=fun c e1=>by
   rcases dJ.mp e1 with e|e1
   .rw[e];exact lt i7
   rcases dJ.mp e1 with e|e1
   .rw[e];exact lt jy
   rcases dJ.mp e1 with e|e1
   .rw[e];exact lt kZ
   rcases dJ.mp e1 with e|e1
   .rw[e];obtain⟨o,e,_⟩:=oV;exact lt e
   .rw[eB.mp e1];obtain⟨o,e,_⟩:=j9;exact lt e
  have xh:bR.ExtBut z h' HQ:=ajV.extBut;refine⟨.ref s.heap.objs.size,upd H s.heap.objs.size (.tup [xs[i]'(by lia),aw[i]'(by lia)]),?_,I,⟨_,_,_,tE,mA,sr,I,I⟩,⟨by lia,aaN,xh _ _ D.TIz (ck _ _ D.TIz D.TITO D.TIi1 D.TIi2 jy),⟨_,_,xh _ _ D.TOz jK⟩,jh.1.extBut xh D.i1z,yI.1.extBut xh D.i2z⟩,fun c e1=>?_⟩
  ·refine ae.JG (ch:=[z,dE,dC,df]) (t':=dP) (fun c o w0 pR=>?_) (fun c e1=>aD c ?_) bW ?_
   ·have nn:∀{d:ag},d∈[z,dE,dC,df]->c≠d:=fun hd e=>w0 (e ▸ hd);exact xh c o (nn (by simp)) (ck c o (nn (by simp)) (nn (by simp)) (nn (by simp)) (nn (by simp)) pR)
   ·rcases dJ.mp e1 with e|e1
    .rw[e];simp
    .exact d9 _ (d9 _ e1)
   ·refine⟨by show 2<=cp;decide,[ir,ed],.cons sO (.cons fh .nil),?_⟩;exact⟨_,xh _ _ (DS z (by simp)).symm aaO,I,_,I⟩
  ·rw[bx (DS c e1)];exact(aD c e1).1
 done:=by
  intro X dX hw ff hc i ar s ab H E ae aD st bh;subst dX hw ff;obtain⟨p6,nE,aG⟩:=bh;obtain⟨i3,qn,c8,zB⟩:=ae.list p6;obtain⟨fN,qo,cS,zC⟩:=ae.tuple nE;have zi:=qn.length;have lW:=qo.length;obtain⟨hle,i7,jy,⟨xp,afM,kZ⟩,oV,j9⟩:=st;have fg:=ae.ok.hd hc;refine Zp (i:=i) (Draws.list (A:=X.A.in1) fg dC a dc i3.toArray) (Draws.tup (A:=X.A.in1) fg df b dm fN.toArray) D i7 jy kZ (by rw[eg,eg];lia) ⟨oV,c8.isList⟩ ⟨j9,f9 cS⟩ fun h' dP ck=>⟨I,ae.JF (ch:=[z,dE,dC,df]) (t':=dP) (fun c o w0 pR=>?_) fun c e1=>aD c ?_⟩
  ·have nn:∀{d:ag},d∈[z,dE,dC,df]->c≠d:=fun hd e=>w0 (e ▸ hd);exact ck c o (nn (by simp)) (nn (by simp)) (nn (by simp)) (nn (by simp)) pR
  ·rcases dJ.mp e1 with e|e1
   .rw[e];simp
   .exact d9 _ (d9 _ e1)
 self:=fun A i s Q E st h=>wpAny_pyIter_zip st.2.1 h
section
variable {X:bS}
def aet(K:bT)(cN:iL):d8:=fun ab H R=>cN ab H fun vs H1=>∃a b xs aw,vs=[.ref a,.ref b]/\c4 K H1 a xs/\hS K H1 b aw/\R (AD K a b xs aw) H1
def Nh{l m:c3}{p:Pos}(bh:jU X "zip")(hm:X.mg "zip"=aA)(aN:jl X [l,m] cN)(hs:xv (eI [l,m] X.env=[(aI,eval l X.env),(aI,eval m X.env)]) z0)(gd:xv (eI [m] X.env=[(aI,eval m X.env)]) z0):
  jV X (.Tuple elts k t5) (.Call (.Name "zip" p) [l,m] [] bc) (aet X.K cN):=by
 intro ar s ab H R ae h;refine Call_ (pI ae bh hm boot_zip (PyProof.Rows.callWith_type1 (dg (aN bc ar s ab H (fun vs H1=>∃a b xs aw,vs=[.ref a,.ref b]/\c4 X.K H1 a xs/\hS X.K H1 b aw/\R (AD X.K a b xs aw) H1) ae h) fun us s1 ⟨vs,H1,bC,b9,cn⟩=>?_) (by rw[hs,gd]) (by rw[gd];rfl)));obtain⟨a,b,xs,aw,rfl,p6,nE,q⟩:=cn;obtain⟨ir,ed,rfl,sO,fh⟩:=vals2 b9;obtain rfl:ir=ax.ref a:=sO;obtain rfl:ed=ax.ref b:=fh;obtain⟨i3,qn,c8,zB⟩:=bC.list p6;obtain⟨fN,qo,cS,zC⟩:=bC.tuple nE;have bJ:a<s1.heap.objs.size:=by obtain⟨o,aK,_⟩:=c8.isList;exact fI aK
 have bZ:b<s1.heap.objs.size:=by obtain⟨o,aK,_⟩:=f9 cS;exact fI aK
 refine U8 c8.isList (f9 cS) fun h' d6 d2 jB o7 na ck=>?_;have cW:Inv X ar ab H1 {s1 with heap:=h'}:=bC.kept (t':=s1.toks) ck;refine wpAny_pyIter_zip d6 ?_;refine⟨_,_,_,_,H1,I,cW,aap a b _ _ _ _ _ xs aw (hU bJ) (hU (Nat.lt_succ_of_lt bZ)) (akh bJ bZ),⟨UF _,d6,d2,⟨_,_,jB⟩,o7,na⟩,fun c hc=>?_,q⟩
 have lU:s1.heap.objs.size<=c:=by
  rcases dJ.mp hc with e|hc
  .rw[e];exact Nat.le_add_right ..
  rcases dJ.mp hc with e|hc
  .rw[e];exact Nat.le_add_right ..
  rcases dJ.mp hc with e|hc
  .rw[e];exact Nat.le_add_right ..
  rcases dJ.mp hc with e|hc
  .rw[e];exact cR _
  .rw[eB.mp hc];exact Nat.le_succ _
 exact bC.qV lU (bC.aF.fresh lU)
end
def Ms{b:ag}{Q:bI}{D:ag}(iP:Nat->V)(S:St->Prop)(bX:min xs.length aw.length<=100000)(bb:S fO)(b2:H D=aA)(mz:c4 K H a xs)(gE:hS K H b aw)
  (aP:∀i x y,xs[i]?=J x->aw[i]?=J y->∀b0 H1 T,S b0->et H H1->H1 T=aA->∀R:St->V->aq->Prop,(∀bD b5,S bD->et (upd H1 T (.tup [x,y])) b5->R bD (iP i) b5)->g (.ref T) b0 (upd H1 T (.tup [x,y])) fun bD az=>cT bD az fun z b5=>R bD z b5)
  (bl:∀H':aq,et H H'->H' D=J (.lst ((List.range (min xs.length aw.length)).map iP))->Q (.ref D) H') :
  mK (AD K a b xs aw) g oX cT Q fO H D:=by
 refine⟨fun i m b0 az=>i<=min xs.length aw.length/\m=min xs.length aw.length-i/\S b0/\et H az/\az D=J (.lst ((List.range i).map iP)),⟨min xs.length aw.length,UF _,I,bb,cZ b2,aB⟩,?_⟩;rintro i m b0 az ⟨ai,rfl,aj,hs,kQ⟩;have cn:=hs.seq mz;have b8:hS K az b aw:=gE.elim (fun e =>.inl (e.elim (fun e =>.inl (hs _ _ e)) fun⟨o,e⟩ =>.inr ⟨o,hs _ _ e⟩)) .inr;rcases h4 i (min xs.length aw.length)with z|z
 ·refine .inr ⟨⟨cn,b8,z⟩,?_⟩;rintro x b5 ⟨T,u,v,bW,cG,cV,rfl,rfl⟩;refine aP i u v cG cV b0 az T aj hs bW (fun bD y ek=>∃zs b6,ek D=J (.lst zs)/\zs.length<cp/\b6<min xs.length aw.length-i/\(i+1<=min xs.length aw.length/\b6=min xs.length aw.length-(i+1)/\S bD/\et H (upd ek D (.lst (zs++[y])))/\upd ek D (.lst (zs++[y])) D=J (.lst ((List.range (i+1)).map iP)))) fun bD ek gh tN=>?_;have I3:D≠T:=fun e=>by rw[e,bW]at kQ;cases kQ
  refine⟨(List.range i).map iP,min xs.length aw.length-(i+1),tN _ _ (by rw[bx I3];exact kQ),?_,by lia,by lia,rfl,gh,?_,?_⟩
  ·rw[cd,k8];exact fz (show i<100000 by lia) (by decide)
  ·intro c o e;rw[bx (hz e b2)];refine tN c o ?_;rw[bx (fun e'=>by rw[e',hs.free bW]at e;cases e)];exact hs c o e
  .rw[aB,List.range_succ,fR];rfl
 ·have e:i=min xs.length aw.length:=by lia
  subst e;exact .inl ⟨⟨cn,b8,cR _⟩,bl az hs kQ⟩
noncomputable def inD(ns:List aa):D->Bool
 |.str s=>ns.any fun n=>n == s
 |_=>aI
noncomputable def Dh(d:D)(u:ax):Bool:=match u with
 |.str n _=>(match d with|.str s=>n == s|_=>aI)
 |_=>aI
theorem NI(d:D):∀{ns:List aa}{us:List ax},Vals (ns.map V.str) us->us.any (Dh d)=inD ns d
 |[],us,h=>by cases h;cases d<;>rfl
 |n::ns,us,h=>by
  obtain⟨u,r,rfl,⟨t,rfl⟩,au⟩:∃u r,us=u::r/\RelV (.str n) u/\Vals (ns.map V.str) r:=by cases h with|cons a b=>exact⟨_,_,I,a,b⟩
  rw[List.any_cons,NI d au];cases d<;>rfl
theorem MO{u:ax}:∀{ns:List aa}{us:List ax},Vals (ns.map V.str) us->u∈us->∃n t,u=.str n t
 |[],us,h,cG=>by cases h;cases cG
 |n::ns,us,h,cG=>by
  obtain⟨v,r,rfl,⟨t,rfl⟩,au⟩:∃u r,us=u::r/\RelV (.str n) u/\Vals (ns.map V.str) r:=by cases h with|cons a b=>exact⟨_,_,I,a,b⟩
  rcases dJ.mp cG with rfl|cG
  .exact⟨n,t,I⟩
  .exact MO au cG
section
variable {X:bS}
def TF(cG:X.A.units+64<cLine):ef X (h3 .NotIn) (fun x y H Q=>∃p ns d,y=.ref p/\c4 X.K H p (ns.map V.str)/\dZ H d x/\Q (.aS (!inD ns d)) H):=by
 intro ar s ab H x y v u Q ae bH cX h;obtain⟨p,ns,d,rfl,bl,hd,q⟩:=h;cases cX;obtain⟨aV,r,pl,bX⟩:=ae.list bl;have so:X.A.in1.units<cLine:=by show X.A.units+1<cLine;lia
 refine SeqAt.notIn_listAt (Dh d) pl.isList (fun w hw=>?_) ⟨.aS _,H,ae,I,?_⟩
 ·obtain⟨n,t,rfl⟩:=MO r (by simpa using hw);cases d with
  |bM=>obtain rfl:x=.bM:=hd;cases bH;exact SeqAt.EqAt.str_none n t
  |aS b=>obtain rfl:x=.aS b:=hd;cases bH;exact SeqAt.EqAt.str_bool n t b
  |int i=>obtain rfl:x=.int i:=hd;obtain⟨t',rfl⟩:=bH;exact SeqAt.EqAt.str_int n t i t'
  |str z=>obtain⟨rfl,_⟩:=hd;obtain⟨t',rfl⟩:=bH;exact SeqAt.EqAt.str_str n t z t'
  |tup ds =>
   obtain⟨a,vs,rfl,e,_⟩:=hd;cases bH;obtain⟨its',ey,vt,_⟩:=ae.tuple (hS.of e);exact SeqAt.EqAt.str_tuple n t (f9 vt) so
  |lst ds =>
   obtain⟨a,vs,rfl,e,_⟩:=hd;cases bH;obtain⟨its',ey,vt,_⟩:=ae.list (c4.of e);exact SeqAt.EqAt.str_list n t vt.isList so
 ·rw[show aV.toArray.any (Dh d)=aV.any (Dh d) by simp,NI d r];exact q
end
variable {f:aU}
def jY{k:Fin 4}(h:slot f=.b k):f=.bare k:=by
 cases f with
 |bare j=>injection h with h;rw[h]
 |sp a b=>cases h
 |le s=>cases h
 |one j f=>cases h
 |two j ns fs=>cases h
def yq(h:slot f=.s):∃a b,f=.sp a b:=by
 cases f with
 |sp a b=>exact⟨a,b,I⟩
 |bare j=>cases h
 |le s=>cases h
 |one j f=>cases h
 |two j ns fs=>cases h
def yr(h:slot f=.l):∃s,f=.le s:=by
 cases f with
 |le s=>exact⟨s,I⟩
 |sp a b=>cases h
 |bare j=>cases h
 |one j f=>cases h
 |two j ns fs=>cases h
def mm{k:Fin 3}(h:slot f=.o k):∃g,f=.one k g:=by
 cases f with
 |one j g=>injection h with h;rw[h];exact⟨g,I⟩
 |sp a b=>cases h
 |bare j=>cases h
 |le s=>cases h
 |two j ns fs=>cases h
def qB{k:Fin 2}(h:slot f=.t k):∃ns fs,f=.two k ns fs:=by
 cases f with
 |two j ns fs=>injection h with h;rw[h];exact⟨ns,fs,I⟩
 |sp a b=>cases h
 |bare j=>cases h
 |le s=>cases h
 |one j f=>cases h
theorem d0.get{c:c9}{X:List ag}{H:aq}:∀(fs:List aU){os:List ag}{i:Nat}{o:ag},d0 c X H fs os->os[i]?=J o->∃f,fs[i]?=J f/\bG c X H f o
 |[],os,i,o,h,e=>by
  obtain rfl:os=[]:=h;cases e
 |f::fs,os,0,o,h,e=>by
  obtain⟨o',r,rfl,q,b8⟩:=h;cases e;exact⟨f,I,q⟩
 |f::fs,os,i+1,o,h,e=>by
  obtain⟨o',r,rfl,q,b8⟩:=h;exact d0.get fs b8 e
theorem CE:∀{fs:List aU}{i:Nat}{f:aU},lp fs->fs[i]?=J f->fE f/\aP f<=dv fs
 |[],i,f,h,e=>by cases e
 |g::fs,0,f,h,e=>by
  cases e;rw[lp]at h;rw[dv];exact⟨h.1,Nat.le_max_left ..⟩
 |g::fs,i+1,f,h,e=>by
  rw[lp]at h;have:=CE h.2 e;rw[dv];exact⟨this.1,c5 this.2 (Nat.le_max_right ..)⟩
def qU:∀k:Fin 4,k=0\/k=1\/k=2\/k=3:=by decide
def pT:∀k:Fin 3,k=0\/k=1\/k=2:=by decide
def mX:∀k:Fin 2,k=0\/k=1:=by decide
section
variable {P:dR} {w:dd} {K:bT} {mg:aa->Option ax} {zn:bR}
structure MethAt(K:bT)(C:ag)(m fj:aa)(st:bo)(aJ:List aa):Prop where
 ex:∃f fd,cU K m fj st f fd/\Binds K fd aJ []/\v5 K C m f
 cl:e7 K C
def iN{C:ag}{m:aa}{st:bo}{sp:cH}(M:MethAt K C m fj st aJ)(h:∀vs H Q E,¬sp vs H Q E):fp P w K mg zn k C m aJ sp:=by
 obtain⟨f,fd,F,al,hm⟩:=M.ex;exact⟨f,fd,⟨fun vs H Q E q=>absurd q (h _ _ _ _),fun A outer s H args us vs Q E _ _ _ _ q=>absurd q (h _ _ _ _)⟩,al,hm⟩
end
mutual
noncomputable def p8(has:fQ->Bool):aU->Prop
 |.bare k=>has (.b k)=ao
 |.sp _ _=>has .s=ao
 |.le _=>has .l=ao
 |.one k f=>has (.o k)=ao/\p8 has f
 |.two k _ fs=>has (.t k)=ao/\tQ has fs
noncomputable def tQ(has:fQ->Bool):List aU->Prop
 |[]=>True
 |f::fs=>p8 has f/\tQ has fs
end
def qj(has:fQ->Bool)(f:aU):Prop:=fE f/\p8 has f
def DZ(has:fQ->Bool)(fs:List aU):Prop:=lp fs/\tQ has fs
variable {has:fQ->Bool}
theorem qj.one{k:Fin 3}(h:qj has (.one k f)):qj has f:=by
 obtain⟨a,b⟩:=h;rw[fE]at a;rw[p8]at b;exact⟨a,b.2⟩
theorem qj.two{k:Fin 2}{fs:List aU}(h:qj has (.two k ns fs)):iQ ns=ao/\ns.length=fs.length/\DZ has fs:=by
 obtain⟨a,b⟩:=h;rw[fE]at a;rw[p8]at b;exact⟨a.1,a.2.1,a.2.2,b.2⟩
theorem MS{has:fQ->Bool}:∀{fs:List aU}{i:Nat}{f:aU},tQ has fs->fs[i]?=J f->p8 has f
 |[],i,f,h,e=>by cases e
 |g::fs,0,f,h,e=>by
  cases e;rw[tQ]at h;exact h.1
 |g::fs,i+1,f,h,e=>by
  rw[tQ]at h;exact MS h.2 e
def DZ.get{fs:List aU}(h:DZ has fs)(e:fs[i]?=J f):qj has f/\aP f<=dv fs :=
 ⟨⟨(CE h.1 e).1,MS h.2 e⟩,(CE h.1 e).2⟩
def UZ{l:List Nat}(h:l[i]?=J c)(hk:∀k,k<i->l[k]?≠J c):l.idxOf c=i:=by
 induction l generalizing i with
 |nil=>cases h
 | cons a r bP =>
  cases i with
  |zero=>cases h;rw[List.idxOf_cons_self]
  |succ i =>
   have aN:a≠c:=fun e=>hk 0 (by lia) (by rw[e];rfl);have al:(a == c)=aI:=by simpa using aN
   rw[List.idxOf_cons,al];show r.idxOf c+1=i+1;rw[bP h fun k oD e=>hk (k+1) (by lia) e]
section
variable {X:bS}
def Z8:sZ X "str.index" (fun x xs H Q=>∃(y:aa)(c:Nat),x=.str y/\xs=[.str ⟨#[c]⟩]/\c∈y.cps.toList/\Q (.int ((y.cps.toList.idxOf c:Nat):Int)) H):=by
 intro ar s ab H x xs v us Q ae bH dK h;obtain⟨y,c,rfl,rfl,hc,q⟩:=h;obtain⟨t,rfl⟩:=bH;obtain⟨u,rfl,t',rfl⟩:=dK.one;rcases StrLaws.occ_head y ⟨#[c]⟩ 1 (cR _)with⟨_,no⟩|⟨i,r,aK,jO,w8⟩
 ·obtain⟨i,aG⟩:=List.getElem?_of_mem hc;exact absurd ((StrLaws.subAt_one y c i).mpr aG) (no i)
 ·have e:=UZ ((StrLaws.subAt_one y c i).mp jO) fun k hk z=>w8 k hk ((StrLaws.subAt_one y c k).mpr z);rw[e]at q;exact call_gives F.slot_str_index (typeIs_str s y t) F.entry_str_index (F.args_str_index_2 _ _) (gives_str_index y ⟨#[c]⟩ t t' i r aK) ⟨.int _,H,ae.tok _,⟨_,I⟩,q⟩
end
end c6
end
section
namespace c6
open PySem PySem.W PySem.Spec PyProof.Rows PySem.SeqAt
noncomputable def aew:D->Bool
 |.bM=>ao
 |_=>aI
noncomputable def N6(a:Bool):D->Bool
 |.aS b=>a == b
 |.int b=>(if a then 1 else 0) == b
 |_=>aI
noncomputable def yP(a:Int):D->Bool
 |.aS b=>a == (if b then 1 else 0)
 |.int b=>a == b
 |_=>aI
noncomputable def jL(a:aa):D->Bool
 |.str b=>a == b
 |_=>aI
noncomputable def lb(g:List D->Bool):D->Bool
 |.tup ds=>g ds
 |_=>aI
noncomputable def pS(g:List D->Bool):D->Bool
 |.lst ds=>g ds
 |_=>aI
mutual
noncomputable def dT:D->D->Bool
 |.bM,d=>aew d
 |.aS a,d=>N6 a d
 |.int a,d=>yP a d
 |.str a,d=>jL a d
 |.tup as,d=>lb (eo as) d
 |.lst as,d=>pS (eo as) d
noncomputable def eo:List D->List D->Bool
 |[],ds=>ds.isEmpty
 |a::as,ds=>match ds with|[]=>aI|d::ds=>dT a d&&eo as ds
end
mutual
noncomputable def fK:D->Nat
 |.bM=>1
 |.aS _=>1
 |.int _=>1
 |.str _=>1
 |.tup ds=>gb ds+1
 |.lst ds=>gb ds+1
noncomputable def gb:List D->Nat
 |[]=>0
 |d::ds=>max (fK d) (gb ds)
end
def VY(d:D):1<=fK d:=by cases d<;>rw[fK]<;>lia
theorem CO{d:D}{n:Nat}:∀{ds:List D},d∈ds->gb ds<=n->fK d<=n
 |[],h,_=>by cases h
 |e::ds,h,bj=>by
  rw[gb]at bj;rcases dJ.mp h with rfl|h
  .omega
  .exact CO h (by lia)
mutual
theorem T2:∀d:D,dT d d=ao
 |.bM=>by rw[dT];rfl
 |.aS b=>by rw[dT];show(b == b)=ao;exact beq_self_eq_true b
 |.int b=>by rw[dT];show(b == b)=ao;exact beq_self_eq_true b
 |.str b=>by rw[dT];show(b == b)=ao;exact beq_self_eq_true b
 |.tup ds=>by rw[dT];exact yj ds
 |.lst ds=>by rw[dT];exact yj ds
theorem yj:∀ds:List D,eo ds ds=ao
 |[]=>by rw[eo];rfl
 |d::ds=>by
  rw[eo];show(dT d d&&eo ds ds)=ao;rw[T2 d,yj ds];rfl
end
theorem CN:∀(ds aZ:List D),eo ds aZ=((List.range (min ds.length aZ.length)).all (fun j=>dT (ds.getD j .bM) (aZ.getD j .bM))&&ds.length == aZ.length)
 |[],aZ=>by
  rw[eo];cases aZ<;>simp
 |d::ds,[]=>by rw[eo];simp
 |d::ds,e::aZ=>by
  rw[eo];show(dT d e&&eo ds aZ)=_;rw[CN ds aZ,dW,dW,Nat.succ_min_succ,List.range_succ_eq_map,List.all_cons,List.all_map];have aQ:(ds.length+1 == aZ.length+1)=(ds.length == aZ.length):=by rw[Bool.eq_iff_iff];simp
  rw[aQ,Bool.and_assoc];rfl
mutual
theorem dZ.inj{H:aq}:∀(d d':D){v:V},dZ H d v->dZ H d' v->d=d'
 |.bM,d',v,h,h'=>by
  obtain rfl:v=.bM:=h;cases d' with
  |bM=>rfl
  |aS b=>cases(show V.bM=V.aS b from h')
  |int b=>cases(show V.bM=V.int b from h')
  |str b=>cases h'.1
  |tup ds=>obtain⟨a,vs,z,_⟩:=h';cases z
  |lst ds=>obtain⟨a,vs,z,_⟩:=h';cases z
 |.aS b,d',v,h,h'=>by
  obtain rfl:v=.aS b:=h;cases d' with
  |bM=>cases(show V.aS b=V.bM from h')
  |aS c=>have z:V.aS b=V.aS c:=h';injection z with z;rw[z]
  |int c=>cases(show V.aS b=V.int c from h')
  |str c=>cases h'.1
  |tup ds=>obtain⟨a,vs,z,_⟩:=h';cases z
  |lst ds=>obtain⟨a,vs,z,_⟩:=h';cases z
 |.int b,d',v,h,h'=>by
  obtain rfl:v=.int b:=h;cases d' with
  |bM=>cases(show V.int b=V.bM from h')
  |int c=>have z:V.int b=V.int c:=h';injection z with z;rw[z]
  |aS c=>cases(show V.int b=V.aS c from h')
  |str c=>cases h'.1
  |tup ds=>obtain⟨a,vs,z,_⟩:=h';cases z
  |lst ds=>obtain⟨a,vs,z,_⟩:=h';cases z
 |.str b,d',v,h,h'=>by
  obtain⟨rfl,_⟩:=h;cases d' with
  |bM=>cases(show V.str b=V.bM from h')
  |int c=>cases(show V.str b=V.int c from h')
  |aS c=>cases(show V.str b=V.aS c from h')
  |str c=>have z:=h'.1;injection z with z;rw[z]
  |tup ds=>obtain⟨a,vs,z,_⟩:=h';cases z
  |lst ds=>obtain⟨a,vs,z,_⟩:=h';cases z
 |.tup ds,d',v,h,h'=>by
  obtain⟨a,vs,rfl,cD,hs,_⟩:=h;cases d' with
  |bM=>cases(show V.ref a=V.bM from h')
  |int c=>cases(show V.ref a=V.int c from h')
  |aS c=>cases(show V.ref a=V.aS c from h')
  |str c=>cases h'.1
  |tup aZ=>obtain⟨b,ws,z,eE,kS,_⟩:=h';cases z;rw[cD]at eE;cases eE;rw[dw.inj ds aZ hs kS]
  |lst aZ=>obtain⟨b,ws,z,eE,kS,_⟩:=h';cases z;rw[cD]at eE;cases eE
 |.lst ds,d',v,h,h'=>by
  obtain⟨a,vs,rfl,cD,hs,_⟩:=h;cases d' with
  |bM=>cases(show V.ref a=V.bM from h')
  |int c=>cases(show V.ref a=V.int c from h')
  |aS c=>cases(show V.ref a=V.aS c from h')
  |str c=>cases h'.1
  |tup aZ=>obtain⟨b,ws,z,eE,kS,_⟩:=h';cases z;rw[cD]at eE;cases eE
  |lst aZ=>obtain⟨b,ws,z,eE,kS,_⟩:=h';cases z;rw[cD]at eE;cases eE;rw[dw.inj ds aZ hs kS]
theorem dw.inj{H:aq}:∀(ds aZ:List D){vs:List V},dw H ds vs->dw H aZ vs->ds=aZ
 |[],aZ,vs,h,h'=>by
  obtain rfl:vs=[]:=h;cases aZ with
  |nil=>rfl
  |cons e aZ=>obtain⟨v,r,z,_⟩:=h';cases z
 | d::ds,aZ,vs,h,h'=>by
  obtain⟨v,r,rfl,q,b8⟩:=h;cases aZ with
  |nil=>cases(show v::r=[]from h')
  |cons e aZ =>
   obtain⟨qt,ey,z,j4,afQ⟩:=h';cases z;rw[dZ.inj d e q j4,dw.inj ds aZ b8 afQ]
end
section
variable {X:bS} {ar:List (ag×cE)} {ab:St} {H:aq} {s:aT} {A:ee} {a1 a2:ag} {hX hh:List D} {o2 jz:List V}
def MI{i3 fN:List ax}(b9:Vals o2 i3)(ej:Vals jz fN)(ai:dw H hX o2)(aj:dw H hh jz)
  (he:∀(e aR:D)(w k1:V)(x gT:ax),e∈hX->dZ H e w->dZ H aR k1->RelV w x->RelV k1 gT->EqAt A s x gT (dT e aR)) :
  ∀j(ai:j<i3.toArray.size)(aj:j<fN.toArray.size),EqAt A s i3.toArray[j] fN.toArray[j] (dT (hX.getD j .bM) (hh.getD j .bM)):=by
 intro j bJ bZ;rw[eg]at bJ bZ;have aQ:=b9.length;have aR:=ej.length;have g1:o2[j]?=J (o2[j]'(by lia)):=cw (by lia);have g2:jz[j]?=J (jz[j]'(by lia)):=cw (by lia);obtain⟨ir,so,sO⟩:=b9.get g1;obtain⟨ed,sq,fh⟩:=ej.get g2;obtain⟨gO,sf,ve⟩:=dw.get hX ai g1;obtain⟨hg,er,vf⟩:=dw.get hh aj g2
 have dC:i3.toArray[j]'(by rw[eg];exact bJ)=ir:=by
  rw[List.getElem_toArray];rw[cw bJ]at so;exact ie so
 have df:fN.toArray[j]'(by rw[eg];exact bZ)=ed:=by
  rw[List.getElem_toArray];rw[cw bZ]at sq;exact ie sq
 rw[dC,df,eR,eR,sf,er];exact he gO hg _ _ ir ed (jc sf) ve vf sO fh
def aiA(ae:Inv X ar ab H s)(cG:A.units<cLine)(aQ:H a1=J (.tup o2))(aR:H a2=J (.tup jz))(ai:dw H hX o2)(aj:dw H hh jz)
  (he:∀(e aR:D)(w k1:V)(x gT:ax),e∈hX->dZ H e w->dZ H aR k1->RelV w x->RelV k1 gT->EqAt A.in1 s x gT (dT e aR)) :
  RcAt A s (.ref a1) (.ref a2) (eo hX hh)/\RcNeAt A s (.ref a1) (.ref a2) (!eo hX hh):=by
 obtain⟨i3,b9,c8,_⟩:=ae.tuple (hS.of aQ);obtain⟨fN,ej,cS,_⟩:=ae.tuple (hS.of aR);have bJ:i3.toArray.size=hX.length:=by rw[eg,<-b9.length];exact dw.len hX ai
 have bZ:fN.toArray.size=hh.length:=by rw[eg,<-ej.length];exact dw.len hh aj
 have E:=MI b9 ej ai aj he;have kx:=RcAt.tuples (f9 c8) (f9 cS) cG E;have xI:=RcNeAt.tuples (f9 c8) (f9 cS) cG E;rw[bJ,bZ,<-CN]at kx xI;exact⟨kx,xI⟩
def aiz(ae:Inv X ar ab H s)(cG:A.units<cLine)(aQ:H a1=J (.lst o2))(aR:H a2=J (.lst jz))(ai:dw H hX o2)(aj:dw H hh jz)
  (he:∀(e aR:D)(w k1:V)(x gT:ax),e∈hX->dZ H e w->dZ H aR k1->RelV w x->RelV k1 gT->EqAt A.in1 s x gT (dT e aR)) :
  RcAt A s (.ref a1) (.ref a2) (eo hX hh)/\RcNeAt A s (.ref a1) (.ref a2) (!eo hX hh):=by
 obtain⟨i3,b9,c8,_⟩:=ae.list (c4.of aQ);obtain⟨fN,ej,cS,_⟩:=ae.list (c4.of aR);have bJ:i3.toArray.size=hX.length:=by rw[eg,<-b9.length];exact dw.len hX ai
 have bZ:fN.toArray.size=hh.length:=by rw[eg,<-ej.length];exact dw.len hh aj
 have E:=MI b9 ej ai aj he;by_cases z:hX.length=hh.length
 ·have kx:=RcAt.lists c8.isList cS.isList (by rw[bJ,bZ,z]) cG E;have xI:=RcNeAt.lists c8.isList cS.isList (by rw[bJ,bZ,z]) cG E;have G:=CN hX hh;rw[z,Nat.min_self,beq_self_eq_true,Bool.and_true]at G;rw[bJ,z,<-G]at kx xI;exact⟨kx,xI⟩
 ·have G:=CN hX hh;rw[beq_false_of_ne z,Bool.and_false]at G;rw[G];have hB:(i3.toArray.size != fN.toArray.size)=ao:=by rw[bJ,bZ];simpa using z
  exact⟨RcAt.lists_lengths c8.isList cS.isList hB cG,RcNeAt.lists_lengths c8.isList cS.isList hB cG⟩
def VV(ae:Inv X ar ab H s):∀(n:Nat){gO hg:D}{v1 v2:V}{ir ed:ax}{A:ee},fK gO<=n->dZ H gO v1->dZ H hg v2->RelV v1 ir->RelV v2 ed->A.units+n<cLine->EqAt A s ir ed (dT gO hg)/\RcAt A s ir ed (dT gO hg)/\RcNeAt A s ir ed (!dT gO hg):=by
 intro n
 induction n with
 |zero =>
  intro gO hg v1 v2 ir ed A bj;have:=VY gO;lia
 | succ n bP =>
  intro gO hg v1 v2 ir ed A bj hd er fo fh cG;have ai:A.units<cLine:=by lia
  have aj:A.in1.units+n<cLine:=by show A.units+1+n<cLine;lia
  cases gO with
  | bM =>
   obtain rfl:v1=.bM:=hd;obtain rfl:ir=.none:=fo;rw[dT];cases hg with
   |bM =>
    obtain rfl:v2=.bM:=er;obtain rfl:ed=.none:=fh;exact⟨.same _,.none_none,.none_none⟩
   |aS gm =>
    obtain rfl:v2=.aS gm:=er;obtain rfl:ed=.bool gm:=fh;exact⟨.none_bool _,.none_bool _,.none_bool _⟩
   |int df =>
    obtain rfl:v2=.int df:=er;obtain⟨f6,rfl⟩:∃t,ed=.int df t:=fh;exact⟨.none_int _ _,.none_int _ _,.none_int _ _⟩
   |str gT =>
    obtain⟨rfl,_⟩:v2=.str gT/\_:=er;obtain⟨f6,rfl⟩:∃t,ed=.str gT t:=fh;exact⟨.none_str _ _,.none_str _ _,.none_str _ _⟩
   |tup hh =>
    obtain⟨a2,jz,rfl,hY,gd,_⟩:=er;obtain rfl:ed=.ref a2:=fh;obtain⟨fN,b8,cS,_⟩:=ae.tuple (hS.of hY);exact⟨.none_tuple (f9 cS) ai,.none_tuple (f9 cS) ai,.none_tuple (f9 cS) ai⟩
   |lst hh =>
    obtain⟨a2,jz,rfl,hY,gd,_⟩:=er;obtain rfl:ed=.ref a2:=fh;obtain⟨fN,b8,cS,_⟩:=ae.list (c4.of hY);exact⟨.none_list cS.isList ai,.none_list cS.isList ai,.none_list cS.isList ai⟩
  | aS jo =>
   obtain rfl:v1=.aS jo:=hd;obtain rfl:ir=.bool jo:=fo;rw[dT];cases hg with
   |bM =>
    obtain rfl:v2=.bM:=er;obtain rfl:ed=.none:=fh;exact⟨.bool_none _,.bool_none _,.bool_none _⟩
   |aS gm =>
    obtain rfl:v2=.aS gm:=er;obtain rfl:ed=.bool gm:=fh;exact⟨.bool_bool _ _,.bool_bool _ _,.bool_bool _ _⟩
   |int df =>
    obtain rfl:v2=.int df:=er;obtain⟨f6,rfl⟩:∃t,ed=.int df t:=fh;exact⟨.bool_int _ _ _,.bool_int _ _ _,.bool_int _ _ _⟩
   |str gT =>
    obtain⟨rfl,_⟩:v2=.str gT/\_:=er;obtain⟨f6,rfl⟩:∃t,ed=.str gT t:=fh;exact⟨.bool_str _ _ _,.bool_str _ _ _,.bool_str _ _ _⟩
   |tup hh =>
    obtain⟨a2,jz,rfl,hY,gd,_⟩:=er;obtain rfl:ed=.ref a2:=fh;obtain⟨fN,b8,cS,_⟩:=ae.tuple (hS.of hY);exact⟨.bool_tuple _ (f9 cS) ai,.bool_tuple _ (f9 cS) ai,.bool_tuple _ (f9 cS) ai⟩
   |lst hh =>
    obtain⟨a2,jz,rfl,hY,gd,_⟩:=er;obtain rfl:ed=.ref a2:=fh;obtain⟨fN,b8,cS,_⟩:=ae.list (c4.of hY);exact⟨.bool_list _ cS.isList ai,.bool_list _ cS.isList ai,.bool_list _ cS.isList ai⟩
  | int dC =>
   obtain rfl:v1=.int dC:=hd;obtain⟨t1,rfl⟩:∃t,ir=.int dC t:=fo;rw[dT];cases hg with
   |bM =>
    obtain rfl:v2=.bM:=er;obtain rfl:ed=.none:=fh;exact⟨.int_none _ _,.int_none _ _,.int_none _ _⟩
   |aS gm =>
    obtain rfl:v2=.aS gm:=er;obtain rfl:ed=.bool gm:=fh;exact⟨.int_bool _ _ _,.int_bool _ _ _,.int_bool _ _ _⟩
   |int df =>
    obtain rfl:v2=.int df:=er;obtain⟨f6,rfl⟩:∃t,ed=.int df t:=fh;exact⟨.int_int _ _ _ _,.int_int _ _ _ _,.int_int _ _ _ _⟩
   |str gT =>
    obtain⟨rfl,_⟩:v2=.str gT/\_:=er;obtain⟨f6,rfl⟩:∃t,ed=.str gT t:=fh;exact⟨.int_str _ _ _ _,.int_str _ _ _ _,.int_str _ _ _ _⟩
   |tup hh =>
    obtain⟨a2,jz,rfl,hY,gd,_⟩:=er;obtain rfl:ed=.ref a2:=fh;obtain⟨fN,b8,cS,_⟩:=ae.tuple (hS.of hY);exact⟨.int_tuple _ _ (f9 cS) ai,.int_tuple _ _ (f9 cS) ai,.int_tuple _ _ (f9 cS) ai⟩
   |lst hh =>
    obtain⟨a2,jz,rfl,hY,gd,_⟩:=er;obtain rfl:ed=.ref a2:=fh;obtain⟨fN,b8,cS,_⟩:=ae.list (c4.of hY);exact⟨.int_list _ _ cS.isList ai,.int_list _ _ cS.isList ai,.int_list _ _ cS.isList ai⟩
  | str rv =>
   obtain⟨rfl,_⟩:v1=.str rv/\_:=hd;obtain⟨t1,rfl⟩:∃t,ir=.str rv t:=fo;rw[dT];cases hg with
   |bM =>
    obtain rfl:v2=.bM:=er;obtain rfl:ed=.none:=fh;exact⟨.str_none _ _,.str_none _ _,.str_none _ _⟩
   |aS gm =>
    obtain rfl:v2=.aS gm:=er;obtain rfl:ed=.bool gm:=fh;exact⟨.str_bool _ _ _,.str_bool _ _ _,.str_bool _ _ _⟩
   |int df =>
    obtain rfl:v2=.int df:=er;obtain⟨f6,rfl⟩:∃t,ed=.int df t:=fh;exact⟨.str_int _ _ _ _,.str_int _ _ _ _,.str_int _ _ _ _⟩
   |str gT =>
    obtain⟨rfl,_⟩:v2=.str gT/\_:=er;obtain⟨f6,rfl⟩:∃t,ed=.str gT t:=fh;exact⟨.str_str _ _ _ _,.str_str _ _ _ _,.str_str _ _ _ _⟩
   |tup hh =>
    obtain⟨a2,jz,rfl,hY,gd,_⟩:=er;obtain rfl:ed=.ref a2:=fh;obtain⟨fN,b8,cS,_⟩:=ae.tuple (hS.of hY);exact⟨.str_tuple _ _ (f9 cS) ai,.str_tuple _ _ (f9 cS) ai,.str_tuple _ _ (f9 cS) ai⟩
   |lst hh =>
    obtain⟨a2,jz,rfl,hY,gd,_⟩:=er;obtain rfl:ed=.ref a2:=fh;obtain⟨fN,b8,cS,_⟩:=ae.list (c4.of hY);exact⟨.str_list _ _ cS.isList ai,.str_list _ _ cS.isList ai,.str_list _ _ cS.isList ai⟩
  | tup hX =>
   obtain⟨a1,o2,rfl,tw,eW,_⟩:=hd;obtain rfl:ir=.ref a1:=fo;obtain⟨i3,cn,c8,_⟩:=ae.tuple (hS.of tw);rw[dT];cases hg with
   |bM =>
    obtain rfl:v2=.bM:=er;obtain rfl:ed=.none:=fh;exact⟨.tuple_none (f9 c8) ai,.tuple_none (f9 c8) ai,.tuple_none (f9 c8) ai⟩
   |aS gm =>
    obtain rfl:v2=.aS gm:=er;obtain rfl:ed=.bool gm:=fh;exact⟨.tuple_bool _ (f9 c8) ai,.tuple_bool _ (f9 c8) ai,.tuple_bool _ (f9 c8) ai⟩
   |int df =>
    obtain rfl:v2=.int df:=er;obtain⟨f6,rfl⟩:∃t,ed=.int df t:=fh;exact⟨.tuple_int _ _ (f9 c8) ai,.tuple_int _ _ (f9 c8) ai,.tuple_int _ _ (f9 c8) ai⟩
   |str gT =>
    obtain⟨rfl,_⟩:v2=.str gT/\_:=er;obtain⟨f6,rfl⟩:∃t,ed=.str gT t:=fh;exact⟨.tuple_str _ _ (f9 c8) ai,.tuple_str _ _ (f9 c8) ai,.tuple_str _ _ (f9 c8) ai⟩
   | tup hh =>
    obtain⟨a2,jz,rfl,hY,gd,_⟩:=er;obtain rfl:ed=.ref a2:=fh;obtain⟨fN,b8,cS,_⟩:=ae.tuple (hS.of hY);have R:=aiA ae ai tw hY eW gd fun e aR w k1 x gT hm g g2 r ej=>(bP (CO hm (by rw[fK]at bj;lia)) g g2 r ej aj).1;refine⟨?_,R⟩;by_cases z:a1=a2
    ·subst z;obtain rfl:hX=hh:=by have fg:=dZ.inj (.tup hX) (.tup hh) (v :=.ref a1) ⟨a1,o2,rfl,tw,eW,‹_›⟩ ⟨a1,jz,rfl,hY,gd,‹_›⟩;injection fg
     show EqAt A s _ _ (eo hX hX);rw[yj];exact .same _
    .exact .of_refs z R.1
   |lst hh =>
    obtain⟨a2,jz,rfl,hY,gd,_⟩:=er;obtain rfl:ed=.ref a2:=fh;obtain⟨fN,b8,cS,_⟩:=ae.list (c4.of hY);exact⟨.tuple_list (f9 c8) cS.isList ai,.tuple_list (f9 c8) cS.isList ai,.tuple_list (f9 c8) cS.isList ai⟩
  | lst hX =>
   obtain⟨a1,o2,rfl,tw,eW,_⟩:=hd;obtain rfl:ir=.ref a1:=fo;obtain⟨i3,cn,c8,_⟩:=ae.list (c4.of tw);rw[dT];cases hg with
   |bM =>
    obtain rfl:v2=.bM:=er;obtain rfl:ed=.none:=fh;exact⟨.list_none c8.isList ai,.list_none c8.isList ai,.list_none c8.isList ai⟩
   |aS gm =>
    obtain rfl:v2=.aS gm:=er;obtain rfl:ed=.bool gm:=fh;exact⟨.list_bool _ c8.isList ai,.list_bool _ c8.isList ai,.list_bool _ c8.isList ai⟩
   |int df =>
    obtain rfl:v2=.int df:=er;obtain⟨f6,rfl⟩:∃t,ed=.int df t:=fh;exact⟨.list_int _ _ c8.isList ai,.list_int _ _ c8.isList ai,.list_int _ _ c8.isList ai⟩
   |str gT =>
    obtain⟨rfl,_⟩:v2=.str gT/\_:=er;obtain⟨f6,rfl⟩:∃t,ed=.str gT t:=fh;exact⟨.list_str _ _ c8.isList ai,.list_str _ _ c8.isList ai,.list_str _ _ c8.isList ai⟩
   |tup hh =>
    obtain⟨a2,jz,rfl,hY,gd,_⟩:=er;obtain rfl:ed=.ref a2:=fh;obtain⟨fN,b8,cS,_⟩:=ae.tuple (hS.of hY);exact⟨.list_tuple c8.isList (f9 cS) ai,.list_tuple c8.isList (f9 cS) ai,.list_tuple c8.isList (f9 cS) ai⟩
   | lst hh =>
    obtain⟨a2,jz,rfl,hY,gd,_⟩:=er;obtain rfl:ed=.ref a2:=fh;obtain⟨fN,b8,cS,_⟩:=ae.list (c4.of hY);have R:=aiz ae ai tw hY eW gd fun e aR w k1 x gT hm g g2 r ej=>(bP (CO hm (by rw[fK]at bj;lia)) g g2 r ej aj).1;refine⟨?_,R⟩;by_cases z:a1=a2
    ·subst z;obtain rfl:hX=hh:=by have fg:=dZ.inj (.lst hX) (.lst hh) (v :=.ref a1) ⟨a1,o2,rfl,tw,eW,‹_›⟩ ⟨a1,jz,rfl,hY,gd,‹_›⟩;injection fg
     show EqAt A s _ _ (eo hX hX);rw[yj];exact .same _
    .exact .of_refs z R.1
def Wh(cG:X.A.units+64<cLine):ef X (h3 .Eq) (fun x y H Q=>∃d d',dZ H d x/\dZ H d' y/\fK d<=60/\Q (.aS (dT d d')) H):=by
 intro ar s ab H x y v u Q ae bH cX h;obtain⟨d,d',hd,y5,bj,q⟩:=h;exact(VV ae 60 bj hd y5 bH cX (by lia)).2.1 _ _ _ _ ⟨.aS _,H,ae,I,q⟩
end
section
variable {X:bS}
noncomputable def PH(cG:X.A.units+64<cLine):=ef.or (dn (X:=X)) (Wh cG)
end
end c6
end
variable {vs:List c6.V} {d:c6.D} {ds:List c6.D}
section
namespace c6
open PySem PySem.W PySem.Spec PyProof.Rows
structure gV where
 has:ag->Prop
noncomputable instance:Membership ag gV:=⟨fun X a=>X.has a⟩
noncomputable def gV.tv(l:ag)(X:gV):gV:=⟨fun a=>a=l\/a∈X⟩
def gV.hd{l:ag}{X:gV}:l∈gV.tv l X :=.inl rfl
def gV.dQ{l:ag}{X:gV}(h:a∈X):a∈gV.tv l X :=.inr h
noncomputable def gV.of(H:aq):gV:=⟨fun a=>∃o,H a=J o⟩
mutual
noncomputable def cg{α:Type}[Membership ag α](X:α)(H:aq):D->V->Prop
 |.bM,v=>v=.bM
 |.aS b,v=>v=.aS b
 |.int i,v=>v=.int i
 |.str s,v=>v=.str s/\s.length<=16000000
 |.tup ds,v=>∃a vs,v=.ref a/\a∉X/\H a=J (.tup vs)/\cQ X H ds vs/\vs.length<=1000
 |.lst ds,v=>∃a vs,v=.ref a/\a∉X/\H a=J (.lst vs)/\cQ X H ds vs/\vs.length<=1000
noncomputable def cQ{α:Type}[Membership ag α](X:α)(H:aq):List D->List V->Prop
 |[],vs=>vs=[]
 |d::ds,vs=>∃v r,vs=v::r/\cg X H d v/\cQ X H ds r
end
mutual
theorem cg.at{α:Type}[Membership ag α]{X:α}{H:aq}:∀(d:D){v:V},cg X H d v->dZ H d v
 |.bM,v,h=>h
 |.aS b,v,h=>h
 |.int i,v,h=>h
 |.str t,v,h=>h
 |.tup ds,v,h=>by
  obtain⟨a,vs,e,n,ec,q,z⟩:=h;exact⟨a,vs,e,ec,cQ.at ds q,z⟩
 |.lst ds,v,h=>by
  obtain⟨a,vs,e,n,ec,q,z⟩:=h;exact⟨a,vs,e,ec,cQ.at ds q,z⟩
theorem cQ.at{α:Type}[Membership ag α]{X:α}{H:aq}:∀(ds:List D){vs:List V},cQ X H ds vs->dw H ds vs
 |[],vs,h=>h
 |d::ds,vs,h=>by
  obtain⟨v,r,e,q,b8⟩:=h;exact⟨v,r,e,cg.at d q,cQ.at ds b8⟩
end
mutual
theorem cg.keep{α:Type}[Membership ag α]{X:α}{H H':aq}(s:∀b u,b∉X->H b=J u->H' b=J u):∀(d:D){v:V},cg X H d v->cg X H' d v
 |.bM,v,h=>h
 |.aS b,v,h=>h
 |.int i,v,h=>h
 |.str t,v,h=>h
 |.tup ds,v,h=>by
  obtain⟨a,vs,e,n,ec,q,z⟩:=h;exact⟨a,vs,e,n,s _ _ n ec,cQ.keep s ds q,z⟩
 |.lst ds,v,h=>by
  obtain⟨a,vs,e,n,ec,q,z⟩:=h;exact⟨a,vs,e,n,s _ _ n ec,cQ.keep s ds q,z⟩
theorem cQ.keep{α:Type}[Membership ag α]{X:α}{H H':aq}(s:∀b u,b∉X->H b=J u->H' b=J u):∀(ds:List D){vs:List V},cQ X H ds vs->cQ X H' ds vs
 |[],vs,h=>h
 |d::ds,vs,h=>by
  obtain⟨v,r,e,q,b8⟩:=h;exact⟨v,r,e,cg.keep s d q,cQ.keep s ds b8⟩
end
mutual
theorem cg.add{X:List ag}{H:aq}{l:ag}(aC:H l=aA):∀(d:D){v:V},cg X H d v->cg (l::X) H d v
 |.bM,v,h=>h
 |.aS b,v,h=>h
 |.int i,v,h=>h
 |.str t,v,h=>h
 |.tup ds,v,h=>by
  obtain⟨a,vs,e,n,ec,q,z⟩:=h;exact⟨a,vs,e,fun y=>(dJ.mp y).elim (fun y=>by rw[y,aC]at ec;cases ec) n,ec,cQ.add aC ds q,z⟩
 |.lst ds,v,h=>by
  obtain⟨a,vs,e,n,ec,q,z⟩:=h;exact⟨a,vs,e,fun y=>(dJ.mp y).elim (fun y=>by rw[y,aC]at ec;cases ec) n,ec,cQ.add aC ds q,z⟩
theorem cQ.add{X:List ag}{H:aq}{l:ag}(aC:H l=aA):∀(ds:List D){vs:List V},cQ X H ds vs->cQ (l::X) H ds vs
 |[],vs,h=>h
 |d::ds,vs,h=>by
  obtain⟨v,r,e,q,b8⟩:=h;exact⟨v,r,e,cg.add aC d q,cQ.add aC ds b8⟩
end
mutual
theorem cg.weak{α:Type}[Membership ag α]{X Y:α}{H:aq}(hs:∀x,x∈X->x∈Y):∀(d:D){v:V},cg Y H d v->cg X H d v
 |.bM,v,h=>h
 |.aS b,v,h=>h
 |.int i,v,h=>h
 |.str t,v,h=>h
 |.tup ds,v,h=>by
  obtain⟨a,vs,e,n,ec,q,z⟩:=h;exact⟨a,vs,e,fun y=>n (hs _ y),ec,cQ.weak hs ds q,z⟩
 |.lst ds,v,h=>by
  obtain⟨a,vs,e,n,ec,q,z⟩:=h;exact⟨a,vs,e,fun y=>n (hs _ y),ec,cQ.weak hs ds q,z⟩
theorem cQ.weak{α:Type}[Membership ag α]{X Y:α}{H:aq}(hs:∀x,x∈X->x∈Y):∀(ds:List D){vs:List V},cQ Y H ds vs->cQ X H ds vs
 |[],vs,h=>h
 |d::ds,vs,h=>by
  obtain⟨v,r,e,q,b8⟩:=h;exact⟨v,r,e,cg.weak hs d q,cQ.weak hs ds b8⟩
end
def cg.same[Membership ag α]{X:α}(s:et H H')(h:cg X H d v):cg X H' d v:=cg.keep (fun b u _ e=>s b u e) d h
def cQ.same[Membership ag α]{X:α}(s:et H H')(h:cQ X H ds vs):cQ X H' ds vs:=cQ.keep (fun b u _ e=>s b u e) ds h
theorem cQ.snoc{α:Type}[Membership ag α]{X:α}{H:aq}{d:D}{v:V}(hd:cg X H d v):∀(ds:List D){vs:List V},cQ X H ds vs->cQ X H (ds++[d]) (vs++[v])
 |[],vs,h=>by
  obtain rfl:vs=[]:=h;exact⟨v,[],I,hd,I⟩
 |e::ds,vs,h=>by
  obtain⟨w,r,rfl,q,b8⟩:=h;exact⟨w,r++[v],I,q,cQ.snoc hd ds b8⟩
end c6
end
section
namespace dU
open PySem PyProof.Rows
section
open PySem.SeqAt
open PySem.AutoSeq1 (wpAny_loadPart')
open PySem.MeetsSeq PySem.MeetsSeq2 PySem.MeetsSeq3 PySem.SeqRoads2
theorem Hi:∀{vs:List ax}{ns:List Int},IntsAre vs ns->∀i(h:i<vs.length),∃x t,vs[i]?=J (.int x t)/\ns.drop i=x::ns.drop (i+1)
 |_,_,.nil,i,h=>absurd h (Nat.not_lt_zero _)
 |_,_,.cons x t r,0,h=>⟨x,t,rfl,rfl⟩
 |_,_,.cons x t r,i+1,h=>Hi r i (Nat.lt_of_succ_lt_succ h)
def VK(l b:ag)(items items2:Array ax)(n dm:Nat)(pN wG:Option ag)(eY xt:Array (Option ax))(ns ms:List Int)(aG:IntsAre items.toList ns)(cj:IntsAre items2.toList ms)(k:Nat):
  ∀i:Nat,items.size-i=k->i<=items.size->i<=items2.size->Meets (dI.«list.__eq__.loop» ⟨[.ref l,.ref b,rawInt i,rawInt 0],[]⟩)
   (fun A R s=>s.heap.get? l=J {cls :=.type "list",dict:=pN,data :=.seq items n,slots:=eY}/\s.heap.get? b=J {cls :=.type "list",dict:=wG,data :=.seq items2 dm,slots:=xt}/\R (.ok (.ret (.bool (lexLt (ns.drop i) (ms.drop i))))) s):=by
 have d6:items.size=ns.length:=by rw[<-aG.length];simp
 have d2:items2.size=ms.length:=by rw[<-cj.length];simp
 induction k with
 | zero =>
  intro i hk ai aj prog w A R s h;obtain⟨aX,g,d,dP,os⟩:=s;obtain⟨aC,al,h⟩:=h
  wp_walk using wpAny_loadPart' aC,wpAny_loadPart' al
  have DB:items[((i:Nat):Int).toNat]?=aA:=by simp;lia
  rw[DB]
  wp_walk using wpAny_loadPart' aC,wpAny_loadPart' al
  have aQ:ns.drop i=[]:=List.drop_eq_nil_of_le (by lia)
  have e:lexLt (ns.drop i) (ms.drop i)=decide (items.size<items2.size):=by
   rw[aQ];cases hd:ms.drop i with
   |nil =>
    have:=congrArg List.length hd;rw[lF,List.length_nil]at this;exact(e8 (by lia)).symm
   |cons y r =>
    have:=congrArg List.length hd;rw[lF,dW]at this;exact(eK (by lia)).symm
  rw[e]at h;exact h
 | succ k bP =>
  intro i hk ai aj prog w A R s h;obtain⟨aX,g,d,dP,os⟩:=s;obtain⟨aC,al,h⟩:=h;have iS:i<items.size:=by lia
  obtain⟨x,t,av,ex⟩:=Hi aG i (by simpa using iS);have av:items[i]?=J (.int x t):=by simpa using av
  wp_walk using wpAny_loadPart' aC,wpAny_loadPart' al
  have DB:items[((i:Nat):Int).toNat]?=J (.int x t):=by simpa using av
  rw[DB];by_cases bt:i<items2.size
  ·obtain⟨y,u,ba,r3⟩:=Hi cj i (by simpa using bt);have ba:items2[i]?=J (.int y u):=by simpa using ba
   have nz:items2[((i:Nat):Int).toNat]?=J (.int y u):=by simpa using ba
   have hc:((i:Int)+1)=((i+1:Nat):Int):=by lia
   rw[nz];rw[ex,r3,zI]at h;refine cO (EqAt.int_int x t y u prog w _ _ ?_);cases se:(x == y)with
   | true =>
    have DN:x=y:=by simpa using se
    rw[if_pos DN]at h
    wp_walk
    rw[hc]
    exact⟨plainId_quiet plain_eq_loop _,codeAny_builtin entry_eq_loop (by
     rw[ee.under_plainId plain_eq_loop _]
     exact bP (i+1) (by lia) (by lia) (by lia) prog w A R _ ⟨aC,al,h⟩)⟩
   |false =>
    have DN:¬x=y:=by simpa using se
    rw[if_neg DN]at h
    wp_walk using wpAny_loadPart' aC,wpAny_loadPart' al
    rw[DB,nz];refine cO (Uz _ _ x t y u prog w _ _ ?_)
    wp_walk
    exact h
  ·have nz:items2[((i:Nat):Int).toNat]?=aA:=by simp;lia
   rw[nz]
   wp_walk using wpAny_loadPart' aC,wpAny_loadPart' al
   have aR:ms.drop i=[]:=List.drop_eq_nil_of_le (by lia)
   have e:lexLt (ns.drop i) (ms.drop i)=decide (items.size<items2.size):=by
    rw[aR,ex,Ym];exact(e8 (by lia)).symm
   rw[e]at h;exact h
def aeJ(l b:ag)(items items2:Array ax)(n dm:Nat)(pN wG:Option ag)(eY xt:Array (Option ax))(ns ms:List Int)(aG:IntsAre items.toList ns)(cj:IntsAre items2.toList ms):
  Meets (dI.«list.__lt__» ⟨[.ref l,.ref b],[]⟩)
   (fun A R s=>s.heap.get? l=J {cls :=.type "list",dict:=pN,data :=.seq items n,slots:=eY}/\s.heap.get? b=J {cls :=.type "list",dict:=wG,data :=.seq items2 dm,slots:=xt}/\R (.ok (.ret (.bool (lexLt ns ms)))) s):=by
 intro prog w A R s h;obtain⟨aX,g,d,dP,os⟩:=s;obtain⟨aC,al,h⟩:=h;have h8:=AutoSeq1.sub_list_list
 wp_walk using wpAny_loadPart' aC,wpAny_loadPart' al
 exact⟨plainId_quiet plain_eq_loop _,codeAny_builtin entry_eq_loop (by
  rw[ee.under_plainId plain_eq_loop _]
  exact VK l b items items2 n dm pN wG eY xt ns ms aG cj _ 0 I (UF _) (UF _) prog w A R _ ⟨aC,al,h⟩)⟩
end
end dU
namespace c6
open PySem PySem.W PySem.Spec PyProof.Rows
section
variable {X:bS}
def ait(K:bT):iK:=fun x y H Q=>∃a b ns ms,x=.ref a/\y=.ref b/\c4 K H a (ns.map V.int)/\c4 K H b (ms.map V.int)/\Q (.aS (dU.lexLt ns ms)) H
def VC(cG:X.A.units+64<cLine):ef X (h3 .Lt) (ait X.K):=by
 intro ar s ab H x y v u Q ae bH cX h;obtain⟨a,b,ns,ms,rfl,rfl,aN,al,q⟩:=h;cases bH;cases cX;obtain⟨aV,b9,c8,_⟩:=ae.list aN;obtain⟨fN,ej,cS,_⟩:=ae.list al;have dC:IntsAre aV.toArray.toList ns:=LW b9;have df:IntsAre fN.toArray.toList ms:=LW ej;obtain⟨⟨cls,pN,data,eY⟩,aK,hc,n,hd⟩:=id c8.isList;obtain⟨⟨akr,wG,data2,xt⟩,zp,kR,dm,er⟩:=id cS.isList;simp only at hc hd kR er;subst hc hd kR er
 exact richCompare_meets_room (op := .Lt) ⟨_,aK,I⟩ ⟨_,zp,I⟩ PySem.F.slot_list_lt PySem.F.entry_list_lt (PySem.F.args_list_lt_2 _ _) (dU.aeJ a b aV.toArray fN.toArray n dm pN wG eY xt ns ms dC df)
  ⟨aK,zp,show ax.bool (dU.lexLt ns ms)≠ax.notImplemented/\_ from⟨(fun x=>nomatch x),⟨.aS (dU.lexLt ns ms),H,ae,rfl,q⟩⟩⟩ (by lia)
noncomputable def afC(cG:X.A.units+64<cLine):=ef.or (iV (X:=X)) (VC cG)
end
end c6
end
section
namespace fk
open PySem c6
noncomputable def vi(e:Int->List Bool)(xg:List Int):List Bool:=(xg.map fun x=>ao::e x).flatten++[aI]
theorem Mg{e:Int->List Bool}{P:Int->Prop}(he:∀x y,P x->P y->x<y->Sep (e x) (e y)):∀{a b:List Int},(∀x,x∈a->P x)->(∀x,x∈b->P x)->dU.lexLt a b=ao->Sep (vi e a) (vi e b)
 |[],[],_,_,h=>by cases h
 |[],y::b,_,_,_=>⟨[],[],e y++((b.map fun x=>ao::e x).flatten++[aI]),rfl,by unfold vi;simp⟩
 |x::a,[],_,_,h=>by cases h
 | x::a,y::b,aN,al,h=>by
  have cD:∀z l,vi e (z::l)=(ao::e z)++vi e l:=fun z l=>by unfold vi;rw[gI,jH,eC]
  rw[cD,cD];rw[dU.zI]at h;by_cases av:x=y
  ·subst av;rw[if_pos rfl]at h;exact(Mg he (fun z bX=>aN z (d9 _ bX)) (fun z bX=>al z (d9 _ bX)) h).pre _
  ·rw[if_neg av]at h;exact(((he x y (aN x (g0 ..)) (al y (g0 ..)) (hT h)).pre [ao]).post _ _)
end fk
end
section
namespace dU
open PySem PyProof.Rows
end dU
end
section
namespace c6
open PySem PySem.W PySem.Spec PyProof.Rows
end c6
end
section
namespace fk
open PySem c6
inductive R (α:Type) where
 |ok (a:α) (s:List Bool)
 |no (w:Bool) (k:Nat)
 |st
noncomputable def R.bd{α β:Type}:R α->(α->List Bool->R β)->R β
 |.ok a s,f=>f a s
 |.no w k,_ =>.no w k
 |.st,_ =>.st
noncomputable def R.iq{α:Type}:R α->R α
 |.ok a s =>.ok a (s.map (!·))
 |.no w k =>.no w k
 |.st =>.st
noncomputable def gO(e u:Bool):List Bool->R Bool
 |b::s =>.ok b s
 |[]=>if e=ao then .ok u []else .no aI 0
end fk
end
section
namespace c6
open PySem PySem.W PySem.Spec PyProof.Rows
section
variable {X:bS}
def VB:ef X (h3 .IsNot) (fun x y H Q=>∃b,y=.aS b/\PT x=ao/\Q (.aS (!decide (x=.aS b))) H):=by
 intro ar s ab H x y v u Q ae bH cX h;obtain⟨b,rfl,av,q⟩:=h;cases cX;cases x with
 |bM=>cases bH;exact e3 (ft ae q (by cases b<;>rfl))
 |aS c=>cases bH;cases b<;>cases c<;>exact e3 (ft ae q I)
 |int i=>obtain⟨t,rfl⟩:=bH;exact e3 (ft ae q (by cases b<;>rfl))
 |str i=>obtain⟨t,rfl⟩:=bH;exact e3 (ft ae q (by cases b<;>rfl))
 |ref a=>cases bH;exact e3 (ft ae q (by cases b<;>rfl))
 |_=>cases av
end
variable {r:iK}
section
variable {X:bS} {a b:c3} {cN dO:TE} {bc:Pos}
def b4(i:Nat)(fV:X.N.Nodup)(he:cF X e cT)(aG:xv (X.N[i]?=J x) z0)(av:xv (Loc X.env.scope x) z1)(hs:xv (swapsWith e (J (.Name x pos')) bc.line X.env=pure aI) z0)(aD:xv (X.fn x=ao\/X.env.scope.names.lookup x=J .local) xw):
  lC X (.Assign [.Name x pos'] e bc) (z8 cT (r5 i)):=V7 fV aG av he hs aD
def g4(aK:ef X (h3 op) r)(aN:cF X a cN)(al:cF X b dO)(h:xv (op≠.In) yc)(aj:xv (op≠.NotIn) yc):cF X (.Compare a [op] [b] bc) (sR r cN dO):=Ni aK aN al (KV _ h aj)
def bV(aK:ef X (h3 op) r)(aN:cF X a cN)(al:cF X b dO)(h:xv (op≠.In) yc)(aj:xv (op≠.NotIn) yc):mb X (.Compare a [op] [b] bc) (Es (sR r cN dO)):=Hc aK aN al (KV _ h aj)
def cI(au:pq X r)(aN:cF X a cN)(al:cF X b dO)(hs:xv (Ki b) rrs):cF X (.Subscript a b bc) (sR r cN dO):=WC au aN al hs
def h5(aN:cF X a cN)(he:xv (∀whole,isTrue a X.env whole=(do let v <-whole;standAt a.pos;holding [v] (truthy v))) z2):
  mb X a (fun ab H Q=>cN ab H fun x H'=>∃k,Ba X.K x H' k/\Q k H'):=UC aN he
end
section
variable {P:dR} {w:dd} {K:bT} {mg:aa->Option ax} {zn:bR} {x fj:aa} {st:bo} {f:ag} {fd:i9} {N aJ:List aa} {k:Nat} {sp:cH}
def cU.d1(F:cU K x fj st f fd)(S:bL N aJ (bB st))(pY:∀{bg:ax}{A:ee}{outer:List Env}{s:aT}(H:aq)(vs:List V)(Q:bI)(E:cP),gM k (A.deeper (envOfC fj (bB st) s.heap.objs.size f bg))->sp vs H Q E->
   ∃t,jE (pM cM P w K mg zn N fj (bB st) f bg A outer s H E).sJ (lM st) t/\t {nx:=fun _ H'=>nk H H' (Q .bM),rt:=fun v H'=>nk H H' (Q v)} (start N vs) H)(len:xv (∀vs H Q E,sp vs H Q E->vs.length=aJ.length) rru):cB P w K mg zn cM (k+1) f fd aJ sp:=F.PK S len @pY
def dB.eH(F:dB K mg x st aJ f fd)(S:bL N aJ (bB st))(pY:∀{bg:ax}{A:ee}{outer:List Env}{s:aT}(H:aq)(vs:List V)(Q:bI)(E:cP),gM k (A.deeper (envOfC x (bB st) s.heap.objs.size f bg))->sp vs H Q E->
   ∃t,jE (pM cM P w K mg zn N x (bB st) f bg A outer s H E).sJ (lM st) t/\t {nx:=fun _ H'=>nk H H' (Q .bM),rt:=fun v H'=>nk H H' (Q v)} (start N vs) H)(len:xv (∀vs H Q E,sp vs H Q E->vs.length=aJ.length) rru):bf P w K mg zn (k+1) x aJ sp:=F.ok S len @pY
end
mutual
noncomputable def ip:D->PyData
 |.bM =>.none
 |.aS b =>.bool b
 |.int i =>.int i
 |.str s =>.str s
 |.tup ds =>.tuple (hP ds)
 |.lst ds =>.list (hP ds)
noncomputable def hP:List D->List PyData
 |[]=>[]
 |d::ds=>ip d::hP ds
end
section
variable {X:bS} {ar:List (ag×cE)} {ab:St} {H:aq} {s:aT}
mutual
theorem Nd(ae:Inv X ar ab H s):∀(d:D){v:V}{u:ax},dZ H d v->RelV v u->∃as,Reads s.heap u (ip d) as
 |.bM,v,u,h,r=>by
  obtain rfl:v=.bM:=h;obtain rfl:u=.none:=r;rw[ip];exact⟨_,.none⟩
 |.aS b,v,u,h,r=>by
  obtain rfl:v=.aS b:=h;obtain rfl:u=.bool b:=r;rw[ip];exact⟨_,.bool b⟩
 |.int i,v,u,h,r=>by
  obtain rfl:v=.int i:=h;obtain⟨t,rfl⟩:∃t,u=.int i t:=r;rw[ip];exact⟨_,.int i t⟩
 |.str x,v,u,h,r=>by
  obtain⟨rfl,_⟩:v=.str x/\_:=h;obtain⟨t,rfl⟩:∃t,u=.str x t:=r;rw[ip];exact⟨_,.str x t⟩
 |.tup ds,v,u,h,r=>by
  obtain⟨a,vs,rfl,cD,hs,_⟩:=h;obtain rfl:u=.ref a:=r;obtain⟨aV,dK,⟨o,e,hc,n,hd⟩,_⟩:=ae.tuple (hS.of cD);obtain⟨as,q⟩:=GY ae ds hs dK;rw[ip];exact⟨_,.tuple e hc hd q⟩
 |.lst ds,v,u,h,r=>by
  obtain⟨a,vs,rfl,cD,hs,_⟩:=h;obtain rfl:u=.ref a:=r;obtain⟨aV,dK,⟨o,n,e,hc,_,hd⟩,_⟩:=ae.list (c4.of cD);obtain⟨as,q⟩:=GY ae ds hs dK;rw[ip];exact⟨_,.list e hc hd q⟩
theorem GY(ae:Inv X ar ab H s):∀(ds:List D){vs:List V}{us:List ax},dw H ds vs->Vals vs us->∃as,ReadsAll s.heap us (hP ds) as
 |[],vs,us,h,r=>by
  obtain rfl:vs=[]:=h;cases r;rw[hP];exact⟨_,.nil⟩
 | d::ds,vs,us,h,r=>by
  obtain⟨v,w,rfl,q,b8⟩:=h;cases r with
  |cons a b =>
   obtain⟨a1,ai⟩:=Nd ae d q a;obtain⟨a2,aj⟩:=GY ae ds b8 b;rw[hP];exact⟨_,.cons ai aj⟩
end
mutual
theorem Nj:∀d:D,(ip d).hasDict=aI
 |.tup ds=>by rw[ip,PyData.hasDict];exact GZ ds
 |.lst ds=>by rw[ip,PyData.hasDict];exact GZ ds
 |.bM=>rfl
 |.aS _=>rfl
 |.int _=>rfl
 |.str _=>rfl
theorem GZ:∀ds:List D,PyData.hasDictAll (hP ds)=aI
 |[]=>rfl
 |d::ds=>by rw[hP,PyData.hasDictAll,Nj d,GZ ds];rfl
end
mutual
theorem MJ:∀d:D,(ip d).depth<=fK d
 |.tup ds=>by have:=GP ds;rw[ip,PyData.depth,fK];lia
 |.lst ds=>by have:=GP ds;rw[ip,PyData.depth,fK];lia
 |.bM=>UF _
 |.aS _=>UF _
 |.int _=>UF _
 |.str _=>UF _
theorem GP:∀ds:List D,PyData.depthAll (hP ds)<=gb ds
 |[]=>UF _
 |d::ds=>by have:=MJ d;have:=GP ds;rw[hP,PyData.depthAll,gb];lia
end
noncomputable def jx(d:D):aa:=(ip d).shown
def Cy(k:Nat)(au:gM k X.A):hR X (.builtin "repr") (fun xs H Q=>∃(a:ag)(d:D),xs=[.ref a]/\dZ H d (.ref a)/\(ip d).showable=ao/\(jx d).length<=16000000/\fK d<=60/\Q (.str (jx d)) H):=by
 intro ar s ab H xs us Q ae r h;obtain⟨a,d,rfl,hd,hs,aC,fg,q⟩:=h;obtain⟨u,rfl,fo⟩:=vals1 r;obtain rfl:u=ax.ref a:=fo;obtain⟨as,R⟩:=Nd ae d hd rfl;have ai:=MJ d;have aj:=au.un;exact repr_of_reads' R hs (PyData.noDict_hsm (Nj d)) au.Dk (by lia) (fun _ _ e=>e) (fun h' u dP hk=>⟨.str _,H,ae.kept hk,⟨_,I⟩,q⟩) (c5 aC (by decide))
def CV:kv "repr"=J (.builtin "repr"):=⋯
def Ud(hc:X.calm=ao):hR X (.builtin "max") (fun xs H Q=>∃(a:ag)(ns:List Int),xs=[.ref a]/\c4 X.K H a (ns.map V.int)/\ns≠[]/\∀i:Int,Q (.int i) H):=by
 intro ar s ab H xs us Q ae r h;obtain⟨a,ns,rfl,bl,bb,q⟩:=h;obtain⟨u,rfl,fo⟩:=vals1 r;obtain rfl:u=ax.ref a:=fo;obtain⟨aV,dK,pl,_⟩:=ae.list bl
 have hZ:∃xs:List (Int×Tok),aV=xs.map fun p=>ax.int p.1 p.2:=by
  have:∀(ns:List Int)(aV:List ax),Vals (ns.map V.int) aV->∃aJ:List (Int×Tok),aV=aJ.map fun p=>ax.int p.1 p.2:=by
   intro ns
   induction ns with
   |nil=>intro aV h;cases h;exact⟨[],I⟩
   | cons n ns bP =>
    intro aV h;cases h with
    |cons a r =>
     obtain⟨t,rfl⟩:=(show ∃t,_=ax.int n t from a);obtain⟨aJ,rfl⟩:=bP _ r;exact⟨(n,t)::aJ,I⟩
  exact this ns aV dK
 obtain⟨xs,e⟩:=hZ
 have aC:s.heap.IsList a (intItems xs.toArray):=by
  have:aV.toArray=intItems xs.toArray:=by unfold intItems;rw[e];simp
  rw[<-this];exact pl.isList
 have bX:0<xs.toArray.size:=by
  have:=dK.length;rw[cd,e,cd]at this;have:=List.length_pos_iff.mpr bb;rw[eg];lia
 refine max_intList (ae.ok.hd hc) aC bX fun v h' dP cV hk=>?_;obtain⟨t,rfl⟩:=intItems_at cV;exact⟨.int _,H,ae.kept hk,⟨_,I⟩,q _⟩
def TH:ef X (h3 .GtE) (fun x y H Q=>A6 x y fun i j=>Q (.aS (!decide (i.cps.toList<j.cps.toList))) H):=by
 intro ar s ab H x y u v Q ae fo dK h;obtain⟨i,j,rfl,rfl,q⟩:=h;obtain⟨t,rfl⟩:=fo;obtain⟨t',rfl⟩:=dK;exact PySem.P.ge_str (ft ae q I)
end
end c6
end
variable {r:List Bool} {T dz:ag} {mV db:c6.D} {Y:List ag}
namespace KR
open PySem c6 fk
abbrev bp:=@c4.of
abbrev dy:=@hS.of
def xz{A C:Prop}{K:bT}{H:aq}{a:ag}{xs:List V}{i:Int}{v:V}{Q:V->Prop}(h:H a=J (.lst xs))(e:e9 xs i=J v)(q:Q v):(Ka K (.ref a) (.int i) H Q\/A)\/C:=.inl (.inl ⟨_,_,_,_,rfl,rfl,bp h,e,q⟩)
def x0{A C:Prop}{K:bT}{H:aq}{a:ag}{xs:List V}{i:Int}{v:V}{Q:V->Prop}(h:H a=J (.tup xs))(e:e9 xs i=J v)(q:Q v):(A\/Kb K (.ref a) (.int i) H Q)\/C:=.inl (.inr ⟨_,_,_,_,rfl,rfl,dy h,e,q⟩)
abbrev cK:=@et.refl
noncomputable def top(i:Nat):bo:=PySem.Challenge.pw_keyrise_k33_whole_forms_as_texts.main.body.getD i (.Pass ⟨0,0,0,0⟩)
noncomputable section
abbrev BN:bo:=dr (top 59) 4
abbrev BM:bo:=dr (top 59) 1
abbrev AH:bo:=dr (top 59) 2
abbrev AX:bo:=dr (top 64) 3
abbrev lI:bo:=dr (top 41) 1
abbrev lJ:bo:=dr (top 41) 0
abbrev AR:bo:=dr (top 46) 3
abbrev AQ:bo:=dr (top 46) 0
abbrev Bh:bo:=dr (top 46) 1
abbrev BY:bo:=dr (top 56) 4
abbrev BX:bo:=dr (top 56) 1
abbrev AN:bo:=dr (top 56) 2
abbrev Lg:bo:=dr (top 9) 5
abbrev BR:bo:=dr (top 44) 3
abbrev BQ:bo:=dr (top 44) 0
abbrev AJ:bo:=dr (top 44) 1
abbrev Gn:bo:=top 26
abbrev Gm:bo:=top 70
abbrev Bg:bo:=top 71
abbrev FE:bo:=top 28
abbrev F8:bo:=top 21
abbrev FH:bo:=top 32
abbrev F6:bo:=top 22
abbrev Cq:bo:=top 72
abbrev GL:bo:=top 73
abbrev FR:bo:=top 27
abbrev Fj:bo:=top 30
abbrev AI:bo:=top 16
abbrev FQ:bo:=top 29
abbrev F3:bo:=top 67
abbrev Gd:bo:=top 65
abbrev Cp:bo:=top 68
abbrev Ca:bo:=top 69
abbrev FK:bo:=top 31
abbrev GI:bo:=top 66
abbrev Gv:bo:=top 25
abbrev Fi:bo:=top 87
abbrev B2:bo:=top 88
abbrev Gi:bo:=top 89
abbrev Gh:bo:=top 90
abbrev Cf:bo:=top 91
abbrev Cd:bo:=top 92
abbrev F5:bo:=top 93
abbrev FC:bo:=top 94
abbrev F2:bo:=top 13
abbrev FL:bo:=top 14
abbrev Gk:bo:=top 19
abbrev FU:bo:=dr (top 9) 0
abbrev BG:bo:=dr (top 9) 1
abbrev BF:bo:=dr (top 9) 2
abbrev F7:bo:=top 23
abbrev Gy:bo:=top 15
abbrev Gl:bo:=top 17
abbrev Gb:bo:=top 18
abbrev E9:bo:=top 20
abbrev FP:bo:=top 75
abbrev Gf:bo:=top 77
abbrev GJ:bo:=top 40
abbrev GK:bo:=top 53
abbrev Gw:bo:=top 54
abbrev Go:bo:=dr (top 45) 0
abbrev FO:bo:=dr (top 47) 0
abbrev FV:bo:=dr (top 58) 0
abbrev FX:bo:=dr (top 59) 0
abbrev F9:bo:=dr (top 56) 0
abbrev Gp:bo:=dr (top 57) 0
abbrev FT:bo:=dr (top 60) 0
abbrev Gj:bo:=top 39
abbrev A3:bo:=dr (top 42) 0
abbrev BS:bo:=dr (top 43) 0
abbrev B3:bo:=dr (top 45) 1
abbrev Bq:bo:=dr (top 47) 1
abbrev BA:bo:=dr (top 60) 1
abbrev B5:bo:=dr (top 57) 1
abbrev BH:bo:=dr (top 58) 1
abbrev Bk:bo:=dr (top 42) 1
abbrev AK:bo:=dr (top 43) 1
abbrev A0:bo:=dr (top 45) 2
abbrev Bl:bo:=dr (top 60) 2
abbrev A5:bo:=dr (top 57) 2
abbrev Bm:bo:=dr (top 58) 2
abbrev A4:bo:=dr (top 42) 3
abbrev BU:bo:=dr (top 43) 3
abbrev B4:bo:=dr (top 45) 4
abbrev BB:bo:=dr (top 60) 4
abbrev B6:bo:=dr (top 57) 4
abbrev BI:bo:=dr (top 58) 4
abbrev Br:bo:=dr (top 47) 5
abbrev AE:bo:=dr (top 47) 2
abbrev Wp:bo:=dr (top 47) 3
abbrev BE:bo:=dr (top 9) 4
abbrev FW:bo:=dr (top 64) 0
abbrev Bs:bo:=dr (top 64) 1
abbrev BL:bo:=dr (top 64) 2
abbrev AS:bo:=dr (top 64) 4
abbrev FD:bo:=top 78
abbrev Ge:bo:=top 79
abbrev F4:bo:=top 80
abbrev Cb:bo:=top 81
abbrev Cc:bo:=top 82
abbrev Gg:bo:=top 84
abbrev Bx:bo:=top 55
abbrev A1:bo:=dr (top 58) 5
abbrev Bt:bo:=dr (top 59) 5
abbrev AL:bo:=dr (top 42) 4
abbrev BC:bo:=dr (top 43) 4
abbrev By:bo:=dr (top 44) 4
abbrev AF:bo:=dr (top 46) 4
abbrev BV:bo:=dr (top 45) 5
abbrev AO:bo:=dr (top 47) 6
abbrev BJ:bo:=dr (top 56) 5
abbrev BZ:bo:=dr (top 57) 5
abbrev AY:bo:=dr (top 60) 5
abbrev AM:bo:=dr (top 42) 2
abbrev BD:bo:=dr (top 43) 2
abbrev Bz:bo:=dr (top 44) 2
abbrev BW:bo:=dr (top 45) 3
abbrev AG:bo:=dr (top 46) 2
abbrev AP:bo:=dr (top 47) 4
abbrev AZ:bo:=dr (top 60) 3
abbrev BK:bo:=dr (top 56) 3
abbrev FN:bo:=top 52
abbrev B0:bo:=dr (top 57) 3
abbrev A2:bo:=dr (top 58) 3
abbrev Bu:bo:=dr (top 59) 3
abbrev Gx:bo:=top 83
abbrev Ce:bo:=top 85
abbrev BP:bo:=top 86
end
def Lk:bL ["self","source","place"] ["self","source"] (bB BN):=bU
def Yb:bL ["self","value"] ["self","value"] (bB BM):=bU
def K9:bL ["self","value","place"] ["self","value"] (bB AH):=bU
def Xl:bL ["self","words"] ["self","words"] (bB AX):=bU
def F1:bL ["self","signs","at","source","value"] ["self","signs","at"] (bB lI):=bU
def Zw:bL ["self","value"] ["self","value"] (bB lJ):=bU
def Xk:bL ["self","source"] ["self","source"] (bB AR):=bU
def Xj:bL ["self","value"] ["self","value"] (bB AQ):=bU
def WQ:bL ["self","value"] ["self","value"] (bB Bh):=bU
def YD:bL ["self","source"] ["self","source"] (bB BY):=bU
def YC:bL ["self","value"] ["self","value"] (bB BX):=bU
def Xg:bL ["self","value"] ["self","value"] (bB AN):=bU
def Yw:bL ["self","source"] ["self","source"] (bB BR):=bU
def Yv:bL ["self","value"] ["self","value"] (bB BQ):=bU
def Xc:bL ["self","value"] ["self","value"] (bB AJ):=bU
def Y0:bL ["steps"] ["steps"] (bB Gn):=bU
def YZ:bL ["word"] ["word"] (bB Gm):=bU
def WN:bL ["cursor","word","depth"] ["cursor","word","depth"] (bB Bg):=bU
def Bj:bL ["one","other","rest"] ["one","other"] (bB FE):=bU
def Bw:bL ["source","ahead","digits"] ["source"] (bB F8):=bU
def Lb:bL ["source","steps"] ["source"] (bB FH):=bU
def Lm:bL ["source","n"] ["source"] (bB F6):=bU
def B9:bL ["cursor","depth","word","form"] ["cursor","depth"] (bB Cq):=bU
def Gu:bL ["text","cursor","form"] ["text"] (bB GL):=bU
def uE:bL ["steps","top","bottom","step","turned_over"] ["steps"] (bB FR):=bU
def K7:bL ["fraction","steps"] ["fraction"] (bB Fj):=bU
def La:bL ["n"] ["n"] (bB AI):=bU
def XU:bL ["fraction"] ["fraction"] (bB FQ):=bU
def Yu:bL ["cursor"] ["cursor"] (bB F3):=bU
def FZ:bL ["cursor","below","figures"] ["cursor"] (bB Gd):=bU
def LQ:bL ["cursor","depth","name"] ["cursor","depth"] (bB Cp):=bU
def LC:bL ["cursor","depth","parts"] ["cursor","depth"] (bB Ca):=bU
def uD:bL ["steps","last","rows","k","step","row"] ["steps"] (bB FK):=bU
def LP:bL ["cursor","low"] ["cursor"] (bB GI):=bU
def uB:bL ["fraction","steps","top","bottom","rest"] ["fraction"] (bB Gv):=bU
def E8:bL ["_law_word","_law_extra","_law_number","_law_great","_law_some"] ["_law_word","_law_extra","_law_number"] (bB Fi):=bU
def te:bL ["_law_tree_here","_law_left","_law_word","_law_extra","_law_inner","_law_number","_law_at","_law_some"] ["_law_tree_here","_law_left"] (bB B2):=bU
def x4:bL ["_law_form","_law_made_here","_law_value_here","_law_other","_law_row","_law_one","_law_found","_law_lies"] ["_law_form","_law_made_here","_law_value_here","_law_other"] (bB Gi):=bU
def x3:bL ["_law_tree_here","_law_word","_law_extra","_law_inner","_law_other"] ["_law_tree_here"] (bB Gh):=bU
def Zu:bL ["_law_tree_here"] ["_law_tree_here"] (bB Cf):=bU
def Zt:bL ["_law_tree_here"] ["_law_tree_here"] (bB Cd):=bU
def xW:bL ["_law_tree_here","_law_made_here","_law_text_here","_law_values","_law_one","_law_two","_law_value_here","_law_rows"] ["_law_tree_here","_law_made_here","_law_text_here","_law_values"] (bB F5):=bU
def pH:bL ["_law_script","_law_tree_here","_law_text_here","_law_form","_law_made_here","_law_values","_law_k","_law_salt","_law_one","_law_other"] ["_law_script"] (bB FC):=bU
def Yt:bL ["row"] ["row"] (bB F2):=bU
def Xv:bL ["n","width"] ["n","width"] (bB FL):=bU
def YY:bL ["n","most"] ["n","most"] (bB Gk):=bU
def X3:bL ["self","signs","at"] ["self","signs","at"] (bB FU):=bU
def FJ:bL ["self","wished","sign"] ["self"] (bB BG):=bU
def X2:bL ["self"] ["self"] (bB BF):=bU
def Bv:bL ["source","most","n","k"] ["source","most"] (bB F7):=bU
def Zv:bL ["n"] ["n"] (bB Gy):=bU
def x5:bL ["n","m","digits","ahead","end"] ["n"] (bB Gl):=bU
def YW:bL ["n"] ["n"] (bB Gb):=bU
def Bp:bL ["source","width","n","k"] ["source","width"] (bB E9):=bU
def XT:bL ["_law_script","_law_k"] ["_law_script","_law_k"] (bB FP):=bU
def F0:bL ["_law_cell","_law_k","_law_number"] ["_law_cell","_law_k"] (bB Gf):=bU
def ZX:bL ["text","signs"] ["text","signs"] (bB GJ):=bU
def ZY:bL ["name"] ["name"] (bB GK):=bU
def LD:bL ["parts","names"] ["parts"] (bB Gw):=bU
def Y1:bL ["self","low","high"] ["self","low","high"] (bB Go):=bU
def XD:bL ["self","signs"] ["self","signs"] (bB FO):=bU
def X4:bL ["self","parts"] ["self","parts"] (bB FV):=bU
def Ya:bL ["self","cases"] ["self","cases"] (bB FX):=bU
def YB:bL ["self","inner"] ["self","inner"] (bB F9):=bU
def Y4:bL ["self","inner"] ["self","inner"] (bB Gp):=bU
def XX:bL ["self","inner"] ["self","inner"] (bB FT):=bU
def YX:bL ["value"] ["value"] (bB Gj):=bU
def XA:bL ["self","value"] ["self","value"] (bB A3):=bU
def Yx:bL ["self","value"] ["self","value"] (bB BS):=bU
def Y2:bL ["self","value"] ["self","value"] (bB B3):=bU
def XE:bL ["self","value"] ["self","value"] (bB Bq):=bU
def XY:bL ["self","value"] ["self","value"] (bB BA):=bU
def Y5:bL ["self","value"] ["self","value"] (bB B5):=bU
def X5:bL ["self","value"] ["self","value"] (bB BH):=bU
def WU:bL ["self","value"] ["self","value"] (bB Bk):=bU
def Xd:bL ["self","value"] ["self","value"] (bB AK):=bU
def Xy:bL ["self","value"] ["self","value"] (bB A0):=bU
def Zip:bL ["self","value"] ["self","value"] (bB Bl):=bU
def XC:bL ["self","value"] ["self","value"] (bB A5):=bU
def WX:bL ["self","value"] ["self","value"] (bB Bm):=bU
def XB:bL ["self","source"] ["self","source"] (bB A4):=bU
def Yy:bL ["self","source"] ["self","source"] (bB BU):=bU
def Y3:bL ["self","source"] ["self","source"] (bB B4):=bU
def Li:bL ["self","source","value"] ["self","source"] (bB BB):=bU
def Lp:bL ["self","source","values"] ["self","source"] (bB B6):=bU
def X6:bL ["self","source"] ["self","source"] (bB BI):=bU
def FG:bL ["self","source","text"] ["self","source"] (bB Br):=bU
def WY:bL ["self","text"] ["self","text"] (bB AE):=bU
def K8:bL ["self","value","most"] ["self","value"] (bB Wp):=bU
def X1:bL ["self","sign"] ["self","sign"] (bB BE):=bU
def X9:bL ["self","text"] ["self","text"] (bB FW):=bU
def XF:bL ["self"] ["self"] (bB Bs):=bU
def Lj:bL ["self","words","there"] ["self","words"] (bB BL):=bU
def Lc:bL ["self","signs","start"] ["self","signs"] (bB AS):=bU
def Bi:bL ["_law_script","_law_many_here","_law_salt","_law_start","_law_left","_law_k"] ["_law_script","_law_many_here","_law_salt"] (bB FD):=bU
def nr:bL ["_law_number","_law_many_here","_law_letters","_law_words","_law_way","_law_size","_law_rest","_law_base","_law_k","_law_at","_law_turn","_law_tail"] ["_law_number","_law_many_here"] (bB Ge):=bU
def uF:bL ["_law_word","_law_number","_law_last","_law_low","_law_high","_law_signs","_law_at"] ["_law_word","_law_number","_law_last"] (bB F4):=bU
def uC:bL ["_law_left","_law_deep_here","_law_words","_law_number","_law_word","_law_inner"] ["_law_left","_law_deep_here"] (bB Cb):=bU
def yd:bL ["_law_tree_here","_law_word","_law_extra","_law_inner","_law_some"] ["_law_tree_here"] (bB Cc):=bU
def rT:bL ["_law_script","_law_salt","_law_number","_law_left","_law_wraps","_law_tree_here","_law_k"] ["_law_script","_law_salt"] (bB Gg):=bU
def XS:bL ["names","forms"] ["names","forms"] (bB Bx):=bU
def Xz:bL ["self"] ["self"] (bB A1):=bU
def XG:bL ["self"] ["self"] (bB Bt):=bU
def Xe:bL ["self"] ["self"] (bB AL):=bU
def XZ:bL ["self"] ["self"] (bB BC):=bU
def XV:bL ["self"] ["self"] (bB By):=bU
def WZ:bL ["self"] ["self"] (bB AF):=bU
def Yz:bL ["self"] ["self"] (bB BV):=bU
def Xh:bL ["self"] ["self"] (bB AO):=bU
def X7:bL ["self"] ["self"] (bB BJ):=bU
def YE:bL ["self"] ["self"] (bB BZ):=bU
def Xw:bL ["self"] ["self"] (bB AY):=bU
def Xf:bL ["self","one","other"] ["self","one","other"] (bB AM):=bU
def X0:bL ["self","one","other"] ["self","one","other"] (bB BD):=bU
def XW:bL ["self","one","other"] ["self","one","other"] (bB Bz):=bU
def YA:bL ["self","one","other"] ["self","one","other"] (bB BW):=bU
def W0:bL ["self","one","other"] ["self","one","other"] (bB AG):=bU
def Xi:bL ["self","one","other"] ["self","one","other"] (bB AP):=bU
def Xx:bL ["self","one","other"] ["self","one","other"] (bB AZ):=bU
def X8:bL ["self","one","other"] ["self","one","other"] (bB BK):=bU
def FF:bL ["one","other","place"] ["one","other"] (bB FN):=bU
def Ln:bL ["self","one","other","place"] ["self","one","other"] (bB B0):=bU
def Le:bL ["self","one","other","place"] ["self","one","other"] (bB A2):=bU
def Lf:bL ["self","one","other","place"] ["self","one","other"] (bB Bu):=bU
def v9:bL ["_law_number","_law_left","_law_words","_law_inner","_law_k","_law_word"] ["_law_number","_law_left"] (bB Gx):=bU
def Ga:bL ["_law_tree_here","_law_kept","_law_other","_law_form"] ["_law_tree_here","_law_kept"] (bB Ce):=bU
def xX:bL ["_law_tree_here","_law_kept","_law_word","_law_extra","_law_inner","_law_some"] ["_law_tree_here","_law_kept"] (bB BP):=bU
structure dD(mg:aa->Option ax):Prop where
 d5:mg "len"=aA
 mD:mg "range"=aA
 vh:mg "int"=aA
 xx:mg "str"=aA
 NN:mg "bool"=aA
 t6:mg "tuple"=aA
 p9:mg "isinstance"=aA
 ae0:mg "min"=aA
 Pw:mg "max"=aA
 I1:mg "list"=aA
 wB:mg "all"=aA
 aiB:mg "reversed"=aA
 abE:mg "enumerate"=aA
 Ez:mg "zip"=aA
 P6:mg "set"=aA
 aiT:mg "sum"=aA
 D5:mg "repr"=aA
variable {q:aa} {A:Prop} {u:Int} {s:List Int} {Q:bI} {S:gk} {g:aU}
section
open PySem c6 fk
variable {P:dR} {w:dd} {K:bT} {mg:aa->Option ax} {zn:bR}
variable {f C:ag}{fd:i9}{c:c9}{n:Nat}{bz:D->Bool}{has:fQ->Bool}{fw:D->List Bool}
seal cF mb gA jl lC jE qG xZ jV x2 Tf x1
def cx{P:dR}{w:dd}{K:bT}{mg:aa->Option ax}{zn:bR}{f:ag}{fb:ax}{A:ee}{o:List Env}{s:aT}{E:cP}:(pM CX P w K mg zn N q sc f fb A o s H E).K=K:=rfl
def cy{X:bS}:(X.o4 E).K=X.K:=rfl
def cz{X:bS}{cl:List (aa×ag)}{C:ag}{s2:aT}:(pL X sc cl C N s2 az cu).K=X.K:=rfl
def cA{X:bS}:X.sJ.K=X.K:=rfl
def gPrp(p:Prop):=p
theorem gPrr{p:Prop}(h:p):gPrp p=True:=eq_true h
theorem gPro{p:Prop}(h:gPrp p):p:=h
local macro_rules | `(tactic|show_term $s)=>`(tactic|exact gPro (by simp(disch:=(with_unfolding_all $s))only[↓gPrr]))
local macro_rules | `(tactic| ac_rfl)=>`(tactic| try dsimp only[cx,cy,cz,cA])
local macro_rules | `(tactic| walk_at "g1")=>`(tactic| first
 |with_reducible exact True.intro
 |refine⟨_,I,?_⟩
 |refine⟨_,_,I,I,?_⟩
 |refine Or.inl ⟨_,_,I,I,?_⟩
 |refine Or.inr ⟨_,_,I,I,?_⟩
 |refine⟨I,?_⟩
 |refine⟨(by first|lia|decide),?_⟩)
local macro_rules | `(tactic| walk_at "g")=>`(tactic| repeat walk_at "g1")
def fM{p:Prop}[Decidable p](ai:p->A)(aj:¬p->B):if decide p=ao then A else B:=by
 by_cases h:p
 .rw[if_pos (eK h)];exact ai h
 .rw[if_neg (by simpa using h)];exact aj h
def da{p:Prop}[Decidable p](h:¬p)(aj:B):if decide p=ao then A else B:=by rw[if_neg (by simpa using h)];exact aj
def hp{p:Prop}[Decidable p](h:p)(aj:A):if decide p=ao then A else B:=by rw[if_pos (eK h)];exact aj
def gg{n:Nat}(h:n<=16000000):n<=cp:=c5 h (by decide)
inductive K6(vs:List V)(H:aq)(Q:bI)(E:cP):Prop where
 |mk (l:List Bool) (bb:vs=[.str (bA l)]) (ai:l.length<=16000000) (aj:Q (.str (bA (l.map (!·)))) H)
def dS{n:Nat}(h:n<=100000):n<=cp:=c5 h (by decide)
def UM(l:List Bool){iP:Nat->V}(g:Bool->Bool)(h:∀i,i<l.length->iP i=.str (bA [g (l.getD i aI)])):(List.range l.length).map iP=((l.map g).map fun b=>bA [b]).map V.str:=by
 apply List.ext_getElem?;intro i;rw[eJ,eJ,eJ,eJ];rcases h4 i l.length with z|z
 ·rw[List.getElem?_range z,cw z];have:=h i z;rw[eR,cw z]at this;exact congrArg J this
 .rw[uA (by simpa using z),uA z];rfl
def MR(l:List Bool):((l.map fun b=>bA [b]).map (·.length)).sum+(l.map fun b=>bA [b]).length*(aa.ofString "").length=l.length:=by
 have e:(aa.ofString "").length=0:=⋯;rw[e,Nat.mul_zero,Nat.add_zero]
 induction l with
 |nil=>rfl
 |cons b r bP=>simp only[gI,List.sum_cons,bP,fu,dW,List.length_nil];lia
def G1(h:ab.length=1):∃z,ab=[z]:=by
 match ab,h with
 |[z],_=>exact⟨z,I⟩
def YF(F:dB K mg "turned_row" F2 ["row"] f fd):bf P w K mg zn 1 "turned_row" ["row"] K6:=by
 refine F.eH Yt (fun H vs Q E au h=>?_);obtain⟨l,rfl,aC,q⟩:=h;refine⟨_,(aL (aY (h6 PySem.F.plainAttrs_str PySem.F.slot_str_join PySem.F.type_str_join rW bu (ak (iA ["sign"] [] I ⋯ trivial (jw (af 0)) (d4 (i:=0) (show(["sign"]:List aa).Nodup by decide+kernel)) hW (oe (bV dn (af 0) bu) bu bu)) ay)))),?_⟩;ac_rfl;refine⟨I,.inr ⟨_,I,_,I,fun D b2=>?_⟩⟩;refine M1 l.length (fun i =>.str (bA [l.getD i aI])) (fun i =>.str (bA [!l.getD i aI])) (fun ab=>ab.length=1) (gg aC) ?_ ?_ ?_ ?_ ?_ ?_
 .rfl
 .intro i H1 aG;show i<(bA l).cps.size;simpa [bA] using aG
 .intro H1;show(bA l).cps.size<=l.length;simp[bA]
 ·rintro i H1 x az aG ⟨rfl,c,hc,rfl⟩;exact⟨I,Uv hc⟩
 ·intro i b0 H1 aG c7 R cL;obtain⟨z,rfl⟩:=G1 c7;refine⟨_,I,I,_,I,?_⟩;revert cL;rw[s0,s1,Uy];cases l.getD i aI
  .intro cL;exact ho (cL _ (by rfl))
  .intro cL;exact e2 (cL _ (by rfl))
 ·refine⟨_,D,(l.map (!·)).map fun b=>bA [b],I,I,bp ?_,?_,H,.refl ?_,?_⟩
  .rw[aB];exact congrArg (fun x=>J (de.lst x)) (UM l (!·) fun i _=>I)
  .rw[MR,cd];lia
  .exact cZ b2
  .rw[Mf];exact q
inductive QY(vs:List V)(H:aq)(Q:bI)(E:cP):Prop where
 |mk (n d:Nat) (bb:vs=[.int n,.int d]) (ai:d<=16000000) (aj:Q (.str (bA (dq n d))) H)
def ZO(n d:Nat):dq n d=(List.range d).map fun i=>n.testBit (d-1-i):=by
 induction d with
 |zero=>rfl
 |succ d bP =>
  rw[dq,bP,List.range_succ_eq_map,gI,hx];congr 1;apply pz;intro i aG;show n.testBit (d-1-i)=n.testBit (d+1-1-(i+1));congr 1;lia
def VZ(n k:Nat):dI.bitAnd ((n:Int)/2^k) 1=((n.testBit k).toNat:Int):=by
 rw[PyProof.Rows.bitAnd_m1]
 have e:((n:Int)/2^k)%2=((n/2^k%2:Nat):Int):=by
  rw[Int.natCast_emod,Int.natCast_ediv,Int.natCast_pow];rfl
 rw[e,Nat.testBit_eq_decide_div_mod_eq];have:n/2^k%2<2:=Nat.mod_lt _ (by decide);by_cases q:n/2^k%2=1
 .simp[q]
 ·have:n/2^k%2=0:=by lia
  simp[this]
def XI(nb:dD mg)(F:dB K mg "lower_digits" FL ["n","width"] f fd):bf P w K mg zn 1 "lower_digits" ["n","width"] QY:=by
 refine F.eH Xv (fun H vs Q E au h=>?_);obtain⟨n,d,rfl,aC,q⟩:=h;refine⟨_,(aL (aY (h6 PySem.F.plainAttrs_str PySem.F.slot_str_join PySem.F.type_str_join rW bu (ak (iA ["k"] [(0,"n")] I ⋯ ⟨I,.inl I,trivial⟩ (L8 I nb.mD (ak (aM hq (af 1) aH) (ak (mU mP aH) (ak (mU mP aH) ay)))) (d4 (i:=0) (show(["k","n"]:List aa).Nodup by decide+kernel)) hW (oe (bV dn (aM Wj (aM KP (af 1) (af 0)) aH) aH) bu bu)) ay)))),?_⟩;ac_rfl;refine⟨I,_,I,_,_,I,I,_,I,_,I,_,_,I,⟨by lia,by lia,by decide,by decide⟩,fun D b2=>?_⟩;have bj:(((d:Int)-1)-(-1)).toNat=d:=by lia
 refine M1 (((d:Int)-1)-(-1)).toNat (fun i =>.int ((d:Int)-1+i*(-1))) (fun i =>.str (bA [n.testBit (d-1-i)])) (fun ab=>∃z,ab=[z,J (.int n)]) (by rw[bj];exact gg aC) ?_ ?_ ?_ ?_ ?_ ?_
 .exact⟨_,I⟩
 .intro i H1 aG;exact aG
 .intro H1;exact cR _
 ·rintro i H1 x az aG ⟨rfl,rfl⟩;exact⟨I,I⟩
 ·rintro i b0 H1 aG ⟨z,rfl⟩ R cL;rw[bj]at aG;have hI:((d:Int)-1+(i:Int)*(-1)).toNat=d-1-i:=by lia
  refine⟨_,I,_,I,_,_,I,I,(by lia),_,_,I,I,I,_,I,?_⟩;have al:dI.bitAnd ((n:Int)/2^((d:Int)-1+(i:Int)*(-1)).toNat) 1=((n.testBit (d-1-i)).toNat:Int):=by rw[hI];exact VZ _ _
  revert cL;rw[s0,s1];cases e:n.testBit (d-1-i)
  ·rw[e]at al;intro cL;exact da (fun c=>absurd (al.symm.trans (V.int.inj c)) (by decide)) (cL _ ⟨_,I⟩)
  ·rw[e]at al;intro cL;exact hp (congrArg V.int al) (cL _ ⟨_,I⟩)
 ·refine⟨_,D,(dq n d).map fun b=>bA [b],I,I,bp ?_,?_,H,.refl ?_,?_⟩
  .rw[aB,bj,ZO,hx,hx];rfl
  .rw[MR,jm];lia
  .exact cZ b2
  .rw[Mf];exact q
inductive QF(vs:List V)(H:aq)(Q:bI)(E:cP):Prop where
 |mk (n m:Nat) (bb:vs=[.int n,.int m]) (ai:n<=m) (aj:aE m<=16000000) (bt:Q (.str (bA (dq n (aE m)))) H)
def Zd(F:dB K mg "fixed_row" Gk ["n","most"] f fd)(ug:bf P w K mg zn 1 "lower_digits" ["n","width"] QY):bf P w K mg zn 2 "fixed_row" ["n","most"] QF:=by
 refine F.eH YY (fun H vs Q E au h=>?_);obtain⟨n,m,rfl,aC,al,q⟩:=h
 refine⟨_,(aO (cq (gA.pt (jD (bV iV (af 0) aH) (kh (bV lY (af 0) (af 1))))) (aL kG) cm)
  (aL (aY (b7 ug au (ak (af 0) (ak (uM PySem.F.plainAttrs_int PySem.F.slot_int_bit_length PySem.F.type_int_bit_length yh (af 1)) ay)))))),?_⟩
 ac_rfl;refine⟨_,I,.inl ⟨_,_,I,I,_,I,?_⟩⟩;refine da (by lia) ⟨_,I,_,I,_,_,I,I,_,I,?_⟩;refine da (by lia) ⟨_,I,_,I,I,_,I,I,?_⟩;rw[yz];exact⟨n,aE m,I,al,H,.refl (cK _),q⟩
noncomputable def gK(z:aa)(i:Int)(t e:Bool)(u:Int):List (aa×V):=[("signs",.str z),("place",.int i),("turned",.aS t),("endless",.aS e),("wished",.int u)]
noncomputable abbrev yS(z:aa)(i:Int)(t e:Bool):List (aa×V):=gK z i t e 0
structure uw(K:bT)(C:ag):Prop where
 cl:e7 K C
 qe:kb K C "signs"
 kq:kb K C "place"
 j3:kb K C "turned"
 ae6:kb K C "endless"
 DT:kb K C "wished"
def N9:¬(("signs":aa)="place"):=⋯
def Oa:¬(("signs":aa)="turned"):=⋯
def abQ:¬(("signs":aa)="endless"):=⋯
def Ob:¬(("signs":aa)="wished"):=⋯
def Oc:¬(("place":aa)="turned"):=⋯
def abR:¬(("place":aa)="endless"):=⋯
def Od:¬(("place":aa)="wished"):=⋯
def abS:¬(("turned":aa)="endless"):=⋯
def Oe:¬(("turned":aa)="wished"):=⋯
def Of:¬(("endless":aa)="wished"):=⋯
def ack:(("place":aa) == "signs")=aI:=⋯
def acm:(("turned":aa) == "signs")=aI:=⋯
def acn:(("turned":aa) == "place")=aI:=⋯
def aco:(("wished":aa) == "signs")=aI:=⋯
def acp:(("wished":aa) == "place")=aI:=⋯
def acq:(("wished":aa) == "turned")=aI:=⋯
def acr:(("wished":aa) == "endless")=aI:=⋯
def Cr(z:aa):fF "signs" (.str z) []=([("signs",.str z)]:List (aa×V)):=rfl
def Cg(z:aa)(i:Int):fF "place" (.int i) ([("signs",.str z)]:List (aa×V))=([("signs",.str z),("place",.int i)]:List (aa×V)):=by
 simp only[fF,N9,if_false]
def Gq(z:aa)(i:Int)(t:Bool):fF "turned" (.aS t) ([("signs",.str z),("place",.int i)]:List (aa×V))=([("signs",.str z),("place",.int i),("turned",.aS t)]:List (aa×V)):=by
 simp only[fF,Oa,Oc,if_false]
def Ls(z:aa)(i:Int)(t e:Bool):fF "endless" (.aS e) ([("signs",.str z),("place",.int i),("turned",.aS t)]:List (aa×V))=([("signs",.str z),("place",.int i),("turned",.aS t),("endless",.aS e)]:List (aa×V)):=by
 simp only[fF,abQ,abR,abS,if_false]
def Zx(z:aa)(i:Int)(t e:Bool)(u:Int):fF "wished" (.int u) ([("signs",.str z),("place",.int i),("turned",.aS t),("endless",.aS e)]:List (aa×V))=gK z i t e u:=by
 simp only[fF,Ob,Od,Oe,Of,if_false];rfl
def aaB(z:aa)(i j:Int)(t e:Bool)(u:Int):fF "place" (.int j) (gK z i t e u)=gK z j t e u:=by
 simp only[gK,fF,N9,if_false,if_true]
def ZZ(z:aa)(i:Int)(t f6 e:Bool)(u:Int):fF "turned" (.aS f6) (gK z i t e u)=gK z i f6 e u:=by
 simp only[gK,fF,Oa,Oc,if_false,if_true]
def LR(z:aa)(i:Int)(t e:Bool)(u ed:Int):fF "wished" (.int ed) (gK z i t e u)=gK z i t e ed:=by
 simp only[gK,fF,Ob,Od,Oe,Of,if_false,if_true]
def LS(z:aa)(i:Int)(t e:Bool):(gK z i t e u).lookup ("signs":aa)=J (.str z):=by simp[gK]
def Ci(z:aa)(i:Int)(t e:Bool):(gK z i t e u).lookup ("place":aa)=J (.int i):=by
 simp[gK,List.lookup,ack]
def LG(z:aa)(i:Int)(t e:Bool):(gK z i t e u).lookup ("turned":aa)=J (.aS t):=by
 simp[gK,List.lookup,acm,acn]
def ZI(z:aa)(i:Int)(t e:Bool):(gK z i t e u).lookup ("wished":aa)=J (.int u):=by
 simp[gK,List.lookup,aco,acp,acq,acr]
def ml(z:aa)(i:Int)(t e:Bool){m:aa}(h:(m == ("signs":aa))=aI)(aj:(m == ("place":aa))=aI)(bt:(m == ("turned":aa))=aI)
  (cf:xv ((m == ("endless":aa))=aI) z3) (eF:xv ((m == ("wished":aa))=aI) z3):(gK z i t e u).lookup m=aA:=by
 simp[gK,List.lookup,h,aj,bt,cf,eF]
def Kp(H:aq)(p C ah:ag)(l:List Bool)(i:Nat)(t e:Bool):Prop:=∃u:Int,H p=J (.ins C ah (gK (bA l) ((i:Nat):Int) t e u))
inductive Rq(C:ag)(vs:List V)(H:aq)(Q:bI)(E:cP):Prop where
 |mk (p ah z i:_) (bb:vs=[.ref p,.str z,.int i]) (ai:H p=J (.ins C ah [])) (aj:Q .bM (upd H p (.ins C ah (yS z i aI aI))))
def Zz(T:uw K C)(F:cU K "__init__" "Source.__init__" FU f fd):cB P w K mg zn cM 1 f fd ["self","signs","at"] (Rq C):=by
 refine F.ok X3 (fun vs H Q E h=>?_) (fun bg A _ s H vs Q E au h=>?_)
 .obtain⟨p,ah,z,i,rfl,_⟩:=h;rfl
 obtain⟨p,ah,z,i,rfl,aX,q⟩:=h
 refine⟨_,(aO (jg (af 0) (af 1) I)
  (aO (jg (af 0) (af 2) rfl)
  (aO (jg (af 0) iY rfl)
  (aO (jg (af 0) iY rfl)
  (aL (jg (af 0) aH rfl)))))),?_⟩
 ac_rfl;refine⟨_,I,_,I,p,C,ah,_,I,aX,T.cl,T.qe,(by show 0<1000;decide),?_⟩;refine⟨_,I,_,I,p,C,ah,_,I,aB,T.cl,T.kq,(by show 1<1000;decide),?_⟩;refine⟨_,I,p,C,ah,_,I,aB,T.cl,T.j3,(by rw[Cr,Cg];show 2<1000;decide),?_⟩;refine⟨_,I,p,C,ah,_,I,aB,T.cl,T.ae6,(by rw[Cr,Cg,Gq];show 3<1000;decide),?_⟩;refine⟨_,I,p,C,ah,_,I,aB,T.cl,T.DT,(by rw[Cr,Cg,Gq,Ls];show 4<1000;decide),?_⟩;rw[eS,eS,eS,eS,Cr,Cg,Gq,Ls,Zx];exact q
inductive Qy(C:ag)(vs:List V)(H:aq)(Q:bI)(E:cP):Prop where
 |mk (p ah:ag) (l:List Bool) (i:Nat) (t e b:Bool) (bb:vs=[.ref p]) (ai:Kp H p C ah l i t e) (aj:l.length<=16000000) (bt:l[i]?=J b) (cf:Q (.int ((xor t b).toNat:Nat)) (upd H p (.ins C ah (yS (bA l) ((i+1:Nat):Int) t e))))
def VG(nb:dD mg)(T:uw K C)(F:cU K "draw" "Source.draw" BG f fd):cB P w K mg zn cM 1 f fd ["self"] (Qy C):=by
 refine F.ok FJ (fun vs H Q E h=>?_) (fun bg A _ s H vs Q E au h=>?_)
 .obtain⟨p,ah,l,i,t,e,b,rfl,_⟩:=h;rfl
 obtain⟨p,ah,l,i,t,e,b,rfl,⟨u,aX⟩,aC,al,q⟩:=h;have aG:i<l.length:=(kE.mp al).1
 refine⟨_,(aO (b4 1 FJ.br (dp (af 0) I))
  (aO (jg (af 0) aH rfl)
  (aO (cq (bV iV (dp (af 0) rfl) (c1 eh rfl nb.d5 ea (ak (dp (af 0) rfl) ay))) (aO (b4 2 FJ.br (mj wk rfl nb.vh uN (ak (cI cJ (dp (af 0) rfl) (dp (af 0) rfl)) ay)))
   (aO (jg (af 0) (aM cv (dp (af 0) rfl) aH) rfl)
   (aL (aY (oe (h5 (dp (af 0) rfl)) (aM hq aH (af 2)) (af 2)))))) cm)
  (aO (cq (jI (h5 (dp (af 0) rfl))) (aL kG) cm)
  (aL (aY (af 1))))))),?_⟩
 ac_rfl;refine⟨_,I,p,C,ah,_,_,I,aX,T.cl,T.DT,ZI ..,?_⟩;refine⟨_,I,p,C,ah,_,I,aX,T.cl,T.DT,(by show 5<1000;decide),?_⟩;rw[LR];refine⟨_,I,p,C,ah,_,_,I,aB,T.cl,T.kq,Ci ..,_,I,p,C,ah,_,_,I,aB,T.cl,T.qe,LS ..,_,_,I,⟨by rw[fu];exact gg aC,I⟩,.inl ⟨_,_,rfl,rfl,_,rfl,?_⟩⟩;refine hp (by rw[fu];lia) ?_;refine⟨_,I,p,C,ah,_,_,I,aB,T.cl,T.qe,LS ..,_,I,p,C,ah,_,_,I,aB,T.cl,T.kq,Ci ..,.inr ⟨_,_,tu b,I,I,by rw[fu];exact gg aC,dF (Uw al),.inr ⟨_,_,I,Us b,(by show 1<=640;decide),?_⟩⟩⟩;refine⟨_,I,p,C,ah,_,_,I,aB,T.cl,T.kq,Ci ..,.inl ⟨_,_,I,I,_,I,p,C,ah,_,I,aB,T.cl,T.kq,(by show 5<1000;decide),?_⟩⟩;rw[aaB,eS];refine⟨_,I,p,C,ah,_,_,I,aB,T.cl,T.j3,LG ..,_,I,?_⟩;cases t with
 |false =>
  refine e2 ⟨_,I,?_⟩;have e:(aI ^^ b)=b:=by cases b<;>rfl
  rw[e]at q;exact q
 |true =>
  refine ho ⟨_,I,_,_,I,I,?_⟩;have e:((ao ^^ b).toNat:Int)=1-(b.toNat:Int):=by cases b<;>rfl
  rw[e]at q;exact q
inductive Ru(C:ag)(vs:List V)(H:aq)(Q:bI)(E:cP):Prop where
 |mk (p ah:ag) (l:List Bool) (i:Nat) (t e:Bool) (u:Int) (bb:vs=[.ref p]) (ai:H p=J (.ins C ah (gK (bA l) ((i:Nat):Int) t e u))) (aj:Q .bM (upd H p (.ins C ah (gK (bA l) ((i:Nat):Int) (!t) e u))))
def VE(T:uw K C)(F:cU K "turn" "Source.turn" BF f fd):cB P w K mg zn cM 1 f fd ["self"] (Ru C):=by
 refine F.ok X2 (fun vs H Q E h=>?_) (fun bg A _ s H vs Q E au h=>?_)
 .obtain⟨p,ah,l,i,t,e,u,rfl,_⟩:=h;rfl
 obtain⟨p,ah,l,i,t,e,u,rfl,aX,q⟩:=h;refine⟨_,(aL (jg (af 0) (Hd (dp (af 0) I)) I)),?_⟩;ac_rfl;refine⟨_,I,p,C,ah,_,_,I,aX,T.cl,T.j3,LG ..,t,I,_,I,p,C,ah,_,I,aX,T.cl,T.j3,(by show 5<1000;decide),?_⟩;rw[ZZ];exact q
def vy:cH:=fun _ _ _ _=>False
noncomputable abbrev fY(C ah:ag)(l:List Bool)(i:Nat)(t e:Bool):de :=.ins C ah (yS (bA l) ((i:Nat):Int) t e)
noncomputable abbrev z6(C ah:ag)(l:List Bool)(i:Nat)(t e:Bool)(u:Int):de :=.ins C ah (gK (bA l) ((i:Nat):Int) t e u)
inductive Qt(C:ag)(vs:List V)(H:aq)(Q:bI)(E:cP):Prop where
 |mk (p ah:ag) (l:List Bool) (i n m:Nat) (t dj:Bool) (bb:vs=[.ref p,.int m]) (ai:H p=J (fY C ah l i t dj)) (aj:l.length<=16000000) (bt:n<=m) (cf:i+aE m<=l.length) (eF:((l.drop i).take (aE m)).map (xor t)=dq n (aE m)) (gD:Q (.int n) (upd H p (fY C ah l (i+aE m) t dj)))
def YL(nb:dD mg)(dH:e7 K C)(F:dB K mg "draw_fixed" F7 ["source","most"] f fd)(hF:fp P w K mg zn 1 C "draw" ["self"] (Qy C))(mM:fp P w K mg zn 1 C "refuse" ["self"] vy):bf P w K mg zn 2 "draw_fixed" ["source","most"] (Qt C):=by
 refine F.eH Bv (fun H vs Q E au h=>?_);obtain⟨p,ah,l,i,n,m,t,dj,rfl,aX,aC,bj,aG,al,q⟩:=h
 refine⟨_,(aO (b4 2 Bv.br aH)
  (aO (mS iu.never rfl (L8 rfl nb.mD (ak (aM hq (uM PySem.F.plainAttrs_int PySem.F.slot_int_bit_length PySem.F.type_int_bit_length yh (af 1)) aH) (ak (mU mP aH) (ak (mU mP aH) ay)))) (d4 (i:=3) Bv.br rfl (by exact Or.inl I))
   (aO (b4 2 Bv.br (aM cv (aM kX aH (af 2)) (jn hF dH au (af 0))))
   (aL (cq (bV lY (af 2) (aM KP (af 1) (af 3))) (aL (iz (jn mM dH au (af 0)))) cm))))
  (aL (aY (af 2))))),?_⟩
 ac_rfl;have akI:=yz m;refine⟨_,I,I,_,I,I,_,_,I,I,_,I,_,I,_,_,I,⟨by lia,by lia,by decide,by decide⟩,?_⟩;have hw:(((dI.Int.intBits ((m:Nat):Int):Nat):Int)-1-(-1)).toNat=aE m:=by lia
 refine aaj (fun j ab az=>∃z,ab=[J (.ref p),J (.int m),J (.int ((n/2^(aE m-j):Nat):Int)),z]/\az=upd H p (fY C ah l (i+j) t dj)) ?_ ?_ ?_
 ·refine⟨aA,?_,(Cn aX).symm⟩;rw[Nat.sub_zero,Nat.div_eq_of_lt (Nat.lt_of_le_of_lt bj (qO m))];rfl
 ·rintro j ab az cj ⟨z,rfl,rfl⟩;rw[hw]at cj;obtain⟨b,hl,hJ⟩:=TC al cj aG;have iB:(((dI.Int.intBits ((m:Nat):Int):Nat):Int)-1+(j:Int)*(-1)).toNat=aE m-1-j:=by lia
  have aQ:aE m-j=aE m-1-j+1:=by lia
  have aR:aE m-(j+1)=aE m-1-j:=by lia
  have aZ:=U4 n (aE m-1-j);refine⟨_,I,.inl ⟨_,_,I,I,.inl ⟨by decide,by decide⟩,_,rfl,p,ah,_,rfl,aB,ml _ _ _ _ ⋯ ⋯ ⋯,?_⟩⟩;refine⟨p,ah,l,i+j,t,dj,b,I,⟨_,aB⟩,aC,hl,.inl ⟨_,_,I,I,?_⟩⟩;refine⟨_,I,_,I,_,I,_,_,I,I,(by lia),_,_,I,I,_,I,?_⟩
  have ev:(2:Int)*((n/2^(aE m-j):Nat):Int)+(((t ^^ b).toNat:Nat):Int)=((n/2^(aE m-(j+1)):Nat):Int):=by
   rw[hJ,aQ,aR,aZ];lia
  refine da ?_ ?_
  ·rw[ev,iB,aR]
   have a1:((m:Nat):Int)/2^(aE m-1-j)=((m/2^(aE m-1-j):Nat):Int):=by
    rw[Int.natCast_ediv,Int.natCast_pow];rfl
   have a2:=Nat.div_le_div_right (c:=2^(aE m-1-j)) bj;rw[a1];lia
  ·rw[<-ev];exact⟨_,I,by rw[eS];rfl⟩
 ·rintro ab az ⟨z,rfl,rfl⟩;rw[hw];refine⟨_,I,_,.ins aX (fun b u al e=>by rw[bx al];exact e) aB,?_⟩;have e:n/2^(aE m-aE m)=n:=by rw[Nat.sub_self,Nat.pow_zero,Nat.div_one]
  rw[e];exact q
inductive Qo(vs:List V)(H:aq)(Q:bI)(E:cP):Prop where
 |mk (n:Nat) (bb:vs=[.int n]) (ai:n+1<2^255) (aj:Q (.str (bA (cnt n))) H)
def U7{e:Nat}:e<8->0<(fU e).length:=by intro h;unfold fU;rw[if_neg (by lia)];decide
def Ha(e:Nat):(fU e).length<=1:=by unfold fU;split<;>simp
def U9{n:Nat}(h:2^k<=n):k<aE n:=by
 rcases h4 k (aE n)with z|z
 .exact z
 ·have:=qO n;have:=Nat.pow_le_pow_right (show 0<2 by decide) z;lia
def iH(n:Int):Prop:=0<=n/\n<2^255-1
noncomputable instance (n:Int):Decidable (iH n):=inferInstanceAs (Decidable (_/\_))
inductive QP(vs:List V)(H:aq)(Q:bI)(E:cP):Prop where
 |mk (n:Int) (bb:vs=[.int n]) (ai:Q (.aS (decide (iH n))) H)
def NR:iH (m:Int)↔aE (m+1)<=255:=by
 unfold iH;constructor
 .intro ⟨_,h⟩;exact ki (by lia)
 ·intro h;rcases h4 (m+1) (2^255)with z|z
  .omega
  .have:=U9 z;lia
def ZF(HM:gj mg "MOST_DIGITS" (.int 255))(F:dB K mg "is_count" Gy ["n"] f fd):bf P w K mg zn 1 "is_count" ["n"] QP:=by
 refine F.eH Zv (fun H vs Q E au h=>?_);obtain⟨n,rfl,q⟩:=h;refine⟨_,(aL (aY (k9 (g4 I7 (af 0) aH) (md (g4 zP (uM PySem.F.plainAttrs_int PySem.F.slot_int_bit_length PySem.F.type_int_bit_length yh (aM cv (af 0) aH)) (kI HM)))))),?_⟩;ac_rfl;refine⟨_,I,_,_,I,I,_,I,?_⟩;refine fM (fun c=>?_) (fun c=>?_)
 ·refine⟨_,I,.inl ⟨_,_,I,I,I,_,I,I,_,_,I,I,H,.refl (cK _),?_⟩⟩;obtain⟨m,rfl⟩:∃m:Nat,n=m:=⟨n.toNat,by lia⟩;rw[show((m:Int)+1)=((m+1:Nat):Int)from rfl,yz (m+1)]
  have e:decide (((aE (m+1):Nat):Int)<=255)=decide (iH (m:Int)):=by
   rw[decide_eq_decide,NR];lia
  dsimp only;rw[e];exact q
 ·refine⟨H,.refl (cK _),?_⟩;have e:decide (iH n)=aI:=e8 fun z=>c z.1;rw[<-e];exact q
def Ze(wO:gj mg "MOST_AHEAD" (.int 7))(F:dB K mg "count_row" Gl ["n"] f fd)(nZ:bf P w K mg zn 1 "is_count" ["n"] QP)(ug:bf P w K mg zn 1 "lower_digits" ["n","width"] QY):bf P w K mg zn 2 "count_row" ["n"] Qo:=by
 refine F.eH x5 (fun H vs Q E au h=>?_);obtain⟨n,rfl,bj,q⟩:=h
 refine⟨_,(aO (cq (jI (h5 (b7 nZ au (ak (af 0) ay)))) (aL kG) cm)
  (aO (b4 1 x5.br (aM cv (af 0) aH))
  (aO (b4 2 x5.br (uM PySem.F.plainAttrs_int PySem.F.slot_int_bit_length PySem.F.type_int_bit_length yh (af 1)))
  (aO (b4 3 x5.br (aM hq (uM PySem.F.plainAttrs_int PySem.F.slot_int_bit_length PySem.F.type_int_bit_length yh (af 2)) aH))
  (aO (b4 4 x5.br (oe (bV dn (af 3) (kI wO)) bu bu))
  (aL (aY (aM cv (aM cv (aM cv (aM kX bu (af 3)) (af 4)) (b7 ug au (ak (af 2) (ak (af 3) ay)))) (b7 ug au (ak (af 1) (ak (aM hq (af 2) aH) ay))))))))))),?_⟩
 ac_rfl;have hd:aE (n+1)<=255:=ki bj;have aX:0<aE (n+1):=pD (by lia);have he:aE (aE (n+1))<=8:=ki (by lia);have bl:0<aE (aE (n+1)):=pD (by lia);have jo:=yz (n+1);have gm:=yz (aE (n+1));refine⟨_,I,_,I,_,I,?_⟩;rw[eK (NR.mpr hd)];refine e2 ⟨_,I,.inl ⟨_,_,I,I,_,I,I,_,I,I,?_⟩⟩;rw[show((n:Int)+1)=((n+1:Nat):Int)from rfl,jo];refine⟨_,I,I,_,I,I,_,_,I,I,?_⟩;rw[gm];obtain⟨k,hk⟩:∃k:Nat,((aE (aE (n+1)):Nat):Int)-1=k:=⟨aE (aE (n+1))-1,by lia⟩;have oD:k=aE (aE (n+1))-1:=by lia
 dsimp only;rw[hk];have a1:(k:Int)<2^40:=by lia
 have a2 : -(2^40)<(k:Int):=by lia
 have a3:(aa.ofString "1").length*((k:Nat):Int).toNat<=cp:=by rw[s1,fu];exact dS (by show 1*_<=_;lia)
 have a4:(Txt.mul (aa.ofString "1") (k:Int)).length+(bA (fU (aE (aE (n+1))))).length<=cp:=by
  rw[s1,CS,fu,fu,List.length_replicate];have:=Ha (aE (aE (n+1)));exact dS (by lia)
 have a5:(Txt.mul (aa.ofString "1") (k:Int)++bA (fU (aE (aE (n+1))))).length+(bA (dq (aE (n+1)) k)).length<=cp:=by
  rw[s1,CS,mi,fu,fu,bE,List.length_replicate,jm];have:=Ha (aE (aE (n+1)));exact dS (by lia)
 have a6:(Txt.mul (aa.ofString "1") (k:Int)++bA (fU (aE (aE (n+1))))++bA (dq (aE (n+1)) k)).length+(bA (dq (n+1) (aE (n+1)-1))).length<=cp:=by
  rw[s1,CS,mi,mi,fu,fu,bE,bE,List.length_replicate,jm,jm];have:=Ha (aE (aE (n+1)));exact dS (by lia)
 have NL:Txt.mul (aa.ofString "1") (k:Int)++bA (fU (aE (aE (n+1))))++bA (dq (aE (n+1)) k)++bA (dq (n+1) (aE (n+1)-1))=bA (cnt n):=by
  rw[s1,CS,mi,mi,mi];unfold cnt;rw[oD,eC,eC];rfl
 have ad:[V.int ((n:Int)+1),V.int (((aE (n+1):Nat):Int)-1)]=[.int ((n+1:Nat):Int),.int ((aE (n+1)-1:Nat):Int)]:=by
  have:((aE (n+1):Nat):Int)-1=((aE (n+1)-1:Nat):Int):=by lia
  rw[this];rfl
 refine⟨_,I,I,_,I,?_⟩;refine fM (fun c=>?_) (fun c=>?_)
 ·have y7:(aa.ofString "")=bA (fU (aE (aE (n+1)))):=by
   have:=V.int.inj c;rw[aiH];unfold fU;rw[if_pos (by lia)]
  rw[y7];refine⟨_,I,.inr ⟨_,_,I,I,a1,a2,a3,_,I,.inr ⟨_,_,I,I,a4,_,I,_,I,_,_,I,(by lia),.inr ⟨_,_,I,I,a5,?_⟩⟩⟩⟩;refine⟨_,I,_,I,_,_,I,I,n+1,aE (n+1)-1,ad,(by lia),.inr ⟨_,_,I,I,a6,H,.refl (cK _),?_⟩⟩;rw[NL];exact q
 ·have y7:(aa.ofString "0")=bA (fU (aE (aE (n+1)))):=by
   have:¬k=7:=fun z=>c (by rw[z];rfl);rw[s0];unfold fU;rw[if_neg (by lia)]
  rw[y7];refine⟨_,I,.inr ⟨_,_,I,I,a1,a2,a3,_,I,.inr ⟨_,_,I,I,a4,_,I,_,I,_,_,I,(by lia),.inr ⟨_,_,I,I,a5,?_⟩⟩⟩⟩;refine⟨_,I,_,I,_,_,I,I,n+1,aE (n+1)-1,ad,(by lia),.inr ⟨_,_,I,I,a6,H,.refl (cK _),?_⟩⟩;rw[NL];exact q
def je(n:Int):Prop := -(2^255)<n/\n<2^255-1
inductive Ld(vs:List V)(H:aq)(Q:bI)(E:cP):Prop where
 |mk (n:Int) (bb:vs=[.int n]) (ai:je n) (aj:Q (.str (bA (gS n))) H)
def Nm{n:Int}(h:n<0)(b : -(2^255)<n):∃m:Nat,-1-n=m/\m+1<2^255/\gS n=aI::(cnt m).map (!·):=by
 refine⟨(-1-n).toNat,by lia,by lia,?_⟩;unfold gS;rw[if_pos h]
def Ng{n:Int}(h:¬n<0)(b:n<2^255-1):∃m:Nat,n=m/\m+1<2^255/\gS n=ao::cnt m:=by
 refine⟨n.toNat,by lia,by lia,?_⟩;unfold gS;rw[if_neg h]
def CP{n:Nat}(h:n+1<2^255):(cnt n).length<=269:=by
 have:=GC h;have:=ki h;lia
def MX(b:Bool)(l:List Bool):bA [b]++bA l=bA (b::l):=by rw[mi];rfl
def Y6(F:dB K mg "whole_row" Gb ["n"] f fd)(uc:bf P w K mg zn 2 "count_row" ["n"] Qo)(pj:bf P w K mg zn 1 "turned_row" ["row"] K6):bf P w K mg zn 3 "whole_row" ["n"] Ld:=by
 refine F.eH YW (fun H vs Q E au h=>?_);obtain⟨n,rfl,bj,q⟩:=h
 refine⟨_,(aO (cq (bV iV (af 0) aH) (aL (aY (aM cv bu (b7 pj au (ak (b7 uc au (ak (aM hq (mU mP aH) (af 0)) ay)) ay))))) cm)
  (aL (aY (aM cv bu (b7 uc au (ak (af 0) ay)))))),?_⟩
 ac_rfl;refine⟨_,I,.inl ⟨_,_,I,I,_,I,?_⟩⟩;refine fM (fun c=>?_) (fun c=>?_)
 ·obtain⟨m,e,hm,jN⟩:=Nm c bj.1;have lm:=CP hm;refine⟨_,I,_,I,_,_,I,I,m,(congrArg (fun x=>[V.int x]) e),hm,cnt m,I,(by lia),.inr ⟨_,_,I,I,(by rw[s0,fu,fu,cd];exact dS (by simp only[dW,List.length_nil];lia)),H,.refl (cK _),?_⟩⟩;rw[s0,MX,<-jN];exact q
 ·obtain⟨m,rfl,hm,jN⟩:=Ng c bj.2;have lm:=CP hm;refine⟨_,I,m,I,hm,.inr ⟨_,_,I,I,(by rw[s1,fu,fu];exact dS (by simp only[dW,List.length_nil];lia)),H,.refl (cK _),?_⟩⟩;rw[s1,MX,<-jN];exact q
inductive Qw(C:ag)(vs:List V)(H:aq)(Q:bI)(E:cP):Prop where
 |mk (p ah:ag) (l:List Bool) (i d:Nat) (t dj:Bool) (bb:vs=[.ref p,.int d]) (ai:H p=J (fY C ah l i t dj)) (aj:l.length<=16000000) (bt:i+d<=l.length) (cf:Q (.int ((lq 1 (((l.map (xor t)).drop i).take d):Nat):Int)) (upd H p (fY C ah l (i+d) t dj)))
def get_map(h:i<l.length):∃b,l[i]?=J b/\(l.map (xor t)).getD i aI=xor t b:=by
 refine⟨l[i],cw h,?_⟩;rw[eR,eJ,cw h];rfl
def aat{b:Bool}(h:i+j<L.length)(al:L.getD (i+j) aI=b):(L.drop i).take (j+1)=(L.drop i).take j++[b]:=by
 rw[mf,List.getElem?_drop];rw[eR,cw h]at al;rw[cw h];have:L[i+j]=b:=al;rw[this];rfl
def WO(nb:dD mg)(dH:e7 K C)(F:dB K mg "draw_lower_digits" E9 ["source","width"] f fd)(hF:fp P w K mg zn 1 C "draw" ["self"] (Qy C)):bf P w K mg zn 2 "draw_lower_digits" ["source","width"] (Qw C):=by
 refine F.eH Bp (fun H vs Q E au h=>?_);obtain⟨p,ah,l,i,d,t,dj,rfl,aX,aC,aG,q⟩:=h
 refine⟨_,(aO (b4 2 Bp.br aH)
  (aO (mS iu.never rfl (nt rfl nb.mD (ak (af 1) ay)) (d4 (i:=3) Bp.br rfl (by exact Or.inl I))
   (aL (b4 2 Bp.br (aM cv (aM kX aH (af 2)) (jn hF dH au (af 0))))))
  (aL (aY (af 2))))),?_⟩
 ac_rfl;refine⟨_,I,_,I,by lia,by lia,?_⟩;refine wj (fun j ab az=>∃z,ab=[J (.ref p),J (.int d),J (.int ((lq 1 (((l.map (xor t)).drop i).take j):Nat):Int)),z]/\az=upd H p (fY C ah l (i+j) t dj)) ?_ ?_ ?_
 .exact⟨aA,I,(Cn aX).symm⟩
 ·rintro j ab az cj ⟨z,rfl,rfl⟩;have OP:j<d:=by lia
  obtain⟨b,hl,hJ⟩:=get_map (l:=l) (t:=t) (i:=i+j) (by lia);have ajK:=aat (L:=l.map (xor t)) (i:=i) (j:=j) (by rw[cd];lia) hJ;refine⟨_,I,.inl ⟨_,_,I,I,.inl ⟨by decide,by decide⟩,_,rfl,p,ah,_,rfl,aB,ml _ _ _ _ ⋯ ⋯ ⋯,?_⟩⟩;refine⟨p,ah,l,i+j,t,dj,b,I,⟨_,aB⟩,aC,hl,.inl ⟨_,_,I,I,?_⟩⟩
  have ev:(2:Int)*((lq 1 (((l.map (xor t)).drop i).take j):Nat):Int)+(((t ^^ b).toNat:Nat):Int)=((lq 1 (((l.map (xor t)).drop i).take (j+1)):Nat):Int):=by
   rw[ajK,aaA];show _=((2*lq 1 (((l.map (xor t)).drop i).take j)+(t ^^ b).toNat:Nat):Int);lia
  rw[<-ev];exact⟨_,I,by rw[eS];rfl⟩
 ·rintro ab az ⟨z,rfl,rfl⟩;have e:((d:Nat):Int).toNat=d:=by lia
  rw[e];exact⟨_,I,_,.ins aX (fun b u al e=>by rw[bx al];exact e) aB,q⟩
inductive Qs(C:ag)(vs:List V)(H:aq)(Q:bI)(E:cP):Prop where
 |mk (p ah:ag) (l:List Bool) (i n:Nat) (t dj:Bool) (bb:vs=[.ref p]) (ai:Kp H p C ah l i t dj) (aj:l.length<=16000000) (bt:i<=l.length) (cf:n+1<2^255) (eF:cnt n <+: (l.map (xor t)).drop i) (gD:Q (.int (n:Nat)) (upd H p (fY C ah l (i+(cnt n).length) t dj)))
def YM(wO:gj mg "MOST_AHEAD" (.int 7))(dH:e7 K C)(F:dB K mg "draw_count" F8 ["source"] f fd)(hF:fp P w K mg zn 1 C "draw" ["self"] (Qy C))(Ap:bf P w K mg zn 2 "draw_lower_digits" ["source","width"] (Qw C)):bf P w K mg zn 3 "draw_count" ["source"] (Qs C):=by show_term
 refine F.eH Bw (fun H vs Q E au h=>?_);obtain⟨p,ah,l,i,n,t,dj,rfl,⟨Ah,aX⟩,aC,aG,bj,hc,q⟩:=h
 refine⟨_,(aO (b4 1 Bw.br aH)
  (aO (pB iu.never (gA.pt (rX (bV iV (af 1) (kI wO)) (tp (bV dn (jn hF dH au (af 0)) aH))))
   (aL (b4 1 Bw.br (aM cv (af 1) aH))))
  (aO (b4 2 Bw.br (b7 Ap au (ak (af 0) (ak (af 1) ay))))
  (aL (aY (aM hq (b7 Ap au (ak (af 0) (ak (aM hq (af 2) aH) ay))) aH)))))),?_⟩
 ac_rfl;have hd:aE (n+1)<=255:=ki bj;have ak9:0<aE (n+1):=pD (by lia);have he:aE (aE (n+1))<=8:=ki (by lia);have bl:0<aE (aE (n+1)):=pD (by lia);have ca:=Wu hc (by rw[cd];exact aG);have fits:=ca.fits;have cl:=NA n;rw[cd]at fits;refine⟨fun m ab az=>∃(j:Nat)(u:Int),j<=aE (aE (n+1))-1/\m=8-j/\ab=[J (.ref p),J (.int (j:Nat)),aA]/\(j≠0->u=0)/\az=upd H p (.ins C ah (gK (bA l) ((i+j:Nat):Int) t dj u)),⟨8,0,Ah,UF _,I,I,(fun z=>absurd I z),(Cn aX).symm⟩,?_⟩;rintro m ab az ⟨j,u,cj,rfl,rfl,cG,rfl⟩;refine⟨_,I,.inl ⟨_,_,I,I,_,I,?_⟩⟩;have v1:lq 1 (((l.map (xor t)).drop (i+(aE (aE (n+1))-1)+(fU (aE (aE (n+1)))).length)).take (aE (aE (n+1))-1))=aE (n+1):=by rw[ca.size];exact KM (by lia)
 have v2:lq 1 (((l.map (xor t)).drop (i+(aE (aE (n+1))-1)+(fU (aE (aE (n+1)))).length+(aE (aE (n+1))-1))).take (aE (n+1)-1))=n+1:=by rw[ca.more];exact KM (by lia)
 have ad:[V.ref p,V.int (((aE (n+1):Nat):Int)-1)]=[.ref p,.int ((aE (n+1)-1:Nat):Int)]:=by
  have:((aE (n+1):Nat):Int)-1=((aE (n+1)-1:Nat):Int):=by lia
  rw[this]
 have NK:((n+1:Nat):Int)-1=((n:Nat):Int):=by lia
 have ap:i+(aE (aE (n+1))-1)+(fU (aE (aE (n+1)))).length+(aE (aE (n+1))-1)+(aE (n+1)-1)=i+(cnt n).length:=by lia
 refine fM (fun c=>?_) (fun c=>?_)
 ·have akW:j<7:=by lia
  obtain⟨b,hl,hJ⟩:=get_map (l:=l) (t:=t) (i:=i+j) (by have:=U7 (e:=aE (aE (n+1)));lia);refine⟨_,I,p,ah,_,I,aB,ml _ _ _ _ ⋯ ⋯ ⋯,p,ah,l,i+j,t,dj,b,I,⟨_,aB⟩,aC,hl,I,_,I,?_⟩;by_cases adr:j<aE (aE (n+1))-1
  ·have o:=ca.ones j adr;rw[hJ]at o;rw[o];refine hp I ⟨fun cb H'=>∃b6,b6<8-j/\∃(j':Nat)(u:Int),j'<=aE (aE (n+1))-1/\b6=8-j'/\cb=[J (.ref p),J (.int (j':Nat)),aA]/\(j'≠0->u=0)/\H'=upd H p (.ins C ah (gK (bA l) ((i+j':Nat):Int) t dj u)),fun _ _ h=>h,?_⟩;exact⟨_,I,.inl ⟨_,_,I,I,8-(j+1),by lia,j+1,0,by lia,rfl,rfl,(fun _=>rfl),by rw[eS];rfl⟩⟩
  ·have hI:j=aE (aE (n+1))-1:=by lia
   have o:=ca.zero (by lia);rw[<-hI,hJ]at o;rw[o];refine da (by intro z;cases z) ?_;have pR:(fU (aE (aE (n+1)))).length=1:=by unfold fU;rw[if_neg (by lia)];rfl
   have ex:upd (upd H p (.ins C ah (gK (bA l) ((i+j:Nat):Int) t dj u))) p (.ins C ah (yS (bA l) ((i+j+1:Nat):Int) t dj))=upd H p (fY C ah l (i+(aE (aE (n+1))-1)+(fU (aE (aE (n+1)))).length) t dj):=by
    rw[eS,pR,<-hI]
   rw[ex,hI];refine⟨_,I,_,I,p,ah,l,i+(aE (aE (n+1))-1)+(fU (aE (aE (n+1)))).length,aE (aE (n+1))-1,t,dj,I,aB,aC,(by lia),?_⟩;rw[v1];refine⟨_,I,_,I,_,_,I,I,p,ah,l,_,aE (n+1)-1,t,dj,ad,aB,aC,(by lia),_,_,I,I,?_⟩;rw[v2,eS,eS,ap];refine⟨_,.ins aX (fun b u al e=>by rw[bx al];exact e) aB,?_⟩;dsimp only;rw[NK];exact q
 ·have hI:j=aE (aE (n+1))-1:=by lia
  have pR:(fU (aE (aE (n+1)))).length=0:=by unfold fU;rw[if_pos (by lia)];rfl
  have adp:j≠0:=by lia
  rw[cG adp]
  have ex:upd H p (fY C ah l (i+j) t dj)=upd H p (fY C ah l (i+(aE (aE (n+1))-1)+(fU (aE (aE (n+1)))).length) t dj):=by
   rw[pR,<-hI];rfl
  rw[ex,hI];refine⟨_,I,_,I,p,ah,l,i+(aE (aE (n+1))-1)+(fU (aE (aE (n+1)))).length,aE (aE (n+1))-1,t,dj,I,aB,aC,(by lia),?_⟩;rw[v1];refine⟨_,I,_,I,_,_,I,I,p,ah,l,_,aE (n+1)-1,t,dj,ad,aB,aC,(by lia),_,_,I,I,?_⟩;rw[v2,eS,eS,ap];refine⟨_,.ins aX (fun b u al e=>by rw[bx al];exact e) aB,?_⟩;dsimp only;rw[NK];exact q
inductive Qx(C:ag)(vs:List V)(H:aq)(Q:bI)(E:cP):Prop where
 |mk (p ah:ag) (l:List Bool) (i:Nat) (n:Int) (t dj:Bool) (bb:vs=[.ref p]) (ai:H p=J (fY C ah l i t dj)) (aj:l.length<=16000000) (bt:i<=l.length) (cf:je n) (eF:gS n <+: (l.map (xor t)).drop i) (gD:Q (.int n) (upd H p (fY C ah l (i+(gS n).length) t dj)))
def CI{b:Bool}(h:(b::r) <+: L.drop i):i<L.length/\L.getD i aI=b/\r <+: L.drop (i+1):=by
 obtain⟨u,e⟩:=h
 have aC:i<L.length:=by
  rcases h4 i L.length with z|z
  .exact z
  .rw[List.drop_eq_nil_of_le z]at e;cases e
 rw[qJ aC]at e;have aQ:b=L[i]:=(List.cons.inj e).1;refine⟨aC,?_,u,(List.cons.inj e).2⟩;rw[eR,cw aC,aQ];rfl
def YK(dH:e7 K C)(F:dB K mg "draw_whole" F6 ["source"] f fd)(hF:fp P w K mg zn 1 C "draw" ["self"] (Qy C))(mN:fp P w K mg zn 1 C "turn" ["self"] (Ru C))(ud:bf P w K mg zn 3 "draw_count" ["source"] (Qs C)):bf P w K mg zn 4 "draw_whole" ["source"] (Qx C):=by
 refine F.eH Lm (fun H vs Q E au h=>?_);obtain⟨p,ah,l,i,n,t,dj,rfl,aX,aC,aG,bj,hc,q⟩:=h
 refine⟨_,(aO (cq (bV dn (jn hF dH au (af 0)) aH) (aL (aY (b7 ud au (ak (af 0) ay)))) cm)
  (aO (iz (jn mN dH au (af 0)))
  (aO (b4 1 Lm.br (aM hq (mU mP aH) (b7 ud au (ak (af 0) ay))))
  (aO (iz (jn mN dH au (af 0)))
  (aL (aY (af 1))))))),?_⟩
 ac_rfl;have nm:∀(z:aa)(i:Int)(t e:Bool){u:Int},(gK z i t e u).lookup ("draw":aa)=aA:=fun _ _ _ _=>ml _ _ _ _ ⋯ ⋯ ⋯;have qg:∀(z:aa)(i:Int)(t e:Bool){u:Int},(gK z i t e u).lookup ("turn":aa)=aA:=fun _ _ _ _=>ml _ _ _ _ ⋯ ⋯ ⋯;by_cases c:n<0
 ·obtain⟨m,e,hm,jN⟩:=Nm c bj.1;rw[jN]at hc;obtain⟨ai,aj,bt⟩:=CI hc;rw[cd]at ai;obtain⟨b,hl,hJ⟩:=get_map (l:=l) (t:=t) ai;rw[aj]at hJ;refine⟨_,I,p,ah,_,I,aX,nm ..,p,ah,l,i,t,dj,b,I,⟨_,aX⟩,aC,hl,I,_,I,?_⟩;rw[<-hJ];refine da (by intro z;cases z) ?_;refine⟨_,I,p,ah,_,I,aB,qg ..,p,ah,l,_,_,_,_,I,aB,?_⟩;rw[eS];refine⟨_,I,_,I,p,ah,l,i+1,m,(!t),dj,I,⟨_,aB⟩,aC,(by lia),hm,?_,?_⟩
  .rw[<-LB,<-List.map_drop];exact Ll bt
  rw[eS];refine⟨_,_,I,I,?_⟩;refine⟨_,I,p,ah,_,I,aB,qg ..,p,ah,l,_,_,_,_,I,aB,?_⟩;rw[eS,Bool.not_not];refine⟨_,I,_,.ins aX (fun b u al e=>by rw[bx al];exact e) aB,?_⟩;have dj:(-1:Int)-(m:Int)=n:=by lia
  have fc:i+1+(cnt m).length=i+(gS n).length:=by rw[jN,dW,cd];lia
  dsimp only;rw[dj,fc];exact q
 ·obtain⟨m,rfl,hm,jN⟩:=Ng c bj.2;rw[jN]at hc;obtain⟨ai,aj,bt⟩:=CI hc;rw[cd]at ai;obtain⟨b,hl,hJ⟩:=get_map (l:=l) (t:=t) ai;rw[aj]at hJ;refine⟨_,I,p,ah,_,I,aX,nm ..,p,ah,l,i,t,dj,b,I,⟨_,aX⟩,aC,hl,I,_,I,?_⟩;rw[<-hJ];refine hp I ?_;refine⟨_,I,p,ah,l,i+1,m,t,dj,I,⟨_,aB⟩,aC,(by lia),hm,bt,?_⟩;rw[eS];refine⟨_,.ins aX (fun b u al e=>by rw[bx al];exact e) aB,?_⟩;have fc:i+1+(cnt m).length=i+(gS (m:Int)).length:=by rw[jN,dW];lia
  rw[fc];exact q
def oL(l:List Int):(l.map V.int).length=l.length:=cd ..
def xu{n:Nat}(h:n<=100001):n<=cp:=c5 h (by decide)
def s3{r:ag}(hs:et H az)(au:H r=aA):et H (upd az r o):=fun b u e=>by rw[bx (hz e au)];exact hs b u e
inductive Rr(vs:List V)(H:aq)(Q:bI)(E:cP):Prop where
 |mk (t:ag) (p q:Int) (bb:vs=[.ref t]) (ai:H t=J (.tup [.int p,.int q])) (aj:0<=q) (bt:(gp p q).length<=100000) (cf:(∀x∈gp p q,x.natAbs<2^1000)) (eF:∀r,H r=aA->Q (.ref r) (upd H r (.lst ((gp p q).map .int))))
def Zy(F:dB K mg "steps_of" Gv ["fraction"] f fd):bf P w K mg zn 1 "steps_of" ["fraction"] Rr:=by
 refine F.eH uB (fun H vs Q E au h=>?_);obtain⟨t,p,q,rfl,aP,bl,aC,al,gQ⟩:=h
 refine⟨_,(aO (b4 1 uB.br (e0 ay))
  (aO (b4 2 uB.br (cI cJ (af 0) aH))
  (aO (b4 3 uB.br (cI cJ (af 0) aH))
  (aO (pB iu.never (bV kY (af 3) aH)
   (aO (iz (h6 PySem.F.plainAttrs_list PySem.F.slot_list_append PySem.F.type_list_append pA (af 1) (ak (aM UG (af 2) (af 3)) ay)))
   (aO (b4 4 uB.br (aM eu (af 2) (af 3)))
   (aO (b4 2 uB.br (af 3))
   (aL (b4 3 uB.br (af 4)))))))
  (aL (aY (af 1))))))),?_⟩
 ac_rfl;have a0:e9 [V.int p,V.int q] 0=J (.int p):=dF (j:=0) rfl;have a1:e9 [V.int p,V.int q] 1=J (.int q):=dF (j:=1) rfl;refine⟨UF _,fun r e5=>?_⟩;have vd:=cZ (o:=de.lst []) e5 t _ aP;refine⟨_,I,x0 vd a0 ⟨_,I,x0 vd a1 ?_⟩⟩;refine⟨fun m ab az=>∃(d:List Int)(x y:Int)(z:Option V),d++gp x y=gp p q/\0<=y/\m=y.toNat/\ab=[J (.ref t),J (.ref r),J (.int x),J (.int y),z]/\az=upd H r (.lst (d.map .int)),⟨q.toNat,[],p,q,aA,I,bl,I,I,I⟩,?_⟩;rintro m ab az ⟨d,x,y,z,hd,ba,rfl,rfl,rfl⟩;refine⟨_,I,I,_,I,?_⟩;rw[yx];by_cases vg:y=0
 ·subst vg;rw[qE,List.append_nil]at hd;subst hd;refine e2 ⟨_,I,_,.new e5 (cZ e5) aB trivial,gQ r e5⟩
 ·have mA:0<y:=by lia
  rw[lH mA]at hd;have Iv:x/y∈gp p q:=by rw[<-hd];exact nq _ (g0 ..)
  have c0:=congrArg List.length hd;rw[bE,dW]at c0;have eE:(y == 0)=aI:=by simpa using vg
  rw[eE];have b9:=jW x mA;have gG:=jX x vg;refine ho ⟨fun cb H'=>∃b6,b6<y.toNat/\∃(d:List Int)(x y:Int)(z:Option V),d++gp x y=gp p q/\0<=y/\b6=y.toNat/\cb=[J (.ref t),J (.ref r),J (.int x),J (.int y),z]/\H'=upd H r (.lst (d.map .int)),fun _ _ h=>h,?_⟩;refine⟨_,I,.inl ⟨I,_,bp aB⟩,_,I,_,I,_,_,I,I,⟨mA,.inr (c5 (U5 mA (al _ Iv)) (Nat.add_le_add_left (by decide) _))⟩,?_⟩;refine⟨_,_,_,I,I,aB,(by rw[oL];exact fz (show d.length<100001 by lia) (xu (by decide))),?_⟩;refine⟨_,I,_,I,_,_,I,I,mA,_,I,_,I,?_⟩;refine⟨(x%y).toNat,by lia,d++[x/y],y,x%y,_,?_,gG,rfl,rfl,?_⟩
  .rw[eC];exact hd
  .rw[eS,fR];rfl
inductive Qg(vs:List V)(H:aq)(Q:bI)(E:cP):Prop where
 |mk (a:ag) (s:List Int) (bb:vs=[.ref a]) (ai:H a=J (.lst (s.map .int))) (aj:s.length<=100000) (bt:Q (.aS (r6 s)) H)
def ZJ(h:s.length<2):r6 s=decide (s.length=1):=by unfold r6;rw[if_pos h]
def aaf(h:¬s.length<2):r6 s=(s.tail.all (fun x=>decide (0<x))&&decide (1<s.getLastD 0)):=by unfold r6;rw[if_neg h]
def GV(h:s≠[]):e9 (s.map V.int) (-1)=J (.int (s.getLastD 0)):=by
 rw[List.getLastD_eq_getLast?,List.getLast?_eq_some_getLast h,Option.getD_some]
 conv=>lhs;rw[<-List.dropLast_concat_getLast h,fR]
 exact M4 _ _
def Zh(nb:dD mg)(F:dB K mg "are_steps" Gn ["steps"] f fd):bf P w K mg zn 1 "are_steps" ["steps"] Qg:=by
 refine F.eH Y0 (fun H vs Q E au h=>?_);obtain⟨a,s,rfl,aN,aC,q⟩:=h
 refine⟨_,(aO (cq (bV iV (c1 eh I nb.d5 ea (ak (af 0) ay)) aH) (aL (aY (g4 dn (c1 eh I nb.d5 ea (ak (af 0) ay)) aH))) cm)
  (aL (aY (k9 (c1 (wt rfl) rfl nb.wB wz (ak (iA ["step"] [] rfl ⋯ trivial (jw (pC qr (af 0) (mR aH) tq)) (d4 (i:=0) (show(["step"]:List aa).Nodup by decide+kernel)) hW (g4 lY (af 0) aH)) ay)) (md (g4 lY (cI cJ (af 0) (mU mP aH)) aH)))))),?_⟩
 ac_rfl;refine⟨_,I,_,_,I,.inl ⟨_,bp aN,I⟩,.inl ⟨_,_,I,I,_,I,?_⟩⟩;rw[oL];refine fM (fun c=>?_) (fun c=>?_)
 ·refine⟨_,I,_,_,I,.inl ⟨_,bp aN,I⟩,I,H,.refl (cK _),?_⟩
  have e:decide (V.int ((s.map V.int).length:Nat)=V.int 1)=r6 s:=by
   rw[ZJ (by lia),oL,yx];apply Bool.eq_iff_iff.mpr;simp;lia
  rw[e];exact q
 ·have hs:s≠[]:=by intro e;subst e;simp at c
  refine .inl ⟨_,I,_,I,.inl ⟨a,_,I,bp aN,fun p aX=>⟨_,I,⟨_,bp aB⟩,fun D b2=>?_⟩⟩⟩;rw[Mq,<-List.map_drop]at b2 ⊢;have nK:=cZ (o:=de.lst ((s.drop 1).map V.int)) aX;refine Cx (xs:=(s.drop 1).map V.int) (fun x=>match x with|.int i =>.aS (decide (0<i))|_=>x) (fun ab=>ab.length=1) (by rw[oL,lF];exact dS (by lia)) rfl b2 (bp aB) ?_ ?_
  ·rintro x av b0 H1 c7 eW R cL;obtain⟨i,_,rfl⟩:=List.mem_map.mp av;obtain⟨z,rfl⟩:=G1 c7;exact⟨_,I,_,_,I,I,cL _ I⟩
  ·rw[hx];have tY:=nK.trans (cZ (o:=de.lst ((s.drop 1).map fun i=>V.aS (decide (0<i)))) b2);refine⟨D,(s.drop 1).map fun i=>decide (0<i),I,bp (by rw[aB,hx];rfl),_,I,?_⟩
   have dG:r6 s=(((s.drop 1).map fun i=>decide (0<i)).all id&&decide (1<s.getLastD 0)):=by
    rw[aaf (by lia),<-List.drop_one,List.all_map];rfl
   cases hZ:((s.drop 1).map fun i=>decide (0<i)).all id with
   |false =>
    rw[hZ,Bool.false_and]at dG;rw[dG]at q;exact e2 ⟨H,.refl tY,q⟩
   |true =>
    rw[hZ,Bool.true_and]at dG;rw[dG]at q;exact ho ⟨_,I,_,I,xz (tY _ _ aN) (GV hs) ⟨_,_,I,I,H,.refl tY,q⟩⟩
inductive QK(vs:List V)(H:aq)(Q:bI)(E:cP):Prop where
 |mk (a:ag) (s:List Int) (bb:vs=[.ref a]) (ai:H a=J (.lst (s.map .int))) (aj:s.length<=1000) (bt:(∀x∈s,x.natAbs<2^1000)) (cf:Good s) (eF:∀r,H r=aA->Q (.ref r) (upd H r (.tup [.int (c2 s).1,.int (c2 s).2])))
def TX(aC:s.length<=1000)(al:∀x∈s,x.natAbs<2^1000):dI.Int.intBits (c2 s).1<=2^20/\dI.Int.intBits (c2 s).2<=2^20:=by
 obtain⟨ai,aj⟩:=Ml al
 have k:(1000+1)*s.length+1<=2^20:=by
  have:(1000+1)*s.length<=1001*1000:=Nat.mul_le_mul_left _ aC;lia
 exact⟨c5 (NG ai) k,c5 (NG aj) k⟩
def Ur{x:V}(h:((s.take (s.length-1)).map V.int)[((s.take (s.length-1)).map V.int).length-1-i]?=J x)(aG:i<s.length-1):∃y,x=.int y/\s.drop (s.length-1-(i+1))=y::s.drop (s.length-1-i)/\y∈s:=by
 have ai:s.length-1-1-i<s.length-1:=Nat.lt_of_le_of_lt (Nat.sub_le ..) (Nat.sub_lt (Nat.lt_of_le_of_lt (UF _) aG) Nat.one_pos);rw[oL,kg,Nat.min_eq_left (Nat.sub_le ..),eJ,List.getElem?_take_of_lt ai]at h;have hk:s.length-1-1-i<s.length:=fz ai (Nat.sub_le ..);rw[cw hk]at h;refine⟨_,(ie h).symm,?_,List.getElem_mem hk⟩;have aQ:s.length-1-(i+1)=s.length-1-1-i:=by rw[Nat.sub_sub (s.length-1) 1 i,Nat.add_comm 1 i]
 have aR:s.length-1-i=s.length-1-1-i+1:=by rw[<-aQ];exact(Nat.sub_add_cancel (Nat.sub_pos_of_lt aG)).symm
 rw[aQ,aR];exact qJ hk
def T5(h:s≠[]):s.drop (s.length-1)=[s.getLastD 0]:=by
 rw[List.getLastD_eq_getLast?,List.getLast?_eq_some_getLast h,Option.getD_some]
 conv=>lhs;rw[<-List.dropLast_concat_getLast h]
 rw[bE,kf,Nat.add_sub_cancel,List.drop_left]
def Yi(nb:dD mg)(F:dB K mg "fraction_of" FR ["steps"] f fd)(vP:bf P w K mg zn 1 "are_steps" ["steps"] Qg):bf P w K mg zn 2 "fraction_of" ["steps"] QK:=by
 refine F.eH uE (fun H vs Q E au h=>?_);obtain⟨a,s,rfl,aN,aC,al,bh,q⟩:=h
 refine⟨_,(aO (cq (jI (h5 (b7 vP au (ak (af 0) ay)))) (aL kG) cm)
  (aO (b4 1 uE.br (cI cJ (af 0) (mU mP aH)))
  (aO (b4 2 uE.br aH)
  (aO (mS iu.never rfl (V9 rfl nb.aiB (pC qr (af 0) tq (mR (mU mP aH)))) (d4 (i:=3) uE.br rfl (by exact Or.inl I))
   (aO (b4 4 uE.br (af 1))
   (aO (b4 1 uE.br (aM cv (aM He (af 3) (af 1)) (af 2)))
   (aL (b4 2 uE.br (af 4))))))
  (aL (aY (gJ (ak (af 1) (ak (af 2) ay))))))))),?_⟩
 ac_rfl;have hs:=bh.ne;have bj:0<s.length:=List.length_pos_iff.mpr hs;refine⟨_,I,a,s,I,aN,by lia,_,rfl,?_⟩;rw[(Mk s).mpr bh];refine e2 ⟨_,I,_,I,xz aN (GV hs) ?_⟩;refine⟨_,I,_,I,_,I,.inl ⟨a,_,I,bp aN,fun p aX=>?_⟩⟩;rw[T9,<-List.map_take,oL];have nK:=cZ (o:=de.lst ((s.take (s.length-1)).map V.int)) aX;refine⟨p,_,I,bp aB,?_⟩;have c0:((s.take (s.length-1)).map V.int).length=s.length-1:=by rw[oL,kg];lia
 refine VT (fun i ab az=>az=upd H p (.lst ((s.take (s.length-1)).map V.int))/\∃d6 d2,ab=[J (.ref a),J (.int (c2 (s.drop (s.length-1-i))).1),J (.int (c2 (s.drop (s.length-1-i))).2),d6,d2]) ?_ ?_ ?_ ?_
 ·refine⟨I,aA,aA,?_⟩;rw[Nat.sub_zero,T5 hs];show _=[_,J (V.int (s.getLastD 0*1+0)),J (V.int 1),_,_];rw[Int.mul_one,Int.add_zero];rfl
 .rintro i ab az aG ⟨rfl,_⟩;exact bp aB
 ·rintro i x ab az aG av ⟨rfl,d6,d2,rfl⟩;rw[c0]at aG;obtain⟨y,rfl,jq,ba⟩:=Ur av aG;have eL:=TX (s:=s.drop (s.length-1-i)) (by rw[lF];lia) fun x av=>al x (List.mem_of_mem_drop av);refine⟨_,I,_,I,_,I,_,_,I,I,⟨c5 (NF (al y ba)) (by decide),eL.1⟩,_,I,.inl ⟨_,_,I,I,_,I,I,J (.int y),J (.int (c2 (s.drop (s.length-1-i))).1),?_⟩⟩;rw[jq];rfl
 ·rintro ab az ⟨rfl,d6,d2,rfl⟩;rw[c0,Nat.sub_self,List.drop_zero];refine⟨_,I,_,I,(by show 2<=cp;decide),fun r e5=>?_⟩;exact⟨_,.new (nK.free e5) (nK.trans (cZ e5)) aB trivial,q r (nK.free e5)⟩
noncomputable instance (n:Int):Decidable (je n):=inferInstanceAs (Decidable (_/\_))
def ob(s:List Int):Prop:=(∀x∈s.take 1,je x)/\∀x∈s.drop 1,iH (x-1)
noncomputable instance (s:List Int):Decidable (ob s):=inferInstanceAs (Decidable (_/\_))
inductive QO(vs:List V)(H:aq)(Q:bI)(E:cP):Prop where
 |mk (n:Int) (bb:vs=[.int n]) (ai:Q (.aS (decide (je n))) H)
def Xn(F:dB K mg "has_whole_row" AI ["n"] f fd)(nZ:bf P w K mg zn 1 "is_count" ["n"] QP):bf P w K mg zn 2 "has_whole_row" ["n"] QO:=by
 refine F.eH La (fun H vs Q E au h=>?_);obtain⟨n,rfl,q⟩:=h;refine⟨_,(aL (aY (b7 nZ au (ak (oe (bV I7 (af 0) aH) (af 0) (aM hq (mU mP aH) (af 0))) ay)))),?_⟩;ac_rfl;refine⟨_,I,_,_,I,I,_,I,?_⟩;refine fM (fun c=>?_) (fun c=>?_)
 ·refine⟨_,I,_,I,H,.refl (cK _),?_⟩;have e:decide (iH n)=decide (je n):=decide_eq_decide.mpr (by unfold iH je;lia);rw[e];exact q
 ·refine⟨_,I,_,I,_,_,I,I,_,I,H,.refl (cK _),?_⟩;have e:decide (iH (-1-n))=decide (je n):=decide_eq_decide.mpr (by unfold iH je;lia);rw[e];exact q
inductive Ql(vs:List V)(H:aq)(Q:bI)(E:cP):Prop where
 |mk (p q:Int) (bb:vs=[.int p,.int q]) (ai:0<=q) (aj:Q (.int (fb p q)) H)
def W4(F:dB K mg "common_divisor" FE ["one","other"] f fd):bf P w K mg zn 1 "common_divisor" ["one","other"] Ql:=by
 refine F.eH Bj (fun H vs Q E au h=>?_);obtain⟨p,q,rfl,bl,gQ⟩:=h
 refine⟨_,(aO (pB iu.never (bV kY (af 1) aH)
   (aO (b4 2 Bj.br (aM eu (af 0) (af 1)))
   (aO (b4 0 Bj.br (af 1))
   (aL (b4 1 Bj.br (af 2))))))
  (aL (aY (af 0)))),?_⟩
 ac_rfl;refine⟨fun m ab az=>∃(x y:Int)(z:Option V),fb x y=fb p q/\0<=y/\m=y.toNat/\ab=[J (.int x),J (.int y),z]/\az=H,⟨q.toNat,p,q,aA,I,bl,I,I,I⟩,?_⟩;rintro m ab az ⟨x,y,z,hd,ba,rfl,rfl,rfl⟩;refine⟨_,I,I,_,I,?_⟩;rw[yx];by_cases vg:y=0
 ·subst vg;rw[yy]at hd;subst hd;exact e2 ⟨_,I,az,.refl (cK _),gQ⟩
 ·have mA:0<y:=by lia
  rw[CW mA]at hd;have eE:(y == 0)=aI:=by simpa using vg
  rw[eE];have b9:=jW x mA;have gG:=jX x vg;refine ho ⟨fun cb H'=>∃b6,b6<y.toNat/\∃(x y:Int)(z:Option V),fb x y=fb p q/\0<=y/\b6=y.toNat/\cb=[J (.int x),J (.int y),z]/\H'=az,fun _ _ h=>h,?_⟩;refine⟨_,I,_,I,_,_,I,I,mA,_,I,_,I,?_⟩;exact⟨(x%y).toNat,by lia,y,x%y,_,hd,gG,rfl,rfl,rfl⟩
inductive QR(vs:List V)(H:aq)(Q:bI)(E:cP):Prop where
 |mk (t:ag) (p q:Int) (bb:vs=[.ref t]) (ai:H t=J (.tup [.int p,.int q])) (aj:Q (.aS (decide (0<q/\fb p q=1))) H)
def Yh(F:dB K mg "is_fraction" FQ ["fraction"] f fd)(EN:bf P w K mg zn 1 "common_divisor" ["one","other"] Ql):bf P w K mg zn 2 "is_fraction" ["fraction"] QR:=by
 refine F.eH XU (fun H vs Q E au h=>?_);obtain⟨t,p,q,rfl,aP,gQ⟩:=h;refine⟨_,(aL (aY (k9 (g4 lY (cI cJ (af 0) aH) aH) (md (g4 dn (b7 EN au (ak (cI cJ (af 0) aH) (ak (cI cJ (af 0) aH) ay))) aH))))),?_⟩;ac_rfl;have a0:e9 [V.int p,V.int q] 0=J (.int p):=dF (j:=0) rfl;have a1:e9 [V.int p,V.int q] 1=J (.int q):=dF (j:=1) rfl;refine⟨_,I,x0 aP a1 ⟨_,_,I,I,_,I,?_⟩⟩;refine fM (fun c=>?_) (fun c=>?_)
 ·refine⟨_,I,x0 aP a0 ⟨_,I,x0 aP a1 ⟨p,q,I,Int.le_of_lt c,I,H,.refl (cK _),?_⟩⟩⟩;have e:decide (V.int (fb p q)=V.int 1)=decide (0<q/\fb p q=1):=decide_eq_decide.mpr ⟨fun z=>⟨c,V.int.inj z⟩,fun z=>congrArg V.int z.2⟩;rw[e];exact gQ
 ·refine⟨H,.refl (cK _),?_⟩;rw[e8 (fun z=>c z.1)]at gQ;exact gQ
inductive QL(vs:List V)(H:aq)(Q:bI)(E:cP):Prop where
 |mk (t:ag) (p q:Int) (bb:vs=[.ref t]) (ai:H t=J (.tup [.int p,.int q])) (aj:(0<q->(gp p q).length<=100000/\∀x∈gp p q,x.natAbs<2^1000)) (bt:Q (.aS (decide (0<q/\fb p q=1/\ob (gp p q)))) H)
def WS(nb:dD mg)(F:dB K mg "has_fraction_row" Fj ["fraction"] f fd)(ER:bf P w K mg zn 2 "is_fraction" ["fraction"] QR)(sX:bf P w K mg zn 1 "steps_of" ["fraction"] Rr)(ue:bf P w K mg zn 2 "has_whole_row" ["n"] QO)(nZ:bf P w K mg zn 1 "is_count" ["n"] QP):bf P w K mg zn 3 "has_fraction_row" ["fraction"] QL:=by
 refine F.eH K7 (fun H vs Q E au h=>?_);obtain⟨t,p,q,rfl,aP,al,gQ⟩:=h
 refine⟨_,(aO (cq (jI (h5 (b7 ER au (ak (af 0) ay)))) (aL (aY iY)) cm)
  (aO (b4 1 K7.br (b7 sX au (ak (af 0) ay)))
  (aL (aY (k9 (b7 ue au (ak (cI cJ (af 1) aH) ay)) (md (c1 (wt rfl) rfl nb.wB wz (ak (iA ["step"] [] rfl ⋯ trivial (jw (pC qr (af 1) (mR aH) tq)) (d4 (i:=0) (show(["step"]:List aa).Nodup by decide+kernel)) hW (b7 nZ au (ak (aM hq (af 0) aH) ay))) ay)))))))),?_⟩
 ac_rfl;refine⟨_,I,t,p,q,I,aP,_,I,?_⟩;by_cases aD:0<q/\fb p q=1
 ·rw[eK aD];obtain⟨aC,bX⟩:=al aD.1;refine e2 ⟨_,I,t,p,q,I,aP,Int.le_of_lt aD.1,aC,bX,fun r e5=>?_⟩;have nK:=cZ (o:=de.lst ((gp p q).map V.int)) e5;obtain⟨a,aZ,he⟩:∃a aZ,gp p q=a::aZ:=⟨_,_,lH aD.1⟩;rw[he]at gQ nK aC ⊢;have a0:e9 ((a::aZ).map V.int) 0=J (.int a):=dF (j:=0) rfl;refine⟨_,I,xz aB a0 ⟨a,I,_,I,?_⟩⟩;refine fM (fun c=>?_) (fun c=>?_)
  ·refine .inl ⟨_,I,_,I,.inl ⟨r,_,I,bp aB,fun g bh=>⟨_,I,⟨_,bp aB⟩,fun D b2=>?_⟩⟩⟩;rw[Mq,<-List.map_drop]at b2 ⊢;have tY:=nK.trans (cZ (o:=de.lst (((a::aZ).drop 1).map V.int)) bh);refine Cx (xs:=((a::aZ).drop 1).map V.int) (fun x=>match x with|.int i =>.aS (decide (iH (i-1)))|_=>x) (fun ab=>ab.length=1) (by rw[oL,lF];exact dS (by lia)) rfl b2 (bp aB) ?_ ?_
   ·rintro x av b0 H1 c7 eW R cL;obtain⟨i,_,rfl⟩:=List.mem_map.mp av;obtain⟨z,rfl⟩:=G1 c7;exact⟨_,I,_,_,I,I,_,I,cL _ I⟩
   ·rw[hx];have aiF:=tY.trans (cZ (o:=de.lst (((a::aZ).drop 1).map fun i=>V.aS (decide (iH (i-1))))) b2);refine⟨D,((a::aZ).drop 1).map fun i=>decide (iH (i-1)),I,bp (by rw[aB,hx];rfl),H,.refl aiF,?_⟩
    have e:(((a::aZ).drop 1).map fun i=>decide (iH (i-1))).all id=decide (0<q/\fb p q=1/\ob (a::aZ)):=by
     rw[List.all_map];apply Bool.eq_iff_iff.mpr;rw[hy,k6];constructor
     ·intro h;refine⟨aD.1,aD.2,fun x av=>?_,fun x av=>hT (h x av)⟩;rw[eB.mp av];exact c
     ·intro h x av;exact eK (h.2.2.2 x av)
    rw[e];exact gQ
  ·refine⟨H,.refl nK,?_⟩;rw[e8 (fun z=>c (z.2.2.1 a (eB.mpr rfl)))]at gQ;exact gQ
 ·rw[e8 aD];refine ho ⟨H,.refl (cK _),?_⟩;rw[e8 (fun z=>aD ⟨z.1,z.2.1⟩)]at gQ;exact gQ
inductive Rf(vs:List V)(H:aq)(Q:bI)(E:cP):Prop where
 |mk (a:ag) (s:List Int) (bb:vs=[.ref a]) (ai:H a=J (.lst (s.map .int))) (aj:s≠[]) (bt:s.length<=10000) (cf:ob s) (eF:Q (.str (bA (lg s))) H)
def TB{x:Int}{b:Bool}(h:if k=0 then je x else iH (x-1)):(iW k x b).length<=271:=by
 unfold iW;rw[cd,bE,kf];by_cases hk:k=0
 ·rw[if_pos hk]at h ⊢;have:=LO h.1 h.2;lia
 ·rw[if_neg hk]at h ⊢;have:=CP (n:=(x-1).toNat) (by unfold iH at h;lia);lia
def ob.at{x:Int}(h:ob s)(av:s[i]?=J x):if i=0 then je x else iH (x-1):=by
 match s,i,av with
 |a::r,0,av=>cases av;exact h.1 x (eB.mpr I)
 |a::r,i+1,av=>exact h.2 x (jc av)
def Vk{l:List (List Bool)}(h:∀p∈l,p.length<=271):((l.map bA).map (·.length)).sum<=271*l.length:=by
 induction l with
 |nil=>exact UF _
 |cons p r bP =>
  rw[gI,gI,List.sum_cons,dW,fu];have:=h p (g0 ..);have:=bP fun q bl=>h q (d9 _ bl);lia
def Co(x:List Bool)(b:Bool):bA x++bA [b]=bA (x++[b]):=by rw[mi]
def XH(nb:dD mg)(F:dB K mg "row_of_steps" FK ["steps"] f fd)(sY:bf P w K mg zn 3 "whole_row" ["n"] Ld)(uc:bf P w K mg zn 2 "count_row" ["n"] Qo)(pj:bf P w K mg zn 1 "turned_row" ["row"] K6):bf P w K mg zn 4 "row_of_steps" ["steps"] Rf:=by show_term
 refine F.eH uD (fun H vs Q E au h=>?_);obtain⟨a,s,rfl,aN,hB,aC,cL,q⟩:=h
 refine⟨_,(aO (b4 1 uD.br (aM hq (c1 eh I nb.d5 ea (ak (af 0) ay)) aH))
  (aO (b4 2 uD.br (e0 ay))
  (aO (mS iu.never rfl (Vu rfl nb.abE (af 0)) (qP rfl (iZ (d4 (i:=3) uD.br rfl (by exact Or.inl I)) (iZ (d4 (i:=4) uD.br rfl (by exact Or.inl I)) qN)))
   (aO (b4 5 uD.br (oe (bV dn (af 3) aH) (b7 sY au (ak (af 4) ay)) (b7 uc au (ak (aM hq (af 4) aH) ay))))
   (aO (b4 5 uD.br (aM cv (af 5) (oe (bV dn (af 3) (af 1)) bu bu)))
   (aL (iz (h6 PySem.F.plainAttrs_list PySem.F.slot_list_append PySem.F.type_list_append pA (af 2) (ak (oe (bV dn (aM eu (af 3) aH) aH) (b7 pj au (ak (af 5) ay)) (af 5)) ay)))))))
  (aL (aY (h6 PySem.F.plainAttrs_str PySem.F.slot_str_join PySem.F.type_str_join rW bu (ak (af 2) ay))))))),?_⟩
 ac_rfl;refine⟨_,I,_,_,I,.inl ⟨_,bp aN,I⟩,_,_,I,I,UF _,fun r e5=>?_⟩;have sB:=cZ (o:=de.lst []) e5;refine⟨_,I,a,_,I,bp (sB _ _ aN),?_⟩;refine UY (xs:=s.map V.int) (fun i ab az=>et H az/\az r=J (.lst (((hO 0 s).take i).map (fun p=>V.str (bA p))))/\∃d6 d2 jB,ab=[J (.ref a),J (.int ((s.length:Nat)-1:Int)),J (.ref r),d6,d2,jB]) ?_ ?_ ?_ ?_
 .exact⟨sB,aB,aA,aA,aA,by dsimp only;rw[oL];rfl⟩
 .rintro i ab az aG ⟨hs,_⟩;exact bp (hs _ _ aN)
 ·rintro i ajW ab az T av bW ⟨hs,lO,d6,d2,jB,rfl⟩
  obtain⟨x,nF,rfl⟩:∃x,s[i]?=J x/\ajW=.int x:=by
   rw[eJ]at av;cases h:s[i]? with
   |none=>rw[h]at av;cases av
   |some y=>rw[h]at av;exact⟨y,I,(ie av).symm⟩
  have aG:i<s.length:=(kE.mp nF).1;have ik:=cL.at nF;have zv:=Nk (k:=0) nF;rw[Nat.zero_add]at zv;have gd:=hs.trans (cZ (o:=de.tup [V.int ((i:Nat):Int),V.int x]) bW);have oo:=cZ (o:=de.tup [V.int ((i:Nat):Int),V.int x]) bW _ _ lO;refine⟨T,_,I,dy aB,I,_,_,I,_,_,I,I,?_⟩;refine⟨_,I,I,_,I,?_⟩;by_cases zb:i=0
  ·rw[if_pos zb]at ik;have fl:decide (V.int ((i:Nat):Int)=V.int 0)=ao:=eK (congrArg V.int (by lia));rw[fl];refine ho ⟨_,I,x,I,ik,_,I,_,I,_,I,I,_,I,?_⟩;obtain⟨gx,lQ⟩:∃gx,gx=gS x:=⟨_,rfl⟩;have ex:(if i=0 then gS x else cnt (x-1).toNat)=gx:=by rw[if_pos zb,lQ]
   have aeN:gx.length<=270:=by rw[lQ];exact LO ik.1 ik.2
   rw[<-lQ];have xk:(gx++[!decide (i+1=s.length)]).length<=271:=by rw[bE,kf];lia
   refine fM (fun jK=>?_) (fun jK=>?_)
   ·
    have fc:i+1=s.length:=by have:=V.int.inj jK;lia
    have eE:[!decide (i+1=s.length)]=[aI]:=by rw[eK fc];rfl
    refine .inr ⟨_,_,I,I,(by rw[s0,fu,fu];exact dS (by rw[kf];lia)),?_⟩;rw[s0,Co,<-eE];refine⟨_,I,.inl ⟨I,_,bp oo⟩,_,I,_,_,I,I,(by show(0:Int)<2;decide),I,_,I,?_⟩;have pX:∀z:List V,z=((hO 0 s).take i).map (fun p=>V.str (bA p))->z.length<cp:=fun z bX=>by rw[bX,cd,kg];exact fz (show min i (hO 0 s).length<100001 by lia) (xu (by decide))
    have dG:∀p:List Bool,p=iW i x (decide (i+1=s.length))->((hO 0 s).take i).map (fun p=>V.str (bA p))++[V.str (bA p)]=((hO 0 s).take (i+1)).map (fun p=>V.str (bA p)):=fun p aX=>by rw[mf,zv,fR,aX];rfl
    refine fM (fun jh=>?_) (fun jh=>?_)
    ·have aK:odd i=ao:=eK (by have:=V.int.inj jh;lia);refine⟨_,I,_,I,by lia,?_⟩;refine⟨_,_,_,I,I,oo,pX _ I,?_⟩;rw[dG _ (by unfold iW;rw[aK,ex];exact pz fun b _=>by cases b<;>rfl)];exact⟨s3 gd e5,aB,_,_,_,I⟩
    ·have aK:odd i=aI:=e8 (fun z=>jh (congrArg V.int (by lia)));refine⟨_,I,?_⟩;refine⟨_,_,_,I,I,oo,pX _ I,?_⟩;rw[dG _ (by unfold iW;rw[aK,ex,yk])];exact⟨s3 gd e5,aB,_,_,_,I⟩
   ·have fc:¬i+1=s.length:=fun z=>jK (congrArg V.int (by lia));have eE:[!decide (i+1=s.length)]=[ao]:=by rw[e8 fc];rfl
    refine .inr ⟨_,_,I,I,(by rw[s1,fu,fu];exact dS (by rw[kf];lia)),?_⟩;rw[s1,Co,<-eE];refine⟨_,I,.inl ⟨I,_,bp oo⟩,_,I,_,_,I,I,(by show(0:Int)<2;decide),I,_,I,?_⟩;have pX:∀z:List V,z=((hO 0 s).take i).map (fun p=>V.str (bA p))->z.length<cp:=fun z bX=>by rw[bX,cd,kg];exact fz (show min i (hO 0 s).length<100001 by lia) (xu (by decide))
    have dG:∀p:List Bool,p=iW i x (decide (i+1=s.length))->((hO 0 s).take i).map (fun p=>V.str (bA p))++[V.str (bA p)]=((hO 0 s).take (i+1)).map (fun p=>V.str (bA p)):=fun p aX=>by rw[mf,zv,fR,aX];rfl
    refine fM (fun jh=>?_) (fun jh=>?_)
    ·have aK:odd i=ao:=eK (by have:=V.int.inj jh;lia);refine⟨_,I,_,I,by lia,?_⟩;refine⟨_,_,_,I,I,oo,pX _ I,?_⟩;rw[dG _ (by unfold iW;rw[aK,ex];exact pz fun b _=>by cases b<;>rfl)];exact⟨s3 gd e5,aB,_,_,_,I⟩
    ·have aK:odd i=aI:=e8 (fun z=>jh (congrArg V.int (by lia)));refine⟨_,I,?_⟩;refine⟨_,_,_,I,I,oo,pX _ I,?_⟩;rw[dG _ (by unfold iW;rw[aK,ex,yk])];exact⟨s3 gd e5,aB,_,_,_,I⟩
  ·rw[if_neg zb]at ik;have fl:decide (V.int ((i:Nat):Int)=V.int 0)=aI:=e8 (fun z=>zb (by have:=V.int.inj z;lia));rw[fl];have akJ:=ik.1;have kR:=ik.2;refine e2 ⟨_,I,_,_,I,I,(x-1).toNat,(congrArg (fun y=>[V.int y]) (by lia)),(by lia),_,I,_,I,_,I,I,_,I,?_⟩;obtain⟨gx,lQ⟩:∃gx,gx=cnt (x-1).toNat:=⟨_,rfl⟩;have ex:(if i=0 then gS x else cnt (x-1).toNat)=gx:=by rw[if_neg zb,lQ]
   have aeN:gx.length<=270:=by rw[lQ];have:=CP (n:=(x-1).toNat) (by lia);lia
   rw[<-lQ];have xk:(gx++[!decide (i+1=s.length)]).length<=271:=by rw[bE,kf];lia
   refine fM (fun jK=>?_) (fun jK=>?_)
   ·
    have fc:i+1=s.length:=by have:=V.int.inj jK;lia
    have eE:[!decide (i+1=s.length)]=[aI]:=by rw[eK fc];rfl
    refine .inr ⟨_,_,I,I,(by rw[s0,fu,fu];exact dS (by rw[kf];lia)),?_⟩;rw[s0,Co,<-eE];refine⟨_,I,.inl ⟨I,_,bp oo⟩,_,I,_,_,I,I,(by show(0:Int)<2;decide),I,_,I,?_⟩;have pX:∀z:List V,z=((hO 0 s).take i).map (fun p=>V.str (bA p))->z.length<cp:=fun z bX=>by rw[bX,cd,kg];exact fz (show min i (hO 0 s).length<100001 by lia) (xu (by decide))
    have dG:∀p:List Bool,p=iW i x (decide (i+1=s.length))->((hO 0 s).take i).map (fun p=>V.str (bA p))++[V.str (bA p)]=((hO 0 s).take (i+1)).map (fun p=>V.str (bA p)):=fun p aX=>by rw[mf,zv,fR,aX];rfl
    refine fM (fun jh=>?_) (fun jh=>?_)
    ·have aK:odd i=ao:=eK (by have:=V.int.inj jh;lia);refine⟨_,I,_,I,by lia,?_⟩;refine⟨_,_,_,I,I,oo,pX _ I,?_⟩;rw[dG _ (by unfold iW;rw[aK,ex];exact pz fun b _=>by cases b<;>rfl)];exact⟨s3 gd e5,aB,_,_,_,I⟩
    ·have aK:odd i=aI:=e8 (fun z=>jh (congrArg V.int (by lia)));refine⟨_,I,?_⟩;refine⟨_,_,_,I,I,oo,pX _ I,?_⟩;rw[dG _ (by unfold iW;rw[aK,ex,yk])];exact⟨s3 gd e5,aB,_,_,_,I⟩
   ·have fc:¬i+1=s.length:=fun z=>jK (congrArg V.int (by lia));have eE:[!decide (i+1=s.length)]=[ao]:=by rw[e8 fc];rfl
    refine .inr ⟨_,_,I,I,(by rw[s1,fu,fu];exact dS (by rw[kf];lia)),?_⟩;rw[s1,Co,<-eE];refine⟨_,I,.inl ⟨I,_,bp oo⟩,_,I,_,_,I,I,(by show(0:Int)<2;decide),I,_,I,?_⟩;have pX:∀z:List V,z=((hO 0 s).take i).map (fun p=>V.str (bA p))->z.length<cp:=fun z bX=>by rw[bX,cd,kg];exact fz (show min i (hO 0 s).length<100001 by lia) (xu (by decide))
    have dG:∀p:List Bool,p=iW i x (decide (i+1=s.length))->((hO 0 s).take i).map (fun p=>V.str (bA p))++[V.str (bA p)]=((hO 0 s).take (i+1)).map (fun p=>V.str (bA p)):=fun p aX=>by rw[mf,zv,fR,aX];rfl
    refine fM (fun jh=>?_) (fun jh=>?_)
    ·have aK:odd i=ao:=eK (by have:=V.int.inj jh;lia);refine⟨_,I,_,I,by lia,?_⟩;refine⟨_,_,_,I,I,oo,pX _ I,?_⟩;rw[dG _ (by unfold iW;rw[aK,ex];exact pz fun b _=>by cases b<;>rfl)];exact⟨s3 gd e5,aB,_,_,_,I⟩
    ·have aK:odd i=aI:=e8 (fun z=>jh (congrArg V.int (by lia)));refine⟨_,I,?_⟩;refine⟨_,_,_,I,I,oo,pX _ I,?_⟩;rw[dG _ (by unfold iW;rw[aK,ex,yk])];exact⟨s3 gd e5,aB,_,_,_,I⟩
 ·rintro ab az ⟨hs,lO,d6,d2,jB,rfl⟩;have jM:(hO 0 s).take (s.map V.int).length=hO 0 s:=by rw[oL,<-GA 0 s,List.take_length]
  rw[jM]at lO;obtain⟨a0,D7,rfl⟩:=List.exists_cons_of_ne_nil hB
  have c0:∀p∈hO 0 (a0::D7),p.length<=271:=fun p aX=>by
   obtain⟨i,aG,rfl⟩:=List.mem_iff_getElem.mp aX;have u6:i<(a0::D7).length:=by rw[<-GA 0 (a0::D7)];exact aG
   have bh:=Nk (k:=0) (cw u6);rw[cw aG,Nat.zero_add]at bh;rw[ie bh];exact TB (cL.at (cw u6))
  refine⟨I,_,I,_,r,(hO 0 (a0::D7)).map bA,I,I,bp (by rw[lO,hx];rfl),?_,H,.refl hs,?_⟩
  ·have:=Vk c0;have fl:(aa.ofString "").length=0:=⋯;rw[fl,Nat.mul_zero,Nat.add_zero];rw[GA]at this;lia
  .rw[uG,Vz];exact q
inductive Qm(K:bT)(vs:List V)(H:aq)(Q:bI)(E:cP):Prop where
 |mk (a:ag) (ns:List Int) (k:Nat) (bb:vs=[.ref a,.int k]) (ai:c4 K H a (ns.map V.int)) (aj:ns.length<=63) (bt:Q (.int (ns.getD k 0)) H)
def Yg(nb:dD mg)(F:dB K mg "_law_cell_at" FP ["_law_script","_law_k"] f fd):bf P w K mg zn 1 "_law_cell_at" ["_law_script","_law_k"] (Qm K):=by
 refine F.eH XT (fun H vs Q E au h=>?_);obtain⟨a,ns,k,rfl,c7,aC,q⟩:=h
 refine⟨_,(aO (cq (bV iV (af 1) (c1 eh I nb.d5 ea (ak (af 0) ay))) (aL (aY (cI cJ (af 0) (af 1)))) cm)
  (aL (aY aH))),?_⟩
 ac_rfl;refine⟨_,I,_,I,_,_,I,.inl ⟨_,c7,I⟩,.inl ⟨_,_,I,I,_,I,?_⟩⟩;rw[cd];refine fM (fun c=>?_) (fun c=>?_)
 ·have hk:k<ns.length:=by lia
  refine⟨_,I,_,I,.inl (.inl ⟨_,_,_,_,I,I,c7,dF (by rw[eJ,cw hk];rfl),H,.refl (cK _),?_⟩)⟩;have e:ns.getD k 0=ns[k]:=by rw[eR,cw hk];rfl
  rw[<-e];exact q
 ·have e:ns.getD k 0=0:=by rw[eR,uA (by lia)];rfl
  rw[e]at q;exact⟨H,.refl (cK _),q⟩
inductive Q0(vs:List V)(H:aq)(Q:bI)(E:cP):Prop where
 |mk (c k:Int) (bb:vs=[.int c,.int k]) (ai:∀v:Int,0<=v->v<2147483587->Q (.int v) H)
def DR{a b:Int}(h:0<b):0<=a%b/\a%b<b:=⟨jX _ (Int.ne_of_gt h),jW _ h⟩
def Za(F:dB K mg "_law_mixed" Gf ["_law_cell","_law_k"] f fd):bf P w K mg zn 1 "_law_mixed" ["_law_cell","_law_k"] Q0:=by
 refine F.eH F0 (fun H vs Q E au h=>?_);obtain⟨c,k,rfl,q⟩:=h
 refine⟨_,(aO (b4 2 F0.br (aM eu (aM cv (aM cv (aM kX (aM eu (af 0) aH) aH) (aM kX (af 1) aH)) aH) aH))
  (aO (b4 2 F0.br (aM eu (aM kX (af 2) (af 2)) aH))
  (aL (aY (aM eu (aM kX (af 2) (af 2)) aH))))),?_⟩
 ac_rfl;refine⟨_,I,_,_,I,I,(by show(0:Int)<_;decide),.inl ⟨_,_,I,I,.inr ⟨by decide,by decide⟩,?_⟩⟩;refine⟨_,I,.inl ⟨_,_,I,I,.inr ⟨by decide,by decide⟩,.inl ⟨_,_,rfl,rfl,.inl ⟨_,_,rfl,rfl,_,_,rfl,rfl,(by show(0:Int)<_;decide),?_⟩⟩⟩⟩;obtain⟨jo,gm⟩:=DR (a:=(c%2147483647*48271+k*69621+11)) (b:=2147483647) (by decide);generalize (c%2147483647*48271+k*69621+11)%2147483647=dc at jo gm ⊢;refine⟨_,I,_,I,.inl ⟨_,_,I,I,.inr ⟨by lia,by lia⟩,_,_,rfl,rfl,(by show(0:Int)<_;decide),?_⟩⟩;obtain⟨CZ,aaL⟩:=DR (a:=dc*dc) (b:=2147483629) (by decide);generalize dc*dc%2147483629=dm at CZ aaL ⊢;refine⟨_,I,_,I,.inl ⟨_,_,I,I,.inr ⟨by lia,by lia⟩,_,_,rfl,rfl,(by show(0:Int)<_;decide),H,.refl (cK _),?_⟩⟩;exact q _ (DR (by decide)).1 (DR (by decide)).2
def qQ:1<=cp:=by decide
inductive QZ(vs:List V)(H:aq)(Q:bI)(E:cP):Prop where
 |mk (t s:aa) (bb:vs=[.str t,.str s]) (ai:t.length<=1000) (aj:Q (.aS (hM t s)) H)
def Z5(nb:dD mg)(F:dB K mg "made_of" GJ ["text","signs"] f fd):bf P w K mg zn 1 "made_of" ["text","signs"] QZ:=by
 refine F.eH ZX (fun H vs Q E au h=>?_);obtain⟨t,bK,rfl,aP,q⟩:=h;refine⟨_,(aL (aY (c1 (wt I) I nb.wB wz (ak (iA ["sign"] [(1,"signs")] I ⋯ ⟨I,.inl I,trivial⟩ (jw (af 0)) (d4 (i:=0) (show(["sign","signs"]:List aa).Nodup by decide+kernel)) hW (Ni Mb (af 0) (af 1) (by with_unfolding_all rfl))) ay)))),?_⟩;ac_rfl;refine .inr ⟨_,I,t,I,fun D b2=>?_⟩;refine MZ (fun c =>.aS (decide (c∈bK.cps.toList))) (fun ab=>∃z,ab=[z,J (.str bK)]) (dS (by show t.length<=_;lia)) ⟨_,I⟩ b2 ?_ ?_
 ·rintro c hc b0 H1 ⟨z,rfl⟩ hs R cL;refine⟨_,I,_,I,_,_,I,I,?_⟩;rw[StrLaws.found_one];exact cL _ ⟨_,I⟩
 ·refine⟨D,t.cps.toList.map fun c=>decide (c∈bK.cps.toList),I,?_,H,.refl (cZ b2),?_⟩
  .rw[hx];exact bp aB
  .rw[List.all_map];exact q
inductive QT(vs:List V)(H:aq)(Q:bI)(E:cP):Prop where
 |mk (n:aa) (bb:vs=[.str n]) (ai:n.length<=1000) (aj:Q (.aS (isName n)) H)
def Z6(nb:dD mg)(HL:gj mg "LONGEST_NAME" (.int 12))(ox:gj mg "SMALL_LETTERS" (.str fy))(F:dB K mg "is_name" GK ["name"] f fd)(ph:bf P w K mg zn 1 "made_of" ["text","signs"] QZ):bf P w K mg zn 2 "is_name" ["name"] QT:=by
 refine F.eH ZY (fun H vs Q E au h=>?_);obtain⟨n,rfl,bj,q⟩:=h;refine⟨_,(aL (aY (k9 (g4 iV aH (c1 eh I nb.d5 ea (ak (af 0) ay))) (k9 (g4 zP (c1 eh I nb.d5 ea (ak (af 0) ay)) (kI HL)) (md (b7 ph au (ak (af 0) (ak (kI ox) ay)))))))),?_⟩;ac_rfl;have ln:n.length<=cp:=dS (by lia);unfold isName at q;refine⟨_,I,_,_,I,⟨ln,I⟩,.inl ⟨_,_,I,I,_,I,?_⟩⟩;refine fM (fun hA=>?_) (fun hA=>?_)
 ·refine⟨_,I,_,_,I,⟨ln,I⟩,_,_,I,I,_,I,?_⟩;refine fM (fun jK=>?_) (fun jK=>?_)
  ·refine⟨_,I,n,fy,I,bj,H,.refl (cK _),?_⟩;rw[eK ⟨by lia,by lia⟩,Bool.true_and]at q;exact q
  ·rw[e8 (fun z=>jK (by lia)),Bool.false_and]at q;exact⟨H,.refl (cK _),q⟩
 ·rw[e8 (fun z=>hA (by lia)),Bool.false_and]at q;exact⟨H,.refl (cK _),q⟩
structure Parts(H:aq)(p:ag)(aJ:List (ag×aa×ag)):Prop where
 l:H p=J (.lst (aJ.map fun x=>V.ref x.1))
 t:∀x,x∈aJ->H x.1=J (.tup [.str x.2.1,.ref x.2.2])
 n:aJ.length<=30
 b:∀x,x∈aJ->x.2.1.length<=100
noncomputable def fv(aJ:List (ag×aa×ag)):List aa:=aJ.map fun x=>x.2.1
noncomputable def hj(aJ:List (ag×aa×ag)):List ag:=aJ.map fun x=>x.2.2
def Parts.same{aJ:List (ag×aa×ag)}(h:Parts H p aJ)(s:et H H'):Parts H' p aJ:=⟨s _ _ h.l,fun x av=>s _ _ (h.t x av),h.n,h.b⟩
inductive Q3(vs:List V)(H:aq)(Q:bI)(E:cP):Prop where
 |mk (p aJ:_) (bb:vs=[.ref p]) (ai:Parts H p aJ) (aj:iQ (fv aJ)=ao) (bt:∀D,H D=aA->Q (.ref D) (upd H D (.lst ((fv aJ).map V.str))))
def ZC(nb:dD mg)(HO:gj mg "MOST_PARTS" (.int 20))(F:dB K mg "names_of" Gw ["parts"] f fd)(ES:bf P w K mg zn 2 "is_name" ["name"] QT):bf P w K mg zn 3 "names_of" ["parts"] Q3:=by
 refine F.eH LD (fun H vs Q E au h=>?_);obtain⟨p,aJ,rfl,dX,bh,q⟩:=h
 refine⟨_,(aO (Gz (i:=1)  ["part"] [] LD.br I I I ⋯ trivial (jw (af 0)) (d4 (i:=0) (show(["part"]:List aa).Nodup by decide+kernel)) hW (cI cJ (af 0) aH))
  (aO (cq (gA.pt (jD (bV dn (c1 eh rfl nb.d5 ea (ak (af 1) ay)) aH) (kh (bV lY (c1 eh rfl nb.d5 ea (ak (af 1) ay)) (kI HO))))) (aL kG) cm)
  (aO (cq (bV iV (L9 rfl rfl nb.d5 rfl nb.P6 (af 1)) (c1 eh rfl nb.d5 ea (ak (af 1) ay))) (aL kG) cm)
  (aO (cq (jI (h5 (c1 (wt rfl) rfl nb.wB wz (ak (iA ["name"] [] rfl ⋯ trivial (jw (af 1)) (d4 (i:=0) (show(["name"]:List aa).Nodup by decide+kernel)) hW (b7 ES au (ak (af 0) ay))) ay)))) (aL kG) cm)
  (aL (aY (af 1))))))),?_⟩
 ac_rfl;refine .inl ⟨_,I,p,I,⟨_,bp dX.l⟩,fun D b2=>?_⟩;refine yf (K:=K) (a:=p) (xs:=aJ.map fun x=>V.ref x.1) (fun i=>V.str ((fv aJ).getD i aa.empty)) (fun ab=>∃z,ab=[z]) (by rw[cd];exact dS (by have:=dX.n;lia)) ⟨_,I⟩ b2 (bp dX.l) ?_ ?_
 ·rintro i x av b0 H1 ⟨z,rfl⟩ eW R cL;rw[eJ]at av;obtain⟨y,ba,rfl⟩:=Uf.mp av;have hm:=jc ba;have e:(fv aJ).getD i aa.empty=y.2.1:=by unfold fv;rw[eR,eJ,ba];rfl
  rw[e]at cL;exact⟨_,I,x0 (eW _ _ (dX.t y hm)) (dF (j:=0) I) (cL _ ⟨_,I⟩)⟩
 have dj:(List.range (aJ.map fun x=>V.ref x.1).length).map (fun i=>V.str ((fv aJ).getD i aa.empty))=(fv aJ).map V.str:=by
  have bb:=B7 (fv aJ);rw[show(aJ.map fun x=>V.ref x.1).length=(fv aJ).length by unfold fv;rw[cd,cd]];exact bb
 rw[dj];have akZ:(fv aJ).length<=30:=by unfold fv;rw[cd];exact dX.n
 have wW:c4 K (upd H D (.lst ((fv aJ).map V.str))) D ((fv aJ).map V.str):=bp aB;have fW:=Wt (fv aJ);unfold iQ at bh;refine⟨_,I,_,_,I,.inl ⟨_,wW,I⟩,I,_,I,?_⟩;rw[cd];simp only[ix,k6]at bh;obtain⟨⟨bb,yV,hd⟩,hZ⟩:=bh;refine da (fun z=>bb (by have:=V.int.inj z;lia)) ⟨_,I,_,_,I,.inl ⟨_,wW,I⟩,_,_,I,I,_,I,da (by rw[cd];lia) ?_⟩;refine⟨_,I,_,_,Zs wW,(by unfold scanBound;lia),_,I,_,_,I,.inl ⟨_,wW,I⟩,.inl ⟨_,_,I,I,_,I,da (by rw[cd];show ¬(((C6 (fv aJ):Nat):Int)<_);lia) ?_⟩⟩;refine .inl ⟨_,I,D,I,⟨_,wW⟩,fun hv mw=>?_⟩;have uX:upd H D (.lst ((fv aJ).map V.str)) D=J (.lst ((fv aJ).map V.str)):=aB;refine Cx (K:=K) (a:=D) (xs:=(fv aJ).map V.str) (fun x=>match x with|.str n =>.aS (isName n)|_ =>.bM) (fun ab=>∃z,ab=[z]) (by rw[cd];exact dS (by lia)) ⟨_,rfl⟩ mw wW ?_ ?_
 ·rintro x av b0 H1 ⟨z,rfl⟩ eW R cL;obtain⟨n,bj,rfl⟩:=List.mem_map.mp av;obtain⟨y,ba,rfl⟩:=List.mem_map.mp bj;have:=dX.b y ba;exact⟨_,I,_,I,by lia,cL _ ⟨_,rfl⟩⟩
 ·rw[hx];refine⟨hv,(fv aJ).map isName,I,?_,_,I,?_⟩
  .rw[hx];exact bp aB
  rw[List.all_map,show(id ∘ isName)=isName from rfl,hZ];exact e2 ⟨_,I,_,.new (o:=de.lst ((fv aJ).map V.str)) b2 ((cZ b2).trans (cZ mw)) (by rw[bx (fun z=>by rw[<-z,uX]at mw;cases mw)];exact aB) trivial,q D b2⟩
structure s6(K:bT)(C:ag):Prop where
 cl:e7 K C
 vn:kb K C "low"
 zM:kb K C "high"
structure rH(K:bT)(C:ag):Prop where
 cl:e7 K C
 qe:kb K C "signs"
structure k5(K:bT)(C:ag):Prop where
 cl:e7 K C
 oQ:kb K C "names"
 m7:kb K C "forms"
def aeL:¬(("low":aa)="high"):=⋯
def afp:¬(("names":aa)="forms"):=⋯
def Vr(v:V):fF "low" v []=([("low",v)]:List (aa×V)):=rfl
def UB(v w:V):fF "high" w ([("low",v)]:List (aa×V))=([("low",v),("high",w)]:List (aa×V)):=by simp only[fF,aeL,if_false]
def Z0(v:V):fF "signs" v []=([("signs",v)]:List (aa×V)):=rfl
def L6(v:V):fF "names" v []=([("names",v)]:List (aa×V)):=rfl
def L7(v w:V):fF "forms" w ([("names",v)]:List (aa×V))=([("names",v),("forms",w)]:List (aa×V)):=by simp only[fF,afp,if_false]
def gs(k:aa)(v:V)(r:List (aa×V)):((k,v)::r).lookup k=J v:=by simp[List.lookup]
def lX(k fD:aa)(v w:V)(h:(fD == k)=aI):([(k,v),(fD,w)]:List (aa×V)).lookup fD=J w:=by simp[List.lookup,h]
def DC:(("high":aa) == "low")=aI:=⋯
def oq:(("forms":aa) == "names")=aI:=⋯
noncomputable def Jz(a b:Int):List (aa×V):=[("low",.int a),("high",.int b)]
noncomputable def I0(s:aa):List (aa×V):=[("signs",.str s)]
noncomputable def k0(bJ bZ:ag):List (aa×V):=[("names",.ref bJ),("forms",.ref bZ)]
inductive Rn(C:ag)(vs:List V)(H:aq)(Q:bI)(E:cP):Prop where
 |mk (p ah:ag) (a b:Int) (bb:vs=[.ref p,.int a,.int b]) (ai:H p=J (.ins C ah [])) (aj:a<=b) (bt:Q .bM (upd H p (.ins C ah (Jz a b))))
def Y7(T:s6 K C)(F:cU K "__init__" "Span.__init__" Go f fd):cB P w K mg zn cM 1 f fd ["self","low","high"] (Rn C):=by
 refine F.ok Y1 (fun vs H Q E h=>?_) (fun bg A _ s H vs Q E au h=>?_)
 .obtain⟨_,_,_,_,rfl,_⟩:=h;rfl
 obtain⟨p,ah,a,b,rfl,aX,OE,q⟩:=h
 refine⟨_,(aO (cq (bV lY (af 1) (af 2)) (aL kG) cm)
  (aO (jg (af 0) (af 1) rfl)
  (aL (jg (af 0) (af 2) rfl)))),?_⟩
 ac_rfl;refine⟨_,I,_,I,_,_,I,I,_,I,da (by lia) ?_⟩;refine⟨_,I,_,I,p,C,ah,_,I,aX,T.cl,T.vn,(by show 0<1000;decide),?_⟩;rw[Vr];refine⟨_,I,_,I,p,C,ah,_,I,aB,T.cl,T.zM,(by show 1<1000;decide),?_⟩;rw[UB,eS];exact q
inductive QX(C:ag)(vs:List V)(H:aq)(Q:bI)(E:cP):Prop where
 |mk (p ah:ag) (s:aa) (bb:vs=[.ref p,.str s]) (ai:H p=J (.ins C ah [])) (aj:s.length<=1000) (bt:qY s=ao) (cf:Q .bM (upd H p (.ins C ah (I0 s))))
def ZD(nb:dD mg)(HP:gj mg "MOST_SIGNS" (.int 60))(wN:gj mg "LETTERS_AND_FIGURES" (.str mL))(T:rH K C)(F:cU K "__init__" "Letters.__init__" FO f fd)(ph:bf P w K mg zn 1 "made_of" ["text","signs"] QZ):cB P w K mg zn cM 2 f fd ["self","signs"] (QX C):=by
 refine F.ok XD (fun vs H Q E h=>?_) (fun bg A _ s H vs Q E au h=>?_)
 .obtain⟨_,_,_,rfl,_⟩:=h;rfl
 obtain⟨p,ah,t,rfl,aX,aP,bh,q⟩:=h
 refine⟨_,(aO (cq (gA.pt (jD (bV dn (af 1) bu) (kh (bV lY (c1 eh I nb.d5 ea (ak (af 1) ay)) (kI HP))))) (aL kG) cm)
  (aO (cq (bV iV (L9 rfl rfl nb.d5 rfl nb.P6 (af 1)) (c1 eh rfl nb.d5 ea (ak (af 1) ay))) (aL kG) cm)
  (aO (cq (jI (h5 (b7 ph au (ak (af 1) (ak (kI wN) ay))))) (aL kG) cm)
  (aL (jg (af 0) (af 1) rfl))))),?_⟩
 ac_rfl;have ln:t.length<=cp:=dS (by lia);have fW:=Ws t;unfold qY at bh;simp only[ix,k6]at bh;obtain⟨⟨bb,Dm,hd⟩,hZ⟩:=bh;refine⟨_,I,I,_,I,da (fun z=>bb ((Hb t).mp (V.str.inj z))) ⟨_,I,_,_,I,⟨ln,I⟩,_,_,I,I,_,I,da (by lia) ?_⟩⟩;refine⟨_,I,_,_,ZT t,(by unfold scanBound;show t.length+1<_;lia),_,I,_,_,I,⟨ln,I⟩,.inl ⟨_,_,I,I,_,I,da (by show ¬(((C7 t:Nat):Int)<_);lia) ?_⟩⟩;refine⟨_,I,t,mL,I,by lia,_,rfl,?_⟩;rw[hZ];refine e2 ⟨_,I,_,I,p,C,ah,_,I,aX,T.cl,T.qe,(by show 0<1000;decide),?_⟩;rw[Z0];exact q
def Parts.keep{o C:ag}{fs:List (aa×V)}{aJ:List (ag×aa×ag)}(h:Parts H p aJ)(aK:H o=J (.ins C ah fs))(s:∀b u,b≠o->H b=J u->H' b=J u):Parts H' p aJ :=
 ⟨s _ _ (fun z=>by have:=h.l;rw[z,aK]at this;cases this) h.l,fun x av=>s _ _ (fun z=>by have:=h.t x av;rw[z,aK]at this;cases this) (h.t x av),h.n,h.b⟩
inductive Rv(C:ag)(vs:List V)(H:aq)(Q:bI)(E:cP):Prop where
 |mk (o ah p:ag) (aJ:List (ag×aa×ag)) (bb:vs=[.ref o,.ref p]) (ai:H o=J (.ins C ah [])) (aj:Parts H p aJ) (bt:iQ (fv aJ)=ao) (cf:∀bJ bZ,H bJ=aA->H bZ=aA->bJ≠bZ->Q .bM (upd (upd (upd H bJ (.lst ((fv aJ).map V.str))) bZ (.lst ((hj aJ).map V.ref))) o (.ins C ah (k0 bJ bZ))))
def ZA(nb:dD mg)(T:k5 K C)(F:cU K "__init__" "Record.__init__" FV f fd)(vV:bf P w K mg zn 3 "names_of" ["parts"] Q3):cB P w K mg zn cM 4 f fd ["self","parts"] (Rv C):=by
 refine F.ok X4 (fun vs H Q E h=>?_) (fun bg A _ s H vs Q E au h=>?_)
 .obtain⟨_,_,_,_,rfl,_⟩:=h;rfl
 obtain⟨o,ah,p,aJ,rfl,aK,dX,bh,q⟩:=h
 refine⟨_,(aO (jg (af 0) (b7 vV au (ak (af 1) ay)) I)
  (aL (jg (af 0) (iA ["part"] [] rfl ⋯ trivial (jw (af 1)) (d4 (i:=0) (show(["part"]:List aa).Nodup by decide+kernel)) hW (cI cJ (af 0) aH)) rfl))),?_⟩
 ac_rfl;refine⟨_,I,p,aJ,I,dX,bh,fun bJ ai=>?_⟩;have dc:bJ≠o:=(hz aK ai).symm;refine⟨_,I,o,C,ah,_,I,(by rw[bx (fJ dc)];exact aK),T.cl,T.oQ,(by show 0<1000;decide),?_⟩;rw[L6];have gr:∀b u,b≠o->H b=J u->upd (upd H bJ (.lst ((fv aJ).map V.str))) o (.ins C ah [("names",.ref bJ)]) b=J u:=fun b u nb e=>by rw[bx nb,bx (hz e ai)];exact e
 have sb:=dX.keep aK gr;refine .inl ⟨_,I,p,I,⟨_,bp sb.l⟩,fun bZ aj=>?_⟩;have dm:bZ≠o:=fun z=>by rw[z,aB]at aj;cases aj
 have zJ:bJ≠bZ:=fun z=>by rw[bx dm,<-z,aB]at aj;cases aj
 have yV:H bZ=aA:=by rw[bx dm,bx (fJ zJ)]at aj;exact aj
 refine yf (K:=K) (a:=p) (xs:=aJ.map fun x=>V.ref x.1) (fun i=>V.ref ((hj aJ).getD i 0)) (fun ab=>∃z,ab=[z]) (by rw[cd];exact dS (by have:=dX.n;lia)) ⟨_,I⟩ aj (bp sb.l) ?_ ?_
 ·rintro i x av b0 H1 ⟨z,rfl⟩ eW R cL;rw[eJ]at av;obtain⟨y,ba,rfl⟩:=Uf.mp av;have hm:=jc ba;have e:(hj aJ).getD i 0=y.2.2:=by unfold hj;rw[eR,eJ,ba];rfl
  rw[e]at cL;exact⟨_,I,x0 (eW _ _ (sb.t y hm)) (dF (j:=1) I) (cL _ ⟨_,I⟩)⟩
 have dj:(List.range (aJ.map fun x=>V.ref x.1).length).map (fun i=>V.ref ((hj aJ).getD i 0))=(hj aJ).map V.ref:=by
  apply List.ext_getElem
  .unfold hj;simp
  ·intro i g1 g2;have g3:i<aJ.length:=by simpa [hj] using g2
   have lR:i<(hj aJ).length:=by simpa using g2
   rw[lG,lG,List.getElem_range,eR,cw lR];rfl
 rw[dj];refine⟨_,I,o,C,ah,_,I,(by rw[bx (fJ dm)];exact aB),T.cl,T.m7,(by show 1<1000;decide),?_⟩;rw[L7,oc (fJ dm),eS];exact q bJ bZ ai yV zJ
def ZH(nb:dD mg)(T:k5 K C)(F:cU K "__init__" "Choice.__init__" FX f fd)(vV:bf P w K mg zn 3 "names_of" ["parts"] Q3):cB P w K mg zn cM 4 f fd ["self","cases"] (Rv C):=by
 refine F.ok Ya (fun vs H Q E h=>?_) (fun bg A _ s H vs Q E au h=>?_)
 .obtain⟨_,_,_,_,rfl,_⟩:=h;rfl
 obtain⟨o,ah,p,aJ,rfl,aK,dX,bh,q⟩:=h
 refine⟨_,(aO (jg (af 0) (b7 vV au (ak (af 1) ay)) I)
  (aL (jg (af 0) (iA ["case"] [] rfl ⋯ trivial (jw (af 1)) (d4 (i:=0) (show(["case"]:List aa).Nodup by decide+kernel)) hW (cI cJ (af 0) aH)) rfl))),?_⟩
 ac_rfl;refine⟨_,I,p,aJ,I,dX,bh,fun bJ ai=>?_⟩;have dc:bJ≠o:=(hz aK ai).symm;refine⟨_,I,o,C,ah,_,I,(by rw[bx (fJ dc)];exact aK),T.cl,T.oQ,(by show 0<1000;decide),?_⟩;rw[L6];have gr:∀b u,b≠o->H b=J u->upd (upd H bJ (.lst ((fv aJ).map V.str))) o (.ins C ah [("names",.ref bJ)]) b=J u:=fun b u nb e=>by rw[bx nb,bx (hz e ai)];exact e
 have sb:=dX.keep aK gr;refine .inl ⟨_,I,p,I,⟨_,bp sb.l⟩,fun bZ aj=>?_⟩;have dm:bZ≠o:=fun z=>by rw[z,aB]at aj;cases aj
 have zJ:bJ≠bZ:=fun z=>by rw[bx dm,<-z,aB]at aj;cases aj
 have yV:H bZ=aA:=by rw[bx dm,bx (fJ zJ)]at aj;exact aj
 refine yf (K:=K) (a:=p) (xs:=aJ.map fun x=>V.ref x.1) (fun i=>V.ref ((hj aJ).getD i 0)) (fun ab=>∃z,ab=[z]) (by rw[cd];exact dS (by have:=dX.n;lia)) ⟨_,I⟩ aj (bp sb.l) ?_ ?_
 ·rintro i x av b0 H1 ⟨z,rfl⟩ eW R cL;rw[eJ]at av;obtain⟨y,ba,rfl⟩:=Uf.mp av;have hm:=jc ba;have e:(hj aJ).getD i 0=y.2.2:=by unfold hj;rw[eR,eJ,ba];rfl
  rw[e]at cL;exact⟨_,I,x0 (eW _ _ (sb.t y hm)) (dF (j:=1) I) (cL _ ⟨_,I⟩)⟩
 have dj:(List.range (aJ.map fun x=>V.ref x.1).length).map (fun i=>V.ref ((hj aJ).getD i 0))=(hj aJ).map V.ref:=by
  apply List.ext_getElem
  .unfold hj;simp
  ·intro i g1 g2;have g3:i<aJ.length:=by simpa [hj] using g2
   have lR:i<(hj aJ).length:=by simpa using g2
   rw[lG,lG,List.getElem_range,eR,cw lR];rfl
 rw[dj];refine⟨_,I,o,C,ah,_,I,(by rw[bx (fJ dm)];exact aB),T.cl,T.m7,(by show 1<1000;decide),?_⟩;rw[L7,oc (fJ dm),eS];exact q bJ bZ ai yV zJ
structure iX(K:bT)(C:ag):Prop where
 cl:e7 K C
 kW:kb K C "inner"
inductive Q7(C:ag)(vs:List V)(H:aq)(Q:bI)(E:cP):Prop where
 |mk (p ah w:_) (bb:vs=[.ref p,.ref w]) (ai:H p=J (.ins C ah [])) (aj:Q .bM (upd H p (.ins C ah [("inner",.ref w)])))
def YG(T:iX K C)(F:cU K "__init__" "Maybe.__init__" F9 f fd):cB P w K mg zn cM 1 f fd ["self","inner"] (Q7 C):=by
 refine F.ok YB (fun vs H Q E h=>?_) (fun bg A _ s H vs Q E au h=>?_)
 .obtain⟨_,_,_,rfl,_⟩:=h;rfl
 obtain⟨p,ah,w,rfl,aX,q⟩:=h;exact⟨_,(aL (jg (af 0) (af 1) I)),_,I,_,I,p,C,ah,_,I,aX,T.cl,T.kW,(by show 0<1000;decide),q⟩
def Y9(T:iX K C)(F:cU K "__init__" "Many.__init__" Gp f fd):cB P w K mg zn cM 1 f fd ["self","inner"] (Q7 C):=by
 refine F.ok Y4 (fun vs H Q E h=>?_) (fun bg A _ s H vs Q E au h=>?_)
 .obtain⟨_,_,_,rfl,_⟩:=h;rfl
 obtain⟨p,ah,w,rfl,aX,q⟩:=h;exact⟨_,(aL (jg (af 0) (af 1) I)),_,I,_,I,p,C,ah,_,I,aX,T.cl,T.kW,(by show 0<1000;decide),q⟩
def Yd(T:iX K C)(F:cU K "__init__" "Turned.__init__" FT f fd):cB P w K mg zn cM 1 f fd ["self","inner"] (Q7 C):=by
 refine F.ok XX (fun vs H Q E h=>?_) (fun bg A _ s H vs Q E au h=>?_)
 .obtain⟨_,_,_,rfl,_⟩:=h;rfl
 obtain⟨p,ah,w,rfl,aX,q⟩:=h;exact⟨_,(aL (jg (af 0) (af 1) I)),_,I,_,I,p,C,ah,_,I,aX,T.cl,T.kW,(by show 0<1000;decide),q⟩
noncomputable def isNum:D->Bool
 |.int _=>ao
 |_=>aI
noncomputable def C0(bz:D->Bool):Fin 4->D->Bool
 |0,.bM=>ao
 |1,.aS _=>ao
 |2,.int i=>decide (je i)
 |3,d=>bz d
 |_,_=>aI
noncomputable def oM(g:D->Bool):D->Bool
 |.tup []=>ao
 |.tup [x]=>g x
 |_=>aI
noncomputable def tU(g:D->Bool):D->Bool
 |.lst ds=>decide (ds.length<=60)&&ds.all g
 |_=>aI
noncomputable def PL(k:Fin 3)(g:D->Bool)(d:D):Bool:=if k=0 then oM g d else if k=1 then tU g d else g d
noncomputable def aiR(a b:Int):D->Bool
 |.int i=>decide (a<=i/\i<=b)
 |_=>aI
noncomputable def aeH(s:aa):D->Bool
 |.str t=>decide (t.length<=200)&&hM t s
 |_=>aI
noncomputable def JE(g:List D->Bool):D->Bool
 |.tup ds=>g ds
 |_=>aI
noncomputable def uQ(g:aa->D->Bool):D->Bool
 |.tup [.str n,x]=>g n x
 |_=>aI
mutual
noncomputable def b1(bz:D->Bool):aU->D->Bool
 |.bare k,d=>C0 bz k d
 |.sp a b,d=>aiR a b d
 |.le s,d=>aeH s d
 |.one k f,d=>PL k (b1 bz f) d
 |.two k ns fs,d=>if k=0 then JE (eM bz fs) d else uQ (kN bz fs ns) d
noncomputable def eM(bz:D->Bool):List aU->List D->Bool
 |[],ds=>ds.isEmpty
 |f::fs,ds=>match ds with|[]=>aI|d::ds=>b1 bz f d&&eM bz fs ds
noncomputable def kN(bz:D->Bool):List aU->List aa->aa->D->Bool
 |[],_,_,_=>aI
 |f::fs,ns,n,x=>if ns.head?=J n then b1 bz f x else kN bz fs ns.tail n x
end
inductive QU(vs:List V)(H:aq)(Q:bI)(E:cP):Prop where
 |mk (v:V) (d:D) (bb:vs=[v]) (ai:dZ H d v) (aj:Q (.aS (isNum d)) H)
inductive QN(vs:List V)(H:aq)(Q:bI)(E:cP):Prop where
 |mk (n:Int) (bb:vs=[.int n]) (ai:Q (.aS (decide (je n))) H)
def W3(F:dB K mg "has_whole_row" AI ["n"] f fd)(nZ:bf P w K mg zn 1 "is_count" ["n"] QP):bf P w K mg zn 2 "has_whole_row" ["n"] QN:=by
 refine F.eH La (fun H vs Q E au h=>?_);obtain⟨n,rfl,q⟩:=h;refine⟨_,(aL (aY (b7 nZ au (ak (oe (bV I7 (af 0) aH) (af 0) (aM hq (mU mP aH) (af 0))) ay)))),?_⟩;ac_rfl;refine⟨_,I,_,_,I,I,_,I,?_⟩;refine fM (fun c=>?_) (fun c=>?_)
 ·refine⟨_,I,_,I,H,.refl (cK _),?_⟩;have e:decide (iH n)=decide (je n):=decide_eq_decide.mpr (by unfold iH je;lia);rw[e];exact q
 ·refine⟨_,I,_,I,_,_,I,I,_,I,H,.refl (cK _),?_⟩;have e:decide (iH (-1-n))=decide (je n):=decide_eq_decide.mpr (by unfold iH je;lia);rw[e];exact q
def YJ(nb:dD mg)(F:dB K mg "is_number" Gj ["value"] f fd):bf P w K mg zn 1 "is_number" ["value"] QU:=by
 refine F.eH YX (fun H vs Q E au h=>?_);obtain⟨v,d,rfl,hd,q⟩:=h;refine⟨_,(aL (aY (k9 (c1 pF I nb.p9 pE (ak (af 0) (ak (pG (v :=.ty "int") I nb.vh uN I) ay))) (md (Hd (c1 pF I nb.p9 pE (ak (af 0) (ak (pG (v :=.ty "bool") I nb.NN ND I) ay)))))))),?_⟩;ac_rfl;refine⟨_,I,.inl ⟨_,_,_,_,I,hd.ty,oJ K d (by decide),_,I,?_⟩⟩;cases d with
 |int i=>exact ho ⟨_,I,.inl ⟨_,_,_,_,I,hd.ty,oJ K _ (by decide),_,I,H,.refl (cK _),q⟩⟩
 |aS b=>exact ho ⟨_,I,.inl ⟨_,_,_,_,I,hd.ty,oJ K _ (by decide),_,I,H,.refl (cK _),q⟩⟩
 |_=>exact e2 ⟨H,.refl (cK _),q⟩
inductive QE(has:fQ->Bool)(bz:D->Bool)(c:c9)(n:Nat)(i:fQ)(vs:List V)(H:aq)(Q:bI)(E:cP):Prop where
 |mk (o:ag) (f:aU) (v:V) (d:D) (bb:vs=[.ref o,v]) (ai:slot f=i) (aj:bG c [] H f o) (bt:qj has f) (cf:aP f<=n) (eF:dZ H d v) (gD:b1 bz f d=ao) (kl:Q (.aS ao) H)
def rV(bz:D->Bool)(k:Fin 4)(d:D):b1 bz (.bare k) d=C0 bz k d:=by rw[b1]
def bG.fits{c:c9}(f:aU){o:ag}(h:bG c X H f o):∃ah fs,H o=J (.ins (eb c (slot f)) ah fs)/\fs.lookup (aa.ofString "fits")=aA :=
 bG.ins (m:=aa.ofString "fits") ⋯ ⋯ ⋯ ⋯ ⋯ ⋯ f h
theorem CJ(bz:D->Bool):∀(fs:List aU)(ds:List D),ds.length≠fs.length->eM bz fs ds=aI
 |[],ds,h=>by
  cases ds with
  |nil=>exact absurd I h
  |cons d ds=>rw[eM];rfl
 |f::fs,[],h=>by rw[eM]
 |f::fs,d::ds,h=>by
  rw[eM];show(b1 bz f d&&eM bz fs ds)=aI;rw[CJ bz fs ds (fun e=>h (by rw[dW,dW,e])),Bool.and_false]
theorem CK(bz:D->Bool):∀(fs:List aU)(ds:List D),ds.length=fs.length->eM bz fs ds=(List.range fs.length).all fun i=>b1 bz (fs.getD i (.bare 0)) (ds.getD i .bM)
 |[],ds,h=>by
  obtain rfl:ds=[]:=List.length_eq_zero_iff.mp h;rw[eM];rfl
 |f::fs,[],h=>by cases h
 |f::fs,d::ds,h=>by
  rw[eM];show(b1 bz f d&&eM bz fs ds)=_;rw[CK bz fs ds (by simpa using h),dW,List.range_succ_eq_map,List.all_cons,List.all_map];rfl
def aah(F:cU K "fits" "Nothing.fits" A3 f fd):cB P w K mg zn cM 1 f fd ["self","value"] (QE has bz c n (.b 0)):=by
 refine F.d1 XA (fun H vs Q E au h=>?_);obtain⟨o,bF,v,d,rfl,hs,bQ,aF,bY,hd,aD,q⟩:=h;have:=jY hs;subst this;rw[rV]at aD;cases d with
 |bM =>
  obtain rfl:v=.bM:=hd;exact⟨_,(aL (aY (g4 KQ (af 1) yE))),_,I,I,H,.refl (cK _),q⟩
 |_=>cases aD
def UT(F:cU K "fits" "Truth.fits" BS f fd):cB P w K mg zn cM 1 f fd ["self","value"] (QE has bz c n (.b 1)):=by
 refine F.d1 Yx (fun H vs Q E au h=>?_);obtain⟨o,bF,v,d,rfl,hs,bQ,aF,bY,hd,aD,q⟩:=h;have:=jY hs;subst this;rw[rV]at aD;cases d with
 |aS b =>
  obtain rfl:v=.aS b:=hd;refine⟨_,(aL (aY (K5 (g4 KS (af 1) iY) (md (g4 KS (af 1) iY))))),_,I,aI,I,I,?_⟩;cases b with
  |false=>exact⟨ao,I,ho ⟨H,.refl (cK _),q⟩⟩
  |true=>exact⟨aI,I,e2 ⟨_,I,ao,I,I,H,.refl (cK _),q⟩⟩
 |_=>cases aD
def US(F:cU K "fits" "Whole.fits" BQ f fd)(n0:bf P w K mg zn 1 "is_number" ["value"] QU)(ue:bf P w K mg zn 2 "has_whole_row" ["n"] QN):cB P w K mg zn cM 3 f fd ["self","value"] (QE has bz c n (.b 2)):=by
 refine F.d1 Yv (fun H vs Q E au h=>?_);obtain⟨o,bF,v,d,rfl,hs,bQ,aF,bY,hd,aD,q⟩:=h;have:=jY hs;subst this;rw[rV]at aD;cases d with
 |int i =>
  obtain rfl:v=.int i:=hd;have aD:decide (je i)=ao:=aD;refine⟨_,(aL (aY (k9 (b7 n0 au (ak (af 1) ay)) (md (b7 ue au (ak (af 1) ay)))))),_,I,_,.int i,I,I,ao,I,ho ⟨_,I,i,I,H,.refl (cK _),?_⟩⟩;rw[aD];exact q
 |_=>cases aD
def VQ(T:s6 K c.s)(F:cU K "fits" "Span.fits" B3 f fd)(n0:bf P w K mg zn 1 "is_number" ["value"] QU):cB P w K mg zn cM 2 f fd ["self","value"] (QE has bz c n .s):=by
 refine F.d1 Y2 (fun H vs Q E au h=>?_);obtain⟨o,bF,v,d,rfl,hs,bQ,aF,bY,hd,aD,q⟩:=h;obtain⟨a,b,rfl⟩:=yq hs;obtain⟨_,ah,aK⟩:=bQ;rw[b1]at aD;cases d with
 |int i =>
  obtain rfl:v=.int i:=hd;have aD:=hT (show decide (a<=i/\i<=b)=ao from aD);refine⟨_,(aL (aY (k9 (b7 n0 au (ak (af 1) ay)) (k9 (g4 zP (dp (af 0) I) (af 1)) (md (g4 zP (af 1) (dp (af 0) I))))))),_,I,_,.int i,I,I,ao,I,ho ⟨_,I,o,c.s,ah,_,_,I,aK,T.cl,T.vn,gs ..,_,I,_,_,I,I,_,I,hp aD.1 ⟨_,I,_,I,o,c.s,ah,_,_,I,aK,T.cl,T.zM,lX _ _ _ _ DC,_,_,I,I,H,.refl (cK _),?_⟩⟩⟩;dsimp only;rw[eK aD.2];exact q
 |_=>cases aD
def aai(nb:dD mg)(qW:gj mg "LONGEST_TEXT" (.int 200))(T:rH K c.l)(F:cU K "fits" "Letters.fits" Bq f fd)(ph:bf P w K mg zn 1 "made_of" ["text","signs"] QZ):cB P w K mg zn cM 2 f fd ["self","value"] (QE has bz c n .l):=by
 refine F.d1 XE (fun H vs Q E au h=>?_);obtain⟨o,bF,v,d,rfl,hs,bQ,aF,bY,hd,aD,q⟩:=h;obtain⟨bK,rfl⟩:=yr hs;obtain⟨_,ah,aK⟩:=bQ;rw[b1]at aD;refine⟨_,(aL (aY (k9 (c1 pF I nb.p9 pE (ak (af 1) (ak (pG (v :=.ty "str") I nb.xx wy I) ay))) (k9 (g4 zP (c1 eh I nb.d5 ea (ak (af 1) ay)) (kI qW)) (md (b7 ph au (ak (af 1) (ak (dp (af 0) I) ay)))))))),_,I,.inl ⟨_,_,_,_,I,hd.ty,oJ K d (by decide),_,I,?_⟩⟩;cases d with
 |str t =>
  obtain⟨rfl,gq⟩:=hd;have aD:(decide (t.length<=200)&&hM t bK)=ao:=aD;rw[ix,k6]at aD;refine ho ⟨_,I,_,_,I,⟨gg gq,I⟩,_,_,I,I,_,I,hp (by lia) ⟨_,I,_,I,o,c.l,ah,_,_,I,aK,T.cl,T.qe,gs ..,t,bK,I,by lia,H,.refl (cK _),?_⟩⟩;rw[aD.2];exact q
 |_=>cases aD
set_option tactic.hygienic true in
def UU(nb:dD mg)(T:iX K (c.o 0))(F:cU K "fits" "Maybe.fits" BX f fd)(ky:eZ P w K mg zn (2*n+4) "fits" ["self","value"] (eb c) (QE has bz c n)):cB P w K mg zn cM (2*n+4+1) f fd ["self","value"] (QE has bz c (n+1) (.o 0)):=by
 refine F.d1 YC (fun H vs Q E au h=>?_);obtain⟨o,bF,v,d,rfl,hs,bQ,aF,bY,hd,aD,q⟩:=h;obtain⟨g,rfl⟩:=mm hs;obtain⟨_,ah,i,aK,dM⟩:=bQ;have fm:aP g<=n:=by rw[aP]at bY;lia
 rw[b1]at aD;have aD:oM (b1 bz g) d=ao:=aD;obtain⟨fB,fC,ew,li⟩:=bG.fits g dM
 refine⟨_,(aO (cq (gA.pt (jD (jI (h5 (c1 pF I nb.p9 pE (ak (af 1) (ak (pG (v :=.ty "tuple") I nb.t6 tk I) ay))))) (kh (bV lY (c1 eh I nb.d5 ea (ak (af 1) ay)) aH)))) (aL (aY iY)) cm)
  (aL (aY (K5 (g4 dn (c1 eh rfl nb.d5 ea (ak (af 1) ay)) aH) (md (gB ky au (dp (af 0) rfl) (ak (cI cJ (af 1) aH) ay))))))),_,rfl,.inl ⟨_,_,_,_,rfl,hd.ty,oJ K d (by decide),_,rfl,?_⟩⟩
 unfold oM at aD;split at aD
 ·obtain⟨a,vs,rfl,cD,rfl,h1⟩:=hd;exact e2 ⟨_,I,_,_,I,.inr ⟨_,dy cD,I⟩,_,_,I,I,_,I,da (by decide) ⟨_,I,_,_,I,.inr ⟨_,dy cD,I⟩,I,_,I,hp I ⟨H,.refl (cK _),q⟩⟩⟩
 ·rename_i x _;obtain⟨a,vs,rfl,cD,⟨y,r,rfl,av,rfl⟩,h1⟩:=hd;refine e2 ⟨_,I,_,_,I,.inr ⟨_,dy cD,I⟩,_,_,I,I,_,I,da (by show ¬((1:Int)<1);decide) ⟨_,I,_,_,I,.inr ⟨_,dy cD,I⟩,I,_,I,da (fun z=>nomatch z) ?_⟩⟩;exact⟨_,I,o,c.o 0,ah,_,_,I,aK,T.cl,T.kW,gs ..,i,slot g,fB,fC,I,ew,li,_,I,x0 cD (dF (j:=0) I) ⟨i,g,y,x,I,I,dM,aF.one,fm,av,aD,H,.refl (cK _),q⟩⟩
 .cases aD
def TT(T:iX K (c.o 2))(F:cU K "fits" "Turned.fits" BA f fd)(ky:eZ P w K mg zn (2*n+4) "fits" ["self","value"] (eb c) (QE has bz c n)):cB P w K mg zn cM (2*n+4+1) f fd ["self","value"] (QE has bz c (n+1) (.o 2)):=by
 refine F.d1 XY (fun H vs Q E au h=>?_);obtain⟨o,bF,v,d,rfl,hs,bQ,aF,bY,hd,aD,q⟩:=h;obtain⟨g,rfl⟩:=mm hs;obtain⟨_,ah,i,aK,dM⟩:=bQ;have fm:aP g<=n:=by rw[aP]at bY;lia
 rw[b1]at aD;obtain⟨fB,fC,ew,li⟩:=bG.fits g dM;exact⟨_,(aL (aY (gB ky au (dp (af 0) I) (ak (af 1) ay)))),_,rfl,o,c.o 2,ah,_,_,rfl,aK,T.cl,T.kW,gs ..,i,slot g,fB,fC,rfl,ew,li,_,rfl,i,g,v,d,rfl,rfl,dM,aF.one,fm,hd,aD,H,.refl (cK _),q⟩
def VR(nb:dD mg)(qX:gj mg "MOST_VALUES" (.int 60))(T:iX K (c.o 1))(F:cU K "fits" "Many.fits" B5 f fd)(ky:eZ P w K mg zn (2*n+4) "fits" ["self","value"] (eb c) (QE has bz c n)):cB P w K mg zn cM (2*n+4+1) f fd ["self","value"] (QE has bz c (n+1) (.o 1)):=by
 refine F.d1 Y5 (fun H vs Q E au h=>?_);obtain⟨o,bF,v,d,rfl,hs,bQ,aF,bY,hd,aD,q⟩:=h;obtain⟨g,rfl⟩:=mm hs;obtain⟨_,ah,i,aK,dM⟩:=bQ;have fm:aP g<=n:=by rw[aP]at bY;lia
 rw[b1]at aD;have aD:tU (b1 bz g) d=ao:=aD;obtain⟨fB,fC,ew,li⟩:=bG.fits g dM
 refine⟨_,(aO (cq (gA.pt (jD (jI (h5 (c1 pF I nb.p9 pE (ak (af 1) (ak (pG (v :=.ty "list") I nb.I1 Hl I) ay))))) (kh (bV lY (c1 eh I nb.d5 ea (ak (af 1) ay)) (kI qX))))) (aL (aY iY)) cm)
  (aL (aY (c1 (wt rfl) rfl nb.wB wz (ak (iA ["part"] [(0,"self")] rfl ⋯ ⟨rfl,.inl rfl,trivial⟩ (jw (af 1)) (d4 (i:=0) (show(["part","self"]:List aa).Nodup by decide+kernel)) hW (gB ky au (dp (af 1) rfl) (ak (af 0) ay))) ay))))),_,rfl,.inl ⟨_,_,_,_,rfl,hd.ty,oJ K d (by decide),_,rfl,?_⟩⟩
 cases d with
 | lst ds =>
  obtain⟨a,vs,rfl,cD,fW,h1⟩:=hd;have c0:=dw.len ds fW;have aD:(decide (ds.length<=60)&&ds.all (b1 bz g))=ao:=aD;rw[ix,k6,hy]at aD;refine e2 ⟨_,I,_,_,I,.inl ⟨_,bp cD,I⟩,_,_,I,I,_,I,da (by lia) (.inl ⟨_,I,a,I,⟨_,bp cD⟩,fun ha g6=>?_⟩)⟩;refine Cx (K:=K) (a:=a) (xs:=vs) (fun _=>V.aS ao) (fun ab=>∃z,ab=[z,J (.ref o)]) (dS (by lia)) ⟨_,I⟩ g6 (bp cD) ?_ ?_
  ·rintro x av b0 H1 ⟨z,rfl⟩ eW R cL;obtain⟨k,hk,rfl⟩:=List.mem_iff_getElem.mp av;obtain⟨mr,tG,IT⟩:=dw.get ds fW (cw hk);exact⟨_,I,o,c.o 1,ah,_,_,I,eW _ _ aK,T.cl,T.kW,gs ..,i,slot g,fB,fC,I,eW _ _ ew,li,_,I,i,g,_,mr,I,I,bG.keep (fun b u _ e=>eW b u e) g dM,aF.one,fm,dZ.same eW mr IT,aD.2 mr (jc tG),cL _ ⟨_,I⟩⟩
  ·refine⟨ha,List.replicate vs.length ao,I,bp (by rw[aB,List.map_replicate,List.map_const']),H,.refl (cZ g6),?_⟩;rw[show(List.replicate vs.length ao).all id=ao by simp];exact q
 |_=>cases aD
def TU(nb:dD mg)(T:k5 K (c.t 0))(F:cU K "fits" "Record.fits" BH f fd)(ky:eZ P w K mg zn (2*n+4) "fits" ["self","value"] (eb c) (QE has bz c n)):cB P w K mg zn cM (2*n+4+1) f fd ["self","value"] (QE has bz c (n+1) (.t 0)):=by
 refine F.d1 X5 (fun H vs Q E au h=>?_);obtain⟨o,bF,v,d,rfl,hs,bQ,aF,bY,hd,aD,q⟩:=h;obtain⟨ns,fs,rfl⟩:=qB hs;obtain⟨_,ah,a1,a2,os,aK,_,_,ai,aj,dM⟩:=bQ;obtain⟨eA,gF,dN⟩:=aF.two;have fm:dv fs<=n:=by rw[aP]at bY;lia
 have m4:=d0.len fs dM;have zl:=(jf eA).1;rw[b1]at aD;have aD:JE (eM bz fs) d=ao:=aD
 refine⟨_,(aO (cq (gA.pt (jD (jI (h5 (c1 pF I nb.p9 pE (ak (af 1) (ak (pG (v :=.ty "tuple") I nb.t6 tk I) ay))))) (kh (bV kY (c1 eh I nb.d5 ea (ak (af 1) ay)) (c1 eh I nb.d5 ea (ak (dp (af 0) I) ay)))))) (aL (aY iY)) cm)
  (aL (aY (c1 (wt rfl) rfl nb.wB wz (ak (iA ["form","part"] [] rfl ⋯ trivial (Nh rfl nb.Ez (ak (dp (af 0) rfl) (ak (af 1) ay))) (qP rfl (iZ (d4 (i:=0) (show(["form","part"]:List aa).Nodup by decide+kernel)) (iZ (d4 (i:=1) (show(["form","part"]:List aa).Nodup by decide+kernel)) qN))) hW (gB ky au (af 0) (ak (af 1) ay))) ay))))),_,rfl,.inl ⟨_,_,_,_,rfl,hd.ty,oJ K d (by decide),_,rfl,?_⟩⟩
 cases d with
 | tup ds =>
  obtain⟨a,vs,rfl,cD,fW,h1⟩:=hd;have DL:=dw.len ds fW;have aD:eM bz fs ds=ao:=aD
  have hA:ds.length=fs.length:=by
   by_cases z:ds.length=fs.length
   .exact z
   .rw[CJ bz fs ds z]at aD;cases aD
  rw[CK bz fs ds hA,hy]at aD;refine e2 ⟨_,I,_,_,I,.inr ⟨_,dy cD,I⟩,_,I,o,c.t 0,ah,_,_,I,aK,T.cl,T.m7,lX _ _ _ _ oq,_,_,I,.inl ⟨_,bp aj,I⟩,I,_,I,kp (by rw[cd,DL,m4,hA]) ?_⟩;refine⟨_,I,o,c.t 0,ah,_,_,I,aK,T.cl,T.m7,lX _ _ _ _ oq,_,I,a2,a,_,_,I,bp aj,dy cD,fun ha g6=>?_⟩;refine Ms (fun k=>V.aS ao) (fun ab=>∃d6 d2,ab=[d6,d2]) (by rw[cd];lia) ⟨_,_,I⟩ g6 (bp aj) (dy cD) ?_ ?_
  ·rintro k x y av ba b0 H1 gN ⟨d6,d2,rfl⟩ eW mZ R cL;rw[eJ]at av;obtain⟨sM,zr,rfl⟩:=Uf.mp av;obtain⟨bF,jP,r8⟩:=d0.get fs dM zr;obtain⟨mr,tG,IU⟩:=dw.get ds fW ba;obtain⟨nC,w4⟩:=dN.get jP;have hk:k<fs.length:=(kE.mp jP).1;have y8:=aD k (List.mem_range.mpr hk);rw[eR,jP,eR,tG]at y8;have qp:=eW.trans (cZ (o:=de.tup [V.ref sM,y]) mZ);obtain⟨fB,fC,ew,li⟩:=bG.fits bF (bG.keep (fun b u _ e=>qp b u e) bF r8);exact⟨gN,_,I,dy aB,I,_,_,I,_,_,I,I,_,I,sM,slot bF,fB,fC,I,ew,li,_,I,sM,bF,y,mr,I,I,bG.keep (fun b u _ e=>qp b u e) bF r8,nC,by lia,dZ.same qp mr IU,y8,cL _ _ ⟨_,_,rfl⟩ (cK _)⟩
  ·intro H' kS iC
   have e:(List.range (min (os.map V.ref).length vs.length)).map (fun k=>V.aS ao)=(List.replicate fs.length ao).map V.aS:=by
    rw[cd,DL,m4,hA,Nat.min_self,List.map_const',k8,List.map_replicate]
   rw[e]at iC;refine⟨ha,_,I,bp iC,H,.refl kS,?_⟩;rw[show(List.replicate fs.length ao).all id=ao by simp];exact q
 |_=>cases aD
noncomputable def C1(fw:D->List Bool):Fin 4->D->List Bool
 |1,.aS b=>[b]
 |2,.int i=>gS i
 |3,d=>fw d
 |_,_=>[]
noncomputable def I2(g:D->List Bool):D->List Bool
 |.tup [x]=>ao::g x
 |_=>[aI]
noncomputable def aeX(g:D->List Bool):D->List Bool
 |.lst ds=>(ds.map fun d=>ao::g d).flatten++[aI]
 |_=>[]
noncomputable def PM(k:Fin 3)(g:D->List Bool)(d:D):List Bool:=if k=0 then I2 g d else if k=1 then aeX g d else(g d).map (!·)
noncomputable def aiS(a b:Int):D->List Bool
 |.int i=>dq (i-a).toNat (aE (b-a).toNat)
 |_=>[]
noncomputable def DP(s:aa):D->List Bool
 |.str t=>(t.cps.toList.map fun c=>ao::dq (s.cps.toList.idxOf c) (aE (s.length-1))).flatten++[aI]
 |_=>[]
noncomputable def ajO(g:List D->List Bool):D->List Bool
 |.tup ds=>g ds
 |_=>[]
noncomputable def aaQ(g:aa->D->List Bool):D->List Bool
 |.tup [.str n,x]=>g n x
 |_=>[]
mutual
noncomputable def bO(fw:D->List Bool):aU->D->List Bool
 |.bare k,d=>C1 fw k d
 |.sp a b,d=>aiS a b d
 |.le s,d=>DP s d
 |.one k f,d=>PM k (bO fw f) d
 |.two k ns fs,d=>if k=0 then ajO (gf fw fs) d else aaQ (m8 fw fs ns 0 (fs.length-1)) d
noncomputable def gf(fw:D->List Bool):List aU->List D->List Bool
 |[],_=>[]
 |f::fs,ds=>match ds with|[]=>[]|d::ds=>bO fw f d++gf fw fs ds
noncomputable def m8(fw:D->List Bool):List aU->List aa->Nat->Nat->aa->D->List Bool
 |[],_,_,_,_,_=>[]
 |f::fs,ns,k,m,n,x=>if ns.head?=J n then dq k (aE m)++bO fw f x else m8 fw fs ns.tail (k+1) m n x
end
inductive RC(has:fQ->Bool)(bz:D->Bool)(fw:D->List Bool)(c:c9)(n:Nat)(i:fQ)(vs:List V)(H:aq)(Q:bI)(E:cP):Prop where
 |mk (o:ag) (f:aU) (v:V) (d:D) (bb:vs=[.ref o,v]) (ai:slot f=i) (aj:bG c [] H f o) (bt:qj has f) (cf:aP f<=n) (eF:dZ H d v) (gD:b1 bz f d=ao) (kl:(bO fw f d).length<=15000000) (kP:Q (.str (bA (bO fw f d))) H)
def bG.written{c:c9}(f:aU){o:ag}(h:bG c X H f o):∃ah fs,H o=J (.ins (eb c (slot f)) ah fs)/\fs.lookup (aa.ofString "written")=aA :=
 bG.ins (m:=aa.ofString "written") ⋯ ⋯ ⋯ ⋯ ⋯ ⋯ f h
def wu:aa.ofString "1"=bA [ao]:=⋯
def CR:aa.ofString "0"=bA [aI]:=⋯
def WV(F:cU K "written" "Nothing.written" Bk f fd):cB P w K mg zn cM 1 f fd ["self","value"] (RC has bz fw c n (.b 0)):=by
 refine F.d1 WU (fun H vs Q E au h=>?_);obtain⟨o,bF,v,d,rfl,hs,bQ,aF,bY,hd,aD,aC,q⟩:=h;have:=jY hs;subst this;rw[bO]at q;refine⟨_,(aL (aY bu)),H,.refl (cK _),?_⟩;cases d<;>exact q
def Xp(F:cU K "written" "Truth.written" AK f fd):cB P w K mg zn cM 1 f fd ["self","value"] (RC has bz fw c n (.b 1)):=by
 refine F.d1 Xd (fun H vs Q E au h=>?_);obtain⟨o,bF,v,d,rfl,hs,bQ,aF,bY,hd,aD,aC,q⟩:=h;have:=jY hs;subst this;rw[bO]at q;rw[b1]at aD;cases d with
 |aS b =>
  obtain rfl:v=.aS b:=hd;refine⟨_,(aL (aY (oe (h5 (af 1)) bu bu))),_,I,?_⟩;refine⟨b,I,?_⟩;cases b with
  |true=>exact ho ⟨H,.refl (cK _),q⟩
  |false=>exact e2 ⟨H,.refl (cK _),q⟩
 |_=>cases aD
def W5(F:cU K "written" "Whole.written" AJ f fd)(sY:bf P w K mg zn 3 "whole_row" ["n"] Ld):cB P w K mg zn cM 4 f fd ["self","value"] (RC has bz fw c n (.b 2)):=by
 refine F.d1 Xc (fun H vs Q E au h=>?_);obtain⟨o,bF,v,d,rfl,hs,bQ,aF,bY,hd,aD,aC,q⟩:=h;have:=jY hs;subst this;rw[bO]at q;rw[b1]at aD;cases d with
 |int i =>
  obtain rfl:v=.int i:=hd;exact⟨_,(aL (aY (b7 sY au (ak (af 1) ay)))),_,I,i,I,hT aD,H,.refl (cK _),q⟩
 |_=>cases aD
def Xq(T:s6 K c.s)(F:cU K "written" "Span.written" A0 f fd)(pf:bf P w K mg zn 2 "fixed_row" ["n","most"] QF):cB P w K mg zn cM 3 f fd ["self","value"] (RC has bz fw c n .s):=by
 refine F.d1 Xy (fun H vs Q E au h=>?_);obtain⟨o,bF,v,d,rfl,hs,bQ,aF,bY,hd,aD,aC,q⟩:=h;obtain⟨a,b,rfl⟩:=yq hs;obtain⟨_,ah,aK⟩:=bQ;rw[bO]at q aC;rw[b1]at aD;cases d with
 |int i =>
  obtain rfl:v=.int i:=hd;have aD:a<=i/\i<=b:=hT aD;have aC:(dq (i-a).toNat (aE (b-a).toNat)).length<=15000000:=aC;rw[jm]at aC;have aQ:((i-a).toNat:Int)=i-a:=Int.toNat_of_nonneg (by lia);have aR:((b-a).toNat:Int)=b-a:=Int.toNat_of_nonneg (by lia);refine⟨_,(aL (aY (b7 pf au (ak (aM hq (af 1) (dp (af 0) I)) (ak (aM hq (dp (af 0) I) (dp (af 0) I)) ay))))),?_⟩;ac_rfl;refine⟨_,I,_,I,o,c.s,ah,_,_,I,aK,T.cl,T.vn,gs ..,_,_,I,I,_,I,o,c.s,ah,_,_,I,aK,T.cl,T.zM,lX _ _ _ _ DC,_,I,o,c.s,ah,_,_,I,aK,T.cl,T.vn,gs ..,_,_,I,I,(i-a).toNat,(b-a).toNat,by rw[aQ,aR];rfl,by lia,by lia,H,.refl (cK _),q⟩
 |_=>cases aD
def Xs(nb:dD mg)(T:iX K (c.o 0))(F:cU K "written" "Maybe.written" AN f fd)(l3:eZ P w K mg zn (2*n+4) "written" ["self","value"] (eb c) (RC has bz fw c n)):cB P w K mg zn cM (2*n+4+1) f fd ["self","value"] (RC has bz fw c (n+1) (.o 0)):=by
 refine F.d1 Xg (fun H vs Q E au h=>?_);obtain⟨o,bF,v,d,rfl,hs,bQ,aF,bY,hd,aD,aC,q⟩:=h;obtain⟨g,rfl⟩:=mm hs;obtain⟨_,ah,i,aK,dM⟩:=bQ;have dN:=aF.one;have fm:aP g<=n:=by rw[aP]at bY;lia
 rw[b1]at aD;rw[bO]at q aC;have aD:oM (b1 bz g) d=ao:=aD;have q:Q (.str (bA (I2 (bO fw g) d))) H:=q;have aC:(I2 (bO fw g) d).length<=15000000:=aC;obtain⟨fB,fC,ew,li⟩:=bG.written g dM;cases d with
 | tup ds =>
  obtain⟨a,vs,rfl,cD,fW,h1⟩:=hd;have c0:=dw.len ds fW;refine⟨_,(aL (aY (oe (bV dn (c1 eh I nb.d5 ea (ak (af 1) ay)) aH) bu (aM cv bu (gB l3 au (dp (af 0) I) (ak (cI cJ (af 1) aH) ay)))))),?_⟩;ac_rfl;refine⟨_,I,_,_,I,.inr ⟨_,dy cD,I⟩,I,_,I,?_⟩;cases ds with
  |nil =>
   obtain rfl:vs=[]:=fW;exact ho ⟨H,.refl (cK _),q⟩
  | cons x r =>
   cases r with
   |cons y r=>cases aD
   |nil =>
    obtain⟨y,r,rfl,av,ei⟩:=fW;obtain rfl:r=[]:=ei;have aC:(ao::bO fw g x).length<=15000000:=aC;rw[dW]at aC;refine e2 ⟨_,I,o,c.o 0,ah,_,_,I,aK,T.cl,T.kW,gs ..,i,slot g,fB,fC,I,ew,li,?_⟩;refine⟨_,I,x0 cD (dF (j:=0) I) ⟨i,g,y,x,I,I,dM,dN,fm,av,aD,by lia,.inr ⟨_,_,rfl,rfl,gg ?_,H,.refl (cK _),?_⟩⟩⟩
    .rw[wu,fu,fu];simp only[dW,List.length_nil];lia
    .rw[wu,mi];exact q
 |_=>cases aD
def W6(T:iX K (c.o 2))(F:cU K "written" "Turned.written" Bl f fd)(pj:bf P w K mg zn 1 "turned_row" ["row"] K6)(l3:eZ P w K mg zn (2*n+4) "written" ["self","value"] (eb c) (RC has bz fw c n)):cB P w K mg zn cM (2*n+4+1) f fd ["self","value"] (RC has bz fw c (n+1) (.o 2)):=by
 refine F.d1 Zip (fun H vs Q E au h=>?_);obtain⟨o,bF,v,d,rfl,hs,bQ,aF,bY,hd,aD,aC,q⟩:=h;obtain⟨g,rfl⟩:=mm hs;obtain⟨_,ah,i,aK,dM⟩:=bQ;have dN:=aF.one;have fm:aP g<=n:=by rw[aP]at bY;lia
 rw[b1]at aD;rw[bO]at q aC;have aD:b1 bz g d=ao:=aD;have q:Q (.str (bA ((bO fw g d).map (!·)))) H:=q;have aC:((bO fw g d).map (!·)).length<=15000000:=aC;rw[cd]at aC;obtain⟨fB,fC,ew,li⟩:=bG.written g dM;refine⟨_,(aL (aY (b7 pj au (ak (gB l3 au (dp (af 0) I) (ak (af 1) ay)) ay)))),?_⟩;ac_rfl;refine⟨_,I,o,c.o 2,ah,_,_,I,aK,T.cl,T.kW,gs ..,i,slot g,fB,fC,I,ew,li,?_⟩;exact⟨_,I,i,g,v,d,I,I,dM,dN,fm,hd,aD,aC,_,I,by lia,H,.refl (cK _),q⟩
def G0{ls:List (List Bool)}(h:l∈ls):l.length<=ls.flatten.length:=by
 induction ls with
 |nil=>cases h
 |cons a r bP =>
  rw[jH,bE];rcases dJ.mp h with rfl|h
  .omega
  .have:=bP h;lia
def GX(ls:List (List Bool)):((ls.map bA).map (·.length)).sum+(ls.map bA).length*(aa.ofString "").length=ls.flatten.length:=by
 have e:(aa.ofString "").length=0:=⋯;rw[e,Nat.mul_zero,Nat.add_zero,hx,List.length_flatten];congr 1;exact pz fun l _=>fu l
theorem GN(fw:D->List Bool):∀(fs:List aU)(ds:List D),ds.length=fs.length->gf fw fs ds=((List.range fs.length).map fun i=>bO fw (fs.getD i (.bare 0)) (ds.getD i .bM)).flatten
 |[],ds,h=>by rw[gf];rfl
 |f::fs,[],h=>by cases h
 |f::fs,d::ds,h=>by
  rw[gf];show bO fw f d++gf fw fs ds=_;rw[GN fw fs ds (by simpa using h),dW,List.range_succ_eq_map,gI,jH,hx];rfl
def XO(nb:dD mg)(T:iX K (c.o 1))(F:cU K "written" "Many.written" A5 f fd)(l3:eZ P w K mg zn (2*n+4) "written" ["self","value"] (eb c) (RC has bz fw c n)):cB P w K mg zn cM (2*n+4+1) f fd ["self","value"] (RC has bz fw c (n+1) (.o 1)):=by
 refine F.d1 XC (fun H vs Q E au h=>?_);obtain⟨o,bF,v,d,rfl,hs,bQ,aF,bY,hd,aD,aC,q⟩:=h;obtain⟨g,rfl⟩:=mm hs;obtain⟨_,ah,i,aK,dM⟩:=bQ;have dN:=aF.one;have fm:aP g<=n:=by rw[aP]at bY;lia
 rw[b1]at aD;rw[bO]at q aC;have aD:tU (b1 bz g) d=ao:=aD;obtain⟨fB,fC,ew,li⟩:=bG.written g dM;cases d with
 | lst ds =>
  obtain⟨a,vs,rfl,cD,fW,h1⟩:=hd;have c0:=dw.len ds fW;have aD:(decide (ds.length<=60)&&ds.all (b1 bz g))=ao:=aD;obtain⟨Dm,hZ⟩:=lE.mp aD;have hZ:=hy.mp hZ;have q:Q (.str (bA ((ds.map fun d=>ao::bO fw g d).flatten++[aI]))) H:=q;have aC:((ds.map fun d=>ao::bO fw g d).flatten++[aI]).length<=15000000:=aC;rw[bE]at aC;refine⟨_,(aL (aY (aM cv (h6 PySem.F.plainAttrs_str PySem.F.slot_str_join PySem.F.type_str_join rW bu (ak (iA ["part"] [(0,"self")] I ⋯ ⟨I,.inl I,trivial⟩ (jw (af 1)) (d4 (i:=0) (show(["part","self"]:List aa).Nodup by decide+kernel)) hW (aM cv bu (gB l3 au (dp (af 1) rfl) (ak (af 0) ay)))) ay)) bu))),?_⟩;ac_rfl;refine⟨I,.inl ⟨_,I,a,I,⟨_,bp cD⟩,fun ha g6=>?_⟩⟩;refine yf (K:=K) (a:=a) (xs:=vs) (fun k=>V.str (bA (ao::bO fw g (ds.getD k .bM)))) (fun ab=>∃z,ab=[z,J (.ref o)]) (dS (by lia)) ⟨_,I⟩ g6 (bp cD) ?_ ?_
  ·rintro k x av b0 H1 ⟨z,rfl⟩ eW R cL;obtain⟨mr,tG,IT⟩:=dw.get ds fW av;have e:ds.getD k .bM=mr:=by rw[eR,tG];rfl
   rw[e]at cL;have hm:mr∈ds:=jc tG;have aX:=G0 (List.mem_map_of_mem (f:=fun d=>ao::bO fw g d) hm);rw[dW]at aX;refine⟨_,I,o,c.o 1,ah,_,_,I,eW _ _ aK,T.cl,T.kW,gs ..,i,slot g,fB,fC,I,eW _ _ ew,li,?_⟩;refine⟨_,I,i,g,x,mr,I,I,bG.keep (fun b u _ e=>eW b u e) g dM,dN,fm,dZ.same eW mr IT,hZ _ hm,by lia,.inr ⟨_,_,rfl,rfl,gg ?_,?_⟩⟩
   .rw[wu,fu,fu];simp only[dW,List.length_nil];lia
   .rw[wu,mi];exact cL _ ⟨_,I⟩
  ·have e:(List.range vs.length).map (fun k=>V.str (bA (ao::bO fw g (ds.getD k .bM))))=((ds.map fun d=>ao::bO fw g d).map bA).map V.str:=by
    rw[c0];apply List.ext_getElem
    .simp
    ·intro k ai aj;have bt:k<ds.length:=by simpa using aj
     rw[lG,lG,lG,lG,List.getElem_range,eR,cw bt];rfl
   rw[e];refine⟨_,ha,_,I,I,bp aB,by rw[GX];lia,.inr ⟨_,_,rfl,rfl,gg ?_,H,.refl (cZ g6),?_⟩⟩
   .rw[uG,CR,fu,fu];lia
   .rw[uG,CR,mi];exact q
 |_=>cases aD
def W7(nb:dD mg)(T:k5 K (c.t 0))(F:cU K "written" "Record.written" Bm f fd)(l3:eZ P w K mg zn (2*n+4) "written" ["self","value"] (eb c) (RC has bz fw c n)):cB P w K mg zn cM (2*n+4+1) f fd ["self","value"] (RC has bz fw c (n+1) (.t 0)):=by
 refine F.d1 WX (fun H vs Q E au h=>?_);obtain⟨o,bF,v,d,rfl,hs,bQ,aF,bY,hd,aD,aC,q⟩:=h;obtain⟨ns,fs,rfl⟩:=qB hs;obtain⟨_,ah,a1,a2,os,aK,_,_,ai,aj,dM⟩:=bQ;obtain⟨eA,gF,dN⟩:=aF.two;have fm:dv fs<=n:=by rw[aP]at bY;lia
 have m4:=d0.len fs dM;have zl:=(jf eA).1;rw[b1]at aD;rw[bO]at q aC;have aD:JE (eM bz fs) d=ao:=aD;cases d with
 | tup ds =>
  obtain⟨a,vs,rfl,cD,fW,h1⟩:=hd;have DL:=dw.len ds fW;have aD:eM bz fs ds=ao:=aD;have hA:ds.length=fs.length:=Classical.byContradiction fun bj=>by rw[CJ bz fs ds bj]at aD;cases aD
  rw[CK bz fs ds hA]at aD;have hZ:=hy.mp aD;have q:Q (.str (bA (gf fw fs ds))) H:=q;have aC:(gf fw fs ds).length<=15000000:=aC;rw[GN fw fs ds hA]at q aC;refine⟨_,(aL (aY (h6 PySem.F.plainAttrs_str PySem.F.slot_str_join PySem.F.type_str_join rW bu (ak (iA ["form","part"] [] I ⋯ trivial (Nh I nb.Ez (ak (dp (af 0) I) (ak (af 1) ay))) (qP I (iZ (d4 (i:=0) (show(["form","part"]:List aa).Nodup by decide+kernel)) (iZ (d4 (i:=1) (show(["form","part"]:List aa).Nodup by decide+kernel)) qN))) hW (gB l3 au (af 0) (ak (af 1) ay))) ay)))),?_⟩;ac_rfl;refine⟨I,_,I,o,c.t 0,ah,_,_,I,aK,T.cl,T.m7,lX _ _ _ _ oq,_,I,a2,a,_,_,I,bp aj,dy cD,fun ha g6=>?_⟩;refine Ms (fun k=>V.str (bA (bO fw (fs.getD k (.bare 0)) (ds.getD k .bM)))) (fun ab=>∃d6 d2,ab=[d6,d2]) (by rw[cd];lia) ⟨_,_,I⟩ g6 (bp aj) (dy cD) ?_ ?_
  ·rintro k x y av ba b0 H1 gN ⟨d6,d2,rfl⟩ eW mZ R cL;rw[eJ]at av;obtain⟨sM,zr,rfl⟩:=Uf.mp av;obtain⟨bF,jP,r8⟩:=d0.get fs dM zr;obtain⟨mr,tG,IU⟩:=dw.get ds fW ba;obtain⟨nC,w4⟩:=dN.get jP;have aQ:fs.getD k (.bare 0)=bF:=by rw[eR,jP];rfl
   have aR:ds.getD k .bM=mr:=by rw[eR,tG];rfl
   have hk:k∈List.range fs.length:=List.mem_range.mpr (kE.mp jP).1;have y8:=hZ k hk;have aX:=G0 (List.mem_map_of_mem (f:=fun i=>bO fw (fs.getD i (.bare 0)) (ds.getD i .bM)) hk);rw[aQ,aR]at cL y8 aX;have qp:=eW.trans (cZ (o:=de.tup [V.ref sM,y]) mZ);obtain⟨fB,fC,ew,li⟩:=bG.written bF (bG.keep (fun b u _ e=>qp b u e) bF r8);refine⟨gN,_,I,dy aB,I,_,_,I,_,_,I,I,?_⟩;refine⟨_,I,sM,slot bF,fB,fC,I,ew,li,?_⟩;exact⟨_,I,sM,bF,y,mr,I,I,bG.keep (fun b u _ e=>qp b u e) bF r8,nC,by lia,dZ.same qp mr IU,y8,by lia,cL _ _ ⟨_,_,rfl⟩ (cK _)⟩
  ·intro H' kS iC
   have e:(List.range (min (os.map V.ref).length vs.length)).map (fun k=>V.str (bA (bO fw (fs.getD k (.bare 0)) (ds.getD k .bM))))=(((List.range fs.length).map fun k=>bO fw (fs.getD k (.bare 0)) (ds.getD k .bM)).map bA).map V.str:=by
    rw[cd,DL,m4,hA,Nat.min_self,hx,hx];rfl
   rw[e]at iC;refine⟨_,ha,_,I,I,bp iC,by rw[GX];lia,H,.refl kS,?_⟩;rw[uG];exact q
 |_=>cases aD
noncomputable def sees(l:List Bool)(t:Bool)(j:Nat):List Bool:=(l.map (xor t)).drop j
def uL{s:List Bool}(h:(r++s) <+: sees l t j):s <+: sees l t (j+r.length):=by
 obtain⟨z,h⟩:=h;refine⟨z,?_⟩;unfold sees at h ⊢;rw[<-List.drop_drop,<-h,eC,List.drop_left]
def rR{s:List Bool}(h:(r++s) <+: sees l t j):r <+: sees l t j:=(List.prefix_append r s).trans h
def uJ{b:Bool}(h:(b::r) <+: sees l t j):∃kj,l[j]?=J kj/\xor t kj=b:=by
 obtain⟨z,h⟩:=h;have bb:(sees l t j)[0]?=J b:=by rw[<-h];rfl
 unfold sees at bb;rw[List.getElem?_drop,Nat.add_zero,eJ]at bb;obtain⟨kj,aQ,aR⟩:=Uf.mp bb;exact⟨kj,aQ,aR⟩
def tf(h:r <+: sees l t j)(cj:j<=l.length):j+r.length<=l.length:=by
 have:=h.length_le;unfold sees at this;rw[lF,cd]at this;lia
def aaw(h:(r.map (!·)) <+: sees l t j):r <+: sees l (!t) j:=by
 obtain⟨z,h⟩:=h;refine⟨z.map (!·),?_⟩;unfold sees at h ⊢;have:=congrArg (List.map (!·)) h;rw[fR,hx,List.map_drop,hx]at this;have e:(fun x:Bool=>!x) ∘ (fun x=>!x)=id:=by funext x;cases x<;>rfl
 have aR:(fun x:Bool=>!x) ∘ (xor t)=xor (!t):=by funext x;cases x<;>cases t<;>rfl
 rw[e,List.map_id,aR]at this;exact this
def GH(h:r <+: sees l t j):((l.drop j).take r.length).map (xor t)=r:=by
 obtain⟨z,h⟩:=h;unfold sees at h;rw[List.map_take,List.map_drop,<-h,List.take_left]
def bG.draw{c:c9}(f:aU){o:ag}(h:bG c X H f o):∃ah fs,H o=J (.ins (eb c (slot f)) ah fs)/\fs.lookup (aa.ofString "draw")=aA :=
 bG.ins (m:=aa.ofString "draw") ⋯ ⋯ ⋯ ⋯ ⋯ ⋯ f h
def cY.alloc{X:gV}(m:cY p H H')(e:H' p=J o)(h:∀x,x∈X->∃o,H x=J o):∀x,x∈X->∃o,H' x=J o:=fun x av=>by
 by_cases z:x=p
 .exact⟨o,by rw[z];exact e⟩
 ·obtain⟨u,cG⟩:=h x av;exact⟨u,m.k x u z cG⟩
def bG.eX{c:c9}(m:cY p H H')(f:aU){o:ag}(h:bG c [p] H f o):bG c [p] H' f o:=bG.keep (fun b u n e=>m.k b u (fun z=>n (eB.mpr z)) e) f h
inductive Qr(has:fQ->Bool)(bz:D->Bool)(fw:D->List Bool)(c:c9)(C:ag)(n:Nat)(i:fQ)(vs:List V)(H:aq)(Q:bI)(E:cP):Prop where
 |mk (o p ah:ag) (f:aU) (d:D) (l:List Bool) (j:Nat) (t e:Bool) (X:gV) (bb:vs=[.ref o,.ref p]) (ai:slot f=i) (aj:bG c [p] H f o) (bt:qj has f) (cf:aP f<=n) (eF:H p=J (fY C ah l j t e)) (gD:l.length<=16000000) (kl:j<=l.length) (kP:p∈X) (r7:(∀x,x∈X->∃o,H x=J o)) (Om:b1 bz f d=ao) (akB:bO fw f d <+: sees l t j) (ep:∀v H',cY p H H'->cg X H' d v->H' p=J (fY C ah l (j+(bO fw f d).length) t e)->Q v H')
def cY.step{C:ag}{j':Nat}{e t' e':Bool}(h:H p=J (fY C ah l j t e)):cY p H (upd H p (fY C ah l j' t' e')):=cY.move h
def aal(F:cU K "draw" "Nothing.draw" A4 f fd):cB P w K mg zn cM 1 f fd ["self","source"] (Qr has bz fw c C n (.b 0)):=by
 refine F.d1 XB (fun H vs Q E au h=>?_);obtain⟨o,p,ah,bF,d,l,j,t,e,X,rfl,hs,bQ,aF,bY,c7,aC,cj,gc,eN,aD,ei,q⟩:=h;have:=jY hs;subst this;rw[bO]at q;rw[b1]at aD;cases d with
 |bM=>exact⟨_,(aL (aY yE)),H,.refl (cK _),q _ _ (cY.refl _ _) I c7⟩
 |_=>cases aD
def U2(dH:e7 K C)(F:cU K "draw" "Truth.draw" BU f fd)(hF:fp P w K mg zn 1 C "draw" ["self"] (Qy C)):cB P w K mg zn cM 3 f fd ["self","source"] (Qr has bz fw c C n (.b 1)):=by
 refine F.d1 Yy (fun H vs Q E au h=>?_);obtain⟨o,p,ah,bF,d,l,j,t,e,X,rfl,hs,bQ,aF,bY,c7,aC,cj,gc,eN,aD,ei,q⟩:=h;have:=jY hs;subst this;rw[bO]at q ei;rw[b1]at aD;cases d with
 |aS b =>
  have ei:[b] <+: sees l t j:=ei;obtain⟨kj,hl,hJ⟩:=uJ ei;refine⟨_,(aL (aY (g4 dn (jn hF dH au (af 1)) aH))),?_⟩;ac_rfl;refine⟨_,I,p,ah,_,I,c7,ml _ _ _ _ ⋯ ⋯ ⋯,?_⟩;refine⟨p,ah,l,j,t,e,kj,I,⟨_,c7⟩,aC,hl,?_⟩;have M:=cY.step (j':=j+1) (t':=t) (e':=e) c7;rw[hJ];refine⟨I,_,M.sub aB,?_⟩;have gn:decide (V.int ((b.toNat:Nat):Int)=V.int 1)=b:=by cases b<;>rfl
  rw[gn];exact q _ _ M I aB
 |_=>cases aD
def VW(T:s6 K c.s)(F:cU K "draw" "Span.draw" B4 f fd)(pe:bf P w K mg zn 2 "draw_fixed" ["source","most"] (Qt C)):cB P w K mg zn cM 4 f fd ["self","source"] (Qr has bz fw c C n .s):=by
 refine F.d1 Y3 (fun H vs Q E au h=>?_);obtain⟨o,p,ah,bF,d,l,j,t,e,X,rfl,hs,bQ,aF,bY,c7,aC,cj,gc,eN,aD,ei,q⟩:=h;obtain⟨a,b,rfl⟩:=yq hs;obtain⟨_,kK,aK⟩:=bQ;rw[bO]at q ei;rw[b1]at aD;cases d with
 |int v =>
  have aD:a<=v/\v<=b:=hT aD;have ei:dq (v-a).toNat (aE (b-a).toNat) <+: sees l t j:=ei;have q:∀(w:V)(H':aq),cY p H H'->cg X H' (.int v) w->H' p=J (fY C ah l (j+(dq (v-a).toNat (aE (b-a).toNat)).length) t e)->Q w H':=q;rw[jm]at q;have aQ:((v-a).toNat:Int)=v-a:=Int.toNat_of_nonneg (by lia);have aR:((b-a).toNat:Int)=b-a:=Int.toNat_of_nonneg (by lia);have ko:=tf ei cj;have p7:=GH ei;rw[jm]at ko p7;have M:=cY.step (j':=j+aE (b-a).toNat) (t':=t) (e':=e) c7;refine⟨_,(aL (aY (aM cv (dp (af 0) I) (b7 pe au (ak (af 1) (ak (aM hq (dp (af 0) I) (dp (af 0) I)) ay)))))),?_⟩;ac_rfl;refine⟨_,I,o,c.s,kK,_,_,I,aK,T.cl,T.vn,gs ..,_,I,_,I,o,c.s,kK,_,_,I,aK,T.cl,T.zM,lX _ _ _ _ DC,_,I,o,c.s,kK,_,_,I,aK,T.cl,T.vn,gs ..,_,_,I,I,p,ah,l,j,(v-a).toNat,(b-a).toNat,t,e,by rw[aR];rfl,c7,aC,by lia,ko,p7,.inl ⟨_,_,rfl,rfl,_,M.sub aB,?_⟩⟩;exact q _ _ M (by show V.int _=V.int _;congr 1;lia) aB
 |_=>cases aD
def T6(dH:e7 K C)(T:iX K (c.o 2))(F:cU K "draw" "Turned.draw" BB f fd)(mN:fp P w K mg zn 1 C "turn" ["self"] (Ru C))(lx:eZ P w K mg zn (2*n+4) "draw" ["self","source"] (eb c) (Qr has bz fw c C n)):cB P w K mg zn cM (2*n+4+1) f fd ["self","source"] (Qr has bz fw c C (n+1) (.o 2)):=by
 refine F.d1 Li (fun H vs Q E au h=>?_);obtain⟨o,p,ah,bF,d,l,j,t,e,X,rfl,hs,bQ,aF,bY,c7,aC,cj,gc,eN,aD,ei,q⟩:=h;obtain⟨g,rfl⟩:=mm hs;obtain⟨oR,kK,i,aK,dM⟩:=bQ;have dN:=aF.one;have fm:aP g<=n:=by rw[aP]at bY;lia
 rw[b1]at aD;rw[bO]at q ei;have aD:b1 bz g d=ao:=aD;have ei:(bO fw g d).map (!·) <+: sees l t j:=ei;have q:∀(w:V)(H':aq),cY p H H'->cg X H' d w->H' p=J (fY C ah l (j+((bO fw g d).map (!·)).length) t e)->Q w H':=q;rw[cd]at q;have op:o≠p:=fun z=>oR (eB.mpr z);have hb:=cY.step (j':=j) (t':=!t) (e':=e) c7;have tC:=bG.eX hb g dM;obtain⟨fB,fC,ew,li⟩:=bG.draw g tC
 refine⟨_,(aO (iz (jn mN dH au (af 1)))
  (aO (b4 2 Li.br (gB lx au (dp (af 0) rfl) (ak (af 1) ay)))
  (aO (iz (jn mN dH au (af 1)))
  (aL (aY (af 2)))))),?_⟩
 ac_rfl;refine⟨_,I,p,ah,_,I,c7,ml _ _ _ _ ⋯ ⋯ ⋯,p,ah,l,j,t,e,0,I,c7,?_⟩;refine⟨_,I,o,c.o 2,kK,_,_,I,hb.k _ _ op aK,T.cl,T.kW,gs ..,i,slot g,fB,fC,I,ew,li,?_⟩;refine⟨_,I,i,p,ah,g,d,l,j,!t,e,X,I,I,tC,dN,fm,aB,aC,cj,gc,cY.alloc hb aB eN,aD,aaw ei,fun v az M2 er g7=>?_⟩;have kC:=cY.step (j':=j+(bO fw g d).length) (t':=t) (e':=e) g7;refine⟨_,I,p,ah,_,I,g7,ml _ _ _ _ ⋯ ⋯ ⋯,p,ah,l,_,!t,e,0,I,g7,?_⟩;rw[Bool.not_not];have M:=(hb.trans M2).trans kC;exact⟨_,I,_,M.sub aB,q _ _ M (cg.keep (fun b u n e=>kC.k b u (fun z=>n (by rw[z];exact gc)) e) d er) aB⟩
def cY.P5{lv:ag}{ws:List V}(bb:H lv=aA)(m:cY p H H1)(ai:H1 lv=J (.lst vs)):cY p H (upd H1 lv (.lst ws)) :=
 ⟨fun b u n e=>by rw[bx (fun z=>by rw[z,bb]at e;cases e)];exact m.k b u n e,fun cl=>ur ai (m.c cl)⟩
def Ck(ds:List α)(k:Nat)(f:α->List Bool):(ds.map f).flatten=((ds.take k).map f).flatten++((ds.drop k).map f).flatten:=by
 rw[<-List.flatten_append,<-fR,List.take_append_drop]
def VX(nb:dD mg)(qX:gj mg "MOST_VALUES" (.int 60))(dH:e7 K C)(T:iX K (c.o 1))(F:cU K "draw" "Many.draw" B6 f fd)(hF:fp P w K mg zn 1 C "draw" ["self"] (Qy C))(mM:fp P w K mg zn 1 C "refuse" ["self"] vy)(lx:eZ P w K mg zn (2*n+4) "draw" ["self","source"] (eb c) (Qr has bz fw c C n)):cB P w K mg zn cM (2*n+4+1) f fd ["self","source"] (Qr has bz fw c C (n+1) (.o 1)):=by show_term
 refine F.d1 Lp (fun H vs Q E au h=>?_);obtain⟨o,p,ah,bF,d,l,j,t,e,X,rfl,hs,bQ,aF,bY,c7,aC,cj,gc,eN,aD,ei,q⟩:=h;obtain⟨g,rfl⟩:=mm hs;obtain⟨oR,kK,i,aK,dM⟩:=bQ;have dN:=aF.one;have fm:aP g<=n:=by rw[aP]at bY;lia
 rw[b1]at aD;rw[bO]at q ei;have aD:tU (b1 bz g) d=ao:=aD;cases d with
 | lst ds =>
  have aD:(decide (ds.length<=60)&&ds.all (b1 bz g))=ao:=aD;obtain⟨Dm,hZ⟩:=lE.mp aD;have Dm:=hT Dm;have hZ:=hy.mp hZ;have ei:((ds.map fun d=>ao::bO fw g d).flatten++[aI]) <+: sees l t j:=ei;have q:∀(w:V)(H':aq),cY p H H'->cg X H' (.lst ds) w->H' p=J (fY C ah l (j+((ds.map fun d=>ao::bO fw g d).flatten++[aI]).length) t e)->Q w H':=q;have op:o≠p:=fun z=>oR (eB.mpr z)
  refine⟨_,(aO (b4 2 Lp.br (e0 ay))
  (aO (pB iu.never (bV dn (jn hF dH au (af 1)) aH)
   (aO (cq (bV dn (c1 eh rfl nb.d5 ea (ak (af 2) ay)) (kI qX)) (aL (iz (jn mM dH au (af 1)))) cm)
   (aL (iz (h6 PySem.F.plainAttrs_list PySem.F.slot_list_append PySem.F.type_list_append pA (af 2) (ak (gB lx au (dp (af 0) rfl) (ak (af 1) ay)) ay))))))
  (aL (aY (af 2))))),?_⟩
  ac_rfl;refine⟨UF _,fun lv p3=>?_⟩;have xk:p≠lv:=fun z=>by rw[<-z,c7]at p3;cases p3
  have aeB:lv∉X:=fun z=>by obtain⟨u,cG⟩:=eN lv z;rw[p3]at cG;cases cG
  have Td:cY p H (upd H lv (.lst [])):=⟨fun b u _ e=>cZ p3 b u e,fun cl=>uq cl p3 trivial⟩;refine⟨fun m ab az=>∃(k:Nat)(vs:List V),k<=ds.length/\m=ds.length-k/\ab=[J (.ref o),J (.ref p),J (.ref lv)]/\cY p H az/\az lv=J (.lst vs)/\cQ (gV.tv lv X) az (ds.take k) vs/\az p=J (fY C ah l (j+(((ds.take k).map fun d=>ao::bO fw g d).flatten).length) t e),⟨ds.length,0,[],UF _,I,I,Td,aB,I,cZ p3 _ _ c7⟩,?_⟩;rintro m ab az ⟨k,vs,hk,rfl,rfl,M2,gE,er,g7⟩;have jt:=ei;rw[Ck ds k,eC]at jt;have jt:=uL jt;have p2:=tf (rR (by have:=ei;rw[Ck ds k,eC]at this;exact this)) cj;generalize zc:j+(((ds.take k).map fun d=>ao::bO fw g d).flatten).length=kT at g7 jt p2;refine⟨_,I,p,ah,_,I,g7,ml _ _ _ _ ⋯ ⋯ ⋯,?_⟩;have kC:=cY.step (j':=kT+1) (t':=t) (e':=e) g7;have h1:=dw.len _ (cQ.at _ er);rcases h4 k ds.length with z|z
  ·have jq:ds.drop k=ds[k]::ds.drop (k+1):=qJ z;rw[jq,gI,jH,List.cons_append,List.cons_append]at jt;obtain⟨kj,hl,hJ⟩:=uJ jt;refine⟨p,ah,l,kT,t,e,kj,I,⟨_,g7⟩,aC,hl,?_⟩;rw[hJ];refine⟨I,_,I,ho ⟨_,fun _ _ h=>h,?_⟩⟩;have q7:=kC.k _ _ (fJ xk) gE;have OH:cQ (gV.tv lv X) _ (ds.take k) vs:=cQ.keep (fun b u nb e=>kC.k b u (fun z=>nb (gV.dQ (by rw[z];exact gc))) e) _ er;have rM:=M2.trans kC;have uZ:upd az p (fY C ah l (kT+1) t e) p=_:=aB;generalize upd az p (fY C ah l (kT+1) t e)=b5 at kC q7 OH rM uZ ⊢;have p7:(ds.take k).length=k:=by rw[kg];lia
   refine⟨_,I,_,_,I,.inl ⟨_,bp q7,I⟩,I,_,I,da (by intro z;have:=V.int.inj z;lia) ?_⟩;have Ox:=bG.eX rM g dM;obtain⟨fB,fC,ew,li⟩:=bG.draw g Ox
   have IG:(bO fw g ds[k]++(((ds.drop (k+1)).map fun d=>ao::bO fw g d).flatten++[aI])) <+: sees l t (kT+1):=by
    rw[<-eC];exact uL (r:=[ao]) jt
   have zd:=tf (rR (r:=[ao]) jt) p2;rw[kf]at zd;refine⟨_,I,.inl ⟨I,_,bp q7⟩,?_⟩;refine⟨_,I,o,c.o 1,kK,_,_,I,rM.k _ _ op aK,T.cl,T.kW,gs ..,i,slot g,fB,fC,I,ew,li,?_⟩;refine⟨_,I,i,p,ah,g,ds[k],l,kT+1,t,e,gV.tv lv X,I,I,Ox,dN,fm,uZ,aC,zd,gV.dQ gc,?_,hZ _ (List.getElem_mem z),rR IG,fun v gW n4 y6 u0=>?_⟩
   ·intro x av;rcases av with rfl|av
    .exact⟨_,q7⟩
    .exact cY.alloc rM uZ eN x av
   have zg:=n4.k _ _ (fJ xk) q7;have Te:=rM.trans n4;refine⟨lv,_,_,I,I,zg,fz (show vs.length<100000 by lia) (by decide),?_⟩;refine⟨ds.length-(k+1),by lia,k+1,vs++[v],by lia,rfl,rfl,cY.P5 p3 Te zg,aB,?_,?_⟩
   ·rw[<-List.take_append_getElem z];refine cQ.keep (fun b u nb e=>by rw[bx (fun z=>nb (by rw[z];exact gV.hd))];exact e) _ (cQ.snoc y6 _ ?_);exact cQ.keep (fun b u nb e=>n4.k b u (fun z=>nb (gV.dQ (by rw[z];exact gc))) e) _ OH
   ·rw[bx xk,u0]
    have yO:kT+1+(bO fw g ds[k]).length=j+(((ds.take (k+1)).map fun d=>ao::bO fw g d).flatten).length:=by
     rw[<-List.take_append_getElem z,fR,List.flatten_append,bE];simp only[gI,List.map_nil,jH,List.flatten_nil,List.append_nil,dW];lia
    rw[yO]
  ·have sj:k=ds.length:=by lia
   subst sj;rw[List.drop_length,List.map_nil,List.flatten_nil,List.nil_append]at jt;rw[List.take_length]at zc er h1;obtain⟨kj,hl,hJ⟩:=uJ jt;refine⟨p,ah,l,kT,t,e,kj,I,⟨_,g7⟩,aC,hl,?_⟩;rw[hJ];refine⟨I,_,I,e2 ?_⟩;have M:=M2.trans kC;refine⟨_,I,_,M.sub aB,q _ _ M ⟨lv,vs,I,aeB,?_,?_,by lia⟩ ?_⟩
   .rw[bx (fJ xk)];exact gE
   .exact cQ.keep (fun b u nb e=>kC.k b u (fun z=>nb (by rw[z];exact gc)) e) _ (cQ.weak (fun x av=>gV.dQ av) _ er)
   ·rw[aB,bE,kf,<-zc];congr 2
 |_=>cases aD
def Cm{K:bT}{g:gY}{D:ag}(Inv:Nat->List V->aq->Prop)(S:St->Prop)(bX:xs.length<=100000)(bb:S fO)
  (aC:∀i aw az,Inv i aw az->c4 K az a xs) (ai:Inv 0 [] (upd H D (.lst [])))
  (aP:∀i x,xs[i]?=J x->∀aw b0 H1,S b0->Inv i aw H1->H1 D=J (.lst aw)->aw.length=i->∀R:St->V->aq->Prop,(∀bD y b5,S bD->b5 D=J (.lst aw)->Inv (i+1) (aw++[y]) (upd b5 D (.lst (aw++[y])))->R bD y b5)->g x b0 H1 fun bD az=>cT bD az fun y b5=>R bD y b5)
  (bl:∀(aw:List V)(H':aq),aw.length=xs.length->H' D=J (.lst aw)->Inv xs.length aw H'->Q (.ref D) H') :
  mK (rF K a) g oX cT Q fO H D:=by
 refine⟨fun i m b0 az=>i<=xs.length/\m=xs.length-i/\S b0/\∃aw:List V,aw.length=i/\az D=J (.lst aw)/\Inv i aw az,⟨xs.length,UF _,I,bb,[],I,aB,ai⟩,?_⟩;rintro i m b0 az ⟨aG,rfl,aj,aw,ba,kQ,dX⟩;have gE:=aC i aw az dX;rcases h4 i xs.length with z|z
 ·refine .inr ⟨⟨xs,xs[i],gE,cw z⟩,?_⟩;rintro x b5 ⟨rfl,av⟩;have av:=av xs gE;refine aP i x av aw b0 _ aj dX kQ ba (fun bD y ek=>∃zs b6,ek D=J (.lst zs)/\zs.length<cp/\b6<xs.length-i/\(i+1<=xs.length/\b6=xs.length-(i+1)/\S bD/\∃ws:List V,ws.length=i+1/\upd ek D (.lst (zs++[y])) D=J (.lst ws)/\Inv (i+1) ws (upd ek D (.lst (zs++[y]))))) fun bD y ek gh HX H0=>?_;exact⟨aw,xs.length-(i+1),HX,fz (show aw.length<100000 by lia) (by decide),by lia,by lia,rfl,gh,aw++[y],by rw[bE,ba];rfl,aB,H0⟩
 ·have e:i=xs.length:=by lia
  subst e;exact .inl ⟨⟨xs,gE,cR _⟩,bl aw az ba kQ dX⟩
def T7(nb:dD mg)(T:k5 K (c.t 0))(F:cU K "draw" "Record.draw" BI f fd)(lx:eZ P w K mg zn (2*n+4) "draw" ["self","source"] (eb c) (Qr has bz fw c C n)):cB P w K mg zn cM (2*n+4+1) f fd ["self","source"] (Qr has bz fw c C (n+1) (.t 0)):=by show_term
 refine F.d1 X6 (fun H vs Q E au h=>?_);obtain⟨o,p,ah,bF,d,l,j,t,e,X,rfl,hs,bQ,aF,bY,c7,aC,cj,gc,eN,aD,ei,q⟩:=h;obtain⟨ns,fs,rfl⟩:=qB hs;obtain⟨oR,kK,a1,a2,os,aK,dc,dm,ai,aj,oz⟩:=bQ;obtain⟨eA,gF,dN⟩:=aF.two;have fm:dv fs<=n:=by rw[aP]at bY;lia
 have m4:=d0.len fs oz;have zl:=(jf eA).1;rw[b1]at aD;rw[bO]at q ei;cases d with
 | tup ds =>
  have aD:eM bz fs ds=ao:=aD
  have p0:ds.length=fs.length:=by
   rcases Nat.decEq ds.length fs.length with z|z
   .rw[CJ bz fs ds z]at aD;cases aD
   .exact z
  rw[CK bz fs ds p0]at aD;have hZ:=hy.mp aD;have ei:gf fw fs ds <+: sees l t j:=ei;have q:∀(w:V)(H':aq),cY p H H'->cg X H' (.tup ds) w->H' p=J (fY C ah l (j+(gf fw fs ds).length) t e)->Q w H':=q;rw[GN fw fs ds p0]at ei q;have op:o≠p:=fun z=>oR (eB.mpr z);have aaE:a2≠p:=fun z=>dm (eB.mpr z);have aa9:∀{i:Nat}{x:D},ds[i]?=J x->ds.getD i .bM=x:=fun h=>by rw[eR,h];rfl
  have uS:∀{i:Nat}{x:aU},fs[i]?=J x->fs.getD i (.bare 0)=x:=fun h=>by rw[eR,h];rfl
  obtain⟨pl,hn⟩:∃pl:Nat->Nat,pl=fun i=>j+(((List.range i).map fun i=>bO fw (fs.getD i (.bare 0)) (ds.getD i .bM)).flatten).length:=⟨_,rfl⟩
  have afO:∀i,pl (i+1)=pl i+(bO fw (fs.getD i (.bare 0)) (ds.getD i .bM)).length:=fun i=>by
   rw[hn];show j+_=j+_+_;rw[List.range_succ,fR,List.flatten_append,bE];simp only[gI,List.map_nil,jH,List.flatten_nil,List.append_nil];lia
  have aiK:∀i,i<fs.length->bO fw (fs.getD i (.bare 0)) (ds.getD i .bM) <+: sees l t (pl i)/\pl i<=l.length:=fun i aG=>by
   have h:=ei;rw[Ck (List.range fs.length) i]at h;have jM:(List.range fs.length).take i=List.range i:=by rw[List.take_range,Nat.min_eq_left (by lia)]
   have jq:(List.range fs.length).drop i=i::(List.range fs.length).drop (i+1):=by
    rw[qJ (by rw[k8];exact aG),List.getElem_range]
   rw[jM,jq,gI,jH]at h;have aj:=tf (rR h) cj;have bt:=rR (uL h);rw[hn];exact⟨bt,aj⟩
  refine⟨_,(aL (aY (mj FY I nb.t6 tk (ak (iA ["form"] [(1,"source")] I ⋯ ⟨I,.inl I,trivial⟩ (jw (dp (af 0) I)) (d4 (i:=0) (show(["form","source"]:List aa).Nodup by decide+kernel)) hW (gB lx au (af 0) (ak (af 1) ay))) ay)))),?_⟩;ac_rfl;refine .inl ⟨_,I,o,c.t 0,kK,_,_,I,aK,T.cl,T.m7,lX _ _ _ _ oq,a2,I,⟨_,bp aj⟩,fun ha g6=>?_⟩;have Ja:p≠ha:=fun z=>by rw[<-z,c7]at g6;cases g6
  have akk:ha∉X:=fun z=>by obtain⟨u,cG⟩:=eN ha z;rw[g6]at cG;cases cG
  refine Cm (K:=K) (a:=a2) (xs:=os.map V.ref) (fun i aw az=>cY p H az/\cQ (gV.tv ha X) az (ds.take i) aw/\az p=J (fY C ah l (pl i) t e)) (fun ab=>∃z,ab=[z,J (.ref p)]) (by rw[cd];lia) ⟨_,I⟩ ?_ ?_ ?_ ?_
  ·rintro i aw az ⟨m,_⟩;exact bp (m.k _ _ aaE aj)
  .exact⟨⟨fun b u _ e=>cZ g6 b u e,fun cl=>uq cl g6 trivial⟩,I,by rw[bx Ja,c7,hn];rfl⟩
  ·rintro i x av aw b0 H1 ⟨z,rfl⟩ ⟨dk,sf,Ds⟩ km ju R cL;rw[eJ]at av;obtain⟨PJ,adL,rfl⟩:=Uf.mp av;obtain⟨Dl,Ih,acG⟩:=d0.get fs oz adL;obtain⟨nC,w4⟩:=dN.get Ih;have aG:i<fs.length:=(kE.mp Ih).1;have ac7:ds[i]?=J ds[i]:=cw (by lia);obtain⟨O7,adR⟩:=aiK i aG;have OJ:=hZ i (List.mem_range.mpr aG);have q8:=afO i;rw[uS Ih,aa9 ac7]at O7 OJ q8;have Ou:=bG.eX dk Dl acG;obtain⟨fB,fC,ew,li⟩:=bG.draw Dl Ou;refine⟨_,I,PJ,slot Dl,fB,fC,I,ew,li,?_⟩;refine⟨_,I,PJ,p,ah,Dl,ds[i],l,pl i,t,e,gV.tv ha X,I,I,Ou,nC,by lia,Ds,aC,adR,gV.dQ gc,?_,OJ,O7,fun v gW n4 y6 u0=>?_⟩
   ·intro x av;rcases av with rfl|av
    .exact⟨_,km⟩
    .exact cY.alloc dk Ds eN x av
   have Oq:=n4.k _ _ (fJ Ja) km;refine cL _ _ _ ⟨_,I⟩ Oq ⟨cY.P5 g6 (dk.trans n4) Oq,?_,?_⟩
   ·rw[<-List.take_append_getElem (by lia)];refine cQ.keep (fun b u nb e=>by rw[bx (fun z=>nb (by rw[z];exact gV.hd))];exact e) _ (cQ.snoc y6 _ ?_);exact cQ.keep (fun b u nb e=>n4.k b u (fun z=>nb (gV.dQ (by rw[z];exact gc))) e) _ sf
   .rw[bx Ja,u0,q8]
  ·rintro aw az ju km ⟨gu,er,g7⟩;rw[cd]at ju er g7;rw[UV (by lia)]at er;refine⟨ha,aw,I,.inl ⟨bp km,fun gN mZ=>?_⟩⟩;have Tr:gN∉X:=fun z=>by obtain⟨u,cG⟩:=cY.alloc gu g7 eN gN z;rw[mZ]at cG;cases cG
   have PQ:p≠gN:=fun z=>by rw[<-z,g7]at mZ;cases mZ
   have Pt:cY p H (upd az gN (.tup aw)):=gu.ext (Ext.tup mZ);refine⟨_,Pt.sub (by rw[bx PQ];exact g7),q _ _ Pt ⟨gN,aw,I,Tr,aB,cQ.same (cZ mZ) (cQ.weak (fun x av=>gV.dQ av) _ er),by lia⟩ ?_⟩;rw[bx PQ,g7,m4,hn]
 |_=>cases aD
def aam(nb:dD mg)(qW:gj mg "LONGEST_TEXT" (.int 200))(dH:e7 K C)(T:rH K c.l)(F:cU K "draw" "Letters.draw" Br f fd)(hF:fp P w K mg zn 1 C "draw" ["self"] (Qy C))(mM:fp P w K mg zn 1 C "refuse" ["self"] vy)(pe:bf P w K mg zn 2 "draw_fixed" ["source","most"] (Qt C)):cB P w K mg zn cM 4 f fd ["self","source"] (Qr has bz fw c C n .l):=by show_term
 refine F.d1 FG (fun H vs Q E au h=>?_);obtain⟨o,p,ah,bF,d,l,j,t,e,X,rfl,hs,bQ,aF,bY,c7,aC,cj,gc,eN,aD,ei,q⟩:=h;obtain⟨bK,rfl⟩:=yr hs;obtain⟨oR,kK,aK⟩:=bQ;rw[b1]at aD;rw[bO]at q ei;cases d with
 | str w =>
  have aD:(decide (w.length<=200)&&hM w bK)=ao:=aD;obtain⟨wR,hm⟩:=lE.mp aD;have wR:=hT wR;have zx:qY bK=ao/\bK.length<=60:=by have:=aF.1;rw[fE]at this;exact this
  obtain⟨cs,w1⟩:∃cs,cs=w.cps.toList:=⟨_,rfl⟩;have lU:cs.length=w.length:=by rw[w1];exact fA
  have ei:((w.cps.toList.map fun c=>ao::dq (bK.cps.toList.idxOf c) (aE (bK.length-1))).flatten++[aI]) <+: sees l t j:=ei;have q:∀(v:V)(H':aq),cY p H H'->cg X H' (.str w) v->H' p=J (fY C ah l (j+((w.cps.toList.map fun c=>ao::dq (bK.cps.toList.idxOf c) (aE (bK.length-1))).flatten++[aI]).length) t e)->Q v H':=q;rw[<-w1]at ei q;have Iv:∀ch,ch∈cs->ch∈bK.cps.toList:=fun ch h=>hT (hy.mp hm ch (by rw[<-w1];exact h));have op:o≠p:=fun z=>oR (eB.mpr z)
  refine⟨_,(aO (b4 2 FG.br bu)
  (aO (pB iu.never (bV dn (jn hF dH au (af 1)) aH)
   (aO (cq (bV dn (c1 eh rfl nb.d5 ea (ak (af 2) ay)) (kI qW)) (aL (iz (jn mM dH au (af 1)))) cm)
   (aL (b4 2 FG.br (aM cv (af 2) (cI cJ (dp (af 0) rfl) (b7 pe au (ak (af 1) (ak (aM hq (c1 eh rfl nb.d5 ea (ak (dp (af 0) rfl) ay)) aH) ay)))))))))
  (aL (aY (af 2))))),?_⟩
  ac_rfl;refine⟨fun m ab az=>∃k:Nat,k<=cs.length/\m=cs.length-k/\ab=[J (.ref o),J (.ref p),J (.str ⟨(cs.take k).toArray⟩)]/\cY p H az/\az p=J (fY C ah l (j+(((cs.take k).map fun c=>ao::dq (bK.cps.toList.idxOf c) (aE (bK.length-1))).flatten).length) t e),⟨cs.length,0,UF _,I,by rw[List.take_zero];rfl,cY.refl _ _,c7⟩,?_⟩;rintro m ab az ⟨k,hk,rfl,rfl,M2,g7⟩;have jt:=ei;rw[Ck cs k,eC]at jt;have p2:=tf (rR jt) cj;have jt:=uL jt;generalize zc:j+(((cs.take k).map fun c=>ao::dq (bK.cps.toList.idxOf c) (aE (bK.length-1))).flatten).length=kT at g7 jt p2;refine⟨_,I,p,ah,_,I,g7,ml _ _ _ _ ⋯ ⋯ ⋯,?_⟩;have kC:=cY.step (j':=kT+1) (t':=t) (e':=e) g7;rcases h4 k cs.length with z|z
  ·have jq:cs.drop k=cs[k]::cs.drop (k+1):=qJ z;rw[jq,gI,jH,List.cons_append,List.cons_append]at jt;obtain⟨kj,hl,hJ⟩:=uJ jt;refine⟨p,ah,l,kT,t,e,kj,I,⟨_,g7⟩,aC,hl,?_⟩;rw[hJ];refine⟨I,_,I,ho ⟨_,fun _ _ h=>h,?_⟩⟩;have rM:=M2.trans kC;have uZ:upd az p (fY C ah l (kT+1) t e) p=_:=aB;generalize upd az p (fY C ah l (kT+1) t e)=b5 at kC rM uZ ⊢;have p7:(⟨(cs.take k).toArray⟩:aa).length=k:=by show(cs.take k).toArray.size=k;rw[eg,kg];lia
   have IG:(dq (bK.cps.toList.idxOf cs[k]) (aE (bK.length-1))++(((cs.drop (k+1)).map fun c=>ao::dq (bK.cps.toList.idxOf c) (aE (bK.length-1))).flatten++[aI])) <+: sees l t (kT+1):=by
    rw[<-eC];exact uL (r:=[ao]) jt
   have zd:=tf (rR (r:=[ao]) jt) p2;rw[kf]at zd;have wZ:=rR IG;have ko:=tf wZ zd;have dv:=GH wZ;rw[jm]at ko dv
   have iS:bK.cps.toList.idxOf cs[k]<bK.length:=by
    have:=List.idxOf_lt_length_iff.mpr (Iv _ (List.getElem_mem z));rwa [fA]at this
   have n4:=cY.step (j':=kT+1+aE (bK.length-1)) (t':=t) (e':=e) uZ;have aR:(bK.length:Int)-1=((bK.length-1:Nat):Int):=by lia
   have zq:=rM.k _ _ op aK
   have jO:e9 bK.cps.toList ((bK.cps.toList.idxOf cs[k]:Nat):Int)=J cs[k]:=by
    refine dF ?_;rw[cw (by rw[fA];exact iS),List.getElem_idxOf]
   refine⟨_,I,_,_,I,⟨dS (by lia),I⟩,I,_,I,da (by intro z;have:=V.int.inj z;lia) ?_⟩;refine⟨_,I,_,I,o,c.l,kK,_,_,I,zq,T.cl,T.qe,gs ..,?_⟩;refine⟨_,I,_,I,o,c.l,kK,_,_,I,zq,T.cl,T.qe,gs ..,_,_,I,⟨dS (by lia),I⟩,_,_,I,I,p,ah,l,kT+1,bK.cps.toList.idxOf cs[k],bK.length-1,t,e,by rw[<-aR];rfl,uZ,aC,by lia,ko,dv,?_⟩;refine .inr ⟨_,_,cs[k],I,I,dS (by lia),jO,.inr ⟨_,_,I,I,dS (by rw[p7];exact c5 (Nat.add_le_add (show k<=300 by lia) (cR 1)) (by decide)),?_⟩⟩;refine⟨cs.length-(k+1),by lia,k+1,by lia,rfl,?_,rM.trans n4,?_⟩
   ·have aZ:(⟨(cs.take k).toArray⟩:aa)++(⟨#[cs[k]]⟩:aa)=⟨(cs.take (k+1)).toArray⟩:=by
     rw[<-List.take_append_getElem z];apply yp;rw[fS]
    rw[aZ];rfl
   ·rw[aB]
    have yO:kT+1+aE (bK.length-1)=j+(((cs.take (k+1)).map fun c=>ao::dq (bK.cps.toList.idxOf c) (aE (bK.length-1))).flatten).length:=by
     rw[<-List.take_append_getElem z,fR,List.flatten_append,bE];simp only[gI,List.map_nil,jH,List.flatten_nil,List.append_nil,dW,jm];lia
    rw[yO]
  ·have sj:k=cs.length:=by lia
   subst sj;rw[List.drop_length,List.map_nil,List.flatten_nil,List.nil_append]at jt;rw[List.take_length]at zc;obtain⟨kj,hl,hJ⟩:=uJ jt;refine⟨p,ah,l,kT,t,e,kj,I,⟨_,g7⟩,aC,hl,?_⟩;rw[hJ];refine⟨I,_,I,e2 ?_⟩;have M:=M2.trans kC;refine⟨_,I,_,M.sub aB,q _ _ M ⟨?_,by lia⟩ ?_⟩
   .rw[List.take_length,w1]
   ·rw[aB,bE,kf,<-zc];congr 2
 |_=>cases aD
noncomputable def idxs(s t:aa):List Nat:=t.cps.toList.map fun c=>s.cps.toList.idxOf c
inductive Rc(C:ag)(vs:List V)(H:aq)(Q:bI)(E:cP):Prop where
 |mk (o ah:ag) (s t:aa) (bb:vs=[.ref o,.str t]) (ai:H o=J (.ins C ah [("signs",.str s)])) (aj:hM t s=ao) (bt:t.length<=200) (cf:∀r,H r=aA->Q (.ref r) (upd H r (.lst ((idxs s t).map fun k=>V.int ((k:Nat):Int)))))
def W8(T:rH K C)(F:cU K "places" "Letters.places" AE f fd):cB P w K mg zn cM 1 f fd ["self","text"] (Rc C):=by
 refine F.d1 WY (fun H vs Q E au h=>?_);obtain⟨o,ah,bK,t,rfl,aK,hm,aC,q⟩:=h;refine⟨_,(aL (aY (iA ["sign"] [(0,"self")] I ⋯ ⟨I,.inl I,trivial⟩ (jw (af 1)) (d4 (i:=0) (show(["sign","self"]:List aa).Nodup by decide+kernel)) hW (h6 PySem.F.plainAttrs_str PySem.F.slot_str_index PySem.F.type_str_index Z8 (dp (af 1) rfl) (ak (af 0) ay))))),?_⟩;ac_rfl;refine .inr ⟨_,I,_,I,fun D b2=>?_⟩;refine MZ (fun c=>V.int ((bK.cps.toList.idxOf c:Nat):Int)) (fun ab=>∃z,ab=[z,J (.ref o)]) (dS (by show t.length<=_;lia)) ⟨_,I⟩ b2 ?_ ?_
 ·rintro ch hc b0 H1 ⟨z,rfl⟩ eW R cL;refine⟨_,I,o,C,ah,_,_,I,eW _ _ aK,T.cl,T.qe,gs ..,?_⟩;exact⟨I,_,I,bK,ch,I,I,hT (hy.mp hm ch hc),cL _ ⟨_,I⟩⟩
 ·refine⟨_,.new b2 (cZ b2) aB trivial,?_⟩;have q:=q D b2;unfold idxs at q;rw[hx]at q;exact q
def WW(nb:dD mg)(T:rH K c.l)(F:cU K "written" "Letters.written" Wp f fd)(dH:e7 K c.l)(n8:fp P w K mg zn 1 c.l "places" ["self","text"] (Rc c.l))(pf:bf P w K mg zn 2 "fixed_row" ["n","most"] QF):cB P w K mg zn cM 3 f fd ["self","value"] (RC has bz fw c n .l):=by show_term
 refine F.d1 K8 (fun H vs Q E au h=>?_);obtain⟨o,bF,v,d,rfl,hs,bQ,aF,bY,hd,aD,aC,q⟩:=h;obtain⟨bK,rfl⟩:=yr hs;obtain⟨_,ah,aK⟩:=bQ;rw[b1]at aD;rw[bO]at q aC;cases d with
 | str t =>
  obtain⟨rfl,_⟩:=hd;have aD:(decide (t.length<=200)&&hM t bK)=ao:=aD;obtain⟨wR,hm⟩:=lE.mp aD;have wR:=hT wR;have zx:qY bK=ao/\bK.length<=60:=by have:=aF.1;rw[fE]at this;exact this
  refine⟨_,(aO (b4 2 K8.br (aM hq (c1 eh I nb.d5 ea (ak (dp (af 0) I) ay)) aH))
  (aL (aY (aM cv (h6 PySem.F.plainAttrs_str PySem.F.slot_str_join PySem.F.type_str_join rW bu (ak (iA ["place"] [(2,"most")] rfl ⋯ ⟨rfl,.inl rfl,trivial⟩ (jw (lK n8 dH au (af 0) (ak (af 1) ay))) (d4 (i:=0) (show(["place","most"]:List aa).Nodup by decide+kernel)) hW (aM cv bu (b7 pf au (ak (af 0) (ak (af 1) ay))))) ay)) bu)))),?_⟩
  ac_rfl;have q:Q (.str (bA ((t.cps.toList.map fun c=>ao::dq (bK.cps.toList.idxOf c) (aE (bK.length-1))).flatten++[aI]))) H:=q;have aC:((t.cps.toList.map fun c=>ao::dq (bK.cps.toList.idxOf c) (aE (bK.length-1))).flatten++[aI]).length<=15000000:=aC;rw[bE]at aC;refine⟨_,I,o,c.l,ah,_,_,I,aK,T.cl,T.qe,gs ..,_,_,I,⟨dS (by lia),I⟩,_,_,I,I,?_⟩
  have DV:List.lookup (aa.ofString "places") [(aa.ofString "signs",V.str bK)]=aA:=by
   unfold List.lookup;rw[show(aa.ofString "places" == aa.ofString "signs")=aI by decide+kernel];rfl
  refine⟨I,.inl ⟨_,I,o,ah,_,I,aK,DV,_,I,o,ah,bK,t,I,aK,hm,wR,fun r e5=>?_⟩⟩;have alm:(idxs bK t).length=t.length:=by unfold idxs;rw[cd];exact fA
  refine⟨r,I,⟨_,bp aB⟩,fun ha g6=>?_⟩;refine yf (K:=K) (a:=r) (xs:=(idxs bK t).map fun k=>V.int ((k:Nat):Int)) (fun k=>V.str (bA (ao::dq ((idxs bK t).getD k 0) (aE (bK.length-1))))) (fun ab=>∃z,ab=[z,J (V.int ((bK.length:Int)-1))]) (dS (by rw[cd];lia)) ⟨_,I⟩ g6 (bp aB) ?_ ?_
  ·rintro k x av b0 H1 ⟨z,rfl⟩ eW R cL;rw[eJ]at av;obtain⟨qa,oC,rfl⟩:=Uf.mp av;have e:(idxs bK t).getD k 0=qa:=by rw[eR,oC];rfl
   rw[e]at cL;have Ik:=oC;unfold idxs at Ik;rw[eJ]at Ik;obtain⟨ch,m3,rfl⟩:=Uf.mp Ik;have e1:ch∈t.cps.toList:=jc m3;have w1:ch∈bK.cps.toList:=hT (hy.mp hm ch e1)
   have iS:bK.cps.toList.idxOf ch<bK.length:=by
    have:=List.idxOf_lt_length_iff.mpr w1;rwa [fA]at this
   have aX:=G0 (List.mem_map_of_mem (f:=fun c=>ao::dq (bK.cps.toList.idxOf c) (aE (bK.length-1))) e1);rw[dW,jm]at aX;have aR:(bK.length:Int)-1=((bK.length-1:Nat):Int):=by lia
   refine⟨_,I,_,I,bK.cps.toList.idxOf ch,bK.length-1,by rw[<-aR];rfl,by lia,by lia,.inr ⟨_,_,rfl,rfl,gg ?_,?_⟩⟩
   .rw[wu,fu,fu,jm];simp only[dW,List.length_nil];lia
   .rw[wu,mi];exact cL _ ⟨_,I⟩
  ·have e:(List.range ((idxs bK t).map fun k=>V.int ((k:Nat):Int)).length).map (fun k=>V.str (bA (ao::dq ((idxs bK t).getD k 0) (aE (bK.length-1)))))=((t.cps.toList.map fun c=>ao::dq (bK.cps.toList.idxOf c) (aE (bK.length-1))).map bA).map V.str:=by
    rw[cd];apply List.ext_getElem
    .unfold idxs;simp
    ·intro k ai aj;have bt:k<t.cps.toList.length:=by simpa using aj
     have gn:(idxs bK t)[k]?=J (bK.cps.toList.idxOf t.cps.toList[k]):=by unfold idxs;rw[eJ,cw bt];rfl
     rw[lG,lG,lG,lG,List.getElem_range,eR,gn];rfl
   rw[e];have aiP:=(cZ (o:=de.lst ((idxs bK t).map fun k=>V.int ((k:Nat):Int))) e5).trans (cZ (o:=de.lst (((t.cps.toList.map fun c=>ao::dq (bK.cps.toList.idxOf c) (aE (bK.length-1))).map bA).map V.str)) g6);refine⟨_,ha,_,I,I,bp aB,by rw[GX];lia,.inr ⟨_,_,rfl,rfl,gg ?_,H,.refl aiP,?_⟩⟩
   .rw[uG,CR,fu,fu];lia
   .rw[uG,CR,mi];exact q
 |_=>cases aD
noncomputable def dh:D->Bool
 |.tup [.int p,.int q]=>decide (0<q/\Int.gcd p q=1/\p.natAbs<=10^38/\q<=10^38)
 |_=>aI
theorem ti{bz:D->Bool}:∀(fs:List aU)(ns:List aa)(n:aa)(x:D),ns.length=fs.length->kN bz fs ns n x=ao->n∈ns
 |[],ns,n,x,_,h=>by rw[kN]at h;cases h
 |f::fs,[],n,x,aC,h=>by cases aC
 | f::fs,m::ns,n,x,aC,h=>by
  rw[kN]at h;by_cases z:m=n
  .subst z;exact g0 ..
  ·have h:(if J m=J n then _ else kN bz fs ns n x)=ao:=h;rw[if_neg (fun e=>z (ie e))]at h;exact d9 _ (ti fs ns n x (by simpa using aC) h)
theorem tj{bz:D->Bool}{x:D}:∀(fs:List aU)(ns:List aa)(n:aa),n∈ns->ns.length=fs.length->kN bz fs ns n x=b1 bz (fs.getD (ns.idxOf n) (.bare 0)) x
 |[],[],n,h,_=>by cases h
 |f::fs,[],n,h,_=>by cases h
 |[],m::ns,n,_,h=>by cases h
 | f::fs,m::ns,n,h,aC=>by
  rw[kN];show(if J m=J n then _ else kN bz fs ns n x)=_;by_cases z:m=n
  ·subst z;rw[if_pos rfl,List.idxOf_cons_self];rfl
  .rw[if_neg (fun e=>z (ie e)),tj fs ns n ((dJ.mp h).resolve_left (fJ z)) (by simpa using aC),List.idxOf_cons,beq_false_of_ne z];rfl
theorem d0.ge{c:c9}{X:List ag}{H:aq}:∀(fs:List aU){os:List ag}{i:Nat}{f:aU},d0 c X H fs os->fs[i]?=J f->∃o,os[i]?=J o/\bG c X H f o
 |[],os,i,f,h,e=>by cases e
 |g::fs,os,0,f,h,e=>by
  obtain⟨o',r,rfl,q,b8⟩:=h;cases e;exact⟨_,I,q⟩
 |g::fs,os,i+1,f,h,e=>by
  obtain⟨o',r,rfl,q,b8⟩:=h;obtain⟨v,ai,aj⟩:=d0.ge (os:=r) fs b8 (show fs[i]?=J f from e);exact⟨v,ai,aj⟩
theorem DQ(val:Nat->aa):∀n i,i<n->val i∈g8 val n
 |0,i,h=>by lia
 | n+1,i,h=>by
  unfold g8;by_cases z:i=n
  ·subst z;split
   .assumption
   .exact nq _ (eB.mpr I)
  ·have:=DQ val n i (by lia);split
   .exact this
   .exact List.mem_append_left _ this
theorem GR(val:Nat->aa):∀n,(g8 val n).length=n->∀i j,i<j->j<n->val i≠val j
 |0,_,i,j,_,h=>by lia
 | n+1,h,i,j,Ij,cj=>by
  unfold g8 at h;have hle:=yt val n;by_cases z:val n∈g8 val n
  .rw[if_pos z]at h;lia
  ·rw[if_neg z,bE,kf]at h;by_cases aki:j=n
   ·subst aki;exact fun e=>z (by rw[<-e];exact DQ val j i Ij)
   .exact GR val n (by lia) i j Ij (by lia)
def hH:2<=cp:=by decide
def BO{n:aa}(h:iQ ns=ao)(e:ns[i]?=J n):ns.idxOf n=i:=by
 unfold iQ at h;simp only[ix,k6]at h;have hd:=h.1.2.2
 have aG:i<ns.length:=by
  rcases h4 i ns.length with z|z
  .exact z
  .rw[uA z]at e;cases e
 have bj:ns[i]=n:=by rw[cw aG]at e;exact ie e
 have hm:n∈ns:=by rw[<-bj];exact List.getElem_mem aG
 have hk:=pw hm;have sj:ns[ns.idxOf n]=n:=List.getElem_idxOf hk;have g:∀k(hk:k<ns.length),ns.getD k aa.empty=ns[k]:=fun k hk=>by rw[eR,cw hk];rfl
 rcases Nat.lt_trichotomy (ns.idxOf n) i with z|z|z
 .exact absurd (by rw[g _ hk,g _ aG,sj,bj]) (GR _ _ hd _ _ z aG)
 .exact z
 .exact absurd (by rw[g _ hk,g _ aG,sj,bj]) (GR _ _ hd _ _ z hk)
def oH{K:bT}{l:List V}{x:V}(h:H p=J (.lst l)\/H p=J (.tup l))(e:l[j]?=J x)(q:Q x H):(PV K (.ref p) (.int ((j:Nat):Int)) H Q\/PX K (.ref p) (.int ((j:Nat):Int)) H Q)\/PW (.ref p) (.int ((j:Nat):Int)) H Q :=
 h.elim (fun HA =>(xz HA (dF e) q)) (fun ec =>(x0 ec (dF e) q))
theorem wo{fw:D->List Bool}{x:D}{M:Nat}:∀(fs:List aU)(ns:List aa)(k:Nat)(n:aa),n∈ns->ns.length=fs.length->m8 fw fs ns k M n x=dq (k+ns.idxOf n) (aE M)++bO fw (fs.getD (ns.idxOf n) (.bare 0)) x
 |[],[],k,n,h,_=>by cases h
 |f::fs,[],k,n,h,_=>by cases h
 |[],m::ns,k,n,_,h=>by cases h
 | f::fs,m::ns,k,n,h,aC=>by
  rw[m8];show(if J m=J n then _ else m8 fw fs ns (k+1) M n x)=_;by_cases z:m=n
  ·subst z;rw[if_pos rfl,List.idxOf_cons_self];rfl
  .rw[if_neg (fun e=>z (ie e)),wo fs ns (k+1) n ((dJ.mp h).resolve_left (fJ z)) (by simpa using aC),List.idxOf_cons,beq_false_of_ne z,show k+1+ns.idxOf n=k+(ns.idxOf n+1) by lia];rfl
set_option tactic.hygienic true in
def Xa(nb:dD mg)(T:k5 K (c.t 1))(F:cU K "written" "Choice.written" AH f fd)(pf:bf P w K mg zn 2 "fixed_row" ["n","most"] QF)(l3:eZ P w K mg zn (2*n+4) "written" ["self","value"] (eb c) (RC has bz fw c n)):cB P w K mg zn cM (2*n+4+1) f fd ["self","value"] (RC has bz fw c (n+1) (.t 1)):=by
 refine F.d1 K9 (fun H vs Q E au h=>?_);obtain⟨o,bF,v,d,rfl,hs,bQ,aF,bY,hd,q5,c0,q⟩:=h;obtain⟨ns,fs,rfl⟩:=qB hs;obtain⟨_,ah,c8,cS,os,aK,_,_,g1,g2,dM⟩:=bQ;obtain⟨eA,gF,dN⟩:=aF.two;have fm:dv fs<=n:=by rw[aP]at bY;lia
 rw[b1,if_neg (by decide)]at q5;unfold uQ at q5;split at q5
 ·rename_i m x;have hm:=ti fs ns _ _ gF q5;rw[tj fs ns _ hm gF]at q5;obtain⟨t,_,rfl,e,⟨_,_,rfl,⟨rfl,_⟩,jA,_,rfl,av,rfl⟩,_⟩:=hd
  have lO:bO fw (.two 1 ns fs) (.tup [.str m,x])=dq (ns.idxOf m) (aE (fs.length-1))++bO fw (fs.getD (ns.idxOf m) (.bare 0)) x:=by
   rw[bO,if_neg (by decide)];show m8 fw fs ns 0 _ m x=_;rw[wo fs ns 0 m hm gF,Nat.zero_add]
  rw[lO]at c0 q;have hk:=pw hm;have zf:ns[ns.idxOf m]?=J m:=by rw[cw hk,List.getElem_idxOf hk]
  have ze:ns.idxOf m<fs.length:=by lia
  have aD:=cw ze;rw[eR,aD]at q5 c0 q;obtain⟨kr,lh,nw⟩:=d0.ge fs dM aD;obtain⟨nC,w4⟩:=dN.get aD;obtain⟨fB,fC,ew,li⟩:=bG.written _ nw;have a0:∀(x:V)(r:List V),e9 (x::r) 0=J x:=fun x r=>dF (j:=0) rfl;have a1:∀(x y:V)(r:List V),e9 (x::y::r) 1=J y:=fun x y r=>dF (j:=1) rfl;have zl:=(jf eA).1
  refine⟨_,(aO (b4 2 K9.br (h6 PySem.F.plainAttrs_list PySem.F.slot_list_index PySem.F.type_list_index wi (dp (af 0) I) (ak (cI cJ (af 1) aH) ay)))
  (aL (aY (aM cv (b7 pf au (ak (af 2) (ak (aM hq (c1 eh rfl nb.d5 ea (ak (dp (af 0) rfl) ay)) aH) ay))) (gB l3 au (cI cJ (dp (af 0) rfl) (af 2)) (ak (cI cJ (af 1) aH) ay)))))),?_⟩
  ac_rfl;refine⟨_,I,o,c.t 1,ah,_,_,I,aK,T.cl,T.oQ,gs ..,.inl ⟨I,_,bp g1⟩,_,I,x0 e (a0 _ _) ⟨c8,ns,m,ns.idxOf m,I,I,g1,zf,(fun j cj hw=>by have:=BO eA hw;lia),by lia,?_⟩⟩;have mz:(((ns.map V.str).length:Nat):Int)-1=((fs.length-1:Nat):Int):=by rw[cd];lia
  have al:aE (fs.length-1)<=16000000:=by
   have:=c5 (bE ▸ Nat.le_add_right _ _) c0;rw[jm]at this;lia
  refine⟨_,I,_,I,o,c.t 1,ah,_,_,I,aK,T.cl,T.oQ,gs ..,_,_,I,.inl ⟨_,bp g1,I⟩,_,_,I,I,ns.idxOf m,fs.length-1,by rw[<-mz];rfl,by lia,al,?_⟩;refine⟨_,I,o,c.t 1,ah,_,_,I,aK,T.cl,T.m7,lX _ _ _ _ oq,_,I,oH (.inl g2) (show(os.map V.ref)[ns.idxOf m]?=J (V.ref kr) by rw[eJ,lh];rfl) ⟨kr,slot _,fB,fC,rfl,ew,li,_,rfl,x0 e (a1 _ _ _) ⟨kr,_,jA,x,rfl,rfl,nw,nC,by lia,av,q5,?_,?_⟩⟩⟩
  ·rw[bE]at c0;exact c5 (Nat.le_add_left _ _) c0
  ·refine .inr ⟨_,_,I,I,?_,H,.refl (cK _),?_⟩
   ·rw[fu,fu,<-bE];exact gg (c5 c0 (by decide))
   ·rw[<-mi]at q;exact q
 .cases q5
def Wv:∀(n:Nat){p q:Int},q.toNat<=n->0<=q->(0<q\/0<=p)->fb p q∣p/\fb p q∣q/\0<=fb p q:=by
 intro n
 induction n with
 |zero =>
  intro p q bb ai aj;obtain rfl:q=0:=by lia
  rw[yy];exact⟨Int.dvd_refl _,Int.dvd_zero _,aj.elim (fun z=>by lia) id⟩
 | succ n bP =>
  intro p q bb ai aj;by_cases bl:q=0
  ·subst bl;rw[yy];exact⟨Int.dvd_refl _,Int.dvd_zero _,aj.elim (fun z=>by lia) id⟩
  ·have bl:0<q:=by lia
   rw[CW bl];have gG:=jX p (Int.ne_of_gt bl);have b9:=jW p bl;obtain⟨gO,hg,Hy⟩:=bP (p:=q) (q:=p%q) (by lia) gG (.inr ai);refine⟨?_,gO,Hy⟩;have e:=Int.mul_ediv_add_emod p q;have:fb q (p%q)∣q*(p/q)+p%q:=Int.dvd_add (Int.dvd_mul_of_dvd_left gO) hg;rwa [e]at this
def K1{p q:Int}(bl:0<q)(h:Int.gcd p q=1):fb p q=1:=by
 obtain⟨gO,hg,Hy⟩:=Wv q.toNat (cR _) (Int.le_of_lt bl) (.inl bl) (p:=p);have:=Int.dvd_coe_gcd gO hg;rw[h]at this;exact Int.eq_one_of_dvd_one Hy this
def U0:∀(n:Nat){p q:Int},q.toNat<=n->0<=q->q<p->fb p q=1->Tail (gp p q)/\c2 (gp p q)=(p,q):=by
 have zn:∀{p:Int},fb p 0=1->Tail (gp p 0)/\c2 (gp p 0)=(p,0):=fun{p}h=>by
  rw[yy]at h;subst h;rw[qE];exact⟨⟨(fun x av=>nomatch av),(fun z=>absurd I z)⟩,I⟩
 intro n
 induction n with
 |zero =>
  intro p q bb ai _ hc;obtain rfl:q=0:=by lia
  exact zn hc
 | succ n bP =>
  intro p q bb ai ala hc;by_cases bl:q=0
  .subst bl;exact zn hc
  have bl:0<q:=by lia
  rw[CW bl]at hc;have gG:=jX p (Int.ne_of_gt bl);have b9:=jW p bl;have e:=Int.mul_ediv_add_emod p q;have t3:1<=p/q:=Int.le_ediv_of_mul_le bl (by lia);obtain⟨t,f⟩:=bP (p:=q) (q:=p%q) (by lia) gG b9 hc;rw[lH bl];refine⟨⟨fun x av=>?_,fun z=>?_⟩,?_⟩
  ·rcases dJ.mp av with y|y
   .rw[y];exact t3
   .exact t.1 x y
  ·by_cases au:gp q (p%q)=[]
   ·have adT:p%q=0:=by
     by_cases y:p%q=0
     .exact y
     .rw[lH (by lia)]at au;cases au
    rw[adT,yy]at hc;subst hc;have:(p/1::gp 1 (p%1)).getLast z=p/1:=by simp only[au,List.getLast_singleton]
    rw[this,Int.ediv_one];lia
   .rw[List.getLast_cons au];exact t.2 au
  ·rw[c2,f];show(p/q*q+p%q,q)=(p,q);rw[Int.mul_comm,e]
def MV{p q:Int}(bl:0<q)(hc:fb p q=1):Good (gp p q)/\c2 (gp p q)=(p,q):=by
 rw[CW bl]at hc;have gG:=jX p (Int.ne_of_gt bl);have b9:=jW p bl;obtain⟨t,f⟩:=U0 _ (cR _) gG b9 hc;rw[lH bl];refine⟨t,?_⟩;rw[c2,f];show(p/q*q+p%q,q)=(p,q);rw[Int.mul_comm,Int.mul_ediv_add_emod]
def Nv:∀(k:Nat){p q:Int},0<=q->q<2^k->(gp p q).length<=2*k+1:=by
 intro k
 induction k with
 |zero =>
  intro p q bb ai;have:q=0:=by lia
  subst this;rw[qE];exact UF _
 | succ k bP =>
  intro p q bb ai;by_cases bl:q=0
  .subst bl;rw[qE];exact UF _
  ·have bl:0<q:=by lia
   rw[lH bl,dW];have gG:=jX p (Int.ne_of_gt bl);have b9:=jW p bl;generalize p%q=r at gG b9;by_cases au:r=0
   .subst au;rw[qE];simp
   ·have au:0<r:=by lia
    rw[lH au,dW];have t0:=jX q (Int.ne_of_gt au);have t1:=jW q au;have f6:=Int.mul_ediv_add_emod q r;have t3:1<=q/r:=Int.le_ediv_of_mul_le au (by lia);have alL:r*1<=r*(q/r):=Int.mul_le_mul_of_nonneg_left t3 (by lia);have e:(2:Int)^(k+1)=2^k*2:=Int.pow_succ ..;have:=bP (p:=r) (q:=q%r) t0 (by lia);lia
def MU{B:Int}:∀(n:Nat){p q:Int},q.toNat<=n->0<=q->-B<=p->p<=B->q<=B->∀x∈gp p q,-B<=x/\x<=B:=by
 intro n
 induction n with
 |zero =>
  intro p q bb ai _ _ _ x av;have:q=0:=by lia
  subst this;rw[qE]at av;cases av
 | succ n bP =>
  intro p q bb ai aj bt cf x av;by_cases bl:q=0
  .subst bl;rw[qE]at av;cases av
  ·have bl:0<q:=by lia
   rw[lH bl]at av;rcases dJ.mp av with z|z
   ·subst z;constructor
    ·refine Int.le_ediv_of_mul_le bl ?_;have : -B*q<=-B*1:=Int.mul_le_mul_of_nonpos_left (by lia) (by lia);lia
    ·refine Int.ediv_le_of_le_mul bl ?_;have:B*1<=B*q:=Int.mul_le_mul_of_nonneg_left (by lia) (by lia);lia
   ·have gG:=jX p (Int.ne_of_gt bl);have b9:=jW p bl;exact bP (by lia) gG (by lia) cf (by lia) x z
def EJ(x y:Int):Prop:=x.natAbs<2^390/\y.natAbs<2^390
def EJ.ok{p q:Int}(h:EJ p q)(bl:0<q):(gp p q).length<=10000/\∀x∈gp p q,x.natAbs<2^1000:=by
 obtain⟨ai,aj⟩:=h;have e:((2^390:Nat):Int)=(2:Int)^390:=by rw[Int.natCast_pow];rfl
 have nE:q<2^390:=by lia
 refine⟨c5 (Nv 390 (Int.le_of_lt bl) nE) (by decide),fun x av=>?_⟩;have:=MU (B:=2^390) q.toNat (cR _) (Int.le_of_lt bl) (by lia) (by lia) (by lia) x av;exact Nat.lt_of_le_of_lt (m:=2^390) (by lia) (Nat.pow_lt_pow_right (by decide) (by decide))
set_option tactic.hygienic true in
def GB(h:dh d=ao):∃p q:Int,d=.tup [.int p,.int q]/\0<q/\fb p q=1/\EJ p q/\(gp p q).length<=300/\ob (gp p q):=by
 unfold dh at h;split at h
 ·rename_i p q;obtain⟨ai,aj,bt,cf⟩:=hT h;have jo:(10:Nat)^38<2^127:=by decide
  have gm:(10:Int)^38<2^127:=by decide
  have CZ:(2:Int)^127<2^254:=by decide
  refine⟨p,q,I,ai,K1 ai aj,⟨?_,?_⟩,?_,?_⟩
  .exact Nat.lt_of_le_of_lt bt (by decide)
  .exact Nat.lt_of_le_of_lt (m:=10^38) (by lia) (by decide)
  .exact c5 (Nv 127 (Int.le_of_lt ai) (by lia)) (by decide)
  ·have hs:=MU (B:=10^38) q.toNat (cR _) (Int.le_of_lt ai) (p:=p) (by lia) (by lia) cf;obtain⟨t,_⟩:=MV ai (K1 ai aj);refine⟨fun x av=>?_,fun x av=>?_⟩
   ·have:=hs x (List.mem_of_mem_take av);unfold je;lia
   ·have:=hs x (List.mem_of_mem_drop av);rw[lH ai]at t av;have:=t.1 x av;unfold iH;lia
 .cases h
def ZK(nb:dD mg)(F:cU K "fits" "Fraction.fits" AQ f fd)(n0:bf P w K mg zn 1 "is_number" ["value"] QU)(xK:bf P w K mg zn 3 "has_fraction_row" ["fraction"] QL):cB P w K mg zn cM 4 f fd ["self","value"] (QE has dh c n (.b 3)):=by
 refine F.d1 Xj (fun H vs Q E au h=>?_);obtain⟨o,bF,v,d,rfl,hs,bQ,aF,bY,hd,aD,q⟩:=h;have:=jY hs;subst this;rw[rV]at aD;have aD:dh d=ao:=by cases d<;>exact aD
 obtain⟨p,j4,rfl,ai,aj,bt,cf,eF⟩:=GB aD
 refine⟨_,(aO (cq (gA.pt (jD (jI (h5 (c1 pF I nb.p9 pE (ak (af 1) (ak (pG (v :=.ty "tuple") I nb.t6 tk I) ay))))) (kh (bV kY (c1 eh I nb.d5 ea (ak (af 1) ay)) aH)))) (aL (aY iY)) cm)
  (aL (aY (k9 (b7 n0 au (ak (cI cJ (af 1) aH) ay)) (k9 (b7 n0 au (ak (cI cJ (af 1) aH) ay)) (md (b7 xK au (ak (af 1) ay)))))))),_,rfl,.inl ⟨_,_,_,_,rfl,hd.ty,oJ K _ (by decide),_,rfl,?_⟩⟩
 obtain⟨a,vs,rfl,cD,⟨_,_,rfl,rfl,_,_,rfl,rfl,rfl⟩,h1⟩:=hd;have a0:∀(x:V)(r:List V),e9 (x::r) 0=J x:=fun x r=>dF (j:=0) rfl;have a1:∀(x y:V)(r:List V),e9 (x::y::r) 1=J y:=fun x y r=>dF (j:=1) rfl;refine e2 ⟨_,I,_,_,I,.inr ⟨_,dy cD,I⟩,I,_,I,kp I ?_⟩;refine⟨_,I,x0 cD (a0 _ _) ⟨_,.int p,I,I,ao,I,ho ?_⟩⟩;refine⟨_,I,x0 cD (a1 _ _ _) ⟨_,.int j4,I,I,ao,I,ho ?_⟩⟩;refine⟨_,I,a,p,j4,I,cD,fun bl=>⟨c5 (bt.ok bl).1 (by decide),(bt.ok bl).2⟩,H,.refl (cK _),?_⟩;rw[eK ⟨ai,aj,eF⟩];exact q
noncomputable def en:D->List Bool
 |.tup [.int p,.int q]=>lg (gp p q)
 |_=>[]
def Gr(h:dh d=ao):∃s,Good s/\s.length<=1000/\ob s/\d=.tup [.int (c2 s).1,.int (c2 s).2]/\en d=lg s:=by
 obtain⟨p,q,rfl,ai,aj,bt,cf,eF⟩:=GB h;obtain⟨g,e⟩:=MV ai aj;exact⟨gp p q,g,c5 cf (by decide),eF,by rw[e],rfl⟩
def WT(F:cU K "written" "Fraction.written" Bh f fd)(sX:bf P w K mg zn 1 "steps_of" ["fraction"] Rr)(xP:bf P w K mg zn 4 "row_of_steps" ["steps"] Rf):cB P w K mg zn cM 5 f fd ["self","value"] (RC has dh en c n (.b 3)):=by
 refine F.d1 WQ (fun H vs Q E au h=>?_);obtain⟨o,bF,v,d,rfl,hs,bQ,aF,bY,hd,aD,aC,q⟩:=h;have:=jY hs;subst this;rw[rV]at aD;have aD:dh d=ao:=by cases d<;>exact aD
 obtain⟨p,j4,rfl,ai,aj,bt,cf,eF⟩:=GB aD;rw[bO]at q;obtain⟨a,vs,rfl,cD,⟨_,_,rfl,rfl,_,_,rfl,rfl,rfl⟩,h1⟩:=hd;refine⟨_,(aL (aY (b7 xP au (ak (b7 sX au (ak (af 1) ay)) ay)))),?_⟩;ac_rfl;refine⟨_,I,a,p,j4,I,cD,Int.le_of_lt ai,c5 (bt.ok ai).1 (by decide),(bt.ok ai).2,fun r e5=>?_⟩;exact⟨r,_,I,aB,by rw[lH ai];exact px _ _,by lia,eF,H,.refl (cZ e5),q⟩
set_option tactic.hygienic true in
def TV(nb:dD mg)(T:k5 K (c.t 1))(F:cU K "fits" "Choice.fits" BM f fd)(ky:eZ P w K mg zn (2*n+4) "fits" ["self","value"] (eb c) (QE has bz c n)):cB P w K mg zn cM (2*n+4+1) f fd ["self","value"] (QE has bz c (n+1) (.t 1)):=by
 refine F.d1 Yb (fun H vs Q E au h=>?_);obtain⟨o,bF,v,d,rfl,hs,bQ,aF,bY,hd,aD,q⟩:=h;obtain⟨ns,fs,rfl⟩:=qB hs;obtain⟨_,ah,c8,cS,os,aK,_,_,g1,g2,dM⟩:=bQ;obtain⟨eA,gF,dN⟩:=aF.two;have fm:dv fs<=n:=by rw[aP]at bY;lia
 have zl:=(jf eA).1;rw[b1,if_neg (by decide)]at aD
 refine⟨_,(aO (cq (gA.pt (jD (jI (h5 (c1 pF I nb.p9 pE (ak (af 1) (ak (pG (v :=.ty "tuple") I nb.t6 tk I) ay))))) (jD (bV kY (c1 eh I nb.d5 ea (ak (af 1) ay)) aH) (kh (Hc (TF (mE au)) (cI cJ (af 1) aH) (dp (af 0) I) (by with_unfolding_all rfl)))))) (aL (aY iY)) cm)
  (aL (aY (gB ky au (cI cJ (dp (af 0) rfl) (h6 PySem.F.plainAttrs_list PySem.F.slot_list_index PySem.F.type_list_index wi (dp (af 0) rfl) (ak (cI cJ (af 1) aH) ay))) (ak (cI cJ (af 1) aH) ay))))),_,rfl,.inl ⟨_,_,_,_,rfl,hd.ty,oJ K d (by decide),_,rfl,?_⟩⟩
 unfold uQ at aD;split at aD
 ·rename_i m x;obtain⟨a,vs,rfl,cD,⟨v0,_,rfl,bb,jA,_,rfl,av,rfl⟩,h1⟩:=hd;have hm:=ti fs ns m x gF aD;have a0:∀(x:V)(r:List V),e9 (x::r) 0=J x:=fun x r=>dF (j:=0) rfl;have a1:∀(x y:V)(r:List V),e9 (x::y::r) 1=J y:=fun x y r=>dF (j:=1) rfl;refine e2 ⟨_,I,_,_,I,.inr ⟨_,dy cD,I⟩,I,_,I,kp I ?_⟩;refine⟨_,I,x0 cD (a0 _ _) ⟨_,I,o,c.t 1,ah,_,_,I,aK,T.cl,T.oQ,gs ..,c8,ns,.str m,I,bp g1,bb,_,I,?_⟩⟩;obtain⟨rfl,_⟩:=bb;have ew:inD ns (.str m)=ao:=List.any_eq_true.mpr ⟨m,hm,by simp⟩;rw[ew];have hk:=pw hm;have zf:ns[ns.idxOf m]?=J m:=by rw[cw hk,List.getElem_idxOf hk]
  have ze:ns.idxOf m<fs.length:=by lia
  have bh:=cw ze;rw[tj fs ns m hm gF,eR,bh]at aD;obtain⟨kr,lh,nw⟩:=d0.ge fs dM bh;obtain⟨nC,w4⟩:=dN.get bh;obtain⟨fB,fC,abv,li⟩:=bG.fits _ nw;refine e2 ⟨_,I,o,c.t 1,ah,_,_,I,aK,T.cl,T.m7,lX _ _ _ _ oq,_,I,o,c.t 1,ah,_,_,I,aK,T.cl,T.oQ,gs ..,.inl ⟨I,_,bp g1⟩,_,I,x0 cD (a0 _ _) ⟨c8,ns,m,ns.idxOf m,I,I,g1,zf,(fun j cj hw=>by have:=BO eA hw;lia),by lia,?_⟩⟩;exact oH (.inl g2) (show(os.map V.ref)[ns.idxOf m]?=J (V.ref kr) by rw[eJ,lh];rfl) ⟨kr,slot _,fB,fC,rfl,abv,li,_,rfl,x0 cD (a1 _ _ _) ⟨kr,_,jA,x,rfl,rfl,nw,nC,by lia,av,aD,H,.refl (cK _),q⟩⟩
 .cases aD
set_option tactic.hygienic true in
def U3(dH:e7 K C)(T:iX K (c.o 0))(F:cU K "draw" "Maybe.draw" BY f fd)(hF:fp P w K mg zn 1 C "draw" ["self"] (Qy C))(lx:eZ P w K mg zn (2*n+4) "draw" ["self","source"] (eb c) (Qr has bz fw c C n)):cB P w K mg zn cM (2*n+4+1) f fd ["self","source"] (Qr has bz fw c C (n+1) (.o 0)):=by
 refine F.d1 YD (fun H vs Q E au h=>?_);obtain⟨o,p,ah,bF,d,l,j,t,e,X,rfl,hs,bQ,aF,bY,c7,aC,cj,gc,eN,aD,ei,q⟩:=h;obtain⟨g,rfl⟩:=mm hs;obtain⟨oR,kK,i,aK,dM⟩:=bQ;have dN:=aF.one;have fm:aP g<=n:=by rw[aP]at bY;lia
 have op:o≠p:=fun z=>oR (eB.mpr z);rw[b1]at aD;rw[bO]at q ei
 replace aD:oM (b1 bz g) d=ao:=aD
 have hb:=cY.step (j':=j+1) (t':=t) (e':=e) c7;have tC:=bG.eX hb g dM
 have fresh:∀{az:aq}{iU:de}{tt:ag},cY p H az->az p=J iU->az tt=aA->tt∉X:=fun M aR gn z=>by
  obtain⟨DX,lN⟩:=cY.alloc M aR eN _ z;rw[gn]at lN;cases lN
 unfold oM at aD;split at aD
 ·have ei:[aI] <+: sees l t j:=ei;obtain⟨kj,hl,hJ⟩:=uJ ei
  refine⟨_,(aO (cq (bV dn (jn hF dH au (af 1)) aH) (aL (aY (gJ ay))) cm)
  (aL (aY (gJ (ak (gB lx au (dp (af 0) rfl) (ak (af 1) ay)) ay))))),?_⟩
  ac_rfl;refine⟨_,I,p,ah,_,I,c7,ml _ _ _ _ ⋯ ⋯ ⋯,p,ah,l,j,t,e,kj,I,⟨_,c7⟩,aC,hl,?_⟩;rw[hJ];refine⟨I,_,I,hp I ⟨UF _,fun tt tP=>?_⟩⟩;have E:=Ext.tup (xs:=[]) tP;have M:=hb.ext E;exact⟨_,M.sub (E.s _ _ aB),q _ _ M ⟨tt,[],I,fresh hb aB tP,aB,I,by simp⟩ (E.s _ _ aB)⟩
 ·rename_i x;have ei:(ao::bO fw g x) <+: sees l t j:=ei;obtain⟨kj,hl,hJ⟩:=uJ ei;have e5:=uL (r:=[ao]) ei;obtain⟨fB,fC,ew,li⟩:=bG.draw g tC;have w5:j+1<=l.length:=by have:=(kE.mp hl).1;lia
  refine⟨_,(aO (cq (bV dn (jn hF dH au (af 1)) aH) (aL (aY (gJ ay))) cm)
  (aL (aY (gJ (ak (gB lx au (dp (af 0) rfl) (ak (af 1) ay)) ay))))),?_⟩
  ac_rfl;refine⟨_,I,p,ah,_,I,c7,ml _ _ _ _ ⋯ ⋯ ⋯,p,ah,l,j,t,e,kj,I,⟨_,c7⟩,aC,hl,?_⟩;rw[hJ];refine⟨I,_,I,da (by decide) ⟨_,I,o,c.o 0,kK,_,_,I,hb.k _ _ op aK,T.cl,T.kW,gs ..,i,slot g,fB,fC,I,ew,li,_,I,i,p,ah,g,x,l,j+1,t,e,X,I,I,tC,dN,fm,aB,aC,w5,gc,cY.alloc hb aB eN,aD,e5,fun v az M2 er g7=>⟨qQ,fun tt tP=>?_⟩⟩⟩;have E:=Ext.tup (xs:=[v]) tP;have M:=(hb.trans M2).ext E;refine⟨_,M.sub (E.s _ _ g7),q _ _ M ⟨tt,[v],I,fresh (hb.trans M2) g7 tP,aB,⟨v,[],I,er.same E.s,I⟩,by simp⟩ ?_⟩;rw[E.s _ _ g7];show J (fY C ah l (j+1+(bO fw g x).length) t e)=J (fY C ah l (j+((bO fw g x).length+1)) t e);rw[show j+1+(bO fw g x).length=j+((bO fw g x).length+1) by lia]
 .cases aD
set_option tactic.hygienic true in
def T8(nb:dD mg)(T:k5 K (c.t 1))(F:cU K "draw" "Choice.draw" BN f fd)(pe:bf P w K mg zn 2 "draw_fixed" ["source","most"] (Qt C))(lx:eZ P w K mg zn (2*n+4) "draw" ["self","source"] (eb c) (Qr has bz fw c C n)):cB P w K mg zn cM (2*n+4+1) f fd ["self","source"] (Qr has bz fw c C (n+1) (.t 1)):=by
 refine F.d1 Lk (fun H vs Q E au h=>?_);obtain⟨o,p,ah,bF,d,l,j,t,e,X,rfl,hs,bQ,aF,bY,c7,aC,cj,gc,eN,aD,ei,q⟩:=h;obtain⟨ns,fs,rfl⟩:=qB hs;obtain⟨oR,kK,c8,cS,os,aK,afy,afz,g1,g2,dM⟩:=bQ;obtain⟨eA,gF,dN⟩:=aF.two;have fm:dv fs<=n:=by rw[aP]at bY;lia
 have ne:∀{b:ag},b∉[p]->b≠p:=fun h z=>h (eB.mpr z);rw[b1,if_neg (by decide)]at aD;unfold uQ at aD;split at aD
 ·rename_i m x;have hm:=ti fs ns _ _ gF aD;rw[tj fs ns _ hm gF]at aD;have hk:=pw hm;have zf:ns[ns.idxOf m]?=J m:=by rw[cw hk,List.getElem_idxOf hk]
  have ze:ns.idxOf m<fs.length:=by lia
  have Dz:=cw ze
  have lO:bO fw (.two 1 ns fs) (.tup [.str m,x])=dq (ns.idxOf m) (aE (fs.length-1))++bO fw fs[ns.idxOf m] x:=by
   rw[bO,if_neg (by decide)];show m8 fw fs ns 0 _ m x=_;rw[wo fs ns 0 m hm gF,Nat.zero_add,eR,Dz];rfl
  rw[eR,Dz]at aD;rw[lO]at ei q;have O5:=rR ei;have e5:=uL ei;have ko:=tf O5 cj;have p7:=GH O5;rw[jm]at ko p7 e5;rw[bE,jm]at q;have hb:=cY.step (j':=j+aE (fs.length-1)) (t':=t) (e':=e) c7;obtain⟨kr,lh,nw⟩:=d0.ge fs dM Dz;have tC:=bG.eX hb _ nw;obtain⟨nC,w4⟩:=dN.get Dz;obtain⟨fB,fC,ew,li⟩:=bG.draw _ tC;have h0:m.length<=16000000:=c5 ((jf eA).2 m hm) (by decide);have mz:(((ns.map V.str).length:Nat):Int)-1=((fs.length-1:Nat):Int):=by rw[cd];lia
  refine⟨_,(aO (b4 2 Lk.br (b7 pe au (ak (af 1) (ak (aM hq (c1 eh I nb.d5 ea (ak (dp (af 0) I) ay)) aH) ay))))
  (aL (aY (gJ (ak (cI cJ (dp (af 0) rfl) (af 2)) (ak (gB lx au (cI cJ (dp (af 0) rfl) (af 2)) (ak (af 1) ay)) ay)))))),?_⟩
  ac_rfl;refine⟨_,I,_,I,o,c.t 1,kK,_,_,I,aK,T.cl,T.oQ,gs ..,_,_,I,.inl ⟨_,bp g1,I⟩,_,_,I,I,p,ah,l,j,ns.idxOf m,fs.length-1,t,e,by rw[<-mz];rfl,c7,aC,by lia,ko,p7,?_⟩;refine⟨_,I,o,c.t 1,kK,_,_,I,hb.k _ _ (ne oR) aK,T.cl,T.oQ,gs ..,_,I,oH (.inl (hb.k _ _ (ne afy) g1)) (show(ns.map V.str)[ns.idxOf m]?=J (V.str m) by rw[eJ,zf];rfl) ⟨_,rfl,o,c.t 1,kK,_,_,rfl,hb.k _ _ (ne oR) aK,T.cl,T.m7,lX _ _ _ _ oq,_,rfl,oH (.inl (hb.k _ _ (ne afz) g2)) (show(os.map V.ref)[ns.idxOf m]?=J (V.ref kr) by rw[eJ,lh];rfl) ⟨kr,slot _,fB,fC,rfl,ew,li,_,rfl,kr,p,ah,_,x,l,j+aE (fs.length-1),t,e,X,rfl,rfl,tC,nC,by lia,aB,aC,ko,gc,cY.alloc hb aB eN,aD,e5,fun v az M2 er g7=>⟨hH,fun tt tP=>?_⟩⟩⟩⟩;have M:=hb.trans M2;have E:=Ext.tup (xs:=[V.str m,v]) tP
  have adh:tt∉X:=fun z=>by
   obtain⟨DX,lN⟩:=cY.alloc M g7 eN _ z;rw[tP]at lN;cases lN
  refine⟨_,(M.ext E).sub (E.s _ _ g7),q _ _ (M.ext E) ⟨tt,_,I,adh,aB,⟨_,_,I,⟨I,h0⟩,v,[],I,er.same E.s,I⟩,by simp⟩ ?_⟩;rw[E.s _ _ g7,Nat.add_assoc]
 .cases aD
inductive Qu(C:ag)(vs:List V)(H:aq)(Q:bI)(E:cP):Prop where
 |mk (p ah:ag) (l:List Bool) (i:Nat) (s:List Int) (t dj:Bool) (bb:vs=[.ref p]) (ai:H p=J (fY C ah l i t dj)) (aj:l.length<=16000000) (bt:i<=l.length) (cf:Good s) (eF:s.length<=1000) (gD:ob s) (kl:lg s <+: (l.map (xor t)).drop i) (kP:∀r,H r=aA->Q (.ref r) (upd (upd H p (fY C ah l (i+(lg s).length) t dj)) r (.tup [.int (c2 s).1,.int (c2 s).2])))
def MH(h:ob s):∀x∈s,x.natAbs<2^1000:=by
 intro x av;obtain⟨i,aG,rfl⟩:=List.mem_iff_getElem.mp av;have z:=h.at (cw aG);refine fz (m:=2^256) ?_ (Nat.pow_le_pow_right (by decide) (by decide));split at z
 .unfold je at z;lia
 .unfold iH at z;lia
def LI{a b:List Bool}(h:a++b <+: L.drop i):b <+: L.drop (i+a.length):=by
 obtain⟨u,e⟩:=h;refine⟨u,?_⟩;rw[<-List.drop_drop,<-e,eC,List.drop_left]
def KN{a:List Bool}(h:a <+: L.drop i)(aG:i<=L.length):i+a.length<=L.length:=by
 have:=h.length_le;rw[lF]at this;lia
def L0{x:Int}(h:s[j]?=J x):s.take (j+1)=s.take j++[x]:=by rw[mf,h];rfl
structure mQ(H az:aq)(p r:ag)(o u:de):Prop where
 aX:az p=J o
 au:az r=J u
 hs:∀b v,b≠p->H b=J v->az b=J v
def mQ.vx{r:ag}{u o':de}(h:mQ H az p r o u)(n:r≠p):mQ H (upd az p o') p r o' u:=⟨aB,by rw[bx n];exact h.au,fun b v al e=>by rw[bx al];exact h.hs b v al e⟩
def mQ.aiL{r:ag}{u u':de}(h:mQ H az p r o u)(n:r≠p)(au:H r=aA):mQ H (upd az r u') p r o u':=⟨by rw[bx (fJ n)];exact h.aX,aB,fun b v al e=>by rw[bx (hz e au)];exact h.hs b v al e⟩
def mQ.free{r b:ag}{u:de}(h:mQ H az p r o u)(e:az b=aA):H b=aA:=by
 cases q:H b with
 |none=>rfl
 |some v =>
  by_cases al:b=p
  .subst al;rw[h.aX]at e;cases e
  .rw[h.hs b v al q]at e;cases e
inductive RB(C:ag)(vs:List V)(H:aq)(Q:bI)(E:cP):Prop where
 |mk (p ah:ag) (z:aa) (i:Int) (t e:Bool) (u v:Int) (bb:vs=[.ref p,.int v]) (ai:H p=J (.ins C ah (gK z i t e u))) (aj:Q .bM (upd H p (.ins C ah (gK z i t e v))))
def VD(T:uw K C)(F:cU K "wish" "Source.wish" BE f fd):cB P w K mg zn cM 1 f fd ["self","sign"] (RB C):=by
 refine F.ok X1 (fun vs H Q E h=>?_) (fun bg A _ s H vs Q E au h=>?_)
 .obtain⟨p,ah,z,i,t,e,u,v,rfl,_⟩:=h;rfl
 obtain⟨p,ah,z,i,t,e,u,v,rfl,aX,q⟩:=h;refine⟨_,(aL (jg (af 0) (af 1) I)),?_⟩;ac_rfl;refine⟨_,I,_,I,p,C,ah,_,I,aX,T.cl,T.DT,(by show 5<1000;decide),?_⟩;rw[LR];exact q
def Xo(nb:dD mg)(dH:e7 K C)(F:dB K mg "draw_fraction" FH ["source"] f fd)(hF:fp P w K mg zn 1 C "draw" ["self"] (Qy C))(mN:fp P w K mg zn 1 C "turn" ["self"] (Ru C))(AU:fp P w K mg zn 1 C "wish" ["self","sign"] (RB C))(mM:fp P w K mg zn 1 C "refuse" ["self"] vy)(sV:bf P w K mg zn 4 "draw_whole" ["source"] (Qx C))(ud:bf P w K mg zn 3 "draw_count" ["source"] (Qs C))
  (vP:bf P w K mg zn 1 "are_steps" ["steps"] Qg) (EP:bf P w K mg zn 2 "fraction_of" ["steps"] QK):bf P w K mg zn 5 "draw_fraction" ["source"] (Qu C):=by show_term
 refine F.eH Lb (fun H vs Q E au h=>?_);obtain⟨p,ah,l,i,s,t,dj,rfl,aX,aC,aG,bh,j1,cL,hc,q⟩:=h
 refine⟨_,(aO (b4 1 Lb.br (e0 (ak (b7 sV au (ak (af 0) ay)) ay)))
  (aO (pB iu.never (bV dn (jn hF dH au (af 0)) aH)
   (aO (iz (jn mN dH au (af 0)))
   (aO (iz (lK AU dH au (af 0) (ak aH ay)))
   (aO (iz (h6 PySem.F.plainAttrs_list PySem.F.slot_list_append PySem.F.type_list_append pA (af 1) (ak (aM cv (b7 ud au (ak (af 0) ay)) aH) ay)))
   (aL (cq (bV dn (cI cJ (af 1) (mU mP aH)) aH) (aL (iz (lK AU dH au (af 0) (ak aH ay)))) cm))))))
  (aO (cq (jI (h5 (b7 vP au (ak (af 1) ay)))) (aL (iz (jn mM dH au (af 0)))) cm)
  (aO (cq (bV dn (aM eu (c1 eh rfl nb.d5 ea (ak (af 1) ay)) aH) aH) (aL (iz (jn mN dH au (af 0)))) cm)
  (aL (aY (b7 EP au (ak (af 1) ay)))))))),?_⟩
 ac_rfl;have PG:∀(z:aa)(i:Int)(t e:Bool){u:Int},(gK z i t e u).lookup ("wish":aa)=aA:=fun _ _ _ _=>ml _ _ _ _ ⋯ ⋯ ⋯;have nm:∀(z:aa)(i:Int)(t e:Bool){u:Int},(gK z i t e u).lookup ("draw":aa)=aA:=fun _ _ _ _=>ml _ _ _ _ ⋯ ⋯ ⋯;have qg:∀(z:aa)(i:Int)(t e:Bool){u:Int},(gK z i t e u).lookup ("turn":aa)=aA:=fun _ _ _ _=>ml _ _ _ _ ⋯ ⋯ ⋯;obtain⟨a,aZ,rfl⟩:=List.exists_cons_of_ne_nil bh.ne;have aN:=cL.1 a (eB.mpr rfl);have js:gS a++more aZ <+: (l.map (xor t)).drop i:=hc;have O0:(l.map (xor t)).length=l.length:=cd ..;refine⟨_,I,p,ah,l,i,a,t,dj,I,aX,aC,aG,aN,⟨_,(eC ..).symm.trans js.choose_spec⟩,(by show 1<=cp;decide),fun r e5=>?_⟩;have oG:r≠p:=fun z=>by rw[z,aB]at e5;cases e5
 have O6:H r=aA:=by rw[bx oG]at e5;exact e5
 have Th:mQ H (upd (upd H p (fY C ah l (i+(gS a).length) t dj)) r (.lst [V.int a])) p r (fY C ah l (i+(gS a).length) t dj) (.lst [V.int a]):=⟨by rw[bx (fJ oG)];exact aB,aB,fun b v al e=>by rw[bx (hz e O6),bx al];exact e⟩;obtain⟨s,hs⟩:∃s,s=a::aZ:=⟨_,rfl⟩;have zk:0<s.length:=by rw[hs];exact Nat.succ_pos _
 have q6:(lg s).length=(gS a).length+(more aZ).length:=by rw[hs];exact bE
 rw[<-hs]at bh j1 cL q
 refine⟨fun m ab az=>∃(j ae:Nat)(T:Bool)(u:Int),1<=j/\j<=s.length/\m=s.length-j/\ab=[J (.ref p),J (.ref r)]/\mQ H az p r (z6 C ah l ae T dj u) (.lst ((s.take j).map V.int))/\more (s.drop j) <+: (l.map (xor T)).drop ae/\ae<=l.length/\ae+(more (s.drop j)).length=i+(lg s).length/\T=(t ^^ odd (j+1)),
  ⟨s.length-1,1,i+(gS a).length,t,0,cR _,zk,rfl,rfl,?_,?_,?_,?_,?_⟩,?_⟩
 .rw[hs];exact Th
 .rw[hs];exact LI js
 .have:=KN (a:=gS a) ⟨_,(eC ..).symm.trans js.choose_spec⟩ (by rw[O0];exact aG);rw[O0]at this;exact this
 .rw[q6];subst hs;show i+(gS a).length+(more aZ).length=_;lia
 .cases t<;>rfl
 rintro m ab az ⟨j,ae,T,u,w5,p2,rfl,rfl,S,sm,dM,c0,bW⟩;have OX:(l.map (xor T)).length=l.length:=cd ..;rcases h4 j s.length with cj|cj
 ·
  have DK:s[j]?=J (s[j]'cj):=cw cj;have ik:=cL.at DK;rw[if_neg (by lia)]at ik;have jq:s.drop j=s[j]'cj::s.drop (j+1):=qJ cj;generalize s[j]'cj=b at DK ik jq;rw[jq]at sm c0;obtain⟨hl,hJ,OF⟩:=CI sm;rw[OX]at hl;obtain⟨bit,wZ,y4⟩:=get_map (l:=l) (t:=T) (i:=ae) hl;rw[hJ]at y4;have y2:=Ll OF;rw[List.map_drop,LB]at y2;have akK:=ik.1;have akL:=ik.2;obtain⟨n,bj⟩:∃n:Nat,n=(b-1).toNat:=⟨_,rfl⟩;rw[<-bj]at y2;refine⟨_,I,p,ah,_,I,S.aX,nm ..,p,ah,l,ae,T,dj,bit,I,⟨_,S.aX⟩,aC,wZ,I,_,I,?_⟩;rw[<-y4];refine hp I ⟨fun cb H'=>∃b6,b6<s.length-j/\∃(j ae:Nat)(T:Bool)(u:Int),1<=j/\j<=s.length/\b6=s.length-j/\cb=[J (.ref p),J (.ref r)]/\mQ H H' p r (z6 C ah l ae T dj u) (.lst ((s.take j).map V.int))/\more (s.drop j) <+: (l.map (xor T)).drop ae/\ae<=l.length/\ae+(more (s.drop j)).length=i+(lg s).length/\T=(t ^^ odd (j+1)),fun _ _ h=>h,?_⟩;have jb:=S.vx (o':=fY C ah l (ae+1) T dj) oG;refine⟨_,I,p,ah,_,I,jb.aX,qg ..,p,ah,l,_,_,_,_,I,jb.aX,?_⟩;have kd:=jb.vx (o':=fY C ah l (ae+1) (!T) dj) oG;refine⟨_,I,p,ah,_,I,kd.aX,PG ..,p,ah,bA l,_,!T,dj,0,1,I,kd.aX,?_⟩;have Fl:=kd.vx (o':=z6 C ah l (ae+1) (!T) dj 1) oG;refine⟨_,I,.inl ⟨I,_,bp Fl.au⟩,_,I,p,ah,l,ae+1,n,!T,dj,I,⟨_,Fl.aX⟩,aC,hl,(by lia),⟨_,(eC ..).symm.trans y2.choose_spec⟩,.inl ⟨_,_,I,I,?_⟩⟩;have uv:=Fl.vx (o':=fY C ah l (ae+1+(cnt n).length) (!T) dj) oG;refine⟨_,_,_,I,I,uv.au,(by rw[oL,kg];exact fz (show min j s.length<100001 by lia) (xu (by decide))),?_⟩;have wa:=uv.aiL (u' :=.lst ((s.take j).map V.int++[V.int ((n:Int)+1)])) oG O6;have eE:(n:Int)+1=b:=by lia
  have pP:(s.take j).map V.int++[V.int ((n:Int)+1)]=(s.take (j+1)).map V.int:=by rw[L0 DK,fR,eE];rfl
  rw[pP]at wa;have hn:=KN (a:=cnt n) ⟨_,(eC ..).symm.trans y2.choose_spec⟩ (by rw[cd];exact hl);rw[cd]at hn
  have Oh:∀(u:Int)(gW:aq),mQ H gW p r (z6 C ah l (ae+1+(cnt n).length) (!T) dj u) (.lst ((s.take (j+1)).map V.int))->∃b6,b6<s.length-j/\∃(j ae:Nat)(T:Bool)(u:Int),1<=j/\j<=s.length/\b6=s.length-j/\[J (V.ref p),J (.ref r)]=[J (.ref p),J (.ref r)]/\mQ H gW p r (z6 C ah l ae T dj u) (.lst ((s.take j).map V.int))/\more (s.drop j) <+: (l.map (xor T)).drop ae/\ae<=l.length/\ae+(more (s.drop j)).length=i+(lg s).length/\T=(t ^^ odd (j+1)):=fun u gW u0=>by
   refine⟨s.length-(j+1),by lia,j+1,ae+1+(cnt n).length,!T,u,by lia,by lia,rfl,rfl,u0,LI y2,hn,?_,?_⟩
   ·have aa7:(more (b::s.drop (j+1))).length=1+((cnt n).length+(more (s.drop (j+1))).length):=by
     rw[more,dW,cd,bE,<-bj];lia
    rw[aa7]at c0;lia
   .rw[bW,CF (j+1)];cases t<;>cases odd (j+1)<;>rfl
  dsimp only;rw[pP];have hB:s.take (j+1)≠[]:=by rw[L0 DK];exact List.append_ne_nil_of_right_ne_nil _ (px _ _)
  refine⟨_,I,_,I,xz wa.au (GV hB) ⟨I,_,I,?_⟩⟩;refine fM (fun c=>?_) (fun c=>?_)
  ·refine⟨_,I,p,ah,_,I,wa.aX,PG ..,p,ah,bA l,_,!T,dj,0,1,I,wa.aX,?_⟩;exact Oh 1 _ (wa.vx oG)
  .exact Oh 0 _ wa
 ·
  have hI:j=s.length:=by lia
  have jq:s.drop j=[]:=by rw[hI];exact List.drop_length ..
  have jM:s.take j=s:=by rw[hI];exact List.take_length ..
  rw[jq]at sm c0;rw[jM]at S;obtain⟨hl,hJ,OF⟩:=CI sm;rw[OX]at hl;obtain⟨bit,wZ,y4⟩:=get_map (l:=l) (t:=T) (i:=ae) hl;rw[hJ]at y4;refine⟨_,I,p,ah,_,I,S.aX,nm ..,p,ah,l,ae,T,dj,bit,I,⟨_,S.aX⟩,aC,wZ,I,_,I,?_⟩;rw[<-y4];refine da (by decide) ?_;have jb:=S.vx (o':=fY C ah l (ae+1) T dj) oG;have aba:ae+1=i+(lg s).length:=c0;refine⟨_,I,r,s,I,jb.au,by lia,_,rfl,?_⟩;rw[(Mk s).mpr bh];refine e2 ⟨_,I,_,_,I,.inl ⟨_,bp jb.au,I⟩,_,_,I,I,(by show(0:Int)<2;decide),I,_,I,?_⟩;rw[oL]
  have dG:∀{b5:aq},mQ H b5 p r (fY C ah l (ae+1) t dj) (.lst (s.map V.int))->∀ej,b5 ej=aA->nk H (upd b5 ej (.tup [.int (c2 s).1,.int (c2 s).2])) (Q (.ref ej)):=fun{b5}uv ej ID=>by
   have aD:=uv.free ID;have dc:p≠ej:=fun z=>by rw[<-z,uv.aX]at ID;cases ID
   refine⟨_,Sub.aeu aX aD (fun b u al e=>by rw[bx (hz e aD)];exact uv.hs b u al e) (by rw[bx dc];exact uv.aX) aB trivial,?_⟩;rw[aba];exact q ej aD
  refine fM (fun c=>?_) (fun c=>?_)
  ·have akP:s.length%2=0:=by have:=V.int.inj c;lia
   have ec:(!T)=t:=by
    rw[bW,hI,CF];have:odd s.length=aI:=e8 (by lia);rw[this];cases t<;>rfl
   refine⟨_,I,p,ah,_,I,jb.aX,qg ..,p,ah,l,_,_,_,_,I,jb.aX,?_⟩;have kd:=jb.vx (o':=fY C ah l (ae+1) (!T) dj) oG;refine⟨_,I,r,s,I,kd.au,j1,MH cL,bh,?_⟩;rw[ec]at kd;rw[ec];exact dG kd
  ·have adK:s.length%2=1:=by
    have:¬s.length%2=0:=fun z=>c (congrArg V.int (by lia));lia
   have ec:T=t:=by
    rw[bW,hI,CF];have:odd s.length=ao:=eK adK;rw[this];cases t<;>rfl
   subst ec;exact⟨_,I,r,s,I,jb.au,j1,MH cL,bh,dG jb⟩
def U1(F:cU K "draw" "Whole.draw" BR f fd)(sV:bf P w K mg zn 4 "draw_whole" ["source"] (Qx C)):cB P w K mg zn cM 5 f fd ["self","source"] (Qr has bz fw c C n (.b 2)):=by
 refine F.d1 Yw (fun H vs Q E au h=>?_);obtain⟨o,p,ah,bF,d,l,j,t,e,X,rfl,hs,bQ,aF,bY,c7,aC,cj,gc,eN,aD,ei,q⟩:=h;have:=jY hs;subst this;rw[bO]at q ei;rw[b1]at aD;cases d with
 |int v =>
  have aD:je v:=hT aD;have ei:gS v <+: sees l t j:=ei;have M:=cY.step (j':=j+(gS v).length) (t':=t) (e':=e) c7;refine⟨_,(aL (aY (b7 sV au (ak (af 1) ay)))),?_⟩;ac_rfl;refine⟨_,I,p,ah,l,j,v,t,e,I,c7,aC,cj,aD,ei,_,M.sub aB,?_⟩;exact q _ _ M I aB
 |_=>cases aD
def ZL(adf:∀d,bz d=ao->∃s,Good s/\s.length<=1000/\ob s/\d=.tup [.int (c2 s).1,.int (c2 s).2]/\fw d=lg s)(F:cU K "draw" "Fraction.draw" AR f fd)(xJ:bf P w K mg zn 5 "draw_fraction" ["source"] (Qu C)):cB P w K mg zn cM 6 f fd ["self","source"] (Qr has bz fw c C n (.b 3)):=by
 refine F.d1 Xk (fun H vs Q E au h=>?_);obtain⟨o,p,ah,bF,d,l,j,t,e,X,rfl,hs,bQ,aF,bY,c7,aC,cj,gc,eN,aD,ei,q⟩:=h;have:=jY hs;subst this;rw[bO]at q ei;rw[b1]at aD;have aD:bz d=ao:=by cases d<;>exact aD
 have lO:C1 fw 3 d=fw d:=by cases d<;>rfl
 rw[lO]at q ei;obtain⟨s,bh,j1,cL,rfl,jN⟩:=adf d aD;rw[jN]at q ei;have hb:=cY.step (j':=j+(lg s).length) (t':=t) (e':=e) c7;refine⟨_,(aL (aY (b7 xJ au (ak (af 1) ay)))),?_⟩;ac_rfl;refine⟨_,I,p,ah,l,j,s,t,e,I,c7,aC,cj,bh,j1,cL,ei,fun r e5=>?_⟩;have oG:r≠p:=fun z=>by rw[z,c7]at e5;cases e5
 have E:=Ext.tup (xs:=[.int (c2 s).1,.int (c2 s).2]) (show upd H p (fY C ah l (j+(lg s).length) t e) r=aA by rw[bx oG];exact e5);have M:=hb.ext E
 have fresh:r∉X:=fun z=>by
  obtain⟨DX,lN⟩:=eN _ z;rw[e5]at lN;cases lN
 exact⟨_,M.sub (E.s _ _ aB),q _ _ M ⟨r,[.int (c2 s).1,.int (c2 s).2],I,fresh,aB,⟨.int (c2 s).1,[.int (c2 s).2],I,I,⟨.int (c2 s).2,[],I,I,I⟩⟩,by simp⟩ (E.s _ _ aB)⟩
noncomputable def xr{α:Type}(a0 a1 a2 a3 a4 a5 a6 a7 a8 a9 a10:α):fQ->α
 |.b 0=>a0
 |.b 1=>a1
 |.b 2=>a2
 |.b _=>a3
 |.s=>a4
 |.l=>a5
 |.o 0=>a6
 |.o 1=>a7
 |.o _=>a8
 |.t 0=>a9
 |.t _=>a10
theorem ts{p:fQ->Prop}(bb:p (.b 0))(ai:p (.b 1))(aj:p (.b 2))(bt:p (.b 3))(cf:p .s)(eF:p .l)(gD:p (.o 0))(kl:p (.o 1))(kP:p (.o 2))(r7:p (.t 0))(Om:p (.t 1)):∀i,p i
 |.b k=>by rcases qU k with rfl|rfl|rfl|rfl<;>assumption
 |.s=>cf
 |.l=>eF
 |.o k=>by rcases pT k with rfl|rfl|rfl<;>assumption
 |.t k=>by rcases mX k with rfl|rfl<;>assumption
def qF(K:bT)(c:c9)(m:aa)(q:fQ->aa)(st:fQ->bo)(aJ:List aa):Prop:=∀i,MethAt K (eb c i) m (q i) (st i) aJ
def fq{K:bT}{C:ag}{m:aa}{st:bo}{sp:cH}(M:MethAt K C m q st aJ)(h:∀f fd,cU K m q st f fd->cB P w K mg zn cM k f fd aJ sp):fp P w K mg zn k C m aJ sp/\e7 K C:=by
 obtain⟨f,fd,G,al,hm⟩:=M.ex;exact⟨⟨f,fd,h f fd G,al,hm⟩,M.cl⟩
structure A9(K:bT)(c:c9):Prop where
 Aa:s6 K c.s
 z9:rH K c.l
 kt:∀k,iX K (c.o k)
 m9:∀k,k5 K (c.t k)
noncomputable def hasAll:fQ->Bool:=fun _=>ao
noncomputable def Hq:fQ->aa:=xr "Nothing.fits" "Truth.fits" "Whole.fits" "Fraction.fits" "Span.fits" "Letters.fits" "Maybe.fits" "Many.fits" "Turned.fits" "Record.fits" "Choice.fits"
noncomputable def Ht:fQ->bo:=xr A3 BS BQ AQ B3 Bq BX B5 BA BH BM
noncomputable def GO:fQ->aa:=xr "Nothing.written" "Truth.written" "Whole.written" "Fraction.written" "Span.written" "Letters.written" "Maybe.written" "Many.written" "Turned.written" "Record.written" "Choice.written"
noncomputable def GU:fQ->bo:=xr Bk AK AJ Bh A0 Wp AN A5 Bl Bm AH
noncomputable def Hr:fQ->aa:=xr "Nothing.draw" "Truth.draw" "Whole.draw" "Fraction.draw" "Span.draw" "Letters.draw" "Maybe.draw" "Many.draw" "Turned.draw" "Record.draw" "Choice.draw"
noncomputable def Hu:fQ->bo:=xr A4 BU BR AR B4 Br BY B6 BB BI BN
def Ui(nb:dD mg)(L:A9 K c)(S:qF K c "fits" Hq Ht ["self","value"])(qX:gj mg "MOST_VALUES" (.int 60))(qW:gj mg "LONGEST_TEXT" (.int 200))(n0:bf P w K mg zn 1 "is_number" ["value"] QU)(ue:bf P w K mg zn 2 "has_whole_row" ["n"] QN)(ph:bf P w K mg zn 1 "made_of" ["text","signs"] QZ)(xK:bf P w K mg zn 3 "has_fraction_row" ["fraction"] QL):∀n,eZ P w K mg zn (2*n+4) "fits" ["self","value"] (eb c) (QE hasAll dh c n):=by
 intro n
 induction n with
 |zero=>exact fun i=>⟨iN (S i) (fun vs H Q E z=>by obtain⟨o,f,_,_,_,_,_,_,h,_⟩:=z;have:=oh f;lia),(S i).cl⟩
 |succ n bP=>exact ts (fq (S _) fun _ _ G=>(aah G).mono (by lia)) (fq (S _) fun _ _ G=>(UT G).mono (by lia)) (fq (S _) fun _ _ G=>(US G n0 ue).mono (by lia)) (fq (S _) fun _ _ G=>(ZK nb G n0 xK).mono (by lia)) (fq (S _) fun _ _ G=>(VQ L.Aa G n0).mono (by lia)) (fq (S _) fun _ _ G=>(aai nb qW L.z9 G ph).mono (by lia)) (fq (S _) fun _ _ G=>(UU nb (L.kt 0) G bP).mono (by lia)) (fq (S _) fun _ _ G=>(VR nb qX (L.kt 1) G bP).mono (by lia)) (fq (S _) fun _ _ G=>(TT (L.kt 2) G bP).mono (by lia)) (fq (S _) fun _ _ G=>(TU nb (L.m9 0) G bP).mono (by lia)) (fq (S _) fun _ _ G=>(TV nb (L.m9 1) G bP).mono (by lia))
def ZP(nb:dD mg)(L:A9 K c)(S:qF K c "written" GO GU ["self","value"])(n8:fp P w K mg zn 1 c.l "places" ["self","text"] (Rc c.l))(sY:bf P w K mg zn 3 "whole_row" ["n"] Ld)(pf:bf P w K mg zn 2 "fixed_row" ["n","most"] QF)(pj:bf P w K mg zn 1 "turned_row" ["row"] K6)(sX:bf P w K mg zn 1 "steps_of" ["fraction"] Rr)(xP:bf P w K mg zn 4 "row_of_steps" ["steps"] Rf):∀n,eZ P w K mg zn (2*n+4) "written" ["self","value"] (eb c) (RC hasAll dh en c n):=by
 intro n
 induction n with
 |zero=>exact fun i=>⟨iN (S i) (fun vs H Q E z=>by obtain⟨o,f,_,_,_,_,_,_,h,_⟩:=z;have:=oh f;lia),(S i).cl⟩
 |succ n bP=>exact ts (fq (S _) fun _ _ G=>(WV G).mono (by lia)) (fq (S _) fun _ _ G=>(Xp G).mono (by lia)) (fq (S _) fun _ _ G=>(W5 G sY).mono (by lia)) (fq (S _) fun _ _ G=>(WT G sX xP).mono (by lia)) (fq (S _) fun _ _ G=>(Xq L.Aa G pf).mono (by lia)) (fq (S _) fun _ _ G=>(WW nb L.z9 G (S .l).cl n8 pf).mono (by lia)) (fq (S _) fun _ _ G=>(Xs nb (L.kt 0) G bP).mono (by lia)) (fq (S _) fun _ _ G=>(XO nb (L.kt 1) G bP).mono (by lia)) (fq (S _) fun _ _ G=>(W6 (L.kt 2) G pj bP).mono (by lia)) (fq (S _) fun _ _ G=>(W7 nb (L.m9 0) G bP).mono (by lia)) (fq (S _) fun _ _ G=>(Xa nb (L.m9 1) G pf bP).mono (by lia))
def Vc{C:ag}(nb:dD mg)(L:A9 K c)(S:qF K c "draw" Hr Hu ["self","source"])(dH:e7 K C)(qX:gj mg "MOST_VALUES" (.int 60))(qW:gj mg "LONGEST_TEXT" (.int 200))(hF:fp P w K mg zn 1 C "draw" ["self"] (Qy C))(mN:fp P w K mg zn 1 C "turn" ["self"] (Ru C))(mM:fp P w K mg zn 1 C "refuse" ["self"] vy)(pe:bf P w K mg zn 2 "draw_fixed" ["source","most"] (Qt C))(sV:bf P w K mg zn 4 "draw_whole" ["source"] (Qx C))(xJ:bf P w K mg zn 5 "draw_fraction" ["source"] (Qu C)):∀n,eZ P w K mg zn (2*n+4) "draw" ["self","source"] (eb c) (Qr hasAll dh en c C n):=by
 intro n
 induction n with
 |zero=>exact fun i=>⟨iN (S i) (fun vs H Q E z=>by obtain⟨o,_,_,f,_,_,_,_,_,_,_,_,_,_,h,_⟩:=z;have:=oh f;lia),(S i).cl⟩
 |succ n bP=>exact ts (fq (S _) fun _ _ G=>(aal G).mono (by lia)) (fq (S _) fun _ _ G=>(U2 dH G hF).mono (by lia)) (fq (S _) fun _ _ G=>(U1 G sV).mono (by lia)) (fq (S _) fun _ _ G=>(ZL (fun _ h=>Gr h) G xJ).mono (by lia)) (fq (S _) fun _ _ G=>(VW L.Aa G pe).mono (by lia)) (fq (S _) fun _ _ G=>(aam nb qW dH L.z9 G hF mM pe).mono (by lia)) (fq (S _) fun _ _ G=>(U3 dH (L.kt 0) G hF bP).mono (by lia)) (fq (S _) fun _ _ G=>(VX nb qX dH (L.kt 1) G hF mM bP).mono (by lia)) (fq (S _) fun _ _ G=>(T6 dH (L.kt 2) G mN bP).mono (by lia)) (fq (S _) fun _ _ G=>(T7 nb (L.m9 0) G bP).mono (by lia)) (fq (S _) fun _ _ G=>(T8 nb (L.m9 1) G pe bP).mono (by lia))
def Eg(has:fQ->Bool)(bz:D->Bool)(fw:D->List Bool)(c:c9)(n:Nat):cH:=fun vs H Q E=>∃i,RC has bz fw c n i vs H Q E
theorem Zi(F:cU K "row" "Form.row" lJ f fd)(ky:eZ P w K mg zn (2*n+4) "fits" ["self","value"] (eb c) (QE has bz c n))(l3:eZ P w K mg zn (2*n+4) "written" ["self","value"] (eb c) (RC has bz fw c n)):cB P w K mg zn cM (2*n+4+1) f fd ["self","value"] (Eg has bz fw c n):=by
 refine F.d1 Zw (fun H vs Q E au h=>?_);obtain⟨eY,o,bF,v,d,rfl,hs,bQ,aF,bY,hd,aD,aC,q⟩:=h;obtain⟨fB,fC,ew,li⟩:=bG.fits bF bQ;obtain⟨aa5,ab6,hI,aeK⟩:=bG.written bF bQ
 refine⟨_,(aO (cq (jI (h5 (gB ky au (af 0) (ak (af 1) ay)))) (aL kG) cm)
  (aL (aY (gB l3 au (af 0) (ak (af 1) ay))))),?_⟩
 ac_rfl;refine⟨_,I,o,slot bF,fB,fC,I,ew,li,_,I,o,bF,v,d,I,I,bQ,aF,bY,hd,aD,ao,I,?_⟩;refine e2 ⟨_,I,o,slot bF,aa5,ab6,I,hI,aeK,_,I,o,bF,v,d,I,I,bQ,aF,bY,hd,aD,aC,H,.refl (cK _),q⟩
def bG.row{c:c9}(f:aU){o:ag}(h:bG c X H f o):∃ah fs,H o=J (.ins (eb c (slot f)) ah fs)/\fs.lookup (aa.ofString "row")=aA :=
 bG.ins (m:=aa.ofString "row") ⋯ ⋯ ⋯ ⋯ ⋯ ⋯ f h
def bG.read{c:c9}(f:aU){o:ag}(h:bG c X H f o):∃ah fs,H o=J (.ins (eb c (slot f)) ah fs)/\fs.lookup (aa.ofString "read")=aA :=
 bG.ins (m:=aa.ofString "read") ⋯ ⋯ ⋯ ⋯ ⋯ ⋯ f h
def V1(S:qF K c "row" (fun _=>"Form.row") (fun _=>lJ) ["self","value"])(ky:eZ P w K mg zn (2*n+4) "fits" ["self","value"] (eb c) (QE has bz c n))(l3:eZ P w K mg zn (2*n+4) "written" ["self","value"] (eb c) (RC has bz fw c n)):eZ P w K mg zn (2*n+5) "row" ["self","value"] (eb c) (fun _=>Eg has bz fw c n):=fun i=>fq (S i) fun _ _ G=>Zi G ky l3
def cY.new(x:Ext H H1)(bb:H p=aA)(m:cY p H1 az):Ext H az:=⟨fun b u e=>m.k b u (fun z=>by rw[z,bb]at e;cases e) (x.s b u e),fun cl=>m.c (x.c cl)⟩
def aax(l:List Bool)(j:Nat):sees l aI j=l.drop j:=by
 unfold sees;have e:xor aI=(id:Bool->Bool):=by funext x;cases x<;>rfl
 rw[e,List.map_id]
inductive Rd(has:fQ->Bool)(bz:D->Bool)(fw:D->List Bool)(c:c9)(n:Nat)(vs:List V)(H:aq)(Q:bI)(E:cP):Prop where
 |mk (o:ag) (f:aU) (d:D) (l:List Bool) (j:Nat) (bb:vs=[.ref o,.str (bA l),.int (j:Nat)]) (ai:bG c [] H f o) (aj:qj has f) (bt:aP f<=n) (cf:l.length<=16000000) (eF:j<=l.length) (gD:b1 bz f d=ao) (kl:bO fw f d <+: l.drop j) (kP:∀v H' t,Ext H H'->cg (gV.of H) H' d v->H t=aA->H' t=J (.tup [v,.int ((j+(bO fw f d).length:Nat):Int)])->Q (.ref t) H')
def Zj(T:uw K C)(F:cU K "read" "Form.read" lI f fd)(xY:gX P w K mg zn 1 "Source" C ["self","signs","at"] (Rq C))(lx:eZ P w K mg zn (2*n+4) "draw" ["self","source"] (eb c) (Qr has bz fw c C n)):cB P w K mg zn cM (2*n+4+1) f fd ["self","signs","at"] (Rd has bz fw c n):=by
 refine F.d1 F1 (fun H vs Q E au h=>?_);obtain⟨o,g,d,l,j,rfl,bQ,aF,bY,aC,cj,aD,aX,q⟩:=h
 refine⟨_,(aO (b4 3 F1.br (kH xY au (ak (af 1) (ak (af 2) ay))))
  (aO (b4 4 F1.br (gB lx au (af 0) (ak (af 3) ay)))
  (aL (aY (gJ (ak (af 4) (ak (dp (af 3) rfl) ay))))))),?_⟩
 ac_rfl;refine⟨_,I,_,I,fun x ah nx afq afr=>?_⟩;refine⟨x,ah,_,_,I,aB,I,?_⟩;rw[eS];have mh:=Ext.made (C:=C) (fs:=yS (bA l) ((j:Nat):Int) aI aI) nx afq afr;have oy:=bG.keep (fun b u _ e=>mh.s b u e) g (bG.add nx g bQ);obtain⟨fB,fC,ew,li⟩:=bG.draw g oy;refine⟨_,I,o,slot g,fB,fC,I,ew,li,?_⟩;refine⟨_,I,o,x,ah,g,d,l,j,aI,aI,gV.tv x (gV.of H),I,I,oy,aF,bY,aB,aC,cj,gV.hd,?_,aD,by rw[aax];exact aX,fun v H' M hd uY=>?_⟩
 ·rintro y (rfl|⟨u,cG⟩)
  .exact⟨_,aB⟩
  .exact⟨u,mh.s _ _ cG⟩
 have iM:=cY.new mh nx M;refine⟨_,I,_,I,x,C,ah,_,_,I,uY,T.cl,T.kq,Ci ..,hH,fun t aP=>?_⟩
 have qg:H t=aA:=by
  cases e:H t with
  |none=>rfl
  |some u=>rw[iM.s _ _ e]at aP;cases aP
 exact⟨_,(iM.trans (.tup aP)).sub,q _ _ t (iM.trans (.tup aP)) (cg.same (cZ aP) (cg.weak (fun _=>gV.dQ) _ hd)) qg aB⟩
def jk{w:aa}{R:gk}{D:Ends}(av:ab[i]?=J (J (.str x)))(bj:¬V.str x=V.str w)(h:R D ab H):Ab (JB (Es (sR D4 (Et i) (rp (.str w)))) S Er) R D ab H:=⟨_,av,rfl,_,rfl,da bj h⟩
def kc{w:aa}{R:gk}{D:Ends}(av:ab[i]?=J (J (.str w)))(h:∀N:St->aq->Prop,S {D with nx:=N} ab H):Ab (JB (Es (sR D4 (Et i) (rp (.str w)))) S Er) R D ab H:=⟨_,av,rfl,_,rfl,hp rfl (h _)⟩
def Jg{R:gk}{D:Ends}(h:∀N:St->aq->Prop,(∀ab H,R D ab H->N ab H)->S {D with nx:=N} ab H):Ab S R D ab H:=h _ fun _ _ z=>z
mutual
noncomputable def dt:aU->Nat
 |.bare _=>1
 |.sp _ _=>1
 |.le _=>1
 |.one _ f=>dt f+1
 |.two _ _ fs=>f5 fs+1
noncomputable def f5:List aU->Nat
 |[]=>0
 |f::fs=>dt f+f5 fs
end
structure vO(K:bT)(C:ag):Prop where
 cl:e7 K C
 j3:kb K C "text"
 kq:kb K C "place"
def K4:¬(("text":aa)="place"):=⋯
def WB:(("place":aa) == "text")=aI:=⋯
noncomputable def kJ(t:aa)(k:Nat):List (aa×V):=[("text",.str t),("place",.int ((k:Nat):Int))]
def aaR(t:V):fF "text" t []=([("text",t)]:List (aa×V)):=rfl
def aaS(t k:V):fF "place" k ([("text",t)]:List (aa×V))=([("text",t),("place",k)]:List (aa×V)):=by simp only[fF,K4,if_false]
def NS(t:aa)(k hC:Nat):fF "place" (.int ((hC:Nat):Int)) (kJ t k)=kJ t hC:=by simp only[kJ,fF,K4,if_false,if_true]
def wF(t:aa)(k:Nat):(kJ t k).lookup ("text":aa)=J (.str t):=by simp[kJ,List.lookup]
def r1(t:aa)(k:Nat):(kJ t k).lookup ("place":aa)=J (.int ((k:Nat):Int)):=by simp[kJ,List.lookup,WB]
def la(t:aa)(k:Nat){m:aa}(ai:xv ((m == ("text":aa))=aI) z3)(aj:xv ((m == ("place":aa))=aI) z3):(kJ t k).lookup m=aA:=by simp[kJ,List.lookup,ai,aj]
noncomputable abbrev e4(C ah:ag)(t:aa)(k:Nat):de :=.ins C ah (kJ t k)
inductive Qq(C:ag)(vs:List V)(H:aq)(Q:bI)(E:cP):Prop where
 |mk (p ah:ag) (t:aa) (bb:vs=[.ref p,.str t]) (ai:H p=J (.ins C ah [])) (aj:Q .bM (upd H p (e4 C ah t 0)))
def ZG(T:vO K C)(F:cU K "__init__" "Cursor.__init__" FW f fd):cB P w K mg zn cM 1 f fd ["self","text"] (Qq C):=by
 refine F.ok X9 (fun vs H Q E h=>?_) (fun bg A _ s H vs Q E au h=>?_)
 .obtain⟨_,_,_,rfl,_⟩:=h;rfl
 obtain⟨p,ah,t,rfl,aX,q⟩:=h
 refine⟨_,(aO (jg (af 0) (af 1) I)
  (aL (jg (af 0) aH rfl))),?_⟩
 ac_rfl;refine⟨_,I,_,I,p,C,ah,_,I,aX,T.cl,T.j3,(by show 0<1000;decide),?_⟩;rw[aaR];refine⟨_,I,p,C,ah,_,I,aB,T.cl,T.kq,(by show 1<1000;decide),?_⟩;rw[aaS,eS];exact q
inductive QB(C:ag)(vs:List V)(H:aq)(Q:bI)(E:cP):Prop where
 |mk (aW ah:ag) (t:aa) (k:Nat) (bb:vs=[.ref aW]) (ai:H aW=J (e4 C ah t k)) (aj:t.length<=100000) (bt:Q (.aS (decide (k=t.length))) H)
def UJ(nb:dD mg)(T:vO K C)(F:cU K "ended" "Cursor.ended" Bs f fd):cB P w K mg zn cM 1 f fd ["self"] (QB C):=by
 refine F.d1 XF (fun H vs Q E au h=>?_);obtain⟨aW,ah,t,k,rfl,hc,aP,q⟩:=h;refine⟨_,(aL (aY (g4 dn (dp (af 0) I) (c1 eh I nb.d5 ea (ak (dp (af 0) I) ay))))),?_⟩;ac_rfl;refine⟨_,I,aW,C,ah,_,_,I,hc,T.cl,T.kq,r1 ..,_,I,aW,C,ah,_,_,I,hc,T.cl,T.j3,wF ..,_,_,I,⟨dS aP,I⟩,I,H,.refl (cK _),?_⟩;have e:decide (V.int ((k:Nat):Int)=V.int ((t.length:Nat):Int))=decide (k=t.length):=decide_eq_decide.mpr ⟨fun z=>by have:=V.int.inj z;lia,fun z=>by rw[z]⟩;rw[e];exact q
inductive Rl(C:ag)(vs:List V)(H:aq)(Q:bI)(E:cP):Prop where
 |mk (aW ah:ag) (t z:aa) (k:Nat) (bb:vs=[.ref aW,.str z]) (ai:H aW=J (e4 C ah t k)) (aj:k<=t.length) (bt:t.length<=100000) (cf:z.length<=100) (eF:(z.cps.toList <+: t.cps.toList.drop k->Q (.aS ao) (upd H aW (e4 C ah t (k+z.length))))) (gD:(¬z.cps.toList <+: t.cps.toList.drop k->Q (.aS aI) H))
def VF(nb:dD mg)(T:vO K C)(F:cU K "skip" "Cursor.skip" BL f fd):cB P w K mg zn cM 1 f fd ["self","words"] (Rl C):=by
 refine F.d1 Lj (fun H vs Q E au h=>?_);obtain⟨aW,ah,t,z,k,rfl,hc,hk,aP,bX,cn,b8⟩:=h
 refine⟨_,(aO (b4 2 Lj.br (h6 PySem.F.plainAttrs_str PySem.F.slot_str_startswith PySem.F.type_str_startswith YP (dp (af 0) I) (ak (af 1) (ak (dp (af 0) I) ay))))
  (aO (cq (h5 (af 2)) (aL (jg (af 0) (aM cv (dp (af 0) rfl) (c1 eh rfl nb.d5 ea (ak (af 1) ay))) rfl)) cm)
  (aL (aY (af 2))))),?_⟩
 ac_rfl;refine⟨_,I,aW,C,ah,_,_,I,hc,T.cl,T.j3,wF ..,I,_,I,_,I,aW,C,ah,_,_,I,hc,T.cl,T.kq,r1 ..,t,z,k,I,I,hk,?_⟩;refine⟨_,I,_,I,fM (fun c=>?_) (fun c=>?_)⟩
 ·refine⟨_,I,aW,C,ah,_,_,I,hc,T.cl,T.kq,r1 ..,_,I,_,_,I,⟨dS (by lia),I⟩,.inl ⟨_,_,I,I,_,I,aW,C,ah,_,I,hc,T.cl,T.kq,(by show 2<1000;decide),?_⟩⟩;have e:((k:Nat):Int)+((z.length:Nat):Int)=((k+z.length:Nat):Int):=by lia
  dsimp only;rw[e,NS];refine⟨_,I,_,.ins hc (fun b u nb e=>by rw[bx nb];exact e) aB,?_⟩;rw[eK c];exact cn c
 ·refine⟨_,I,H,.refl (cK _),?_⟩;rw[e8 c];exact b8 c
inductive QC(C:ag)(vs:List V)(H:aq)(Q:bI)(E:cP):Prop where
 |mk (aW ah:ag) (t z:aa) (k:Nat) (bb:vs=[.ref aW,.str z]) (ai:H aW=J (e4 C ah t k)) (aj:k<=t.length) (bt:t.length<=100000) (cf:z.length<=100) (eF:z.cps.toList <+: t.cps.toList.drop k) (gD:Q .bM (upd H aW (e4 C ah t (k+z.length))))
def TJ(T:vO K C)(F:cU K "expect" "Cursor.expect" AX f fd)(dH:e7 K C)(n9:fp P w K mg zn 1 C "skip" ["self","words"] (Rl C)):cB P w K mg zn cM 2 f fd ["self","words"] (QC C):=by
 refine F.ok Xl (fun vs H Q E h=>?_) (fun bg A _ s H vs Q E au h=>?_)
 .obtain⟨_,_,_,_,_,rfl,_⟩:=h;rfl
 obtain⟨aW,ah,t,z,k,rfl,hc,hk,aP,bX,aX,q⟩:=h;refine⟨_,(aL (cq (jI (h5 (lK n9 dH au (af 0) (ak (af 1) ay)))) (aL kG) cm)),?_⟩;ac_rfl;exact⟨_,I,aW,ah,_,I,hc,la ..,_,I,aW,ah,t,z,k,I,hc,hk,aP,bX,fun _=>⟨ao,I,e2 q⟩,fun n=>absurd aX n⟩
structure Tg(t:aa)(k:Nat)(bK:aa)(run post:List Nat):Prop where
 e:t.cps.toList.drop k=run++post
 a:∀c,c∈run->c∈bK.cps.toList
 n:∀c r,post=c::r->c∉bK.cps.toList
 k:k<=t.length
inductive Rg(C:ag)(vs:List V)(H:aq)(Q:bI)(E:cP):Prop where
 |mk (aW ah:ag) (t bK:aa) (k:Nat) (run post:List Nat) (bb:vs=[.ref aW,.str bK]) (ai:H aW=J (e4 C ah t k)) (aj:t.length<=100000) (bt:Tg t k bK run post) (cf:Q (.str ⟨run.toArray⟩) (upd H aW (e4 C ah t (k+run.length))))
def L2{t:aa}{run post:List Nat}(h:t.cps.toList.drop k=run++post)(hk:k<=t.length):Txt.slice t (J ((k:Nat):Int)) (J ((k+run.length:Nat):Int))=⟨run.toArray⟩:=by
 apply fk.yp;have fc:t.cps.toList.length=t.length:=fA;have aC:=congrArg List.length h;rw[lF,bE,fc]at aC;rw[fk.yg,dU.tZ,dU.tZ,Nat.min_eq_left hk,Nat.min_eq_left (by lia),h,Nat.add_sub_cancel_left,List.take_left']
 .rfl
def TI(T:vO K C)(F:cU K "run_of" "Cursor.run_of" AS f fd)(dH:e7 K C)(v3:fp P w K mg zn 1 C "ended" ["self"] (QB C)):cB P w K mg zn cM 2 f fd ["self","signs"] (Rg C):=by
 refine F.d1 Lc (fun H vs Q E au h=>?_);obtain⟨aW,ah,t,bK,k,run,post,rfl,hc,aP,R,q⟩:=h
 refine⟨_,(aO (b4 2 Lc.br (dp (af 0) I))
  (aO (pB iu.never (gA.pt (rX (jI (h5 (jn v3 dH au (af 0)))) (tp (Hc Mb (cI cJ (dp (af 0) rfl) (dp (af 0) rfl)) (af 1) (by with_unfolding_all rfl)))))
   (aL (jg (af 0) (aM cv (dp (af 0) rfl) aH) rfl)))
  (aL (aY (pC qr (dp (af 0) rfl) (mR (af 2)) (mR (dp (af 0) rfl))))))),?_⟩
 ac_rfl;have fc:t.cps.toList.length=t.length:=fA;have aC:=congrArg List.length R.e;rw[lF,bE,fc]at aC;have hk:=R.k;refine⟨_,I,aW,C,ah,_,_,I,hc,T.cl,T.kq,r1 ..,?_⟩;refine⟨fun m ab az=>∃i,m=run.length-i/\i<=run.length/\ab=[J (.ref aW),J (.str bK),J (.int ((k:Nat):Int))]/\az=upd H aW (e4 C ah t (k+i)),⟨run.length,0,I,UF _,I,(Cn hc).symm⟩,?_⟩;rintro m ab az ⟨i,rfl,aG,rfl,rfl⟩;have jO:(t.cps.toList.drop k)[i]?=t.cps.toList[k+i]?:=List.getElem?_drop;refine⟨_,I,aW,ah,_,I,aB,la ..,aW,ah,t,k+i,I,aB,aP,_,I,?_⟩;rcases h4 i run.length with z|z
 ·have kR:t.cps.toList[k+i]?=J run[i]:=by rw[<-jO,R.e,List.getElem?_append_left z,cw z]
  rw[e8 (show ¬k+i=t.length by lia)];refine ho ⟨_,I,aW,C,ah,_,_,I,aB,T.cl,T.j3,wF ..,_,I,aW,C,ah,_,_,I,aB,T.cl,T.kq,r1 ..,.inr ⟨_,_,_,I,I,dS aP,dF kR,_,I,_,_,I,I,_,I,?_⟩⟩;rw[StrLaws.found_one,eK (R.a _ (List.getElem_mem z))];refine ho ⟨fun cb H'=>∃b6,b6<run.length-i/\∃IV,b6=run.length-IV/\IV<=run.length/\cb=[J (.ref aW),J (.str bK),J (.int ((k:Nat):Int))]/\H'=upd H aW (e4 C ah t (k+IV)),fun _ _ h=>h,?_⟩;refine⟨_,I,aW,C,ah,_,_,I,aB,T.cl,T.kq,r1 ..,.inl ⟨_,_,I,I,_,I,aW,C,ah,_,I,aB,T.cl,T.kq,(by show 2<1000;decide),?_⟩⟩;have e:((k+i:Nat):Int)+1=((k+(i+1):Nat):Int):=by lia
  dsimp only;rw[e,NS,eS];exact⟨run.length-(i+1),by lia,i+1,rfl,z,rfl,rfl⟩
 ·obtain rfl:i=run.length:=by lia
  have dG:nk H (upd H aW (e4 C ah t (k+run.length))) (Q (.str ⟨run.toArray⟩)):=⟨_,.ins hc (fun b u nb e=>by rw[bx nb];exact e) aB,q⟩;cases post with
  |nil =>
   rw[List.length_nil]at aC;rw[eK (show k+run.length=t.length by lia)];refine e2 ?_;refine⟨_,I,aW,C,ah,_,_,I,aB,T.cl,T.j3,wF ..,_,I,_,I,_,I,aW,C,ah,_,_,I,aB,T.cl,T.kq,r1 ..,_,I,.inr ⟨_,I,dS aP,?_⟩⟩;rw[L2 R.e hk];exact dG
  |cons c r =>
   rw[dW]at aC;have kR:t.cps.toList[k+run.length]?=J c:=by rw[<-jO,R.e,List.getElem?_append_right (cR _),Nat.sub_self];rfl
   rw[e8 (show ¬k+run.length=t.length by lia)];refine ho ⟨_,I,aW,C,ah,_,_,I,aB,T.cl,T.j3,wF ..,_,I,aW,C,ah,_,_,I,aB,T.cl,T.kq,r1 ..,.inr ⟨_,_,_,I,I,dS aP,dF kR,_,I,_,_,I,I,_,I,?_⟩⟩;rw[StrLaws.found_one,e8 (R.n c r rfl)];refine e2 ?_;refine⟨_,I,aW,C,ah,_,_,I,aB,T.cl,T.j3,wF ..,_,I,_,I,_,I,aW,C,ah,_,_,I,aB,T.cl,T.kq,r1 ..,_,I,.inr ⟨_,I,dS aP,?_⟩⟩;rw[L2 R.e hk];exact dG
inductive Q5(C:ag)(vs:List V)(H:aq)(Q:bI)(E:cP):Prop where
 |mk (aW ah:ag) (t:aa) (k:Nat) (a:Int) (post:List Nat) (bb:vs=[.ref aW]) (ai:H aW=J (e4 C ah t k)) (aj:k<=t.length) (bt:t.length<=100000) (cf:t.cps.toList.drop k=num a++post) (eF:a.natAbs<10^58) (gD:(∀c r,post=c::r->c∉rD.cps.toList)) (kl:Q (.int a) (upd H aW (e4 C ah t (k+(num a).length))))
def qK{t:aa}{a b:List Nat}(h:t.cps.toList.drop k=a++b)(hk:k<=t.length):t.cps.toList.drop (k+a.length)=b/\k+a.length<=t.length:=by
 have fc:t.cps.toList.length=t.length:=fA;have aC:=congrArg List.length h;rw[lF,bE,fc]at aC;refine⟨?_,by lia⟩;rw[<-List.drop_drop,h,List.drop_left]
def MK(c:Nat):decide (V.str ⟨#[c]⟩=V.str "0")=decide (c=48):=by
 have e:aa.ofString "0"=⟨#[48]⟩:=⋯;rw[e];refine decide_eq_decide.mpr ⟨fun z=>?_,fun z=>by rw[z]⟩;have z:=V.str.inj z;injection z with z;have z:=congrArg (fun a=>a[0]?) z;simpa using z
def Mc:(aa.ofString "-").cps.toList=[45]:=⋯
def Y8(nb:dD mg)(dH:e7 K C)(HK:gj mg "FIGURES" (.str rD))(HN:gj mg "MOST_FIGURES" (.int 58))(F:dB K mg "number_at" Gd ["cursor"] f fd)(n9:fp P w K mg zn 1 C "skip" ["self","words"] (Rl C))(ma:fp P w K mg zn 2 C "run_of" ["self","signs"] (Rg C)):bf P w K mg zn 3 "number_at" ["cursor"] (Q5 C):=by show_term
 refine F.eH FZ (fun H vs Q E au h=>?_);obtain⟨aW,ah,t,k,a,post,rfl,hc,hk,aP,he,aN,O3,q⟩:=h
 refine⟨_,(aO (b4 1 FZ.br (lK n9 dH au (af 0) (ak bu ay)))
  (aO (b4 2 FZ.br (lK ma dH au (af 0) (ak (kI HK) ay)))
  (aO (cq (gA.pt (jD (bV dn (af 2) bu) (kh (bV lY (c1 eh rfl nb.d5 ea (ak (af 2) ay)) (kI HN))))) (aL kG) cm)
  (aO (cq (gA.pt (rX (bV dn (cI cJ (af 2) aH) bu) (tp (gA.pt (jD (h5 (af 1)) (kh (bV lY (c1 eh rfl nb.d5 ea (ak (af 2) ay)) aH))))))) (aL kG) cm)
  (aL (aY (oe (h5 (af 1)) (mU mP (mj wk rfl nb.vh uN (ak (af 2) ay))) (mj wk rfl nb.vh uN (ak (af 2) ay))))))))),?_⟩
 ac_rfl;have bJ:(aa.ofString "-").length=1:=⋯;by_cases ak7:a<0
 ·obtain⟨n,rfl⟩:∃n:Nat,a = -((n+1:Nat):Int):=⟨a.natAbs-1,by lia⟩;obtain⟨m,O1⟩:∃m,m=n+1:=⟨_,rfl⟩;have hm:m<10^58:=by lia
  have dj:num (-((n+1:Nat):Int))=45::fL m:=by rw[VI,O1];rfl
  rw[dj]at he q;have aX:(aa.ofString "-").cps.toList <+: t.cps.toList.drop k:=by rw[Mc,he];exact⟨_,I⟩
  refine⟨_,I,aW,ah,_,I,hc,la ..,aW,ah,t,aa.ofString "-",k,I,hc,hk,aP,(by lia),fun _=>?_,fun z=>absurd aX z⟩;obtain⟨e5,oD⟩:=qK (a:=[45]) (b:=fL m++post) he hk;rw[bJ];have js:upd H aW (e4 C ah t (k+1)) aW=J (e4 C ah t (k+1)):=aB;obtain⟨hC,nB⟩:∃hC,hC=k+1:=⟨_,rfl⟩;have e5:t.cps.toList.drop (k+1)=fL m++post:=e5;have oD:k+1<=t.length:=oD;rw[<-nB]at js oD e5 ⊢;refine⟨_,I,aW,ah,_,I,js,la ..,aW,ah,t,rD,hC,fL m,post,I,js,aP,⟨e5,(fun c hc=>Nt (CL m c hc)),O3,oD⟩,?_⟩;have p1:((⟨(fL m).toArray⟩:aa)).length=(fL m).length:=by show(fL m).toArray.size=_;rw[eg]
  have q6:=G8 hm;have lf:((⟨(fL m).toArray⟩:aa)).length<=cp:=by rw[p1];exact dS (by lia)
  obtain⟨hd,dQ,u5⟩:∃hd dQ,fL m=hd::dQ:=by
   cases e:fL m with
   |nil=>exact absurd e (yv m)
   |cons c r=>exact⟨c,r,I⟩
  have zi:(fL m).length=dQ.length+1:=by rw[u5];rfl
  refine⟨_,I,I,_,I,da (fun z=>?_) ⟨_,I,_,_,I,⟨lf,I⟩,_,_,I,I,_,I,da (by rw[p1];lia) ?_⟩⟩
  ·have:=(Hb _).mp (V.str.inj z);rw[p1]at this;lia
  refine⟨_,I,.inr ⟨_,_,_,I,I,lf,dF (j:=0) (by rw[u5];rfl),I,_,I,?_⟩⟩;rw[MK];have hB:hd≠48:=fun z=>Mo m (by lia) (by rw[u5,z];rfl);rw[e8 hB];refine e2 ⟨_,I,ao,I,ho ⟨_,I,.inr ⟨_,_,I,G9 hm,(by rw[p1];lia),_,I,?_⟩⟩⟩;rw[eS,nB,Nat.add_assoc,Nat.add_comm 1];rw[dW]at q;have cD : -((m:Nat):Int) = -((n+1:Nat):Int):=by rw[O1]
  dsimp only;rw[cD];exact⟨_,.ins hc (fun b u nb e=>by rw[bx nb];exact e) aB,q⟩
 ·obtain⟨m,rfl⟩:=Int.eq_ofNat_of_zero_le (show 0<=a by lia);have hm:m<10^58:=by lia
  have dj:num ((m:Nat):Int)=fL m:=VJ m;rw[dj]at he q
  have aX:¬(aa.ofString "-").cps.toList <+: t.cps.toList.drop k:=fun aX=>by
   rw[Mc,he]at aX;have Ie:=CL m;cases e:fL m with
   |nil=>exact yv m e
   |cons c r =>
    rw[e]at aX;obtain⟨w,hw⟩:=aX;have ai:(45:Nat)=c:=List.head_eq_of_cons_eq (show 45::w=c::(r++post)from hw);have aj:=Ie c (by rw[e];exact g0 ..);lia
  refine⟨_,I,aW,ah,_,I,hc,la ..,aW,ah,t,aa.ofString "-",k,I,hc,hk,aP,(by lia),fun z=>absurd z aX,fun _=>?_⟩;have e5:=he;have js:=hc;have oD:=hk;obtain⟨hC,nB⟩:∃hC,hC=k:=⟨_,rfl⟩;rw[<-nB]at js oD e5;refine⟨_,I,aW,ah,_,I,js,la ..,aW,ah,t,rD,hC,fL m,post,I,js,aP,⟨e5,(fun c hc=>Nt (CL m c hc)),O3,oD⟩,?_⟩;have p1:((⟨(fL m).toArray⟩:aa)).length=(fL m).length:=by show(fL m).toArray.size=_;rw[eg]
  have q6:=G8 hm;have lf:((⟨(fL m).toArray⟩:aa)).length<=cp:=by rw[p1];exact dS (by lia)
  obtain⟨hd,dQ,u5⟩:∃hd dQ,fL m=hd::dQ:=by
   cases e:fL m with
   |nil=>exact absurd e (yv m)
   |cons c r=>exact⟨c,r,I⟩
  have zi:(fL m).length=dQ.length+1:=by rw[u5];rfl
  refine⟨_,I,I,_,I,da (fun z=>?_) ⟨_,I,_,_,I,⟨lf,I⟩,_,_,I,I,_,I,da (by rw[p1];lia) ?_⟩⟩
  ·have:=(Hb _).mp (V.str.inj z);rw[p1]at this;lia
  refine⟨_,I,.inr ⟨_,_,_,I,I,lf,dF (j:=0) (by rw[u5];rfl),I,_,I,?_⟩⟩;rw[MK]
  have dG:c6.Sub H (upd H aW (e4 C ah t (hC+(fL m).length))) (upd H aW (e4 C ah t (hC+(fL m).length)))/\Q (.int ((m:Nat):Int)) (upd H aW (e4 C ah t (hC+(fL m).length))):=by
   rw[nB];exact⟨.ins hc (fun b u nb e=>by rw[bx nb];exact e) aB,q⟩
  by_cases HS:hd=48
  ·have tJ:m=0:=by
    rcases Nat.eq_zero_or_pos m with z|z
    .exact z
    .exact absurd (by rw[u5,HS];rfl) (Mo m (by lia))
   have mz:(fL m).length=1:=by rw[tJ,TZ];rfl
   rw[eK HS];refine ho ⟨_,I,aI,I,e2 ⟨_,I,_,_,I,⟨lf,I⟩,_,_,I,I,_,I,da (by rw[p1];lia) ?_⟩⟩;exact⟨_,I,aI,I,e2 ⟨_,I,.inr ⟨_,_,I,G9 hm,(by rw[p1];lia),_,dG.1,dG.2⟩⟩⟩
  ·rw[e8 HS];exact e2 ⟨_,I,aI,I,e2 ⟨_,I,.inr ⟨_,_,I,G9 hm,(by rw[p1];lia),_,dG.1,dG.2⟩⟩⟩
noncomputable def vr:List aa:=[aa.ofString "span",aa.ofString "letters",aa.ofString "maybe",aa.ofString "many",aa.ofString "turned",aa.ofString "record",aa.ofString "choice"]
inductive Qh(c:c9)(vs:List V)(H:aq)(Q:bI)(E:cP):Prop where
 |mk (w:aa) (bb:vs=[.str w]) (ai:((∃k:Fin 4,w=eT k/\∀x ah,H x=aA->H ah=aA->ah≠x->Q (.ref x) (upd (upd H ah (.own x)) x (.ins (c.b k) ah [])))\/(w∈vr/\Q .bM H)))
def Zg(F:dB K mg "bare_form" Gm ["word"] f fd)(rJ:kD K (c.b 0))(sF:mg "Nothing"=J (.ref (c.b 0)))(rK:kD K (c.b 1))(sG:mg "Truth"=J (.ref (c.b 1)))(rL:kD K (c.b 2))(sH:mg "Whole"=J (.ref (c.b 2)))(rI:kD K (c.b 3))(sE:mg "Fraction"=J (.ref (c.b 3))):bf P w K mg zn 1 "bare_form" ["word"] (Qh c):=by
 refine F.eH YZ (fun H vs Q E au h=>?_);obtain⟨ww,rfl,h⟩:=h
 refine⟨_,(aO (cq (bV dn (af 0) bu) (aL (aY (s4 rJ I sF))) cm)
  (aO (cq (bV dn (af 0) bu) (aL (aY (s4 rK rfl sG))) cm)
  (aO (cq (bV dn (af 0) bu) (aL (aY (s4 rL rfl sH))) cm)
  (aO (cq (bV dn (af 0) bu) (aL (aY (s4 rI rfl sE))) cm)
  (aL (aY yE)))))),?_⟩
 ac_rfl;rcases h with⟨k,rfl,q⟩|⟨hw,q⟩
 ·rcases qU k with rfl|rfl|rfl|rfl
  ·skip;refine⟨_,I,I,_,I,hp I fun x ah ai aj ep=>?_⟩;exact⟨_,(Ext.made ai aj ep).sub,q x ah ai aj ep⟩
  ·skip;refine⟨_,I,I,_,I,da ⋯ ?_⟩;refine⟨_,I,I,_,I,hp I fun x ah ai aj ep=>?_⟩;exact⟨_,(Ext.made ai aj ep).sub,q x ah ai aj ep⟩
  ·skip;refine⟨_,I,I,_,I,da ⋯ ?_⟩;refine⟨_,I,I,_,I,da ⋯ ?_⟩;refine⟨_,I,I,_,I,hp I fun x ah ai aj ep=>?_⟩;exact⟨_,(Ext.made ai aj ep).sub,q x ah ai aj ep⟩
  ·skip;refine⟨_,I,I,_,I,da ⋯ ?_⟩;refine⟨_,I,I,_,I,da ⋯ ?_⟩;refine⟨_,I,I,_,I,da ⋯ ?_⟩;refine⟨_,I,I,_,I,hp I fun x ah ai aj ep=>?_⟩;exact⟨_,(Ext.made ai aj ep).sub,q x ah ai aj ep⟩
 ·have no:∀k:Fin 4,¬V.str ww=V.str (eT k):=fun k z=>by
   have:∀k:Fin 4,eT k∉vr:=⋯;exact this k (by rw[<-V.str.inj z];exact hw)
  exact⟨_,I,I,_,I,da (no 0) ⟨_,I,I,_,I,da (no 1) ⟨_,I,I,_,I,da (no 2) ⟨_,I,I,_,I,da (no 3) ⟨H,.refl (cK _),q⟩⟩⟩⟩⟩
def ly(X:List ag)(H:aq):Prop:=∀x,x∈X->H x≠aA
def ly.fX(h:ly X H)(e:H a=aA):a∉X:=fun z=>h a z e
def ly.eX(h:ly X H)(m:cY aW H H')(e:H' aW=J o):ly X H':=fun x av z=>h x av (m.free e z)
def ly.ext(h:ly X H)(m:Ext H H'):ly X H':=fun x av z=>h x av (m.s.free z)
def AW(post:List Nat)(S:aa):Prop:=∀c r,post=c::r->c∉S.cps.toList
structure oa(H:aq)(C aW ah:ag)(t:aa)(k:Nat)(ajP:List Nat):Prop where
 hc:H aW=J (e4 C ah t k)
 hk:k<=t.length
 aC:t.length<=100000
 he:t.cps.toList.drop k=ajP
inductive QG(c:c9)(C:ag)(n:Nat)(vs:List V)(H:aq)(Q:bI)(E:cP):Prop where
 |mk (aW ah:ag) (t:aa) (k dep:Nat) (f:aU) (post:List Nat) (X:List ag) (bb:vs=[.ref aW,.int ((dep:Nat):Int)]) (ai:oa H C aW ah t k (bq f++post)) (aj:AW post fy) (bt:fE f) (cf:aP f<=n) (eF:dep+aP f<=9) (gD:aW∈X) (kl:ly X H) (kP:∀o H',cY aW H H'->H' aW=J (e4 C ah t (k+(bq f).length))->bG c X H' f o->Q (.ref o) H')
inductive Qj(c:c9)(C:ag)(n:Nat)(vs:List V)(H:aq)(Q:bI)(E:cP):Prop where
 |mk (aW ah:ag) (t:aa) (k dep:Nat) (f:aU) (post:List Nat) (X:List ag) (bb:vs=[.ref aW,.str (gw f),.int ((dep:Nat):Int)]) (ai:oa H C aW ah t k (bd f++(bN ")"++post))) (aj:zE f=aI) (bt:fE f) (cf:aP f<=n+1) (eF:dep+aP f<=9) (gD:aW∈X) (kl:ly X H) (kP:∀o H',cY aW H H'->H' aW=J (e4 C ah t (k+(bd f).length))->bG c X H' f o->Q (.ref o) H')
inductive Q9(c:c9)(C:ag)(n:Nat)(vs:List V)(H:aq)(Q:bI)(E:cP):Prop where
 |mk (aW ah:ag) (t:aa) (k dep:Nat) (nm:aa) (f:aU) (post:List Nat) (X:List ag) (bb:vs=[.ref aW,.int ((dep:Nat):Int)]) (ai:oa H C aW ah t k (nm.cps.toList++(bN " "++(bq f++post)))) (aj:AW post fy) (bt:isName nm=ao) (cf:fE f) (eF:aP f<=n) (gD:dep+aP f<=9) (kl:aW∈X) (kP:ly X H) (r7:∀T o H',cY aW H H'->H' aW=J (e4 C ah t (k+(nm.length+(1+(bq f).length))))->H T=aA->H' T=J (.tup [.str nm,.ref o])->bG c X H' f o->Q (.ref T) H')
def tm(x:aa):(⟨x.cps.toList.toArray⟩:aa)=x:=by
 obtain⟨c⟩:=x;rfl
def wA:bN " "=[32]:=⋯
def pJ:bN "("=[40]:=⋯
def mn:bN ")"=[41]:=⋯
def uO:bN ", "=[44,32]:=⋯
def vm:(32∉fy.cps.toList/\40∉fy.cps.toList)/\(41∉fy.cps.toList/\44∉fy.cps.toList):=⋯
def Zk{n:aa}(h:isName n=ao):∀c,c∈n.cps.toList->c∈fy.cps.toList:=fun c hc=>by
 unfold isName hM at h;simp only[ix,k6,hy]at h;exact h.2 c hc
def qD{c:Nat}{r:List Nat}{S:aa}(h:c∉S.cps.toList):AW (c::r) S:=fun d ey e=>by
 injection e with aQ aR;rw[<-aQ];exact h
def Z4{f C:ag}{c:c9}{fd:i9}{n:Nat}(dH:e7 K C)(ox:gj mg "SMALL_LETTERS" (.str fy))(F:dB K mg "part_at" Cp ["cursor","depth"] f fd)(ma:fp P w K mg zn 2 C "run_of" ["self","signs"] (Rg C))(nj:fp P w K mg zn 2 C "expect" ["self","words"] (QC C))
  (rA:bf P w K mg zn (4*n+8) "form_at" ["cursor","depth"] (QG c C n)):bf P w K mg zn (4*n+8+1) "part_at" ["cursor","depth"] (Q9 c C n):=by
 refine F.eH LQ (fun H vs Q E au h=>?_);obtain⟨aW,ah,t,k,dep,nm,bF,post,X,rfl,R,fV,h0,aF,bY,mx,m2,gP,q⟩:=h
 refine⟨_,(aO (b4 2 LQ.br (lK ma dH au (af 0) (ak (kI ox) ay)))
  (aO (iz (lK nj dH au (af 0) (ak bu ay)))
  (aL (aY (gJ (ak (af 2) (ak (b7 rA au (ak (af 0) (ak (af 1) ay))) ay))))))),?_⟩
 ac_rfl;obtain⟨hc,hk,gq,he⟩:=R;refine⟨_,I,aW,ah,_,I,hc,la ..,aW,ah,t,fy,k,nm.cps.toList,bN " "++(bq bF++post),I,hc,gq,⟨he,Zk h0,(by rw[wA];exact qD vm.1.1),hk⟩,?_⟩;rw[tm];obtain⟨my,i2⟩:=qK he hk;have ko:nm.cps.toList.length=nm.length:=fA;rw[ko]at my i2 ⊢;have aX:(aa.ofString " ").cps.toList <+: t.cps.toList.drop (k+nm.length):=by rw[my];exact⟨_,I⟩
 have bJ:(aa.ofString " ").length=1:=⋯;refine⟨_,I,aW,ah,_,I,aB,la ..,aW,ah,t,aa.ofString " ",k+nm.length,I,aB,i2,gq,(by lia),aX,?_⟩;rw[eS,bJ];obtain⟨lV,nA⟩:=qK (a:=bN " ") my i2;have bZ:(bN " ").length=1:=by rw[wA];rfl
 rw[bZ]at lV nA;have dk:=cY.move (fs':=kJ t (k+nm.length+1)) hc;have aQ:upd H aW (e4 C ah t (k+nm.length+1)) aW=J (e4 C ah t (k+nm.length+1)):=aB;refine⟨_,I,_,I,_,I,aW,ah,t,k+nm.length+1,dep,bF,post,X,I,⟨aQ,nA,gq,lV⟩,fV,aF,bY,mx,m2,gP.eX dk aQ,fun o H' gu aR bQ=>⟨hH,fun T bW=>?_⟩⟩;have i5:=dk.trans gu;have E:=Ext.tup (xs:=[V.str nm,V.ref o]) bW;have gn:=E.s _ _ aR;refine⟨_,(i5.ext E).sub gn,q T o _ (i5.ext E) (by rw[gn,Nat.add_assoc (k+nm.length) 1,Nat.add_assoc k]) (i5.free aR bW) aB ?_⟩;exact bG.keep (fun b u _ e=>E.s b u e) bF bQ
noncomputable def lZ(fs:List aU)(ns:List aa):List Nat:=match fs with|[]=>[]|_::_=>bN ", "++fi fs ns
def od(f:aU)(fs:List aU)(n:aa)(ns:List aa):fi (f::fs) (n::ns)=n.cps.toList++(bN " "++(bq f++lZ fs ns)):=by
 cases fs with
 |nil=>rw[fi];rfl
 |cons g r=>rw[fi];rfl
inductive Rb(c:c9)(C:ag)(n:Nat)(vs:List V)(H:aq)(Q:bI)(E:cP):Prop where
 |mk (aW ah:ag) (t:aa) (k dep:Nat) (fs:List aU) (ns:List aa) (post:List Nat) (X:List ag) (bb:vs=[.ref aW,.int ((dep:Nat):Int)]) (ai:oa H C aW ah t k (fi fs ns++(bN ")"++post))) (aj:fs≠[]) (bt:ns.length=fs.length) (cf:iQ ns=ao) (eF:lp fs) (gD:dv fs<=n) (kl:dep+dv fs<=9) (kP:aW∈X) (r7:ly X H) (Om:∀p aJ H',cY aW H H'->H' aW=J (e4 C ah t (k+(fi fs ns).length))->Parts H' p aJ->fv aJ=ns->d0 c X H' fs (hj aJ)->Q (.ref p) H')
structure Kj(c:c9)(C aW ah l:ag)(t:aa)(X:List ag)(post:List Nat)(vj n dep:Nat)(fs:List aU)(ns:List aa)(H:aq)(kO:List aU)(oS:List aa)(aJ:List (ag×aa×ag))(k:Nat):Prop where
 alE:∃r4,fs=r4++kO/\d0 c (l::X) H r4 (hj aJ)
 pn:ns=fv aJ++oS
 pl:H l=J (.lst (aJ.map fun x=>V.ref x.1))
 pt:∀x,x∈aJ->H x.1=J (.tup [.str x.2.1,.ref x.2.2])
 pr:oa H C aW ah t k (lZ kO oS++(bN ")"++post))
 alD:k+(lZ kO oS).length=vj
 alG:oS.length=kO.length
 po:lp kO
 alF:dv kO<=n/\dep+dv kO<=9
 xp:ly (l::X) H
def KU(fs:List aU)(ns:List aa)(post:List Nat):AW (lZ fs ns++(bN ")"++post)) fy:=by
 cases fs with
 |nil=>rw[mn];exact qD vm.2.1
 |cons g r =>
  unfold lZ;rw[uO];exact qD vm.2.2
def Ma{t:aa}{nm:aa}{f:aU}{post:List Nat}(h:t.cps.toList.drop k=nm.cps.toList++(bN " "++(bq f++post)))(hk:k<=t.length):t.cps.toList.drop (k+(nm.length+(1+(bq f).length)))=post/\k+(nm.length+(1+(bq f).length))<=t.length:=by
 have ko:nm.cps.toList.length=nm.length:=fA;have bZ:(bN " ").length=1:=by rw[wA];rfl
 have:=qK (a:=nm.cps.toList++(bN " "++bq f)) (b:=post) (by rw[h];simp only[eC]) hk;rwa [bE,bE,ko,bZ]at this
def Mj(h:iQ ns=ao){n:aa}(bj:n∈ns):isName n=ao:=by
 unfold iQ at h;simp only[ix,hy]at h;exact h.2 n bj
def ZB{f C:ag}{c:c9}{fd:i9}{n:Nat}(dH:e7 K C)(F:dB K mg "parts_at" Ca ["cursor","depth"] f fd)(n9:fp P w K mg zn 1 C "skip" ["self","words"] (Rl C))
  (JX:bf P w K mg zn (4*n+9) "part_at" ["cursor","depth"] (Q9 c C n)):bf P w K mg zn (4*n+9+1) "parts_at" ["cursor","depth"] (Rb c C n):=by show_term
 refine F.eH LC (fun H vs Q E au h=>?_);obtain⟨aW,ah,t,k,dep,fs,ns,post,X,rfl,R,hB,c0,eA,aF,bY,mx,m2,gP,q⟩:=h
 refine⟨_,(aO (b4 2 LC.br (e0 (ak (b7 JX au (ak (af 0) (ak (af 1) ay))) ay)))
  (aO (pB iu.never (h5 (lK n9 dH au (af 0) (ak bu ay)))
   (aL (iz (h6 PySem.F.plainAttrs_list PySem.F.slot_list_append PySem.F.type_list_append pA (af 2) (ak (b7 JX au (ak (af 0) (ak (af 1) ay))) ay)))))
  (aL (aY (af 2))))),?_⟩
 ac_rfl;obtain⟨vj,OU⟩:∃vj,vj=k+(fi fs ns).length:=⟨_,rfl⟩;rw[<-OU]at q;have oB:=jf eA
 obtain⟨f0,fs',rfl⟩:∃f0 fs',fs=f0::fs':=by
  cases fs with
  |nil=>exact absurd I hB
  |cons a b=>exact⟨a,b,I⟩
 obtain⟨qd,tV,rfl⟩:∃qd tV,ns=qd::tV:=by
  cases ns with
  |nil=>cases c0
  |cons a b=>exact⟨a,b,I⟩
 obtain⟨hc,hk,gq,he⟩:=R;have ko:qd.cps.toList.length=qd.length:=fA;have bZ:(bN " ").length=1:=by rw[wA];rfl
 rw[od,eC,eC,eC]at he;rw[od,bE,bE,bE,ko,bZ]at OU;have dN:fE f0/\lp fs':=by rw[lp]at aF;exact aF
 have akU:aP f0<=dv (f0::fs')/\dv fs'<=dv (f0::fs'):=by rw[dv];exact⟨Nat.le_max_left ..,Nat.le_max_right ..⟩
 refine⟨_,I,_,I,aW,ah,t,k,dep,qd,f0,lZ fs' tV++(bN ")"++post),X,I,⟨hc,hk,gq,he⟩,KU _ _ _,Mj eA (g0 ..),dN.1,by lia,by lia,m2,gP,fun T o H1 dk aQ bW mZ bQ=>⟨qQ,fun l aC=>?_⟩⟩;obtain⟨sf,OS⟩:=Ma he hk;have xQ:=Ext.lst (xs:=[V.ref T]) aC;have q0:=gP.eX dk aQ;have IZ:l≠aW:=fun z=>by rw[z,aQ]at aC;cases aC
 have w7:l∉X:=q0.fX aC;refine⟨fun m ab az=>∃kO oS aJ fD,m=kO.length/\ab=[J (.ref aW),J (.int ((dep:Nat):Int)),J (.ref l)]/\cY aW H az/\Kj c C aW ah l t X post vj n dep (f0::fs') (qd::tV) az kO oS aJ fD,⟨fs'.length,fs',tV,[(T,qd,o)],k+(qd.length+(1+(bq f0).length)),I,I,dk.ext xQ,?_⟩,?_⟩
 ·refine⟨⟨[f0],I,⟨o,[],I,bG.keep (fun b u _ e=>xQ.s b u e) f0 (bG.add aC f0 bQ),I⟩⟩,I,aB,fun x av=>?_,⟨xQ.s _ _ aQ,OS,gq,sf⟩,by lia,Nat.succ.inj c0,dN.2,⟨by lia,by lia⟩,?_⟩
  .rw[eB.mp av];exact xQ.s _ _ mZ
  ·intro x av;rcases dJ.mp av with z|z
   .rw[z,aB];exact fun y=>by cases y
   .exact(q0.ext xQ) x z
 rintro m ab az ⟨kO,oS,aJ,fD,rfl,rfl,gu,ae⟩;obtain⟨⟨r4,Ic,oy⟩,sk,gE,vd,⟨kR,i2,_,my⟩,sj,bX,zp,fg,acC⟩:=ae;have xl:(aa.ofString ", ").length=2:=⋯;cases kO with
 | nil =>
  obtain rfl:oS=[]:=List.length_eq_zero_iff.mp bX
  have aX:¬(aa.ofString ", ").cps.toList <+: t.cps.toList.drop fD:=by
   rw[my];show ¬bN ", " <+: []++(bN ")"++post);rw[uO,mn];rintro⟨r,au⟩;have:(44:Nat)=41:=List.head_eq_of_cons_eq (show 44::(32::r)=41::post from au);lia
  refine⟨_,I,aW,ah,_,I,kR,la ..,aW,ah,t,aa.ofString ", ",fD,I,kR,i2,gq,by lia,fun z=>absurd z aX,fun _=>⟨aI,rfl,e2 ?_⟩⟩;rw[List.append_nil]at Ic sk;have nB:fD=vj:=by rw[<-sj];rfl
  rw[nB]at kR;have hn:aJ.length=(qd::tV).length:=by rw[sk];unfold fv;rw[cd]
  refine⟨_,I,_,gu.sub kR,q l aJ az gu kR ⟨gE,vd,by have:=oB.1;lia,fun x av=>?_⟩ sk.symm ?_⟩
  .exact c5 (oB.2 _ (by rw[sk];exact List.mem_map.mpr ⟨x,av,rfl⟩)) (by decide)
  .rw[Ic];exact d0.weak (fun x av=>d9 _ av) r4 oy
 | cons f1 mv =>
  obtain⟨dc,sL,rfl⟩:∃dc sL,oS=dc::sL:=by
   cases oS with
   |nil=>cases bX
   |cons a b=>exact⟨a,b,I⟩
  have aX:(aa.ofString ", ").cps.toList <+: t.cps.toList.drop fD:=by
   rw[my];exact⟨fi (f1::mv) (dc::sL)++(bN ")"++post),by show bN ", "++_=(bN ", "++_)++_;rw[eC]⟩
  refine⟨_,I,aW,ah,_,I,kR,la ..,aW,ah,t,aa.ofString ", ",fD,I,kR,i2,gq,by lia,fun _=>⟨ao,rfl,ho ?_⟩,fun z=>absurd aX z⟩;rw[xl];obtain⟨lV,nA⟩:=qK (a:=bN ", ") (b:=fi (f1::mv) (dc::sL)++(bN ")"++post)) (by rw[my];show(bN ", "++_)++_=_;rw[eC]) i2;have kU:(bN ", ").length=2:=by rw[uO];rfl
  rw[kU]at lV nA;have i5:=gu.trans (cY.move (fs':=kJ t (fD+2)) kR);have gn:upd az aW (e4 C ah t (fD+2)) aW=J (e4 C ah t (fD+2)):=aB;have q7:upd az aW (e4 C ah t (fD+2)) l=J (.lst (aJ.map fun x=>V.ref x.1)):=by rw[bx IZ];exact gE
  have oI:∀b u,b≠aW->az b=J u->upd az aW (e4 C ah t (fD+2)) b=J u:=fun b u nb e=>by rw[bx nb];exact e
  have HT:ly (l::X) (upd az aW (e4 C ah t (fD+2))):=acC.eX (cY.move kR) gn;generalize upd az aW (e4 C ah t (fD+2))=b5 at i5 gn q7 oI HT ⊢;have adx:dc.cps.toList.length=dc.length:=fA;rw[od,eC,eC,eC]at lV;have zq:fE f1/\lp mv:=by rw[lp]at zp;exact zp
  have DA:aP f1<=dv (f1::mv)/\dv mv<=dv (f1::mv):=by rw[dv];exact⟨Nat.le_max_left ..,Nat.le_max_right ..⟩
  have adE:dc∈qd::tV:=by rw[sk];exact nq _ (g0 ..)
  refine⟨fun cb H'=>∃b6,b6<(f1::mv).length/\∃kO oS aJ fD,b6=kO.length/\cb=[J (.ref aW),J (.int ((dep:Nat):Int)),J (.ref l)]/\cY aW H H'/\Kj c C aW ah l t X post vj n dep (f0::fs') (qd::tV) H' kO oS aJ fD,fun _ _ h=>h,?_⟩;refine⟨_,I,.inl ⟨I,_,bp q7⟩,_,I,_,I,aW,ah,t,fD+2,dep,dc,f1,lZ mv sL++(bN ")"++post),l::X,I,⟨gn,nA,gq,lV⟩,KU _ _ _,Mj eA adE,zq.1,by lia,by lia,d9 _ m2,HT,fun wd vp gW j2 lN tD lS acF=>?_⟩;have zg:=j2.k _ _ IZ q7
  have hn:aJ.length<=20:=by
   have ai:=congrArg List.length sk;unfold fv at ai;rw[bE,cd]at ai;have:=oB.1;lia
  refine⟨l,_,_,I,I,zg,(by rw[cd];exact fz (show aJ.length<100000 by lia) (by decide)),?_⟩;have ae7:wd≠l:=fun z=>by rw[z,q7]at tD;cases tD
  obtain⟨y6,Io⟩:=Ma lV nA
  have ck:∀b u,b∉l::X->az b=J u->upd gW l (.lst ((aJ.map fun x=>V.ref x.1)++[V.ref wd])) b=J u:=fun b u nb e=>by
   have dc:b≠l:=fun z=>nb (by rw[z];exact g0 ..);have dm:b≠aW:=fun z=>nb (by rw[z];exact d9 _ m2);rw[bx dc];exact j2.k b u dm (oI b u dm e)
  have qc:∀b u,b∉l::X->gW b=J u->upd gW l (.lst ((aJ.map fun x=>V.ref x.1)++[V.ref wd])) b=J u:=fun b u nb e=>by
   rw[bx (fun z=>nb (by rw[z];exact g0 ..))];exact e
  have pP:upd gW l (.lst ((aJ.map fun x=>V.ref x.1)++[V.ref wd])) aW=J (e4 C ah t (fD+2+(dc.length+(1+(bq f1).length)))):=by rw[bx (fJ IZ)];exact lN
  have oE:H l=aA:=dk.free aQ aC;refine⟨mv.length,by rw[dW];lia,mv,sL,aJ++[(wd,dc,vp)],fD+2+(dc.length+(1+(bq f1).length)),rfl,rfl,?_,?_⟩
  ·have nH:=i5.trans j2;exact⟨fun b u nb e=>by rw[bx (hz e oE)];exact nH.k b u nb e,fun cl=>ur zg (nH.c cl)⟩
  ·refine⟨⟨r4++[f1],by rw[Ic,eC];rfl,?_⟩,?_,?_,fun x av=>?_,⟨pP,Io,gq,y6⟩,?_,Nat.succ.inj bX,zq.2,⟨by lia,by lia⟩,fun x av=>?_⟩
   ·unfold hj;rw[fR];exact d0.snoc (bG.keep qc f1 acF) r4 (d0.keep ck r4 oy)
   .rw[sk];unfold fv;rw[fR,eC];rfl
   .rw[aB,fR];rfl
   ·rcases List.mem_append.mp av with y|y
    ·have zA:=vd x y;have ae5:x.1≠l:=fun z=>by rw[z,gE]at zA;cases zA
     have Pz:x.1≠aW:=fun z=>by rw[z,kR]at zA;cases zA
     rw[bx ae5];exact j2.k _ _ Pz (oI _ _ Pz zA)
    ·rw[eB.mp y];show upd gW l _ wd=_;rw[bx ae7];exact lS
   ·rw[<-sj]
    have:(lZ (f1::mv) (dc::sL)).length=2+(dc.length+(1+((bq f1).length+(lZ mv sL).length))):=by
     show(bN ", "++fi (f1::mv) (dc::sL)).length=_;rw[bE,kU,od,bE,bE,bE,adx,bZ]
    lia
   ·by_cases z:x=l
    .rw[z,aB];exact fun y=>by cases y
    .rw[bx z];exact(HT.eX j2 lN) x av
inductive Rm(c:c9)(C:ag)(vs:List V)(H:aq)(Q:bI)(E:cP):Prop where
 |mk (aW ah:ag) (t:aa) (k:Nat) (a b:Int) (post:List Nat) (X:List ag) (bb:vs=[.ref aW]) (ai:oa H C aW ah t k (bd (.sp a b)++(bN ")"++post))) (aj:fE (.sp a b)) (bt:ly X H) (cf:∀o H',cY aW H H'->H' aW=J (e4 C ah t (k+(bd (.sp a b)).length))->bG c X H' (.sp a b) o->Q (.ref o) H')
def KZ:44∉rD.cps.toList/\41∉rD.cps.toList:=⋯
def Wx:41∉mL.cps.toList:=⋯
def Z3(dH:e7 K C)(F:dB K mg "span_at" GI ["cursor"] f fd)(nj:fp P w K mg zn 2 C "expect" ["self","words"] (QC C))(Aq:bf P w K mg zn 3 "number_at" ["cursor"] (Q5 C))(rO:gX P w K mg zn 1 "Span" c.s ["self","low","high"] (Rn c.s)):bf P w K mg zn 4 "span_at" ["cursor"] (Rm c C):=by
 refine F.eH LP (fun H vs Q E au h=>?_);obtain⟨aW,ah,t,k,a,b,post,X,rfl,⟨hc,hk,gq,he⟩,aF,gP,q⟩:=h
 refine⟨_,(aO (b4 1 LP.br (b7 Aq au (ak (af 0) ay)))
  (aO (iz (lK nj dH au (af 0) (ak bu ay)))
  (aL (aY (kH rO au (ak (af 1) (ak (b7 Aq au (ak (af 0) ay)) ay))))))),?_⟩
 ac_rfl;rw[fE]at aF;obtain⟨OE,aN,al⟩:=aF;have q3:t.cps.toList.drop k=num a++(bN ", "++(num b++(bN ")"++post))):=by rw[he];show(num a++(bN ", "++num b))++_=_;simp only[eC]
 refine⟨_,I,aW,ah,t,k,a,_,I,hc,hk,gq,q3,aN,(by rw[uO];exact qD KZ.1),?_⟩;obtain⟨my,i2⟩:=qK q3 hk;have xl:(aa.ofString ", ").length=2:=⋯;have kU:(bN ", ").length=2:=by rw[uO];rfl
 have aX:(aa.ofString ", ").cps.toList <+: t.cps.toList.drop (k+(num a).length):=by rw[my];exact⟨_,I⟩
 refine⟨_,I,aW,ah,_,I,aB,la ..,aW,ah,t,aa.ofString ", ",k+(num a).length,I,aB,i2,gq,by lia,aX,?_⟩;rw[eS,xl];obtain⟨lV,nA⟩:=qK (a:=bN ", ") my i2;rw[kU]at lV nA;refine⟨_,I,_,I,aW,ah,t,_,b,_,I,aB,nA,gq,lV,al,(by rw[mn];exact qD KZ.2),?_⟩;rw[eS]
 have iB:k+(num a).length+2+(num b).length=k+(bd (.sp a b)).length:=by
  show _=k+(num a++(bN ", "++num b)).length;rw[bE,bE,kU];lia
 rw[iB];intro x gC ai aj ep;have dk:=cY.move (fs':=kJ t (k+(bd (.sp a b)).length)) hc;have aQ:upd H aW (e4 C ah t (k+(bd (.sp a b)).length)) aW=J (e4 C ah t (k+(bd (.sp a b)).length)):=aB;refine⟨x,gC,a,b,I,aB,OE,I,?_⟩;rw[eS];have E:=Ext.made (C:=c.s) (fs:=Jz a b) ai aj ep;have aR:=E.s _ _ aQ;refine⟨_,(dk.ext E).sub aR,q x _ (dk.ext E) aR ?_⟩;exact⟨(gP.eX dk aQ).fX ai,gC,aB⟩
inductive QW(c:c9)(C:ag)(vs:List V)(H:aq)(Q:bI)(E:cP):Prop where
 |mk (aW ah:ag) (t:aa) (k:Nat) (bK:aa) (post:List Nat) (X:List ag) (bb:vs=[.ref aW]) (ai:oa H C aW ah t k (bK.cps.toList++(bN ")"++post))) (aj:fE (.le bK)) (bt:ly X H) (cf:∀o H',cY aW H H'->H' aW=J (e4 C ah t (k+bK.cps.toList.length))->bG c X H' (.le bK) o->Q (.ref o) H')
def Zl{s:aa}(h:qY s=ao):∀c,c∈s.cps.toList->c∈mL.cps.toList:=fun c hc=>by
 unfold qY hM at h;simp only[ix,k6,hy]at h;exact h.2 c hc
def YH(dH:e7 K C)(wN:gj mg "LETTERS_AND_FIGURES" (.str mL))(F:dB K mg "letters_at" F3 ["cursor"] f fd)(ma:fp P w K mg zn 2 C "run_of" ["self","signs"] (Rg C))(rN:gX P w K mg zn 2 "Letters" c.l ["self","signs"] (QX c.l)):bf P w K mg zn 4 "letters_at" ["cursor"] (QW c C):=by
 refine F.eH Yu (fun H vs Q E au h=>?_);obtain⟨aW,ah,t,k,bK,post,X,rfl,⟨hc,hk,gq,he⟩,aF,gP,q⟩:=h;refine⟨_,(aL (aY (kH rN au (ak (lK ma dH au (af 0) (ak (kI wN) ay)) ay)))),?_⟩;ac_rfl;rw[fE]at aF;refine⟨_,I,aW,ah,_,I,hc,la ..,aW,ah,t,mL,k,bK.cps.toList,bN ")"++post,I,hc,gq,⟨he,Zl aF.1,(by rw[mn];exact qD Wx),hk⟩,?_⟩;rw[tm];intro x gC ai aj ep;have dk:=cY.move (fs':=kJ t (k+bK.cps.toList.length)) hc;have aQ:upd H aW (e4 C ah t (k+bK.cps.toList.length)) aW=J (e4 C ah t (k+bK.cps.toList.length)):=aB;refine⟨x,gC,bK,I,aB,by lia,aF.1,rfl,?_⟩;rw[eS];have E:=Ext.made (C:=c.l) (fs:=I0 bK) ai aj ep;have aR:=E.s _ _ aQ;refine⟨_,(dk.ext E).sub aR,q x _ (dk.ext E) aR ?_⟩;exact⟨(gP.eX dk aQ).fX ai,gC,aB⟩
def Zf(F:dB K mg "bracketed_form_at" Bg ["cursor","word","depth"] f fd)(vW:bf P w K mg zn 4 "span_at" ["cursor"] (Rm c C))(vU:bf P w K mg zn 4 "letters_at" ["cursor"] (QW c C))(rA:bf P w K mg zn (4*n+8) "form_at" ["cursor","depth"] (QG c C n))(JY:bf P w K mg zn (4*n+10) "parts_at" ["cursor","depth"] (Rb c C n))
  (l9:gX P w K mg zn 4 "Record" (c.t 0) ["self","parts"] (Rv (c.t 0))) (l8:gX P w K mg zn 4 "Choice" (c.t 1) ["self","cases"] (Rv (c.t 1))) (n6:gX P w K mg zn 1 "Maybe" (c.o 0) ["self","inner"] (Q7 (c.o 0))) (n5:gX P w K mg zn 1 "Many" (c.o 1) ["self","inner"] (Q7 (c.o 1))) (n7:gX P w K mg zn 1 "Turned" (c.o 2) ["self","inner"] (Q7 (c.o 2))) :
  bf P w K mg zn (4*n+10+1) "bracketed_form_at" ["cursor","word","depth"] (Qj c C n):=by show_term
 refine F.eH WN (fun H vs Q E au h=>?_);obtain⟨aW,ah,t,k,dep,bF,post,X,rfl,⟨hc,hk,gq,he⟩,mY,aF,bY,mx,m2,gP,q⟩:=h
 refine⟨_,(aO (cq (bV dn (af 1) bu) (aL (aY (b7 vW au (ak (af 0) ay)))) cm)
  (aO (cq (bV dn (af 1) bu) (aL (aY (b7 vU au (ak (af 0) ay)))) cm)
  (aO (cq (bV dn (af 1) bu) (aL (aY (kH n6 au (ak (b7 rA au (ak (af 0) (ak (aM cv (af 2) aH) ay))) ay)))) cm)
  (aO (cq (bV dn (af 1) bu) (aL (aY (kH n5 au (ak (b7 rA au (ak (af 0) (ak (aM cv (af 2) aH) ay))) ay)))) cm)
  (aO (cq (bV dn (af 1) bu) (aL (aY (kH l9 au (ak (b7 JY au (ak (af 0) (ak (aM cv (af 2) aH) ay))) ay)))) cm)
  (aO (cq (bV dn (af 1) bu) (aL (aY (kH l8 au (ak (b7 JY au (ak (af 0) (ak (aM cv (af 2) aH) ay))) ay)))) cm)
  (aO (cq (bV dn (af 1) bu) (aL (aY (kH n7 au (ak (b7 rA au (ak (af 0) (ak (aM cv (af 2) aH) ay))) ay)))) cm)
  (aL kG)))))))),?_⟩
 ac_rfl;cases bF with
 |bare k=>cases mY
 |sp a b =>
  exact⟨_,I,I,_,I,hp I ⟨_,I,aW,ah,t,k,a,b,post,X,I,⟨hc,hk,gq,he⟩,aF,gP,fun o H' m e bQ=>⟨_,m.sub e,q o H' m e bQ⟩⟩⟩
 |le bK =>
  refine⟨_,I,I,_,I,da (show ¬V.str "letters"=V.str _ from by decide+kernel) ?_⟩;exact⟨_,I,I,_,I,hp I ⟨_,I,aW,ah,t,k,bK,post,X,I,⟨hc,hk,gq,he⟩,aF,gP,fun o H' m e bQ=>⟨_,m.sub e,q o H' m e bQ⟩⟩⟩
 | one i fZ =>
  rcases pT i with rfl|rfl|rfl
  ·obtain⟨eU,gL⟩:∃eU,eU=c.o 0:=⟨_,rfl⟩;rw[<-gL];refine⟨_,I,I,_,I,da (show ¬V.str (dV 0)=V.str _ from by decide+kernel) ?_⟩;refine⟨_,I,I,_,I,da (show ¬V.str (dV 0)=V.str _ from by decide+kernel) ?_⟩;refine⟨_,I,I,_,I,hp I ?_⟩;have fm:aP fZ+1<=n+1:=by rw[aP]at bY;exact bY
   have Dy:dep+(aP fZ+1)<=9:=by rw[aP]at mx;exact mx
   have dN:fE fZ:=by rw[fE]at aF;exact aF
   refine⟨_,I,_,I,.inl ⟨_,_,I,I,aW,ah,t,k,dep+1,fZ,bN ")"++post,X,I,⟨hc,hk,gq,he⟩,(by rw[mn];exact qD vm.2.1),dN,by lia,by lia,m2,gP,fun i H1 dk aQ bQ=>?_⟩⟩;intro x gC ai aj ep;refine⟨x,gC,i,I,aB,I,?_⟩;rw[eS];have E:=Ext.made (C:=eU) (fs:=[("inner",V.ref i)]) ai aj ep;have aR:=E.s _ _ aQ;refine⟨_,(dk.ext E).sub aR,q x _ (dk.ext E) aR ⟨(gP.eX dk aQ).fX ai,gC,i,by rw[<-gL];exact aB,bG.keep (fun b u _ e=>E.s b u e) fZ bQ⟩⟩
  ·obtain⟨eU,gL⟩:∃eU,eU=c.o 1:=⟨_,rfl⟩;rw[<-gL];refine⟨_,I,I,_,I,da (show ¬V.str (dV 1)=V.str _ from by decide+kernel) ?_⟩;refine⟨_,I,I,_,I,da (show ¬V.str (dV 1)=V.str _ from by decide+kernel) ?_⟩;refine⟨_,I,I,_,I,da (show ¬V.str (dV 1)=V.str _ from by decide+kernel) ?_⟩;refine⟨_,I,I,_,I,hp I ?_⟩;have fm:aP fZ+1<=n+1:=by rw[aP]at bY;exact bY
   have Dy:dep+(aP fZ+1)<=9:=by rw[aP]at mx;exact mx
   have dN:fE fZ:=by rw[fE]at aF;exact aF
   refine⟨_,I,_,I,.inl ⟨_,_,I,I,aW,ah,t,k,dep+1,fZ,bN ")"++post,X,I,⟨hc,hk,gq,he⟩,(by rw[mn];exact qD vm.2.1),dN,by lia,by lia,m2,gP,fun i H1 dk aQ bQ=>?_⟩⟩;intro x gC ai aj ep;refine⟨x,gC,i,I,aB,I,?_⟩;rw[eS];have E:=Ext.made (C:=eU) (fs:=[("inner",V.ref i)]) ai aj ep;have aR:=E.s _ _ aQ;refine⟨_,(dk.ext E).sub aR,q x _ (dk.ext E) aR ⟨(gP.eX dk aQ).fX ai,gC,i,by rw[<-gL];exact aB,bG.keep (fun b u _ e=>E.s b u e) fZ bQ⟩⟩
  ·obtain⟨eU,gL⟩:∃eU,eU=c.o 2:=⟨_,rfl⟩;rw[<-gL];refine⟨_,I,I,_,I,da (show ¬V.str (dV 2)=V.str _ from by decide+kernel) ?_⟩;refine⟨_,I,I,_,I,da (show ¬V.str (dV 2)=V.str _ from by decide+kernel) ?_⟩;refine⟨_,I,I,_,I,da (show ¬V.str (dV 2)=V.str _ from by decide+kernel) ?_⟩;refine⟨_,I,I,_,I,da (show ¬V.str (dV 2)=V.str _ from by decide+kernel) ?_⟩;refine⟨_,I,I,_,I,da (show ¬V.str (dV 2)=V.str _ from by decide+kernel) ?_⟩;refine⟨_,I,I,_,I,da (show ¬V.str (dV 2)=V.str _ from by decide+kernel) ?_⟩;refine⟨_,I,I,_,I,hp I ?_⟩;have fm:aP fZ+1<=n+1:=by rw[aP]at bY;exact bY
   have Dy:dep+(aP fZ+1)<=9:=by rw[aP]at mx;exact mx
   have dN:fE fZ:=by rw[fE]at aF;exact aF
   refine⟨_,I,_,I,.inl ⟨_,_,I,I,aW,ah,t,k,dep+1,fZ,bN ")"++post,X,I,⟨hc,hk,gq,he⟩,(by rw[mn];exact qD vm.2.1),dN,by lia,by lia,m2,gP,fun i H1 dk aQ bQ=>?_⟩⟩;intro x gC ai aj ep;refine⟨x,gC,i,I,aB,I,?_⟩;rw[eS];have E:=Ext.made (C:=eU) (fs:=[("inner",V.ref i)]) ai aj ep;have aR:=E.s _ _ aQ;refine⟨_,(dk.ext E).sub aR,q x _ (dk.ext E) aR ⟨(gP.eX dk aQ).fX ai,gC,i,by rw[<-gL];exact aB,bG.keep (fun b u _ e=>E.s b u e) fZ bQ⟩⟩
 | two i ns fZ =>
  rcases mX i with rfl|rfl
  ·obtain⟨eU,gL⟩:∃eU,eU=c.t 0:=⟨_,rfl⟩;rw[<-gL];refine⟨_,I,I,_,I,da (show ¬V.str (ez 0)=V.str _ from by decide+kernel) ?_⟩;refine⟨_,I,I,_,I,da (show ¬V.str (ez 0)=V.str _ from by decide+kernel) ?_⟩;refine⟨_,I,I,_,I,da (show ¬V.str (ez 0)=V.str _ from by decide+kernel) ?_⟩;refine⟨_,I,I,_,I,da (show ¬V.str (ez 0)=V.str _ from by decide+kernel) ?_⟩;refine⟨_,I,I,_,I,hp I ?_⟩;have fm:dv fZ+1<=n+1:=by rw[aP]at bY;exact bY
   have Dy:dep+(dv fZ+1)<=9:=by rw[aP]at mx;exact mx
   have dN:iQ ns=ao/\ns.length=fZ.length/\lp fZ:=by rw[fE]at aF;exact aF
   have hB:fZ≠[]:=fun z=>by
    have ai:=dN.1;rw[z]at dN;have:ns=[]:=List.length_eq_zero_iff.mp dN.2.1;rw[this]at ai;cases ai
   refine⟨_,I,_,I,.inl ⟨_,_,I,I,aW,ah,t,k,dep+1,fZ,ns,post,X,I,⟨hc,hk,gq,he⟩,hB,dN.2.1,dN.1,dN.2.2,by lia,by lia,m2,gP,fun p aJ H1 dk aQ dX h0 bQ=>?_⟩⟩;intro y gC ba kn zm;have eV:=Ext.made (C:=eU) (fs:=[]) ba kn zm;refine⟨y,gC,p,aJ,I,aB,dX.same eV.s,by rw[h0];exact dN.1,fun bJ bZ ai aj ep=>⟨I,?_⟩⟩;have dc:bJ≠y:=fun z=>by rw[z,aB]at ai;cases ai
   have dm:bZ≠y:=fun z=>by rw[z,aB]at aj;cases aj
   rw[oc dm,oc dc,eS];have gy:=Ext.made (C:=eU) (fs:=k0 bJ bZ) ba kn zm;have g1:upd (upd H1 gC (.own y)) y (.ins eU gC (k0 bJ bZ)) bJ=aA:=by rw[bx dc]at ai ⊢;exact ai
   have fH:=Ext.lst (xs:=(fv aJ).map V.str) g1;have g2:upd (upd (upd H1 gC (.own y)) y (.ins eU gC (k0 bJ bZ))) bJ (.lst ((fv aJ).map V.str)) bZ=aA:=by rw[bx (fJ ep)];rw[bx dm]at aj ⊢;exact aj
   have ji:=Ext.lst (xs:=(hj aJ).map V.ref) g2;have E:=(gy.trans fH).trans ji;have aR:=E.s _ _ aQ;have q0:=gP.eX dk aQ;refine⟨_,(dk.ext E).sub aR,q y _ (dk.ext E) aR ⟨q0.fX ba,gC,bJ,bZ,hj aJ,by rw[<-gL];exact(fH.trans ji).s _ _ aB,q0.fX (gy.s.free g1),q0.fX ((gy.trans fH).s.free g2),by rw[<-h0];exact ji.s _ _ aB,aB,d0.keep (fun b u _ e=>E.s b u e) fZ bQ⟩⟩
  ·obtain⟨eU,gL⟩:∃eU,eU=c.t 1:=⟨_,rfl⟩;rw[<-gL];refine⟨_,I,I,_,I,da (show ¬V.str (ez 1)=V.str _ from by decide+kernel) ?_⟩;refine⟨_,I,I,_,I,da (show ¬V.str (ez 1)=V.str _ from by decide+kernel) ?_⟩;refine⟨_,I,I,_,I,da (show ¬V.str (ez 1)=V.str _ from by decide+kernel) ?_⟩;refine⟨_,I,I,_,I,da (show ¬V.str (ez 1)=V.str _ from by decide+kernel) ?_⟩;refine⟨_,I,I,_,I,da (show ¬V.str (ez 1)=V.str _ from by decide+kernel) ?_⟩;refine⟨_,I,I,_,I,hp I ?_⟩;have fm:dv fZ+1<=n+1:=by rw[aP]at bY;exact bY
   have Dy:dep+(dv fZ+1)<=9:=by rw[aP]at mx;exact mx
   have dN:iQ ns=ao/\ns.length=fZ.length/\lp fZ:=by rw[fE]at aF;exact aF
   have hB:fZ≠[]:=fun z=>by
    have ai:=dN.1;rw[z]at dN;have:ns=[]:=List.length_eq_zero_iff.mp dN.2.1;rw[this]at ai;cases ai
   refine⟨_,I,_,I,.inl ⟨_,_,I,I,aW,ah,t,k,dep+1,fZ,ns,post,X,I,⟨hc,hk,gq,he⟩,hB,dN.2.1,dN.1,dN.2.2,by lia,by lia,m2,gP,fun p aJ H1 dk aQ dX h0 bQ=>?_⟩⟩;intro y gC ba kn zm;have eV:=Ext.made (C:=eU) (fs:=[]) ba kn zm;refine⟨y,gC,p,aJ,I,aB,dX.same eV.s,by rw[h0];exact dN.1,fun bJ bZ ai aj ep=>⟨I,?_⟩⟩;have dc:bJ≠y:=fun z=>by rw[z,aB]at ai;cases ai
   have dm:bZ≠y:=fun z=>by rw[z,aB]at aj;cases aj
   rw[oc dm,oc dc,eS];have gy:=Ext.made (C:=eU) (fs:=k0 bJ bZ) ba kn zm;have g1:upd (upd H1 gC (.own y)) y (.ins eU gC (k0 bJ bZ)) bJ=aA:=by rw[bx dc]at ai ⊢;exact ai
   have fH:=Ext.lst (xs:=(fv aJ).map V.str) g1;have g2:upd (upd (upd H1 gC (.own y)) y (.ins eU gC (k0 bJ bZ))) bJ (.lst ((fv aJ).map V.str)) bZ=aA:=by rw[bx (fJ ep)];rw[bx dm]at aj ⊢;exact aj
   have ji:=Ext.lst (xs:=(hj aJ).map V.ref) g2;have E:=(gy.trans fH).trans ji;have aR:=E.s _ _ aQ;have q0:=gP.eX dk aQ;refine⟨_,(dk.ext E).sub aR,q y _ (dk.ext E) aR ⟨q0.fX ba,gC,bJ,bZ,hj aJ,by rw[<-gL];exact(fH.trans ji).s _ _ aB,q0.fX (gy.s.free g1),q0.fX ((gy.trans fH).s.free g2),by rw[<-h0];exact ji.s _ _ aB,aB,d0.keep (fun b u _ e=>E.s b u e) fZ bQ⟩⟩
def Vi(f:aU)(h:zE f=aI):gw f∈vr:=by
 have aK:∀k:Fin 3,dV k∈vr:=⋯;have aP:∀k:Fin 2,ez k∈vr:=⋯;have hs:aa.ofString "span"∈vr:=⋯;have aC:aa.ofString "letters"∈vr:=⋯;cases f with
 |bare k=>cases h
 |sp a b=>exact hs
 |le s=>exact aC
 |one k f=>exact aK k
 |two k ns fs=>exact aP k
def YU(dH:e7 K C)(ox:gj mg "SMALL_LETTERS" (.str fy))(wQ:gj mg "MOST_DEEP" (.int 8))(F:dB K mg "form_at" Cq ["cursor","depth"] f fd)(ma:fp P w K mg zn 2 C "run_of" ["self","signs"] (Rg C))(nj:fp P w K mg zn 2 C "expect" ["self","words"] (QC C))(vQ:bf P w K mg zn 1 "bare_form" ["word"] (Qh c))
  (R7:bf P w K mg zn (4*n+11) "bracketed_form_at" ["cursor","word","depth"] (Qj c C n)):bf P w K mg zn (4*n+11+1) "form_at" ["cursor","depth"] (QG c C (n+1)):=by show_term
 refine F.eH B9 (fun H vs Q E au h=>?_);obtain⟨aW,ah,t,k,dep,bF,post,X,rfl,⟨hc,hk,gq,he⟩,fV,aF,bY,mx,m2,gP,q⟩:=h
 refine⟨_,(aO (cq (bV lY (af 1) (kI wQ)) (aL kG) cm)
  (aO (b4 2 B9.br (lK ma dH au (af 0) (ak (kI ox) ay)))
  (aO (b4 3 B9.br (b7 vQ au (ak (af 2) ay)))
  (aO (cq (bV KQ (af 3) yE) (aO (iz (lK nj dH au (af 0) (ak bu ay)))
   (aO (b4 3 B9.br (b7 R7 au (ak (af 0) (ak (af 2) (ak (af 1) ay)))))
   (aL (iz (lK nj dH au (af 0) (ak bu ay)))))) cm)
  (aL (aY (af 3))))))),?_⟩
 ac_rfl;have m5:=oh bF;refine⟨_,I,_,_,I,I,_,I,da (by lia) ?_⟩;have p4:(gw bF).cps.toList.length=(gw bF).length:=fA;by_cases mY:zE bF=ao
 ·obtain⟨m6,rfl⟩:∃m6,bF=.bare m6:=by
   cases bF with
   |bare m6=>exact⟨m6,I⟩
   |_=>cases mY
  have xa:bq (.bare m6)=(eT m6).cps.toList:=by rw[bq]
  rw[xa]at he q;refine⟨_,I,aW,ah,_,I,hc,la ..,aW,ah,t,fy,k,(eT m6).cps.toList,post,I,hc,gq,⟨he,MD (.bare m6),fV,hk⟩,?_⟩;rw[tm];have dk:=cY.move (fs':=kJ t (k+(eT m6).cps.toList.length)) hc;have aQ:upd H aW (e4 C ah t (k+(eT m6).cps.toList.length)) aW=J (e4 C ah t (k+(eT m6).cps.toList.length)):=aB;refine⟨_,I,eT m6,I,.inl ⟨m6,I,fun x gC ai aj ep=>?_⟩⟩;have E:=Ext.made (C:=c.b m6) (fs:=[]) ai aj ep;have aR:=E.s _ _ aQ;refine⟨_,I,I,_,I,da (fun z=>nomatch z) ⟨_,I,_,(dk.ext E).sub aR,q x _ (dk.ext E) aR ?_⟩⟩;exact⟨(gP.eX dk aQ).fX ai,gC,aB⟩
 ·have mY:zE bF=aI:=by simpa using mY
  have xa:=V6 bF mY;rw[xa]at he q;have q3:t.cps.toList.drop k=(gw bF).cps.toList++(bN "("++(bd bF++(bN ")"++post))):=by rw[he];simp only[eC]
  refine⟨_,I,aW,ah,_,I,hc,la ..,aW,ah,t,fy,k,(gw bF).cps.toList,bN "("++(bd bF++(bN ")"++post)),I,hc,gq,⟨q3,MD bF,(by rw[pJ];exact qD vm.1.2),hk⟩,?_⟩;rw[tm,p4];obtain⟨my,i2⟩:=qK q3 hk;rw[p4]at my i2;refine⟨_,I,gw bF,I,.inr ⟨Vi bF mY,?_⟩⟩;have lo:(aa.ofString "(").length=1:=⋯;have lc:(aa.ofString ")").length=1:=⋯;have Pr:(bN "(").length=1:=by rw[pJ];rfl
  have aeD:(bN ")").length=1:=by rw[mn];rfl
  have aX:(aa.ofString "(").cps.toList <+: t.cps.toList.drop (k+(gw bF).length):=by rw[my];exact⟨_,I⟩
  refine⟨_,I,I,_,I,hp I ⟨_,I,aW,ah,_,I,aB,la ..,aW,ah,t,aa.ofString "(",k+(gw bF).length,I,aB,i2,gq,by lia,aX,?_⟩⟩;rw[eS,lo];obtain⟨lV,nA⟩:=qK (a:=bN "(") my i2;rw[Pr]at lV nA;have dk:=cY.move (fs':=kJ t (k+(gw bF).length+1)) hc;have aQ:upd H aW (e4 C ah t (k+(gw bF).length+1)) aW=J (e4 C ah t (k+(gw bF).length+1)):=aB;refine⟨_,I,_,I,_,I,aW,ah,t,k+(gw bF).length+1,dep,bF,post,X,I,⟨aQ,nA,gq,lV⟩,mY,aF,bY,mx,m2,gP.eX dk aQ,fun o H' gu aR bQ=>?_⟩;obtain⟨ac9,Io⟩:=qK lV nA;have oF:(aa.ofString ")").cps.toList <+: t.cps.toList.drop (k+(gw bF).length+1+(bd bF).length):=by rw[ac9];exact⟨_,I⟩
  refine⟨_,I,aW,ah,_,I,aR,la ..,aW,ah,t,aa.ofString ")",_,I,aR,Io,gq,by lia,oF,?_⟩;rw[lc];have i5:=(dk.trans gu).trans (cY.move (fs':=kJ t (k+(gw bF).length+1+(bd bF).length+1)) aR)
  have gn:upd H' aW (e4 C ah t (k+(gw bF).length+1+(bd bF).length+1)) aW=J (e4 C ah t (k+((gw bF).cps.toList++(bN "("++(bd bF++bN ")"))).length)):=by
   rw[aB,bE,bE,bE,p4,Pr,aeD];rw[show k+(gw bF).length+1+(bd bF).length+1=k+((gw bF).length+(1+((bd bF).length+1))) by lia]
  refine⟨_,I,_,i5.sub gn,q o _ i5 gn (bG.keep (fun b u nb e=>?_) bF bQ)⟩;rw[bx (fun z=>nb (by rw[z];exact m2))];exact e
inductive QI(c:c9)(vs:List V)(H:aq)(Q:bI)(E:cP):Prop where
 |mk (f:aU) (bb:vs=[.str ⟨(bq f).toArray⟩]) (ai:fE f) (aj:aP f<=8) (bt:(bq f).length<=100000) (cf:∀o H',Ext H H'->bG c [] H' f o->Q (.ref o) H')
def Z7(dH:e7 K C)(F:dB K mg "form_of" GL ["text"] f fd)(Fc:gX P w K mg zn 1 "Cursor" C ["self","text"] (Qq C))(v3:fp P w K mg zn 1 C "ended" ["self"] (QB C))(rA:bf P w K mg zn 40 "form_at" ["cursor","depth"] (QG c C 8)):bf P w K mg zn 41 "form_of" ["text"] (QI c):=by
 refine F.eH Gu (fun H vs Q E au h=>?_);obtain⟨bF,rfl,aF,bY,c0,q⟩:=h
 refine⟨_,(aO (b4 1 Gu.br (kH Fc au (ak (af 0) ay)))
  (aO (Vs (fun _=>(aL (b4 2 Gu.br (b7 rA au (ak (af 1) (ak aH ay)))))))
  (aO (cq (jI (h5 (jn v3 dH au (af 1)))) (aL kG) cm)
  (aL (aY (af 2)))))),?_⟩
 ac_rfl;have oE:(⟨(bq bF).toArray⟩:aa).length=(bq bF).length:=by show(bq bF).toArray.size=_;rw[eg]
 refine⟨_,I,?_⟩;intro y ah ai aj ep;refine⟨y,ah,_,I,aB,I,?_⟩;rw[eS];have E:=Ext.made (C:=C) (fs:=kJ ⟨(bq bF).toArray⟩ 0) ai aj ep;have aQ:upd (upd H ah (.own y)) y (e4 C ah ⟨(bq bF).toArray⟩ 0) y=J (e4 C ah ⟨(bq bF).toArray⟩ 0):=aB;generalize upd (upd H ah (.own y)) y (e4 C ah ⟨(bq bF).toArray⟩ 0)=H1 at E aQ ⊢;refine⟨_,I,y,ah,⟨(bq bF).toArray⟩,0,1,bF,[],[y],I,⟨aQ,UF _,by lia,by rw[List.append_nil];rfl⟩,(fun c r e=>nomatch e),aF,bY,by lia,eB.mpr rfl,(fun x av=>by rw[eB.mp av,aQ];exact fun z=>by cases z),fun o H' m e bQ=>?_⟩;refine⟨_,I,y,ah,_,I,e,la ..,y,ah,_,_,I,e,by lia,ao,(by rw[eK (by rw[oE];lia)];rfl),e2 ⟨_,rfl,H',?_,?_⟩⟩
 ·have:Ext H H':=⟨fun b u q=>m.k b u (hz q ai) (E.s b u q),fun cl=>m.c (E.c cl)⟩;exact this.sub
 .exact q o H' ⟨fun b u q=>m.k b u (hz q ai) (E.s b u q),fun cl=>m.c (E.c cl)⟩ (bG.weak (fun x(av:x∈[])=>by cases av) bF bQ)
inductive Rj(c:c9)(n:Nat)(i:fQ)(vs:List V)(H:aq)(Q:bI)(E:cP):Prop where
 |mk (o:ag) (f:aU) (bb:vs=[.ref o]) (ai:slot f=i) (aj:bG c [] H f o) (bt:fE f) (cf:aP f<=n) (eF:(bq f).length<=90000) (gD:Q (.str ⟨(bq f).toArray⟩) H)
def mc{l:List Nat}(h:x.cps.toList=l):x=⟨l.toArray⟩:=by rw[<-h]
def mT(l:List Nat):(⟨l.toArray⟩:aa).length=l.length:=by simp[aa.length]
def rY(l:List Nat):(⟨l.toArray⟩:aa).cps.toList=l:=rfl
def rQ:(aa.ofString "maybe(").cps.toList=(dV 0).cps.toList++bN "("/\(aa.ofString "many(").cps.toList=(dV 1).cps.toList++bN "("/\(aa.ofString "turned(").cps.toList=(dV 2).cps.toList++bN "("/\(aa.ofString "record(").cps.toList=(ez 0).cps.toList++bN "("/\(aa.ofString "choice(").cps.toList=(ez 1).cps.toList++bN "("/\(aa.ofString "span(").cps.toList=bN "span"++bN "("/\(aa.ofString "letters(").cps.toList=bN "letters"++bN "(":=⋯
def Xr(F:cU K "shown" "Nothing.shown" AL f fd):cB P w K mg zn cM 1 f fd ["self"] (Rj c n (.b 0)):=by
 refine F.d1 Xe (fun H vs Q E au h=>?_);obtain⟨o,bF,rfl,hs,bQ,aF,bY,c0,q⟩:=h;have:=jY hs;subst this;have e:(⟨(bq (.bare 0)).toArray⟩:aa)=aa.ofString "nothing":=by rw[bq];exact tm _
 rw[e]at q;exact⟨_,(aL (aY bu)),H,.refl (cK _),q⟩
def Yk(F:cU K "shown" "Truth.shown" BC f fd):cB P w K mg zn cM 1 f fd ["self"] (Rj c n (.b 1)):=by
 refine F.d1 XZ (fun H vs Q E au h=>?_);obtain⟨o,bF,rfl,hs,bQ,aF,bY,c0,q⟩:=h;have:=jY hs;subst this;have e:(⟨(bq (.bare 1)).toArray⟩:aa)=aa.ofString "truth":=by rw[bq];exact tm _
 rw[e]at q;exact⟨_,(aL (aY bu)),H,.refl (cK _),q⟩
def Yj(F:cU K "shown" "Whole.shown" By f fd):cB P w K mg zn cM 1 f fd ["self"] (Rj c n (.b 2)):=by
 refine F.d1 XV (fun H vs Q E au h=>?_);obtain⟨o,bF,rfl,hs,bQ,aF,bY,c0,q⟩:=h;have:=jY hs;subst this;have e:(⟨(bq (.bare 2)).toArray⟩:aa)=aa.ofString "whole":=by rw[bq];exact tm _
 rw[e]at q;exact⟨_,(aL (aY bu)),H,.refl (cK _),q⟩
def W9(F:cU K "shown" "Fraction.shown" AF f fd):cB P w K mg zn cM 1 f fd ["self"] (Rj c n (.b 3)):=by
 refine F.d1 WZ (fun H vs Q E au h=>?_);obtain⟨o,bF,rfl,hs,bQ,aF,bY,c0,q⟩:=h;have:=jY hs;subst this;have e:(⟨(bq (.bare 3)).toArray⟩:aa)=aa.ofString "fraction":=by rw[bq];exact tm _
 rw[e]at q;exact⟨_,(aL (aY bu)),H,.refl (cK _),q⟩
def YN(nb:dD mg)(T:s6 K c.s)(F:cU K "shown" "Span.shown" BV f fd):cB P w K mg zn cM 1 f fd ["self"] (Rj c n .s):=by
 refine F.d1 Yz (fun H vs Q E au h=>?_);obtain⟨o,bF,rfl,hs,bQ,aF,bY,c0,q⟩:=h;obtain⟨a,b,rfl⟩:=yq hs;obtain⟨_,ah,aK⟩:=bQ;rw[fE]at aF;obtain⟨_,aN,al⟩:=aF;refine⟨_,(aL (aY (aM cv (aM cv (aM cv (aM cv bu (mj B1 I nb.xx wy (ak (dp (af 0) I) ay))) bu) (mj B1 I nb.xx wy (ak (dp (af 0) I) ay))) bu))),?_⟩;ac_rfl;have q1:a.natAbs<10^60:=Nat.lt_trans aN ⋯;have se:b.natAbs<10^60:=Nat.lt_trans al ⋯;have i4:=vZ (by decide) q1;have vk:=vZ (by decide) se;have bJ:(aa.ofString "span(").length=5:=⋯;have bZ:(aa.ofString ", ").length=2:=⋯;have kU:(aa.ofString ")").length=1:=⋯;refine⟨_,I,o,c.s,ah,_,_,I,aK,T.cl,T.vn,gs ..,_,I,yi q1,.inr ⟨_,_,I,I,dS (by lia),?_⟩⟩;refine .inr ⟨_,_,I,I,dS (by rw[el];lia),?_⟩;refine⟨_,I,o,c.s,ah,_,_,I,aK,T.cl,T.zM,lX _ _ _ _ DC,_,I,yi se,.inr ⟨_,_,I,I,dS (by rw[el,el];lia),?_⟩⟩;refine .inr ⟨_,_,I,I,dS (by rw[el,el,el];lia),H,.refl (cK _),?_⟩;rw[<-mc (l:=bq (.sp a b)) ?_]at q
 .exact q
 ·rw[fS,fS,fS,fS,rQ.2.2.2.2.2.1,bq];show(((bN "span"++bN "(")++num a)++bN ", ")++num b++bN ")"=_;simp only[eC]
def Xt(T:rH K c.l)(F:cU K "shown" "Letters.shown" AO f fd):cB P w K mg zn cM 1 f fd ["self"] (Rj c n .l):=by
 refine F.d1 Xh (fun H vs Q E au h=>?_);obtain⟨o,bF,rfl,hs,bQ,aF,bY,c0,q⟩:=h;obtain⟨bK,rfl⟩:=yr hs;obtain⟨_,ah,aK⟩:=bQ;rw[fE]at aF;refine⟨_,(aL (aY (aM cv (aM cv bu (dp (af 0) I)) bu))),?_⟩;ac_rfl;have bJ:(aa.ofString "letters(").length=8:=⋯;have kU:(aa.ofString ")").length=1:=⋯;refine⟨_,I,o,c.l,ah,_,_,I,aK,T.cl,T.qe,gs ..,.inr ⟨_,_,I,I,dS (by lia),?_⟩⟩;refine .inr ⟨_,_,I,I,dS (by rw[el];lia),H,.refl (cK _),?_⟩;rw[<-mc (l:=bq (.le bK)) ?_]at q
 .exact q
 ·rw[fS,fS,rQ.2.2.2.2.2.2,bq];show((bN "letters"++bN "(")++bK.cps.toList)++bN ")"=_;simp only[eC]
def qM{c:c9}{n:Nat}{f:aU}{o:ag}{R:bI}{G:Prop}(bQ:bG c [] H f o)(aF:fE f)(bY:aP f<=n)(c0:(bq f).length<=90000)(k:∀ah fs,H o=J (.ins (eb c (slot f)) ah fs)->fs.lookup (aa.ofString "shown")=aA->Rj c n (slot f) [.ref o] H R iI->G)(q:R (.str ⟨(bq f).toArray⟩) H):G:=by
 obtain⟨ah,fs,e,l⟩:=bG.ins (m:=aa.ofString "shown") ⋯ ⋯ ⋯ ⋯ ⋯ ⋯ f bQ;exact k ah fs e l ⟨o,f,I,I,bQ,aF,bY,c0,q⟩
def Yl(T:iX K (c.o 0))(F:cU K "shown" "Maybe.shown" BJ f fd)(kz:eZ P w K mg zn (2*n+3) "shown" ["self"] (eb c) (Rj c n)):cB P w K mg zn cM (2*n+3+1) f fd ["self"] (Rj c (n+1) (.o 0)):=by
 refine F.d1 X7 (fun H vs Q E au h=>?_);obtain⟨o,bF,rfl,hs,bQ,aF,bY,c0,q⟩:=h;obtain⟨g,rfl⟩:=mm hs;obtain⟨_,ah,i,aK,dM⟩:=bQ;have dN:fE g:=by rw[fE]at aF;exact aF
 have fm:aP g<=n:=by rw[aP]at bY;lia
 have jZ:bq (.one 0 g)=(dV 0).cps.toList++(bN "("++(bq g++bN ")")):=by rw[bq]
 have lW:(bq g).length<=90000:=by rw[jZ,bE,bE,bE]at c0;lia
 refine⟨_,(aL (aY (aM cv (aM cv bu (qL kz au (dp (af 0) I))) bu))),?_⟩;ac_rfl;have xj:(aa.ofString "maybe(").length<=10:=⋯;have kU:(aa.ofString ")").length=1:=⋯;have nG:=mT (bq g);refine⟨_,I,o,c.o 0,ah,_,_,I,aK,T.cl,T.kW,gs ..,qM dM dN fm lW (fun _ _ e l s=>⟨_,_,_,_,I,e,l,s⟩) (.inr ⟨_,_,I,I,dS (by lia),?_⟩)⟩;refine .inr ⟨_,_,I,I,dS (by rw[el];lia),H,.refl (cK _),?_⟩;rw[<-mc (l:=bq (.one 0 g)) ?_]at q
 .exact q
 ·rw[fS,fS,rQ.1,jZ,rY];show((_++_)++bq g)++bN ")"=_;simp only[eC]
def YO(T:iX K (c.o 1))(F:cU K "shown" "Many.shown" BZ f fd)(kz:eZ P w K mg zn (2*n+3) "shown" ["self"] (eb c) (Rj c n)):cB P w K mg zn cM (2*n+3+1) f fd ["self"] (Rj c (n+1) (.o 1)):=by
 refine F.d1 YE (fun H vs Q E au h=>?_);obtain⟨o,bF,rfl,hs,bQ,aF,bY,c0,q⟩:=h;obtain⟨g,rfl⟩:=mm hs;obtain⟨_,ah,i,aK,dM⟩:=bQ;have dN:fE g:=by rw[fE]at aF;exact aF
 have fm:aP g<=n:=by rw[aP]at bY;lia
 have jZ:bq (.one 1 g)=(dV 1).cps.toList++(bN "("++(bq g++bN ")")):=by rw[bq]
 have lW:(bq g).length<=90000:=by rw[jZ,bE,bE,bE]at c0;lia
 refine⟨_,(aL (aY (aM cv (aM cv bu (qL kz au (dp (af 0) I))) bu))),?_⟩;ac_rfl;have xj:(aa.ofString "many(").length<=10:=⋯;have kU:(aa.ofString ")").length=1:=⋯;have nG:=mT (bq g);refine⟨_,I,o,c.o 1,ah,_,_,I,aK,T.cl,T.kW,gs ..,qM dM dN fm lW (fun _ _ e l s=>⟨_,_,_,_,I,e,l,s⟩) (.inr ⟨_,_,I,I,dS (by lia),?_⟩)⟩;refine .inr ⟨_,_,I,I,dS (by rw[el];lia),H,.refl (cK _),?_⟩;rw[<-mc (l:=bq (.one 1 g)) ?_]at q
 .exact q
 ·rw[fS,fS,rQ.2.1,jZ,rY];show((_++_)++bq g)++bN ")"=_;simp only[eC]
def XM(T:iX K (c.o 2))(F:cU K "shown" "Turned.shown" AY f fd)(kz:eZ P w K mg zn (2*n+3) "shown" ["self"] (eb c) (Rj c n)):cB P w K mg zn cM (2*n+3+1) f fd ["self"] (Rj c (n+1) (.o 2)):=by
 refine F.d1 Xw (fun H vs Q E au h=>?_);obtain⟨o,bF,rfl,hs,bQ,aF,bY,c0,q⟩:=h;obtain⟨g,rfl⟩:=mm hs;obtain⟨_,ah,i,aK,dM⟩:=bQ;have dN:fE g:=by rw[fE]at aF;exact aF
 have fm:aP g<=n:=by rw[aP]at bY;lia
 have jZ:bq (.one 2 g)=(dV 2).cps.toList++(bN "("++(bq g++bN ")")):=by rw[bq]
 have lW:(bq g).length<=90000:=by rw[jZ,bE,bE,bE]at c0;lia
 refine⟨_,(aL (aY (aM cv (aM cv bu (qL kz au (dp (af 0) I))) bu))),?_⟩;ac_rfl;have xj:(aa.ofString "turned(").length<=10:=⋯;have kU:(aa.ofString ")").length=1:=⋯;have nG:=mT (bq g);refine⟨_,I,o,c.o 2,ah,_,_,I,aK,T.cl,T.kW,gs ..,qM dM dN fm lW (fun _ _ e l s=>⟨_,_,_,_,I,e,l,s⟩) (.inr ⟨_,_,I,I,dS (by lia),?_⟩)⟩;refine .inr ⟨_,_,I,I,dS (by rw[el];lia),H,.refl (cK _),?_⟩;rw[<-mc (l:=bq (.one 2 g)) ?_]at q
 .exact q
 ·rw[fS,fS,rQ.2.2.1,jZ,rY];show((_++_)++bq g)++bN ")"=_;simp only[eC]
noncomputable def h9(f:aU)(n:aa):aa:=(n++aa.ofString " ")++⟨(bq f).toArray⟩
def Nf(f:aU)(n:aa):(h9 f n).cps.toList=n.cps.toList++(bN " "++bq f):=by
 unfold h9;rw[fS,fS,eC];rfl
theorem G6:∀(fs:List aU)(ns:List aa),ns.length=fs.length->(aa.join (aa.ofString ", ") (List.zipWith h9 fs ns)).cps.toList=fi fs ns
 |[],ns,h=>by
  rw[fi];rfl
 |[f],[],h=>by cases h
 |[f],n::ns,h=>by
  rw[od];show(h9 f n).cps.toList=_;rw[Nf];show _=n.cps.toList++(bN " "++(bq f++[]));rw[List.append_nil]
 |f::g::fs,[],h=>by cases h
 |f::g::fs,[n],h=>by cases h
 |f::g::fs,n::m::ns,h=>by
  have bP:=G6 (g::fs) (m::ns) (Nat.succ.inj h);rw[od];show((h9 f n++aa.ofString ", ")++aa.join (aa.ofString ", ") (List.zipWith h9 (g::fs) (m::ns))).cps.toList=_;rw[fS,fS,bP,Nf];show _=n.cps.toList++(bN " "++(bq f++(bN ", "++fi (g::fs) (m::ns))));simp only[eC];rfl
theorem wm:∀(fs:List aU)(ns:List aa),ns.length=fs.length->∀(i:Nat)(f:aU)(n:aa),fs[i]?=J f->ns[i]?=J n->n.length+(1+(bq f).length)<=(fi fs ns).length
 |[],ns,h,i,f,n,aQ,aR=>by cases aQ
 |g::fs,[],h,i,f,n,aQ,aR=>by cases h
 |g::fs,m::ns,h,0,f,n,aQ,aR=>by
  cases aQ;cases aR;have ko:m.cps.toList.length=m.length:=fA;rw[od,bE,bE,bE,ko,wA];show _<=m.length+(1+_);lia
 | g::fs,m::ns,h,i+1,f,n,aQ,aR=>by
  have bP:=wm fs ns (Nat.succ.inj h) i f n aQ aR;rw[od,bE,bE,bE]
  have:(fi fs ns).length<=(lZ fs ns).length:=by
   cases fs with
   |nil=>cases aQ
   |cons a b=>unfold lZ;rw[bE];lia
  lia
inductive Ri(c:c9)(n:Nat)(vs:List V)(H:aq)(Q:bI)(E:cP):Prop where
 |mk (bJ bZ:ag) (ns:List aa) (fs:List aU) (os:List ag) (bb:vs=[.ref bJ,.ref bZ]) (ai:H bJ=J (.lst (ns.map V.str))) (aj:H bZ=J (.lst (os.map V.ref))) (bt:d0 c [] H fs os) (cf:ns.length=fs.length) (eF:lp fs) (gD:dv fs<=n) (kl:(fi fs ns).length<=90000) (kP:ns.length<=20) (r7:Q (.str ⟨(fi fs ns).toArray⟩) H)
def Xm(nb:dD mg)(F:dB K mg "shown_parts" Bx ["names","forms"] f fd)(kz:eZ P w K mg zn (2*n+3) "shown" ["self"] (eb c) (Rj c n)):bf P w K mg zn (2*n+3+1) "shown_parts" ["names","forms"] (Ri c n):=by
 refine F.eH XS (fun H vs Q E au h=>?_);obtain⟨a1,a2,ns,fs,os,rfl,ai,aj,bQ,bj,aF,bY,c0,zl,q⟩:=h;refine⟨_,(aL (aY (h6 PySem.F.plainAttrs_str PySem.F.slot_str_join PySem.F.type_str_join rW bu (ak (iA ["name","form"] [] I ⋯ trivial (KO I nb.Ez (ak (af 0) (ak (af 1) ay))) (qP I (iZ (d4 (i:=0) (show(["name","form"]:List aa).Nodup by decide+kernel)) (iZ (d4 (i:=1) (show(["name","form"]:List aa).Nodup by decide+kernel)) qN))) hW (aM cv (aM cv (af 0) bu) (qL kz au (af 1)))) ay)))),?_⟩;ac_rfl;have bJ:(aa.ofString " ").length=1:=⋯;have kU:(aa.ofString ", ").length=2:=⋯;have m4:=d0.len fs bQ;refine⟨I,_,I,_,I,a1,a2,_,_,I,bp ai,bp aj,fun D b2=>?_⟩;refine MY (fun i=>V.str ((List.zipWith h9 fs ns).getD i aa.empty)) (fun ab=>∃d6 d2,ab=[d6,d2]) (by rw[cd,cd];lia) ⟨_,_,I⟩ b2 (bp ai) (bp aj) ?_ ?_
 ·rintro i x y av ba b0 H1 T ⟨d6,d2,rfl⟩ eW bW R cL;rw[eJ]at av ba;obtain⟨nm,h0,rfl⟩:=Uf.mp av;obtain⟨sM,zr,rfl⟩:=Uf.mp ba;obtain⟨bF,jP,r8⟩:=d0.get fs bQ zr;obtain⟨dN,fm⟩:=CE aF jP;have hn:=wm fs ns bj i bF nm jP h0;have e:(List.zipWith h9 fs ns).getD i aa.empty=h9 bF nm:=by rw[eR,List.getElem?_zipWith,jP,h0];rfl
  rw[e]at cL;have qp:=eW.trans (cZ (o:=de.tup [V.str nm,V.ref sM]) bW);have nG:=mT (bq bF);refine⟨T,_,I,dy aB,I,_,_,I,_,_,I,I,?_⟩;refine⟨_,I,.inr ⟨_,_,I,I,dS (by lia),?_⟩⟩;refine⟨_,I,qM (bG.keep (fun b u _ e=>qp b u e) bF r8) dN (by lia) (by lia) (fun _ _ e l s=>⟨_,_,_,_,I,e,l,s⟩) (.inr ⟨_,_,I,I,dS (by rw[el];lia),?_⟩)⟩;exact cL _ _ ⟨_,_,I⟩ (cK _)
 ·intro H' kS iC;have sv:(List.zipWith h9 fs ns).length=fs.length:=by rw[List.length_zipWith,bj,Nat.min_self]
  have e:(List.range (min (ns.map V.str).length (os.map V.ref).length)).map (fun i=>V.str ((List.zipWith h9 fs ns).getD i aa.empty))=(List.zipWith h9 fs ns).map V.str:=by
   have:=B7 (List.zipWith h9 fs ns);rw[sv]at this;rw[cd,cd,bj,m4,Nat.min_self];exact this
  rw[e]at iC
  have mY:∀y∈List.zipWith h9 fs ns,y.length<=90000:=fun y ba=>by
   obtain⟨i,aG,rfl⟩:=List.mem_iff_getElem.mp ba;rw[sv]at aG;rw[List.getElem_zipWith];have hn:=wm fs ns bj i fs[i] (ns[i]'(by lia)) (cw aG) (cw (by lia));unfold h9;have nG:=mT (bq fs[i]);rw[el,el,bJ];lia
  have zy:=StrLaws.sumLen_le _ mY;rw[sv]at zy;refine⟨_,D,_,I,I,bp iC,(by rw[sv,kU];lia),H,.refl kS,?_⟩
  have hI:Txt.join (aa.ofString ", ") (List.zipWith h9 fs ns)=⟨(fi fs ns).toArray⟩:=by
   refine mc ?_;show(dI.Str.glued (aa.ofString ", ") (List.zipWith h9 fs ns)).cps.toList=_;rw[StrLaws.glued_eq_join];exact G6 fs ns bj
  rw[hI];exact q
def XN(T:k5 K (c.t 0))(F:cU K "shown" "Record.shown" A1 f fd)(EY:bf P w K mg zn (2*n+4) "shown_parts" ["names","forms"] (Ri c n)):cB P w K mg zn cM (2*n+4+1) f fd ["self"] (Rj c (n+1) (.t 0)):=by
 refine F.d1 Xz (fun H vs Q E au h=>?_);obtain⟨o,bF,rfl,hs,bQ,aF,bY,c0,q⟩:=h;obtain⟨ns,fs,rfl⟩:=qB hs;obtain⟨_,ah,a1,a2,os,aK,_,_,ai,aj,dM⟩:=bQ;rw[fE]at aF;obtain⟨eA,gF,dN⟩:=aF;have fm:dv fs<=n:=by rw[aP]at bY;lia
 have jZ:bq (.two 0 ns fs)=(ez 0).cps.toList++(bN "("++(fi fs ns++bN ")")):=by rw[bq]
 have lW:(fi fs ns).length<=90000:=by rw[jZ,bE,bE,bE]at c0;lia
 refine⟨_,(aL (aY (aM cv (aM cv bu (b7 EY au (ak (dp (af 0) I) (ak (dp (af 0) I) ay)))) bu))),?_⟩;ac_rfl;have xj:(aa.ofString "record(").length<=10:=⋯;have kU:(aa.ofString ")").length=1:=⋯;have nG:=mT (fi fs ns);refine⟨_,I,o,c.t 0,ah,_,_,I,aK,T.cl,T.oQ,gs ..,_,I,o,c.t 0,ah,_,_,I,aK,T.cl,T.m7,lX _ _ _ _ oq,a1,a2,ns,fs,os,I,ai,aj,dM,gF,dN,fm,lW,(jf eA).1,.inr ⟨_,_,I,I,dS (by lia),?_⟩⟩;refine .inr ⟨_,_,I,I,dS (by rw[el];lia),H,.refl (cK _),?_⟩;rw[<-mc (l:=bq (.two 0 ns fs)) ?_]at q
 .exact q
 ·rw[fS,fS,rQ.2.2.2.1,jZ,rY];show((_++_)++fi fs ns)++bN ")"=_;simp only[eC]
def XP(T:k5 K (c.t 1))(F:cU K "shown" "Choice.shown" Bt f fd)(EY:bf P w K mg zn (2*n+4) "shown_parts" ["names","forms"] (Ri c n)):cB P w K mg zn cM (2*n+4+1) f fd ["self"] (Rj c (n+1) (.t 1)):=by
 refine F.d1 XG (fun H vs Q E au h=>?_);obtain⟨o,bF,rfl,hs,bQ,aF,bY,c0,q⟩:=h;obtain⟨ns,fs,rfl⟩:=qB hs;obtain⟨_,ah,a1,a2,os,aK,_,_,ai,aj,dM⟩:=bQ;rw[fE]at aF;obtain⟨eA,gF,dN⟩:=aF;have fm:dv fs<=n:=by rw[aP]at bY;lia
 have jZ:bq (.two 1 ns fs)=(ez 1).cps.toList++(bN "("++(fi fs ns++bN ")")):=by rw[bq]
 have lW:(fi fs ns).length<=90000:=by rw[jZ,bE,bE,bE]at c0;lia
 refine⟨_,(aL (aY (aM cv (aM cv bu (b7 EY au (ak (dp (af 0) I) (ak (dp (af 0) I) ay)))) bu))),?_⟩;ac_rfl;have xj:(aa.ofString "choice(").length<=10:=⋯;have kU:(aa.ofString ")").length=1:=⋯;have nG:=mT (fi fs ns);refine⟨_,I,o,c.t 1,ah,_,_,I,aK,T.cl,T.oQ,gs ..,_,I,o,c.t 1,ah,_,_,I,aK,T.cl,T.m7,lX _ _ _ _ oq,a1,a2,ns,fs,os,I,ai,aj,dM,gF,dN,fm,lW,(jf eA).1,.inr ⟨_,_,I,I,dS (by lia),?_⟩⟩;refine .inr ⟨_,_,I,I,dS (by rw[el];lia),H,.refl (cK _),?_⟩;rw[<-mc (l:=bq (.two 1 ns fs)) ?_]at q
 .exact q
 ·rw[fS,fS,rQ.2.2.2.2.1,jZ,rY];show((_++_)++fi fs ns)++bN ")"=_;simp only[eC]
structure Ko(K:bT)(c:c9):Prop where
 m0:MethAt K (c.b 0) "shown" "Nothing.shown" AL ["self"]
 dk:MethAt K (c.b 1) "shown" "Truth.shown" BC ["self"]
 gu:MethAt K (c.b 2) "shown" "Whole.shown" By ["self"]
 i5:MethAt K (c.b 3) "shown" "Fraction.shown" AF ["self"]
 j2:MethAt K c.s "shown" "Span.shown" BV ["self"]
 nH:MethAt K c.l "shown" "Letters.shown" AO ["self"]
 sz:MethAt K (c.o 0) "shown" "Maybe.shown" BJ ["self"]
 sA:MethAt K (c.o 1) "shown" "Many.shown" BZ ["self"]
 sC:MethAt K (c.o 2) "shown" "Turned.shown" AY ["self"]
 sD:MethAt K (c.t 0) "shown" "Record.shown" A1 ["self"]
 mB:MethAt K (c.t 1) "shown" "Choice.shown" Bt ["self"]
 Aa:s6 K c.s
 z9:rH K c.l
 kt:∀k,iX K (c.o k)
 m9:∀k,k5 K (c.t k)
theorem MA(nb:dD mg)(S:Ko K c)(F:dB K mg "shown_parts" Bx ["names","forms"] f fd):∀n,eZ P w K mg zn (2*n+3) "shown" ["self"] (eb c) (Rj c n)
 | 0=>by
  have no:∀i vs H Q E,¬Rj c 0 i vs H Q E:=fun i vs H Q E z=>by obtain⟨o,f,_,_,_,_,h,_⟩:=z;have:=oh f;lia
  intro i;cases i with
  |b k =>
   rcases qU k with rfl|rfl|rfl|rfl
   .exact⟨iN S.m0 (no _),S.m0.cl⟩
   .exact⟨iN S.dk (no _),S.dk.cl⟩
   .exact⟨iN S.gu (no _),S.gu.cl⟩
   .exact⟨iN S.i5 (no _),S.i5.cl⟩
  |s=>exact⟨iN S.j2 (no _),S.j2.cl⟩
  |l=>exact⟨iN S.nH (no _),S.nH.cl⟩
  |o k =>
   rcases pT k with rfl|rfl|rfl
   .exact⟨iN S.sz (no _),S.sz.cl⟩
   .exact⟨iN S.sA (no _),S.sA.cl⟩
   .exact⟨iN S.sC (no _),S.sC.cl⟩
  |t k =>
   rcases mX k with rfl|rfl
   .exact⟨iN S.sD (no _),S.sD.cl⟩
   .exact⟨iN S.mB (no _),S.mB.cl⟩
 | n+1=>by
  have bP:=MA nb S F n;have D:=Xm nb F bP;intro i;cases i with
  | b k =>
   rcases qU k with rfl|rfl|rfl|rfl
   ·obtain⟨f,fd,G,al,hm⟩:=S.m0.ex;exact⟨⟨f,fd,(Xr G).mono (by lia),al,hm⟩,S.m0.cl⟩
   ·obtain⟨f,fd,G,al,hm⟩:=S.dk.ex;exact⟨⟨f,fd,(Yk G).mono (by lia),al,hm⟩,S.dk.cl⟩
   ·obtain⟨f,fd,G,al,hm⟩:=S.gu.ex;exact⟨⟨f,fd,(Yj G).mono (by lia),al,hm⟩,S.gu.cl⟩
   ·obtain⟨f,fd,G,al,hm⟩:=S.i5.ex;exact⟨⟨f,fd,(W9 G).mono (by lia),al,hm⟩,S.i5.cl⟩
  |s =>
   obtain⟨f,fd,G,al,hm⟩:=S.j2.ex;exact⟨⟨f,fd,(YN nb S.Aa G).mono (by lia),al,hm⟩,S.j2.cl⟩
  |l =>
   obtain⟨f,fd,G,al,hm⟩:=S.nH.ex;exact⟨⟨f,fd,(Xt S.z9 G).mono (by lia),al,hm⟩,S.nH.cl⟩
  | o k =>
   rcases pT k with rfl|rfl|rfl
   ·obtain⟨f,fd,G,al,hm⟩:=S.sz.ex;exact⟨⟨f,fd,(Yl (S.kt 0) G bP).mono (by lia),al,hm⟩,S.sz.cl⟩
   ·obtain⟨f,fd,G,al,hm⟩:=S.sA.ex;exact⟨⟨f,fd,(YO (S.kt 1) G bP).mono (by lia),al,hm⟩,S.sA.cl⟩
   ·obtain⟨f,fd,G,al,hm⟩:=S.sC.ex;exact⟨⟨f,fd,(XM (S.kt 2) G bP).mono (by lia),al,hm⟩,S.sC.cl⟩
  | t k =>
   rcases mX k with rfl|rfl
   ·obtain⟨f,fd,G,al,hm⟩:=S.sD.ex;exact⟨⟨f,fd,(XN (S.m9 0) G D).mono (by lia),al,hm⟩,S.sD.cl⟩
   ·obtain⟨f,fd,G,al,hm⟩:=S.mB.ex;exact⟨⟨f,fd,(XP (S.m9 1) G D).mono (by lia),al,hm⟩,S.mB.cl⟩
mutual
noncomputable def dY:aU->Prop
 |.bare _=>True
 |.sp a b=>a<=b/\b-a<2^190/\a.natAbs<10^58/\b.natAbs<10^58
 |.le s=>qY s=ao/\s.length<=60
 |.one _ f=>dY f
 |.two _ ns fs=>iQ ns=ao/\ns.length=fs.length/\gv fs
noncomputable def gv:List aU->Prop
 |[]=>True
 |f::fs=>dY f/\gv fs
end
theorem tg:∀{fs:List aU}{i:Nat}{f:aU},gv fs->fs[i]?=J f->dY f/\aP f<=dv fs
 |g::fs,0,f,h,e=>by
  cases e;rw[gv]at h;rw[dv];exact⟨h.1,by lia⟩
 |g::fs,i+1,f,h,e=>by
  rw[gv]at h;obtain⟨a,b⟩:=tg h.2 (show fs[i]?=J f from e);rw[dv];exact⟨a,by lia⟩
noncomputable def sgn(a b:Int):Int:=(if b<a then 1 else 0)-(if a<b then 1 else 0)
noncomputable def items:D->List D
 |.tup ds=>ds
 |.lst ds=>ds
 |_=>[]
noncomputable def ra:D->Int
 |.int i=>i
 |.aS b=>PyProof.Rows.b2i b
 |_=>0
noncomputable def xy:D->Int
 |.tup (.int p::_)=>p
 |_=>0
noncomputable def wC:D->Int
 |.tup [_,.int q]=>q
 |_=>0
noncomputable def Ex:D->aa
 |.str t=>t
 |_=>aa.empty
noncomputable def sI:D->aa
 |.tup (.str n::_)=>n
 |_=>aa.empty
noncomputable def PR:D->D
 |.tup [_,x]=>x
 |_ =>.bM
noncomputable def lk(s t:aa):List Int:=t.cps.toList.map fun c=>((s.cps.toList.idxOf c:Nat):Int)
noncomputable def qq(a b:List Int):Int:=(if dU.lexLt b a=ao then 1 else 0)-(if dU.lexLt a b=ao then 1 else 0)
noncomputable def uP(k:Fin 4)(a b:D):Int:=if k=0 then 0 else if k=3 then sgn (xy a*wC b) (xy b*wC a)else sgn (ra a) (ra b)
noncomputable def il(g:Nat->D->D->Int):List D->List D->Nat->Int
 |x::xs,y::aw,k=>if g k x y=0 then il g xs aw (k+1)else g k x y
 |xs,aw,_=>sgn xs.length aw.length
mutual
noncomputable def dx:aU->D->D->Int
 |.bare k,a,b=>uP k a b
 |.sp _ _,a,b=>sgn (ra a) (ra b)
 |.le s,a,b=>qq (lk s (Ex a)) (lk s (Ex b))
 |.one k f,a,b=>if k=2 then 0-dx f a b else il (fun _=>dx f) (items a) (items b) 0
 |.two k ns fs,a,b=>if k=0 then il (fun i=>(iF fs).getD (i%fs.length) fun _ _=>0) (items a) (items b) 0 else if sI a=sI b then(iF fs).getD (ns.idxOf (sI a)) (fun _ _=>0) (PR a) (PR b)else sgn (ns.idxOf (sI a)) (ns.idxOf (sI b))
noncomputable def iF:List aU->List (D->D->Int)
 |[]=>[]
 |f::fs=>dx f::iF fs
end
theorem Cs:∀(fs:List aU)(i:Nat)(f:aU),fs[i]?=J f->(iF fs).getD i (fun _ _=>0)=dx f
 |[],i,f,h=>by cases h
 |g::fs,0,f,h=>by cases h;rw[iF];rfl
 |g::fs,i+1,f,h=>by rw[iF];exact Cs fs i f h
def uI(a b:Int):sgn b a = -sgn a b:=by unfold sgn;lia
def uH{a b:Int}:sgn a b=0↔a=b:=by
 unfold sgn;constructor
 ·intro h;rcases Int.lt_trichotomy a b with z|z|z
  .rw[if_neg (by lia),if_pos z]at h;lia
  .exact z
  .rw[if_pos z,if_neg (by lia)]at h;lia
 ·rintro rfl;rw[if_neg (by lia)];rfl
def nL{a b:Int}:sgn a b<0↔a<b:=by
 unfold sgn;constructor
 ·intro h;rcases Int.lt_trichotomy a b with z|z|z
  .exact z
  .subst z;rw[if_neg (by lia)]at h;lia
  .rw[if_pos z,if_neg (by lia)]at h;lia
 ·intro z;rw[if_neg (by lia),if_pos z];lia
theorem Hg:∀a:List Int,dU.lexLt a a=aI
 |[]=>rfl
 |x::a=>by rw[dU.zI,if_pos rfl];exact Hg a
theorem Hf:∀a b:List Int,a≠b->(dU.lexLt a b=ao/\dU.lexLt b a=aI)\/(dU.lexLt b a=ao/\dU.lexLt a b=aI)
 |[],[],h=>absurd rfl h
 |[],y::b,_ =>.inl ⟨rfl,rfl⟩
 |x::a,[],_ =>.inr ⟨rfl,rfl⟩
 | x::a,y::b,h=>by
  rw[dU.zI,dU.zI];by_cases z:x=y
  ·subst z;rw[if_pos rfl,if_pos rfl];exact Hf a b fun e=>h (by rw[e])
  ·rw[if_neg z,if_neg (fJ z)];rcases Int.lt_or_gt_of_ne z with q|q
   .exact .inl ⟨eK q,e8 (by lia)⟩
   .exact .inr ⟨eK q,e8 (by lia)⟩
def aav(a b:List Int):qq b a = -qq a b:=by unfold qq;lia
def aau{a b:List Int}:qq a b=0↔a=b:=by
 unfold qq;constructor
 ·intro h;by_cases z:a=b
  .exact z
  .rcases Hf a b z with⟨cn,b8⟩|⟨cn,b8⟩<;>(rw[cn,b8]at h;simp at h)
 ·rintro rfl;rw[Hg];rfl
def P7{a b:List Int}:qq a b<0↔dU.lexLt a b=ao:=by
 unfold qq;by_cases z:a=b
 .subst z;rw[Hg];simp
 .rcases Hf a b z with⟨cn,b8⟩|⟨cn,b8⟩<;>(rw[cn,b8];simp)
theorem G5(g:Nat->D->D->Int)(h:∀k x y,g k y x = -g k x y):∀(xs aw:List D)(k:Nat),il g aw xs k = -il g xs aw k
 |[],[],k=>by show sgn _ _ = -sgn _ _;exact uI _ _
 |[],y::aw,k=>by show sgn _ _ = -sgn _ _;exact uI _ _
 |x::xs,[],k=>by show sgn _ _ = -sgn _ _;exact uI _ _
 |x::xs,y::aw,k=>by
  show(if g k y x=0 then _ else _) = -(if g k x y=0 then _ else _);have e:=h k x y;by_cases z:g k x y=0
  .rw[if_pos z,if_pos (by lia)];exact G5 g h xs aw (k+1)
  .rw[if_neg z,if_neg (by lia)];exact e
mutual
theorem wq:∀(f:aU)(a b:D),dx f b a = -dx f a b
 | .bare k,a,b=>by
  rw[dx,dx];unfold uP;split
  .rfl
  ·split
   .exact uI _ _
   .exact uI _ _
 |.sp _ _,a,b=>by rw[dx,dx];exact uI _ _
 |.le s,a,b=>by rw[dx,dx];exact aav _ _
 |.one k f,a,b=>by
  rw[dx,dx];split
  .have:=wq f a b;lia
  .exact G5 _ (fun _ x y=>wq f x y) _ _ 0
 | .two k ns fs,a,b=>by
  rw[dx,dx];split
  .exact G5 (fun i=>(iF fs).getD (i%fs.length) fun _ _=>0) (fun i x y=>GQ fs (i%fs.length) x y) _ _ 0
  ·by_cases z:sI a=sI b
   .rw[if_pos z,if_pos z.symm,z];exact GQ fs _ _ _
   .rw[if_neg z,if_neg (fJ z)];exact uI _ _
theorem GQ:∀(fs:List aU)(i:Nat)(x y:D),(iF fs).getD i (fun _ _=>0) y x = -(iF fs).getD i (fun _ _=>0) x y
 |[],i,x,y=>by rw[iF];rfl
 |f::fs,0,x,y=>by rw[iF];exact wq f x y
 |f::fs,i+1,x,y=>by rw[iF];exact GQ fs i x y
end
noncomputable def fe:List D->List D->Nat
 |x::xs,y::aw=>if dT x y=ao then fe xs aw+1 else 0
 |_,_=>0
theorem yH:∀xs aw:List D,fe xs aw<=xs.length/\fe xs aw<=aw.length
 |[],aw=>⟨UF _,UF _⟩
 |x::xs,[]=>⟨UF _,UF _⟩
 | x::xs,y::aw=>by
  rw[fe];split
  ·have:=yH xs aw;exact⟨Nat.succ_le_succ this.1,Nat.succ_le_succ this.2⟩
  .exact⟨UF _,UF _⟩
structure Good(g:D->D->Int)(x y:D):Prop where
 z:g x y=0↔x=y
 e:dT x y=ao↔x=y
theorem Hs(g:Nat->D->D->Int):∀(xs aw:List D)(k:Nat),(∀(i:Nat)(x y:D),xs[i]?=J x->aw[i]?=J y->Good (g (k+i)) x y)->
  (fe xs aw=xs.length\/fe xs aw=aw.length)/\il g xs aw k=sgn xs.length aw.length\/∃x y,xs[fe xs aw]?=J x/\aw[fe xs aw]?=J y/\il g xs aw k=g (k+fe xs aw) x y
 |[],[],k,_ =>.inl ⟨.inl rfl,rfl⟩
 |[],y::aw,k,_ =>.inl ⟨.inl rfl,rfl⟩
 |x::xs,[],k,_ =>.inl ⟨.inr rfl,rfl⟩
 | x::xs,y::aw,k,h=>by
  have bb:=h 0 x y rfl rfl;rw[Nat.add_zero]at bb;by_cases z:x=y
  ·have aQ:fe (x::xs) (y::aw)=fe xs aw+1:=by rw[fe,if_pos (bb.e.mpr z)]
   have aR:il g (x::xs) (y::aw) k=il g xs aw (k+1):=by rw[il,if_pos (bb.z.mpr z)]
   have bP:=Hs g xs aw (k+1) fun i a b aN al=>by
    have:=h (i+1) a b aN al;rwa [show k+1+i=k+(i+1) by lia]
   rw[aQ,aR];rcases bP with⟨cn,b8⟩|⟨a,b,cn,b8,gh⟩
   ·refine .inl ⟨cn.imp (by rw[dW];lia) (by rw[dW];lia),?_⟩;rw[b8];unfold sgn;simp only[dW];lia
   .exact .inr ⟨a,b,cn,b8,by rw[gh,show k+1+fe xs aw=k+(fe xs aw+1) by lia]⟩
  ·have aQ:fe (x::xs) (y::aw)=0:=by rw[fe,if_neg (fun q=>z (bb.e.mp q))]
   have aR:il g (x::xs) (y::aw) k=g k x y:=by rw[il,if_neg (fun q=>z (bb.z.mp q))]
   rw[aQ,aR];exact .inr ⟨x,y,I,I,I⟩
theorem CG(g:Nat->D->D->Int):∀(xs aw:List D)(k:Nat),(∀(i:Nat)(x y:D),xs[i]?=J x->aw[i]?=J y->Good (g (k+i)) x y)->(il g xs aw k=0↔xs=aw)
 |[],[],k,_=>⟨fun _=>rfl,fun _=>rfl⟩
 |[],y::aw,k,_=>by
  show sgn _ _=0↔_;rw[uH];constructor
  .intro h;simp at h;lia
  .intro h;cases h
 |x::xs,[],k,_=>by
  show sgn _ _=0↔_;rw[uH];constructor
  .intro h;simp at h;lia
  .intro h;cases h
 | x::xs,y::aw,k,h=>by
  have bb:=h 0 x y rfl rfl;rw[Nat.add_zero]at bb;rw[il];by_cases z:x=y
  ·rw[if_pos (bb.z.mpr z),CG g xs aw (k+1) fun i a b aN al=>by
    have:=h (i+1) a b aN al
    rwa [show k+1+i=k+(i+1) by lia],z]
   simp
  ·have vE:g k x y≠0:=fun q=>z (bb.z.mp q);rw[if_neg vE];exact⟨fun q=>absurd q vE,fun q=>absurd (List.head_eq_of_cons_eq q) z⟩
theorem CM:∀(xs aw:List D),(∀(i:Nat)(x y:D),xs[i]?=J x->aw[i]?=J y->(dT x y=ao↔x=y))->(eo xs aw=ao↔xs=aw)
 |[],[],_=>by rw[eo];simp
 |[],y::aw,_=>by rw[eo];simp
 |x::xs,[],_=>by rw[eo];simp
 |x::xs,y::aw,h=>by
  rw[eo];show(dT x y&&eo xs aw)=ao↔_;rw[ix,h 0 x y rfl rfl,CM xs aw fun i a b aN al=>h (i+1) a b aN al];simp
theorem yu{bz:D->Bool}:∀{fs:List aU}{ds:List D},eM bz fs ds=ao->ds.length=fs.length/\∀(i:Nat)(f:aU)(d:D),fs[i]?=J f->ds[i]?=J d->b1 bz f d=ao
 |[],[],_=>⟨rfl,fun i f d h=>by cases h⟩
 |[],e::ds,h=>by rw[eM]at h;cases h
 |g::fs,[],h=>by rw[eM]at h;cases h
 |g::fs,e::ds,h=>by
  rw[eM]at h;have h:(b1 bz g e&&eM bz fs ds)=ao:=h;rw[ix]at h;obtain⟨a,b⟩:=yu h.2;refine⟨by rw[dW,dW,a],fun i f d aD hd=>?_⟩;cases i with
  |zero=>cases aD;cases hd;exact h.1
  |succ i=>exact b i f d aD hd
theorem MT{s:aa}:∀(a b:List Nat),(∀c,c∈a->c∈s.cps.toList)->(∀c,c∈b->c∈s.cps.toList)->(a.map fun c=>((s.cps.toList.idxOf c:Nat):Int))=(b.map fun c=>((s.cps.toList.idxOf c:Nat):Int))->a=b
 |[],[],_,_,_=>rfl
 |[],y::b,_,_,h=>by cases h
 |x::a,[],_,_,h=>by cases h
 |x::a,y::b,ai,aj,h=>by
  rw[gI,gI]at h;have aQ:=List.head_eq_of_cons_eq h;have aR:=List.tail_eq_of_cons_eq h;have aQ:s.cps.toList.idxOf x=s.cps.toList.idxOf y:=by lia
  have av:=pw (ai x (g0 ..));have ba:=pw (aj y (g0 ..));have acz:s.cps.toList[s.cps.toList.idxOf x]=x:=List.getElem_idxOf av;have acA:s.cps.toList[s.cps.toList.idxOf y]=y:=List.getElem_idxOf ba;have abP:x=y:=by rw[<-acz,<-acA];congr 1
  rw[abP,MT a b (fun c hc=>ai c (d9 _ hc)) (fun c hc=>aj c (d9 _ hc)) aR]
def Nw{q p t:Int}(h:q∣p*t)(hc:Int.gcd p q=1):q∣t:=by
 have h':=Int.natAbs_dvd_natAbs.mpr h;rw[Int.natAbs_mul]at h';have:Nat.Coprime q.natAbs p.natAbs:=by unfold Nat.Coprime;rw[Nat.gcd_comm];exact hc
 exact Int.natAbs_dvd_natAbs.mp (this.dvd_of_dvd_mul_left h')
def VS{p q r t:Int}(ai:0<q)(aj:Int.gcd p q=1)(bt:0<t)(cf:Int.gcd r t=1)(h:p*t=r*q):p=r/\q=t:=by
 have gO:q∣t:=Nw (by rw[h];exact Int.dvd_mul_left r q) aj;have hg:t∣q:=Nw (by rw[<-h];exact Int.dvd_mul_left p t) cf;have e:q=t:=Int.dvd_antisymm (by lia) (by lia) gO hg;subst e;exact⟨Int.eq_of_mul_eq_mul_right (by lia) h,I⟩
set_option tactic.hygienic true in
mutual
theorem th:∀(f:aU)(a b:D),dY f->b1 dh f a=ao->b1 dh f b=ao->Good (dx f) a b
 | .bare k,a,b,_,ai,aj=>by
  rw[b1]at ai aj;rcases qU k with rfl|rfl|rfl|rfl
  ·cases a<;>first|cases ai|skip
   cases b<;>first|cases aj|skip
   exact⟨⟨fun _=>I,fun _=>by rw[dx];rfl⟩,⟨fun _=>rfl,fun _=>by rw[dT];rfl⟩⟩
  ·cases a<;>first|cases ai|skip
   rename_i x;cases b<;>first|cases aj|skip
   rename_i y;refine⟨?_,?_⟩
   ·rw[dx];show sgn (PyProof.Rows.b2i x) (PyProof.Rows.b2i y)=0↔_;rw[uH];cases x<;>cases y<;>simp[PyProof.Rows.b2i]
   .rw[dT];cases x<;>cases y<;>simp[N6]
  ·cases a<;>first|cases ai|skip
   rename_i x;cases b<;>first|cases aj|skip
   rename_i y;refine⟨?_,?_⟩
   ·rw[dx];show sgn x y=0↔_;rw[uH];simp
   .rw[dT];simp[yP]
  ·replace ai:dh a=ao:=ai
   replace aj:dh b=ao:=aj
   unfold dh at ai aj;split at ai
   ·rename_i p q;split at aj
    ·rename_i r t;have ai:=hT ai;have aj:=hT aj;refine⟨?_,?_⟩
     ·rw[dx];show sgn (p*t) (r*q)=0↔_;rw[uH];constructor
      ·intro h;obtain⟨aQ,aR⟩:=VS ai.1 ai.2.1 aj.1 aj.2.1 h;rw[aQ,aR]
      ·intro h;simp at h;rw[h.1,h.2]
     ·rw[dT];show eo _ _=ao↔_;simp[eo,dT,yP]
    .cases aj
   .cases ai
 | .sp lo aG,a,b,_,ai,aj=>by
  rw[b1]at ai aj;cases a<;>first|cases ai|skip
  rename_i x;cases b<;>first|cases aj|skip
  rename_i y;refine⟨?_,?_⟩
  ·rw[dx];show sgn x y=0↔_;rw[uH];simp
  .rw[dT];simp[yP]
 | .le s,a,b,_,ai,aj=>by
  rw[b1]at ai aj;cases a<;>first|cases ai|skip
  rename_i x;cases b<;>first|cases aj|skip
  rename_i y;have ai:(decide (x.length<=200)&&hM x s)=ao:=ai;have aj:(decide (y.length<=200)&&hM y s)=ao:=aj;rw[ix]at ai aj;have g1:=ai.2;have g2:=aj.2;unfold hM at g1 g2;rw[hy]at g1 g2;refine⟨?_,?_⟩
  ·rw[dx];show qq (lk s x) (lk s y)=0↔_;rw[aau];constructor
   ·intro h;have:=MT x.cps.toList y.cps.toList (fun c hc=>hT (g1 c hc)) (fun c hc=>hT (g2 c hc)) h
    have:x=y:=by
     cases x;cases y;congr 1;exact Array.toList_inj.mp this
    rw[this]
   ·intro h;simp at h;rw[h]
  .rw[dT];simp[jL]
 | .one k f,a,b,aF,ai,aj=>by
  rw[dY]at aF;rw[b1]at ai aj;rcases pT k with rfl|rfl|rfl
  ·have aN:∃xs,a=.tup xs/\∀x,x∈xs->b1 dh f x=ao:=by
    have ai:oM (b1 dh f) a=ao:=ai;unfold oM at ai;split at ai
    .exact⟨[],I,fun x av=>nomatch av⟩
    .exact⟨[_],I,fun y ba=>by rw[eB.mp ba];exact ai⟩
    .cases ai
   have al:∃xs,b=.tup xs/\∀x,x∈xs->b1 dh f x=ao:=by
    have aj:oM (b1 dh f) b=ao:=aj;unfold oM at aj;split at aj
    .exact⟨[],I,fun x av=>nomatch av⟩
    .exact⟨[_],I,fun y ba=>by rw[eB.mp ba];exact aj⟩
    .cases aj
   obtain⟨xs,rfl,av⟩:=aN;obtain⟨aw,rfl,ba⟩:=al;have all:∀(i:Nat)(x y:D),xs[i]?=J x->aw[i]?=J y->Good (dx f) x y:=fun i x y aQ aR=>th f x y aF (av x (jc aQ)) (ba y (jc aR));refine⟨?_,?_⟩
   ·rw[dx,if_neg (by decide)];show il _ xs aw 0=0↔_;rw[CG _ xs aw 0 all];simp
   ·rw[dT];show eo xs aw=ao↔_;rw[CM xs aw fun i x y aQ aR=>(all i x y aQ aR).e];simp
  ·replace ai:tU (b1 dh f) a=ao:=ai
   replace aj:tU (b1 dh f) b=ao:=aj
   cases a<;>first|cases ai|skip
   rename_i xs;cases b<;>first|cases aj|skip
   rename_i aw;have ai:(decide (xs.length<=60)&&xs.all (b1 dh f))=ao:=ai;have aj:(decide (aw.length<=60)&&aw.all (b1 dh f))=ao:=aj;rw[ix,hy]at ai aj;have all:∀(i:Nat)(x y:D),xs[i]?=J x->aw[i]?=J y->Good (dx f) x y:=fun i x y aQ aR=>th f x y aF (ai.2 x (jc aQ)) (aj.2 y (jc aR));refine⟨?_,?_⟩
   ·rw[dx,if_neg (by decide)];show il _ xs aw 0=0↔_;rw[CG _ xs aw 0 all];simp
   ·rw[dT];show eo xs aw=ao↔_;rw[CM xs aw fun i x y aQ aR=>(all i x y aQ aR).e];simp
  ·have g:=th f a b aF ai aj;refine⟨?_,g.e⟩;rw[dx,if_pos rfl,<-g.z];lia
 | .two k ns fs,a,b,aF,ai,aj=>by
  rw[dY]at aF;rw[b1]at ai aj;rcases mX k with rfl|rfl
  ·rw[if_pos rfl]at ai aj;cases a<;>first|cases ai|skip
   rename_i xs;cases b<;>first|cases aj|skip
   rename_i aw;obtain⟨bJ,g1⟩:=yu (show eM dh fs xs=ao from ai);obtain⟨bZ,g2⟩:=yu (show eM dh fs aw=ao from aj)
   have all:∀(i:Nat)(x y:D),xs[i]?=J x->aw[i]?=J y->Good ((iF fs).getD ((0+i)%fs.length) fun _ _=>0) x y:=fun i x y aQ aR=>by
    have aG:i<fs.length:=by
     rcases h4 i xs.length with z|z
     .omega
     .rw[uA z]at aQ;cases aQ
    rw[Nat.zero_add,Nat.mod_eq_of_lt aG];have aD:=cw aG;exact Cw fs i x y _ aD aF.2.2 (g1 i _ x aD aQ) (g2 i _ y aD aR)
   refine⟨?_,?_⟩
   ·rw[dx,if_pos rfl];show il _ xs aw 0=0↔_;rw[CG _ xs aw 0 all];simp
   ·rw[dT];show eo xs aw=ao↔_;rw[CM xs aw fun i x y aQ aR=>(all i x y aQ aR).e];simp
  ·rw[if_neg (by decide)]at ai aj;unfold uQ at ai aj;split at ai
   ·rename_i n x;split at aj
    ·rename_i m y;have mem:∀{n:aa}{x:D},kN dh fs ns n x=ao->n∈ns:=fun{n x}h=>ti fs ns n x aF.2.1 h;have bj:=mem ai;have hm:=mem aj;rw[tj fs ns n bj aF.2.1]at ai;rw[tj fs ns m hm aF.2.1]at aj;have ik:=pw bj;have ado:=pw hm;have acy:ns[ns.idxOf n]=n:=List.getElem_idxOf ik;have acx:ns[ns.idxOf m]=m:=List.getElem_idxOf ado;rw[aF.2.1]at ik;have aD:=cw ik;have h0:ns.idxOf n=ns.idxOf m↔n=m:=⟨fun h=>by rw[<-acy,<-acx];congr 1,fun h=>by rw[h]⟩;by_cases z:n=m
     ·subst z;rw[eR,aD]at ai aj;have g:=Cw fs _ x y _ aD aF.2.2 ai aj;refine⟨?_,?_⟩
      ·rw[dx,if_neg (by decide)];show(if n=n then _ else _)=0↔_;rw[if_pos rfl];show(iF fs).getD (ns.idxOf n) _ x y=0↔_;rw[g.z];simp
      ·rw[dT];show eo _ _=ao↔_;simp[eo,dT,jL,g.e]
     ·refine⟨?_,?_⟩
      ·rw[dx,if_neg (by decide)];show(if n=m then _ else _)=0↔_;rw[if_neg z];show sgn (ns.idxOf n) (ns.idxOf m)=0↔_;rw[uH];constructor
       ·intro h;exact absurd (h0.mp (by lia)) z
       ·intro h;simp at h;exact absurd h.1 z
      ·rw[dT];show eo _ _=ao↔_;simp[eo,dT,jL,z]
    .cases aj
   .cases ai
theorem Cw:∀(fs:List aU)(i:Nat)(x y:D)(f:aU),fs[i]?=J f->gv fs->b1 dh f x=ao->b1 dh f y=ao->Good ((iF fs).getD i fun _ _=>0) x y
 |[],i,x,y,f,e,_,_,_=>by cases e
 |g::fs,0,x,y,f,e,ok,ai,aj=>by
  cases e;rw[gv]at ok;rw[iF];exact th g x y ok.1 ai aj
 |g::fs,i+1,x,y,f,e,ok,ai,aj=>by
  rw[gv]at ok;rw[iF];exact Cw fs i x y f e ok.2 ai aj
end
theorem dw.ge{H:aq}:∀(ds:List D){vs:List V}{i:Nat}{d:D},dw H ds vs->ds[i]?=J d->∃v,vs[i]?=J v/\dZ H d v
 |[],vs,i,d,h,e=>by cases e
 |d::ds,vs,0,x,h,e=>by
  obtain⟨o',r,rfl,q,b8⟩:=h;cases e;exact⟨_,I,q⟩
 |d::ds,vs,i+1,x,h,e=>by
  obtain⟨o',r,rfl,q,b8⟩:=h;obtain⟨v,ai,aj⟩:=dw.ge (vs:=r) ds b8 (show ds[i]?=J x from e);exact⟨v,ai,aj⟩
def sy{K:bT}{l:List V}(h:H p=J (.lst l)\/H p=J (.tup l)):Ke K (.ref p) H l.length:=h.elim (fun e =>.inl ⟨_,bp e,rfl⟩) (fun e =>.inr ⟨_,dy e,rfl⟩)
def yw{n:Nat}(h:gb ds<=n)(e:ds[i]?=J d):fK d<=n:=CO (jc e) h
def bG.ahead{c:c9}(f:aU){o:ag}(h:bG c X H f o):∃ah fs,H o=J (.ins (eb c (slot f)) ah fs)/\fs.lookup (aa.ofString "ahead")=aA :=
 bG.ins (m:=aa.ofString "ahead") ⋯ ⋯ ⋯ ⋯ ⋯ ⋯ f h
structure R0(c:c9)(n:Nat)(H:aq)(f:aU)(o:ag)(a b:D)(du gi:V):Prop where
 aD:bG c [] H f o
 ok:dY f
 fg:aP f<=n
 mV:dZ H a du
 db:dZ H b gi
 fa:b1 dh f a=ao
 eL:b1 dh f b=ao
 aN:fK a<=50
 al:fK b<=50
inductive Qc(c:c9)(n:Nat)(i:fQ)(vs:List V)(H:aq)(Q:bI)(E:cP):Prop where
 |mk (o:ag) (f:aU) (a b:D) (du gi:V) (bb:vs=[.ref o,du,gi]) (ai:slot f=i) (aj:R0 c n H f o a b du gi) (bt:Q (.aS (decide (dx f a b<0))) H)
def aan(F:cU K "ahead" "Nothing.ahead" AM f fd):cB P w K mg zn cM 1 f fd ["self","one","other"] (Qc c n (.b 0)):=by
 refine F.d1 Xf (fun H vs Q E au h=>?_);obtain⟨o,g,a,b,du,gi,rfl,hs,B,q⟩:=h;obtain rfl:=jY hs;refine⟨_,(aL (aY iY)),H,.refl (cK _),?_⟩;rw[dx]at q;exact q
set_option tactic.hygienic true in
def Ve(F:cU K "ahead" "Truth.ahead" BD f fd):cB P w K mg zn cM 1 f fd ["self","one","other"] (Qc c n (.b 1)):=by
 refine F.d1 X0 (fun H vs Q E au h=>?_);obtain⟨o,g,a,b,du,gi,rfl,hs,B,q⟩:=h;obtain rfl:=jY hs;obtain⟨bQ,_,_,aN,al,fa,eL,gO,hg⟩:=B;clear gO hg;rw[b1]at fa eL;cases a<;>first|cases fa|skip
 rename_i x;cases b<;>first|cases eL|skip
 rename_i y;obtain rfl:du=.aS x:=aN;obtain rfl:gi=.aS y:=al;rw[dx]at q;refine⟨_,(aL (aY (k9 (af 2) (md (Hd (af 1)))))),_,I,y,I,?_⟩;cases y
 ·rw[show decide (uP 1 (.aS x) (.aS aI)<0)=aI by cases x<;>decide]at q;exact e2 ⟨H,.refl (cK _),q⟩
 ·rw[show decide (uP 1 (.aS x) (.aS ao)<0)=!x by cases x<;>decide]at q;exact ho ⟨_,I,x,I,H,.refl (cK _),q⟩
set_option tactic.hygienic true in
def Vd(F:cU K "ahead" "Whole.ahead" Bz f fd):cB P w K mg zn cM 1 f fd ["self","one","other"] (Qc c n (.b 2)):=by
 refine F.d1 XW (fun H vs Q E au h=>?_);obtain⟨o,g,a,b,du,gi,rfl,hs,B,q⟩:=h;obtain rfl:=jY hs;obtain⟨bQ,_,_,aN,al,fa,eL,gO,hg⟩:=B;clear gO hg;rw[b1]at fa eL;cases a<;>first|cases fa|skip
 rename_i x;cases b<;>first|cases eL|skip
 rename_i y;obtain rfl:du=.int x:=aN;obtain rfl:gi=.int y:=al;rw[dx]at q;refine⟨_,(aL (aY (g4 iV (af 1) (af 2)))),_,I,_,I,.inl ⟨_,_,I,I,H,.refl (cK _),?_⟩⟩;have e:decide (x<y)=decide (uP 2 (.int x) (.int y)<0):=decide_eq_decide.mpr (show x<y↔sgn x y<0 from nL.symm);rw[<-e]at q;exact q
set_option tactic.hygienic true in
def V2(F:cU K "ahead" "Span.ahead" BW f fd):cB P w K mg zn cM 1 f fd ["self","one","other"] (Qc c n .s):=by
 refine F.d1 YA (fun H vs Q E au h=>?_);obtain⟨o,g,a,b,du,gi,rfl,hs,B,q⟩:=h;obtain⟨lo,aG,rfl⟩:=yq hs;obtain⟨bQ,_,_,aN,al,fa,eL,gO,hg⟩:=B;clear gO hg;rw[b1]at fa eL;cases a<;>first|cases fa|skip
 rename_i x;cases b<;>first|cases eL|skip
 rename_i y;obtain rfl:du=.int x:=aN;obtain rfl:gi=.int y:=al;rw[dx]at q;refine⟨_,(aL (aY (g4 iV (af 1) (af 2)))),_,I,_,I,.inl ⟨_,_,I,I,H,.refl (cK _),?_⟩⟩;have e:decide (x<y)=decide (sgn (ra (.int x)) (ra (.int y))<0):=decide_eq_decide.mpr (show x<y↔sgn x y<0 from nL.symm);rw[<-e]at q;exact q
set_option tactic.hygienic true in
def ZQ(F:cU K "ahead" "Fraction.ahead" AG f fd):cB P w K mg zn cM 1 f fd ["self","one","other"] (Qc c n (.b 3)):=by
 refine F.d1 W0 (fun H vs Q E au h=>?_);obtain⟨o,g,a,b,du,gi,rfl,hs,B,q⟩:=h;obtain rfl:=jY hs;obtain⟨bQ,_,_,aN,al,fa,eL,gO,hg⟩:=B;clear gO hg;rw[b1]at fa eL
 replace fa:dh a=ao:=fa
 replace eL:dh b=ao:=eL
 unfold dh at fa eL;split at fa
 ·rename_i c8 cn;split at eL
  ·rename_i cS b8;obtain⟨t1,_,rfl,aQ,⟨_,_,rfl,rfl,_,_,rfl,rfl,rfl⟩,_⟩:=aN;obtain⟨f6,_,rfl,aR,⟨_,_,rfl,rfl,_,_,rfl,rfl,rfl⟩,_⟩:=al;rw[dx]at q;have a0:∀(x:V)(r:List V),e9 (x::r) 0=J x:=fun x r=>dF (j:=0) rfl;have a1:∀(x y:V)(r:List V),e9 (x::y::r) 1=J y:=fun x y r=>dF (j:=1) rfl;refine⟨_,(aL (aY (g4 iV (aM He (cI cJ (af 1) aH) (cI cJ (af 2) aH)) (aM He (cI cJ (af 2) aH) (cI cJ (af 1) aH))))),?_⟩;ac_rfl;have fa:=hT fa;have eL:=hT eL;have akC:(10:Nat)^38<2^200:=⋯;have r0:∀{x:Int},x.natAbs<=10^38->dI.Int.intBits x<=2^20:=fun{x}h=>c5 (NF (k:=200) (show x.natAbs<2^200 by lia)) (by decide);refine⟨_,I,x0 aQ (a0 _ _) ⟨_,I,x0 aR (a1 _ _ _) ⟨_,_,I,I,⟨r0 fa.2.2.1,r0 (by lia)⟩,_,I,x0 aR (a0 _ _) ⟨_,I,x0 aQ (a1 _ _ _) ⟨_,_,I,I,⟨r0 eL.2.2.1,r0 (by lia)⟩,.inl ⟨_,_,I,I,H,.refl (cK _),?_⟩⟩⟩⟩⟩⟩;have e:decide (c8*b8<cS*cn)=decide (uP 3 (.tup [.int c8,.int cn]) (.tup [.int cS,.int b8])<0):=decide_eq_decide.mpr (show c8*b8<cS*cn↔sgn (c8*b8) (cS*cn)<0 from nL.symm);rw[<-e]at q;exact q
  .cases eL
 .cases fa
set_option tactic.hygienic true in
def aao(dH:e7 K c.l)(F:cU K "ahead" "Letters.ahead" AP f fd)(n8:fp P w K mg zn 1 c.l "places" ["self","text"] (Rc c.l)):cB P w K mg zn cM 2 f fd ["self","one","other"] (Qc c n .l):=by
 refine F.d1 Xi (fun H vs Q E au h=>?_);obtain⟨o,g,a,b,du,gi,rfl,hs,B,q⟩:=h;obtain⟨bK,rfl⟩:=yr hs;obtain⟨⟨_,ah,aK⟩,aF,_,aN,al,fa,eL,gO,hg⟩:=B;clear gO hg;rw[b1]at fa eL;cases a<;>first|cases fa|skip
 rename_i x;cases b<;>first|cases eL|skip
 rename_i y
 replace fa:(decide (x.length<=200)&&hM x bK)=ao:=fa
 replace eL:(decide (y.length<=200)&&hM y bK)=ao:=eL
 rw[ix,k6]at fa eL;obtain⟨rfl,_⟩:=aN;obtain⟨rfl,_⟩:=al;rw[dx]at q
 have DV:List.lookup (aa.ofString "places") [(aa.ofString "signs",V.str bK)]=aA:=by
  unfold List.lookup;rw[show(aa.ofString "places" == aa.ofString "signs")=aI by decide+kernel];rfl
 refine⟨_,(aL (aY (g4 (afC (mE au)) (lK n8 dH au (af 0) (ak (af 1) ay)) (lK n8 dH au (af 0) (ak (af 2) ay))))),?_⟩;ac_rfl;refine⟨_,I,o,ah,_,I,aK,DV,_,I,o,ah,bK,x,I,aK,fa.2,fa.1,fun b9 g1=>?_⟩;have nK:=cZ (o:=de.lst ((idxs bK x).map fun k=>V.int ((k:Nat):Int))) g1;refine⟨_,I,o,ah,_,I,nK _ _ aK,DV,_,I,o,ah,bK,y,I,nK _ _ aK,eL.2,eL.1,fun ej g2=>?_⟩;have tY:=cZ (o:=de.lst ((idxs bK y).map fun k=>V.int ((k:Nat):Int))) g2;have ew:∀t:aa,((idxs bK t).map fun k=>V.int ((k:Nat):Int))=(lk bK t).map V.int:=fun t=>by unfold idxs lk;rw[hx,hx];rfl
 refine .inr ⟨b9,ej,lk bK x,lk bK y,I,I,bp (by rw[tY _ _ aB,ew]),bp (by rw[aB,ew]),H,.refl (nK.trans tY),?_⟩
 have e:dU.lexLt (lk bK x) (lk bK y)=decide (qq (lk bK (Ex (.str x))) (lk bK (Ex (.str y)))<0):=by
  rw[Bool.eq_iff_iff,k6];exact P7.symm
 rw[<-e]at q;exact q
def Uj(T:iX K (c.o 2))(F:cU K "ahead" "Turned.ahead" AZ f fd)(lu:eZ P w K mg zn (2*n+4) "ahead" ["self","one","other"] (eb c) (Qc c n)):cB P w K mg zn cM (2*n+4+1) f fd ["self","one","other"] (Qc c (n+1) (.o 2)):=by
 refine F.d1 Xx (fun H vs Q E au h=>?_);obtain⟨o,bF,a,b,du,gi,rfl,hs,B,q⟩:=h;obtain⟨g,rfl⟩:=mm hs;obtain⟨⟨_,ah,i,aK,dM⟩,aF,bY,aN,al,fa,eL,ai,aj⟩:=B;rw[dY]at aF;rw[aP]at bY;rw[b1]at fa eL;rw[dx,if_pos rfl]at q;obtain⟨fB,fC,ew,li⟩:=bG.ahead g dM;refine⟨_,(aL (aY (gB lu au (dp (af 0) I) (ak (af 2) (ak (af 1) ay))))),_,rfl,o,c.o 2,ah,_,_,rfl,aK,T.cl,T.kW,gs ..,i,slot g,fB,fC,rfl,ew,li,?_⟩;refine⟨_,I,_,I,i,g,b,a,gi,du,I,I,⟨dM,aF,by lia,al,aN,eL,fa,aj,ai⟩,H,.refl (cK _),?_⟩;have e:decide (dx g b a<0)=decide (0-dx g a b<0):=decide_eq_decide.mpr (by rw[wq g a b];lia);rw[e];exact q
def Vf(nb:dD mg)(T:iX K (c.o 0))(F:cU K "ahead" "Maybe.ahead" BK f fd)(lu:eZ P w K mg zn (2*n+4) "ahead" ["self","one","other"] (eb c) (Qc c n)):cB P w K mg zn cM (2*n+4+1) f fd ["self","one","other"] (Qc c (n+1) (.o 0)):=by
 refine F.d1 X8 (fun H vs Q E au h=>?_);obtain⟨o,bF,a,b,du,gi,rfl,hs,B,q⟩:=h;obtain⟨g,rfl⟩:=mm hs;obtain⟨⟨_,ah,i,aK,dM⟩,aF,bY,aN,al,fa,eL,ai,aj⟩:=B;rw[dY]at aF;rw[aP]at bY;rw[b1]at fa eL;rw[dx,if_neg (by decide)]at q;obtain⟨fB,fC,ew,li⟩:=bG.ahead g dM
 have ex:∀{d:D}{v:V},oM (b1 dh g) d=ao->dZ H d v->∃t,v=.ref t/\((d=.tup []/\H t=J (.tup []))\/∃x jA,d=.tup [x]/\H t=J (.tup [jA])/\dZ H x jA/\b1 dh g x=ao):=fun{d v}ai aj=>by
  unfold oM at ai;split at ai
  ·obtain⟨t,_,rfl,e,rfl,_⟩:=aj;exact⟨t,I,.inl ⟨I,e⟩⟩
  ·obtain⟨t,_,rfl,e,⟨jA,_,rfl,av,rfl⟩,_⟩:=aj;exact⟨t,I,.inr ⟨_,jA,I,e,av,ai⟩⟩
  .cases ai
 obtain⟨t1,rfl,ca⟩:=ex fa aN;obtain⟨f6,rfl,NQ⟩:=ex eL al
 refine⟨_,(aO (cq (gA.pt (jD (bV dn (c1 eh I nb.d5 ea (ak (af 1) ay)) aH) (kh (bV dn (c1 eh I nb.d5 ea (ak (af 2) ay)) aH)))) (aL (aY (g4 iV (c1 eh I nb.d5 ea (ak (af 1) ay)) (c1 eh I nb.d5 ea (ak (af 2) ay))))) cm)
  (aL (aY (gB lu au (dp (af 0) rfl) (ak (cI cJ (af 1) aH) (ak (cI cJ (af 2) aH) ay)))))),?_⟩
 ac_rfl;rcases ca with⟨rfl,aQ⟩|⟨x,jA,rfl,aQ,av,uV⟩
 ·have q:Q (.aS (decide (sgn (([]:List D).length) ((items b).length)<0))) H:=q
  have dG:∀vs:List V,H f6=J (.tup vs)->vs.length=(items b).length->Q (.aS (decide ((([]:List V).length:Int)<(vs.length:Int)))) H:=fun vs e fc=>by
   rw[decide_eq_decide.mpr nL]at q;rw[fc];exact q
  rcases NQ with⟨rfl,aR⟩|⟨y,ru,rfl,aR,ba,tA⟩
  .exact⟨_,I,_,_,I,.inr ⟨_,dy aQ,I⟩,I,_,I,hp I ⟨_,I,_,_,I,.inr ⟨_,dy aQ,I⟩,_,I,_,_,I,.inr ⟨_,dy aR,I⟩,.inl ⟨_,_,I,I,H,.refl (cK _),dG [] aR I⟩⟩⟩
  .exact⟨_,I,_,_,I,.inr ⟨_,dy aQ,I⟩,I,_,I,hp I ⟨_,I,_,_,I,.inr ⟨_,dy aQ,I⟩,_,I,_,_,I,.inr ⟨_,dy aR,I⟩,.inl ⟨_,_,I,I,H,.refl (cK _),dG [ru] aR I⟩⟩⟩
 ·rcases NQ with⟨rfl,aR⟩|⟨y,ru,rfl,aR,ba,tA⟩
  .refine⟨_,I,_,_,I,.inr ⟨_,dy aQ,I⟩,I,_,I,da (by simp) ⟨_,I,_,_,I,.inr ⟨_,dy aR,I⟩,I,_,I,hp I ⟨_,I,_,_,I,.inr ⟨_,dy aQ,I⟩,_,I,_,_,I,.inr ⟨_,dy aR,I⟩,.inl ⟨_,_,I,I,H,.refl (cK _),q⟩⟩⟩⟩
  ·refine⟨_,I,_,_,I,.inr ⟨_,dy aQ,I⟩,I,_,I,da (by simp) ⟨_,I,_,_,I,.inr ⟨_,dy aR,I⟩,I,_,I,da (by simp) ?_⟩⟩;have a0:∀(x:V)(r:List V),e9 (x::r) 0=J x:=fun x r=>dF (j:=0) rfl;rw[fK,gb,gb]at ai aj;refine⟨_,I,o,c.o 0,ah,_,_,I,aK,T.cl,T.kW,gs ..,i,slot g,fB,fC,I,ew,li,_,I,x0 aQ (a0 _ _) ⟨_,I,x0 aR (a0 _ _) ⟨i,g,x,y,jA,ru,I,I,⟨dM,aF,by lia,av,ba,uV,tA,by lia,by lia⟩,H,.refl (cK _),?_⟩⟩⟩
   have e:il (fun _=>dx g) (items (.tup [x])) (items (.tup [y])) 0=dx g x y:=by
    show(if dx g x y=0 then il (fun _=>dx g) [] [] 1 else dx g x y)=_;by_cases z:dx g x y=0
    .rw[if_pos z,z];rfl
    .rw[if_neg z]
   rw[e]at q;exact q
inductive QD(vs:List V)(H:aq)(Q:bI)(E:cP):Prop where
 |mk (du gi:V) (xs aw:List D) (bJ bZ:List V) (bb:vs=[du,gi]) (ai:(∃a,du=.ref a/\(H a=J (.lst bJ)\/H a=J (.tup bJ)))) (aj:(∃a,gi=.ref a/\(H a=J (.lst bZ)\/H a=J (.tup bZ)))) (bt:dw H xs bJ) (cf:dw H aw bZ) (eF:xs.length<=1000) (gD:aw.length<=1000) (kl:gb xs<=50) (kP:Q (.int ((fe xs aw:Nat):Int)) H)
set_option tactic.hygienic true in
theorem Nu:∀(xs aw:List D)(i:Nat),i<=fe xs aw->fe (xs.drop i) (aw.drop i)=fe xs aw-i
 |xs,aw,0,_=>rfl
 |[],aw,i+1,h=>by
  have:fe [] aw=0:=by cases aw<;>rfl
  lia
 |x::xs,[],i+1,h=>by
  have:fe (x::xs) []=0:=rfl;lia
 | x::xs,y::aw,i+1,h=>by
  rw[fe]at h ⊢;split at h
  ·rename_i z;rw[if_pos z];have:=Nu xs aw i (by lia);show fe (xs.drop i) (aw.drop i)=_;lia
  .omega
def WM{xs aw:List D}(h:i<=fe xs aw):i<fe xs aw↔∃x y,xs[i]?=J x/\aw[i]?=J y/\dT x y=ao:=by
 have e:=Nu xs aw i h;constructor
 ·intro aG;have aC:=yH xs aw;have ai:i<xs.length:=by lia
  have aj:i<aw.length:=by lia
  rw[qJ ai,qJ aj,fe]at e;refine⟨_,_,cw ai,cw aj,?_⟩;split at e
  .assumption
  .omega
 ·rintro⟨x,y,aQ,aR,gn⟩;obtain⟨ai,cn⟩:=kE.mp aQ;obtain⟨aj,b8⟩:=kE.mp aR;rw[qJ ai,qJ aj,fe,cn,b8,if_pos gn]at e;lia
def XK(nb:dD mg)(F:dB K mg "first_unlike" FN ["one","other"] f fd):bf P w K mg zn 1 "first_unlike" ["one","other"] QD:=by
 refine F.eH FF (fun H vs Q E au h=>?_);obtain⟨du,gi,xs,aw,bJ,bZ,rfl,⟨c8,rfl,m5⟩,⟨cS,rfl,oF⟩,nF,su,tM,sl,kn,q⟩:=h;have Po:=dw.len xs nF;have Pp:=dw.len aw su
 refine⟨_,(aO (b4 2 FF.br aH)
  (aO (pB iu.never (gA.pt (rX (bV iV (af 2) (c1 eh rfl nb.d5 ea (ak (af 0) ay))) (rX (bV iV (af 2) (c1 eh rfl nb.d5 ea (ak (af 1) ay))) (tp (bV (PH (mE au)) (cI cJ (af 0) (af 2)) (cI cJ (af 1) (af 2)))))))
   (aL (b4 2 FF.br (aM cv (af 2) aH))))
  (aL (aY (af 2))))),?_⟩
 ac_rfl;refine⟨fun m ab az=>H=az/\∃i:Nat,i<=fe xs aw/\m=fe xs aw-i/\ab=[J (.ref c8),J (.ref cS),J (.int ((i:Nat):Int))],⟨_,I,0,UF _,I,I⟩,?_⟩;rintro m ab az ⟨rfl,i,aG,rfl,rfl⟩;have aC:=yH xs aw
 have dG:¬i<fe xs aw->Q (.int ((i:Nat):Int)) H:=fun h=>by
  rw[show i=fe xs aw by lia];exact q
 refine⟨_,I,_,I,.ref c8,bJ.length,I,sy m5,.inl ⟨_,_,I,I,_,I,fM (fun hA=>?_) (fun hA=>⟨_,I,H,.refl (cK _),dG (by lia)⟩)⟩⟩;refine⟨_,I,_,I,.ref cS,bZ.length,I,sy oF,.inl ⟨_,_,I,I,_,I,fM (fun jK=>?_) (fun jK=>⟨_,I,H,.refl (cK _),dG (by lia)⟩)⟩⟩;have jo:i<xs.length:=by lia
 have gm:i<aw.length:=by lia
 obtain⟨jA,ex,gC⟩:=dw.ge xs nF (cw jo);obtain⟨ru,r3,yM⟩:=dw.ge aw su (cw gm)
 have OK:dT xs[i] aw[i]=ao↔i<fe xs aw:=by
  rw[WM aG];constructor
  .intro h;exact⟨_,_,cw jo,cw gm,h⟩
  ·rintro⟨x,y,aQ,aR,gn⟩;rw[cw jo]at aQ;rw[cw gm]at aR;cases aQ;cases aR;exact gn
 have akO:=yw kn (cw jo);refine⟨_,I,_,I,oH m5 ex ⟨_,I,_,I,oH oF r3 (.inr ⟨xs[i],aw[i],gC,yM,by lia,_,rfl,?_⟩)⟩⟩;cases bl:dT xs[i] aw[i]with
 |true =>
  have iS:=OK.mp bl;refine ho ⟨fun cb H'=>∃b6,b6<fe xs aw-i/\(H=H'/\∃i:Nat,i<=fe xs aw/\b6=fe xs aw-i/\cb=[J (.ref c8),J (.ref cS),J (.int ((i:Nat):Int))]),fun _ _ h=>h,_,I,.inl ⟨_,_,I,I,fe xs aw-(i+1),by lia,rfl,i+1,by lia,rfl,?_⟩⟩;show [_,_,J (V.int (((i:Nat):Int)+1))]=_;rw[show((i:Nat):Int)+1=((i+1:Nat):Int) by lia]
 |false=>exact e2 ⟨_,I,H,.refl (cK _),dG (fun h=>by rw[OK.mpr h]at bl;cases bl)⟩
def V3(nb:dD mg)(T:iX K (c.o 1))(F:cU K "ahead" "Many.ahead" B0 f fd)(rz:bf P w K mg zn 1 "first_unlike" ["one","other"] QD)(lu:eZ P w K mg zn (2*n+4) "ahead" ["self","one","other"] (eb c) (Qc c n)):cB P w K mg zn cM (2*n+4+1) f fd ["self","one","other"] (Qc c (n+1) (.o 1)):=by
 refine F.d1 Ln (fun H vs Q E au h=>?_);obtain⟨o,bF,a,b,du,gi,rfl,hs,B,q⟩:=h;obtain⟨g,rfl⟩:=mm hs;obtain⟨⟨_,ah,i,aK,dM⟩,aF,bY,aN,al,fa,eL,ai,aj⟩:=B;rw[dY]at aF;rw[aP]at bY;rw[b1]at fa eL
 replace fa:tU (b1 dh g) a=ao:=fa
 replace eL:tU (b1 dh g) b=ao:=eL
 obtain⟨xs,rfl⟩:∃xs,a=.lst xs:=by cases a<;>first|cases fa|exact⟨_,I⟩
 obtain⟨aw,rfl⟩:∃aw,b=.lst aw:=by cases b<;>first|cases eL|exact⟨_,I⟩
 replace fa:(decide (xs.length<=60)&&xs.all (b1 dh g))=ao:=fa
 replace eL:(decide (aw.length<=60)&&aw.all (b1 dh g))=ao:=eL
 rw[ix,k6,hy]at fa eL;obtain⟨t1,bJ,rfl,aQ,nF,_⟩:=aN;obtain⟨f6,bZ,rfl,aR,su,_⟩:=al;rw[fK]at ai aj;rw[dx,if_neg (by decide)]at q
 replace q:Q (.aS (decide (il (fun _=>dx g) xs aw 0<0))) H:=q
 have Po:=dw.len xs nF;have Pp:=dw.len aw su;obtain⟨fB,fC,ew,li⟩:=bG.ahead g dM;have all:∀(i:Nat)(x y:D),xs[i]?=J x->aw[i]?=J y->Good (dx g) x y:=fun i x y aQ aR=>th g x y aF (fa.2 x (jc aQ)) (eL.2 y (jc aR));have hle:=yH xs aw
 refine⟨_,(aO (b4 3 Ln.br (b7 rz au (ak (af 1) (ak (af 2) ay))))
  (aO (cq (gA.pt (jD (bV dn (af 3) (c1 eh rfl nb.d5 ea (ak (af 1) ay))) (kh (bV dn (af 3) (c1 eh rfl nb.d5 ea (ak (af 2) ay)))))) (aL (aY (g4 iV (c1 eh rfl nb.d5 ea (ak (af 1) ay)) (c1 eh rfl nb.d5 ea (ak (af 2) ay))))) cm)
  (aL (aY (gB lu au (dp (af 0) rfl) (ak (cI cJ (af 1) (af 3)) (ak (cI cJ (af 2) (af 3)) ay))))))),?_⟩
 ac_rfl;refine⟨_,I,_,I,.ref t1,.ref f6,xs,aw,bJ,bZ,I,⟨t1,I,.inl aQ⟩,⟨f6,I,.inl aR⟩,nF,su,by lia,by lia,by lia,?_⟩
 have aeG:il (fun _=>dx g) xs aw 0=sgn xs.length aw.length->Q (.aS (decide ((bJ.length:Int)<(bZ.length:Int)))) H:=fun h=>by
  rw[h,decide_eq_decide.mpr nL]at q;rw[Po,Pp];exact q
 have yK:=Hs (fun _=>dx g) xs aw 0 all
 have bound:∀{ds:List D}{i:Nat}{x:D},ds[i]?=J x->i<ds.length:=fun{ds i x}h=>by
  rcases h4 i ds.length with z|z
  .exact z
  .rw[uA z]at h;cases h
 have y7:fe xs aw=bJ.length\/fe xs aw=bZ.length->il (fun _=>dx g) xs aw 0=sgn xs.length aw.length:=fun h=>by
  rcases yK with⟨_,z⟩|⟨x,y,d6,d2,_⟩
  .exact z
  .have:=bound d6;have:=bound d2;lia
 have ret:(fe xs aw=bJ.length\/fe xs aw=bZ.length)->Q (.aS (decide ((bJ.length:Int)<(bZ.length:Int)))) H:=fun h=>aeG (y7 h);refine⟨_,I,_,I,.ref t1,bJ.length,I,sy (.inl aQ),I,_,I,fM (fun gr=>⟨_,I,.ref t1,bJ.length,I,sy (.inl aQ),_,I,.ref f6,bZ.length,I,sy (.inl aR),.inl ⟨_,_,I,I,H,.refl (cK _),ret (.inl (by have:=V.int.inj gr;lia))⟩⟩) (fun gr=>⟨_,I,_,I,.ref f6,bZ.length,I,sy (.inl aR),I,_,I,fM (fun fD=>⟨_,I,.ref t1,bJ.length,I,sy (.inl aQ),_,I,.ref f6,bZ.length,I,sy (.inl aR),.inl ⟨_,_,I,I,H,.refl (cK _),ret (.inr (by have:=V.int.inj fD;lia))⟩⟩) (fun fD=>?_)⟩)⟩;have dc:fe xs aw≠bJ.length:=fun z=>gr (by rw[z]);have dm:fe xs aw≠bZ.length:=fun z=>fD (by rw[z]);rcases yK with⟨z,_⟩|⟨x,y,d6,d2,jB⟩
 .omega
 obtain⟨jA,ex,gC⟩:=dw.ge xs nF d6;obtain⟨ru,r3,yM⟩:=dw.ge aw su d2;have aea:=yw (n:=49) (by lia) d6;have aed:=yw (n:=49) (by lia) d2;rw[jB]at q;exact⟨_,I,o,c.o 1,ah,_,_,I,aK,T.cl,T.kW,gs ..,i,slot g,fB,fC,I,ew,li,_,I,_,I,oH (.inl aQ) ex ⟨_,I,_,I,oH (.inl aR) r3 ⟨i,g,x,y,jA,ru,I,I,⟨dM,aF,by lia,gC,yM,fa.2 x (jc d6),eL.2 y (jc d2),by lia,by lia⟩,H,.refl (cK _),q⟩⟩⟩
def Uk(nb:dD mg)(T:k5 K (c.t 0))(F:cU K "ahead" "Record.ahead" A2 f fd)(rz:bf P w K mg zn 1 "first_unlike" ["one","other"] QD)(lu:eZ P w K mg zn (2*n+4) "ahead" ["self","one","other"] (eb c) (Qc c n)):cB P w K mg zn cM (2*n+4+1) f fd ["self","one","other"] (Qc c (n+1) (.t 0)):=by
 refine F.d1 Le (fun H vs Q E au h=>?_);obtain⟨o,bF,a,b,du,gi,rfl,hs,B,q⟩:=h;obtain⟨ns,fs,rfl⟩:=qB hs;obtain⟨⟨_,ah,a1,a2,os,aK,_,_,g1,g2,dM⟩,aF,bY,aN,al,fa,eL,ai,aj⟩:=B;rw[dY]at aF;rw[aP]at bY;rw[b1,if_pos rfl]at fa eL;obtain⟨xs,rfl⟩:∃xs,a=.tup xs:=by cases a<;>first|cases fa|exact⟨_,I⟩
 obtain⟨aw,rfl⟩:∃aw,b=.tup aw:=by cases b<;>first|cases eL|exact⟨_,I⟩
 obtain⟨alu,uV⟩:=yu (show eM dh fs xs=ao from fa);obtain⟨ln2,tA⟩:=yu (show eM dh fs aw=ao from eL);obtain⟨t1,bJ,rfl,aQ,nF,_⟩:=aN;obtain⟨f6,bZ,rfl,aR,su,_⟩:=al;rw[fK]at ai aj;rw[dx,if_pos rfl]at q
 replace q:Q (.aS (decide (il (fun i=>(iF fs).getD (i%fs.length) fun _ _=>0) xs aw 0<0))) H:=q
 have q6:fs.length<=20:=by have:=(jf aF.1).1;lia
 have bound:∀{α:Type}{ds:List α}{i:Nat}{x:α},ds[i]?=J x->i<ds.length:=fun{α ds i x}h=>by
  rcases h4 i ds.length with z|z
  .exact z
  .rw[uA z]at h;cases h
 have all:∀(i:Nat)(x y:D),xs[i]?=J x->aw[i]?=J y->Good ((iF fs).getD ((0+i)%fs.length) fun _ _=>0) x y:=fun i x y aQ aR=>by
  have aG:i<fs.length:=by have:=bound aQ;lia
  rw[Nat.zero_add,Nat.mod_eq_of_lt aG];have aD:=cw aG;exact Cw fs i x y _ aD aF.2.2 (uV i _ x aD aQ) (tA i _ y aD aR)
 have yK:=Hs (fun i=>(iF fs).getD (i%fs.length) fun _ _=>0) xs aw 0 all;have hle:=yH xs aw;have mC:os.length=fs.length:=d0.len fs dM
 refine⟨_,(aO (b4 3 Le.br (b7 rz au (ak (af 1) (ak (af 2) ay))))
  (aL (aY (k9 (g4 iV (af 3) (c1 eh rfl nb.d5 ea (ak (dp (af 0) rfl) ay))) (md (gB lu au (cI cJ (dp (af 0) rfl) (af 3)) (ak (cI cJ (af 1) (af 3)) (ak (cI cJ (af 2) (af 3)) ay)))))))),?_⟩
 ac_rfl;refine⟨_,I,_,I,.ref t1,.ref f6,xs,aw,bJ,bZ,I,⟨t1,I,.inr aQ⟩,⟨f6,I,.inr aR⟩,nF,su,by lia,by lia,by lia,?_⟩;refine⟨_,I,_,I,o,c.t 0,ah,_,_,I,aK,T.cl,T.m7,lX _ _ _ _ oq,.ref a2,(os.map V.ref).length,I,sy (.inl g2),.inl ⟨_,_,I,I,_,I,fM (fun gr=>?_) (fun gr=>?_)⟩⟩
 ·have gr:fe xs aw<fs.length:=by rw[cd,mC]at gr;lia
  rcases yK with⟨z,_⟩|⟨x,y,d6,d2,jB⟩
  .omega
  obtain⟨jA,ex,gC⟩:=dw.ge xs nF d6;obtain⟨ru,r3,yM⟩:=dw.ge aw su d2;have aea:=yw (n:=49) (by lia) d6;have aed:=yw (n:=49) (by lia) d2;have aD:=cw gr;obtain⟨qi,oA⟩:=tg aF.2.2 aD;obtain⟨kr,lh,nw⟩:=d0.ge fs dM aD;obtain⟨fB,fC,ew,li⟩:=bG.ahead _ nw;rw[jB,Nat.zero_add,Nat.mod_eq_of_lt gr,Cs fs _ _ aD]at q;exact⟨_,I,o,c.t 0,ah,_,_,I,aK,T.cl,T.m7,lX _ _ _ _ oq,_,I,oH (.inl g2) (show(os.map V.ref)[fe xs aw]?=J (V.ref kr) by rw[eJ,lh];rfl) ⟨kr,slot _,fB,fC,rfl,ew,li,_,rfl,_,rfl,oH (.inr aQ) ex ⟨_,rfl,_,rfl,oH (.inr aR) r3 ⟨kr,_,x,y,jA,ru,rfl,rfl,⟨nw,qi,by lia,gC,yM,uV _ _ x aD d6,tA _ _ y aD d2,by lia,by lia⟩,H,.refl (cK _),q⟩⟩⟩⟩
 ·have gr:¬fe xs aw<fs.length:=by rw[cd,mC]at gr;lia
  rcases yK with⟨_,z⟩|⟨x,y,d6,_,_⟩
  ·rw[z,decide_eq_decide.mpr nL,e8 (by lia)]at q;exact⟨H,.refl (cK _),q⟩
  .have:=bound d6;lia
def Ul(nb:dD mg)(T:k5 K (c.t 1))(F:cU K "ahead" "Choice.ahead" Bu f fd)(lu:eZ P w K mg zn (2*n+4) "ahead" ["self","one","other"] (eb c) (Qc c n)):cB P w K mg zn cM (2*n+4+1) f fd ["self","one","other"] (Qc c (n+1) (.t 1)):=by
 refine F.d1 Lf (fun H vs Q E au h=>?_);obtain⟨o,bF,a,b,du,gi,rfl,hs,B,q⟩:=h;obtain⟨ns,fs,rfl⟩:=qB hs;obtain⟨⟨_,ah,c8,cS,os,aK,_,_,g1,g2,dM⟩,aF,bY,aN,al,fa,eL,ai,aj⟩:=B;rw[dY]at aF;rw[aP]at bY;rw[b1,if_neg (by decide)]at fa eL
 have ex:∀{d:D}{v:V},uQ (kN dh fs ns) d=ao->dZ H d v->∃t m x jA,v=.ref t/\d=.tup [.str m,x]/\H t=J (.tup [.str m,jA])/\dZ H x jA/\m∈ns/\b1 dh (fs.getD (ns.idxOf m) (.bare 0)) x=ao:=fun{d v}ai aj=>by
  unfold uQ at ai;split at ai
  ·obtain⟨t,_,rfl,e,⟨_,_,rfl,⟨rfl,_⟩,jA,_,rfl,av,rfl⟩,_⟩:=aj;have hm:=ti fs ns _ _ aF.2.1 ai;rw[tj fs ns _ hm aF.2.1]at ai;exact⟨t,_,_,jA,I,I,e,av,hm,ai⟩
  .cases ai
 obtain⟨t1,dk,x,jA,rfl,rfl,aQ,av,DE,uV⟩:=ex fa aN;obtain⟨f6,gu,y,ru,rfl,rfl,aR,ba,tK,tA⟩:=ex eL al;rw[fK,gb,gb,gb,fK]at ai aj;have a0:∀(x:V)(r:List V),e9 (x::r) 0=J x:=fun x r=>dF (j:=0) rfl;have a1:∀(x y:V)(r:List V),e9 (x::y::r) 1=J y:=fun x y r=>dF (j:=1) rfl;have gF:=(jf aF.1)
 have qa:∀{m:aa},m∈ns->ns[ns.idxOf m]?=J m/\(∀j w,j<ns.idxOf m->ns[j]?=J w->w≠m)/\ns.idxOf m<fs.length:=fun{m}hm=>by
  have hk:=pw hm;refine⟨?_,fun j w cj hw e=>?_,by rw[<-aF.2.1];exact hk⟩
  .rw[cw hk,List.getElem_idxOf hk]
  ·subst e;have:=BO aF.1 hw;lia
 rw[dx,if_neg (by decide)]at q
 replace q:Q (.aS (decide ((if dk=gu then(iF fs).getD (ns.idxOf dk) (fun _ _=>0) x y else sgn (ns.idxOf dk) (ns.idxOf gu))<0))) H:=q
 refine⟨_,(aO (b4 3 Lf.br (h6 PySem.F.plainAttrs_list PySem.F.slot_list_index PySem.F.type_list_index wi (dp (af 0) I) (ak (cI cJ (af 1) aH) ay)))
  (aO (cq (bV kY (cI cJ (af 1) aH) (cI cJ (af 2) aH)) (aL (aY (g4 iV (af 3) (h6 PySem.F.plainAttrs_list PySem.F.slot_list_index PySem.F.type_list_index wi (dp (af 0) rfl) (ak (cI cJ (af 2) aH) ay))))) cm)
  (aL (aY (gB lu au (cI cJ (dp (af 0) rfl) (af 3)) (ak (cI cJ (af 1) aH) (ak (cI cJ (af 2) aH) ay))))))),?_⟩
 ac_rfl;obtain⟨dC,df,aen⟩:=qa DE;obtain⟨tR,DO,aln⟩:=qa tK;refine⟨_,I,o,c.t 1,ah,_,_,I,aK,T.cl,T.oQ,gs ..,.inl ⟨I,_,bp g1⟩,_,I,x0 aQ (a0 _ _) ⟨c8,ns,dk,ns.idxOf dk,I,I,g1,dC,fun j cj e=>df j dk cj e I,by lia,?_⟩⟩;refine⟨_,I,x0 aQ (a0 _ _) ⟨_,I,x0 aR (a0 _ _) ⟨I,_,I,?_⟩⟩⟩;by_cases z:dk=gu
 ·subst z;rw[if_pos rfl]at q;have aD:=cw aen;rw[eR,aD]at uV tA;obtain⟨qi,oA⟩:=tg aF.2.2 aD;obtain⟨kr,lh,nw⟩:=d0.ge fs dM aD;obtain⟨fB,fC,ew,li⟩:=bG.ahead _ nw;rw[Cs fs _ _ aD]at q;rw[eK rfl];refine e2 ?_;exact⟨_,I,o,c.t 1,ah,_,_,I,aK,T.cl,T.m7,lX _ _ _ _ oq,_,I,oH (.inl g2) (show(os.map V.ref)[ns.idxOf dk]?=J (V.ref kr) by rw[eJ,lh];rfl) ⟨kr,slot _,fB,fC,rfl,ew,li,_,rfl,x0 aQ (a1 _ _ _) ⟨_,rfl,x0 aR (a1 _ _ _) ⟨kr,_,x,y,jA,ru,rfl,rfl,⟨nw,qi,by lia,av,ba,uV,tA,by lia,by lia⟩,H,.refl (cK _),q⟩⟩⟩⟩
 ·rw[if_neg z,decide_eq_decide.mpr nL]at q;rw[e8 (fun e=>z (V.str.inj e))];refine ho ?_;exact⟨_,I,_,I,o,c.t 1,ah,_,_,I,aK,T.cl,T.oQ,gs ..,.inl ⟨I,_,bp g1⟩,_,I,x0 aR (a0 _ _) ⟨c8,ns,gu,ns.idxOf gu,I,I,g1,tR,fun j cj e=>DO j gu cj e I,by lia,.inl ⟨_,_,rfl,rfl,H,.refl (cK _),q⟩⟩⟩
structure JU(K:bT)(c:c9):Prop where
 m0:MethAt K (c.b 0) "ahead" "Nothing.ahead" AM ["self","one","other"]
 dk:MethAt K (c.b 1) "ahead" "Truth.ahead" BD ["self","one","other"]
 gu:MethAt K (c.b 2) "ahead" "Whole.ahead" Bz ["self","one","other"]
 i5:MethAt K (c.b 3) "ahead" "Fraction.ahead" AG ["self","one","other"]
 j2:MethAt K c.s "ahead" "Span.ahead" BW ["self","one","other"]
 nH:MethAt K c.l "ahead" "Letters.ahead" AP ["self","one","other"]
 sz:MethAt K (c.o 0) "ahead" "Maybe.ahead" BK ["self","one","other"]
 sA:MethAt K (c.o 1) "ahead" "Many.ahead" B0 ["self","one","other"]
 sC:MethAt K (c.o 2) "ahead" "Turned.ahead" AZ ["self","one","other"]
 sD:MethAt K (c.t 0) "ahead" "Record.ahead" A2 ["self","one","other"]
 mB:MethAt K (c.t 1) "ahead" "Choice.ahead" Bu ["self","one","other"]
 kt:∀k,iX K (c.o k)
 m9:∀k,k5 K (c.t k)
theorem MB(nb:dD mg)(S:JU K c)(n8:fp P w K mg zn 1 c.l "places" ["self","text"] (Rc c.l))(rz:bf P w K mg zn 1 "first_unlike" ["one","other"] QD):∀n,eZ P w K mg zn (2*n+4) "ahead" ["self","one","other"] (eb c) (Qc c n)
 | 0=>by
  have no:∀i vs H Q E,¬Qc c 0 i vs H Q E:=fun i vs H Q E z=>by obtain⟨o,f,_,_,_,_,_,_,h,_⟩:=z;have:=h.fg;have:=oh f;lia
  intro i;cases i with
  |b k =>
   rcases qU k with rfl|rfl|rfl|rfl
   .exact⟨iN S.m0 (no _),S.m0.cl⟩
   .exact⟨iN S.dk (no _),S.dk.cl⟩
   .exact⟨iN S.gu (no _),S.gu.cl⟩
   .exact⟨iN S.i5 (no _),S.i5.cl⟩
  |s=>exact⟨iN S.j2 (no _),S.j2.cl⟩
  |l=>exact⟨iN S.nH (no _),S.nH.cl⟩
  |o k =>
   rcases pT k with rfl|rfl|rfl
   .exact⟨iN S.sz (no _),S.sz.cl⟩
   .exact⟨iN S.sA (no _),S.sA.cl⟩
   .exact⟨iN S.sC (no _),S.sC.cl⟩
  |t k =>
   rcases mX k with rfl|rfl
   .exact⟨iN S.sD (no _),S.sD.cl⟩
   .exact⟨iN S.mB (no _),S.mB.cl⟩
 | n+1=>by
  have bP:=MB nb S n8 rz n;intro i;cases i with
  | b k =>
   rcases qU k with rfl|rfl|rfl|rfl
   ·obtain⟨f,fd,G,al,hm⟩:=S.m0.ex;exact⟨⟨f,fd,(aan G).mono (by lia),al,hm⟩,S.m0.cl⟩
   ·obtain⟨f,fd,G,al,hm⟩:=S.dk.ex;exact⟨⟨f,fd,(Ve G).mono (by lia),al,hm⟩,S.dk.cl⟩
   ·obtain⟨f,fd,G,al,hm⟩:=S.gu.ex;exact⟨⟨f,fd,(Vd G).mono (by lia),al,hm⟩,S.gu.cl⟩
   ·obtain⟨f,fd,G,al,hm⟩:=S.i5.ex;exact⟨⟨f,fd,(ZQ G).mono (by lia),al,hm⟩,S.i5.cl⟩
  |s =>
   obtain⟨f,fd,G,al,hm⟩:=S.j2.ex;exact⟨⟨f,fd,(V2 G).mono (by lia),al,hm⟩,S.j2.cl⟩
  |l =>
   obtain⟨f,fd,G,al,hm⟩:=S.nH.ex;exact⟨⟨f,fd,(aao S.nH.cl G n8).mono (by lia),al,hm⟩,S.nH.cl⟩
  | o k =>
   rcases pT k with rfl|rfl|rfl
   ·obtain⟨f,fd,G,al,hm⟩:=S.sz.ex;exact⟨⟨f,fd,(Vf nb (S.kt 0) G bP).mono (by lia),al,hm⟩,S.sz.cl⟩
   ·obtain⟨f,fd,G,al,hm⟩:=S.sA.ex;exact⟨⟨f,fd,(V3 nb (S.kt 1) G rz bP).mono (by lia),al,hm⟩,S.sA.cl⟩
   ·obtain⟨f,fd,G,al,hm⟩:=S.sC.ex;exact⟨⟨f,fd,(Uj (S.kt 2) G bP).mono (by lia),al,hm⟩,S.sC.cl⟩
  | t k =>
   rcases mX k with rfl|rfl
   ·obtain⟨f,fd,G,al,hm⟩:=S.sD.ex;exact⟨⟨f,fd,(Uk nb (S.m9 0) G rz bP).mono (by lia),al,hm⟩,S.sD.cl⟩
   ·obtain⟨f,fd,G,al,hm⟩:=S.mB.ex;exact⟨⟨f,fd,(Ul nb (S.m9 1) G bP).mono (by lia),al,hm⟩,S.mB.cl⟩
def UX{a b:D}(aN:dh a=ao)(al:dh b=ao)(h:xy a*wC b<xy b*wC a):Sep (en a) (en b):=by
 obtain⟨s,qZ,_,rs,rfl,aZ⟩:=Gr aN;obtain⟨t,gt,_,rt,rfl,jM⟩:=Gr al;rw[aZ,jM];have h:qw s t:=h;cases s with
 |nil=>exact qZ.elim
 | cons a r =>
  cases t with
  |nil=>exact gt.elim
  | cons b u =>
   have inr:∀{a:Int}{r:List Int},ob (a::r)->uj r:=fun{a r}q x av=>by
    have:=q.2 x av;unfold iH at this;lia
   exact UW qZ gt (rs.1 a (eB.mpr I)) (rt.1 b (eB.mpr I)) (inr rs) (inr rt) h
def Va{k:Fin 4}{a b:D}(aN:C0 dh k a=ao)(al:C0 dh k b=ao)(h:uP k a b<0):Sep (C1 en k a) (C1 en k b):=by
 rcases qU k with rfl|rfl|rfl|rfl
 .exact absurd h (by show ¬(0:Int)<0;decide)
 ·have h:=nL.mp (show sgn (ra a) (ra b)<0 from h);cases a with
  | aS x =>
   cases b with
   |aS y =>
    cases x<;>cases y<;>first|exact absurd h (by decide)|exact⟨[],[],[],I,I⟩
   |_=>cases al
  |_=>cases aN
 ·have h:=nL.mp (show sgn (ra a) (ra b)<0 from h);cases a with
  | int x =>
   cases b with
   |int y =>
    have xC:=hT (show decide (je x)=ao from aN);have xD:=hT (show decide (je y)=ao from al);exact M5 h xC.1 xD.2
   |_=>cases al
  |_=>cases aN
 .exact UX aN al (nL.mp (show sgn (xy a*wC b) (xy b*wC a)<0 from h))
def VL{s t u:aa}(aP:hM t s=ao)(cG:hM u s=ao)(h:qq (lk s t) (lk s u)<0):Sep (DP s (.str t)) (DP s (.str u)):=by
 have e:∀v:aa,DP s (.str v)=vi (fun x=>dq x.toNat (aE (s.length-1))) (lk s v):=fun v=>by
  show(_++[aI])=(_++[aI]);unfold lk;rw[hx];rfl
 have m:∀v:aa,hM v s=ao->∀x,x∈lk s v->0<=x/\x<s.length:=fun v cV x av=>by
  obtain⟨c,hc,rfl⟩:=List.mem_map.mp av
  have ai:c∈s.cps.toList:=by
   have:=hy.mp cV c hc;simpa using this
  have aj:=pw ai;rw[fA]at aj;exact⟨by lia,by have:s.length=s.cps.size:=rfl;lia⟩
 rw[e,e];refine Mg (P:=fun x=>0<=x/\x<s.length) (fun x y av ba DN=>CD (by lia) ?_) (m t aP) (m u cG) (P7.mp h);exact Nat.lt_of_le_of_lt (show y.toNat<=s.length-1 by lia) (qO _)
theorem MP(g:D->List Bool)(o:D->D->Int)(p:D->Bool)(hs:∀x y,p x=ao->p y=ao->o x y<0->Sep (g x) (g y))(bX:∀x y,p x=ao->p y=ao->o x y=0->x=y):∀(xs aw:List D)(k:Nat),xs.all p=ao->aw.all p=ao->il (fun _=>o) xs aw k<0->Sep ((xs.map fun d=>ao::g d).flatten++[aI]) ((aw.map fun d=>ao::g d).flatten++[aI])
 |[],[],k,_,_,h=>absurd h (by show ¬sgn 0 0<0;decide)
 |[],y::aw,k,_,_,_=>⟨[],[],_,rfl,rfl⟩
 |x::xs,[],k,_,_,h=>absurd (nL.mp (show sgn ((x::xs).length:Nat) ((([]:List D).length:Nat):Int)<0 from h)) (by rw[dW];show ¬(_:Int)<0;lia)
 | x::xs,y::aw,k,av,ba,h=>by
  rw[List.all_cons,ix]at av ba;rw[il]at h;rw[gI,jH,gI,jH,eC,eC];by_cases z:o x y=0
  ·rw[if_pos z]at h;rw[bX x y av.1 ba.1 z];exact(MP g o p hs bX xs aw (k+1) av.2 ba.2 h).pre _
  ·rw[if_neg z]at h;exact((hs x y av.1 ba.1 h).pre [ao]).post _ _
mutual
theorem tn:∀(f:aU)(a b:D),dY f->b1 dh f a=ao->b1 dh f b=ao->dx f a b<0->Sep (bO en f a) (bO en f b)
 |.bare k,a,b,_,aN,al,h=>by
  rw[b1]at aN al;rw[dx]at h;rw[bO,bO];exact Va aN al h
 | .sp lo aG,a,b,_,aN,al,h=>by
  rw[b1]at aN al;rw[dx]at h;rw[bO,bO];have h:=nL.mp h;cases a with
  | int x =>
   cases b with
   |int y =>
    have h:x<y:=h;have xC:=hT (show decide (lo<=x/\x<=aG)=ao from aN);have xD:=hT (show decide (lo<=y/\y<=aG)=ao from al);exact CD (by lia) (Nat.lt_of_le_of_lt (show(y-lo).toNat<=(aG-lo).toNat by lia) (qO _))
   |_=>cases al
  |_=>cases aN
 | .le s,a,b,_,aN,al,h=>by
  rw[b1]at aN al;rw[dx]at h;rw[bO,bO];cases a with
  | str t =>
   cases b with
   |str u =>
    have xC:=lE.mp (show(decide (t.length<=200)&&hM t s)=ao from aN);have xD:=lE.mp (show(decide (u.length<=200)&&hM u s)=ao from al);exact VL xC.2 xD.2 h
   |_=>cases al
  |_=>cases aN
 | .one k f,a,b,aF,aN,al,h=>by
  rw[b1]at aN al;rw[dx]at h;rw[bO,bO];rw[dY]at aF;have bX:∀x y,b1 dh f x=ao->b1 dh f y=ao->dx f x y=0->x=y:=fun x y av ba z=>(th f x y aF av ba).z.mp z;unfold PL at aN al;unfold PM;rcases pT k with rfl|rfl|rfl
  ·rw[if_neg (by decide)]at h;rw[if_pos rfl]at aN al;rw[if_pos rfl,if_pos rfl];cases a with
   | tup xs =>
    cases b with
    | tup aw =>
     rcases xs with _|⟨x,_|⟨_,_⟩⟩
     ·rcases aw with _|⟨y,_|⟨_,_⟩⟩
      .exact absurd h (by show ¬sgn 0 0<0;decide)
      .exact⟨[],[],_,I,I⟩
      .cases al
     ·rcases aw with _|⟨y,_|⟨_,_⟩⟩
      .exact absurd h (by show ¬sgn 1 0<0;decide)
      ·have h:(if dx f x y=0 then sgn 0 0 else dx f x y)<0:=h;split at h
       .exact absurd h (by decide)
       .exact(tn f x y aF aN al h).pre [ao]
      .cases al
     .cases aN
    |_=>cases al
   |_=>cases aN
  ·rw[if_neg (by decide)]at h;rw[if_neg (by decide),if_pos rfl]at aN al;rw[if_neg (by decide),if_pos rfl,if_neg (by decide),if_pos rfl];cases a with
   | lst xs =>
    cases b with
    |lst aw =>
     have xC:=lE.mp (show(decide (xs.length<=60)&&xs.all (b1 dh f))=ao from aN);have xD:=lE.mp (show(decide (aw.length<=60)&&aw.all (b1 dh f))=ao from al);exact MP (bO en f) (dx f) (b1 dh f) (fun x y av ba z=>tn f x y aF av ba z) bX xs aw 0 xC.2 xD.2 h
    |_=>cases al
   |_=>cases aN
  ·rw[if_pos rfl]at h;rw[if_neg (by decide),if_neg (by decide)]at aN al;rw[if_neg (by decide),if_neg (by decide),if_neg (by decide),if_neg (by decide)];exact(tn f b a aF al aN (by rw[wq];lia)).turn
 | .two k ns fs,a,b,aF,aN,al,h=>by
  rw[b1]at aN al;rw[dx]at h;rw[bO,bO];rw[dY]at aF;rcases mX k with rfl|rfl
  ·rw[if_pos rfl]at h aN al;rw[if_pos rfl,if_pos rfl];cases a with
   | tup xs =>
    cases b with
    |tup aw =>
     refine MG fs xs aw _ 0 (fun i f aD=>?_) aF.2.2 aN al h;have aG:=(kE.mp aD).1;show(iF fs).getD ((0+i)%fs.length) (fun _ _=>0)=_;rw[Nat.zero_add,Nat.mod_eq_of_lt aG];exact Cs fs i f aD
    |_=>cases al
   |_=>cases aN
  ·rw[if_neg (by decide)]at h aN al;rw[if_neg (by decide),if_neg (by decide)];cases a with
   | tup xs =>
    cases b with
    | tup aw =>
     rcases xs with _|⟨⟨⟩|_|_|n|_|_,_|⟨x,_|⟨_,_⟩⟩⟩<;>try cases aN
     rcases aw with _|⟨⟨⟩|_|_|m|_|_,_|⟨y,_|⟨_,_⟩⟩⟩<;>try cases al
     have aN:kN dh fs ns n x=ao:=aN;have al:kN dh fs ns m y=ao:=al;have h:(if n=m then(iF fs).getD (ns.idxOf n) (fun _ _=>0) x y else sgn (ns.idxOf n) (ns.idxOf m))<0:=h;show Sep (m8 en fs ns 0 (fs.length-1) n x) (m8 en fs ns 0 (fs.length-1) m y);have ae1:=ti fs ns n x aF.2.1 aN;have Py:=ti fs ns m y aF.2.1 al;by_cases z:n=m
     ·subst z;rw[if_pos rfl]at h;exact NB fs ns 0 (fs.length-1) n x y aF.2.1 aF.2.2 aN al h
     ·rw[if_neg z]at h;have h:=nL.mp h;have bJ:=pw Py;rw[wo fs ns 0 n ae1 aF.2.1,wo fs ns 0 m Py aF.2.1];refine(CD (by lia) (Nat.lt_of_le_of_lt (show 0+ns.idxOf m<=fs.length-1 by have:=aF.2.1;lia) (qO _))).post _ _
    |_=>cases al
   |_=>cases aN
theorem MG:∀(fs:List aU)(xs aw:List D)(G:Nat->D->D->Int)(k:Nat),(∀i f,fs[i]?=J f->G (k+i)=dx f)->gv fs->eM dh fs xs=ao->eM dh fs aw=ao->il G xs aw k<0->Sep (gf en fs xs) (gf en fs aw)
 | [],xs,aw,G,k,_,_,av,ba,h=>by
  rw[eM]at av ba;cases xs with
  |nil =>
   cases aw with
   |nil=>exact absurd h (by show ¬sgn 0 0<0;decide)
   |cons _ _=>cases ba
  |cons _ _=>cases av
 |f::fs,[],aw,G,k,_,_,av,ba,h=>by rw[eM]at av;cases av
 |f::fs,x::xs,[],G,k,_,_,av,ba,h=>by rw[eM]at ba;cases ba
 | f::fs,x::xs,y::aw,G,k,hG,aF,av,ba,h=>by
  rw[eM]at av ba;rw[gv]at aF;have av:=lE.mp (show(b1 dh f x&&eM dh fs xs)=ao from av);have ba:=lE.mp (show(b1 dh f y&&eM dh fs aw)=ao from ba);have fl:G k=dx f:=hG 0 f rfl;rw[il,fl]at h;rw[gf,gf];show Sep (bO en f x++gf en fs xs) (bO en f y++gf en fs aw);by_cases z:dx f x y=0
  ·rw[if_pos z]at h;rw[(th f x y aF.1 av.1 ba.1).z.mp z];exact(MG fs xs aw G (k+1) (fun i g bh=>by rw[Nat.add_assoc,Nat.add_comm 1 i];exact hG (i+1) g bh) aF.2 av.2 ba.2 h).pre _
  ·rw[if_neg z]at h;exact(tn f x y aF.1 av.1 ba.1 h).post _ _
theorem NB:∀(fs:List aU)(ns:List aa)(k M:Nat)(n:aa)(x y:D),ns.length=fs.length->gv fs->kN dh fs ns n x=ao->kN dh fs ns n y=ao->(iF fs).getD (ns.idxOf n) (fun _ _=>0) x y<0->Sep (m8 en fs ns k M n x) (m8 en fs ns k M n y)
 |[],ns,k,M,n,x,y,_,_,av,_,_=>by rw[kN]at av;cases av
 |f::fs,[],k,M,n,x,y,aC,_,av,_,_=>by cases aC
 | f::fs,m::ns,k,M,n,x,y,aC,aF,av,ba,h=>by
  rw[kN]at av ba;rw[m8,m8];rw[gv]at aF;by_cases z:m=n
  ·subst z;have d6:(m::ns).head?=J m:=rfl;rw[if_pos d6]at av ba;rw[if_pos d6,if_pos d6];rw[List.idxOf_cons_self,iF]at h;exact(tn f x y aF.1 av ba h).pre _
  ·have JN:¬(m::ns).head?=J n:=fun e=>z (ie e);rw[if_neg JN]at av ba;rw[if_neg JN,if_neg JN];rw[List.idxOf_cons,show(m == n)=aI from beq_eq_false_iff_ne.mpr z,cond_false,iF]at h;exact NB fs ns (k+1) M n x y (by simpa using aC) aF.2 av ba h
end
def yo(f:α->V)(xs:List α)(c m:Int)(hm:m=xs.length)(h:0<xs.length):∃n,n∈xs/\e9 (xs.map f) (c%m)=J (f n):=by
 subst hm;have ai:=jX c (b:=(xs.length:Int)) (by lia);have aj:=jW c (b:=(xs.length:Int)) (by lia);obtain⟨k,hk⟩:=Int.eq_ofNat_of_zero_le ai;rw[hk];have i2:k<xs.length:=by lia
 exact⟨xs[k],List.getElem_mem i2,dF (by rw[eJ,cw i2];rfl)⟩
def i0(c:Int)(n:Nat)(h:0<n):∃k:Nat,k<n/\c%((n:Nat):Int)=((k:Nat):Int):=by
 have ai:=jX c (b:=(n:Int)) (by lia);have aj:=jW c (b:=(n:Int)) (by lia);obtain⟨k,hk⟩:=Int.eq_ofNat_of_zero_le ai;exact⟨k,by lia,hk⟩
inductive Q6(K:bT)(vs:List V)(H:aq)(Q:bI)(E:cP):Prop where
 |mk (a:ag) (ns:List Int) (m eY:Nat) (bb:vs=[.ref a,.int ((m:Nat):Int),.int ((eY:Nat):Int)]) (ai:c4 K H a (ns.map V.int)) (aj:ns.length<=63) (bt:0<m) (cf:m<=24) (eF:(eY=1000\/eY=3000\/eY=3100\/eY=3200)) (gD:∀(D:ag)(ms:List Int),H D=aA->ms.length<=24->Q (.ref D) (upd H D (.lst (ms.map V.int))))
theorem Hh:∀(aw:List V),(∀y∈aw,∃n:Int,y=.int n)->∃ns:List Int,aw=ns.map V.int/\ns.length=aw.length
 |[],_=>⟨[],rfl,rfl⟩
 |y::r,h=>by
  obtain⟨n,rfl⟩:=h y (g0 ..);obtain⟨ns,rfl,aC⟩:=Hh r fun z bX=>h z (d9 _ bX);exact⟨n::ns,I,by rw[dW,aC];rfl⟩
def U6(ns:List Int)(s m:Nat)(hm:m<=11):∃ms:List Int,pK (ns.map V.int) (J ((s:Nat):Int)) (J ((s+m:Nat):Int))=ms.map V.int/\ms.length<=11:=by
 unfold pK;refine⟨(ns.drop (dU.ht (ns.map V.int).length 0 (J ((s:Nat):Int)))).take (dU.ht (ns.map V.int).length (ns.map V.int).length (J ((s+m:Nat):Int))-dU.ht (ns.map V.int).length 0 (J ((s:Nat):Int))),?_,?_⟩
 .rw[List.map_take,List.map_drop]
 .rw[kg,dU.tZ,dU.tZ];lia
def W2(nb:dD mg)(F:dB K mg "_law_numbers_of" FD ["_law_script","_law_many_here","_law_salt"] f fd)(pg:bf P w K mg zn 1 "_law_cell_at" ["_law_script","_law_k"] (Qm K))(qx:bf P w K mg zn 1 "_law_mixed" ["_law_cell","_law_k"] Q0):bf P w K mg zn 2 "_law_numbers_of" ["_law_script","_law_many_here","_law_salt"] (Q6 K):=by show_term
 refine F.eH Bi (fun H vs Q E au h=>?_);obtain⟨a,ns,m,eY,rfl,c7,aC,tJ,adB,j1,q⟩:=h
 refine⟨_,(aO (cq (bV dn (aM eu (b7 pg au (ak (af 0) (ak aH ay))) aH) aH) (aO (b4 3 Bi.br (aM cv (aM hq (aM cv aH (aM kX (aM ih (af 2) aH) aH)) aH) (aM kX (aM ih (aM eu (af 2) aH) aH) aH)))
   (aL (aY (pC qr (af 0) (mR (af 3)) (mR (aM cv (af 3) (c1 (Uc rfl) rfl nb.ae0 Wz (ak (af 1) (ak aH ay))))))))) cm)
  (aO (Gz (i:=4)  ["_law_k"] [(2,"_law_salt")] Bi.br rfl rfl rfl ⋯ ⟨rfl,.inl rfl,trivial⟩ (nt rfl nb.mD (ak (af 1) ay)) (d4 (i:=0) (show(["_law_k","_law_salt"]:List aa).Nodup by decide+kernel)) hW (b7 qx au (ak (af 0) (ak (af 1) ay))))
  (aO (mS iu.never rfl (nt rfl nb.mD (ak (c1 eh rfl nb.d5 ea (ak (pC qr (af 0) tq (mR aH)) ay)) ay)) (d4 (i:=5) Bi.br rfl (by first|exact Or.inl I|exact Or.inr I))
   (aL (yD (b7 qx au (ak (aM cv (cI cJ (af 0) (af 5)) (cI cJ (af 4) (aM eu (af 5) (af 1)))) (ak (aM cv (af 5) (af 2)) ay))) (Wa (af 4) (aM eu (af 5) (af 1)) Ut))))
  (aL (aY (af 4)))))),?_⟩
 ac_rfl;refine⟨_,I,a,ns,0,I,c7,aC,_,_,I,I,(by show(0:Int)<2;decide),I,_,I,fM (fun hA=>?_) (fun hA=>?_)⟩
 ·obtain⟨s0,ald,abF⟩:∃s0:Nat,s0<=41/\1+((eY:Nat):Int)/1000*9-9+((eY:Nat):Int)%1000/100*11=((s0:Nat):Int):=by
   rcases j1 with rfl|rfl|rfl|rfl
   .exact⟨1,by decide,by decide⟩
   .exact⟨19,by decide,by decide⟩
   .exact⟨30,by decide,by decide⟩
   .exact⟨41,by decide,by decide⟩
  refine⟨_,I,_,_,I,I,⟨by decide,by decide⟩,.inl ⟨_,_,rfl,rfl,.inr ⟨by decide,by decide⟩,.inl ⟨_,_,rfl,rfl,_,_,rfl,rfl,?_⟩⟩⟩;refine⟨_,I,_,_,I,I,(by show(0:Int)<1000;decide),_,_,I,I,⟨by decide,by decide⟩,.inl ⟨_,_,rfl,rfl,.inr ⟨by decide,by decide⟩,.inl ⟨_,_,rfl,rfl,?_⟩⟩⟩;dsimp only;rw[abF];refine⟨_,I,_,I,_,I,_,I,_,I,_,_,I,.inl ⟨_,_,I,I,_,I,.inl ⟨a,_,I,c7,fun D b2=>?_⟩⟩⟩;have em:((s0:Nat):Int)+(if(11:Int)<((m:Nat):Int)then 11 else((m:Nat):Int))=((s0+min m 11:Nat):Int):=by split<;>lia
  dsimp only;rw[em];obtain⟨ms,abC,vb⟩:=U6 ns s0 (min m 11) (by lia);rw[abC];exact⟨_,.new b2 (cZ b2) aB trivial,q D ms b2 (by lia)⟩
 ·refine⟨_,I,_,I,by lia,by lia,fun D b2=>?_⟩;have em:(((m:Nat):Int)).toNat=m:=by lia
  rw[em];refine LK (fun y=>∃n:Int,y=.int n) (fun ab=>∃z,ab=[z,J (.int ((eY:Nat):Int))]) (by lia) ⟨_,I⟩ b2 ?_ ?_
  ·rintro i aG b0 H1 ⟨z,rfl⟩ eW R cL;exact⟨_,I,_,I,_,_,I,fun v _ _=>cL _ _ _ ⟨_,I⟩ (cK _) ⟨v,I⟩⟩
  intro aw H1 ju hyp eW g6;obtain⟨ms,rfl,vb⟩:=Hh aw hyp;have Ds:=eW.seq c7;refine⟨_,I,_,I,.inl ⟨a,_,I,Ds,fun p aX=>⟨_,_,I,.inl ⟨_,bp aB,I⟩,?_⟩⟩⟩;have ac5:=LJ (ns.map V.int) aA (J 63);rw[cd]at ac5;refine⟨_,I,by lia,by lia,?_⟩;have s2:=cZ (o:=de.lst (pK (ns.map V.int) aA (J 63))) aX;have alx:D≠p:=fun z=>by rw[<-z,g6]at aX;cases aX
  refine wj (fun i ab az=>(∀b u,b≠D->H b=J u->az b=J u)/\∃(ms:List Int)(d6 d2:Option V),ab=[J (.ref a),J (.int ((m:Nat):Int)),J (.int ((eY:Nat):Int)),d6,J (.ref D),d2]/\ms.length=m/\az D=J (.lst (ms.map V.int))) ?_ ?_ ?_
  .exact⟨fun b u _ e=>s2 b u (eW b u e),ms,_,_,I,by rw[vb,ju],s2 _ _ g6⟩
  ·rintro i ab az aG ⟨i2,kV,d6,d2,rfl,tK,mw⟩;rw[Int.zero_add];have nz:i<ns.length:=by lia
   have g7:c4 K az a (ns.map V.int):=by
    have kS:et H (fun b=>if b=D then H b else az b):=fun b u e=>by
     by_cases z:b=D
     .rw[z,b2]at e;cases e
     ·show(if b=D then H b else az b)=_;rw[if_neg z];exact i2 b u z e
    have bt:=kS.seq c7
    have cf:et (fun b=>if b=D then H b else az b) az:=fun b u e=>by
     have e:(if b=D then H b else az b)=J u:=e;by_cases z:b=D
     .rw[if_pos z,z,b2]at e;cases e
     .rw[if_neg z]at e;exact e
    exact cf.seq bt
   obtain⟨j,cj,hI⟩:=i0 ((i:Nat):Int) m tJ;have p2:j<kV.length:=by lia
   have acU:e9 (ns.map V.int) ((i:Nat):Int)=J (.int ns[i]):=dF (by rw[eJ,cw nz];rfl);have acV:e9 (kV.map V.int) ((j:Nat):Int)=J (.int kV[j]):=dF (by rw[eJ,cw p2];rfl);refine⟨_,I,_,I,.inl (.inl ⟨_,_,_,_,I,I,g7,acU,?_⟩)⟩;refine⟨_,I,_,I,_,I,_,_,I,I,(by lia),xz mw (by rw[hI];exact acV) (.inl ⟨_,_,I,I,?_⟩)⟩;refine⟨_,I,_,I,.inl ⟨_,_,I,I,_,_,I,fun v _ _=>?_⟩⟩;refine⟨_,I,_,I,_,I,_,_,I,I,(by lia),D,_,_,_,I,I,mw,(by rw[hI,cd,tK];exact VP cj),?_⟩;exact⟨fun b u nb e=>by rw[bx nb];exact i2 b u nb e,kV.set j v,_,_,I,by rw[List.length_set];exact tK,by rw[aB,List.map_set]⟩
  ·rintro ab az ⟨i2,kV,d6,d2,rfl,tK,mw⟩;refine⟨_,I,_,.new (o:=de.lst (kV.map V.int)) b2 (fun b u e=>i2 b u (hz e b2) e) mw trivial,q D kV b2 (by lia)⟩
inductive Q2(vs:List V)(H:aq)(Q:bI)(E:cP):Prop where
 |mk (c:Int) (m:Nat) (bb:vs=[.int c,.int ((m:Nat):Int)]) (ai:0<m) (aj:m<=4) (bt:∀(D:ag)(ns:List aa),H D=aA->ns.length=m->iQ ns=ao->Q (.ref D) (upd H D (.lst (ns.map V.str))))
def G2(iT:Nat->aa)(bb:0<m)(cf:m<=4)(aG:∀i j,i<m->j<m->iT i=iT j->i=j)(bj:∀i,i<m->isName (iT i)=ao):iQ ((List.range m).map iT)=ao:=by
 refine Zm (by rw[cd,k8];lia) (by rw[cd,k8];lia) ?_ fun n av=>?_
 ·unfold List.Nodup;rw[List.pairwise_iff_getElem];intro i j ai aj Ij;rw[cd,k8]at ai aj;rw[lG,lG,List.getElem_range,List.getElem_range];intro z;have:=aG i j ai aj z;lia
 ·obtain⟨i,ai,rfl⟩:=List.mem_map.mp av;exact bj i (List.mem_range.mp ai)
def UK{c d:Nat}(e:(x++⟨#[c]⟩)++y=(x++⟨#[d]⟩)++y):c=d:=by
 have e:=congrArg (fun x=>x.cps.toList) e;simp only[fS]at e;have e:=List.append_cancel_left (List.append_cancel_right e);have:[c]=[d]:=e;exact List.head_eq_of_cons_eq this
noncomputable def kF:List aa:=[aa.ofString "whole",aa.ofString "record",aa.ofString "many",aa.ofString "nothing",aa.ofString "span",aa.ofString "letters",aa.ofString "turned"]
def Ye(nb:dD mg)(F:dB K mg "_law_names" Ge ["_law_number","_law_many_here"] f fd):bf P w K mg zn 1 "_law_names" ["_law_number","_law_many_here"] Q2:=by show_term
 refine F.eH nr (fun H vs Q E au h=>?_);obtain⟨c,m,rfl,tJ,u9,q⟩:=h
 refine⟨_,(aO (b4 2 nr.br bu)
  (aO (b4 3 nr.br (e0 (ak bu (ak bu (ak bu (ak bu (ak bu (ak bu (ak bu ay)))))))))
  (aO (b4 4 nr.br (aM eu (af 0) aH))
  (aO (b4 5 nr.br (aM cv aH (aM eu (aM ih (af 0) aH) aH)))
  (aO (b4 6 nr.br (aM ih (af 0) aH))
  (aO (cq (bV dn (af 4) aH) (aL (aY (iA ["_law_k"] [(3,"_law_words"),(6,"_law_rest")] rfl ⋯ ⟨rfl,.inl rfl,rfl,.inl rfl,trivial⟩ (nt rfl nb.mD (ak (af 1) ay)) (d4 (i:=0) (show(["_law_k","_law_words","_law_rest"]:List aa).Nodup by decide+kernel)) hW (cI cJ (af 1) (aM eu (aM cv (af 2) (af 0)) aH))))) cm)
  (aO (b4 7 nr.br bu)
  (aO (mS iu.never rfl (nt rfl nb.mD (ak (af 5) ay)) (d4 (i:=8) nr.br rfl (by first|exact Or.inl I|exact Or.inr I))
   (aO (b4 7 nr.br (aM cv (af 7) (cI cJ (af 2) (aM eu (aM cv (af 6) (aM kX (af 8) (af 8))) aH))))
   (aL (b4 6 nr.br (aM ih (af 6) aH)))))
  (aO (cq (bV dn (af 4) aH) (aL (aY (iA ["_law_k"] [(7,"_law_base")] rfl ⋯ ⟨rfl,.inl rfl,trivial⟩ (nt rfl nb.mD (ak (af 1) ay)) (d4 (i:=0) (show(["_law_k","_law_base"]:List aa).Nodup by decide+kernel)) hW (aM cv (af 1) (pC qr bu tq (mR (af 0))))))) cm)
  (aO (b4 9 nr.br (aM eu (aM ih (af 0) aH) (af 5)))
  (aO (b4 10 nr.br (h6 PySem.F.plainAttrs_str PySem.F.slot_str_index PySem.F.type_str_index TL (af 2) (ak (cI cJ (af 7) (af 9)) ay)))
  (aO (b4 11 nr.br (aM cv (pC qr (af 7) (mR (aM cv (af 9) aH)) tq) (cI cJ (e0 (ak bu (ak bu ay))) (aM eu (aM ih (af 0) aH) aH))))
  (aL (aY (iA ["_law_k"] [(7,"_law_base"),(9,"_law_at"),(2,"_law_letters"),(10,"_law_turn"),(11,"_law_tail")] rfl ⋯ ⟨rfl,.inl rfl,rfl,.inl rfl,rfl,.inl rfl,rfl,.inl rfl,rfl,.inl rfl,trivial⟩ (nt rfl nb.mD (ak (af 1) ay)) (d4 (i:=0) (show(["_law_k","_law_base","_law_at","_law_letters","_law_turn","_law_tail"]:List aa).Nodup by decide+kernel)) hW (aM cv (aM cv (pC qr (af 1) tq (mR (af 2))) (cI cJ (af 3) (aM eu (aM cv (af 4) (aM kX aH (af 0))) aH))) (af 5))))))))))))))))),?_⟩
 ac_rfl;refine⟨(by show 7<=cp;decide),fun lw p4=>?_⟩;have s1:=cZ (o:=de.lst (kF.map V.str)) p4;have aQ:upd H lw (.lst (kF.map V.str)) lw=J (.lst (kF.map V.str)):=aB;obtain⟨dt,jQ,abH⟩:=i0 (c/8) 9 (by decide);have wJ:c/8%9=((dt:Nat):Int):=abH;refine⟨_,I,_,_,I,I,(by show(0:Int)<4;decide),?_⟩;refine⟨_,I,_,_,I,I,⟨by decide,by decide⟩,_,_,rfl,rfl,(by show(0:Int)<9;decide),.inl ⟨_,_,rfl,rfl,?_⟩⟩;dsimp only;rw[wJ];refine⟨_,I,_,_,I,I,⟨by decide,by decide⟩,?_⟩;dsimp only;generalize c/648=gG;have em:(((m:Nat):Int)).toNat=m:=by lia
 have Pl:fy.length<=cp:=by rw[Ho];exact dS (by decide)
 have alo:fy.cps.toList.length=26:=by rw[fA];exact Ho
 refine⟨_,I,I,_,I,fM (fun jK=>?_) (fun jK=>?_)⟩
 ·refine⟨_,I,_,I,by lia,by lia,fun D b2=>?_⟩;rw[em];have iC:upd H lw (.lst (kF.map V.str)) D=aA:=b2
  let iT:Nat->aa:=fun i=>kF.getD ((gG+(0+((i:Nat):Int)))%7).toNat aa.empty
  have oC:∀i:Nat,((gG+(0+((i:Nat):Int)))%7).toNat<7/\(gG+(0+((i:Nat):Int)))%7=(((gG+(0+((i:Nat):Int)))%7).toNat:Nat):=fun i=>by
   have ai:=jX (gG+(0+((i:Nat):Int))) (show(7:Int)≠0 by decide);have aj:=jW (gG+(0+((i:Nat):Int))) (show(0:Int)<7 by decide);lia
  have jO:∀i:Nat,e9 (kF.map V.str) ((gG+(0+((i:Nat):Int)))%7)=J (.str (iT i)):=fun i=>by
   obtain⟨ai,aj⟩:=oC i;rw[aj];exact dF (by show(kF.map V.str)[((gG+(0+((i:Nat):Int)))%7).toNat]?=J (V.str (kF.getD _ _));rw[eJ,eR,cw (show _<kF.length from ai)];rfl)
  refine Gs (fun i=>V.str (iT i)) (fun ab=>∃z,ab=[z,J (.ref lw),J (.int gG)]) (by lia) ⟨_,I⟩ b2 ?_ ?_
  ·rintro i aG b0 H1 ⟨z,rfl⟩ eW R cL;exact⟨_,I,_,I,_,I,.inl ⟨_,_,I,I,_,_,I,I,(by show(0:Int)<7;decide),xz (eW _ _ aQ) (jO i) (cL _ ⟨_,I⟩)⟩⟩
  ·have hs:=s1;have e:(List.range m).map (fun i=>V.str (iT i))=((List.range m).map iT).map V.str:=by rw[hx];rfl
   rw[e];have pV:=hs.free b2;refine⟨_,.new pV (hs.trans (cZ b2)) aB trivial,q D ((List.range m).map iT) pV (by rw[cd,k8]) ?_⟩;refine G2 iT tJ u9 (fun i j aG cj z=>?_) fun i aG=>?_
   ·have br:kF.Nodup:=⋯;obtain⟨ai,aj⟩:=oC i;obtain⟨bt,cf⟩:=oC j;have z:kF.getD ((gG+(0+((i:Nat):Int)))%7).toNat aa.empty=kF.getD ((gG+(0+((j:Nat):Int)))%7).toNat aa.empty:=z;rw[eR,eR,cw (show _<kF.length from ai),cw (show _<kF.length from bt)]at z;have d2:=(List.getElem_inj br).mp z;lia
   ·obtain⟨ai,aj⟩:=oC i;have:∀w∈kF,isName w=ao:=⋯;refine this _ ?_;show kF.getD _ _∈kF;rw[eR,cw (show _<kF.length from ai)];exact List.getElem_mem _
 refine⟨_,I,_,I,by lia,by lia,?_⟩;have dj:(1+((dt:Nat):Int)).toNat=dt+1:=by lia
 rw[dj];refine wj (fun i ab az=>et H az/\∃(bs:aa)(num:Int)(d6 d2 jB o7 na lr:Option V),ab=[J (.int c),J (.int ((m:Nat):Int)),J (.str fy),d6,J (.int (c%4)),J (.int ((dt+1:Nat):Int)),J (.int num),J (.str bs),d2,jB,o7,na]/\bs.length=i/\lD i fy.cps.toList bs) ?_ ?_ ?_
 ·have yO:(1:Int)+((dt:Nat):Int)=((dt+1:Nat):Int):=by lia
  refine⟨s1,aa.ofString "",gG,_,aA,aA,aA,aA,aA,by rw[<-yO];rfl,by decide+kernel,by decide+kernel,fun c h=>?_⟩;rw[show(aa.ofString "").cps.toList=[] by decide+kernel]at h;cases h
 ·rintro i ab az aG ⟨hs,bs,num,d6,d2,jB,o7,na,lr,rfl,aC,xb⟩;obtain⟨k,hk,kL⟩:=i0 (num+(0+((i:Nat):Int))*(0+((i:Nat):Int))) 26 (by decide);have iB:(num+(0+((i:Nat):Int))*(0+((i:Nat):Int)))%26=((k:Nat):Int):=kL;obtain⟨bK,zx,jO⟩:=NH (x:=fy) (k:=k) (by rw[Ho];exact hk);refine⟨_,I,_,I,_,I,_,I,_,I,.inl ⟨_,_,I,I,.inl ⟨by lia,by lia⟩,.inl ⟨_,_,rfl,rfl,_,_,rfl,rfl,(by show(0:Int)<26;decide),.inr ⟨_,_,_,rfl,rfl,Pl,(by rw[iB];exact jO),.inr ⟨_,_,rfl,rfl,dS (by show _+1<=_;lia),?_⟩⟩⟩⟩⟩;refine⟨_,I,_,_,I,I,⟨by decide,by decide⟩,?_⟩;exact⟨hs,_,_,_,_,_,_,_,aA,I,by rw[el,aC];rfl,xb.app (lD.one zx)⟩
 rintro ab az ⟨hs,bs,num,d6,d2,jB,o7,na,lr,rfl,aC,xb⟩;have vk:bs.length<=cp:=dS (by lia);refine⟨_,I,I,_,I,fM (fun gr=>?_) (fun gr=>?_)⟩
 ·refine⟨_,I,_,I,by lia,by lia,fun D b2=>?_⟩;rw[em];have i4:(aa.ofString "aaa").length=3:=⋯
  let iT:Nat->aa:=fun i=>bs++Txt.slice (aa.ofString "aaa") aA (J (0+((i:Nat):Int)))
  have j1:∀i:Nat,i<m->(Txt.slice (aa.ofString "aaa") aA (J (0+((i:Nat):Int)))).length=i:=fun i aG=>by rw[Int.zero_add];exact Lo _ i (by lia)
  refine Gs (fun i=>V.str (iT i)) (fun ab=>∃z,ab=[z,J (.str bs)]) (by lia) ⟨_,I⟩ b2 ?_ ?_
  ·rintro i aG b0 H1 ⟨z,rfl⟩ eW R cL;exact⟨_,I,_,I,_,I,.inr ⟨_,I,dS (by lia),.inr ⟨_,_,I,I,dS (by rw[j1 i aG];lia),cL _ ⟨_,I⟩⟩⟩⟩
  ·skip;have e:(List.range m).map (fun i=>V.str (iT i))=((List.range m).map iT).map V.str:=by rw[hx];rfl
   rw[e];have pV:=hs.free b2;refine⟨_,.new pV (hs.trans (cZ b2)) aB trivial,q D ((List.range m).map iT) pV (by rw[cd,k8]) ?_⟩;refine G2 iT tJ u9 (fun i j aG cj z=>?_) fun i aG=>?_
   ·have:=congrArg aa.length z;have om:=j1 i aG;have yN:=j1 j cj;have bt:(iT i).length=bs.length+i:=by show(_++_:aa).length=_;rw[el,om]
    have cf:(iT j).length=bs.length+j:=by show(_++_:aa).length=_;rw[el,yN]
    lia
   ·have om:=j1 i aG;refine Mi ⟨?_,?_⟩ ?_
    ·show(_++_:aa).length<=12;rw[el,om];lia
    ·have cN:lD 3 fy.cps.toList (aa.ofString "aaa"):=⟨by lia,by decide+kernel⟩;exact(xb.app (cN.slice ..)).s
    ·show 0<(_++_:aa).length;rw[el];lia
 ·obtain⟨a,aN,Dd⟩:=i0 (c/72) (dt+1) (by lia);obtain⟨bK,zx,jO⟩:=NH (x:=bs) (k:=a) (by lia);have jo:=Lo bs a (by lia);have gm:=XR bs (a+1) (by lia);refine⟨_,I,_,_,I,I,⟨by decide,by decide⟩,_,rfl,_,_,rfl,rfl,(by lia),?_⟩;dsimp only;rw[Dd];refine⟨_,I,I,_,I,_,I,.inr ⟨_,_,_,I,I,vk,jO,fy,bK,I,I,xb.s _ zx,fun iq=>?_⟩⟩;obtain⟨x,av,DM⟩:=yo V.str [aa.ofString "",aa.ofString "xyz"] (c/4) 2 rfl (by decide)
  have RP:lD 3 fy.cps.toList x:=by
   have:∀y∈[aa.ofString "",aa.ofString "xyz"],y.length<=3/\∀c∈y.cps.toList,c∈fy.cps.toList:=⋯;exact⟨(this x av).1,(this x av).2⟩
  have alk:=RP.n;have om:((a:Nat):Int)+1=((a+1:Nat):Int):=by lia
  refine⟨_,I,_,I,.inl ⟨_,_,I,I,_,I,.inr ⟨_,I,vk,hH,fun g bh=>?_⟩⟩⟩;refine⟨_,I,_,_,I,I,⟨by decide,by decide⟩,_,_,rfl,rfl,(by show(0:Int)<2;decide),xz aB DM (.inr ⟨_,_,rfl,rfl,dS (by rw[om,gm];lia),?_⟩)⟩;dsimp only;rw[om];have hs:=hs.trans (cZ (o:=de.lst ([aa.ofString "",aa.ofString "xyz"].map V.str)) bh);obtain⟨dQ,gq⟩:∃dQ,dQ=Txt.slice bs (J ((a+1:Nat):Int)) aA++x:=⟨_,rfl⟩;have tt:lD (dt+1+3) fy.cps.toList dQ:=by rw[gq];exact(xb.slice ..).app RP
  have alv:dQ.length<=dt-a+3:=by rw[gq,el,gm];lia
  rw[<-gq];refine⟨_,I,_,I,by lia,by lia,fun D b2=>?_⟩;rw[em]
  let qa:Nat->Nat:=fun i=>((((iq:Nat):Int)+5*(0+((i:Nat):Int)))%26).toNat
  have oC:∀i,qa i<26/\(((iq:Nat):Int)+5*(0+((i:Nat):Int)))%26=((qa i:Nat):Int):=fun i=>by
   constructor
   ·show Int.toNat _<26;lia
   ·show _=((Int.toNat _:Nat):Int);lia
  let iT:Nat->aa:=fun i=>(Txt.slice bs aA (J ((a:Nat):Int))++⟨#[fy.cps.toList.getD (qa i) 0]⟩)++dQ
  refine Gs (fun i=>V.str (iT i)) (fun ab=>∃z,ab=[z,J (.str bs),J (.int ((a:Nat):Int)),J (.str fy),J (.int ((iq:Nat):Int)),J (.str dQ)]) (by lia) ⟨_,I⟩ b2 ?_ ?_
  ·rintro i aG b0 H1 ⟨z,rfl⟩ eW R cL;obtain⟨hk,iB⟩:=oC i;have acW:e9 fy.cps.toList ((qa i:Nat):Int)=J (fy.cps.toList.getD (qa i) 0):=dF (by rw[eR,cw (by lia)];rfl);have aQ:(⟨#[fy.cps.toList.getD (qa i) 0]⟩:aa).length=1:=rfl;refine⟨_,I,_,I,_,I,.inr ⟨_,I,vk,?_⟩⟩;refine⟨_,I,_,I,_,I,.inl ⟨_,_,I,I,.inl ⟨by decide,by decide⟩,.inl ⟨_,_,rfl,rfl,_,_,rfl,rfl,(by show(0:Int)<26;decide),.inr ⟨_,_,_,rfl,rfl,Pl,(by rw[iB];exact acW),.inr ⟨_,_,rfl,rfl,dS (by lia),?_⟩⟩⟩⟩⟩;exact⟨_,I,.inr ⟨_,_,I,I,dS (by rw[el];lia),cL _ ⟨_,I⟩⟩⟩
  ·skip;have e:(List.range m).map (fun i=>V.str (iT i))=((List.range m).map iT).map V.str:=by rw[hx];rfl
   rw[e];have pV:=hs.free b2;refine⟨_,.new pV (hs.trans (cZ b2)) aB trivial,q D ((List.range m).map iT) pV (by rw[cd,k8]) ?_⟩;refine G2 iT tJ u9 (fun i j aG cj z=>?_) fun i aG=>?_
   ·obtain⟨OS,N1⟩:=oC i;obtain⟨i2,aku⟩:=oC j;have jB:=UK z;rw[eR,eR,cw (by lia),cw (by lia)]at jB;have o7:=(List.getElem_inj Um).mp jB;lia
   ·obtain⟨hk,iB⟩:=oC i;refine Mi ⟨?_,?_⟩ ?_
    ·show(_++_:aa).length<=12;rw[el,el,jo];show a+1+_<=12;lia
    ·refine(((xb.slice aA (J ((a:Nat):Int))).app (lD.one ?_)).app tt).s;rw[eR,cw (by lia)];exact List.getElem_mem _
    ·show 0<(_++_:aa).length;rw[el,el];show 0<_+1+_;lia
mutual
noncomputable def dA:aU->D
 |.bare k =>.tup [.str (eT k),.lst [],.lst []]
 |.sp a b =>.tup [.str "span",.lst [.int a,.int b],.lst []]
 |.le s =>.tup [.str "letters",.str s,.lst []]
 |.one k f =>.tup [.str (dV k),.lst [],.lst [dA f]]
 |.two k ns fs =>.tup [.str (ez k),.lst (ns.map .str),.lst (fG fs)]
noncomputable def fG:List aU->List D
 |[]=>[]
 |f::fs=>dA f::fG fs
end
theorem GW(f:aU):∀fs:List aU,fG (fs++[f])=fG fs++[dA f]
 |[]=>by show fG [f]=_;rw[fG,fG,fG];rfl
 |g::fs=>by show fG (g::(fs++[f]))=_;rw[fG,GW f fs,fG];rfl
theorem tl:∀fs:List aU,(fG fs).length=fs.length
 |[]=>by rw[fG];rfl
 |f::fs=>by rw[fG,dW,tl fs,dW]
structure s7(X:List ag)(H:aq)(f:aU)(v:V)(n m:Nat):Prop where
 x:cg X H (dA f) v
 o:dY f
 h:aP f<=n
 l:(bq f).length<=m
 s:100*dt f<=m
def oj{w:aa}{du gi:V}(e:H T=J (.tup [.str w,du,gi]))(bW:T∉X)(hw:w.length<=100)(aN:cg X H mV du)(al:cg X H db gi):cg X H (.tup [.str w,mV,db]) (.ref T):=⟨T,_,rfl,bW,e,⟨_,_,rfl,⟨rfl,by lia⟩,_,_,rfl,aN,_,_,rfl,al,rfl⟩,(by show 3<=1000;decide)⟩
def kk(xm:a∉X)(e:H a=J (.lst vs))(h:xv (cQ X H ds vs) rrv)(aC:xv (vs.length<=1000) rsr):cg X H (.lst ds) (.ref a):=⟨a,vs,rfl,xm,e,h,aC⟩
def k4(X:List ag)(H:aq):Prop:=∀x,x∈X->∃l,H x=J (.lst l)
def k4.grow(h:k4 X H)(g:gz p H H'):k4 X H':=fun x av=>by
 by_cases z:x=p
 ·subst z;obtain⟨ns,e,_⟩:=g.l;exact⟨_,e⟩
 ·obtain⟨l,e⟩:=h x av;exact⟨l,g.k _ _ z e⟩
def k4.keep(h:k4 X H)(s:et H H'):k4 X H':=fun x av=>by
 obtain⟨l,e⟩:=h x av;exact⟨l,s _ _ e⟩
def k4.fX(h:k4 X H)(e:H a=aA):a∉X:=fun z=>by
 obtain⟨l,q⟩:=h a z;rw[e]at q;cases q
def wl:(∀k,(eT k).length<=100)/\(∀k,(dV k).length<=6)/\∀k,(ez k).length<=6:=⋯
inductive Rk(vs:List V)(H:aq)(Q:bI)(E:cP):Prop where
 |mk (w:aa) (c:Int) (b:Bool) (X:List ag) (bb:vs=[.str w,.int c,.aS b]) (ai:((∃k,w=eT k)\/w=aa.ofString "span"\/w=aa.ofString "letters")) (aj:k4 X H) (bt:∀v f H',Ext H H'->s7 X H' f v 1 170->Q v H')
noncomputable def ps:aa:="q7bZaX09cdefghijklmnoprstuvwxyzABCDEFGHIJKLMNOPQRSTUVWY1234568"
def UQ{s:aa}(h:s.cps.toList.Sublist ps.cps.toList)(ai:0<s.length)(aj:s.length<=60):qY s=ao:=by
 have br:ps.cps.toList.Nodup:=⋯;have ro:∀c∈ps.cps.toList,c∈mL.cps.toList:=⋯;unfold qY;rw[eK ⟨by lia,aj,T3 (br.sublist h)⟩,Bool.true_and];unfold hM;rw[hy];exact fun c hc=>eK (ro c (h.subset hc))
def Nl{a:Int}(h:a.natAbs<10^58):(num a).length<=59:=by
 have:=vZ (by decide) h;have e:(num a).length=(aa.ofString (toString a)).length:=fA;lia
def XJ(nb:dD mg)(F:dB K mg "_law_simple" F4 ["_law_word","_law_number","_law_last"] f fd):bf P w K mg zn 1 "_law_simple" ["_law_word","_law_number","_law_last"] Rk:=by show_term
 refine F.eH uF (fun H vs Q E au h=>?_);obtain⟨ww,c,r0,X,rfl,hw,eN,q⟩:=h
 refine⟨_,(aO (cq (bV dn (af 0) bu) (aO (b4 3 uF.br (aM hq (aM eu (aM ih (af 1) aH) aH) aH))
   (aO (b4 4 uF.br (aM cv (af 3) (aM eu (aM ih (af 1) aH) aH)))
   (aO (cq (h5 (af 2)) (aO (b4 3 uF.br (aM hq (aM kX (af 3) (aM wx aH aH)) (aM eu (af 1) (aM wx aH aH))))
    (aL (b4 4 uF.br (c1 (Ue rfl) rfl nb.Pw K2 (ak (af 3) (ak (aM kX (aM eu (af 1) (aM wx aH aH)) (aM wx aH aH)) ay)))))) cm)
   (aL (aY (gJ (ak (af 0) (ak (e0 (ak (af 3) (ak (af 4) ay))) (ak (e0 ay) ay))))))))) cm)
  (aO (cq (bV dn (af 0) bu) (aO (b4 5 uF.br bu)
   (aO (b4 6 uF.br (aM eu (aM ih (af 1) aH) aH))
   (aL (aY (gJ (ak (af 0) (ak (pC qr (af 5) (mR (af 6)) (mR (aM cv (aM cv (af 6) aH) (aM eu (aM ih (af 1) aH) (cI cJ (e0 (ak aH (ak aH ay))) (mj wk rfl nb.vh uN (ak (af 2) ay))))))) (ak (e0 ay) ay)))))))) cm)
  (aL (aY (gJ (ak (af 0) (ak (e0 ay) (ak (e0 ay) ay)))))))),?_⟩
 ac_rfl;rcases hw with⟨k,rfl⟩|rfl|rfl
 ·have dc:∀k:Fin 4,¬V.str (eT k)=V.str "span":=⋯;have dm:∀k:Fin 4,¬V.str (eT k)=V.str "letters":=⋯;refine⟨_,I,I,_,I,da (dc k) ⟨_,I,I,_,I,da (dm k) ⟨_,I,UF _,fun a aN=>⟨UF _,fun b al=>⟨(by show 3<=cp;decide),fun T bW=>?_⟩⟩⟩⟩⟩;have eV:=Ext.lst (xs:=[]) aN;have eP:=Ext.lst (xs:=[]) al;have ib:=Ext.tup (xs:=[V.str (eT k),.ref a,.ref b]) bW;have E:=(eV.trans eP).trans ib
  have aC:(bq (.bare k)).length<=170:=by
   rw[bq];have:∀k:Fin 4,(eT k).cps.toList.length<=170:=⋯;exact this k
  refine⟨_,E.sub,q _ (.bare k) _ E ⟨by rw[dA];exact oj aB ((eN.keep (eV.trans eP).s).fX bW) (wl.1 k) (kk (eN.fX aN) ((eP.trans ib).s _ _ aB)) (kk ((eN.keep eV.s).fX al) (ib.s _ _ aB)),by rw[dY];trivial,by rw[aP];exact cR _,aC,by rw[dt];decide⟩⟩
 ·have qk:(0:Int)<10^Int.toNat 9/\(10:Int)^Int.toNat 9=1000000000:=⋯;have PO:(10:Int)^Int.toNat 55=10^55/\(10:Int)^Int.toNat 40=10^40:=⋯;have D3:∀n:Int,n=55\/n=9\/n=40->JW 10 n:=fun n bj=>by rcases bj with rfl|rfl|rfl<;>(refine⟨?_,?_,?_⟩<;>decide)
  obtain⟨xj,oE,abB⟩:=i0 (c/6) 99 (by decide);have abA:c/6%99=((xj:Nat):Int):=abB;obtain⟨bb,akT,abu⟩:=i0 (c/600) 50 (by decide);have abt:c/600%50=((bb:Nat):Int):=abu
  have dG:∀(lo aG:Int)(H1:aq),H1=H->lo<=aG->aG-lo<2^190->lo.natAbs<10^58->aG.natAbs<10^58->∀a,H1 a=aA->∀b,upd H1 a (.lst [.int lo,.int aG]) b=aA->∀T,upd (upd H1 a (.lst [.int lo,.int aG])) b (.lst []) T=aA->∃kA,c6.Sub H kA (upd (upd (upd H1 a (.lst [.int lo,.int aG])) b (.lst [])) T (.tup [.str "span",.ref a,.ref b]))/\Q (.ref T) kA:=by
   rintro lo aG H1 rfl hle sg u7 za a aN b al T bW;have eV:=Ext.lst (xs:=[V.int lo,.int aG]) aN;have eP:=Ext.lst (xs:=[]) al;have ib:=Ext.tup (xs:=[V.str "span",.ref a,.ref b]) bW;have E:=(eV.trans eP).trans ib
   have aC:(bq (.sp lo aG)).length<=170:=by
    have ai:=Nl u7;have aj:=Nl za;rw[bq];rw[bE,bE,bE,bE,bE,pJ,mn,uO,show(bN "span").length=4 by decide+kernel];show 4+(1+(((num lo).length+(2+(num aG).length))+1))<=170;lia
   exact⟨_,E.sub,q _ (.sp lo aG) _ E ⟨by rw[dA];exact oj aB ((eN.keep (eV.trans eP).s).fX bW) ⋯ (kk (eN.fX aN) ((eP.trans ib).s _ _ aB) ⟨_,_,I,I,_,_,I,I,I⟩ (by show 2<=1000;decide)) (kk ((eN.keep eV.s).fX al) (ib.s _ _ aB)),by rw[dY];exact⟨hle,sg,u7,za⟩,by rw[aP];exact cR _,aC,by rw[dt];decide⟩⟩
  refine⟨_,I,I,_,I,hp I ⟨_,I,_,_,I,I,⟨by decide,by decide⟩,_,_,rfl,rfl,(by show(0:Int)<99;decide),_,_,rfl,rfl,?_⟩⟩;dsimp only;rw[abA];refine⟨_,I,_,I,_,_,I,I,⟨by decide,by decide⟩,_,_,rfl,rfl,(by show(0:Int)<50;decide),.inl ⟨_,_,rfl,rfl,?_⟩⟩;dsimp only;rw[abt];refine⟨_,I,r0,I,?_⟩;cases r0 with
  |false =>
   exact e2 ⟨_,I,_,I,_,I,hH,fun a aN=>⟨UF _,fun b al=>⟨(by show 3<=cp;decide),fun T bW=>(dG _ _ H I (by lia) (by lia) (by lia) (by lia) a aN b al T bW).elim fun _ h=>⟨_,h.1,h.2⟩⟩⟩⟩
  | true =>
   refine ho ⟨_,I,_,_,I,I,D3 _ (.inl I),.inl ⟨_,_,I,I,.inl ⟨by lia,by lia⟩,?_⟩⟩;refine⟨_,I,_,_,I,I,D3 _ (.inr (.inl I)),_,_,I,I,qk.1,_,_,I,I,?_⟩;have dk:=jX c (b:=10^Int.toNat 9) (Int.ne_of_gt qk.1);have gu:=jW c (b:=10^Int.toNat 9) qk.1;dsimp only;rw[PO.1];rw[qk.2]at dk gu ⊢;generalize c%1000000000=r at dk gu ⊢;refine⟨_,I,_,I,_,_,I,I,D3 _ (.inr (.inl I)),_,_,I,I,qk.1,_,_,I,I,D3 _ (.inr (.inr I)),.inl ⟨_,_,I,I,.inl ⟨?_,?_⟩,_,_,I,?_⟩⟩
   ·have i5:=jX c (b:=10^Int.toNat 9) (Int.ne_of_gt qk.1);lia
   ·have j2:=jW c (b:=10^Int.toNat 9) qk.1;rw[qk.2]at j2 ⊢;lia
   have i5:=jX c (b:=10^Int.toNat 9) (Int.ne_of_gt qk.1);have j2:=jW c (b:=10^Int.toNat 9) qk.1;dsimp only;rw[PO.2];rw[qk.2]at i5 j2 ⊢;generalize c%1000000000=ej at i5 j2 ⊢;refine⟨_,I,_,I,_,I,hH,fun a aN=>⟨UF _,fun b al=>⟨(by show 3<=cp;decide),fun T bW=>(dG _ _ H I ?_ ?_ ?_ ?_ a aN b al T bW).elim fun _ h=>⟨_,h.1,h.2⟩⟩⟩⟩
   .split<;>lia
   .split<;>lia
   .omega
   .split<;>lia
 ·obtain⟨a0,akF,abc⟩:=i0 (c/6) 40 (by decide);have abb:c/6%40=((a0:Nat):Int):=abc;refine⟨_,I,I,_,I,da ⋯ ⟨_,I,I,_,I,hp I ?_⟩⟩;refine⟨_,I,_,_,I,I,⟨by decide,by decide⟩,_,_,rfl,rfl,(by show(0:Int)<40;decide),?_⟩;dsimp only;rw[abb]
  obtain⟨x,IS,DM,aeb⟩:∃x:Nat,0<x/\x<=22/\e9 [V.int 9,V.int 22] (if r0=ao then 1 else 0)=J (.int ((x:Nat):Int)):=by
   cases r0 with
   |true=>exact⟨22,by decide,by decide,dF (j:=1) rfl⟩
   |false=>exact⟨9,by decide,by decide,dF (j:=0) rfl⟩
  obtain⟨y,ba,r3⟩:=i0 (c/240) x IS;have Pn:ps.length=62:=⋯;have aeA:ps.length<=cp:=by rw[Pn];exact dS (by decide)
  refine⟨_,I,_,I,_,I,_,I,_,I,.inl ⟨_,_,I,I,_,I,_,_,I,I,⟨by decide,by decide⟩,hH,fun g bh=>?_⟩⟩;refine⟨_,I,.inl (.inr ⟨_,I,xz aB aeb ⟨_,_,I,I,(by lia),.inl ⟨_,_,I,I,_,I,.inr ⟨_,I,aeA,?_⟩⟩⟩⟩)⟩;have iB:((a0:Nat):Int)+1+c/240%((x:Nat):Int)=((a0+(1+y):Nat):Int):=by rw[r3];lia
  dsimp only;rw[iB];have mW:=fk.yg ps (J ((a0:Nat):Int)) (J ((a0+(1+y):Nat):Int));rw[dU.tZ,dU.tZ]at mW;obtain⟨i8,IJ⟩:∃i8,i8=Txt.slice ps (J ((a0:Nat):Int)) (J ((a0+(1+y):Nat):Int)):=⟨_,rfl⟩;have N7:Txt.slice ps (J ((a0:Nat):Int)) (J ((a0+(1+y):Nat):Int))=i8:=IJ.symm;rw[N7]at mW;have II:i8.cps.toList.Sublist ps.cps.toList:=by rw[mW];exact(List.take_sublist ..).trans (List.drop_sublist ..)
  have j1:i8.length=min (a0+(1+y)) 62-a0:=by
   have:=congrArg List.length mW;rw[kg,lF,fA,fA]at this;have aQ:i8.length=i8.cps.size:=rfl;have aR:ps.length=ps.cps.size:=rfl;rw[Pn]at this;lia
  have adk:=UQ II (by lia) (by lia);refine⟨UF _,fun b al=>⟨(by show 3<=cp;decide),fun T bW=>?_⟩⟩;have eV:=Ext.lst (xs:=[V.int 9,V.int 22]) bh;have eP:=Ext.lst (xs:=[]) al;have ib:=Ext.tup (xs:=[V.str "letters",.str i8,.ref b]) bW;have E:=(eV.trans eP).trans ib
  have aC:(bq (.le i8)).length<=170:=by
   rw[bq,bE,bE,bE,pJ,mn,show(bN "letters").length=7 by decide+kernel];have aQ:i8.cps.toList.length=i8.length:=fA;show 7+(1+(i8.cps.toList.length+1))<=170;lia
  have mX:=q (.ref T) (.le i8) _ E ⟨by rw[dA];exact oj aB ((eN.keep (eV.trans eP).s).fX bW) ⋯ ⟨I,by lia⟩ (kk ((eN.keep eV.s).fX al) (ib.s _ _ aB)),by rw[dY];exact⟨adk,by lia⟩,by rw[aP];exact cR _,aC,by rw[dt];decide⟩;have RF:=E.sub;rw[<-N7]at mX RF;exact⟨_,RF,mX⟩
noncomputable def jJ:List aa:=[aa.ofString "nothing",aa.ofString "truth",aa.ofString "whole",aa.ofString "fraction",aa.ofString "span",aa.ofString "letters",aa.ofString "maybe",aa.ofString "many",aa.ofString "turned",aa.ofString "record",aa.ofString "choice"]
inductive Rt(d:Nat)(vs:List V)(H:aq)(Q:bI)(E:cP):Prop where
 |mk (p:ag) (dep:Nat) (ms:List Int) (X:List ag) (bb:vs=[.ref p,.int ((dep:Nat):Int)]) (ai:1<=dep) (aj:dep<=d) (bt:H p=J (.lst (ms.map V.int))) (cf:ms.length<=90) (eF:p∈X) (gD:k4 X H) (kl:∀(v:V)(f:aU)(H':aq)(oO:List Int),gz p H H'->H' p=J (.lst (oO.map V.int))->oO.length<=ms.length->s7 X H' f v dep (170+680*(ms.length-oO.length))->Q v H')
noncomputable def nM:List aU->Nat
 |[]=>0
 |f::fs=>max (bq f).length (100*dt f)+15+nM fs
theorem GF(f:aU):∀fs:List aU,nM (fs++[f])=nM fs+(max (bq f).length (100*dt f)+15)
 |[]=>by show max (bq f).length (100*dt f)+15+0=0+_;lia
 |g::fs=>by show max (bq g).length (100*dt g)+15+nM (fs++[f])=max (bq g).length (100*dt g)+15+nM fs+_;rw[GF f fs];lia
theorem CB:∀fs:List aU,100*f5 fs<=nM fs
 |[]=>by rw[f5];exact UF _
 |f::fs=>by have:=CB fs;rw[f5];show _<=max (bq f).length (100*dt f)+15+nM fs;lia
theorem Ct{f:aU}(h:dY f):∀{fs:List aU},gv fs->gv (fs++[f])
 |[],_=>by show gv [f];rw[gv,gv];exact⟨h,trivial⟩
 |g::fs,aj=>by
  rw[gv]at aj;show gv (g::(fs++[f]));rw[gv];exact⟨aj.1,Ct h aj.2⟩
theorem CH{f:aU}{n:Nat}(h:aP f<=n):∀{fs:List aU},dv fs<=n->dv (fs++[f])<=n
 |[],_=>by show dv [f]<=n;rw[dv,dv];lia
 |g::fs,aj=>by
  rw[dv]at aj;show dv (g::(fs++[f]))<=n;rw[dv];have:=CH h (fs:=fs) (by lia);lia
theorem CC:∀(fs:List aU)(ns:List aa),ns.length=fs.length->(∀n,n∈ns->n.length<=12)->(fi fs ns).length<=nM fs
 |[],ns,h,_=>by rw[fi];exact UF _
 |f::fs,[],h,_=>by cases h
 | f::fs,n::ns,h,al=>by
  have bP:=CC fs ns (Nat.succ.inj h) fun x av=>al x (d9 _ av);have bj:=al n (g0 ..);have ko:n.cps.toList.length=n.length:=fA;rw[od,bE,bE,bE,ko,wA]
  have:(lZ fs ns).length<=2+nM fs:=by
   cases fs with
   |nil=>exact UF _
   |cons a b=>unfold lZ;rw[bE,uO];show 2+_<=_;lia
  show n.length+(1+_)<=max (bq f).length (100*dt f)+15+nM fs;lia
theorem ym{X:List ag}{H:aq}:∀{ns:List aa},(∀n,n∈ns->n.length<=12)->cQ X H (ns.map .str) (ns.map V.str)
 |[],_=>rfl
 |n::ns,h=>⟨_,_,rfl,⟨rfl,by have:=h n (g0 ..);lia⟩,ym fun x av=>h x (d9 _ av)⟩
def xd{c:Prop}[Decidable c](hc:¬c)(h:A):if(!decide c)=ao then A else B:=by
 rw[e8 hc];exact h
set_option maxHeartbeats 8000000 in
def Yn{d:Nat}(nb:dD mg)(F:dB K mg "_law_tree" Cb ["_law_left","_law_deep_here"] f fd)(rB:bf P w K mg zn 1 "_law_simple" ["_law_word","_law_number","_law_last"] Rk)(vR:bf P w K mg zn 1 "_law_names" ["_law_number","_law_many_here"] Q2)
  (uf:bf P w K mg zn (d+2) "_law_tree" ["_law_left","_law_deep_here"] (Rt d)):bf P w K mg zn (d+2+1) "_law_tree" ["_law_left","_law_deep_here"] (Rt (d+1)):=by show_term
 refine F.eH uC (fun H vs Q E au h=>?_);obtain⟨p,dep,ms,X,rfl,sf,er,aX,tL,gc,eN,q⟩:=h
 refine⟨_,(aO (b4 2 uC.br (e0 (ak bu (ak bu (ak bu (ak bu (ak bu (ak bu ay))))))))
  (aO (b4 2 uC.br (aM tW (af 2) (e0 (ak bu (ak bu (ak bu (ak bu (ak bu ay))))))))
  (aO (cq (bV (DY (mE au)) (af 0) (e0 ay)) (aL (aY (gJ (ak bu (ak (e0 ay) (ak (e0 ay) ay)))))) cm)
  (aO (b4 3 uC.br (uM PySem.F.plainAttrs_list PySem.F.slot_list_pop PySem.F.type_list_pop KW (af 0)))
  (aO (b4 4 uC.br (cI cJ (af 2) (aM eu (af 3) aH)))
  (aO (cq (gA.pt (rX (bV (DY (mE au)) (af 1) aH) (tp (bV lY (aM eu (af 3) aH) aH)))) (aL (b4 4 uC.br (cI cJ (af 2) (aM eu (af 3) aH)))) cm)
  (aO (cq (bV iV (h6 PySem.F.plainAttrs_list PySem.F.slot_list_index PySem.F.type_list_index wi (af 2) (ak (af 4) ay)) aH) (aL (aY (b7 rB au (ak (af 4) (ak (aM ih (af 3) aH) (ak (g4 (DY (mE au)) (af 0) (e0 ay)) ay)))))) cm)
  (aO (cq (bV iV (h6 PySem.F.plainAttrs_list PySem.F.slot_list_index PySem.F.type_list_index wi (af 2) (ak (af 4) ay)) aH) (aL (aY (gJ (ak (af 4) (ak (e0 ay) (ak (e0 (ak (b7 uf au (ak (af 0) (ak (aM hq (af 1) aH) ay))) ay)) ay)))))) cm)
  (aO (b4 5 uC.br (e0 (ak (b7 uf au (ak (af 0) (ak (aM hq (af 1) aH) ay))) ay)))
  (aO (pB iu.never (gA.pt (rX (bV (I8 (mE au)) (af 0) (e0 ay)) (tp (bV iV (c1 eh rfl nb.d5 ea (ak (af 5) ay)) (aM tW aH (aM eu (aM ih (af 3) aH) aH))))))
   (aL (iz (h6 PySem.F.plainAttrs_list PySem.F.slot_list_append PySem.F.type_list_append pA (af 5) (ak (b7 uf au (ak (af 0) (ak (aM hq (af 1) aH) ay))) ay)))))
  (aL (aY (gJ (ak (af 4) (ak (b7 vR au (ak (aM ih (af 3) aH) (ak (c1 eh rfl nb.d5 ea (ak (af 5) ay)) ay))) (ak (af 5) ay)))))))))))))))),?_⟩
 ac_rfl;refine⟨(by show 6<=cp;decide),fun g1 ai=>⟨_,I,(by show 5<=cp;decide),fun g2 aj =>.inr ⟨g1,g2,_,_,I,I,(cZ aj) _ _ aB,aB,(by show 6+5<=cp;decide),fun lw p4=>?_⟩⟩⟩;have Au:=(((gz.refl ⟨ms,aX,tL⟩).ext (Ext.lst ai)).ext (Ext.lst aj)).ext (Ext.lst (xs:=jJ.map V.str) p4);have fl:=aB (H:=upd (upd H g1 (.lst [V.str "nothing",V.str "truth",V.str "whole",V.str "fraction",V.str "span",V.str "letters"])) g2 (.lst [V.str "maybe",V.str "many",V.str "turned",V.str "record",V.str "choice"])) (a:=lw) (o :=.lst (jJ.map V.str));have DI:=(cZ (o:=de.lst (jJ.map V.str)) p4) _ _ ((cZ aj) _ _ ((cZ ai) _ _ aX));change _;generalize Ov:upd (upd (upd H g1 (.lst [V.str "nothing",V.str "truth",V.str "whole",V.str "fraction",V.str "span",V.str "letters"])) g2 (.lst [V.str "maybe",V.str "many",V.str "turned",V.str "record",V.str "choice"])) lw _=H1;have Ow:upd (upd (upd H g1 (.lst [V.str "nothing",V.str "truth",V.str "whole",V.str "fraction",V.str "span",V.str "letters"])) g2 (.lst [V.str "maybe",V.str "many",V.str "turned",V.str "record",V.str "choice"])) lw (.lst (jJ.map V.str))=H1:=Ov;rw[Ow]at Au fl DI;clear Ov Ow;have H4:=eN.grow Au;have PE:lw≠p:=(((gz.refl ⟨ms,aX,tL⟩).ext (Ext.lst ai)).ext (Ext.lst aj)).ne p4;refine⟨_,I,UF _,fun g3 bt =>.inr ⟨p,g3,ms,[],I,I,(cZ bt) _ _ DI,aB,_,I,fM (fun Hw=>?_) (fun Hw=>?_)⟩⟩
 ·have iI:=Ext.lst (xs:=[]) bt;refine⟨UF _,fun a aN=>⟨UF _,fun b al=>⟨(by show 3<=cp;decide),fun T bW=>?_⟩⟩⟩;have eV:=Ext.lst (xs:=[]) aN;have eP:=Ext.lst (xs:=[]) al;have ib:=Ext.tup (xs:=[V.str (eT 0),.ref a,.ref b]) bW;have E:=((iI.trans eV).trans eP).trans ib;have G:=Au.ext E;refine⟨_,G.sub,q _ (.bare 0) _ ms G (E.s _ _ DI) (cR _) ⟨by rw[dA];exact oj aB ((H4.keep ((iI.trans eV).trans eP).s).fX bW) (wl.1 0) (kk ((H4.keep iI.s).fX aN) ((eP.trans ib).s _ _ aB)) (kk ((H4.keep (iI.trans eV).s).fX al) (ib.s _ _ aB)),by rw[dY];trivial,by rw[aP];exact sf,?_,by rw[dt];lia⟩⟩;rw[bq,show(eT 0).cps.toList.length=7 by decide+kernel];lia
 have iI:=Ext.lst (xs:=[]) bt;have n1:=Au.ext iI;have m5:=iI.s _ _ DI;have aQ:=iI.s _ _ fl;generalize upd H1 g3 (.lst [])=az at n1 m5 aQ ⊢;obtain⟨eO,c,rfl⟩:∃eO c,ms=eO++[c]:=⟨ms.dropLast,ms.getLast Hw,(List.dropLast_concat_getLast Hw).symm⟩;have zj:eO.length+1=(eO++[c]).length:=by rw[bE];rfl
 rw[<-zj]at tL;refine⟨_,I,.inl ⟨I,_,bp m5⟩,p,_,.int c,I,I,m5,?_,?_⟩
 .rw[cd,<-zj,Nat.add_sub_cancel,eJ,List.getElem?_append_right (cR _),Nat.sub_self];rfl
 have HD:((eO++[c]).map V.int).dropLast=eO.map V.int:=by rw[fR];exact List.dropLast_concat
 rw[HD];have sb:Fh p az:=n1.l;have n2:=n1.trans (gz.pop sb (ns:=eO) (by lia));have aR:upd az p (.lst (eO.map V.int)) lw=J (.lst (jJ.map V.str)):=by rw[bx PE];exact aQ
 have oF:upd az p (.lst (eO.map V.int)) p=J (.lst (eO.map V.int)):=aB;generalize upd az p (.lst (eO.map V.int))=b5 at n2 aR oF ⊢;have lT:=eN.grow n2;have alq:jJ.length=11:=rfl;have OD:∀j,(cj:j<11)->e9 (jJ.map V.str) ((j:Nat):Int)=J (.str (jJ[j]'(by lia))):=fun j cj=>dF (by rw[eJ,cw (by lia)];rfl);obtain⟨tR,w5,abw⟩:=i0 c 11 (by decide);have N0:c%11=((tR:Nat):Int):=abw;obtain⟨IX,Il,aby⟩:=i0 c 6 (by decide);have abx:c%6=((IX:Nat):Int):=aby;refine⟨_,I,_,I,_,_,I,I,(by show(0:Int)<11;decide),xz aR (by rw[N0];exact OD tR w5) ?_⟩;dsimp only[r5];refine Jg fun N fV=>?_;have sa:∀j(cj:j<11),(dep=1->j<6)->N [J (.ref p),J (.int ((dep:Nat):Int)),J (.ref lw),J (.int c),J (.str (jJ[j]'(by lia))),aA] b5:=fun j akV adq=>fV _ _ ?_
 ·refine⟨_,I,.inl ⟨I,_,I,fM (fun gr=>?_) (fun gr=>?_)⟩⟩
  ·refine⟨_,I,_,_,I,I,(by show(0:Int)<11;decide),_,_,I,I,_,I,fM (fun fD=>?_) (fun fD=>?_)⟩
   .exact⟨_,I,_,I,_,_,I,I,(by show(0:Int)<6;decide),xz aR (by rw[abx];exact OD IX (by lia)) (sa IX (by lia) fun _=>Il)⟩
   .exact sa tR w5 fun _=>by rw[N0]at fD;lia
  .exact sa tR w5 fun z=>absurd (by rw[z];rfl) gr
 have OL:jJ[j]?=J (jJ[j]'(by lia)):=cw (by lia)
 have w8:∀i,i<j->jJ[i]?≠J (jJ[j]'(by lia)):=fun i aG z=>by
  have br:jJ.Nodup:=⋯;rw[cw (by lia)]at z;have:=(List.getElem_inj br).mp (ie z);lia
 refine⟨_,I,.inl ⟨I,_,bp aR⟩,_,I,lw,jJ,_,j,I,I,aR,OL,w8,by decide,.inl ⟨_,_,rfl,rfl,_,rfl,fM (fun lr=>?_) (fun lr=>?_)⟩⟩
 ·refine⟨_,I,_,I,_,_,I,I,⟨by decide,by decide⟩,_,rfl,UF _,fun lR cf =>.inr ⟨p,lR,eO,[],rfl,rfl,(cZ cf) _ _ oF,aB,?_⟩⟩;have f7:=Ext.lst (xs:=[]) cf;refine⟨_,_,_,X,I,?_,lT.keep f7.s,fun v bF H' hD bW=>?_⟩
  ·have Il:j=0\/j=1\/j=2\/j=3\/j=4\/j=5:=by lia
   rcases Il with rfl|rfl|rfl|rfl|rfl|rfl
   .exact .inl ⟨0,I⟩
   .exact .inl ⟨1,I⟩
   .exact .inl ⟨2,I⟩
   .exact .inl ⟨3,I⟩
   .exact .inr (.inl I)
   .exact .inr (.inr I)
  ·have E:=f7.trans hD;exact⟨_,(n2.ext E).sub,q v bF H' eO (n2.ext E) (E.s _ _ oF) (by lia) ⟨bW.x,bW.o,c5 bW.h sf,c5 bW.l (by lia),c5 bW.s (by lia)⟩⟩
 have akN:2<=dep:=by
  rcases h4 dep 2 with z|z
  .have:=adq (by lia);lia
  .exact z
 have jq:((dep:Nat):Int)-1=((dep-1:Nat):Int):=by lia
 refine⟨_,I,.inl ⟨I,_,bp aR⟩,_,I,lw,jJ,_,j,I,I,aR,OL,w8,by decide,.inl ⟨_,_,rfl,rfl,_,rfl,fM (fun sS=>?_) (fun sS=>?_)⟩⟩
 ·refine⟨_,I,UF _,fun a aN=>?_⟩;have f7:=Ext.lst (xs:=[]) aN;refine⟨_,I,_,I,_,_,I,I,p,dep-1,eO,X,(by rw[<-jq];rfl),by lia,by lia,f7.s _ _ oF,by lia,gc,lT.keep f7.s,fun v bF gW kV jT p5 u9 bW=>⟨qQ,fun b al=>⟨(by show 3<=cp;decide),fun T tF=>?_⟩⟩⟩;have PA:a∉X:=lT.fX aN;have HC:gW a=J (.lst []):=jT.k _ _ (fun z=>PA (by rw[z];exact gc)) aB;have hD:=Ext.lst (xs:=[v]) al
  obtain⟨ck,nB⟩:∃ck:Fin 3,jJ[j]'(by lia)=dV ck:=by
   have:j=6\/j=7\/j=8:=by lia
   rcases this with rfl|rfl|rfl
   .exact⟨0,I⟩
   .exact⟨1,I⟩
   .exact⟨2,I⟩
  rw[nB];have fP:=Ext.tup (xs:=[V.str (dV ck),.ref a,.ref b]) tF;have E:=hD.trans fP;have G:=((n2.ext f7).trans jT).ext E;have m1:=(lT.keep f7.s).grow jT;refine⟨_,G.sub,q _ (.one ck bF) _ kV G (E.s _ _ p5) (by lia) ⟨by rw[dA];exact oj aB ((m1.keep hD.s).fX tF) (c5 (wl.2.1 ck) (by decide)) (kk PA (E.s _ _ HC)) (kk (m1.fX al) (fP.s _ _ aB) ⟨_,_,I,bW.x.same E.s,I⟩ (by show 1<=1000;decide)),by rw[dY];exact bW.o,by have:=bW.h;rw[aP];lia,?_,by have:=bW.s;rw[dt];lia⟩⟩;rw[bq,bE,bE,bE,pJ,mn];have lo:(dV ck).cps.toList.length<=6:=wl.2.1 ck;have:=bW.l;show _+(1+((bq bF).length+1))<=_;lia
 refine⟨_,I,_,I,_,_,I,I,p,dep-1,eO,X,(by rw[<-jq];rfl),by lia,by lia,oF,by lia,gc,lT,fun v0 f0 gW kV jT p5 u9 yY=>⟨qQ,fun l aC=>?_⟩⟩;have lB:=n2.trans jT;have hD:=Ext.lst (xs:=[v0]) aC;have m1:=lT.grow jT;have I4:l∉X:=m1.fX aC;have I5:l≠p:=fun z=>I4 (by rw[z];exact gc);have oE:H l=aA:=lB.free aC
 have aly:lw≠l:=fun z=>by
  have:=jT.k _ _ PE aR;rw[z,aC]at this;cases this
 obtain⟨ajT,ali,abM⟩:=i0 (c/66) 4 (by decide);have abL:c/66%4=((ajT:Nat):Int):=abM;refine⟨fun m ab d7=>∃(fs:List aU)(vs:List V)(g9:List Int),m=4-fs.length/\ab=[J (.ref p),J (.int ((dep:Nat):Int)),J (.ref lw),J (.int c),J (.str (jJ[j]'(by lia))),J (.ref l)]/\gz p H d7/\d7 p=J (.lst (g9.map V.int))/\g9.length<=eO.length/\d7 l=J (.lst vs)/\cQ (l::X) d7 (fG fs) vs/\k4 (l::X) d7/\gv fs/\dv fs<=dep-1/\1<=fs.length/\fs.length<=4/\nM fs+680*g9.length<=185*fs.length+680*eO.length,⟨3,[f0],[v0],kV,I,I,lB.ext hD,hD.s _ _ p5,u9,aB,(by rw[fG,fG];exact⟨v0,[],rfl,(cg.add aC _ yY.x).same hD.s,rfl⟩),?_,Ct (fs:=[]) yY.o (by rw[gv];trivial),CH (fs:=[]) yY.h (by rw[dv];exact UF _),cR _,(by show 1<=4;decide),?_⟩,?_⟩
 ·intro x av;rcases dJ.mp av with z|z
  .rw[z];exact⟨_,aB⟩
  .exact(m1.keep hD.s) x z
 ·have:=yY.l;have:=yY.s;show max (bq f0).length (100*dt f0)+15+0+680*kV.length<=185*1+680*eO.length;lia
 rintro m ab d7 ⟨fs,vs,g9,rfl,rfl,yU,nD,va,w6,lS,wX,IA,adl,q4,akR,ak1⟩;have h1:vs.length=fs.length:=by rw[dw.len _ (cQ.at _ lS),tl]
 refine⟨_,I,UF _,fun uW gD =>.inr ⟨p,uW,g9,[],I,I,(cZ gD) _ _ nD,aB,_,I,?_⟩⟩;have fP:=Ext.lst (xs:=[]) gD;have Dj:=yU.ext fP;have zt:=fP.s _ _ nD;have tI:=fP.s _ _ w6;have Du:=lS.same fP.s;have sd:=wX.keep fP.s;generalize upd d7 uW (.lst [])=ek at Dj zt tI Du sd ⊢;by_cases DF:g9=[]
 ·refine kp DF ?_;refine⟨_,I,_,I,_,_,I,I,⟨by decide,by decide⟩,_,rfl,_,_,rfl,.inl ⟨_,bp tI,rfl⟩,_,vs.length,rfl,by lia,by lia,fun D ns b2 gF eA=>⟨_,rfl,(by show 3<=cp;decide),fun T tF=>?_⟩⟩
  obtain⟨ck,nB⟩:∃ck:Fin 2,jJ[j]'(by lia)=ez ck:=by
   have:j=9\/j=10:=by lia
   rcases this with rfl|rfl
   .exact⟨0,I⟩
   .exact⟨1,I⟩
  rw[nB];have pk:=Ext.lst (xs:=ns.map V.str) b2;have qz:=Ext.tup (xs:=[V.str (ez ck),.ref D,.ref l]) tF;have E:=pk.trans qz;have G:=Dj.ext E;have yW:D∉l::X:=sd.fX b2;refine⟨_,G.sub,q _ (.two ck ns fs) _ g9 G (E.s _ _ zt) (by lia) ⟨by rw[dA];exact oj aB (fun z=>(sd.keep pk.s).fX tF (d9 _ z)) (c5 (wl.2.2 ck) (by decide)) (kk (fun z=>yW (d9 _ z)) (qz.s _ _ aB) (ym (jf eA).2) (by rw[cd];lia)) (kk I4 (E.s _ _ tI) (cQ.weak (fun x av=>d9 _ av) _ (Du.same E.s)) (by lia)),by rw[dY];exact⟨eA,by lia,IA⟩,by rw[aP];lia,?_,by have:=CB fs;rw[dt];lia⟩⟩;have j1:=CC fs ns (by lia) (jf eA).2;rw[bq,bE,bE,bE,pJ,mn];have lo:(ez ck).cps.toList.length<=6:=wl.2.2 ck;show _+(1+((fi fs ns).length+1))<=_;lia
 refine xd DF ?_;refine⟨_,I,_,_,I,.inl ⟨_,bp tI,I⟩,_,I,_,_,I,I,⟨by decide,by decide⟩,_,_,rfl,rfl,(by show(0:Int)<4;decide),.inl (.inl ⟨_,_,rfl,rfl,.inl ⟨_,_,rfl,rfl,_,rfl,fM (fun EA=>?_) (fun EA=>?_)⟩⟩)⟩
 ·rw[abL]at EA;have q6:fs.length<4:=by lia
  refine⟨fun cb H'=>∃b6,b6<4-fs.length/\∃(fs:List aU)(vs:List V)(g9:List Int),b6=4-fs.length/\cb=[J (.ref p),J (.int ((dep:Nat):Int)),J (.ref lw),J (.int c),J (.str (jJ[j]'(by lia))),J (.ref l)]/\gz p H H'/\H' p=J (.lst (g9.map V.int))/\g9.length<=eO.length/\H' l=J (.lst vs)/\cQ (l::X) H' (fG fs) vs/\k4 (l::X) H'/\gv fs/\dv fs<=dep-1/\1<=fs.length/\fs.length<=4/\nM fs+680*g9.length<=185*fs.length+680*eO.length,fun _ _ h=>h,?_⟩;refine⟨_,I,.inl ⟨I,_,bp tI⟩,_,I,_,I,_,_,I,I,p,dep-1,g9,l::X,(by rw[<-jq];rfl),by lia,by lia,zt,by lia,d9 _ gc,sd,fun xB Di iv ae2 qA zu ak4 pW=>?_⟩;have zh:=qA.k _ _ I5 tI;have wY:=sd.grow qA;refine⟨l,_,_,I,I,zh,(by rw[h1];exact fz (show fs.length<100000 by lia) (by decide)),?_⟩;have tS:∀b u,b∉l::X->iv b=J u->upd iv l (.lst (vs++[xB])) b=J u:=fun b u nb e=>by rw[bx (fun z=>nb (by rw[z];exact g0 ..))];exact e
  have aex:∀b u,b∉l::X->ek b=J u->upd iv l (.lst (vs++[xB])) b=J u:=fun b u nb e=>tS b u nb (qA.k b u (fun z=>nb (by rw[z];exact d9 _ gc)) e);refine⟨4-(fs++[Di]).length,by rw[bE,kf];lia,fs++[Di],vs++[xB],ae2,rfl,rfl,(Dj.trans qA).set oE zh I5,by rw[bx (fJ I5)];exact zu,by lia,aB,(by rw[GW];exact cQ.snoc (cg.keep tS _ pW.x) _ (cQ.keep aex _ Du)),?_,Ct pW.o IA,CH pW.h adl,by rw[bE];lia,by rw[bE,kf];lia,?_⟩
  ·intro x av;by_cases z:x=l
   .rw[z];exact⟨_,aB⟩
   ·obtain⟨y,ba⟩:=wY x av;exact⟨y,by rw[bx z];exact ba⟩
  .have:=pW.l;have:=pW.s;rw[GF,bE,kf];lia
 ·skip;refine⟨_,I,_,I,_,_,I,I,⟨by decide,by decide⟩,_,rfl,_,_,rfl,.inl ⟨_,bp tI,rfl⟩,_,vs.length,rfl,by lia,by lia,fun D ns b2 gF eA=>⟨_,rfl,(by show 3<=cp;decide),fun T tF=>?_⟩⟩
  obtain⟨ck,nB⟩:∃ck:Fin 2,jJ[j]'(by lia)=ez ck:=by
   have:j=9\/j=10:=by lia
   rcases this with rfl|rfl
   .exact⟨0,I⟩
   .exact⟨1,I⟩
  rw[nB];have pk:=Ext.lst (xs:=ns.map V.str) b2;have qz:=Ext.tup (xs:=[V.str (ez ck),.ref D,.ref l]) tF;have E:=pk.trans qz;have G:=Dj.ext E;have yW:D∉l::X:=sd.fX b2;refine⟨_,G.sub,q _ (.two ck ns fs) _ g9 G (E.s _ _ zt) (by lia) ⟨by rw[dA];exact oj aB (fun z=>(sd.keep pk.s).fX tF (d9 _ z)) (c5 (wl.2.2 ck) (by decide)) (kk (fun z=>yW (d9 _ z)) (qz.s _ _ aB) (ym (jf eA).2) (by rw[cd];lia)) (kk I4 (E.s _ _ tI) (cQ.weak (fun x av=>d9 _ av) _ (Du.same E.s)) (by lia)),by rw[dY];exact⟨eA,by lia,IA⟩,by rw[aP];lia,?_,by have:=CB fs;rw[dt];lia⟩⟩;have j1:=CC fs ns (by lia) (jf eA).2;rw[bq,bE,bE,bE,pJ,mn];have lo:(ez ck).cps.toList.length<=6:=wl.2.2 ck;show _+(1+((fi fs ns).length+1))<=_;lia
theorem Lw(nb:dD mg)(F:dB K mg "_law_tree" Cb ["_law_left","_law_deep_here"] f fd)(rB:bf P w K mg zn 1 "_law_simple" ["_law_word","_law_number","_law_last"] Rk)(vR:bf P w K mg zn 1 "_law_names" ["_law_number","_law_many_here"] Q2):∀d,bf P w K mg zn (d+2) "_law_tree" ["_law_left","_law_deep_here"] (Rt d)
 |0=>bf.none F fun vs H Q E z=>by obtain⟨_,_,_,_,_,ai,aj,_⟩:=z;lia
 |d+1=>by
  have:=Yn nb F rB vR (Lw nb F rB vR d);rwa [show d+1+2=d+2+1 by lia]
inductive Rw(n:Nat)(vs:List V)(H:aq)(Q:bI)(E:cP):Prop where
 |mk (v:V) (f:aU) (bb:vs=[v]) (ai:dZ H (dA f) v) (aj:dY f) (bt:aP f<=n) (cf:(bq f).length<=400000) (eF:Q (.str ⟨(bq f).toArray⟩) H)
def Ac{w:aa}(h:dZ H (.tup [.str w,mV,db]) v):∃T du gi,v=.ref T/\H T=J (.tup [.str w,du,gi])/\dZ H mV du/\dZ H db gi:=by
 obtain⟨T,_,rfl,e,⟨_,_,rfl,⟨rfl,_⟩,du,_,rfl,aN,gi,_,rfl,al,rfl⟩,_⟩:=h;exact⟨T,du,gi,I,e,aN,al⟩
theorem yn{H:aq}:∀{ns:List aa}{vs:List V},dw H (ns.map .str) vs->vs=ns.map V.str
 |[],_,h=>h
 |n::ns,_,⟨_,_,e,⟨aQ,_⟩,h⟩=>by rw[e,aQ,yn h];rfl
theorem uK:∀{fs:List aU}{i:Nat}{d:D},(fG fs)[i]?=J d->∃f,fs[i]?=J f/\d=dA f
 |[],i,d,h=>by rw[fG]at h;cases h
 |f::fs,0,d,h=>by rw[fG]at h;exact⟨f,I,(ie h).symm⟩
 |f::fs,i+1,d,h=>by rw[fG]at h;exact uK (fs:=fs) h
def Yo(nb:dD mg)(F:dB K mg "_law_text" Cc ["_law_tree_here"] f fd)(rC:bf P w K mg zn (n+1) "_law_text" ["_law_tree_here"] (Rw n)):bf P w K mg zn (n+1+1) "_law_text" ["_law_tree_here"] (Rw (n+1)):=by show_term
 refine F.eH yd (fun H vs Q E au h=>?_);obtain⟨v,bF,rfl,bW,aF,bY,c0,q⟩:=h
 refine⟨_,(aO (yD (af 0) (qP I (iZ (d4 (i:=1) yd.br I (by exact Or.inl rfl)) (iZ (d4 (i:=2) yd.br I (by first|exact Or.inl rfl|exact Or.inr rfl)) (iZ (d4 (i:=3) yd.br I (by first|exact Or.inl rfl|exact Or.inr rfl)) qN)))))
  (aO (cq (bV (zO (mE au)) (af 1) bu) (aL (aY (aM cv (aM cv (aM cv (aM cv bu (mj B1 rfl nb.xx wy (ak (cI cJ (af 2) aH) ay))) bu) (mj B1 rfl nb.xx wy (ak (cI cJ (af 2) aH) ay))) bu))) cm)
  (aO (cq (bV (zO (mE au)) (af 1) bu) (aL (aY (aM cv (aM cv bu (af 2)) bu))) cm)
  (aO (cq (bV (zO (mE au)) (af 3) (e0 ay)) (aL (aY (af 1))) cm)
  (aO (cq (bV (zO (mE au)) (af 2) (e0 ay)) (aL (aY (aM cv (aM cv (aM cv (af 1) bu) (b7 rC au (ak (cI cJ (af 3) aH) ay))) bu))) cm)
  (aO (Gz (i:=4)  ["_law_name","_law_one"] [] yd.br rfl rfl rfl ⋯ trivial (KO rfl nb.Ez (ak (af 2) (ak (af 3) ay))) (qP rfl (iZ (d4 (i:=0) (show(["_law_name","_law_one"]:List aa).Nodup by decide+kernel)) (iZ (d4 (i:=1) (show(["_law_name","_law_one"]:List aa).Nodup by decide+kernel)) qN))) hW (aM cv (aM cv (af 0) bu) (b7 rC au (ak (af 1) ay))))
  (aL (aY (aM cv (aM cv (aM cv (af 1) bu) (h6 PySem.F.plainAttrs_str PySem.F.slot_str_join PySem.F.type_str_join rW bu (ak (af 4) ay))) bu))))))))),?_⟩
 ac_rfl;have bZ:(aa.ofString ", ").length=2:=⋯;have kU:(aa.ofString ")").length=1:=⋯;have Pm:(aa.ofString "(").length=1:=⋯;cases bF with
 |bare k =>
  rw[dA]at bW;obtain⟨T,_,_,rfl,ec,⟨a,_,rfl,cD,rfl,_⟩,b,_,rfl,eE,rfl,_⟩:=Ac bW;have dc:∀k:Fin 4,¬V.str (eT k)=V.str "span":=⋯;have dm:∀k:Fin 4,¬V.str (eT k)=V.str "letters":=⋯;refine⟨_,I,T,_,I,dy ec,I,_,_,I,_,_,I,_,_,I,I,?_⟩;refine⟨_,I,.inl (.inl ⟨I,_,I,da (dc k) ⟨_,I,.inl (.inl ⟨I,_,I,da (dm k) ?_⟩)⟩⟩)⟩;refine⟨_,I,UF _,fun g bh =>.inr ⟨b,g,_,I,I,(cZ bh) _ _ eE,aB,_,I,hp I ⟨_,I,H,.refl (cZ bh),?_⟩⟩⟩;have e:(⟨(bq (.bare k)).toArray⟩:aa)=eT k:=by rw[bq]
  rw[e]at q;exact q
 | sp lo aG =>
  rw[dA]at bW;obtain⟨T,_,_,rfl,ec,⟨a,_,rfl,cD,⟨_,_,rfl,rfl,_,_,rfl,rfl,rfl⟩,_⟩,b,_,rfl,eE,rfl,_⟩:=Ac bW;rw[dY]at aF;obtain⟨_,_,u7,za⟩:=aF;have q1:lo.natAbs<10^60:=Nat.lt_trans u7 ⋯;have se:aG.natAbs<10^60:=Nat.lt_trans za ⋯;have i4:=vZ (by decide) q1;have vk:=vZ (by decide) se;have bJ:(aa.ofString "span(").length=5:=⋯;have a0:e9 [V.int lo,V.int aG] 0=J (.int lo):=dF (j:=0) rfl;have a1:e9 [V.int lo,V.int aG] 1=J (.int aG):=dF (j:=1) rfl;refine⟨_,I,T,_,I,dy ec,I,_,_,I,_,_,I,_,_,I,I,?_⟩;refine⟨_,I,.inl (.inl ⟨I,_,I,hp I ?_⟩)⟩;refine⟨_,I,xz cD a0 ⟨_,I,yi q1,.inr ⟨_,_,I,I,gg (by lia),?_⟩⟩⟩;refine .inr ⟨_,_,I,I,gg (by rw[el];lia),?_⟩;refine⟨_,I,xz cD a1 ⟨_,I,yi se,.inr ⟨_,_,I,I,gg (by rw[el,el];lia),?_⟩⟩⟩;refine .inr ⟨_,_,I,I,gg (by rw[el,el,el];lia),H,.refl (cK _),?_⟩;rw[<-mc (l:=bq (.sp lo aG)) ?_]at q
  .exact q
  ·rw[fS,fS,fS,fS,rQ.2.2.2.2.2.1,bq];show(((bN "span"++bN "(")++num lo)++bN ", ")++num aG++bN ")"=_;simp only[eC]
 | le bK =>
  rw[dA]at bW;obtain⟨T,_,_,rfl,ec,⟨rfl,_⟩,b,_,rfl,eE,rfl,_⟩:=Ac bW;rw[dY]at aF;have bJ:(aa.ofString "letters(").length=8:=⋯;refine⟨_,I,T,_,I,dy ec,I,_,_,I,_,_,I,_,_,I,I,?_⟩;refine⟨_,I,.inl (.inl ⟨I,_,I,da ⋯ ⟨_,I,.inl (.inl ⟨I,_,I,hp I ?_⟩)⟩⟩)⟩;refine⟨_,I,.inr ⟨_,_,I,I,gg (by lia),.inr ⟨_,_,I,I,gg (by rw[el];lia),H,.refl (cK _),?_⟩⟩⟩;rw[<-mc (l:=bq (.le bK)) ?_]at q
  .exact q
  ·rw[fS,fS,rQ.2.2.2.2.2.2,bq];show((bN "letters"++bN "(")++bK.cps.toList)++bN ")"=_;simp only[eC]
 | one k fZ =>
  rw[dA]at bW;obtain⟨T,_,_,rfl,ec,⟨a,_,rfl,cD,rfl,_⟩,b,_,rfl,eE,⟨qt,_,rfl,dM,rfl⟩,_⟩:=Ac bW;have dN:dY fZ:=by rw[dY]at aF;exact aF
  have fm:aP fZ<=n:=by rw[aP]at bY;lia
  have jZ:bq (.one k fZ)=(dV k).cps.toList++(bN "("++(bq fZ++bN ")")):=by rw[bq]
  have lW:(bq fZ).length<=400000:=by rw[jZ,bE,bE,bE]at c0;lia
  have dc:∀k:Fin 3,¬V.str (dV k)=V.str "span":=⋯;have dm:∀k:Fin 3,¬V.str (dV k)=V.str "letters":=⋯;have lo:∀k:Fin 3,(dV k).length<=6:=⋯;have tT:=lo k;have nG:=mT (bq fZ);refine⟨_,I,T,_,I,dy ec,I,_,_,I,_,_,I,_,_,I,I,?_⟩;refine⟨_,I,.inl (.inl ⟨I,_,I,da (dc k) ⟨_,I,.inl (.inl ⟨I,_,I,da (dm k) ?_⟩)⟩⟩)⟩;refine⟨_,I,UF _,fun g bh =>.inr ⟨b,g,_,I,I,(cZ bh) _ _ eE,aB,_,I,da (by show ¬1=0;decide) ?_⟩⟩;have s1:=cZ (o:=de.lst []) bh;refine⟨_,I,UF _,fun g2 oA =>.inr ⟨a,g2,_,I,I,(cZ oA) _ _ (s1 _ _ cD),aB,_,I,hp I ?_⟩⟩;have s2:=s1.trans (cZ (o:=de.lst []) oA);refine⟨_,I,.inr ⟨_,_,I,I,gg (by lia),?_⟩⟩;refine⟨_,I,xz (s2 _ _ eE) (dF (j:=0) I) ⟨qt,fZ,I,dZ.same s2 _ dM,dN,fm,lW,.inr ⟨_,_,I,I,gg (by rw[el];lia),?_⟩⟩⟩;refine .inr ⟨_,_,I,I,gg (by rw[el,el];lia),H,.refl s2,?_⟩;rw[<-mc (l:=bq (.one k fZ)) ?_]at q
  .exact q
  ·rw[fS,fS,fS,jZ,rY];show(((dV k).cps.toList++bN "(")++bq fZ)++bN ")"=_;simp only[eC]
 | two k ns fs =>
  rw[dA]at bW;obtain⟨T,_,_,rfl,ec,⟨a,xm,rfl,cD,fV,_⟩,b,vs,rfl,eE,dM,_⟩:=Ac bW;obtain rfl:=yn fV;rw[dY]at aF;obtain⟨eA,gF,dN⟩:=aF;have oB:=jf eA;have h1:vs.length=fs.length:=by rw[dw.len _ dM,tl]
  have hB:0<ns.length:=by
   rcases Nat.eq_zero_or_pos ns.length with z|z
   .rw[List.length_eq_zero_iff.mp z]at eA;cases eA
   .exact z
  have fm:dv fs<=n:=by rw[aP]at bY;lia
  have jZ:bq (.two k ns fs)=(ez k).cps.toList++(bN "("++(fi fs ns++bN ")")):=by rw[bq]
  have lW:(fi fs ns).length<=400000:=by rw[jZ,bE,bE,bE]at c0;lia
  have dc:∀k:Fin 2,¬V.str (ez k)=V.str "span":=⋯;have dm:∀k:Fin 2,¬V.str (ez k)=V.str "letters":=⋯;have lo:∀k:Fin 2,(ez k).length<=6:=⋯;have tT:=lo k;have nG:=mT (fi fs ns);refine⟨_,I,T,_,I,dy ec,I,_,_,I,_,_,I,_,_,I,I,?_⟩;refine⟨_,I,.inl (.inl ⟨I,_,I,da (dc k) ⟨_,I,.inl (.inl ⟨I,_,I,da (dm k) ?_⟩)⟩⟩)⟩;refine⟨_,I,UF _,fun g bh =>.inr ⟨b,g,_,I,I,(cZ bh) _ _ eE,aB,_,I,da (by lia) ?_⟩⟩;have s1:=cZ (o:=de.lst []) bh;refine⟨_,I,UF _,fun g2 oA =>.inr ⟨a,g2,_,I,I,(cZ oA) _ _ (s1 _ _ cD),aB,_,I,da (by rw[cd];lia) ?_⟩⟩;have s2:=s1.trans (cZ (o:=de.lst []) oA);generalize upd (upd H g (.lst [])) g2 (.lst [])=az at s2 ⊢;have bJ:(aa.ofString " ").length=1:=⋯;refine⟨_,I,_,I,a,b,_,_,I,bp (s2 _ _ cD),bp (s2 _ _ eE),fun D b2=>?_⟩;refine MY (fun i=>V.str ((List.zipWith h9 fs ns).getD i aa.empty)) (fun ab=>∃d6 d2,ab=[d6,d2]) (by rw[cd];lia) ⟨_,_,I⟩ b2 (bp (s2 _ _ cD)) (bp (s2 _ _ eE)) ?_ ?_
  ·rintro i x y av ba b0 H1 wc ⟨d6,d2,rfl⟩ eW yX R cL;rw[eJ]at av;obtain⟨nm,h0,rfl⟩:=Uf.mp av;obtain⟨_,hd,r8⟩:=dw.get _ dM ba;obtain⟨bF,jP,rfl⟩:=uK hd;obtain⟨nC,w4⟩:=tg dN jP;have hn:=wm fs ns gF i bF nm jP h0;have e:(List.zipWith h9 fs ns).getD i aa.empty=h9 bF nm:=by rw[eR,List.getElem?_zipWith,jP,h0];rfl
   rw[e]at cL;have qp:=(s2.trans eW).trans (cZ (o:=de.tup [V.str nm,y]) yX);have als:=mT (bq bF);refine⟨wc,_,I,dy aB,I,_,_,I,_,_,I,I,?_⟩;refine⟨_,I,.inr ⟨_,_,I,I,gg (by lia),?_⟩⟩;refine⟨_,I,y,bF,I,dZ.same qp _ r8,nC,by lia,by lia,.inr ⟨_,_,rfl,rfl,gg (by rw[el];lia),?_⟩⟩;exact cL _ _ ⟨_,_,I⟩ (cK _)
  ·intro H' kS iC;have sv:(List.zipWith h9 fs ns).length=fs.length:=by rw[List.length_zipWith,gF,Nat.min_self]
   have e:(List.range (min (ns.map V.str).length vs.length)).map (fun i=>V.str ((List.zipWith h9 fs ns).getD i aa.empty))=(List.zipWith h9 fs ns).map V.str:=by
    have:=B7 (List.zipWith h9 fs ns);rw[sv]at this;rw[cd,gF,h1,Nat.min_self];exact this
   rw[e]at iC
   have mY:∀y∈List.zipWith h9 fs ns,y.length<=400000:=fun y ba=>by
    obtain⟨i,aG,rfl⟩:=List.mem_iff_getElem.mp ba;rw[sv]at aG;rw[List.getElem_zipWith];have hn:=wm fs ns gF i fs[i] (ns[i]'(by lia)) (cw aG) (cw (by lia));unfold h9;have nG:=mT (bq fs[i]);rw[el,el,bJ];lia
   have zy:=StrLaws.sumLen_le _ mY;rw[sv]at zy
   have hI:Txt.join (aa.ofString ", ") (List.zipWith h9 fs ns)=⟨(fi fs ns).toArray⟩:=by
    refine mc ?_;show(dI.Str.glued (aa.ofString ", ") (List.zipWith h9 fs ns)).cps.toList=_;rw[StrLaws.glued_eq_join];exact G6 fs ns gF
   refine⟨_,I,.inr ⟨_,_,I,I,gg (by lia),?_⟩⟩;refine⟨I,_,I,_,D,_,I,I,bp iC,(by have:=oB.1;rw[sv,bZ];lia),?_⟩;rw[hI];refine .inr ⟨_,_,I,I,gg (by rw[el];lia),.inr ⟨_,_,I,I,gg (by rw[el,el];lia),H,.refl (s2.trans kS),?_⟩⟩;rw[<-mc (l:=bq (.two k ns fs)) ?_]at q
   .exact q
   ·rw[fS,fS,fS,jZ,rY];show(((ez k).cps.toList++bN "(")++fi fs ns)++bN ")"=_;simp only[eC]
theorem Lx(nb:dD mg)(F:dB K mg "_law_text" Cc ["_law_tree_here"] f fd):∀n,bf P w K mg zn (n+1) "_law_text" ["_law_tree_here"] (Rw n)
 |0=>bf.none F fun vs H Q E z=>by obtain⟨_,g,_,_,_,h,_⟩:=z;have:=oh g;lia
 |n+1=>Yo nb F (Lx nb F n)
theorem M7:∀{xs:List V}{us:List ax},xs.length=us.length->(∀(i:Nat)(x:V)(u:ax),xs[i]?=J x->us[i]?=J u->RelV x u)->Vals xs us
 |[],[],_,_ =>.nil
 |[],_::_,h,_=>by cases h
 |_::_,[],h,_=>by cases h
 |x::xs,u::us,h,k =>.cons (k 0 x u rfl rfl) (M7 (by simpa using h) fun i y v ai aj=>k (i+1) y v ai aj)
def LM{X:bS}(hc:X.calm=ao):hR X (.type "list") (fun xs H Q=>∃z:aa,xs=[.str z]/\z.cps.size<=cp/\∀l,H l=aA->Q (.ref l) (upd H l (.lst (z.cps.toList.map fun c=>V.str ⟨#[c]⟩)))):=by
 intro ar s ab H xs us Q ae r h;obtain⟨z,rfl,bX,q⟩:=h;obtain⟨u,rfl,t,rfl⟩:=vals1 r;refine call_list_str (ae.ok.hd hc) z t (fun h' dP NJ ij dz e aG=>?_) bX;obtain⟨ai,aj⟩:=aG;have aC:(z.cps.toList.map fun c=>V.str ⟨#[c]⟩).length=z.cps.size:=by rw[cd,fA]
 have ey:Vals (z.cps.toList.map fun c=>V.str ⟨#[c]⟩) NJ.toList:=by
  refine M7 (by rw[aC,fA];exact ai.symm) fun i x u bt cf=>?_;rw[Array.getElem?_toList]at cf;obtain⟨c,tt,eF,rfl⟩:=aj i u cf;rw[eJ,Array.getElem?_toList,eF]at bt;cases bt;exact⟨tt,I⟩
 exact⟨.ref s.heap.objs.size,_,ae.laid (t':=dP) dz (cR _) (show iJ X.prog X.w _ h' _ (.lst _)from⟨by rw[aC];exact bX,NJ.toList,ij,ey,by simpa using e⟩),rfl,q _ (ae.aF.fresh (cR _))⟩
inductive Rz(vs:List V)(H:aq)(Q:bI)(E:cP):Prop where
 |mk (c:Int) (p:ag) (ms:List Int) (bb:vs=[.int c,.ref p]) (ai:H p=J (.lst (ms.map V.int))) (aj:ms.length<=24) (bt:∀v f H',Ext H H'->s7 [] H' f v 2 4000->Q v H')
noncomputable def ta:List aa:=[eT 0,eT 1,eT 2,eT 3,eT 1,eT 2]
noncomputable def ux:aa:="tsrqponmlkjihgfedcba"
def aiV:∀n:Fin 21,0<n.val->(Txt.slice ux aA (J ((n.val:Nat):Int))).length=n.val/\iQ ((Txt.slice ux aA (J ((n.val:Nat):Int))).cps.toList.map fun c=>⟨#[c]⟩)=ao:=⋯
def ZE(nb:dD mg)(F:dB K mg "_law_wide" Gx ["_law_number","_law_left"] f fd)(rB:bf P w K mg zn 1 "_law_simple" ["_law_word","_law_number","_law_last"] Rk):bf P w K mg zn 2 "_law_wide" ["_law_number","_law_left"] Rz:=by show_term
 refine F.eH v9 (fun H vs Q E au h=>?_);obtain⟨c,p,ms,rfl,aX,tL,q⟩:=h
 refine⟨_,(aO (b4 2 v9.br (e0 (ak bu (ak bu (ak bu (ak bu (ak bu (ak bu ay))))))))
  (aO (b4 3 v9.br (e0 ay))
  (aO (b4 1 v9.br (aM tW (mj (hR.or Lv (LM rfl)) rfl nb.I1 Hl (ak (af 1) ay)) (e0 (ak (af 0) ay))))
  (aO (mS iu.never rfl (nt rfl nb.mD (ak (aM tW aH (aM eu (af 0) aH)) ay)) (d4 (i:=4) v9.br rfl (by exact Or.inl I))
   (aO (b4 5 v9.br (cI cJ (af 2) (aM eu (aM tW (aM ih (cI cJ (af 1) (aM eu (af 4) (c1 eh rfl nb.d5 ea (ak (af 1) ay)))) (aM tW (af 4) aH)) (af 4)) aH)))
   (aL (iz (h6 PySem.F.plainAttrs_list PySem.F.slot_list_append PySem.F.type_list_append pA (af 3) (ak (b7 rB au (ak (af 5) (ak (aM ih (cI cJ (af 1) (aM eu (af 4) (c1 eh rfl nb.d5 ea (ak (af 1) ay)))) aH) (ak iY ay)))) ay))))))
  (aL (aY (gJ (ak (cI cJ (e0 (ak bu (ak bu ay))) (aM eu (aM ih (af 0) aH) aH)) (ak (mj (hR.or Lv (LM rfl)) rfl nb.I1 Hl (ak (pC qr bu tq (mR (c1 eh rfl nb.d5 ea (ak (af 3) ay)))) ay)) (ak (af 3) ay)))))))))),?_⟩
 ac_rfl;refine⟨(by show 6<=cp;decide),fun lw p4=>⟨UF _,fun l aC=>?_⟩⟩;change _;generalize Pb:[V.str _,V.str _,V.str _,V.str _,V.str _,V.str _]=ws at aC ⊢;obtain rfl:ws=ta.map V.str:=Pb.symm;clear Pb;have eV:=Ext.lst (xs:=ta.map V.str) p4;have eP:=Ext.lst (xs:=[]) aC;refine⟨_,I,.inl ⟨p,_,I,.inl (bp ((eV.trans eP).s _ _ aX)),fun g3 bt=>?_⟩⟩;refine⟨_,I,qQ,fun lR cf =>.inr ⟨g3,lR,_,_,I,I,(cZ cf) _ _ aB,aB,dS (by rw[cd];show ms.length+1<=_;lia),fun le hle=>?_⟩⟩;have ib:=Ext.lst (xs:=ms.map V.int) bt;have f7:=Ext.lst (xs:=[V.int c]) cf;have em:ms.map V.int++[V.int c]=(ms++[c]).map V.int:=by rw[fR];rfl
 rw[em];have hD:=Ext.lst (xs:=(ms++[c]).map V.int) hle;obtain⟨x,av,lQ⟩:=i0 c 16 (by decide);have ex:c%16=((x:Nat):Int):=lQ;have dj:(5+c%16).toNat=5+x:=by lia
 have J1:=((eP.trans ib).trans f7).trans hD;have oE:H l=aA:=eV.s.free aC;have w6:=(((ib.trans f7).trans hD).s) _ _ (aB (H:=upd H lw (.lst (ta.map V.str))) (a:=l) (o :=.lst []));have pP:upd (upd (upd (upd (upd H lw (.lst (ta.map V.str))) l (.lst [])) g3 (.lst (ms.map V.int))) lR (.lst [V.int c])) le (.lst ((ms++[c]).map V.int)) le=_:=aB;have jN:=J1.s _ _ (aB (H:=H) (a:=lw) (o :=.lst (ta.map V.str)));have iI:=eV.trans J1;generalize upd (upd (upd (upd (upd H lw (.lst (ta.map V.str))) l (.lst [])) g3 (.lst (ms.map V.int))) lR (.lst [V.int c])) le (.lst ((ms++[c]).map V.int))=d7 at iI pP jN w6 ⊢;have aft:lw≠l:=fun z=>by rw[z,w6]at jN;cases jN
 have afs:le≠l:=fun z=>by rw[z,w6]at pP;simp at pP
 refine⟨_,I,_,_,I,I,(by show(0:Int)<16;decide),.inl (.inl ⟨_,_,I,I,_,I,by lia,by lia,?_⟩)⟩;rw[dj];refine wj (fun i ab az=>Ext H az/\(∀b u,b≠l->d7 b=J u->az b=J u)/\∃(fs:List aU)(vs:List V)(o7 na:Option V),ab=[J (.int c),J (.ref le),J (.ref lw),J (.ref l),o7,na]/\az l=J (.lst vs)/\cQ [l] az (fG fs) vs/\fs.length=i/\gv fs/\dv fs<=1/\nM fs<=185*i) ⟨iI,fun _ _ _ e=>e,[],[],aA,aA,I,w6,(by rw[fG];rfl),I,(by rw[gv];trivial),(by rw[dv];exact UF _),UF _⟩ ?_ ?_
 ·rintro i ab az aG ⟨eP,hk,fs,vs,o7,na,rfl,gE,fW,q6,aF,bY,j1⟩;have abI:=hk _ _ aft jN;have C9:=hk _ _ afs pP;have DE:(ms++[c]).length=ms.length+1:=by rw[bE];rfl
  obtain⟨y,ba,jO⟩:=yo V.int (ms++[c]) (0+((i:Nat):Int)) (((((ms++[c]).map V.int).length:Nat):Int)) (by rw[cd]) (by lia);obtain⟨nO,ad8,acX⟩:=yo V.str ta (y/(0+((i:Nat):Int)+1)+(0+((i:Nat):Int))) 6 rfl (by decide);have c0:(0:Int)<((((ms++[c]).map V.int).length:Nat):Int):=by rw[cd];lia
  refine⟨_,I,_,I,_,I,_,I,_,_,I,.inl ⟨_,bp C9,I⟩,_,_,I,I,c0,xz C9 jO ⟨_,I,.inl (.inl ⟨_,_,I,I,_,_,I,I,⟨by lia,by lia⟩,_,rfl,.inl (.inl ⟨_,_,rfl,rfl,_,_,rfl,rfl,(by show(0:Int)<6;decide),xz abI acX ?_⟩)⟩)⟩⟩
  have ad9:(∃k,nO=eT k)\/nO=aa.ofString "span"\/nO=aa.ofString "letters" :=.inl (by
   have:∀x∈ta,∃k,x=eT k:=⋯
   exact this nO ad8)
  refine⟨_,I,.inl ⟨I,_,bp gE⟩,_,I,_,I,_,I,_,I,_,_,I,.inl ⟨_,bp C9,I⟩,_,_,I,I,c0,xz C9 jO ⟨_,_,I,I,⟨by decide,by decide⟩,nO,_,aI,[l],rfl,ad9,?_,fun xB Di iv l6 pW=>?_⟩⟩
  ·intro x av;rw[eB.mp av];exact⟨_,gE⟩
  have zh:=l6.s _ _ gE;have h1:vs.length=i:=by rw[dw.len _ (cQ.at _ fW),tl,q6]
  refine⟨l,_,_,I,I,zh,(by rw[h1];exact fz (show i<100000 by lia) (by decide)),?_⟩;have tS:∀b u,b∉[l]->iv b=J u->upd iv l (.lst (vs++[xB])) b=J u:=fun b u nb e=>by rw[bx (fun z=>nb (eB.mpr z))];exact e
  refine⟨(eP.trans l6).set oE zh,fun b u n e=>by rw[bx n];exact l6.s _ _ (hk b u n e),fs++[Di],vs++[xB],_,_,I,aB,(by rw[GW];exact cQ.snoc (cg.keep tS _ pW.x) _ (cQ.keep tS _ (fW.same l6.s))),by rw[bE,q6];rfl,Ct pW.o aF,CH pW.h bY,?_⟩;have:=pW.l;have:=pW.s;rw[GF];lia
 ·rintro ab az ⟨eP,hk,fs,vs,o7,na,rfl,gE,fW,q6,aF,bY,j1⟩;obtain⟨tt,ad1,vd⟩:=yo V.str [ez 0,ez 1] (c/16) 2 rfl (by decide)
  obtain⟨ck,rfl⟩:∃ck,tt=ez ck:=by
   have:tt=ez 0\/tt=ez 1:=by simpa using ad1
   rcases this with rfl|rfl
   .exact⟨0,I⟩
   .exact⟨1,I⟩
  have h1:vs.length=fs.length:=by rw[dw.len _ (cQ.at _ fW),tl]
  obtain⟨ln,eA⟩:=aiV ⟨5+x,by lia⟩ (by show 0<5+x;lia);have ln:(Txt.slice ux aA (J ((5+x:Nat):Int))).length=5+x:=ln;have eA:iQ ((Txt.slice ux aA (J ((5+x:Nat):Int))).cps.toList.map fun c=>⟨#[c]⟩)=ao:=eA;refine⟨hH,fun uW gD=>⟨_,I,_,_,I,I,⟨by decide,by decide⟩,_,_,rfl,rfl,(by show(0:Int)<2;decide),xz aB vd ?_⟩⟩;have fP:=Ext.lst (xs:=[ez 0,ez 1].map V.str) gD;have ad4:((vs.length:Nat):Int)=((5+x:Nat):Int):=by rw[h1,q6]
  refine⟨_,I,_,_,I,.inl ⟨_,bp (fP.s _ _ gE),I⟩,_,I,.inr ⟨_,I,(by show ux.length<=cp;decide),?_⟩⟩;have aZ:Txt.slice (aa.ofString "tsrqponmlkjihgfedcba") aA (J ((vs.length:Nat):Int))=Txt.slice ux aA (J ((5+x:Nat):Int)):=by rw[ad4];rfl
  obtain⟨i8,IJ⟩:∃i8,i8=Txt.slice ux aA (J ((5+x:Nat):Int)):=⟨_,rfl⟩;rw[<-IJ]at aZ ln eA;refine .inr ⟨i8,congrArg (fun x=>[V.str x]) aZ,dS (by show i8.length<=_;lia),fun Oj kP=>⟨_,I,(by show 3<=cp;decide),fun T bW=>?_⟩⟩;have abD:(i8.cps.toList.map fun c=>V.str ⟨#[c]⟩)=(i8.cps.toList.map fun c=>(⟨#[c]⟩:aa)).map V.str:=by rw[hx];rfl
  have aez:(i8.cps.toList.map fun c=>(⟨#[c]⟩:aa)).length=5+x:=by rw[cd,fA];exact ln
  have EZ:=Ext.lst (xs:=i8.cps.toList.map fun c=>V.str ⟨#[c]⟩) kP;have qz:=Ext.tup (xs:=[V.str (ez ck),.ref Oj,.ref l]) bW;have J2:=((eP.trans fP).trans EZ).trans qz;have adv:=((fP.trans EZ).trans qz).s _ _ gE;have Dc:=(qz.s _ _ (aB (a:=Oj) (o :=.lst (i8.cps.toList.map fun c=>V.str ⟨#[c]⟩)))).trans (congrArg (fun z=>J (de.lst z)) abD);generalize (i8.cps.toList.map fun c=>(⟨#[c]⟩:aa))=ns at eA aez Dc;have xa:=CC fs ns (by lia) (jf eA).2;have lo:(ez ck).cps.toList.length<=6:=wl.2.2 ck;refine⟨_,J2.sub,q _ (.two ck ns fs) _ J2 ⟨by rw[dA];exact oj aB (fun z=>nomatch z) (c5 (wl.2.2 ck) (by decide)) (kk (fun z=>nomatch z) Dc (ym (jf eA).2) (by rw[cd];lia)) (kk (fun z=>nomatch z) adv ((cQ.weak (fun x(av:x∈[])=>nomatch av) _ fW).same ((fP.trans EZ).trans qz).s) (by lia)),by rw[dY];exact⟨eA,by lia,aF⟩,by rw[aP];lia,?_,by have:=CB fs;rw[dt];lia⟩⟩;rw[bq,bE,bE,bE,pJ,mn];show _+(1+((fi fs ns).length+1))<=_;lia
inductive QA(K:bT)(vs:List V)(H:aq)(Q:bI)(E:cP):Prop where
 |mk (a:ag) (ns:List Int) (bb:vs=[.ref a,.int 1000]) (ai:c4 K H a (ns.map V.int)) (aj:ns.length<=63) (bt:∀v f H',Ext H H'->s7 [] H' f v 8 18000->Q v H')
def Ext.Ol(aX:H p=aA)(aK:mO (upd H p o) p o)(g:gz p (upd H p o) H'):Ext H H' :=
 ⟨fun b u e=>g.k b u (hz e aX) ((cZ aX) b u e),fun c=>g.c (uq c aX aK)⟩
def aaJ{R:gk}{D:Ends}(h:R D (ab.set i (J v)) H):Ab (z8 (rp v) (r5 i)) R D ab H:=h
def Yf(nb:dD mg)(F:dB K mg "_law_drawn" Gg ["_law_script","_law_salt"] f fd)(pg:bf P w K mg zn 1 "_law_cell_at" ["_law_script","_law_k"] (Qm K))(qx:bf P w K mg zn 1 "_law_mixed" ["_law_cell","_law_k"] Q0)(vS:bf P w K mg zn 2 "_law_numbers_of" ["_law_script","_law_many_here","_law_salt"] (Q6 K))(EX:bf P w K mg zn 2 "_law_wide" ["_law_number","_law_left"] Rz)(uf:bf P w K mg zn 10 "_law_tree" ["_law_left","_law_deep_here"] (Rt 8)):bf P w K mg zn 11 "_law_drawn" ["_law_script","_law_salt"] (QA K):=by show_term
 refine F.eH rT (fun H vs Q E au h=>?_);obtain⟨a,ns,rfl,c7,aC,q⟩:=h
 refine⟨_,(aO (b4 2 rT.br (b7 qx au (ak (b7 pg au (ak (af 0) (ak aH ay))) (ak (af 1) ay))))
  (aO (cq (bV dn (aM eu (b7 pg au (ak (af 0) (ak aH ay))) aH) aH) (aL (b4 2 rT.br (aM ih (b7 pg au (ak (af 0) (ak aH ay))) aH))) cm)
  (aO (b4 3 rT.br (b7 vS au (ak (af 0) (ak (aM cv aH (aM eu (af 2) aH)) (ak (af 1) ay)))))
  (aO (cq (bV dn (aM eu (aM ih (af 2) aH) aH) aH) (aL (aY (b7 EX au (ak (aM ih (af 2) aH) (ak (af 3) ay))))) cm)
  (aO (b4 4 rT.br aH)
  (aO (cq (bV dn (aM eu (aM ih (af 2) aH) aH) aH) (aL (b4 4 rT.br (aM eu (aM ih (af 2) aH) aH))) cm)
  (aO (b4 5 rT.br (b7 uf au (ak (af 3) (ak (aM hq aH (af 4)) ay))))
  (aO (mS iu.never rfl (nt rfl nb.mD (ak (af 4) ay)) (d4 (i:=6) rT.br rfl (by exact Or.inl I))
   (aL (b4 5 rT.br (gJ (ak (cI cJ (e0 (ak bu (ak bu (ak bu ay)))) (aM eu (aM ih (af 2) (aM cv (af 6) aH)) aH)) (ak (e0 ay) (ak (e0 (ak (af 5) ay)) ay)))))))
  (aL (aY (af 5))))))))))),?_⟩
 ac_rfl;refine⟨_,I,a,ns,0,I,c7,aC,_,I,_,_,I,fun qh _ _=>?_⟩;dsimp only[r5];refine Jg fun N fV=>?_;have sa:∀qh:Int,N [J (.ref a),J (.int 1000),J (.int qh),aA,aA,aA,aA] H:=fun qh=>fV _ _ ?_
 .exact⟨_,I,a,ns,0,I,c7,aC,_,_,I,I,(by show(0:Int)<2;decide),I,_,I,fM (fun gr=>⟨_,I,a,ns,0,I,c7,aC,_,_,I,I,⟨by decide,by decide⟩,sa _⟩) (fun gr=>sa qh)⟩
 obtain⟨Ak,alj,abO⟩:=i0 qh 8 (by decide);have abN:qh%8=((Ak:Nat):Int):=abO;refine⟨_,I,_,I,_,_,I,I,(by show(0:Int)<8;decide),.inl ⟨_,_,I,I,_,I,a,ns,Ak+1,1000,(by rw[abN];show [V.ref a,V.int (1+((Ak:Nat):Int)),V.int 1000]=_;rw[show(1:Int)+((Ak:Nat):Int)=((Ak+1:Nat):Int) by lia];rfl),c7,aC,by lia,by lia,.inl rfl,fun D ms b2 tL=>?_⟩⟩;have pk:=Ext.lst (xs:=ms.map V.int) b2;have g6:upd H D (.lst (ms.map V.int)) D=J (.lst (ms.map V.int)):=aB;refine⟨_,I,_,_,I,I,⟨by decide,by decide⟩,_,_,rfl,rfl,(by show(0:Int)<6;decide),rfl,_,rfl,fM (fun fD=>?_) (fun fD=>?_)⟩
 ·refine⟨_,I,_,_,I,I,⟨by decide,by decide⟩,_,rfl,_,D,ms,rfl,g6,tL,fun v f H' Ar bW=>?_⟩;exact⟨_,(pk.trans Ar).sub,q v f H' (pk.trans Ar) ⟨bW.x,bW.o,c5 bW.h (by decide),c5 bW.l (by decide),c5 bW.s (by decide)⟩⟩
 dsimp only[Er];refine aaJ (Jg fun N fV=>?_);have sa:∀wr:Nat,wr<8->N [J (.ref a),J (.int 1000),J (.int qh),J (.ref D),J (.int ((wr:Nat):Int)),aA,aA] (upd H D (.lst (ms.map V.int))):=fun wr Pa=>fV _ _ ?_
 ·refine⟨_,I,_,_,I,I,⟨by decide,by decide⟩,_,_,rfl,rfl,(by show(0:Int)<4;decide),rfl,_,rfl,fM (fun oI=>?_) (fun oI=>sa 0 (by decide))⟩;obtain⟨wr,Pa,abK⟩:=i0 (qh/32) 8 (by decide);have abJ:qh/32%8=((wr:Nat):Int):=abK;refine⟨_,I,_,_,I,I,⟨by decide,by decide⟩,_,_,rfl,rfl,(by show(0:Int)<8;decide),?_⟩;dsimp only;rw[abJ];exact sa wr Pa
 have Dc:(8:Int)-((wr:Nat):Int)=((8-wr:Nat):Int):=by lia
 refine⟨_,I,_,I,_,_,I,I,D,8-wr,ms,[D],(by rw[<-Dc];rfl),by lia,by lia,g6,by lia,eB.mpr rfl,(fun x av=>by rw[eB.mp av];exact⟨_,g6⟩),fun v0 f0 gW alw jT p5 u9 tD=>?_⟩;have f7:Ext H gW:=Ext.Ol (o :=.lst (ms.map V.int)) b2 trivial jT;refine⟨_,I,_,I,by lia,by lia,?_⟩;have dj:(((wr:Nat):Int)).toNat=wr:=by lia
 rw[dj];refine wj (fun i ab d7=>Ext H d7/\∃(v:V)(bF:aU)(d2:Option V),ab=[J (.ref a),J (.int 1000),J (.int qh),J (.ref D),J (.int ((wr:Nat):Int)),J v,d2]/\s7 [] d7 bF v (8-wr+i) (16600+100*i)) ⟨f7,v0,f0,aA,I,cg.weak (fun x(av:x∈[])=>nomatch av) _ tD.x,tD.o,tD.h,c5 tD.l (by lia),c5 tD.s (by lia)⟩ ?_ ?_
 ·rintro i ab d7 aG ⟨hD,v,bF,d2,rfl,lS⟩;obtain⟨x,av,DM⟩:=yo V.str [dV 0,dV 1,dV 2] (qh/(0+((i:Nat):Int)+1)) 3 rfl (by decide)
  obtain⟨ck,rfl⟩:∃ck:Fin 3,x=dV ck:=by
   have:x=dV 0\/x=dV 1\/x=dV 2:=by simpa using av
   rcases this with rfl|rfl|rfl
   .exact⟨0,I⟩
   .exact⟨1,I⟩
   .exact⟨2,I⟩
  refine⟨(by show 3<=cp;decide),fun uW gD=>⟨_,I,_,I,.inl ⟨_,_,I,I,_,_,I,I,⟨by lia,by lia⟩,_,_,rfl,rfl,(by show(0:Int)<3;decide),xz aB DM ⟨UF _,fun a7 kl=>⟨_,rfl,qQ,fun aaM kP=>⟨(by show 3<=cp;decide),fun ako r7=>?_⟩⟩⟩⟩⟩⟩;have Sb:=Ext.lst (xs:=[dV 0,dV 1,dV 2].map V.str) gD;have Sd:=Ext.lst (xs:=[]) kl;have J4:=Ext.lst (xs:=[v]) kP;have E3:=Ext.tup (xs:=[V.str (dV ck),.ref a7,.ref aaM]) r7;have J5:=((Sb.trans Sd).trans J4).trans E3;have lo:(dV ck).cps.toList.length<=6:=wl.2.1 ck;refine⟨hD.trans J5,_,.one ck bF,_,I,by rw[dA];exact oj aB (fun z=>nomatch z) (c5 (wl.2.1 ck) (by decide)) (kk (fun z=>nomatch z) ((J4.trans E3).s _ _ aB)) (kk (fun z=>nomatch z) (E3.s _ _ aB) ⟨_,_,I,lS.x.same J5.s,I⟩ (by show 1<=1000;decide)),by rw[dY];exact lS.o,by have:=lS.h;rw[aP];lia,?_,by have:=lS.s;rw[dt];lia⟩;have:=lS.l;rw[bq,bE,bE,bE,pJ,mn];show _+(1+((bq bF).length+1))<=_;lia
 ·rintro ab d7 ⟨hD,v,bF,d2,rfl,lS⟩;exact⟨_,I,d7,hD.sub,q v bF d7 hD ⟨lS.x,lS.o,c5 lS.h (by lia),c5 lS.l (by lia),c5 lS.s (by lia)⟩⟩
def rZ:(∀k j,eT k=eT j->k=j)/\(∀k j,dV k=dV j->k=j)/\(∀k j,ez k=ez j->k=j)/\(∀k j,eT k≠ez j)/\(∀k j,dV k≠ez j)/\(∀k,ez k≠aa.ofString "span"):=⋯
theorem Na:∀(ns ms:List aa),eo (ns.map .str) (ms.map .str)=ao->ns=ms
 |[],[],_=>rfl
 |[],m::ms,h=>by simp[eo]at h
 |n::ns,[],h=>by simp[eo]at h
 |n::ns,m::ms,h=>by
  simp[eo,dT,jL]at h;rw[h.1,Na ns ms (by simpa using h.2)]
mutual
theorem Fz:∀(f g:aU),dT (dA f) (dA g)=ao->f=g
 |.bare k,g,h=>by
  cases g with
  |bare j=>simp[dA,dT,lb,eo,jL,pS]at h;rw[rZ.1 k j h]
  |two j ns fs=>simp[dA,dT,lb,eo,jL]at h;exact absurd h.1 (rZ.2.2.2.1 k j)
  |_=>simp[dA,dT,lb,eo,jL,pS]at h
 |.sp a b,g,h=>by
  cases g with
  |sp i j=>simp[dA,dT,lb,eo,jL,pS,yP]at h;rw[h.1,h.2]
  |two j ns fs=>simp[dA,dT,lb,eo,jL]at h;exact absurd h.1.symm (rZ.2.2.2.2.2 j)
  |_=>simp[dA,dT,lb,eo,jL,pS]at h
 |.le s,g,h=>by
  cases g with
  |le t=>simp[dA,dT,lb,eo,jL,pS]at h;rw[h]
  |_=>simp[dA,dT,lb,eo,jL,pS]at h
 |.one k f,g,h=>by
  cases g with
  |one j g=>simp[dA,dT,lb,eo,jL,pS]at h;rw[rZ.2.1 k j h.1,Fz f g h.2]
  |two j ns fs=>simp[dA,dT,lb,eo,jL]at h;exact absurd h.1 (rZ.2.2.2.2.1 k j)
  |_=>simp[dA,dT,lb,eo,jL,pS]at h
 | .two k ns fs,g,h=>by
  cases g with
  |bare j=>simp[dA,dT,lb,eo,jL]at h;exact absurd h.1.symm (rZ.2.2.2.1 j k)
  |sp i j=>simp[dA,dT,lb,eo,jL]at h;exact absurd h.1 (rZ.2.2.2.2.2 k)
  |le t=>simp[dA,dT,lb,eo,jL,pS]at h
  |one j g=>simp[dA,dT,lb,eo,jL]at h;exact absurd h.1.symm (rZ.2.2.2.2.1 j k)
  |two j ms qZ =>
   simp only[dA,dT,lb,eo,jL,pS,ix,beq_iff_eq]at h;rw[rZ.2.2.1 k j h.1,Na _ _ h.2.1,KI fs qZ h.2.2.1]
theorem KI:∀(fs qZ:List aU),eo (fG fs) (fG qZ)=ao->fs=qZ
 |[],[],_=>rfl
 |[],g::qZ,h=>by simp[fG,eo]at h
 |f::fs,[],h=>by simp[fG,eo]at h
 |f::fs,g::qZ,h=>by
  simp[fG,eo]at h;rw[Fz f g h.1,KI fs qZ h.2]
end
mutual
theorem Fy:∀f:aU,fK (dA f)<=2*aP f+1
 |.bare k=>by simp only[dA,fK,gb,aP];lia
 |.sp a b=>by simp only[dA,fK,gb,aP];lia
 |.le s=>by simp only[dA,fK,gb,aP];lia
 |.one k f=>by have:=Fy f;simp only[dA,fK,gb,aP];lia
 |.two k ns fs=>by have:=KH fs;have:=M9 ns;simp only[dA,fK,gb,aP];lia
theorem KH:∀fs:List aU,gb (fG fs)<=2*dv fs+1
 |[]=>by simp only[fG,gb];lia
 |f::fs=>by have:=Fy f;have:=KH fs;simp only[fG,gb,dv];lia
theorem M9:∀ns:List aa,gb (ns.map .str)<=1
 |[]=>by simp only[List.map_nil,gb];lia
 |n::ns=>by have:=M9 ns;simp only[gI,gb,fK];lia
end
def KL(f:aU):1<=dt f:=by cases f<;>simp only[dt]<;>lia
structure l7(c:c9)(X:List ag)(dz:ag)(H:aq)(n:Nat):Prop where
 e:∃aZ:List (ag×V×aU×ag),H dz=J (.lst (aZ.map fun e=>V.ref e.1))/\aZ.length<=n/\∀e,e∈aZ->e.1∉X/\H e.1=J (.tup [e.2.1,.ref e.2.2.2])/\cg X H (dA e.2.2.1) e.2.1/\(dY e.2.2.1/\aP e.2.2.1<=15)/\bG c X H e.2.2.1 e.2.2.2
def l7.le{c:c9}{n:Nat}(k:l7 c X dz H n)(h:n<=m):l7 c X dz H m:=by
 obtain⟨aZ,ai,aj,bt⟩:=k.e;exact⟨aZ,ai,by lia,bt⟩
theorem l7.keep{c:c9}{n:Nat}(k:l7 c X dz H n)(s:∀b u,b∉X->H b=J u->H' b=J u)(h:H' dz=H dz):l7 c X dz H' n:=by
 obtain⟨aZ,ai,aj,bt⟩:=k.e;refine⟨aZ,by rw[h];exact ai,aj,fun e he=>?_⟩;obtain⟨a1,a2,a3,a4,a5⟩:=bt e he;exact⟨a1,s _ _ a1 a2,cg.keep s _ a3,a4,bG.keep s _ a5⟩
theorem l7.add{c:c9}{D:ag}{n:Nat}(k:l7 c X dz H n)(b2:H D=aA):l7 c (D::X) dz H n:=by
 obtain⟨aZ,ai,aj,bt⟩:=k.e;refine⟨aZ,ai,aj,fun e he=>?_⟩;obtain⟨a1,a2,a3,a4,a5⟩:=bt e he;exact⟨fun z=>(dJ.mp z).elim (fun z=>by rw[z,b2]at a2;cases a2) a1,a2,cg.add b2 _ a3,a4,bG.add b2 _ a5⟩
theorem l7.weak{c:c9}{D:ag}{n:Nat}(k:l7 c (D::X) dz H n):l7 c X dz H n:=by
 obtain⟨aZ,ai,aj,bt⟩:=k.e;refine⟨aZ,ai,aj,fun e he=>?_⟩;obtain⟨a1,a2,a3,a4,a5⟩:=bt e he;exact⟨fun z=>a1 (d9 _ z),a2,cg.weak (fun x av=>d9 _ av) _ a3,a4,bG.weak (fun x av=>d9 _ av) _ a5⟩
def ni(X:List ag)(H:aq):Prop:=∀x,x∈X->∃o,H x=J o
def ni.no(h:ni X H){t:ag}(e:H t=aA):t∉X:=fun z=>by
 obtain⟨o,q⟩:=h t z;rw[e]at q;cases q
def ni.eX(h:ni X H)(m:cY p H H')(e:H' p=J o):ni X H':=fun x av=>by
 by_cases z:x=p
 .subst z;exact⟨_,e⟩
 ·obtain⟨u,q⟩:=h x av;exact⟨u,m.k _ _ z q⟩
def ni.ext(h:ni X H)(m:et H H'):ni X H':=fun x av=>by
 obtain⟨u,q⟩:=h x av;exact⟨u,m _ _ q⟩
def ni.add{D:ag}(h:ni X H)(e:H D=J o):ni (D::X) H:=fun x av=>by
 rcases dJ.mp av with rfl|z
 .exact⟨o,e⟩
 .exact h x z
def cg.eX(aX:p∈X)(m:cY p H H')(h:cg X H d v):cg X H' d v :=
 cg.keep (fun b u nb e=>m.k b u (fun z=>nb (by rw[z];exact aX)) e) d h
theorem Cz:∀(fs:List aU)(i:Nat),f5 (fs.take i)<=f5 fs
 |[],i=>by rw[List.take_nil];exact cR _
 |f::fs,0=>by show f5 []<=_;rw[f5];exact UF _
 |f::fs,i+1=>by
  show f5 (f::fs.take i)<=_;have:=Cz fs i;rw[f5,f5];lia
inductive Q1(c:c9)(d e:Nat)(vs:List V)(H:aq)(Q:bI)(E:cP):Prop where
 |mk (oZ:V) (dz:ag) (f:aU) (n:Nat) (X:List ag) (bb:vs=[oZ,.ref dz]) (ai:dz∈X) (aj:ni X H) (bt:cg X H (dA f) oZ) (cf:dY f) (eF:aP f<=d) (gD:aP f<=15) (kl:l7 c X dz H n) (kP:n+dt f<=20000) (r7:∀o H',cY dz H H'->l7 c X dz H' (n+dt f-e)->bG c X H' f o->Q (.ref o) H')
def Yq{d:Nat}(F:dB K mg "_law_made" Ce ["_law_tree_here","_law_kept"] f fd)(R8:bf P w K mg zn (2*d+7) "_law_formed" ["_law_tree_here","_law_kept"] (Q1 c d 1)):bf P w K mg zn (2*d+8) "_law_made" ["_law_tree_here","_law_kept"] (Q1 c d 0):=by
 refine F.eH Ga (fun H vs Q E au h=>?_);obtain⟨oZ,dz,g,n,X,rfl,si,eN,cV,aF,bY,HR,ff,bj,q⟩:=h
 refine⟨_,(aO (mS iu.never I (jw (af 1)) (qP I (iZ (d4 (i:=2) Ga.br I (by exact Or.inl rfl)) (iZ (d4 (i:=3) Ga.br I (by exact Or.inl rfl)) qN)))
   (aL (cq (bV (PH (mE au)) (af 2) (af 0)) (aL (aY (af 3))) cm)))
  (aO (iz (h6 PySem.F.plainAttrs_list PySem.F.slot_list_append PySem.F.type_list_append pA (af 1) (ak (gJ (ak (af 0) (ak (b7 R8 au (ak (af 0) (ak (af 1) ay))) ay))) ay)))
  (aL (aY (cI cJ (cI cJ (af 1) (mU mP aH)) aH))))),?_⟩
 ac_rfl;obtain⟨aZ,q3,my,lV⟩:=ff.e;have jQ:=KL g;refine .inl ⟨_,I,dz,I,⟨_,bp q3⟩,?_⟩;refine yl (xs:=aZ.map fun e=>V.ref e.1) (fun i ab az=>H=az/\∃d2 jB,ab=[J oZ,J (.ref dz),d2,jB]) ⟨I,_,_,I⟩ (fun i ab az _ h=>by obtain⟨rfl,_⟩:=h;exact bp q3) ?_ ?_
 ·rintro i x ab az av ⟨rfl,d2,jB,rfl⟩;rw[eJ]at av;obtain⟨e,ada,rfl⟩:=Uf.mp av;obtain⟨a1,a2,a3,a4,a5⟩:=lV e (jc ada);refine⟨_,_,I,dy a2,I,_,_,I,_,_,I,I,?_⟩;refine⟨_,I,_,I,.inr ⟨dA e.2.2.1,dA g,cg.at _ a3,cg.at _ cV,?_,_,I,?_⟩⟩
  ·have:=Fy e.2.2.1;have:=a4.2;lia
  cases bl:dT (dA e.2.2.1) (dA g)with
  |true =>
   obtain rfl:=Fz _ _ bl;exact ho ⟨_,I,_,(cY.refl dz H).sub q3,q _ _ (cY.refl dz H) (ff.le (by lia)) a5⟩
  |false=>exact e2 ⟨I,_,_,I⟩
 rintro ab az ⟨rfl,d2,jB,rfl⟩;refine⟨_,I,.inl ⟨I,_,bp q3⟩,_,I,_,I,_,I,oZ,dz,g,n,X,I,si,eN,cV,aF,bY,HR,ff,bj,fun o H1 hb Dq oy=>⟨hH,fun T bW=>?_⟩⟩;obtain⟨wI,q4,akQ,adb⟩:=Dq.e;have eP:=Ext.tup (xs:=[oZ,.ref o]) bW;have ads:dz≠T:=fun z=>by rw[<-z,q4]at bW;cases bW
 have OI:=eP.s _ _ q4;refine⟨dz,_,_,I,I,OI,fz (show _<100000 by rw[cd];lia) (by decide),?_⟩
 have ck:∀b u,b∉X->H1 b=J u->upd (upd H1 T (.tup [oZ,.ref o])) dz (.lst ((wI.map fun e=>V.ref e.1)++[V.ref T])) b=J u:=fun b u nb e=>by
  rw[bx (fun z=>nb (by rw[z];exact si))];exact eP.s _ _ e
 have M2:cY dz H (upd (upd H1 T (.tup [oZ,.ref o])) dz (.lst ((wI.map fun e=>V.ref e.1)++[V.ref T]))):=⟨fun b u nb e=>by rw[bx nb];exact eP.s _ _ (hb.k b u nb e),fun cl=>ur OI (eP.c (hb.c cl))⟩;have acJ:T∉X:=(eN.eX hb q4).no bW;have ec:upd (upd H1 T (.tup [oZ,.ref o])) dz (.lst ((wI.map fun e=>V.ref e.1)++[V.ref T])) T=J (.tup [oZ,.ref o]):=by rw[bx (fJ ads),aB]
 have aaH:e9 ((wI.map fun e=>V.ref e.1)++[V.ref T]) (-1)=J (.ref T):=M4 _ _;refine⟨_,I,_,I,xz aB aaH (x0 ec (dF (j:=1) I) ?_)⟩;refine⟨_,M2.sub aB,q _ _ M2 ⟨wI++[(T,oZ,g,o)],by rw[aB,fR];rfl,by rw[bE,kf];lia,fun e he=>?_⟩ (bG.keep ck _ oy)⟩;rcases List.mem_append.mp he with z|z
 ·obtain⟨a1,a2,a3,a4,a5⟩:=adb e z;exact⟨a1,ck _ _ a1 a2,cg.keep ck _ a3,a4,bG.keep ck _ a5⟩
 ·rw[eB.mp z];exact⟨acJ,ec,cg.keep ck _ (cg.eX si hb cV),⟨aF,HR⟩,bG.keep ck _ oy⟩
def M0{g:gY}{D:ag}(n:Nat)(xs:Nat->V)(Inv:Nat->List V->aq->Prop)(S:St->Prop)(bX:n<=100000)(bb:S fO)
  (Ii:∀i H,i<n->eQ.go i H) (IH:∀H,eQ.stop n H) (ba:∀i H x H',i<n->eQ.rx i H x H'->H'=H/\x=xs i) (ai:Inv 0 [] (upd H D (.lst [])))
  (aP:∀i,i<n->∀aw b0 H1,S b0->Inv i aw H1->H1 D=J (.lst aw)->aw.length=i->∀R:St->V->aq->Prop,(∀bD y b5,S bD->b5 D=J (.lst aw)->Inv (i+1) (aw++[y]) (upd b5 D (.lst (aw++[y])))->R bD y b5)->g (xs i) b0 H1 fun bD az=>cT bD az fun y b5=>R bD y b5)
  (bl:∀(aw:List V)(H':aq),aw.length=n->H' D=J (.lst aw)->Inv n aw H'->Q (.ref D) H') :
  mK eQ g oX cT Q fO H D:=by
 refine⟨fun i m b0 az=>i<=n/\m=n-i/\S b0/\∃aw:List V,aw.length=i/\az D=J (.lst aw)/\Inv i aw az,⟨n,UF _,I,bb,[],I,aB,ai⟩,?_⟩;rintro i m b0 az ⟨aG,rfl,aj,aw,ju,kQ,dX⟩;rcases h4 i n with z|z
 ·refine .inr ⟨Ii i _ z,fun x b5 y=>?_⟩;obtain⟨rfl,rfl⟩:=ba i _ x b5 z y;refine aP i z aw b0 _ aj dX kQ ju (fun bD y ek=>∃zs b6,ek D=J (.lst zs)/\zs.length<cp/\b6<n-i/\(i+1<=n/\b6=n-(i+1)/\S bD/\∃ws:List V,ws.length=i+1/\upd ek D (.lst (zs++[y])) D=J (.lst ws)/\Inv (i+1) ws (upd ek D (.lst (zs++[y]))))) fun bD y ek gh HX H0=>?_;exact⟨aw,n-(i+1),HX,fz (show aw.length<100000 by lia) (by decide),by lia,by lia,rfl,gh,aw++[y],by rw[bE,ju];rfl,aB,H0⟩
 ·have e:i=n:=by lia
  subst e;exact .inl ⟨IH _,bl aw az ju kQ dX⟩
noncomputable def iE:aU->List aU
 |.one _ f=>[f]
 |.two _ _ fs=>fs
 |_=>[]
noncomputable def xc:aU->Bool
 |.one _ _=>ao
 |.two _ _ _=>ao
 |_=>aI
def CY(g:aU):∃e,dA g=.tup [.str (gw g),e,.lst (fG (iE g))]:=by
 cases g with
 |one k f=>exact⟨_,by rw[dA,iE,fG,fG];rfl⟩
 |two k ns fs=>exact⟨_,by rw[dA,iE];rfl⟩
 |_=>exact⟨_,by simp only[dA,iE,fG];rfl⟩
def Hz{w:aa}(h:cg X H (.tup [.str w,mV,.lst ds]) v):∃T du l hL,v=.ref T/\H T=J (.tup [.str w,du,.ref l])/\cg X H mV du/\l∉X/\H l=J (.lst hL)/\cQ X H ds hL/\hL.length<=1000:=by
 obtain⟨T,_,rfl,_,e,⟨_,_,rfl,⟨rfl,_⟩,du,_,rfl,aN,_,_,rfl,⟨l,hL,rfl,aC,fc,hd,fg⟩,rfl⟩,_⟩:=h;exact⟨T,du,l,hL,I,e,aN,aC,fc,hd,fg⟩
def Ww(h:xc g=ao):∀w,w∈[eT 0,eT 1,eT 2,eT 3,aa.ofString "span",aa.ofString "letters"]->¬V.str (gw g)=V.str w:=by
 have ai:∀k,∀w,w∈[eT 0,eT 1,eT 2,eT 3,aa.ofString "span",aa.ofString "letters"]->¬V.str (dV k)=V.str w:=⋯;have aj:∀k,∀w,w∈[eT 0,eT 1,eT 2,eT 3,aa.ofString "span",aa.ofString "letters"]->¬V.str (ez k)=V.str w:=⋯;cases g with
 |one k f=>exact ai k
 |two k ns fs=>exact aj k
 |_=>cases h
def NC(h:xc g=ao)(ok:dY g):gv (iE g)/\dv (iE g)+1=aP g/\f5 (iE g)+1=dt g/\(iE g).length<=20:=by
 cases g with
 |one k f=>rw[dY]at ok;exact⟨by simp only[iE,gv];exact⟨ok,trivial⟩,by simp only[iE,dv,aP];lia,by simp only[iE,f5,dt,Nat.add_zero],by simp[iE]⟩
 |two k ns fs=>rw[dY]at ok;rw[aP,dt];exact⟨ok.2.2,I,I,by have:=(jf ok.1).1;simp only[iE];lia⟩
 |_=>cases h
theorem yA{X:List ag}{H:aq}:∀(ds:List D){vs:List V}{i:Nat}{v:V},cQ X H ds vs->vs[i]?=J v->∃d,ds[i]?=J d/\cg X H d v
 |[],vs,i,v,h,e=>by
  obtain rfl:vs=[]:=h;cases e
 |d::ds,vs,0,v,h,e=>by
  obtain⟨w,r,rfl,q,b8⟩:=h;cases e;exact⟨d,I,q⟩
 |d::ds,vs,i+1,v,h,e=>by
  obtain⟨w,r,rfl,q,b8⟩:=h;exact yA ds b8 (show r[i]?=J v from e)
theorem CA(f:aU):∀fs:List aU,f5 (fs++[f])=f5 fs+dt f
 |[]=>by show f5 [f]=f5 []+dt f;simp only[f5];lia
 |g::fs=>by show f5 (g::(fs++[f]))=_;rw[f5,CA f fs,f5];lia
def Xu{f:ag}{fd:i9}{d:Nat}{c:c9}(nb:dD mg)(F:dB K mg "_law_formed" BP ["_law_tree_here","_law_kept"] f fd)
  (rJ:kD K (c.b 0)) (sF:mg "Nothing"=J (.ref (c.b 0))) (rK:kD K (c.b 1)) (sG:mg "Truth"=J (.ref (c.b 1))) (rL:kD K (c.b 2)) (sH:mg "Whole"=J (.ref (c.b 2))) (rI:kD K (c.b 3)) (sE:mg "Fraction"=J (.ref (c.b 3)))
  (rO:gX P w K mg zn 1 "Span" c.s ["self","low","high"] (Rn c.s)) (rN:gX P w K mg zn 2 "Letters" c.l ["self","signs"] (QX c.l)) (l9:gX P w K mg zn 4 "Record" (c.t 0) ["self","parts"] (Rv (c.t 0))) (l8:gX P w K mg zn 4 "Choice" (c.t 1) ["self","cases"] (Rv (c.t 1)))
  (n6:gX P w K mg zn 1 "Maybe" (c.o 0) ["self","inner"] (Q7 (c.o 0))) (n5:gX P w K mg zn 1 "Many" (c.o 1) ["self","inner"] (Q7 (c.o 1))) (n7:gX P w K mg zn 1 "Turned" (c.o 2) ["self","inner"] (Q7 (c.o 2)))
  (xN:bf P w K mg zn (2*d+8) "_law_made" ["_law_tree_here","_law_kept"] (Q1 c d 0)):bf P w K mg zn (2*d+9) "_law_formed" ["_law_tree_here","_law_kept"] (Q1 c (d+1) 1):=by show_term
 refine F.eH xX (fun H vs Q E au h=>?_);obtain⟨oZ,dz,g,n,X,rfl,si,eN,cV,aF,bY,HR,ff,bj,q⟩:=h
 refine⟨_,(aO (yD (af 0) (qP I (iZ (d4 (i:=2) xX.br I (by exact Or.inl rfl)) (iZ (d4 (i:=3) xX.br I (by first|exact Or.inl rfl|exact Or.inr rfl)) (iZ (d4 (i:=4) xX.br I (by first|exact Or.inl rfl|exact Or.inr rfl)) qN)))))
  (aO (cq (bV dn (af 2) bu) (aL (aY (s4 rJ rfl sF))) cm)
  (aO (cq (bV dn (af 2) bu) (aL (aY (s4 rK rfl sG))) cm)
  (aO (cq (bV dn (af 2) bu) (aL (aY (s4 rL rfl sH))) cm)
  (aO (cq (bV dn (af 2) bu) (aL (aY (s4 rI rfl sE))) cm)
  (aO (cq (bV dn (af 2) bu) (aL (aY (kH rO au (ak (cI cJ (af 3) aH) (ak (cI cJ (af 3) aH) ay))))) cm)
  (aO (cq (bV dn (af 2) bu) (aL (aY (kH rN au (ak (af 3) ay)))) cm)
  (aO (b4 5 xX.br (iA ["_law_one"] [(1,"_law_kept")] rfl ⋯ ⟨rfl,.inl rfl,trivial⟩ (jw (af 4)) (d4 (i:=0) (show(["_law_one","_law_kept"]:List aa).Nodup by decide+kernel)) hW (b7 xN au (ak (af 0) (ak (af 1) ay)))))
  (aO (cq (bV dn (af 2) bu) (aL (aY (kH n6 au (ak (cI cJ (af 5) aH) ay)))) cm)
  (aO (cq (bV dn (af 2) bu) (aL (aY (kH n5 au (ak (cI cJ (af 5) aH) ay)))) cm)
  (aO (cq (bV dn (af 2) bu) (aL (aY (kH n7 au (ak (cI cJ (af 5) aH) ay)))) cm)
  (aO (cq (bV dn (af 2) bu) (aL (aY (kH l9 au (ak (iA ["_law_k"] [(3,"_law_extra"),(5,"_law_some")] rfl ⋯ ⟨rfl,.inl rfl,rfl,.inl rfl,trivial⟩ (nt rfl nb.mD (ak (c1 eh rfl nb.d5 ea (ak (af 5) ay)) ay)) (d4 (i:=0) (show(["_law_k","_law_extra","_law_some"]:List aa).Nodup by decide+kernel)) hW (gJ (ak (cI cJ (af 1) (af 0)) (ak (cI cJ (af 2) (af 0)) ay)))) ay)))) cm)
  (aL (aY (kH l8 au (ak (iA ["_law_k"] [(3,"_law_extra"),(5,"_law_some")] rfl ⋯ ⟨rfl,.inl rfl,rfl,.inl rfl,trivial⟩ (nt rfl nb.mD (ak (c1 eh rfl nb.d5 ea (ak (af 5) ay)) ay)) (d4 (i:=0) (show(["_law_k","_law_extra","_law_some"]:List aa).Nodup by decide+kernel)) hW (gJ (ak (cI cJ (af 1) (af 0)) (ak (cI cJ (af 2) (af 0)) ay)))) ay)))))))))))))))),?_⟩
 ac_rfl;obtain⟨aZ,iB,_⟩:=ff.e;obtain⟨ex,lP⟩:=CY g;have lj:=cV;rw[lP]at lj;obtain⟨T,du,l,hL,rfl,ec,aN,w7,fc,fW,aC⟩:=Hz lj;refine⟨_,I,T,_,I,dy ec,I,_,_,I,_,_,I,_,_,I,I,?_⟩;dsimp only[r5];by_cases jr:xc g=ao
 ·have aaT:=Ww jr;obtain⟨jR,iU,DX,vp⟩:=NC jr aF
  iterate 6 refine jk I (aaT _ ⋯) ?_
  have h1:hL.length=(iE g).length:=by rw[dw.len _ (cQ.at _ fW),tl]
  refine .inl ⟨_,I,l,I,⟨_,bp fc⟩,fun D b2=>?_⟩;have OT:dz≠D:=fun z=>by rw[<-z,iB]at b2;cases b2
  refine Cm (K:=K) (a:=l) (xs:=hL) (fun i aw az=>cY dz H az/\∃os:List ag,aw=os.map V.ref/\d0 c (D::X) az ((iE g).take i) os/\l7 c (D::X) dz az (n+f5 ((iE g).take i))) (fun ab=>∃d6,ab=[d6,J (.ref dz)]) (by lia) ⟨_,I⟩ ?_ ?_ ?_ ?_
  ·rintro i aw az ⟨M2,_⟩;exact bp (M2.k _ _ (fun z=>w7 (by rw[z];exact si)) fc)
  ·have iI:=Ext.lst (xs:=[]) b2;exact⟨⟨fun b u _ e=>iI.s b u e,iI.c⟩,[],I,I,((ff.add b2).keep (fun b u _ e=>iI.s b u e) (by rw[iI.s _ _ iB,iB])).le (Nat.le_add_right _ _)⟩
  ·rintro i x av aw b0 H1 ⟨d6,rfl⟩ ⟨hb,os,rfl,oz,Dq⟩ g6 ju R cL;obtain⟨pN,q2,hd⟩:=yA _ fW av;obtain⟨g1,bh,rfl⟩:=uK q2;obtain⟨qi,oA⟩:=tg jR bh;obtain⟨wI,N1,_⟩:=Dq.e;have Dw:ni (D::X) H1:=(eN.eX hb N1).add g6;have wK:(iE g).take (i+1)=(iE g).take i++[g1]:=by rw[mf,bh];rfl
   have wJ:f5 ((iE g).take (i+1))=f5 ((iE g).take i)+dt g1:=by rw[wK,CA]
   have hle:f5 ((iE g).take (i+1))<=f5 (iE g):=Cz _ (i+1);refine⟨_,I,_,I,x,dz,g1,n+f5 ((iE g).take i),D::X,I,d9 _ si,Dw,cg.eX (d9 _ si) hb (cg.add b2 _ hd),qi,by lia,by lia,Dq,by lia,fun o b5 kC Oy acE=>?_⟩;obtain⟨akx,akv,_⟩:=Oy.e;have uX:b5 D=J (.lst (os.map V.ref)):=kC.k _ _ (fJ OT) g6;have ck:∀b u,b∉D::X->b5 b=J u->upd b5 D (.lst (os.map V.ref++[V.ref o])) b=J u:=fun b u nb e=>by rw[bx (fun z=>nb (by rw[z];exact g0 ..))];exact e
   have oI:∀b u,b∉D::X->H1 b=J u->b5 b=J u:=fun b u nb e=>kC.k b u (fun z=>nb (by rw[z];exact d9 _ si)) e;refine cL _ _ _ ⟨_,I⟩ uX ⟨⟨fun b u nb e=>?_,fun cl=>ur uX (kC.c (hb.c cl))⟩,os++[o],by rw[fR];rfl,?_,?_⟩
   ·rw[bx (hz e b2)];exact kC.k b u nb (hb.k b u nb e)
   ·rw[wK];exact d0.snoc (bG.keep ck _ acE) _ (d0.keep ck _ (d0.keep oI _ oz))
   ·rw[wJ,<-Nat.add_assoc];exact Oy.keep ck (by rw[bx OT])
  rintro aw H' ju iC ⟨n3,os,rfl,oz,r9⟩;rw[h1,UV (cR _)]at oz r9
  replace oz:=d0.weak (fun x av=>d9 D av) _ oz
  replace r9:=r9.weak
  obtain⟨yQ,kL,_⟩:=r9.e;have y1:=eN.eX n3 kL;have m4:=d0.len _ oz;dsimp only[r5];clear fW h1 lP lj aC;cases g with
  | one k g1 =>
   obtain⟨o,_,rfl,bQ,rfl⟩:=oz;obtain⟨eU,gL⟩:∃eU,eU=c.o k:=⟨_,rfl⟩;dsimp only[gw];rcases pT k with rfl|rfl|rfl
   ·skip;refine kc I fun N=>⟨_,I,xz iC (dF (j:=0) I) ?_⟩;rw[<-gL];intro x ah ai aj ep;refine⟨x,ah,o,I,aB,I,?_⟩;rw[eS];have E:=Ext.made (C:=eU) (fs:=[("inner",V.ref o)]) ai aj ep;exact⟨_,(n3.ext E).sub (E.s _ _ kL),q _ _ (n3.ext E) ((r9.keep (fun b u _ e=>E.s b u e) (by rw[E.s _ _ kL,kL])).le (by lia)) ⟨y1.no ai,ah,o,by rw[<-gL];exact aB,bG.keep (fun b u _ e=>E.s b u e) g1 bQ⟩⟩
   ·skip;refine jk I ⋯ ?_;refine kc I fun N=>⟨_,I,xz iC (dF (j:=0) I) ?_⟩;rw[<-gL];intro x ah ai aj ep;refine⟨x,ah,o,I,aB,I,?_⟩;rw[eS];have E:=Ext.made (C:=eU) (fs:=[("inner",V.ref o)]) ai aj ep;exact⟨_,(n3.ext E).sub (E.s _ _ kL),q _ _ (n3.ext E) ((r9.keep (fun b u _ e=>E.s b u e) (by rw[E.s _ _ kL,kL])).le (by lia)) ⟨y1.no ai,ah,o,by rw[<-gL];exact aB,bG.keep (fun b u _ e=>E.s b u e) g1 bQ⟩⟩
   ·skip
    iterate 2 refine jk I ⋯ ?_
    refine kc I fun N=>⟨_,I,xz iC (dF (j:=0) I) ?_⟩;rw[<-gL];intro x ah ai aj ep;refine⟨x,ah,o,I,aB,I,?_⟩;rw[eS];have E:=Ext.made (C:=eU) (fs:=[("inner",V.ref o)]) ai aj ep;exact⟨_,(n3.ext E).sub (E.s _ _ kL),q _ _ (n3.ext E) ((r9.keep (fun b u _ e=>E.s b u e) (by rw[E.s _ _ kL,kL])).le (by lia)) ⟨y1.no ai,ah,o,by rw[<-gL];exact aB,bG.keep (fun b u _ e=>E.s b u e) g1 bQ⟩⟩
  | two k ns fs =>
   rw[dY]at aF;obtain⟨eA,gF,_⟩:=aF;have oB:=jf eA;rw[dA]at cV;obtain⟨wc,_,aQ,_,pQ,⟨_,_,rfl,⟨rfl,_⟩,_,_,rfl,⟨a,xm,rfl,H6,cD,fV,_⟩,_⟩,_⟩:=cV;obtain rfl:=V.ref.inj aQ;obtain rfl:du=.ref a:=by rw[ec]at pQ;simp at pQ;exact pQ.2.1
   obtain rfl:=yn (cQ.at _ fV);have Dd:=n3.k _ _ (fun z=>H6 (by rw[z];exact si)) cD;have m4:os.length=fs.length:=m4;have vp:fs.length<=20:=vp;have u7:hL.length<=20:=by rw[<-ju,cd];lia
   obtain⟨eU,gL⟩:∃eU,eU=c.t k:=⟨_,rfl⟩;dsimp only[gw];rcases mX k with rfl|rfl
   ·skip
    iterate 3 refine jk I ⋯ ?_
    refine kc I fun N=>?_;rw[<-gL];refine⟨_,I,_,_,I,.inl ⟨_,bp iC,I⟩,_,I,by lia,by lia,fun hv mw=>?_⟩;rw[show((((os.map V.ref).length:Nat):Int)).toNat=os.length by rw[cd];lia];refine M0 os.length (fun i =>.int (0+((i:Nat):Int))) (fun i aw az=>Ext H' az/\∃aJ:List (ag×aa×ag),aw=aJ.map (fun x=>V.ref x.1)/\fv aJ=ns.take i/\hj aJ=os.take i/\∀x,x∈aJ->x.1≠hv/\az x.1=J (.tup [.str x.2.1,.ref x.2.2])) (fun ab=>∃z,ab=[z,J (.ref a),J (.ref D)]) (by lia) ⟨_,I⟩ (fun i H aG=>aG) (fun H=>cR _) (fun i H x H' aG h=>⟨h.1,h.2⟩) ⟨Ext.lst mw,[],I,I,I,fun x av=>nomatch av⟩ ?_ ?_
    ·rintro i aG aw b0 H1 ⟨z,rfl⟩ ⟨eV,aJ,rfl,tM,q4,q8⟩ km ju R cL;have nz:i<ns.length:=by lia
     refine⟨_,I,_,I,xz (eV.s _ _ Dd) (by rw[Int.zero_add];exact dF (by rw[eJ,cw nz];rfl)) ⟨_,I,_,I,xz (eV.s _ _ iC) (by rw[Int.zero_add];exact dF (by rw[eJ,cw aG];rfl)) ⟨hH,fun jF iD=>?_⟩⟩⟩;have eP:=Ext.tup (xs:=[V.str ns[i],.ref os[i]]) iD;have yZ:jF≠hv:=fun z=>by rw[z,km]at iD;cases iD
     refine cL _ _ _ ⟨_,I⟩ (eP.s _ _ km) ⟨(eV.trans eP).set mw (eP.s _ _ km),aJ++[(jF,ns[i],os[i])],by rw[fR];rfl,?_,?_,fun y ba=>?_⟩
     ·unfold fv at tM ⊢;rw[fR,tM,mf,cw nz];rfl
     ·unfold hj at q4 ⊢;rw[fR,q4,mf,cw aG];rfl
     ·rcases List.mem_append.mp ba with z|z
      ·obtain⟨jo,gm⟩:=q8 y z;exact⟨jo,by rw[bx jo];exact eP.s _ _ gm⟩
      ·rw[eB.mp z];exact⟨yZ,by show upd _ hv _ jF=_;rw[bx yZ,aB]⟩
    rintro aw az ju HW ⟨eV,aJ,rfl,h0,jP,q8⟩;rw[UV (by lia)]at h0;rw[UV (cR _)]at jP;rw[cd]at ju;have dX:Parts az hv aJ:=⟨HW,fun x av=>(q8 x av).2,by lia,fun x av=>c5 (oB.2 _ (by rw[<-h0];exact List.mem_map.mpr ⟨x,av,I⟩)) (by decide)⟩;intro y ah ba kn hB;have eP:=Ext.made (C:=eU) (fs:=[]) ba kn hB;refine⟨y,ah,hv,aJ,I,aB,dX.same eP.s,by rw[h0];exact eA,fun bJ bZ ai aj ep=>⟨I,?_⟩⟩;have dc:bJ≠y:=fun z=>by rw[z,aB]at ai;cases ai
    have dm:bZ≠y:=fun z=>by rw[z,aB]at aj;cases aj
    rw[oc dm,oc dc,eS];have gy:=Ext.made (C:=eU) (fs:=k0 bJ bZ) ba kn hB;have g1:upd (upd az ah (.own y)) y (.ins eU ah (k0 bJ bZ)) bJ=aA:=by rw[bx dc]at ai ⊢;exact ai
    have fH:=Ext.lst (xs:=(fv aJ).map V.str) g1;have g2:upd (upd (upd az ah (.own y)) y (.ins eU ah (k0 bJ bZ))) bJ (.lst ((fv aJ).map V.str)) bZ=aA:=by rw[bx (fJ ep)];rw[bx dm]at aj ⊢;exact aj
    have ji:=Ext.lst (xs:=(hj aJ).map V.ref) g2;have E:=eV.trans ((gy.trans fH).trans ji);have lT:=y1.ext eV.s;exact⟨_,(n3.ext E).sub (E.s _ _ kL),q _ _ (n3.ext E) ((r9.keep (fun b u _ e=>E.s b u e) (by rw[E.s _ _ kL,kL])).le (by lia)) ⟨lT.no ba,ah,bJ,bZ,os,by rw[<-gL];exact(fH.trans ji).s _ _ aB,lT.no (gy.s.free g1),lT.no ((gy.trans fH).s.free g2),by rw[<-h0];exact ji.s _ _ aB,by rw[<-jP];exact aB,d0.keep (fun b u _ e=>E.s b u e) _ oz⟩⟩
   ·skip
    iterate 4 refine jk I ⋯ ?_
    rw[<-gL];refine⟨_,I,_,_,I,.inl ⟨_,bp iC,I⟩,_,I,by lia,by lia,fun hv mw=>?_⟩;rw[show((((os.map V.ref).length:Nat):Int)).toNat=os.length by rw[cd];lia];refine M0 os.length (fun i =>.int (0+((i:Nat):Int))) (fun i aw az=>Ext H' az/\∃aJ:List (ag×aa×ag),aw=aJ.map (fun x=>V.ref x.1)/\fv aJ=ns.take i/\hj aJ=os.take i/\∀x,x∈aJ->x.1≠hv/\az x.1=J (.tup [.str x.2.1,.ref x.2.2])) (fun ab=>∃z,ab=[z,J (.ref a),J (.ref D)]) (by lia) ⟨_,I⟩ (fun i H aG=>aG) (fun H=>cR _) (fun i H x H' aG h=>⟨h.1,h.2⟩) ⟨Ext.lst mw,[],I,I,I,fun x av=>nomatch av⟩ ?_ ?_
    ·rintro i aG aw b0 H1 ⟨z,rfl⟩ ⟨eV,aJ,rfl,tM,q4,q8⟩ km ju R cL;have nz:i<ns.length:=by lia
     refine⟨_,I,_,I,xz (eV.s _ _ Dd) (by rw[Int.zero_add];exact dF (by rw[eJ,cw nz];rfl)) ⟨_,I,_,I,xz (eV.s _ _ iC) (by rw[Int.zero_add];exact dF (by rw[eJ,cw aG];rfl)) ⟨hH,fun jF iD=>?_⟩⟩⟩;have eP:=Ext.tup (xs:=[V.str ns[i],.ref os[i]]) iD;have yZ:jF≠hv:=fun z=>by rw[z,km]at iD;cases iD
     refine cL _ _ _ ⟨_,I⟩ (eP.s _ _ km) ⟨(eV.trans eP).set mw (eP.s _ _ km),aJ++[(jF,ns[i],os[i])],by rw[fR];rfl,?_,?_,fun y ba=>?_⟩
     ·unfold fv at tM ⊢;rw[fR,tM,mf,cw nz];rfl
     ·unfold hj at q4 ⊢;rw[fR,q4,mf,cw aG];rfl
     ·rcases List.mem_append.mp ba with z|z
      ·obtain⟨jo,gm⟩:=q8 y z;exact⟨jo,by rw[bx jo];exact eP.s _ _ gm⟩
      ·rw[eB.mp z];exact⟨yZ,by show upd _ hv _ jF=_;rw[bx yZ,aB]⟩
    rintro aw az ju HW ⟨eV,aJ,rfl,h0,jP,q8⟩;rw[UV (by lia)]at h0;rw[UV (cR _)]at jP;rw[cd]at ju;have dX:Parts az hv aJ:=⟨HW,fun x av=>(q8 x av).2,by lia,fun x av=>c5 (oB.2 _ (by rw[<-h0];exact List.mem_map.mpr ⟨x,av,I⟩)) (by decide)⟩;intro y ah ba kn hB;have eP:=Ext.made (C:=eU) (fs:=[]) ba kn hB;refine⟨y,ah,hv,aJ,I,aB,dX.same eP.s,by rw[h0];exact eA,fun bJ bZ ai aj ep=>⟨I,?_⟩⟩;have dc:bJ≠y:=fun z=>by rw[z,aB]at ai;cases ai
    have dm:bZ≠y:=fun z=>by rw[z,aB]at aj;cases aj
    rw[oc dm,oc dc,eS];have gy:=Ext.made (C:=eU) (fs:=k0 bJ bZ) ba kn hB;have g1:upd (upd az ah (.own y)) y (.ins eU ah (k0 bJ bZ)) bJ=aA:=by rw[bx dc]at ai ⊢;exact ai
    have fH:=Ext.lst (xs:=(fv aJ).map V.str) g1;have g2:upd (upd (upd az ah (.own y)) y (.ins eU ah (k0 bJ bZ))) bJ (.lst ((fv aJ).map V.str)) bZ=aA:=by rw[bx (fJ ep)];rw[bx dm]at aj ⊢;exact aj
    have ji:=Ext.lst (xs:=(hj aJ).map V.ref) g2;have E:=eV.trans ((gy.trans fH).trans ji);have lT:=y1.ext eV.s;exact⟨_,(n3.ext E).sub (E.s _ _ kL),q _ _ (n3.ext E) ((r9.keep (fun b u _ e=>E.s b u e) (by rw[E.s _ _ kL,kL])).le (by lia)) ⟨lT.no ba,ah,bJ,bZ,os,by rw[<-gL];exact(fH.trans ji).s _ _ aB,lT.no (gy.s.free g1),lT.no ((gy.trans fH).s.free g2),by rw[<-h0];exact ji.s _ _ aB,by rw[<-jP];exact aB,d0.keep (fun b u _ e=>E.s b u e) _ oz⟩⟩
  |_=>cases jr
 cases g with
 | bare k =>
  dsimp only[gw];obtain⟨eU,gL⟩:∃eU,eU=c.b k:=⟨_,rfl⟩;rcases qU k with rfl|rfl|rfl|rfl
  ·skip;refine kc I fun N=>?_;rw[<-gL];intro x ah ai aj ep;have E:=Ext.made (C:=eU) (fs:=[]) ai aj ep;exact⟨_,E.sub,q _ _ ⟨fun b u _ e=>E.s b u e,E.c⟩ ((ff.keep (fun b u _ e=>E.s b u e) (by rw[E.s _ _ iB,iB])).le (by rw[dt];lia)) ⟨eN.no ai,ah,by rw[<-gL];exact aB⟩⟩
  ·skip
   iterate 1 refine jk I ⋯ ?_
   refine kc I fun N=>?_;rw[<-gL];intro x ah ai aj ep;have E:=Ext.made (C:=eU) (fs:=[]) ai aj ep;exact⟨_,E.sub,q _ _ ⟨fun b u _ e=>E.s b u e,E.c⟩ ((ff.keep (fun b u _ e=>E.s b u e) (by rw[E.s _ _ iB,iB])).le (by rw[dt];lia)) ⟨eN.no ai,ah,by rw[<-gL];exact aB⟩⟩
  ·skip
   iterate 2 refine jk I ⋯ ?_
   refine kc I fun N=>?_;rw[<-gL];intro x ah ai aj ep;have E:=Ext.made (C:=eU) (fs:=[]) ai aj ep;exact⟨_,E.sub,q _ _ ⟨fun b u _ e=>E.s b u e,E.c⟩ ((ff.keep (fun b u _ e=>E.s b u e) (by rw[E.s _ _ iB,iB])).le (by rw[dt];lia)) ⟨eN.no ai,ah,by rw[<-gL];exact aB⟩⟩
  ·skip
   iterate 3 refine jk I ⋯ ?_
   refine kc I fun N=>?_;rw[<-gL];intro x ah ai aj ep;have E:=Ext.made (C:=eU) (fs:=[]) ai aj ep;exact⟨_,E.sub,q _ _ ⟨fun b u _ e=>E.s b u e,E.c⟩ ((ff.keep (fun b u _ e=>E.s b u e) (by rw[E.s _ _ iB,iB])).le (by rw[dt];lia)) ⟨eN.no ai,ah,by rw[<-gL];exact aB⟩⟩
 |sp lo aG =>
  rw[dY]at aF;rw[dA]at cV;obtain⟨wc,_,aQ,_,pQ,⟨_,_,rfl,⟨rfl,_⟩,_,_,rfl,⟨a,_,rfl,_,cD,⟨_,_,rfl,rfl,_,_,rfl,rfl,rfl⟩,_⟩,_⟩,_⟩:=cV;obtain rfl:=V.ref.inj aQ;obtain rfl:du=.ref a:=by rw[ec]at pQ;simp at pQ;exact pQ.2.1
  dsimp only[gw]
  iterate 4 refine jk I ⋯ ?_
  refine kc I fun N=>⟨_,I,xz cD (dF (j:=0) I) ⟨_,I,xz cD (dF (j:=1) I) ?_⟩⟩;intro x ah ai aj ep;refine⟨x,ah,lo,aG,I,aB,aF.1,I,?_⟩;rw[eS];have E:=Ext.made (C:=c.s) (fs:=Jz lo aG) ai aj ep;exact⟨_,E.sub,q _ _ ⟨fun b u _ e=>E.s b u e,E.c⟩ ((ff.keep (fun b u _ e=>E.s b u e) (by rw[E.s _ _ iB,iB])).le (by rw[dt];lia)) ⟨eN.no ai,ah,aB⟩⟩
 |le bK =>
  rw[dY]at aF;rw[dA]at cV;obtain⟨wc,_,aQ,_,pQ,⟨_,_,rfl,⟨rfl,_⟩,_,_,rfl,⟨rfl,_⟩,_⟩,_⟩:=cV;obtain rfl:=V.ref.inj aQ;obtain rfl:du=.str bK:=by rw[ec]at pQ;simp at pQ;exact pQ.2.1
  dsimp only[gw]
  iterate 5 refine jk I ⋯ ?_
  refine kc I fun N=>⟨_,I,?_⟩;intro x ah ai aj ep;refine⟨x,ah,bK,I,aB,by lia,aF.1,rfl,?_⟩;rw[eS];have E:=Ext.made (C:=c.l) (fs:=I0 bK) ai aj ep;exact⟨_,E.sub,q _ _ ⟨fun b u _ e=>E.s b u e,E.c⟩ ((ff.keep (fun b u _ e=>E.s b u e) (by rw[E.s _ _ iB,iB])).le (by rw[dt];lia)) ⟨eN.no ai,ah,aB⟩⟩
 |one k g=>exact absurd I jr
 |two k ns fs=>exact absurd I jr
theorem Lz{f wM:ag}{fd abU:i9}{c:c9}(nb:dD mg)(F:dB K mg "_law_formed" BP ["_law_tree_here","_law_kept"] f fd)(E2:dB K mg "_law_made" Ce ["_law_tree_here","_law_kept"] wM abU)
  (rJ:kD K (c.b 0)) (sF:mg "Nothing"=J (.ref (c.b 0))) (rK:kD K (c.b 1)) (sG:mg "Truth"=J (.ref (c.b 1))) (rL:kD K (c.b 2)) (sH:mg "Whole"=J (.ref (c.b 2))) (rI:kD K (c.b 3)) (sE:mg "Fraction"=J (.ref (c.b 3)))
  (rO:gX P w K mg zn 1 "Span" c.s ["self","low","high"] (Rn c.s)) (rN:gX P w K mg zn 2 "Letters" c.l ["self","signs"] (QX c.l)) (l9:gX P w K mg zn 4 "Record" (c.t 0) ["self","parts"] (Rv (c.t 0))) (l8:gX P w K mg zn 4 "Choice" (c.t 1) ["self","cases"] (Rv (c.t 1)))
  (n6:gX P w K mg zn 1 "Maybe" (c.o 0) ["self","inner"] (Q7 (c.o 0))) (n5:gX P w K mg zn 1 "Many" (c.o 1) ["self","inner"] (Q7 (c.o 1))) (n7:gX P w K mg zn 1 "Turned" (c.o 2) ["self","inner"] (Q7 (c.o 2))):∀d,bf P w K mg zn (2*d+8) "_law_made" ["_law_tree_here","_law_kept"] (Q1 c d 0)
 |0=>bf.none E2 fun vs H Q E z=>by obtain⟨_,_,g,_,_,_,_,_,_,_,h,_⟩:=z;have:=oh g;lia
 |d+1=>Yq E2 (Xu nb F rJ sF rK sG rL sH rI sE rO rN l9 l8 n6 n5 n7 (Lz nb F E2 rJ sF rK sG rL sH rI sE rO rN l9 l8 n6 n5 n7 d))
def Nc{n:Nat}{s:aa}(h:hM s mL=ao)(aC:s.length<=n):(reprText s).length<=10*n+2:=by
 have hs:∀c∈mL.cps.toList,c<16^8:=⋯;unfold hM at h;have:=PySem.StrLaws.reprText_len s fun c hc=>hs c (hT (hy.mp h c hc));lia
def M6{i:Int}(h:i.natAbs<2^60):(gS i).length<=80:=by
 have key:∀n:Nat,n<2^60->(cnt n).length<=79:=fun n bj=>by
  have ai:=GC (n:=n) (fz (Nat.succ_lt_succ bj) (by decide));have aj:=ki (n:=n+1) (w:=61) (fz (Nat.succ_lt_succ bj) (by decide));lia
 unfold gS;split
 .rw[dW,cd];exact Nat.succ_le_succ (key _ (by lia))
 .rw[dW];exact Nat.succ_le_succ (key _ (by lia))
structure hf(X:List ag)(H:aq)(f:aU)(d:D)(v:V)(m:Nat):Prop where
 x:cg X H d v
 b:b1 dh f d=ao
 r:(bO en f d).length<=m
 s:(ip d).showable=ao
 l:(jx d).length<=m
 h:fK d<=aP f+1
def yF{i:Int}(h:i.natAbs<10^58):(ip (.int i)).showable=ao/\(jx (.int i)).length<=59:=⟨eK (yi (Nat.lt_trans h ⋯)),vZ (by decide) h⟩
def Hj{p q:Int}{l:List Int}(e:gp p q=p/q::l)(aC:(more l).length<=80)(bb:0<q)(bl:q<=7)(aX:p.natAbs<=7003)(bh:Int.gcd p q=1)(bW:T∉X)(ec:H T=J (.tup [.int p,.int q])):hf X H (.bare 3) (.tup [.int p,.int q]) (.ref T) 200:=by
 have dC:=yF (i:=p) (Nat.lt_of_le_of_lt aX ⋯);have df:=yF (i:=q) (Nat.lt_of_le_of_lt (show q.natAbs<=7003 by lia) ⋯);refine⟨⟨T,_,I,bW,ec,⟨_,_,I,I,_,_,I,I,I⟩,(by show 2<=1000;decide)⟩,?_,?_,?_,?_,by simp only[fK,gb,aP];lia⟩
 ·rw[rV];exact eK ⟨bb,bh,c5 aX ⋯,by have:(7:Int)<=10^38:=⋯;lia⟩
 ·have lO:bO en (.bare 3) (.tup [.int p,.int q])=lg (gp p q):=by rw[bO];rfl
  rw[lO];rw[e];show(gS (p/q)++more l).length<=200
  have ai:(p/q).natAbs<=7003:=by
   have a2:=Int.natAbs_ediv_le_natAbs p q;lia
  have:=M6 (Nat.lt_of_le_of_lt ai (by decide));rw[bE];lia
 .rw[ip,hP,hP,hP,PyData.showable,PyData.showableAll,PyData.showableAll,PyData.showableAll,dC.1,df.1];rfl
 ·have:=tupleText_len_le [jx (.int p),jx (.int q)];show(tupleText [jx (.int p),jx (.int q)]).length<=200;simp only[gI,List.map_nil,List.sum_cons,List.sum_nil,dW,List.length_nil]at this;lia
theorem Np{l:List Nat}:∀(aw:List V),(∀y∈aw,∃c,c∈l/\y=.str ⟨#[c]⟩)->∃cs:List Nat,aw=(cs.map fun c=>(⟨#[c]⟩:aa)).map V.str/\cs.length=aw.length/\∀c∈cs,c∈l
 |[],_=>⟨[],rfl,rfl,fun c h=>nomatch h⟩
 |y::r,h=>by
  obtain⟨c,hc,rfl⟩:=h y (g0 ..);obtain⟨cs,rfl,e,q⟩:=Np r fun z bX=>h z (d9 _ bX);exact⟨c::cs,I,by rw[dW,dW,e],fun x av=>(dJ.mp av).elim (fun z=>z ▸ hc) (q x)⟩
noncomputable def N8(H:aq)(du:V):aU->Prop
 |.sp a b=>∃l,du=.ref l/\H l=J (.lst [.int a,.int b])
 |.le s=>du=.str s
 |_=>True
inductive Rh(vs:List V)(H:aq)(Q:bI)(E:cP):Prop where
 |mk (g:aU) (du:V) (c:Int) (X:List ag) (bb:vs=[.str (gw g),du,.int c]) (ai:xc g=aI) (aj:dY g) (bt:N8 H du g) (cf:k4 X H) (eF:∀v d H',Ext H H'->hf X H' g d v 200->Q v H')
def WR(nb:dD mg)(F:dB K mg "_law_simple_value" Fi ["_law_word","_law_extra","_law_number"] f fd):bf P w K mg zn 1 "_law_simple_value" ["_law_word","_law_extra","_law_number"] Rh:=by show_term
 refine F.eH E8 (fun H vs Q E au h=>?_);obtain⟨g,du,c,X,rfl,jr,aF,hex,eN,q⟩:=h
 refine⟨_,(aO (cq (bV dn (af 0) bu) (aL (aY yE)) cm)
  (aO (cq (bV dn (af 0) bu) (aL (aY (g4 dn (aM eu (af 2) aH) aH))) cm)
  (aO (cq (bV dn (af 0) bu) (aO (b4 3 E8.br (cI cJ (e0 (ak aH (ak aH (ak (aM wx aH aH) ay)))) (aM eu (af 2) aH)))
   (aL (aY (aM hq (aM eu (aM ih (af 2) aH) (aM cv (aM kX aH (af 3)) aH)) (af 3))))) cm)
  (aO (cq (bV dn (af 0) bu) (aL (aY (aM cv (cI cJ (af 1) aH) (aM eu (aM cv (af 2) (aM kX (aM eu (af 2) aH) (aM wx aH aH))) (aM cv (aM hq (cI cJ (af 1) aH) (cI cJ (af 1) aH)) aH))))) cm)
  (aO (cq (bV dn (af 0) bu) (aO (b4 4 E8.br (e0 (ak (gJ (ak (aM hq (aM eu (af 2) aH) aH) (ak aH ay))) (ak (gJ (ak (aM hq (aM kX aH (aM eu (af 2) aH)) aH) (ak aH ay))) (ak (gJ (ak (aM cv (aM kX aH (aM eu (af 2) aH)) aH) (ak aH ay))) ay)))))
   (aL (aY (cI cJ (af 4) (aM eu (aM ih (af 2) aH) aH))))) cm)
  (aL (aY (h6 PySem.F.plainAttrs_str PySem.F.slot_str_join PySem.F.type_str_join rW bu (ak (iA ["_law_k"] [(1,"_law_extra"),(2,"_law_number")] rfl ⋯ ⟨rfl,.inl rfl,rfl,.inl rfl,trivial⟩ (nt rfl nb.mD (ak (aM eu (aM ih (af 2) aH) aH) ay)) (d4 (i:=0) (show(["_law_k","_law_extra","_law_number"]:List aa).Nodup by decide+kernel)) hW (cI cJ (af 1) (aM eu (aM ih (af 2) (aM cv (af 0) aH)) (c1 eh rfl nb.d5 ea (ak (af 1) ay))))) ay))))))))),?_⟩
 ac_rfl;cases g with
 | bare k =>
  dsimp only[gw];rcases qU k with rfl|rfl|rfl|rfl
  .refine kc I fun N=>⟨H,.refl (cK _),q _ .bM H (Ext.refl H) ⟨I,by rw[rV];rfl,by rw[bO];exact UF _,I,by decide,by decide⟩⟩
  ·have al:∀b,(bO en (.bare 1) (.aS b)).length<=200/\(jx (.aS b)).length<=200:=fun b=>⟨by rw[bO];show 1<=200;decide,by cases b<;>decide⟩;exact jk I ⋯ (kc I fun N=>⟨_,I,_,_,I,I,(by show(0:Int)<2;decide),I,H,.refl (cK _),q _ (.aS _) H (Ext.refl H) ⟨I,by rw[rV];rfl,(al _).1,rfl,(al _).2,by simp only[fK];decide⟩⟩)
  ·iterate 2 refine jk I ⋯ ?_
   refine kc I fun N=>⟨_,_,I,I,⟨by decide,by decide,by decide⟩,(by show 3<=cp;decide),fun L i1=>⟨_,rfl,_,_,rfl,rfl,(by show(0:Int)<3;decide),?_⟩⟩;obtain⟨x,av,lQ⟩:=i0 c 3 (by decide);have ex:c%3=((x:Nat):Int):=lQ
   obtain⟨tB,akS,oA,cD⟩:∃tB:Int,10<=tB/\tB<=10^12/\e9 [V.int 10,.int 1000,.int (10^Int.toNat 12)] (c%3)=J (.int tB):=by
    rw[ex];have:x=0\/x=1\/x=2:=by lia
    rcases this with rfl|rfl|rfl
    .exact⟨10,by decide,by decide,rfl⟩
    .exact⟨1000,by decide,by decide,rfl⟩
    .exact⟨10^12,by decide,by decide,rfl⟩
   refine (xz aB cD ?_);refine⟨_,I,_,_,I,I,⟨by decide,by decide⟩,_,rfl,.inl ⟨_,_,rfl,rfl,.inl ⟨by decide,by decide⟩,.inl ⟨_,_,rfl,rfl,_,_,rfl,rfl,(by lia),_,rfl,_,_,rfl,rfl,?_⟩⟩⟩;have jo:=jX (c/3) (b:=2*tB+1) (by lia);have gm:=jW (c/3) (b:=2*tB+1) (by lia);have bi:(c/3%(2*tB+1)-tB).natAbs<=10^12:=by lia
   have eV:=Ext.lst (xs:=[V.int 10,.int 1000,.int (10^Int.toNat 12)]) i1;have dC:=yF (Nat.lt_of_le_of_lt bi ⋯);refine⟨_,eV.sub,q _ (.int _) _ eV ⟨I,?_,?_,dC.1,c5 dC.2 (by decide),by simp only[fK];lia⟩⟩
   ·rw[rV];exact eK ⟨by lia,by lia⟩
   ·have lO:∀i,bO en (.bare 2) (.int i)=gS i:=fun i=>by rw[bO];rfl
    rw[lO];exact c5 (M6 (Nat.lt_of_le_of_lt bi (by decide))) (by decide)
  ·iterate 4 refine jk I ⋯ ?_
   refine kc I fun N=>⟨_,I,_,_,I,I,(by show(0:Int)<9;decide),_,_,I,I,hH,fun gN ai=>⟨_,I,_,_,I,I,(by show(0:Int)<99;decide),.inl ⟨_,_,I,I,.inl ⟨by decide,by decide⟩,_,_,rfl,rfl,hH,fun jF aj=>⟨_,rfl,_,_,rfl,rfl,(by show(0:Int)<1000;decide),.inl ⟨_,_,rfl,rfl,.inl ⟨by decide,by decide⟩,.inl ⟨_,_,rfl,rfl,hH,fun x6 bt=>⟨(by show 3<=cp;decide),fun L i1=>⟨_,rfl,_,rfl,_,_,rfl,rfl,⟨by decide,by decide⟩,_,_,rfl,rfl,(by show(0:Int)<3;decide),?_⟩⟩⟩⟩⟩⟩⟩⟩;obtain⟨x,av,lQ⟩:=i0 (c/3) 3 (by decide);have ex:c/3%3=((x:Nat):Int):=lQ;have eV:=Ext.tup (xs:=[V.int (c%9-4),.int 1]) ai;have eP:=Ext.tup (xs:=[V.int (2*(c%99)-99),.int 2]) aj;have ib:=Ext.tup (xs:=[V.int (7*(c%1000)+3),.int 7]) bt;have f7:=Ext.lst (xs:=[V.ref gN,.ref jF,.ref x6]) i1;have E:=((eV.trans eP).trans ib).trans f7;have mh:=eN.keep eV.s;have iM:=mh.keep eP.s;dsimp only;rw[ex];obtain⟨a1,akG,abd⟩:=i0 c 9 (by decide);obtain⟨a2,acR,abe⟩:=i0 c 99 (by decide);obtain⟨a3,acS,abg⟩:=i0 c 1000 (by decide);have tw:c%9=((a1:Nat):Int):=abd;have hY:c%99=((a2:Nat):Int):=abe;have abf:c%1000=((a3:Nat):Int):=abg;have:x=0\/x=1\/x=2:=by lia
   rcases this with rfl|rfl|rfl
   ·refine (xz aB (dF (j:=0) I) ⟨_,E.sub,q _ _ _ E (Hj (l:=[]) ?_ (by decide) (by decide) (by decide) (by lia) ?_ (eN.fX ai) (((eP.trans ib).trans f7).s _ _ aB))⟩)
    .rw[lH (by decide),Int.emod_one,qE]
    .exact Int.gcd_one ..
   ·refine (xz aB (dF (j:=1) I) ⟨_,E.sub,q _ _ _ E (Hj (l:=[2]) ?_ (by decide) (by decide) (by decide) (by lia) ?_ (mh.fX aj) ((ib.trans f7).s _ _ aB))⟩)
    .rw[lH (by decide),show(2*(c%99)-99)%2=1 by lia,lH (by decide),show(2:Int)%1=0 from rfl,qE];rfl
    ·have:∀y:Fin 99,Int.gcd (2*((y.1:Nat):Int)-99) 2=1:=⋯;rw[hY];exact this ⟨a2,acR⟩
   ·refine (xz aB (dF (j:=2) I) ⟨_,E.sub,q _ _ _ E (Hj (l:=[2,3]) ?_ (by decide) (by decide) (by decide) (by lia) ?_ (iM.fX bt) (f7.s _ _ aB))⟩)
    .rw[lH (by decide),show(7*(c%1000)+3)%7=3 by lia,lH (by decide),show(7:Int)%3=1 from rfl,lH (by decide),show(3:Int)%1=0 from rfl,qE];rfl
    ·have:∀y:Fin 1000,Int.gcd (7*((y.1:Nat):Int)+3) 7=1:=⋯;rw[abf];exact this ⟨a3,acS⟩
 |sp lo aG =>
  dsimp only[gw];rw[dY]at aF;obtain⟨hle,sg,u7,za⟩:=aF;obtain⟨l,rfl,fc⟩:=hex;have a0:e9 [V.int lo,V.int aG] 0=J (.int lo):=dF (j:=0) rfl;have a1:e9 [V.int lo,V.int aG] 1=J (.int aG):=dF (j:=1) rfl
  iterate 3 refine jk I ⋯ ?_
  refine kc I fun N=>⟨_,I,xz fc a0 ⟨_,I,_,I,_,_,I,I,(by show(0:Int)<1000;decide),_,_,I,I,⟨by decide,by decide,by decide⟩,.inl ⟨_,_,rfl,rfl,.inl ⟨by lia,by lia⟩,.inl ⟨_,_,rfl,rfl,_,rfl,xz fc a1 ⟨_,rfl,xz fc a0 ⟨_,_,rfl,rfl,.inl ⟨_,_,rfl,rfl,_,_,rfl,rfl,(by lia),.inl ⟨_,_,rfl,rfl,H,.refl (cK _),?_⟩⟩⟩⟩⟩⟩⟩⟩;generalize c+c%1000*10^Int.toNat 50=y;have jo:=jX y (b:=aG-lo+1) (by lia);have gm:=jW y (b:=aG-lo+1) (by lia);dsimp only;obtain⟨i,ew⟩:∃i,i=lo+y%(aG-lo+1):=⟨_,rfl⟩;rw[<-ew];have CZ:lo<=i/\i<=aG:=by lia
  have dC:=yF (i:=i) (by lia);refine q _ (.int i) H (Ext.refl H) ⟨I,by rw[b1];exact eK CZ,?_,dC.1,c5 dC.2 (by decide),by simp only[fK];lia⟩;rw[bO];show(dq (i-lo).toNat (aE (aG-lo).toNat)).length<=200;rw[jm];exact c5 (ki (w:=190) (by rw[Int.toNat_lt (by lia)];exact_mod_cast sg)) (by decide)
 | le bK =>
  dsimp only[gw];rw[dY]at aF;obtain rfl:du=.str bK:=hex
  have oE:0<bK.length:=by
   have:=hT (lE.mp aF.1).1;lia
  iterate 5 refine jk I ⋯ ?_
  obtain⟨x,av,lQ⟩:=i0 (c/7) 5 (by decide);have ex:c/7%5=((x:Nat):Int):=lQ;refine⟨I,_,I,_,_,I,I,⟨by decide,by decide⟩,_,_,rfl,rfl,(by show(0:Int)<5;decide),?_⟩;dsimp only;rw[ex];refine⟨_,I,by lia,by lia,fun D b2=>?_⟩;rw[show(((x:Nat):Int)).toNat=x by lia];refine LK (fun y=>∃n,n∈bK.cps.toList/\y=.str ⟨#[n]⟩) (fun ab=>∃z,ab=[z,J (.str bK),J (.int c)]) (by lia) ⟨_,I⟩ b2 ?_ ?_
  ·rintro i aG b0 H1 ⟨z,rfl⟩ eW R cL;have jQ:bK.length<=cp:=c5 aF.2 (by decide);refine⟨_,I,_,I,_,I,.inl ⟨_,_,I,I,_,_,I,I,⟨by lia,by lia⟩,_,rfl,_,_,rfl,⟨jQ,rfl⟩,_,_,rfl,rfl,(by lia),?_⟩⟩;obtain⟨j,cj,hI⟩:=i0 (c/(0+((i:Nat):Int)+1)) bK.length oE;dsimp only;rw[hI];have p2:j<bK.cps.toList.length:=by rw[fA];exact cj
   exact .inr ⟨_,_,_,I,I,jQ,dF (cw p2),cL _ _ _ ⟨_,I⟩ (cK _) ⟨_,List.getElem_mem p2,I⟩⟩
  intro aw H1 ju hyp eW g6;obtain⟨cs,rfl,lU,e1⟩:=Np aw hyp;have mW:=Lu (cs.map fun c=>(⟨#[c]⟩:aa));rw[hx,show(((·.cps.toList):aa->List Nat) ∘ fun c=>(⟨#[c]⟩:aa))=fun c=>[c]from rfl]at mW
  have Df:(cs.map fun c=>[c]).flatten=cs:=by
   clear mW e1 lU hyp ju g6
   induction cs with
   |nil=>rfl
   |cons c cs bP=>rw[gI,jH,bP];rfl
  rw[Df]at mW
  have zy:((cs.map fun c=>(⟨#[c]⟩:aa)).map (·.length)).sum=cs.length:=by
   clear mW e1 lU hyp ju g6 Df
   induction cs with
   |nil=>rfl
   |cons c cs bP=>rw[gI,gI,List.sum_cons,bP,dW];show 1+_=_;lia
  refine⟨_,D,_,I,I,bp g6,(by rw[zy];show _+_*0<=_;lia),?_⟩;generalize Txt.join (aa.ofString "") (cs.map fun c=>(⟨#[c]⟩:aa))=t at mW ⊢;have gq:t.length=cs.length:=by rw[<-mW,fA];rfl
  have hm:hM t bK=ao:=by
   unfold hM;rw[mW,hy];exact fun c hc=>eK (e1 c hc)
  have tK:hM t mL=ao:=by
   have aj:=(lE.mp aF.1).2;unfold hM at aj ⊢;rw[mW,hy];exact fun c hc=>hy.mp aj c (e1 c hc)
  refine⟨H,.refl eW,q _ (.str t) H (Ext.refl H) ⟨⟨I,by lia⟩,by rw[b1];exact lE.mpr ⟨eK (by lia),hm⟩,?_,I,c5 (Nc (n:=4) tK (by lia)) (by decide),by simp only[fK];lia⟩⟩
  ·have al:aE (bK.length-1)<=6:=ki (w:=6) (by lia)
   have key:∀l:List Nat,((l.map fun c=>ao::dq (bK.cps.toList.idxOf c) (aE (bK.length-1))).flatten).length<=7*l.length:=by
    intro l
    induction l with
    |nil=>exact cR _
    |cons c l bP =>
     rw[gI,jH,bE,dW,jm,dW];lia
   have:=key cs;rw[bO];show((t.cps.toList.map fun c=>ao::dq (bK.cps.toList.idxOf c) (aE (bK.length-1))).flatten++[aI]).length<=200;rw[mW,bE];show _+1<=_;lia
 |_=>cases jr
theorem L5{fw:D->List Bool}{f:aU}{d:D}:∀(fs:List aU)(ds:List D),ds.length=fs.length->gf fw (fs++[f]) (ds++[d])=gf fw fs ds++bO fw f d
 |[],[],_=>by
  show gf fw (f::[]) (d::[])=gf fw [] []++_;rw[gf,gf,gf];show bO fw f d++[]=[]++_;rw[List.append_nil,List.nil_append]
 |[],_::_,h=>by cases h
 |_::_,[],h=>by cases h
 |g::fs,e::ds,h=>by
  have:=L5 fs ds (by simpa using h) (fw:=fw) (f:=f) (d:=d);show gf fw (g::(fs++[f])) (e::(ds++[d]))=gf fw (g::fs) (e::ds)++_;rw[gf,gf];show bO fw g e++gf fw (fs++[f]) (ds++[d])=bO fw g e++gf fw fs ds++_;rw[this,eC]
theorem Mn{bz:D->Bool}{f:aU}{d:D}(h:b1 bz f d=ao):∀(fs:List aU)(ds:List D),eM bz fs ds=ao->eM bz (fs++[f]) (ds++[d])=ao
 |[],[],_=>by show eM bz [f] [d]=ao;rw[eM,eM];simp[h]
 |[],e::ds,h=>by rw[eM]at h;cases h
 |g::fs,[],h=>by rw[eM]at h;cases h
 |g::fs,e::ds,hs=>by
  rw[eM]at hs;show eM bz (g::(fs++[f])) (e::(ds++[d]))=ao;rw[eM];have hs:(b1 bz g e&&eM bz fs ds)=ao:=hs;show(b1 bz g e&&eM bz (fs++[f]) (ds++[d]))=ao;rw[ix]at hs ⊢;exact⟨hs.1,Mn h fs ds hs.2⟩
theorem Mp{d:D}{n:Nat}(h:fK d<=n):∀{ds:List D},gb ds<=n->gb (ds++[d])<=n
 |[],_=>by show gb [d]<=n;rw[gb,gb];lia
 |g::fs,hs=>by
  rw[gb]at hs;show gb (g::(fs++[d]))<=n;rw[gb];have:=Mp h (ds:=fs) (by lia);lia
noncomputable def mG:List D->Nat
 |[]=>0
 |d::ds=>(jx d).length+2+mG ds
theorem MC(d:D):∀ds:List D,mG (ds++[d])=mG ds+((jx d).length+2)
 |[]=>by show _+_+0=0+_;lia
 |e::ds=>by show(jx e).length+2+mG (ds++[d])=(jx e).length+2+mG ds+_;rw[MC d ds];lia
theorem KC:∀ds:List D,((PyData.shownAll (hP ds)).map (·.length)).sum+2*(PyData.shownAll (hP ds)).length=mG ds
 |[]=>rfl
 |d::ds=>by
  have:=KC ds;rw[hP,PyData.shownAll,gI,List.sum_cons,dW];show(jx d).length+_+_=(jx d).length+2+mG ds;lia
theorem L3{d:D}(h:(ip d).showable=ao):∀{ds:List D},PyData.showableAll (hP ds)=ao->PyData.showableAll (hP (ds++[d]))=ao
 |[],_=>by show PyData.showableAll (hP [d])=ao;rw[hP,hP,PyData.showableAll,PyData.showableAll,h];rfl
 |e::ds,hs=>by
  show PyData.showableAll (hP (e::(ds++[d])))=ao;rw[hP,PyData.showableAll,ix]at hs ⊢;exact⟨hs.1,L3 h hs.2⟩
structure jd(X:List ag)(H:aq)(fs:List aU)(ds:List D)(vs:List V)(m n:Nat):Prop where
 x:cQ X H ds vs
 b:eM dh fs ds=ao
 r:(gf en fs ds).length<=m
 s:PyData.showableAll (hP ds)=ao
 l:mG ds<=m
 h:gb ds<=n
 n:ds.length=fs.length
theorem jd.snoc{fs:List aU}{n:Nat}{f:aU}(A:jd X H fs ds vs m n)(B:hf X H f d v k)(h:aP f+1<=n):jd X H (fs++[f]) (ds++[d]) (vs++[v]) (m+k+2) n:=by
 have ai:=A.r;have aj:=B.r;have bt:=A.l;have cf:=B.l;have eF:=B.h;exact⟨cQ.snoc B.x _ A.x,Mn B.b _ _ A.b,by rw[L5 _ _ A.n,bE];lia,L3 B.s A.s,by rw[MC];lia,Mp (by lia) A.h,by rw[bE,bE,A.n];rfl⟩
def jd.nil{n:Nat}:jd X H [] [] [] 0 n:=⟨rfl,by rw[eM];rfl,by rw[gf];exact cR _,I,cR _,by rw[gb];exact UF _,I⟩
def jd.le{fs:List aU}{n:Nat}(A:jd X H fs ds vs m n)(h:m<=k):jd X H fs ds vs k n:=⟨A.x,A.b,c5 A.r h,A.s,c5 A.l h,A.h,A.n⟩
def jd.keep{fs:List aU}{n:Nat}(A:jd X H fs ds vs m n)(h:cQ Y H' ds vs):jd Y H' fs ds vs m n:=⟨h,A.b,A.r,A.s,A.l,A.h,A.n⟩
def hf.keep{f:aU}(A:hf X H f d v m)(h:cg Y H' d v):hf Y H' f d v m:=⟨h,A.b,A.r,A.s,A.l,A.h⟩
def hf.le{f:aU}(A:hf X H f d v m)(h:m<=k):hf X H f d v k:=⟨A.x,A.b,c5 A.r h,A.s,c5 A.l h,A.h⟩
def yB:(jx (.tup ds)).length<=mG ds+3/\(jx (.lst ds)).length<=mG ds+3:=by
 rw[<-KC];exact⟨tupleText_len_le _,listText_len_le _⟩
def jd.P0{fs:List aU}(A:jd X H fs ds vs m (dv fs+1))(bW:T∉X)(e:H T=J (.tup vs))(cV:vs.length<=1000):hf X H (.two 0 ns fs) (.tup ds) (.ref T) (m+3):=by
 have ai:=yB (ds:=ds);have aj:=A.l;have bt:=A.r;have cf:=A.h;exact⟨⟨T,vs,I,bW,e,A.x,cV⟩,by rw[b1,if_pos rfl];exact A.b,by rw[bO,if_pos rfl];exact c5 A.r (Nat.le_add_right _ _),by rw[ip];exact A.s,by lia,by rw[fK,aP];lia⟩
theorem G7{bz:D->Bool}{fw:D->List Bool}{g:aU}:∀{ds:List D}{k:Nat},eM bz (List.replicate k g) ds=ao->ds.length=k/\ds.all (b1 bz g)=ao/\((ds.map fun d=>ao::bO fw g d).flatten).length=(gf fw (List.replicate k g) ds).length+ds.length
 |[],0,_=>⟨rfl,rfl,by rw[List.replicate_zero,gf];rfl⟩
 |[],k+1,h=>by rw[List.replicate_succ,eM]at h;cases h
 |d::ds,0,h=>by rw[List.replicate_zero,eM]at h;cases h
 |d::ds,k+1,h=>by
  rw[List.replicate_succ,eM]at h;have h:(b1 bz g d&&eM bz (List.replicate k g) ds)=ao:=h;obtain⟨ai,aj⟩:=lE.mp h;obtain⟨a,b,c⟩:=G7 (fw:=fw) aj;refine⟨by rw[dW,a],by rw[List.all_cons,ai,b];rfl,?_⟩;rw[gI,jH,bE,c,List.replicate_succ,gf,dW,dW];show _=(bO fw g d++gf fw (List.replicate k g) ds).length+_;rw[bE];lia
def jd.many(A:jd X H (List.replicate k g) ds vs m (aP g+1))(hk:k<=3)(bW:T∉X)(e:H T=J (.lst vs)):hf X H (.one 1 g) (.lst ds) (.ref T) (m+6):=by
 have ai:=yB (ds:=ds);have aj:=A.l;have bt:=A.r;have cf:=A.h;obtain⟨a,b,c⟩:=G7 (fw:=en) A.b;have cV:=dw.len _ (cQ.at _ A.x);refine⟨⟨T,vs,I,bW,e,A.x,by lia⟩,?_,?_,by rw[ip];exact A.s,by lia,by rw[fK,aP];lia⟩
 ·rw[b1];show(decide (ds.length<=60)&&ds.all (b1 dh g))=ao;rw[eK (by lia),b];rfl
 ·rw[bO];show((ds.map fun d=>ao::bO en g d).flatten++[aI]).length<=_;rw[bE,c];show _+1<=_;lia
def jd.aeY(A:jd X H (List.replicate k g) ds vs m (aP g+1))(hk:k<=1)(bW:T∉X)(e:H T=J (.tup vs)):hf X H (.one 0 g) (.tup ds) (.ref T) (m+6):=by
 have ai:=yB (ds:=ds);have aj:=A.l;have bt:=A.r;have cf:=A.h;obtain⟨a,b,c⟩:=G7 (fw:=en) A.b;have cV:=dw.len _ (cQ.at _ A.x);refine⟨⟨T,vs,I,bW,e,A.x,by lia⟩,?_,?_,by rw[ip];exact A.s,by lia,by rw[fK,aP];lia⟩
 ·rw[b1]
  match ds,a,b with
  |[],_,_=>rfl
  |[x],_,b=>exact(by simpa using b:b1 dh g x=ao)
  |x::y::r,a,_=>simp at a;lia
 ·rw[bO]
  match ds,a,c with
  |[],_,_=>show 1<=_;lia
  |[x],_,c =>
   rw[gI,jH,bE]at c;show(ao::bO en g x).length<=_;simp at c ⊢;lia
  |x::y::r,a,_=>simp at a;lia
def hf.Hx{fs:List aU}{f:aU}{n:aa}(A:hf X H f d v m)(bh:iQ ns=ao)(aC:ns.length=fs.length)(aD:fs[i]?=J f)(bj:ns[i]?=J n)(fg:aP f<=dv fs)(bW:T∉X)(e:H T=J (.tup [.str n,v])):hf X H (.two 1 ns fs) (.tup [.str n,d]) (.ref T) (m+150):=by
 have av:=BO bh bj;have hm:n∈ns:=jc bj;have h0:isName n=ao:=hy.mp (lE.mp bh).2 n hm;obtain⟨tM,sl⟩:=lE.mp h0;have sk:=(hT tM).2
 have adA:hM n mL=ao:=by
  have hs:∀c∈fy.cps.toList,c∈mL.cps.toList:=⋯;unfold hM at sl ⊢;rw[hy]at sl ⊢;exact fun c hc=>eK (hs c (hT (sl c hc)))
 have alc:=Nc adA sk;have De:fs.getD (ns.idxOf n) (.bare 0)=f:=by rw[av,eR,aD];rfl
 have yV:=(jf bh).1;have ai:=yB (ds:=[.str n,d]);have aj:=A.l;have bt:=A.r;have cf:=A.h;have hw:mG [.str n,d]=(reprText n).length+2+((jx d).length+2+0):=rfl;refine⟨⟨T,_,I,bW,e,⟨_,_,I,⟨I,by lia⟩,_,_,rfl,A.x,rfl⟩,(by show 2<=1000;decide)⟩,?_,?_,?_,by lia,by simp only[fK,gb,aP];lia⟩
 ·rw[b1,if_neg (by decide)];show kN dh fs ns n d=ao;rw[tj fs ns n hm aC,De];exact A.b
 ·rw[bO,if_neg (by decide)];show(m8 en fs ns 0 (fs.length-1) n d).length<=_;rw[wo fs ns 0 n hm aC,De,bE,jm];have:=ki (n:=fs.length-1) (w:=5) (by lia);lia
 .rw[ip,hP,hP,hP,PyData.showable,PyData.showableAll,PyData.showableAll,PyData.showableAll,A.s];rfl
def hf.turn(A:hf X H g d v m):hf X H (.one 2 g) d v m:=by
 have cf:=A.h;exact⟨A.x,by rw[b1];exact A.b,by rw[bO];show((bO en g d).map (!·)).length<=m;rw[cd];exact A.r,A.s,A.l,by rw[aP];lia⟩
inductive Rx(n:Nat)(vs:List V)(H:aq)(Q:bI)(E:cP):Prop where
 |mk (v:V) (f:aU) (p:ag) (ms:List Int) (X:List ag) (bb:vs=[v,.ref p]) (ai:cg X H (dA f) v) (aj:dY f) (bt:aP f<=n) (cf:dt f<=180) (eF:H p=J (.lst (ms.map V.int))) (gD:ms.length<=24) (kl:p∈X) (kP:k4 X H) (r7:∀(u:V)(d:D)(H':aq)(oO:List Int),gz p H H'->H' p=J (.lst (oO.map V.int))->oO.length<=ms.length->hf X H' f d u (200*dt f+108000*(ms.length-oO.length))->Q u H')
def Fu(p l T i4:ag)(du:V)(w:aa)(c:Int)(g:aU)(X:List ag)(H:aq)(q lim m:Nat)(eO:List Int)(ab:St)(d7:aq):Prop:=∃(ds:List D)(vs:List V)(g9:List Int),m=lim-ds.length/\ds.length<=lim/\(ds.length=0\/eO.length+1=q)/\ab=[J (.ref T),J (.ref p),J (.str w),J du,J (.ref l),J (.int c),aA,J (.ref i4)]/\gz p H d7/\d7 p=J (.lst (g9.map V.int))/\g9.length<=eO.length/\d7 i4=J (.lst vs)/\k4 (i4::X) d7/\jd (i4::X) d7 (List.replicate ds.length g) ds vs (ds.length*(200*dt g+2)+108000*(eO.length-g9.length)) (aP g+1)
def Xb(nb:dD mg)(F:dB K mg "_law_value" B2 ["_law_tree_here","_law_left"] f fd)(vT:bf P w K mg zn 1 "_law_simple_value" ["_law_word","_law_extra","_law_number"] Rh)(sW:bf P w K mg zn (n+2) "_law_value" ["_law_tree_here","_law_left"] (Rx n)):bf P w K mg zn (n+2+1) "_law_value" ["_law_tree_here","_law_left"] (Rx (n+1)):=by show_term
 refine F.eH te (fun H vs Q E au h=>?_);obtain⟨v,g,p,ms,X,rfl,cV,aF,bY,jQ,aX,vb,gc,eN,q⟩:=h;obtain⟨ex,lP⟩:=CY g;have lj:=cV;rw[lP]at lj;obtain⟨T,du,l,hL,rfl,ec,aN,w7,fc,fW,aC⟩:=Hz lj
 refine⟨_,(aO (yD (af 0) (qP I (iZ (d4 (i:=2) te.br I (by exact Or.inl rfl)) (iZ (d4 (i:=3) te.br I (by exact Or.inl rfl)) (iZ (d4 (i:=4) te.br I (by first|exact Or.inl rfl|exact Or.inr rfl)) qN)))))
  (aO (b4 5 te.br aH)
  (ys (cq (bV (I8 (mE au)) (af 1) (e0 ay)) (aL (b4 5 te.br (uM PySem.F.plainAttrs_list PySem.F.slot_list_pop PySem.F.type_list_pop KW (af 1)))) cm)
  (aO (cq (bV (zO (mE au)) (af 4) (e0 ay)) (aL (aY (b7 vT au (ak (af 2) (ak (af 3) (ak (af 5) ay)))))) cm)
  (aO (cq (bV dn (af 2) bu) (aL (aY (b7 sW au (ak (cI cJ (af 4) aH) (ak (af 1) ay))))) cm)
  (aO (cq (bV dn (af 2) bu) (aL (aY (mj FY rfl nb.t6 tk (ak (iA ["_law_one"] [(1,"_law_left")] rfl ⋯ ⟨rfl,.inl rfl,trivial⟩ (jw (af 4)) (d4 (i:=0) (show(["_law_one","_law_left"]:List aa).Nodup by decide+kernel)) hW (b7 sW au (ak (af 0) (ak (af 1) ay)))) ay)))) cm)
  (aO (cq (bV dn (af 2) bu) (aO (b4 6 te.br (aM eu (af 5) (c1 eh rfl nb.d5 ea (ak (af 4) ay))))
   (aL (aY (gJ (ak (cI cJ (af 3) (af 6)) (ak (b7 sW au (ak (cI cJ (af 4) (af 6)) (ak (af 1) ay))) ay)))))) cm)
  (aO (b4 7 te.br (e0 ay))
  (ys (pB iu.never (gA.pt (rX (bV (I8 (mE au)) (af 1) (e0 ay)) (tp (bV iV (c1 eh rfl nb.d5 ea (ak (af 7) ay)) (aM eu (af 5) (cI cJ (e0 (ak aH (ak aH ay))) (mj wk rfl nb.vh uN (ak (g4 dn (af 2) bu) ay))))))))
   (aL (iz (h6 PySem.F.plainAttrs_list PySem.F.slot_list_append PySem.F.type_list_append pA (af 7) (ak (b7 sW au (ak (cI cJ (af 4) aH) (ak (af 1) ay))) ay)))))
  (aO (cq (bV dn (af 2) bu) (aL (aY (mj FY rfl nb.t6 tk (ak (af 7) ay)))) cm)
  (aL (aY (af 7))))))))))))),?_⟩
 ac_rfl;refine⟨_,I,T,_,I,dy ec,I,_,_,I,_,_,I,_,_,I,I,?_⟩;refine⟨fun ab H1=>∃(c:Int)(eO:List Int),ab=[J (.ref T),J (.ref p),J (.str (gw g)),J du,J (.ref l),J (.int c),aA,aA]/\gz p H H1/\H1 p=J (.lst (eO.map V.int))/\eO.length<=ms.length/\(eO.length+1=ms.length\/eO=[]),?_,?_⟩
 ·refine⟨_,I,UF _,fun g3 bt =>.inr ⟨p,g3,ms,[],I,I,(cZ bt) _ _ aX,aB,_,I,?_⟩⟩;have n1:=(gz.refl ⟨ms,aX,by lia⟩).ext (Ext.lst (xs:=[]) bt);have m5:=(cZ (o:=de.lst []) bt) _ _ aX;by_cases hm:ms=[]
  .exact kp hm ⟨0,ms,I,n1,m5,cR _,.inr hm⟩
  refine xd hm ?_;obtain⟨eO,c,rfl⟩:∃eO c,ms=eO++[c]:=⟨ms.dropLast,ms.getLast hm,(List.dropLast_concat_getLast hm).symm⟩;have zj:eO.length+1=(eO++[c]).length:=by rw[bE];rfl
  refine⟨_,I,.inl ⟨I,_,bp m5⟩,p,_,.int c,I,I,m5,?_,?_⟩
  .rw[cd,<-zj,Nat.add_sub_cancel,eJ,List.getElem?_append_right (cR _),Nat.sub_self];rfl
  have HD:((eO++[c]).map V.int).dropLast=eO.map V.int:=by rw[fR];exact List.dropLast_concat
  rw[HD];exact⟨c,eO,I,n1.trans (gz.pop n1.l (ns:=eO) (by lia)),aB,by lia,.inl zj⟩
 rintro ab H1 ⟨c,eO,rfl,n1,m5,DE,adz⟩;have gr:∀b u,b∉X->H b=J u->H1 b=J u:=fun b u nb e=>n1.k b u (fun z=>nb (by rw[z];exact gc)) e;have HE:=gr _ _ w7 fc;have Dw:=eN.grow n1;refine⟨_,I,UF _,fun lR cf =>.inr ⟨l,lR,_,I,I,(cZ cf) _ _ HE,aB,_,I,?_⟩⟩;have f7:=Ext.lst (xs:=[]) cf;have jT:=n1.ext f7;have qc:∀b u,b∉X->H b=J u->upd H1 lR (.lst []) b=J u:=fun b u nb e=>f7.s _ _ (gr b u nb e);have wH:=f7.s _ _ HE;have p5:=f7.s _ _ m5;have m1:=Dw.keep f7.s;generalize upd H1 lR (.lst [])=gW at jT qc wH p5 m1 ⊢;clear f7 cf HE Dw gr n1 m5;have h1:hL.length=(iE g).length:=by rw[dw.len _ (cQ.at _ fW),tl]
 by_cases jr:xc g=aI
 ·have oE:hL.length=0:=by rw[h1];cases g<;>first|rfl|cases jr
  refine hp oE ?_
  have hex:N8 gW du g:=by
   cases g with
   |sp a b =>
    obtain rfl:ex=.lst [.int a,.int b]:=by rw[dA]at lP;injection lP with h;injection h with _ h;injection h with h _;exact h.symm
    obtain⟨xi,_,rfl,OV,abz,⟨_,_,rfl,rfl,_,_,rfl,rfl,rfl⟩,_⟩:=aN;exact⟨xi,I,qc _ _ OV abz⟩
   |le s =>
    obtain rfl:ex=.str s:=by rw[dA]at lP;injection lP with h;injection h with _ h;injection h with h _;exact h.symm
    exact aN.1
   |_=>trivial
  have ai:=KL g;exact⟨_,I,_,I,_,I,g,du,c,X,I,jr,aF,hex,m1,fun u d H' hD jG=>⟨_,(jT.ext hD).sub,q u d H' eO (jT.ext hD) (hD.s _ _ p5) DE (jG.le (by lia))⟩⟩
 have jr:xc g=ao:=by simpa using jr
 obtain⟨jR,iU,DX,vp⟩:=NC jr aF;have hi:∀b6,b6<=eO.length->108000*(eO.length-b6)<=108000*(ms.length-b6):=fun b6 _=>by lia
 cases g with
 | one k g1 =>
  have fW:cQ X H [dA g1] hL:=by have:=fW;rw[iE,fG,fG]at this;exact this
  obtain⟨JJ,_,rfl,O9,rfl⟩:=fW;have ad6:=cg.keep qc _ O9;rw[dY]at aF;rw[aP]at bY;rw[dt]at jQ;have i2:gW l=J (.lst [JJ]):=wH;refine da (by show ¬1=0;decide) ?_;dsimp only[gw];by_cases hk:k=2
  ·subst hk;refine kc I fun N=>⟨_,I,xz wH (dF (j:=0) I) ⟨_,I,JJ,g1,p,eO,X,I,ad6,aF,by lia,by lia,p5,by lia,gc,m1,fun u d H' oO lB nD va jG=>⟨_,(jT.trans lB).sub,q u d H' oO (jT.trans lB) nD (by lia) (jG.turn.le (by rw[dt];lia))⟩⟩⟩
  have qu:∀k:Fin 3,k≠2->¬V.str (dV k)=V.str "turned"/\¬V.str (dV k)=V.str "record"/\¬V.str (dV k)=V.str "choice":=⋯;obtain⟨dc,dm,zK⟩:=qu k hk;refine jk I dc (jk I dm (jk I zK ⟨UF _,fun i4 Ip=>?_⟩));have hD:=Ext.lst (xs:=[]) Ip;have OZ:i4∉X:=m1.fX Ip;have Iq:i4≠p:=fun z=>OZ (by rw[z];exact gc);have OY:=jT.free Ip
  obtain⟨x,lim,IS,jO,elim,Ir,adw⟩:∃(x:Int)(lim:Nat),0<x/\e9 [V.int 4,V.int 2] (if decide (V.str (dV k)=V.str "maybe")=ao then 1 else 0)=J (.int x)/\c%x=((lim:Nat):Int)/\lim<=3/\(k=0->lim<=1):=by
   have nO:∀k:Fin 3,decide (V.str (dV k)=V.str "maybe")=decide (k=0):=⋯;rw[nO];by_cases Im:k=0
   ·obtain⟨lim,ai,aj⟩:=i0 c 2 (by decide);exact⟨2,lim,by decide,by rw[eK Im];rfl,aj,by lia,fun _=>by lia⟩
   ·obtain⟨lim,ai,aj⟩:=i0 c 4 (by decide);exact⟨4,lim,by decide,by rw[e8 Im];rfl,aj,by lia,fun z=>absurd z Im⟩
  refine⟨fun ab d7=>∃m,Fu p l T i4 du (dV k) c g1 X H ms.length lim m eO ab d7,⟨fun m ab d7=>Fu p l T i4 du (dV k) c g1 X H ms.length lim m eO ab d7,⟨lim,[],[],eO,I,UF _,.inl I,I,jT.ext hD,hD.s _ _ p5,cR _,aB,?_,?_⟩,?_⟩,?_⟩
  ·intro x av;rcases dJ.mp av with z|z
   .rw[z];exact⟨_,aB⟩
   .exact(m1.keep hD.s) x z
  .exact jd.nil.le (UF _)
  ·rintro m ab d7 ⟨ds,vs,g9,rfl,p0,w2,rfl,lB,nD,va,kM,wX,jG⟩;refine⟨_,I,UF _,fun uW gD =>.inr ⟨p,uW,g9,[],I,I,(cZ gD) _ _ nD,aB,_,I,?_⟩⟩;have fP:=Ext.lst (xs:=[]) gD;by_cases hm:g9=[]
   .exact kp hm ⟨_,ds,vs,g9,I,p0,w2,I,lB.ext fP,fP.s _ _ nD,va,fP.s _ _ kM,wX.keep fP.s,jG.keep (cQ.same fP.s jG.x)⟩
   refine xd hm ⟨_,I,_,_,I,.inl ⟨_,bp (fP.s _ _ kM),I⟩,_,I,hH,fun L i1=>⟨_,I,I,.inl (.inr ⟨_,I,xz aB jO ⟨_,_,I,I,IS,.inl ⟨_,_,I,I,_,I,?_⟩⟩⟩)⟩⟩;have l6:=fP.trans (Ext.lst (xs:=[V.int 4,.int 2]) i1);dsimp only;rw[elim];have alh:=dw.len _ (cQ.at _ jG.x);have qA:=lB.ext l6;have zu:=l6.s _ _ nD;have Dg:=l6.s _ _ kM;have wY:=wX.keep l6.s;have Bc:=jG.keep (cQ.same l6.s jG.x);generalize upd (upd d7 uW (.lst [])) L (.lst [V.int 4,.int 2])=iv at qA zu Dg wY Bc ⊢;refine fM (fun EA=>?_) (fun EA=>⟨_,ds,vs,g9,I,p0,w2,I,qA,zu,va,Dg,wY,Bc⟩);refine⟨fun cb H'=>∃b6,b6<lim-ds.length/\Fu p l T i4 du (dV k) c g1 X H ms.length lim b6 eO cb H',fun _ _ h=>h,?_⟩;have Iu:l≠p:=fun z=>w7 (by rw[z];exact gc);have dz:∀{az b5:aq},gz p az b5->∀b u,b∉i4::X->az b=J u->b5 b=J u:=fun G b u nb e=>G.k b u (fun z=>nb (by rw[z];exact d9 _ gc)) e;refine⟨_,I,.inl ⟨I,_,bp Dg⟩,_,I,xz (qA.k _ _ Iu fc) (dF (j:=0) I) ⟨_,I,JJ,g1,p,g9,i4::X,I,cg.keep (dz qA) _ (cg.add OY _ O9),aF,by lia,by lia,zu,by lia,d9 _ gc,wY,fun u d AA ae3 Aw adP adB Kx=>?_⟩⟩;have N3:=Aw.k _ _ Iq Dg;refine⟨i4,_,_,I,I,N3,fz (show vs.length<100000 by lia) (by decide),?_⟩;have Pj:∀b w,b∉i4::X->AA b=J w->upd AA i4 (.lst (vs++[u])) b=J w:=fun b w nb e=>by rw[bx (fun z=>nb (by rw[z];exact g0 ..))];exact e
   have tJ:0<g9.length:=List.length_pos_iff.mpr hm;have mz:(ds++[d]).length=ds.length+1:=by rw[bE];rfl
   refine⟨lim-(ds++[d]).length,by rw[mz];lia,ds++[d],vs++[u],ae3,rfl,by rw[mz];lia,.inr (adz.elim id fun z=>by rw[z,List.length_nil]at va;lia),rfl,(qA.trans Aw).set OY N3 Iq,by rw[bx (fJ Iq)];exact adP,by lia,aB,?_,?_⟩
   ·intro x av;by_cases z:x=i4
    .rw[z];exact⟨_,aB⟩
    ·obtain⟨y,ba⟩:=(wY.grow Aw) x av;exact⟨y,by rw[bx z];exact ba⟩
   ·rw[mz,List.replicate_succ'];refine((Bc.keep (cQ.keep Pj _ (cQ.keep (dz Aw) _ Bc.x))).snoc (Kx.keep (cg.keep Pj _ Kx.x)) (cR _)).le ?_;rw[Nat.add_mul ds.length 1,Nat.one_mul];lia
  ·rintro ab d7 ⟨_,ds,vs,g9,_,p0,w2,rfl,lB,nD,va,kM,wX,jG⟩
   have NM:ds.length*(200*dt g1+2)+108000*(eO.length-g9.length)+6<=200*(dt g1+1)+108000*(ms.length-g9.length):=by
    have:ds.length=0\/ds.length=1\/ds.length=2\/ds.length=3:=by lia
    rcases this with z|z|z|z<;>rw[z]at w2 ⊢<;>lia
   have s8:=jG.keep (cQ.weak (fun x av=>d9 i4 av) _ jG.x);have sd:k4 X d7:=fun x av=>wX x (d9 _ av);rcases pT k with rfl|rfl|rfl
   ·refine kc I fun N=>⟨_,I,i4,vs,I,.inl ⟨bp kM,fun jF iD=>?_⟩⟩;have fP:=Ext.tup (xs:=vs) iD;exact⟨_,(lB.ext fP).sub,q _ _ _ g9 (lB.ext fP) (fP.s _ _ nD) (by lia) (((s8.keep (cQ.same fP.s s8.x)).aeY (c5 p0 (adw I)) (sd.fX iD) aB).le (by rw[dt];exact NM))⟩
   .exact jk I ⋯ ⟨_,I,_,lB.sub,q _ _ _ g9 lB nD (by lia) ((s8.many (c5 p0 Ir) OZ kM).le (by rw[dt];exact NM))⟩
   .exact absurd I hk
 | two k ns fs =>
  rw[dY]at aF;obtain⟨eA,gF,DH⟩:=aF;rw[dt]at jQ;rw[aP]at bY;have oB:=jf eA
  have zk:0<fs.length:=by
   rw[<-gF];rcases Nat.eq_zero_or_pos ns.length with z|z
   .rw[List.length_eq_zero_iff.mp z]at eA;cases eA
   .exact z
  have O8:hL.length=fs.length:=h1;clear h1;have vp:fs.length<=20:=vp;refine da (by lia) ?_;have fW:cQ X H (fG fs) hL:=fW;dsimp only[gw];rcases mX k with rfl|rfl
  ·refine jk I ⋯ (kc I fun N =>.inl ⟨_,I,l,I,⟨_,bp wH⟩,fun qy b2=>?_⟩);have pV:=jT.free b2;have yW:qy∉X:=m1.fX b2;have HY:qy≠p:=fun z=>yW (by rw[z];exact gc);have Iu:l≠p:=fun z=>w7 (by rw[z];exact gc);have dz:∀{az b5:aq},gz p az b5->∀b u,b∉qy::X->az b=J u->b5 b=J u:=fun G b u nb e=>G.k b u (fun z=>nb (by rw[z];exact d9 _ gc)) e;have pk:=Ext.lst (xs:=[]) b2;refine Cm (K:=K) (a:=l) (xs:=hL) (fun i aw az=>∃(ds:List D)(kV:List Int),gz p H az/\az p=J (.lst (kV.map V.int))/\kV.length<=eO.length/\jd (qy::X) az (fs.take i) ds aw (200*f5 (fs.take i)+2*i+108000*(eO.length-kV.length)) (dv fs+1)) (fun ab=>∃d6,ab=[d6,J (.ref p)]) (by lia) ⟨_,I⟩ ?_ ?_ ?_ ?_
   ·rintro i aw az ⟨_,_,n2,_⟩;exact bp (n2.k _ _ Iu fc)
   .exact⟨[],eO,jT.ext pk,pk.s _ _ p5,cR _,jd.nil.le (UF _)⟩
   ·rintro i x av aw b0 H1 ⟨d6,rfl⟩ ⟨ds,kV,n2,oF,tK,Bb⟩ km ju R cL;obtain⟨pN,q2,hd⟩:=yA _ fW av;obtain⟨g1,bh,rfl⟩:=uK (fs:=fs) q2;obtain⟨qi,oA⟩:=tg DH bh;have wK:fs.take (i+1)=fs.take i++[g1]:=by rw[mf,bh];rfl
    have wJ:f5 (fs.take (i+1))=f5 (fs.take i)+dt g1:=by rw[wK,CA]
    have hle:f5 (fs.take (i+1))<=f5 fs:=Cz _ (i+1);have lT:k4 (qy::X) H1:=fun x av=>(dJ.mp av).elim (fun z=>by rw[z];exact⟨_,km⟩) (eN.grow n2 x);refine⟨_,I,_,I,x,g1,p,kV,qy::X,I,cg.keep (dz n2) _ (cg.add pV _ hd),qi,by lia,by lia,oF,by lia,d9 _ gc,lT,fun u d b5 g9 ui IC DF we=>?_⟩;have uX:=ui.k _ _ HY km;have ck:∀b w,b∉qy::X->b5 b=J w->upd b5 qy (.lst (aw++[u])) b=J w:=fun b w nb e=>by rw[bx (fun z=>nb (by rw[z];exact g0 ..))];exact e
    refine cL _ _ _ ⟨_,I⟩ uX ⟨ds++[d],g9,(n2.trans ui).set pV uX HY,by rw[bx (fJ HY)];exact IC,by lia,?_⟩;rw[wK];refine((Bb.keep (cQ.keep ck _ (cQ.keep (dz ui) _ Bb.x))).snoc (we.keep (cg.keep ck _ we.x)) (by lia)).le ?_;rw[<-wK,wJ];lia
   rintro aw H' ju iC ⟨ds,g9,ui,IC,DF,we⟩;rw[O8,UV (cR _)]at we;refine⟨qy,aw,I,.inl ⟨bp iC,fun jF iD=>?_⟩⟩;have fP:=Ext.tup (xs:=aw) iD;have s8:=we.keep (cQ.same fP.s (cQ.weak (fun x av=>d9 qy av) _ we.x));exact⟨_,(ui.ext fP).sub,q _ _ _ g9 (ui.ext fP) (fP.s _ _ IC) (by lia) ((s8.P0 (ns:=ns) ((eN.grow ui).fX iD) aB (by lia)).le (by rw[dt];lia))⟩
  ·obtain rfl:ex=.lst (ns.map .str):=by rw[dA]at lP;injection lP with h;injection h with _ h;injection h with h _;exact h.symm
   obtain⟨a,xm,rfl,H6,cD,fV,_⟩:=aN;obtain rfl:=yn (cQ.at _ fV);have HC:=qc _ _ H6 cD;obtain⟨j,cj,hI⟩:=i0 c fs.length zk;have akX:=cw cj;have OQ:=cw (show j<ns.length by lia);have OR:=cw (show j<hL.length by lia);obtain⟨pN,q2,hd⟩:=yA _ fW OR;obtain⟨g1,bh,rfl⟩:=uK (fs:=fs) q2;obtain⟨qi,oA⟩:=tg DH bh
   have alg:dt g1<=f5 fs:=by
    have wJ:f5 (fs.take (j+1))=f5 (fs.take j)+dt g1:=by rw[mf,bh];exact CA ..
    have:=Cz fs (j+1);lia
   refine jk I ⋯ (jk I ⋯ (kc I fun N=>⟨_,I,_,I,_,_,I,.inl ⟨_,bp wH,I⟩,_,_,I,I,(by lia),?_⟩));dsimp only;rw[O8,hI];refine⟨_,I,_,I,xz HC (dF (by rw[eJ,OQ];rfl)) ⟨_,I,_,I,xz wH (dF OR) ⟨_,I,_,g1,p,eO,X,I,cg.keep qc _ hd,qi,by lia,by lia,p5,by lia,gc,m1,fun u d H' oO lB nD va jG=>⟨hH,fun jF iD=>?_⟩⟩⟩⟩;have fP:=Ext.tup (xs:=[V.str ns[j],u]) iD;have Av:=(jT.trans lB).ext fP;exact⟨_,Av.sub,q _ _ _ oO Av (fP.s _ _ nD) (by lia) (((jG.keep (cg.same fP.s jG.x)).Hx eA gF bh OQ (by lia) ((m1.grow lB).fX iD) aB).le (by rw[dt];lia))⟩
 |_=>cases jr
theorem Lh(nb:dD mg)(F:dB K mg "_law_value" B2 ["_law_tree_here","_law_left"] f fd)(vT:bf P w K mg zn 1 "_law_simple_value" ["_law_word","_law_extra","_law_number"] Rh):∀n,bf P w K mg zn (n+2) "_law_value" ["_law_tree_here","_law_left"] (Rx n)
 |0=>bf.none F fun vs H Q E z=>by obtain⟨_,f,_,_,_,_,_,_,h,_⟩:=z;have:=oh f;lia
 |n+1=>Xb nb F vT (Lh nb F vT n)
mutual
theorem tr:∀(f:aU),dY f->qj hasAll f
 |.bare k,h=>⟨by rw[fE];trivial,by rw[p8];rfl⟩
 |.sp a b,h=>by rw[dY]at h;exact⟨by rw[fE];exact⟨h.1,h.2.2⟩,by rw[p8];rfl⟩
 |.le s,h=>by rw[dY]at h;exact⟨by rw[fE];exact h,by rw[p8];rfl⟩
 |.one k f,h=>by
  rw[dY]at h;obtain⟨a,b⟩:=tr f h;exact⟨by rw[fE];exact a,by rw[p8];exact⟨I,b⟩⟩
 |.two k ns fs,h=>by
  rw[dY]at h;obtain⟨a,b⟩:=MM fs h.2.2;exact⟨by rw[fE];exact⟨h.1,h.2.1,a⟩,by rw[p8];exact⟨I,b⟩⟩
theorem MM:∀(fs:List aU),gv fs->DZ hasAll fs
 |[],_=>⟨by rw[lp];trivial,by rw[tQ];trivial⟩
 |f::fs,h=>by
  rw[gv]at h;obtain⟨a,b⟩:=tr f h.1;obtain⟨a2,gm⟩:=MM fs h.2;exact⟨by rw[lp];exact⟨a,a2⟩,by rw[tQ];exact⟨b,gm⟩⟩
end
def VA{f:aU}{a b:D}(ok:dY f)(aN:b1 dh f a=ao)(al:b1 dh f b=ao):decide (dx f a b<0)=decide ((bA (bO en f a)).cps.toList<(bA (bO en f b)).cps.toList):=by
 rcases Int.lt_trichotomy (dx f a b) 0 with z|z|z
 .rw[eK z,eK (Hp (tn f a b ok aN al z))]
 .rw[e8 (by lia),(th f a b ok aN al).z.mp z,e8 (List.lt_irrefl _)]
 .rw[e8 (by lia),e8 (Vo (tn f b a ok al aN (by rw[wq];lia)))]
def aeE{t w a b:Nat}(ai:t<=w+3)(hw:w=a+2+(b+2+0))(aN:a<=m)(hm:m<=4000000)(al:b<=59):t<=16000000:=by lia
def P8{n:Nat}(hs:(ip d).showable=ao)(aC:(jx d).length<=m)(hm:m<=4000000)(bj:n<=16000000):(ip (.tup [d,.int ((n:Nat):Int)])).showable=ao/\(jx (.tup [d,.int ((n:Nat):Int)])).length<=16000000:=by
 have dC:=yF (i:=((n:Nat):Int)) (by show n<_;exact Nat.lt_of_le_of_lt bj ⋯);have ai:=(yB (ds:=[d,.int ((n:Nat):Int)])).1;have hw:mG [d,.int ((n:Nat):Int)]=(jx d).length+2+((jx (.int ((n:Nat):Int))).length+2+0):=by rw[mG,mG,mG]
 exact⟨by rw[ip,hP,hP,hP,PyData.showable,PyData.showableAll,PyData.showableAll,PyData.showableAll,hs,dC.1];rfl,aeE ai hw aC hm dC.2⟩
inductive Qb(c:c9)(vs:List V)(H:aq)(Q:bI)(E:cP):Prop where
 |mk (jR iU:ag) (f:aU) (a b:D) (du gi:V) (bb:vs=[.ref jR,.ref iU,du,gi]) (ai:bG c [] H f jR) (aj:bG c [] H f iU) (bt:dY f) (cf:aP f<=8) (eF:hf [] H f a du 3000000) (gD:hf [] H f b gi 3000000) (kl:Q (.aS ao) H)
def Zc(nb:dD mg)(F:dB K mg "_law_agree" Gi ["_law_form","_law_made_here","_law_value_here","_law_other"] f fd)(pd:eZ P w K mg zn 23 "row" ["self","value"] (eb c) (fun _=>Eg hasAll dh en c 9))(ky:eZ P w K mg zn 22 "fits" ["self","value"] (eb c) (QE hasAll dh c 9))(vL:eZ P w K mg zn 23 "read" ["self","signs","at"] (eb c) (fun _=>Rd hasAll dh en c 9))(lu:eZ P w K mg zn 22 "ahead" ["self","one","other"] (eb c) (Qc c 9)):bf P w K mg zn 24 "_law_agree" ["_law_form","_law_made_here","_law_value_here","_law_other"] (Qb c):=by show_term
 refine F.eH x4 (fun H vs Q E au h=>?_);obtain⟨jR,iU,g,a,b,du,gi,rfl,oy,Dn,aF,bY,kx,vM,q⟩:=h
 refine⟨_,(aO (b4 4 x4.br (gB pd au (af 0) (ak (af 2) ay)))
  (aO (cq (gA.pt (jD (jI (h5 (c1 pF rfl nb.p9 pE (ak (af 4) (ak (pG (v :=.ty "str") rfl nb.xx wy rfl) ay))))) (kh (bV kY (af 4) (gB pd au (af 1) (ak (af 2) ay)))))) (aL (aY iY)) cm)
  (aO (mS iu.never rfl (jw (e0 (ak (af 0) (ak (af 1) ay)))) (d4 (i:=5) x4.br rfl (by exact Or.inl I))
   (aO (cq (bV VB (gB ky au (af 5) (ak (af 2) ay)) iY) (aL (aY iY)) cm)
   (aO (b4 6 x4.br (gB vL au (af 5) (ak (aM cv (af 4) bu) (ak aH ay))))
   (aO (cq (gA.pt (jD (jI (h5 (c1 pF rfl nb.p9 pE (ak (af 6) (ak (pG (v :=.ty "tuple") rfl nb.t6 tk rfl) ay))))) (kh (bV kY (c1 (Cy _ au) rfl nb.D5 CV (ak (af 6) ay)) (c1 (Cy _ au) rfl nb.D5 CV (ak (gJ (ak (af 2) (ak (c1 eh rfl nb.d5 ea (ak (af 4) ay)) ay))) ay)))))) (aL (aY iY)) cm)
   (aO (b4 7 x4.br (gB lu au (af 5) (ak (af 2) (ak (af 3) ay))))
   (aL (cq (gA.pt (jD (jI (h5 (c1 pF rfl nb.p9 pE (ak (af 7) (ak (pG (v :=.ty "bool") rfl nb.NN ND rfl) ay))))) (kh (bV kY (af 7) (g4 iV (af 4) (gB pd au (af 1) (ak (af 3) ay))))))) (aL (aY iY)) cm)))))))
  (aL (aY iY))))),?_⟩
 ac_rfl;have iR:=tr g aF;have aa6:bA (bO en g a)++aa.ofString "01"=bA (bO en g a++[aI,ao]):=by rw[show aa.ofString "01"=bA [aI,ao] by decide+kernel,mi]
 have mV:=cg.at _ kx.x;have db:=cg.at _ vM.x;have bJ:=kx.r;have bZ:=vM.r;obtain⟨aaY,r4,aQ,gr⟩:=bG.row g oy;obtain⟨yL,kO,aR,fD⟩:=bG.row g Dn;refine⟨_,I,jR,slot g,aaY,r4,I,aQ,gr,_,I,slot g,jR,g,du,a,I,I,oy,iR,by lia,mV,kx.b,by lia,?_⟩;have aaU:dZ H (.str (bA (bO en g a))) (.str (bA (bO en g a))):=⟨rfl,by rw[fu];lia⟩;refine⟨_,I,.inl ⟨_,_,_,_,I,aaU.ty,oJ K _ (by decide),_,I,e2 ?_⟩⟩;refine⟨_,I,_,I,iU,slot g,yL,kO,I,aR,fD,_,I,slot g,iU,g,du,a,I,I,Dn,iR,by lia,mV,kx.b,by lia,?_⟩;refine⟨I,_,I,kp I (.inl ⟨_,I,_,I,hH,fun L i1=>⟨L,I,⟨_,bp aB⟩,?_⟩⟩)⟩;have Sa:=Ext.lst (xs:=[V.ref jR,.ref iU]) i1;refine yl (xs:=[V.ref jR,.ref iU]) (fun i ab az=>Ext H az/\az L=J (.lst [V.ref jR,.ref iU])/\∃na lr o8,ab=[J (.ref jR),J (.ref iU),J du,J gi,J (.str (bA (bO en g a))),na,lr,o8]) ⟨Sa,aB,_,_,_,I⟩ (fun i ab az _ h=>by obtain⟨_,h,_⟩:=h;exact bp h) ?_ ?_
 ·rintro i x ab az av ⟨iM,HA,na,lr,o8,rfl⟩
  obtain⟨o,rfl,bQ⟩:∃o,x=.ref o/\bG c [] H g o:=by
   match i,av with
   |0,av=>cases av;exact⟨_,I,oy⟩
   |1,av=>cases av;exact⟨_,I,Dn⟩
  have Dp:=bG.keep (fun b u _ e=>iM.s b u e) g bQ;have NW:=dZ.same iM.s _ mV;have aks:=dZ.same iM.s _ db;obtain⟨oj,mv,gn,oI⟩:=bG.fits g Dp;obtain⟨aaZ,ab0,lN,qc⟩:=bG.read g Dp;refine⟨_,I,o,slot g,oj,mv,I,gn,oI,_,I,o,g,du,a,I,I,Dp,iR,by lia,NW,kx.b,ao,rfl,rfl,_,rfl,kp rfl ?_⟩;refine⟨_,I,o,slot g,aaZ,ab0,I,lN,qc,_,I,.inr ⟨_,_,I,I,?_,?_⟩⟩
  .exact gg (by rw[fu];show _+2<=_;lia)
  rw[aa6];refine⟨o,g,a,bO en g a++[aI,ao],0,I,Dp,iR,by lia,by rw[bE];show _+2<=_;lia,UF _,kx.b,List.prefix_append ..,fun v b5 t x8 aaW qg jM=>?_⟩;rw[Nat.zero_add]at jM;have aaV:dZ b5 (.tup [a,.int (((bO en g a).length:Nat):Int)]) (.ref t):=⟨t,_,rfl,jM,⟨_,_,rfl,cg.at _ aaW,_,_,rfl,rfl,rfl⟩,by show 2<=1000;decide⟩;have sP:=P8 kx.s kx.l (by decide) (show(bO en g a).length<=16000000 by lia);have yJ:fK (.tup [a,.int (((bO en g a).length:Nat):Int)])<=60:=by have:=kx.h;simp only[fK,gb];lia
  refine⟨_,I,.inl ⟨_,_,_,_,I,.tup jM,oJ K (.tup []) (by decide),_,I,e2 ?_⟩⟩;refine⟨_,I,t,_,I,aaV,sP.1,sP.2,yJ,_,I,_,I,_,_,I,⟨gg (by rw[fu];lia),I⟩,hH,fun T bW=>?_⟩;rw[fu];have f7:=x8.trans (Ext.tup (xs:=[du,.int (((bO en g a).length:Nat):Int)]) bW);refine⟨T,.tup [a,.int (((bO en g a).length:Nat):Int)],I,⟨T,_,I,aB,⟨_,_,I,dZ.same f7.s _ NW,_,_,I,I,I⟩,by show 2<=1000;decide⟩,sP.1,sP.2,yJ,rfl,_,rfl,kp rfl ?_⟩;have og:=iM.trans f7;have NY:=f7.s _ _ HA;generalize upd b5 T (.tup [du,.int (((bO en g a).length:Nat):Int)])=gW at og NY ⊢;have ck:∀{f:aU}{o:ag},bG c [] H f o->bG c [] gW f o:=fun h=>bG.keep (fun b u _ e=>og.s b u e) _ h;obtain⟨aa0,ab1,pP,IY⟩:=bG.ahead g (ck bQ);refine⟨_,I,o,slot g,aa0,ab1,I,pP,IY,_,I,_,I,o,g,a,b,du,gi,I,I,⟨ck bQ,aF,by lia,dZ.same og.s _ mV,dZ.same og.s _ db,kx.b,vM.b,by have:=kx.h;lia,by have:=vM.h;lia⟩,?_⟩;refine⟨_,I,.inl ⟨_,_,_,_,I,.aS _,oJ K (.aS ao) (by decide),_,I,e2 ?_⟩⟩;refine⟨_,I,_,I,_,I,iU,slot g,yL,kO,I,og.s _ _ aR,fD,_,I,slot g,iU,g,gi,b,I,I,ck Dn,iR,by lia,dZ.same og.s _ db,vM.b,by lia,.inr ⟨_,_,rfl,rfl,?_⟩⟩;rw[<-VA aF kx.b vM.b];exact⟨I,_,I,kp I ⟨og,NY,_,_,_,I⟩⟩
 rintro ab az ⟨iM,_,_,_,_,rfl⟩;exact⟨H,.refl iM.s,q⟩
mutual
theorem FA:∀f:aU,5*dt f<=(bq f).length
 |.bare k=>by
  have:∀k,5<=(eT k).cps.toList.length:=⋯;rw[dt,bq];exact this k
 |.sp a b=>by rw[dt,bq,bE,bE,pJ,show(bN "span").length=4 by decide+kernel];show 5<=4+(1+_);lia
 |.le s=>by rw[dt,bq,bE,show(bN "letters").length=7 by decide+kernel];lia
 |.one k f=>by
  have ai:∀k,4<=(dV k).cps.toList.length:=⋯;have aj:=ai k;have bt:=FA f;rw[dt,bq,bE,bE,bE,pJ];show _<=_+(1+_);lia
 |.two k ns fs=>by
  have ai:∀k,6<=(ez k).cps.toList.length:=⋯;have aj:=ai k;have bt:=KJ fs ns;rw[dt,bq,bE,bE,bE];lia
theorem KJ:∀(fs:List aU)(ns:List aa),5*f5 fs<=(fi fs ns).length
 |[],ns=>by rw[f5];exact UF _
 |f::fs,ns=>by
  have ai:=FA f;have aj:=KJ fs ns.tail;cases fs with
  |nil=>simp only[f5,fi,bE];lia
  |cons a b=>rw[f5,fi.eq_def];simp only[bE];lia
end
theorem ML{f:aU}(h:dY f):∀n,gv (List.replicate n f)/\dv (List.replicate n f)<=aP f/\∀ns:List aa,(∀x,x∈ns->x.length<=12)->(fi (List.replicate n f) ns).length<=n*((bq f).length+15)
 |0=>⟨by rw[List.replicate_zero,gv];trivial,by rw[List.replicate_zero,dv];exact UF _,fun ns _=>by rw[List.replicate_zero,fi];exact UF _⟩
 | n+1=>by
  obtain⟨a,b,c⟩:=ML h n;rw[List.replicate_succ];refine⟨by rw[gv];exact⟨h,a⟩,by rw[dv];lia,fun ns bj=>?_⟩;have c:=c ns.tail fun x av=>bj x (List.mem_of_mem_tail av)
  have bJ:(ns.headD aa.empty).cps.toList.length<=12:=by
   cases ns with
   |nil=>decide
   |cons x r=>rw[fA];exact bj x (g0 ..)
  have bZ:(bN " ").length=1/\(bN ", ").length=2:=⋯;rw[Nat.add_mul,Nat.one_mul];cases n with
  |zero=>rw[List.replicate_zero];simp only[fi,bE,List.length_nil];lia
  |succ n=>rw[List.replicate_succ]at c ⊢;rw[fi.eq_def];simp only[bE];lia
theorem Nx{X:List ag}{H:aq}{f:aU}{v:V}(h:cg X H (dA f) v):∀n,cQ X H (fG (List.replicate n f)) (List.replicate n v)
 |0=>by rw[List.replicate_zero,fG];rfl
 |n+1=>by rw[List.replicate_succ,List.replicate_succ,fG];exact⟨_,_,I,h,Nx h n⟩
inductive Qe(vs:List V)(H:aq)(Q:bI)(E:cP):Prop where
 |mk (v:V) (f:aU) (bb:vs=[v]) (ai:s7 [] H f v 8 18000) (aj:∀qt wM H',Ext H H'->s7 [] H' wM qt 8 18000->Q qt H')
def Zb(nb:dD mg)(F:dB K mg "_law_alike" Gh ["_law_tree_here"] f fd)(rC:bf P w K mg zn 9 "_law_text" ["_law_tree_here"] (Rw 8)):bf P w K mg zn 10 "_law_alike" ["_law_tree_here"] Qe:=by show_term
 refine F.eH x3 (fun H vs Q E au h=>?_);obtain⟨v,g,rfl,gN,q⟩:=h;obtain⟨ex,lP⟩:=CY g;have lj:=gN.x;rw[lP]at lj;obtain⟨T,du,l,hL,rfl,ec,aN,_,fc,fW,aC⟩:=Hz lj
 refine⟨_,(aO (yD (af 0) (qP I (iZ (d4 (i:=1) x3.br I (by exact Or.inl rfl)) (iZ (d4 (i:=2) x3.br I (by exact Or.inl rfl)) (iZ (d4 (i:=3) x3.br I (by exact Or.inl rfl)) qN)))))
  (ys (cq (gA.pt (rX (bV kY (af 1) bu) (tp (bV kY (af 1) bu)))) (aL (aY (af 0))) cm)
  (aO (b4 4 x3.br (gJ (ak (af 1) (ak (af 2) (ak (aM Wd (e0 (ak (cI cJ (af 3) aH) ay)) (c1 eh rfl nb.d5 ea (ak (af 3) ay))) ay)))))
  (aL (aY (cI cJ (e0 (ak (af 0) (ak (af 4) ay))) (mj wk rfl nb.vh uN (ak (g4 iV (c1 eh rfl nb.d5 ea (ak (b7 rC au (ak (af 4) ay)) ay)) aH) ay)))))))),?_⟩
 ac_rfl;refine⟨_,I,T,_,I,dy ec,I,_,_,I,_,_,I,_,_,I,I,?_⟩;by_cases aj:∃k ns fs,g=.two k ns fs
 ·obtain⟨k,ns,fs,rfl⟩:=aj;obtain rfl:ex=.lst (ns.map .str):=by rw[dA]at lP;injection lP with h;injection h with _ h;injection h with h _;exact h.symm
  have aF:=gN.o;have bY:=gN.h;have j1:=gN.l;have alf:=gN.s;rw[dY]at aF;rw[aP]at bY;obtain⟨eA,gF,DH⟩:=aF;have oB:=jf eA;have fW:cQ [] H (fG fs) hL:=fW;have h1:hL.length=fs.length:=by rw[dw.len _ (cQ.at _ fW),tl]
  have zk:0<fs.length:=by
   rw[<-gF];rcases Nat.eq_zero_or_pos ns.length with z|z
   .rw[List.length_eq_zero_iff.mp z]at eA;cases eA
   .exact z
  obtain⟨v0,fl⟩:∃v0,hL[0]?=J v0:=⟨_,cw (show 0<hL.length by lia)⟩;obtain⟨pN,q2,hd⟩:=yA _ fW fl;obtain⟨g1,bh,rfl⟩:=uK (fs:=fs) q2;obtain⟨qi,oA⟩:=tg DH bh;obtain⟨a,xm,rfl,_,cD,fV,_⟩:=aN;obtain rfl:=yn (cQ.at _ fV);have k1:∀k:Fin 2,V.str (ez k)=V.str "record"\/¬V.str (ez k)=V.str "record"/\V.str (ez k)=V.str "choice":=⋯;refine⟨fun ab H'=>H=H'/\ab=[J (.ref T),J (.str (ez k)),J (.ref a),J (.ref l),aA],?_,?_⟩
  ·rcases k1 k with z|⟨z,d2⟩
   .exact⟨_,I,I,_,I,kp z (e2 ⟨I,I⟩)⟩
   .exact⟨_,I,I,_,I,xd z ⟨_,I,I,_,I,kp d2 ⟨I,I⟩⟩⟩
  rintro ab _ ⟨rfl,rfl⟩;refine⟨_,I,_,I,_,I,xz fc (dF fl) ⟨qQ,fun b al=>⟨_,I,_,_,I,.inl ⟨_,bp ((cZ al) _ _ fc),I⟩,b,_,[v0],I,I,aB,by lia,by lia,?_,fun r au=>⟨(by show 3<=cp;decide),fun jF iD=>?_⟩⟩⟩⟩
  .rw[h1];show 1*_<=_;exact gg (by lia)
  rw[h1,show(((fs.length:Nat):Int)).toNat=fs.length by lia]at iD ⊢
  have Df:(List.replicate fs.length [v0]).flatten=List.replicate fs.length v0:=by
   clear iD q2 bh zk;generalize fs.length=n
   induction n with
   |zero=>rfl
   |succ n bP=>rw[List.replicate_succ,jH,bP,List.replicate_succ];rfl
  rw[Df]at iD ⊢;have eV:=Ext.lst (xs:=[v0]) al;have eP:=eV.trans (Ext.lst (xs:=List.replicate fs.length v0) au);have ib:=Ext.tup (xs:=[V.str (ez k),.ref a,.ref r]) iD;have E:=eP.trans ib;obtain⟨b9,ej,zT⟩:=ML qi fs.length;have PU:=zT ns oB.2;have vo:∀x:ag,x∉([]:List ag):=fun x av=>nomatch av
  have w2:(bq (.two k ns (List.replicate fs.length g1))).length<=400000:=by
   have c8:=wm fs ns gF 0 g1 (ns[0]'(by lia)) bh (cw (by lia));have bJ:∀k,(ez k).cps.toList.length<=6:=⋯;have bZ:=bJ k;have kU:(bN "(").length=1/\(bN ")").length=1:=⋯;rw[bq,bE,bE,bE]at j1 ⊢;have:=Nat.mul_le_mul (show fs.length<=20 by lia) (show(bq g1).length+15<=18015 by lia);lia
  have NU:cg [] (upd (upd (upd H b (.lst [v0])) r (.lst (List.replicate fs.length v0))) jF (.tup [V.str (ez k),.ref a,.ref r])) (dA (.two k ns (List.replicate fs.length g1))) (.ref jF):=by
   rw[dA];exact oj aB (vo _) (c5 (wl.2.2 k) (by decide)) (kk (vo _) (E.s _ _ cD) (ym oB.2) (by rw[cd];lia)) (kk (vo _) (ib.s _ _ aB) (Nx (cg.same E.s hd) _) (by rw[List.length_replicate];lia))
  have dN:dY (.two k ns (List.replicate fs.length g1)):=by rw[dY,List.length_replicate];exact⟨eA,gF,b9⟩
  have fm:aP (.two k ns (List.replicate fs.length g1))<=8:=by rw[aP];lia
  have gE:=mT (bq (.two k ns (List.replicate fs.length g1)));generalize upd (upd (upd H b (.lst [v0])) r (.lst (List.replicate fs.length v0))) jF (.tup [V.str (ez k),.ref a,.ref r])=H1 at E NU ⊢;refine⟨_,I,_,I,hH,fun L i1=>?_⟩;have f7:=Ext.lst (xs:=[V.ref T,.ref jF]) i1;have NV:=cg.same f7.s NU;refine⟨_,I,_,_,I,cg.at _ NV,dN,fm,w2,_,_,I,⟨gg (by lia),I⟩,.inl ⟨_,_,I,I,.inl (.inr ⟨_,I,?_⟩)⟩⟩;have ale:=FA (.two k ns (List.replicate fs.length g1));by_cases z:(((⟨(bq (.two k ns (List.replicate fs.length g1))).toArray⟩:aa).length:Nat):Int)<600
  ·rw[eK z];exact (xz aB (dF (j:=1) I) ⟨_,(E.trans f7).sub,q _ _ _ (E.trans f7) ⟨NV,dN,fm,by lia,by lia⟩⟩)
  ·rw[e8 z];exact (xz aB (dF (j:=0) I) ⟨_,(E.trans f7).sub,q _ _ _ (E.trans f7) ⟨cg.same (E.trans f7).s gN.x,gN.o,gN.h,gN.l,gN.s⟩⟩)
 ·have t7:¬V.str (gw g)=V.str "record"/\¬V.str (gw g)=V.str "choice":=by
   have ai:∀k,¬V.str (eT k)=V.str "record"/\¬V.str (eT k)=V.str "choice":=⋯;have bt:∀k,¬V.str (dV k)=V.str "record"/\¬V.str (dV k)=V.str "choice":=⋯;cases g with
   |bare k=>exact ai k
   |one k f=>exact bt k
   |two k ns fs=>exact absurd ⟨k,ns,fs,I⟩ aj
   |sp a b=>exact(by decide+kernel:¬V.str "span"=V.str "record"/\¬V.str "span"=V.str "choice")
   |le s=>exact(by decide+kernel:¬V.str "letters"=V.str "record"/\¬V.str "letters"=V.str "choice")
  exact⟨fun _ _=>False,⟨_,I,I,_,I,xd t7.1 ⟨_,I,I,_,I,xd t7.2 ⟨_,I,H,.refl (cK _),q _ g H (Ext.refl H) gN⟩⟩⟩,fun _ _ h=>h.elim⟩
def LX{K:bT}{g:gY}{D:ag}(S:St->Prop)(bX:xs.length<=100000)(bb:S fO)(b2:H D=aA)(aC:c4 K H a xs)
  (aP:∀(i:Nat)x,xs[i]?=J x->∀b0 H1,S b0->et H H1->∀R:St->V->aq->Prop,(∀bD(n:Int),S bD->R bD (.int n) H1)->g x b0 H1 fun bD az=>cT bD az fun y b5=>R bD y b5)
  (bl:∀(ns:List Int)(H':aq),ns.length=xs.length->et H H'->H' D=J (.lst (ns.map V.int))->Q (.ref D) H'):mK (rF K a) g oX cT Q fO H D:=by
 refine Cm (fun i aw az=>et H az/\∀y∈aw,∃n:Int,y=.int n) S bX bb (fun i aw az h=>h.1.seq aC) ⟨cZ b2,fun y ba=>nomatch ba⟩ ?_ ?_
 ·rintro i x av aw b0 H1 c7 ⟨s1,ba⟩ km _ R cL;refine aP i x av b0 H1 c7 s1 _ fun bD n aj=>cL bD _ H1 aj km ⟨fun b u e=>by rw[bx (hz e b2)];exact s1 b u e,fun y h=>?_⟩;rcases List.mem_append.mp h with z|z
  .exact ba y z
  .exact⟨n,eB.mp z⟩
 ·rintro aw H' aC km ⟨s1,ba⟩;obtain⟨ns,rfl,e⟩:=Hh aw ba;exact bl ns H' (by rw[e,aC]) s1 km
inductive Qn(n:Nat)(vs:List V)(H:aq)(Q:bI)(E:cP):Prop where
 |mk (v:V) (f:aU) (bb:vs=[v]) (ai:dZ H (dA f) v) (aj:aP f<=n) (bt:∀i:Int,Q (.int i) H)
def K3{f:aU}{n:Nat}(h:dZ H (dA f) v)(bj:aP f<=n+1):∃T w du l hL,v=.ref T/\H T=J (.tup [w,du,.ref l])/\H l=J (.lst hL)/\hL.length<=1000/\∀(i:Nat)x,hL[i]?=J x->∃g,dZ H (dA g) x/\aP g<=n:=by
 obtain⟨ex,lP⟩:=CY f;have h':=h;rw[lP]at h';obtain⟨T,_,rfl,ec,⟨_,_,rfl,⟨rfl,_⟩,du,_,rfl,aN,_,_,rfl,⟨l,hL,rfl,fc,hd,fg⟩,rfl⟩,_⟩:=h';refine⟨T,_,du,l,hL,I,ec,fc,fg,fun i x av=>?_⟩;obtain⟨pN,q2,hd⟩:=dw.get _ hd av;obtain⟨g,bh,rfl⟩:=uK q2;refine⟨g,hd,?_⟩
 have key:∀{fs:List aU}{i:Nat}{g:aU},fs[i]?=J g->aP g<=dv fs:=by
  intro fs
  induction fs with
  |nil=>intro i g h;cases h
  |cons f fs bP =>
   intro i g h;rw[dv];cases i with
   |zero=>cases h;lia
   |succ i=>have:=bP (i:=i) h;lia
 have ai:=key bh;cases f<;>simp only[iE,aP,dv]at ai bj<;>lia
def Yp(nb:dD mg)(F:dB K mg "_law_many" Cd ["_law_tree_here"] f fd)(xO:bf P w K mg zn (n+1) "_law_many" ["_law_tree_here"] (Qn n)):bf P w K mg zn (n+1+1) "_law_many" ["_law_tree_here"] (Qn (n+1)):=by
 refine F.eH Zt (fun H vs Q E au h=>?_);obtain⟨v,g,rfl,hd,bj,q⟩:=h;obtain⟨T,w,du,l,hL,rfl,ec,fc,aC,bh⟩:=K3 hd bj;refine⟨_,(aL (aY (aM cv aH (c1 (Ub I) I nb.aiT Wy (ak (iA ["_law_one"] [] I ⋯ trivial (jw (cI cJ (af 0) aH)) (d4 (i:=0) (show(["_law_one"]:List aa).Nodup by decide+kernel)) hW (b7 xO au (ak (af 0) ay))) ay))))),?_⟩;ac_rfl;refine .inl ⟨_,I,x0 ec (dF (j:=2) I) ⟨l,I,⟨_,bp fc⟩,fun D b2=>?_⟩⟩;refine LX (fun ab=>∃z,ab=[z]) (by lia) ⟨_,I⟩ b2 (bp fc) ?_ ?_
 ·rintro i x av b0 H1 ⟨z,rfl⟩ s1 R cL;obtain⟨g1,ai,aj⟩:=bh i x av;exact⟨_,I,x,g1,I,dZ.same s1 _ ai,aj,fun n=>cL _ n ⟨_,I⟩⟩
 intro ns H' gF s1 iC;exact⟨D,ns,I,bp iC,fun i =>.inl ⟨_,_,I,I,H,.refl s1,q _⟩⟩
theorem Ly(nb:dD mg)(F:dB K mg "_law_many" Cd ["_law_tree_here"] f fd):∀n,bf P w K mg zn (n+1) "_law_many" ["_law_tree_here"] (Qn n)
 |0=>bf.none F fun vs H Q E z=>by obtain⟨_,g,_,_,h,_⟩:=z;have:=oh g;lia
 |n+1=>Yp nb F (Ly nb F n)
def Yr(nb:dD mg)(F:dB K mg "_law_deep" Cf ["_law_tree_here"] f fd)(xM:bf P w K mg zn (n+1) "_law_deep" ["_law_tree_here"] (Qn n)):bf P w K mg zn (n+1+1) "_law_deep" ["_law_tree_here"] (Qn (n+1)):=by
 refine F.eH Zu (fun H vs Q E au h=>?_);obtain⟨v,g,rfl,hd,bj,q⟩:=h;obtain⟨T,w,du,l,hL,rfl,ec,fc,aC,bh⟩:=K3 hd bj;refine⟨_,(aL (aY (aM tW aH (c1 (Ud I) I nb.Pw K2 (ak (aM tW (e0 (ak aH ay)) (iA ["_law_one"] [] I ⋯ trivial (jw (cI cJ (af 0) aH)) (d4 (i:=0) (show(["_law_one"]:List aa).Nodup by decide+kernel)) hW (b7 xM au (ak (af 0) ay)))) ay))))),?_⟩;ac_rfl;refine⟨qQ,fun L i1=>?_⟩;have s0:=cZ (o:=de.lst [V.int 0]) i1;refine .inl ⟨_,I,x0 (s0 _ _ ec) (dF (j:=2) I) ⟨l,I,⟨_,bp (s0 _ _ fc)⟩,fun D b2=>?_⟩⟩;refine LX (fun ab=>∃z,ab=[z]) (by lia) ⟨_,I⟩ b2 (bp (s0 _ _ fc)) ?_ ?_
 ·rintro i x av b0 H1 ⟨z,rfl⟩ s1 R cL;obtain⟨g1,ai,aj⟩:=bh i x av;exact⟨_,I,x,g1,I,dZ.same (s0.trans s1) _ ai,aj,fun n=>cL _ n ⟨_,I⟩⟩
 intro ns H' gF s1 iC;exact .inr ⟨L,D,_,_,I,I,s1 _ _ aB,iC,gg (by rw[cd];show 1+_<=_;lia),fun p aX=>⟨p,0::ns,I,bp aB,by simp,fun i =>.inl (.inl ⟨_,_,rfl,rfl,H,.refl ((s0.trans s1).trans (cZ aX)),q _⟩)⟩⟩
theorem LA(nb:dD mg)(F:dB K mg "_law_deep" Cf ["_law_tree_here"] f fd):∀n,bf P w K mg zn (n+1) "_law_deep" ["_law_tree_here"] (Qn n)
 |0=>bf.none F fun vs H Q E z=>by obtain⟨_,g,_,_,h,_⟩:=z;have:=oh g;lia
 |n+1=>Yr nb F (LA nb F n)
def Pu{c:c9}{k:Fin 2}{y bJ bZ:ag}{os:List ag}{fs:List aU}(ba:H y=aA)(kn:H ah=aA)(hB:ah≠y)(ai:upd (upd H ah (.own y)) y (.ins (c.t k) ah []) bJ=aA)(aj:upd (upd H ah (.own y)) y (.ins (c.t k) ah []) bZ=aA)(ep:bJ≠bZ)(bQ:d0 c [] H fs os):
  Ext H (upd (upd (upd (upd (upd H ah (.own y)) y (.ins (c.t k) ah [])) bJ (.lst (ns.map V.str))) bZ (.lst (os.map V.ref))) y (.ins (c.t k) ah (k0 bJ bZ)))/\bG c [] (upd (upd (upd (upd (upd H ah (.own y)) y (.ins (c.t k) ah [])) bJ (.lst (ns.map V.str))) bZ (.lst (os.map V.ref))) y (.ins (c.t k) ah (k0 bJ bZ))) (.two k ns fs) y:=by
 have dc:bJ≠y:=fun z=>by rw[z,aB]at ai;cases ai
 have dm:bZ≠y:=fun z=>by rw[z,aB]at aj;cases aj
 rw[oc dm,oc dc,eS];have gy:=Ext.made (C:=c.t k) (fs:=k0 bJ bZ) ba kn hB;have g1:upd (upd H ah (.own y)) y (.ins (c.t k) ah (k0 bJ bZ)) bJ=aA:=by rw[bx dc]at ai ⊢;exact ai
 have fH:=Ext.lst (xs:=ns.map V.str) g1;have g2:upd (upd (upd H ah (.own y)) y (.ins (c.t k) ah (k0 bJ bZ))) bJ (.lst (ns.map V.str)) bZ=aA:=by rw[bx (fJ ep)];rw[bx dm]at aj ⊢;exact aj
 have ji:=Ext.lst (xs:=os.map V.ref) g2;have E:=(gy.trans fH).trans ji;have vo:∀x:ag,x∉([]:List ag):=fun x av=>nomatch av;exact⟨E,vo _,ah,bJ,bZ,os,(fH.trans ji).s _ _ aB,vo _,vo _,ji.s _ _ aB,aB,d0.keep (fun b u _ e=>E.s b u e) _ bQ⟩
noncomputable def f1(g:aU):aU :=.two 0 [aa.ofString "q"] [g]
noncomputable def f2(g:aU):aU :=.two 1 [aa.ofString "r",aa.ofString "qq"] [g,g]
noncomputable def mu(n:aa)(d:D):D :=.tup [.str n,d]
def afF(h:dY g):dY (f1 g)/\dY (f2 g)/\aP (f1 g)=aP g+1/\aP (f2 g)=aP g+1:=by
 refine⟨?_,?_,?_,?_⟩
 .rw[f1,dY,gv,gv];exact⟨by decide+kernel,rfl,h,trivial⟩
 .rw[f2,dY,gv,gv,gv];exact⟨by decide+kernel,rfl,h,h,trivial⟩
 .rw[f1,aP,dv,dv];lia
 .rw[f2,aP,dv,dv,dv];lia
def aiM(g:aU):(aa.ofString "record(q "++⟨(bq g).toArray⟩)++aa.ofString ")"=⟨(bq (f1 g)).toArray⟩/\((((aa.ofString "choice(r "++⟨(bq g).toArray⟩)++aa.ofString ", qq ")++⟨(bq g).toArray⟩)++aa.ofString ")")=⟨(bq (f2 g)).toArray⟩/\(bq (f1 g)).length=(bq g).length+10/\(bq (f2 g)).length=2*(bq g).length+15:=by
 have t7:(aa.ofString "record(q ").cps.toList=(ez 0).cps.toList++(bN "("++((aa.ofString "q").cps.toList++bN " ")):=⋯;have k1:(aa.ofString "choice(r ").cps.toList=(ez 1).cps.toList++(bN "("++((aa.ofString "r").cps.toList++bN " ")):=⋯;have qu:(aa.ofString ", qq ").cps.toList=bN ", "++((aa.ofString "qq").cps.toList++bN " "):=⋯
 have aQ:((aa.ofString "record(q "++⟨(bq g).toArray⟩)++aa.ofString ")").cps.toList=bq (f1 g):=by
  rw[fS,fS,t7,rY,f1,bq,od,lZ];simp only[eC,List.append_nil,List.nil_append];rfl
 have aR:((((aa.ofString "choice(r "++⟨(bq g).toArray⟩)++aa.ofString ", qq ")++⟨(bq g).toArray⟩)++aa.ofString ")").cps.toList=bq (f2 g):=by
  rw[fS,fS,fS,fS,k1,qu,rY,f2,bq,od,lZ,od,lZ];simp only[eC,List.append_nil,List.nil_append];rfl
 have bJ:(aa.ofString "record(q ").length=9/\(aa.ofString ")").length=1/\(aa.ofString "choice(r ").length=9/\(aa.ofString ", qq ").length=5:=⋯;have nG:=mT (bq g);refine⟨mc aQ,mc aR,?_,?_⟩
 ·rw[<-aQ,fA];show((aa.ofString "record(q "++⟨(bq g).toArray⟩)++aa.ofString ")").length=_;rw[el,el,nG];lia
 ·rw[<-aR,fA];show((((aa.ofString "choice(r "++⟨(bq g).toArray⟩)++aa.ofString ", qq ")++⟨(bq g).toArray⟩)++aa.ofString ")").length=_;rw[el,el,el,el,nG];lia
def PN(g:aU)(d:D):dx (f2 g) (mu (aa.ofString "r") d) (mu (aa.ofString "qq") d)<0:=by
 have bj:¬sI (mu (aa.ofString "r") d)=sI (mu (aa.ofString "qq") d):=show ¬aa.ofString "r"=aa.ofString "qq" by decide+kernel
 rw[f2,dx,if_neg (by decide),if_neg bj];show sgn (([aa.ofString "r",aa.ofString "qq"].idxOf (aa.ofString "r"):Nat):Int) (([aa.ofString "r",aa.ofString "qq"].idxOf (aa.ofString "qq"):Nat):Int)<0;decide+kernel
def hf.one(A:hf [] H g d v m)(e:H T=J (.tup [v])):hf [] H (f1 g) (.tup [d]) (.ref T) (m+5)/\bO en (f1 g) (.tup [d])=bO en g d:=by
 have h:jd [] H [g] [d] [v] (0+m+2) (dv [g]+1):=jd.nil.snoc A (by rw[dv,dv];lia);refine⟨(h.P0 (ns:=[aa.ofString "q"]) (fun z=>nomatch z) e (by show 1<=1000;decide)).le (by lia),?_⟩;rw[f1,bO,if_pos rfl];show gf en [g] [d]=_;rw[gf];show bO en g d++gf en [] []=_;rw[gf,List.append_nil]
def hf.two{n:aa}(A:hf [] H g d v m)(bj:n=aa.ofString "r"\/n=aa.ofString "qq")(e:H T=J (.tup [.str n,v])):hf [] H (f2 g) (mu n d) (.ref T) (m+150):=by
 have bh:iQ [aa.ofString "r",aa.ofString "qq"]=ao:=⋯;have fg:aP g<=dv [g,g]:=by rw[dv];lia
 rcases bj with rfl|rfl
 .exact A.Hx (i:=0) bh I I I fg (fun z=>nomatch z) e
 .exact A.Hx (i:=1) bh I I I fg (fun z=>nomatch z) e
inductive Rp(c:c9)(vs:List V)(H:aq)(Q:bI)(E:cP):Prop where
 |mk (vC:V) (o lv:ag) (f:aU) (us:List V) (bb:vs=[vC,.ref o,.str ⟨(bq f).toArray⟩,.ref lv]) (ai:dZ H (dA f) vC) (aj:bG c [] H f o) (bt:dY f) (cf:aP f<=8) (eF:(bq f).length<=18000) (gD:H lv=J (.lst us)) (kl:us.length<=3) (kP:(∀(i:Nat)v,us[i]?=J v->∃d,hf [] H f d v 3000000)) (r7:Q (.aS ao) H)
def YI(nb:dD mg)(F:dB K mg "_law_shared" F5 ["_law_tree_here","_law_made_here","_law_text_here","_law_values"] f fd)(xM:bf P w K mg zn 9 "_law_deep" ["_law_tree_here"] (Qn 8))(xO:bf P w K mg zn 9 "_law_many" ["_law_tree_here"] (Qn 8))(l9:gX P w K mg zn 4 "Record" (c.t 0) ["self","parts"] (Rv (c.t 0)))(l8:gX P w K mg zn 4 "Choice" (c.t 1) ["self","cases"] (Rv (c.t 1)))(kz:eZ P w K mg zn 21 "shown" ["self"] (eb c) (Rj c 9))(pd:eZ P w K mg zn 23 "row" ["self","value"] (eb c) (fun _=>Eg hasAll dh en c 9))(vL:eZ P w K mg zn 23 "read" ["self","signs","at"] (eb c) (fun _=>Rd hasAll dh en c 9))(lu:eZ P w K mg zn 22 "ahead" ["self","one","other"] (eb c) (Qc c 9)):bf P w K mg zn 24 "_law_shared" ["_law_tree_here","_law_made_here","_law_text_here","_law_values"] (Rp c):=by show_term
 refine F.eH xW (fun H vs Q E au h=>?_);obtain⟨vC,o,lv,g,us,rfl,bW,bQ,aF,bY,c0,N4,zz,y0,q⟩:=h
 refine⟨_,(ys (cq (gA.pt (jD (bV lY (b7 xM au (ak (af 0) ay)) aH) (kh (bV lY (b7 xO au (ak (af 0) ay)) aH)))) (aL (aY iY)) cm)
  (aO (b4 4 xW.br (kH l9 au (ak (e0 (ak (gJ (ak bu (ak (af 1) ay))) ay)) ay)))
  (aO (b4 5 xW.br (kH l8 au (ak (e0 (ak (gJ (ak bu (ak (af 1) ay))) (ak (gJ (ak bu (ak (af 1) ay))) ay))) ay)))
  (aO (cq (gA.pt (jD (bV kY (qL kz au (af 4)) (aM cv (aM cv bu (af 2)) bu)) (kh (bV kY (qL kz au (af 5)) (aM cv (aM cv (aM cv (aM cv bu (af 2)) bu) (af 2)) bu))))) (aL (aY iY)) cm)
  (aO (mS iu.never rfl (jw (af 3)) (d4 (i:=6) xW.br rfl (by exact Or.inl I))
   (aO (b4 7 xW.br (e0 (ak (gB pd au (af 5) (ak (gJ (ak bu (ak (af 6) ay))) ay)) (ak (gB pd au (af 5) (ak (gJ (ak bu (ak (af 6) ay))) ay)) ay))))
   (aO (cq (gA.pt (jD (bV kY (gB pd au (af 4) (ak (gJ (ak (af 6) ay)) ay)) (gB pd au (af 1) (ak (af 6) ay))) (jD (bV TH (cI cJ (af 7) aH) (cI cJ (af 7) aH)) (kh (jI (h5 (gB lu au (af 5) (ak (gJ (ak bu (ak (af 6) ay))) (ak (gJ (ak bu (ak (af 6) ay))) ay))))))))) (aL (aY iY)) cm)
   (aL (cq (bV kY (c1 (Cy _ au) rfl nb.D5 CV (ak (gB vL au (af 5) (ak (cI cJ (af 7) aH) (ak aH ay))) ay)) (c1 (Cy _ au) rfl nb.D5 CV (ak (gJ (ak (gJ (ak bu (ak (af 6) ay))) (ak (c1 eh rfl nb.d5 ea (ak (cI cJ (af 7) aH) ay)) ay))) ay))) (aL (aY iY)) cm)))))
  (aL (aY (k9 (g4 dn (qL kz au (af 4)) (aM cv (aM cv bu (af 2)) bu)) (md (g4 dn (qL kz au (af 1)) (af 2))))))))))),?_⟩
 ac_rfl;refine⟨fun ab H'=>H=H'/\ab=[J vC,J (.ref o),J (.str ⟨(bq g).toArray⟩),J (.ref lv),aA,aA,aA,aA],?_,?_⟩
 .exact⟨_,I,vC,g,I,bW,bY,fun i=>⟨_,_,I,I,_,I,fM (fun _=>ho ⟨H,.refl (cK _),q⟩) (fun _=>⟨_,I,vC,g,I,bW,bY,fun j=>⟨_,_,I,I,_,I,fM (fun _=>⟨H,.refl (cK _),q⟩) (fun _=>⟨I,I⟩)⟩⟩)⟩⟩
 rintro ab _ ⟨rfl,rfl⟩;refine⟨_,I,hH,fun gN mZ=>⟨qQ,fun Kc H2=>?_⟩⟩;intro y ah ba kn hB;have eV:=(Ext.tup (xs:=[V.str "q",.ref o]) mZ).trans (Ext.lst (xs:=[V.ref gN]) H2);have ck:∀{H1 az:aq}{f:aU}{o:ag},Ext H1 az->bG c [] H1 f o->bG c [] az f o:=fun X h=>bG.keep (fun b u _ e=>X.s b u e) _ h;have E1:=Ext.made (C:=c.t 0) (fs:=[]) ba kn hB;refine⟨y,ah,Kc,[(gN,aa.ofString "q",o)],I,aB,⟨E1.s _ _ aB,fun x av=>?_,by show 1<=30;decide,fun x av=>?_⟩,(by show iQ [aa.ofString "q"]=ao;decide+kernel),fun bJ bZ ai aj ep=>⟨rfl,?_⟩⟩
 .rw[eB.mp av];exact E1.s _ _ ((cZ H2) _ _ aB)
 .rw[eB.mp av];show 1<=100;decide
 obtain⟨eP,gy⟩:=Pu (ns:=[aa.ofString "q"]) (os:=[o]) (fs:=[g]) ba kn hB ai aj ep ⟨o,[],rfl,ck eV bQ,rfl⟩;dsimp only[fv,hj,List.map]at eP gy ⊢;have mh:=eV.trans eP;generalize upd (upd (upd (upd (upd (upd (upd H gN _) Kc _) ah _) y _) bJ _) bZ _) y _=H1 at mh gy ⊢;refine⟨_,I,hH,fun jF iD=>⟨_,I,hH,fun x6 Dt=>⟨hH,fun c6 OA=>?_⟩⟩⟩;intro nR yL sr Ia zo;have ib:=Ext.tup (xs:=[V.str "r",.ref o]) iD;have f7:=Ext.tup (xs:=[V.str "qq",.ref o]) Dt;have hD:=Ext.lst (xs:=[V.ref jF,.ref x6]) OA;have fP:=(ib.trans f7).trans hD;have As:=Ext.made (C:=c.t 1) (fs:=[]) sr Ia zo;refine⟨nR,yL,c6,[(jF,aa.ofString "r",o),(x6,aa.ofString "qq",o)],I,aB,⟨As.s _ _ aB,fun x av=>?_,by show 2<=30;decide,fun x av=>?_⟩,(by show iQ [aa.ofString "r",aa.ofString "qq"]=ao;decide+kernel),fun kU Pm bt cf Oo=>⟨rfl,?_⟩⟩
 ·rcases dJ.mp av with z|z
  .rw[z];exact As.s _ _ ((f7.trans hD).s _ _ aB)
  .rw[eB.mp z];exact As.s _ _ (hD.s _ _ aB)
 ·rcases dJ.mp av with z|z
  .rw[z];show 1<=100;decide
  .rw[eB.mp z];show 2<=100;decide
 obtain⟨l6,fH⟩:=Pu (ns:=[aa.ofString "r",aa.ofString "qq"]) (os:=[o,o]) (fs:=[g,g]) sr Ia zo bt cf Oo ⟨o,[o],rfl,ck (mh.trans fP) bQ,o,[],rfl,ck (mh.trans fP) bQ,rfl⟩;dsimp only[fv,hj,List.map]at l6 fH ⊢;have gy:=ck (fP.trans l6) gy;have iM:=mh.trans (fP.trans l6);generalize upd (upd (upd (upd (upd (upd (upd (upd H1 jF _) x6 _) c6 _) yL _) nR _) kU _) Pm _) nR _=az at iM gy fH ⊢;clear l6 fP hD f7 ib As bt cf mh eV ai aj;have gy:bG c [] az (f1 g) y:=gy;have fH:bG c [] az (f2 g) nR:=fH;clear mZ H2 ba kn hB ep iD Dt OA sr Ia zo Oo E1 eP;obtain⟨gr,fD,t1,f6⟩:=afF aF;have E4:=tr _ gr;have Ay:=tr _ fD;obtain⟨s1,s2,dc,dm⟩:=aiM g;have alp:(aa.ofString "record(q ").length=9/\(aa.ofString ")").length=1/\(aa.ofString "choice(r ").length=9/\(aa.ofString ", qq ").length=5:=⋯;have nG:=mT (bq g);refine⟨_,I,qM gy E4.1 (by lia) (by lia) (fun _ _ e l s=>⟨_,_,_,_,I,e,l,s⟩) ⟨_,I,.inr ⟨_,_,I,I,gg (by lia),.inr ⟨_,_,I,I,gg (by rw[el];lia),I,_,I,kp (by rw[s1]) ?_⟩⟩⟩⟩;refine⟨_,I,qM fH Ay.1 (by lia) (by lia) (fun _ _ e l s=>⟨_,_,_,_,I,e,l,s⟩) ⟨_,I,.inr ⟨_,_,I,I,gg (by lia),.inr ⟨_,_,I,I,gg (by rw[el];lia),_,I,.inr ⟨_,_,I,I,gg (by rw[el,el];lia),.inr ⟨_,_,I,I,gg (by rw[el,el,el];lia),I,_,I,kp (by rw[s2]) ?_⟩⟩⟩⟩⟩⟩;refine .inl ⟨_,I,lv,I,⟨_,bp (iM.s _ _ N4)⟩,?_⟩;refine yl (xs:=us) (fun i ab d7=>Ext az d7/\∃lr o8,ab=[J vC,J (.ref o),J (.str ⟨(bq g).toArray⟩),J (.ref lv),J (.ref y),J (.ref nR),lr,o8]) ⟨Ext.refl _,_,_,I⟩ (fun i ab d7 _ h=>bp (h.1.s _ _ (iM.s _ _ N4))) ?_ ?_
 ·rintro i v ab d7 cV ⟨iy,lr,o8,rfl⟩;obtain⟨d,Kw⟩:=y0 i v cV;have jG:=Kw.keep (cg.same (iM.trans iy).s Kw.x);have eX:∀{xR xS:aq},Ext xR xS->∀{f:aU}{d:D}{v:V}{m:Nat},hf [] xR f d v m->hf [] xS f d v m:=fun X _ _ _ _ W=>W.keep (cg.same X.s W.x);obtain⟨NX,Oi,cD,i4⟩:=bG.row (f2 g) (ck iy fH);obtain⟨aa1,ab2,eE,vk⟩:=bG.row (f1 g) (ck iy gy);obtain⟨aa2,ab3,pR,lc⟩:=bG.row g (ck (iM.trans iy) bQ);obtain⟨aa3,ab4,jq,ld⟩:=bG.ahead (f2 g) (ck iy fH);obtain⟨aa4,ab5,qT,le⟩:=bG.read (f2 g) (ck iy fH);have alJ:=jG.r;refine⟨_,I,nR,slot (f2 g),NX,Oi,I,cD,i4,_,I,hH,fun Fn acK=>?_⟩;have Bo:=Ext.tup (xs:=[V.str "r",v]) acK;have Bd:=(eX Bo jG).two (.inl rfl) aB;have alH:=Bd.r;refine⟨slot (f2 g),nR,f2 g,.ref Fn,mu (aa.ofString "r") d,I,I,ck (iy.trans Bo) fH,Ay,by lia,cg.at _ Bd.x,Bd.b,by lia,?_⟩;refine⟨_,I,nR,slot (f2 g),NX,Oi,I,Bo.s _ _ cD,i4,_,I,hH,fun Fo acL=>?_⟩;have Fw:=Bo.trans (Ext.tup (xs:=[V.str "qq",v]) acL);have Be:=(eX Fw jG).two (.inr rfl) aB;have aio:=Be.r;refine⟨slot (f2 g),nR,f2 g,.ref Fo,mu (aa.ofString "qq") d,I,I,ck (iy.trans Fw) fH,Ay,by lia,cg.at _ Be.x,Be.b,by lia,hH,fun R cL=>?_⟩;obtain⟨gG,fl⟩:∃r,r=bO en (f2 g) (mu (aa.ofString "r") d):=⟨_,rfl⟩;obtain⟨b9,aQ⟩:∃r,r=bO en (f2 g) (mu (aa.ofString "qq") d):=⟨_,rfl⟩;have iS:(bA gG).cps.toList<(bA b9).cps.toList:=by rw[fl,aQ];exact Hp (tn (f2 g) _ _ fD Bd.b Be.b (PN g d))
  rw[<-fl,<-aQ];rw[<-aQ]at aio;have tc:=Fw.trans (Ext.lst (xs:=[V.str (bA gG),.str (bA b9)]) cL);have HB:upd (upd (upd d7 Fn (.tup [V.str "r",v])) Fo (.tup [V.str "qq",v])) R (.lst [V.str (bA gG),.str (bA b9)]) R=J (.lst [V.str (bA gG),.str (bA b9)]):=aB;generalize upd (upd (upd d7 Fn (.tup [V.str "r",v])) Fo (.tup [V.str "qq",v])) R (.lst [V.str (bA gG),.str (bA b9)])=S9 at tc HB ⊢;have x7:=eX tc jG;refine⟨_,I,y,slot (f1 g),aa1,ab2,I,tc.s _ _ eE,vk,_,I,qQ,fun Ks acM=>?_⟩;have tb:=Ext.tup (xs:=[v]) acM;obtain⟨Fs,aa8⟩:=(eX tb x7).one aB;have alI:=Fs.r;refine⟨slot (f1 g),y,f1 g,.ref Ks,.tup [d],I,I,ck (iy.trans (tc.trans tb)) gy,E4,by lia,cg.at _ Fs.x,Fs.b,by lia,?_⟩;refine⟨_,I,o,slot g,aa2,ab3,I,(tc.trans tb).s _ _ pR,lc,_,I,slot g,o,g,v,d,I,I,ck (iM.trans (iy.trans (tc.trans tb))) bQ,tr _ aF,by lia,cg.at _ (eX tb x7).x,jG.b,by lia,rfl,_,rfl,kp (by rw[aa8]) ?_⟩;have a0:e9 [V.str (bA gG),V.str (bA b9)] 0=J (.str (bA gG)):=dF (j:=0) rfl;have a1:e9 [V.str (bA gG),V.str (bA b9)] 1=J (.str (bA b9)):=dF (j:=1) rfl;have NZ:=tb.s _ _ HB;refine⟨_,I,xz NZ a0 ⟨_,I,xz NZ a1 ⟨_,_,I,I,_,I,kp iS ?_⟩⟩⟩;refine⟨_,I,nR,slot (f2 g),aa3,ab4,I,(tc.trans tb).s _ _ jq,ld,_,I,hH,fun Kt acN=>⟨_,I,hH,fun Ku acO=>?_⟩⟩;have x9:=tb.trans (Ext.tup (xs:=[V.str "r",v]) acN);have ya:=Ext.tup (xs:=[V.str "qq",v]) acO;have Ft:=eX ya ((eX x9 x7).two (.inl rfl) aB);have s9:=(eX (x9.trans ya) x7).two (.inr rfl) aB;have yb:=tc.trans (x9.trans ya);have uS:=(x9.trans ya).s _ _ HB;refine⟨nR,f2 g,mu (aa.ofString "r") d,mu (aa.ofString "qq") d,.ref Kt,.ref Ku,I,I,⟨ck (iy.trans yb) fH,fD,by lia,cg.at _ Ft.x,cg.at _ s9.x,Ft.b,s9.b,by have:=Ft.h;lia,by have:=s9.h;lia⟩,?_⟩;rw[eK (PN g d)];refine⟨_,I,e2 ?_⟩;have Ky:=eX (x9.trans ya) x7;generalize upd (upd (upd S9 Ks (.tup [v])) Kt (.tup [V.str "r",v])) Ku (.tup [V.str "qq",v])=akl at yb uS s9 Ky ⊢;have sP:=P8 s9.s s9.l (by decide) (show b9.length<=16000000 by lia);have yJ:fK (.tup [mu (aa.ofString "qq") d,.int ((b9.length:Nat):Int)])<=60:=by have:=s9.h;simp only[fK,gb];lia
  refine⟨_,I,nR,slot (f2 g),aa4,ab5,I,yb.s _ _ qT,le,_,I,xz uS a1 ?_⟩;refine⟨nR,f2 g,mu (aa.ofString "qq") d,b9,0,I,ck (iy.trans yb) fH,Ay,by lia,by lia,UF _,s9.b,by rw[<-aQ];exact List.prefix_refl _,fun w akm t Fx aaX qg jM=>?_⟩;rw[Nat.zero_add,<-aQ]at jM;refine⟨t,.tup [mu (aa.ofString "qq") d,.int ((b9.length:Nat):Int)],I,⟨t,_,I,jM,⟨_,_,I,cg.at _ aaX,_,_,I,I,I⟩,by show 2<=1000;decide⟩,sP.1,sP.2,yJ,_,rfl,hH,fun Tw tE=>⟨_,rfl,xz ((cZ tE) _ _ (Fx.s _ _ uS)) a1 ⟨_,_,rfl,⟨gg (by rw[fu];lia),rfl⟩,hH,fun Kv acP=>?_⟩⟩⟩;rw[fu];have Kz:=Ext.tup (xs:=[V.str "qq",v]) tE;have KA:=Ext.tup (xs:=[V.ref Tw,.int ((b9.length:Nat):Int)]) acP;have TA:=eX KA ((eX (Fx.trans Kz) Ky).two (.inr rfl) aB);exact⟨Kv,.tup [mu (aa.ofString "qq") d,.int ((b9.length:Nat):Int)],I,⟨Kv,_,I,aB,⟨_,_,I,cg.at _ TA.x,_,_,I,I,I⟩,by show 2<=1000;decide⟩,sP.1,sP.2,yJ,rfl,_,rfl,kp rfl ⟨iy.trans (yb.trans ((Fx.trans Kz).trans KA)),_,_,rfl⟩⟩
 rintro ab d7 ⟨iy,lr,o8,rfl⟩;refine⟨_,I,qM (ck iy gy) E4.1 (by lia) (by lia) (fun _ _ e l s=>⟨_,_,_,_,I,e,l,s⟩) ⟨_,I,.inr ⟨_,_,I,I,gg (by lia),.inr ⟨_,_,I,I,gg (by rw[el];lia),I,?_⟩⟩⟩⟩;rw[s1,eK rfl];refine⟨ao,I,ho ⟨_,I,qM (ck (iM.trans iy) bQ) (tr _ aF).1 (by lia) (by lia) (fun _ _ e l s=>⟨_,_,_,_,I,e,l,s⟩) ⟨_,I,I,H,.refl (iM.trans iy).s,?_⟩⟩⟩;rw[eK rfl];exact q
def WK:cB P w K mg zn cM k f fd aJ vy:=⟨fun _ _ _ _ h=>h.elim,fun _ _ _ _ _ _ _ _ _ _ _ _ _ h=>h.elim⟩
def Vb{C:ag}(T:uw K C)(S:qF K c "read" (fun _=>"Form.read") (fun _=>lI) ["self","signs","at"])(xY:gX P w K mg zn 1 "Source" C ["self","signs","at"] (Rq C))(lx:eZ P w K mg zn (2*n+4) "draw" ["self","source"] (eb c) (Qr has bz fw c C n)):eZ P w K mg zn (2*n+5) "read" ["self","signs","at"] (eb c) (fun _=>Rd has bz fw c n):=fun i=>fq (S i) fun _ _ G=>Zj T G xY lx
theorem LN{f f2 h8 f4 C:ag}{c:c9}{fd abV abW abX:i9}(dH:e7 K C)(ox:gj mg "SMALL_LETTERS" (.str fy))(wQ:gj mg "MOST_DEEP" (.int 8))(F:dB K mg "form_at" Cq ["cursor","depth"] f fd)(fH:dB K mg "part_at" Cp ["cursor","depth"] f2 abV)(ji:dB K mg "parts_at" Ca ["cursor","depth"] h8 abW)(J3:dB K mg "bracketed_form_at" Bg ["cursor","word","depth"] f4 abX)
  (n9:fp P w K mg zn 1 C "skip" ["self","words"] (Rl C)) (ma:fp P w K mg zn 2 C "run_of" ["self","signs"] (Rg C)) (nj:fp P w K mg zn 2 C "expect" ["self","words"] (QC C)) (vQ:bf P w K mg zn 1 "bare_form" ["word"] (Qh c)) (vW:bf P w K mg zn 4 "span_at" ["cursor"] (Rm c C)) (vU:bf P w K mg zn 4 "letters_at" ["cursor"] (QW c C))
  (l9:gX P w K mg zn 4 "Record" (c.t 0) ["self","parts"] (Rv (c.t 0))) (l8:gX P w K mg zn 4 "Choice" (c.t 1) ["self","cases"] (Rv (c.t 1))) (n6:gX P w K mg zn 1 "Maybe" (c.o 0) ["self","inner"] (Q7 (c.o 0))) (n5:gX P w K mg zn 1 "Many" (c.o 1) ["self","inner"] (Q7 (c.o 1))) (n7:gX P w K mg zn 1 "Turned" (c.o 2) ["self","inner"] (Q7 (c.o 2))) :
  ∀n,bf P w K mg zn (4*n+8) "form_at" ["cursor","depth"] (QG c C n)
 |0=>bf.none F fun vs H Q E z=>by obtain⟨_,_,_,_,_,f,_,_,_,_,_,_,h,_⟩:=z;have:=oh f;lia
 |n+1=>by
  have D:=LN dH ox wQ F fH ji J3 n9 ma nj vQ vW vU l9 l8 n6 n5 n7 n;have hv:=Z4 dH ox fH ma nj D;have R4:=ZB dH ji n9 hv;have R5:=Zf J3 vW vU D R4 l9 l8 n6 n5 n7;have:=YU dH ox wQ F ma nj vQ R5;rwa [show 4*(n+1)+8=4*n+11+1 by lia]
inductive QV(K:bT)(vs:List V)(H:aq)(Q:bI)(E:cP):Prop where
 |mk (a:ag) (ns:List Int) (bb:vs=[.ref a]) (ai:c4 K H a (ns.map V.int)) (aj:ns.length<=63) (bt:∀H',Q (.aS ao) H')
def UI(nb:dD mg)(F:cU K "law" "law" FC f fd)(EV:bf P w K mg zn 11 "_law_drawn" ["_law_script","_law_salt"] (QA K))(pg:bf P w K mg zn 1 "_law_cell_at" ["_law_script","_law_k"] (Qm K))(qx:bf P w K mg zn 1 "_law_mixed" ["_law_cell","_law_k"] Q0)(EU:bf P w K mg zn 10 "_law_alike" ["_law_tree_here"] Qe)(rC:bf P w K mg zn 9 "_law_text" ["_law_tree_here"] (Rw 8))(EO:bf P w K mg zn 41 "form_of" ["text"] (QI c))(xN:bf P w K mg zn 24 "_law_made" ["_law_tree_here","_law_kept"] (Q1 c 8 0))(kz:eZ P w K mg zn 21 "shown" ["self"] (eb c) (Rj c 9))(vS:bf P w K mg zn 2 "_law_numbers_of" ["_law_script","_law_many_here","_law_salt"] (Q6 K))(sW:bf P w K mg zn 10 "_law_value" ["_law_tree_here","_law_left"] (Rx 8))(ET:bf P w K mg zn 24 "_law_agree" ["_law_form","_law_made_here","_law_value_here","_law_other"] (Qb c))(EW:bf P w K mg zn 24 "_law_shared" ["_law_tree_here","_law_made_here","_law_text_here","_law_values"] (Rp c)):cB P w K mg zn cM 42 f fd ["_law_script"] (QV K):=by show_term
 refine F.d1 pH (fun H vs Q E au h=>?_);obtain⟨a,ns,rfl,c7,aC,q⟩:=h
 refine⟨_,(aO (b4 1 pH.br (b7 EV au (ak (af 0) (ak aH ay))))
  (ys (cq (bV dn (aM eu (b7 qx au (ak (b7 pg au (ak (af 0) (ak aH ay))) (ak aH ay))) aH) aH) (aL (b4 1 pH.br (b7 EU au (ak (af 1) ay)))) cm)
  (aO (b4 2 pH.br (b7 rC au (ak (af 1) ay)))
  (aO (b4 3 pH.br (b7 EO au (ak (af 2) ay)))
  (aO (b4 4 pH.br (b7 xN au (ak (af 1) (ak (e0 ay) ay))))
  (aO (cq (gA.pt (jD (bV kY (qL kz au (af 3)) (af 2)) (kh (bV kY (qL kz au (af 4)) (af 2))))) (aL (aY iY)) cm)
  (aO (b4 5 pH.br (e0 ay))
  (aO (mS iu.never rfl (nt rfl nb.mD (ak aH ay)) (d4 (i:=6) pH.br rfl (by exact Or.inl I))
   (aO (b4 7 pH.br (aM cv aH (aM kX aH (aM eu (af 6) (aM cv aH (aM eu (c1 eh rfl nb.d5 ea (ak (af 0) ay)) aH))))))
   (aL (iz (h6 PySem.F.plainAttrs_list PySem.F.slot_list_append PySem.F.type_list_append pA (af 5) (ak (b7 sW au (ak (af 1) (ak (b7 vS au (ak (af 0) (ak aH (ak (af 7) ay)))) ay))) ay))))))
  (aO (mS iu.never rfl (jw (af 5)) (d4 (i:=8) pH.br rfl (by exact Or.inl I))
   (aL (mS iu.never rfl (jw (af 5)) (d4 (i:=9) pH.br rfl (by exact Or.inl I))
    (aL (cq (jI (h5 (b7 ET au (ak (af 3) (ak (af 4) (ak (af 8) (ak (af 9) ay))))))) (aL (aY iY)) cm)))))
  (aL (aY (b7 EW au (ak (af 1) (ak (af 4) (ak (af 2) (ak (af 5) ay)))))))))))))))),?_⟩
 ac_rfl;refine⟨_,I,a,ns,I,c7,aC,fun v0 f0 Ax Bn T0=>?_⟩;refine⟨fun ab H1=>∃v g,Ext H H1/\s7 [] H1 g v 8 18000/\ab=[J (.ref a),J v,aA,aA,aA,aA,aA,aA,aA,aA],?_,?_⟩
 ·refine⟨_,I,a,ns,0,I,Bn.s.seq c7,aC,_,_,I,fun m _ _=>⟨_,_,I,I,(by show(0:Int)<3;decide),I,_,I,fM (fun _=>?_) (fun _=>⟨v0,f0,Bn,T0,I⟩)⟩⟩;exact⟨_,I,v0,f0,I,T0,fun qt wM H' Ar wc=>⟨qt,wM,Bn.trans Ar,wc,I⟩⟩
 rintro ab H1 ⟨v,g,mh,gN,rfl⟩;clear T0 Bn;have aF:=gN.o;have iR:=(tr g aF).1;have bY:=gN.h;have j1:=gN.l;have jQ:=gN.s;refine⟨_,I,v,g,I,cg.at _ gN.x,aF,bY,by lia,?_⟩;refine⟨_,I,g,I,iR,bY,by lia,fun jR az iM gy=>?_⟩;refine⟨_,I,UF _,fun dz DD=>?_⟩;have x8:=Ext.lst (xs:=[]) DD;have mq:=cg.same iM.s gN.x;refine⟨v,dz,g,0,[dz],I,eB.mpr I,?_,cg.same x8.s (cg.add DD _ mq),aF,bY,by lia,⟨[],aB,cR _,fun e he=>nomatch he⟩,by lia,fun iU gW n4 _ fH=>?_⟩
 .intro x av;rw[eB.mp av];exact⟨_,aB⟩
 have og:=cY.new x8 DD n4;have fH:=bG.weak (X:=[]) (fun x av=>nomatch av) g fH;have ck:∀{xR xS:aq}{f:aU}{o:ag},Ext xR xS->bG c [] xR f o->bG c [] xS f o:=fun X h=>bG.keep (fun b u _ e=>X.s b u e) _ h;have gy:=ck og gy;have KB:=mh.trans (iM.trans og);have mq:=cg.same og.s mq;clear n4 og x8 iM mh DD;refine⟨_,I,qM gy iR (by lia) (by lia) (fun _ _ e l s=>⟨_,_,_,_,I,e,l,s⟩) ⟨_,I,I,_,I,kp I ⟨_,I,qM fH iR (by lia) (by lia) (fun _ _ e l s=>⟨_,_,_,_,I,e,l,s⟩) ⟨_,I,I,_,I,kp I ?_⟩⟩⟩⟩;refine⟨UF _,fun lv p3=>?_⟩;refine⟨_,I,by decide,by decide,?_⟩;have u0:=KB.s.seq c7;refine wj (fun i ab d7=>Ext gW d7/\∃us:List V,d7 lv=J (.lst us)/\us.length=i/\(∀(j:Nat)u,us[j]?=J u->∃d,hf [lv] d7 g d u 3000000)/\∃lr o8,ab=[J (.ref a),J v,J (.str ⟨(bq g).toArray⟩),J (.ref jR),J (.ref iU),J (.ref lv),lr,o8,aA,aA]) ?_ ?_ ?_
 .exact⟨Ext.lst p3,[],aB,I,(fun j u h=>by simp at h),_,_,rfl⟩
 ·rintro i ab d7 aG ⟨iy,us,kM,zz,Dv,lr,o8,rfl⟩;have aG:i<3:=aG;have OB:=iy.s.seq u0
  obtain⟨eY,abG,adW⟩:∃eY:Nat,3000+100*((0+((i:Nat):Int))%(2+(((ns.map V.int).length:Nat):Int)%2))=((eY:Nat):Int)/\(eY=1000\/eY=3000\/eY=3100\/eY=3200):=by
   rcases Int.emod_two_eq (((ns.map V.int).length:Nat):Int)with z|z<;>rw[z]
   ·have:i=0\/i=1\/i=2:=by lia
    rcases this with rfl|rfl|rfl
    .exact⟨3000,I,by decide⟩
    .exact⟨3100,I,by decide⟩
    .exact⟨3000,I,by decide⟩
   ·have:i=0\/i=1\/i=2:=by lia
    rcases this with rfl|rfl|rfl
    .exact⟨3000,I,by decide⟩
    .exact⟨3100,I,by decide⟩
    .exact⟨3200,I,by decide⟩
  refine⟨_,I,_,I,_,_,I,.inl ⟨_,OB,I⟩,_,_,I,I,(by show(0:Int)<2;decide),.inl ⟨_,_,I,I,_,_,I,I,(by lia),.inl ⟨_,_,I,I,.inl ⟨by decide,by decide⟩,.inl ⟨_,_,rfl,rfl,?_⟩⟩⟩⟩;dsimp only;rw[abG];refine⟨_,I,.inl ⟨I,_,bp kM⟩,_,I,_,I,_,I,a,ns,24,eY,I,OB,aC,by decide,by decide,adW,fun D ms b2 vb=>?_⟩;have akE:lv≠D:=fun z=>by rw[z,b2]at kM;cases kM
  refine⟨v,g,D,ms,[D,lv],I,cg.same (cZ b2) (cg.add b2 _ (cg.same iy.s (cg.add p3 _ mq))),aF,bY,by lia,aB,vb,g0 ..,?_,fun u d ek oO Av zt ak3 s8=>?_⟩
  ·intro x av;rcases dJ.mp av with z|z
   .rw[z];exact⟨_,aB⟩
   .rw[eB.mp z];exact⟨_,(cZ b2) _ _ kM⟩
  have Fv:Ext d7 ek:=Ext.Ol (o :=.lst (ms.map V.int)) b2 trivial Av;have N2:=Fv.s _ _ kM;refine⟨lv,_,_,I,I,N2,fz (show us.length<100000 by lia) (by decide),(iy.trans Fv).set p3 N2,us++[u],aB,by rw[bE,zz];rfl,fun j y ba=>?_,_,_,rfl⟩;have tS:∀b w,b∉[lv]->ek b=J w->upd ek lv (.lst (us++[u])) b=J w:=fun b w nb e=>by rw[bx (fun z=>nb (by rw[z];exact eB.mpr I))];exact e
  rcases h4 j us.length with z|z
  ·rw[List.getElem?_append_left z]at ba;obtain⟨d',W⟩:=Dv j y ba;exact⟨d',W.keep (cg.keep tS _ (cg.same Fv.s W.x))⟩
  ·rw[List.getElem?_append_right z]at ba
   obtain rfl:y=u:=by
    cases h:j-us.length with
    |zero=>rw[h]at ba;exact(ie ba).symm
    |succ k=>rw[h]at ba;cases ba
   exact⟨d,(s8.keep (cg.keep tS _ (cg.weak (fun x av=>d9 D av) _ s8.x))).le (by lia)⟩
 rintro ab d7 ⟨iy,us,kM,zz,Dv,lr,o8,rfl⟩;have zz:us.length=3:=zz
 have y0:∀(j:Nat)u,us[j]?=J u->∃d,hf [] d7 g d u 3000000:=fun j u h=>by
  obtain⟨d,W⟩:=Dv j u h;exact⟨d,W.keep (cg.weak (fun x(av:x∈([]:List ag))=>nomatch av) _ W.x)⟩
 have gy:=ck iy gy;have fH:=ck iy fH;clear Dv;refine .inl ⟨_,I,lv,I,⟨_,bp kM⟩,?_⟩;refine yl (xs:=us) (fun i ab ek=>d7=ek/\∃JL sS,ab=[J (.ref a),J v,J (.str ⟨(bq g).toArray⟩),J (.ref jR),J (.ref iU),J (.ref lv),lr,o8,JL,sS]) ⟨I,_,_,I⟩ (fun i ab ek _ h=>by obtain⟨rfl,_⟩:=h;exact bp kM) ?_ ?_
 ·rintro i x ab _ av ⟨rfl,JL,sS,rfl⟩;refine .inl ⟨_,I,lv,I,⟨_,bp kM⟩,?_⟩;refine yl (xs:=us) (fun i ab ek=>d7=ek/\∃sS,ab=[J (.ref a),J v,J (.str ⟨(bq g).toArray⟩),J (.ref jR),J (.ref iU),J (.ref lv),lr,o8,J x,sS]) ⟨I,_,I⟩ (fun i ab ek _ h=>by obtain⟨rfl,_⟩:=h;exact bp kM) ?_ ?_
  ·rintro j y ab _ ba ⟨rfl,sS,rfl⟩;obtain⟨gO,Tz⟩:=y0 i x av;obtain⟨hg,Bb⟩:=y0 j y ba;exact⟨_,I,_,I,_,I,_,I,jR,iU,g,gO,hg,x,y,I,gy,fH,aF,bY,Tz,Bb,_,I,e2 ⟨I,_,I⟩⟩
  ·rintro ab _ ⟨rfl,sS,rfl⟩;exact⟨I,_,_,I⟩
 rintro ab _ ⟨rfl,JL,sS,rfl⟩;exact⟨_,I,_,I,_,I,_,I,v,iU,lv,g,us,I,cg.at _ (cg.same iy.s mq),fH,aF,bY,by lia,kM,by lia,y0,H,.refl (KB.trans iy).s,q _⟩
def ua(x q:aa)(st:bo)(aJ:List aa):Prop:=∀(hK doc pm:ax)(an:Option ag)(bg ct:ax)(us:List ax),us.length=aJ.length->bindArgs (o9 x q (pO st) (lM st) (bB st) .none hK doc pm an bg ct) ⟨us,[]⟩=pure (aJ.zip us)
def fT{a:aa}{st:bo}(h:xv (∀(hK doc pm:ax)(an:Option ag)(bg ct u:ax),bindArgs (o9 x q (pO st) (lM st) (bB st) .none hK doc pm an bg ct) ⟨[u],[]⟩=pure [(a,u)]) z5):ua x q st [a]:=fun _ _ _ _ _ _ us aC=>by
 rcases us with _|⟨_,_|⟨_,_⟩⟩<;>first|exact h .. |cases aC
def di{a b:aa}{st:bo}(h:xv (∀(hK doc pm:ax)(an:Option ag)(bg ct u v:ax),bindArgs (o9 x q (pO st) (lM st) (bB st) .none hK doc pm an bg ct) ⟨[u,v],[]⟩=pure [(a,u),(b,v)]) z5):ua x q st [a,b]:=fun _ _ _ _ _ _ us aC=>by
 rcases us with _|⟨_,_|⟨_,_|⟨_,_⟩⟩⟩<;>first|exact h .. |cases aC
def h7{a b c:aa}{st:bo}(h:xv (∀(hK doc pm:ax)(an:Option ag)(bg ct u v y:ax),bindArgs (o9 x q (pO st) (lM st) (bB st) .none hK doc pm an bg ct) ⟨[u,v,y],[]⟩=pure [(a,u),(b,v),(c,y)]) z5):ua x q st [a,b,c]:=fun _ _ _ _ _ _ us aC=>by
 rcases us with _|⟨_,_|⟨_,_|⟨_,_|⟨_,_⟩⟩⟩⟩<;>first|exact h .. |cases aC
def NO{a b c d:aa}{st:bo}(h:xv (∀(hK doc pm:ax)(an:Option ag)(bg ct u v y z:ax),bindArgs (o9 x q (pO st) (lM st) (bB st) .none hK doc pm an bg ct) ⟨[u,v,y,z],[]⟩=pure [(a,u),(b,v),(c,y),(d,z)]) z5):ua x q st [a,b,c,d]:=fun _ _ _ _ _ _ us aC=>by
 rcases us with _|⟨_,_|⟨_,_|⟨_,_|⟨_,_|⟨_,_⟩⟩⟩⟩⟩<;>first|exact h .. |cases aC
structure l5(K:bT)(x:aa)(C:ag):Prop where
 a:hu K fx x=J (J (.ref C))
 cl:e7 K C
 mB:Am K C=ao
 zG:ry K (.ref C)=ao
def cpMk{K:bT}{C:ag}(a:hu K fx x=J (J (.ref C)))(c8:EG K C aa.empty=ao)(cS:JP K C=ao)(afI:PySem.W.plainOver K C=ao)(afJ:gU K (.ref C) "__setattr__"=J (J (.builtin "object.__setattr__")))(afK:Am K C=ao)(afL:ry K (.ref C)=ao):l5 K x C:=⟨a,⟨c8,cS,afI,afJ⟩,afK,afL⟩
def cC(K:bT)(C:ag)(x q:aa)(st:bo):Prop:=∃f fd,cU K x q st f fd/\v5 K C x f
def es(K:bT)(x:aa)(st:bo):Prop:=∃f fd,cU K x x st f fd/\hu K fx x=J (J (.ref f))
def mpMk{K:bT}{C f:ag}{st:bo}{hK:ax}(a:gU K (.ref C) x=J (J (.ref f)))(i:JQ K (.ref f)=ao)(l:K.lookup f=J ⟨jv,hr,.func (o9 x q (pO st) (lM st) (bB st) .none hK doc pm an bg ct),mC⟩)(c:EF K bg q=ao)(k:ry K (.ref f)=ao):cC K C x q st:=⟨f,_,KY l c k,a,i,k⟩
def fpMk{K:bT}{f:ag}{st:bo}{hK:ax}(a:hu K fx x=J (J (.ref f)))(l:K.lookup f=J ⟨jv,hr,.func (o9 x x (pO st) (lM st) (bB st) .none hK doc pm an bg ct),mC⟩)(c:EF K bg x=ao)(k:ry K (.ref f)=ao):es K x st:=⟨f,_,KY l c k,a⟩
def cC.at{K:bT}{C:ag}{st:bo}(p:cC K C x q st)(cl:e7 K C)(b:ua x q st aJ):MethAt K C x q st aJ:=by
 obtain⟨f,fd,F,m⟩:=p;exact⟨⟨f,fd,F,F.binds b,m⟩,cl⟩
def es.at{K:bT}{st:bo}{mg:aa->Option ax}(X:K.In h)(G:h.Ns fx mg)(p:es K x st)(b:ua x x st aJ):∃f fd,dB K mg x st aJ f fd:=by
 obtain⟨f,fd,F,a⟩:=p;exact⟨f,fd,F,F.binds b,ig X G a⟩
def cC.mk{C:ag}{st:bo}{sp:cH}(p:cC K C "__init__" q st)(c:l5 K x C)(m:mg x=J (.ref C))(b:ua "__init__" q st aJ)(h:∀f fd,cU K "__init__" q st f fd->cB P w K mg zn cM k f fd aJ sp):gX P w K mg zn k x C aJ sp:=by
 obtain⟨f,fd,F,dk⟩:=p;exact⟨f,fd,⟨c.mB,dk.at_,dk.fn,c.zG⟩,h f fd F,F.binds b,m⟩
set_option maxHeartbeats 16000000 in
def Xhy{l:PySem.W.OpenLaw}{w:dd}{K:bT}{mg:aa->Option ax}(X:K.In h)(G:h.Ns fx mg)(Ie:mg "law"=J (.ref fa))
  {lz nW nX nY nV mJ l4 ng nf nh mI mH nd:ag} {ajE:Tok} {ajC:Tok} {ajH:Tok} {ajB:Tok} {ajI:Tok} {ajG:Tok} {ajA:Tok} {ajF:Tok} {ajD:Tok} {ajJ:Tok} {ajz:Tok} {ajy:Tok}
  (vu:l5 K "Source" lz)
  (rh:l5 K "Nothing" nW)
  (rk:l5 K "Truth" nX)
  (rm:l5 K "Whole" nY)
  (rd:l5 K "Fraction" nV)
  (rj:l5 K "Span" mJ)
  (ql:l5 K "Letters" l4)
  (rg:l5 K "Maybe" ng)
  (rf:l5 K "Many" nf)
  (rl:l5 K "Turned" nh)
  (ri:l5 K "Record" mI)
  (rb:l5 K "Choice" mH)
  (sN:l5 K "Cursor" nd)
  (afj:gU K (.ref lz) "signs"=J aA)
  (afi:gU K (.ref lz) "place"=J aA)
  (afk:gU K (.ref lz) "turned"=J aA)
  (afh:gU K (.ref lz) "endless"=J aA)
  (afl:gU K (.ref lz) "wished"=J aA)
  (agU:cC K lz "__init__" "Source.__init__" FU)
  (agT:cC K lz "draw" "Source.draw" BG)
  (agW:cC K lz "turn" "Source.turn" BF)
  (agX:cC K lz "wish" "Source.wish" BE)
  (agV:cC K lz "refuse" "Source.refuse" Lg)
  (aek:gU K (.ref nW) "__init__"=J (J (.builtin "object.__init__")))
  (agG:cC K nW "fits" "Nothing.fits" A3)
  (agK:cC K nW "written" "Nothing.written" Bk)
  (agF:cC K nW "draw" "Nothing.draw" A4)
  (agI:cC K nW "row" "Form.row" lJ)
  (agH:cC K nW "read" "Form.read" lI)
  (agE:cC K nW "ahead" "Nothing.ahead" AM)
  (agJ:cC K nW "shown" "Nothing.shown" AL)
  (ael:gU K (.ref nX) "__init__"=J (J (.builtin "object.__init__")))
  (ag8:cC K nX "fits" "Truth.fits" BS)
  (ahc:cC K nX "written" "Truth.written" AK)
  (ag7:cC K nX "draw" "Truth.draw" BU)
  (aha:cC K nX "row" "Form.row" lJ)
  (ag9:cC K nX "read" "Form.read" lI)
  (ag6:cC K nX "ahead" "Truth.ahead" BD)
  (ahb:cC K nX "shown" "Truth.shown" BC)
  (aem:gU K (.ref nY) "__init__"=J (J (.builtin "object.__init__")))
  (ahn:cC K nY "fits" "Whole.fits" BQ)
  (ahr:cC K nY "written" "Whole.written" AJ)
  (ahm:cC K nY "draw" "Whole.draw" BR)
  (ahp:cC K nY "row" "Form.row" lJ)
  (aho:cC K nY "read" "Form.read" lI)
  (ahl:cC K nY "ahead" "Whole.ahead" Bz)
  (ahq:cC K nY "shown" "Whole.shown" By)
  (aej:gU K (.ref nV) "__init__"=J (J (.builtin "object.__init__")))
  (aga:cC K nV "fits" "Fraction.fits" AQ)
  (age:cC K nV "written" "Fraction.written" Bh)
  (af9:cC K nV "draw" "Fraction.draw" AR)
  (agc:cC K nV "row" "Form.row" lJ)
  (agb:cC K nV "read" "Form.read" lI)
  (af8:cC K nV "ahead" "Fraction.ahead" AG)
  (agd:cC K nV "shown" "Fraction.shown" AF)
  (afn:gU K (.ref mJ) "low"=J aA)
  (afm:gU K (.ref mJ) "high"=J aA)
  (ag1:cC K mJ "__init__" "Span.__init__" Go)
  (ag0:cC K mJ "fits" "Span.fits" B3)
  (ag5:cC K mJ "written" "Span.written" A0)
  (agZ:cC K mJ "draw" "Span.draw" B4)
  (ag3:cC K mJ "row" "Form.row" lJ)
  (ag2:cC K mJ "read" "Form.read" lI)
  (agY:cC K mJ "ahead" "Span.ahead" BW)
  (ag4:cC K mJ "shown" "Span.shown" BV)
  (afc:gU K (.ref l4) "signs"=J aA)
  (agi:cC K l4 "__init__" "Letters.__init__" FO)
  (agh:cC K l4 "fits" "Letters.fits" Bq)
  (agn:cC K l4 "written" "Letters.written" Wp)
  (agg:cC K l4 "draw" "Letters.draw" Br)
  (agj:cC K l4 "places" "Letters.places" AE)
  (agl:cC K l4 "row" "Form.row" lJ)
  (agk:cC K l4 "read" "Form.read" lI)
  (agf:cC K l4 "ahead" "Letters.ahead" AP)
  (agm:cC K l4 "shown" "Letters.shown" AO)
  (afe:gU K (.ref ng) "inner"=J aA)
  (agz:cC K ng "__init__" "Maybe.__init__" F9)
  (agy:cC K ng "fits" "Maybe.fits" BX)
  (agD:cC K ng "written" "Maybe.written" AN)
  (agx:cC K ng "draw" "Maybe.draw" BY)
  (agB:cC K ng "row" "Form.row" lJ)
  (agA:cC K ng "read" "Form.read" lI)
  (agw:cC K ng "ahead" "Maybe.ahead" BK)
  (agC:cC K ng "shown" "Maybe.shown" BJ)
  (afd:gU K (.ref nf) "inner"=J aA)
  (agr:cC K nf "__init__" "Many.__init__" Gp)
  (agq:cC K nf "fits" "Many.fits" B5)
  (agv:cC K nf "written" "Many.written" A5)
  (agp:cC K nf "draw" "Many.draw" B6)
  (agt:cC K nf "row" "Form.row" lJ)
  (ags:cC K nf "read" "Form.read" lI)
  (ago:cC K nf "ahead" "Many.ahead" B0)
  (agu:cC K nf "shown" "Many.shown" BZ)
  (afo:gU K (.ref nh) "inner"=J aA)
  (ahg:cC K nh "__init__" "Turned.__init__" FT)
  (ahf:cC K nh "fits" "Turned.fits" BA)
  (ahk:cC K nh "written" "Turned.written" Bl)
  (ahe:cC K nh "draw" "Turned.draw" BB)
  (ahi:cC K nh "row" "Form.row" lJ)
  (ahh:cC K nh "read" "Form.read" lI)
  (ahd:cC K nh "ahead" "Turned.ahead" AZ)
  (ahj:cC K nh "shown" "Turned.shown" AY)
  (afg:gU K (.ref mI) "names"=J aA)
  (aff:gU K (.ref mI) "forms"=J aA)
  (agO:cC K mI "__init__" "Record.__init__" FV)
  (agN:cC K mI "fits" "Record.fits" BH)
  (agS:cC K mI "written" "Record.written" Bm)
  (agM:cC K mI "draw" "Record.draw" BI)
  (agQ:cC K mI "row" "Form.row" lJ)
  (agP:cC K mI "read" "Form.read" lI)
  (agL:cC K mI "ahead" "Record.ahead" A2)
  (agR:cC K mI "shown" "Record.shown" A1)
  (ae9:gU K (.ref mH) "names"=J aA)
  (ae8:gU K (.ref mH) "forms"=J aA)
  (afY:cC K mH "__init__" "Choice.__init__" FX)
  (afX:cC K mH "fits" "Choice.fits" BM)
  (af2:cC K mH "written" "Choice.written" AH)
  (afW:cC K mH "draw" "Choice.draw" BN)
  (af0:cC K mH "row" "Form.row" lJ)
  (afZ:cC K mH "read" "Form.read" lI)
  (afV:cC K mH "ahead" "Choice.ahead" Bu)
  (af1:cC K mH "shown" "Choice.shown" Bt)
  (afb:gU K (.ref nd) "text"=J aA)
  (afa:gU K (.ref nd) "place"=J aA)
  (af5:cC K nd "__init__" "Cursor.__init__" FW)
  (af3:cC K nd "ended" "Cursor.ended" Bs)
  (af7:cC K nd "skip" "Cursor.skip" BL)
  (af4:cC K nd "expect" "Cursor.expect" AX)
  (af6:cC K nd "run_of" "Cursor.run_of" AS)
  (aii:es K "turned_row" F2)
  (ah7:es K "lower_digits" FL)
  (ahJ:es K "is_count" Gy)
  (ahI:es K "has_whole_row" AI)
  (ahw:es K "count_row" Gl)
  (aij:es K "whole_row" Gb)
  (ahD:es K "fixed_row" Gk)
  (ahA:es K "draw_lower_digits" E9)
  (ahx:es K "draw_count" F8)
  (ahB:es K "draw_whole" F6)
  (ahy:es K "draw_fixed" F7)
  (aih:es K "steps_of" Gv)
  (ahs:es K "are_steps" Gn)
  (ahG:es K "fraction_of" FR)
  (ahv:es K "common_divisor" FE)
  (ahK:es K "is_fraction" FQ)
  (ahH:es K "has_fraction_row" Fj)
  (aid:es K "row_of_steps" FK)
  (ahz:es K "draw_fraction" FH)
  (ahM:es K "is_number" Gj)
  (ah8:es K "made_of" GJ)
  (ahC:es K "first_unlike" FN)
  (ahL:es K "is_name" GK)
  (ah9:es K "names_of" Gw)
  (aie:es K "shown_parts" Bx)
  (aia:es K "number_at" Gd)
  (aif:es K "span_at" GI)
  (ah6:es K "letters_at" F3)
  (aib:es K "part_at" Cp)
  (aic:es K "parts_at" Ca)
  (aht:es K "bare_form" Gm)
  (ahu:es K "bracketed_form_at" Bg)
  (ahE:es K "form_at" Cq)
  (ahF:es K "form_of" GL)
  (ahQ:es K "_law_cell_at" FP)
  (ahW:es K "_law_mixed" Gf)
  (ahY:es K "_law_numbers_of" FD)
  (ahX:es K "_law_names" Ge)
  (ah0:es K "_law_simple" F4)
  (ah3:es K "_law_tree" Cb)
  (ah2:es K "_law_text" Cc)
  (ah5:es K "_law_wide" Gx)
  (ahS:es K "_law_drawn" Gg)
  (ahU:es K "_law_made" Ce)
  (ahT:es K "_law_formed" BP)
  (ah1:es K "_law_simple_value" Fi)
  (ah4:es K "_law_value" B2)
  (ahO:es K "_law_agree" Gi)
  (ahP:es K "_law_alike" Gh)
  (ahR:es K "_law_deep" Cf)
  (ahV:es K "_law_many" Cd)
  (ahZ:es K "_law_shared" F5)
  (ahN:es K "law" FC)
  (aj5:hu K fx "len"=J aA)
  (aj9:hu K fx "range"=J aA)
  (aj3:hu K fx "int"=J aA)
  (akd:hu K fx "str"=J aA)
  (aj1:hu K fx "bool"=J aA)
  (akf:hu K fx "tuple"=J aA)
  (aj4:hu K fx "isinstance"=J aA)
  (aj8:hu K fx "min"=J aA)
  (aj7:hu K fx "max"=J aA)
  (aj6:hu K fx "list"=J aA)
  (aj0:hu K fx "all"=J aA)
  (akb:hu K fx "reversed"=J aA)
  (aj2:hu K fx "enumerate"=J aA)
  (akg:hu K fx "zip"=J aA)
  (akc:hu K fx "set"=J aA)
  (ake:hu K fx "sum"=J aA)
  (aka:hu K fx "repr"=J aA)
  (ace:hu K fx "MOST_DIGITS"=J (J (.int 255 ajE)))
  (acb:hu K fx "MOST_AHEAD"=J (J (.int 7 ajC)))
  (ach:hu K fx "MOST_SIGNS"=J (J (.int 60 ajH)))
  (aca:hu K fx "LONGEST_TEXT"=J (J (.int 200 ajB)))
  (aci:hu K fx "MOST_VALUES"=J (J (.int 60 ajI)))
  (acg:hu K fx "MOST_PARTS"=J (J (.int 20 ajG)))
  (ab9:hu K fx "LONGEST_NAME"=J (J (.int 12 ajA)))
  (acf:hu K fx "MOST_FIGURES"=J (J (.int 58 ajF)))
  (acd:hu K fx "MOST_DEEP"=J (J (.int 8 ajD)))
  (acj:hu K fx "SMALL_LETTERS"=J (J (.str "abcdefghijklmnopqrstuvwxyz" ajJ)))
  (ab8:hu K fx "LETTERS_AND_FIGURES"=J (J (.str "abcdefghijklmnopqrstuvwxyzABCDEFGHIJKLMNOPQRSTUVWXYZ0123456789" ajz)))
  (ab7:hu K fx "FIGURES"=J (J (.str "0123456789" ajy)))
  : ∃fd:i9,(∀(s:aT)(v:ax),BindsTo s fd ⟨[v],[]⟩ [("_law_script",v)])/\∀zn:bR,K.In zn->zn.Ns fx mg->cB l.prog w K mg zn cM 42 fa fd ["_law_script"] (QV K):=by
 obtain⟨_,fd,J8,aaF⟩:=ahN;have e:=Ie.symm.trans (ig X G aaF);cases e;have uS:=J8.ex;have aeU:=ig X G vu.a;have sF:=ig X G rh.a;have sG:=ig X G rk.a;have sH:=ig X G rm.a;have sE:=ig X G rd.a;have aeV:=ig X G rj.a;have aeQ:=ig X G ql.a;have aeS:=ig X G rg.a;have aeR:=ig X G rf.a;have aeW:=ig X G rl.a;have aeT:=ig X G ri.a;have aeO:=ig X G rb.a;have aeP:=ig X G sN.a;have ajp:MethAt K lz "draw" "Source.draw" BG ["self"]:=agT.at vu.cl fT;have ajr:MethAt K lz "turn" "Source.turn" BF ["self"]:=agW.at vu.cl fT;have ajs:MethAt K lz "wish" "Source.wish" BE ["self","sign"]:=agX.at vu.cl di;have ajq:MethAt K lz "refuse" "Source.refuse" Lg ["self"]:=agV.at vu.cl fT;have rJ:kD K nW:=⟨rh.mB,aek,rh.zG⟩;have rK:kD K nX:=⟨rk.mB,ael,rk.zG⟩;have rL:kD K nY:=⟨rm.mB,aem,rm.zG⟩;have rI:kD K nV:=⟨rd.mB,aej,rd.zG⟩;have ajo:MethAt K l4 "places" "Letters.places" AE ["self","text"]:=agj.at ql.cl di;have ajk:MethAt K nd "ended" "Cursor.ended" Bs ["self"]:=af3.at sN.cl fT;have ajn:MethAt K nd "skip" "Cursor.skip" BL ["self","words"]:=af7.at sN.cl di;have ajl:MethAt K nd "expect" "Cursor.expect" AX ["self","words"]:=af4.at sN.cl di;have ajm:MethAt K nd "run_of" "Cursor.run_of" AS ["self","signs"]:=af6.at sN.cl di;obtain⟨_,_,S6⟩:=aii.at X G fT;obtain⟨_,_,SW⟩:=ah7.at X G di;obtain⟨_,_,Sv⟩:=ahJ.at X G fT;obtain⟨_,_,J7⟩:=ahI.at X G fT;obtain⟨_,_,Si⟩:=ahw.at X G fT;obtain⟨_,_,S7⟩:=aij.at X G fT;obtain⟨_,_,Sp⟩:=ahD.at X G di;obtain⟨_,_,Sm⟩:=ahA.at X G di;obtain⟨_,_,Sj⟩:=ahx.at X G fT;obtain⟨_,_,Sn⟩:=ahB.at X G fT;obtain⟨_,_,Sk⟩:=ahy.at X G di;obtain⟨_,_,S5⟩:=aih.at X G fT;obtain⟨_,_,Se⟩:=ahs.at X G fT;obtain⟨_,_,Ss⟩:=ahG.at X G fT;obtain⟨_,_,Sh⟩:=ahv.at X G di;obtain⟨_,_,Sw⟩:=ahK.at X G fT;obtain⟨_,_,Su⟩:=ahH.at X G fT;obtain⟨_,_,S2⟩:=aid.at X G fT;obtain⟨_,_,Sl⟩:=ahz.at X G fT;obtain⟨_,_,Sy⟩:=ahM.at X G fT;obtain⟨_,_,SX⟩:=ah8.at X G di;obtain⟨_,_,So⟩:=ahC.at X G di;obtain⟨_,_,Sx⟩:=ahL.at X G fT;obtain⟨_,_,SY⟩:=ah9.at X G fT;obtain⟨_,_,S3⟩:=aie.at X G di;obtain⟨_,_,SZ⟩:=aia.at X G fT;obtain⟨_,_,S4⟩:=aif.at X G fT;obtain⟨_,_,SV⟩:=ah6.at X G fT;obtain⟨_,_,S0⟩:=aib.at X G di;obtain⟨_,_,S1⟩:=aic.at X G di;obtain⟨_,_,Sf⟩:=aht.at X G fT;obtain⟨_,_,Sg⟩:=ahu.at X G h7;obtain⟨_,_,Sq⟩:=ahE.at X G di;obtain⟨_,_,Sr⟩:=ahF.at X G fT;obtain⟨_,_,SD⟩:=ahQ.at X G di;obtain⟨_,_,SJ⟩:=ahW.at X G di;obtain⟨_,_,SM⟩:=ahY.at X G h7;obtain⟨_,_,SK⟩:=ahX.at X G di;obtain⟨_,_,SO⟩:=ah0.at X G h7;obtain⟨_,_,SR⟩:=ah3.at X G di;obtain⟨_,_,SQ⟩:=ah2.at X G fT;obtain⟨_,_,SU⟩:=ah5.at X G di;obtain⟨_,_,SF⟩:=ahS.at X G di;obtain⟨_,_,SH⟩:=ahU.at X G di;obtain⟨_,_,SG⟩:=ahT.at X G di;obtain⟨_,_,SP⟩:=ah1.at X G h7;obtain⟨_,_,SS⟩:=ah4.at X G di;obtain⟨_,_,Sz⟩:=ahO.at X G NO;obtain⟨_,_,SA⟩:=ahP.at X G fT;obtain⟨_,_,SE⟩:=ahR.at X G fT;obtain⟨_,_,SI⟩:=ahV.at X G fT;obtain⟨_,_,SN⟩:=ahZ.at X G NO;have nb:dD mg:=⟨k7 X G aj5,k7 X G aj9,k7 X G aj3,k7 X G akd,k7 X G aj1,k7 X G akf,k7 X G aj4,k7 X G aj8,k7 X G aj7,k7 X G aj6,k7 X G aj0,k7 X G akb,k7 X G aj2,k7 X G akg,k7 X G akc,k7 X G ake,k7 X G aka⟩;have HM:gj mg "MOST_DIGITS" (.int 255):=⟨_,ig X G ace,⟨_,rfl⟩⟩;have wO:gj mg "MOST_AHEAD" (.int 7):=⟨_,ig X G acb,⟨_,rfl⟩⟩;have HP:gj mg "MOST_SIGNS" (.int 60):=⟨_,ig X G ach,⟨_,rfl⟩⟩;have qW:gj mg "LONGEST_TEXT" (.int 200):=⟨_,ig X G aca,⟨_,rfl⟩⟩;have qX:gj mg "MOST_VALUES" (.int 60):=⟨_,ig X G aci,⟨_,rfl⟩⟩;have HO:gj mg "MOST_PARTS" (.int 20):=⟨_,ig X G acg,⟨_,rfl⟩⟩;have HL:gj mg "LONGEST_NAME" (.int 12):=⟨_,ig X G ab9,⟨_,rfl⟩⟩;have HN:gj mg "MOST_FIGURES" (.int 58):=⟨_,ig X G acf,⟨_,rfl⟩⟩;have wQ:gj mg "MOST_DEEP" (.int 8):=⟨_,ig X G acd,⟨_,rfl⟩⟩;have ox:gj mg "SMALL_LETTERS" (.str fy):=⟨_,ig X G acj,⟨_,rfl⟩⟩;have wN:gj mg "LETTERS_AND_FIGURES" (.str mL):=⟨_,ig X G ab8,⟨_,rfl⟩⟩;have HK:gj mg "FIGURES" (.str rD):=⟨_,ig X G ab7,⟨_,rfl⟩⟩;refine⟨fd,fun s v=>?_,fun zn _ _=>?_⟩
 ·obtain⟨_,_,_,_,_,_,_,_,_,rfl,_⟩:=uS;exact .of_eq I
 have T:uw K lz:=⟨vu.cl,afj,afi,afk,afh,afl⟩;have pj:=YF (P:=l.prog) (w:=w) (zn:=zn) S6;have ug:=XI (P:=l.prog) (w:=w) (zn:=zn) nb SW;have pf:=Zd Sp ug;have nZ:=ZF (P:=l.prog) (w:=w) (zn:=zn) HM Sv;have ue:=Xn J7 nZ;have R6:=W3 J7 nZ;have uc:=Ze wO Si nZ ug;have sY:=Y6 S7 uc pj;have sX:=Zy (P:=l.prog) (w:=w) (zn:=zn) S5;have vP:=Zh (P:=l.prog) (w:=w) (zn:=zn) nb Se;have EP:=Yi nb Ss vP;have EN:=W4 (P:=l.prog) (w:=w) (zn:=zn) Sh;have ER:=Yh Sw EN;have xK:=WS nb Su ER sX ue nZ;have xP:=XH nb S2 sY uc pj;have hF:=(fq (P:=l.prog) (w:=w) (mg:=mg) (zn:=zn) ajp fun _ _ G=>VG nb T G).1;have mN:=(fq (P:=l.prog) (w:=w) (mg:=mg) (zn:=zn) ajr fun _ _ G=>VE T G).1;have AU:=(fq (P:=l.prog) (w:=w) (mg:=mg) (zn:=zn) ajs fun _ _ G=>VD T G).1;have mM:=(fq (P:=l.prog) (w:=w) (mg:=mg) (zn:=zn) (k:=1) (sp:=vy) ajq fun _ _ _=>WK).1;have xY:=agU.mk (P:=l.prog) (w:=w) (zn:=zn) vu aeU (h7 fun _ _ _ _ _ _ _ _ _=>rfl) fun _ _ G=>Zz T G;have Ap:=WO nb T.cl Sm hF;have ud:=YM wO T.cl Sj hF Ap;have sV:=YK T.cl Sn hF mN ud;have pe:=YL nb T.cl Sk hF mM;have xJ:=Xo nb T.cl Sl hF mN AU mM sV ud vP EP;have n0:=YJ (P:=l.prog) (w:=w) (zn:=zn) nb Sy;have ph:=Z5 (P:=l.prog) (w:=w) (zn:=zn) nb SX;have ES:=Z6 nb HL ox Sx ph;have vV:=ZC nb HO SY ES;have gk:s6 K mJ:=⟨rj.cl,afn,afm⟩;have A7:rH K l4:=⟨ql.cl,afc⟩;have Tu:k5 K mI:=⟨ri.cl,afg,aff⟩;have Ts:k5 K mH:=⟨rb.cl,ae9,ae8⟩;have Tt:iX K ng:=⟨rg.cl,afe⟩;have Tv:iX K nf:=⟨rf.cl,afd⟩;have ic:iX K nh:=⟨rl.cl,afo⟩;have rO:=ag1.mk (P:=l.prog) (w:=w) (zn:=zn) rj aeV (h7 fun _ _ _ _ _ _ _ _ _=>rfl) fun _ _ G=>Y7 gk G;have rN:=agi.mk (P:=l.prog) (w:=w) (zn:=zn) ql aeQ (di fun _ _ _ _ _ _ _ _=>rfl) fun _ _ G=>ZD nb HP wN A7 G ph;have l9:=agO.mk (P:=l.prog) (w:=w) (zn:=zn) ri aeT (di fun _ _ _ _ _ _ _ _=>rfl) fun _ _ G=>ZA nb Tu G vV;have l8:=afY.mk (P:=l.prog) (w:=w) (zn:=zn) rb aeO (di fun _ _ _ _ _ _ _ _=>rfl) fun _ _ G=>ZH nb Ts G vV;have n6:=agz.mk (P:=l.prog) (w:=w) (zn:=zn) rg aeS (di fun _ _ _ _ _ _ _ _=>rfl) fun _ _ G=>YG Tt G;have n5:=agr.mk (P:=l.prog) (w:=w) (zn:=zn) rf aeR (di fun _ _ _ _ _ _ _ _=>rfl) fun _ _ G=>Y9 Tv G;have n7:=ahg.mk (P:=l.prog) (w:=w) (zn:=zn) rl aeW (di fun _ _ _ _ _ _ _ _=>rfl) fun _ _ G=>Yd ic G;have qI:vO K nd:=⟨sN.cl,afb,afa⟩;have Fc:=af5.mk (P:=l.prog) (w:=w) (zn:=zn) sN aeP (di fun _ _ _ _ _ _ _ _=>rfl) fun _ _ G=>ZG qI G;have v3:=(fq (P:=l.prog) (w:=w) (mg:=mg) (zn:=zn) ajk fun _ _ G=>UJ nb qI G).1;have n9:=(fq (P:=l.prog) (w:=w) (mg:=mg) (zn:=zn) ajn fun _ _ G=>VF nb qI G).1;have nj:=(fq (P:=l.prog) (w:=w) (mg:=mg) (zn:=zn) ajl fun _ _ G=>TJ qI G sN.cl n9).1;have ma:=(fq (P:=l.prog) (w:=w) (mg:=mg) (zn:=zn) ajm fun _ _ G=>TI qI G sN.cl v3).1;obtain⟨c,hc⟩:∃c:c9,c=⟨fun k=>[nW,nX,nY,nV][k],mJ,l4,fun k=>[ng,nf,nh][k],fun k=>[mI,mH][k]⟩:=⟨_,rfl⟩;have abm:c.b 0=nW:=by rw[hc];rfl
 have abp:c.b 1=nX:=by rw[hc];rfl
 have abr:c.b 2=nY:=by rw[hc];rfl
 have abi:c.b 3=nV:=by rw[hc];rfl
 have abo:c.s=mJ:=by rw[hc]
 have abj:c.l=l4:=by rw[hc]
 have abl:c.o 0=ng:=by rw[hc];rfl
 have abk:c.o 1=nf:=by rw[hc];rfl
 have abq:c.o 2=nh:=by rw[hc];rfl
 have abn:c.t 0=mI:=by rw[hc];rfl
 have abh:c.t 1=mH:=by rw[hc];rfl
 clear hc;subst abm;subst abp;subst abr;subst abi;subst abo;subst abj;subst abl;subst abk;subst abq;subst abn;subst abh;have uy:A9 K c:=⟨gk,A7,fun k=>by rcases pT k with rfl|rfl|rfl<;>assumption,fun k=>by rcases mX k with rfl|rfl<;>assumption⟩;have Tn:qF K c "fits" Hq Ht ["self","value"]:=ts (p:=fun i=>MethAt K (eb c i) "fits" (Hq i) (Ht i) ["self","value"]) (agG.at rh.cl di) (ag8.at rk.cl di) (ahn.at rm.cl di) (aga.at rd.cl di) (ag0.at rj.cl di) (agh.at ql.cl di) (agy.at rg.cl di) (agq.at rf.cl di) (ahf.at rl.cl di) (agN.at ri.cl di) (afX.at rb.cl di);have Tq:qF K c "written" GO GU ["self","value"]:=ts (p:=fun i=>MethAt K (eb c i) "written" (GO i) (GU i) ["self","value"]) (agK.at rh.cl di) (ahc.at rk.cl di) (ahr.at rm.cl di) (age.at rd.cl di) (ag5.at rj.cl di) (agn.at ql.cl di) (agD.at rg.cl di) (agv.at rf.cl di) (ahk.at rl.cl di) (agS.at ri.cl di) (af2.at rb.cl di);have Tl:qF K c "draw" Hr Hu ["self","source"]:=ts (p:=fun i=>MethAt K (eb c i) "draw" (Hr i) (Hu i) ["self","source"]) (agF.at rh.cl di) (ag7.at rk.cl di) (ahm.at rm.cl di) (af9.at rd.cl di) (agZ.at rj.cl di) (agg.at ql.cl di) (agx.at rg.cl di) (agp.at rf.cl di) (ahe.at rl.cl di) (agM.at ri.cl di) (afW.at rb.cl di);have Tp:qF K c "row" (fun _=>"Form.row") (fun _=>lJ) ["self","value"]:=ts (p:=fun i=>MethAt K (eb c i) "row" ("Form.row") (lJ) ["self","value"]) (agI.at rh.cl di) (aha.at rk.cl di) (ahp.at rm.cl di) (agc.at rd.cl di) (ag3.at rj.cl di) (agl.at ql.cl di) (agB.at rg.cl di) (agt.at rf.cl di) (ahi.at rl.cl di) (agQ.at ri.cl di) (af0.at rb.cl di);have To:qF K c "read" (fun _=>"Form.read") (fun _=>lI) ["self","signs","at"]:=ts (p:=fun i=>MethAt K (eb c i) "read" ("Form.read") (lI) ["self","signs","at"]) (agH.at rh.cl h7) (ag9.at rk.cl h7) (aho.at rm.cl h7) (agb.at rd.cl h7) (ag2.at rj.cl h7) (agk.at ql.cl h7) (agA.at rg.cl h7) (ags.at rf.cl h7) (ahh.at rl.cl h7) (agP.at ri.cl h7) (afZ.at rb.cl h7);have n8:=(fq (P:=l.prog) (w:=w) (mg:=mg) (zn:=zn) ajo fun _ _ G=>W8 A7 G).1;have ky:=Ui (P:=l.prog) (w:=w) (zn:=zn) nb uy Tn qX qW n0 R6 ph xK 9;have l3:=ZP nb uy Tq n8 sY pf pj sX xP 9;have lx:=Vc nb uy Tl T.cl qX qW hF mN mM pe sV xJ 9;have pd:=V1 Tp ky l3;have vL:=Vb T To xY lx;have Ti:JU K c:=⟨(agE.at rh.cl h7),(ag6.at rk.cl h7),(ahl.at rm.cl h7),(af8.at rd.cl h7),(agY.at rj.cl h7),(agf.at ql.cl h7),(agw.at rg.cl h7),(ago.at rf.cl h7),(ahd.at rl.cl h7),(agL.at ri.cl h7),(afV.at rb.cl h7),uy.kt,uy.m9⟩;have Tj:Ko K c:=⟨(agJ.at rh.cl fT),(ahb.at rk.cl fT),(ahq.at rm.cl fT),(agd.at rd.cl fT),(ag4.at rj.cl fT),(agm.at ql.cl fT),(agC.at rg.cl fT),(agu.at rf.cl fT),(ahj.at rl.cl fT),(agR.at ri.cl fT),(af1.at rb.cl fT),gk,A7,uy.kt,uy.m9⟩;have rz:=XK (P:=l.prog) (w:=w) (zn:=zn) nb So;have lu:=MB nb Ti n8 rz 9;have kz:=MA (P:=l.prog) (w:=w) (zn:=zn) nb Tj S3 9;have Aq:=Y8 nb qI.cl HK HN SZ n9 ma;have vW:=Z3 qI.cl S4 nj Aq rO;have vU:=YH qI.cl wN SV ma rN;have vQ:=Zg (P:=l.prog) (w:=w) (zn:=zn) Sf rJ sF rK sG rL sH rI sE;have rA:=LN qI.cl ox wQ Sq S0 S1 Sg n9 ma nj vQ vW vU l9 l8 n6 n5 n7 8;have EO:=Z7 qI.cl Sr Fc v3 rA;have pg:=Yg (P:=l.prog) (w:=w) (zn:=zn) nb SD;have qx:=Za (P:=l.prog) (w:=w) (zn:=zn) SJ;have vS:=W2 nb SM pg qx;have vR:=Ye (P:=l.prog) (w:=w) (zn:=zn) nb SK;have rB:=XJ (P:=l.prog) (w:=w) (zn:=zn) nb SO;have uf:=Lw nb SR rB vR 8;have rC:=Lx (P:=l.prog) (w:=w) (zn:=zn) nb SQ 8;have EX:=ZE nb SU rB;have EV:=Yf nb SF pg qx vS EX uf;have xN:=Lz nb SG SH rJ sF rK sG rL sH rI sE rO rN l9 l8 n6 n5 n7 8;have vT:=WR (P:=l.prog) (w:=w) (zn:=zn) nb SP;have sW:=Lh nb SS vT 8;have ET:=Zc nb Sz pd ky vL lu;have EU:=Zb nb SA rC;have xM:=LA (P:=l.prog) (w:=w) (zn:=zn) nb SE 8;have xO:=Ly (P:=l.prog) (w:=w) (zn:=zn) nb SI 8;have EW:=YI nb SN xM xO l9 l8 kz pd vL lu;exact UI nb J8 EV pg qx EU rC EO xN kz vS sW ET EW
def walk{l:PySem.W.OpenLaw}{q:dR}{d:DefRec}{K:Params->bT}(bj:l.most=J 63)(sg:d.params.defaults=[])
  (H5:∀(w:dd)(h:bR),td w h->(K w.params).In h)
  (F:∀(w:dd)(mg:aa->Option ax)(fa:ag)(h:bR),(K w.params).In h->h.Ns fx mg->mg d.name=J (.ref fa)->
   ∃fd:i9,(∀(s:aT)(u:ax),BindsTo s fd ⟨[u],[]⟩ [("_law_script",u)])/\∀zn:bR,(K w.params).In zn->zn.Ns fx mg->cB l.prog w (K w.params) mg zn cM 42 fa fd ["_law_script"] (QV (K w.params))) :
  PySem.W.WalkO q loose wg td l.row.toRowW d [] (fun f vs=>PySem.call f vs) :=
 c6.Vj (n:=63) (k:=42) (x:="_law_script") (CX:=fun _=>cM) (sp:=fun w=>QV (K w.params)) bj (by decide) sg ⟨rfl,by decide,by decide,rfl⟩ H5 F (fun _ _ a ns aC _ c7=>⟨a,ns,rfl,c7,aC,fun _=>rfl⟩) fun _ _ _ _ _ z=>z
end
end KR
end
open PySem PySem.W PyProof.Rows
set_option maxRecDepth 100000 in
set_option maxHeartbeats 0 in
theorem PySem.Challenge.cw_keyrise_k33_whole_forms_as_texts_holds : PySem.Challenge.rw_keyrise_k33_whole_forms_as_texts.Holds := by
 refine KR.GG.2 ?_
 delta KR.GG
 dsimp only
 k_fill
 refine KR.walk (l:=PySem.Challenge.rw_keyrise_k33_whole_forms_as_texts) rfl rfl (fun w h Y=>PySem.W.kIn_of Y) ?F
 case F =>
  intro w mg fa h KX G hmg
  refine' KR.Xhy KX G hmg ?a0 ?a1 ?a2 ?a3 ?a4 ?a5 ?a6 ?a7 ?a8 ?a9 ?a10 ?a11 ?a12 ?a13 ?a14 ?a15 ?a16 ?a17 ?a18 ?a19 ?a20 ?a21 ?a22 ?a23 ?a24 ?a25 ?a26 ?a27 ?a28 ?a29 ?a30 ?a31 ?a32 ?a33 ?a34 ?a35 ?a36 ?a37 ?a38 ?a39 ?a40 ?a41 ?a42 ?a43 ?a44 ?a45 ?a46 ?a47 ?a48 ?a49 ?a50 ?a51 ?a52 ?a53 ?a54 ?a55 ?a56 ?a57 ?a58 ?a59 ?a60 ?a61 ?a62 ?a63 ?a64 ?a65 ?a66 ?a67 ?a68 ?a69 ?a70 ?a71 ?a72 ?a73 ?a74 ?a75 ?a76 ?a77 ?a78 ?a79 ?a80 ?a81 ?a82 ?a83 ?a84 ?a85 ?a86 ?a87 ?a88 ?a89 ?a90 ?a91 ?a92 ?a93 ?a94 ?a95 ?a96 ?a97 ?a98 ?a99 ?a100 ?a101 ?a102 ?a103 ?a104 ?a105 ?a106 ?a107 ?a108 ?a109 ?a110 ?a111 ?a112 ?a113 ?a114 ?a115 ?a116 ?a117 ?a118 ?a119 ?a120 ?a121 ?a122 ?a123 ?a124 ?a125 ?a126 ?a127 ?a128 ?a129 ?a130 ?a131 ?a132 ?a133 ?a134 ?a135 ?a136 ?a137 ?a138 ?a139 ?a140 ?a141 ?a142 ?a143 ?a144 ?a145 ?a146 ?a147 ?a148 ?a149 ?a150 ?a151 ?a152 ?a153 ?a154 ?a155 ?a156 ?a157 ?a158 ?a159 ?a160 ?a161 ?a162 ?a163 ?a164 ?a165 ?a166 ?a167 ?a168 ?a169 ?a170 ?a171 ?a172 ?a173 ?a174 ?a175 ?a176 ?a177 ?a178 ?a179 ?a180 ?a181 ?a182 ?a183 ?a184 ?a185 ?a186 ?a187 ?a188 ?a189 ?a190 ?a191 ?a192 ?a193 ?a194 ?a195 ?a196 ?a197 ?a198 ?a199 ?a200 ?a201 ?a202 ?a203 ?a204 ?a205 ?a206 ?a207 ?a208 ?a209 ?a210
  (case a0 | a1 | a2 | a3 | a4 | a5 | a6 | a7 | a8 | a9 | a10 | a11 | a12=>apply KR.cpMk<;>k_is)
  (case a13 | a14 | a15 | a16 | a17=>k_is)
  (case a18 | a19 | a20 | a21 | a22=>apply KR.mpMk<;>k_is)
  (case a23=>k_is)
  (case a24 | a25 | a26 | a27 | a28 | a29 | a30=>apply KR.mpMk<;>k_is)
  (case a31=>k_is)
  (case a32 | a33 | a34 | a35 | a36 | a37 | a38=>apply KR.mpMk<;>k_is)
  (case a39=>k_is)
  (case a40 | a41 | a42 | a43 | a44 | a45 | a46=>apply KR.mpMk<;>k_is)
  (case a47=>k_is)
  (case a48 | a49 | a50 | a51 | a52 | a53 | a54=>apply KR.mpMk<;>k_is)
  (case a55 | a56=>k_is)
  (case a57 | a58 | a59 | a60 | a61 | a62 | a63 | a64=>apply KR.mpMk<;>k_is)
  (case a65=>k_is)
  (case a66 | a67 | a68 | a69 | a70 | a71 | a72 | a73 | a74=>apply KR.mpMk<;>k_is)
  (case a75=>k_is)
  (case a76 | a77 | a78 | a79 | a80 | a81 | a82 | a83=>apply KR.mpMk<;>k_is)
  (case a84=>k_is)
  (case a85 | a86 | a87 | a88 | a89 | a90 | a91 | a92=>apply KR.mpMk<;>k_is)
  (case a93=>k_is)
  (case a94 | a95 | a96 | a97 | a98 | a99 | a100 | a101=>apply KR.mpMk<;>k_is)
  (case a102 | a103=>k_is)
  (case a104 | a105 | a106 | a107 | a108 | a109 | a110 | a111=>apply KR.mpMk<;>k_is)
  (case a112 | a113=>k_is)
  (case a114 | a115 | a116 | a117 | a118 | a119 | a120 | a121=>apply KR.mpMk<;>k_is)
  (case a122 | a123=>k_is)
  (case a124 | a125 | a126 | a127 | a128=>apply KR.mpMk<;>k_is)
  (case a129 | a130 | a131 | a132 | a133 | a134 | a135 | a136 | a137 | a138 | a139 | a140 | a141 | a142 | a143 | a144 | a145 | a146 | a147 | a148 | a149 | a150 | a151 | a152 | a153 | a154 | a155 | a156 | a157 | a158 | a159 | a160 | a161 | a162 | a163 | a164 | a165 | a166 | a167 | a168 | a169 | a170 | a171 | a172 | a173 | a174 | a175 | a176 | a177 | a178 | a179 | a180 | a181=>apply KR.fpMk<;>k_is)
  (case a182 | a183 | a184 | a185 | a186 | a187 | a188 | a189 | a190 | a191 | a192 | a193 | a194 | a195 | a196 | a197 | a198 | a199 | a200 | a201 | a202 | a203 | a204 | a205 | a206 | a207 | a208 | a209 | a210=>k_is)
