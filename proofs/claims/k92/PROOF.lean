import PyProof.Rows.All
import Wide.All
import OpenK.AllK
import Wide.FinOn
import Lean
import PyProof.EqAt
import PyProof.EqKinds
import PyProof.TupleCall
import PySem.Challenge.RW_ringheaps_k92_desk_refused
set_option Elab.async false
set_option linter.all false
set_option maxRecDepth 100000
def PySem.W.Fast.tw17690359035290095430 : Unit := ()
def PySem.W.Fast.tw14400045635667631066 : Unit := ()
def PySem.W.Fast.tw4161422337986162649 : Unit := ()
def PySem.W.Fast.tw861502493610598483 : Unit := ()
def PySem.W.Fast.tw4317558183611042337 : Unit := ()
def PySem.W.Fast.tw6449128278215917044 : Unit := ()
def PySem.W.Fast.tw3542984721355170951 : Unit := ()
def PySem.W.Fast.tw3365107070216802633 : Unit := ()
def PySem.W.Fast.tw887297739250893426 : Unit := ()
def PySem.W.Fast.tw9196854541321204718 : Unit := ()
def PySem.W.Fast.tw7774113678449685934 : Unit := ()
def PySem.W.Fast.tw4295227981214676045 : Unit := ()
def PySem.W.Fast.tw7115363241070718387 : Unit := ()
def PySem.W.Fast.tw9008160628827913882 : Unit := ()
def PySem.W.Fast.tw11038752745809355942 : Unit := ()
def PySem.W.Fast.tw4738809144493168741 : Unit := ()
def PySem.W.Fast.tw264932986702033461 : Unit := ()
def PySem.W.Fast.tw4142209100229140859 : Unit := ()
def PySem.W.Fast.tw1831729633985795129 : Unit := ()
def PySem.W.Fast.tw1848955828906020544 : Unit := ()
def PySem.W.Fast.tw3436668677267843481 : Unit := ()
def PySem.W.Fast.tw13053394406489344094 : Unit := ()
def PySem.W.Fast.tw5483103596317574428 : Unit := ()
def PySem.W.Fast.tw15392607536498751706 : Unit := ()
def PySem.W.Fast.tw4563574211093696666 : Unit := ()
def PySem.W.Fast.tw5665240888008139550 : Unit := ()
def PySem.W.Fast.tw16153686074110841394 : Unit := ()
def PySem.W.Fast.tw8166255043249204926 : Unit := ()
def PySem.W.Fast.tw2925816871977632210 : Unit := ()
def PySem.W.Fast.tw13797355535440723964 : Unit := ()
def PySem.W.Fast.tw506581581156960101 : Unit := ()
def PySem.W.Fast.tw5617726103321767126 : Unit := ()
def PySem.W.Fast.tw4290864757253303354 : Unit := ()
def PySem.W.Fast.tw106238620676264406 : Unit := ()
def PySem.W.Fast.tw16046435833275179198 : Unit := ()
def PySem.W.Fast.tw14646812006431793189 : Unit := ()
def PySem.W.Fast.tw5651157763983816626 : Unit := ()
def PySem.W.Fast.tw14740420172473848036 : Unit := ()
def PySem.W.Fast.tw9385439782273163706 : Unit := ()
def PySem.W.Fast.tw8057509151949241040 : Unit := ()
def PySem.W.Fast.tw15142666989864626641 : Unit := ()
def PySem.W.Fast.tw4600438763894957952 : Unit := ()
def PySem.W.Fast.tw7792700002687035005 : Unit := ()
def PySem.W.Fast.tw2786648768249225349 : Unit := ()
def PySem.W.Fast.tw18031968618487185184 : Unit := ()
def PySem.W.Fast.tw3099597729799864441 : Unit := ()
def PySem.W.Fast.tw2483321941437592071 : Unit := ()
def PySem.W.Fast.tw18220031379085947620 : Unit := ()
def PySem.W.Fast.tw11662115353561507501 : Unit := ()
def PySem.W.Fast.tw4924870960704170253 : Unit := ()
def PySem.W.Fast.tw3045536173889598909 : Unit := ()
def PySem.W.Fast.tw13524629859250030606 : Unit := ()
def PySem.W.Fast.tw9057035906848192889 : Unit := ()
def PySem.W.Fast.tw10551173667578312727 : Unit := ()
def PySem.W.Fast.tw467448935156912217 : Unit := ()
def PySem.W.Fast.tw10879749546641988924 : Unit := ()
def PySem.W.Fast.tw1062514266329012355 : Unit := ()
def PySem.W.Fast.tw1660798551392318424 : Unit := ()
def PySem.W.Fast.tw10228342955482612591 : Unit := ()
def PySem.W.Fast.tw15410026232451227693 : Unit := ()
def PySem.W.Fast.tw4971374062829452455 : Unit := ()
def PySem.W.Fast.tw3431730946639244569 : Unit := ()
def PySem.W.Fast.tw2172276787581067923 : Unit := ()
def PySem.W.Fast.tw784289164321568707 : Unit := ()
def PySem.W.Fast.tw8909772338491405060 : Unit := ()
def PySem.W.Fast.tw11434409910335936926 : Unit := ()
def PySem.W.Fast.tw5874822333441161849 : Unit := ()
def PySem.W.Fast.tw8278001386518606062 : Unit := ()
def PySem.W.Fast.tw16563755786747866690 : Unit := ()
def PySem.W.Fast.tw18335596039185421423 : Unit := ()
def PySem.W.Fast.tw17937168697417666835 : Unit := ()
def PySem.W.Fast.tw15932183184989994656 : Unit := ()
def PySem.W.Fast.tw8997383693586321770 : Unit := ()
def PySem.W.Fast.tw6900931685637148767 : Unit := ()
def PySem.W.Fast.tw14995258362815363992 : Unit := ()
def PySem.W.Fast.tw5342471268416680606 : Unit := ()
def PySem.W.Fast.tw17338325484393633139 : Unit := ()
def PySem.W.Fast.tw7372170664606466022 : Unit := ()
def PySem.W.Fast.tw1405720946626083897 : Unit := ()
def PySem.W.Fast.tw8212203176049278890 : Unit := ()
def PySem.W.Fast.tw13931877327420345601 : Unit := ()
def PySem.W.Fast.tw15171223727094530161 : Unit := ()
def PySem.W.Fast.tw10698057553749749337 : Unit := ()
def PySem.W.Fast.tw7370394436535831451 : Unit := ()
def PySem.W.Fast.tw11911167908941700269 : Unit := ()
def PySem.W.Fast.tw16260866306193365299 : Unit := ()
def PySem.W.Fast.tw17312402878845073609 : Unit := ()
def PySem.W.Fast.tw16378183091871739711 : Unit := ()
def PySem.W.Fast.tw12917704675397863716 : Unit := ()
def PySem.W.Fast.tw2527701527901579348 : Unit := ()
def PySem.W.Fast.tw9931937742245647033 : Unit := ()
def PySem.W.Fast.tw12901003280762261817 : Unit := ()
def PySem.W.Fast.tw3335794202401238526 : Unit := ()
def PySem.W.Fast.tw6851275008772768644 : Unit := ()
def PySem.W.Fast.tw11824586356888161845 : Unit := ()
def PySem.W.Fast.tw447263597446747957 : Unit := ()
def PySem.W.Fast.tw15267169705364848929 : Unit := ()
def PySem.W.Fast.tw14202271707224943307 : Unit := ()
def PySem.W.Fast.tw14801369171006070438 : Unit := ()
def PySem.W.Fast.tw11524815483048965402 : Unit := ()
def PySem.W.Fast.tw16060203290454839817 : Unit := ()
def PySem.W.Fast.tw6508132753307246276 : Unit := ()
def PySem.W.Fast.tw6329614223026926184 : Unit := ()
def PySem.W.Fast.tw6194202620331982285 : Unit := ()
def PySem.W.Fast.tw4562827626845409882 : Unit := ()
def PySem.W.Fast.tw16086907953836968628 : Unit := ()
def PySem.W.Fast.tw13705283562680751584 : Unit := ()
def PySem.W.Fast.tw699815216081779126 : Unit := ()
def PySem.W.Fast.tw10539347186207431242 : Unit := ()
def PySem.W.Fast.tw13032259773685033708 : Unit := ()
def PySem.W.Fast.tw12960429369202013873 : Unit := ()
def PySem.W.Fast.tw4704452742865826424 : Unit := ()
def PySem.W.Fast.tw7164969610272591079 : Unit := ()
def PySem.W.Fast.tw13956191218907399338 : Unit := ()
def PySem.W.Fast.tw18004296560267143027 : Unit := ()
def PySem.W.Fast.tw6557801498797044033 : Unit := ()
def PySem.W.Fast.tw9947508896943372755 : Unit := ()
def PySem.W.Fast.tw17680797132471856694 : Unit := ()
def PySem.W.Fast.tw5662061979359257339 : Unit := ()
def PySem.W.Fast.tw18383651708701053236 : Unit := ()
def PySem.W.Fast.tw3681537716864247207 : Unit := ()
def PySem.W.Fast.tw7091221385724896812 : Unit := ()
def PySem.W.Fast.tw15861351967447197489 : Unit := ()
def PySem.W.Fast.tw10236332898609347644 : Unit := ()
def PySem.W.Fast.tw15870398105094248349 : Unit := ()
def PySem.W.Fast.tw2595618661548880785 : Unit := ()
def PySem.W.Fast.tw3436067635600285980 : Unit := ()
def PySem.W.Fast.tw14332157829676619468 : Unit := ()
def PySem.W.Fast.tw14243238205550065757 : Unit := ()
def PySem.W.Fast.tw10953238642706405951 : Unit := ()
def PySem.W.Fast.tw17658959251048325594 : Unit := ()
def PySem.W.Fast.tw16756451883985382160 : Unit := ()
def PySem.W.Fast.tw3374319085511977134 : Unit := ()
def PySem.W.Fast.tw1692201390411429781 : Unit := ()
def PySem.W.Fast.tw7837367980739423823 : Unit := ()
def PySem.W.Fast.tw8392358500681263680 : Unit := ()
def PySem.W.Fast.tw5444512763150141072 : Unit := ()
def PySem.W.Fast.tw12773500944031208451 : Unit := ()
def PySem.W.Fast.tw16864618592142003386 : Unit := ()
def PySem.W.Fast.tw2228412568605170491 : Unit := ()
def PySem.W.Fast.tw726351398001015727 : Unit := ()
def PySem.W.Fast.tw991626836265849350 : Unit := ()
def PySem.W.Fast.tw18095796173783872564 : Unit := ()
def PySem.W.Fast.tw6172094611929405055 : Unit := ()
def PySem.W.Fast.tw13366278800048369731 : Unit := ()
def PySem.W.Fast.tw9496581404884138560 : Unit := ()
def PySem.W.Fast.tw10859743581388371069 : Unit := ()
def PySem.W.Fast.tw14479964200598819128 : Unit := ()
def PySem.W.Fast.tw16746677531222629524 : Unit := ()
def PySem.W.Fast.tw16802631365582062104 : Unit := ()
def PySem.W.Fast.tw10295913840692754127 : Unit := ()
def PySem.W.Fast.tw4408816720484365081 : Unit := ()
def PySem.W.Fast.tw12681666616541194006 : Unit := ()
def PySem.W.Fast.tw211337195705725219 : Unit := ()
def PySem.W.Fast.tw14294133066467233204 : Unit := ()
def PySem.W.Fast.tw727553628536289456 : Unit := ()
def PySem.W.Fast.tw3433779192033484610 : Unit := ()
def PySem.W.Fast.tw15240619367488684849 : Unit := ()
def PySem.W.Fast.tw6631347999910079877 : Unit := ()
def PySem.W.Fast.tw360634875079729221 : Unit := ()
def PySem.W.Fast.tw17348111734160510231 : Unit := ()
def PySem.W.Fast.tw15805137534098808535 : Unit := ()
def PySem.W.Fast.tw9252304221032618942 : Unit := ()
def PySem.W.Fast.tw5462360663327728810 : Unit := ()
def PySem.W.Fast.tw15326580083554890809 : Unit := ()
def PySem.W.Fast.tw10611411778653204182 : Unit := ()
def PySem.W.Fast.tw2466311954974566718 : Unit := ()
def PySem.W.Fast.tw18367749455379333440 : Unit := ()
def PySem.W.Fast.tw8757050672659960515 : Unit := ()
def PySem.W.Fast.tw9404705873571188630 : Unit := ()
def PySem.W.Fast.tw6701911527682315725 : Unit := ()
def PySem.W.Fast.tw628631919661052299 : Unit := ()
def PySem.W.Fast.tw6278996535519779258 : Unit := ()
def PySem.W.Fast.tw13069393092227542028 : Unit := ()
def PySem.W.Fast.tw6331431999304432861 : Unit := ()
def PySem.W.Fast.tw16248296213531012650 : Unit := ()
def PySem.W.Fast.tw12064304430848566033 : Unit := ()
def PySem.W.Fast.tw1719895430356276633 : Unit := ()
def PySem.W.Fast.tw987426779421491659 : Unit := ()
def PySem.W.Fast.tw10159399881129095643 : Unit := ()
def PySem.W.Fast.tw3992765435912101610 : Unit := ()
def PySem.W.Fast.tw7900394595670775223 : Unit := ()
def PySem.W.Fast.tw18441984877410159329 : Unit := ()
def PySem.W.Fast.tw11853640710764476214 : Unit := ()
def PySem.W.Fast.tw4309217394794523951 : Unit := ()
def PySem.W.Fast.tw2399617604181995578 : Unit := ()
def PySem.W.Fast.tw12188032599808994241 : Unit := ()
def PySem.W.Fast.tw11151835277377553703 : Unit := ()
def PySem.W.Fast.tw2015444344454546412 : Unit := ()
def PySem.W.Fast.tw5263133172445716209 : Unit := ()
def PySem.W.Fast.tw8191318114535113306 : Unit := ()
def PySem.W.Fast.tw9316815775250114193 : Unit := ()
def PySem.W.Fast.tw13053770412826190925 : Unit := ()
def PySem.W.Fast.tw908480701973217441 : Unit := ()
def PySem.W.Fast.tw14940998509354871970 : Unit := ()
def PySem.W.Fast.tw14424681132571578402 : Unit := ()
def PySem.W.Fast.tw13142635158332540280 : Unit := ()
def PySem.W.Fast.tw542563422162235373 : Unit := ()
def PySem.W.Fast.tw15475723433398761304 : Unit := ()
def PySem.W.Fast.tw12549542988036985293 : Unit := ()
def PySem.W.Fast.tw3831019782443316194 : Unit := ()
def PySem.W.Fast.tw10842938092177581297 : Unit := ()
def PySem.W.Fast.tw10861573186032746274 : Unit := ()
def PySem.W.Fast.tw1467881925912835984 : Unit := ()
def PySem.W.Fast.tw10395332584310045583 : Unit := ()
def PySem.W.Fast.tw12550775161083096063 : Unit := ()
def PySem.W.Fast.tw6325675986683464353 : Unit := ()
def PySem.W.Fast.tw18248855084332350957 : Unit := ()
def PySem.W.Fast.tw11076892268299887525 : Unit := ()
def PySem.W.Fast.tw2629151800749243262 : Unit := ()
def PySem.W.Fast.tw3475869608268796686 : Unit := ()
def PySem.W.Fast.tw16839002366802243188 : Unit := ()
def PySem.W.Fast.tw9806118890596472461 : Unit := ()
def PySem.W.Fast.tw12250869413391326473 : Unit := ()
def PySem.W.Fast.tw14226173905949225808 : Unit := ()
def PySem.W.Fast.tw2078950565319712143 : Unit := ()
def PySem.W.Fast.tw12921946191010883867 : Unit := ()
def PySem.W.Fast.tw16607193741793207195 : Unit := ()
def PySem.W.Fast.tw15699961213505342161 : Unit := ()
def PySem.W.Fast.tw2810200551564342888 : Unit := ()
def PySem.W.Fast.tw3652199383789512132 : Unit := ()
def PySem.W.Fast.tw7873786274422454737 : Unit := ()
def PySem.W.Fast.tw16998588944726240723 : Unit := ()
def PySem.W.Fast.tw14594842627406614536 : Unit := ()
def PySem.W.Fast.tw13459084325293418506 : Unit := ()
def PySem.W.Fast.tw13298828918039433023 : Unit := ()
def PySem.W.Fast.tw10387345722656961088 : Unit := ()
def PySem.W.Fast.tw17590705303994421779 : Unit := ()
def PySem.W.Fast.tw4993863958327201973 : Unit := ()
def PySem.W.Fast.tw10052031235695348791 : Unit := ()
def PySem.W.Fast.tw7787813539459594420 : Unit := ()
def PySem.W.Fast.tw8908233856664302321 : Unit := ()
def PySem.W.Fast.tw17163426234232328066 : Unit := ()
def PySem.W.Fast.tw6607644564249050058 : Unit := ()
def PySem.W.Fast.tw10085292869130188298 : Unit := ()
def PySem.W.Fast.tw13484562703626004877 : Unit := ()
def PySem.W.Fast.tw6549852094080907030 : Unit := ()
def PySem.W.Fast.tw9744259246892133002 : Unit := ()
def PySem.W.Fast.tw5395340147747708899 : Unit := ()
def PySem.W.Fast.tw7921390202802761869 : Unit := ()
def PySem.W.Fast.tw8331849164307833061 : Unit := ()
def PySem.W.Fast.tw2597523674469684444 : Unit := ()
def PySem.W.Fast.tw13631397514672939371 : Unit := ()
def PySem.W.Fast.tw16212330677787901120 : Unit := ()
def PySem.W.Fast.tw6327569006664949090 : Unit := ()
def PySem.W.Fast.tw16766484511958638138 : Unit := ()
def PySem.W.Fast.tw10161179621583223854 : Unit := ()
def PySem.W.Fast.tw14546174082565282566 : Unit := ()
def PySem.W.Fast.tw16773468814595293053 : Unit := ()
def PySem.W.Fast.tw3985964047577975286 : Unit := ()
def PySem.W.Fast.tw6084841979344569690 : Unit := ()
def PySem.W.Fast.tw622995879521568732 : Unit := ()
def PySem.W.Fast.tw10510019762269167821 : Unit := ()
def PySem.W.Fast.tw5239429619861171699 : Unit := ()
def PySem.W.Fast.tw17883462748017686043 : Unit := ()
def PySem.W.Fast.tw6030501089693204938 : Unit := ()
def PySem.W.Fast.tw17260811203177919210 : Unit := ()
def PySem.W.Fast.tw9510108024173832781 : Unit := ()
def PySem.W.Fast.tw14391293386007564604 : Unit := ()
def PySem.W.Fast.tw2474200967059427378 : Unit := ()
def PySem.W.Fast.tw18003772858949239459 : Unit := ()
def PySem.W.Fast.tw5404398260228975080 : Unit := ()
def PySem.W.Fast.tw7933485763601977624 : Unit := ()
def PySem.W.Fast.tw2990168724187919761 : Unit := ()
def PySem.W.Fast.tw5217270863462422736 : Unit := ()
def PySem.W.Fast.tw17817366049700826239 : Unit := ()
def PySem.W.Fast.tw16797375974695604193 : Unit := ()
def PySem.W.Fast.tw12528533614272120300 : Unit := ()
def PySem.W.Fast.tw2997492091776894028 : Unit := ()
def PySem.W.Fast.tw11317637306720784765 : Unit := ()
def PySem.W.Fast.tw17877845533520812795 : Unit := ()
def PySem.W.Fast.tw977512076041815475 : Unit := ()
def PySem.W.Fast.tw16721508838639397229 : Unit := ()
def PySem.W.Fast.tw15036080040530398195 : Unit := ()
def PySem.W.Fast.tw6828597562223498359 : Unit := ()
def PySem.W.Fast.tw14903569129155370506 : Unit := ()
def PySem.W.Fast.tw18073898193381586223 : Unit := ()
def PySem.W.Fast.tw12843764043397292189 : Unit := ()
def PySem.W.Fast.tw6046103115902281144 : Unit := ()
def PySem.W.Fast.tw16822532161544500889 : Unit := ()
def PySem.W.Fast.tw8834805137890396735 : Unit := ()
def PySem.W.Fast.tw8319933024895762948 : Unit := ()
def PySem.W.Fast.tw11844019762684407370 : Unit := ()
def PySem.W.Fast.tw9553971096990549364 : Unit := ()
def PySem.W.Fast.tw15593559885672580101 : Unit := ()
def PySem.W.Fast.tw14746253646979254834 : Unit := ()
def PySem.W.Fast.tw514280064592716601 : Unit := ()
def PySem.W.Fast.tw6657536258744368796 : Unit := ()
def PySem.W.Fast.tw11207431853666184334 : Unit := ()
def PySem.W.Fast.tw6105849179199505303 : Unit := ()
def PySem.W.Fast.tw15621415185263527259 : Unit := ()
def PySem.W.Fast.tw10792498714594961201 : Unit := ()
def PySem.W.Fast.tw4075453323654395381 : Unit := ()
def PySem.W.Fast.tw12408111787983249662 : Unit := ()
def PySem.W.Fast.tw9201617497623189827 : Unit := ()
def PySem.W.Fast.tw5000232492035539693 : Unit := ()
def PySem.W.Fast.tw15969335453137586327 : Unit := ()
def PySem.W.Fast.tw8739830900816887780 : Unit := ()
def PySem.W.Fast.tw4946147512530127568 : Unit := ()
def PySem.W.Fast.tw172746767574481773 : Unit := ()
def PySem.W.Fast.tw11107512795663914464 : Unit := ()
def PySem.W.Fast.tw11401859456886640639 : Unit := ()
def PySem.W.Fast.tw12747814925858328940 : Unit := ()
def PySem.W.Fast.tw5086489192560080304 : Unit := ()
def PySem.W.Fast.tw3971525946579005399 : Unit := ()
def PySem.W.Fast.tw15895094517606616290 : Unit := ()
def PySem.W.Fast.tw9223045988441327695 : Unit := ()
def PySem.W.Fast.tw15254633091992210921 : Unit := ()
def PySem.W.Fast.tw17435391645217708394 : Unit := ()
def PySem.W.Fast.tw4884199854448574 : Unit := ()
def PySem.W.Fast.tw14284835775768690865 : Unit := ()
def PySem.W.Fast.tw15052318979288761249 : Unit := ()
def PySem.W.Fast.tw3365755272349913518 : Unit := ()
def PySem.W.Fast.tw3236729772642805936 : Unit := ()
def PySem.W.Fast.tw14847308668706973960 : Unit := ()
def PySem.W.Fast.tw13539809779269347639 : Unit := ()
set_option maxHeartbeats 0 in
open_top hd for PySem.Challenge.rw_ringheaps_k92_desk_refused
open PySem renaming wpAny_bind → zdy, wpAny_pure → zdz, FuncData → zdA, sizeLine → zdB
open PySem.Str renaming ofString → zdx
open PySem.W renaming Frag → zdw
open Array renaming getElem?_eq_some_iff → zaq, getElem?_eq_getElem → zbq, length_toList → zbN
open Bool renaming false_ne_true → tS, and_eq_true → zaa, eq_iff_iff → zaW, eq_false_iff → zbZ, false_and → zcv, or_eq_true → zcY, and_false → zdd, true_and → zdi, false_eq_true → zdk
open Int renaming toNat_natCast → zbi, fdiv_eq_ediv_of_nonneg → zbG, emod_lt_of_pos → zbV, emod_nonneg → zcn, natCast_nonneg → zcw
open List renaming length_map → tj, getElem?_eq_some_iff → tq, mem_cons_of_mem → tF, map_append → tH, take_of_length_le → tI, mem_cons → tJ, mem_cons_self → tK, map_cons → tL, take_add_one → tO, length_cons → tP, mem_map → tQ, length_append → tR, mem_of_getElem? → tV, getElem?_eq_getElem → tW, getElem?_map → tZ, lookup_cons → zad, mem_singleton → zaf, length_take → zag, size_toArray → zah, not_mem_nil → zai, all_eq_true → zak, sum_cons → zam, mem_append_right → zan, getElem?_append_right → zap, mem_append → zar, filterMap_cons → zav, mem_filter → zaw, getElem?_append_left → zay, filterMap_append → zaz, lookup → zaA, range → zaD, nodup_cons → zaG, length_filter_le → zaH, mem_append_left → zaK, getD_eq_getElem?_getD → zaL, map_map → zaM, filter_sublist → zaP, eq_nil_of_length_eq_zero → zaQ, mem_filterMap → zaR, getElem_mem → zaT, append_nil → zaX, find?_cons → zaY, filter_append → zbb, getElem?_of_mem → zbg, sum_append → zbk, any_eq_true → zbl, mem_nil_iff → zbm, length → zbs, length_filterMap_le → zbt, cons → zbv, filter_cons → zbx, all_map → zby, getElem?_take → zbz, length_singleton → zbE, length_range → zbF, nodup_nil → zbH, pairwise_iff_getElem → zbL, getElem?_take_of_lt → zbR, of_mem_zip → zbS, length_zip → zbT, getElem?_set_self → zbW, take_sublist → zbY, length_pos_of_mem → zca, foldl_append → zcb, filter_congr → zcc, length_drop → zcd, any_cons → zcf, getElem?_set_ne → zch, mem_erase_of_ne → zcj, foldl_cons → zcm, length_pos_iff → zcp, drop_succ_cons → zcq, map_nil → zcr, mem_range → zcu, contains_cons → zcz, append_of_mem → zcB, exists_cons_of_ne_nil → zcC, getElem?_eq_none_iff → zcD, getElem?_zip_eq_some → zcE, mem_of_find?_eq_some → zcF, all_cons → zcJ, length_erase_of_mem → zcM, cons_append → zcN, pairwise_singleton → zcR, drop_of_length_le → zcW, length_replicate → zcZ, replicate → zdc, mem_of_mem_take → zdf, drop_zero → zdg, findIdx_append → zdh, find?_eq_none → zdl, pairwise_cons → zdn, nodup_append → zdr
open Nat renaming le_refl → tu, lt_of_lt_of_le → tE, le_trans → tM, ne_of_lt → zac, zero_le → zao, lt_of_le_of_lt → zax, lt_irrefl → zaB, le_of_lt → zaC, lt_trichotomy → zaJ, xor_assoc → zbd, lt_or_ge → zbe, lt_succ_self → zbu, testBit_succ → zbw, testBit_xor → zbC, min_eq_left → zbD, ne_of_gt → zbI, xor_self → zbJ, not_lt_zero → zbU, le_add_right → zce, add_le_add_right → zci, strongRecOn → zcl, zero_xor → zcs, sub_self → zct, lt_succ_of_lt → zcI, testBit_zero → zcP, min_le_right → zcQ, le_of_eq → zcT, xor_zero → zcV, le_succ → zdb, pos_of_ne_zero → zdm, xor_comm → zdq
open Option renaming some → tX, isNone_iff_eq_none → zbM, isSome_iff_exists → zbQ, map_some → zck, isSome_map → zcH, map_eq_some_iff → zcU, getD_none → zdt
open PySem.F renaming plainAttrs_str → t9, slot_str_join → zat, type_str_join → zau, slot_str_split → zaN, type_str_split → zaO, slot_dict_getitem → zbK, excBase_ValueError → zcy, slot_str_replace → zcK, type_str_replace → zcL, plainAttrs_list → zcS
open PySem.Heap renaming get?_push_of_some → tz, lt_size → tN, get?_push_size → zae, get?_update_other → zaE, get?_update_self → zaZ, size_push → zbf, get?_none_of_le → zcg
open PySem.W renaming kitOne → tU, findIn → t8, nsIn → zab, mg_none_of → zaj, keepIn → zal, mg_of → zas, kia_one → zaF, emptyDict → zaI, callWith_K → zaS, hasDictIn → zaU, fnOf → zaV, plainGet → zba, isFn → zbc, specialIn → zbh, instObj → zbj, codeIn → zbn, kitAny → zbo, methodCall_KW → zbp, plainOver → zbr, makesIn → zbA, takesIn → zbB, callWith_K0 → zbO, mroIn → zbP, cellsFrom_some → zbX, plainGet_of → zco, lookIn → zcx, tabObj → zcA, methodObj → zcG, codeHdIn → zcO, takerIn → zcX, looks_findIn → zda, noTabs → zde, codeRec_of → zdj, kitx_list → zdo, kitx_dict → zdp, handedIn → zds, typeIn → zdu
namespace L2
open PySem PySem.Spec PyProof.Rows
abbrev qG:=Sum Int Str
def WD:qG->Value->Bool
 | .inl k,v=>Value.isInt k v
 | .inr x,v=>Value.isStrOf x v
def E6(w:World):qG->Int
 | .inl k=>hashInt k
 | .inr x=>hashStr w x
theorem jM:∀{k:qG} {v:Value},WD k v=true->(∃i t,k=Sum.inl i/\v=Value.int i t)\/(∃x t,k=Sum.inr x/\v=Value.str x t)
 | .inl i,v,h=>by
  obtain⟨t,e⟩:=Value.isInt_shape (k:=i) (v:=v) h
  exact .inl ⟨i,t,rfl,e⟩
 | .inr x,v,h=>by
  obtain⟨t,e⟩:=Value.isStrOf_shape (x:=x) (v:=v) h
  exact .inr ⟨x,t,rfl,e⟩
theorem xL(i:Int)(t:Tok):WD (.inl i) (.int i t)=true:=by simp [WD,Value.isInt]
theorem Yq(x:Str)(t:Tok):WD (.inr x) (.str x t)=true:=by simp [WD,Value.isStrOf]
theorem BD(a b:Int):decide ((Sum.inl a:qG)=Sum.inl b)=(a==b):=by
 by_cases e:a=b
 ·subst e;simp
 ·have h:¬(Sum.inl a:qG)=Sum.inl b:=λq=>e (Sum.inl.inj q)
  rw[decide_eq_false h]
  exact(beq_eq_false_iff_ne.mpr e).symm
theorem BA(a b:Str):decide ((Sum.inr a:qG)=Sum.inr b)=decide (a=b):=by
 by_cases e:a=b
 ·subst e;simp
 ·have h:¬(Sum.inr a:qG)=Sum.inr b:=λq=>e (Sum.inr.inj q)
  rw[decide_eq_false h,decide_eq_false e]
theorem BC(a:Int)(b:Str):decide ((Sum.inl a:qG)=Sum.inr b)=false:=decide_eq_false (λq=>nomatch q)
theorem BB(a:Str)(b:Int):decide ((Sum.inr a:qG)=Sum.inl b)=false:=decide_eq_false (λq=>nomatch q)
def jq(prog:Program)(w:World):PySem.KeyKind prog w qG where
 is:=WD
 hash:=E6 w
 inj:=λv a b ha hb=>by
  rcases jM ha with ⟨i,t,rfl,rfl⟩ | ⟨x,t,rfl,rfl⟩
  ·rcases jM hb with ⟨j,u,rfl,e⟩ | ⟨y,u,rfl,e⟩
   ·injection e with e1 _;rw[e1]
   ·exact nomatch e
  ·rcases jM hb with ⟨j,u,rfl,e⟩ | ⟨y,u,rfl,e⟩
   ·exact nomatch e
   ·injection e with e1 _;rw[e1]
 byValue:=λk v h=>by
  rcases jM h with ⟨i,t,rfl,rfl⟩ | ⟨x,t,rfl,rfl⟩<;>rfl
 pyHash:=λhv h=>by
  rcases jM hv with ⟨i,t,rfl,rfl⟩ | ⟨x,t,rfl,rfl⟩
  ·exact wpAny_pyHash_int h
  ·exact wpAny_pyHash_str h
 eqBool:=λhu hv h=>by
  rcases jM hu with ⟨i,t,rfl,rfl⟩ | ⟨x,t,rfl,rfl⟩
  ·rcases jM hv with ⟨j,u,rfl,rfl⟩ | ⟨y,u,rfl,rfl⟩
   ·rw[BD]at h;exact wpAny_eqBool_int h
   ·rw[BC]at h;exact SeqAt.EqAt.int_str i t y u _ _ _ _ h
  ·rcases jM hv with ⟨j,u,rfl,rfl⟩ | ⟨y,u,rfl,rfl⟩
   ·rw[BB]at h;exact SeqAt.EqAt.str_int x t j u _ _ _ _ h
   ·rw[BA]at h;exact wpAny_eqBool_str h
 «strs»:=λk x t v h=>by
  rcases jM h with ⟨i,u,rfl,e⟩ | ⟨y,u,rfl,e⟩
  ·exact nomatch e
  ·injection e with e1 _
   subst e1
   cases v<;>rfl
theorem UD(prog:Program)(w:World)(i:Int)(t:Tok):(jq prog w).is (.inl i) (.int i t)=true:=xL i t
theorem UC(prog:Program)(w:World)(x:Str)(t:Tok):(jq prog w).is (.inr x) (.str x t)=true:=Yq x t
inductive V where
 | non | bl (b:Bool) | int (i:Int) | str (x:Str) | byt (b:Array UInt8) | flt (b:UInt64) | ref (a:Addr) | ty (n:String)
 deriving DecidableEq
def qY:V->Value->Prop
 | .non,u=>u=Value.none
 | .bl b,u=>u=Value.bool b
 | .int i,u=>∃t,u=Value.int i t
 | .str x,u=>∃t,u=Value.str x t
 | .byt b,u=>∃t,u=Value.bytes b t
 | .flt b,u=>∃t,u=Value.float b t
 | .ref a,u=>u=Value.ref a
 | .ty n,u=>u=Value.type n
abbrev qR:List V->List Value->Prop:=Paired qY
theorem qR.length{xs:List V}{us:List Value}(r:qR xs us):xs.length=us.length:=Paired.length r
theorem qR.get:∀{xs:List V} {us:List Value} {i:Nat} {x:V},qR xs us->xs[i]?=some x->∃u,us[i]?=some u/\qY x u
 | _,_,_,_,.nil,e=>by simp at e
 | _,_,0,_,.cons r _,e=>by simp at e;subst e;exact⟨_,rfl,r⟩
 | _,_,i+1,x,.cons _ t,e=>by
  obtain⟨u,h1,h2⟩:=qR.get (i:=i) (x:=x) t (by simpa using e)
  exact⟨u,by simpa using h1,h2⟩
theorem qR.append:∀{xs ys:List V} {us ws:List Value},qR xs us->qR ys ws->qR (xs++ys) (us++ws)
 | _,_,_,_,.nil,s=>s
 | _,_,_,_,.cons r t,s=>.cons r (qR.append t s)
theorem qR.take:∀{xs:List V} {us:List Value} (n:Nat),qR xs us->qR (xs.take n) (us.take n)
 | _,_,0,_=>.nil
 | _,_,_+1,.nil=>.nil
 | _,_,n+1,.cons r t=>.cons r (qR.take n t)
theorem qR.drop:∀{xs:List V} {us:List Value} (n:Nat),qR xs us->qR (xs.drop n) (us.drop n)
 | _,_,0,r=>r
 | _,_,_+1,.nil=>.nil
 | _,_,n+1,.cons _ t=>qR.drop n t
theorem qR.none_of:∀{xs:List V} {us:List Value} {i:Nat},qR xs us->xs[i]?=none->us[i]?=none:=λ{xs us i} r e=>by
 have h1:=r.length
 have h2:xs.length<=i:=zcD.mp e
 exact zcD.mpr (by omega)
def JM:Option V->Option Value->Prop
 | some v,some u=>qY v u
 | none,none=>True
 | _,_=>False
def KV{κ:Type}:List (κ×V)->List (κ×Value)->Prop:=Paired λ(p:κ×V) (q:κ×Value)=>p.1=q.1/\qY p.2 q.2
def kV:qG->V
 | .inl i=>.int i
 | .inr x=>.str x
inductive HO where
 | lst (xs:List V)
 | tup (xs:List V)
 | dK (kvs:List (qG×V)) | dT (kvs:List (List qG×V))
 | set (S:Int->Bool) (n:Nat)
 | ins (C dx:Addr) (fs:List (Str×V))
 | own (x:Addr)
 | xd (fs:List (Str×V))
 | met (f x:Addr)
 | rng (lo hi:Int)
 | frz (o:Obj) (u:HO)
 | tbl (ps:Array Value)
 | ext (φ:Heap->Prop)
abbrev Hp:=Addr->Option HO
def upd(H:Hp)(a:Addr)(o:HO):Hp:=λb=>if b=a then some o else H b
theorem qe{H:Hp}{a:Addr}{o:HO}:upd H a o a=some o:=by unfold upd;rw[if_pos rfl]
theorem qi{H:Hp}{a b:Addr}{o:HO}(h:b≠a):upd H a o b=H b:=by unfold upd;rw[if_neg h]
theorem Qs{H:Hp}{a:Addr}{o u:HO}:upd (upd H a o) a u=upd H a u:=by
 funext b;unfold upd;split<;>rfl
theorem Dg{H:Hp}{a b:Addr}{o u:HO}(h:H a=some o)(h':H b=some u)(d:o≠u):a≠b:=by
 intro e;subst e;rw[h]at h';exact d (tX.inj h')
theorem qr{H:Hp}{a b:Addr}{o:HO}(h:H a=some o)(h':H b=none):a≠b:=by
 intro e;subst e;rw[h]at h';cases h'
def Fv(ps:Array Value)(oc:Obj):Prop:=∃(q:Str) (t:Tok) (vs:Array Value) (t':Tok),ps[0]?=some (.str q t)/\oc.data=.fields vs/\vs[1]?=some (.str q t')
section
variable(P:Program)(w:World)
def qK(H:Hp)(h:Heap)(a:Addr):HO->Prop
 | .lst xs=>xs.length<=zdB/\∃(its:List Value) (n:Nat),qR xs its/\h.get? a=some {cls:=.type "list",data:=.seq its.toArray n}
 | .tup xs=>xs.length<=zdB/\∃its:List Value,qR xs its/\IsTup h a its.toArray
 | .dK kvs=>kvs.length<=zdB/\(a==sysModules)=false/\∃vs,KV kvs vs/\h.DictOf (jq P w) a vs
 | .dT kvs=>kvs.length<=zdB/\(a==sysModules)=false/\∃xs:List (List qG×Addr×Value),
  Paired (λ(p:List qG×V) (q:List qG×Addr×Value)=>p.1=q.1/\H q.2.1=some (.tup (p.1.map kV))/\qY p.2 q.2.2) kvs xs/\
  ∃o es ep,h.get? a=some o/\o.ExactDict/\o.data=.dict es ep/\es.toList=xs.map (entryOfKey (tupleKind (jq P w)))/\(xs.map (·.1)).Nodup
 | .set S n=>h.SetOf (intKind P w) a S n
 | .ins C dx fs=>H dx=some (.own a)/\fs.length<=1000/\dx≠a/\h.get? a=some (zbj C dx)/\
  ∃mA,h.Ns1 dx mA/\(∀f,JM (fs.lookup f) (mA f))/\PySem.Within mA (fs.map (·.1))
 | .own _=>∃o,h.get? a=some o
 | .xd fs=>∃mA,h.Ns1 a mA/\∀f,JM (fs.lookup f) (mA f)
 | .rng lo hi=>∃t u v,h.get? a=some {cls:=.type "range",data:=.fields #[.int lo t,.int hi u,.int 1 v]}
 | .frz o u=>h.get? a=some o/\qK H h a u
 | .tbl ps=>∃ts:Array Value,h.get? a=some {cls:=.none,data:=.fields ts}/\TriplesOk ts.toList/\∀pos cv,codeAmong pos ts.toList=some cv->∃c oc,cv=.ref c/\H c=some (.frz oc (.own a))/\Fv ps oc
 | .met f x=>h.get? a=some (zcG (.ref f) (.ref x))
 | .ext φ=>φ h/\(∃o,h.get? a=some o)/\∀h1 h2:Heap,φ h1->(∀o,h1.get? a=some o->h2.get? a=some o)->φ h2
def Zj(H:Hp)(h:Heap):Prop:=∀a o,H a=some o->qK P w H h a o
end
section
variable{P:Program}{w:World}{H H':Hp}{h h':Heap}{a:Addr}{o:HO}
theorem qK.lt(x:qK P w H h a o):a < h.objs.size:=by
 cases o with
 | lst xs=>obtain⟨_,_,_,_,e⟩:=x;exact tN e
 | tup xs=>obtain⟨_,_,_,p⟩:=x;exact p.lt
 | dK kvs=>obtain⟨_,_,_,_,o,_,_,e,_⟩:=x;exact tN e
 | dT kvs=>obtain⟨_,_,_,_,o,_,_,e,_⟩:=x;exact tN e
 | set S n=>obtain⟨o,_,_,_,e,_⟩:=x;exact tN e
 | ins C dx fs=>obtain⟨_,_,_,e,_⟩:=x;exact tN e
 | own y=>obtain⟨_,e⟩:=x;exact tN e
 | xd fs=>obtain⟨_,⟨_,_,_,e,_⟩,_⟩:=x;exact tN e
 | rng lo hi=>obtain⟨_,_,_,e⟩:=x;exact tN e
 | frz ob u=>obtain⟨e,_⟩:=x;exact tN e
 | tbl ps=>obtain⟨_,e,_⟩:=x;exact tN e
 | met f y=>exact tN (show h.get? a=some _ from x)
 | ext φ=>obtain⟨_,⟨_,e⟩,_⟩:=x;exact tN e
theorem Paired.mapP{α β:Type}{F G:α->β->Prop}:∀{l₁:List α} {l₂:List β},Paired F l₁ l₂->(∀a b,F a b->G a b)->Paired G l₁ l₂
 | _,_,.nil,_=>.nil
 | _,_,.cons r t,f=>.cons (f _ _ r) (Paired.mapP t f)
theorem qK.stay(x:qK P w H h a o)(k:∀b u,(b=a\/H b=some (.own a))->h.get? b=some u->h'.get? b=some u)
  (ho:∀b,H b=some (.own a)->H' b=some (.own a)) (ht:∀b xs,H b=some (.tup xs)->H' b=some (.tup xs)) (hf:∀b o,H b=some (.frz o (.own a))->H' b=some (.frz o (.own a)):=by exact λ_ _ q=>q):qK P w H' h' a o:=by
 induction o with
 | lst xs=>obtain⟨z,its,n,r,e⟩:=x;exact⟨z,its,n,r,k _ _ (.inl rfl) e⟩
 | tup xs=>obtain⟨z,its,r,ob,e,c⟩:=x;exact⟨z,its,r,ob,k _ _ (.inl rfl) e,c⟩
 | dK kvs=>obtain⟨z,y,vs,r,ob,es,ep,e,c⟩:=x;exact⟨z,y,vs,r,ob,es,ep,k _ _ (.inl rfl) e,c⟩
 | dT kvs=>
  obtain⟨z,y,xs,r,ob,es,ep,e,c⟩:=x
  exact⟨z,y,xs,Paired.mapP r λp q z=>⟨z.1,ht _ _ z.2.1,z.2.2⟩,ob,es,ep,k _ _ (.inl rfl) e,c⟩
 | set S n=>obtain⟨ob,es,ep,t,e,c⟩:=x;exact⟨ob,es,ep,t,k _ _ (.inl rfl) e,c⟩
 | ins C dx fs=>
  obtain⟨d,z,ne,e,mA,⟨od,es,ep,e2,c⟩,r⟩:=x
  exact⟨ho _ d,z,ne,k _ _ (.inl rfl) e,mA,⟨od,es,ep,k _ _ (.inr d) e2,c⟩,r⟩
 | own y=>obtain⟨ob,e⟩:=x;exact⟨ob,k _ _ (.inl rfl) e⟩
 | xd fs=>obtain⟨mA,⟨od,es,ep,e,c⟩,r⟩:=x;exact⟨mA,⟨od,es,ep,k _ _ (.inl rfl) e,c⟩,r⟩
 | rng lo hi=>obtain⟨t,u,v,e⟩:=x;exact⟨t,u,v,k _ _ (.inl rfl) e⟩
 | frz ob u ih=>obtain⟨e,q⟩:=x;exact⟨k _ _ (.inl rfl) e,ih q⟩
 | tbl ps=>
  obtain⟨ts,e,tr,cs⟩:=x
  exact⟨ts,k a _ (.inl rfl) e,tr,λpos cv q=>let ⟨c,oc,e1,e2,e3⟩:=cs pos cv q;⟨c,oc,e1,hf c oc e2,e3⟩⟩
 | met f y=>
  have e:h.get? a=some (zcG (.ref f) (.ref y)):=x
  show h'.get? a=some (zcG (.ref f) (.ref y))
  exact k a _ (.inl rfl) e
 | ext φ=>obtain⟨p,⟨o,e⟩,st⟩:=x;exact⟨st _ _ p λo q=>k _ _ (.inl rfl) q,⟨o,k _ _ (.inl rfl) e⟩,st⟩
theorem Zj.lt(x:Zj P w H h)(e:H a=some o):a < h.objs.size:=(x a o e).lt
theorem Zj.fresh(x:Zj P w H h)(e:h.objs.size<=a):H a=none:=by
 cases q:H a with
 | none=>rfl
 | some u=>exact absurd (tE (x.lt q) e) (zaB _)
theorem Zj.kept(x:Zj P w H h)(k:∀b u,h.get? b=some u->h'.get? b=some u):Zj P w H h':=λa o e=>
 (x a o e).stay (λb u _ q=>k b u q) (λ_ q=>q) λ_ _ q=>q
theorem Zj.laid(x:Zj P w H h)(k:∀b u,h.get? b=some u->h'.get? b=some u)(hp:h.objs.size<=a)(new:qK P w (upd H a o) h' a o):Zj P w (upd H a o) h':=λb u e=>by
 have hn:=x.fresh hp
 by_cases hb:b=a
 ·subst hb;rw[qe]at e;cases e;exact new
 ·rw[qi hb]at e
  exact(x b u e).stay (λc v _ q=>k c v q) (λc q=>by rw[qi (qr q hn)];exact q) (λc xs q=>by rw[qi (qr q hn)];exact q) (λc o q=>by rw[qi (qr q hn)];exact q)
end
def Rd(H:Hp)(a:Addr)(u:HO):Prop:=H a=some u\/∃o,H a=some (.frz o u)
theorem Rd.ok{P:Program}{w:World}{H:Hp}{h:Heap}{a:Addr}{u:HO}(r:Rd H a u)(x:Zj P w H h):qK P w H h a u:=by
 rcases r with r | ⟨o,r⟩
 ·exact x a u r
 ·obtain⟨_,q⟩:=x a _ r
  exact q
def Ce:Option HO->Prop
 | some (.lst _)=>True
 | some (.dK _)=>True
 | some (.dT _)=>True
 | some (.set _ _)=>True
 | some (.ins _ _ _)=>True
 | some (.ext _)=>True
 | _=>False
section
variable{P:Program}{w:World}{H:Hp}{h h':Heap}{x e:Addr}{o':HO}
theorem Zj.write(ok:Zj P w H h)(mu:Ce (H x))(he:e=x\/H e=some (.own x))(k:∀b u,b≠e->h.get? b=some u->h'.get? b=some u)(heo:∃u,h'.get? e=some u)
  (new:qK P w (upd H x o') h' x o'):Zj P w (upd H x o') h':=λb u q=>by
 have nown:∀c y,H c=some (.own y)->c≠x:=λc y r z=>by subst z;rw[r]at mu;exact mu
 have ntup:∀c xs,H c=some (.tup xs)->c≠x:=λc xs r z=>by subst z;rw[r]at mu;exact mu
 by_cases hb:b=x
 ·subst hb;rw[qe]at q;cases q;exact new
 ·rw[qi hb]at q
  by_cases hbe:b=e
  ·have q':H b=some (.own x):=by
    rcases he with z | z
    ·exact absurd (hbe.trans z) hb
    ·rw[hbe];exact z
   rw[q]at q';cases q'
   obtain⟨v,hv⟩:=heo
   exact⟨v,by rw[hbe];exact hv⟩
  ·refine(ok b u q).stay (λc v hc r=>k c v ?_ r) (λc r=>by rw[qi (nown c b r)];exact r) (λc xs r=>by rw[qi (ntup c xs r)];exact r) (λc o r=>by rw[qi (λz=>by subst z;rw[r]at mu;exact mu)];exact r)
   rcases hc with rfl | hc
   ·exact hbe
   ·rintro rfl
    rcases he with z | z
    ·exact nown c b hc z
    ·rw[hc]at z;cases z;exact hb rfl
end
structure Un(fs ex:List Addr)(H H':Hp)(h h':Heap):Prop where
 keep:∀b o,h.get? b=some o->H b=none->b∉fs->b∉ex->h'.get? b=some o
 slot:∀b o,h.get? b=some o->H b=none->b∈fs->b∉ex->∃sl,h'.get? b=some {o with slots:=sl}
 free:∀b o,h.get? b=some o->H b=none->b∉ex->H' b=none
 there:∀b o,h.get? b=some o->b∉ex->∃o',h'.get? b=some o'
 tups:∀b xs,H b=some (.tup xs)->H' b=some (.tup xs)
 frzs:∀b o u,H b=some (.frz o u)->H' b=some (.frz o u)
 tbls:∀b ps,H b=some (.tbl ps)->∃more,H' b=some (.tbl (ps++more))
section
variable{fs fs' ex ex':List Addr}{H H1 H2:Hp}{h h1 h2 h':Heap}{a x e:Addr}{o:HO}
theorem Un.any(u:Un fs ex H H1 h h1){b:Addr}{ob:Obj}(q:h.get? b=some ob)(n:H b=none)(hx:b∉ex):∃sl,h1.get? b=some {ob with slots:=sl}:=by
 by_cases hb:b∈fs
 ·exact u.slot b ob q n hb hx
 ·exact⟨ob.slots,u.keep b ob q n hb hx⟩
theorem Un.kept(k:∀b u,h.get? b=some u->h'.get? b=some u):Un fs ex H H h h':=
 ⟨λb ob q _ _ _=>k b ob q,λb ob q _ _ _=>⟨ob.slots,k b ob q⟩,λ_ _ _ n _=>n,λb ob q _=>⟨ob,k b ob q⟩,λ_ _ q=>q,λ_ _ _ q=>q,λ_ ps q=>⟨#[],by rw[q];simp⟩⟩
theorem Un.refl:Un fs ex H H h h:=Un.kept λ_ _ q=>q
theorem Un.laid(k:∀b u,h.get? b=some u->h'.get? b=some u)(hp:h.objs.size<=a)(hn:H a=none):Un fs ex H (upd H a o) h h' where
 keep:=λb u q _ _ _=>k b u q
 slot:=λb u q _ _ _=>⟨u.slots,k b u q⟩
 free:=λb u q n _=>by rw[qi (zac (tE (tN q) hp))];exact n
 there:=λb u q _=>⟨u,k b u q⟩
 tups:=λb xs q=>by rw[qi (qr q hn)];exact q
 frzs:=λb u xs q=>by rw[qi (qr q hn)];exact q
 tbls:=λb ps q=>⟨#[],by rw[qi (qr q hn),q];simp⟩
theorem Un.write(mu:Ce (H x))(he:e=x\/H e=some (.own x))(k:∀b u,b≠e->h.get? b=some u->h'.get? b=some u)(heo:∃u,h'.get? e=some u):Un fs ex H (upd H x o) h h':=by
 have hx:∀b,H b=none->b≠x:=λb n z=>by subst z;rw[n]at mu;exact mu
 have hb:∀b,H b=none->b≠e:=λb n z=>by
  subst z
  rcases he with r | r
  ·exact hx b n r
  ·rw[n]at r;cases r
 have hm:∀b u,H b=some u->¬Ce (some u)->b≠x:=λb u q nm z=>by subst z;rw[q]at mu;exact nm mu
 refine⟨λb u q n _ _=>k b u (hb b n) q,λb u q n _ _=>⟨u.slots,k b u (hb b n) q⟩,λb u q n _=>by rw[qi (hx b n)];exact n,λb u q _=>?_,
  λb xs q=>by rw[qi (hm b _ q λz=>z)];exact q,λb u xs q=>by rw[qi (hm b _ q λz=>z)];exact q,λb ps q=>⟨#[],by rw[qi (hm b _ q λz=>z),q];simp⟩⟩
 by_cases hbe:b=e
 ·subst hbe;exact heo
 ·exact⟨u,k b u hbe q⟩
end
def DU(h:Heap)(H:Hp):List Addr:=(zaD h.objs.size).filter λa=>(H a).isSome
def Wc(h:Heap)(H:Hp):Heap:=PySem.W.hideAll h (DU h H)
theorem xU(h:Heap)(H:Hp):(Wc h H).objs.size=h.objs.size:=PySem.W.hideAll_size _ _
theorem K7{h:Heap}{H:Hp}{b:Addr}{o:Obj}(e:h.get? b=some o)(n:H b=none):(Wc h H).get? b=some o:=
 PySem.W.hideAll_get _ e λhm=>by
  have q:(H b).isSome=true:=(zaw.mp hm).2
  rw[n]at q;simp at q
theorem NK{h:Heap}{H:Hp}{b:Addr}{o:Obj}(e:(Wc h H).get? b=some o):h.get? b=some o/\H b=none:=by
 have e':h.get? b=some o:=PySem.W.of_hideAll (DU h H) e
 refine⟨e',?_⟩
 cases q:H b with
 | none=>rfl
 | some x=>
  have hm:b∈DU h H:=zaw.mpr ⟨zcu.mpr (tN e'),by simp [q]⟩
  have z:(Wc h H).get? b=none:=PySem.W.hideAll_none (DU h H) hm
  rw[z]at e;cases e
def Mg(g h:Heap)(L:Addr):List (Addr×Obj):=(zaD h.objs.size).filterMap λa=>if a=L\/(g.get? a).isSome=true then none else (h.get? a).map λo=>(a,o)
def rest(g h:Heap)(L d:Addr):List (Addr×Obj):=(Mg g h L).filter λp=>decide (p.1≠d)
structure Mod(K:zdw)(mg:Str->Option Value)(base:Heap):Prop where
 kin:K.In base
 glob:base.Ns mainGlobals mg
 blt:∃mb,base.Ns builtinsNs mb/\∀x:Str,x≠"__name__"->mb x=bootBuiltins x
 nolimit:base.NoLimit
structure Cx where
 prog:Program
 w:World
 K:zdw
 mg:Str->Option Value
 base:Heap
 A:Around
 N:List Str
 s₀:Shared
 H₀:Hp
 env:Env
 outer:List Env
 stack:List Env
 ex:List Addr
 fn:Str->Bool
 calm:Bool
 pn:List (Addr×Obj)
 xe:Value->Shared->Prop
def YH(l:List Env):List Addr:=l.filterMap (·.frame)
abbrev Cx.fs(X:Cx):List Addr:=YH X.outer
def Cc(sc:Scope)(x:Str):Prop:=sc.names.lookup x=some .local\/sc.names.lookup x=some .cell\/sc.names.lookup x=some .free
def BZ(sc:Scope)(x:Str):Prop:=sc.names.lookup x=some .local\/sc.names.lookup x=some .cell
def Fk(env:Env)(h:Heap)(m:Str->Option Value)(x:Str)(u:Value):Prop:=
 (env.kindOf x=some .local/\m x=some u)\/((env.kindOf x=some .cell\/env.kindOf x=some .free)/\∃c,env.cells.lookup x=some c/\h.IsCell c (some u))
structure Cx.Ok(X:Cx):Prop where
 mod:Mod X.K X.mg X.base
 kind:X.env.scope.kind=.function
 glob:X.env.globals=mainGlobals
 blt:X.env.builtins=builtinsNs
 above:X.s₀.heap.objs.size<=X.env.locals
 inj:∀x y c,X.env.cells.lookup x=some c->X.env.cells.lookup y=some c->x=y
 has:∀x,(X.env.kindOf x=some .cell\/X.env.kindOf x=some .free)->∃c,X.env.cells.lookup x=some c
 cab:∀x c,X.fn x=true->X.env.cells.lookup x=some c->X.s₀.heap.objs.size<=c
 hd:X.calm=true->X.A.handled=none
 frames:X.A.frames=some X.stack
 stk:X.stack=X.outer\/(X.stack=X.env::X.outer/\X.env.frame=some X.env.locals)
 exf:∀b∈X.ex,b≠X.env.locals/\∀x c,X.env.cells.lookup x=some c->c≠b
 bs:∀b o,X.base.get? b=some o->X.s₀.heap.get? b=some o/\X.H₀ b=none
 bsz:X.base.objs.size<=X.s₀.heap.objs.size
 noex:∀b o,X.base.get? b=some o->b∉X.ex
 exfs:∀b∈X.ex,b∉X.fs
 funs:X.s₀.heap.FunFrames X.base X.outer
 frf:∀b∈X.fs,X.H₀ b=none
structure qz(X:Cx)(pins:List (Addr×Obj))(σ:List (Option V))(H:Hp)(s:Shared):Prop where
 ok:X.Ok
 os:s.os=X.s₀.os
 bare:AllBare s.gens
 base:Un X.fs X.ex X.H₀ H X.s₀.heap s.heap
 loc:∃m,s.heap.Ns X.env.locals m/\∀(i:Nat) (x:Str) (v:V),X.N[i]?=some x->σ[i]?=some (some v)->Cc X.env.scope x->∃u,qY v u/\Fk X.env s.heap m x u
 cell:∀x c,X.env.cells.lookup x=some c->∃v,s.heap.IsCell c v
 free:H X.env.locals=none
 freeC:∀x c,X.env.cells.lookup x=some c->H c=none\/(X.fn x=false/\∃o,H c=some (.frz o (.frz o (.own 0))))
 pin:∀p∈X.pn++pins,s.heap.get? p.1=some p.2/\H p.1=none/\p.1≠X.env.locals/\p.1∉X.fs/\∀v,p.2.data≠.cell v
 hok:Zj X.prog X.w H s.heap
 len:σ.length=X.N.length
section
variable{X:Cx}{pins:List (Addr×Obj)}{σ:List (Option V)}{H H':Hp}{s:Shared}{h':Heap}
theorem Cx.Ok.nofr(ok:X.Ok){b:Addr}{o:Obj}(e:X.base.get? b=some o):b∉X.fs:=λhb=>by
 have:=(ok.funs.mem hb).1
 rw[e]at this;cases this
theorem qz.bs(I:qz X pins σ H s):∀b o,X.base.get? b=some o->s.heap.get? b=some o/\H b=none:=λb o e=>
 ⟨I.base.keep b o (I.ok.bs b o e).1 (I.ok.bs b o e).2 (I.ok.nofr e) (I.ok.noex b o e),I.base.free b o (I.ok.bs b o e).1 (I.ok.bs b o e).2 (I.ok.noex b o e)⟩
theorem qz.bk(I:qz X pins σ H s):∀b o,X.base.get? b=some o->s.heap.get? b=some o:=λb o e=>(I.bs b o e).1
theorem qz.mod(I:qz X pins σ H s):Mod X.K X.mg X.base:=I.ok.mod
theorem qz.kIn(I:qz X pins σ H s):X.K.In s.heap:=I.ok.mod.kin.keeps I.bk
theorem qz.lt(I:qz X pins σ H s):X.env.locals < s.heap.objs.size:=let ⟨_,hn,_⟩:=I.loc;hn.lt
theorem qz.sz(I:qz X pins σ H s):X.s₀.heap.objs.size<=s.heap.objs.size:=tM I.ok.above (zaC I.lt)
theorem qz.nofs(I:qz X pins σ H s){a:Addr}(h:s.heap.objs.size<=a):a∉X.fs:=λhb=>by
 obtain⟨_,o,ho,_⟩:=I.ok.funs.mem hb
 exact absurd (tE (tN ho) (tM I.sz h)) (zaB _)
theorem qz.cne(I:qz X pins σ H s):∀x c,X.env.cells.lookup x=some c->c≠X.env.locals:=λx c e z=>by
 obtain⟨v,o,ho,hd⟩:=I.cell x c e
 obtain⟨m,⟨o',es,ep,ho',hd',_⟩,_⟩:=I.loc
 rw[z,ho']at ho;cases ho;rw[hd']at hd;cases hd
theorem qz.funs(I:qz X pins σ H s):s.heap.FunFrames X.base X.outer:=by
 have all:∀(l:List Env),(∀b∈YH l,b∈X.fs)->X.s₀.heap.FunFrames X.base l->s.heap.FunFrames X.base l:=by
  intro l
  induction l with
  | nil=>intro _ _;trivial
  | cons env r ih=>
   intro hs hl
   obtain⟨hk,⟨L,o,hf,hn,ho,hd⟩,hr⟩:=hl
   have hL:L∈X.fs:=hs L (by unfold YH;rw[zav,hf];exact tK)
   obtain⟨sl,e⟩:=I.base.slot L o ho (I.ok.frf L hL) hL λz=>I.ok.exfs L z hL
   exact⟨hk,⟨L,_,hf,hn,e,hd⟩,ih (λb hb=>hs b (by unfold YH;rw[zav,hf];exact tF _ hb)) hr⟩
 exact all X.outer (λ_ hb=>hb) I.ok.funs
theorem qz.stack(I:qz X pins σ H s):s.heap.FunFrames X.base X.stack:=by
 rcases I.ok.stk with e | ⟨e,hf⟩
 ·rw[e];exact I.funs
 ·rw[e]
  obtain⟨m,hn,_⟩:=I.loc
  refine .cons (by rw[I.ok.kind];decide) hf hn ?_ I.funs
  exact zcg (tM I.ok.bsz I.ok.above)
theorem qz.stkSub(I:qz X pins σ H s):∀b∈YH X.stack,b∈X.env.locals::X.fs:=λb hb=>by
 rcases I.ok.stk with e | ⟨e,hf⟩
 ·rw[e]at hb;exact tF _ hb
 ·rw[e]at hb
  unfold YH at hb
  rw[zav,hf]at hb
  exact hb
theorem qz.stkFree(I:qz X pins σ H s):∀b∈YH X.stack,H b=none:=λb hb=>by
 rcases tJ.mp (I.stkSub b hb) with e | hb
 ·rw[e];exact I.free
 ·obtain⟨_,o,ho,_⟩:=I.ok.funs.mem hb
  exact I.base.free b o ho (I.ok.frf b hb) λz=>I.ok.exfs b z hb
theorem qz.step{g':Array GenState}{t':Nat}{d':Drawn}{ch:List Addr}(I:qz X pins σ H s)
  (hch:∀b∈ch,(b∈X.ex\/X.s₀.heap.objs.size<=b)/\b≠X.env.locals/\(∀x c,X.env.cells.lookup x=some c->c≠b)/\∀p∈X.pn++pins,p.1≠b)
  (keep:∀b o,b≠X.env.locals->b∉X.fs->b∉ch->s.heap.get? b=some o->H b=none->h'.get? b=some o)
  (slot:∀b o,b≠X.env.locals->b∈X.fs->b∉ch->s.heap.get? b=some o->H b=none->∃sl,h'.get? b=some {o with slots:=sl}) (free:∀b o,b∉ch->s.heap.get? b=some o->H b=none->H' b=none)
  (there:∀b o,b∉ch->s.heap.get? b=some o->∃o',h'.get? b=some o')
  (tups:∀b xs,H b=some (.tup xs)->H' b=some (.tup xs)) (frzs:∀b o u,H b=some (.frz o u)->H' b=some (.frz o u)) (tbls:∀b ps,H b=some (.tbl ps)->∃more,H' b=some (.tbl (ps++more)))
  (ns:∀m,s.heap.Ns X.env.locals m->h'.Ns X.env.locals m) (hok:Zj X.prog X.w H' h') (hg:AllBare g'):
  qz X pins σ H' {s with heap:=h',gens:=g',drawn:=d',toks:=t'}:=by
 have neL:∀b o,X.s₀.heap.get? b=some o->b≠X.env.locals:=λb o e=>zac (tE (tN e) I.ok.above)
 have neC:∀b o,X.s₀.heap.get? b=some o->b∉X.ex->b∉ch:=λb o e hx hb=>by
  rcases(hch b hb).1 with z | z
  ·exact hx z
  ·exact absurd (tE (tN e) z) (zaB _)
 have cellK:∀x c,X.env.cells.lookup x=some c->∀v,s.heap.IsCell c v->h'.IsCell c v:=λx c e v ⟨o,ho,hd⟩=>by
  have nch:c∉ch:=λz=>(hch c z).2.2.1 x c e rfl
  rcases I.freeC x c e with fc | ⟨_,oc,fc⟩
  ·by_cases hc:c∈X.fs
   ·obtain⟨sl,q⟩:=slot c o (I.cne x c e) hc nch ho fc
    exact⟨_,q,hd⟩
   ·exact⟨o,keep c o (I.cne x c e) hc nch ho fc,hd⟩
  ·obtain⟨e1,_⟩:=(show qK X.prog X.w H s.heap c (.frz oc (.frz oc (.own 0))) from I.hok c _ fc)
   obtain⟨e2,_⟩:=(show qK X.prog X.w H' h' c (.frz oc (.frz oc (.own 0))) from hok c _ (frzs c oc _ fc))
   rw[ho]at e1
   cases e1
   exact⟨o,e2,hd⟩
 refine⟨I.ok,I.os,hg,⟨λb o e n hb hx=>?_,λb o e n hb hx=>?_,λb o e n hx=>?_,λb o e hx=>?_,λb xs e=>tups b xs (I.base.tups b xs e),λb o xs e=>frzs b o xs (I.base.frzs b o xs e),λb ps e=>?_⟩,?_,λx c e=>?_,?_,λx c e=>?_,λp hp=>?_,hok,I.len⟩
 ·exact keep b o (neL b o e) hb (neC b o e hx) (I.base.keep b o e n hb hx) (I.base.free b o e n hx)
 ·obtain⟨sl,e1⟩:=I.base.slot b o e n hb hx
  obtain⟨sl',e2⟩:=slot b _ (neL b o e) hb (neC b o e hx) e1 (I.base.free b o e n hx)
  exact⟨sl',e2⟩
 ·obtain⟨o',e1⟩:=I.base.there b o e hx
  exact free b o' (neC b o e hx) e1 (I.base.free b o e n hx)
 ·obtain⟨o',e1⟩:=I.base.there b o e hx
  exact there b o' (neC b o e hx) e1
 ·obtain⟨m1,e1⟩:=I.base.tbls b ps e
  obtain⟨m2,e2⟩:=tbls b _ e1
  exact⟨m1++m2,by rw[e2,Array.append_assoc]⟩
 ·obtain⟨m,hn,hl⟩:=I.loc
  refine⟨m,ns m hn,λi x v e1 e2 e3=>?_⟩
  obtain⟨u,r,l⟩:=hl i x v e1 e2 e3
  refine⟨u,r,?_⟩
  rcases l with l | ⟨k,c,e,z⟩
  ·exact .inl l
  ·exact .inr ⟨k,c,e,cellK x c e _ z⟩
 ·obtain⟨v,z⟩:=I.cell x c e
  exact⟨v,cellK x c e v z⟩
 ·obtain⟨m,⟨o,_,_,ho,_⟩,_⟩:=I.loc
  exact free _ o (λz=>(hch _ z).2.1 rfl) ho I.free
 ·obtain⟨v,o,ho,hd⟩:=I.cell x c e
  rcases I.freeC x c e with fc | ⟨fx,oc,fc⟩
  ·exact .inl (free c o (λz=>(hch c z).2.2.1 x c e rfl) ho fc)
  ·exact .inr ⟨fx,oc,frzs c oc _ fc⟩
 ·obtain⟨e,n,ne,nf,d⟩:=I.pin p hp
  have nch:p.1∉ch:=λz=>(hch p.1 z).2.2.2 p hp rfl
  exact⟨keep p.1 p.2 ne nf nch e n,free p.1 p.2 nch e n,ne,nf,d⟩
theorem qz.un{t':Nat}(I:qz X pins σ H s)(u:Un X.fs [] H H' s.heap h')(hok:Zj X.prog X.w H' h'):qz X pins σ H' {s with heap:=h',toks:=t'}:=by
 obtain⟨m,⟨o,es,ep,ho,r⟩,_⟩:=id I.loc
 obtain⟨sl,hL⟩:=u.any ho I.free (by simp)
 exact I.step (g':=s.gens) (d':=s.drawn) (ch:=[]) (λ_ z=>nomatch z) (λb o _ hb _ e n=>u.keep b o e n hb (by simp)) (λb o _ hb _ e n=>u.slot b o e n hb (by simp)) (λb o _ e n=>u.free b o e n (by simp)) (λb o _ e=>u.there b o e (by simp)) u.tups u.frzs u.tbls (λm' hm=>by
  obtain⟨o',es',ep',ho',r'⟩:=hm
  rw[ho]at ho';cases ho'
  exact⟨_,es',ep',hL,r'⟩) hok I.bare
theorem qz.call{g':Array GenState}{t':Nat}{d':Drawn}{ch:List Addr}(I:qz X pins σ H s)(u:Un (YH X.stack) ch H H' s.heap h')(hok:Zj X.prog X.w H' h')(hg:AllBare g')
  (hch:∀b∈ch,(b∈X.ex\/X.s₀.heap.objs.size<=b)/\b≠X.env.locals/\(∀x c,X.env.cells.lookup x=some c->c≠b)/\∀p∈X.pn++pins,p.1≠b):
  qz X pins σ H' {s with heap:=h',gens:=g',drawn:=d',toks:=t'}:=by
 obtain⟨m,⟨o,es,ep,ho,r⟩,_⟩:=id I.loc
 obtain⟨sl,hL⟩:=u.any ho I.free λz=>(hch _ z).2.1 rfl
 exact I.step (ch:=ch) hch (λb o hL hb hc e n=>u.keep b o e n (λz=>(tJ.mp (I.stkSub b z)).elim hL hb) hc) (λb o _ _ hc e n=>u.any e n hc) (λb o hc e n=>u.free b o e n hc) (λb o hc e=>u.there b o e hc) u.tups u.frzs u.tbls (λm' hm=>by
  obtain⟨o',es',ep',ho',r'⟩:=hm
  rw[ho]at ho';cases ho'
  exact⟨_,es',ep',hL,r'⟩) hok hg
theorem qz.turned{t':Nat}{it:Addr}(I:qz X pins σ H s)(k:∀b o,b≠it->s.heap.get? b=some o->h'.get? b=some o)(hn:H it=none)(hL:it≠X.env.locals)
  (h1:it∈X.ex\/X.s₀.heap.objs.size<=it) (h2:∀x c,X.env.cells.lookup x=some c->c≠it) (h3:∀p∈X.pn++pins,p.1≠it):qz X pins σ H {s with heap:=h',toks:=t'}:=by
 have nit:∀b u,H b=some u->b≠it:=λb u e z=>by rw[z,hn]at e;cases e
 refine I.step (g':=s.gens) (d':=s.drawn) (ch:=[it]) (λb hb=>?_) (λb o _ _ hc e _=>k b o (λz=>hc (by simp [z])) e) (λb o _ _ hc e _=>⟨o.slots,k b o (λz=>hc (by simp [z])) e⟩) (λ_ _ _ _ n=>n)
  (λb o hc e=>⟨o,k b o (λz=>hc (by simp [z])) e⟩) (λ_ _ e=>e) (λ_ _ _ e=>e) (λb ps e=>⟨#[],by rw[e];simp⟩) (λm hm=>?_) (λb u e=>?_) I.bare
 ·have e:b=it:=by simpa using hb
  subst e
  exact⟨h1,hL,h2,h3⟩
 ·obtain⟨o,es,ep,ho,r⟩:=hm
  exact⟨o,es,ep,k _ o (Ne.symm hL) ho,r⟩
 ·refine(I.hok b u e).stay (λc v hc q=>k c v ?_ q) (λ_ q=>q) λ_ _ q=>q
  rcases hc with z | z
  ·rw[z];exact nit b u e
  ·exact nit c _ z
theorem qz.tok(I:qz X pins σ H s)(t:Nat):qz X pins σ H {s with toks:=t}:=I.un (h':=s.heap) (t':=t) Un.refl I.hok
theorem qz.kept{t':Nat}(I:qz X pins σ H s)(k:∀b u,s.heap.get? b=some u->h'.get? b=some u):qz X pins σ H {s with heap:=h',toks:=t'}:=I.un (Un.kept k) (I.hok.kept k)
theorem qz.laid{a:Addr}{o:HO}{t':Nat}(I:qz X pins σ H s)(k:∀b u,s.heap.get? b=some u->h'.get? b=some u)(hp:s.heap.objs.size<=a)(new:qK X.prog X.w (upd H a o) h' a o):
 qz X pins σ (upd H a o) {s with heap:=h',toks:=t'}:=I.un (Un.laid k hp (I.hok.fresh hp)) (I.hok.laid k hp new)
theorem qz.write{x e:Addr}{o:HO}{t':Nat}(I:qz X pins σ H s)(mu:Ce (H x))(he:e=x\/H e=some (.own x))(k:∀b u,b≠e->s.heap.get? b=some u->h'.get? b=some u)(heo:∃u,h'.get? e=some u)
 (new:qK X.prog X.w (upd H x o) h' x o):qz X pins σ (upd H x o) {s with heap:=h',toks:=t'}:=I.un (Un.write mu he k heo) (I.hok.write mu he k heo new)
theorem qz.pins_of{pins':List (Addr×Obj)}(I:qz X pins σ H s)(h:∀p∈pins',s.heap.get? p.1=some p.2/\H p.1=none/\p.1≠X.env.locals/\p.1∉X.fs/\∀v,p.2.data≠.cell v):qz X pins' σ H s:=
 ⟨I.ok,I.os,I.bare,I.base,I.loc,I.cell,I.free,I.freeC,λp hp=>(zar.mp hp).elim (λz=>I.pin p (zaK _ z)) (h p),I.hok,I.len⟩
theorem XG{N:List Str}(hN:N.Nodup){i j:Nat}{x:Str}(a:N[i]?=some x)(b:N[j]?=some x):i=j:=by
 obtain⟨h1,e1⟩:=tq.mp a
 obtain⟨h2,e2⟩:=tq.mp b
 exact(List.getElem_inj hN).mp (e1.trans e2.symm)
theorem Wj{M:Model}{A:Around}{E:Value->Shared->Prop}{i:Nat}{x:Str}{v:V}{u:Value}{Q:Unit->Shared->Prop}(I:qz X pins σ H s)(hN:X.N.Nodup)(hi:X.N[i]?=some x)(hx:BZ X.env.scope x)(r:qY v u)
  (h:∀s',qz X pins (σ.set i (some v)) H s'->(∃a,Heap.SameBut a s.heap s'.heap/\(a=X.env.locals\/X.env.cells.lookup x=some a))->Q () s') (hf:X.fn x=true\/X.env.scope.names.lookup x=some .local:=by first | exact .inl rfl | exact .inr rfl | assumption):wpAny M A (storeName X.env x u) Q E s:=by
 obtain⟨m,hn,hl⟩:=id I.loc
 have hcls:(X.env.scope.kind==.class || (X.env.scope.kind==.module&&X.env.locals != X.env.globals))=false:=by rw[I.ok.kind];rfl
 have hiσ:i < σ.length:=by rw[I.len];exact(tq.mp hi).1
 have cne:=I.cne
 have tracked:∀{a:Addr} {h':Heap},(∃o,s.heap.get? a=some o/\H a=none)->Heap.SameBut a s.heap h'->Zj X.prog X.w H h':=λ{a h'} ha hs b ob e=>by
  obtain⟨_,_,hfree⟩:=ha
  refine(I.hok b ob e).stay (λc w' hc q=>(hs.2 c ?_).trans q) (λ_ q=>q) λ_ _ q=>q
  rintro rfl
  rcases hc with rfl | hc
  ·rw[hfree]at e;cases e
  ·rw[hfree]at hc;cases hc
 rcases hx with hk | hk
 ·refine wpAny_storeName_local hk hn (λh' hn' hs=>?_) hcls
  obtain⟨oL,_,_,hoL,_⟩:=id hn
  refine h _ ⟨I.ok,I.os,I.bare,⟨λb o e n hb hx=>?_,λb o e n hb hx=>?_,I.base.free,λb o e hx=>?_,I.base.tups,I.base.frzs,I.base.tbls⟩,⟨_,hn',λj y v' e1 e2 e3=>?_⟩,λy c e=>?_,I.free,I.freeC,λp hp=>?_,tracked ⟨oL,hoL,I.free⟩ hs,by simpa using I.len⟩ ⟨_,hs,.inl rfl⟩
  ·exact(hs.2 b (zac (tE (tN e) I.ok.above))).trans (I.base.keep b o e n hb hx)
  ·obtain⟨sl,e1⟩:=I.base.slot b o e n hb hx
   exact⟨sl,(hs.2 b (zac (tE (tN e) I.ok.above))).trans e1⟩
  ·obtain⟨o',e1⟩:=I.base.there b o e hx
   exact⟨o',(hs.2 b (zac (tE (tN e) I.ok.above))).trans e1⟩
  ·by_cases hj:j=i
   ·subst hj
    rw[hi]at e1;cases e1
    rw[zbW hiσ]at e2
    cases e2
    exact⟨u,r,.inl ⟨hk,by simp⟩⟩
   ·rw[zch (Ne.symm hj)]at e2
    obtain⟨u',r',q⟩:=hl j y v' e1 e2 e3
    refine⟨u',r',?_⟩
    rcases q with ⟨k,e⟩ | ⟨k,c,e,z⟩
    ·refine .inl ⟨k,?_⟩
     have:y≠x:=λe=>hj (XG hN e1 (e▸hi))
     simp [this,e]
    ·exact .inr ⟨k,c,e,z.sameBut hs (cne y c e)⟩
  ·obtain⟨w',z⟩:=I.cell y c e
   exact⟨w',z.sameBut hs (cne y c e)⟩
  ·obtain⟨e,n,ne,nf,d⟩:=I.pin p hp
   exact⟨(hs.2 p.1 ne).trans e,n,ne,nf,d⟩
 ·have hfn:X.fn x=true:=by
   rcases hf with z | z
   ·exact z
   ·rw[z]at hk;cases hk
  obtain⟨c,hc⟩:=I.ok.has x (.inl hk)
  obtain⟨w',z⟩:=I.cell x c hc
  refine wpAny_storeName_cell I.ok.kind hk hc z (λh' hc' hs=>?_)
  obtain⟨oc,hoc,hocd⟩:=id z
  have fcn:H c=none:=(I.freeC x c hc).elim id λz=>by rw[hfn]at z;cases z.1
  refine h {s with heap:=h'} ⟨I.ok,I.os,I.bare,⟨λb o e n hb hx=>?_,λb o e n hb hx=>?_,I.base.free,λb o e hx=>?_,I.base.tups,I.base.frzs,I.base.tbls⟩,⟨m,hn.sameBut hs (Ne.symm (cne x c hc)),λj y v' e1 e2 e3=>?_⟩,λy c' e=>?_,I.free,I.freeC,λp hp=>?_,tracked ⟨oc,hoc,fcn⟩ hs,by simpa using I.len⟩ ⟨c,hs,.inr hc⟩
  ·exact(hs.2 b (zac (tE (tN e) (I.ok.cab x c hfn hc)))).trans (I.base.keep b o e n hb hx)
  ·obtain⟨sl,e1⟩:=I.base.slot b o e n hb hx
   exact⟨sl,(hs.2 b (zac (tE (tN e) (I.ok.cab x c hfn hc)))).trans e1⟩
  ·obtain⟨o',e1⟩:=I.base.there b o e hx
   exact⟨o',(hs.2 b (zac (tE (tN e) (I.ok.cab x c hfn hc)))).trans e1⟩
  ·by_cases hj:j=i
   ·subst hj
    rw[hi]at e1;cases e1
    rw[zbW hiσ]at e2
    cases e2
    exact⟨u,r,.inr ⟨.inl hk,c,hc,hc'⟩⟩
   ·rw[zch (Ne.symm hj)]at e2
    obtain⟨u',r',q⟩:=hl j y v' e1 e2 e3
    refine⟨u',r',?_⟩
    rcases q with q | ⟨k,c',e,z'⟩
    ·exact .inl q
    ·refine .inr ⟨k,c',e,z'.sameBut hs ?_⟩
     rintro rfl
     exact hj (XG hN e1 (I.ok.inj _ _ _ e hc▸hi))
  ·by_cases hcc:c'=c
   ·subst hcc;exact⟨_,hc'⟩
   ·obtain⟨w2,z2⟩:=I.cell y c' e
    exact⟨w2,z2.sameBut hs hcc⟩
  ·obtain⟨e,n,ne,nf,d⟩:=I.pin p hp
   refine⟨(hs.2 p.1 ?_).trans e,n,ne,nf,d⟩
   intro q
   rw[q,hoc]at e
   have q':oc=p.2:=tX.inj e
   exact d w' (by rw[<-q'];exact hocd)
theorem zw{M:Model}{A:Around}{E:Value->Shared->Prop}{i:Nat}{x:Str}{v:V}{u:Value}{Q:Unit->Shared->Prop}(I:qz X pins σ H s)(hN:X.N.Nodup)(hi:X.N[i]?=some x)(hx:BZ X.env.scope x)(r:qY v u)
  (h:∀s',qz X pins (σ.set i (some v)) H s'->Q () s') (hf:X.fn x=true\/X.env.scope.names.lookup x=some .local:=by first | exact .inl rfl | exact .inr rfl | assumption):wpAny M A (storeName X.env x u) Q E s:=
 Wj I hN hi hx r (λs' I' _=>h s' I') hf
theorem qz.call'{s':Shared}{ch:List Addr}(I:qz X pins σ H s)(ho:s'.os=s.os)(u:Un (YH X.stack) ch H H' s.heap s'.heap)(hok:Zj X.prog X.w H' s'.heap)(hg:AllBare s'.gens)
  (hch:∀b∈ch,(b∈X.ex\/X.s₀.heap.objs.size<=b)/\b≠X.env.locals/\(∀x c,X.env.cells.lookup x=some c->c≠b)/\∀p∈X.pn++pins,p.1≠b):qz X pins σ H' s':=by
 obtain⟨h',g',d',t',o'⟩:=s'
 have e:o'=s.os:=ho
 subst e
 exact I.call (g':=g') (t':=t') (d':=d') u hok hg hch
end
abbrev XK:=Value->Option Addr->Hp->Prop
abbrev St:=List (Option V)
abbrev VK:=V->Hp->Prop
abbrev TE:=St->Hp->VK->Prop
abbrev TT:=St->Hp->(Bool->Hp->Prop)->Prop
abbrev TA:=St->Hp->(List V->Hp->Prop)->Prop
structure JN where
 nx:St->Hp->Prop
 rt:VK
 bk:St->Hp->Prop:=λ_ _=>False
 ct:St->Hp->Prop:=λ_ _=>False
abbrev TS:=JN->St->Hp->Prop
def EP(X:Cx)(pins:List (Addr×Obj))(σ:St)(Q:VK)(u:Value)(s':Shared):Prop:=∃v H',qz X pins σ H' s'/\qY v u/\Q v H'
def TP(X:Cx)(pins:List (Addr×Obj))(σ:St)(Q:Bool->Hp->Prop)(b:Bool)(s':Shared):Prop:=∃H',qz X pins σ H' s'/\Q b H'
def AP(X:Cx)(pins:List (Addr×Obj))(σ:St)(Q:List V->Hp->Prop)(us:List Value)(s':Shared):Prop:=∃vs H',qz X pins σ H' s'/\qR vs us/\Q vs H'
def SP(X:Cx)(pins:List (Addr×Obj))(D:JN)(f:Flow)(s':Shared):Prop:=
 match f with
 | .next=>∃σ' H',qz X pins σ' H' s'/\D.nx σ' H'
 | .brk=>∃σ' H',qz X pins σ' H' s'/\D.bk σ' H'
 | .cont=>∃σ' H',qz X pins σ' H' s'/\D.ct σ' H'
 | .ret u=>∃v σ' H',qz X pins σ' H' s'/\qY v u/\D.rt v H'
def PE(X:Cx)(e:Expr)(t:TE):Prop:=
 ∀(pins:List (Addr×Obj)) (s:Shared) (σ:St) (H:Hp) (Q:VK),qz X pins σ H s->t σ H Q->wpAny (model X.prog X.w) X.A (eval e X.env) (EP X pins σ Q) X.xe s
@[irreducible] def JE (X:Cx) (e:Expr) (t:TE):Prop:=PE X e t
theorem JE.of{X:Cx}{e:Expr}{t:TE}(h:PE X e t):JE X e t:=by unfold JE;exact h
theorem JE.to{X:Cx}{e:Expr}{t:TE}(h:JE X e t):PE X e t:=by unfold JE at h;exact h
def PT(X:Cx)(e:Expr)(t:TT):Prop:=
 ∀(pins:List (Addr×Obj)) (s:Shared) (σ:St) (H:Hp) (Q:Bool->Hp->Prop),qz X pins σ H s->t σ H Q->wpAny (model X.prog X.w) X.A (isTrue e X.env (eval e X.env)) (TP X pins σ Q) X.xe s
@[irreducible] def JT (X:Cx) (e:Expr) (t:TT):Prop:=PT X e t
theorem JT.of{X:Cx}{e:Expr}{t:TT}(h:PT X e t):JT X e t:=by unfold JT;exact h
theorem JT.to{X:Cx}{e:Expr}{t:TT}(h:JT X e t):PT X e t:=by unfold JT at h;exact h
def PW(X:Cx)(e:Expr)(t:TT):Prop:=
 ∀(whole:Sem Value) (pins:List (Addr×Obj)) (s:Shared) (σ:St) (H:Hp) (Q:Bool->Hp->Prop),qz X pins σ H s->t σ H Q->wpAny (model X.prog X.w) X.A (isTrue e X.env whole) (TP X pins σ Q) X.xe s
theorem PW.pt{X:Cx}{e:Expr}{t:TT}(h:PW X e t):PT X e t:=h _
@[irreducible] def JW (X:Cx) (e:Expr) (t:TT):Prop:=PW X e t
theorem JW.of{X:Cx}{e:Expr}{t:TT}(h:PW X e t):JW X e t:=by unfold JW;exact h
theorem JW.to{X:Cx}{e:Expr}{t:TT}(h:JW X e t):PW X e t:=by unfold JW at h;exact h
theorem JW.pt{X:Cx}{e:Expr}{t:TT}(h:JW X e t):JT X e t:=.of h.to.pt
def PA(X:Cx)(es:List Expr)(t:TA):Prop:=
 ∀(pos:Pos) (pins:List (Addr×Obj)) (s:Shared) (σ:St) (H:Hp) (Q:List V->Hp->Prop),qz X pins σ H s->t σ H Q->wpAny (model X.prog X.w) X.A (spliced (backTo pos (starEach es X.env))) (AP X pins σ Q) X.xe s
@[irreducible] def JA (X:Cx) (es:List Expr) (t:TA):Prop:=PA X es t
theorem JA.of{X:Cx}{es:List Expr}{t:TA}(h:PA X es t):JA X es t:=by unfold JA;exact h
theorem JA.to{X:Cx}{es:List Expr}{t:TA}(h:JA X es t):PA X es t:=by unfold JA at h;exact h
def PS(X:Cx)(st:Stmt)(t:TS):Prop:=
 ∀(pins:List (Addr×Obj)) (s:Shared) (σ:St) (H:Hp) (D:JN),qz X pins σ H s->t D σ H->wpAny (model X.prog X.w) X.A (exec st X.env) (SP X pins D) X.xe s
@[irreducible] def JS (X:Cx) (st:Stmt) (t:TS):Prop:=PS X st t
theorem JS.of{X:Cx}{st:Stmt}{t:TS}(h:PS X st t):JS X st t:=by unfold JS;exact h
theorem JS.to{X:Cx}{st:Stmt}{t:TS}(h:JS X st t):PS X st t:=by unfold JS at h;exact h
def Ra(X:Cx)(st:List Stmt)(t:TS):Prop:=
 ∀(pins:List (Addr×Obj)) (s:Shared) (σ:St) (H:Hp) (D:JN),qz X pins σ H s->t D σ H->wpAny (model X.prog X.w) X.A (execs st X.env) (SP X pins D) X.xe s
@[irreducible] def VD (X:Cx) (st:List Stmt) (t:TS):Prop:=Ra X st t
theorem VD.of{X:Cx}{st:List Stmt}{t:TS}(h:Ra X st t):VD X st t:=by unfold VD;exact h
theorem VD.to{X:Cx}{st:List Stmt}{t:TS}(h:VD X st t):Ra X st t:=by unfold VD at h;exact h
theorem jm{α:Type}{t:Sem α}{Q Q':α->Shared->Prop}{M:Model}{A:Around}{E:Value->Shared->Prop}{s:Shared}(h:wpAny M A t Q E s)(hQ:∀a s,Q a s->Q' a s):wpAny M A t Q' E s:=wpAny_mono h hQ λ_ _ x=>x
section
variable{X:Cx}
def qS(i:Nat):TE:=λσ H Q=>∃v,σ[i]?=some (some v)/\Q v H
def tC(v:V):TE:=λ_ H Q=>Q v H
theorem AM{i:Nat}{x:Str}{pos:Pos}(hN:X.N[i]?=some x)(hv:Cc X.env.scope x)(hd:(x==("__debug__":Str))=false:=by decide)(hcd:(x==("__classdict__":Str))=false:=by decide):PE X (.Name x pos) (qS i):=by
 intro pins s σ H Q I h
 obtain⟨v,e,h⟩:=h
 obtain⟨m,hn,hl⟩:=I.loc
 obtain⟨u,r,l⟩:=hl i x v hN e hv
 have fin:EP X pins σ Q u s:=⟨v,H,I,r,h⟩
 rcases l with ⟨hk,hm⟩ | ⟨hk,c,hc,hcell⟩
 ·exact wpAny_Name (wpAny_loadName_local I.ok.kind hk hn hm fin) hd
 ·rcases hk with hk | hk
  ·exact wpAny_Name (wpAny_loadName_cell I.ok.kind hk hc hcell fin) hd
  ·exact wpAny_Name (wpAny_loadName_free I.ok.kind hk hc hcell fin hcd) hd
theorem ql{i j pos}:JE X (.Constant (.int i) j pos) (tC (.int i)):=.of (by
 exact λ_ _ _ H _ I h=>wpAny_Constant_int ⟨.int i,H,I.tok _,⟨_,rfl⟩,h⟩)
theorem Qd{b j pos}:JE X (.Constant (.bool b) j pos) (tC (.bl b)):=.of (by
 exact λ_ _ _ H _ I h=>Constant_bool ⟨.bl b,H,I,rfl,h⟩)
theorem KO{j pos}:JE X (.Constant .none j pos) (tC .non):=.of (by
 exact λ_ _ _ H _ I h=>Constant_none ⟨.non,H,I,rfl,h⟩)
theorem qk{x j pos}:JE X (.Constant (.str x) j pos) (tC (.str x)):=.of (by
 exact λ_ _ _ H _ I h=>Calls.Constant_str ⟨.str x,H,I.tok _,⟨_,rfl⟩,h⟩)
def Gl(X:Cx)(x:Str):Prop:=X.env.kindOf x=some .globalImplicit
theorem zJ{E:Value->Shared->Prop}{pins:List (Addr×Obj)}{s:Shared}{σ:St}{H:Hp}{x:Str}{u:Value}{pos:Pos}{Q:Value->Shared->Prop}(I:qz X pins σ H s)(hg:Gl X x)(hm:X.mg x=some u)(h:Q u s)
  (hd:(x==("__debug__":Str))=false:=by decide):wpAny (model X.prog X.w) X.A (eval (.Name x pos) X.env) Q E s:=
 Calls.Name_function_global I.ok.kind hg (Calls.loadGlobal_global (by rw[I.ok.glob];exact I.mod.glob.keeps I.bk) hm h) hd
theorem Yn{E:Value->Shared->Prop}{pins:List (Addr×Obj)}{s:Shared}{σ:St}{H:Hp}{x:Str}{u:Value}{pos:Pos}{Q:Value->Shared->Prop}(I:qz X pins σ H s)(hg:Gl X x)(hm:X.mg x=none)(hv:bootBuiltins x=some u)(h:Q u s)
  (hn:x≠"__name__":=by decide) (hd:(x==("__debug__":Str))=false:=by decide):wpAny (model X.prog X.w) X.A (eval (.Name x pos) X.env) Q E s:=by
 obtain⟨mb,h1,h2⟩:=I.mod.blt
 exact Calls.Name_function_global I.ok.kind hg (Calls.loadGlobal_builtin (by rw[I.ok.glob];exact I.mod.glob.keeps I.bk) hm (by rw[I.ok.blt];exact h1.keeps I.bk) ((h2 x hn).trans hv) h) hd
theorem k8{x:Str}{v:V}{u:Value}{pos:Pos}(hg:Gl X x)(hm:X.mg x=some u)(r:qY v u)(hd:(x==("__debug__":Str))=false:=by decide):PE X (.Name x pos) (tC v):=
 λ_ _ _ H _ I h=>zJ I hg hm ⟨v,H,I,r,h⟩ hd
theorem qM{x:Str}{v:V}{u:Value}{pos:Pos}(hg:Gl X x)(hm:X.mg x=some u)(r:qY v u)(hd:(x==("__debug__":Str))=false:=by decide):JE X (.Name x pos) (tC v):=.of (k8 hg hm r hd)
theorem jR{x:Str}{v:V}{u:Value}{pos:Pos}(hg:Gl X x)(hm:X.mg x=none)(hv:bootBuiltins x=some u)(r:qY v u)(hn:x≠"__name__":=by decide)(hd:(x==("__debug__":Str))=false:=by decide):JE X (.Name x pos) (tC v):=.of (by
 exact λ_ _ _ H _ I h=>Yn I hg hm hv ⟨v,H,I,r,h⟩ hn hd)
variable{a b:Expr}{ta tb:TE}{pos:Pos}
def PC(X:Cx)(op:CmpOp)(a b:Expr)(t:TE):Prop:=
 ∀(pins:List (Addr×Obj)) (s:Shared) (σ:St) (H:Hp) (Q:VK),qz X pins σ H s->t σ H Q->
  wpAny (model X.prog X.w) X.A (eval a X.env) (λv s₁=>wpAny (model X.prog X.w) X.A (eval b X.env) (λu s₂=>wpAny (model X.prog X.w) X.A (compareOp op v u) (EP X pins σ Q) X.xe s₂) X.xe s₁) X.xe s
@[irreducible] def JC (X:Cx) (op:CmpOp) (a b:Expr) (t:TE):Prop:=PC X op a b t
theorem JC.of{X:Cx}{op:CmpOp}{a b:Expr}{t:TE}(h:PC X op a b t):JC X op a b t:=by unfold JC;exact h
theorem JC.to{X:Cx}{op:CmpOp}{a b:Expr}{t:TE}(h:JC X op a b t):PC X op a b t:=by unfold JC at h;exact h
def tB(t:TE):TT:=λσ H Q=>t σ H λx H1=>∃c,x=.bl c/\Q c H1
theorem Qb{op:CmpOp}{t:TE}(h:JC X op a b t)(h1:behindInMarks op b=false:=by first | exact nobehind _ (by decide) (by decide) | rfl):JT X (.Compare a [op] [b] pos) (tB t):=.of (by
 have h:=h.to
 intro pins s σ H Q I hw
 refine wpAny_isTrue_Compare1 (jm (h pins s σ H _ I hw) λv s1 h1=>jm h1 λu s2 h2=>jm h2 λc s3 ⟨x,H1,I1,r1,q1⟩=>?_) h1
 obtain⟨d,rfl,q⟩:=q1
 cases r1
 exact wpAny_truthy_bool ⟨H1,I1,q⟩)
theorem jd{e:Expr}{t:TE}(h:JE X e t)(he:∀whole,isTrue e X.env whole=(do let v <-whole;standAt e.pos;holding [v] (truthy v)):=by intro _;rfl):JT X e (tB t):=.of (by
 have h:=h.to
 intro pins s σ H Q I hw
 refine isTrue_plain (jm (h pins s σ H _ I hw) λv s1 ⟨x,H1,I1,r1,q1⟩=>?_) (he _)
 obtain⟨d,rfl,q⟩:=q1
 cases r1
 exact wpAny_truthy_bool ⟨H1,I1,q⟩)
variable{tA tB':TT}{rest:List Expr}
def ve(t u:TT):TT:=λσ H Q=>t σ H λc H1=>if c=true then u σ H1 Q else Q false H1
def tOr(t u:TT):TT:=λσ H Q=>t σ H λc H1=>if c=true then Q true H1 else u σ H1 Q
def Aq(t:TT):TT:=λσ H Q=>t σ H λc H1=>Q (!c) H1
theorem Vq(ha:JT X a tA):JW X (.BoolOp .And [a] pos) tA:=.of (by
 have ha:=ha.to
 intro wh pins s σ H Q I h
 refine isTrue_and (jm (ha pins s σ H Q I h) λc s1 e=>?_)
 cases c with
 | true=>exact isTrue_and_nil e
 | false=>exact e)
theorem QK(ha:JT X a tA):JW X (.BoolOp .Or [a] pos) tA:=.of (by
 have ha:=ha.to
 intro wh pins s σ H Q I h
 refine isTrue_or (jm (ha pins s σ H Q I h) λc s1 e=>?_)
 cases c with
 | false=>exact isTrue_or_nil e
 | true=>exact e)
theorem vR(ha:JT X a tA)(hb:JW X (.BoolOp .And (b::rest) pos) tB'):JW X (.BoolOp .And (a::b::rest) pos) (ve tA tB'):=.of (by
 have ha:=ha.to
 have hb:=hb.to
 intro wh pins s σ H Q I h
 refine isTrue_and (jm (ha pins s σ H _ I h) λc s1 ⟨H1,I1,q1⟩=>?_)
 cases c with
 | true=>exact hb wh pins s1 σ H1 Q I1 q1
 | false=>exact⟨H1,I1,q1⟩)
theorem Jp(ha:JT X a tA)(hb:JW X (.BoolOp .Or (b::rest) pos) tB'):JW X (.BoolOp .Or (a::b::rest) pos) (tOr tA tB'):=.of (by
 have ha:=ha.to
 have hb:=hb.to
 intro wh pins s σ H Q I h
 refine isTrue_or (jm (ha pins s σ H _ I h) λc s1 ⟨H1,I1,q1⟩=>?_)
 cases c with
 | true=>exact⟨H1,I1,q1⟩
 | false=>exact hb wh pins s1 σ H1 Q I1 q1)
theorem jy(ha:JT X a tA):JT X (.UnaryOp .Not a pos) (Aq tA):=.of (by
 have ha:=ha.to
 intro pins s σ H Q I h
 exact isTrue_not (ha pins s σ H (λc H1=>Q (!c) H1) I h))
def Cr(ta tb:TE):TE:=λσ H Q=>ta σ H λx H1=>∃c,x=.bl c/\if c=true then tb σ H1 Q else Q (.bl false) H1
def D8(ta tb:TE):TE:=λσ H Q=>ta σ H λx H1=>∃c,x=.bl c/\if c=true then Q (.bl true) H1 else tb σ H1 Q
def Cn(ta:TE):TE:=λσ H Q=>ta σ H λx H1=>∃c,x=.bl c/\Q (.bl (!c)) H1
theorem QP{op}{t:TE}(h:JE X a t):JE X (.BoolOp op [a] pos) t:=.of (by
 have h:=h.to
 exact λpins s σ H Q I hw=>BoolOp_one (h pins s σ H Q I hw))
theorem QM(ha:JE X a ta)(hb:JE X (.BoolOp .And (b::rest) pos) tb):JE X (.BoolOp .And (a::b::rest) pos) (Cr ta tb):=.of (by
 have ha:=ha.to
 have hb:=hb.to
 intro pins s σ H Q I h
 refine BoolOp_and (jm (ha pins s σ H _ I h) λv s1 ⟨x,H1,I1,r1,q1⟩=>?_)
 obtain⟨c,rfl,q1⟩:=q1
 cases r1
 refine wpAny_truthy_bool ?_
 cases c with
 | true=>exact hb pins s1 σ H1 Q I1 q1
 | false=>exact⟨.bl false,H1,I1,rfl,q1⟩)
theorem Dt(ha:JE X a ta)(hb:JE X (.BoolOp .Or (b::rest) pos) tb):JE X (.BoolOp .Or (a::b::rest) pos) (D8 ta tb):=.of (by
 have ha:=ha.to
 have hb:=hb.to
 intro pins s σ H Q I h
 refine BoolOp_or (jm (ha pins s σ H _ I h) λv s1 ⟨x,H1,I1,r1,q1⟩=>?_)
 obtain⟨c,rfl,q1⟩:=q1
 cases r1
 refine wpAny_truthy_bool ?_
 cases c with
 | false=>exact hb pins s1 σ H1 Q I1 q1
 | true=>exact⟨.bl true,H1,I1,rfl,q1⟩)
theorem BG(ha:JE X a ta):JE X (.UnaryOp .Not a pos) (Cn ta):=.of (by
 have ha:=ha.to
 intro pins s σ H Q I h
 refine UnaryOp_ (jm (ha pins s σ H _ I h) λv s1 ⟨x,H1,I1,r1,q1⟩=>?_)
 obtain⟨c,rfl,q1⟩:=q1
 cases r1
 exact not_of (wpAny_truthy_bool ⟨.bl (!c),H1,I1,rfl,q1⟩))
end
def SqL(K:zdw)(H:Hp)(a:Addr)(xs:List V):Prop:=
 Rd H a (.lst xs)\/
  ∃(o:Obj) (its:Array Value) (n:Nat),K.lookup a=some o/\o.cls=.type "list"/\o.dict=none/\o.data=.seq its n/\its.size<=zdB/\qR xs its.toList
def SqT(K:zdw)(H:Hp)(a:Addr)(xs:List V):Prop:=
 Rd H a (.tup xs)\/
  ∃(o:Obj) (its:Array Value) (n:Nat),K.lookup a=some o/\o.cls=.type "tuple"/\o.data=.seq its n/\its.size<=zdB/\qR xs its.toList
def Fa:Value->Option V
 | .none=>some .non
 | .bool b=>some (.bl b)
 | .int i _=>some (.int i)
 | .str x _=>some (.str x)
 | .bytes b _=>some (.byt b)
 | .float b _=>some (.flt b)
 | .ref a=>some (.ref a)
 | .type n=>some (.ty n)
 | _=>none
theorem qY.abs{x:V}{u:Value}(r:qY x u):Fa u=some x:=by
 cases x with
 | non=>cases r;rfl
 | bl _=>cases r;rfl
 | int _=>obtain⟨t,rfl⟩:=r;rfl
 | str _=>obtain⟨t,rfl⟩:=r;rfl
 | byt _=>obtain⟨t,rfl⟩:=r;rfl
 | flt _=>obtain⟨t,rfl⟩:=r;rfl
 | ref _=>cases r;rfl
 | ty _=>cases r;rfl
theorem qY.inj{x y:V}{u:Value}(r:qY x u)(q:qY y u):x=y:=tX.inj (r.abs.symm.trans q.abs)
theorem qR.inj:∀{xs ys:List V} {us:List Value},qR xs us->qR ys us->xs=ys
 | _,_,_,.nil,.nil=>rfl
 | _,_,_,.cons r t,.cons r' t'=>by rw[r.inj r',qR.inj t t']
section
variable{X:Cx}{pins:List (Addr×Obj)}{σ:St}{H:Hp}{s:Shared}{a:Addr}{xs ys:List V}
theorem SqL.of{K:zdw}(h:H a=some (.lst xs)):SqL K H a xs:=.inl (.inl h)
theorem SqT.of{K:zdw}(h:H a=some (.tup xs)):SqT K H a xs:=.inl (.inl h)
theorem qz.list(I:qz X pins σ H s)(h:SqL X.K H a xs):∃its:List Value,qR xs its/\PlainL s.heap a its.toArray/\xs.length<=zdB:=by
 rcases h with h | ⟨o,its,n,hk,hc,hd,hs,hz,r⟩
 ·obtain⟨z,its,n,r,e⟩:=h.ok I.hok
  exact⟨its,r,⟨_,n,e,rfl,rfl,rfl⟩,z⟩
 ·refine⟨its.toList,r,⟨o,n,I.kIn a o hk,hc,hd,by simpa using hs⟩,?_⟩
  have e:=r.length
  simp only[zbN]at e
  omega
theorem qz.tuple(I:qz X pins σ H s)(h:SqT X.K H a xs):∃its:List Value,qR xs its/\IsTup s.heap a its.toArray/\xs.length<=zdB:=by
 rcases h with h | ⟨o,its,n,hk,hc,hs,hz,r⟩
 ·obtain⟨z,its,r,p⟩:=h.ok I.hok
  exact⟨its,r,p,z⟩
 ·refine⟨its.toList,r,⟨o,I.kIn a o hk,hc,n,by simpa using hs⟩,?_⟩
  have e:=r.length
  simp only[zbN]at e
  omega
theorem qz.list_inj(I:qz X pins σ H s)(h:SqL X.K H a xs)(h':SqL X.K H a ys):xs=ys:=by
 obtain⟨its,r,⟨o,n,e,_,_,d⟩,_⟩:=I.list h
 obtain⟨its',r',⟨o',n',e',_,_,d'⟩,_⟩:=I.list h'
 rw[e]at e';cases e'
 rw[d]at d'
 injection d' with d1 _
 have:its=its':=by simpa using congrArg Array.toList d1
 subst this
 exact r.inj r'
theorem qz.tuple_inj(I:qz X pins σ H s)(h:SqT X.K H a xs)(h':SqT X.K H a ys):xs=ys:=by
 obtain⟨its,r,⟨o,e,_,n,d⟩,_⟩:=I.tuple h
 obtain⟨its',r',⟨o',e',_,n',d'⟩,_⟩:=I.tuple h'
 rw[e]at e';cases e'
 rw[d]at d'
 injection d' with d1 _
 have:its=its':=by simpa using congrArg Array.toList d1
 subst this
 exact r.inj r'
end
abbrev Cx.wish(X:Cx)(E:Value->Shared->Prop):Cx:={X with xe:=E}
abbrev Cx.nox(X:Cx):Cx:=X.wish λ_ _=>False
theorem Cx.Ok.wish{X:Cx}(ok:X.Ok)(E:Value->Shared->Prop):(X.wish E).Ok:=
 ⟨ok.mod,ok.kind,ok.glob,ok.blt,ok.above,ok.inj,ok.has,ok.cab,ok.hd,ok.frames,ok.stk,ok.exf,ok.bs,ok.bsz,ok.noex,ok.exfs,ok.funs,ok.frf⟩
theorem Cx.Ok.unwish{X:Cx}{E:Value->Shared->Prop}(ok:(X.wish E).Ok):X.Ok:=
 ⟨ok.mod,ok.kind,ok.glob,ok.blt,ok.above,ok.inj,ok.has,ok.cab,ok.hd,ok.frames,ok.stk,ok.exf,ok.bs,ok.bsz,ok.noex,ok.exfs,ok.funs,ok.frf⟩
section
variable{X:Cx}{pins:List (Addr×Obj)}{σ:St}{H:Hp}{s:Shared}{E:Value->Shared->Prop}
theorem qz.wish(I:qz X pins σ H s)(E:Value->Shared->Prop):qz (X.wish E) pins σ H s:=⟨I.ok.wish E,I.os,I.bare,I.base,I.loc,I.cell,I.free,I.freeC,I.pin,I.hok,I.len⟩
theorem qz.unwish(I:qz (X.wish E) pins σ H s):qz X pins σ H s:=⟨I.ok.unwish,I.os,I.bare,I.base,I.loc,I.cell,I.free,I.freeC,I.pin,I.hok,I.len⟩
theorem SP.unwish{D:JN}{f:Flow}{s':Shared}(h:SP (X.wish E) pins D f s'):SP X pins D f s':=by
 cases f with
 | next=>obtain⟨σ',H',I,q⟩:=h;exact⟨σ',H',I.unwish,q⟩
 | brk=>obtain⟨σ',H',I,q⟩:=h;exact⟨σ',H',I.unwish,q⟩
 | cont=>obtain⟨σ',H',I,q⟩:=h;exact⟨σ',H',I.unwish,q⟩
 | ret u=>obtain⟨v,σ',H',I,r,q⟩:=h;exact⟨v,σ',H',I.unwish,r,q⟩
theorem Ra.nox{st:List Stmt}{t:TS}(h:Ra X.nox st t):Ra X st t:=λpins s σ H D I hw=>
 wpAny_mono (h pins s σ H D (I.wish _) hw) (λ_ _ q=>q.unwish) λ_ _ z=>False.elim z
end
section
variable{X:Cx}{st:Stmt}{rest:List Stmt}{t u:TS}{e:Expr}{te:TE}{pos:Pos}
def Zd:TS:=λD σ H=>D.nx σ H
def X6(t u:TS):TS:=λD σ H=>t {D with nx:=u D} σ H
theorem qv:VD X [] Zd:=.of (by
 exact λ_ _ σ H _ I h=>wpAny_execs_nil ⟨σ,H,I,h⟩)
theorem qg(h1:JS X st t)(h2:VD X rest u):VD X (st::rest) (X6 t u):=.of (by
 have h1:=h1.to
 have h2:=h2.to
 intro pins s σ H D I h
 refine wpAny_execs_cons (jm (h1 pins s σ H {D with nx:=u D} I h) λf s1 q=>?_)
 cases f with
 | next=>
  obtain⟨σ',H',I',q⟩:=q
  exact h2 pins s1 σ' H' D I' q
 | ret v=>exact q
 | brk=>exact q
 | cont=>exact q)
theorem qh(h1:JS X st t):VD X [st] t:=.of (by
 have h1:=h1.to
 intro pins s σ H D I h
 refine wpAny_execs_cons (jm (h1 pins s σ H D I h) λf s1 q=>?_)
 cases f with
 | next=>exact wpAny_execs_nil q
 | ret v=>exact q
 | brk=>exact q
 | cont=>exact q)
theorem qz.quiet{pins:List (Addr×Obj)}{σ:St}{H:Hp}{s:Shared}(I:qz X pins σ H s):interactive X.env=false:=by simp [interactive,I.ok.kind]
def kx(te:TE):TS:=λD σ H=>te σ H λ_ H1=>D.nx σ H1
theorem jf(he:JE X e te)(hs:swapsWith e none pos.line X.env=pure false:=by rfl):JS X (.Expr e pos) (kx te):=.of (by
 have he:=he.to
 intro pins s σ H D I h
 exact wpAny_Expr_any (jm (he pins s σ H _ I h) λv s1 ⟨x,H1,I1,r1,q1⟩=>⟨σ,H1,I1,q1⟩) I.quiet hs)
def D7(te:TE):TS:=λD σ H=>te σ H D.rt
theorem qt(he:JE X e te):JS X (.Return (some e) pos) (D7 te):=.of (by
 have he:=he.to
 intro pins s σ H D I h
 exact wpAny_Return_some (jm (he pins s σ H _ I h) λv s1 ⟨x,H1,I1,r1,q1⟩=>⟨x,σ,H1,I1,r1,q1⟩))
def YM(c:TT)(t u:TS):TS:=λD σ H=>c σ H λb H1=>if b=true then t D σ H1 else u D σ H1
theorem qE{c:Expr}{a b:List Stmt}{tc:TT}(hc:JT X c tc)(ha:VD X a t)(hb:VD X b u):JS X (.If c a b pos) (YM tc t u):=.of (by
 have hc:=hc.to
 have ha:=ha.to
 have hb:=hb.to
 intro pins s σ H D I h
 refine wpAny_If (jm (hc pins s σ H _ I h) λd s1 ⟨H1,I1,q1⟩=>?_)
 cases d with
 | true=>exact ha pins s1 σ H1 D I1 q1
 | false=>exact hb pins s1 σ H1 D I1 q1)
def Ar:TS:=λ_ _ _=>False
theorem qI{sts:List Stmt}:VD X sts Ar:=.of (by
 exact λ_ _ _ _ _ _ h=>h.elim)
end
abbrev TG:=V->St->Hp->(St->Hp->Prop)->Prop
abbrev G9:=List V->St->Hp->(St->Hp->Prop)->Prop
def PG(X:Cx)(target:Expr)(t:TG):Prop:=
 ∀(pins:List (Addr×Obj)) (s:Shared) (σ:St) (H:Hp) (v:V) (u:Value) (Q:St->Hp->Prop),qz X pins σ H s->qY v u->t v σ H Q->
  wpAny (model X.prog X.w) X.A (assign target X.env u) (λ_ s'=>∃σ' H',qz X pins σ' H' s'/\Q σ' H') X.xe s
@[irreducible] def JG (X:Cx) (target:Expr) (t:TG):Prop:=PG X target t
theorem JG.of{X:Cx}{target:Expr}{t:TG}(h:PG X target t):JG X target t:=by unfold JG;exact h
theorem JG.to{X:Cx}{target:Expr}{t:TG}(h:JG X target t):PG X target t:=by unfold JG at h;exact h
def Fh(X:Cx)(ts:List Expr)(t:G9):Prop:=
 ∀(pins:List (Addr×Obj)) (s:Shared) (σ:St) (H:Hp) (vs:List V) (us:List Value) (Q:St->Hp->Prop),qz X pins σ H s->qR vs us->t vs σ H Q->
  wpAny (model X.prog X.w) X.A (assignInOrder ((assignEach ts X.env).map (·.2)) us) (λ_ s'=>∃σ' H',qz X pins σ' H' s'/\Q σ' H') X.xe s
@[irreducible] def Rg (X:Cx) (ts:List Expr) (t:G9):Prop:=Fh X ts t
theorem Rg.of{X:Cx}{ts:List Expr}{t:G9}(h:Fh X ts t):Rg X ts t:=by unfold Rg;exact h
theorem Rg.to{X:Cx}{ts:List Expr}{t:G9}(h:Rg X ts t):Fh X ts t:=by unfold Rg at h;exact h
abbrev D2:=V->V->Hp->VK->Prop
def PIp(X:Cx)(op:Operator)(t:D2):Prop:=
 ∀(pins:List (Addr×Obj)) (s:Shared) (σ:St) (H:Hp) (x y:V) (v u:Value) (Q:VK),qz X pins σ H s->qY x v->qY y u->t x y H Q->
  wpAny (model X.prog X.w) X.A (inplaceOp op v u) (EP X pins σ Q) X.xe s
section
variable{X:Cx}{pos:Pos}
def j3(i:Nat):TG:=λv σ H Q=>Q (σ.set i (some v)) H
theorem qx{i:Nat}{x:Str}(hN:X.N.Nodup)(hi:X.N[i]?=some x)(hx:BZ X.env.scope x)(hf:X.fn x=true\/X.env.scope.names.lookup x=some .local:=by first | exact .inl rfl | exact .inr rfl | assumption):JG X (.Name x pos) (j3 i):=.of (by
 intro pins s σ H v u Q I r h
 exact wpAny_assign_Name (zw I hN hi hx r (λs' I'=>⟨_,H,I',h⟩) hf))
def x5:G9:=λvs σ H Q=>vs=[]/\Q σ H
def ZF(t:TG)(u:G9):G9:=λvs σ H Q=>∃v r,vs=v::r/\t v σ H λσ' H'=>u r σ' H' Q
theorem Jq:Rg X [] x5:=.of (by
 intro pins s σ H vs us Q I r h
 obtain⟨e,h⟩:=h
 subst e
 cases r
 exact assignInOrder_nil ⟨σ,H,I,h⟩)
theorem jp{e:Expr}{es:List Expr}{t:TG}{u:G9}(h1:JG X e t)(h2:Rg X es u)(hs:(assignEach (e::es) X.env).map (·.2)=assign e X.env::(assignEach es X.env).map (·.2):=by rfl):Rg X (e::es) (ZF t u):=.of (by
 have h1:=h1.to
 have h2:=h2.to
 intro pins s σ H vs us Q I r h
 obtain⟨v,vr,e1,h⟩:=h
 subst e1
 cases r with
 | cons r rr=>
  rw[hs]
  refine assignInOrder_cons (jm (h1 pins s σ H _ _ _ I r h) λ_ s1 ⟨σ1,H1,I1,q1⟩=>?_)
  exact h2 pins s1 σ1 H1 _ _ Q I1 rr q1)
def xZ(K:zdw)(n:Nat)(t:G9):TG:=λv σ H Q=>∃a xs,v=.ref a/\SqT K H a xs/\xs.length=n/\t xs σ H Q
theorem ZB{es:List Expr}{k:Nat}{t:G9}{n:Nat}(hc:X.calm=true)(h:Rg X es t)(hn:(assignEach es X.env).length=n:=by rfl)(hst:(assignEach es X.env).findIdx? (·.1)=none:=by rfl):JG X (.Tuple es k pos) (xZ X.K n t):=.of (by
 have h:=h.to
 intro pins s σ H v u Q I r hw
 obtain⟨a,xs,e1,hq,hl,hw⟩:=hw
 subst e1
 cases r
 obtain⟨its,rv,ht,hz⟩:=I.tuple hq
 refine assign_Tuple_tuple (I.ok.hd hc) ht (by simp [hn,<-hl,rv.length]) hst λh' hx=>?_
 have I1:qz X pins σ H {s with heap:=h'}:=I.kept (t':=s.toks) λb o e=>hx b o (zac (tN e)) e
 exact h pins _ σ H xs _ Q I1 (by simpa using rv) hw)
def yW(te:TE)(g:TG):TS:=λD σ H=>te σ H λx H1=>g x σ H1 D.nx
theorem qD{i:Nat}{x:Str}{e:Expr}{te:TE}{pos':Pos}(hN:X.N.Nodup)(hi:X.N[i]?=some x)(hx:BZ X.env.scope x)(he:JE X e te)(hs:swapsWith e (some (.Name x pos')) pos.line X.env=pure false:=by rfl)(hf:X.fn x=true\/X.env.scope.names.lookup x=some .local:=by first | exact .inl rfl | exact .inr rfl | assumption):JS X (.Assign [.Name x pos'] e pos) (yW te (j3 i)):=.of (by
 have he:=he.to
 intro pins s σ H D I h
 refine wpAny_Assign_Name (jm (he pins s σ H _ I h) λv s1 ⟨y,H1,I1,r1,q1⟩=>?_) hs
 exact zw I1 hN hi hx r1 (λs2 I2=>⟨_,H1,I2,q1⟩) hf)
def Ec(i:Nat)(te:TE)(ti:D2):TS:=λD σ H=>∃x,σ[i]?=some (some x)/\te σ H λy H1=>ti x y H1 λz H2=>D.nx (σ.set i (some z)) H2
theorem KF{i:Nat}{x:Str}{e:Expr}{te:TE}{op:Operator}{ti:D2}{pos':Pos}(hN:X.N.Nodup)(hi:X.N[i]?=some x)(hx:BZ X.env.scope x)(he:JE X e te)(ho:PIp X op ti)(hf:X.fn x=true\/X.env.scope.names.lookup x=some .local:=by first | exact .inl rfl | exact .inr rfl | assumption):JS X (.AugAssign (.Name x pos') op e pos) (Ec i te ti):=.of (by
 have he:=he.to
 intro pins s σ H D I h
 obtain⟨v,e1,h⟩:=h
 obtain⟨m,hn,hl⟩:=I.loc
 have vis:Cc X.env.scope x:=by rcases hx with k | k;exact .inl k;exact .inr (.inl k)
 obtain⟨u,r,l⟩:=hl i x v hi e1 vis
 refine wpAny_AugAssign_Name ?_
 have go:wpAny (model X.prog X.w) X.A (eval e X.env) (λw s₂=>wpAny (model X.prog X.w) X.A (inplaceOp op u w) (λr s₃=>wpAny (model X.prog X.w) X.A (storeName X.env x r) (λ_=>SP X pins D .next) X.xe s₃) X.xe s₂) X.xe s:=by
  refine jm (he pins s σ H _ I h) λw s1 ⟨y,H1,I1,r1,q1⟩=>?_
  refine jm (ho pins s1 σ H1 v y u w _ I1 r r1 q1) λz s2 ⟨zv,H2,I2,r2,q2⟩=>?_
  exact zw I2 hN hi hx r2 (λs3 I3=>⟨_,H2,I3,q2⟩) hf
 rcases l with ⟨hk,hm⟩ | ⟨hk,c,hc,hcell⟩
 ·exact wpAny_loadName_local I.ok.kind hk hn hm go
 ·rcases hk with hk | hk
  ·exact wpAny_loadName_cell I.ok.kind hk hc hcell go
  ·rcases hx with k | k
   ·have:X.env.scope.names.lookup x=some .free:=hk
    rw[k]at this;cases this
   ·have:X.env.scope.names.lookup x=some .free:=hk
    rw[k]at this;cases this)
def ipI(f:Int->Int->Int):D2:=λx y H Q=>∃i j,x=.int i/\y=.int j/\Q (.int (f i j)) H
theorem KZ:PIp X .Add (ipI λi j=>i+j):=by
 intro pins s σ H x y v u Q I r1 r2 h
 obtain⟨i,j,e1,e2,q⟩:=h
 subst e1;subst e2
 obtain⟨t,rfl⟩:=r1
 obtain⟨t',rfl⟩:=r2
 exact iadd_int ⟨.int _,H,I.tok _,⟨_,rfl⟩,q⟩
def wI(c:TT)(tb:TS):TS:=λD σ H=>∃W:Nat->St->Hp->Prop,(∃m,W m σ H)/\∀m σ H,W m σ H->
 c σ H λb H1=>if b=true then ∃N:St->Hp->Prop,(∀σ' H',N σ' H'->∃m',m' < m/\W m' σ' H')/\tb {D with nx:=N,ct:=N,bk:=D.nx} σ H1 else D.nx σ H1
theorem XM{c:Expr}{body:List Stmt}{tc:TT}{tb:TS}(hp:PassesOwn (model X.prog X.w) X.A X.env X.xe)(hc:JT X c tc)(hb:VD X body tb):JS X (.While c body [] pos) (wI tc tb):=.of (by
 have hc:=hc.to
 have hb:=hb.to
 intro pins s σ H D I h
 obtain⟨W,⟨m0,w0⟩,turn⟩:=h
 refine wpAny_While (codeAny_whileLoop (λn s'=>∃σ' H',qz X pins σ' H' s'/\W n σ' H') ?_ m0 ⟨σ,H,I,w0⟩)
 rintro n s1 ⟨σ1,H1,I1,w1⟩
 refine wpAny_passesOwn hp (jm (hc pins s1 σ1 H1 _ I1 (turn n σ1 H1 w1)) λb s2 ⟨H2,I2,q2⟩=>?_)
 cases b with
 | true=>
  obtain⟨N,hN,q2⟩:=q2
  rw[if_pos rfl]
  refine wpAny_passesOwn hp (jm (hb pins s2 σ1 H2 _ I2 q2) λf s3 q3=>?_)
  cases f with
  | next=>
   obtain⟨σ3,H3,I3,n3⟩:=q3
   obtain⟨m',hm,w3⟩:=hN σ3 H3 n3
   exact⟨m',hm,σ3,H3,I3,w3⟩
  | cont=>
   obtain⟨σ3,H3,I3,n3⟩:=q3
   obtain⟨m',hm,w3⟩:=hN σ3 H3 n3
   exact⟨m',hm,σ3,H3,I3,w3⟩
  | brk=>exact q3
  | ret v=>exact q3
 | false=>
  rw[if_neg tS]
  exact wpAny_execs_nil ⟨σ1,H2,I2,q2⟩)
end
structure It where
 go:Nat->Hp->Prop
 yld:Nat->Hp->V->Hp->Prop
 stop:Nat->Hp->Prop
def Z0(X:Cx)(pins:List (Addr×Obj))(H:Hp)(b:Addr):Prop:=
 H b=none/\b≠X.env.locals/\b∉X.fs/\(b∈X.ex\/X.s₀.heap.objs.size<=b)/\(∀x c,X.env.cells.lookup x=some c->c≠b)/\∀p∈X.pn++pins,p.1≠b
theorem qz.fpOk{X:Cx}{pins:List (Addr×Obj)}{σ:St}{H H':Hp}{s:Shared}{b:Addr}(I:qz X pins σ H s)(hb:s.heap.objs.size<=b)(hn:H' b=none):Z0 X pins H' b:=by
 refine⟨hn,zbI (tE I.lt hb),I.nofs hb,.inr (tM I.sz hb),λx c e z=>?_,λp hp z=>?_⟩
 ·obtain⟨v,q⟩:=I.cell x c e
  exact absurd (tE q.lt (by rw[z];exact hb)) (zaB _)
 ·exact absurd (tE (tN (I.pin p hp).1) (by rw[z];exact hb)) (zaB _)
structure U0(P:Program)(w:World)(K:zdw)(tg:Expr)(J:It)(fp:List Addr)(it:Addr)(tn:Nat->Heap->Prop):Prop where
 mem:it∈fp
 obj:∀i h,tn i h->∀b∈fp,∃o,h.get? b=some o/\∀v,o.data≠.cell v
 keep:∀i h h',tn i h->(∀b∈fp,∀o,h.get? b=some o->h'.get? b=some o)->tn i h'
 item:∀(X:Cx),X.prog=P->X.w=w->X.K=K->X.calm=true->∀(i:Nat) (pins:List (Addr×Obj)) (s:Shared) (σ:St) (H:Hp) (E:Value->Shared->Prop),qz X pins σ H s->(∀b∈fp,Z0 X pins H b)->tn i s.heap->J.go i H->
  wpAny (model P w) X.A (pyNext (.ref it)) (λr s1=>∃u,r=some u/\
   wpAny (model P w) X.A (letOwnedTupleGo tg (.ref it) u) (λ_ s2=>∃x H',qz X pins σ H' s2/\qY x u/\J.yld i H x H'/\tn (i+1) s2.heap/\∀b∈fp,H' b=none) E s1) E s
 done:∀(X:Cx),X.prog=P->X.w=w->X.K=K->X.calm=true->∀(i:Nat) (pins:List (Addr×Obj)) (s:Shared) (σ:St) (H:Hp) (E:Value->Shared->Prop),qz X pins σ H s->(∀b∈fp,Z0 X pins H b)->tn i s.heap->J.stop i H->
  wpAny (model P w) X.A (pyNext (.ref it)) (λr s1=>r=none/\qz X pins σ H s1) E s
 self:∀(A:Around) (i:Nat) (s:Shared) (Q:Value->Shared->Prop) (E:Value->Shared->Prop),tn i s.heap->Q (.ref it) s->wpAny (model P w) A (pyIter (.ref it)) Q E s
abbrev TI:=St->Hp->(It->Hp->Prop)->Prop
def PIE(X:Cx)(pins:List (Addr×Obj))(σ:St)(tg:Expr)(R:It->Hp->Prop)(itv:Value)(s2:Shared):Prop:=
 ∃(it:Addr) (fp:List Addr) (tn:Nat->Heap->Prop) (J:It) (H':Hp),itv=.ref it/\qz X pins σ H' s2/\U0 X.prog X.w X.K tg J fp it tn/\tn 0 s2.heap/\(∀b∈fp,Z0 X pins H' b)/\R J H'
def PI(X:Cx)(tg iter:Expr)(wi:TI):Prop:=
 ∀(pins:List (Addr×Obj)) (s:Shared) (σ:St) (H:Hp) (R:It->Hp->Prop),qz X pins σ H s->wi σ H R->
  wpAny (model X.prog X.w) X.A (eval iter X.env) (λv s1=>wpAny (model X.prog X.w) X.A (pyIter v) (PIE X pins σ tg R) X.xe s1) X.xe s
@[irreducible] def JI (X:Cx) (tg iter:Expr) (wi:TI):Prop:=PI X tg iter wi
theorem JI.of{X:Cx}{tg iter:Expr}{wi:TI}(h:PI X tg iter wi):JI X tg iter wi:=by unfold JI;exact h
theorem JI.to{X:Cx}{tg iter:Expr}{wi:TI}(h:JI X tg iter wi):PI X tg iter wi:=by unfold JI at h;exact h
theorem yo{M:Model}{A:Around}{E:Value->Shared->Prop}{s:Shared}{tg:Expr}{it:Addr}{u:Value}{o:Obj}{n:String}{vs:Array Value}{Q:Unit->Shared->Prop}(ho:s.heap.get? it=some o)(hc:o.cls=.type n)(hd:o.data=.fields vs)
   (hn:["enumerate","zip","dict_itemiterator","dict_reverseitemiterator","odict_iterator","itertools.zip_longest","itertools.pairwise"].contains n=false) (hQ:Q () s):wpAny M A (letOwnedTupleGo tg (.ref it) u) Q E s:=by
 unfold letOwnedTupleGo
 cases tg<;>first
   | exact zdz hQ
   | (cases u<;>first
       | exact zdz hQ
       | (refine zdy (wpAny_load ho ?_)
          rw[hc,hd]
          show wpAny M A (if (["enumerate","zip","dict_itemiterator","dict_reverseitemiterator","odict_iterator","itertools.zip_longest","itertools.pairwise"].contains n&&vs[0]?==some (rawInt _))=true then _ else _) Q E s
          rw[if_neg (by intro h;rw[hn,zcv]at h;cases h)]
          exact zdz hQ))
def B0(K:zdw)(a:Addr):It:=
 ⟨λi H=>∃xs x,SqL K H a xs/\xs[i]?=some x,λi H x H'=>H'=H/\∀xs,SqL K H a xs->xs[i]?=some x,λi H=>∃xs,SqL K H a xs/\xs.length<=i⟩
def Cg(K:zdw)(a:Addr):It:=
 ⟨λi H=>∃xs x,SqT K H a xs/\xs[i]?=some x,λi H x H'=>H'=H/\∀xs,SqT K H a xs->xs[i]?=some x,λi H=>∃xs,SqT K H a xs/\xs.length<=i⟩
def Af(lo:Int)(n:Nat):It:=⟨λi _=>i < n,λi H x H'=>H'=H/\x=.int (lo+i),λi _=>n<=i⟩
theorem yR{P:Program}{w:World}{K:zdw}{tg:Expr}(a it:Addr):U0 P w K tg (B0 K a) [it] it (λi h=>h.IsListIter it a i) where
 mem:=by simp
 obj:=λi h st b hb=>by
  have e:b=it:=by simpa using hb
  subst e
  obtain⟨o,e,c,d⟩:=st
  exact⟨o,e,λv z=>by rw[d]at z;cases z⟩
 keep:=λi h h' st k=>st.at λo e=>k it (by simp) o e
 item:=by
  intro X hP hw hK hc i pins s σ H E I hf st hg
  subst hP hw hK
  obtain⟨xs,x,hq,hx⟩:=hg
  obtain⟨its,rv,p,hz⟩:=I.list hq
  obtain⟨u,hu,ru⟩:=rv.get hx
  obtain⟨f0,f1,f2,f3,f4,f5⟩:=hf it (by simp)
  refine wpAny_pyNext_list_item st p.isList (x:=u) (by simpa using hu) λh' st' sb=>?_
  have I1:qz X pins σ H {s with heap:=h'}:=I.turned (t':=s.toks) (λb o hb e=>(sb.2 b hb).trans e) f0 f1 f3 f4 f5
  obtain⟨o,e,c,d⟩:=id st'
  exact⟨u,rfl,yo (s:={s with heap:=h'}) e c d (by decide) ⟨x,H,I1,ru,⟨rfl,λys hy=>by rw[I.list_inj hy hq];exact hx⟩,st',λb hb=>(hf b hb).1⟩⟩
 done:=by
  intro X hP hw hK hc i pins s σ H E I hf st hg
  subst hP hw hK
  obtain⟨xs,hq,hx⟩:=hg
  obtain⟨its,rv,p,hz⟩:=I.list hq
  obtain⟨f0,f1,f2,f3,f4,f5⟩:=hf it (by simp)
  have hl:=rv.length
  exact wpAny_pyNext_list_end (I.ok.hd hc) st p.isList (by simp;omega) λh' eb=>⟨rfl,I.turned (t':=s.toks) (λb o hb e=>eb b o hb e) f0 f1 f3 f4 f5⟩
 self:=λ_ _ _ _ _ st h=>wpAny_pyIter_listiter st h
theorem U8{P:Program}{w:World}{K:zdw}{tg:Expr}(a it:Addr):U0 P w K tg (Cg K a) [it] it (λi h=>h.IsTupleIter it a i) where
 mem:=by simp
 obj:=λi h st b hb=>by
  have e:b=it:=by simpa using hb
  subst e
  obtain⟨o,e,c,d⟩:=st
  exact⟨o,e,λv z=>by rw[d]at z;cases z⟩
 keep:=λi h h' st k=>st.at λo e=>k it (by simp) o e
 item:=by
  intro X hP hw hK hc i pins s σ H E I hf st hg
  subst hP hw hK
  obtain⟨xs,x,hq,hx⟩:=hg
  obtain⟨its,rv,p,hz⟩:=I.tuple hq
  obtain⟨u,hu,ru⟩:=rv.get hx
  obtain⟨f0,f1,f2,f3,f4,f5⟩:=hf it (by simp)
  refine wpAny_pyNext_tuple_item st (show s.heap.IsTuple a its.toArray from p) (x:=u) (by simpa using hu) λh' st' sb=>?_
  have I1:qz X pins σ H {s with heap:=h'}:=I.turned (t':=s.toks) (λb o hb e=>(sb.2 b hb).trans e) f0 f1 f3 f4 f5
  obtain⟨o,e,c,d⟩:=id st'
  exact⟨u,rfl,yo (s:={s with heap:=h'}) e c d (by decide) ⟨x,H,I1,ru,⟨rfl,λys hy=>by rw[I.tuple_inj hy hq];exact hx⟩,st',λb hb=>(hf b hb).1⟩⟩
 done:=by
  intro X hP hw hK hc i pins s σ H E I hf st hg
  subst hP hw hK
  obtain⟨xs,hq,hx⟩:=hg
  obtain⟨its,rv,p,hz⟩:=I.tuple hq
  obtain⟨f0,f1,f2,f3,f4,f5⟩:=hf it (by simp)
  have hl:=rv.length
  exact wpAny_pyNext_tuple_end (I.ok.hd hc) st (show s.heap.IsTuple a its.toArray from p) (by simp;omega) λh' eb=>⟨rfl,I.turned (t':=s.toks) (λb o hb e=>eb b o hb e) f0 f1 f3 f4 f5⟩
 self:=λ_ _ _ _ _ st h=>wpAny_pyIter_tupleiter st h
theorem U9{P:Program}{w:World}{K:zdw}{tg:Expr}(it:Addr)(lo:Int)(n:Nat):U0 P w K tg (Af lo n) [it] it (λi h=>IsRangeIter h it (lo+(i:Nat)*1) ((n:Int) - (i:Nat)) 1) where
 mem:=by simp
 obj:=λi h st b hb=>by
  have e:b=it:=by simpa using hb
  subst e
  exact⟨_,st,λv z=>by
   have z':Data.fields _=Data.cell v:=z
   cases z'⟩
 keep:=λi h h' st k=>k it (by simp) _ st
 item:=by
  intro X hP hw hK hc i pins s σ H E I hf st hg
  subst hP hw hK
  obtain⟨f0,f1,f2,f3,f4,f5⟩:=hf it (by simp)
  have W:=Walks.range (prog:=X.prog) (w:=X.w) (I.ok.hd hc) it lo 1 n
  refine W.item i s _ _ hg st λv h' tk hv st' kk=>?_
  obtain⟨t,rfl⟩:=hv
  have I1:qz X pins σ H {s with heap:=h',toks:=tk}:=I.turned (λb o hb e=>kk b o (by simpa using hb) e) f0 f1 f3 f4 f5
  refine⟨_,rfl,yo (s:={s with heap:=h',toks:=tk}) (n:="range_iterator") st' rfl rfl (by decide) ⟨.int (lo+i),H,I1,⟨t,?_⟩,⟨rfl,rfl⟩,st',λb hb=>(hf b hb).1⟩⟩
  rw[Int.mul_one]
 done:=by
  intro X hP hw hK hc i pins s σ H E I hf st hg
  subst hP hw hK
  obtain⟨f0,f1,f2,f3,f4,f5⟩:=hf it (by simp)
  exact wpAny_pyNext_range_end (I.ok.hd hc) st (by have:n<=i:=hg;omega) λh' eb=>⟨rfl,I.turned (t':=s.toks) (λb o hb e=>eb b o hb e) f0 f1 f3 f4 f5⟩
 self:=λ_ _ _ _ _ st h=>wpAny_pyIter_rangeiter st h
section
variable{X:Cx}{tg:Expr}
def zM(K:zdw)(tl:TE):TI:=λσ H R=>tl σ H λx H1=>∃a,x=.ref a/\(∃xs,SqL K H1 a xs)/\R (B0 K a) H1
def Dv(K:zdw)(tl:TE):TI:=λσ H R=>tl σ H λx H1=>∃a,x=.ref a/\(∃xs,SqT K H1 a xs)/\R (Cg K a) H1
theorem qL{l:Expr}{tl:TE}(hl:JE X l tl):JI X tg l (zM X.K tl):=.of (by
 have hl:=hl.to
 intro pins s σ H R I h
 refine jm (hl pins s σ H _ I h) λv s1 ⟨x,H1,I1,r1,q1⟩=>?_
 obtain⟨a,e,⟨xs,hq⟩,q⟩:=q1
 subst e
 cases r1
 obtain⟨its,rv,p,hz⟩:=I1.list hq
 refine wpAny_pyIter_list p.isList ?_
 refine⟨s1.heap.objs.size,[s1.heap.objs.size],_,_,H1,rfl,I1.kept (t':=s1.toks) λb o e=>tz _ e,yR a _,⟨_,zae _ rfl,rfl,rfl⟩,λb hb=>?_,q⟩
 have e:b=s1.heap.objs.size:=by simpa using hb
 subst e
 exact I1.fpOk (tu _) (I1.hok.fresh (tu _)))
theorem Vs{l:Expr}{tl:TE}(hl:JE X l tl):JI X tg l (Dv X.K tl):=.of (by
 have hl:=hl.to
 intro pins s σ H R I h
 refine jm (hl pins s σ H _ I h) λv s1 ⟨x,H1,I1,r1,q1⟩=>?_
 obtain⟨a,e,⟨xs,hq⟩,q⟩:=q1
 subst e
 cases r1
 obtain⟨its,rv,p,hz⟩:=I1.tuple hq
 refine wpAny_pyIter_tuple (show s1.heap.IsTuple a its.toArray from p) ?_
 refine⟨s1.heap.objs.size,[s1.heap.objs.size],_,_,H1,rfl,I1.kept (t':=s1.toks) λb o e=>tz _ e,U8 a _,⟨_,zae _ rfl,rfl,rfl⟩,λb hb=>?_,q⟩
 have e:b=s1.heap.objs.size:=by simpa using hb
 subst e
 exact I1.fpOk (tu _) (I1.hok.fresh (tu _)))
theorem uQ{pins:List (Addr×Obj)}{σ:St}{H:Hp}{s:Shared}{R:It->Hp->Prop}{E:Value->Shared->Prop}{lo hi:Int}{t u v:Tok}{tk:Nat}(I:qz X pins σ H s)(h1:-(2^62)<=lo)(h2:lo < 2^62)(h3:-(2^62)<=hi)(h4:hi < 2^62)
  (q:R (Af lo (hi - lo).toNat) H):wpAny (model X.prog X.w) X.A (pyIter (.ref s.heap.objs.size)) (PIE X pins σ tg R) E {s with heap:=s.heap.push {cls:=.type "range",data:=.fields #[.int lo t,.int hi u,.int 1 v]},toks:=tk}:=by
 refine wpAny_pyIter_range (IsRange.new ..) (small_one h1 h2 h3 h4) ?_
 have I1:qz X pins σ H {s with heap:=s.heap.push {cls:=.type "range",data:=.fields #[.int lo t,.int hi u,.int 1 v]},toks:=tk}:=I.kept λb o e=>tz _ e
 refine⟨(s.heap.push {cls:=.type "range",data:=.fields #[.int lo t,.int hi u,.int 1 v]}).objs.size,[(s.heap.push {cls:=.type "range",data:=.fields #[.int lo t,.int hi u,.int 1 v]}).objs.size],_,_,H,rfl,
  I1.kept (t':=tk) λb o e=>tz _ e,U9 _ lo (hi - lo).toNat,?_,λb hb=>?_,q⟩
 ·have e1:lo+((0:Nat):Int)*1=lo:=by simp
  have e2:(((hi - lo).toNat:Nat):Int) - ((0:Nat):Int)=Builtin.Range.rangeSize lo hi 1:=by rw[rangeSize_one];split<;>omega
  show IsRangeIter _ _ (lo+((0:Nat):Int)*1) ((((hi - lo).toNat:Nat):Int) - ((0:Nat):Int)) 1
  rw[e1,e2]
  exact zae _ rfl
 ·have e:b=(s.heap.push {cls:=.type "range",data:=.fields #[.int lo t,.int hi u,.int 1 v]}).objs.size:=by simpa using hb
  subst e
  exact I1.fpOk (tu _) (I1.hok.fresh (tu _))
def Dw(ta:TA):TI:=λσ H R=>ta σ H λvs H1=>∃j:Int,vs=[.int j]/\-(2^62)<=j/\j < 2^62/\R (Af 0 j.toNat) H1
theorem Ys{a:Expr}{ta:TA}{p pos:Pos}(hg:Gl X "range")(hm:X.mg "range"=none)(ha:JA X [a] ta)(hs:starEach [a] X.env=[(false,eval a X.env)]:=by rfl):JI X tg (.Call (.Name "range" p) [a] [] pos) (Dw ta):=.of (by
 have ha:=ha.to
 intro pins s σ H R I h
 refine Call_ (Yn I hg hm boot_range (PyProof.Rows.callWith_type1 (jm (ha pos pins s σ H _ I h) λus s1 ⟨vs,H1,I1,r1,q1⟩=>?_) hs rfl))
 obtain⟨j,e,q1,q2,q⟩:=q1
 subst e
 cases r1 with
 | cons r rr=>
  cases rr
  obtain⟨t,rfl⟩:=r
  exact call_range_1 (uQ I1 (by omega) (by omega) q1 q2 (by simpa using q)))
def zZ(wi:TI)(g:TG)(tb:TS):TS:=λD σ H=>wi σ H λJ H1=>∃W:Nat->Nat->St->Hp->Prop,(∃m,W 0 m σ H1)/\∀i m σ H,W i m σ H->
 (J.stop i H/\D.nx σ H)\/(J.go i H/\∃N:St->Hp->Prop,(∀σ' H',N σ' H'->∃m',m' < m/\W (i+1) m' σ' H')/\∀x H',J.yld i H x H'->g x σ H' λσ2 H2=>tb {D with nx:=N,ct:=N,bk:=D.nx} σ2 H2)
def Xz(fp:List Addr)(h:Heap):List (Addr×Obj):=fp.filterMap λb=>(h.get? b).map λo=>(b,o)
theorem JY{fp:List Addr}{h:Heap}{b:Addr}{o:Obj}(hb:b∈fp)(e:h.get? b=some o):(b,o)∈Xz fp h:=zaR.mpr ⟨b,hb,by rw[e];rfl⟩
theorem xy{fp:List Addr}{h:Heap}{p:Addr×Obj}(hp:p∈Xz fp h):p.1∈fp/\h.get? p.1=some p.2:=by
 obtain⟨b,hb,e⟩:=zaR.mp hp
 cases q:h.get? b with
 | none=>rw[q]at e;cases e
 | some o=>
  rw[q]at e
  have e':(b,o)=p:=tX.inj e
  subst e'
  exact⟨hb,q⟩
theorem qz.pinned{pins:List (Addr×Obj)}{σ:St}{H:Hp}{s:Shared}{fp:List Addr}(I:qz X pins σ H s)(hf:∀b∈fp,Z0 X pins H b)(ho:∀b∈fp,∃o,s.heap.get? b=some o/\∀v,o.data≠.cell v):qz X (pins++Xz fp s.heap) σ H s:=
 I.pins_of λp hp=>(zar.mp hp).elim (λz=>I.pin p (zan _ z)) λz=>by
  obtain⟨hb,e⟩:=xy z
  obtain⟨f0,f1,f2,_⟩:=hf p.1 hb
  obtain⟨o,e',d⟩:=ho p.1 hb
  rw[e]at e';cases e'
  exact⟨e,f0,f1,f2,d⟩
theorem qz.unpinned{pins pl:List (Addr×Obj)}{σ:St}{H:Hp}{s:Shared}(I:qz X (pins++pl) σ H s):qz X pins σ H s:=I.pins_of λp hp=>I.pin p (zan _ (zaK _ hp))
theorem jC{iter:Expr}{body:List Stmt}{wi:TI}{g:TG}{tb:TS}{pos:Pos}(hp:PassesOwn (model X.prog X.w) X.A X.env X.xe)(hc:X.calm=true)(hi:JI X tg iter wi)(hg:JG X tg g)(hb:VD X body tb)(hs:∀x,foldedSetIterable iter X.env x=pure x:=by intro _;rfl):JS X (.For tg iter body [] pos) (zZ wi g tb):=.of (by
 have hi:=hi.to
 have hg:=hg.to
 have hb:=hb.to
 intro pins s σ H D I h
 refine wpAny_For (jm (hi pins s σ H _ I h) λv s1 h1=>jm h1 λitv s2 h2=>?_) hs
 obtain⟨it,fp,tn,J,H2,e,I2,T,st2,f2,W,⟨m0,w0⟩,turn⟩:=h2
 subst e
 have stat:∀{H':Hp},(∀b∈fp,H' b=none)->∀b∈fp,Z0 X pins H' b:=λhn b hb=>⟨hn b hb,(f2 b hb).2⟩
 refine codeAny_forLoop_any (λn s'=>∃i σ' H',qz X pins σ' H' s'/\tn i s'.heap/\(∀b∈fp,H' b=none)/\W i n σ' H') ?_ m0 ⟨0,σ,H2,I2,st2,λb hb=>(f2 b hb).1,w0⟩
 rintro n s3 ⟨i,σ3,H3,I3,st3,fr3,w3⟩
 rcases turn i n σ3 H3 w3 with ⟨stop,qn⟩ | ⟨go,N,hN,step⟩
 ·refine wpAny_passesOwn hp (jm (T.done X rfl rfl rfl hc i pins s3 σ3 H3 X.xe I3 (stat fr3) st3 stop) λr s4 ⟨hr,I4⟩=>?_)
  subst hr
  exact wpAny_execs_nil ⟨σ3,H3,I4,qn⟩
 ·refine wpAny_passesOwn hp (jm (T.item X rfl rfl rfl hc i pins s3 σ3 H3 X.xe I3 (stat fr3) st3 go) λr s4 ⟨u,hr,h4⟩=>?_)
  subst hr
  refine wpAny_passesOwn hp (jm h4 λ_ s5 ⟨x,H5,I5,r5,y5,st5,fr5⟩=>?_)
  have I5':=I5.pinned (stat fr5) (T.obj _ _ st5)
  refine wpAny_passesOwn hp (jm (hg _ s5 σ3 H5 x u _ I5' r5 (step x H5 y5)) λ_ s6 ⟨σ6,H6,I6,q6⟩=>?_)
  refine wpAny_passesOwn hp (jm (hb _ s6 σ6 H6 _ I6 q6) λf s7 q7=>?_)
  have again:∀{σ7:St} {H7:Hp},qz X (pins++Xz fp s5.heap) σ7 H7 s7->N σ7 H7->∃m,m < n/\∃i σ' H',qz X pins σ' H' s7/\tn i s7.heap/\(∀b∈fp,H' b=none)/\W i m σ' H':=λ{σ7 H7} I7 n7=>by
   obtain⟨m',hm,w7⟩:=hN σ7 H7 n7
   refine⟨m',hm,i+1,σ7,H7,I7.unpinned,T.keep _ _ _ st5 λb hb o e=>(I7.pin (b,o) (zan _ (zan _ (JY hb e)))).1,λb hb=>?_,w7⟩
   obtain⟨o,e,d⟩:=T.obj _ _ st5 b hb
   exact(I7.pin (b,o) (zan _ (zan _ (JY hb e)))).2.1
  cases f with
  | next=>obtain⟨σ7,H7,I7,n7⟩:=q7;exact again I7 n7
  | cont=>obtain⟨σ7,H7,I7,n7⟩:=q7;exact again I7 n7
  | brk=>obtain⟨σ7,H7,I7,q7⟩:=q7;exact⟨σ7,H7,I7.unpinned,q7⟩
  | ret v=>obtain⟨x7,σ7,H7,I7,r7,q7⟩:=q7;exact⟨x7,σ7,H7,I7.unpinned,r7,q7⟩)
end
theorem jk{K:zdw}{a:Addr}{xs:List V}{g:TG}{tb:TS}{D:JN}{σ:St}{H:Hp}(Pv:Nat->St->Hp->Prop)(h0:Pv 0 σ H)(hl:∀i σ H,i<=xs.length->Pv i σ H->SqL K H a xs)
  (hs:∀i x σ H,xs[i]?=some x->Pv i σ H->g x σ H λσ2 H2=>tb {D with nx:=Pv (i+1),ct:=Pv (i+1),bk:=D.nx} σ2 H2) (hd:∀σ H,Pv xs.length σ H->D.nx σ H):
  ∃W:Nat->Nat->St->Hp->Prop,(∃m,W 0 m σ H)/\∀i m σ H,W i m σ H->
   ((B0 K a).stop i H/\D.nx σ H)\/((B0 K a).go i H/\∃N:St->Hp->Prop,(∀σ' H',N σ' H'->∃m',m' < m/\W (i+1) m' σ' H')/\∀x H',(B0 K a).yld i H x H'->g x σ H' λσ2 H2=>tb {D with nx:=N,ct:=N,bk:=D.nx} σ2 H2):=by
 refine⟨λi m σ H=>m=xs.length - i/\i<=xs.length/\Pv i σ H,⟨xs.length,by simp,zao _,h0⟩,?_⟩
 rintro i m σ H ⟨rfl,hi,p⟩
 have q:=hl i σ H hi p
 by_cases hlt:i < xs.length
 ·refine .inr ⟨⟨xs,xs[i],q,by simp [hlt]⟩,Pv (i+1),λσ' H' p'=>⟨xs.length - (i+1),by omega,rfl,hlt,p'⟩,λx H' y=>?_⟩
  obtain⟨e,y⟩:=y
  subst e
  exact hs i x σ _ (y xs q) p
 ·have e:i=xs.length:=by omega
  subst e
  exact .inl ⟨⟨xs,q,tu _⟩,hd σ H p⟩
theorem Vw{K:zdw}{a:Addr}{xs:List V}{g:TG}{tb:TS}{D:JN}{σ:St}{H:Hp}(Pv:Nat->St->Hp->Prop)(h0:Pv 0 σ H)(hl:∀i σ H,i<=xs.length->Pv i σ H->SqT K H a xs)
  (hs:∀i x σ H,xs[i]?=some x->Pv i σ H->g x σ H λσ2 H2=>tb {D with nx:=Pv (i+1),ct:=Pv (i+1),bk:=D.nx} σ2 H2) (hd:∀σ H,Pv xs.length σ H->D.nx σ H):
  ∃W:Nat->Nat->St->Hp->Prop,(∃m,W 0 m σ H)/\∀i m σ H,W i m σ H->
   ((Cg K a).stop i H/\D.nx σ H)\/((Cg K a).go i H/\∃N:St->Hp->Prop,(∀σ' H',N σ' H'->∃m',m' < m/\W (i+1) m' σ' H')/\∀x H',(Cg K a).yld i H x H'->g x σ H' λσ2 H2=>tb {D with nx:=N,ct:=N,bk:=D.nx} σ2 H2):=by
 refine⟨λi m σ H=>m=xs.length - i/\i<=xs.length/\Pv i σ H,⟨xs.length,by simp,zao _,h0⟩,?_⟩
 rintro i m σ H ⟨rfl,hi,p⟩
 have q:=hl i σ H hi p
 by_cases hlt:i < xs.length
 ·refine .inr ⟨⟨xs,xs[i],q,by simp [hlt]⟩,Pv (i+1),λσ' H' p'=>⟨xs.length - (i+1),by omega,rfl,hlt,p'⟩,λx H' y=>?_⟩
  obtain⟨e,y⟩:=y
  subst e
  exact hs i x σ _ (y xs q) p
 ·have e:i=xs.length:=by omega
  subst e
  exact .inl ⟨⟨xs,q,tu _⟩,hd σ H p⟩
theorem x6{lo:Int}{n:Nat}{g:TG}{tb:TS}{D:JN}{σ:St}{H:Hp}(Pv:Nat->St->Hp->Prop)(h0:Pv 0 σ H)
  (hs:∀i σ H,i < n->Pv i σ H->g (.int (lo+i)) σ H λσ2 H2=>tb {D with nx:=Pv (i+1),ct:=Pv (i+1),bk:=D.nx} σ2 H2) (hd:∀σ H,Pv n σ H->D.nx σ H):
  ∃W:Nat->Nat->St->Hp->Prop,(∃m,W 0 m σ H)/\∀i m σ H,W i m σ H->
   ((Af lo n).stop i H/\D.nx σ H)\/((Af lo n).go i H/\∃N:St->Hp->Prop,(∀σ' H',N σ' H'->∃m',m' < m/\W (i+1) m' σ' H')/\∀x H',(Af lo n).yld i H x H'->g x σ H' λσ2 H2=>tb {D with nx:=N,ct:=N,bk:=D.nx} σ2 H2):=by
 refine⟨λi m σ H=>m=n - i/\i<=n/\Pv i σ H,⟨n,by simp,zao _,h0⟩,?_⟩
 rintro i m σ H ⟨rfl,hi,p⟩
 by_cases hlt:i < n
 ·refine .inr ⟨hlt,Pv (i+1),λσ' H' p'=>⟨n - (i+1),by omega,rfl,hlt,p'⟩,λx H' y=>?_⟩
  obtain⟨e,y⟩:=y
  subst e y
  exact hs i σ _ hlt p
 ·have e:i=n:=by omega
  subst e
  exact .inl ⟨tu _,hd σ H p⟩
theorem Xg{c:TT}{tb:TS}{D:JN}{σ:St}{H:Hp}(Pv:St->Hp->Prop)(μ:St->Hp->Nat)(h0:Pv σ H)
  (hs:∀σ H,Pv σ H->c σ H λb H1=>if b=true then tb {D with nx:=λσ' H'=>Pv σ' H'/\μ σ' H' < μ σ H,ct:=λσ' H'=>Pv σ' H'/\μ σ' H' < μ σ H,bk:=D.nx} σ H1 else D.nx σ H1)
  (mono:∀σ H Q Q',(∀b H1,Q b H1->Q' b H1)->c σ H Q->c σ H Q'):wI c tb D σ H:=by
 refine⟨λm σ H=>m=μ σ H/\Pv σ H,⟨_,rfl,h0⟩,?_⟩
 rintro m σ H ⟨rfl,p⟩
 refine mono σ H _ _ (λb H1 q=>?_) (hs σ H p)
 cases b with
 | true=>exact⟨_,λσ' H' ⟨p',l⟩=>⟨_,l,rfl,p'⟩,q⟩
 | false=>exact q
abbrev R2:=V->V->Hp->VK->Prop
def ZZ(X:Cx)(f:Value->Value->Sem Value)(r:R2):Prop:=
 ∀(pins:List (Addr×Obj)) (s:Shared) (σ:St) (H:Hp) (x y:V) (v u:Value) (Q:VK),qz X pins σ H s->qY x v->qY y u->r x y H Q->
  wpAny (model X.prog X.w) X.A (f v u) (EP X pins σ Q) X.xe s
def Fc(X:Cx)(f:Value->Sem Value)(r:V->Hp->VK->Prop):Prop:=
 ∀(pins:List (Addr×Obj)) (s:Shared) (σ:St) (H:Hp) (x:V) (v:Value) (Q:VK),qz X pins σ H s->qY x v->r x H Q->
  wpAny (model X.prog X.w) X.A (f v) (EP X pins σ Q) X.xe s
def Ji(X:Cx)(f:Value)(r:List V->Hp->VK->Prop):Prop:=
 ∀(pins:List (Addr×Obj)) (s:Shared) (σ:St) (H:Hp) (xs:List V) (us:List Value) (Q:VK),qz X pins σ H s->qR xs us->r xs H Q->
  wpAny (model X.prog X.w) X.A (call f us) (EP X pins σ Q) X.xe s
def Xi(r:R2)(ta tb:TE):TE:=λσ H Q=>ta σ H λx H1=>tb σ H1 λy H2=>r x y H2 Q
def tUn(r:V->Hp->VK->Prop)(ta:TE):TE:=λσ H Q=>ta σ H λx H1=>r x H1 Q
def rI(C:Int->Int->Prop)(g:Int->Int->V):R2:=λx y H Q=>∃i j,x=.int i/\y=.int j/\C i j/\Q (g i j) H
def uT(g:Int->Int->V):R2:=λx y H Q=>∃i j,x=.int i/\y=.int j/\Q (g i j) H
def rU(g:Int->V):V->Hp->VK->Prop:=λx H Q=>∃i,x=.int i/\Q (g i) H
section
variable{X:Cx}{a b c:Expr}{ta tb tc:TE}{pos:Pos}
theorem BR(ha:PE X a ta)(hb:PE X b tb){pins:List (Addr×Obj)}{s:Shared}{σ:St}{H:Hp}{R:V->V->Hp->Prop}(I:qz X pins σ H s)
  (h:ta σ H λx H1=>tb σ H1 λy H2=>R x y H2) {Q:Value->Shared->Prop} {f:Value->Value->Sem Value}
  (hf:∀v u s2 x y H2,qz X pins σ H2 s2->qY x v->qY y u->R x y H2->wpAny (model X.prog X.w) X.A (f v u) Q X.xe s2):
  wpAny (model X.prog X.w) X.A (eval a X.env) (λv s₁=>wpAny (model X.prog X.w) X.A (eval b X.env) (λu s₂=>wpAny (model X.prog X.w) X.A (f v u) Q X.xe s₂) X.xe s₁) X.xe s:=by
 refine jm (ha pins s σ H _ I h) λv s1 ⟨x,H1,I1,r1,q1⟩=>?_
 refine jm (hb pins s1 σ H1 _ I1 q1) λu s2 ⟨y,H2,I2,r2,q2⟩=>?_
 exact hf v u s2 x y H2 I2 r1 r2 q2
theorem qV{op:Operator}{r:R2}(ho:ZZ X (binaryOp op) r)(ha:JE X a ta)(hb:JE X b tb):JE X (.BinOp a op b pos) (Xi r ta tb):=.of (by
 have ha:=ha.to
 have hb:=hb.to
 intro pins s σ H Q I h
 exact wpAny_BinOp (BR ha hb I h λv u s2 x y H2 I2 rx ry q=>ho pins s2 σ H2 x y v u Q I2 rx ry q))
theorem KM{op:UnaryOp}{r:V->Hp->VK->Prop}(ho:Fc X (unaryOp op) r)(ha:JE X a ta):JE X (.UnaryOp op a pos) (tUn r ta):=.of (by
 have ha:=ha.to
 intro pins s σ H Q I h
 exact UnaryOp_ (jm (ha pins s σ H _ I h) λv s1 ⟨x,H1,I1,r1,q1⟩=>ho pins s1 σ H1 x v Q I1 r1 q1))
theorem AW{f:Value->Value->Sem Value}{C:Int->Int->Prop}{g:Int->Int->Int}
  (rule:∀(i j:Int) (t u:Tok) (s:Shared) (Q:Value->Shared->Prop) (E:Value->Shared->Prop),C i j->Q (.int (g i j) s.toks) {s with toks:=s.toks+1}->wpAny (model X.prog X.w) X.A (f (.int i t) (.int j u)) Q E s):
  ZZ X f (rI C λi j=>.int (g i j)):=by
 intro pins s σ H x y v u Q I rx ry h
 obtain⟨i,j,rfl,rfl,hc,q⟩:=h
 obtain⟨t,rfl⟩:=rx
 obtain⟨t',rfl⟩:=ry
 exact rule i j t t' s _ _ hc ⟨.int (g i j),H,I.tok _,⟨_,rfl⟩,q⟩
theorem u7{f:Value->Value->Sem Value}{g:Int->Int->Int}
  (rule:∀(i j:Int) (t u:Tok) (s:Shared) (Q:Value->Shared->Prop) (E:Value->Shared->Prop),Q (.int (g i j) s.toks) {s with toks:=s.toks+1}->wpAny (model X.prog X.w) X.A (f (.int i t) (.int j u)) Q E s):
  ZZ X f (uT λi j=>.int (g i j)):=by
 intro pins s σ H x y v u Q I rx ry h
 obtain⟨i,j,rfl,rfl,q⟩:=h
 obtain⟨t,rfl⟩:=rx
 obtain⟨t',rfl⟩:=ry
 exact rule i j t t' s _ _ ⟨.int (g i j),H,I.tok _,⟨_,rfl⟩,q⟩
theorem Nj{f:Value->Value->Sem Value}{g:Int->Int->Bool}
  (rule:∀(i j:Int) (t u:Tok) (s:Shared) (Q:Value->Shared->Prop) (E:Value->Shared->Prop),Q (.bool (g i j)) s->wpAny (model X.prog X.w) X.A (f (.int i t) (.int j u)) Q E s):
  ZZ X f (uT λi j=>.bl (g i j)):=by
 intro pins s σ H x y v u Q I rx ry h
 obtain⟨i,j,rfl,rfl,q⟩:=h
 obtain⟨t,rfl⟩:=rx
 obtain⟨t',rfl⟩:=ry
 exact rule i j t t' s _ _ ⟨.bl (g i j),H,I,rfl,q⟩
def Fw(i j:Int):Prop:=0 < j/\j < 1073741824
def DS(i j:Int):Prop:=0<=j/\j<=1000000/\i.natAbs < 2^64
def B4(i j:Int):Prop:=(-(2^64) < i/\i < 2^64)\/(-(2^64) < j/\j < 2^64)
theorem B4.ok{i j:Int}(h:B4 i j):IntMulOk i j:=by
 rcases h with ⟨h1,h2⟩ | ⟨h1,h2⟩
 ·exact .of_left (intBits_le_64 h1 h2)
 ·exact .of_right (intBits_le_64 h1 h2)
theorem U7(k:Nat):(0:Int)<=2^k:=by
 rw[two_pow_cast]
 exact zcw _
theorem XB:ZZ X (binaryOp .Add) (uT λi j=>.int (i+j)):=u7 λ_ _ _ _ _ _ _ q=>add_int q
theorem AO:ZZ X (binaryOp .Sub) (uT λi j=>.int (i - j)):=u7 λ_ _ _ _ _ _ _ q=>sub_int q
theorem Yi:ZZ X (binaryOp .Mult) (rI B4 λi j=>.int (i*j)):=AW λ_ _ _ _ _ _ _ hc q=>mul_int q hc.ok
theorem Ni:ZZ X (binaryOp .FloorDiv) (rI Fw λi j=>.int (i / j)):=AW λi j _ _ _ _ _ hc q=>by
 have h1:(0:Int) < j:=hc.1
 have h2:j < 1073741824:=hc.2
 exact floordiv_int (by omega) (by rw[zbG i (by omega)];exact q) (.inl (PyProof.noPylong_small (by omega)))
theorem Yj:ZZ X (binaryOp .Mod) (rI (λ_ j=>0 < j) λi j=>.int (i % j)):=AW λi j _ _ _ _ _ hc q=>by
 have h1:(0:Int) < j:=hc
 exact mod_int' (by omega) (by rw[Int.fmod_eq_emod_of_nonneg i (by omega)];exact q)
theorem AS:ZZ X (binaryOp .Pow) (rI DS λi j=>.int (i^j.toNat)):=AW λ_ _ _ _ _ _ _ hc q=>pow_int_small hc.1 hc.2.1 hc.2.2 q
theorem AR:ZZ X (binaryOp .LShift) (rI DS λi j=>.int (i*2^j.toNat)):=AW λ_ _ _ _ _ _ _ hc q=>lshift_int_small hc.1 hc.2.1 hc.2.2 q
theorem AQ:ZZ X (binaryOp .RShift) (rI (λ_ j=>0<=j) λi j=>.int (i / 2^j.toNat)):=AW λi j _ _ _ _ _ hc q=>
 rshift_int hc (by rw[zbG i (U7 _)];exact q)
theorem AV:ZZ X (binaryOp .BitAnd) (uT λi j=>.int (Builtin.bitAnd i j)):=u7 λ_ _ _ _ _ _ _ q=>and_int q
theorem Dd:ZZ X (binaryOp .BitOr) (uT λi j=>.int (Builtin.bitOr i j)):=u7 λ_ _ _ _ _ _ _ q=>or_int q
theorem uZ:ZZ X (binaryOp .BitXor) (uT λi j=>.int (Builtin.bitXor i j)):=u7 λ_ _ _ _ _ _ _ q=>xor_int q
theorem unI{f:Value->Sem Value}{g:Int->Int}
  (rule:∀(i:Int) (t:Tok) (s:Shared) (Q:Value->Shared->Prop) (E:Value->Shared->Prop),Q (.int (g i) s.toks) {s with toks:=s.toks+1}->wpAny (model X.prog X.w) X.A (f (.int i t)) Q E s):
  Fc X f (rU λi=>.int (g i)):=by
 intro pins s σ H x v Q I rx h
 obtain⟨i,rfl,q⟩:=h
 obtain⟨t,rfl⟩:=rx
 exact rule i t s _ _ ⟨.int (g i),H,I.tok _,⟨_,rfl⟩,q⟩
theorem U6:Fc X (unaryOp .USub) (rU λi=>.int (-i)):=unI λ_ _ _ _ _ q=>neg_int q
end
def CF:V->V->Bool
 | .non,.non=>true | .non,.int _=>true | .int _,.non=>true | .non,.bl _=>true | .bl _,.non=>true | .non,.str _=>true | .str _,.non=>true
 | .int _,.int _=>true | .bl _,.bl _=>true | .str _,.str _=>true | .byt _,.byt _=>true
 | .int _,.str _=>true | .str _,.int _=>true | .bl _,.str _=>true | .str _,.bl _=>true
 | _,_=>false
def rEq:R2:=λx y H Q=>CF x y=true/\Q (.bl (decide (x=y))) H
def rNe:R2:=λx y H Q=>CF x y=true/\Q (.bl (!decide (x=y))) H
theorem yy{i j:Int}:decide (V.int i=V.int j)=(i==j):=by
 rw[zaW]
 simp
theorem Gv{i j:Bool}:decide (V.bl i=V.bl j)=(i==j):=by
 rw[zaW]
 simp
theorem yx{i j:Str}:decide (V.str i=V.str j)=(i==j):=by
 rw[zaW]
 simp
theorem yA{i j:Array UInt8}:decide (V.byt i=V.byt j)=(i.toList==j.toList):=by
 rw[zaW]
 cases i
 cases j
 simp
section
variable{X:Cx}{a b c:Expr}{ta tb tc:TE}{pos:Pos}
theorem je{pins:List (Addr×Obj)}{σ:St}{H:Hp}{s:Shared}{Q:VK}{k k':Bool}(I:qz X pins σ H s)(q:Q (.bl k) H)(e:k=k'):EP X pins σ Q (.bool k') s:=by
 subst e
 exact⟨.bl k,H,I,rfl,q⟩
theorem jY:ZZ X (compareOp .Eq) rEq:=by
 intro pins s σ H x y v u Q I rx ry h
 obtain⟨hs,q⟩:=h
 cases x with
 | non=>
  cases rx
  cases y with
  | non=>cases ry;exact PySem.EqNone.eq_none_none (je I q (by simp))
  | bl j=>cases ry;exact PySem.EqNone.eq_none_bool (je I q (by simp))
  | int j=>obtain⟨t',rfl⟩:=ry;exact PySem.EqNone.eq_none_int (je I q (by simp))
  | str j=>obtain⟨t',rfl⟩:=ry;exact PySem.EqNone.eq_none_str (je I q (by simp))
  | _=>exact absurd (show false=true from hs) tS
 | bl i=>
  cases rx
  cases y with
  | non=>cases ry;exact PySem.EqNone.eq_bool_none (je I q (by simp))
  | bl j=>cases ry;exact eq_bool (je I q Gv)
  | str j=>obtain⟨t',rfl⟩:=ry;exact PySem.EqMixed.eq_bool_str (je I q (by simp))
  | _=>exact absurd (show false=true from hs) tS
 | int i=>
  obtain⟨t,rfl⟩:=rx
  cases y with
  | non=>cases ry;exact PySem.EqNone.eq_int_none (je I q (by simp))
  | int j=>obtain⟨t',rfl⟩:=ry;exact eq_int (je I q yy)
  | str j=>obtain⟨t',rfl⟩:=ry;exact PySem.EqMixed.eq_int_str (je I q (by simp))
  | _=>exact absurd (show false=true from hs) tS
 | str i=>
  obtain⟨t,rfl⟩:=rx
  cases y with
  | non=>cases ry;exact PySem.EqNone.eq_str_none (je I q (by simp))
  | bl j=>cases ry;exact PySem.EqMixed.eq_str_bool (je I q (by simp))
  | int j=>obtain⟨t',rfl⟩:=ry;exact PySem.EqMixed.eq_str_int (je I q (by simp))
  | str j=>obtain⟨t',rfl⟩:=ry;exact eq_str (je I q yx)
  | _=>exact absurd (show false=true from hs) tS
 | byt i=>
  obtain⟨t,rfl⟩:=rx
  cases y with
  | byt j=>obtain⟨t',rfl⟩:=ry;exact PySem.W.eq_bytes (je I q yA)
  | _=>exact absurd (show false=true from hs) tS
 | _=>cases y<;>exact absurd (show false=true from hs) tS
theorem Wx:ZZ X (compareOp .NotEq) rNe:=by
 intro pins s σ H x y v u Q I rx ry h
 obtain⟨hs,q⟩:=h
 cases x with
 | non=>
  cases rx
  cases y with
  | non=>cases ry;exact PySem.EqNone.ne_none_none (je I q (by simp))
  | bl j=>cases ry;exact PySem.EqNone.ne_none_bool (je I q (by simp))
  | int j=>obtain⟨t',rfl⟩:=ry;exact PySem.EqNone.ne_none_int (je I q (by simp))
  | str j=>obtain⟨t',rfl⟩:=ry;exact PySem.EqNone.ne_none_str (je I q (by simp))
  | _=>exact absurd (show false=true from hs) tS
 | bl i=>
  cases rx
  cases y with
  | non=>cases ry;exact PySem.EqNone.ne_bool_none (je I q (by simp))
  | bl j=>cases ry;exact ne_bool (je I q (congrArg not Gv))
  | str j=>obtain⟨t',rfl⟩:=ry;exact PySem.EqMixed.ne_bool_str (je I q (by simp))
  | _=>exact absurd (show false=true from hs) tS
 | int i=>
  obtain⟨t,rfl⟩:=rx
  cases y with
  | non=>cases ry;exact PySem.EqNone.ne_int_none (je I q (by simp))
  | int j=>obtain⟨t',rfl⟩:=ry;exact ne_int (je I q (congrArg not yy))
  | str j=>obtain⟨t',rfl⟩:=ry;exact PySem.EqMixed.ne_int_str (je I q (by simp))
  | _=>exact absurd (show false=true from hs) tS
 | str i=>
  obtain⟨t,rfl⟩:=rx
  cases y with
  | non=>cases ry;exact PySem.EqNone.ne_str_none (je I q (by simp))
  | bl j=>cases ry;exact PySem.EqMixed.ne_str_bool (je I q (by simp))
  | int j=>obtain⟨t',rfl⟩:=ry;exact PySem.EqMixed.ne_str_int (je I q (by simp))
  | str j=>obtain⟨t',rfl⟩:=ry;exact ne_str (je I q (congrArg not yx))
  | _=>exact absurd (show false=true from hs) tS
 | byt i=>
  obtain⟨t,rfl⟩:=rx
  cases y with
  | byt j=>obtain⟨t',rfl⟩:=ry;exact PySem.W.ne_bytes (je I q (congrArg not yA))
  | _=>exact absurd (show false=true from hs) tS
 | _=>cases y<;>exact absurd (show false=true from hs) tS
theorem u3:ZZ X (compareOp .Lt) (uT λi j=>.bl (decide (i < j))):=Nj λ_ _ _ _ _ _ _ q=>lt_int q
theorem ya:ZZ X (compareOp .LtE) (uT λi j=>.bl (decide (i<=j))):=Nj λ_ _ _ _ _ _ _ q=>le_int q
theorem Zy:ZZ X (compareOp .Gt) (uT λi j=>.bl (decide (j < i))):=Nj λ_ _ _ _ _ _ _ q=>gt_int q
theorem u4:ZZ X (compareOp .GtE) (uT λi j=>.bl (decide (j<=i))):=Nj λ_ _ _ _ _ _ _ q=>ge_int q
theorem Yk:ZZ X (compareOp .In) (λx y H Q=>∃i j,x=.str i/\y=.str j/\Q (.bl (!(Builtin.Str.occurrences j i 0 j.length 1).isEmpty)) H):=by
 intro pins s σ H x y v u Q I rx ry h
 obtain⟨i,j,rfl,rfl,q⟩:=h
 obtain⟨t,rfl⟩:=rx
 obtain⟨t',rfl⟩:=ry
 exact in_str (je I q rfl)
theorem qC(b:Expr){op:CmpOp}(h:op≠.In:=by decide)(h2:op≠.NotIn:=by decide):behindInMarks op b=false:=by
 have e1:(op==CmpOp.In)=false:=by cases op<;>first | rfl | exact absurd rfl h
 have e2:(op==CmpOp.NotIn)=false:=by cases op<;>first | rfl | exact absurd rfl h2
 cases b<;>simp [behindInMarks,e1,e2]
theorem jE{op:CmpOp}{r:R2}(ho:ZZ X (compareOp op) r)(ha:JE X a ta)(hb:JE X b tb)(hm:behindInMarks op b=false):JE X (.Compare a [op] [b] pos) (Xi r ta tb):=.of (by
 have ha:=ha.to
 have hb:=hb.to
 intro pins s σ H Q I h
 exact wpAny_Compare1 (BR ha hb I h λv u s2 x y H2 I2 rx ry q=>ho pins s2 σ H2 x y v u Q I2 rx ry q) hm)
def kt(t:TE):TT:=λσ H Q=>t σ H λx H'=>∃k,x=.bl k/\Q k H'
theorem qA{op:CmpOp}{r:R2}(ho:ZZ X (compareOp op) r)(ha:JE X a ta)(hb:JE X b tb)(hm:behindInMarks op b=false):JT X (.Compare a [op] [b] pos) (kt (Xi r ta tb)):=.of (by
 have ha:=ha.to
 have hb:=hb.to
 intro pins s σ H Q I h
 refine wpAny_isTrue_Compare1 (jm (ha pins s σ H _ I h) λv s1 ⟨x,H1,I1,r1,q1⟩=>jm (hb pins s1 σ H1 _ I1 q1) λu s2 ⟨y,H2,I2,r2,q2⟩=>
  jm (ho pins s2 σ H2 x y v u _ I2 r1 r2 q2) λc s3 ⟨z,H3,I3,r3,k,e,q3⟩=>?_) hm
 subst e
 cases r3
 exact wpAny_truthy_bool ⟨H3,I3,q3⟩)
theorem Vp:(zdB:Nat) < 2^63:=by rw[sizeLine_eq];decide
theorem jx:ZZ X (binaryOp .Add) (λx y H Q=>∃i j,x=.str i/\y=.str j/\i.length+j.length<=zdB/\Q (.str (i++j)) H):=by
 intro pins s σ H x y v u Q I rx ry h
 obtain⟨i,j,rfl,rfl,hz,q⟩:=h
 obtain⟨t,rfl⟩:=rx
 obtain⟨t',rfl⟩:=ry
 exact add_str (λt' tk=>⟨.str (i++j),H,I.tok _,⟨_,rfl⟩,q⟩) hz
theorem Zn{x:V}{us:List Value}(r:qR [x] us):∃u,us=[u]/\qY x u:=by
 cases r with
 | cons r1 r2=>cases r2;exact⟨_,rfl,r1⟩
theorem VO{x y:V}{us:List Value}(r:qR [x,y] us):∃u w',us=[u,w']/\qY x u/\qY y w':=by
 cases r with
 | cons r1 r2=>
  cases r2 with
  | cons r3 r4=>cases r4;exact⟨_,_,rfl,r1,r3⟩
theorem WP(hc:X.calm=true):Ji X (.builtin "max") (λxs H Q=>∃i j,xs=[.int i,.int j]/\Q (.int (if j > i then j else i)) H):=by
 intro pins s σ H xs us Q I r h
 obtain⟨i,j,rfl,q⟩:=h
 obtain⟨u,w',rfl,⟨t,rfl⟩,⟨t',rfl⟩⟩:=VO r
 refine max_two_ints (I.ok.hd hc) λh' tk k=>⟨_,H,I.kept k,?_,q⟩
 by_cases hj:j > i
 ·rw[if_pos hj,if_pos hj];exact⟨_,rfl⟩
 ·rw[if_neg hj,if_neg hj];exact⟨_,rfl⟩
theorem wm(hc:X.calm=true):Ji X (.builtin "min") (λxs H Q=>∃i j,xs=[.int i,.int j]/\Q (.int (if j < i then j else i)) H):=by
 intro pins s σ H xs us Q I r h
 obtain⟨i,j,rfl,q⟩:=h
 obtain⟨u,w',rfl,⟨t,rfl⟩,⟨t',rfl⟩⟩:=VO r
 refine min_two_ints (I.ok.hd hc) λh' tk k=>⟨_,H,I.kept k,?_,q⟩
 by_cases hj:j < i
 ·rw[if_pos hj,if_pos hj];exact⟨_,rfl⟩
 ·rw[if_neg hj,if_neg hj];exact⟨_,rfl⟩
theorem wn:Ji X (.type "int") (λxs H Q=>(∃i,xs=[.int i]/\Q (.int i) H)\/∃k,xs=[.bl k]/\Q (.int (if k then 1 else 0)) H):=by
 intro pins s σ H xs us Q I r h
 rcases h with ⟨i,rfl,q⟩ | ⟨k,rfl,q⟩
 ·obtain⟨u,rfl,t,rfl⟩:=Zn r
  exact call_int_int ⟨.int i,H,I,⟨_,rfl⟩,q⟩
 ·obtain⟨u,rfl,r1⟩:=Zn r
  cases r1
  exact call_int_bool ⟨.int (if k then 1 else 0),H,I.tok _,⟨_,rfl⟩,q⟩
end
structure ka(h:Heap)(x dx C:Addr)(mA:Str->Option Value):Prop where
 obj:h.get? x=some (zbj C dx)
 ns:h.Ns1 dx mA
 ne:dx≠x
theorem ZV{h:Heap}{dx:Addr}{mA:Str->Option Value}(n:h.Ns1 dx mA):∃od,h.get? dx=some od/\∀name,zcx name od=some (mA name):=by
 obtain⟨o,es,ep,ho,hd,hk,_,hm⟩:=n
 refine⟨o,ho,λname=>?_⟩
 have e:=hm name
 unfold nsFind findBy at e
 rw[<-Array.find?_toList]at e
 unfold zcx
 rw[hd]
 dsimp only
 split
 ·rename_i y q
  rw[q]at e
  exact congrArg some e
 ·rename_i q
  rw[q]at e
  have a:es.toList.any (·.refKey)=false:=by
   rw[List.any_eq_false]
   intro y hy
   obtain⟨z,t,hkey⟩:=hk y (Array.mem_toList_iff.mp hy)
   simp [DictEntry.refKey,hkey]
  have a':¬es.toList.any (·.refKey)=true:=by rw[a];exact tS
  rw[if_neg a']
  exact congrArg some e
theorem ka.look{h:Heap}{x dx C:Addr}{mA:Str->Option Value}(I:ka h x dx C mA):∃od,PySem.W.InstAt h x (zbj C dx) C (some od)/\∀name,zcx name od=some (mA name):=
 let ⟨od,ho,hl⟩:=ZV I.ns
 ⟨od,⟨I.obj,rfl,rfl,ho⟩,hl⟩
section
variable{prog:Program}{w:World}{A:Around}{E:Value->Shared->Prop}{s:Shared}{K:zdw}{x dx C f:Addr}{mA:Str->Option Value}{name:Str}{v:Value}
theorem N0{expr:Bool}{Q:Value->Shared->Prop}(X:K.In s.heap)(I:ka s.heap x dx C mA)(hg:zba K C name=true)(hh:zaU K C=true)
  (ha:t8 K (.ref C) name=some none) (hv:mA name=some v) (hv':zds v=true) (h:Q v {s with toks:=s.toks+1}):
  wpAny (model prog w) A (getAttr (.ref x) name expr) Q E s:=by
 obtain⟨od,J,hl⟩:=I.look
 exact PySem.W.get_value X J (zco hg).1 (PySem.W.findObj_own hh ha rfl (by rw[hl,hv])) hv' h
theorem Gb{pl:Sem Bool}{Q:Value×List Value->Shared->Prop}(X:K.In s.heap)(I:ka s.heap x dx C mA)(hg:zba K C name=true)
  (hf:t8 K (.ref C) name=some (some (.ref f))) (ht:zbc K (.ref f)=true) (hv:mA name=none) (h:Q (.ref f,[.ref x]) s):
  wpAny (model prog w) A (getMethod (.ref x) name pl) Q E s:=by
 obtain⟨od,J,hl⟩:=I.look
 exact PySem.W.method_fn X J (zco hg).1 (zco hg).2 hf (beq_iff_eq.mp ht) (by show (zcx name od).map (·.isSome)=some false;rw[hl,hv];rfl) h
theorem RB{ns:List Str}{Q:Unit->Shared->Prop}(X:K.In s.heap)(I:ka s.heap x dx C mA)
  (hs:t8 K (.ref C) "__setattr__"=some (some (.builtin "object.__setattr__"))) (hp:zbr K C=true) (ht:zcX K C name=some none) (hh:zaU K C=true)
  (hw:PySem.Within mA ns) (hsz:ns.length<=zdB)
  (h:∀h',ka h' x dx C (λy=>if y=name then some v else mA y)->Heap.SameBut dx s.heap h'->Q () {s with heap:=h',toks:=s.toks+2}):
  wpAny (model prog w) A (setAttr (.ref x) name v) Q E s:=by
 obtain⟨od,J,hl⟩:=I.look
 refine PySem.W.set_plain X J hs (PySem.W.osa_open (s:={s with toks:=s.toks+1}) (r:=none) X J hp ht λb=>?_)
 obtain⟨cd,hc,hd'⟩:=PySem.W.any_some hh
 have hx:s.heap.get? x=some ⟨.ref C,some dx,.plain,#[]⟩:=I.obj
 refine zdy (zdz (zdy (zdy (wpAny_loadPart hx (zdy (PySem.W.Looks.here (s:={s with toks:=s.toks+1}) (PySem.W.looks_clsIn X hc) ?_))))))
 rw[hd']
 refine zdz (a:=some dx) (zdy (zdz (zdy ?_)))
 refine wpAny_nsSet1 (s:={s with toks:=s.toks+1}) I.ns λh' hn2 hs2=>?_
 obtain⟨oD,esD,epD,hoD,hdD,hcD⟩:=hn2.count (PySem.Within.cons name v hw)
 refine zdy (wpAny_lookBehind hoD (by rw[hdD];exact pastItsLine_dict (tM hcD (by rw[tP];omega))) ?_)
 exact zdz (h _ ⟨(hs2.2 _ (Ne.symm I.ne)).trans I.obj,hn2,I.ne⟩ hs2)
theorem Kx{R:Result->Shared->Prop}{vs:List Value}{kw:List (Str×Value)}(X:K.In s.heap)(hm:zbA K C=true)
  (hi:t8 K (.ref C) "__init__"=some (some (.ref f))) (hf:zdu K (.ref f)=some (.type "function"))
  (h:codeAny (model prog w) (A.under (.builtin "type.__call__" ⟨.ref C::vs,kw⟩)) (.call (.ref f) ⟨.ref (s.heap.objs.size+1)::vs,kw⟩) (PySem.W.InitBack (s.heap.objs.size+1) R)
   {s with heap:=(s.heap.push zaI).push (zbj C s.heap.objs.size)}):
  codeAny (model prog w) A (.call (.ref C) ⟨vs,kw⟩) R s:=by
 obtain⟨hh,g,d,t,os⟩:=s
 exact PySem.W.make_core (PySem.W.makes_of X hm) (zda X hi) (λself=>PySem.W.bind_fn X self hf) (.inl rfl) h
end
def Jj(f:Str)(v:V):List (Str×V)->List (Str×V)
 | []=>[(f,v)]
 | (g,x)::r=>if g=f then (g,v)::r else (g,x)::Jj f v r
theorem YE(f g:Str)(v:V):∀fs:List (Str×V),(Jj f v fs).lookup g=if g=f then some v else fs.lookup g
 | []=>by
  show zaA g [(f,v)]=_
  by_cases h:g=f
  ·have hb:(g==f)=true:=beq_iff_eq.mpr h
   simp only[zaA,hb,if_pos h]
  ·have hb:(g==f)=false:=beq_eq_false_iff_ne.mpr h
   simp only[zaA,hb,if_neg h]
 | (k,x)::r=>by
  have ih:=YE f g v r
  rw[show Jj f v ((k,x)::r)=(if k=f then (k,v)::r else (k,x)::Jj f v r) from rfl]
  by_cases hk:k=f
  ·rw[if_pos hk]
   by_cases h:g=k
   ·have hb:(g==k)=true:=beq_iff_eq.mpr h
    simp only[zaA,hb,if_pos (h.trans hk)]
   ·have hb:(g==k)=false:=beq_eq_false_iff_ne.mpr h
    simp only[zaA,hb,if_neg (λe:g=f=>h (e.trans hk.symm))]
  ·rw[if_neg hk]
   by_cases h:g=k
   ·have hb:(g==k)=true:=beq_iff_eq.mpr h
    simp only[zaA,hb,if_neg (λe:g=f=>hk (h.symm.trans e))]
   ·have hb:(g==k)=false:=beq_eq_false_iff_ne.mpr h
    simp only[zaA,hb]
    exact ih
theorem Yp(f:Str)(v:V):∀fs:List (Str×V),f∈(Jj f v fs).map (·.1)/\∀g,g∈fs.map (·.1)->g∈(Jj f v fs).map (·.1)
 | []=>⟨by simp [Jj],λg h=>by simp at h⟩
 | (k,x)::r=>by
  obtain⟨i1,i2⟩:=Yp f v r
  rw[show Jj f v ((k,x)::r)=(if k=f then (k,v)::r else (k,x)::Jj f v r) from rfl]
  by_cases hk:k=f
  ·rw[if_pos hk]
   subst hk
   exact⟨by simp,λg h=>by simpa using h⟩
  ·rw[if_neg hk]
   refine⟨?_,λg h=>?_⟩
   ·rw[tL]
    exact tF _ i1
   ·rw[tL]at h ⊢
    rcases tJ.mp h with e | e
    ·exact tJ.mpr (.inl e)
    ·exact tF _ (i2 g e)
theorem YG(f:Str)(v:V):∀fs:List (Str×V),(Jj f v fs).length<=fs.length+1
 | []=>by simp [Jj]
 | (k,x)::r=>by
  have ih:=YG f v r
  rw[show Jj f v ((k,x)::r)=(if k=f then (k,v)::r else (k,x)::Jj f v r) from rfl]
  by_cases hk:k=f
  ·rw[if_pos hk,tP,tP];omega
  ·rw[if_neg hk,tP,tP];omega
theorem JM.some_of{v:V}{o:Option Value}(r:JM (some v) o):∃u,o=some u/\qY v u:=by
 cases o with
 | none=>exact(show False from r).elim
 | some u=>exact⟨u,rfl,r⟩
theorem JM.none_of{o:Option Value}(r:JM none o):o=none:=by
 cases o with
 | none=>rfl
 | some u=>exact(show False from r).elim
theorem WL{v:V}{u:Value}(r:qY v u):zds u=true:=by
 cases v with
 | non=>cases (show u=Value.none from r);rfl
 | bl b=>cases (show u=Value.bool b from r);rfl
 | int i=>obtain⟨t,e⟩:=(show ∃t,u=Value.int i t from r);cases e;rfl
 | str x=>obtain⟨t,e⟩:=(show ∃t,u=Value.str x t from r);cases e;rfl
 | byt b=>obtain⟨t,e⟩:=(show ∃t,u=Value.bytes b t from r);cases e;rfl
 | flt b=>obtain⟨t,e⟩:=(show ∃t,u=Value.float b t from r);cases e;rfl
 | ref a=>cases (show u=Value.ref a from r);rfl
 | ty n=>cases (show u=Value.type n from r);rfl
section
variable{P:Program}{w:World}{H H':Hp}{h h':Heap}{a C dx:Addr}{fs fs':List (Str×V)}
theorem Xb(hok:Zj P w H h)(e:H a=some (.ins C dx fs)):∃mA,ka h a dx C mA/\(∀f,JM (fs.lookup f) (mA f))/\PySem.Within mA (fs.map (·.1))/\fs.length<=1000/\H dx=some (.own a):=by
 obtain⟨d,z,ne,ob,mA,n,r,q⟩:=(show qK P w H h a (.ins C dx fs) from hok a _ e)
 exact⟨mA,⟨ob,n,ne⟩,r,q,z,d⟩
end
structure YV(K:zdw)(C:Addr):Prop where
 pg:zba K C Str.empty=true
 hd:zaU K C=true
 po:zbr K C=true
 sa:t8 K (.ref C) "__setattr__"=some (some (.builtin "object.__setattr__"))
theorem YV.get{K:zdw}{C:Addr}(c:YV K C)(f:Str):zba K C f=true:=c.pg
def jW(K:zdw)(C:Addr)(f:Str):Prop:=t8 K (.ref C) f=some none
theorem jW.taker{K:zdw}{C:Addr}{f:Str}(n:jW K C f):zcX K C f=some none:=by
 unfold zcX
 rw[show t8 K (.ref C) f=some none from n]
 rfl
structure Con(K:zdw)(C:Addr)(f:Str)(v:V)(u:Value):Prop where
 at_:t8 K (.ref C) f=some (some u)
 rel:qY v u
 get:zbh K u "__get__"=some none
 cp:PySem.W.copiedNames.contains f=false
structure YU(K:zdw)(C:Addr)(m:Str)(f:Addr):Prop where
 at_:t8 K (.ref C) m=some (some (.ref f))
 fn:zbc K (.ref f)=true
 kp:zal K (.ref f)=true
section
variable{X:Cx}{pins:List (Addr×Obj)}{σ:St}{H:Hp}{s:Shared}{a C dx:Addr}{fs:List (Str×V)}{f:Str}{v:V}{A:Around}{E:Value->Shared->Prop}
theorem vT{b:Bool}{Q:Value->Shared->Prop}(I:qz X pins σ H s)(e:H a=some (.ins C dx fs))(c:YV X.K C)(n:jW X.K C f)(l:fs.lookup f=some v)
  (h:∀u s',qz X pins σ H s'->qY v u->Q u s'):wpAny (model X.prog X.w) A (getAttr (.ref a) f b) Q E s:=by
 obtain⟨mA,O,r,_,_,_⟩:=Xb I.hok e
 obtain⟨u,hu,ru⟩:=JM.some_of (v:=v) (o:=mA f) (by rw[<-l];exact r f)
 exact N0 I.kIn O (c.get f) c.hd n hu (WL ru) (h u _ (I.tok _) ru)
theorem Qz{m:Str}{g:Addr}{pl:Sem Bool}{Q:Value×List Value->Shared->Prop}(I:qz X pins σ H s)(e:H a=some (.ins C dx fs))(c:YV X.K C)(k:YU X.K C m g)(l:fs.lookup m=none)
  (h:Q (.ref g,[.ref a]) s):wpAny (model X.prog X.w) A (getMethod (.ref a) m pl) Q E s:=by
 obtain⟨mA,O,r,_,_,_⟩:=Xb I.hok e
 have hn:mA m=none:=JM.none_of (by rw[<-l];exact r m)
 exact Gb I.kIn O (c.get m) k.at_ k.fn hn h
theorem vi{y:V}{u:Value}{Q:Unit->Shared->Prop}(I:qz X pins σ H s)(e:H a=some (.ins C dx fs))(c:YV X.K C)(n:jW X.K C f)(hl:fs.length < 1000)(ry:qY y u)
  (h:∀s',qz X pins σ (upd H a (.ins C dx (Jj f y fs))) s'->Q () s'):wpAny (model X.prog X.w) A (setAttr (.ref a) f u) Q E s:=by
 obtain⟨mA,O,r,wi,_,ho⟩:=Xb I.hok e
 have hz:(fs.map (·.1)).length<=zdB:=by rw[tj,sizeLine_eq];omega
 refine RB I.kIn O c.sa c.po n.taker c.hd wi hz λh' O' sb=>h _ ?_
 have hd:∃o,h'.get? dx=some o:=let ⟨o,_,_,e',_⟩:=O'.ns;⟨o,e'⟩
 refine I.write (x:=a) (e:=dx) (by rw[e];exact True.intro) (.inr ho) (λb q hb z=>(sb.2 b hb).trans z) hd ?_
 refine⟨by rw[qi O.ne];exact ho,?_,O.ne,O'.obj,_,O'.ns,λg=>?_,λg hg=>?_⟩
 ·have:=YG f y fs;omega
 ·show JM ((Jj f y fs).lookup g) (if g=f then some u else mA g)
  rw[YE]
  by_cases q:g=f
  ·rw[if_pos q,if_pos q];exact ry
  ·rw[if_neg q,if_neg q];exact r g
 ·by_cases q:g=f
  ·rw[q];exact(Yp f y fs).1
  ·refine(Yp f y fs).2 g (wi g λz=>hg ?_)
   show (if g=f then some u else mA g)=none
   rw[if_neg q];exact z
theorem qz.made(I:qz X pins σ H s):qz X pins σ (upd (upd H s.heap.objs.size (.own (s.heap.objs.size+1))) (s.heap.objs.size+1) (.ins C s.heap.objs.size []))
  {s with heap:=(s.heap.push zaI).push (zbj C s.heap.objs.size)}:=by
 have e1:(s.heap.push zaI).get? s.heap.objs.size=some zaI:=zae s.heap rfl
 have e2:((s.heap.push zaI).push (zbj C s.heap.objs.size)).get? (s.heap.objs.size+1)=some (zbj C s.heap.objs.size):=by
  have:=zae (s.heap.push zaI) (o:=zbj C s.heap.objs.size) rfl
  rwa [zbf]at this
 have e3:(s.heap.push zaI).Ns s.heap.objs.size (λ_=>none):=⟨zaI,#[],_,e1,rfl,(λe he=>absurd he (by simp)),λ_=>rfl⟩
 have I1:=I.laid (a:=s.heap.objs.size) (o:=.own (s.heap.objs.size+1)) (h':=s.heap.push zaI) (t':=s.toks) (λb u q=>tz _ q) (tu _) ⟨_,e1⟩
 refine I1.laid (a:=s.heap.objs.size+1) (o:=.ins C s.heap.objs.size []) (t':=s.toks) (λb u q=>tz _ q) (zcT (zbf _ _)) ?_
 have ne:s.heap.objs.size≠s.heap.objs.size+1:=zac (zbu _)
 refine⟨by rw[qi ne,qe],zao _,ne,e2,λ_=>none,(Heap.Ns1.of_empty e3).at λo q=>tz _ q,λ_=>True.intro,λy hy=>absurd rfl hy⟩
theorem yF{prog:Program}{w:World}{env:Env}{e:Expr}{f:Str}{pos:Pos}{s:Shared}{Q:Value->Shared->Prop}(hb:attributeBase e f env (eval e env)=eval e env)
  (h:wpAny (model prog w) A (eval e env) (λo s₁=>wpAny (model prog w) A (getAttr o f true) Q E s₁) E s):wpAny (model prog w) A (eval (.Attribute e f pos) env) Q E s:=
 Attribute_any_ h (by rw[arm_eval_Attribute,hb])
end
def YN(K:zdw)(ta:TE)(f:Str):TE:=λσ H Q=>ta σ H λx H1=>∃a C dx fs v,x=.ref a/\H1 a=some (.ins C dx fs)/\YV K C/\jW K C f/\fs.lookup f=some v/\Q v H1
def Ez(K:zdw)(ta tv:TE)(f:Str):TS:=λD σ H=>tv σ H λy H1=>ta σ H1 λx H2=>∃a C dx fs,x=.ref a/\H2 a=some (.ins C dx fs)/\YV K C/\jW K C f/\fs.length < 1000/\
 D.nx σ (upd H2 a (.ins C dx (Jj f y fs)))
section
variable{X:Cx}{o e value:Expr}{f:Str}{pos pos' tpos:Pos}{ta tv:TE}
theorem jD(he:JE X e ta)(hb:attributeBase e f X.env (eval e X.env)=eval e X.env):JE X (.Attribute e f pos) (YN X.K ta f):=.of (by
 have he:=he.to
 intro pins s σ H Q I h
 refine yF hb (jm (he pins s σ H _ I h) λu s1 ⟨x,H1,I1,rx,a,C,dx,fs,v,ex,ea,c,n,l,q⟩=>?_)
 subst ex
 obtain rfl:u=Value.ref a:=rx
 exact vT I1 ea c n l λu' s2 I2 ru=>⟨v,H1,I2,ru,q⟩)
theorem Yr(ha:JE X o ta)(hv:JE X value tv)(hs:swapsWith value (some (.Attribute o f pos')) pos.line X.env=pure false):JS X (.Assign [.Attribute o f pos'] value pos) (Ez X.K ta tv f):=.of (by
 have ha:=ha.to
 have hv:=hv.to
 intro pins s σ H D I h
 refine plainObj_wpAny_Assign_Attribute (jm (hv pins s σ H _ I h) λu s1 ⟨y,H1,I1,ry,q⟩=>jm (ha pins s1 σ H1 _ I1 q) λov s2 ⟨x,H2,I2,rx,a,C,dx,fs,ex,ea,c,n,l,q2⟩=>?_) hs
 subst ex
 obtain rfl:ov=Value.ref a:=rx
 exact vi I2 ea c n l ry λs3 I3=>⟨σ,_,I3,q2⟩)
end
section
variable{X:Cx}{pins:List (Addr×Obj)}{σ:St}{H:Hp}{s:Shared}{A:Around}{E:Value->Shared->Prop}{Q:Value->Shared->Prop}{c:Value}{b:Bool}
inductive JL(K:zdw)(H:Hp):V->Value->Prop where
 | non:JL K H .non (.type "NoneType")
 | bl (x:Bool):JL K H (.bl x) (.type "bool")
 | int (i:Int):JL K H (.int i) (.type "int")
 | str (x:Str):JL K H (.str x) (.type "str")
 | flt (x:UInt64):JL K H (.flt x) (.type "float")
 | lst {a:Addr} {xs:List V} (e:H a=some (.lst xs)):JL K H (.ref a) (.type "list")
 | frz {a:Addr} {o:Obj} {xs:List V} (e:H a=some (.frz o (.lst xs))):JL K H (.ref a) (.type "list")
 | tup {a:Addr} {xs:List V} (e:H a=some (.tup xs)):JL K H (.ref a) (.type "tuple")
 | dK {a:Addr} {kvs:List (qG×V)} (e:H a=some (.dK kvs)):JL K H (.ref a) (.type "dict")
 | dT {a:Addr} {kvs:List (List qG×V)} (e:H a=some (.dT kvs)):JL K H (.ref a) (.type "dict")
 | ins {a C dx:Addr} {fs:List (Str×V)} (e:H a=some (.ins C dx fs)) (cl:YV K C) (ha:t8 K (.ref C) "__class__"=some (some (.builtin "object.__class__")))
  (hn:zbh K (.builtin "object.__class__") "__get__"=some (some (.builtin "getset_descriptor.__get__"))) (htk:zbB K (.builtin "object.__class__")=some true)
  (hm:zbP K C (.type "object")=some true):JL K H (.ref a) (.ref C)
theorem xO{x:V}{u t:Value}(I:qz X pins σ H s)(rx:qY x u)(ty:JL X.K H x t)(e:tU X.K t c=some b)(h:∀tk,Q (.bool b) {s with toks:=tk}):
  wpAny (model X.prog X.w) A (call (.builtin "isinstance") [u,c]) Q E s:=by
 cases ty with
 | non=>cases (show u=Value.none from rx);exact zaF PySem.W.kitx_none I.kIn True.intro e (λz=>nomatch z) h
 | bl y=>cases (show u=Value.bool y from rx);exact zaF PySem.W.kitx_bool I.kIn True.intro e (λz=>nomatch z) h
 | int i=>obtain⟨t,q⟩:=(show ∃t,u=Value.int i t from rx);cases q;exact zaF PySem.W.kitx_int I.kIn True.intro e (λz=>nomatch z) h
 | str y=>obtain⟨t,q⟩:=(show ∃t,u=Value.str y t from rx);cases q;exact zaF PySem.W.kitx_str I.kIn True.intro e (λz=>nomatch z) h
 | flt y=>obtain⟨t,q⟩:=(show ∃t,u=Value.float y t from rx);cases q;exact zaF PySem.W.kitx_float I.kIn True.intro e (λz=>nomatch z) h
 | @lst a xs ea=>
  cases (show u=Value.ref a from rx)
  obtain⟨_,_,n,_,h1⟩:=(show qK X.prog X.w H s.heap a (.lst xs) from I.hok a _ ea)
  exact zaF zdo I.kIn ⟨_,h1,rfl⟩ e (λz=>nomatch z) h
 | @frz a ob xs ea=>
  cases (show u=Value.ref a from rx)
  obtain⟨_,_,_,n,_,h1⟩:=(show qK X.prog X.w H s.heap a (.frz ob (.lst xs)) from I.hok a _ ea)
  exact zaF zdo I.kIn ⟨_,h1,rfl⟩ e (λz=>nomatch z) h
 | @tup a xs ea=>
  cases (show u=Value.ref a from rx)
  obtain⟨_,_,_,p⟩:=(show qK X.prog X.w H s.heap a (.tup xs) from I.hok a _ ea)
  obtain⟨o,h1,h2,_⟩:=p
  exact zaF PySem.W.kitx_tuple I.kIn ⟨o,h1,h2⟩ e (λz=>nomatch z) h
 | @dK a kvs ea=>
  cases (show u=Value.ref a from rx)
  obtain⟨_,_,vs,_,p⟩:=(show qK X.prog X.w H s.heap a (.dK kvs) from I.hok a _ ea)
  obtain⟨o,es,ep,h1,h2,_⟩:=p
  exact zaF zdp I.kIn ⟨o,h1,h2.1⟩ e (λz=>nomatch z) h
 | @dT a kvs ea=>
  cases (show u=Value.ref a from rx)
  obtain⟨_,_,xs,_,o,es,ep,h1,h2,_⟩:=(show qK X.prog X.w H s.heap a (.dT kvs) from I.hok a _ ea)
  exact zaF zdp I.kIn ⟨o,h1,h2.1⟩ e (λz=>nomatch z) h
 | @ins a C dx fs ea cl ha hn htk hm=>
  cases (show u=Value.ref a from rx)
  obtain⟨mA,O,_⟩:=Xb I.hok ea
  obtain⟨od,J,_⟩:=O.look
  exact zaF (PySem.W.kitx_own (cl.get _) cl.hd ha hn htk hm) I.kIn J e (λz=>nomatch z) h
end
structure qO(k:Nat)(A:Around):Prop where
 hd:A.handled=none
 dp:A.depth+3*k+5 < recursionLimit
 un:A.units+16*k+200 < cLine
 gd:A.guards=some []
theorem qO.mono{j k:Nat}{A:Around}(r:qO k A)(h:j<=k):qO j A:=⟨r.hd,by have:=r.dp;omega,by have:=r.un;omega,r.gd⟩
theorem qO.deeper{k:Nat}{A:Around}(r:qO (k+1) A)(env:Env):qO k (A.deeper env):=
 ⟨r.hd,by have:=r.dp;show A.depth+1+3*k+5 < _;omega,by have:=r.un;show A.units+3+16*k+200 < _;omega,r.gd⟩
theorem vN{A:Around}{C:Addr}{us:List Value}{kw:List (Str×Value)}:(A.under (.builtin "type.__call__" ⟨.ref C::us,kw⟩)).depth=A.depth+1:=by
 first | rfl | simp [Around.under,Code.weight,Code.isCreation,Code.isGuard,Code.isCaller,Code.frames,Code.isFrame,guardIds]
theorem vM{A:Around}{C:Addr}{us:List Value}{kw:List (Str×Value)}:(A.under (.builtin "type.__call__" ⟨.ref C::us,kw⟩)).units=A.units+1:=by
 first | rfl | simp [Around.under,Code.cUnits,Code.frames,Code.isFrame]
theorem qO.make{k:Nat}{A:Around}(r:qO (k+1) A)(C:Addr)(us:List Value)(kw:List (Str×Value)):qO k (A.under (.builtin "type.__call__" ⟨.ref C::us,kw⟩)):=
 ⟨r.hd,by have:=r.dp;rw[vN];omega,by have:=r.un;rw[vM];omega,(by have:=r.gd;first | exact this | simpa [Around.under,Code.isGuard,guardIds] using this)⟩
theorem qO.depth{k:Nat}{A:Around}(r:qO k A):A.depth < recursionLimit:=by have:=r.dp;omega
theorem qO.units{k:Nat}{A:Around}(r:qO k A):A.units+64 < cLine:=by have:=r.un;omega
theorem qO.units0{k:Nat}{A:Around}(r:qO k A):A.units < cLine:=by have:=r.un;omega
def Qf:TA:=λ_ H Q=>Q [] H
def jg(ta:TE)(tr:TA):TA:=λσ H Q=>ta σ H λx H1=>tr σ H1 λxs H2=>Q (x::xs) H2
section
variable{X:Cx}{e:Expr}{es:List Expr}{te:TE}{t:TA}{pos:Pos}
theorem qf:JA X [] Qf:=.of (by
 exact λ_ _ _ _ H Q I h=>Calls.spliced_nil ⟨[],H,I,.nil,h⟩)
theorem qd(ha:JE X e te)(hr:JA X es t)(hs:starEach (e::es) X.env=(false,eval e X.env)::starEach es X.env:=by rfl):JA X (e::es) (jg te t):=.of (by
 have ha:=ha.to
 have hr:=hr.to
 intro pos pins s σ H Q I h
 rw[hs]
 show wpAny _ _ (spliced ((false,eval e X.env)::backTo pos (starEach es X.env))) _ _ s
 refine Calls.spliced_cons (jm (ha pins s σ H _ I h) λu s1 ⟨x,H1,I1,r1,q1⟩=>?_)
 exact jm (hr pos pins s1 σ H1 _ I1 q1) λus s2 ⟨xs,H2,I2,r2,q2⟩=>⟨x::xs,H2,I2,.cons r1 r2,q2⟩)
def Ao(t:TA):TE:=λσ H Q=>t σ H λxs H1=>xs.length<=zdB/\∀p,H1 p=none->Q (.ref p) (upd H1 p (.tup xs))
def vd(t:TA):TE:=λσ H Q=>t σ H λxs H1=>xs.length<=zdB/\∀p,H1 p=none->Q (.ref p) (upd H1 p (.lst xs))
theorem q5{x1}(h:JA X es t):JE X (.Tuple es x1 pos) (Ao t):=.of (by
 have h:=h.to
 intro pins s σ H Q I hq
 refine wpAny_Tuple_spliced (jm (h pos pins s σ H _ I hq) λus s1 ⟨xs,H1,I1,r,z,q⟩=>⟨by rw[<-r.length];exact z,?_⟩)
 have hf:H1 s1.heap.objs.size=none:=I1.hok.fresh (tu _)
 refine⟨.ref s1.heap.objs.size,upd H1 s1.heap.objs.size (.tup xs),I1.laid (t':=s1.toks) (λb u e=>tz _ e) (tu _) ?_,rfl,q _ hf⟩
 exact⟨z,us,r,⟨_,zae _ rfl,rfl,_,rfl⟩⟩)
theorem jo(h:JA X es t):JE X (.List es pos) (vd t):=.of (by
 have h:=h.to
 intro pins s σ H Q I hq
 refine wpAny_List_spliced (jm (h pos pins s σ H _ I hq) λus s1 ⟨xs,H1,I1,r,z,q⟩=>⟨by rw[<-r.length];exact z,?_⟩)
 have hf:H1 s1.heap.objs.size=none:=I1.hok.fresh (tu _)
 refine⟨.ref s1.heap.objs.size,upd H1 s1.heap.objs.size (.lst xs),I1.laid (t':=s1.toks) (λb u e=>tz _ e) (tu _) ?_,rfl,q _ hf⟩
 exact⟨z,us,0,r,zae _ rfl⟩)
end
abbrev Sp:=List V->Hp->VK->XK->Prop
abbrev zp:=List Env->Hp->Shared->XK->Value->Shared->Prop
structure VG(P:Program)(w:World)(K:zdw)(mg:Str->Option Value)(base:Heap)(A:Around)(outer:List Env)(s:Shared)(H:Hp):Prop where
 frames:A.frames=some outer
 mod:Mod K mg base
 bs:∀b o,base.get? b=some o->s.heap.get? b=some o/\H b=none
 bsz:base.objs.size<=s.heap.objs.size
 funs:s.heap.FunFrames base outer
 frf:∀b∈YH outer,H b=none
 hok:Zj P w H s.heap
 bare:AllBare s.gens
def CE(outer:List Env)(P:Program)(w:World)(H:Hp)(s:Shared)(Q:VK)(u:Value)(s':Shared):Prop:=
 ∃v H',s'.os=s.os/\AllBare s'.gens/\Un (YH outer) [] H H' s.heap s'.heap/\Zj P w H' s'.heap/\qY v u/\Q v H'
def CR(CX:zp)(outer:List Env)(P:Program)(w:World)(H:Hp)(s:Shared)(Q:VK)(E:XK)(r:Result)(s':Shared):Prop:=
 match r with
 | .ok (.ret u)=>CE outer P w H s Q u s'
 | .ok _=>False
 | .error e=>CX outer H s E e s'
structure qo(P:Program)(w:World)(K:zdw)(mg:Str->Option Value)(base:Heap)(CX:zp)(k:Nat)(f:Addr)(fd:zdA)(ps:List Str)(sp:Sp):Prop where
 len:∀vs H Q E,sp vs H Q E->vs.length=ps.length
 run:∀(A:Around) (outer:List Env) (s:Shared) (H:Hp) (args:Args) (us:List Value) (vs:List V) (Q:VK) (E:XK),qO k A->VG P w K mg base A outer s H->BindsTo s fd args (ps.zip us)->qR vs us->sp vs H Q E->
  codeAny (model P w) A (.call (.ref f) args) (CR CX outer P w H s Q E) s
theorem VG.make{P:Program}{w:World}{K:zdw}{mg:Str->Option Value}{base:Heap}{A:Around}{outer:List Env}{s:Shared}{H:Hp}(e:VG P w K mg base A outer s H)(C:Addr)(us:List Value)(kw:List (Str×Value)):
 VG P w K mg base (A.under (.builtin "type.__call__" ⟨.ref C::us,kw⟩)) outer s H:=⟨by first | exact e.frames | (simpa [Around.under,Code.envs,Code.isFrame,pushEnvs] using e.frames),e.mod,e.bs,e.bsz,e.funs,e.frf,e.hok,e.bare⟩
section
variable{X:Cx}{pins:List (Addr×Obj)}{σ:St}{H:Hp}{s s':Shared}
theorem qz.env0(I:qz X pins σ H s):VG X.prog X.w X.K X.mg X.base X.A X.stack s H:=
 ⟨I.ok.frames,I.ok.mod,I.bs,tM I.ok.bsz I.sz,I.stack,I.stkFree,I.hok,I.bare⟩
theorem qz.after{Q:VK}{u:Value}(I:qz X pins σ H s)(h:CE X.stack X.prog X.w H s Q u s'):EP X pins σ Q u s':=by
 obtain⟨v,H',os,bare,un,hok,r,q⟩:=h
 obtain⟨hh,g,d,t,os'⟩:=s'
 obtain rfl:os'=s.os:=os
 exact⟨v,H',I.call (h':=hh) (g':=g) (d':=d) (t':=t) (ch:=[]) un hok bare (λb z=>absurd z (by simp)),r,q⟩
end
def QY(sp:Sp)(dvs:List V)(E:XK)(t:TA):TE:=λσ H Q=>t σ H λvs H1=>sp (vs++dvs) H1 Q E
def Wi(C:Addr)(m:Str)(sp:Sp)(dvs:List V)(E:XK)(ta:TE)(t:TA):TE:=λσ H Q=>ta σ H λx H1=>∃a dx fs,x=.ref a/\H1 a=some (.ins C dx fs)/\fs.lookup m=none/\
 t σ H1 λvs H2=>sp (x::(vs++dvs)) H2 Q E
def Mu(C:Addr)(sp:Sp)(dvs:List V)(E:XK)(t:TA):TE:=λσ H Q=>t σ H λvs H1=>∀x dx,H1 x=none->H1 dx=none->dx≠x->
 sp (.ref x::(vs++dvs)) (upd (upd H1 dx (.own x)) x (.ins C dx [])) (λv H2=>v=.non/\Q (.ref x) H2) E
def ji(K:zdw)(fd:zdA)(ps:List Str)(ds:List Value):Prop:=
 ∀(s:Shared) (us:List Value),K.In s.heap->(us++ds).length=ps.length->BindsTo s fd ⟨us,[]⟩ (ps.zip (us++ds))
theorem ji.all{K:zdw}{fd:zdA}{ps:List Str}(h:∀us:List Value,us.length=ps.length->bindArgs fd ⟨us,[]⟩=pure (ps.zip us)):ji K fd ps []:=λs us _ hl=>by
 rw[zaX]at hl ⊢
 exact .of_eq (h us hl)
def jQ(CX:zp)(X:Cx)(E:XK):Prop:=∀(pins:List (Addr×Obj)) (σ:St) (H:Hp) (s:Shared) (e:Value) (s':Shared),qz X pins σ H s->CX X.stack H s E e s'->X.xe e s'
section
variable{X:Cx}{CX:zp}{k:Nat}{f C:Addr}{fd:zdA}{ps:List Str}{sp:Sp}{dvs:List V}{ds:List Value}{E:XK}{x m:Str}{p pos apos:Pos}{e o:Expr}{es:List Expr}{ta:TE}{t:TA}
theorem zg{pins:List (Addr×Obj)}{σ:St}{H:Hp}{s:Shared}{Q:VK}{us:List Value}{vs:List V}(F:qo X.prog X.w X.K X.mg X.base CX k f fd ps sp)(hr:qO k X.A)(hb:ji X.K fd ps ds)(hd:qR dvs ds)(hx:jQ CX X E)
  (I:qz X pins σ H s) (r:qR vs us) (h:sp (vs++dvs) H Q E):wpAny (model X.prog X.w) X.A (call (.ref f) us) (EP X pins σ Q) X.xe s:=by
 have r2:qR (vs++dvs) (us++ds):=r.append hd
 have hl:(us++ds).length=ps.length:=by rw[<-r2.length];exact F.len _ _ _ _ h
 refine wpAny_call (codeAny_mono (F.run X.A X.stack s H ⟨us,[]⟩ (us++ds) (vs++dvs) Q E hr I.env0 (hb s us I.kIn hl) r2 h) λr s' hq=>?_)
 cases r with
 | error e=>exact hx pins σ H s e s' I hq
 | ok fl=>
  cases fl with
  | ret u=>exact I.after hq
  | next=>exact False.elim hq
  | brk=>exact False.elim hq
  | cont=>exact False.elim hq
theorem Vh(F:qo X.prog X.w X.K X.mg X.base CX k f fd ps sp)(hr:qO k X.A)(hg:Gl X x)(hm:X.mg x=some (.ref f))(hk:zal X.K (.ref f)=true)(hb:ji X.K fd ps ds)(hd:qR dvs ds)(hx:jQ CX X E)
  (ha:PA X (e::es) t) (hdb:(x==("__debug__":Str))=false:=by decide) (he:starEach (e::es) X.env=(false,eval e X.env)::starEach es X.env:=by rfl) (hpl:(backTo pos (starEach es X.env)).any (·.1)=false:=by rfl):
  PE X (.Call (.Name x p) (e::es) [] pos) (QY sp dvs E t):=by
 intro pins s σ H Q I h
 refine wpAny_Call_Name_kw (zJ I hg hm ?_ hdb)
 refine zaS (h₀:=X.base) I.ok.mod.kin hk (jm (ha pos pins s σ H _ I h) λus s1 ⟨vs,H1,I1,r,q⟩=>⟨I1.kIn,?_⟩) he hpl
 exact zg F hr hb hd hx I1 r q
theorem Nd{pl:Sem Bool}(he:PE X o ta)(c:YV X.K C)(hm:YU X.K C m f)(F:qo X.prog X.w X.K X.mg X.base CX k f fd ps sp)(hr:qO k X.A)(hb:ji X.K fd ps ds)(hd:qR dvs ds)(hx:jQ CX X E)(ha:PA X (e::es) t)
  (hst:starEach (e::es) X.env=(false,eval e X.env)::starEach es X.env:=by rfl) (hpl:(backTo pos (starEach es X.env)).any (·.1)=false:=by rfl)
  (ht:eval (.Call (.Attribute o m apos) (e::es) [] pos) X.env=(do
   let ov <-eval o X.env
   standAt apos.atName
   let (f,first) <-holding [ov] (getMethod ov m pl)
   callWith pos f first (backTo pos (starEach (e::es) X.env)) (backToKw pos (keywordEach [] X.env))):=by rfl):
  PE X (.Call (.Attribute o m apos) (e::es) [] pos) (Wi C m sp dvs E ta t):=by
 intro pins s σ H Q I h
 refine zbp (pl:=pl) (jm (he pins s σ H _ I h) λu s1 ⟨x,H1,I1,rx,a,dx,fs,ex,ea,l,q⟩=>?_) ht
 subst ex
 obtain rfl:u=Value.ref a:=rx
 refine Qz I1 ea c hm l ?_
 refine zaS (first:=[.ref a]) (h₀:=X.base) I.ok.mod.kin hm.kp (jm (ha pos pins s1 σ H1 _ I1 q) λus s2 ⟨vs,H2,I2,r,q2⟩=>⟨I2.kIn,?_⟩) hst hpl
 exact zg (us:=.ref a::us) (vs:=.ref a::vs) F hr hb hd hx I2 (.cons rfl r) q2
theorem Jr{pl:Sem Bool}(he:JE X o ta)(c:YV X.K C)(hm:YU X.K C m f)(F:qo X.prog X.w X.K X.mg X.base CX k f fd ps sp)(hr:qO k X.A)(hb:ji X.K fd ps ds)(hd:qR dvs ds)(hx:jQ CX X E)(ha:JA X (e::es) t)(hst:starEach (e::es) X.env=(false,eval e X.env)::starEach es X.env:=by rfl)(hpl:(backTo pos (starEach es X.env)).any (·.1)=false:=by rfl) (ht:eval (.Call (.Attribute o m apos) (e::es) [] pos) X.env=(do
 let ov <-eval o X.env
 standAt apos.atName
 let (f,first) <-holding [ov] (getMethod ov m pl)
 callWith pos f first (backTo pos (starEach (e::es) X.env)) (backToKw pos (keywordEach [] X.env))):=by rfl):JE X (.Call (.Attribute o m apos) (e::es) [] pos) (Wi C m sp dvs E ta t):=.of (Nd he.to c hm F hr hb hd hx ha.to hst hpl ht)
theorem uX{pl:Sem Bool}(he:PE X o ta)(c:YV X.K C)(hm:YU X.K C m f)(F:qo X.prog X.w X.K X.mg X.base CX k f fd ps sp)(hr:qO k X.A)(hb:ji X.K fd ps ds)(hd:qR dvs ds)(hx:jQ CX X E)
  (ht:eval (.Call (.Attribute o m apos) [] [] pos) X.env=(do
   let ov <-eval o X.env
   standAt apos.atName
   let (f,first) <-holding [ov] (getMethod ov m pl)
   callWith pos f first (backTo pos (starEach [] X.env)) (backToKw pos (keywordEach [] X.env))):=by rfl):
  PE X (.Call (.Attribute o m apos) [] [] pos) (Wi C m sp dvs E ta Qf):=by
 intro pins s σ H Q I h
 refine zbp (pl:=pl) (jm (he pins s σ H _ I h) λu s1 ⟨x,H1,I1,rx,a,dx,fs,ex,ea,l,q⟩=>?_) ht
 subst ex
 obtain rfl:u=Value.ref a:=rx
 refine Qz I1 ea c hm l ?_
 exact zbO (first:=[.ref a]) I1.kIn hm.kp (zg (us:=[.ref a]) (vs:=[.ref a]) F hr hb hd hx I1 (.cons rfl .nil) q)
theorem KR{pl:Sem Bool}(he:JE X o ta)(c:YV X.K C)(hm:YU X.K C m f)(F:qo X.prog X.w X.K X.mg X.base CX k f fd ps sp)(hr:qO k X.A)(hb:ji X.K fd ps ds)(hd:qR dvs ds)(hx:jQ CX X E) (ht:eval (.Call (.Attribute o m apos) [] [] pos) X.env=(do
 let ov <-eval o X.env
 standAt apos.atName
 let (f,first) <-holding [ov] (getMethod ov m pl)
 callWith pos f first (backTo pos (starEach [] X.env)) (backToKw pos (keywordEach [] X.env))):=by rfl):JE X (.Call (.Attribute o m apos) [] [] pos) (Wi C m sp dvs E ta Qf):=.of (uX he.to c hm F hr hb hd hx ht)
structure Mk(K:zdw)(C f:Addr):Prop where
 makes:zbA K C=true
 init:t8 K (.ref C) "__init__"=some (some (.ref f))
 fn:zbc K (.ref f)=true
 kp:zal K (.ref C)=true
theorem Um{pins:List (Addr×Obj)}{σ:St}{H:Hp}{s:Shared}{Q:VK}{us:List Value}{vs:List V}(M:Mk X.K C f)(F:qo X.prog X.w X.K X.mg X.base CX k f fd ps sp)(hr:qO (k+1) X.A)(hb:ji X.K fd ps ds)(hd:qR dvs ds)
  (hx:jQ CX X E) (I:qz X pins σ H s) (r:qR vs us)
  (h:∀x dx,H x=none->H dx=none->dx≠x->sp (.ref x::(vs++dvs)) (upd (upd H dx (.own x)) x (.ins C dx [])) (λv H2=>v=.non/\Q (.ref x) H2) E):
  wpAny (model X.prog X.w) X.A (call (.ref C) us) (EP X pins σ Q) X.xe s:=by
 have hq:=h (s.heap.objs.size+1) s.heap.objs.size (I.hok.fresh (zdb _)) (I.hok.fresh (tu _)) (zac (zbu _))
 have I2:=qz.made (C:=C) I
 have r2:qR (V.ref (s.heap.objs.size+1)::(vs++dvs)) (Value.ref (s.heap.objs.size+1)::(us++ds)):=.cons rfl (r.append hd)
 have hl:(Value.ref (s.heap.objs.size+1)::us++ds).length=ps.length:=by
  have e:=r2.length
  rw[F.len _ _ _ _ hq]at e
  exact e.symm
 refine wpAny_call (Kx (f:=f) I.kIn M.makes M.init (beq_iff_eq.mp M.fn) (codeAny_mono (F.run _ X.stack _ _ ⟨Value.ref (s.heap.objs.size+1)::us,[]⟩ (Value.ref (s.heap.objs.size+1)::(us++ds)) _ _ E (hr.make C us [])
  (I2.env0.make C us []) (hb _ (Value.ref (s.heap.objs.size+1)::us) I2.kIn hl) r2 hq) λr s' hq'=>?_))
 cases r with
 | error e=>exact hx pins σ _ _ e s' I2 hq'
 | ok fl=>
  cases fl with
  | ret u=>
   obtain⟨v,H',I3,rv,ev,q3⟩:=I2.after hq'
   subst ev
   exact⟨rv,⟨V.ref (s.heap.objs.size+1),H',I3,rfl,q3⟩⟩
  | next=>exact False.elim hq'
  | brk=>exact False.elim hq'
  | cont=>exact False.elim hq'
theorem J1(M:Mk X.K C f)(F:qo X.prog X.w X.K X.mg X.base CX k f fd ps sp)(hr:qO (k+1) X.A)(hg:Gl X x)(hm:X.mg x=some (.ref C))(hb:ji X.K fd ps ds)(hd:qR dvs ds)(hx:jQ CX X E)(ha:JA X (e::es) t)(hdb:(x==("__debug__":Str))=false:=by decide)(he:starEach (e::es) X.env=(false,eval e X.env)::starEach es X.env:=by rfl)(hpl:(backTo pos (starEach es X.env)).any (·.1)=false:=by rfl):JE X (.Call (.Name x p) (e::es) [] pos) (Mu C sp dvs E t):=.of (by
 have ha:=ha.to
 intro pins s σ H Q I h
 refine wpAny_Call_Name_kw (zJ I hg hm ?_ hdb)
 refine zaS (h₀:=X.base) I.ok.mod.kin M.kp (jm (ha pos pins s σ H _ I h) λus s1 ⟨vs,H1,I1,r,q⟩=>⟨I1.kIn,?_⟩) he hpl
 exact Um M F hr hb hd hx I1 r q)
theorem UH(M:Mk X.K C f)(F:qo X.prog X.w X.K X.mg X.base CX k f fd ps sp)(hr:qO (k+1) X.A)(hg:Gl X x)(hm:X.mg x=some (.ref C))(hb:ji X.K fd ps ds)(hd:qR dvs ds)(hx:jQ CX X E)(hdb:(x==("__debug__":Str))=false:=by decide):JE X (.Call (.Name x p) [] [] pos) (Mu C sp dvs E Qf):=.of (by
 intro pins s σ H Q I h
 refine wpAny_Call_Name_kw (zJ I hg hm ?_ hdb)
 exact zbO I.kIn M.kp (Um (us:=[]) M F hr hb hd hx I .nil h))
end
section
variable{X:Cx}{CX:zp}{k:Nat}{f C:Addr}{fd:zdA}{ps ks:List Str}{sp:Sp}{E:XK}{x m:Str}{p pos apos kpos:Pos}{e o:Expr}{es:List Expr}{kws:List Keyword}{te ta:TE}{t tk:TA}{nm:Option Str}
structure Fl(K:zdw)(fd:zdA)(ps ks:List Str)(g:List Value->List Value->List Value)(gV:List V->List V->List V):Prop where
 to:∀(s:Shared) (us ws:List Value),K.In s.heap->(g us ws).length=ps.length->BindsTo s fd ⟨us,ks.zip ws⟩ (ps.zip (g us ws))
 rel:∀{vs:List V} {us:List Value} {zs:List V} {ws:List Value},qR vs us->qR zs ws->qR (gV vs zs) (g us ws)
variable{g:List Value->List Value->List Value}{gV:List V->List V->List V}
end
structure qp(N P:List Str)(sc:Scope):Prop where
 kind:sc.kind=.function
 co:sc.isCoroutine=false
 gen:sc.isGenerator=false
 nd:N.Nodup
 pre:N.take P.length=P
 par:∀x∈P,sc.names.lookup x=some .local\/sc.names.lookup x=some .cell
 nofree:∀y∈sc.names,y.2≠.free
theorem zdv{N P:List Str}{sc:Scope}(kind:sc.kind=.function:=by rfl)(co:sc.isCoroutine=false:=by rfl)(gen:sc.isGenerator=false:=by rfl)(nd:N.Nodup:=by decide+kernel)(pre:N.take P.length=P:=by rfl)(par:∀x∈P,sc.names.lookup x=some .local\/sc.names.lookup x=some .cell:=by decide+kernel)(nofree:∀y∈sc.names,y.2≠.free:=by decide+kernel):qp N P sc:=⟨kind,co,gen,nd,pre,par,nofree⟩
theorem WT{kindOf:Str->Option NameKind}{x:Str}:∀{binds:List (Str×Value)} {m:Str->Option Value},(∀v,(x,v)∉binds)->bindL kindOf binds m x=m x
 | [],_,_=>rfl
 | (n,v)::r,m,h=>by
  unfold bindL
  rw[WT λw hw=>h w (tF _ hw)]
  split
  ·have:x≠n:=by rintro rfl;exact h v tK
   simp [this]
  ·rfl
theorem WV{kindOf:Str->Option NameKind}{x:Str}:∀{binds:List (Str×Value)} {m:Str->Option Value},(∀v,(x,v)∉binds)->bindC kindOf binds m x=m x
 | [],_,_=>rfl
 | (n,v)::r,m,h=>by
  unfold bindC
  rw[WV λw hw=>h w (tF _ hw)]
  split
  ·rfl
  ·have:x≠n:=by rintro rfl;exact h v tK
   simp [this]
theorem WU{kindOf:Str->Option NameKind}{x:Str}{v:Value}:∀{P:List Str} {vs:List Value} {i:Nat} {m:Str->Option Value},P.Nodup->P[i]?=some x->vs[i]?=some v->kindOf x=some .local->
  bindL kindOf (P.zip vs) m x=some v
 | [],_,_,_,_,h,_,_=>by simp at h
 | _::_,[],_,_,_,_,h,_=>by simp at h
 | p::P,w::vs,0,m,nd,h1,h2,hk=>by
  simp at h1 h2;subst h1;subst h2
  show bindL kindOf ((p,w)::P.zip vs) m p=_
  unfold bindL
  rw[WT λv hv=>(zaG.mp nd).1 (zbS hv).1,if_pos hk]
  simp
 | p::P,w::vs,i+1,m,nd,h1,h2,hk=>by
  show bindL kindOf ((p,w)::P.zip vs) m x=_
  unfold bindL
  exact WU (i:=i) (zaG.mp nd).2 (by simpa using h1) (by simpa using h2) hk
theorem WW{kindOf:Str->Option NameKind}{x:Str}{v:Value}:∀{P:List Str} {vs:List Value} {i:Nat} {m:Str->Option Value},P.Nodup->P[i]?=some x->vs[i]?=some v->kindOf x≠some .local->
  bindC kindOf (P.zip vs) m x=some v
 | [],_,_,_,_,h,_,_=>by simp at h
 | _::_,[],_,_,_,_,h,_=>by simp at h
 | p::P,w::vs,0,m,nd,h1,h2,hk=>by
  simp at h1 h2;subst h1;subst h2
  show bindC kindOf ((p,w)::P.zip vs) m p=_
  unfold bindC
  rw[WV λv hv=>(zaG.mp nd).1 (zbS hv).1,if_neg hk]
  simp
 | p::P,w::vs,i+1,m,nd,h1,h2,hk=>by
  show bindC kindOf ((p,w)::P.zip vs) m x=_
  unfold bindC
  exact WW (i:=i) (zaG.mp nd).2 (by simpa using h1) (by simpa using h2) hk
def Ze(N:List Str)(vs:List V):St:=vs.map some++zdc (N.length - vs.length) none
def Qk(CX:zp)(P:Program)(w:World)(K:zdw)(mg:Str->Option Value)(base:Heap)(N:List Str)(qual:Str)(scope:Scope)(f:Addr)(cd:Value)(A:Around)(outer:List Env)(s:Shared)(H:Hp)(E:XK):Cx where
 prog:=P
 w:=w
 K:=K
 mg:=mg
 base:=base
 A:=A.deeper (envOfC qual scope s.heap.objs.size f cd)
 N:=N
 s₀:=s
 H₀:=H
 env:=envOfC qual scope s.heap.objs.size f cd
 outer:=outer
 stack:=envOfC qual scope s.heap.objs.size f cd::outer
 ex:=[]
 calm:=true
 fn:=λ_=>true
 pn:=[]
 xe:=λe s'=>wpAny (model P w) (A.deeper (envOfC qual scope s.heap.objs.size f cd)) (leaving (envOfC qual scope s.heap.objs.size f cd) e) (λ_ s''=>CX outer H s E e s'') (λe' s''=>CX outer H s E e' s'') s'
theorem UX{sc:Scope}{n:Nat}{x:Str}(h:sc.names.lookup x=some .cell):∃c,(cellsFrom n sc.names []).lookup x=some c:=by
 have q:=zbX sc.names n [] (.inl h)
 exact zbQ.mp q
theorem WK{CX:zp}{P:Program}{w:World}{K:zdw}{mg:Str->Option Value}{base:Heap}{N ps:List Str}{qual:Str}{scope:Scope}{f:Addr}{cd:Value}{A:Around}{outer:List Env}{s s1:Shared}{H:Hp}{E:XK}{us:List Value}{vs:List V}
  (S:qp N ps scope) (hd:A.handled=none) (e0:VG P w K mg base A outer s H) (hl:vs.length=ps.length) (r:qR vs us)
  (x:InCallC s s.heap.objs.size (bindL (envOfC qual scope s.heap.objs.size f cd).kindOf (ps.zip us) λ_=>none) (cellsFrom (s.heap.objs.size+1) scope.names []) (bindC (envOfC qual scope s.heap.objs.size f cd).kindOf (ps.zip us) λ_=>none) s1):
  qz (Qk CX P w K mg base N qual scope f cd A outer s H E) [] (Ze N vs) H s1:=by
 have hpl:ps.length<=N.length:=by have:=congrArg zbs S.pre;rw[zag]at this;omega
 obtain⟨h1,tk,rfl,hk⟩:=x.done
 have noA:∀b:Addr,b∉(Qk CX P w K mg base N qual scope f cd A outer s H E).ex:=λb z=>absurd (show b∈([]:List Addr) from z) (by simp)
 refine⟨⟨e0.mod,S.kind,rfl,rfl,tu _,λy z c h1 h2=>?_,λy hy=>?_,λy c _ h=>?_,λ_=>hd,Around.frames_deeper e0.frames,.inr ⟨rfl,rfl⟩,λb z=>absurd z (noA b),e0.bs,e0.bsz,λb _ _=>noA b,λb z=>absurd z (noA b),e0.funs,e0.frf⟩,
  rfl,e0.bare,Un.kept hk,⟨_,x.toInCall.ns,λi y v h1 h2 h3=>?_⟩,λy c h=>⟨_,x.cell y c h⟩,e0.hok.fresh (tu _),λy c h=>?_,λp hp=>absurd (show p∈([]:List (Addr×Obj)) from hp) (by simp),e0.hok.kept hk,?_⟩
 ·exact name_of_addr x.apart (PySem.mem_of_lookup h1) (PySem.mem_of_lookup h2)
 ·have hy:scope.names.lookup y=some .cell\/scope.names.lookup y=some .free:=hy
  rcases hy with hy | hy
  ·exact UX hy
  ·exact absurd rfl (S.nofree _ (PySem.mem_of_lookup hy))
 ·exact zaC (x.above y c (PySem.mem_of_lookup h))
 ·have hi:i < vs.length:=by
   unfold Ze at h2
   by_cases hi:i < vs.length
   ·exact hi
   ·rw[zap (by simpa using hi)]at h2
    rw[List.getElem?_replicate]at h2
    split at h2<;>cases h2
  have ha:vs[i]?=some v:=by
   unfold Ze at h2
   rw[zay (by simpa using hi),tZ]at h2
   cases e:vs[i]? with
   | none=>rw[e]at h2;cases h2
   | some a=>rw[e]at h2;cases h2;rfl
  obtain⟨u,hu,rv⟩:=r.get ha
  have hp:ps[i]?=some y:=by
   rw[<-S.pre,zbR (by omega)];exact h1
  have ndP:ps.Nodup:=by rw[<-S.pre];exact S.nd.sublist (zbY _ _)
  refine⟨u,rv,?_⟩
  rcases S.par y (tV hp) with k | k
  ·exact .inl ⟨k,WU ndP hp hu k⟩
  ·obtain⟨c,e⟩:=UX (n:=s.heap.objs.size+1) k
   refine .inr ⟨.inl k,c,e,?_⟩
   have q:=x.cell y c e
   rw[WW ndP hp hu (by show scope.names.lookup y≠_;rw[k];decide)]at q
   exact q
 ·exact .inl (e0.hok.fresh (zaC (x.above y c (PySem.mem_of_lookup h))))
 ·unfold Ze
  show _=N.length
  rw[tR,tj,zcZ]
  omega
theorem Aa{CX:zp}{P:Program}{w:World}{K:zdw}{mg:Str->Option Value}{base:Heap}{k:Nat}{f:Addr}{name qual:Str}{params:Arguments}{body:List Stmt}{scope:Scope}{dV kV doc pm cdv ct oc:Value}{an od:Option Addr}
  {osl:Array (Option Value)} {N ps:List Str} {sp:Sp} (lk:K.lookup f=some ⟨oc,od,.func (zaV name qual params body scope dV kV doc pm an cdv ct),osl⟩) (hcd:zbn K cdv qual=true) (S:qp N ps scope)
  (len:∀vs H Q E,sp vs H Q E->vs.length=ps.length)
  (hbody:∀(A:Around) (outer:List Env) (s:Shared) (H:Hp) (vs:List V) (Q:VK) (E:XK),qO k (A.deeper (envOfC qual scope s.heap.objs.size f cdv))->sp vs H Q E->
   ∃t,Ra (Qk CX P w K mg base N qual scope f cdv A outer s H E) body t/\t {nx:=λ_ H'=>Q .non H',rt:=Q} (Ze N vs) H):
  qo P w K mg base CX (k+1) f (zaV name qual params body scope dV kV doc pm an cdv ct) ps sp:=by
 refine⟨len,λA outer s H args us vs Q E hr e0 hb r hsp=>?_⟩
 have hl:=len _ _ _ _ hsp
 have KX:K.In s.heap:=e0.mod.kin.keeps λb o e=>(e0.bs b o e).1
 have lim:s.heap.NoLimit:=e0.mod.nolimit.keeps λb o e=>(e0.bs b o e).1
 have hkind:∀y∈ps.zip us,scope.names.lookup y.1=some .local\/(scope.names.lookup y.1=some .cell/\((cellsFrom (s.heap.objs.size+1) scope.names []).lookup y.1).isSome=true):=λ⟨n,v⟩ hy=>by
  rcases S.par n (zbS hy).1 with q | q
  ·exact .inl q
  ·exact .inr ⟨q,zbX _ _ _ (.inl q)⟩
 refine codeAny_call_function hr.depth (KX _ _ lk) rfl S.co S.gen rfl (zdj KX hcd) (hb _ _ _ _ ?_)
 refine wpAny_newFunctionEnv_cells S.kind hkind λenv he s1 x=>?_
 subst he
 refine⟨lim.keeps x.toInCall.keep,codeAny_func ?_⟩
 obtain⟨t,ht,hq⟩:=hbody A outer s H vs Q E (hr.deeper _) hsp
 have I:qz (Qk CX P w K mg base N qual scope f cdv A outer s H E) [] (Ze N vs) H s1:=WK S hr.hd e0 hl r x
 refine wpAny_mono (ht [] s1 (Ze N vs) H _ I hq) (λfl s' hs=>?_) λe s' hs=>hs
 have fin:∀{σ':St} {H':Hp} {v:V} {u:Value},qz (Qk CX P w K mg base N qual scope f cdv A outer s H E) [] σ' H' s'->qY v u->Q v H'->CE outer P w H s Q u s':=
  λ{σ' H' v u} J rv q=>⟨v,H',J.os,J.bare,J.base,J.hok,rv,q⟩
 cases fl with
 | ret u=>
  obtain⟨v,σ',H',J,rv,q⟩:=hs
  exact fin J rv q
 | next=>
  obtain⟨σ',H',J,q⟩:=hs
  exact fin (v:=V.non) (u:=Value.none) J rfl q
 | brk=>
  obtain⟨_,_,_,q⟩:=hs
  exact False.elim q
 | cont=>
  obtain⟨_,_,_,q⟩:=hs
  exact False.elim q
section
variable{X:Cx}{x:Str}{p pos:Pos}{e:Expr}{es:List Expr}{t:TA}{id T:String}{r:List V->Hp->VK->Prop}
def Cq(r:List V->Hp->VK->Prop)(t:TA):TE:=λσ H Q=>t σ H λvs H1=>r vs H1 Q
theorem qu(hc:Ji X (.builtin id) r)(hg:Gl X x)(hm:X.mg x=none)(hv:bootBuiltins x=some (.builtin id))(ha:JA X (e::es) t)(hn:x≠"__name__":=by decide)(hdb:(x==("__debug__":Str))=false:=by decide)(he:starEach (e::es) X.env=(false,eval e X.env)::starEach es X.env:=by rfl)(hpl:(backTo pos (starEach es X.env)).any (·.1)=false:=by rfl):JE X (.Call (.Name x p) (e::es) [] pos) (Cq r t):=.of (by
 have ha:=ha.to
 intro pins s σ H Q I h
 refine wpAny_Call_Name_kw (Yn I hg hm hv ?_ hn hdb)
 exact PyProof.Rows.callWith_builtin1 (jm (ha pos pins s σ H _ I h) λus s1 ⟨vs,H1,I1,r1,q1⟩=>hc pins s1 σ H1 vs us Q I1 r1 q1) he hpl)
theorem QE(hc:Ji X (.type T) r)(hg:Gl X x)(hm:X.mg x=none)(hv:bootBuiltins x=some (.type T))(ha:JA X (e::es) t)(hn:x≠"__name__":=by decide)(hdb:(x==("__debug__":Str))=false:=by decide)(he:starEach (e::es) X.env=(false,eval e X.env)::starEach es X.env:=by rfl)(hpl:(backTo pos (starEach es X.env)).any (·.1)=false:=by rfl):JE X (.Call (.Name x p) (e::es) [] pos) (Cq r t):=.of (by
 have ha:=ha.to
 intro pins s σ H Q I h
 refine wpAny_Call_Name_kw (Yn I hg hm hv ?_ hn hdb)
 exact PyProof.Rows.callWith_type1 (jm (ha pos pins s σ H _ I h) λus s1 ⟨vs,H1,I1,r1,q1⟩=>hc pins s1 σ H1 vs us Q I1 r1 q1) he hpl)
end
end L2
namespace HT
open PySem PyProof.Rows
section
open PySem.SeqAt
open PySem.AutoSeq1 (wpAny_loadPart')
open PySem.MeetsSeq PySem.MeetsSeq2 PySem.MeetsSeq3
end
section
variable{prog:Program}{w:World}{A:Around}{E:Value->Shared->Prop}{s:Shared}
def sIx(n d:Nat):Option Int->Nat
 | none=>d
 | some v=>if v < 0 then (v+(n:Int)).toNat else min v.toNat n
theorem sIx_none(n d:Nat):sIx n d none=d:=rfl
theorem sIx_nat(n d k:Nat):sIx n d (some (k:Int))=min k n:=by
 show (if (k:Int) < 0 then ((k:Int)+(n:Int)).toNat else min (k:Int).toNat n)=min k n
 rw[if_neg (by omega),zbi]
end
end HT
namespace L2
open PySem PySem.Spec PyProof.Rows
abbrev TO:=St->Hp->(Option Int->Hp->Prop)->Prop
def PO(X:Cx)(e:Option Expr)(t:TO):Prop:=
 ∀(pins:List (Addr×Obj)) (s:Shared) (σ:St) (H:Hp) (Q:Option Int->Hp->Prop),qz X pins σ H s->t σ H Q->
  wpAny (model X.prog X.w) X.A (evalPart e X.env) (λu s'=>∃o H',qz X pins σ H' s'/\IsPart u o/\Q o H') X.xe s
@[irreducible] def JO (X:Cx) (e:Option Expr) (t:TO):Prop:=PO X e t
theorem JO.of{X:Cx}{e:Option Expr}{t:TO}(h:PO X e t):JO X e t:=by unfold JO;exact h
theorem JO.to{X:Cx}{e:Option Expr}{t:TO}(h:JO X e t):PO X e t:=by unfold JO at h;exact h
def ku:TO:=λ_ H Q=>Q none H
def Mt(t:TE):TO:=λσ H Q=>t σ H λx H1=>∃i,x=.int i/\Q (some i) H1
section
variable{X:Cx}{e:Expr}{te:TE}{lo hi:Option Expr}{tl th:TO}{pos p2:Pos}
theorem Qw:JO X none ku:=.of (by
 intro pins s σ H Q I h
 rw[evalPart_none]
 exact zdz ⟨none,H,I,.none,h⟩)
theorem Qv(h:JE X e te):JO X (some e) (Mt te):=.of (by
 have h:=h.to
 intro pins s σ H Q I hw
 rw[evalPart_some]
 refine jm (h pins s σ H _ I hw) λu s1 ⟨x,H1,I1,r1,q1⟩=>?_
 obtain⟨i,rfl,q⟩:=q1
 obtain⟨t,rfl⟩:=r1
 exact⟨some i,H1,I1,.int i t,q⟩)
def SlR(X:Cx)(r:V->Option Int->Option Int->Hp->VK->Prop):Prop:=
 ∀(pins:List (Addr×Obj)) (s:Shared) (σ:St) (H:Hp) (x:V) (v vl vu:Value) (lo hi:Option Int) (sl:Addr) (Q:VK),qz X pins σ H s->qY x v->s.heap.IsSliceOf sl vl vu .none->IsPart vl lo->IsPart vu hi->r x lo hi H Q->
  ∃T id,typeLookup (.type T) "__getitem__"=pure (some (.builtin id))/\s.TypeIs v T/\wpAny (model X.prog X.w) X.A (getItem v (.ref sl)) (EP X pins σ Q) X.xe s
def tSl(r:V->Option Int->Option Int->Hp->VK->Prop)(te:TE)(tl th:TO):TE:=λσ H Q=>te σ H λx H1=>tl σ H1 λl H2=>th σ H2 λu H3=>r x l u H3 Q
theorem jZ{r:V->Option Int->Option Int->Hp->VK->Prop}(hr:SlR X r)(he:JE X e te)(hl:JO X lo tl)(hu:JO X hi th):JE X (.Subscript e (.Slice lo hi none p2) pos) (tSl r te tl th):=.of (by
 have he:=he.to
 have hl:=hl.to
 have hu:=hu.to
 intro pins s σ H Q I h
 refine Subscript_ (jm (he pins s σ H _ I h) λv s1 ⟨x,H1,I1,r1,q1⟩=>?_)
 refine wpAny_Slice (jm (hl pins s1 σ H1 _ I1 q1) λvl s2 ⟨l,H2,I2,pl,q2⟩=>jm (hu pins s2 σ H2 _ I2 q2) λvu s3 ⟨u,H3,I3,pu,q3⟩=>?_)
 rw[evalPart_none]
 refine zdz ?_
 have I4:qz X pins σ H3 {s3 with heap:=s3.heap.push {cls:=.type "slice",data:=.fields #[vl,vu,.none]}}:=I3.kept (t':=s3.toks) λb ob q=>tz _ q
 obtain⟨T,id,hT,ht,hg⟩:=hr pins {s3 with heap:=s3.heap.push {cls:=.type "slice",data:=.fields #[vl,vu,.none]}} σ H3 x v vl vu l u s3.heap.objs.size Q I4 r1 (Heap.IsSliceOf.new ..) pl pu q3
 show wpAny (model X.prog X.w) X.A (subscriptTail e (.Slice lo hi none p2) v (.ref s3.heap.objs.size)) (EP X pins σ Q) X.xe {s3 with heap:=s3.heap.push {cls:=.type "slice",data:=.fields #[vl,vu,.none]}}
 exact tail_any (ops:=[.ref s3.heap.objs.size,v]) ht hT hg (by with_unfolding_all rfl))
def J7(xs:List V)(lo hi:Option Int):List V:=(xs.drop (HT.sIx xs.length 0 lo)).take (HT.sIx xs.length xs.length hi - HT.sIx xs.length 0 lo)
theorem UV(xs:List V)(lo hi:Option Int):(J7 xs lo hi).length<=xs.length:=by
 unfold J7
 rw[zag,zcd]
 omega
end
def M6(n:Nat)(i:Int):Option Nat:=if 0<=i then (if i < n then some i.toNat else none) else if -(n:Int)<=i then some (i+n).toNat else none
def yH{α:Type}(xs:List α)(i:Int):Option α:=(M6 xs.length i).bind λj=>xs[j]?
theorem NX{n:Nat}{i:Int}{j:Nat}(h:M6 n i=some j):seqIndex? i n=some j/\j < n/\-(n:Int)<=i/\i < n:=by
 unfold M6 at h
 by_cases h0:0<=i
 ·rw[if_pos h0]at h
  by_cases h1:i < n
  ·rw[if_pos h1]at h
   have e:i.toNat=j:=tX.inj h
   exact⟨by rw[seqIndex_of h0 h1,e],by omega,by omega,h1⟩
  ·rw[if_neg h1]at h;cases h
 ·rw[if_neg h0]at h
  by_cases h1:-(n:Int)<=i
  ·rw[if_pos h1]at h
   have e:(i+n).toNat=j:=tX.inj h
   exact⟨by rw[seqIndex_neg (by omega) h1,e],by omega,h1,by omega⟩
  ·rw[if_neg h1]at h;cases h
theorem atI_get{α:Type}{xs:List α}{i:Int}{v:α}(h:yH xs i=some v):∃j,seqIndex? i xs.length=some j/\xs[j]?=some v/\j < xs.length/\-(xs.length:Int)<=i/\i < xs.length:=by
 unfold yH at h
 cases e:M6 xs.length i with
 | none=>rw[e]at h;cases h
 | some j=>
  rw[e]at h
  obtain⟨h1,h2,h3,h4⟩:=NX e
  exact⟨j,h1,h,h2,h3,h4⟩
theorem Me{α:Type}{xs:List α}{j:Nat}{v:α}(h:xs[j]?=some v):yH xs (j:Int)=some v:=by
 have hj:j < xs.length:=(tq.mp h).1
 have e:M6 xs.length (j:Int)=some j:=by
  unfold M6
  rw[if_pos (by omega),if_pos (by omega)];simp
 unfold yH;rw[e];exact h
def Mh(b:Expr):Prop:=∀o i,subscripted b false o i=operate [o,i] (getItem o i)
def Fm(X:Cx)(r:R2):Prop:=
 ∀(value slice:Expr) (pins:List (Addr×Obj)) (s:Shared) (σ:St) (H:Hp) (x y:V) (v u:Value) (Q:VK),qz X pins σ H s->qY x v->qY y u->r x y H Q->
  subscripted slice false v u=operate [v,u] (getItem v u)->wpAny (model X.prog X.w) X.A (subscriptTail value slice v u) (EP X pins σ Q) X.xe s
def Cf(X:Cx)(id:String)(r:V->List V->Hp->VK->Prop):Prop:=
 ∀(pins:List (Addr×Obj)) (s:Shared) (σ:St) (H:Hp) (x:V) (xs:List V) (v:Value) (us:List Value) (Q:VK),qz X pins σ H s->qY x v->qR xs us->r x xs H Q->
  wpAny (model X.prog X.w) X.A (call (.builtin id) (v::us)) (EP X pins σ Q) X.xe s
section
variable{X:Cx}{a b:Expr}{ta tb:TE}{pos:Pos}
theorem qQ{r:R2}(hr:Fm X r)(ha:JE X a ta)(hb:JE X b tb)(hs:Mh b):JE X (.Subscript a b pos) (Xi r ta tb):=.of (by
 have ha:=ha.to
 have hb:=hb.to
 intro pins s σ H Q I h
 exact Subscript_ (BR ha hb I h λv u s2 x y H2 I2 rx ry q=>hr a b pins s2 σ H2 x y v u Q I2 rx ry q (hs _ _)))
def AK(K:zdw):R2:=λx y H Q=>∃p xs i v,x=.ref p/\y=.int i/\SqL K H p xs/\yH xs i=some v/\Q v H
def Us(K:zdw):R2:=λx y H Q=>∃p xs i v,x=.ref p/\y=.int i/\SqT K H p xs/\yH xs i=some v/\Q v H
theorem qP:Fm X (AK X.K):=by
 intro value slice pins s σ H x y v u Q I rx ry h hs
 obtain⟨p,xs,i,z,rfl,rfl,hq,he,q⟩:=h
 cases rx
 obtain⟨t,rfl⟩:=ry
 obtain⟨its,r,pl,hz⟩:=I.list hq
 obtain⟨j,h1,h2,h3,h4,h5⟩:=atI_get he
 obtain⟨w,ew,rw'⟩:=r.get h2
 have hl:=r.length
 have hn:=Vp
 have fin:EP X pins σ Q w s:=⟨z,H,I,rw',q⟩
 by_cases h0:0<=i
 ·have hj:i.toNat=j:=by
   rw[seqIndex_of h0 h5]at h1
   exact tX.inj h1
  exact item_listR pl.isList h0 (by omega) (by rw[hj];simpa using ew) fin hs
 ·have hj:(i+(its.toArray.size:Int)).toNat=j:=by
   rw[seqIndex_neg (by omega) h4]at h1
   rw[zah,<-hl]
   exact tX.inj h1
  exact subscriptTail_builtinR (x:=w) pl.isList.typeIs slot_list_getitem.lookup
   (wpAny_getItem_list_neg (Q:=λr s'=>r=w/\EP X pins σ Q r s') pl.isList (by omega) (by rw[zah]<;>omega) (by omega) (by rw[hj];simpa using ew) ⟨rfl,fin⟩) hs
theorem jI:Fm X (Us X.K):=by
 intro value slice pins s σ H x y v u Q I rx ry h hs
 obtain⟨p,xs,i,z,rfl,rfl,hq,he,q⟩:=h
 cases rx
 obtain⟨t,rfl⟩:=ry
 obtain⟨its,r,pl,hz⟩:=I.tuple hq
 obtain⟨j,h1,h2,h3,h4,h5⟩:=atI_get he
 obtain⟨w,ew,rw'⟩:=r.get h2
 have hl:=r.length
 have hn:=Vp
 have fin:EP X pins σ Q w s:=⟨z,H,I,rw',q⟩
 exact subscriptTail_builtinR (x:=w) pl.typeIs slot_tuple_getitem.lookup
  (getItem_tuple (j:=j) (Q:=λr s'=>r=w/\EP X pins σ Q r s') pl (by omega) (by omega) (by rw[zah,<-hl];exact h1) (by simpa using ew) ⟨rfl,fin⟩) hs
theorem Va(lo hi:Option Int)(n:Nat):(sliceBounds lo hi none n).1=((HT.sIx n 0 lo:Nat):Int)/\(sliceBounds lo hi none n).2.1=((HT.sIx n n hi:Nat):Int)/\(sliceBounds lo hi none n).2.2=1:=by
 refine⟨?_,?_,rfl⟩
 ·cases lo with
  | none=>simp [sliceBounds,HT.sIx]
  | some i=>
   simp only[sliceBounds,HT.sIx,zdt,show (1:Int) > 0 by decide,if_true]
   by_cases h:i < 0
   ·simp only[h,if_true]<;>omega
   ·simp only[h,if_false]<;>omega
 ·cases hi with
  | none=>simp [sliceBounds,HT.sIx]
  | some i=>
   simp only[sliceBounds,HT.sIx,zdt,show (1:Int) > 0 by decide,if_true]
   by_cases h:i < 0
   ·simp only[h,if_true]<;>omega
   ·simp only[h,if_false]<;>omega
theorem Wa(its:List Value)(lo hi:Option Int):slicePick its.toArray lo hi none=((its.drop (HT.sIx its.length 0 lo)).take (HT.sIx its.length its.length hi - HT.sIx its.length 0 lo)).toArray:=by
 obtain⟨h1,h2,h3⟩:=Va lo hi its.toArray.size
 unfold slicePick
 rw[h1,h2,h3]
 simp only[sliceRange_one,pick_run,zah]<;>rfl
def C5(K:zdw):V->Option Int->Option Int->Hp->VK->Prop:=λx lo hi H Q=>∃a xs,x=.ref a/\SqL K H a xs/\∀p,H p=none->Q (.ref p) (upd H p (.lst (J7 xs lo hi)))
theorem Qt:SlR X (C5 X.K):=by
 intro pins s σ H x v vl vu lo hi sl Q I rx hs pl pu h
 obtain⟨a,xs,rfl,hx,q⟩:=h
 cases rx
 obtain⟨its,r,ht,hz⟩:=I.list hx
 have hlen:=r.length
 refine⟨"list",_,slot_list_getitem.lookup,ht.isList.typeIs,?_⟩
 refine wpAny_getItem_list_slice ht.isList hs pl pu .none (by simp) ?_ (by rw[zah]<;>omega)
 rw[Wa,<-hlen]
 refine⟨.ref s.heap.objs.size,_,I.laid (t':=s.toks) (o:=.lst (J7 xs lo hi)) (λb ob q=>tz _ q) (tu _) ?_,rfl,q _ (I.hok.fresh (tu _))⟩
 exact⟨tM (UV xs lo hi) hz,_,0,(r.drop (HT.sIx xs.length 0 lo)).take (HT.sIx xs.length xs.length hi - HT.sIx xs.length 0 lo),zae _ rfl⟩
def JK:V->Bool
 | .non=>true
 | .bl _=>true
 | .int _=>true
 | .str _=>true
 | _=>false
def yw:V->V->Bool
 | .non,.non=>true
 | .bl a,.bl b=>a==b
 | .bl a,.int b=>(if a then 1 else 0)==b
 | .int a,.bl b=>a==(if b then 1 else 0)
 | .int a,.int b=>a==b
 | .str a,.str b=>a==b
 | _,_=>false
theorem vX{A:Around}{s:Shared}{y x:V}{u v:Value}(ry:qY y u)(rx:qY x v)(fy:JK y=true)(fx:JK x=true):SeqAt.EqAt A s u v (yw y x):=by
 cases y with
 | non=>
  cases ry
  cases x with
  | non=>cases rx;exact SeqAt.EqAt.same _
  | bl b=>cases rx;exact SeqAt.EqAt.none_bool b
  | int b=>obtain⟨t,rfl⟩:=rx;exact SeqAt.EqAt.none_int b t
  | str b=>obtain⟨t,rfl⟩:=rx;exact SeqAt.EqAt.none_str b t
  | _=>exact absurd (show false=true from fx) tS
 | bl a=>
  cases ry
  cases x with
  | non=>cases rx;exact SeqAt.EqAt.bool_none a
  | bl b=>cases rx;exact SeqAt.EqAt.bool_bool a b
  | int b=>obtain⟨t,rfl⟩:=rx;exact SeqAt.EqAt.bool_int a b t
  | str b=>obtain⟨t,rfl⟩:=rx;exact SeqAt.EqAt.bool_str a b t
  | _=>exact absurd (show false=true from fx) tS
 | int a=>
  obtain⟨t',rfl⟩:=ry
  cases x with
  | non=>cases rx;exact SeqAt.EqAt.int_none a t'
  | bl b=>cases rx;exact SeqAt.EqAt.int_bool a t' b
  | int b=>obtain⟨t,rfl⟩:=rx;exact SeqAt.EqAt.int_int a t' b t
  | str b=>obtain⟨t,rfl⟩:=rx;exact SeqAt.EqAt.int_str a t' b t
  | _=>exact absurd (show false=true from fx) tS
 | str a=>
  obtain⟨t',rfl⟩:=ry
  cases x with
  | non=>cases rx;exact SeqAt.EqAt.str_none a t'
  | bl b=>cases rx;exact SeqAt.EqAt.str_bool a t' b
  | int b=>obtain⟨t,rfl⟩:=rx;exact SeqAt.EqAt.str_int a t' b t
  | str b=>obtain⟨t,rfl⟩:=rx;exact SeqAt.EqAt.str_str a t' b t
  | _=>exact absurd (show false=true from fx) tS
 | _=>exact absurd (show false=true from fy) tS
def vW(x:V)(u:Value):Bool:=match u with
 | .none=>yw .non x
 | .bool b=>yw (.bl b) x
 | .int i _=>yw (.int i) x
 | .str z _=>yw (.str z) x
 | _=>false
theorem Go{x y:V}{u:Value}(r:qY y u)(f:JK y=true):vW x u=yw y x:=by
 cases y with
 | non=>cases r;rfl
 | bl b=>cases r;rfl
 | int i=>obtain⟨t,rfl⟩:=r;rfl
 | str z=>obtain⟨t,rfl⟩:=r;rfl
 | _=>exact absurd (show false=true from f) tS
theorem zQ{x:V}:∀{xs:List V} {us:List Value},qR xs us->xs.all JK=true->us.any (vW x)=xs.any λy=>yw y x
 | _,_,.nil,_=>rfl
 | y::xs,u::us,.cons r t,f=>by
  rw[zcJ,zaa]at f
  rw[zcf,zcf,Go r f.1,zQ t f.2]
theorem Zz{A:Around}{s:Shared}{x:V}{v:Value}(rx:qY x v)(fx:JK x=true):∀{xs:List V} {us:List Value},qR xs us->xs.all JK=true->∀u∈us,SeqAt.EqAt A s u v (vW x u)
 | _,_,.nil,_=>λu hu=>by cases hu
 | y::xs,u::us,.cons r t,f=>λu' hu=>by
  rw[zcJ,zaa]at f
  rcases tJ.mp hu with rfl | hu
  ·rw[Go r f.1];exact vX r rx f.1 fx
  ·exact Zz rx fx t f.2 u' hu
def Yu(x:V)(xs:List V):Bool:=xs.any λy=>yw y x
def C7(K:zdw)(neg:Bool):R2:=λx y H Q=>∃p xs,y=.ref p/\(SqL K H p xs\/SqT K H p xs)/\JK x=true/\xs.all JK=true/\Q (.bl (if neg then !Yu x xs else Yu x xs)) H
theorem JB:ZZ X (compareOp .In) (C7 X.K false):=by
 intro pins s σ H x y v u Q I rx ry h
 obtain⟨p,xs,rfl,hq,fx,fs,q⟩:=h
 cases ry
 rcases hq with hq | hq
 ·obtain⟨its,r,pl,hz⟩:=I.list hq
  refine SeqAt.in_listAt (vW x) pl.isList (λw hw=>Zz rx fx r fs w (by simpa using hw)) ⟨.bl _,H,I,rfl,?_⟩
  rw[show its.toArray.any (vW x)=its.any (vW x) by simp,zQ r fs]
  exact q
 ·obtain⟨its,r,pl,hz⟩:=I.tuple hq
  refine SeqAt.in_tupleAt (vW x) pl (λw hw=>Zz rx fx r fs w (by simpa using hw)) ⟨.bl _,H,I,rfl,?_⟩
  rw[show its.toArray.any (vW x)=its.any (vW x) by simp,zQ r fs]
  exact q
theorem Q2:ZZ X (compareOp .NotIn) (C7 X.K true):=by
 intro pins s σ H x y v u Q I rx ry h
 obtain⟨p,xs,rfl,hq,fx,fs,q⟩:=h
 cases ry
 rcases hq with hq | hq
 ·obtain⟨its,r,pl,hz⟩:=I.list hq
  refine SeqAt.notIn_listAt (vW x) pl.isList (λw hw=>Zz rx fx r fs w (by simpa using hw)) ⟨.bl _,H,I,rfl,?_⟩
  rw[show its.toArray.any (vW x)=its.any (vW x) by simp,zQ r fs]
  exact q
 ·obtain⟨its,r,pl,hz⟩:=I.tuple hq
  refine SeqAt.notIn_tupleAt (vW x) pl (λw hw=>Zz rx fx r fs w (by simpa using hw)) ⟨.bl _,H,I,rfl,?_⟩
  rw[show its.toArray.any (vW x)=its.any (vW x) by simp,zQ r fs]
  exact q
theorem qB:Ji X (.builtin "len") (λxs H Q=>∃p ys,xs=[.ref p]/\(SqL X.K H p ys\/SqT X.K H p ys)/\Q (.int ys.length) H):=by
 intro pins s σ H xs us Q I r h
 obtain⟨p,ys,rfl,hq,q⟩:=h
 obtain⟨u,rfl,rx⟩:=Zn r
 cases rx
 have hn:=Vp
 rcases hq with hq | hq
 ·obtain⟨its,r',pl,hz⟩:=I.list hq
  have hlen:=r'.length
  exact Calls.call_len_list pl.isList (by simp only[zah]<;>omega) ⟨.int ys.length,H,I.tok _,⟨s.toks+1,by rw[zah,hlen]⟩,q⟩
 ·obtain⟨its,r',pl,hz⟩:=I.tuple hq
  have hlen:=r'.length
  exact len_tuple pl (by simp only[zah]<;>omega) ⟨.int ys.length,H,I.tok _,⟨s.toks+1,by rw[zah,hlen]⟩,q⟩
theorem Q3:Ji X (.builtin "len") (λxs H Q=>∃z,xs=[.str z]/\z.length<=zdB/\Q (.int z.length) H):=by
 intro pins s σ H xs us Q I r h
 obtain⟨z,rfl,hz,q⟩:=h
 obtain⟨u,rfl,t,rfl⟩:=Zn r
 have hn:=Vp
 exact len_str (by omega) ⟨.int z.length,H,I.tok _,⟨_,rfl⟩,q⟩
theorem J8:Ji X (.type "list") (λxs H Q=>∃p ys,xs=[.ref p]/\(SqL X.K H p ys\/SqT X.K H p ys)/\∀l,H l=none->Q (.ref l) (upd H l (.lst ys))):=by
 intro pins s σ H xs us Q I r h
 obtain⟨p,ys,rfl,hq,q⟩:=h
 obtain⟨u,rfl,rx⟩:=Zn r
 cases rx
 have fin:∀(its:List Value),qR ys its->ys.length<=zdB->∀(h':Heap) (c':Nat),(∀b o',s.heap.get? b=some o'->h'.get? b=some o')->
   h'.get? s.heap.objs.size=some {cls:=.type "list",dict:=none,data:=.seq its.toArray c',slots:=#[]}->EP X pins σ Q (.ref s.heap.objs.size) {s with heap:=h'}:=λits r' hz h' c' kp e=>
  ⟨.ref s.heap.objs.size,_,I.laid (t':=s.toks) kp (tu _) (show qK X.prog X.w _ h' _ (.lst ys) from⟨hz,its,c',r',e⟩),rfl,q _ (I.hok.fresh (tu _))⟩
 rcases hq with hq | hq
 ·obtain⟨its,r',pl,hz⟩:=I.list hq
  have hlen:=r'.length
  obtain⟨o,ho,hc,n,hd⟩:=pl.isList
  exact call_list_seq p (.inl rfl) ho hc hd (λh' c' kp e=>fin its r' hz h' c' kp e) (by simp only[zah]<;>omega)
 ·obtain⟨its,r',pl,hz⟩:=I.tuple hq
  have hlen:=r'.length
  obtain⟨o,ho,hc,n,hd⟩:=pl
  exact call_list_seq p (.inr rfl) ho hc hd (λh' c' kp e=>fin its r' hz h' c' kp e) (by simp only[zah]<;>omega)
theorem Z5:Ji X (.type "tuple") (λxs H Q=>∃p ys,xs=[.ref p]/\((SqL X.K H p ys/\∀l,H l=none->Q (.ref l) (upd H l (.tup ys)))\/(SqT X.K H p ys/\Q (.ref p) H))):=by
 intro pins s σ H xs us Q I r h
 obtain⟨p,ys,rfl,h⟩:=h
 obtain⟨u,rfl,rx⟩:=Zn r
 cases rx
 rcases h with ⟨hq,q⟩ | ⟨hq,q⟩
 ·obtain⟨its,r',pl,hz⟩:=I.list hq
  have hlen:=r'.length
  refine call_tuple_list pl.isList (λh' kp=>?_) (by simp only[zah]<;>omega)
  have I1:qz X pins σ H {s with heap:=h'}:=I.kept (t':=s.toks) kp
  have I2:qz X pins σ (upd H h'.objs.size (.tup ys)) {s with heap:=h'.push {cls:=.type "tuple",data:=.seq its.toArray}}:=
   I1.laid (t':=s.toks) (λb o e=>tz _ e) (tu _) (show qK X.prog X.w _ _ _ (.tup ys) from⟨hz,its,r',IsTup.new _ _⟩)
  exact⟨.ref h'.objs.size,_,I2,rfl,q _ (I1.hok.fresh (tu _))⟩
 ·obtain⟨its,r',pl,hz⟩:=I.tuple hq
  exact call_tuple_same pl ⟨.ref p,H,I,rfl,q⟩
def D5(K:zdw)(T:String)(x:V)(H:Hp):Prop:=match x with
 | .str _=>T="str"
 | .int _=>T="int"
 | .ref p=>(T="list"/\∃xs,SqL K H p xs)\/(T="tuple"/\∃o,K.lookup p=some o/\o.cls=.type "tuple"/\o.dict=none)\/
  (T="dict"/\((∃kvs,H p=some (.dK kvs))\/∃kvs,H p=some (.dT kvs)))\/(T="set"/\∃S n,H p=some (.set S n))
 | _=>False
theorem wD{pins:List (Addr×Obj)}{σ:St}{H:Hp}{s:Shared}{T:String}{x:V}{v:Value}(I:qz X pins σ H s)(r:qY x v)(ty:D5 X.K T x H):
  s.TypeIs v T/\∀a,v=.ref a->∃ob,s.heap.get? a=some ob/\ob.dict=none:=by
 cases x with
 | str z=>
  obtain⟨t,rfl⟩:=r
  cases (show T="str" from ty)
  exact⟨typeIs_str s z t,λ_ e=>nomatch e⟩
 | int i=>
  obtain⟨t,rfl⟩:=r
  cases (show T="int" from ty)
  exact⟨typeIs_int s i t,λ_ e=>nomatch e⟩
 | ref p=>
  cases r
  rcases ty with ⟨rfl,xs,hq⟩ | ⟨rfl,o,hk,hc,hd⟩ | ⟨rfl,hk⟩ | ⟨rfl,S,n,hk⟩
  ·obtain⟨its,_,pl,_⟩:=I.list hq
   refine⟨pl.isList.typeIs,λa e=>?_⟩
   cases e
   obtain⟨o,n,e,c,hd,_⟩:=pl
   exact⟨o,e,hd⟩
  ·refine⟨⟨o,I.kIn p o hk,hc⟩,λa e=>?_⟩
   cases e
   exact⟨o,I.kIn _ o hk,hd⟩
  ·have z:∃o,s.heap.get? p=some o/\o.ExactDict:=by
    rcases hk with ⟨kvs,hk⟩ | ⟨kvs,hk⟩
    ·obtain⟨_,_,_,_,o,_,_,e,ex,_⟩:=I.hok p _ hk
     exact⟨o,e,ex⟩
    ·obtain⟨_,_,_,_,o,_,_,e,ex,_⟩:=I.hok p _ hk
     exact⟨o,e,ex⟩
   obtain⟨o,e,ex⟩:=z
   refine⟨⟨o,e,ex.1⟩,λa e2=>?_⟩
   cases e2
   exact⟨o,e,ex.2.1⟩
  ·obtain⟨o,_,_,_,e,ex,_⟩:=I.hok p _ hk
   refine⟨⟨o,e,ex.1⟩,λa e2=>?_⟩
   cases e2
   exact⟨o,e,ex.2.1⟩
 | _=>exact False.elim ty
def Ea(K:zdw)(T:String)(r:V->List V->Hp->VK->Prop)(to:TE):TE:=λσ H Q=>to σ H λx H1=>D5 K T x H1/\r x [] H1 Q
def Eb(K:zdw)(T:String)(r:V->List V->Hp->VK->Prop)(to:TE)(t:TA):TE:=λσ H Q=>to σ H λx H1=>D5 K T x H1/\t σ H1 λxs H2=>r x xs H2 Q
variable{o e:Expr}{es:List Expr}{to:TE}{t:TA}{name:Str}{apos cpos:Pos}{T id:String}{r:V->List V->Hp->VK->Prop}
theorem BH(pa:PlainAttrs T)(slot:Slot T name id)(hty:typeOf (.builtin id)=pure (.type "method_descriptor"))(hm:Cf X id r)(ho:JE X o to)(hbase:attributeBase o name X.env (eval o X.env)=eval o X.env:=by rfl)(hline:(apos.endLine==cpos.line)=true:=by rfl):JE X (.Call (.Attribute o name apos) [] [] cpos) (Ea X.K T r to):=.of (by
 have ho:=ho.to
 intro pins s σ H Q I h
 refine wpAny_Call_method0_late hbase hline (jm (ho pins s σ H _ I h) λv s1 ⟨x,H1,I1,r1,ty,q1⟩=>?_)
 obtain⟨h1,h2⟩:=wD I1 r1 ty
 exact⟨T,id,pa,slot,hty,h1,h2,Calls.callWith_builtin rfl (PySem.evalArgs_none (hm pins s1 σ H1 x [] v [] Q I1 r1 .nil q1))⟩)
theorem Db(pa:PlainAttrs T)(slot:Slot T name id)(hty:typeOf (.builtin id)=pure (.type "method_descriptor"))(hm:Cf X id r)(ho:PE X o to)(ha:PA X (e::es) t)
  (hbase:attributeBase o name X.env (eval o X.env)=eval o X.env:=by rfl)
  (hfew:((backTo cpos (starEach (e::es) X.env)).all (λx=> !x.1)&&(backToKw cpos (keywordEach [] X.env)).all (λx=>x.1.isSome)
   &&decide ((e::es).length+([]:List Keyword).length+(if ([]:List Keyword).isEmpty then 0 else 1) < 30))=true:=by rfl)
  (hline:(apos.endLine==cpos.line)=true:=by rfl) (hs:starEach (e::es) X.env=(false,eval e X.env)::starEach es X.env:=by rfl) (hplain:(backTo cpos (starEach es X.env)).any (·.1)=false:=by rfl):
  PE X (.Call (.Attribute o name apos) (e::es) [] cpos) (Eb X.K T r to t):=by
 intro pins s σ H Q I h
 refine wpAny_Call_method_late hbase hfew hline rfl (jm (ho pins s σ H _ I h) λv s1 ⟨x,H1,I1,r1,ty,q1⟩=>?_)
 obtain⟨h1,h2⟩:=wD I1 r1 ty
 refine⟨T,id,pa,slot,hty,h1,h2,?_⟩
 have hA:=ha cpos pins s1 σ H1 _ I1 q1
 rw[hs]at hA ⊢
 refine Calls.callWith_builtin (by show (false || (backTo cpos (starEach es X.env)).any (·.1))=false;rw[hplain]<;>rfl) (Calls.evalArgs_plain ?_)
 exact jm hA λus s2 ⟨vs,H2,I2,r2,q2⟩=>hm pins s2 σ H2 x vs v us Q I2 r1 r2 q2
theorem QG(pa:PlainAttrs T)(slot:Slot T name id)(hty:typeOf (.builtin id)=pure (.type "method_descriptor"))(hm:Cf X id r)(ho:JE X o to)(ha:JA X (e::es) t)(hbase:attributeBase o name X.env (eval o X.env)=eval o X.env:=by rfl) (hfew:((backTo cpos (starEach (e::es) X.env)).all (λx=> !x.1)&&(backToKw cpos (keywordEach [] X.env)).all (λx=>x.1.isSome)
 &&decide ((e::es).length+([]:List Keyword).length+(if ([]:List Keyword).isEmpty then 0 else 1) < 30))=true:=by rfl) (hline:(apos.endLine==cpos.line)=true:=by rfl) (hs:starEach (e::es) X.env=(false,eval e X.env)::starEach es X.env:=by rfl) (hplain:(backTo cpos (starEach es X.env)).any (·.1)=false:=by rfl):JE X (.Call (.Attribute o name apos) (e::es) [] cpos) (Eb X.K T r to t):=.of (Db pa slot hty hm ho.to ha.to hbase hfew hline hs hplain)
end
def MtM(X:Cx)(id:String)(r:V->List V->Hp->VK->Prop):Prop:=
 ∀(pins:List (Addr×Obj)) (s:Shared) (σ:St) (H:Hp) (x:V) (xs:List V) (v:Value) (us:List Value) (Q:VK),qz X pins σ H s->qY x v->qR xs us->r x xs H Q->
  wpAny (model X.prog X.w) X.A (call (.builtin id) (v::us)) (EP X pins σ Q) X.xe s
theorem qR.one:∀{x:V} {us:List Value},qR [x] us->∃u,us=[u]/\qY x u
 | _,_,.cons r .nil=>⟨_,rfl,r⟩
section
variable{X:Cx}{pins:List (Addr×Obj)}{σ:St}{H:Hp}{s:Shared}{l b:Addr}{xs ys zs:List V}
theorem qz.lset{its its':List Value}{n:Nat}{f:Array Value->Array Value}{t':Nat}(I:qz X pins σ H s)(hH:H l=some (.lst xs))
  (e:s.heap.get? l=some {cls:=.type "list",data:=.seq its.toArray n}) (hf:f its.toArray=its'.toArray) (hv:qR ys its') (hz:ys.length<=zdB):
  qz X pins σ (upd H l (.lst ys)) {s with heap:=s.heap.update l (Obj.mapSeq f),toks:=t'}:=by
 have q:=PySem.IsL.update e f
 rw[hf]at q
 refine I.write (x:=l) (e:=l) (by rw[hH];exact trivial) (.inl rfl) (λb' u hb hu=>(zaE s.heap (Obj.mapSeq f) (Ne.symm hb)).trans hu) ⟨_,q⟩ ?_
 exact⟨hz,its',_,hv,q⟩
theorem qz.lnew{its:List Value}{t':Nat}(I:qz X pins σ H s)(hv:qR ys its)(hz:ys.length<=zdB):
  qz X pins σ (upd H s.heap.objs.size (.lst ys)) {s with heap:=s.heap.push {cls:=.type "list",data:=.seq its.toArray},toks:=t'}:=
 I.laid (λ_ _ q=>tz _ q) (tu _) ⟨hz,its,0,hv,zae _ rfl⟩
theorem qz.fresh(I:qz X pins σ H s):H s.heap.objs.size=none:=I.hok.fresh (tu _)
theorem qz.lstM(I:qz X pins σ H s)(hH:H l=some (.lst xs)):xs.length<=zdB/\∃(its:List Value) (n:Nat),qR xs its/\xs.length=its.length/\s.heap.get? l=some {cls:=.type "list",data:=.seq its.toArray n}:=by
 obtain⟨z,its,n,r,e⟩:=I.hok l _ hH
 exact⟨z,its,n,r,r.length,e⟩
theorem Kr{n:Nat}(h:n<=zdB):Builtin.List.listTooLong n=false:=by
 unfold Builtin.List.listTooLong
 exact decide_eq_false (by omega)
end
section
variable{X:Cx}
def Na:V->List V->Hp->VK->Prop:=λx vs H Q=>∃l xs y,x=.ref l/\vs=[y]/\H l=some (.lst xs)/\xs.length < zdB/\Q .non (upd H l (.lst (xs++[y])))
theorem WB:MtM X "list.append" Na:=by
 intro pins s σ H x vs v us Q I rx rv h
 obtain⟨l,xs,y,rfl,rfl,hH,hz,q⟩:=h
 cases rx
 obtain⟨u,rfl,ru⟩:=rv.one
 obtain⟨z,its,n,r,hl,e⟩:=I.lstM hH
 refine call_meets F.slot_list_append ⟨_,e,rfl⟩ F.entry_list_append (F.args_list_append_2 _ _) (PySem.list_append l its.toArray n u (by rw[zah];omega)) ⟨e,?_⟩
 refine⟨.non,_,I.lset (its':=its++[u]) hH e (by simp) (r.append (.cons ru .nil)) ?_,rfl,q⟩
 rw[tR,zbE]
 omega
def R9:V->List V->Hp->VK->Prop:=λx vs H Q=>∃l b xs zs,x=.ref l/\vs=[.ref b]/\H l=some (.lst xs)/\H b=some (.lst zs)/\xs.length+zs.length<=zdB/\Q .non (upd H l (.lst (xs++zs)))
theorem xC:MtM X "list.extend" R9:=by
 intro pins s σ H x vs v us Q I rx rv h
 obtain⟨l,b,xs,zs,rfl,rfl,hH,hB,hz,q⟩:=h
 cases rx
 obtain⟨u,rfl,ru⟩:=rv.one
 cases ru
 obtain⟨z,its,n,r,hl,e⟩:=I.lstM hH
 obtain⟨z2,its2,n2,r2,hl2,e2⟩:=I.lstM hB
 have hsz:its.toArray.size+its2.toArray.size<=zdB:=by rw[zah,zah];omega
 have hlong:¬(!its.toArray.isEmpty&&Builtin.List.listTooLong (its.toArray.size+its2.toArray.size))=true:=by
  rw[Kr hsz,zdd]
  exact tS
 refine call_meets F.slot_list_extend ⟨_,e,rfl⟩ F.entry_list_extend (F.args_list_extend_2 _ _)
  (AutoSeq1.list_extend_list_list_0 l its.toArray n b its2.toArray n2 hlong (by rw[zah];omega) (by omega)) ⟨e,e2,?_⟩
 refine⟨.non,_,I.lset (its':=its++its2) hH e (by simp) (r.append r2) ?_,rfl,q⟩
 rw[tR]
 omega
def EF:R2:=λx y H Q=>∃l b xs zs,x=.ref l/\y=.ref b/\H l=some (.lst xs)/\H b=some (.lst zs)/\xs.length+zs.length<=zdB/\∀p,H p=none->Q (.ref p) (upd H p (.lst (xs++zs)))
theorem AU:ZZ X (binaryOp .Add) EF:=by
 intro pins s σ H x y v u Q I rx ry h
 obtain⟨l,b,xs,zs,rfl,rfl,hH,hB,hz,q⟩:=h
 cases rx
 cases ry
 obtain⟨z,its,n,r,hl,e⟩:=I.lstM hH
 obtain⟨z2,its2,n2,r2,hl2,e2⟩:=I.lstM hB
 refine PySem.P.add_list e e2 ?_ (by rw[zah,zah];omega)
 have ea:its.toArray++its2.toArray=(its++its2).toArray:=by simp
 rw[ea]
 exact⟨.ref _,_,I.lnew (t':=s.toks) (r.append r2) (by rw[tR];omega),rfl,q _ I.fresh⟩
end
section
variable{prog:Program}{w:World}{A:Around}{E:Value->Shared->Prop}{s:Shared}
set_option maxRecDepth 100000 in
end
section
variable{X:Cx}
end
section
variable{κ:Type}[DecidableEq κ]
def jc(kvs:List (κ×V))(k:κ):Option V:=(kvs.find? λkv=>decide (kv.1=k)).map (·.2)
def Qn(kvs:List (κ×V))(k:κ)(v:V):List (κ×V):=
 if (kvs.any λkv=>decide (kv.1=k))=true then kvs.map (λkv=>if kv.1=k then (kv.1,v) else kv) else kvs++[(k,v)]
theorem jK{p:κ×V}{r:List (κ×V)}{k:κ}(e:p.1=k):jc (p::r) k=some p.2:=by simp [jc,zaY,e]
theorem jL{p:κ×V}{r:List (κ×V)}{k:κ}(e:¬p.1=k):jc (p::r) k=jc r k:=by simp [jc,zaY,e]
theorem QU(k:κ):∀kvs:List (κ×V),(kvs.any λkv=>decide (kv.1=k))=(jc kvs k).isSome
 | []=>rfl
 | p::r=>by
  rw[zcf]
  by_cases e:p.1=k
  ·simp only[jK e,decide_eq_true e,Bool.true_or,Option.isSome_some]
  ·rw[jL e,decide_eq_false e,Bool.false_or];exact QU k r
theorem VP(k j:κ)(y:V):∀kvs:List (κ×V),jc (kvs.map λkv=>if kv.1=k then (kv.1,y) else kv) j=(jc kvs j).map λx=>if j=k then y else x
 | []=>rfl
 | p::r=>by
  have ih:=VP k j y r
  rw[tL]
  by_cases h:p.1=k
  ·rw[if_pos h]
   by_cases e:p.1=j
   ·rw[jK (p:=(p.1,y)) e,jK e,zck,if_pos (e.symm.trans h)]
   ·rw[jL (p:=(p.1,y)) e,jL e,ih]
  ·rw[if_neg h]
   by_cases e:p.1=j
   ·rw[jK (p:=p) e,jK e,zck,if_neg (λz=>h (e.trans z))]
   ·rw[jL (p:=p) e,jL e,ih]
theorem Wh(k j:κ)(y:V):∀kvs:List (κ×V),jc kvs k=none->jc (kvs++[(k,y)]) j=if j=k then some y else jc kvs j
 | [],_=>by
  by_cases e:k=j
  ·rw[if_pos e.symm];exact jK (p:=(k,y)) e
  ·rw[if_neg (λz=>e z.symm)];exact jL (p:=(k,y)) e
 | p::r,hn=>by
  rw[zcN]
  have hk:¬p.1=k:=λz=>by rw[jK z]at hn;cases hn
  rw[jL hk]at hn
  have ih:=Wh k j y r hn
  by_cases e:p.1=j
  ·rw[jK e,jK e,if_neg (λz=>hk (e.trans z))]
  ·rw[jL e,jL e,ih]
theorem Jt(kvs:List (κ×V))(k j:κ)(y:V):jc (Qn kvs k y) j=if j=k then some y else jc kvs j:=by
 unfold Qn
 by_cases a:(kvs.any λkv=>decide (kv.1=k))=true
 ·rw[if_pos a,VP]
  rw[QU]at a
  by_cases e:j=k
  ·obtain⟨x,hx⟩:=zbQ.mp a
   rw[if_pos e,e,hx,zck,if_pos rfl]
  ·rw[if_neg e]
   cases jc kvs j with
   | none=>rfl
   | some x=>rw[zck,if_neg e]
 ·rw[if_neg a]
  refine Wh k j y kvs ?_
  rw[QU]at a
  cases q:jc kvs k with
  | none=>rfl
  | some x=>rw[q]at a;exact(a rfl).elim
theorem Jn(kvs:List (κ×V))(k:κ)(v:V):(Qn kvs k v).length<=kvs.length+1:=by
 unfold Qn
 split
 ·rw[tj];omega
 ·rw[tR,tP,List.length_nil];omega
theorem zE{kvs:List (κ×V)}{k:κ}(v:V)(h:jc kvs k=none):Qn kvs k v=kvs++[(k,v)]:=by
 unfold Qn
 rw[QU,h]
 exact if_neg (by decide)
theorem JM.isSome_eq{o:Option V}{u:Option Value}(r:JM o u):o.isSome=u.isSome:=by
 cases o with
 | none=>cases u with
  | none=>rfl
  | some _=>exact(show False from r).elim
 | some _=>cases u with
  | none=>exact(show False from r).elim
  | some _=>rfl
theorem KV.val{kvs:List (κ×V)}{vs:List (κ×Value)}(r:KV kvs vs)(k:κ):JM (jc kvs k) (valueAt vs k):=by
 unfold KV at r
 induction r with
 | nil=>exact True.intro
 | @cons p q ps qs h t ih=>
  obtain⟨h1,h2⟩:=h
  by_cases e:p.1=k
  ·have e':q.1=k:=h1.symm.trans e
   have b:valueAt (q::qs) k=some q.2:=by simp [valueAt,zaY,e']
   rw[jK e,b];exact h2
  ·have e':¬q.1=k:=λz=>e (h1.trans z)
   have b:valueAt (q::qs) k=valueAt qs k:=by simp [valueAt,zaY,e']
   rw[jL e,b];exact ih
theorem KV.any{kvs:List (κ×V)}{vs:List (κ×Value)}(r:KV kvs vs)(k:κ):(kvs.any λkv=>decide (kv.1=k))=vs.any λkv=>decide (kv.1=k):=by
 unfold KV at r
 induction r with
 | nil=>rfl
 | cons h t ih=>rw[zcf,zcf,ih,h.1]
theorem KV.repl{kvs:List (κ×V)}{vs:List (κ×Value)}(r:KV kvs vs)(k:κ){y:V}{u:Value}(ry:qY y u):
  KV (kvs.map λkv=>if kv.1=k then (kv.1,y) else kv) (vs.map λkv=>if kv.1=k then (kv.1,u) else kv):=by
 unfold KV at r ⊢
 induction r with
 | nil=>exact .nil
 | @cons p q ps qs h t ih=>
  rw[tL,tL]
  refine .cons ?_ ih
  obtain⟨h1,h2⟩:=h
  by_cases e:p.1=k
  ·rw[if_pos e,if_pos (h1.symm.trans e)];exact⟨h1,ry⟩
  ·rw[if_neg e,if_neg (λz=>e (h1.trans z))];exact⟨h1,h2⟩
theorem KV.put{kvs:List (κ×V)}{vs:List (κ×Value)}(r:KV kvs vs)(k:κ){y:V}{u:Value}(ry:qY y u):KV (Qn kvs k y) (stored vs k u):=by
 unfold Qn stored
 rw[r.any k]
 by_cases e:(vs.any λkv=>decide (kv.1=k))=true
 ·rw[if_pos e,if_pos e];exact r.repl k ry
 ·rw[if_neg e,if_neg e];exact Paired.snoc r ⟨rfl,ry⟩
theorem KV.length{kvs:List (κ×V)}{vs:List (κ×Value)}(r:KV kvs vs):kvs.length=vs.length:=Paired.length r
end
theorem Z3{P:Program}{w:World}{k:qG}{u:Value}(r:qY (kV k) u):(jq P w).is k u=true:=by
 cases k with
 | inl i=>obtain⟨t,e⟩:=(show ∃t,u=Value.int i t from r);subst e;exact UD P w i t
 | inr x=>obtain⟨t,e⟩:=(show ∃t,u=Value.str x t from r);subst e;exact UC P w x t
theorem WJ{P:Program}{w:World}:∀{ks:List qG} {us:List Value},qR (ks.map kV) us->ItemsAre (jq P w) ks us
 | [],_,r=>by rw[zcr]at r;cases r;exact .nil
 | k::ks,_,r=>by
  rw[tL]at r
  cases r with
  | cons h t=>exact .cons (Z3 h) (WJ t)
abbrev KT(H:Hp):List (List qG×V)->List (List qG×Addr×Value)->Prop:=Paired λp q=>p.1=q.1/\H q.2.1=some (.tup (p.1.map kV))/\qY p.2 q.2.2
theorem KT.val{H:Hp}{kvs:List (List qG×V)}{xs:List (List qG×Addr×Value)}(r:KT H kvs xs)(k:List qG):JM (jc kvs k) ((atKey xs k).map (·.2)):=by
 induction r with
 | nil=>exact True.intro
 | @cons p q ps qs h t ih=>
  obtain⟨h1,_,h2⟩:=h
  by_cases e:p.1=k
  ·have e':q.1=k:=h1.symm.trans e
   have b:atKey (q::qs) k=some q.2:=by simp [atKey,zaY,e']
   rw[jK e,b];exact h2
  ·have e':¬q.1=k:=λz=>e (h1.trans z)
   have b:atKey (q::qs) k=atKey qs k:=by simp [atKey,zaY,e']
   rw[jL e,b];exact ih
theorem KT.repl{H:Hp}{kvs:List (List qG×V)}{xs:List (List qG×Addr×Value)}(r:KT H kvs xs)(k:List qG){y:V}{u:Value}(ry:qY y u):
  KT H (kvs.map λkv=>if kv.1=k then (kv.1,y) else kv) (xs.map (putAt k u)):=by
 induction r with
 | nil=>exact .nil
 | @cons p q ps qs h t ih=>
  rw[tL,tL]
  refine .cons ?_ ih
  obtain⟨h1,h2,h3⟩:=h
  unfold putAt
  by_cases e:p.1=k
  ·rw[if_pos e,if_pos (h1.symm.trans e)];exact⟨h1,h2,ry⟩
  ·rw[if_neg e,if_neg (λz=>e (h1.trans z))];exact⟨h1,h2,h3⟩
theorem KT.put{H:Hp}{kvs:List (List qG×V)}{xs:List (List qG×Addr×Value)}(r:KT H kvs xs)(k:List qG){b:Addr}{y:V}{u:Value}(hb:H b=some (.tup (k.map kV)))(ry:qY y u):
  KT H (Qn kvs k y) (storedH xs k b u):=by
 have e:(kvs.any λkv=>decide (kv.1=k))=(atKey xs k).isSome:=by
  rw[QU,(r.val k).isSome_eq,zcH]
 unfold Qn storedH
 rw[e]
 by_cases q:(atKey xs k).isSome=true
 ·rw[if_pos q,if_pos q];exact r.repl k ry
 ·rw[if_neg q,if_neg q];exact Paired.snoc r ⟨rfl,hb,ry⟩
theorem KT.keeps{H H':Hp}{kvs:List (List qG×V)}{xs:List (List qG×Addr×Value)}(r:KT H kvs xs)(ht:∀b ys,H b=some (.tup ys)->H' b=some (.tup ys)):KT H' kvs xs:=
 Paired.mapP r λ_ _ z=>⟨z.1,ht _ _ z.2.1,z.2.2⟩
section
variable{P:Program}{w:World}{H:Hp}{h:Heap}{a:Addr}
theorem MT{u:HO}(ok:Zj P w H h)(e:Rd H a u):qK P w H h a u:=e.ok ok
theorem UR{kvs:List (qG×V)}(ok:Zj P w H h)(e:Rd H a (.dK kvs)):kvs.length<=zdB/\(a==sysModules)=false/\∃vs,KV kvs vs/\h.DictOf (jq P w) a vs:=
 show qK P w H h a (.dK kvs) from MT ok e
theorem Ac{kvs:List (qG×V)}(ok:Zj P w H h)(e:H a=some (.dK kvs)):kvs.length<=zdB/\(a==sysModules)=false/\∃vs,KV kvs vs/\h.DictOf (jq P w) a vs:=UR ok (.inl e)
theorem XL{ks:List qG}(ok:Zj P w H h)(e:H a=some (.tup (ks.map kV))):(tupleKind (jq P w)).is h ks a:=by
 obtain⟨_,its,r,o,h1,h2,n,h3⟩:=(show qK P w H h a (.tup (ks.map kV)) from ok a _ e)
 exact⟨o,its.toArray,n,h1,h2,h3,by simpa using WJ r⟩
theorem UQ{kvs:List (List qG×V)}(ok:Zj P w H h)(e:Rd H a (.dT kvs)):kvs.length<=zdB/\(a==sysModules)=false/\
  ∃xs,KT H kvs xs/\h.DictOfH (tupleKind (jq P w)) a xs:=by
 obtain⟨z,y,xs,r,o,es,ep,h1,h2,h3,h4,h5⟩:=(show qK P w H h a (.dT kvs) from MT ok e)
 refine⟨z,y,xs,r,o,es,ep,h1,h2,h3,h4,λx hx=>?_,h5⟩
 have all:∀{l:List (List qG×V)} {m:List (List qG×Addr×Value)},KT H l m->∀x∈m,(tupleKind (jq P w)).is h x.1 x.2.1:=by
  intro l m q
  induction q with
  | nil=>intro x hx;exact nomatch hx
  | @cons p q ps qs hq t ih=>
   intro x hx
   rcases tJ.mp hx with e | hx
   ·subst e
    exact XL ok (by rw[<-hq.1];exact hq.2.1)
   ·exact ih x hx
 exact all r x hx
theorem DB{kvs:List (List qG×V)}(ok:Zj P w H h)(e:H a=some (.dT kvs)):kvs.length<=zdB/\(a==sysModules)=false/\
 ∃xs,KT H kvs xs/\h.DictOfH (tupleKind (jq P w)) a xs:=UQ ok (.inl e)
end
def jU(H:Hp)(a:Addr)(y:V)(r:Option V):Prop:=
 (∃kvs k,Rd H a (.dK kvs)/\y=kV k/\r=jc kvs k)\/∃kvs k b,Rd H a (.dT kvs)/\y=.ref b/\H b=some (.tup (k.map kV))/\r=jc kvs k
def Jk(H:Hp)(a:Addr)(y v:V)(H':Hp):Prop:=
 (∃kvs k,H a=some (.dK kvs)/\y=kV k/\kvs.length < zdB/\H'=upd H a (.dK (Qn kvs k v)))\/
 ∃kvs k b,H a=some (.dT kvs)/\y=.ref b/\H b=some (.tup (k.map kV))/\kvs.length < zdB/\H'=upd H a (.dT (Qn kvs k v))
theorem jU.k{H:Hp}{a:Addr}{kvs:List (qG×V)}{k:qG}(e:H a=some (.dK kvs)):jU H a (kV k) (jc kvs k):=.inl ⟨kvs,k,.inl e,rfl,rfl⟩
theorem Jk.k{H:Hp}{a:Addr}{kvs:List (qG×V)}{k:qG}{v:V}(e:H a=some (.dK kvs))(hl:kvs.length < zdB):Jk H a (kV k) v (upd H a (.dK (Qn kvs k v))):=.inl ⟨kvs,k,e,rfl,hl,rfl⟩
section
variable{X:Cx}{pins:List (Addr×Obj)}{σ:St}{H:Hp}{s:Shared}{a:Addr}{y v:V}{u r:Value}{o:Option V}{A:Around}{E:Value->Shared->Prop}
theorem qz.big(I:qz X pins σ H s):sysModules < s.heap.objs.size:=by
 have h:mainGlobals < s.heap.objs.size:=(I.mod.glob.keeps I.bk).lt
 exact Nat.lt_trans (by decide) h
theorem we{Q:Value->Shared->Prop}(hu:A.units+1 < cLine)(I:qz X pins σ H s)(g:jU H a y (some v))(ry:qY y u)(h:∀w' s',qz X pins σ H s'->qY v w'->Q w' s'):
  wpAny (model X.prog X.w) A (getItem (.ref a) u) Q E s:=by
 rcases g with ⟨kvs,k,e,ey,l⟩ | ⟨kvs,k,b,e,ey,eb,l⟩
 ·subst ey
  obtain⟨z,hd,vs,rel,dd⟩:=UR I.hok e
  obtain⟨w',hw,rw'⟩:=JM.some_of (v:=v) (o:=valueAt vs k) (by rw[l];exact rel.val k)
  exact wpAny_getItem_of (Z3 ry) dd.mapOf hw (h w' _ (I.tok _) rw')
 ·subst ey
  cases (show u=Value.ref b from ry)
  obtain⟨z,hd,xs,rel,dd⟩:=UQ I.hok e
  obtain⟨w',hw,rw'⟩:=JM.some_of (v:=v) (o:=(atKey xs k).map (·.2)) (by rw[l];exact rel.val k)
  obtain⟨p,hp,hp2⟩:=zcU.mp hw
  refine wpAny_getItem_heap (tupleKind_room_in1 hu) (XL I.hok eb) dd hp ?_
  rw[hp2]
  exact h w' _ (I.tok _) rw'
theorem E9{Q:Value->Shared->Prop}(hu:A.units+1 < cLine)(I:qz X pins σ H s)(g:jU H a y o)(ry:qY y u)(h:∀s',qz X pins σ H s'->Q (.bool o.isSome) s'):
  wpAny (model X.prog X.w) A (compareOp .In u (.ref a)) Q E s:=by
 rcases g with ⟨kvs,k,e,ey,l⟩ | ⟨kvs,k,b,e,ey,eb,l⟩
 ·subst ey
  obtain⟨z,hd,vs,rel,dd⟩:=UR I.hok e
  refine wpAny_in_of (Z3 ry) hd dd.mapOf ?_
  rw[<-(rel.val k).isSome_eq,<-l]
  exact h _ (I.tok _)
 ·subst ey
  cases (show u=Value.ref b from ry)
  obtain⟨z,hd,xs,rel,dd⟩:=UQ I.hok e
  refine wpAny_in_heap (tupleKind_room_in1 hu) (XL I.hok eb) hd dd ?_
  have q:=(rel.val k).isSome_eq
  rw[zcH]at q
  rw[<-q,<-l]
  exact h _ (I.tok _)
theorem N6{Q:Value->Shared->Prop}(hu:A.units+1 < cLine)(I:qz X pins σ H s)(g:jU H a y o)(ry:qY y u)(h:∀s',qz X pins σ H s'->Q (.bool (!o.isSome)) s'):
  wpAny (model X.prog X.w) A (compareOp .NotIn u (.ref a)) Q E s:=by
 rcases g with ⟨kvs,k,e,ey,l⟩ | ⟨kvs,k,b,e,ey,eb,l⟩
 ·subst ey
  obtain⟨z,hd,vs,rel,dd⟩:=UR I.hok e
  refine wpAny_notIn_of (Z3 ry) hd dd.mapOf ?_
  rw[<-(rel.val k).isSome_eq,<-l]
  exact h _ (I.tok _)
 ·subst ey
  cases (show u=Value.ref b from ry)
  obtain⟨z,hd,xs,rel,dd⟩:=UQ I.hok e
  refine wpAny_notIn_heap (tupleKind_room_in1 hu) (XL I.hok eb) hd dd ?_
  have q:=(rel.val k).isSome_eq
  rw[zcH]at q
  rw[<-q,<-l]
  exact h _ (I.tok _)
theorem VA{h':Heap}{t':Nat}{ob:HO}(I:qz X pins σ H s)(mu:Ce (H a))(hs:Heap.SameBut a s.heap h')(he:∃q,h'.get? a=some q)(new:qK X.prog X.w (upd H a ob) h' a ob):
  qz X pins σ (upd H a ob) {s with heap:=h',toks:=t'}:=
 I.write (x:=a) (e:=a) mu (.inl rfl) (λb q hb z=>(hs.2 b hb).trans z) he new
theorem Gu{P:Program}{w:World}{H':Hp}{h':Heap}{kvs:List (qG×V)}{vs:List (qG×Value)}(z:kvs.length<=zdB)(hd:(a==sysModules)=false)(rel:KV kvs vs)(dd:h'.DictOf (jq P w) a vs):
 qK P w H' h' a (.dK kvs):=⟨z,hd,vs,rel,dd⟩
theorem wc{H':Hp}{Q:Unit->Shared->Prop}(hu:A.units+1 < cLine)(I:qz X pins σ H s)(g:Jk H a y v H')(ry:qY y u)(rv:qY v r)(h:∀s',qz X pins σ H' s'->Q () s'):
  wpAny (model X.prog X.w) A (setItem (.ref a) u r) Q E s:=by
 rcases g with ⟨kvs,k,e,ey,l,eH⟩ | ⟨kvs,k,b,e,ey,eb,l,eH⟩
 ·subst ey eH
  obtain⟨z,hd,vs,rel,dd⟩:=Ac I.hok e
  have hz:vs.length<=zdB:=by rw[<-rel.length];exact z
  have hl:(Qn kvs k v).length<=zdB:=by have:=Jn kvs k v;omega
  refine wpAny_setItem_pairs (hsz:=hz) (Z3 ry) dd λh' dd' hs=>h _ ?_
  have he:∃q,h'.get? a=some q:=let ⟨q,_,_,hq,_⟩:=dd';⟨q,hq⟩
  exact VA I (by rw[e];exact True.intro) hs he (Gu hl hd (rel.put k rv) dd')
 ·subst ey eH
  cases (show u=Value.ref b from ry)
  obtain⟨z,hd,xs,rel,dd⟩:=DB I.hok e
  have hz:xs.length<=zdB:=by rw[<-Paired.length rel];exact z
  have hl:(Qn kvs k v).length<=zdB:=by have:=Jn kvs k v;omega
  refine wpAny_setItem_heap (hsz:=hz) (tupleKind_room_in1 hu) (XL I.hok eb) dd λh' dd' hs=>h _ ?_
  obtain⟨q,es,ep,hq,h2,h3,h4,_,h5⟩:=dd'
  refine VA I (by rw[e];exact True.intro) hs ⟨q,hq⟩ ⟨hl,hd,_,(rel.put k eb rv).keeps λc ys ec=>?_,q,es,ep,hq,h2,h3,h4,h5⟩
  rw[qi (Dg ec e (λz=>nomatch z))]
  exact ec
end
section
variable{X:Cx}{pins:List (Addr×Obj)}{σ:St}{H:Hp}{s:Shared}{a:Addr}{kvs:List (qG×V)}{k:qG}{u:Value}{A:Around}{E:Value->Shared->Prop}
end
def Mi(i:Expr):Prop:=∀ov iv,subscripted i false ov iv=operate [ov,iv] (getItem ov iv)
theorem W1{prog:Program}{w:World}{A:Around}{E:Value->Shared->Prop}{s:Shared}{env:Env}{value slice:Expr}{pos:Pos}{T id:String}{Q:Value->Shared->Prop}
  (hl:typeLookup (.type T) "__getitem__"=pure (some (.builtin id))) (hs:Mi slice)
  (h:wpAny (model prog w) A (eval value env) (λo s₁=>wpAny (model prog w) A (eval slice env) (λi s₂=>s₂.TypeIs o T/\wpAny (model prog w) A (getItem o i) Q E s₂) E s₁) E s):
  wpAny (model prog w) A (eval (.Subscript value slice pos) env) Q E s:=by
 refine Subscript_ (wpAny_mono h (λo s₁ h₁=>wpAny_mono h₁ (λi s₂ h₂=>?_) λ_ _ x=>x) λ_ _ x=>x)
 obtain⟨hT,h₂⟩:=h₂
 unfold subscriptTail
 refine zdy ?_
 rw[getitemInPython_of_ne hT.not_modules]
 refine zdy (wpAny_specialOf hT hl ?_)
 have fin:wpAny (model prog w) A (subscripted slice false o i) (λr s₃=>wpAny (model prog w) A (letTemporaryGo value o r >>= λ_=>pure r) Q E s₃) E s₂:=by
  rw[hs o i]
  exact wpAny_operating (wpAny_mono h₂ (λr s₃ h₃=>zdy (wpAny_letTemporaryGo (zdz h₃))) λ_ _ x=>x)
 first
  | exact zdz (zdy fin)
  | exact zdy (zdz (zdy fin))
  | exact zdy fin
theorem UT{X:Cx}{pins:List (Addr×Obj)}{σ:St}{H:Hp}{s:Shared}{a:Addr}{y:V}{o:Option V}(I:qz X pins σ H s)(g:jU H a y o):s.TypeIs (.ref a) "dict":=by
 rcases g with ⟨kvs,k,e,_,_⟩ | ⟨kvs,k,b,e,_,_,_⟩
 ·obtain⟨_,_,vs,_,dd⟩:=UR I.hok e
  exact dd.typeIs
 ·obtain⟨_,_,xs,_,dd⟩:=UQ I.hok e
  exact dd.typeIs
def wP(td ty:TE):TE:=λσ H Q=>td σ H λx H1=>ty σ H1 λy H2=>∃a v,x=.ref a/\jU H2 a y (some v)/\Q v H2
def wO(ty td:TE):TE:=λσ H Q=>ty σ H λy H1=>td σ H1 λx H2=>∃a o,x=.ref a/\jU H2 a y o/\Q (.bl o.isSome) H2
def ZO(ty td:TE):TE:=λσ H Q=>ty σ H λy H1=>td σ H1 λx H2=>∃a o,x=.ref a/\jU H2 a y o/\Q (.bl (!o.isSome)) H2
def uG(td ty tv:TE):TS:=λD σ H=>tv σ H λv H1=>td σ H1 λx H2=>ty σ H2 λy H3=>∃a H4,x=.ref a/\Jk H3 a y v H4/\D.nx σ H4
section
variable{X:Cx}{o i e value:Expr}{pos pos' tpos:Pos}{td ty tv:TE}
theorem jN(hu:X.A.units+1 < cLine)(ho:JE X o td)(hi:JE X i ty)(hs:Mi i):JE X (.Subscript o i pos) (wP td ty):=.of (by
 have ho:=ho.to
 have hi:=hi.to
 intro pins s σ H Q I h
 refine W1 zbK.lookup hs (jm (ho pins s σ H _ I h) λu s1 ⟨x,H1,I1,rx,q1⟩=>jm (hi pins s1 σ H1 _ I1 q1) λiv s2 ⟨y,H2,I2,ry,a,v,ex,g,q2⟩=>?_)
 subst ex
 obtain rfl:u=Value.ref a:=rx
 exact⟨UT I2 g,we hu I2 g ry λw' s3 I3 rw'=>⟨v,H2,I3,rw',q2⟩⟩)
theorem J2(hu:X.A.units+1 < cLine)(hi:JE X i ty)(ho:JE X o td):JC X .In i o (wO ty td):=.of (by
 have hi:=hi.to
 have ho:=ho.to
 intro pins s σ H Q I h
 refine jm (hi pins s σ H _ I h) λiv s1 ⟨y,H1,I1,ry,q1⟩=>jm (ho pins s1 σ H1 _ I1 q1) λu s2 ⟨x,H2,I2,rx,a,ov,ex,g,q2⟩=>?_
 subst ex
 obtain rfl:u=Value.ref a:=rx
 exact E9 hu I2 g ry λs3 I3=>⟨.bl ov.isSome,H2,I3,rfl,q2⟩)
theorem JF(hu:X.A.units+1 < cLine)(hi:JE X i ty)(ho:JE X o td):JC X .NotIn i o (ZO ty td):=.of (by
 have hi:=hi.to
 have ho:=ho.to
 intro pins s σ H Q I h
 refine jm (hi pins s σ H _ I h) λiv s1 ⟨y,H1,I1,ry,q1⟩=>jm (ho pins s1 σ H1 _ I1 q1) λu s2 ⟨x,H2,I2,rx,a,ov,ex,g,q2⟩=>?_
 subst ex
 obtain rfl:u=Value.ref a:=rx
 exact N6 hu I2 g ry λs3 I3=>⟨.bl (!ov.isSome),H2,I3,rfl,q2⟩)
theorem j7(hu:X.A.units+1 < cLine)(ho:JE X o td)(hi:JE X i ty)(hv:JE X value tv)(hs:swapsWith value (some (.Subscript o i pos')) pos.line X.env=pure false):JS X (.Assign [.Subscript o i pos'] value pos) (uG td ty tv):=.of (by
 have ho:=ho.to
 have hi:=hi.to
 have hv:=hv.to
 intro pins s σ H D I h
 refine wpAny_Assign_Subscript (jm (hv pins s σ H _ I h) λr s1 ⟨v,H1,I1,rv,q1⟩=>jm (ho pins s1 σ H1 _ I1 q1) λu s2 ⟨x,H2,I2,rx,q2⟩=>jm (hi pins s2 σ H2 _ I2 q2) λiv s3 ⟨y,H3,I3,ry,a,H4,ex,g,q3⟩=>?_) hs
 subst ex
 obtain rfl:u=Value.ref a:=rx
 exact wc hu I3 g ry rv λs4 I4=>⟨σ,H4,I4,q3⟩)
end
theorem US{P:Program}{w:World}{H:Hp}(h:Heap)(hb:sysModules < h.objs.size):qK P w H (h.push {cls:=.type "dict",data:=.dict #[]}) h.objs.size (.dK []):=
 ⟨zao _,beq_eq_false_iff_ne.mpr (Ne.symm (zac hb)),[],.nil,Heap.DictOf.new h⟩
def wN:TE:=λ_ H Q=>∀p,H p=none->Q (.ref p) (upd H p (.dK []))
section
variable{X:Cx}{pos:Pos}
theorem uY:PE X (.Dict [] [] pos) wN:=λpins s σ H Q I h=>
 wpAny_Dict_empty ⟨.ref s.heap.objs.size,_,I.laid (a:=s.heap.objs.size) (o:=.dK []) (t':=s.toks) (λ_ _ q=>tz _ q) (tu _) (US s.heap I.big),rfl,h _ (I.hok.fresh (tu _))⟩
theorem Qc:JE X (.Dict [] [] pos) wN:=.of (uY)
end
def vc:List (TE×TE)->St->Hp->(List (V×V)->Hp->Prop)->Prop
 | [],_,H,Q=>Q [] H
 | (tk,tv)::r,σ,H,Q=>tk σ H λx H1=>tv σ H1 λy H2=>vc r σ H2 λps H3=>Q ((x,y)::ps) H3
abbrev VV:List (V×V)->List (Value×Value)->Prop:=Paired λp q=>qY p.1 q.1/\qY p.2 q.2
def DL(X:Cx)(pos:Pos)(keys:List (Option Expr))(values:List Expr)(trs:List (TE×TE)):Prop:=
 ∀(pins:List (Addr×Obj)) (s:Shared) (σ:St) (H:Hp) (Q:List (V×V)->Hp->Prop),qz X pins σ H s->vc trs σ H Q->
  wpAny (model X.prog X.w) X.A (evalPairs (pairTrees keys values X.env pos)) (λvs s'=>∃ps H',qz X pins σ H' s'/\VV ps vs/\Q ps H') X.xe s
@[irreducible] def Re (X:Cx) (pos:Pos) (keys:List (Option Expr)) (values:List Expr) (trs:List (TE×TE)):Prop:=DL X pos keys values trs
theorem Re.of{X:Cx}{pos:Pos}{keys:List (Option Expr)}{values:List Expr}{trs:List (TE×TE)}(h:DL X pos keys values trs):Re X pos keys values trs:=by unfold Re;exact h
theorem Re.to{X:Cx}{pos:Pos}{keys:List (Option Expr)}{values:List Expr}{trs:List (TE×TE)}(h:Re X pos keys values trs):DL X pos keys values trs:=by unfold Re at h;exact h
theorem NR{X:Cx}{pos:Pos}:Re X pos [] [] []:=.of (by
 exact λpins s σ H Q I h=>pairTrees_nil_walk ⟨[],H,I,.nil,h⟩)
theorem uV{X:Cx}{pos:Pos}{k v:Expr}{ks:List (Option Expr)}{vs:List Expr}{tk tv:TE}{trs:List (TE×TE)}(hk:PE X k tk)(hv:PE X v tv)(hr:DL X pos ks vs trs):
  DL X pos (some k::ks) (v::vs) ((tk,tv)::trs):=λpins s σ H Q I h=>
 pairTrees_cons_walk (jm (hk pins s σ H _ I h) λu s1 ⟨x,H1,I1,rx,q1⟩=>jm (hv pins s1 σ H1 _ I1 q1) λw2 s2 ⟨y,H2,I2,ry,q2⟩=>
  jm (hr pins s2 σ H2 _ I2 q2) λws s3 ⟨ps,H3,I3,rel,q3⟩=>⟨(x,y)::ps,H3,I3,.cons ⟨rx,ry⟩ rel,q3⟩)
theorem XO{X:Cx}{pos:Pos}{k v:Expr}{ks:List (Option Expr)}{vs:List Expr}{tk tv:TE}{trs:List (TE×TE)}(hk:JE X k tk)(hv:JE X v tv)(hr:Re X pos ks vs trs):Re X pos (some k::ks) (v::vs) ((tk,tv)::trs):=.of (uV hk.to hv.to hr.to)
def zi(kvs more:List (qG×V)):List (qG×V):=more.foldl (λacc kv=>Qn acc kv.1 kv.2) kvs
theorem KV.merge:∀{more:List (qG×V)} {rs:List (qG×Value)} {kvs:List (qG×V)} {vs:List (qG×Value)},KV more rs->KV kvs vs->KV (zi kvs more) (merged vs rs):=by
 intro more rs kvs vs r
 unfold KV at r
 induction r generalizing kvs vs with
 | nil=>intro q;exact q
 | @cons p q ps qs h t ih=>
  intro r0
  have e:KV (Qn kvs p.1 p.2) (stored vs q.1 q.2):=by
   have:=r0.put p.1 h.2
   rw[<-h.1];exact this
  exact ih e
theorem Z2:∀(more kvs:List (qG×V)),(zi kvs more).length<=kvs.length+more.length
 | [],kvs=>by show kvs.length<=kvs.length+0;omega
 | p::r,kvs=>by
  have h1:=Z2 r (Qn kvs p.1 p.2)
  have h2:=Jn kvs p.1 p.2
  show (zi (Qn kvs p.1 p.2) r).length<=_
  rw[tP];omega
theorem XW{P:Program}{w:World}:∀{kvs:List (qG×V)} {ws:List (Value×Value)},VV (kvs.map λkv=>(kV kv.1,kv.2)) ws->∃rs,Carries (jq P w) ws rs/\KV kvs rs
 | [],_,r=>by rw[zcr]at r;cases r;exact⟨[],True.intro,.nil⟩
 | p::kvs,_,r=>by
  rw[tL]at r
  cases r with
  | @cons a b as bs h t=>
   obtain⟨rs,c,q⟩:=XW (P:=P) (w:=w) t
   obtain⟨b1,b2⟩:=b
   exact⟨(p.1,b2)::rs,⟨Z3 h.1,rfl,c⟩,.cons ⟨rfl,h.2⟩ q⟩
def Cp(trs:List (TE×TE)):TE:=λσ H Q=>∀p,H p=none->vc trs σ (upd H p (.dK [])) λps H2=>H2 p=some (.dK [])/\∃kvs:List (qG×V),ps=kvs.map (λkv=>(kV kv.1,kv.2))/\kvs.length<=15/\Q (.ref p) (upd H2 p (.dK (zi [] kvs)))
theorem NV{X:Cx}{pos:Pos}{keys:List (Option Expr)}{values:List Expr}{trs:List (TE×TE)}(h:Re X pos keys values trs)(hall:keys.all (·.isSome)=true)(hl:keys.length=values.length)(h0:keys≠[])(h15:keys.length<=15):JE X (.Dict keys values pos) (Cp trs):=.of (by
 have h:=h.to
 intro pins s σ H Q I q
 have hn:=I.hok.fresh (tu s.heap.objs.size)
 have I1:=I.laid (a:=s.heap.objs.size) (o:=.dK []) (h':=s.heap.push {cls:=.type "dict",data:=.dict #[]}) (t':=s.toks) (λ_ _ q=>tz _ q) (tu _) (US s.heap I.big)
 refine wpAny_Dict_walk (knd:=jq X.prog X.w) hall hl h0 h15 (jm (h pins _ σ _ _ I1 (q _ hn)) λws s2 ⟨ps,H2,I2,rel,e,kvs,ep,lk,q2⟩=>?_)
 subst ep
 obtain⟨rs,c,rk⟩:=XW (P:=X.prog) (w:=X.w) rel
 obtain⟨z,hd,vs0,r0,dd⟩:=Ac I2.hok e
 cases r0
 refine⟨rs,c,dd,λh' dd' hs=>⟨.ref s.heap.objs.size,_,?_,rfl,q2⟩⟩
 have hz:(zi [] kvs).length<=zdB:=by
  have h1:=Z2 kvs []
  rw[List.length_nil]at h1
  rw[sizeLine_eq];omega
 have he:∃q,h'.get? s.heap.objs.size=some q:=let ⟨q,_,_,hq,_⟩:=dd';⟨q,hq⟩
 exact VA I2 (by rw[e];exact True.intro) hs he (Gu hz hd (rk.merge .nil) dd'))
structure M1(X:Cx)(o:Expr)(m:Str)(apos:Pos)(e:Expr)(cpos:Pos):Prop where
 base:attributeBase o m X.env (eval o X.env)=eval o X.env
 few:((backTo cpos (starEach [e] X.env)).all (λx=> !x.1)&&(backToKw cpos (keywordEach [] X.env)).all (λx=>x.1.isSome)
  &&decide (([e]:List Expr).length+([]:List Keyword).length+(if ([]:List Keyword).isEmpty then 0 else 1) < 30))=true
 line:(apos.endLine==cpos.line)=true
 trees:backTo cpos (starEach [e] X.env)=[(false,eval e X.env)]
structure M2(X:Cx)(o:Expr)(m:Str)(apos:Pos)(e f:Expr)(cpos:Pos):Prop where
 base:attributeBase o m X.env (eval o X.env)=eval o X.env
 few:((backTo cpos (starEach [e,f] X.env)).all (λx=> !x.1)&&(backToKw cpos (keywordEach [] X.env)).all (λx=>x.1.isSome)
  &&decide (([e,f]:List Expr).length+([]:List Keyword).length+(if ([]:List Keyword).isEmpty then 0 else 1) < 30))=true
 line:(apos.endLine==cpos.line)=true
 trees:backTo cpos (starEach [e,f] X.env)=[(false,eval e X.env),(false,eval f X.env)]
section
variable{X:Cx}{pins:List (Addr×Obj)}{σ:St}{H:Hp}{s:Shared}{a:Addr}{y d:V}{u r:Value}{o:Option V}{A:Around}{E:Value->Shared->Prop}
end
section
variable{X:Cx}{o e f:Expr}{apos cpos:Pos}{td ty tx:TE}
end
section
variable{X:Cx}{pins:List (Addr×Obj)}{σ:St}{H:Hp}{s:Shared}{a:Addr}{kvs:List (qG×V)}{A:Around}{E:Value->Shared->Prop}
end
section
variable{X:Cx}{pins:List (Addr×Obj)}{σ:St}{H:Hp}{s:Shared}{a:Addr}{y:V}{u:Value}{A:Around}{E:Value->Shared->Prop}
end
end L2
namespace Att
open PySem PySem.W PySem.Calls PyProof.Rows
theorem YQ{P:Params}{h:Heap}:∀(ns:List Int) (vs:List Value),WellAll P h vs (ns.map WData.int)->IntsAre vs ns:=by
 intro ns
 induction ns with
 | nil=>
  intro vs w
  rw[zcr]at w
  cases w
  exact .nil
 | cons n ns ih=>
  intro vs w
  rw[tL]at w
  cases w with
  | cons a b=>
   cases a
   exact .cons _ _ (ih _ b)
theorem xf{l:OpenLaw}{n:Nat}(hn:l.most=some n){P:Params}{h:Heap}{args:List WData}{vals:List Value}
  (hpre:l.row.toRowW.claim.pre args=true) (hwl:WellAll P h vals args):
  ∃a vs ns,vals=[Value.ref a]/\args=[WData.list (ns.map WData.int)]/\h.get? a=some {cls:=.type "list",data:=.seq vs.toArray}/\IntsAre vs ns/\ns.length<=n:=by
 have hsh:WShape.hasAll [] args [.list .int]=true:=(pre_splitW hpre).1
 have hc:l.pre.holds [] {args:=args}=true:=(pre_splitW hpre).2
 obtain⟨d,r,rfl,h1,h2⟩:=hasAllW_cons hsh
 obtain rfl:=hasAllW_nil h2
 obtain⟨xs,rfl,h3⟩:=hasW_list h1
 obtain⟨ns,rfl⟩:=items_int h3
 have hlen:ns.length<=n:=by
  unfold OpenLaw.pre at hc
  have h4:(WTm.not (.lt (.lit (.int (n:Int))) (.len (.arg 0)))).holds [] {args:=[.list (ns.map .int)]}=true:=by
   have h4:=(holds_andW hc).1
   rw[hn]at h4
   exact h4
  have h5:=condW_of h4 (w_not (w_lt w_lit (w_len_list (w_arg rfl))))
  rw[tj]at h5
  refine Nat.le_of_not_lt λq=>?_
  have q':(n:Int) < ((ns.length:Nat):Int):=by omega
  first
   | (rw[decide_eq_true q']at h5;exact absurd h5 (by decide))
   | (simp at h5;omega)
 cases hwl with
 | cons w1 w2=>
  cases w2
  cases w1 with
  | list ho hall=>exact⟨_,_,ns,rfl,rfl,ho,YQ ns _ hall,hlen⟩
theorem xo(l:OpenLaw)(args:List WData):l.row.toRowW.claim.post args (.bool true) args=true:=
 postW_of (r:=l.row.toRowW) (X:=(true==true))
  (show WShape.has [] (.bool true) .bool=true by first | rfl | decide | simp [WShape.has,WShape.arms,WShape.armsAll])
  (show (WTm.eq .res (.lit (.bool true))).value [] {args:=args,res:=some (.bool true),after:=args}=some (.bool (true==true)) from w_eq_bool (w_res rfl) w_lit) rfl
theorem attach_call{l:OpenLaw}{n:Nat}{q:Program}{loose:List Str}{XP:(Str->Option Value)->Heap->Prop}{YP:World->Heap->Prop}{d:DefRec}
  (hn:l.most=some n) (hdf:d.params.defaults=[])
  (call:∀(w:World) (s₀ s₁:Shared) (mg mb:Str->Option Value) (fa:Addr) (o:Obj) (pm cd doc:Value) (a:Addr) (vs:List Value) (ns:List Int),
   Ground q loose [] XP w s₀ mg mb s₁.heap->YP w s₁.heap->
   s₁.heap.get? fa=some o->o.data=.func (docDef d.name d.params d.body d.scope pm cd doc)->s₁.heap.CodeRec cd d.name->mg d.name=some (.ref fa)->
   s₁.heap.get? a=some {cls:=.type "list",data:=.seq vs.toArray}->IntsAre vs ns->ns.length<=n->s₁.gens=#[]->
   codeAny (model l.prog w) callerA (.call (.ref fa) ⟨[.ref a],[]⟩) (λr s'=>r=.ok (.ret (.bool true))/\OldK s₁.heap s'.heap/\s'.os=s₁.os/\AllBare s'.gens) s₁):
  WalkO q loose XP YP l.row.toRowW d [] (λf vs=>PySem.call f vs):=by
 intro w s₀ s₁ mg mb G Y fa o pm cd doc dV kV ho hd hcd hD hmg hg args vals as hpre hlay hrd hwl hlo
 obtain rfl:dV=.none:=Dflts.none hD hdf
 obtain rfl:kV=.none:=Dflts.noKw hD
 obtain⟨a,vs,ns,rfl,rfl,hobj,hints,hlen⟩:=xf hn hpre hwl
 refine enter_call (codeAny_mono (call w s₀ s₁ mg mb fa o pm cd doc a vs ns G Y ho (fd_plain hd) hcd hmg hobj hints hlen hg) λr s' hq=>?_)
 obtain⟨rfl,h2,h3,h4⟩:=hq
 exact⟨.inl ⟨.bool true,.bool true,[],rfl,λ_=>rfl,.bool true,xo l _,λ_=>⟨List.Pairwise.nil,λ_ hm=>(nomatch hm)⟩⟩,h2,h3,h4⟩
section
variable{prog:Program}{w:World}{A:Around}{E:Value->Shared->Prop}{s:Shared}{K:Frag}
end
end Att
namespace L2
open PySem PySem.Spec PyProof.Rows
theorem Wg:∀{vs:List Value} {ns:List Int},IntsAre vs ns->qR (ns.map V.int) vs
 | _,_,.nil=>.nil
 | _,_,.cons n t h=>.cons ⟨t,rfl⟩ (Wg h)
def Fj(H:Hp):Prop:=∀b,H b=none\/∃o xs,H b=some (.frz o (.lst xs))
def ja(s:Stmt)(j:Nat):Stmt:=match s with
 | .ClassDef _ _ _ body _ _ _ _ _ _ _=>body.getD j (.Pass ⟨0,0,0,0⟩)
 | _=>.Pass ⟨0,0,0,0⟩
def QN(s:Stmt):Arguments:=match s with
 | .FunctionDef _ a _ _ _ _ _ _ _ _=>a
 | _=>{posonlyargs:=[],args:=[],vararg:=none,kwonlyargs:=[],kw_defaults:=[],kwarg:=none,defaults:=[]}
def jV(s:Stmt):List Stmt:=match s with
 | .FunctionDef _ _ b _ _ _ _ _ _ _=>b
 | _=>[]
def qj(s:Stmt):Scope:=match s with
 | .FunctionDef _ _ _ _ _ _ sc _ _ _=>sc
 | _=>{kind:=.function,names:=[],isGenerator:=false,isCoroutine:=false}
abbrev qJ:zp:=λ_ _ _ _ _ _=>False
abbrev E0:XK:=λ_ _ _=>False
theorem jG{X:Cx}:jQ qJ X E0:=λ_ _ _ _ _ _ _ h=>h.elim
structure jw(K:zdw)(x qual:Str)(st:Stmt)(f:Addr)(fd:zdA):Prop where
 ex:∃(oc:Value) (od:Option Addr) (kV doc pm:Value) (an:Option Addr) (cdv ct:Value) (osl:Array (Option Value)),
  fd=zaV x qual (QN st) (jV st) (qj st) .none kV doc pm an cdv ct/\K.lookup f=some ⟨oc,od,.func fd,osl⟩/\zbn K cdv qual=true
 kp:zal K (.ref f)=true
section
variable{P:Program}{w:World}{K:zdw}{mg:Str->Option Value}{base:Heap}
theorem jw.ok{x qual:Str}{st:Stmt}{f:Addr}{fd:zdA}{N ps:List Str}{k:Nat}{sp:Sp}(F:jw K x qual st f fd)(S:qp N ps (qj st))(len:∀vs H Q E,sp vs H Q E->vs.length=ps.length)
  (hbody:∀(cdv:Value) (A:Around) (outer:List Env) (s:Shared) (H:Hp) (vs:List V) (Q:VK) (E:XK),qO k (A.deeper (envOfC qual (qj st) s.heap.objs.size f cdv))->sp vs H Q E->
   ∃t,Ra (Qk qJ P w K mg base N qual (qj st) f cdv A outer s H E).nox (jV st) t/\t {nx:=λ_ H'=>Q .non H',rt:=Q} (Ze N vs) H):qo P w K mg base qJ (k+1) f fd ps sp:=by
 obtain⟨oc,od,kV,doc,pm,an,cdv,ct,osl,rfl,lk,hcd⟩:=F.ex
 refine Aa lk hcd S len λA outer s H vs Q E hr hsp=>?_
 obtain⟨t,h,q⟩:=hbody cdv A outer s H vs Q E hr hsp
 exact⟨t,h.nox,q⟩
theorem jw.okJ{x qual:Str}{st:Stmt}{f:Addr}{fd:zdA}{N ps:List Str}{k:Nat}{sp:Sp}(F:jw K x qual st f fd)(S:qp N ps (qj st))(len:∀vs H Q E,sp vs H Q E->vs.length=ps.length)
  (hbody:∀(cdv:Value) (A:Around) (outer:List Env) (s:Shared) (H:Hp) (vs:List V) (Q:VK) (E:XK),qO k (A.deeper (envOfC qual (qj st) s.heap.objs.size f cdv))->sp vs H Q E->
   ∃t,VD (Qk qJ P w K mg base N qual (qj st) f cdv A outer s H E).nox (jV st) t/\t {nx:=λ_ H'=>Q .non H',rt:=Q} (Ze N vs) H):qo P w K mg base qJ (k+1) f fd ps sp:=
 F.ok S len λcdv A outer s H vs Q E hr h=>let ⟨t,a,b⟩:=hbody cdv A outer s H vs Q E hr h;⟨t,a.to,b⟩
theorem jw.binds{x qual:Str}{st:Stmt}{f:Addr}{fd:zdA}{ps:List Str}(F:jw K x qual st f fd)
  (h:∀(kV doc pm:Value) (an:Option Addr) (cdv ct:Value) (us:List Value),us.length=ps.length->bindArgs (zaV x qual (QN st) (jV st) (qj st) .none kV doc pm an cdv ct) ⟨us,[]⟩=pure (ps.zip us)):ji K fd ps []:=by
 obtain⟨oc,od,kV,doc,pm,an,cdv,ct,osl,rfl,lk,hcd⟩:=F.ex
 exact .all (h kV doc pm an cdv ct)
theorem Yw{x qual:Str}{st:Stmt}{f:Addr}{oc:Value}{od an:Option Addr}{osl:Array (Option Value)}{kV doc pm cdv ct:Value}(l:K.lookup f=some ⟨oc,od,.func (zaV x qual (QN st) (jV st) (qj st) .none kV doc pm an cdv ct),osl⟩)
 (c:zbn K cdv qual=true) (k:zal K (.ref f)=true):jw K x qual st f (zaV x qual (QN st) (jV st) (qj st) .none kV doc pm an cdv ct):=⟨⟨oc,od,kV,doc,pm,an,cdv,ct,osl,rfl,l,c⟩,k⟩
end
theorem Qp{A:Around}{k:Nat}(hr:qO k A):A.units+1 < cLine:=zax (Nat.add_le_add_left (by decide:1<=64) _) hr.units
theorem qy{n:Nat}(h:n<=1000):n < zdB:=zax h (by decide)
section
variable{X:Cx}
theorem pv(i:Nat){x:Str}{pos:Pos}(hN:X.N[i]?=some x:=by rfl)(hv:Cc X.env.scope x:=by first | exact Or.inl rfl | exact Or.inr (Or.inl rfl) | exact Or.inr (Or.inr rfl))(hd:(x==("__debug__":Str))=false:=by decide)
 (hcd:(x==("__classdict__":Str))=false:=by decide):PE X (.Name x pos) (qS i):=AM hN hv hd hcd
theorem jv(i:Nat){x:Str}{pos:Pos}(hN:X.N[i]?=some x:=by rfl)(hv:Cc X.env.scope x:=by first | exact Or.inl rfl | exact Or.inr (Or.inl rfl) | exact Or.inr (Or.inr rfl))(hd:(x==("__debug__":Str))=false:=by decide)(hcd:(x==("__classdict__":Str))=false:=by decide):JE X (.Name x pos) (qS i):=.of (pv i hN hv hd hcd)
end
theorem jh{A B:Prop}(h:B):if false=true then A else B:=by
 rw[if_neg tS]
 exact h
theorem Qj{A B:Prop}(h:A):if true=true then A else B:=by
 rw[if_pos rfl]
 exact h
theorem UI{c A B:Prop}[Decidable c](h1:c->A)(h2:¬c->B):if c then A else B:=by
 by_cases h:c
 ·rw[if_pos h]
  exact h1 h
 ·rw[if_neg h]
  exact h2 h
def Same(H H':Hp):Prop:=∀b o,H b=some o->H' b=some o
theorem Same.refl(H:Hp):Same H H:=λ_ _ h=>h
theorem Same.trans{H H1 H2:Hp}(a:Same H H1)(b:Same H1 H2):Same H H2:=λc o h=>b c o (a c o h)
theorem Same.seq{K:zdw}{H H':Hp}{a:Addr}{xs:List V}(e:Same H H')(h:SqL K H a xs):SqL K H' a xs:=by
 rcases h with (h | ⟨o,h⟩) | h
 ·exact .inl (.inl (e _ _ h))
 ·exact .inl (.inr ⟨o,e _ _ h⟩)
 ·exact .inr h
section
variable{X:Cx}
end
section
variable{κ:Type}[DecidableEq κ]
theorem Rl{kvs:List (κ×V)}{k:κ}{v:V}(h:jc kvs k=some v):k∈kvs.map (·.1):=by
 have q:(kvs.any λkv=>decide (kv.1=k))=true:=by
  rw[QU,h]
  all_goals rfl
 obtain⟨p,hp,e⟩:=zbl.mp q
 exact tQ.mpr ⟨p,hp,of_decide_eq_true e⟩
end
end L2
set_option maxHeartbeats 4000000
namespace L2
open PySem PySem.Spec PyProof.Rows
theorem yt:(NameKind.free==NameKind.free)=true:=rfl
def jT(env:Env):List (Str×NameKind)->List (Str×Addr)->List (Str×Addr)
 | [],cs=>cs
 | (n,k)::r,cs=>jT env r (if k==.free then (n,(env.cells.lookup n).getD 0)::cs else cs)
theorem Z4{scope:Scope}{env:Env}(h:∀x∈scope.names,x.2=.free->∃c,env.cells.lookup x.1=some c):closureFor scope env=pure (jT env scope.names []):=by
 simp only[closureFor]
 have key:∀(l:List (Str×NameKind)) (cs:List (Str×Addr)),(∀x∈l,x.2=.free->∃c,env.cells.lookup x.1=some c)->
   (forIn l cs λx (r:List (Str×Addr))=>if (x.snd==NameKind.free)=true then (do let a <-cellOf env x.fst;pure (ForInStep.yield ((x.fst,a)::r)):Sem (ForInStep (List (Str×Addr)))) else pure (ForInStep.yield r))=(pure (jT env l cs):Sem (List (Str×Addr))):=by
  intro l
  induction l with
  | nil=>intro cs _;rfl
  | cons x l ih=>
   intro cs hl
   obtain⟨n,k⟩:=x
   have ihl:=λcs'=>ih cs' λy hy=>hl y (tF _ hy)
   rw[List.forIn_cons]
   by_cases hk:k=.free
   ·subst hk
    obtain⟨c,hc⟩:=hl (n,.free) tK rfl
    have e1:cellOf env n=pure c:=by
     unfold cellOf
     have hc':env.cells.lookup n=some c:=hc
     rw[hc']
    have e2:jT env ((n,NameKind.free)::l) cs=jT env l ((n,c)::cs):=by
     have hc':env.cells.lookup n=some c:=hc
     show jT env l (if (NameKind.free==NameKind.free)=true then (n,(env.cells.lookup n).getD 0)::cs else cs)=_
     rw[if_pos yt,hc']
     rfl
    rw[e2,<-ihl]
    dsimp only
    rw[if_pos yt,e1]
    rfl
   ·have hb:(k==NameKind.free)=false:=by simpa using hk
    have e2:jT env ((n,k)::l) cs=jT env l cs:=by
     show jT env l (if (k==NameKind.free)=true then (n,(env.cells.lookup n).getD 0)::cs else cs)=_
     rw[if_neg (by rw[hb];decide)]
    rw[e2,<-ihl]
    dsimp only
    rw[if_neg (by rw[hb];decide)]
    rfl
 rw[key scope.names [] h]
 rfl
theorem YJ{env:Env}{x:Str}{c:Addr}:∀{l:List (Str×NameKind)} {cs:List (Str×Addr)},(jT env l cs).lookup x=some c->cs.lookup x=some c\/((x,NameKind.free)∈l/\c=(env.cells.lookup x).getD 0)
 | [],cs,h=>.inl h
 | (n,k)::r,cs,h=>by
  rcases YJ (l:=r) h with h | ⟨h1,h2⟩
  ·by_cases hk:k=.free
   ·subst hk
    rw[if_pos yt,zad]at h
    by_cases hx:x=n
    ·subst hx
     simp only[beq_self_eq_true]at h
     exact .inr ⟨tK,(tX.inj h).symm⟩
    ·have hb:(x==n)=false:=beq_eq_false_iff_ne.mpr hx
     simp only[hb]at h
     exact .inl h
   ·have hb:(k==NameKind.free)=false:=by simpa using hk
    rw[if_neg (by rw[hb];decide)]at h
    exact .inl h
  ·exact .inr ⟨tF _ h1,h2⟩
theorem zn{env:Env}{x:Str}:∀{l:List (Str×NameKind)} {cs:List (Str×Addr)},((x,NameKind.free)∈l\/∃c,cs.lookup x=some c)->∃c,(jT env l cs).lookup x=some c
 | [],cs,h=>by
  rcases h with h | h
  ·cases h
  ·exact h
 | (n,k)::r,cs,h=>by
  show ∃c,(jT env r (if (k==NameKind.free)=true then (n,(env.cells.lookup n).getD 0)::cs else cs)).lookup x=some c
  refine zn (l:=r) ?_
  rcases h with h | ⟨c,h⟩
  ·rcases tJ.mp h with h | h
   ·cases h
    refine .inr ⟨(env.cells.lookup x).getD 0,?_⟩
    rw[if_pos yt,zad]
    simp only[beq_self_eq_true]
   ·exact .inl h
  ·refine .inr ?_
   by_cases hk:(k==NameKind.free)=true
   ·rw[if_pos hk,zad]
    cases hx:x==n with
    | true=>exact⟨_,rfl⟩
    | false=>exact⟨c,h⟩
   ·rw[if_neg hk]
    exact⟨c,h⟩
theorem zD{scope:Scope}{env:Env}{x:Str}{k:NameKind}:∀{names:List (Str×NameKind)},names.lookup x=some k->
  ∃k',(names.map λ(n,k)=>if (k==NameKind.free&&env.scope.kind==.function&&env.kindOf n==some .cell) then (n,NameKind.cell) else (n,k)).lookup x=some k'/\(k'=k\/(k=.free/\k'=.cell))
 | [],h=>by simp at h
 | (n,j)::r,h=>by
  rw[tL]
  by_cases hx:x=n
  ·subst hx
   rw[zad]at h
   simp only[beq_self_eq_true]at h
   cases h
   dsimp only
   by_cases hc:(k==NameKind.free&&env.scope.kind==.function&&env.kindOf x==some .cell)=true
   ·rw[if_pos hc,zad]
    simp only[beq_self_eq_true]
    refine⟨_,rfl,.inr ⟨?_,rfl⟩⟩
    simp only[zaa,beq_iff_eq]at hc
    exact hc.1.1
   ·rw[if_neg hc,zad]
    simp only[beq_self_eq_true]
    exact⟨_,rfl,.inl rfl⟩
  ·have hb:(x==n)=false:=beq_eq_false_iff_ne.mpr hx
   rw[zad]at h
   simp only[hb]at h
   obtain⟨k',h1,h2⟩:=zD (env:=env) (scope:=scope) h
   refine⟨k',?_,h2⟩
   dsimp only
   by_cases hc:(j==NameKind.free&&env.scope.kind==.function&&env.kindOf n==some .cell)=true
   ·rw[if_pos hc,zad]
    simp only[hb]
    exact h1
   ·rw[if_neg hc,zad]
    simp only[hb]
    exact h1
theorem mem_of_lookup{x:Str}{k:NameKind}:∀{l:List (Str×NameKind)},l.lookup x=some k->(x,k)∈l
 | [],h=>by simp at h
 | (n,j)::r,h=>by
  rw[zad]at h
  by_cases hx:x=n
  ·subst hx
   simp only[beq_self_eq_true]at h
   cases h
   exact tK
  ·have hb:(x==n)=false:=beq_eq_false_iff_ne.mpr hx
   simp only[hb]at h
   exact tF _ (mem_of_lookup h)
theorem Z1{f:Str×NameKind->Str×NameKind}(hf:∀p,(f p).1=p.1){x:Str}{k:NameKind}:∀{l:List (Str×NameKind)},(l.map f).lookup x=some k->∃j,l.lookup x=some j/\(f (x,j)).2=k
 | [],h=>by simp at h
 | (n,j)::r,h=>by
  rw[tL]at h
  have e:f (n,j)=(n,(f (n,j)).2):=by
   have:=hf (n,j)
   exact Prod.ext this rfl
  rw[e,zad]at h
  rw[zad]
  by_cases hx:x=n
  ·subst hx
   simp only[beq_self_eq_true]at h ⊢
   exact⟨j,rfl,tX.inj h⟩
  ·have hb:(x==n)=false:=beq_eq_false_iff_ne.mpr hx
   simp only[hb]at h ⊢
   exact Z1 hf h
def YI(X:Cx)(N:List Str)(scope:Scope)(C:Addr)(s₂:Shared)(H₂:Hp)(fp:List Addr)(pins:List (Addr×Obj)):Cx where
 prog:=X.prog
 w:=X.w
 K:=X.K
 mg:=X.mg
 base:=X.base
 A:=X.A
 N:=N
 s₀:=s₂
 H₀:=H₂
 env:=compEnvC scope (jT X.env scope.names []) C X.env
 outer:=X.stack
 stack:=X.stack
 ex:=fp
 fn:=λ_=>false
 calm:=X.calm
 pn:=X.pn++pins
 xe:=λ_ _=>False
def At(ix:List (Option Nat))(σ:St):St:=ix.map λo=>o.bind λj=>(σ[j]?).join
def NW(N' N:List Str)(sc esc:Scope)(ix:List (Option Nat)):Bool:=
 ix.length==N'.length&&(ix.zip N').all λp=>match p.1 with
  | none=>true
  | some j=>N[j]?==some p.2&&sc.names.lookup p.2==some .free&&(esc.names.lookup p.2==some .cell || esc.names.lookup p.2==some .free)
structure QA(X:Cx)(N':List Str)(ix:List (Option Nat))(scope:Scope):Prop where
 kind:scope.kind=.function
 nocell:(scope.names.all λx=>x.2 != .cell)=true
 locs:(scope.names.all λx=>x.2 != .local || scope.names.lookup x.1==some .local)=true
 frees:(scope.names.all λx=>x.2 != .free || (X.env.scope.names.lookup x.1==some .cell || X.env.scope.names.lookup x.1==some .free))=true
 ixs:NW N' X.N scope X.env.scope ix=true
section
variable{X:Cx}{N':List Str}{ix:List (Option Nat)}{scope:Scope}{pins:List (Addr×Obj)}{σ:St}{H:Hp}{s:Shared}
theorem QA.cellH(S:QA X N' ix scope):∀y∈scope.names,y.2≠.cell:=λy hy e=>by
 have:=zak.mp S.nocell y hy
 rw[e]at this
 exact absurd this (by decide)
theorem QA.locH(S:QA X N' ix scope):∀y∈scope.names,y.2=.local->scope.names.lookup y.1=some .local:=λy hy e=>by
 have:=zak.mp S.locs y hy
 simp only[e,zcY,bne_self_eq_false,zdk,false_or,beq_iff_eq]at this
 exact this
theorem QA.freeH(S:QA X N' ix scope)(ok:X.Ok):∀x∈scope.names,x.2=.free->∃c,X.env.cells.lookup x.1=some c:=λx hx e=>by
 have:=zak.mp S.frees x hx
 simp only[e,zcY,bne_self_eq_false,zdk,false_or,beq_iff_eq]at this
 exact ok.has x.1 this
theorem QA.clook(S:QA X N' ix scope)(ok:X.Ok){x:Str}{c:Addr}(h:(jT X.env scope.names []).lookup x=some c):X.env.cells.lookup x=some c/\(x,NameKind.free)∈scope.names:=by
 rcases YJ h with h | ⟨h1,h2⟩
 ·simp at h
 ·obtain⟨c',hc'⟩:=S.freeH ok _ h1 rfl
  have hc2:X.env.cells.lookup x=some c':=hc'
  rw[hc2]at h2
  subst h2
  exact⟨hc2,h1⟩
theorem DC{C:Addr}{fp:List Addr}(S:QA X N' ix scope)(I:qz X pins σ H s)(hC:s.heap.objs.size<=C)(hf:∀b∈fp,Z0 X pins H b)(hfo:∀b∈fp,b < s.heap.objs.size):(YI X N' scope C s H fp pins).Ok where
 mod:=I.ok.mod
 kind:=S.kind
 glob:=I.ok.glob
 blt:=I.ok.blt
 above:=hC
 inj:=λx y c h1 h2=>I.ok.inj x y c (S.clook I.ok h1).1 (S.clook I.ok h2).1
 has:=λx hx=>by
  have hx':(relabel scope X.env).names.lookup x=some .cell\/(relabel scope X.env).names.lookup x=some .free:=hx
  refine zn (.inl ?_)
  have go:∀k,(k=NameKind.cell\/k=.free)->(relabel scope X.env).names.lookup x=some k->(x,NameKind.free)∈scope.names:=λk hk h=>by
   obtain⟨j,h1,h2⟩:=Z1 (f:=λ(n,k)=>if (k==NameKind.free&&X.env.scope.kind==.function&&X.env.kindOf n==some .cell) then (n,NameKind.cell) else (n,k)) (λp=>by dsimp only;split<;>rfl) h
   have hm:=mem_of_lookup h1
   by_cases hj:j=.free
   ·subst hj;exact hm
   ·exfalso
    have hb:(j==NameKind.free)=false:=by simpa using hj
    dsimp only at h2
    rw[hb,zcv,zcv,if_neg (by decide)]at h2
    have h2':j=k:=h2
    rcases hk with e | e
    ·exact S.cellH _ hm (h2'.trans e)
    ·exact hj (h2'.trans e)
  rcases hx' with h | h
  ·exact go _ (.inl rfl) h
  ·exact go _ (.inr rfl) h
 cab:=λx c h _=>by cases h
 hd:=I.ok.hd
 frames:=I.ok.frames
 stk:=.inl rfl
 exf:=λb hb=>⟨zac (tE (hfo b hb) hC),λx c h=>(hf b hb).2.2.2.2.1 x c (S.clook I.ok h).1⟩
 bs:=I.bs
 bsz:=tM I.ok.bsz I.sz
 noex:=λb o e hb=>by
  rcases(hf b hb).2.2.2.1 with h | h
  ·exact I.ok.noex b o e h
  ·exact absurd (tE (tN e) (tM I.ok.bsz h)) (zaB _)
 exfs:=λb hb hm=>by
  rcases tJ.mp (I.stkSub b hm) with e | e
  ·exact(hf b hb).2.1 e
  ·exact(hf b hb).2.2.1 e
 funs:=I.stack
 frf:=I.stkFree
theorem xQ{C D:Addr}{fp:List Addr}{h₁:Heap}{m:Str->Option Value}{t':Nat}{n₀:Nat}(S:QA X N' ix scope)(I:qz X pins σ H s)(hf:∀b∈fp,Z0 X pins H b)(hfo:∀b∈fp,b < s.heap.objs.size)
  (hD:s.heap.objs.size<=D) (hC:s.heap.objs.size<=C) (hDC:D≠C) (kp:∀b o,s.heap.get? b=some o->h₁.get? b=some o) (hn:h₁.Ns C m) (hl:h₁.get? D=some {cls:=.type "list",data:=.seq #[] n₀}):
  qz (YI X N' scope C s H fp pins) [] (At ix σ) (upd H D (.lst [])) {s with heap:=h₁,toks:=t'} where
 ok:=DC S I hC hf hfo
 os:=rfl
 bare:=I.bare
 base:=Un.laid kp hD (I.hok.fresh hD)
 loc:=by
  refine⟨m,hn,λi x v e1 e2 e3=>?_⟩
  have hix:=S.ixs
  unfold NW at hix
  rw[zaa]at hix
  obtain⟨hlen,hall⟩:=hix
  have hlen':ix.length=N'.length:=by simpa using hlen
  have e1':N'[i]?=some x:=e1
  unfold At at e2
  rw[tZ]at e2
  cases ho:ix[i]? with
  | none=>rw[ho]at e2;cases e2
  | some o=>
   rw[ho]at e2
   cases o with
   | none=>cases e2
   | some j=>
    have e2':(σ[j]?).join=some v:=tX.inj e2
    have hz:(ix.zip N')[i]?=some (some j,x):=by
     rw[zcE]
     exact⟨ho,e1'⟩
    have hm:=zak.mp hall _ (tV hz)
    dsimp only at hm
    simp only[zaa,beq_iff_eq,zcY]at hm
    obtain⟨⟨hN,hfr⟩,hk⟩:=hm
    have e2'':σ[j]?=some (some v):=by
     cases q:σ[j]? with
     | none=>rw[q]at e2';cases e2'
     | some z=>
      rw[q]at e2'
      have:z=some v:=e2'
      rw[this]
    obtain⟨mX,hnX,hlX⟩:=I.loc
    have hvis:Cc X.env.scope x:=by
     rcases hk with h | h
     ·exact .inr (.inl h)
     ·exact .inr (.inr h)
    obtain⟨u,ru,lu⟩:=hlX j x v hN e2'' hvis
    refine⟨u,ru,?_⟩
    rcases lu with ⟨hk',_⟩ | ⟨_,c,hc,hcell⟩
    ·exfalso
     have hk'':X.env.scope.names.lookup x=some .local:=hk'
     rcases hk with h | h<;>rw[h]at hk''<;>cases hk''
    ·right
     obtain⟨k',r1,r2⟩:=zD (scope:=scope) (env:=X.env) hfr
     refine⟨?_,?_⟩
     ·rcases r2 with z | ⟨_,z⟩
      ·right;rw[z]at r1;exact r1
      ·left;rw[z]at r1;exact r1
     ·obtain⟨c',hc'⟩:=zn (env:=X.env) (cs:=[]) (.inl (mem_of_lookup hfr))
      have:=(S.clook I.ok hc').1
      rw[hc]at this
      cases this
      obtain⟨o,ho',hd⟩:=hcell
      exact⟨c,hc',o,kp _ _ ho',hd⟩
 cell:=λx c h=>by
  obtain⟨v,o,ho,hd⟩:=I.cell x c (S.clook I.ok h).1
  exact⟨v,o,kp _ _ ho,hd⟩
 free:=by
  show (upd H D _) C=none
  rw[qi (Ne.symm hDC)]
  exact I.hok.fresh hC
 freeC:=λx c h=>by
  have h1:=(S.clook I.ok h).1
  obtain⟨v,o,ho,hd⟩:=I.cell x c h1
  rw[qi (zac (tE (tN ho) hD))]
  exact(I.freeC x c h1).imp id λz=>⟨rfl,z.2⟩
 pin:=λp hp=>by
  have hp':p∈X.pn++pins:=by
   have:p∈(X.pn++pins)++[]:=hp
   simpa using this
  obtain⟨e,n,ne,nf,d⟩:=I.pin p hp'
  have hlt:=tN e
  refine⟨kp _ _ e,?_,zac (tE hlt hC),λhm=>?_,d⟩
  ·rw[qi (zac (tE hlt hD))];exact n
  ·rcases tJ.mp (I.stkSub p.1 hm) with z | z
   ·exact ne z
   ·exact nf z
 hok:=I.hok.laid kp hD ⟨zao _,[],n₀,.nil,hl⟩
 len:=by
  have hix:=S.ixs
  unfold NW at hix
  rw[zaa]at hix
  have:ix.length=N'.length:=by simpa using hix.1
  show (At ix σ).length=N'.length
  unfold At
  rw[tj,this]
theorem K1{C:Addr}{fp:List Addr}{σ':St}{H':Hp}{s':Shared}{pl:List (Addr×Obj)}(I:qz X pins σ H s)(hf:∀b∈fp,Z0 X pins H b)(J:qz (YI X N' scope C s H fp pins) pl σ' H' s'):qz X pins σ H' s':=
 I.call' (ch:=fp) J.os J.base J.hok J.bare λb hb=>⟨(hf b hb).2.2.2.1,(hf b hb).2.1,(hf b hb).2.2.2.2.1,(hf b hb).2.2.2.2.2⟩
theorem K0{C:Addr}{H':Hp}{s₀ s':Shared}{h':Heap}(I₀:qz X pins σ H s₀)(I:qz X pins σ H' s')(hC:s₀.heap.objs.size<=C)(hn:H' C=none)(sb:Heap.SameBut C s'.heap h'):qz X pins σ H' {s' with heap:=h'}:=by
 refine I.turned (it:=C) (t':=s'.toks) (λb o hb e=>(sb.2 b hb).trans e) hn (zbI (tE I₀.lt hC)) (.inr (tM I₀.sz hC)) (λx c e z=>?_) λp hp z=>?_
 ·obtain⟨v,q⟩:=I₀.cell x c e
  exact absurd (tE q.lt (by rw[z];exact hC)) (zaB _)
 ·exact absurd (tE (tN (I₀.pin p hp).1) (by rw[z];exact hC)) (zaB _)
end
def Cd(X:Cx)(ifs:List Expr)(t:TT):Prop:=
 ∀(pins:List (Addr×Obj)) (s:Shared) (σ:St) (H:Hp) (Q:Bool->Hp->Prop),qz X pins σ H s->t σ H Q->
  wpAny (model X.prog X.w) X.A (forIn ifs true λc r=>if r=true then do let ok <-isTrue c X.env (eval c X.env);pure (ForInStep.yield ok) else pure (ForInStep.yield r)) (TP X pins σ Q) X.xe s
@[irreducible] def Rc (X:Cx) (ifs:List Expr) (t:TT):Prop:=Cd X ifs t
theorem Rc.of{X:Cx}{ifs:List Expr}{t:TT}(h:Cd X ifs t):Rc X ifs t:=by unfold Rc;exact h
theorem Rc.to{X:Cx}{ifs:List Expr}{t:TT}(h:Rc X ifs t):Cd X ifs t:=by unfold Rc at h;exact h
def D6:TT:=λ_ H Q=>Q true H
theorem jr{X:Cx}:Rc X [] D6:=.of (by
 exact λ_ _ _ H _ I h=>wpAny_tests_nil ⟨H,I,h⟩)
theorem ZW{X:Cx}{c:Expr}{t:TT}(h:JT X c t):Rc X [c] t:=.of (by
 have h:=h.to
 exact λpins s σ H Q I hw=>wpAny_tests_one (h pins s σ H Q I hw))
section
variable{prog:Program}{w:World}{A:Around}{R:Result->Shared->Prop}{s:Shared}
theorem VB{elt target iter:Expr}{ifs:List Expr}{scope:Scope}{pos:Pos}{it acc:Value}{env:Env}(I:Nat->Shared->Prop)
  (turn:∀n s,I n s->wpAny (model prog w) A (pyNext it) (λr s₁=>match r with
   | none=>R (.ok .next) s₁
   | some v=>wpAny (model prog w) A (letOwnedTupleGo target it v) (λ_ s₁'=>wpAny (model prog w) A (assign target env v) (λ_ s₂=>
    wpAny (model prog w) A (forIn ifs true λc r=>if r=true then do let ok <-isTrue c env (eval c env);pure (ForInStep.yield ok) else pure (ForInStep.yield r)) (λok s₃=>
     if ok=true then wpAny (model prog w) A (eval elt env) (λx s₄=>
      wpAny (model prog w) A (call (.builtin "list.append") [acc,x]) (λ_ s₅=>∃m,m < n/\I m s₅) (λ_ _=>False) s₄) (λ_ _=>False) s₃
     else ∃m,m < n/\I m s₃) (λ_ _=>False) s₂) (λ_ _=>False) s₁') (λ_ _=>False) s₁) (λ_ _=>False) s)
  (n:Nat) (h:I n s):
  codeAny (model prog w) A (.compLoop (.ListComp elt [⟨target,iter,ifs,0⟩] scope pos) 0 it acc env) R s:=by
 refine codeAny_loop rfl I (λn s hI=>?_) n h
 show wpAny _ A ((compTurn (.ListComp elt [⟨target,iter,ifs,0⟩] scope pos) 0 it acc env).onRaise (λx=>do noteFrame x env;theTreesLotGoes x)) _ _ s
 refine wpAny_noted ?_
 rw[compTurn_list]
 refine zdy (wpAny_standAt (zdy (wpAny_mono (turn n s hI) (λr s₁ h₁=>?_) λ_ _ h'=>h'.elim)))
 cases r with
 | none=>exact zdz h₁
 | some v=>
  refine zdy (wpAny_mono h₁ (λ_ s₁' h₁'=>?_) λ_ _ h'=>h'.elim)
  refine zdy (wpAny_mono h₁' (λ_ s₂ h₂=>zdy (wpAny_mono h₂ (λok s₃ h₃=>?_) λ_ _ h'=>h'.elim)) λ_ _ h'=>h'.elim)
  cases ok with
  | false=>exact zdz ⟨rfl,h₃⟩
  | true=>
   exact zdy (zdy (wpAny_mono h₃ (λx s₄ h₄=>zdy (wpAny_mono h₄ (λ_ s₅ h₅=>zdz (zdz ⟨rfl,h₅⟩)) λ_ _ h'=>h'.elim)) λ_ _ h'=>h'.elim))
end
def X7(J:It)(g:TG)(tt:TT)(te:TE)(D:Addr)(σ:St)(H:Hp)(Q:Hp->Prop):Prop:=
 ∃W:Nat->Nat->St->Hp->Prop,(∃m,W 0 m σ (upd H D (.lst [])))/\∀i m σ' H',W i m σ' H'->
  (J.stop i H'/\Q H')\/(J.go i H'/\∃N:St->Hp->Prop,(∀σ2 H2,N σ2 H2->∃m',m' < m/\W (i+1) m' σ2 H2)/\∀x H2,J.yld i H' x H2->g x σ' H2 λσ2 H3=>tt σ2 H3 λb H4=>
   if b=true then te σ2 H4 λv H5=>∃ys,H5 D=some (.lst ys)/\ys.length < zdB/\N σ2 (upd H5 D (.lst (ys++[v]))) else N σ2 H4)
def DW(wi:TI)(ix:List (Option Nat))(g:TG)(tt:TT)(te:TE):TE:=λσ H Q=>wi σ H λJ H1=>∀D,H1 D=none->X7 J g tt te D (At ix σ) H1 λH2=>Q (.ref D) H2
section
variable{X:Cx}{N':List Str}{ix:List (Option Nat)}{scope:Scope}
theorem WQ{elt iter target:Expr}{ifs:List Expr}{pos:Pos}{g:TG}{tt:TT}{te:TE}{pins:List (Addr×Obj)}{σ:St}{H:Hp}{s:Shared}{it:Addr}{fp:List Addr}{tn:Nat->Heap->Prop}{J:It}{E:Value->Shared->Prop}
  {RR:Value->Addr->Result->Shared->Prop} {Q:Addr->Hp->Prop}
  (hc:X.calm=true) (S:QA X N' ix scope) (I:qz X pins σ H s) (T:U0 X.prog X.w X.K target J fp it tn) (st:tn 0 s.heap) (hf:∀b∈fp,Z0 X pins H b)
  (hb:∀C s₂ H₂ fp pins,PG (YI X N' scope C s₂ H₂ fp pins) target g/\Cd (YI X N' scope C s₂ H₂ fp pins) ifs tt/\PE (YI X N' scope C s₂ H₂ fp pins) elt te)
  (h:∀D,H D=none->X7 J g tt te D (At ix σ) H (Q D))
  (fin:∀(D C:Addr) (H':Hp) (s':Shared) (m:Str->Option Value),s.heap.objs.size<=C->H' C=none->s'.heap.Ns C m->qz X pins σ H' s'->Q D H'->RR (.ref D) C (.ok .next) s'):
  wpAny (model X.prog X.w) X.A (newList []) (λacc s₃=>wpAny (model X.prog X.w) X.A (newFunctionEnv scope X.env.globals (jT X.env scope.names []) [] X.env.qual none .none (some X.env)) (λcenv s₄=>
   codeAny (model X.prog X.w) X.A (.compStart (.ListComp elt [⟨target,iter,ifs,0⟩] scope pos) 0 (.ref it) acc {cenv with scope:=relabel scope X.env}) (RR acc cenv.locals) s₄) E s₃) E s:=by
 have hfo:∀b∈fp,b < s.heap.objs.size:=λb hb=>by
  obtain⟨o,e,_⟩:=T.obj _ _ st b hb
  exact tN e
 refine wpAny_newObj_type (wpAny_newFunctionEnv S.cellH (by intro y hy;simp at hy) (λh₁ hns₁ hsb₁=>?_) S.kind)
 dsimp only at hns₁ hsb₁ ⊢
 generalize hH2:s.heap.push {cls:=.type "list",dict:=none,data:=.seq ([]:List Value).toArray}=H2 at hns₁ hsb₁ ⊢
 have hC:H2.objs.size=s.heap.objs.size+1:=by rw[<-hH2,zbf]
 have hDC:s.heap.objs.size≠H2.objs.size:=by rw[hC];exact zac (zbu _)
 have hCle:s.heap.objs.size<=H2.objs.size:=by rw[hC];exact zdb _
 have below:∀b,b < s.heap.objs.size->b≠H2.objs.size:=λb hb=>by rw[hC];exact zac (zcI hb)
 have old:∀b o,s.heap.get? b=some o->h₁.get? b=some o:=λb o e=>hsb₁.extBut b o (below b (tN e)) (tz _ (hH2▸tz _ e))
 have hacc:h₁.get? s.heap.objs.size=some {cls:=.type "list",data:=.seq #[] 0}:=hsb₁.extBut _ _ hDC (tz _ (hH2▸zae _ rfl))
 obtain⟨W,⟨m0,w0⟩,turn⟩:=h s.heap.objs.size (I.hok.fresh (tu _))
 have I1:qz (YI X N' scope H2.objs.size s H fp pins) [] (At ix σ) (upd H s.heap.objs.size (.lst [])) {s with heap:=h₁,toks:=s.toks+([]:List (Str×Value)).length}:=
  xQ S I hf hfo (tu _) hCle hDC old hns₁ hacc
 have st₁:tn 0 h₁:=T.keep _ _ _ st λb hb o e=>old b o e
 have fpn:∀b∈fp,(upd H s.heap.objs.size (.lst [])) b=none:=λb hb=>by
  rw[qi (zac (hfo b hb))]
  exact(hf b hb).1
 obtain⟨hg,htt,hte⟩:=hb H2.objs.size s H fp pins
 have okY:=I1.ok
 have stat:∀{H':Hp},(∀b∈fp,H' b=none)->∀b∈fp,Z0 (YI X N' scope H2.objs.size s H fp pins) [] H' b:=λ{H'} hn b hb=>
  ⟨hn b hb,(okY.exf b hb).1,okY.exfs b hb,.inl hb,(okY.exf b hb).2,λp hp=>by
   have hp':p∈X.pn++pins:=by
    have:p∈(X.pn++pins)++[]:=hp
    simpa using this
   exact(hf b hb).2.2.2.2.2 p hp'⟩
 have loop:codeAny (model X.prog X.w) X.A (.compLoop (.ListComp elt [⟨target,iter,ifs,0⟩] scope pos) 0 (.ref it) (.ref s.heap.objs.size) (compEnvC scope (jT X.env scope.names []) H2.objs.size X.env))
   (RR (.ref s.heap.objs.size) H2.objs.size) {s with heap:=h₁,toks:=s.toks+([]:List (Str×Value)).length}:=by
  refine VB (λn s'=>∃i σ' H',qz (YI X N' scope H2.objs.size s H fp pins) [] σ' H' s'/\tn i s'.heap/\(∀b∈fp,H' b=none)/\W i n σ' H') ?_ m0 ⟨0,_,_,I1,st₁,fpn,w0⟩
  rintro n s3 ⟨i,σ3,H3,I3,st3,fr3,w3⟩
  rcases turn i n σ3 H3 w3 with ⟨stop,qn⟩ | ⟨go,NN,hNN,step⟩
  ·refine jm (T.done (YI X N' scope H2.objs.size s H fp pins) rfl rfl rfl hc i [] s3 σ3 H3 _ I3 (stat fr3) st3 stop) λr s4 ⟨hr,I4⟩=>?_
   subst hr
   obtain⟨mm,hnm,_⟩:=I4.loc
   exact fin _ _ H3 s4 mm hCle I4.free hnm (K1 I hf I4) qn
  ·refine jm (T.item (YI X N' scope H2.objs.size s H fp pins) rfl rfl rfl hc i [] s3 σ3 H3 _ I3 (stat fr3) st3 go) λr s4 ⟨u,hr,h4⟩=>?_
   subst hr
   refine jm h4 λ_ s5 ⟨x,H5,I5,r5,y5,st5,fr5⟩=>?_
   have I5':=I5.pinned (stat fr5) (T.obj _ _ st5)
   refine jm (hg _ s5 σ3 H5 x u _ I5' r5 (step x H5 y5)) λ_ s6 ⟨σ6,H6,I6,q6⟩=>?_
   refine jm (htt _ s6 σ6 H6 _ I6 q6) λok s7 ⟨H7,I7,q7⟩=>?_
   have again:∀{σ8:St} {H8:Hp} {s8:Shared},qz (YI X N' scope H2.objs.size s H fp pins) ([]++Xz fp s5.heap) σ8 H8 s8->NN σ8 H8->
     ∃m,m < n/\∃i σ' H',qz (YI X N' scope H2.objs.size s H fp pins) [] σ' H' s8/\tn i s8.heap/\(∀b∈fp,H' b=none)/\W i m σ' H':=λ{σ8 H8 s8} I8 n8=>by
    obtain⟨m',hm,w8⟩:=hNN σ8 H8 n8
    refine⟨m',hm,i+1,σ8,H8,I8.unpinned,T.keep _ _ _ st5 λb hb o e=>(I8.pin (b,o) (zan _ (zan _ (JY hb e)))).1,λb hb=>?_,w8⟩
    obtain⟨o,e,d⟩:=T.obj _ _ st5 b hb
    exact(I8.pin (b,o) (zan _ (zan _ (JY hb e)))).2.1
   cases ok with
   | false=>
    rw[if_neg tS]at q7 ⊢
    exact again I7 q7
   | true=>
    rw[if_pos rfl]at q7 ⊢
    refine jm (hte _ s7 σ6 H7 _ I7 q7) λv s8 ⟨y,H8,I8,r8,q8⟩=>?_
    obtain⟨ys,hy,hz,q8⟩:=q8
    refine jm (WB (X:=YI X N' scope H2.objs.size s H fp pins) _ s8 σ6 H8 (.ref s.heap.objs.size) [y] (.ref s.heap.objs.size) [v] (λ_ H9=>NN σ6 H9) I8 rfl (.cons r8 .nil) ⟨_,ys,y,rfl,rfl,hy,hz,q8⟩) λ_ s9 ⟨_,H9,I9,_,q9⟩=>?_
    exact again I9 q9
 exact codeAny_compStart_list loop (T.self X.A 0 _ _ _ st₁ loop)
theorem Da{elt iter target:Expr}{ifs:List Expr}{pos:Pos}{wi:TI}{g:TG}{tt:TT}{te:TE}(hc:X.calm=true)(S:QA X N' ix scope)(hi:PI X target iter wi)
  (hb:∀C s₂ H₂ fp pins,PG (YI X N' scope C s₂ H₂ fp pins) target g/\Cd (YI X N' scope C s₂ H₂ fp pins) ifs tt/\PE (YI X N' scope C s₂ H₂ fp pins) elt te)
  (hs:∀x,foldedSetIterable iter X.env x=pure x:=by intro _;rfl):PE X (.ListComp elt [⟨target,iter,ifs,0⟩] scope pos) (DW wi ix g tt te):=by
 intro pins s σ H Q I h
 rw[eval_ListComp]
 refine wpAny_comprehension_free (use:=none) rfl hs (Z4 (S.freeH I.ok)) S.kind S.locH ?_
 refine jm (hi pins s σ H _ I h) λxv s1 h1=>jm h1 λitv s2 h2=>?_
 obtain⟨it,fp,tn,J,H2,e,I2,T,st2,f2,q2⟩:=h2
 subst e
 refine WQ (RR:=λacc C=>compPost (model X.prog X.w) X.A X.xe none (EP X pins σ Q) acc C) (Q:=λD H'=>Q (.ref D) H') hc S I2 T st2 f2 hb q2 ?_
 intro D C H' s' m hC hn hm I' q
 exact⟨m,hm,λh' sb=>⟨.ref D,H',K0 I2 I' hC hn sb,rfl,q⟩⟩
theorem Ql{elt iter target:Expr}{ifs:List Expr}{pos:Pos}{wi:TI}{g:TG}{tt:TT}{te:TE}(hc:X.calm=true)(S:QA X N' ix scope)(hi:JI X target iter wi)(hb:∀C s₂ H₂ fp pins,JG (YI X N' scope C s₂ H₂ fp pins) target g/\Rc (YI X N' scope C s₂ H₂ fp pins) ifs tt/\JE (YI X N' scope C s₂ H₂ fp pins) elt te)(hs:∀x,foldedSetIterable iter X.env x=pure x:=by intro _;rfl):JE X (.ListComp elt [⟨target,iter,ifs,0⟩] scope pos) (DW wi ix g tt te):=.of (Da hc S hi.to (λC s₂ H₂ fp pins=>⟨(hb C s₂ H₂ fp pins).1.to,(hb C s₂ H₂ fp pins).2.1.to,(hb C s₂ H₂ fp pins).2.2.to⟩) hs)
theorem uU{i:Nat}{x:Str}{elt iter target:Expr}{ifs:List Expr}{pos spos px:Pos}{wi:TI}{g:TG}{tt:TT}{te:TE}(hN:X.N.Nodup)(hxi:X.N[i]?=some x)(hx:BZ X.env.scope x)(hc:X.calm=true)(S:QA X N' ix scope)(hi:PI X target iter wi)
  (hb:∀C s₂ H₂ fp pins,PG (YI X N' scope C s₂ H₂ fp pins) target g/\Cd (YI X N' scope C s₂ H₂ fp pins) ifs tt/\PE (YI X N' scope C s₂ H₂ fp pins) elt te)
  (hsw:swapsWith (.ListComp elt [⟨target,iter,ifs,0⟩] scope pos) (some (.Name x px)) spos.line X.env=pure true:=by rfl)
  (hs:∀x,foldedSetIterable iter X.env x=pure x:=by intro _;rfl) (hf:X.fn x=true\/X.env.scope.names.lookup x=some .local:=by first | exact .inl rfl | exact .inr rfl | assumption):
  PS X (.Assign [.Name x px] (.ListComp elt [⟨target,iter,ifs,0⟩] scope pos) spos) (yW (DW wi ix g tt te) (j3 i)):=by
 intro pins s σ H D I h
 rw[exec_Assign_Name_used _ _ _ _ hsw]
 refine zdy (wpAny_standAt (zdy ?_))
 show wpAny _ X.A (do let _ <-comprehension (.ListComp elt [⟨target,iter,ifs,0⟩] scope pos) scope X.env _ (newList []) false (eval iter X.env) (some (assign (.Name x px) X.env))) _ _ s
 refine zdy (jm (wpAny_comprehension_free (use:=some (assign (.Name x px) X.env)) (Q:=λ_ s'=>SP X pins D .next s') rfl hs (Z4 (S.freeH I.ok)) S.kind S.locH ?_) λ_ s' hq=>zdz (zdz hq))
 refine jm (hi pins s σ H _ I h) λxv s1 h1=>jm h1 λitv s2 h2=>?_
 obtain⟨it,fp,tn,J,H2,e,I2,T,st2,f2,q2⟩:=h2
 subst e
 refine WQ (RR:=λacc C=>compPost (model X.prog X.w) X.A X.xe (some (assign (.Name x px) X.env)) (λ_ s'=>SP X pins D .next s') acc C) (Q:=λD' H'=>j3 i (.ref D') σ H' D.nx) hc S I2 T st2 f2 hb q2 ?_
 intro D' C H' s' m hC hn hm I' q
 show wpAny _ X.A (assign (.Name x px) X.env (.ref D')) _ _ _
 refine wpAny_assign_Name (Wj I' hN hxi hx (v:=.ref D') rfl (λs'' I'' hch=>?_) hf)
 obtain⟨a,sb,ha⟩:=hch
 have hCa:C≠a:=by
  rcases ha with z | z
  ·rw[z];exact zbI (tE I2.lt hC)
  ·intro e
   obtain⟨v,qc⟩:=I2.cell x a z
   exact absurd (tE qc.lt (by rw[<-e];exact hC)) (zaB _)
 refine⟨m,hm.sameBut sb hCa,λh' sb'=>?_⟩
 refine⟨_,H',?_,q⟩
 refine I''.turned (it:=C) (t':=s''.toks) (λb o hb e=>(sb'.2 b hb).trans e) hn (zbI (tE I2.lt hC)) (.inr (tM I2.sz hC)) (λy c e z=>?_) λp hp z=>?_
 ·obtain⟨v,qc⟩:=I2.cell y c e
  exact absurd (tE qc.lt (by rw[z];exact hC)) (zaB _)
 ·exact absurd (tE (tN (I2.pin p hp).1) (by rw[z];exact hC)) (zaB _)
theorem zK{i:Nat}{x:Str}{elt iter target:Expr}{ifs:List Expr}{pos spos px:Pos}{wi:TI}{g:TG}{tt:TT}{te:TE}(hN:X.N.Nodup)(hxi:X.N[i]?=some x)(hx:BZ X.env.scope x)(hc:X.calm=true)(S:QA X N' ix scope)(hi:JI X target iter wi)(hb:∀C s₂ H₂ fp pins,JG (YI X N' scope C s₂ H₂ fp pins) target g/\Rc (YI X N' scope C s₂ H₂ fp pins) ifs tt/\JE (YI X N' scope C s₂ H₂ fp pins) elt te)(hsw:swapsWith (.ListComp elt [⟨target,iter,ifs,0⟩] scope pos) (some (.Name x px)) spos.line X.env=pure true:=by rfl)(hs:∀x,foldedSetIterable iter X.env x=pure x:=by intro _;rfl)(hf:X.fn x=true\/X.env.scope.names.lookup x=some .local:=by first | exact .inl rfl | exact .inr rfl | assumption):JS X (.Assign [.Name x px] (.ListComp elt [⟨target,iter,ifs,0⟩] scope pos) spos) (yW (DW wi ix g tt te) (j3 i)):=.of (uU hN hxi hx hc S hi.to (λC s₂ H₂ fp pins=>⟨(hb C s₂ H₂ fp pins).1.to,(hb C s₂ H₂ fp pins).2.1.to,(hb C s₂ H₂ fp pins).2.2.to⟩) hsw hs hf)
end
def Fo(x:Str):It:=⟨λi _=>i < x.cps.size,λi H v H'=>H'=H/\∃c,x.cps[i]?=some c/\v=.str ⟨#[c]⟩,λi _=>i=x.cps.size⟩
theorem VS{P:Program}{w:World}{K:zdw}{tg:Expr}(it:Addr)(x:Str)(t:Tok)(ty:String)
  (hn:["enumerate","zip","dict_itemiterator","dict_reverseitemiterator","odict_iterator","itertools.zip_longest","itertools.pairwise"].contains ty=false)
  (hW:∀A:Around,A.handled=none->Walks P w A it [it] [it] x.cps.size (SignAt x) (λi h=>h.IsStrIter it ty x t i))
  (hself:∀(A:Around) (i:Nat) (s:Shared) (Q:Value->Shared->Prop) (E:Value->Shared->Prop),s.heap.IsStrIter it ty x t i->Q (.ref it) s->wpAny (model P w) A (pyIter (.ref it)) Q E s):
  U0 P w K tg (Fo x) [it] it (λi h=>h.IsStrIter it ty x t i) where
 mem:=by simp
 obj:=λi h st b hb=>by
  have e:b=it:=by simpa using hb
  subst e
  obtain⟨o,e,c,d⟩:=st
  exact⟨o,e,λv z=>by rw[d]at z;cases z⟩
 keep:=λi h h' st k=>let ⟨o,e,r⟩:=st;⟨o,k it (by simp) o e,r⟩
 item:=by
  intro X hP hw hK hc i pins s σ H E I hf st hg
  subst hP hw hK
  obtain⟨f0,f1,f2,f3,f4,f5⟩:=hf it (by simp)
  refine(hW X.A (I.ok.hd hc)).item i s _ _ hg st λv h' tk hv st' kk=>?_
  obtain⟨c,u,hcu,rfl⟩:=hv
  have I1:qz X pins σ H {s with heap:=h',toks:=tk}:=I.turned (λb o hb e=>kk b o (by simpa using hb) e) f0 f1 f3 f4 f5
  obtain⟨o,e,c1,d1⟩:=id st'
  exact⟨_,rfl,yo (s:={s with heap:=h',toks:=tk}) e c1 d1 hn ⟨.str ⟨#[c]⟩,H,I1,⟨u,rfl⟩,⟨rfl,c,hcu,rfl⟩,st',λb hb=>(hf b hb).1⟩⟩
 done:=by
  intro X hP hw hK hc i pins s σ H E I hf st hg
  subst hP hw hK
  obtain⟨f0,f1,f2,f3,f4,f5⟩:=hf it (by simp)
  have hi:i=x.cps.size:=hg
  subst hi
  exact(hW X.A (I.ok.hd hc)).done s _ _ st λh' tk kk=>⟨rfl,I.turned (λb o hb e=>kk b o (by simpa using hb) e) f0 f1 f3 f4 f5⟩
 self:=hself
def E7(tl:TE):TI:=λσ H R=>tl σ H λx H1=>∃y,x=.str y/\R (Fo y) H1
theorem KI{X:Cx}{tg l:Expr}{tl:TE}(hl:JE X l tl):JI X tg l (E7 tl):=.of (by
 have hl:=hl.to
 intro pins s σ H R I h
 refine jm (hl pins s σ H _ I h) λv s1 ⟨x,H1,I1,r1,q1⟩=>?_
 obtain⟨y,e,q⟩:=q1
 subst e
 obtain⟨t,rfl⟩:=r1
 have fp:∀b∈[s1.heap.objs.size],Z0 X pins H1 b:=λb hb=>by
  have e:b=s1.heap.objs.size:=by simpa using hb
  subst e
  exact I1.fpOk (tu _) (I1.hok.fresh (tu _))
 cases ha:y.cps.all (· < 128)
 ·refine wpAny_pyIter_wide ha ?_
  exact⟨s1.heap.objs.size,[s1.heap.objs.size],_,_,H1,rfl,I1.kept (t':=s1.toks) λb o e=>tz _ e,
   VS _ y t "str_iterator" (by decide) (λA hA=>Walks.strWide hA _ y t) (λA i s Q E st q=>wpAny_pyIter_striter_wide st q),⟨_,zae _ rfl,rfl,rfl⟩,fp,q⟩
 ·refine wpAny_pyIter_ascii ha ?_
  exact⟨s1.heap.objs.size,[s1.heap.objs.size],_,_,H1,rfl,I1.kept (t':=s1.toks) λb o e=>tz _ e,
   VS _ y t "str_ascii_iterator" (by decide) (λA hA=>Walks.strAscii hA _ y t) (λA i s Q E st q=>wpAny_pyIter_striter_ascii st q),⟨_,zae _ rfl,rfl,rfl⟩,fp,q⟩)
section
variable{K:zdw}{g:TG}{tt:TT}{te:TE}{D a:Addr}{σ:St}{H:Hp}{Q:Hp->Prop}
def UY(tt:TT)(te:TE)(D:Addr)(N:St->Hp->Prop):St->Hp->Prop:=λσ2 H3=>tt σ2 H3 λb H4=>
 if b=true then te σ2 H4 λv H5=>∃ys,H5 D=some (.lst ys)/\ys.length < zdB/\N σ2 (upd H5 D (.lst (ys++[v]))) else N σ2 H4
theorem XX{J:It}{n:Nat}(Pv:Nat->St->Hp->Prop)(h0:Pv 0 σ (upd H D (.lst [])))
  (go:∀i σ' H',i < n->Pv i σ' H'->J.go i H'/\∀x H2,J.yld i H' x H2->g x σ' H2 (UY tt te D (Pv (i+1)))) (stop:∀σ' H',Pv n σ' H'->J.stop n H'/\Q H'):X7 J g tt te D σ H Q:=by
 refine⟨λi m σ' H'=>m=n - i/\i<=n/\Pv i σ' H',⟨n,by simp,zao _,h0⟩,?_⟩
 rintro i m σ' H' ⟨rfl,hi,p⟩
 by_cases hlt:i < n
 ·obtain⟨h1,h2⟩:=go i σ' H' hlt p
  exact .inr ⟨h1,Pv (i+1),λσ2 H2 p2=>⟨n - (i+1),by omega,rfl,hlt,p2⟩,h2⟩
 ·have e:i=n:=by omega
  subst e
  exact .inl (stop σ' H' p)
theorem WR{lo:Int}{n:Nat}(Pv:Nat->St->Hp->Prop)(h0:Pv 0 σ (upd H D (.lst [])))
  (hs:∀i σ' H',i < n->Pv i σ' H'->g (.int (lo+i)) σ' H' (UY tt te D (Pv (i+1)))) (hd:∀σ' H',Pv n σ' H'->Q H'):X7 (Af lo n) g tt te D σ H Q:=
 XX (n:=n) Pv h0 (λi σ' H' hi p=>⟨hi,λx H2 y=>by
  obtain⟨e,y⟩:=y
  subst e y
  exact hs i σ' H2 hi p⟩) λσ' H' p=>⟨tu _,hd σ' H' p⟩
theorem Qe{xs:List V}(Pv:Nat->St->Hp->Prop)(h0:Pv 0 σ (upd H D (.lst [])))(hl:∀i σ' H',i<=xs.length->Pv i σ' H'->SqL K H' a xs)
  (hs:∀i x σ' H',xs[i]?=some x->Pv i σ' H'->g x σ' H' (UY tt te D (Pv (i+1)))) (hd:∀σ' H',Pv xs.length σ' H'->Q H'):X7 (B0 K a) g tt te D σ H Q:=
 XX (n:=xs.length) Pv h0 (λi σ' H' hi p=>⟨⟨xs,xs[i],hl i σ' H' (zaC hi) p,by simp [hi]⟩,λx H2 y=>by
  obtain⟨e,y⟩:=y
  subst e
  exact hs i x σ' _ (y xs (hl i σ' _ (zaC hi) p)) p⟩) λσ' H' p=>⟨⟨xs,hl _ σ' H' (tu _) p,tu _⟩,hd σ' H' p⟩
theorem yC{xs:List V}(Pv:Nat->St->Hp->Prop)(h0:Pv 0 σ (upd H D (.lst [])))(hl:∀i σ' H',i<=xs.length->Pv i σ' H'->SqT K H' a xs)
  (hs:∀i x σ' H',xs[i]?=some x->Pv i σ' H'->g x σ' H' (UY tt te D (Pv (i+1)))) (hd:∀σ' H',Pv xs.length σ' H'->Q H'):X7 (Cg K a) g tt te D σ H Q:=
 XX (n:=xs.length) Pv h0 (λi σ' H' hi p=>⟨⟨xs,xs[i],hl i σ' H' (zaC hi) p,by simp [hi]⟩,λx H2 y=>by
  obtain⟨e,y⟩:=y
  subst e
  exact hs i x σ' _ (y xs (hl i σ' _ (zaC hi) p)) p⟩) λσ' H' p=>⟨⟨xs,hl _ σ' H' (tu _) p,tu _⟩,hd σ' H' p⟩
theorem yD{x:Str}(Pv:Nat->St->Hp->Prop)(h0:Pv 0 σ (upd H D (.lst [])))
  (hs:∀i c σ' H',x.cps[i]?=some c->Pv i σ' H'->g (.str ⟨#[c]⟩) σ' H' (UY tt te D (Pv (i+1)))) (hd:∀σ' H',Pv x.cps.size σ' H'->Q H'):X7 (Fo x) g tt te D σ H Q:=
 XX (n:=x.cps.size) Pv h0 (λi σ' H' hi p=>⟨hi,λv H2 y=>by
  obtain⟨e,c,hc,rfl⟩:=y
  subst e
  exact hs i c σ' _ hc p⟩) λσ' H' p=>⟨rfl,hd σ' H' p⟩
end
section
variable{X:Cx}
theorem XY:∀(bs:List Bool),(zaD bs.length).all (λi=>bs.getD i false)=bs.all id:=by
 intro bs
 induction bs with
 | nil=>rfl
 | cons b bs ih=>
  rw[tP,List.range_succ_eq_map,zcJ,zby,zcJ]
  have:((λi=>(b::bs).getD i false) ∘ Nat.succ)=λi=>bs.getD i false:=by
   funext i
   simp [Function.comp]
  rw[this,ih]
  simp
theorem QR(hc:X.calm=true):Ji X (.builtin "all") (λxs H Q=>∃(p:Addr) (bs:List Bool),xs=[.ref p]/\SqL X.K H p (bs.map V.bl)/\Q (.bl (bs.all id)) H):=by
 intro pins s σ H xs us Q I r h
 obtain⟨p,bs,rfl,hq,q⟩:=h
 obtain⟨u,rfl,rx⟩:=Zn r
 cases rx
 obtain⟨its,rv,pl,hz⟩:=I.list hq
 have hlt:p < s.heap.objs.size:=by
  obtain⟨o,n,e,_⟩:=pl
  exact tN e
 have hn:its.toArray.size=bs.length:=by
  have:=rv.length
  rw[tj]at this
  simp only[zah]
  omega
 have hh:X.A.in1.handled=none:=I.ok.hd hc
 refine call_all_walk (wpAny_pyIter_list pl.isList ?_)
 refine⟨s.heap.objs.size,[s.heap.objs.size,p],[s.heap.objs.size],its.toArray.size,λi v=>its.toArray[i]?=some v,_,λi=>bs.getD i false,rfl,Walks.list hh s.heap.objs.size p (zac hlt) its.toArray,
  ⟨⟨_,zae _ rfl,rfl,rfl⟩,pl.isList.at λo e=>tz _ e⟩,?_,λh' tk hk=>?_⟩
 ·intro i v s' Q' E' hP hQ
  have hi:its[i]?=some v:=by simpa using hP
  have hb:∃b,bs[i]?=some b/\v=Value.bool b:=by
   cases e:bs[i]? with
   | none=>
    exfalso
    have h1:(bs.map V.bl)[i]?=none:=by rw[tZ,e];rfl
    rw[qR.none_of rv h1]at hi
    cases hi
   | some b=>
    have h1:(bs.map V.bl)[i]?=some (V.bl b):=by rw[tZ,e];rfl
    obtain⟨u,hu,ru⟩:=rv.get h1
    rw[hi]at hu
    cases hu
    exact⟨b,rfl,ru⟩
  obtain⟨b,e,rfl⟩:=hb
  refine wpAny_truthy_bool ?_
  have e2:bs.getD i false=b:=by rw[zaL,e];rfl
  have hQ':Q' (bs.getD i false) s':=hQ
  rw[e2]at hQ'
  exact hQ'
 ·rw[hn,XY]
  refine⟨.bl (bs.all id),H,?_,rfl,q⟩
  exact I.kept (h':=h') (t':=tk) λb o e=>hk b o (by
   intro z
   have z':b=s.heap.objs.size:=by simpa using z
   exact absurd (tN e) (by rw[z'];exact zaB _)) (tz _ e)
theorem vf{ys:List Str}:∀{us:List Value},qR (ys.map V.str) us->StrsAre us ys:=by
 induction ys with
 | nil=>
  intro us r
  rw[zcr]at r
  cases r
  exact .nil
 | cons y ys ih=>
  intro us r
  rw[tL]at r
  cases r with
  | cons a b=>
   obtain⟨t,rfl⟩:=a
   exact .cons _ _ (ih b)
def uS(K:zdw):V->List V->Hp->VK->Prop:=λx xs H Q=>∃(sep:Str) (p:Addr) (ys:List Str),x=.str sep/\xs=[.ref p]/\SqL K H p (ys.map V.str)/\(ys.map (·.length)).sum+ys.length*sep.length<=16777216/\Q (.str (Txt.join sep ys)) H
theorem Qu:Cf X "str.join" (uS X.K):=by
 intro pins s σ H x xs v us Q I rx rv h
 obtain⟨sep,p,ys,rfl,rfl,hq,hz,q⟩:=h
 obtain⟨t,rfl⟩:=rx
 obtain⟨u,rfl,ru⟩:=Zn rv
 cases ru
 obtain⟨its,r',pl,_⟩:=I.list hq
 exact join_list pl.isList (by simpa using vf r') hz λt' k=>⟨.str _,H,I.tok k,⟨t',rfl⟩,q⟩
def N7:V->Value
 | .ty n=>.type n
 | .ref a=>.ref a
 | _=>.none
def M7:V->Bool
 | .ty _=>true
 | .ref _=>true
 | _=>false
def C6(K:zdw):List V->Hp->VK->Prop:=λxs H Q=>∃x c t b,xs=[x,c]/\M7 c=true/\JL K H x t/\tU K t (N7 c)=some b/\Q (.bl b) H
theorem qX:Ji X (.builtin "isinstance") (C6 X.K):=by
 intro pins s σ H xs us Q I r h
 obtain⟨x,c,t,b,rfl,hc,ty,e,q⟩:=h
 obtain⟨u,w',rfl,ru,rw'⟩:=VO r
 have ew:w'=N7 c:=by
  cases c with
  | ty n=>exact rw'
  | ref a=>exact rw'
  | _=>cases hc
 subst ew
 exact xO I ru ty e λtk=>⟨.bl b,H,I.tok tk,rfl,q⟩
end
abbrev Ck(rest:List Value):Obj:={cls:=.type "tuple",data:=.seq rest.toArray}
abbrev BM(C t:Addr):Obj:={cls:=.ref C,data:=.fields #[.ref t,.none,.none,.none,.bool false,.none]}
section
variable{prog:Program}{w:World}{A:Around}{E:Value->Shared->Prop}{h:Heap}{g:Array GenState}{d:Drawn}{t:Nat}{os:OsState}
variable{nm q:Str}{C N fI:Addr}{bs bm bmB bmN:List Value}{hdct:Bool}{sn:List Str}{sub:List Value}{ab:Bool}{col:Option Bool}{dd:Option Addr}{k0 k1 k2 k3 k5:Option Value}{B Bn newId nid initId inN:String}{rest:List Value}{oI:Obj}
theorem va{Q:Fin->Shared->Prop}(Fn:ExcBaseFacts Bn newId inN bmN)(hBn:bmB.contains (.type Bn)=true)
  (F:ExcBaseFacts B nid initId bmB) (T:OwnTail h bmB bm)
  (hC:h.get? C=some (excClassObj nm q C N bs bm hdct sn sub ab col dd k0 k1 k2 k3 k5 newId))
  (hi:PySem.W.Looks (model prog w) h (typeLookup (.ref C) "__init__") (some (.ref fI))) (hfI:h.get? fI=some oI) (hfc:oI.cls=.type "function")
  (hq:∀h' e,h.objs.size<=e->Heap.MadeExcOf h h' e (.ref C) rest->
   wpAny (model prog w) A (call (.ref fI) (.ref e::rest)) (λr s'=>r=.none/\Q (.done (.ret (.ref e))) s') E ⟨h',g,d,t,os⟩)
  (hz:rest.length<=zdB):
  wpAny (model prog w) A (Builtin.«type.__call__» ⟨.ref C::rest,[]⟩) Q E ⟨h,g,d,t,os⟩:=by
 repeat (first
  | with_reducible refine wpAny_loadPart_at hC ?_
  | with_reducible refine wpAny_madeBy_exc hC ?_
  | wp_step)
 refine codeAny_call_builtin_code (Code.quiet_builtin _ Fn.quiet) (wpAny_check_new_subU Fn hBn T hC
  (codeAny_exc_new_subU Fn hBn F T hC ?_ hz))
 show wpAny _ _ _ _ _ _
 have k:∀b o,h.get? b=some o->((h.push (Ck rest)).push (BM C h.objs.size)).get? b=some o:=λb o e=>
  tz _ (tz _ e)
 have c1:=k _ _ hC
 have f1:=k _ _ hfI
 have i1:=hi.keeps k
 have e1:((h.push (Ck rest)).push (BM C h.objs.size)).get? (h.objs.size+1)=some (BM C h.objs.size):=by heap_get
 have hcC:(Value.ref C::bm).contains (.ref C)=true:=by simp
 unfold isInstance
 repeat (first
  | with_reducible refine wpAny_loadPart_at e1 ?_
  | (with_reducible refine wpAny_isSubtype_exc c1 ?_;rw[hcC])
  | wp_step)
 show wpAny _ _ (typeLookup (.ref C) _) _ _ _
 refine i1.at ?_
 refine wpAny_holding (zdy ?_)
 unfold bindSpecial
 refine zdy (wpAny_typeOf (T:="function") ⟨_,f1,hfc⟩ ?_)
 rw[if_pos (by decide)]
 refine zdz (zdy (jm (hq _ (h.objs.size+1) (zdb _) ⟨k,zcg (zdb _),h.objs.size,e1,zcg (tu _),?_⟩) λr s' hr=>?_))
 ·exact tz _ (Heap.get?_push_at rfl rfl)
 ·obtain⟨rfl,hQ⟩:=hr
  wp_walk
  exact hQ
theorem wp{Q:Value->Shared->Prop}(Fn:ExcBaseFacts Bn newId inN bmN)(hBn:bmB.contains (.type Bn)=true)
  (F:ExcBaseFacts B nid initId bmB) (T:OwnTail h bmB bm)
  (hC:h.get? C=some (excClassObj nm q C N bs bm hdct sn sub ab col dd k0 k1 k2 k3 k5 newId))
  (hi:PySem.W.Looks (model prog w) h (typeLookup (.ref C) "__init__") (some (.ref fI))) (hfI:h.get? fI=some oI) (hfc:oI.cls=.type "function")
  (hq:∀h' e,h.objs.size<=e->Heap.MadeExcOf h h' e (.ref C) rest->
   wpAny (model prog w) (A.under (.builtin "type.__call__" ⟨.ref C::rest,[]⟩)) (call (.ref fI) (.ref e::rest)) (λr s'=>r=.none/\Q (.ref e) s') E ⟨h',g,d,t,os⟩)
  (hz:rest.length<=zdB):
  wpAny (model prog w) A (call (.ref C) rest) Q E ⟨h,g,d,t,os⟩:=by
 have a1:=tc_lookup
 have a2:=tc_bind (.ref C)
 have a3:(⟨h,g,d,t,os⟩:Shared).TypeIs (.ref C) "type":=⟨_,hC,rfl⟩
 refine wpAny_call (codeAny_of_tree ?_)
 show wpAny _ _ (callAny (.ref C) _) _ _ _
 repeat (any_goals (first
  | assumption
  | with_reducible refine wpAny_loadPart_at hC ?_
  | wp_step))
 refine⟨rfl,codeAny_call_builtin_at (Code.quiet_builtin _ (by decide+kernel)) entry_typeCall
  (wpAny_check_type_call_sub hC (va Fn hBn F T hC hi hfI hfc (λh' e he hm=>?_) hz))⟩
 exact hq h' e he hm
end
open PySem PySem.W PyProof.Rows Builtin Builtin.ObjectAttr
structure zU(K:Frag)(C:Addr)(bm:List Value):Prop where
 ga:findIn K (.ref C) "__getattribute__"=some (some (.builtin "BaseException.__getattribute__"))
 gt:findIn K (.ref C) "__getattr__"=some none
 sa:findIn K (.ref C) "__setattr__"=some (some (.builtin "object.__setattr__"))
 hd:hasDictIn K C=true
 mr:∃cd,clsIn K C=some cd/\cd.mro=.ref C::bm
 mb:mroIn K C (.type "BaseException")=some true
 mo:mroIn K C (.type "object")=some true
 cl:findIn K (.ref C) "__class__"=some (some (.builtin "object.__class__"))
def vA:List Value->Prop
 | .ref _::r=>vA r
 | l=>l=[.type "ValueError",.type "Exception",.type "BaseException",.type "object"]
theorem k6(self:Value):∀{l:List Value},vA l->refuseLoop self "__setattr__" l=pure ()
 | .ref c::r,e=>by rw[refuseLoop_ref];exact k6 self (l:=r) e
 | [],e=>nomatch (show ([]:List Value)=[.type "ValueError",.type "Exception",.type "BaseException",.type "object"] from e)
 | .type n::r,e=>by
  have e':(Value.type n::r)=[.type "ValueError",.type "Exception",.type "BaseException",.type "object"]:=e
  rw[e'];kernel_rfl
 | .none::r,e=>by have e':(Value.none::r)=[.type "ValueError",.type "Exception",.type "BaseException",.type "object"]:=e;cases e'
 | .bool _::r,e=>by have e':_=[Value.type "ValueError",.type "Exception",.type "BaseException",.type "object"]:=e;cases e'
 | .int _ _::r,e=>by have e':_=[Value.type "ValueError",.type "Exception",.type "BaseException",.type "object"]:=e;cases e'
 | .float _ _::r,e=>by have e':_=[Value.type "ValueError",.type "Exception",.type "BaseException",.type "object"]:=e;cases e'
 | .str _ _::r,e=>by have e':_=[Value.type "ValueError",.type "Exception",.type "BaseException",.type "object"]:=e;cases e'
 | .bytes _ _::r,e=>by have e':_=[Value.type "ValueError",.type "Exception",.type "BaseException",.type "object"]:=e;cases e'
 | .builtin _::r,e=>by have e':_=[Value.type "ValueError",.type "Exception",.type "BaseException",.type "object"]:=e;cases e'
section
variable{prog:Program}{w:World}{A:Around}{E:Value->Shared->Prop}{s:Shared}{K:Frag}{x C:Addr}{ox:Obj}{od:Option Obj}{bm:List Value}{name:Str}{v:Value}
theorem Ng{tk:Tok}{R:Result->Shared->Prop}(X:K.In s.heap)(I:InstAt s.heap x ox C od)(c:zU K C bm)(hb:vA bm)(ht:findIn K (.ref C) name=some none)
  (h:∀b,wpAny (model prog w) A.in1 (storeInOwnDict (.ref x) (.ref C) (.str name tk) name v b)
   (λfin s'=>match fin with | .done f=>R (.ok f) s' | .again c'=>c'.quiet=true/\codeAny (model prog w) A c' R s') (λe s'=>R (.error e) s') s):
  codeAny (model prog w) A (.call (.builtin "object.__setattr__") ⟨[.ref x,.str name tk,v],[]⟩) R s:=by
 have SF:=PySem.F.store_object
 obtain⟨cd,hc,hm⟩:=c.mr
 have sub:Looks (model prog w) s.heap (isInstance (.ref x) (.type "object")) true:=I.type.andThen (looks_mroIn X c.mo)
 refine codeAny_call_builtin SF.slot.plain SF.entry
  (@check_slot (model prog w) _ _ s "object.__setattr__" "object" "__setattr__" (.ref x) [.str name tk,v] [] _ SF.kind SF.split sub (SF.args (.ref x) (.str name tk) v) ?_)
 have lm:Looks (model prog w) s.heap (mroOf (.ref C)) cd.mro:=(looks_clsIn X hc).andThen .now
 rw[osa_eq,refuse_eq]
 refine zdy (zdy (I.type.here (zdy (lm.here ?_))))
 rw[hm,refuseLoop_ref,k6 _ hb]
 refine zdz (zdy (I.type.here (zdy ((looks_findIn X ht).here ?_))))
 exact zdy (zdz (h _))
theorem uk{Q:Unit->Shared->Prop}(X:K.In s.heap)(hx:s.heap.get? x=some ox)(hc:ox.cls=.ref C)(hdc:ox.dict=none)(hda:∃fl,ox.data=.fields fl)(c:zU K C bm)(hb:vA bm)(ht:findIn K (.ref C) name=some none)
  (h:∀h' tk,h'.get? x=some {ox with dict:=some s.heap.objs.size}->h'.Ns1 s.heap.objs.size (λy=>if y=name then some v else none)->
   (∀b o,b≠x->s.heap.get? b=some o->h'.get? b=some o)->Q () {s with heap:=h',toks:=tk}):
  wpAny (model prog w) A (setAttr (.ref x) name v) Q E s:=by
 obtain⟨fl,hfl⟩:=hda
 obtain⟨oc,odi,oda,osl⟩:=ox
 dsimp only at hc hdc hfl
 subst hc hdc hfl
 have I:InstAt s.heap x ⟨.ref C,none,.fields fl,osl⟩ C none:=⟨hx,rfl,rfl,trivial⟩
 refine set_plain X I c.sa (Ng (s:={s with toks:=s.toks+1}) X I c hb ht λb=>?_)
 obtain⟨cd,hcd,hdd⟩:=any_some c.hd
 refine zdy (zdz (zdy (zdy (wpAny_loadPart hx (zdy (Looks.here (s:={s with toks:=s.toks+1}) (looks_clsIn X hcd) ?_))))))
 rw[hdd]
 have hne:x≠s.heap.objs.size:=zac (tN hx)
 have h1:=tz zaI hx
 refine zdy (wpAny_alloc (zdy (wpAny_update h1 ?_)))
 generalize hh2:(s.heap.push emptyDict).update x (λo=>{o with dict:=some s.heap.objs.size})=h2
 have e2:h2.get? x=some ⟨.ref C,some s.heap.objs.size,.fields fl,osl⟩:=by rw[<-hh2];exact zaZ _ h1 rfl
 have k2:∀b o,b≠x->(s.heap.push emptyDict).get? b=some o->h2.get? b=some o:=λb o hb e=>by rw[<-hh2,zaE _ _ (Ne.symm hb)];exact e
 have n0:(s.heap.push emptyDict).Ns s.heap.objs.size (λ_=>none):=⟨emptyDict,#[],_,zae s.heap rfl,rfl,(λe he=>absurd he (by simp)),λ_=>rfl⟩
 have n2:h2.Ns1 s.heap.objs.size (λ_=>none):=(Heap.Ns1.of_empty n0).at λo q=>k2 _ o (Ne.symm hne) q
 refine zdz (a:=some s.heap.objs.size) (zdy (zdz (zdy ?_)))
 refine wpAny_nsSet1 (s:={s with heap:=h2,toks:=s.toks+1}) n2 λh' hn2 hs2=>?_
 obtain⟨oD,esD,epD,hoD,hdD,hcD⟩:=hn2.count (PySem.Within.cons name v PySem.Within.nil)
 refine zdy (wpAny_lookBehind hoD (by rw[hdD];exact pastItsLine_dict (tM hcD (by show 1<=zdB+1;decide))) ?_)
 refine zdz (h h' (s.toks+1+1) ((hs2.2 x hne).trans e2) hn2 λb o hb e=>?_)
 exact(hs2.2 b (zac (tN e))).trans (k2 b o hb (tz _ e))
theorem yp{fill expr:Bool}{tk:Tok}{Q:Value->Shared->Prop}(X:K.In s.heap)(I:InstAt s.heap x ox C od)(c:zU K C bm)
  (h:wpAny (model prog w) A.in1 (Builtin.«object.__getattribute__» ⟨[.ref x,.str name tk],[]⟩) (λfin s'=>match fin with | .done (.ret u)=>handedIn u=true/\Q u s' | _=>False) (λ_ _=>False) s):
  wpAny (model prog w) A (getAttrBy (.ref x) (.str name tk) fill expr) Q E s:=by
 have ga:=PySem.F.attr_ValueError.ga
 have L1:=looks_findIn (M:=model prog w) X c.ga
 have L2:=looks_findIn (M:=model prog w) X c.gt
 have hk:builtinKind "BaseException.__getattribute__"=some .slot:=by decide+kernel
 have hs:splitId "BaseException.__getattribute__"=some ("BaseException","__getattribute__"):=by decide+kernel
 have sub:Looks (model prog w) s.heap (isInstance (.ref x) (.type "BaseException")) true:=I.type.andThen (looks_mroIn X c.mb)
 unfold getAttrBy
 refine wpAny_holding (zdy (I.type.here (zdy (L1.here ?_))))
 dsimp only
 have eb:(Value.builtin "BaseException.__getattribute__"==Value.builtin "object.__getattribute__")=false:=by decide+kernel
 rw[if_neg (by rw[eb,zdd];decide)]
 unfold getAttrByItsOwn
 refine zdy (show wpAny _ _ (hookBefore (.ref C)) _ _ _ from L2.here ?_)
 refine zdy (wpAny_attempt (wpAny_holding ?_))
 unfold callGetattribute
 have e0:(expr&&onTheHeap (Value.builtin "BaseException.__getattribute__"))=false:=by cases expr<;>rfl
 rw[if_neg (by rw[e0];decide)]
 unfold boundAndCalled
 rw[ga.bind]
 refine zdy (zdz ?_)
 refine wpAny_call (codeAny_call_builtin ga.plain PySem.F.entry_bexc_ga
  (@check_slot (model prog w) _ _ s "BaseException.__getattribute__" "BaseException" "__getattribute__" (.ref x) [.str name tk] [] _ hk hs sub (PySem.F.args_bexc_ga _ _) ?_))
 refine wpAny_mono h (λfin s' z=>?_) λ_ _ z=>z.elim
 cases fin with
 | again c'=>exact z.elim
 | done f=>
  cases f with
  | next=>exact z.elim
  | brk=>exact z.elim
  | cont=>exact z.elim
  | ret u=>
   obtain⟨hh,q⟩:=z
   show wpAny _ _ (handedOut u) _ _ _
   rw[handedOut_of hh]
   exact zdz q
theorem N1{expr:Bool}{Q:Value->Shared->Prop}{odd:Obj}(X:K.In s.heap)(I:InstAt s.heap x ox C (some odd))(c:zU K C bm)(ha:findIn K (.ref C) name=some none)(hl:lookIn name odd=some (some v))(hv:handedIn v=true)
  (h:Q v {s with toks:=s.toks+1}):wpAny (model prog w) A (getAttr (.ref x) name expr) Q E s:=by
 have hf:findObj K C (some odd) name=some (.value v):=findObj_own c.hd ha rfl hl
 have LF:=looks_find (M:=model prog w) X I hf
 unfold getAttr
 refine zdy (wpAny_mkText (yp (s:={s with toks:=s.toks+1}) X I c ?_))
 unfold Builtin.«object.__getattribute__»
 refine zdy (zdz (zdy (zdz (zdy (Looks.here (s:={s with toks:=s.toks+1}) I.type (zdy (Looks.here (s:={s with toks:=s.toks+1}) LF ?_)))))))
 exact zdz ⟨hv,h⟩
end
open PySem PySem.W PyProof.Rows Builtin Builtin.ObjectAttr
section
variable{K:Frag}{x C:Addr}{ox odd:Obj}{bm:List Value}
theorem UG(c:zU K C bm)(hn:specialIn K (.builtin "object.__class__") "__get__"=some (some (.builtin "getset_descriptor.__get__")))(htk:takesIn K (.builtin "object.__class__")=some true):
  KitX K (.ref x) (.ref C) (λh=>InstAt h x ox C (some odd)) where
 ty:=λ_ _ _ I=>I.type
 it:=λ_ _ X _=>by
  obtain⟨cd,hcd,_⟩:=any_some c.hd
  unfold clsIn at hcd
  split at hcd
  ·rename_i _ _ _ _ ho
   intro A' Q' E' s' k q
   unfold isType loadHead
   exact zdy (wpAny_loadPart (k _ _ (X _ _ ho)) (zdz q))
  ·cases hcd
 ne:=λh tp dd its n sl X htp=>by
  obtain⟨cd,hcd,_⟩:=any_some c.hd
  refine zbZ.mpr λq=>?_
  have e:C=tp:=Value.ref.inj (beq_iff_eq.mp q)
  subst e
  unfold clsIn at hcd
  split at hcd
  ·rename_i _ _ _ _ ho
   have z:=(X _ _ ho).symm.trans htp
   cases z
  ·cases hcd
 ca:=λ{prog w A E Q s} X I k=>by
  have hf:findObj K C (some odd) "__class__"=some (.bind (.builtin "getset_descriptor.__get__") (.builtin "object.__class__")):=
   findObj_data (by obtain⟨cd,hc,_⟩:=any_some c.hd;rw[hc];rfl) c.cl hn htk
  have LF:=looks_find (M:=model prog w) X I hf
  unfold getAttr? getAttrBy?
  refine zdy (wpAny_mkText (zdy (wpAny_attempt (yp (s:={s with toks:=s.toks+1}) X I c ?_))))
  unfold Builtin.«object.__getattribute__»
  refine zdy (zdz (zdy (zdz (zdy (Looks.here (s:={s with toks:=s.toks+1}) I.type (zdy (Looks.here (s:={s with toks:=s.toks+1}) LF ?_)))))))
  dsimp only
  unfold bindTo
  dsimp only
  refine zdy (wpAny_holding (wpAny_call (class_get (s:={s with toks:=s.toks+1}) X I c.mo ?_)))
  exact zdz ⟨rfl,zdz k⟩
end
def J6(e C:Addr):HO:=.ext λh=>∃fl,h.get? e=some {cls:=.ref C,data:=.fields fl}/\fl[1]?=some Value.none
def j6(e C dx:Addr)(hd:Value):HO:=.ext λh=>∃fl,h.get? e=some {cls:=.ref C,dict:=some dx,data:=.fields fl}/\fl[1]?=some hd
abbrev QX(e C dx:Addr):HO:=j6 e C dx .none
def jz:List Value:=[.type "ValueError",.type "Exception",.type "BaseException",.type "object"]
structure Ci(K:zdw)(C f:Addr)(bm:List Value):Prop where
 obj:∃nm q N bs hdct sn sub ab col dd k0 k1 k2 k3 k5,K.lookup C=some (excClassObj nm q C N bs bm hdct sn sub ab col dd k0 k1 k2 k3 k5 "ValueError.__new__")
 tail:∀h:Heap,K.In h->OwnTail h jz bm
 init:t8 K (.ref C) "__init__"=some (some (.ref f))
 fn:zbc K (.ref f)=true
 kp:zal K (.ref C)=true
section
variable{P:Program}{w:World}{H:Hp}{h h':Heap}{e C dx:Addr}
theorem N3(he:∃fl,h.get? e=some {cls:=.ref C,data:=.fields fl}/\fl[1]?=some Value.none):qK P w H h e (J6 e C):=by
 obtain⟨fl,q,z⟩:=he
 exact⟨⟨fl,q,z⟩,⟨_,q⟩,λh1 h2 ⟨fl',q',z'⟩ k=>⟨fl',k _ q',z'⟩⟩
theorem ZX{hd:Value}(he:∃fl,h.get? e=some {cls:=.ref C,dict:=some dx,data:=.fields fl}/\fl[1]?=some hd):qK P w H h e (j6 e C dx hd):=by
 obtain⟨fl,q,z⟩:=he
 exact⟨⟨fl,q,z⟩,⟨_,q⟩,λh1 h2 ⟨fl',q',z'⟩ k=>⟨fl',k _ q',z'⟩⟩
end
section
variable{X:Cx}{pins:List (Addr×Obj)}{σ:St}{H:Hp}{s:Shared}{e C dx:Addr}{f:Str}{bm:List Value}{y v:V}{u:Value}{A:Around}{E:Value->Shared->Prop}
theorem qz.excSet{h':Heap}{t':Nat}{fs:List (Str×V)}(I:qz X pins σ H s)(hH:H e=some (J6 e C))(hd:s.heap.objs.size<=dx)
  (h1:∃fl,h'.get? e=some {cls:=.ref C,dict:=some dx,data:=.fields fl}/\fl[1]?=some Value.none) (h2:∃mA,h'.Ns1 dx mA/\∀f,JM (fs.lookup f) (mA f))
  (k:∀b o,b≠e->s.heap.get? b=some o->h'.get? b=some o):qz X pins σ (upd (upd H e (QX e C dx)) dx (.xd fs)) {s with heap:=h',toks:=t'}:=by
 have mu:Ce (H e):=by rw[hH];exact trivial
 have heo:∃u,h'.get? e=some u:=let ⟨_,q,_⟩:=h1;⟨_,q⟩
 have hn:H dx=none:=I.hok.fresh hd
 have ne:dx≠e:=λz=>by rw[z,hH]at hn;cases hn
 have U:Un X.fs [] H (upd H e (QX e C dx)) s.heap h':=Un.write mu (.inl rfl) k heo
 have W:Zj X.prog X.w (upd H e (QX e C dx)) h':=I.hok.write mu (.inl rfl) k heo (ZX h1)
 have hn2:(upd H e (QX e C dx)) dx=none:=by rw[qi ne];exact hn
 have nb:∀b o,s.heap.get? b=some o->b≠dx:=λb o q=>zac (tE (tN q) hd)
 refine I.un ⟨U.keep,U.slot,λb o q n hx=>?_,U.there,λb xs q=>?_,λb o z q=>?_,λb ps q=>?_⟩ λb o q=>?_
 ·rw[qi (nb b o q)];exact U.free b o q n hx
 ·have:=U.tups b xs q
  rw[qi (qr this hn2)];exact this
 ·have:=U.frzs b o z q
  rw[qi (qr this hn2)];exact this
 ·obtain⟨m,q'⟩:=U.tbls b ps q
  exact⟨m,by rw[qi (qr q' hn2)];exact q'⟩
 ·by_cases hb:b=dx
  ·subst hb
   rw[qe]at q
   cases q
   exact h2
  ·rw[qi hb]at q
   exact(W b o q).stay (λ_ _ _ z=>z) (λc z=>by rw[qi (qr z hn2)];exact z) (λc xs z=>by rw[qi (qr z hn2)];exact z) (λc o z=>by rw[qi (qr z hn2)];exact z)
theorem xb{Q:Unit->Shared->Prop}(I:qz X pins σ H s)(hH:H e=some (J6 e C))(c:zU X.K C bm)(hb:vA bm)(n:jW X.K C f)(ry:qY y u)
  (h:∀dx s',H dx=none->qz X pins σ (upd (upd H e (QX e C dx)) dx (.xd [(f,y)])) s'->Q () s'):wpAny (model X.prog X.w) A (setAttr (.ref e) f u) Q E s:=by
 obtain⟨⟨fl,he,hz⟩,_,_⟩:=(show qK X.prog X.w H s.heap e (J6 e C) from I.hok e _ hH)
 refine uk I.kIn he rfl rfl ⟨fl,rfl⟩ c hb n λh' tk e1 e2 e3=>?_
 refine h s.heap.objs.size _ (I.hok.fresh (tu _)) (I.excSet hH (tu _) ⟨fl,e1,hz⟩ ⟨_,e2,λg=>?_⟩ e3)
 by_cases hg:g=f
 ·subst hg
  rw[zad]
  simp only[beq_self_eq_true,if_true]
  exact ry
 ·have hb':(g==f)=false:=beq_eq_false_iff_ne.mpr hg
  rw[zad]
  simp only[hb',hg,if_false]
  exact trivial
theorem xY{b:Bool}{Q:Value->Shared->Prop}{fs:List (Str×V)}{hd:Value}(I:qz X pins σ H s)(hH:H e=some (j6 e C dx hd))(hx:H dx=some (.xd fs))(c:zU X.K C bm)(n:jW X.K C f)(l:fs.lookup f=some v)
  (h:∀u s',qz X pins σ H s'->qY v u->Q u s'):wpAny (model X.prog X.w) A (getAttr (.ref e) f b) Q E s:=by
 obtain⟨⟨fl,he,_⟩,_,_⟩:=(show qK X.prog X.w H s.heap e (j6 e C dx hd) from I.hok e _ hH)
 obtain⟨mA,hn,hr⟩:=(show qK X.prog X.w H s.heap dx (.xd fs) from I.hok dx _ hx)
 obtain⟨od,ho,hl⟩:=ZV hn
 have r:=hr f
 rw[l]at r
 obtain⟨u,eu,ru⟩:=JM.some_of r
 exact N1 I.kIn ⟨he,rfl,rfl,ho⟩ c n (by rw[hl,eu]) (WL ru) (h u _ (I.tok _) ru)
theorem KY{cV:Value}{b:Bool}{Q:Value->Shared->Prop}{fs:List (Str×V)}{hd:Value}(I:qz X pins σ H s)(hH:H e=some (j6 e C dx hd))(hx:H dx=some (.xd fs))(c:zU X.K C bm)
  (hn:zbh X.K (.builtin "object.__class__") "__get__"=some (some (.builtin "getset_descriptor.__get__"))) (htk:zbB X.K (.builtin "object.__class__")=some true)
  (ek:tU X.K (.ref C) cV=some b) (h:∀tk,Q (.bool b) {s with toks:=tk}):wpAny (model X.prog X.w) A (call (.builtin "isinstance") [.ref e,cV]) Q E s:=by
 obtain⟨⟨fl,he,_⟩,_,_⟩:=(show qK X.prog X.w H s.heap e (j6 e C dx hd) from I.hok e _ hH)
 obtain⟨mA,hns,hr⟩:=(show qK X.prog X.w H s.heap dx (.xd fs) from I.hok dx _ hx)
 obtain⟨od,ho,hl⟩:=ZV hns
 exact zaF (UG (ox:={cls:=.ref C,dict:=some dx,data:=.fields fl}) (odd:=od) c hn htk) I.kIn ⟨he,rfl,rfl,ho⟩ ek (λz=>nomatch z) h
end
def EA(K:zdw)(bm:List Value)(ta tv:TE)(f:Str):TS:=λD σ H=>tv σ H λy H1=>ta σ H1 λx H2=>∃a C,x=.ref a/\H2 a=some (J6 a C)/\zU K C bm/\vA bm/\jW K C f/\
 ∀dx,H2 dx=none->D.nx σ (upd (upd H2 a (QX a C dx)) dx (.xd [(f,y)]))
section
variable{X:Cx}{CX:zp}{k:Nat}{C fI:Addr}{fd:zdA}{ps:List Str}{sp:Sp}{E:XK}{x f:Str}{o e value:Expr}{es:List Expr}{p pos pos':Pos}{ta tv:TE}{t:TA}{bm:List Value}
theorem zk(ha:JE X o ta)(hv:JE X value tv)(hs:swapsWith value (some (.Attribute o f pos')) pos.line X.env=pure false):JS X (.Assign [.Attribute o f pos'] value pos) (EA X.K bm ta tv f):=.of (by
 have ha:=ha.to
 have hv:=hv.to
 intro pins s σ H D I h
 refine plainObj_wpAny_Assign_Attribute (jm (hv pins s σ H _ I h) λu s1 ⟨y,H1,I1,ry,q⟩=>
  jm (ha pins s1 σ H1 _ I1 q) λov s2 ⟨x,H2,I2,rx,a,C,ex,ea,c,hb,n,q2⟩=>?_) hs
 subst ex
 obtain rfl:ov=Value.ref a:=rx
 exact xb I2 ea c hb n ry λdx s3 hdx I3=>⟨σ,_,I3,q2 dx hdx⟩)
theorem xi{pins:List (Addr×Obj)}{σ:St}{H:Hp}{s:Shared}{Q:VK}{us:List Value}{vs:List V}(M:Ci X.K C fI bm)(F:qo X.prog X.w X.K X.mg X.base CX k fI fd ps sp)(hr:qO (k+1) X.A)(hb:ji X.K fd ps [])
  (hx:jQ CX X E) (I:qz X pins σ H s) (r:qR vs us) (hz:us.length<=zdB)
  (h:∀x,H x=none->sp (.ref x::vs) (upd H x (J6 x C)) (λv H2=>v=.non/\Q (.ref x) H2) E):
  wpAny (model X.prog X.w) X.A (call (.ref C) us) (EP X pins σ Q) X.xe s:=by
 obtain⟨nm,q,N,bs,hdct,sn,sub,ab,col,dd,k0,k1,k2,k3,k5,hC⟩:=M.obj
 have hfn:zdu X.K (.ref fI)=some (.type "function"):=beq_iff_eq.mp M.fn
 obtain⟨oI,ho,hoc⟩:=zcU.mp hfn
 have KX:=I.kIn
 obtain⟨hp,g,d,tk,os⟩:=s
 refine wp zcy (by decide+kernel) zcy (M.tail _ KX) (KX _ _ hC) (zda KX M.init) (KX _ _ ho) hoc (λh' ex hle hm=>?_) hz
 obtain⟨t0,ht,_,_⟩:=hm.there
 have I2:qz X pins σ (upd H ex (J6 ex C)) ⟨h',g,d,tk,os⟩:=I.laid (t':=tk) hm.keeps hle (N3 ⟨_,ht,rfl⟩)
 have hq:=h ex (I.hok.fresh hle)
 have r2:qR (V.ref ex::vs) (Value.ref ex::us):=.cons rfl r
 have hl:(Value.ref ex::us++[]).length=ps.length:=by
  have e:=r2.length
  rw[F.len _ _ _ _ hq]at e
  rw[zaX]
  exact e.symm
 have bb:=hb ⟨h',g,d,tk,os⟩ (Value.ref ex::us) I2.kIn hl
 rw[zaX]at bb
 refine wpAny_call (codeAny_mono (F.run _ X.stack _ _ ⟨Value.ref ex::us,[]⟩ (Value.ref ex::us) _ _ E (hr.make C us []) (I2.env0.make C us []) bb r2 hq) λr s' hq'=>?_)
 cases r with
 | error z=>exact hx pins σ _ _ z s' I2 hq'
 | ok fl=>
  cases fl with
  | ret u=>
   obtain⟨v,H',I3,rv,ev,q3⟩:=I2.after hq'
   subst ev
   exact⟨rv,⟨V.ref ex,H',I3,rfl,q3⟩⟩
  | next=>exact False.elim hq'
  | brk=>exact False.elim hq'
  | cont=>exact False.elim hq'
theorem jB(M:Ci X.K C fI bm)(F:qo X.prog X.w X.K X.mg X.base CX k fI fd ps sp)(hr:qO (k+1) X.A)(hg:Gl X x)(hm:X.mg x=some (.ref C))(hb:ji X.K fd ps [])(hx:jQ CX X E)(ha:JA X (e::es) t)(hz:(e::es).length<=1000:=by decide)(hv:∀vs us,qR vs us->vs.length<=zdB->us.length<=zdB:=by intro vs us r h;rw[<-r.length];exact h)(hdb:(x==("__debug__":Str))=false:=by decide)(he:starEach (e::es) X.env=(false,eval e X.env)::starEach es X.env:=by rfl)(hpl:(backTo pos (starEach es X.env)).any (·.1)=false:=by rfl):JE X (.Call (.Name x p) (e::es) [] pos) (λσ H Q=>t σ H λvs H1=>vs.length<=zdB/\∀x,H1 x=none->sp (.ref x::vs) (upd H1 x (J6 x C)) (λv H2=>v=.non/\Q (.ref x) H2) E):=.of (by
 have ha:=ha.to
 intro pins s σ H Q I h
 refine wpAny_Call_Name_kw (zJ I hg hm ?_ hdb)
 refine zaS (h₀:=X.base) I.ok.mod.kin M.kp (jm (ha pos pins s σ H _ I h) λus s1 ⟨vs,H1,I1,r,q⟩=>⟨I1.kIn,?_⟩) he hpl
 exact xi M F hr hb hx I1 r (hv vs us r q.1) q.2)
end
def neL(xs ys:List V):Bool:=if xs.length=ys.length then !((zaD xs.length).all λj=>yw (xs.getD j .non) (ys.getD j .non)) else true
def EC(K:zdw):R2:=λx y H Q=>∃a b xs ys,x=.ref a/\y=.ref b/\SqL K H a xs/\SqL K H b ys/\xs.all JK=true/\ys.all JK=true/\Q (.bl (neL xs ys)) H
theorem u1{X:Cx}(hu:X.A.units < cLine):ZZ X (compareOp .NotEq) (EC X.K):=by
 intro pins s σ H x y v u Q I rx ry h
 obtain⟨a,b,xs,ys,rfl,rfl,ha,hb,fx,fy,q⟩:=h
 cases rx
 cases ry
 obtain⟨its,rv,pl,_⟩:=I.list ha
 obtain⟨its2,rv2,pl2,_⟩:=I.list hb
 have l1:=rv.length
 have l2:=rv2.length
 by_cases hz:xs.length=ys.length
 ·have e:neL xs ys= !((zaD its.toArray.size).all λj=>yw (xs.getD j .non) (ys.getD j .non)):=by
   unfold neL
   rw[if_pos hz,l1]
   simp
  rw[e]at q
  refine EqBoolInt.of_rcne (SeqAt.RcNeAt.lists (e:=λj=>yw (xs.getD j .non) (ys.getD j .non)) pl.isList pl2.isList (by simp;omega) hu λj h1 h2=>?_) ⟨.bl _,H,I,rfl,q⟩
  have j1:j < xs.length:=by simp at h1;omega
  have j2:j < ys.length:=by omega
  obtain⟨w1,hw1,r1⟩:=rv.get (tW j1)
  obtain⟨w2,hw2,r2⟩:=rv2.get (tW j2)
  have e1:xs.getD j .non=xs[j]:=by rw[zaL,tW j1];rfl
  have e2:ys.getD j .non=ys[j]:=by rw[zaL,tW j2];rfl
  have g1:its.toArray[j]=w1:=by
   have:its.toArray[j]?=some w1:=by simpa using hw1
   rw[zbq h1]at this
   exact tX.inj this
  have g2:its2.toArray[j]=w2:=by
   have:its2.toArray[j]?=some w2:=by simpa using hw2
   rw[zbq h2]at this
   exact tX.inj this
  rw[e1,e2,g1,g2]
  exact vX r1 r2 (zak.mp fx _ (zaT j1)) (zak.mp fy _ (zaT j2))
 ·have e:neL xs ys=true:=by unfold neL;rw[if_neg hz]
  rw[e]at q
  exact EqBoolInt.of_rcne (SeqAt.RcNeAt.lists_lengths pl.isList pl2.isList (by simp;omega) hu) ⟨.bl true,H,I,rfl,q⟩
mutual
inductive DV(K:zdw)(H:Hp):V->PyData->Prop
 | non:DV K H .non .none
 | bl (b:Bool):DV K H (.bl b) (.bool b)
 | int (i:Int):DV K H (.int i) (.int i)
 | str (x:Str):DV K H (.str x) (.str x)
 | lst {a:Addr} {xs:List V} {ds:List PyData}:SqL K H a xs->DVs K H xs ds->DV K H (.ref a) (.list ds)
 | tup {a:Addr} {xs:List V} {ds:List PyData}:SqT K H a xs->DVs K H xs ds->DV K H (.ref a) (.tuple ds)
inductive DVs(K:zdw)(H:Hp):List V->List PyData->Prop
 | nil:DVs K H [] []
 | cons {x:V} {xs:List V} {d:PyData} {ds:List PyData}:DV K H x d->DVs K H xs ds->DVs K H (x::xs) (d::ds)
end
section
variable{X:Cx}{pins:List (Addr×Obj)}{σ:St}{H:Hp}{s:Shared}
mutual
theorem DV.reads(I:qz X pins σ H s):∀{x:V} {d:PyData},DV X.K H x d->∀{u:Value},qY x u->∃as,Reads s.heap u d as
 | _,_,.non,u,r=>by cases (show u=Value.none from r);exact⟨_,.none⟩
 | _,_,.bl b,u,r=>by cases (show u=Value.bool b from r);exact⟨_,.bool b⟩
 | _,_,.int i,u,r=>by obtain⟨t,q⟩:=(show ∃t,u=Value.int i t from r);subst q;exact⟨_,.int i t⟩
 | _,_,.str x,u,r=>by obtain⟨t,q⟩:=(show ∃t,u=Value.str x t from r);subst q;exact⟨_,.str x t⟩
 | _,_,.lst (a:=a) hq hs,u,r=>by
  cases (show u=Value.ref a from r)
  obtain⟨its,rv,⟨o,n,e,hc,hd,hda⟩,hz⟩:=I.list hq
  obtain⟨as,ra⟩:=DVs.reads I hs rv
  exact⟨_,.list e hc hda (by simpa using ra)⟩
 | _,_,.tup (a:=a) hq hs,u,r=>by
  cases (show u=Value.ref a from r)
  obtain⟨its,rv,⟨o,e,hc,n,hda⟩,hz⟩:=I.tuple hq
  obtain⟨as,ra⟩:=DVs.reads I hs rv
  exact⟨_,.tuple e hc hda (by simpa using ra)⟩
theorem DVs.reads(I:qz X pins σ H s):∀{xs:List V} {ds:List PyData},DVs X.K H xs ds->∀{us:List Value},qR xs us->∃as,ReadsAll s.heap us ds as
 | _,_,.nil,_,.nil=>⟨_,.nil⟩
 | _,_,.cons h hs,_,.cons r rs=>by
  obtain⟨as,a⟩:=DV.reads I h r
  obtain⟨bs,b⟩:=DVs.reads I hs rs
  exact⟨_,.cons a b⟩
end
end
theorem UB{x:Str}{n:Int}(hx:x.length<=1000)(h0:0<=n)(h1:n<=1000):MulOk x n:=by
 refine⟨?_,λh _=>?_,λh _=>?_⟩
 ·rw[decide_eq_false (by omega),decide_eq_false (by omega)];rfl
 ·intro z
  have q:(1000:Int)<=(2^63 - 1) / n:=by
   rw[Int.le_ediv_iff_mul_le (by omega)]
   omega
  omega
 ·unfold Builtin.Str.tooLong
  refine decide_eq_false ?_
  have q:x.length*n.toNat<=1000*1000:=Nat.mul_le_mul hx (by omega)
  have e:(1000000:Nat) < zdB:=by decide
  omega
def uR:R2:=λx y H Q=>∃z n,x=.str z/\y=.int n/\z.length<=1000/\0<=n/\n<=1000/\Q (.str (Txt.mul z n)) H
theorem Nh{X:Cx}:ZZ X (binaryOp .Mult) uR:=by
 intro pins s σ H x y v u Q I rx ry h
 obtain⟨z,n,rfl,rfl,hz,h0,h1,q⟩:=h
 obtain⟨t,rfl⟩:=rx
 obtain⟨t',rfl⟩:=ry
 exact SB.mul (UB hz h0 h1) λt k=>⟨.str _,H,I.tok k,⟨t,rfl⟩,q⟩
section
variable{X:Cx}
def EE(K:zdw)(k:Bool):R2:=λx y H Q=>∃d,DV K H x d/\DV K H y d/\PySem.SeqAt.shaped d=true/\Q (.bl k) H
theorem vV{d:PyData}(h:PySem.SeqAt.shaped d=true):PyData.eqv d d=true:=PySem.SeqAt.eqv_refl d (PySem.SeqAt.canLay_of_shaped h)
theorem u6(hu:X.A.units+64 < cLine):ZZ X (compareOp .Eq) (EE X.K true):=by
 intro pins s σ H x y v u Q I rx ry h
 obtain⟨d,h1,h2,hs,q⟩:=h
 obtain⟨as,ra⟩:=h1.reads I rx
 obtain⟨bs,rb⟩:=h2.reads I ry
 refine eq_dataH ra rb hs hs hu ?_
 rw[vV hs]
 exact⟨.bl true,H,I,rfl,q⟩
def DT(i j:Int):Prop:=0 < j/\j.natAbs < 2^200
theorem u5:ZZ X (binaryOp .FloorDiv) (rI DT λi j=>.int (i / j)):=AW λi j _ _ _ _ _ hc q=>by
 have h1:(0:Int) < j:=hc.1
 have h3:j.natAbs.log2 < 200:=(Nat.log2_lt (by omega)).mpr hc.2
 exact floordiv_int (by omega) (by rw[zbG i (by omega)];exact q) (.inl (PyProof.noPylong_of_log2 (Nat.lt_trans h3 (by decide))))
theorem xD:Cf X "int.bit_length" (λx xs H Q=>∃i,x=.int i/\xs=[]/\Q (.int (Builtin.Int.intBits i)) H):=by
 intro pins s σ H x xs v us Q I rx rv h
 obtain⟨i,rfl,rfl,q⟩:=h
 obtain⟨t,rfl⟩:=rx
 cases rv
 exact call_int_bit_length ⟨.int _,H,I.tok _,⟨_,rfl⟩,q⟩
end
section
variable{X:Cx}{tg:Expr}
end
section
variable{X:Cx}{st:Stmt}{rest:List Stmt}{t u:TS}
end
end L2
namespace PySem
section
variable{prog:Program}{w:World}{A:Around}{E:Value->Shared->Prop}{s:Shared}
structure Fe(P:Program)(w:World)(T:String)(I:Addr)(fp:List Addr)(n:Nat)(V:Nat->Value->Prop)(St:Nat->Heap->Prop):Prop where
 ty:∀z:Shared,St 0 z.heap->z.TypeIs (.ref I) T
 nl:(Value.type T==Value.type "list")=false
 nt:(Value.type T==Value.type "tuple")=false
 walk:∀B:Around,B.handled=none->Walks P w B I fp [I] n V St
 hint:∀(B:Around) (F:Value->Shared->Prop) (z:Shared) (R:Bool->Shared->Prop),St 0 z.heap->(∀k,R false {z with toks:=k})->wpAny (model P w) B (Builtin.List.listLengthHint (.ref I)) R F z
end
end PySem
namespace L2
open PySem PySem.Spec PyProof.Rows
section
variable{X:Cx}{e:Expr}{te:TE}{p1 p2 p3 pos1 pos2 pos3:Pos}
end
end L2
namespace PySem
namespace F
end F
end PySem
namespace L2
open PySem PySem.Spec PyProof.Rows
section
variable{X:Cx}{e:Expr}{te:TE}{p1 p2 pos1 pos2:Pos}
end
section
variable{X:Cx}{pins:List (Addr×Obj)}{σ:St}{H:Hp}{s:Shared}{h':Heap}
theorem qz.turnLaid{L:List Addr}{T:Addr}{o:HO}{t':Nat}(I:qz X pins σ H s)(k:∀b u,b∉L->s.heap.get? b=some u->h'.get? b=some u)(hf:∀b∈L,Z0 X pins H b)(hp:s.heap.objs.size<=T)
  (new:qK X.prog X.w (upd H T o) h' T o):qz X pins σ (upd H T o) {s with heap:=h',toks:=t'}:=by
 have hn:H T=none:=I.hok.fresh hp
 have up:∀b u,H b=some u->upd H T o b=some u:=λb u e=>by rw[qi (qr e hn)];exact e
 have nL:∀b u,H b=some u->b∉L:=λb u e z=>by rw[(hf b z).1]at e;cases e
 refine I.step (g':=s.gens) (d':=s.drawn) (ch:=L) (λb hb=>?_) (λb o _ _ hc e _=>k b o hc e) (λb o _ _ hc e _=>⟨o.slots,k b o hc e⟩) (λb ob hc e n=>?_)
  (λb o hc e=>⟨o,k b o hc e⟩) (λb xs e=>up b _ e) (λb o u e=>up b _ e) (λb ps e=>⟨#[],by rw[up b _ e];simp⟩) (λm hm=>?_) (λb u e=>?_) I.bare
 ·obtain⟨f0,f1,f2,f3,f4,f5⟩:=hf b hb
  exact⟨f3,f1,f4,f5⟩
 ·have:b≠T:=zac (tE (tN e) hp)
  rw[qi this]
  exact n
 ·obtain⟨o,es,ep,ho,r⟩:=hm
  exact⟨o,es,ep,k _ o (λz=>(hf _ z).2.1 rfl) ho,r⟩
 ·by_cases hb:b=T
  ·subst hb
   rw[qe]at e
   cases e
   exact new
  ·rw[qi hb]at e
   refine(I.hok b u e).stay (λc v hc q=>k c v ?_ q) (λc q=>up c _ q) (λc xs q=>up c _ q) (λc o q=>up c _ q)
   rcases hc with z | z
   ·rw[z];exact nL b u e
   ·exact nL c _ z
theorem qz.turnedL{L:List Addr}{t':Nat}(I:qz X pins σ H s)(k:∀b u,b∉L->s.heap.get? b=some u->h'.get? b=some u)(hf:∀b∈L,Z0 X pins H b):qz X pins σ H {s with heap:=h',toks:=t'}:=by
 have nL:∀b u,H b=some u->b∉L:=λb u e z=>by rw[(hf b z).1]at e;cases e
 refine I.step (g':=s.gens) (d':=s.drawn) (ch:=L) (λb hb=>?_) (λb o _ _ hc e _=>k b o hc e) (λb o _ _ hc e _=>⟨o.slots,k b o hc e⟩) (λ_ _ _ _ n=>n)
  (λb o hc e=>⟨o,k b o hc e⟩) (λ_ _ e=>e) (λ_ _ _ e=>e) (λb ps e=>⟨#[],by rw[e];simp⟩) (λm hm=>?_) (λb u e=>?_) I.bare
 ·obtain⟨f0,f1,f2,f3,f4,f5⟩:=hf b hb
  exact⟨f3,f1,f4,f5⟩
 ·obtain⟨o,es,ep,ho,r⟩:=hm
  exact⟨o,es,ep,k _ o (λz=>(hf _ z).2.1 rfl) ho,r⟩
 ·refine(I.hok b u e).stay (λc v hc q=>k c v ?_ q) (λ_ q=>q) λ_ _ q=>q
  rcases hc with z | z
  ·rw[z];exact nL b u e
  ·exact nL c _ z
end
section
variable{X:Cx}{elts:List Expr}{x1:Nat}{tpos:Pos}
end
section
variable{X:Cx}
theorem Wf:∀{cs:List Addr} {us:List Value},qR (cs.map V.ref) us->us=cs.map Value.ref
 | [],_,.nil=>rfl
 | c::cs,u::us,.cons r t=>by
  obtain rfl:u=Value.ref c:=r
  rw[tL,Wf t]
end
section
variable{X:Cx}{o e:Expr}{es:List Expr}{ta:TE}{t:TA}{m:Str}{C C' f f':Addr}{fd fd':zdA}{ps ps':List Str}{k k':Nat}{sp sp':Sp}{apos pos:Pos}
def wL(C C':Addr)(m:Str)(sp sp':Sp)(ta:TE)(t:TA):TE:=λσ H Q=>ta σ H λx H1=>∃a dx fs,x=.ref a/\fs.lookup m=none/\
 ((H1 a=some (.ins C dx fs)/\t σ H1 λvs H2=>sp (x::vs) H2 Q E0)\/(H1 a=some (.ins C' dx fs)/\t σ H1 λvs H2=>sp' (x::vs) H2 Q E0))
theorem KQ{pl:Sem Bool}(he:JE X o ta)(c:YV X.K C)(hm:YU X.K C m f)(F:qo X.prog X.w X.K X.mg X.base qJ k f fd ps sp)(hr:qO k X.A)(hb:ji X.K fd ps [])(c':YV X.K C')(hm':YU X.K C' m f')(F':qo X.prog X.w X.K X.mg X.base qJ k' f' fd' ps' sp')(hr':qO k' X.A)(hb':ji X.K fd' ps' [])(ha:JA X (e::es) t)(hst:starEach (e::es) X.env=(false,eval e X.env)::starEach es X.env:=by rfl)(hpl:(backTo pos (starEach es X.env)).any (·.1)=false:=by rfl)(ht:eval (.Call (.Attribute o m apos) (e::es) [] pos) X.env=(eval o X.env >>= λov=>standAt apos.atName >>= λ_=>holding [ov] (getMethod ov m pl) >>= λr=>callWith pos r.1 r.2 (backTo pos (starEach (e::es) X.env)) (backToKw pos (keywordEach [] X.env))):=by rfl):JE X (.Call (.Attribute o m apos) (e::es) [] pos) (wL C C' m sp sp' ta t):=.of (by
 have he:=he.to
 have ha:=ha.to
 intro pins s σ H Q I h
 refine zbp (pl:=pl) (jm (he pins s σ H _ I h) λu s1 ⟨x,H1,I1,rx,a,dx,fs,ex,l,q⟩=>?_) ht
 subst ex
 obtain rfl:u=Value.ref a:=rx
 rcases q with ⟨ea,q⟩ | ⟨ea,q⟩
 ·refine Qz I1 ea c hm l (zaS (first:=[.ref a]) (h₀:=X.base) I.ok.mod.kin hm.kp (jm (ha pos pins s1 σ H1 _ I1 q) λus s2 ⟨vs,H2,I2,r,q2⟩=>⟨I2.kIn,?_⟩) hst hpl)
  exact zg (us:=.ref a::us) (vs:=.ref a::vs) F hr hb .nil jG I2 (.cons rfl r) (by simpa using q2)
 ·refine Qz I1 ea c' hm' l (zaS (first:=[.ref a]) (h₀:=X.base) I.ok.mod.kin hm'.kp (jm (ha pos pins s1 σ H1 _ I1 q) λus s2 ⟨vs,H2,I2,r,q2⟩=>⟨I2.kIn,?_⟩) hst hpl)
  exact zg (us:=.ref a::us) (vs:=.ref a::vs) F' hr' hb' .nil jG I2 (.cons rfl r) (by simpa using q2))
theorem Yt{pl:Sem Bool}(he:JE X o ta)(c:YV X.K C)(hm:YU X.K C m f)(F:qo X.prog X.w X.K X.mg X.base qJ k f fd ps sp)(hr:qO k X.A)(hb:ji X.K fd ps [])(c':YV X.K C')(hm':YU X.K C' m f')(F':qo X.prog X.w X.K X.mg X.base qJ k' f' fd' ps' sp')(hr':qO k' X.A)(hb':ji X.K fd' ps' [])(ht:eval (.Call (.Attribute o m apos) [] [] pos) X.env=(eval o X.env >>= λov=>standAt apos.atName >>= λ_=>holding [ov] (getMethod ov m pl) >>= λr=>callWith pos r.1 r.2 (backTo pos (starEach [] X.env)) (backToKw pos (keywordEach [] X.env))):=by rfl):JE X (.Call (.Attribute o m apos) [] [] pos) (wL C C' m sp sp' ta Qf):=.of (by
 have he:=he.to
 intro pins s σ H Q I h
 refine zbp (pl:=pl) (jm (he pins s σ H _ I h) λu s1 ⟨x,H1,I1,rx,a,dx,fs,ex,l,q⟩=>?_) ht
 subst ex
 obtain rfl:u=Value.ref a:=rx
 rcases q with ⟨ea,q⟩ | ⟨ea,q⟩
 ·exact Qz I1 ea c hm l (zbO (first:=[.ref a]) I1.kIn hm.kp (zg (us:=[.ref a]) (vs:=[.ref a]) F hr hb .nil jG I1 (.cons rfl .nil) q))
 ·exact Qz I1 ea c' hm' l (zbO (first:=[.ref a]) I1.kIn hm'.kp (zg (us:=[.ref a]) (vs:=[.ref a]) F' hr' hb' .nil jG I1 (.cons rfl .nil) q)))
end
section
variable{X:Cx}{e:Expr}{es:List Expr}{te:TE}{t:TA}
theorem Xa{t':TE}(h:JE X e te)(k:∀σ H Q,t' σ H Q->te σ H Q):JE X e t':=.of (by
 have h:=h.to
 exact λpins s σ H Q I q=>h pins s σ H Q I (k σ H Q q))
def tWk(te:TE):TE:=λσ H Q=>∃G:VK,te σ H G/\∀x H1,G x H1->Q x H1
theorem yk(h:JE X e te):JE X e (tWk te):=.of (by
 have h:=h.to
 intro pins s σ H Q I ⟨G,g,k⟩
 exact jm (h pins s σ H G I g) λv s1 ⟨x,H1,I1,r1,q1⟩=>⟨x,H1,I1,r1,k x H1 q1⟩)
def aWk(t:TA):TA:=λσ H Q=>∃G:List V->Hp->Prop,t σ H G/\∀vs H1,G vs H1->Q vs H1
theorem Du(h:JA X es t):JA X es (aWk t):=.of (by
 have h:=h.to
 intro pos pins s σ H Q I ⟨G,g,k⟩
 exact jm (h pos pins s σ H G I g) λus s1 ⟨vs,H1,I1,r1,q1⟩=>⟨vs,H1,I1,r1,k vs H1 q1⟩)
end
open PySem PySem.Spec PySem.W PyProof.Rows
section
variable{P:Program}{w:World}{B:Around}{F:Value->Shared->Prop}{κ:SortKind}{it:Array Keyed}{z:Shared}
end
section
variable{P:Program}{w:World}{B:Around}{F:Value->Shared->Prop}{z:Shared}
end
end L2
namespace PySem
section
variable{P:Program}{w:World}{B:Around}{F':Value->Shared->Prop}{z:Shared}{d I:Addr}{es:Array DictEntry}{ep i:Nat}
end
open PySem.W
section
variable{P:Program}{w:World}{d:Addr}{es:Array DictEntry}{ep:Nat}
end
end PySem
namespace L2
open PySem PySem.Spec PySem.W PyProof.Rows
section
variable{X:Cx}
variable{e:Expr}{te:TE}{p1 p3 pos1 pos3:Pos}
end
open PySem PySem.Spec PyProof.Rows
def DN(K:zdw)(a:Addr):It:=⟨λi H=>∃xs x,SqL K H a xs/\xs[i]?=some x,
 λi H v H'=>∃p,H p=none/\v=.ref p/\∀xs x,SqL K H a xs->xs[i]?=some x->H'=upd H p (.tup [.int (i:Nat),x]),
 λi H=>∃xs,SqL K H a xs/\xs.length<=i⟩
theorem yS{P:Program}{w:World}{K:zdw}{elts:List Expr}{x1:Nat}{tpos:Pos}(a e it:Addr)(hne:e≠it):
  U0 P w K (.Tuple elts x1 tpos) (DN K a) [e,it] e (λi h=>(∃old,IsEnum h e it i old)/\h.IsListIter it a i) where
 mem:=by simp
 obj:=λi h st c hc=>by
  obtain⟨⟨old,he⟩,⟨o1,e1,c1,d1⟩⟩:=st
  simp only[tJ,zbm,or_false]at hc
  rcases hc with rfl | rfl
  ·exact⟨_,he,λv z=>by cases z⟩
  ·exact⟨o1,e1,λv z=>by rw[d1]at z;cases z⟩
 keep:=λi h h' st k=>by
  obtain⟨⟨old,he⟩,h1⟩:=st
  exact⟨⟨old,k e (by simp) _ he⟩,h1.at λo e=>k it (by simp) o e⟩
 item:=by
  intro X hP hw hK hc i pins s σ H E I hf st hg
  subst hP hw hK
  obtain⟨⟨old,he⟩,h1⟩:=st
  obtain⟨xs,x,qa,hx⟩:=hg
  obtain⟨its,rv,p,_⟩:=I.list qa
  obtain⟨u,hu,ru⟩:=rv.get hx
  refine wpAny_pyNext_enum_item he h1 p.isList (x:=u) (by simpa using hu) hne λh' z1 z2 z3 z4 kk=>⟨_,rfl,?_⟩
  refine wpAny_letOwnedTupleGo_enum z1 λh'' z1' sb=>?_
  have nT:∀c o,s.heap.get? c=some o->s.heap.objs.size≠c:=λc o e=>zbI (tN e)
  have kT:∀c o,c≠e->h'.get? c=some o->h''.get? c=some o:=λc o hc e=>(sb.2 c hc).trans e
  have I1:qz X pins σ (upd H s.heap.objs.size (.tup [.int (i:Nat),x])) {s with heap:=h'',toks:=s.toks+1}:=I.turnLaid (L:=[e,it]) (t':=s.toks+1)
   (λc o hc e=>kT c o (λz=>hc (by simp [z])) (kk c o (λz=>hc (by simp [z])) (λz=>hc (by simp [z])) e)) hf (tu _)
   ⟨by show 2<=zdB;decide,[.int i s.toks,u],.cons ⟨_,rfl⟩ (.cons ru .nil),⟨_,kT _ _ (nT _ _ he) z3,rfl,_,rfl⟩⟩
  refine⟨.ref s.heap.objs.size,_,I1,rfl,⟨s.heap.objs.size,I.hok.fresh (tu _),rfl,λxs' x' qa' hx'=>?_⟩,⟨⟨_,z1'⟩,z2.at λo e=>kT _ o (Ne.symm hne) e⟩,λc hc=>?_⟩
  ·rw[I.list_inj qa' qa,hx]at hx'
   cases hx'
   rfl
  ·have h0:=(hf c hc).1
   by_cases ec:c=s.heap.objs.size
   ·subst ec
    obtain⟨o1,e1,_⟩:=h1
    simp only[tJ,zbm,or_false]at hc
    rcases hc with e | e
    ·exact absurd e (nT _ _ he)
    ·exact absurd e (nT _ _ e1)
   ·rw[qi ec];exact h0
 done:=by
  intro X hP hw hK hc i pins s σ H E I hf st hg
  subst hP hw hK
  obtain⟨⟨old,he⟩,h1⟩:=st
  obtain⟨xs,qa,hl⟩:=hg
  obtain⟨its,rv,p,_⟩:=I.list qa
  have l1:=rv.length
  exact wpAny_pyNext_enum_end (I.ok.hd hc) he h1 p.isList (by simp;omega) λh' kk=>⟨rfl,I.turnedL (L:=[e,it]) (t':=s.toks) (λc o hc e=>kk c o (λz=>hc (by simp [z])) e) hf⟩
 self:=λ_ _ _ _ _ st h=>let ⟨⟨_,he⟩,_⟩:=st;wpAny_pyIter_enum he h
section
variable{X:Cx}{elts:List Expr}{x1:Nat}{tpos:Pos}
def K6(K:zdw)(ta:TA):TI:=λσ H R=>ta σ H λvs H1=>∃a,vs=[.ref a]/\(∃xs,SqL K H1 a xs)/\R (DN K a) H1
theorem Y8{a:Expr}{ta:TA}{p pos:Pos}(hg:Gl X "enumerate")(hm:X.mg "enumerate"=none)(ha:JA X [a] ta)(hs:starEach [a] X.env=[(false,eval a X.env)]:=by rfl):JI X (.Tuple elts x1 tpos) (.Call (.Name "enumerate" p) [a] [] pos) (K6 X.K ta):=.of (by
 have ha:=ha.to
 intro pins s σ H R I h
 refine Call_ (Yn I hg hm boot_enumerate (PyProof.Rows.callWith_type1 (jm (ha pos pins s σ H _ I h) λus s1 ⟨vs,H1,I1,r1,q1⟩=>?_) (by rw[hs];rfl) rfl))
 obtain⟨l,e,⟨xs,qa⟩,q⟩:=q1
 subst e
 cases r1 with
 | cons r rr=>
  cases rr
  cases r
  obtain⟨its,rv,p,_⟩:=I1.list qa
  refine call_enumerate_list p.isList λh' z1 z2 z3 kk=>?_
  refine wpAny_pyIter_enum z1 ?_
  have I2:qz X pins σ H1 {s1 with heap:=h'}:=I1.kept (t':=s1.toks) kk
  have fr:∀c,s1.heap.objs.size<=c->Z0 X pins H1 c:=λc hc=>I1.fpOk hc (I1.hok.fresh hc)
  refine⟨s1.heap.objs.size+1,[s1.heap.objs.size+1,s1.heap.objs.size],_,_,H1,rfl,I2,yS l (s1.heap.objs.size+1) s1.heap.objs.size (Nat.succ_ne_self _),⟨⟨_,z1⟩,z2⟩,λc hc=>?_,q⟩
  simp only[tJ,zbm,or_false]at hc
  rcases hc with e | e<;>rw[e]<;>first | exact fr _ (zce _ _) | exact fr _ (tu _))
end
theorem JJ{K:zdw}{a:Addr}{xs:List V}{g:TG}{tb:TS}{D:JN}{σ:St}{H:Hp}(Pv:Nat->St->Hp->Prop)(h0:Pv 0 σ H)(hl:∀i σ H,i<=xs.length->Pv i σ H->SqL K H a xs)
  (hs:∀i x σ H p,xs[i]?=some x->H p=none->Pv i σ H->g (.ref p) σ (upd H p (.tup [.int (i:Nat),x])) λσ2 H2=>tb {D with nx:=Pv (i+1),ct:=Pv (i+1),bk:=D.nx} σ2 H2) (hd:∀σ H,Pv xs.length σ H->D.nx σ H):
  ∃W:Nat->Nat->St->Hp->Prop,(∃m,W 0 m σ H)/\∀i m σ H,W i m σ H->
   ((DN K a).stop i H/\D.nx σ H)\/((DN K a).go i H/\∃N:St->Hp->Prop,(∀σ' H',N σ' H'->∃m',m' < m/\W (i+1) m' σ' H')/\∀x H',(DN K a).yld i H x H'->g x σ H' λσ2 H2=>tb {D with nx:=N,ct:=N,bk:=D.nx} σ2 H2):=by
 refine⟨λi m σ H=>m=xs.length - i/\i<=xs.length/\Pv i σ H,⟨xs.length,by simp,zao _,h0⟩,?_⟩
 rintro i m σ H ⟨rfl,hi,p⟩
 have qa:=hl i σ H hi p
 by_cases hlt:i < xs.length
 ·have ex:xs[i]?=some xs[i]:=tW hlt
  refine .inr ⟨⟨xs,_,qa,ex⟩,Pv (i+1),λσ' H' p'=>⟨xs.length - (i+1),by omega,rfl,hlt,p'⟩,λx H' yl=>?_⟩
  obtain⟨pp,hp,rfl,e⟩:=yl
  rw[e xs _ qa ex]
  exact hs i _ σ H pp ex hp p
 ·have e:i=xs.length:=by omega
  subst e
  exact .inl ⟨⟨xs,qa,tu _⟩,hd σ H p⟩
theorem Zx(ns:List Nat):∀i,i<=ns.length->preSum (λj=>((ns.getD j 0:Nat):Int)) i=(((ns.take i).sum:Nat):Int)
 | 0,_=>by simp [preSum]
 | i+1,h=>by
  have hi:i < ns.length:=h
  show preSum _ i+_=_
  rw[Zx ns i (zaC hi),tO,tW hi,zbk]
  simp [zaL,tW hi]
theorem YC(ns:List Nat)(i:Nat):(ns.take i).sum<=ns.sum:=by
 have h:(ns.take i++ns.drop i).sum=ns.sum:=by rw[List.take_append_drop]
 rw[zbk]at h
 omega
theorem UM(ns:List Nat)(i:Nat):ns.getD i 0<=ns.sum:=by
 have h:=YC ns (i+1)
 rw[tO,zbk]at h
 rw[zaL]
 cases e:ns[i]? with
 | none=>exact zao _
 | some x=>
  rw[e]at h
  simp at h ⊢
  omega
section
variable{X:Cx}
theorem WN(hc:X.calm=true):Ji X (.builtin "sum") (λxs H Q=>∃(p:Addr) (ns:List Nat),xs=[.ref p]/\SqL X.K H p (ns.map λn=>V.int ((n:Nat):Int))/\ns.sum < 2^62/\Q (.int (ns.sum:Nat)) H):=by
 intro pins s σ H xs us Q I r h
 obtain⟨p,ns,rfl,hq,hs,q⟩:=h
 obtain⟨u,rfl,rx⟩:=Zn r
 cases rx
 obtain⟨its,rv,pl,hz⟩:=I.list hq
 have hlt:p < s.heap.objs.size:=by
  obtain⟨o,n,e,_⟩:=pl
  exact tN e
 have hn:its.toArray.size=ns.length:=by
  have:=rv.length
  rw[tj]at this
  simp only[zah]
  omega
 have hh:X.A.in1.handled=none:=I.ok.hd hc
 refine call_sum_walk (wpAny_pyIter_list pl.isList ?_)
 refine⟨s.heap.objs.size,[s.heap.objs.size,p],[s.heap.objs.size],its.toArray.size,λi v=>its.toArray[i]?=some v,_,λj=>((ns.getD j 0:Nat):Int),rfl,Walks.list hh s.heap.objs.size p (zac hlt) its.toArray,
  ⟨⟨_,zae _ rfl,rfl,rfl⟩,pl.isList.at λo e=>tz _ e⟩,?_,?_,?_,λh' tk t' hk=>?_⟩
 ·intro b hb
  show b < (s.heap.push _).objs.size
  rw[zbf]
  simp only[tJ,zbm,or_false]at hb
  rcases hb with e | e
  ·rw[e];exact zbu _
  ·rw[e];exact zcI hlt
 ·intro i v hP
  have hi:its[i]?=some v:=by simpa using hP
  cases e:ns[i]? with
  | none=>
   exfalso
   have h1:(ns.map λn=>V.int ((n:Nat):Int))[i]?=none:=by rw[tZ,e];rfl
   rw[qR.none_of rv h1]at hi
   cases hi
  | some b=>
   have h1:(ns.map λn=>V.int ((n:Nat):Int))[i]?=some (V.int b):=by rw[tZ,e];rfl
   obtain⟨u,hu,ru⟩:=rv.get h1
   rw[hi]at hu
   cases hu
   obtain⟨t,rfl⟩:=ru
   refine⟨t,?_⟩
   show Value.int b t=.int ((ns.getD i 0:Nat):Int) t
   rw[zaL,e]
   rfl
 ·intro j hj
  rw[hn]at hj
  have h1:=UM ns j
  have h2:=YC ns (j+1)
  have h3:=Zx ns (j+1) hj
  refine⟨⟨?_,?_⟩,⟨?_,?_⟩⟩
  ·show -(2^63)<=((ns.getD j 0:Nat):Int)
   omega
  ·show ((ns.getD j 0:Nat):Int) < 2^63
   omega
  ·rw[h3];omega
  ·rw[h3];omega
 ·rw[hn,Zx ns _ (tu _),tI (tu _)]
  refine⟨.int (ns.sum:Nat),H,?_,⟨_,rfl⟩,q⟩
  exact I.kept (h':=h') (t':=tk) λb o e=>hk b o (by
   intro z
   have z':b=s.heap.objs.size:=by simpa using z
   exact absurd (tN e) (by rw[z'];exact zaB _)) (tz _ e)
end
open PySem PySem.Spec PyProof.Rows
structure ke(fs:List Addr)(ex:List Addr)(h h':Heap):Prop where
 keep:∀b o,b∉fs->b∉ex->h.get? b=some o->h'.get? b=some o
 slot:∀b o,b∈fs->b∉ex->h.get? b=some o->∃sl,h'.get? b=some {o with slots:=sl}
def GU(T:Addr)(fl:Value)(h:Heap):Prop:=∃ts,h.get? T=some {cls:=.type "traceback",data:=.fields ts}/\ts[3]?=some fl
section
variable{M:Model}{A:Around}{E:Value->Shared->Prop}{s:Shared}{base:Heap}{env:Env}{outer:List Env}{L e:Addr}{cl head:Value}{d:Option Addr}{vs:Array Value}{had:Bool}{Q:Unit->Shared->Prop}
theorem wH(fr:A.frames=some (env::outer))(ff:s.heap.FunFrames base (env::outer))(fm:env.frame=some L)
  (he:s.heap.get? e=some {cls:=cl,dict:=d,data:=.fields vs}) (sz:1 < vs.size)
  (k:∀h' T,s.heap.objs.size<=T->ke (YH (env::outer)) [e] s.heap h'->h'.get? e=some {cls:=cl,dict:=d,data:=.fields (vs.setIfInBounds 1 (.ref T))}->GU T (rawInt L) h'->Q () {s with heap:=h'}):
  wpAny M A (frameOf env >>= λa=>entryPlaceOf L had >>= λpl=>EntryCells.newEntry head a .none (rawInt L) .none pl >>= λb=>setField (.ref e) 1 b) Q E s:=by
 have out:e∉YH (env::outer):=λz=>by
  obtain⟨_,o,ho,nf⟩:=ff.mem z
  rw[he]at ho
  cases ho
  exact nf vs rfl
 refine zdy (wpAny_frameOf_fun fr ff fm λh1 so=>?_)
 refine zdy (wpAny_entryPlaceOf λpl ip=>?_)
 have e1:h1.get? e=some {cls:=cl,dict:=d,data:=.fields vs}:=(so.2.1 e out).trans he
 unfold EntryCells.newEntry newFields
 refine zdy (wpAny_newObj_type ?_ (ip.sizeOk5 _ _ _ _ _))
 have ne:e≠h1.objs.size:=zac (tN e1)
 refine wpAny_setField (tz _ e1) rfl sz (k _ h1.objs.size (zcT so.1.symm) ⟨λb o n1 n2 q=>?_,λb o n1 n2 q=>?_⟩ ?_ ⟨_,(zaE _ _ ne).trans (zae _ rfl),?_⟩)
 ·have n3:b≠e:=λz=>n2 (by simp [z])
  rw[zaE _ _ (Ne.symm n3)]
  exact tz _ ((so.2.1 b n1).trans q)
 ·have n3:b≠e:=λz=>n2 (by simp [z])
  obtain⟨sl,r⟩:=so.2.2 b o q
  exact⟨sl,by rw[zaE _ _ (Ne.symm n3)];exact tz _ r⟩
 ·exact zaZ _ (tz _ e1) rfl
 ·rcases ip with rfl | ⟨_,_,_,_,_,_,_,rfl⟩<;>simp
theorem Uy(fr:A.frames=some (env::outer))(ff:s.heap.FunFrames base (env::outer))(fm:env.frame=some L)
  (he:s.heap.get? e=some {cls:=cl,dict:=d,data:=.fields vs}) (h1:vs[1]?=some .none)
  (k:∀h' T,s.heap.objs.size<=T->ke (YH (env::outer)) [e] s.heap h'->h'.get? e=some {cls:=cl,dict:=d,data:=.fields (vs.setIfInBounds 1 (.ref T))}->GU T (rawInt L) h'->Q () {s with heap:=h'}):
  wpAny M A (noteFrame (.ref e) env) Q E s:=by
 unfold noteFrame
 simp only[fm]
 refine zdy (wpAny_field he rfl h1 ?_)
 rw[if_neg (show ¬((Value.none != Value.none)=true) by decide)]
 exact wH fr ff fm he (zaq.mp h1).1 k
theorem xA{T:Addr}(fm:env.frame=some L)(he:s.heap.get? e=some {cls:=cl,dict:=d,data:=.fields vs})(h1:vs[1]?=some (.ref T))(st:GU T (rawInt L) s.heap)(k:Q () s):
  wpAny M A (noteFrame (.ref e) env) Q E s:=by
 obtain⟨ts,ht,h3⟩:=st
 unfold noteFrame
 simp only[fm]
 refine zdy (wpAny_field he rfl h1 ?_)
 rw[if_pos (show (Value.ref T != Value.none)=true by simp)]
 refine zdy (wpAny_field ht rfl h3 ?_)
 rw[if_pos (show (rawInt L==rawInt L)=true by simp [rawInt])]
 exact zdz k
theorem Vm{T:Addr}(fr:A.frames=some (env::outer))(ff:s.heap.FunFrames base (env::outer))(fm:env.frame=some L)
  (he:s.heap.get? e=some {cls:=cl,dict:=d,data:=.fields vs}) (h1:vs[1]?=some (.ref T)) (st:GU T .none s.heap) (ne:T≠e)
  (k:∀h' T',s.heap.objs.size<=T'->ke (YH (env::outer)) [e,T] s.heap h'->(∃o,h'.get? T=some o)->h'.get? e=some {cls:=cl,dict:=d,data:=.fields (vs.setIfInBounds 1 (.ref T'))}->GU T' (rawInt L) h'->Q () {s with heap:=h'}):
  wpAny M A (noteFrame (.ref e) env) Q E s:=by
 obtain⟨ts,ht,h3⟩:=st
 unfold noteFrame
 simp only[fm]
 refine zdy (wpAny_field he rfl h1 ?_)
 rw[if_pos (show (Value.ref T != Value.none)=true by simp)]
 refine zdy (wpAny_field ht rfl h3 ?_)
 rw[if_neg (show ¬((Value.none==rawInt L)=true) by simp [rawInt])]
 refine zdy (wpAny_setField ht rfl (zaq.mp h3).1 ?_)
 have oth:∀b,b≠T->(s.heap.update T (Obj.mapFields (·.setIfInBounds 3 Value.none))).get? b=s.heap.get? b:=λb n=>zaE _ _ (Ne.symm n)
 have tno:T∉YH (env::outer):=λz=>by
  obtain⟨_,o,ho,nf⟩:=ff.mem z
  rw[ht]at ho
  cases ho
  exact nf ts rfl
 refine wH fr (ff.of_keeps λb o hb nf=>⟨o,(oth b λz=>?_).trans hb,rfl⟩) fm ((oth e (Ne.symm ne)).trans he) (zaq.mp h1).1 λh' T' hT F q1 q2=>?_
 ·rw[z,ht]at hb
  cases hb
  exact nf ts rfl
 ·have upT:=zaZ (Obj.mapFields (·.setIfInBounds 3 Value.none)) ht rfl
  refine k h' T' (tM (zcT (by simp)) hT) ⟨λb o n1 n2 q=>?_,λb o n1 n2 q=>?_⟩ ⟨_,F.keep T _ tno (by simp [ne]) upT⟩ q1 q2
  ·simp only[tJ,zai,or_false,not_or]at n2
   exact F.keep b o n1 (by simp [n2.1]) ((oth b n2.2).trans q)
  ·simp only[tJ,zai,or_false,not_or]at n2
   exact F.slot b o n1 (by simp [n2.1]) ((oth b n2.2).trans q)
theorem J5{T:Addr}{fl:Value}{fs:List Addr}(he:s.heap.get? e=some {cls:=cl,dict:=d,data:=.fields vs})(h1:vs[1]?=some (.ref T))(st:GU T fl s.heap)
  (k:∀h',ke fs [T] s.heap h'->GU T .none h'->Q () {s with heap:=h'}):wpAny M A (setFlight (.ref e) none) Q E s:=by
 obtain⟨ts,ht,h3⟩:=st
 have lt:=(zaq.mp h3).1
 refine wpAny_setFlight_none he rfl h1 ht rfl lt (k _ ⟨λb o _ n q=>?_,λb o _ n q=>⟨o.slots,?_⟩⟩ ⟨_,zaZ _ ht rfl,by simp [lt]⟩)
 all_goals
  rw[zaE _ _ λz=>n (by simp [z])]
  exact q
end
structure XZ(ex:List Addr)(n:Nat)(H H':Hp):Prop where
 ext:∀b∈ex,∃φ,H b=some (.ext φ)
 same:∀b o,b∉ex->H b=some o->H' b=some o
 no:∀b,b < n->H b=none->H' b=none
section
variable{P:Program}{w:World}{fs ex:List Addr}{H H':Hp}{h h':Heap}
theorem XZ.out{n:Nat}(t:XZ ex n H H'){b:Addr}{o:HO}(q:H b=some o)(hn:∀φ,o≠.ext φ):b∉ex:=λz=>by
 obtain⟨φ,e⟩:=t.ext b z
 rw[q]at e
 cases e
 exact hn φ rfl
theorem XZ.out0{n:Nat}(t:XZ ex n H H'){b:Addr}(q:H b=none):b∉ex:=λz=>by
 obtain⟨φ,e⟩:=t.ext b z
 rw[q]at e
 cases e
theorem Un.fly(F:ke fs ex h h')(t:XZ ex h.objs.size H H')(th:∀b∈ex,∃o,h'.get? b=some o):Un fs [] H H' h h' where
 keep b o q n hf _:=F.keep b o hf (t.out0 n) q
 slot b o q n hf _:=F.slot b o hf (t.out0 n) q
 free b o q n _:=t.no b (tN q) n
 there b o q _:=by
  by_cases hb:b∈ex
  ·exact th b hb
  ·by_cases hf:b∈fs
   ·obtain⟨sl,r⟩:=F.slot b o hf hb q
    exact⟨_,r⟩
   ·exact⟨o,F.keep b o hf hb q⟩
 tups b xs q:=t.same b _ (t.out q (by intro φ z;cases z)) q
 frzs b o u q:=t.same b _ (t.out q (by intro φ z;cases z)) q
 tbls b ps q:=⟨#[],by simpa using t.same b _ (t.out q (by intro φ z;cases z)) q⟩
theorem Zj.fly(ok:Zj P w H h)(F:ke fs ex h h')(t:XZ ex h.objs.size H H')(fr:∀b∈fs,H b=none)(new:∀b o,H' b=some o->(H b=none\/b∈ex)->qK P w H' h' b o):Zj P w H' h':=λb o q=>by
 by_cases hb:b∈ex
 ·exact new b o q (.inr hb)
 cases e:H b with
 | none=>exact new b o q (.inl e)
 | some u=>
  have r:=t.same b u hb e
  rw[q]at r
  cases r
  refine(ok b o e).stay (λc v hc g=>F.keep c v ?_ ?_ g) (λc z=>t.same c _ (t.out z (by intro φ z;cases z)) z) (λc xs z=>t.same c _ (t.out z (by intro φ z;cases z)) z) (λc o z=>t.same c _ (t.out z (by intro φ z;cases z)) z)
  ·intro z
   have n:=fr c z
   rcases hc with rfl | hc
   ·rw[e]at n;cases n
   ·rw[hc]at n;cases n
  ·rcases hc with rfl | hc
   ·exact hb
   ·exact t.out hc (by intro φ z;cases z)
end
open PySem PySem.Spec PyProof.Rows
def X9(T:Addr)(fl:Value):HO:=.ext (GU T fl)
theorem Z7{P:Program}{w:World}{H:Hp}{h:Heap}{T:Addr}{fl:Value}(x:GU T fl h):qK P w H h T (X9 T fl):=by
 obtain⟨ts,q,z⟩:=x
 exact⟨⟨ts,q,z⟩,⟨_,q⟩,λh1 h2 ⟨ts',q',z'⟩ k=>⟨ts',k _ q',z'⟩⟩
def jX(P:Program)(w:World):zp:=λouter H s E e s'=>∃a C dx T Hx H',e=.ref a/\s'.os=s.os/\AllBare s'.gens/\Un (YH outer) [] H H' s.heap s'.heap/\Zj P w H' s'.heap/\
 H' a=some (j6 a C dx (.ref T))/\H' T=some (X9 T .none)/\Hx T=none/\Hx a=some (QX a C dx)/\(∀b o,b≠a->Hx b=some o->H' b=some o)/\E (.ref C) (some dx) Hx
def VC(X:Cx)(E:XK):Prop:=∀(pins:List (Addr×Obj)) (σ:St) (H:Hp) (s:Shared) (a C dx:Addr),qz X pins σ H s->H a=some (QX a C dx)->E (.ref C) (some dx) H->X.xe (.ref a) s
section
variable{X:Cx}{pins:List (Addr×Obj)}{σ:St}{H H':Hp}{s:Shared}{h':Heap}{ex:List Addr}
theorem qz.flown(I:qz X pins σ H s)(F:ke (YH X.stack) ex s.heap h')(t:XZ ex s.heap.objs.size H H')(th:∀b∈ex,∃o,h'.get? b=some o)
  (new:∀b o,H' b=some o->(H b=none\/b∈ex)->qK X.prog X.w H' h' b o):qz X pins σ H' {s with heap:=h'}:=
 I.call (g':=s.gens) (t':=s.toks) (d':=s.drawn) (ch:=[]) (Un.fly F t th) (Zj.fly I.hok F t I.stkFree new) I.bare λb z=>absurd z (by simp)
theorem ke.then{fs ex:List Addr}{h h1 h2:Heap}{T:Addr}(F:ke fs ex h h1)(G:ke fs [T] h1 h2)(hT:h.objs.size<=T):ke fs ex h h2 where
 keep b o n1 n2 q:=G.keep b o n1 (by simp;exact zac (tE (tN q) hT)) (F.keep b o n1 n2 q)
 slot b o n1 n2 q:=by
  obtain⟨sl,r⟩:=F.slot b o n1 n2 q
  obtain⟨sl',r'⟩:=G.slot b _ n1 (by simp;exact zac (tE (tN q) hT)) r
  exact⟨sl',r'⟩
end
section
variable{P:Program}{w:World}{K:zdw}{mg:Str->Option Value}{base:Heap}{N:List Str}{qual:Str}{scope:Scope}{f:Addr}{cd:Value}{A:Around}{outer:List Env}{s₀:Shared}{H₀:Hp}{E:XK}
theorem Qh:VC (Qk (jX P w) P w K mg base N qual scope f cd A outer s₀ H₀ E) E:=by
 intro pins σ H s a C dx I ha hE
 obtain⟨⟨fl,he,hz⟩,_,_⟩:=(show qK P w H s.heap a (j6 a C dx .none) from I.hok a _ ha)
 have fr:=I.ok.frames
 have ff:=I.stack
 show wpAny _ _ (leaving _ _) _ _ s
 unfold leaving
 refine zdy (Uy fr ff rfl he hz λh1 T hT F q1 q2=>?_)
 have lt:=(zaq.mp hz).1
 have g1:(fl.setIfInBounds 1 (Value.ref T))[1]?=some (.ref T):=by simp [lt]
 have nT:T≠a:=λz=>by
  obtain⟨ts,q,_⟩:=q2
  rw[z,q1]at q
  cases q
 refine J5 (fs:=YH (Qk (jX P w) P w K mg base N qual scope f cd A outer s₀ H₀ E).stack) q1 g1 q2 λh2 F2 st=>?_
 have anf:a∉YH (Qk (jX P w) P w K mg base N qual scope f cd A outer s₀ H₀ E).stack:=λz=>by
  have:=I.stkFree a z
  rw[ha]at this
  cases this
 have hTn:H T=none:=I.hok.fresh hT
 have q3:=F2.keep a _ anf (by simp [Ne.symm nT]) q1
 have I2:=I.flown (H':=upd (upd H a (j6 a C dx (.ref T))) T (X9 T .none)) (ke.then F F2 hT) ⟨λb hb=>by cases zaf.mp hb;exact⟨_,ha⟩,λb o hb q=>by
   rw[qi (qr q hTn),qi λz=>hb (by simp [z])];exact q,λb hb q=>by
   rw[qi (zac (tE hb hT)),qi λz=>by rw[z,ha]at q;cases q];exact q⟩ (λb hb=>by cases zaf.mp hb;exact⟨_,q3⟩) λb o q hb=>by
  by_cases e1:b=T
  ·subst e1
   rw[qe]at q
   cases q
   exact Z7 st
  ·rw[qi e1]at q
   by_cases e2:b=a
   ·subst e2
    rw[qe]at q
    cases q
    exact ZX ⟨_,q3,g1⟩
   ·rw[qi e2]at q
    rcases hb with hb | hb
    ·rw[q]at hb;cases hb
    ·exact absurd (zaf.mp hb) e2
 exact⟨a,C,dx,T,H,_,rfl,I2.os,I2.bare,I2.base,I2.hok,by rw[qi (Ne.symm nT),qe],qe ..,hTn,ha,λb o nb q=>by rw[qi (qr q hTn),qi nb];exact q,hE⟩
theorem qU:jQ (jX P w) (Qk (jX P w) P w K mg base N qual scope f cd A outer s₀ H₀ E) E:=by
 intro pins σ H s e s' I0 hc
 obtain⟨a,C,dx,T,Hx,H1,rfl,os,bare,un,hok,ha,ht,hxT,hxa,hx,hE⟩:=hc
 have I:qz (Qk (jX P w) P w K mg base N qual scope f cd A outer s₀ H₀ E) pins σ H1 s':=I0.call' os un hok bare λb z=>absurd z (by simp)
 obtain⟨⟨fl,he,hz⟩,_,_⟩:=(show qK P w H1 s'.heap a (j6 a C dx (.ref T)) from I.hok a _ ha)
 obtain⟨st0,_,_⟩:=(show qK P w H1 s'.heap T (X9 T .none) from I.hok T _ ht)
 have fr:=I.ok.frames
 have ff:=I.stack
 have nT0:T≠a:=λz=>by
  obtain⟨ts,q,_⟩:=st0
  rw[z,he]at q
  cases q
 show wpAny _ _ (leaving _ _) _ _ s'
 unfold leaving
 refine zdy (Vm fr ff rfl he hz st0 nT0 λh1 T' hT F tT q1 q2=>?_)
 have lt:=(zaq.mp hz).1
 have g1:(fl.setIfInBounds 1 (Value.ref T'))[1]?=some (.ref T'):=by simp [lt]
 have nT:T'≠a:=λz=>by
  obtain⟨ts,q,_⟩:=q2
  rw[z,q1]at q
  cases q
 refine J5 (fs:=YH (Qk (jX P w) P w K mg base N qual scope f cd A outer s₀ H₀ E).stack) q1 g1 q2 λh2 F2 st=>?_
 have anf:∀b o,H1 b=some o->b∉YH (Qk (jX P w) P w K mg base N qual scope f cd A outer s₀ H₀ E).stack:=λb o q z=>by
  have:=I.stkFree b z
  rw[q]at this
  cases this
 have hTn:H1 T'=none:=I.hok.fresh hT
 have nTT:T'≠T:=(qr ht hTn).symm
 have q3:=F2.keep a _ (anf a _ ha) (by simp [Ne.symm nT]) q1
 obtain⟨oT,hoT⟩:=tT
 have q4:=F2.keep T _ (anf T _ ht) (by simp [Ne.symm nTT]) hoT
 have I2:=I.flown (H':=upd (upd (upd H1 a (j6 a C dx (.ref T'))) T (.ext λh=>∃o,h.get? T=some o)) T' (X9 T' .none)) (ke.then F F2 hT) ⟨λb hb=>by
   simp only[tJ,zai,or_false]at hb
   rcases hb with rfl | rfl
   ·exact⟨_,ha⟩
   ·exact⟨_,ht⟩,λb o hb q=>by
   simp only[tJ,zai,or_false,not_or]at hb
   rw[qi (qr q hTn),qi hb.2,qi hb.1];exact q,λb hb q=>by
   rw[qi (zac (tE hb hT)),qi (λz=>by rw[z,ht]at q;cases q),qi (λz=>by rw[z,ha]at q;cases q)];exact q⟩ (λb hb=>by
   simp only[tJ,zai,or_false]at hb
   rcases hb with rfl | rfl
   ·exact⟨_,q3⟩
   ·exact⟨_,q4⟩) λb o q hb=>by
  by_cases e1:b=T'
  ·subst e1
   rw[qe]at q
   cases q
   exact Z7 st
  ·rw[qi e1]at q
   by_cases e2:b=T
   ·subst e2
    rw[qe]at q
    cases q
    exact⟨⟨_,q4⟩,⟨_,q4⟩,λh1 h2 ⟨u,z⟩ k=>⟨u,k u z⟩⟩
   ·rw[qi e2]at q
    by_cases e3:b=a
    ·subst e3
     rw[qe]at q
     cases q
     exact ZX ⟨_,q3,g1⟩
    ·rw[qi e3]at q
     rcases hb with hb | hb
     ·rw[q]at hb;cases hb
     ·simp only[tJ,zai,or_false]at hb
      exact(hb.elim e3 e2).elim
 refine⟨a,C,dx,T',Hx,_,rfl,I2.os,I2.bare,I2.base,I2.hok,by rw[qi (Ne.symm nT),qi (Ne.symm nT0),qe],qe ..,?_,hxa,λb o nb q=>?_,hE⟩
 ·cases e:Hx T' with
  | none=>rfl
  | some o=>
   have:=hx T' o nT e
   rw[hTn]at this
   cases this
 ·have n1:b≠T:=λz=>by rw[z,hxT]at q;cases q
  have q':=hx b o nb q
  rw[qi (qr q' hTn),qi n1,qi nb]
  exact q'
end
open PySem PySem.Spec PyProof.Rows
section
variable{M:Model}{A:Around}{E:Value->Shared->Prop}{s:Shared}{env:Env}{C:Addr}
theorem xn{oC:Obj}{x:Sem Value}{Q:Flow->Shared->Prop}(hh:A.handled=none)(hcl:oC.cls=.type "type")
  (hs:∀(h:Heap) (g d t os) (Q:Bool->Shared->Prop),h.get? C=some oC->Q true ⟨h,g,d,t,os⟩->wpAny M A (isSubtype (.ref C) (.type "BaseException")) Q E ⟨h,g,d,t,os⟩)
  (h:wpAny M A x (λv s₁=>∃e dx fl,v=.ref e/\s₁.heap.get? C=some oC/\s₁.heap.get? e=some {cls:=.ref C,dict:=some dx,data:=.fields fl}/\fl[1]?=some Value.none/\E (.ref e) s₁) E s):
  wpAny M A (raiseStmt env (some x) none) Q E s:=by
 unfold raiseStmt
 refine zdy (jm h λv s₁ h₁=>?_)
 obtain⟨e,dx,fl,rfl,hC,he,hz,hE⟩:=h₁
 obtain⟨hp,g,d,tk,os⟩:=s₁
 repeat (first | with_reducible refine wpAny_loadPart_at he ?_ | with_reducible refine wpAny_loadPart_at hC ?_ | with_reducible refine hs _ _ _ _ _ _ hC ?_ | wp_step)
 rw[hz]
 refine zdz ?_
 rw[if_neg (show ¬((Value.none != Value.none)=true) by decide)]
 exact zdz (wpAny_raiseNew_none hh hE)
end
def U1(K:zdw)(C:Addr):Prop:=∃f bm,Ci K C f bm/\bm.contains (.type "BaseException")=true
def zd(K:zdw)(E:XK)(te:TE):TS:=λD σ H=>te σ H λv H1=>∃a C dx,v=.ref a/\H1 a=some (QX a C dx)/\U1 K C/\E (.ref C) (some dx) H1
section
variable{X:Cx}{E:XK}{e:Expr}{te:TE}{pos:Pos}
theorem jA(hc:X.calm=true)(hx:VC X E)(he:JE X e te):JS X (.Raise (some e) none pos) (zd X.K E te):=.of (by
 have he:=he.to
 intro pins s σ H D I h
 have key:∀x:Sem Value,wpAny (model X.prog X.w) X.A x (λu s1=>∃v H1,qz X pins σ H1 s1/\qY v u/\∃a C dx,v=.ref a/\H1 a=some (QX a C dx)/\U1 X.K C/\E (.ref C) (some dx) H1) X.xe s->
   wpAny (model X.prog X.w) X.A (raiseStmt X.env (some x) none) (SP X pins D) X.xe s:=λx hw=>by
  unfold raiseStmt
  refine zdy (jm hw λu s1 ⟨v,H1,I1,rv,a,C,dx,ev,ha,⟨f,bm,em,hb⟩,hE⟩=>?_)
  subst ev
  obtain rfl:u=Value.ref a:=rv
  obtain⟨nm,q,N,bs,hdct,sn,sub,ab,col,dd,k0,k1,k2,k3,k5,hC⟩:=em.obj
  obtain⟨⟨fl,ho,hz⟩,_,_⟩:=(show qK X.prog X.w H1 s1.heap a (j6 a C dx .none) from I1.hok a _ ha)
  have hC':=I1.kIn _ _ hC
  have r:=xn (M:=model X.prog X.w) (A:=X.A) (E:=X.xe) (s:=s1) (env:=X.env) (C:=C) (x:=pure (.ref a)) (Q:=SP X pins D) (I1.ok.hd hc) rfl (λh g d t os Q z k=>wpAny_isSubtype_exc z (by
   rw[show (Value.ref C::bm).contains (.type "BaseException")=true by rw[zcz,hb,Bool.or_true]];exact k)) (zdz ⟨a,dx,fl,rfl,hC',ho,hz,hx pins σ H1 s1 a C dx I1 ha hE⟩)
  exact r
 rw[arm_exec_Raise]
 exact zdy (wpAny_standAt (key _ (zdy (jm (he pins s σ H _ I h) λu s1 q=>zdy (wpAny_standAt (zdz q)))))))
end
open PySem PySem.Spec PyProof.Rows
section
variable{M:Model}{A:Around}{E:Value->Shared->Prop}
theorem x9{h:Heap}{g:Array GenState}{d:Drawn}{t:Nat}{os:OsState}{e C D:Addr}{oe oC:Obj}{ddc:Option Addr}{sld:Array (Option Value)}{cdd}{bC bD:List Value}{Q:Bool->Shared->Prop}
  (he:h.get? e=some oe) (hcls:oe.cls=.ref C) (hC:h.get? C=some oC) (hD:h.get? D=some ⟨.type "type",ddc,.cls cdd,sld⟩)
  (sC:∀(T:Value) (Q:Bool->Shared->Prop),Q (bC.contains T) ⟨h,g,d,t,os⟩->wpAny M A (isSubtype (.ref C) T) Q E ⟨h,g,d,t,os⟩)
  (sD:∀(T:Value) (Q:Bool->Shared->Prop),Q (bD.contains T) ⟨h,g,d,t,os⟩->wpAny M A (isSubtype (.ref D) T) Q E ⟨h,g,d,t,os⟩)
  (hB:bD.contains (.type "BaseException")=true)
  (hq:Q (bC.contains (.ref D)) ⟨h,g,d,t,os⟩):wpAny M A (excMatches (.ref e) (.ref D)) Q E ⟨h,g,d,t,os⟩:=by
 have f:=tc_notTuple
 unfold excMatches
 repeat (first | (with_reducible refine wpAny_loadPart_at he ?_;rw[hcls]) | with_reducible refine wpAny_loadPart_at hD ?_ | (with_reducible refine sC _ _ ?_) | (with_reducible refine sD _ _ ?_;rw[hB]) | wp_step)
 cases hb:bC.contains (.ref D)<;>(rw[hb]at hq;wp_walk;exact hq)
end
open PySem PySem.Spec PyProof.Rows
def Q4(CX:zp)(X:Cx)(E:St->XK):Prop:=∀(pins:List (Addr×Obj)) (σ:St) (H:Hp) (s:Shared) (e:Value) (s':Shared),qz X pins σ H s->CX X.stack H s (E σ) e s'->X.xe e s'
theorem jQ.s{CX:zp}{X:Cx}{E:XK}(h:jQ CX X E):Q4 CX X λ_=>E:=h
def wK(C:Addr)(m:Str)(sp:Sp)(dvs:List V)(E:St->XK)(ta:TE)(t:TA):TE:=λσ H Q=>ta σ H λx H1=>∃a dx fs,x=.ref a/\H1 a=some (.ins C dx fs)/\fs.lookup m=none/\
 t σ H1 λvs H2=>sp (x::(vs++dvs)) H2 Q (E σ)
section
variable{X:Cx}{CX:zp}{k:Nat}{f C:Addr}{fd:zdA}{ps:List Str}{sp:Sp}{dvs:List V}{ds:List Value}{E:St->XK}{x m:Str}{p pos apos:Pos}{e o:Expr}{es:List Expr}{ta:TE}{t:TA}
theorem RZ{pins:List (Addr×Obj)}{σ:St}{H:Hp}{s:Shared}{Q:VK}{us:List Value}{vs:List V}(F:qo X.prog X.w X.K X.mg X.base CX k f fd ps sp)(hr:qO k X.A)(hb:ji X.K fd ps ds)(hd:qR dvs ds)(hx:Q4 CX X E)
  (I:qz X pins σ H s) (r:qR vs us) (h:sp (vs++dvs) H Q (E σ)):wpAny (model X.prog X.w) X.A (call (.ref f) us) (EP X pins σ Q) X.xe s:=by
 have rr:qR (vs++dvs) (us++ds):=r.append hd
 have ll:(us++ds).length=ps.length:=rr.length.symm.trans (F.len _ _ _ _ h)
 have run:=F.run X.A X.stack s H ⟨us,[]⟩ (us++ds) (vs++dvs) Q (E σ) hr I.env0 (hb s us I.kIn ll) rr h
 refine wpAny_call (codeAny_mono run λz s' q=>?_)
 match z,q with
 | .error y,q=>exact hx pins σ H s y s' I q
 | .ok (.ret u),q=>exact I.after q
end
open PySem PySem.Spec PyProof.Rows
section
variable{X:Cx}{pins:List (Addr×Obj)}{σ:St}{H:Hp}{s:Shared}{a b:Addr}{kvs more:List (qG×V)}{A:Around}{E:Value->Shared->Prop}
end
section
variable{X:Cx}{o e:Expr}{apos cpos:Pos}{td ty:TE}
end
theorem E2{us:List Value}(h:us.length=0):us=[]:=zaQ h
theorem NP{us:List Value}{n:Nat}(h:us.length=n+1):∃a r,us=a::r/\r.length=n:=by
 cases us with
 | nil=>cases h
 | cons a r=>exact⟨a,r,rfl,Nat.succ.inj h⟩
theorem xI{us:List Value}(h:us.length=1):∃a,us=[a]:=by
 obtain⟨a,r,rfl,h'⟩:=NP h
 exact⟨a,by rw[E2 h']⟩
theorem zj{us:List Value}(h:us.length=2):∃a b,us=[a,b]:=by
 obtain⟨a,r,rfl,h'⟩:=NP h
 obtain⟨b,rfl⟩:=xI h'
 exact⟨a,b,rfl⟩
theorem Bw{us:List Value}(h:us.length=3):∃a b c,us=[a,b,c]:=by
 obtain⟨a,r,rfl,h'⟩:=NP h
 obtain⟨b,c,rfl⟩:=zj h'
 exact⟨a,b,c,rfl⟩
theorem Do{us:List Value}(h:us.length=4):∃a b c d,us=[a,b,c,d]:=by
 obtain⟨a,r,rfl,h'⟩:=NP h
 obtain⟨b,c,d,rfl⟩:=Bw h'
 exact⟨a,b,c,d,rfl⟩
open PySem PySem.Spec PyProof.Rows
abbrev Cx.suite(X:Cx)(a:Value)(E:Value->Shared->Prop):Cx:={X with A:=X.A.mark (some a),calm:=false,xe:=E}
abbrev Cx.tried(X:Cx)(pn:List (Addr×Obj))(E:Value->Shared->Prop):Cx:={X with xe:=E,pn:=pn}
section
variable{X:Cx}{pins:List (Addr×Obj)}{σ:St}{H:Hp}{s:Shared}{E:Value->Shared->Prop}{a:Value}
theorem Cx.Ok.suite(o:X.Ok)(a:Value)(E:Value->Shared->Prop):(X.suite a E).Ok:=⟨o.mod,o.kind,o.glob,o.blt,o.above,o.inj,o.has,o.cab,λz=>Bool.noConfusion z,o.frames,o.stk,o.exf,o.bs,o.bsz,o.noex,o.exfs,o.funs,o.frf⟩
theorem Cx.Ok.tried(o:X.Ok)(pn:List (Addr×Obj))(E:Value->Shared->Prop):(X.tried pn E).Ok:=⟨o.mod,o.kind,o.glob,o.blt,o.above,o.inj,o.has,o.cab,o.hd,o.frames,o.stk,o.exf,o.bs,o.bsz,o.noex,o.exfs,o.funs,o.frf⟩
theorem qz.suite(I:qz X pins σ H s)(a:Value)(E:Value->Shared->Prop):qz (X.suite a E) pins σ H s:=⟨I.ok.suite a E,I.os,I.bare,I.base,I.loc,I.cell,I.free,I.freeC,I.pin,I.hok,I.len⟩
theorem qz.unsuite{σ0:St}{H0:Hp}{s0:Shared}(I0:qz X pins σ0 H0 s0)(I:qz (X.suite a E) pins σ H s):qz X pins σ H s:=⟨I0.ok,I.os,I.bare,I.base,I.loc,I.cell,I.free,I.freeC,I.pin,I.hok,I.len⟩
theorem qz.tried(I:qz X pins σ H s)(E:Value->Shared->Prop):qz (X.tried (X.pn++pins) E) [] σ H s:=⟨I.ok.tried _ E,I.os,I.bare,I.base,I.loc,I.cell,I.free,I.freeC,λp hp=>I.pin p (by simpa using hp),I.hok,I.len⟩
theorem qz.untried{pins':List (Addr×Obj)}{σ0:St}{H0:Hp}{s0:Shared}(I0:qz X pins σ0 H0 s0)(I:qz (X.tried (X.pn++pins) E) pins' σ H s):qz X pins σ H s:=⟨I0.ok,I.os,I.bare,I.base,I.loc,I.cell,I.free,I.freeC,λp hp=>I.pin p (zaK _ hp),I.hok,I.len⟩
theorem Xc{M:Model}{A:Around}{F:Value->Shared->Prop}{i:Nat}{x:Str}{pos:Pos}{Q:Unit->Shared->Prop}(I:qz X pins σ H s)(hN:X.N.Nodup)(hi:X.N[i]?=some x)(hk:X.env.scope.names.lookup x=some .local)
  (h:∀s',qz X pins (σ.set i none) H s'->Q () s'):wpAny M A (do bindName X.env x .none;unbindBehindTheSuite X.env x pos) Q F s:=by
 obtain⟨m,hn,hl⟩:=id I.loc
 have hcls:(X.env.scope.kind==.class || (X.env.scope.kind==.module&&X.env.locals != X.env.globals))=false:=by rw[I.ok.kind];rfl
 have hiσ:i < σ.length:=by rw[I.len];exact(tq.mp hi).1
 have cne:=I.cne
 have tracked:∀{a:Addr} {h':Heap},(∃o,s.heap.get? a=some o/\H a=none)->Heap.SameBut a s.heap h'->Zj X.prog X.w H h':=λ{a h'} ha hs b ob e=>by
  obtain⟨_,_,hfree⟩:=ha
  refine(I.hok b ob e).stay (λc w' hc q=>(hs.2 c ?_).trans q) (λ_ q=>q) λ_ _ q=>q
  rintro rfl
  rcases hc with rfl | hc
  ·rw[hfree]at e;cases e
  ·rw[hfree]at hc;cases hc
 refine wpAny_nameGoes_keeps hk hn hcls λh' v0 hn' hs=>?_
 obtain⟨oL,_,_,hoL,_⟩:=id hn
 refine h _ ⟨I.ok,I.os,I.bare,⟨λb o e n hb hx=>?_,λb o e n hb hx=>?_,I.base.free,λb o e hx=>?_,I.base.tups,I.base.frzs,I.base.tbls⟩,⟨_,hn',λj y v' e1 e2 e3=>?_⟩,λy c e=>?_,I.free,I.freeC,λp hp=>?_,tracked ⟨oL,hoL,I.free⟩ hs,by simpa using I.len⟩
 ·exact(hs.2 b (zac (tE (tN e) I.ok.above))).trans (I.base.keep b o e n hb hx)
 ·obtain⟨sl,e1⟩:=I.base.slot b o e n hb hx
  exact⟨sl,(hs.2 b (zac (tE (tN e) I.ok.above))).trans e1⟩
 ·obtain⟨o',e1⟩:=I.base.there b o e hx
  exact⟨o',(hs.2 b (zac (tE (tN e) I.ok.above))).trans e1⟩
 ·by_cases hj:j=i
  ·subst hj
   rw[zbW hiσ]at e2
   cases e2
  ·rw[zch (Ne.symm hj)]at e2
   obtain⟨u',r',q⟩:=hl j y v' e1 e2 e3
   refine⟨u',r',?_⟩
   rcases q with ⟨k,e⟩ | ⟨k,c,e,z⟩
   ·refine .inl ⟨k,?_⟩
    have:y≠x:=λe=>hj (XG hN e1 (e▸hi))
    simp [this,e]
   ·exact .inr ⟨k,c,e,z.sameBut hs (cne y c e)⟩
 ·obtain⟨w',z⟩:=I.cell y c e
  exact⟨w',z.sameBut hs (cne y c e)⟩
 ·obtain⟨e,n,ne,nf,d⟩:=I.pin p hp
  exact⟨(hs.2 p.1 ne).trans e,n,ne,nf,d⟩
end
abbrev TH:=Addr->Addr->Addr->TS
def PH(X:Cx)(hs:List ExceptHandler)(t:TH):Prop:=
 ∀(pins:List (Addr×Obj)) (s:Shared) (σ:St) (H:Hp) (D:JN) (a C dx T:Addr),qz X pins σ H s->H a=some (j6 a C dx (.ref T))->H T=some (X9 T .none)->t C a dx D σ H->
  wpAny (model X.prog X.w) X.A (handleBy (.ref a) X.env hs) (SP X pins D) X.xe s
def K9:TH:=λ_ _ _ _ _ _=>False
theorem xB{X:Cx}{hs:List ExceptHandler}:PH X hs K9:=λ_ _ _ _ _ _ _ _ _ _ _ _ h=>h.elim
def JN.gone(D:JN)(j:Nat):JN:={nx:=λσ H=>D.nx (σ.set j none) H,rt:=D.rt,bk:=λσ H=>D.bk (σ.set j none) H,ct:=λσ H=>D.ct (σ.set j none) H}
def ky(K:zdw)(Cl:Addr)(j:Nat)(ts:TS)(tr:TH):TH:=λC a dx D σ H=>∃f bm,Ci K C f bm/\
 if (Value.ref C::bm).contains (.ref Cl)=true then ts (D.gone j) (σ.set j (some (.ref a))) H else tr C a dx D σ H
def Mq(K:zdw)(C:Addr):Prop:=∃bm,(∃nm q N bs hdct sn sub ab col dd k0 k1 k2 k3 k5,K.lookup C=some (excClassObj nm q C N bs bm hdct sn sub ab col dd k0 k1 k2 k3 k5 "ValueError.__new__"))/\bm.contains (.type "BaseException")=true
theorem vY{X:Cx}{x n:Str}{p pos:Pos}{j:Nat}{b₀:Stmt}{suite:List Stmt}{rest:List ExceptHandler}{ts:TS}{tr:TH}{Cl:Addr}(hg:Gl X x)(hm:X.mg x=some (.ref Cl))(hD:Mq X.K Cl)(hN:X.N.Nodup)(hj:X.N[j]?=some n)
  (hl:X.env.scope.names.lookup n=some .local) (hs:∀v E,Ra (X.suite v E) (b₀::suite) ts) (hr:PH X rest tr) (hdb:(x==("__debug__":Str))=false:=by decide):PH X (.ExceptHandler (some (.Name x p)) (some n) (b₀::suite) pos::rest) (ky X.K Cl j ts tr):=by
 intro pins s σ H D a C dx T I ha hT h
 obtain⟨f,bm,em,h⟩:=h
 obtain⟨bm',em',hB⟩:=hD
 refine wpAny_handleBy_cons (codeAny_handlers_test ?_) (by intro q;cases q)
 refine wpAny_mono (k8 (X:=X.suite (.ref a) _) (v:=.ref Cl) hg hm rfl hdb pins s σ H (λv H'=>v=.ref Cl/\H'=H) (I.suite _ _) ⟨rfl,rfl⟩) (λc s₁ q=>?_) (λ_ _ z=>z)
 obtain⟨v,H',I1,rv,rfl,rfl⟩:=q
 obtain rfl:c=Value.ref Cl:=rv
 have I2:qz X pins σ H' s₁:=I.unsuite I1
 obtain⟨nm,q,N,bs,hdct,sn,sub,ab,col,dd,k0,k1,k2,k3,k5,hC⟩:=em.obj
 obtain⟨nm',q',N',bs',hdct',sn',sub',ab',col',dd',k0',k1',k2',k3',k5',hC'⟩:=em'
 obtain⟨⟨fl,he,hz⟩,_,_⟩:=(show qK X.prog X.w H' s₁.heap a (j6 a C dx (.ref T)) from I2.hok a _ ha)
 obtain⟨st,_,_⟩:=(show qK X.prog X.w H' s₁.heap T (X9 T .none) from I2.hok T _ hT)
 have gC:=I2.kIn _ _ hC
 have gD:=I2.kIn _ _ hC'
 obtain⟨hp,g,d,tk,os⟩:=s₁
 refine x9 (bC:=Value.ref C::bm) (bD:=Value.ref Cl::bm') he rfl gC gD (λT Q k=>wpAny_isSubtype_exc gC k) (λT Q k=>wpAny_isSubtype_exc gD k) (by rw[zcz,hB,Bool.or_true]) ?_
 cases hb:(Value.ref C::bm).contains (.ref Cl) with
 | false=>
  rw[hb,if_neg tS]at h
  exact hr pins _ σ H' D a C dx T I2 ha hT h
 | true=>
  rw[hb,if_pos rfl]at h
  refine(show codeAny _ _ _ _ _ from codeAny_handlers_suite_as ?_)
  refine J5 (fs:=YH X.stack) he hz st λh' F st'=>?_
  have I3:qz X pins σ H' {heap:=h',gens:=g,drawn:=d,toks:=tk,os:=os}:=I2.flown (H':=H') F ⟨λb hb'=>by cases zaf.mp hb';exact⟨_,hT⟩,λb o _ z=>z,λb _ z=>z⟩ (λb hb'=>by cases zaf.mp hb';obtain⟨ts',z,_⟩:=st';exact⟨_,z⟩) λb o z hb'=>by
   rcases hb' with hb' | hb'
   ·rw[z]at hb';cases hb'
   ·cases zaf.mp hb'
    rw[hT]at z
    cases z
    exact Z7 st'
  refine zw I3 hN hj (.inl hl) (v:=.ref a) rfl (λs' I4=>?_) (.inr hl)
  refine wpAny_mono (hs (.ref a) _ pins s' _ H' (D.gone j) (I4.suite _ _) h) (λfl s3 q=>?_) (λ_ _ z=>z)
  cases fl with
  | next=>
   obtain⟨σ3,H3,I5,q⟩:=q
   exact Xc (I.unsuite I5) hN hj hl λs4 I6=>⟨_,_,I6,q⟩
  | brk=>
   obtain⟨σ3,H3,I5,q⟩:=q
   exact Xc (I.unsuite I5) hN hj hl λs4 I6=>⟨_,_,I6,q⟩
  | cont=>
   obtain⟨σ3,H3,I5,q⟩:=q
   exact Xc (I.unsuite I5) hN hj hl λs4 I6=>⟨_,_,I6,q⟩
  | ret u=>
   obtain⟨v,σ3,H3,I5,r,q⟩:=q
   exact Xc (I.unsuite I5) hN hj hl λs4 I6=>⟨v,_,_,I6,r,q⟩
def CW(tb:(St->XK)->TS)(th:TH):TS:=λD σ H=>∃R:Addr->Addr->Hp->Prop,tb (λσ' c d Hx=>σ'=σ/\∃C dx,c=.ref C/\d=some dx/\R C dx Hx) D σ H/\
 ∀(a C dx T:Addr) (Hx H':Hp),R C dx Hx->Hx a=some (QX a C dx)->(∀b o,b≠a->Hx b=some o->H' b=some o)->H' a=some (j6 a C dx (.ref T))->th C a dx D σ H'
theorem Rp{X:Cx}{body:List Stmt}{h0:ExceptHandler}{hs:List ExceptHandler}{tb:(St->XK)->TS}{th:TH}{pos:Pos}(hst:X.stack=X.env::X.outer)(hfm:X.env.frame=some X.env.locals)
  (hb:∀(pn:List (Addr×Obj)) (W:Value->Shared->Prop) (E:St->XK),Q4 (jX X.prog X.w) (X.tried pn W) E->Ra (X.tried pn W) body (tb E)) (hh:PH X (h0::hs) th):PS X (.Try body (h0::hs) [] [] pos) (CW tb th):=by
 intro pins s σ H D I h
 obtain⟨R,hbd,hx⟩:=h
 refine wpAny_Try_except ?_
 refine wpAny_mono (hb (X.pn++pins) (λe s₁=>wpAny (model X.prog X.w) X.A (noteFrame e X.env) (λ_ s₂=>wpAny (model X.prog X.w) X.A (setFlight e none) (λ_ s₃=>wpAny (model X.prog X.w) X.A (handleBy e X.env (h0::hs)) (SP X pins D) X.xe s₃) X.xe s₂) X.xe s₁) _ ?_ [] s σ H D (I.tried _) hbd) (λf s1 q=>?_) (λ_ _ z=>z)
 ·intro pins' σ' H1 s1 e s' I1 hc
  obtain⟨a,C,dx,T,Hx,H2,rfl,os,bare,un,hok,ha,ht,hxT,hxa,hxs,rfl,C',dx',eC,eD,hR⟩:=hc
  cases eC
  cases eD
  have I2:qz X pins σ' H2 s':=I.untried (I1.call' os un hok bare λb z=>absurd z (by simp))
  obtain⟨⟨fl,he,hz⟩,_,_⟩:=(show qK X.prog X.w H2 s'.heap a (j6 a C dx (.ref T)) from I2.hok a _ ha)
  obtain⟨st0,_,_⟩:=(show qK X.prog X.w H2 s'.heap T (X9 T .none) from I2.hok T _ ht)
  have nT0:T≠a:=λz=>by
   obtain⟨ts,q,_⟩:=st0
   rw[z,he]at q
   cases q
  have fr:=I2.ok.frames
  have ff:=I2.stack
  rw[hst]at fr ff
  refine Vm fr ff hfm he hz st0 nT0 λh1 T' hT F tT q1 q2=>?_
  have lt:=(zaq.mp hz).1
  have g1:(fl.setIfInBounds 1 (Value.ref T'))[1]?=some (.ref T'):=by simp [lt]
  have nT:T'≠a:=λz=>by
   obtain⟨ts,q,_⟩:=q2
   rw[z,q1]at q
   cases q
  refine J5 (fs:=YH X.stack) q1 g1 q2 λh2 F2 stt=>?_
  have anf:∀b o,H2 b=some o->b∉YH X.stack:=λb o q z=>by
   have:=I2.stkFree b z
   rw[q]at this
   cases this
  have hTn:H2 T'=none:=I2.hok.fresh hT
  have nTT:T'≠T:=(qr ht hTn).symm
  have q3:=F2.keep a _ (anf a _ ha) (by simp [Ne.symm nT]) q1
  obtain⟨oT,hoT⟩:=tT
  have q4:=F2.keep T _ (anf T _ ht) (by simp [Ne.symm nTT]) hoT
  rw[<-hst]at F
  have I3:=I2.flown (H':=upd (upd (upd H2 a (j6 a C dx (.ref T'))) T (.ext λh=>∃o,h.get? T=some o)) T' (X9 T' .none)) (ke.then F F2 hT) ⟨λb hb=>by
    simp only[tJ,zai,or_false]at hb
    rcases hb with rfl | rfl
    ·exact⟨_,ha⟩
    ·exact⟨_,ht⟩,λb o hb q=>by
    simp only[tJ,zai,or_false,not_or]at hb
    rw[qi (qr q hTn),qi hb.2,qi hb.1];exact q,λb hb q=>by
    rw[qi (zac (tE hb hT)),qi (λz=>by rw[z,ht]at q;cases q),qi (λz=>by rw[z,ha]at q;cases q)];exact q⟩ (λb hb=>by
    simp only[tJ,zai,or_false]at hb
    rcases hb with rfl | rfl
    ·exact⟨_,q3⟩
    ·exact⟨_,q4⟩) λb o q hb=>by
   by_cases e1:b=T'
   ·subst e1
    rw[qe]at q
    cases q
    exact Z7 stt
   ·rw[qi e1]at q
    by_cases e2:b=T
    ·subst e2
     rw[qe]at q
     cases q
     exact⟨⟨_,q4⟩,⟨_,q4⟩,λh1 h2 ⟨u,z⟩ k=>⟨u,k u z⟩⟩
    ·rw[qi e2]at q
     by_cases e3:b=a
     ·subst e3
      rw[qe]at q
      cases q
      exact ZX ⟨_,q3,g1⟩
     ·rw[qi e3]at q
      rcases hb with hb | hb
      ·rw[q]at hb;cases hb
      ·simp only[tJ,zai,or_false]at hb
       exact(hb.elim e3 e2).elim
  have ea:upd (upd (upd H2 a (j6 a C dx (.ref T'))) T (.ext λh=>∃o,h.get? T=some o)) T' (X9 T' .none) a=some (j6 a C dx (.ref T')):=by rw[qi (Ne.symm nT),qi (Ne.symm nT0),qe]
  refine hh pins _ σ' _ D a C dx T' I3 ea qe (hx a C dx T' Hx _ hR hxa (λb o nb q=>?_) ea)
  have n1:b≠T:=λz=>by rw[z,hxT]at q;cases q
  have q':=hxs b o nb q
  rw[qi (qr q' hTn),qi n1,qi nb]
  exact q'
 ·cases f with
  | next=>
   obtain⟨σ',H',I',q⟩:=q
   exact wpAny_execs_nil ⟨σ',H',I.untried I',q⟩
  | brk=>
   obtain⟨σ',H',I',q⟩:=q
   exact⟨σ',H',I.untried I',q⟩
  | cont=>
   obtain⟨σ',H',I',q⟩:=q
   exact⟨σ',H',I.untried I',q⟩
  | ret u=>
   obtain⟨v,σ',H',I',r,q⟩:=q
   exact⟨v,σ',H',I.untried I',r,q⟩
@[irreducible] def JH (X:Cx) (hs:List ExceptHandler) (t:TH):Prop:=PH X hs t
theorem JH.of{X:Cx}{hs:List ExceptHandler}{t:TH}(h:PH X hs t):JH X hs t:=by unfold JH;exact h
theorem JH.to{X:Cx}{hs:List ExceptHandler}{t:TH}(h:JH X hs t):PH X hs t:=by unfold JH at h;exact h
theorem KJ{X:Cx}{hs:List ExceptHandler}:JH X hs K9:=.of xB
theorem KL{X:Cx}{x n:Str}{p pos:Pos}{j:Nat}{b₀:Stmt}{suite:List Stmt}{rest:List ExceptHandler}{ts:TS}{tr:TH}{Cl:Addr}(hg:Gl X x)(hm:X.mg x=some (.ref Cl))(hD:Mq X.K Cl)(hN:X.N.Nodup)(hj:X.N[j]?=some n)
  (hl:X.env.scope.names.lookup n=some .local) (hs:∀v E,VD (X.suite v E) (b₀::suite) ts) (hr:JH X rest tr) (hdb:(x==("__debug__":Str))=false:=by decide):JH X (.ExceptHandler (some (.Name x p)) (some n) (b₀::suite) pos::rest) (ky X.K Cl j ts tr):=
 .of (vY hg hm hD hN hj hl (λv E=>(hs v E).to) hr.to hdb)
theorem BE{X:Cx}{body:List Stmt}{h0:ExceptHandler}{hs:List ExceptHandler}{tb:(St->XK)->TS}{th:TH}{pos:Pos}(hst:X.stack=X.env::X.outer)(hfm:X.env.frame=some X.env.locals)
  (hb:∀(pn:List (Addr×Obj)) (W:Value->Shared->Prop) (E:St->XK),Q4 (jX X.prog X.w) (X.tried pn W) E->VD (X.tried pn W) body (tb E)) (hh:JH X (h0::hs) th):JS X (.Try body (h0::hs) [] [] pos) (CW tb th):=
 .of (Rp hst hfm (λpn W E h=>(hb pn W E h).to) hh.to)
def Co(K:zdw)(bm:List Value)(ta:TE)(f:Str):TE:=λσ H Q=>ta σ H λx H1=>∃a C dx hd fs v,x=.ref a/\H1 a=some (j6 a C dx hd)/\H1 dx=some (.xd fs)/\zU K C bm/\jW K C f/\fs.lookup f=some v/\Q v H1
def AL(K:zdw)(bm:List Value):List V->Hp->VK->Prop:=λxs H Q=>∃a C dx hd fs c b,xs=[.ref a,c]/\M7 c=true/\H a=some (j6 a C dx hd)/\H dx=some (.xd fs)/\zU K C bm/\tU K (.ref C) (N7 c)=some b/\Q (.bl b) H
section
variable{X:Cx}{f:Str}{e:Expr}{pos:Pos}{ta:TE}{bm:List Value}
theorem Y9(he:JE X e ta)(hb:attributeBase e f X.env (eval e X.env)=eval e X.env):JE X (.Attribute e f pos) (Co X.K bm ta f):=.of (by
 have he:=he.to
 intro pins s σ H Q I h
 refine yF hb (jm (he pins s σ H _ I h) λu s1 z=>?_)
 obtain⟨x,H1,I1,rx,a,C,dx,hd,fs,v,ex,ea,ed,c,n,l,q⟩:=z
 subst ex
 obtain rfl:u=Value.ref a:=rx
 exact xY I1 ea ed c n l λu' s2 I2 ru=>⟨v,H1,I2,ru,q⟩)
theorem QH(hn:zbh X.K (.builtin "object.__class__") "__get__"=some (some (.builtin "getset_descriptor.__get__")))(htk:zbB X.K (.builtin "object.__class__")=some true):Ji X (.builtin "isinstance") (AL X.K bm):=by
 intro pins s σ H xs us Q I r h
 obtain⟨a,C,dx,hd,fs,c,b,rfl,hc,ha,hdx,ec,ek,q⟩:=h
 obtain⟨u,w',rfl,ru,rw'⟩:=VO r
 have ew:w'=N7 c:=by
  cases c with
  | ty n=>exact rw'
  | ref z=>exact rw'
  | _=>cases hc
 subst ew
 cases ru
 exact KY I ha hdx ec hn htk ek λtk=>⟨.bl b,H,I.tok tk,rfl,q⟩
theorem qo.cx{P:Program}{w:World}{K:zdw}{mg:Str->Option Value}{base:Heap}{CX:zp}{k:Nat}{f:Addr}{fd:zdA}{ps:List Str}{sp:Sp}(F:qo P w K mg base qJ k f fd ps sp):qo P w K mg base CX k f fd ps sp:=
 ⟨F.len,λA outer s H args us vs Q E hr he hb hv hs=>codeAny_mono (F.run A outer s H args us vs Q E hr he hb hv hs) λr s' q=>by
  match r,q with
  | .ok (.ret u),q=>exact q
  | .ok .next,q=>exact q
  | .ok .brk,q=>exact q
  | .ok .cont,q=>exact q
  | .error e,q=>exact q.elim⟩
end
end L2
namespace PySem
open PySem.Spec
namespace F
end F
section
variable{prog:Program}{w:World}{A:Around}{R:Result->Shared->Prop}{I:Addr}{fp wr:List Addr}{n:Nat}{P:Nat->Value->Prop}{St:Nat->Heap->Prop}{κ:Type}[DecidableEq κ]{knd:KeyKind prog w κ}
end
section
variable{prog:Program}{w:World}{A:Around}{E:Value->Shared->Prop}{s:Shared}{κ:Type}[DecidableEq κ]{knd:KeyKind prog w κ}
end
end PySem
namespace L2
open PySem PySem.Spec PyProof.Rows
section
variable{X:Cx}{pins:List (Addr×Obj)}{σ:St}{H:Hp}{s:Shared}
end
open PySem PySem.Spec PySem.W PyProof.Rows
theorem Ku{α:Type}{l:List α}(nd:l.Nodup){i j:Nat}{hi:i < l.length}{hj:j < l.length}(e:l[i]=l[j]):i=j:=by
 have h:=zbL.mp nd
 rcases zaJ i j with c | c | c
 ·exact absurd e (h i j hi hj c)
 ·exact c
 ·exact absurd e.symm (h j i hj hi c)
section
variable{α β:Type}{lt:Nat->Nat->Bool}{n:Nat}
def evT(lt:Nat->Nat->Bool):KasT α->α
 | .ret a=>a
 | .ask i j k=>evT lt (k (lt i j))
end
def ltS(zs:List Str)(i j:Nat):Bool:=decide ((zs.getD i "").cps.toList < (zs.getD j "").cps.toList)
def srt(zs:List Str):List Nat:=if zs.length < 2 then zaD zs.length else (evT (ltS zs) (kas_sort zs.length)).toList
section
variable{P:Program}{w:World}{B:Around}{F:Value->Shared->Prop}{z:Shared}
end
section
variable{X:Cx}{o:Expr}{td:TE}{p1 p2 pos1 pos2 ap cp:Pos}
end
section
variable{X:Cx}
def MU(K:zdw):R2:=λx y H Q=>∃a b xs ys,x=.ref a/\y=.ref b/\SqL K H a xs/\SqL K H b ys/\xs.length+ys.length<=zdB/\∀l,H l=none->Q (.ref l) (upd H l (.lst (xs++ys)))
theorem Paired.app{α β:Type}{G:α->β->Prop}:∀{l m:List α} {l' m':List β},Paired G l l'->Paired G m m'->Paired G (l++m) (l'++m')
 | _,_,_,_,.nil,h=>h
 | _,_,_,_,.cons a r,h=>.cons a (Paired.app r h)
theorem QJ:ZZ X (binaryOp .Add) (MU X.K):=by
 intro pins s σ H x y v u Q I rx ry h
 obtain⟨a,b,xs,ys,rfl,rfl,ha,hb,hz,q⟩:=h
 cases rx
 cases ry
 obtain⟨its,rv,pl,_⟩:=I.list ha
 obtain⟨its2,rv2,pl2,_⟩:=I.list hb
 have l1:=rv.length
 have l2:=rv2.length
 obtain⟨⟨cls,dd,data,sl⟩,ho,hc,n,hd⟩:=id pl.isList
 obtain⟨⟨cls2,dd2,data2,sl2⟩,ho2,hc2,n2,hd2⟩:=id pl2.isList
 simp only at hc hd hc2 hd2
 subst hc hd hc2 hd2
 have e:its.toArray++its2.toArray=(its++its2).toArray:=by simp
 refine concat_meets ⟨_,ho,rfl⟩ ⟨_,ho2,rfl⟩ noFill_list_add seq_list_add PySem.F.slot_list_add PySem.F.entry_list_add (PySem.F.args_list_add_2 _ _) (list_addW a b its.toArray its2.toArray n n2 dd dd2 sl sl2 (by simp only[zah];omega)) ⟨ho,ho2,?_⟩
 rw[e]
 exact⟨.ref s.heap.objs.size,_,I.laid (t':=s.toks) (o:=.lst (xs++ys)) (λb u h=>tz _ h) (tu _) ⟨by rw[tR];exact hz,its++its2,_,Paired.app rv rv2,zae _ rfl⟩,rfl,q _ (I.hok.fresh (tu _))⟩
end
open PySem PySem.Spec PySem.W PyProof.Rows
section
variable{X:Cx}
end
open PySem PySem.Spec PySem.W PyProof.Rows
section
variable{P:Program}{w:World}{B:Around}{F:Value->Shared->Prop}{z:Shared}
end
section
variable{X:Cx}
end
open PySem PySem.Spec PySem.W PyProof.Rows
section
variable{prog:Program}{w:World}{A:Around}{R:Result->Shared->Prop}{I:Addr}{fp wr:List Addr}{G:Array GenState->Array GenState->Prop}{n:Nat}{P:Nat->Value->Prop}{St:Nat->Shared->Prop}
end
section
variable{prog:Program}{w:World}{A:Around}{E:Value->Shared->Prop}{s:Shared}
end
section
variable{X:Cx}{e:Expr}{te:TE}{p1 p2 pos1 pos2:Pos}
end
open PySem PyProof.Rows
theorem J9{α:Type}{K:zdw}{a D:Addr}{xs:List α}{enc:α->V}{out:α->Option V}{rest:St}{H:Hp}{tt:TT}{te:TE}{Q:Hp->Prop}(hD:H D=none)(ha:H a=some (.lst (xs.map enc)))(len:xs.length < zdB)
  (ht:∀x∈xs,∀G,Same H G->∀R:Bool->Hp->Prop,(∀G',Same G G'->R (out x).isSome G')->tt (some (enc x)::rest) G R)
  (he:∀x∈xs,∀v,out x=some v->∀G,Same H G->∀R:V->Hp->Prop,(∀G',Same G G'->R v G')->te (some (enc x)::rest) G R)
  (k:∀G,Same H G->G D=some (.lst (xs.filterMap out))->Q G):X7 (B0 K a) (j3 0) tt te D (none::rest) H Q:=by
 have sD:Same H (upd H D (.lst [])):=λb o h=>by
  rw[qi (λe=>by rw[e,hD]at h;cases h)]
  exact h
 refine Qe (K:=K) (a:=a) (xs:=xs.map enc) (λi σ' G=>(∃v0,σ'=v0::rest)/\Same H G/\G D=some (.lst ((xs.take i).filterMap out))) ⟨⟨none,rfl⟩,sD,qe⟩ (λi σ' G _ ⟨_,s,_⟩=>.of (s _ _ ha)) ?_ ?_
 ·rintro i y σ' G hy ⟨⟨v0,rfl⟩,s,hG⟩
  rw[tZ]at hy
  cases ex:xs[i]? with
  | none=>rw[ex]at hy;cases hy
  | some x=>
   rw[ex]at hy
   obtain rfl:=(tX.inj hy).symm
   have hx:x∈xs:=tV ex
   have et:(xs.take (i+1)).filterMap out=(xs.take i).filterMap out++(out x).toList:=by
    rw[tO,ex,zaz]
    cases c:out x<;>simp [c]
   show tt (some (enc x)::rest) G _
   refine ht x hx G s _ λG1 s1=>?_
   cases c:out x with
   | none=>
    show if false=true then _ else _
    rw[if_neg tS]
    refine⟨⟨_,rfl⟩,λb o h=>s1 _ _ (s _ _ h),?_⟩
    rw[et,c]
    simpa using s1 _ _ hG
   | some v=>
    show if true=true then _ else _
    rw[if_pos rfl]
    refine he x hx v c G1 (λb o h=>s1 _ _ (s _ _ h)) _ λG2 s2=>?_
    refine⟨_,s2 _ _ (s1 _ _ hG),?_,⟨_,rfl⟩,?_,?_⟩
    ·refine zax (zbt _ _) ?_
     rw[zag]
     omega
    ·intro b o h
     rw[qi (λe=>by rw[e,hD]at h;cases h)]
     exact s2 _ _ (s1 _ _ (s _ _ h))
    ·rw[et,c]
     exact qe
 ·rintro σ' G ⟨_,s,hG⟩
  rw[tj,tI (tu _)]at hG
  exact k G s hG
theorem Mc{n:Nat}{D:Addr}{out:Nat->Option V}{rest:St}{H:Hp}{tt:TT}{te:TE}{Q:Hp->Prop}(hD:H D=none)(len:n < zdB)
  (ht:∀x,x < n->∀G,Same H G->∀R:Bool->Hp->Prop,(∀G',Same G G'->R (out x).isSome G')->tt (some (.int (x:Int))::rest) G R)
  (he:∀x,x < n->∀v,out x=some v->∀G,Same H G->∀R:V->Hp->Prop,(∀G',Same G G'->R v G')->te (some (.int (x:Int))::rest) G R)
  (k:∀G,Same H G->G D=some (.lst ((zaD n).filterMap out))->Q G):X7 (Af 0 n) (j3 0) tt te D (none::rest) H Q:=by
 have sD:Same H (upd H D (.lst [])):=λb o h=>by
  rw[qi (λe=>by rw[e,hD]at h;cases h)]
  exact h
 refine WR (λi σ' G=>(∃v0,σ'=v0::rest)/\Same H G/\G D=some (.lst ((zaD i).filterMap out))) ⟨⟨none,rfl⟩,sD,qe⟩ ?_ ?_
 ·rintro i σ' G hi ⟨⟨v0,rfl⟩,s,hG⟩
  rw[Int.zero_add]
  have et:(zaD (i+1)).filterMap out=(zaD i).filterMap out++(out i).toList:=by
   rw[List.range_succ,zaz]
   cases c:out i<;>simp [c]
  show tt (some (.int (i:Int))::rest) G _
  refine ht i hi G s _ λG1 s1=>?_
  cases c:out i with
  | none=>
   show if false=true then _ else _
   rw[if_neg tS]
   refine⟨⟨_,rfl⟩,λb o h=>s1 _ _ (s _ _ h),?_⟩
   rw[et,c]
   simpa using s1 _ _ hG
  | some v=>
   show if true=true then _ else _
   rw[if_pos rfl]
   refine he i hi v c G1 (λb o h=>s1 _ _ (s _ _ h)) _ λG2 s2=>?_
   refine⟨_,s2 _ _ (s1 _ _ hG),?_,⟨_,rfl⟩,?_,?_⟩
   ·refine zax (zbt _ _) ?_
    rw[zbF]
    omega
   ·intro b o h
    rw[qi (λe=>by rw[e,hD]at h;cases h)]
    exact s2 _ _ (s1 _ _ (s _ _ h))
   ·rw[et,c]
    exact qe
 ·rintro σ' G ⟨_,s,hG⟩
  exact k G s hG
open PySem PyProof.Rows
section
variable{prog:Program}{w:World}{KK:Type}[DecidableEq KK]{kd:HeapKind prog w KK}{A:Around}{E:Value->Shared->Prop}{s:Shared}
end
section
variable{X:Cx}{pins:List (Addr×Obj)}{σ:St}{H:Hp}{s:Shared}{a b:Addr}{v:V}{r:Value}{A:Around}{E:Value->Shared->Prop}
end
section
variable{X:Cx}{o e f:Expr}{apos cpos:Pos}{td ty tx:TE}
end
open PySem PyProof.Rows
section
variable{X:Cx}
end
section
variable{X:Cx}{pins:List (Addr×Obj)}{σ:St}{H:Hp}{s:Shared}{tg:Expr}
end
section
variable{a:Addr}{o:Obj}{kvs:List (qG×V)}{zs:List Str}{g:TG}{σ:St}{H:Hp}
end
section
variable{P:Program}{w:World}{K:zdw}{mg:Str->Option Value}{base:Heap}
theorem jw.okX{CX:zp}{x qual:Str}{st:Stmt}{f:Addr}{fd:zdA}{N ps:List Str}{k:Nat}{sp:Sp}(F:jw K x qual st f fd)(S:qp N ps (qj st))(len:∀vs H Q E,sp vs H Q E->vs.length=ps.length)
  (hbody:∀(cdv:Value) (A:Around) (outer:List Env) (s:Shared) (H:Hp) (vs:List V) (Q:VK) (E:XK),qO k (A.deeper (envOfC qual (qj st) s.heap.objs.size f cdv))->sp vs H Q E->
   ∃t,VD (Qk CX P w K mg base N qual (qj st) f cdv A outer s H E) (jV st) t/\t {nx:=λ_ H'=>Q .non H',rt:=Q} (Ze N vs) H):qo P w K mg base CX (k+1) f fd ps sp:=by
 obtain⟨oc,od,kV,doc,pm,an,cdv,ct,osl,rfl,lk,hcd⟩:=F.ex
 refine Aa lk hcd S len λA outer s H vs Q E hr hsp=>?_
 obtain⟨t,h,q⟩:=hbody cdv A outer s H vs Q E hr hsp
 exact⟨t,h.to,q⟩
end
section
variable{X:Cx}{es:List Expr}{t:TA}{pos:Pos}
end
section
variable{X:Cx}
end
section
variable{X:Cx}{pins pins0:List (Addr×Obj)}{σ σ0:St}{H H0:Hp}{s s0:Shared}
end
section
variable{X:Cx}
end
open PySem PyProof.Rows
end L2
namespace HT
open PySem PySem.Spec PyProof.Rows
section
variable{prog:Program}{w:World}{A:Around}{E:Value->Shared->Prop}{s:Shared}
end
end HT
namespace L2
open PySem PySem.Spec PyProof.Rows
section
variable{X:Cx}
end
open PySem PyProof.Rows
section
variable{X:Cx}{CX:zp}{C:Addr->Sp->Prop}{E:St->XK}{x:Str}{p pos:Pos}{e:Expr}{es:List Expr}{t:TA}{i:Nat}
end
section
variable{M:Model}{A:Around}{F:Value->Shared->Prop}{s:Shared}{e:Addr}{cl:Value}{d:Option Addr}{vs:Array Value}{Q:Unit->Shared->Prop}
theorem vU{T:Addr}{fl:Value}{fs:List Addr}{fr:Option Addr}(he:s.heap.get? e=some {cls:=cl,dict:=d,data:=.fields vs})(h1:vs[1]?=some (.ref T))(st:GU T fl s.heap)
  (k:∀h',ke fs [T] s.heap h'->GU T (fr.elim .none λf=>rawInt f) h'->Q () {s with heap:=h'}):wpAny M A (setFlight (.ref e) fr) Q F s:=by
 obtain⟨ts,ht,h3⟩:=st
 have lt:=(zaq.mp h3).1
 unfold setFlight
 refine zdy (wpAny_field he rfl h1 ?_)
 rw[if_pos (show (Value.ref T != Value.none)=true from by simp)]
 refine wpAny_setField ht rfl lt (k _ ⟨λb o _ n q=>?_,λb o _ n q=>⟨o.slots,?_⟩⟩ ⟨_,zaZ _ ht rfl,by simp [lt]⟩)
 all_goals
  rw[zaE _ _ λz=>n (by simp [z])]
  exact q
end
section
variable{X:Cx}{pins:List (Addr×Obj)}{σ:St}{H:Hp}{s:Shared}{M:Model}{F:Value->Shared->Prop}{Q:Unit->Shared->Prop}{a C dx:Addr}
theorem N2(I:qz X pins σ H s)(hst:X.stack=X.env::X.outer)(hfm:X.env.frame=some X.env.locals)(ha:H a=some (QX a C dx))
  (k:∀T h',H T=none->T≠a->qz X pins σ (upd (upd H a (j6 a C dx (.ref T))) T (X9 T (rawInt X.env.locals))) {s with heap:=h'}->Q () {s with heap:=h'}):wpAny M X.A (noteFrame (.ref a) X.env) Q F s:=by
 obtain⟨⟨fl,he,hz⟩,_,_⟩:=(show qK X.prog X.w H s.heap a (j6 a C dx .none) from I.hok a _ ha)
 have fr:=I.ok.frames
 have ff:=I.stack
 rw[hst]at fr ff
 refine Uy fr ff hfm he hz λh1 T hT F1 q1 q2=>?_
 rw[<-hst]at F1
 have lt:=(zaq.mp hz).1
 have g1:(fl.setIfInBounds 1 (Value.ref T))[1]?=some (.ref T):=by simp [lt]
 have nT:T≠a:=λz=>by
  obtain⟨ts,q,_⟩:=q2
  rw[z,q1]at q
  cases q
 have hTn:H T=none:=I.hok.fresh hT
 refine k T h1 hTn nT (I.flown F1 ⟨λb hb=>by cases zaf.mp hb;exact⟨_,ha⟩,λb o hb q=>by
   rw[qi (qr q hTn),qi λz=>hb (by simp [z])];exact q,λb hb q=>by
   rw[qi (zac (tE hb hT)),qi λz=>by rw[z,ha]at q;cases q];exact q⟩ (λb hb=>by cases zaf.mp hb;exact⟨_,q1⟩) λb o q hb=>?_)
 by_cases e1:b=T
 ·subst e1
  rw[qe]at q
  cases q
  exact Z7 q2
 ·rw[qi e1]at q
  by_cases e2:b=a
  ·subst e2
   rw[qe]at q
   cases q
   exact ZX ⟨_,q1,g1⟩
  ·rw[qi e2]at q
   rcases hb with hb | hb
   ·rw[q]at hb;cases hb
   ·exact absurd (zaf.mp hb) e2
theorem BL{T:Addr}(I:qz X pins σ H s)(hst:X.stack=X.env::X.outer)(hfm:X.env.frame=some X.env.locals)(ha:H a=some (j6 a C dx (.ref T)))(ht:H T=some (X9 T .none))
  (k:∀T' h',H T'=none->T'≠a->qz X pins σ (upd (upd (upd H a (j6 a C dx (.ref T'))) T (.ext λh=>∃o,h.get? T=some o)) T' (X9 T' (rawInt X.env.locals))) {s with heap:=h'}->Q () {s with heap:=h'}):wpAny M X.A (noteFrame (.ref a) X.env) Q F s:=by
 obtain⟨⟨fl,he,hz⟩,_,_⟩:=(show qK X.prog X.w H s.heap a (j6 a C dx (.ref T)) from I.hok a _ ha)
 obtain⟨st0,_,_⟩:=(show qK X.prog X.w H s.heap T (X9 T .none) from I.hok T _ ht)
 have nT0:T≠a:=λz=>by
  obtain⟨ts,q,_⟩:=st0
  rw[z,he]at q
  cases q
 have fr:=I.ok.frames
 have ff:=I.stack
 rw[hst]at fr ff
 refine Vm fr ff hfm he hz st0 nT0 λh1 T' hT F1 tT q1 q2=>?_
 rw[<-hst]at F1
 have lt:=(zaq.mp hz).1
 have g1:(fl.setIfInBounds 1 (Value.ref T'))[1]?=some (.ref T'):=by simp [lt]
 have nT:T'≠a:=λz=>by
  obtain⟨ts,q,_⟩:=q2
  rw[z,q1]at q
  cases q
 have hTn:H T'=none:=I.hok.fresh hT
 obtain⟨oT,hoT⟩:=tT
 refine k T' h1 hTn nT (I.flown F1 ⟨λb hb=>by
   simp only[tJ,zai,or_false]at hb
   rcases hb with rfl | rfl
   ·exact⟨_,ha⟩
   ·exact⟨_,ht⟩,λb o hb q=>by
   simp only[tJ,zai,or_false,not_or]at hb
   rw[qi (qr q hTn),qi hb.2,qi hb.1];exact q,λb hb q=>by
   rw[qi (zac (tE hb hT)),qi (λz=>by rw[z,ht]at q;cases q),qi (λz=>by rw[z,ha]at q;cases q)];exact q⟩ (λb hb=>by
   simp only[tJ,zai,or_false]at hb
   rcases hb with rfl | rfl
   ·exact⟨_,q1⟩
   ·exact⟨_,hoT⟩) λb o q hb=>?_)
 by_cases e1:b=T'
 ·subst e1
  rw[qe]at q
  cases q
  exact Z7 q2
 ·rw[qi e1]at q
  by_cases e2:b=T
  ·subst e2
   rw[qe]at q
   cases q
   exact⟨⟨_,hoT⟩,⟨_,hoT⟩,λh1 h2 ⟨u,z⟩ k=>⟨u,k u z⟩⟩
  ·rw[qi e2]at q
   by_cases e3:b=a
   ·subst e3
    rw[qe]at q
    cases q
    exact ZX ⟨_,q1,g1⟩
   ·rw[qi e3]at q
    rcases hb with hb | hb
    ·rw[q]at hb;cases hb
    ·simp only[tJ,zai,or_false]at hb
     exact(hb.elim e3 e2).elim
theorem UP{T:Addr}(I:qz X pins σ H s)(hfm:X.env.frame=some X.env.locals)(ha:H a=some (j6 a C dx (.ref T)))(ht:H T=some (X9 T (rawInt X.env.locals)))(k:Q () s):wpAny M X.A (noteFrame (.ref a) X.env) Q F s:=by
 obtain⟨⟨fl,he,hz⟩,_,_⟩:=(show qK X.prog X.w H s.heap a (j6 a C dx (.ref T)) from I.hok a _ ha)
 obtain⟨st0,_,_⟩:=(show qK X.prog X.w H s.heap T (X9 T (rawInt X.env.locals)) from I.hok T _ ht)
 exact xA hfm he hz st0 k
theorem Vy{T:Addr}{fl:Value}{fr:Option Addr}(I:qz X pins σ H s)(ha:H a=some (j6 a C dx (.ref T)))(ht:H T=some (X9 T fl))
  (k:∀h',qz X pins σ (upd H T (X9 T (fr.elim .none λf=>rawInt f))) {s with heap:=h'}->Q () {s with heap:=h'}):wpAny M X.A (setFlight (.ref a) fr) Q F s:=by
 obtain⟨⟨fs,he,hz⟩,_,_⟩:=(show qK X.prog X.w H s.heap a (j6 a C dx (.ref T)) from I.hok a _ ha)
 obtain⟨st0,_,_⟩:=(show qK X.prog X.w H s.heap T (X9 T fl) from I.hok T _ ht)
 refine vU (fs:=YH X.stack) he hz st0 λh1 F1 st=>?_
 obtain⟨ts,q,z⟩:=id st
 refine k h1 (I.flown F1 ⟨λb hb=>by cases zaf.mp hb;exact⟨_,ht⟩,λb o hb q=>by rw[qi (λz=>hb (by simp [z]))];exact q,λb hb q=>by rw[qi (λz=>by rw[z,ht]at q;cases q)];exact q⟩ (λb hb=>by cases zaf.mp hb;exact⟨_,q⟩) λb o q hb=>?_)
 by_cases e1:b=T
 ·subst e1
  rw[qe]at q
  cases q
  exact Z7 st
 ·rw[qi e1]at q
  rcases hb with hb | hb
  ·rw[q]at hb;cases hb
  ·exact absurd (zaf.mp hb) e1
end
def yK(X:Cx)(pins:List (Addr×Obj))(E:XK):Value->Shared->Prop:=λe s=>
 (∃(a C dx:Addr) (H:Hp) (σ:St),e=.ref a/\qz X pins σ H s/\H a=some (QX a C dx)/\E (.ref C) (some dx) H)\/
 ∃(a C dx T:Addr) (fl:Value) (Hx H:Hp) (σ:St),e=.ref a/\qz X pins σ H s/\(fl=.none\/fl=rawInt X.env.locals)/\H a=some (j6 a C dx (.ref T))/\H T=some (X9 T fl)/\Hx T=none/\Hx a=some (QX a C dx)/\(∀b o,b≠a->Hx b=some o->H b=some o)/\E (.ref C) (some dx) Hx
theorem xR{X:Cx}{pins:List (Addr×Obj)}{E:XK}(hst:X.stack=X.env::X.outer)(hfm:X.env.frame=some X.env.locals):PassesOwn (model X.prog X.w) X.A X.env (yK X pins E):=by
 intro e s h
 have back:∀{a C dx T:Addr} {fl:Value} {H Hx:Hp} {σ:St} {s':Shared},qz X pins σ H s'->H a=some (j6 a C dx (.ref T))->H T=some (X9 T fl)->T≠a->Hx T=none->Hx a=some (QX a C dx)->(∀b o,b≠a->Hx b=some o->H b=some o)->E (.ref C) (some dx) Hx->cameBackBy (model X.prog X.w) X.A X.env (yK X pins E) (.ref a) s':=λ{a C dx T fl H Hx σ s'} I ha ht nT h1 h2 h3 hE=>by
  obtain⟨⟨fs,he,hz⟩,_,_⟩:=(show qK X.prog X.w H s'.heap a (j6 a C dx (.ref T)) from I.hok a _ ha)
  unfold cameBackBy
  refine zdy (wpAny_field he rfl hz ?_)
  rw[if_neg (show ¬((Value.ref T==Value.none)=true) by simp)]
  first
   | refine Vy I ha ht λh' I2=>?_
   | refine zdy (zdz (Vy I ha ht λh' I2=>?_))
  refine .inr ⟨a,C,dx,T,_,Hx,_,σ,rfl,I2,.inr (by rw[hfm];rfl),by rw[qi (Ne.symm nT)];exact ha,qe,h1,h2,λb o nb q=>?_,hE⟩
  rw[qi (λz=>by rw[z,h1]at q;cases q)]
  exact h3 b o nb q
 rcases h with ⟨a,C,dx,H,σ,rfl,I,ha,hE⟩ | ⟨a,C,dx,T,fl,Hx,H,σ,rfl,I,hfl,ha,ht,h1,h2,h3,hE⟩
 ·refine N2 I hst hfm ha λT h' hT nT I2=>?_
  exact back (Hx:=H) I2 (by rw[qi (Ne.symm nT)];exact qe) qe nT hT ha (λb o nb q=>by rw[qi (qr q hT),qi nb];exact q) hE
 ·have nT:T≠a:=λz=>by rw[z,h2]at h1;cases h1
  rcases hfl with rfl | rfl
  ·refine BL I hst hfm ha ht λT' h' hT nT' I2=>?_
   refine back (Hx:=Hx) I2 (by rw[qi (Ne.symm nT'),qi (Ne.symm nT)];exact qe) qe nT' ?_ h2 (λb o nb q=>?_) hE
   ·cases q:Hx T' with
    | none=>rfl
    | some o=>rw[h3 T' o nT' q]at hT;cases hT
   ·have n1:b≠T:=λz=>by rw[z,h1]at q;cases q
    have q':=h3 b o nb q
    rw[qi (qr q' hT),qi n1,qi nb]
    exact q'
  ·exact UP I hfm ha ht (back I ha ht nT h1 h2 h3 hE)
section
variable{P:Program}{w:World}{K:zdw}{mg:Str->Option Value}{base:Heap}{N:List Str}{qual:Str}{scope:Scope}{f:Addr}{cd:Value}{A:Around}{outer:List Env}{s₀:Shared}{H₀:Hp}{E:XK}
theorem xS{pins:List (Addr×Obj)}{e:Value}{s:Shared}(h:yK (Qk (jX P w) P w K mg base N qual scope f cd A outer s₀ H₀ E) pins E e s):(Qk (jX P w) P w K mg base N qual scope f cd A outer s₀ H₀ E).xe e s:=by
 rcases h with ⟨a,C,dx,H,σ,rfl,I,ha,hE⟩ | ⟨a,C,dx,T,fl,Hx,H,σ,rfl,I,hfl,ha,ht,h1,h2,h3,hE⟩
 ·exact Qh pins σ H s a C dx I ha hE
 ·rcases hfl with rfl | rfl
  ·exact qU pins σ H s _ s I ⟨a,C,dx,T,Hx,H,rfl,rfl,I.bare,Un.refl,I.hok,ha,ht,h1,h2,h3,hE⟩
  ·show wpAny _ _ (leaving _ _) _ _ s
   unfold leaving
   refine zdy (UP I rfl ha ht ?_)
   have nT:T≠a:=λz=>by rw[z,h2]at h1;cases h1
   refine Vy (fr:=none) I ha ht λh' I2=>?_
   refine⟨a,C,dx,T,Hx,_,rfl,I2.os,I2.bare,I2.base,I2.hok,by rw[qi (Ne.symm nT)];exact ha,qe,h1,h2,λb o nb q=>?_,hE⟩
   rw[qi (λz=>by rw[z,h1]at q;cases q)]
   exact h3 b o nb q
theorem Kz{st:Stmt}{t:TS} (h:∀(pn:List (Addr×Obj)) (W:Value->Shared->Prop),PassesOwn (model P w) (Qk (jX P w) P w K mg base N qual scope f cd A outer s₀ H₀ E).A (Qk (jX P w) P w K mg base N qual scope f cd A outer s₀ H₀ E).env W->
   jQ (jX P w) ((Qk (jX P w) P w K mg base N qual scope f cd A outer s₀ H₀ E).tried pn W) E->VC ((Qk (jX P w) P w K mg base N qual scope f cd A outer s₀ H₀ E).tried pn W) E->JS ((Qk (jX P w) P w K mg base N qual scope f cd A outer s₀ H₀ E).tried pn W) st t):
  PS (Qk (jX P w) P w K mg base N qual scope f cd A outer s₀ H₀ E) st t:=by
 intro pins s σ H D I hw
 refine wpAny_mono ((h _ (yK _ pins E) (xR rfl rfl) ?_ ?_).to [] s σ H D (I.tried _) hw) (λfl s1 q=>?_) (λe s1 z=>xS z)
 ·intro pins' σ' H1 s1 e s' I1 hc
  obtain⟨a,C,dx,T,Hx,H2,rfl,os,bare,un,hok,ha,ht,hxT,hxa,hxs,hE⟩:=hc
  have I2:=I.untried (I1.call' os un hok bare λb z=>absurd z (by simp))
  exact .inr ⟨a,C,dx,T,.none,Hx,H2,σ',rfl,I2,.inl rfl,ha,ht,hxT,hxa,hxs,hE⟩
 ·intro pins' σ' H1 s1 a C dx I1 ha hE
  exact .inl ⟨a,C,dx,H1,σ',rfl,I.untried I1,ha,hE⟩
 ·cases fl with
  | next=>obtain⟨σ',H',I',q⟩:=q;exact⟨σ',H',I.untried I',q⟩
  | brk=>obtain⟨σ',H',I',q⟩:=q;exact⟨σ',H',I.untried I',q⟩
  | cont=>obtain⟨σ',H',I',q⟩:=q;exact⟨σ',H',I.untried I',q⟩
  | ret u=>obtain⟨v,σ',H',I',r,q⟩:=q;exact⟨v,σ',H',I.untried I',r,q⟩
theorem J0{st:Stmt}{t:TS} (h:∀(pn:List (Addr×Obj)) (W:Value->Shared->Prop),PassesOwn (model P w) (Qk (jX P w) P w K mg base N qual scope f cd A outer s₀ H₀ E).A (Qk (jX P w) P w K mg base N qual scope f cd A outer s₀ H₀ E).env W->
  jQ (jX P w) ((Qk (jX P w) P w K mg base N qual scope f cd A outer s₀ H₀ E).tried pn W) E->VC ((Qk (jX P w) P w K mg base N qual scope f cd A outer s₀ H₀ E).tried pn W) E->JS ((Qk (jX P w) P w K mg base N qual scope f cd A outer s₀ H₀ E).tried pn W) st t):
 JS (Qk (jX P w) P w K mg base N qual scope f cd A outer s₀ H₀ E) st t:=.of (Kz h)
end
section
variable{X:Cx}
end
def DF:Obj:={cls:=.type "cell",data:=.cell none}
structure OwnC(n:Nat)(l:List (Str×NameKind))(cs cs':List (Str×Addr))(h h':Heap):Prop where
 kp:∀b o,h.get? b=some o->h'.get? b=some o
 same:∀x,(x,NameKind.cell)∉l->cs'.lookup x=cs.lookup x
 own:∀x,(x,NameKind.cell)∈l->∃c,cs'.lookup x=some c/\n<=c/\h'.get? c=some DF
 inj:∀x y c,(x,NameKind.cell)∈l->(y,NameKind.cell)∈l->cs'.lookup x=some c->cs'.lookup y=some c->x=y
structure Fu(X:Cx)(N':List Str)(ix:List (Option Nat))(scope:Scope):Prop where
 kind:scope.kind=.function
 nd:(scope.names.map (·.1)).Nodup
 frees:(scope.names.all λx=>x.2 != .free || (X.env.scope.names.lookup x.1==some .cell || X.env.scope.names.lookup x.1==some .free))=true
 ixs:NW N' X.N scope X.env.scope ix=true
section
variable{X:Cx}{N':List Str}{ix:List (Option Nat)}{scope:Scope}{pins:List (Addr×Obj)}{σ:St}{H:Hp}{s:Shared}
end
section
variable{X:Cx}{N':List Str}{ix:List (Option Nat)}{scope:Scope}
end
section
variable{X:Cx}{CX:zp}{k:Nat}{f C:Addr}{fd:zdA}{ps:List Str}{sp:Sp}{dvs:List V}{ds:List Value}{E:St->XK}{m:Str}{pos apos:Pos}{e o:Expr}{es:List Expr}{ta:TE}{t:TA}
theorem uW{pl:Sem Bool}(he:PE X o ta)(c:YV X.K C)(hm:YU X.K C m f)(F:qo X.prog X.w X.K X.mg X.base CX k f fd ps sp)(hr:qO k X.A)(hb:ji X.K fd ps ds)(hd:qR dvs ds)(hx:Q4 CX X E)(ha:PA X (e::es) t)
  (hst:starEach (e::es) X.env=(false,eval e X.env)::starEach es X.env:=by rfl) (hpl:(backTo pos (starEach es X.env)).any (·.1)=false:=by rfl)
  (ht:eval (.Call (.Attribute o m apos) (e::es) [] pos) X.env=(do
   let ov <-eval o X.env
   standAt apos.atName
   let (f,first) <-holding [ov] (getMethod ov m pl)
   callWith pos f first (backTo pos (starEach (e::es) X.env)) (backToKw pos (keywordEach [] X.env))):=by rfl):
  PE X (.Call (.Attribute o m apos) (e::es) [] pos) (wK C m sp dvs E ta t):=by
 intro pins s σ H Q I h
 refine zbp (pl:=pl) (jm (he pins s σ H _ I h) λu s1 ⟨x,H1,I1,rx,a,dx,fs,ex,ea,l,q⟩=>?_) ht
 subst ex
 obtain rfl:u=Value.ref a:=rx
 refine Qz I1 ea c hm l ?_
 refine zaS (first:=[.ref a]) (h₀:=X.base) I.ok.mod.kin hm.kp (jm (ha pos pins s1 σ H1 _ I1 q) λus s2 ⟨vs,H2,I2,r,q2⟩=>⟨I2.kIn,?_⟩) hst hpl
 exact RZ (us:=.ref a::us) (vs:=.ref a::vs) F hr hb hd hx I2 (.cons rfl r) q2
theorem KP{pl:Sem Bool}(he:JE X o ta)(c:YV X.K C)(hm:YU X.K C m f)(F:qo X.prog X.w X.K X.mg X.base CX k f fd ps sp)(hr:qO k X.A)(hb:ji X.K fd ps ds)(hd:qR dvs ds)(hx:Q4 CX X E)(ha:JA X (e::es) t)(hst:starEach (e::es) X.env=(false,eval e X.env)::starEach es X.env:=by rfl)(hpl:(backTo pos (starEach es X.env)).any (·.1)=false:=by rfl) (ht:eval (.Call (.Attribute o m apos) (e::es) [] pos) X.env=(do
 let ov <-eval o X.env
 standAt apos.atName
 let (f,first) <-holding [ov] (getMethod ov m pl)
 callWith pos f first (backTo pos (starEach (e::es) X.env)) (backToKw pos (keywordEach [] X.env))):=by rfl):JE X (.Call (.Attribute o m apos) (e::es) [] pos) (wK C m sp dvs E ta t):=.of (uW he.to c hm F hr hb hd hx ha.to hst hpl ht)
end
section
variable{X:Cx}
end
open PySem PySem.Spec PyProof.Rows PySem.W
section
variable{X:Cx}
end
section
variable{P:Program}{w:World}{K:zdw}{mg:Str->Option Value}{base:Heap}{CX:zp}{k:Nat}{f:Addr}{fd:zdA}{ps:List Str}{sp sp':Sp}
theorem qo.toX(F:qo P w K mg base qJ k f fd ps sp):qo P w K mg base CX k f fd ps sp:=
 ⟨F.len,λA outer s H args us vs Q E a b c d h=>codeAny_mono (F.run A outer s H args us vs Q E a b c d h) λz s' q=>by
  cases z with
  | error y=>exact(show False from q).elim
  | ok r=>
   cases r with
   | ret u=>exact q
   | _=>exact q⟩
theorem qo.either(F:qo P w K mg base CX k f fd ps sp)(G:qo P w K mg base CX k f fd ps sp'):qo P w K mg base CX k f fd ps (λvs H Q E=>sp vs H Q E\/sp' vs H Q E):=
 ⟨λvs H Q E h=>h.elim (F.len vs H Q E) (G.len vs H Q E),λA outer s H args us vs Q E a b c d h=>h.elim (F.run A outer s H args us vs Q E a b c d) (G.run A outer s H args us vs Q E a b c d)⟩
end
open PySem PySem.Spec PyProof.Rows PySem.W
section
variable{X:Cx}
end
section
variable{prog:Program}{w:World}{A:Around}{E:Value->Shared->Prop}{s:Shared}{it d:Addr}{es:Array DictEntry}{i ep:Nat}
end
def Ln:HO->Nat
 | .dK kvs=>kvs.length
 | .dT kvs=>kvs.length
 | _=>0
section
variable{X:Cx}{pins:List (Addr×Obj)}{σ:St}{H:Hp}{s:Shared}{tg:Expr}
end
section
variable{a:Addr}{o:Obj}{u:HO}{g:TG}{σ:St}{H:Hp}
end
open PySem PySem.Spec PyProof.Rows PySem.W
section
variable{X:Cx}
end
section
variable{prog:Program}{w:World}{KK:Type}[DecidableEq KK]{kd:HeapKind prog w KK}{A:Around}{E:Value->Shared->Prop}{s:Shared}
end
section
variable{X:Cx}
def R8(K:zdw)(bm:List Value):List V->Hp->VK->Prop:=λxs H Q=>∃(a p C dx:Addr) (hd:Value) (fs:List (Str×V)) (cs:List Addr) (b:Bool),xs=[.ref a,.ref p]/\H a=some (j6 a C dx hd)/\H dx=some (.xd fs)/\zU K C bm/\H p=some (.tup (cs.map V.ref))/\zbo K (.ref C) (cs.map Value.ref)=some b/\Q (.bl b) H
theorem YK{bm:List Value}(hn:zbh X.K (.builtin "object.__class__") "__get__"=some (some (.builtin "getset_descriptor.__get__")))(htk:zbB X.K (.builtin "object.__class__")=some true):Ji X (.builtin "isinstance") (R8 X.K bm):=by
 intro pins s σ H xs us Q I r h
 obtain⟨e,p,C,dx,hd,fs,cs,b,rfl,ha,hx,c,ep,ek,q⟩:=h
 obtain⟨u,w',rfl,ru,rw'⟩:=VO r
 cases ru
 cases rw'
 obtain⟨⟨fl,he,_⟩,_,_⟩:=(show qK X.prog X.w H s.heap e (j6 e C dx hd) from I.hok e _ ha)
 obtain⟨mA,hns,hr⟩:=(show qK X.prog X.w H s.heap dx (.xd fs) from I.hok dx _ hx)
 obtain⟨od,ho,hl⟩:=ZV hns
 obtain⟨its,rv,⟨o,e1,c1,n1,d1⟩,_⟩:=I.tuple (.of ep:SqT X.K H p _)
 obtain rfl:=Wf rv
 obtain⟨oc,odd,oda,osl⟩:=o
 cases c1
 cases d1
 exact PySem.W.kia_tup (UG (ox:={cls:=.ref C,dict:=some dx,data:=.fields fl}) (odd:=od) c hn htk) I.kIn ⟨he,rfl,rfl,ho⟩ e1 ek (λz=>nomatch z) λtk=>⟨.bl b,H,I.tok tk,rfl,q⟩
end
structure FnLd(P:Program)(w:World)(K:zdw)(mg:Str->Option Value)(base:Heap)(k:Nat)(f:Addr)(fd:zdA)(ps:List Str)(sp:Sp):Prop where
 len:∀vs H Q E,sp vs H Q E->vs.length=ps.length
 run:∀(A:Around) (a:Value) (outer:List Env) (s:Shared) (H:Hp) (args:Args) (us:List Value) (vs:List V) (Q:VK) (E:XK),qO k A->VG P w K mg base (A.mark (some a)) outer s H->BindsTo s fd args (ps.zip us)->qR vs us->sp vs H Q E->
  codeAny (model P w) (A.mark (some a)) (.call (.ref f) args) (CR qJ outer P w H s Q E) s
section
variable{P:Program}{w:World}{K:zdw}{mg:Str->Option Value}{base:Heap}
end
section
variable{X:Cx}{k:Nat}{f:Addr}{fd:zdA}{ps:List Str}{sp:Sp}{x:Str}{p pos:Pos}{e:Expr}{es:List Expr}{t:TA}{a:Value}{E:Value->Shared->Prop}
end
section
variable{X:Cx}
theorem Ww{P:Program}{w:World}:jQ (jX P w) X E0:=λ_ _ _ _ _ _ _ h=>by
 obtain⟨a,C,dx,T,Hx,H',_,_,_,_,_,_,_,_,_,_,z⟩:=h
 exact z.elim
end
section
variable{X:Cx}{CX:zp}{k:Nat}{f C:Addr}{fd:zdA}{ps:List Str}{sp:Sp}{dvs:List V}{ds:List Value}{E:St->XK}{x m:Str}{p pos apos:Pos}{e o:Expr}{es:List Expr}{ta:TE}{t:TA}
end
section
variable{X:Cx}
end
section
variable{X:Cx}{pins:List (Addr×Obj)}{σ:St}{H:Hp}{s:Shared}
end
section
variable{prog:Program}{w:World}{A:Around}{E:Value->Shared->Prop}{s:Shared}
end
section
variable{X:Cx}{pos:Pos}
end
section
variable{X:Cx}
end
section
variable{X:Cx}{N':List Str}{ix:List (Option Nat)}{scope:Scope}
end
abbrev B8(o:Obj):HO:=.frz o (.frz o (.own 0))
def B3(q:Str)(oc:Obj):Prop:=∃(vs:Array Value) (t:Tok),oc.data=.fields vs/\vs[1]?=some (.str q t)
structure GK(mg:Str->Option Value)(base:Heap)(c P:Addr):Prop where
 code:PySem.W.CodeHd base c P
 blt:base.BuiltinsAt mg P
section
variable{X:Cx}{pins:List (Addr×Obj)}{σ:St}{H:Hp}{s:Shared}
structure Made(X:Cx)(σ:St)(H H':Hp)(P:Addr)(name qual:Str)(params:Arguments)(body:List Stmt)(scope:Scope)(f c':Addr)(doc pm ctv:Value)(oc:Obj):Prop where
 same:Same H H'
 new:H f=none
 fn:H' f=some (B8 (PySem.W.fnMade name qual params body scope (jT X.env scope.names []) doc pm c' ctv))
 cd:H' c'=some (.frz oc (.own P))
 cq:B3 qual oc
 cells:∀x,(x,NameKind.free)∈scope.names->∃ca co v,(jT X.env scope.names []).lookup x=some ca/\H' ca=some (B8 co)/\co.data=.cell v/\∀(i:Nat) (y:V),X.N[i]?=some x->σ[i]?=some (some y)->∃u,v=some u/\qY y u
 inj:∀x y c,(jT X.env scope.names []).lookup x=some c->(jT X.env scope.names []).lookup y=some c->x=y
open Classical in
end
section
variable{P:Program}{w:World}{K:zdw}{mg:Str->Option Value}{base:Heap}{N:List Str}{qual:Str}{scope:Scope}{f:Addr}{cd:Value}{A:Around}{outer:List Env}{s₀:Shared}{H₀:Hp}{E:XK}
end
section
variable{P:Program}{w:World}{K:zdw}{mg:Str->Option Value}{base:Heap}
end
structure DR(N ps fr:List Str)(sc:Scope):Prop where
 kind:sc.kind=.function
 co:sc.isCoroutine=false
 gen:sc.isGenerator=false
 nd:N.Nodup
 pre:N.take (ps++fr).length=ps++fr
 par:∀x∈ps,sc.names.lookup x=some .local
 free:∀x∈fr,sc.names.lookup x=some .free
 frees:∀y∈sc.names,y.2=.free->y.1∈fr
 nocell:∀y∈sc.names,y.2≠.cell
structure Clo(H:Hp)(P f:Addr)(name qual:Str)(st:Stmt)(fd:zdA)(ws:List (Str×V)):Prop where
 ex:∃(doc pm ctv:Value) (c':Addr) (cl:List (Str×Addr)) (oc:Obj),fd=PySem.W.fnX name qual (QN st) (jV st) (qj st) cl .none .none doc pm none (.ref c') ctv/\H f=some (B8 {cls:=.type "function",data:=.func fd})/\H c'=some (.frz oc (.own P))/\B3 qual oc/\
  (∀x y c,cl.lookup x=some c->cl.lookup y=some c->x=y)/\(∀x c,cl.lookup x=some c->x∈ws.map (·.1))/\
  ∀x v,(x,v)∈ws->∃c o u,cl.lookup x=some c/\H c=some (B8 o)/\o.data=.cell (some u)/\qY v u
section
variable{P:Program}{w:World}{K:zdw}{mg:Str->Option Value}{base:Heap}
end
section
variable{X:Cx}{CX:zp}{C:Addr->zdA->Sp->Prop}{E:St->XK}{x:Str}{p pos:Pos}{e:Expr}{es:List Expr}{t:TA}{i:Nat}
end
structure U5 where
 x:Str
 c:Addr
 P:Addr
 q:Str
def Ja(tabs:List U5)(H:Hp):Hp:=λb=>match tabs.find? λq=>q.P==b with
 | some q=>some (.tbl #[.str q.q 0])
 | none=>H b
theorem zq{tabs:List U5}{H:Hp}{b:Addr}(h:∀q∈tabs,q.P≠b):Ja tabs H b=H b:=by
 unfold Ja
 cases e:tabs.find? λq=>q.P==b with
 | none=>rfl
 | some q=>exact absurd (beq_iff_eq.mp (List.find?_some (p:=λq:U5=>q.P==b) e)) (h q (zcF e))
theorem zY{tabs:List U5}{H:Hp}{b:Addr}{q:U5}(h:q∈tabs)(e:q.P=b):∃q'∈tabs,q'.P=b/\Ja tabs H b=some (.tbl #[.str q'.q 0]):=by
 unfold Ja
 cases e2:tabs.find? λq=>q.P==b with
 | none=>exact absurd (beq_iff_eq.mpr e) (by simpa using zdl.mp e2 q h)
 | some q'=>exact⟨q',zcF e2,beq_iff_eq.mp (List.find?_some (p:=λq:U5=>q.P==b) e2),rfl⟩
theorem Ru{tabs:List U5}{H:Hp}(nd:(tabs.map (·.P)).Nodup){q:U5}(h:q∈tabs):Ja tabs H q.P=some (.tbl #[.str q.q 0]):=by
 obtain⟨q',h',e,r⟩:=zY (H:=H) h rfl
 have:q'=q:=by
  have inj:∀{l:List U5},(l.map (·.P)).Nodup->∀{a b:U5},a∈l->b∈l->a.P=b.P->a=b:=by
   intro l
   induction l with
   | nil=>intro _ a b h;cases h
   | cons z l ih=>
    intro n a b ha hb e
    rw[tL,zaG]at n
    rcases tJ.mp ha with ea | ha
    ·rcases tJ.mp hb with eb | hb
     ·rw[ea,eb]
     ·exact absurd (tQ.mpr ⟨b,hb,by rw[<-e,ea]⟩) n.1
    ·rcases tJ.mp hb with eb | hb
     ·exact absurd (tQ.mpr ⟨a,ha,by rw[e,eb]⟩) n.1
     ·exact ih n.2 ha hb e
  exact inj nd h' h e
 rw[r,this]
theorem xJ{P:Program}{w:World}{K:zdw}{mg mb:Str->Option Value}{CX:zp}{k:Nat}{fa a:Addr}{fd:zdA}{x:Str}{sp:Sp}{s₁:Shared}{vs:List Value}{ns:List Int}{tabs:List U5}
  (KX:K.In s₁.heap) (hns:s₁.heap.Ns mainGlobals mg) (hb:s₁.heap.Ns builtinsNs mb) (hbb:∀x:Str,x≠"__name__"->mb x=bootBuiltins x) (hlim:s₁.heap.NoLimit) (hg:s₁.gens=#[])
  (ha:s₁.heap.get? a=some {cls:=.type "list",data:=.seq vs.toArray}) (hi:IntsAre vs ns) (hl:ns.length<=zdB) (hr:qO k callerA)
  (hT:∀q∈tabs,PySem.W.CodeHd s₁.heap q.c q.P/\s₁.heap.get? q.P=some (zcA #[])) (nd:(tabs.map (·.P)).Nodup) (hbl:∃bm o,mg "__builtins__"=some (.ref bm)/\bm≠builtinsNs/\bm≠mainGlobals/\s₁.heap.get? bm=some o/\o.cls=.type "module"/\o.dict=some builtinsNs/\o.data=.plain) (hnt:zde K=true)
  (F:∀base:Heap,K.In base->base.Ns mainGlobals mg->(∀q∈tabs,GK mg base q.c q.P)->qo P w K mg base CX k fa fd [x] sp) (hbind:∀(s:Shared) (u:Value),BindsTo s fd ⟨[u],[]⟩ [(x,u)])
  (hsp:∀H:Hp,SqL K H a (ns.map V.int)->(∀q∈tabs,H q.P=some (.tbl #[.str q.q 0]))->sp [.ref a] H (λv _=>v=.bl true) λ_ _ _=>False)
  (hCX:∀H e s',CX [] H s₁ (λ_ _ _=>False) e s'->False):
  codeAny (model P w) callerA (.call (.ref fa) ⟨[.ref a],[]⟩) (λr s'=>r=.ok (.ret (.bool true))/\OldK s₁.heap s'.heap/\s'.os=s₁.os/\AllBare s'.gens) s₁:=by
 have rv:=Wg hi
 have lenV:=hi.length
 have naP:∀q∈tabs,q.P≠a:=λq hq z=>by
  have:=(hT q hq).2
  rw[z,ha]at this
  cases this
 have core:∀H0:Hp,Fj H0->SqL K H0 a (ns.map V.int)->Zj P w H0 s₁.heap->(∀b,H0 b≠none->b=a)->(H0 a≠none->K.lookup a=none)->
   codeAny (model P w) callerA (.call (.ref fa) ⟨[.ref a],[]⟩) (λr s'=>r=.ok (.ret (.bool true))/\OldK s₁.heap s'.heap/\s'.os=s₁.os/\AllBare s'.gens) s₁:=by
  intro H0 hO hS0 hok0 hA hK
  have hS:SqL K (Ja tabs H0) a (ns.map V.int):=by
   have e:Ja tabs H0 a=H0 a:=zq naP
   rcases hS0 with (h | ⟨o,h⟩) | h
   ·exact .inl (.inl (e.trans h))
   ·exact .inl (.inr ⟨o,e.trans h⟩)
   ·exact .inr h
  have cases_:∀b,Ja tabs H0 b≠none->b=a\/∃q∈tabs,q.P=b:=λb z=>by
   rcases Classical.em (∃q∈tabs,q.P=b) with h | h
   ·exact .inr h
   ·rw[zq λq hq e=>h ⟨q,hq,e⟩]at z
    exact .inl (hA b z)
  have hok:Zj P w (Ja tabs H0) s₁.heap:=λb u e=>by
   rcases Classical.em (∃q∈tabs,q.P=b) with ⟨q,hq,eq⟩ | h
   ·obtain⟨q',hq',e',r⟩:=zY (H:=H0) hq eq
    rw[r]at e
    cases e
    exact⟨#[],by rw[<-e'];exact(hT q' hq').2,True.intro,λpos cv z=>nomatch z⟩
   ·rw[zq λq hq e=>h ⟨q,hq,e⟩]at e
    have hb':b=a:=hA b (by rw[e];exact λz=>nomatch z)
    rcases hO b with z | ⟨o,xs,z⟩
    ·rw[z]at e;cases e
    ·rw[z]at e
     cases e
     obtain⟨h1,h2,its,n,h3,h4⟩:=(show qK P w H0 s₁.heap b (.frz o (.lst xs)) from hok0 b _ z)
     exact⟨h1,h2,its,n,h3,h4⟩
  have noT:∀{b:Addr} {o:Obj},s₁.heap.get? b=some o->o≠zcA #[]->o≠{cls:=.type "list",data:=.seq vs.toArray}->Ja tabs H0 b=none:=λ{b o} e n1 n2=>by
   cases q:Ja tabs H0 b with
   | none=>rfl
   | some u=>
    rcases cases_ b (by rw[q];exact λz=>nomatch z) with z | ⟨t,ht,z⟩
    ·rw[z,ha]at e
     exact absurd (tX.inj e).symm n2
    ·have:=(hT t ht).2
     rw[z,e]at this
     exact absurd (tX.inj this) n1
  have base_of:∀{b:Addr} {o:Obj},s₁.heap.get? b=some o->Ja tabs H0 b=none->(Wc s₁.heap (Ja tabs H0)).get? b=some o:=λe n=>K7 e n
  have nsK:∀{b:Addr} {m:Str->Option Value},s₁.heap.Ns b m->(Wc s₁.heap (Ja tabs H0)).Ns b m:=λ{b m} ⟨o,es,ep,e,d,r⟩=>⟨o,es,ep,base_of e (noT e (λz=>by rw[z]at d;cases d) (λz=>by rw[z]at d;cases d)),d,r⟩
  have hKb:K.In (Wc s₁.heap (Ja tabs H0)):=λb o e=>base_of (KX b o e) (by
   cases q:Ja tabs H0 b with
   | none=>rfl
   | some u=>
    rcases cases_ b (by rw[q];exact λz=>nomatch z) with z | ⟨t,ht,z⟩
    ·have e1:Ja tabs H0 a=H0 a:=zq naP
     rw[z,e1]at q
     rw[z,hK (by rw[q];exact λz=>nomatch z)]at e
     cases e
    ·have:=(hT t ht).2
     rw[z,KX b o e]at this
     have h2:=zak.mp hnt (b,o) (PySem.W.mem_of_lookupK e)
     rw[tX.inj this]at h2
     exact absurd (show false=true from h2) tS)
  have hM:Mod K mg (Wc s₁.heap (Ja tabs H0)):=⟨hKb,nsK hns,⟨mb,nsK hb,hbb⟩,let ⟨mc,h1,h2⟩:=hlim;⟨mc,nsK h1,h2⟩⟩
  have hTM:∀q∈tabs,GK mg (Wc s₁.heap (Ja tabs H0)) q.c q.P:=λq hq=>by
   refine⟨?_,?_⟩
   ·obtain⟨o,vs',file,tf,flags,tg,inF,text,tt,e1,e2,r⟩:=(hT q hq).1
    exact⟨o,vs',file,tf,flags,tg,inF,text,tt,base_of e1 (noT e1 (λz=>by rw[z]at e2;cases e2) (λz=>by rw[z]at e2;exact absurd (show Value.type "list"=Value.type "code" from e2) (by decide))),e2,r⟩
   ·obtain⟨bm,o,b1,b2,b3,b4,b5,b6,b7⟩:=hbl
    refine⟨bm,o,b1,b2,b3,λz=>?_,base_of b4 (noT b4 (λz=>by rw[z]at b5;cases b5) (λz=>by rw[z]at b5;exact absurd (show Value.type "list"=Value.type "module" from b5) (by decide))),b5,b6,b7⟩
    have:=(hT q hq).2
    rw[<-z,b4]at this
    cases this
    cases b5
  have e0:VG P w K mg (Wc s₁.heap (Ja tabs H0)) callerA [] s₁ (Ja tabs H0):=⟨rfl,hM,λb o e=>NK e,zcT (xU _ _),trivial,λb hb=>absurd (show b∈([]:List Addr) from hb) (by simp),hok,.of_eq hg⟩
  refine codeAny_mono ((F _ hKb (nsK hns) hTM).run callerA [] s₁ (Ja tabs H0) ⟨[.ref a],[]⟩ [.ref a] [.ref a] _ _ hr e0 (hbind s₁ (.ref a)) (.cons rfl .nil) (hsp _ hS λq hq=>Ru nd hq)) λr s' h=>?_
  cases r with
  | error e=>exact(hCX _ e s' h).elim
  | ok fl=>
   cases fl with
   | next=>exact False.elim h
   | brk=>exact False.elim h
   | cont=>exact False.elim h
   | ret u=>
    obtain⟨v,H',os,bare,un,hok',r',q⟩:=h
    have q':v=.bl true:=q
    subst q'
    obtain rfl:u=Value.bool true:=r'
    have all:∀b o,s₁.heap.get? b=some o->s'.heap.get? b=some o\/∃t∈tabs,t.P=b/\∃ts,s'.heap.get? b=some (zcA ts):=λb o e=>by
     rcases Classical.em (∃q∈tabs,q.P=b) with ⟨t,ht,et⟩ | h
     ·obtain⟨t',ht',e',r⟩:=zY (H:=H0) ht et
      obtain⟨m,z⟩:=un.tbls b _ r
      obtain⟨ts,z2,_⟩:=(show qK P w H' s'.heap b (.tbl _) from hok' b _ z)
      exact .inr ⟨t,ht,et,ts,z2⟩
     ·have e1:Ja tabs H0 b=H0 b:=zq λq hq e=>h ⟨q,hq,e⟩
      cases q:H0 b with
      | none=>exact .inl (un.keep b o e (e1.trans q) (by intro z;exact absurd (show b∈([]:List Addr) from z) (by simp)) (by simp))
      | some u=>
       rcases hO b with z | ⟨ob,xs,z⟩
       ·rw[q]at z;cases z
       ·have z2:=un.frzs b ob _ (e1.trans z)
        obtain⟨h1,_⟩:=hok0 b _ z
        obtain⟨h2,_⟩:=hok' b _ z2
        rw[e]at h1;cases h1
        exact .inl h2
    refine⟨rfl,⟨λb o e=>?_,λb o e=>?_⟩,os,bare⟩
    ·rcases all b o e with z | ⟨t,ht,et,ts,z⟩
     ·exact .inl z
     ·have e2:=(hT t ht).2
      rw[et,e]at e2
      cases e2
      subst et
      exact .inr (.inl ⟨((hT t ht).1.tab (hT t ht).2).isCodeTable,rfl,#[],ts,rfl,by rw[Array.empty_append];exact z⟩)
    ·rcases all b o e with z | ⟨t,ht,et,ts,z⟩
     ·exact⟨_,z⟩
     ·exact⟨_,z⟩
 cases hk:K.lookup a with
 | some o=>
  have e:=KX a o hk
  rw[ha]at e
  cases e
  refine core (λ_=>none) (λ_=>.inl rfl) (.inr ⟨_,vs.toArray,_,hk,rfl,rfl,rfl,by rw[zah,lenV];exact hl,by simpa using rv⟩) (λb u z=>by have z':(none:Option HO)=some u:=z;cases z') (λb z=>absurd rfl z) λz=>absurd rfl z
 | none=>
  refine core (λb=>if b=a then some (.frz {cls:=.type "list",data:=.seq vs.toArray} (.lst (ns.map V.int))) else none) (λb=>?_) (.inl (.inr ⟨{cls:=.type "list",data:=.seq vs.toArray},if_pos rfl⟩)) (λb u z=>?_) (λb z=>?_) λ_=>hk
  ·by_cases hb:b=a
   ·exact .inr ⟨_,_,if_pos hb⟩
   ·exact .inl (if_neg hb)
  ·by_cases hb:b=a
   ·have z':=(if_pos hb).symm.trans z
    cases z'
    subst hb
    exact⟨ha,by rw[tj];exact hl,vs,_,rv,ha⟩
   ·have z':=(if_neg hb).symm.trans z
    cases z'
  ·by_cases hb:b=a
   ·exact hb
   ·exact absurd (if_neg hb) z
theorem walk_ofT{l:PySem.W.OpenLaw}{n k:Nat}{q:Program}{loose:List Str}{XP:(Str->Option Value)->Heap->Prop}{YP:World->Heap->Prop}{d:DefRec}{K:Params->zdw}{sp:zdw->List U5->Sp}{x:Str}{ts:List Addr}
  (hn:l.most=some n) (hn2:n<=zdB) (hdf:d.params.defaults=[]) (hr:qO k callerA)
  (hY:∀(w:World) (h:Heap),YP w h->(K w.params).In h) (hTs:∀(w:World) (h:Heap),YP w h->∀P∈ts,h.get? P=some (zcA #[])) (hnt:∀w:World,zde (K w.params)=true)
  (F:∀(w:World) (mg:Str->Option Value) (fa:Addr) (h:Heap),(K w.params).In h->h.Ns mainGlobals mg->mg d.name=some (.ref fa)->
   ∃(tabs:List U5) (fd:zdA),(tabs.map (·.P)).Nodup/\(∀t∈tabs,t.P∈ts/\zcO (K w.params) t.c t.P=true)/\(∀(s:Shared) (u:Value),BindsTo s fd ⟨[u],[]⟩ [(x,u)])/\
    ∀base:Heap,(K w.params).In base->base.Ns mainGlobals mg->(∀t∈tabs,GK mg base t.c t.P)->qo l.prog w (K w.params) mg base qJ k fa fd [x] (sp (K w.params) tabs))
  (hsp:∀(K:zdw) (tabs:List U5) (H:Hp) (a:Addr) (ns:List Int),ns.length<=n->SqL K H a (ns.map V.int)->(∀q∈tabs,H q.P=some (.tbl #[.str q.q 0]))->sp K tabs [.ref a] H (λv _=>v=.bl true) λ_ _ _=>False):
  PySem.W.WalkO q loose XP YP l.row.toRowW d [] (λf vs=>PySem.call f vs):=by
 refine Att.attach_call hn hdf λw s₀ s₁ mg mb fa o pm cd doc a vs ns G Y ho hd hcd hmg hobj hints hlen hg=>?_
 have KX:=hY w _ Y
 obtain⟨tabs,fd,nd,ht,hb,hF⟩:=F w mg fa _ KX G.T.g hmg
 refine xJ KX G.T.g G.T.b G.T.builtins G.T.nolimit hg hobj hints (tM hlen hn2) hr (tabs:=tabs) (λt hm=>⟨PySem.W.codeHd_of_K KX (ht t hm).2,hTs w _ Y _ (ht t hm).1⟩) nd ?_ (hnt w) hF hb (λH hS hP=>hsp _ _ H a ns hlen hS hP) λH e s' z=>z
 obtain⟨bm,ob,a1,a2,a3,a4,a5,a6⟩:=G.T.bmain
 refine⟨bm,ob,a1,a2,λz=>?_,a3,a4,a5,a6⟩
 obtain⟨o',es,ep,e,hd',_⟩:=G.T.g
 rw[z,e]at a3
 cases a3
 rw[hd']at a6
 cases a6
mutual
inductive DG(H:Hp):V->PyData->Prop
 | non:DG H .non .none
 | bl (b:Bool):DG H (.bl b) (.bool b)
 | int (i:Int):DG H (.int i) (.int i)
 | str (x:Str):DG H (.str x) (.str x)
 | lst {a:Addr} {xs:List V} {ds:List PyData}:H a=some (.lst xs)->a≠sysModules->DGs H xs ds->DG H (.ref a) (.list ds)
 | tup {a:Addr} {xs:List V} {ds:List PyData}:H a=some (.tup xs)->DGs H xs ds->DG H (.ref a) (.tuple ds)
 | dct0 {a:Addr}:H a=some (.dK [])->DG H (.ref a) (.dict [])
 | dct1 {a:Addr} {z:Str} {i:Int}:H a=some (.dK [(Sum.inr z,.int i)])->DG H (.ref a) (.dict [(.str z,.int i)])
inductive DGs(H:Hp):List V->List PyData->Prop
 | nil:DGs H [] []
 | cons {x:V} {xs:List V} {d:PyData} {ds:List PyData}:DG H x d->DGs H xs ds->DGs H (x::xs) (d::ds)
end
section
variable{X:Cx}{pins:List (Addr×Obj)}{σ:St}{H:Hp}{s:Shared}
end
section
variable{X:Cx}
end
structure CloE(H:Hp)(P f:Addr)(qual:Str)(ag:Arguments)(be:Expr)(sc:Scope)(fd:zdA)(ws:List (Str×V)):Prop where
 ex:∃(pm ctv:Value) (c':Addr) (cl:List (Str×Addr)) (oc:Obj),fd=PySem.W.kla_fn "<lambda>" qual ag be sc cl pm (.ref c') ctv/\H f=some (B8 {cls:=.type "function",data:=.func fd})/\H c'=some (.frz oc (.own P))/\B3 qual oc/\
  (∀x y c,cl.lookup x=some c->cl.lookup y=some c->x=y)/\(∀x c,cl.lookup x=some c->x∈ws.map (·.1))/\
  ∀x v,(x,v)∈ws->∃c o u,cl.lookup x=some c/\H c=some (B8 o)/\o.data=.cell (some u)/\qY v u
section
variable{P:Program}{w:World}{K:zdw}{mg:Str->Option Value}{base:Heap}
end
section
variable{X:Cx}{c P:Addr}{qual:Str}{ag:Arguments}{be:Expr}{sc:Scope}{pos:Pos}
end
section
variable{P:Program}{w:World}{K:zdw}{mg:Str->Option Value}{base:Heap}{N:List Str}{qual:Str}{scope:Scope}{f:Addr}{cd:Value}{cl:List (Str×Addr)}{A:Around}{outer:List Env}{s₀:Shared}{H₀:Hp}{E:XK}
end
section
variable{P:Program}{w:World}{K:zdw}{mg:Str->Option Value}{base:Heap}
end
open PySem PySem.Spec PySem.Builtin PySem.Builtin.Str PyProof.Rows
section
variable{X:Cx}
def C2:List V->Hp->VK->Prop:=λxs H Q=>∃n:Int,xs=[.int n]/\-10^100 < n/\n < 10^100/\Q (.str (toString n)) H
theorem WO:Ji X (.type "str") C2:=by
 intro pins s σ H xs us Q I r h
 obtain⟨n,rfl,h1,h2,q⟩:=h
 obtain⟨u,rfl,ru⟩:=Zn r
 obtain⟨t,rfl⟩:=ru
 exact P.str_of_int (shown (N:=10^100) h1 h2 (by decide+kernel)) ⟨.str _,H,I.tok _,⟨_,rfl⟩,q⟩
theorem We:∀(l:List (Str×Tok)),qR ((l.map (·.1)).map V.str) (strValues l)
 | []=>.nil
 | p::r=>.cons ⟨p.2,rfl⟩ (We r)
def AJ:V->List V->Hp->VK->Prop:=λx xs H Q=>∃z y:Str,x=.str z/\xs=[.str y]/\(y.length==0)=false/\z.length<=1000/\∀l,H l=none->Q (.ref l) (upd H l (.lst ((Txt.split z y).map V.str)))
theorem Je:Cf X "str.split" AJ:=by
 intro pins s σ H x xs v us Q I rx rs h
 obtain⟨x,y,rfl,rfl,hy,hz,q⟩:=h
 obtain⟨t,rfl⟩:=rx
 obtain⟨w',rfl,rw'⟩:=Zn rs
 obtain⟨u,rfl⟩:=rw'
 have hz':x.length+2<=zdB:=by exact tM (zci hz 2) (by decide+kernel)
 have fin:∀(l:List (Str×Tok)) (k:Tok),l.map (·.1)=Txt.split x y->EP X pins σ Q (.ref s.heap.objs.size) {s with heap:=s.heap.push {cls:=.type "list",data:=.seq (strValues l).toArray},toks:=k}:=λl k e=>by
  refine⟨.ref s.heap.objs.size,_,I.laid (t':=k) (o:=.lst ((Txt.split x y).map V.str)) (λb o e=>tz _ e) (tu _) ?_,rfl,q _ (I.hok.fresh (tu _))⟩
  refine⟨?_,strValues l,0,?_,zae _ rfl⟩
  ·rw[tj]
   have:=split_le x y
   omega
  ·rw[<-e]
   exact We l
 have hn:(partsBetween x (occurrences x y 0 x.length (x.length+1)) y.length).length<=zdB:=by
  have e1:=StrLaws.occ_length_le x y 0 x.length (x.length+1)
  rw[length_partsBetween];omega
 cases h1:(decide (x.length < y.length) || decide (strKind x < strKind y))
 ·cases hf:(occurrences x y 0 x.length (x.length+1)).isEmpty
  ·refine call_meets F.slot_str_split (typeIs_str _ _ _) F.entry_str_split (F.args_str_split_2 _ _) (meets_str_split_sep x y t u h1 hy hf (by omega) hn) ?_
   show wants _ _ _ {s with toks:=_,heap:=s.heap.push {cls:=.type "list",data:=.seq (strsFrom s.toks (partsBetween x (occurrences x y 0 x.length (x.length+1)) y.length)).toArray}}
   rw[strsFrom_eq]
   exact fin (numbered s.toks _) _ ((numbered_texts _ _).trans ((if_neg (ne_true_of_eq_false h1)).trans (if_neg (ne_true_of_eq_false hf))).symm)
  ·exact call_meets F.slot_str_split (typeIs_str _ _ _) F.entry_str_split (F.args_str_split_2 _ _) (meets_str_split_not_found x y t u h1 hy hf)
    (fin [(x,t)] s.toks ((if_neg (ne_true_of_eq_false h1)).trans (if_pos hf)).symm)
 ·exact call_meets F.slot_str_split (typeIs_str _ _ _) F.entry_str_split (F.args_str_split_2 _ _) (meets_str_split_cannot_occur x y t u h1)
   (fin [(x,t)] s.toks (if_pos h1).symm)
end
theorem zu{a b:Str}(h:a.cps.toList=b.cps.toList):a=b:=Str.ext' (Array.toList_inj.mp h)
theorem Mb{c:Nat}:∀{a b r s:List Nat},c∉a->c∉b->a++c::r=b++c::s->a=b/\r=s:=by
 intro a
 induction a with
 | nil=>
  intro b r s _ hb e
  cases b with
  | nil=>exact⟨rfl,(zbv.inj e).2⟩
  | cons y b=>exact absurd (by rw[(zbv.inj e).1];exact tK) hb
 | cons x a ih=>
  intro b r s ha hb e
  cases b with
  | nil=>exact absurd (by rw[<-(zbv.inj e).1];exact tK) ha
  | cons y b=>
   obtain⟨e1,e2⟩:=zbv.inj e
   obtain⟨h1,h2⟩:=ih (λz=>ha (tF _ z)) (λz=>hb (tF _ z)) e2
   exact⟨by rw[e1,h1],h2⟩
theorem KG{c:Nat}:∀{xs ys:List Str},xs≠[]->ys≠[]->(∀x∈xs,c∉x.cps.toList)->(∀x∈ys,c∉x.cps.toList)->Str.join ⟨#[c]⟩ xs=Str.join ⟨#[c]⟩ ys->xs=ys:=by
 have cps:∀(x y:Str) (l:List Str),(Str.join ⟨#[c]⟩ (x::y::l)).cps.toList=x.cps.toList++c::(Str.join ⟨#[c]⟩ (y::l)).cps.toList:=λx y l=>by
  show ((x++⟨#[c]⟩)++Str.join ⟨#[c]⟩ (y::l)).cps.toList=_
  show ((x.cps++#[c])++(Str.join ⟨#[c]⟩ (y::l)).cps).toList=_
  simp
 intro xs
 induction xs with
 | nil=>intro ys h;exact absurd rfl h
 | cons x l ih=>
  intro ys _ hy fx fy e
  cases ys with
  | nil=>exact absurd rfl hy
  | cons y m=>
   cases l with
   | nil=>
    cases m with
    | nil=>rw[show x=y from e]
    | cons y2 m=>
     have:=congrArg (λs:Str=>s.cps.toList) e
     rw[cps y y2 m]at this
     exact absurd (show c∈x.cps.toList from by rw[show x.cps.toList=_ from this];simp) (fx x tK)
   | cons x2 l=>
    cases m with
    | nil=>
     have:=congrArg (λs:Str=>s.cps.toList) e
     rw[cps x x2 l]at this
     exact absurd (show c∈y.cps.toList from by rw[show y.cps.toList=_ from this.symm];simp) (fy y tK)
    | cons y2 m=>
     have:=congrArg (λs:Str=>s.cps.toList) e
     rw[cps x x2 l,cps y y2 m]at this
     obtain⟨h1,h2⟩:=Mb (fx x tK) (fy y tK) this
     rw[zu h1,ih (by simp) (by simp) (λz hz=>fx z (tF _ hz)) (λz hz=>fy z (tF _ hz)) (zu h2)]
theorem zx(x y:Str):Txt.split x y≠[]:=λz=>by
 have:=split_pos x y
 rw[z]at this
 exact absurd this (by decide)
theorem Z9{c:Nat}{xs:List Str}(h:xs≠[])(f:∀x∈xs,c∉x.cps.toList):Txt.split (Str.join ⟨#[c]⟩ xs) ⟨#[c]⟩=xs:=
 KG (zx _ _) h (StrLaws.split_free _ c) f (StrLaws.join_split _ _)
open PySem PySem.Spec PySem.Builtin PySem.Builtin.Str PyProof.Rows
section
variable{X:Cx}
end
open PySem PySem.Spec PySem.W PyProof.Rows
section
variable{prog:Program}{w:World}{A:Around}{R:Result->Shared->Prop}{I:Addr}{fp wr:List Addr}{G:Array GenState->Array GenState->Prop}{n:Nat}{P:Nat->Value->Prop}{St:Nat->Shared->Prop}
end
section
variable{prog:Program}{w:World}{A:Around}{E:Value->Shared->Prop}{s:Shared}
end
section
variable{X:Cx}{e:Expr}{te:TE}{p1 p2 pos1 pos2:Pos}
end
section
variable{a:Addr}{o:Obj}{u:HO}{g:TG}{σ:St}{H:Hp}
end
open PySem PySem.Spec PyProof.Rows PySem.W
def KD(K:zdw)(P:Program)(w:World)(a:Addr)(kvs:List (qG×V)):Prop:=(a==sysModules)=false/\∃o vs,K.lookup a=some o/\o.IsDictOf (jq P w) vs/\KV kvs vs
section
variable{X:Cx}{i o:Expr}{ty td:TE}{pos:Pos}
theorem KD.at_{pins:List (Addr×Obj)}{σ:St}{H:Hp}{s:Shared}{a:Addr}{kvs:List (qG×V)}(h:KD X.K X.prog X.w a kvs)(I:qz X pins σ H s):(a==sysModules)=false/\∃vs,KV kvs vs/\s.heap.DictOf (jq X.prog X.w) a vs:=by
 obtain⟨h1,o,vs,h2,h3,h4⟩:=h
 exact⟨h1,vs,h4,Heap.dictOf_iff.mpr ⟨o,I.kIn a o h2,h3⟩⟩
def wM(K:zdw)(P:Program)(w:World)(td ty:TE):TE:=λσ H Q=>td σ H λx H1=>ty σ H1 λy H2=>∃(a:Addr) (kvs:List (qG×V)) (k:qG) (v:V),x=.ref a/\y=kV k/\KD K P w a kvs/\jc kvs k=some v/\Q v H2
theorem yn(ho:JE X o td)(hi:JE X i ty)(hs:Mi i):JE X (.Subscript o i pos) (wM X.K X.prog X.w td ty):=.of (by
 have ho:=ho.to
 have hi:=hi.to
 intro pins s σ H Q I h
 refine W1 zbK.lookup hs (jm (ho pins s σ H _ I h) λu s1 ⟨x,H1,I1,rx,q1⟩=>jm (hi pins s1 σ H1 _ I1 q1) λiv s2 ⟨y,H2,I2,ry,a,kvs,k,v,ex,ey,kd,ev,q2⟩=>?_)
 subst ex
 subst ey
 obtain rfl:u=Value.ref a:=rx
 obtain⟨hd,vs,rel,dd⟩:=kd.at_ I2
 obtain⟨w',hw,rw'⟩:=JM.some_of (v:=v) (o:=valueAt vs k) (by rw[<-ev];exact rel.val k)
 exact⟨dd.typeIs,wpAny_getItem_of (Z3 ry) dd.mapOf hw ⟨v,H2,I2.tok _,rw',q2⟩⟩)
def D9(K:zdw)(P:Program)(w:World)(ty td:TE):TE:=λσ H Q=>ty σ H λy H1=>td σ H1 λx H2=>∃(a:Addr) (kvs:List (qG×V)) (k:qG),x=.ref a/\y=kV k/\KD K P w a kvs/\Q (.bl (jc kvs k).isSome) H2
theorem KW(hi:JE X i ty)(ho:JE X o td):JC X .In i o (D9 X.K X.prog X.w ty td):=.of (by
 have hi:=hi.to
 have ho:=ho.to
 intro pins s σ H Q I h
 refine jm (hi pins s σ H _ I h) λiv s1 ⟨y,H1,I1,ry,q1⟩=>jm (ho pins s1 σ H1 _ I1 q1) λu s2 ⟨x,H2,I2,rx,a,kvs,k,ex,ey,kd,q2⟩=>?_
 subst ex
 subst ey
 obtain rfl:u=Value.ref a:=rx
 obtain⟨hd,vs,rel,dd⟩:=kd.at_ I2
 refine wpAny_in_of (Z3 ry) hd dd.mapOf ?_
 rw[<-(rel.val k).isSome_eq]
 exact⟨.bl _,H2,I2.tok _,rfl,q2⟩)
def Rv(K:zdw)(P:Program)(w:World)(ty td:TE):TE:=λσ H Q=>ty σ H λy H1=>td σ H1 λx H2=>∃(a:Addr) (kvs:List (qG×V)) (k:qG),x=.ref a/\y=kV k/\KD K P w a kvs/\Q (.bl (!(jc kvs k).isSome)) H2
theorem xN(hi:JE X i ty)(ho:JE X o td):JC X .NotIn i o (Rv X.K X.prog X.w ty td):=.of (by
 have hi:=hi.to
 have ho:=ho.to
 intro pins s σ H Q I h
 refine jm (hi pins s σ H _ I h) λiv s1 ⟨y,H1,I1,ry,q1⟩=>jm (ho pins s1 σ H1 _ I1 q1) λu s2 ⟨x,H2,I2,rx,a,kvs,k,ex,ey,kd,q2⟩=>?_
 subst ex
 subst ey
 obtain rfl:u=Value.ref a:=rx
 obtain⟨hd,vs,rel,dd⟩:=kd.at_ I2
 refine wpAny_notIn_of (Z3 ry) hd dd.mapOf ?_
 rw[<-(rel.val k).isSome_eq]
 exact⟨.bl _,H2,I2.tok _,rfl,q2⟩)
def wQ(C:Addr->Sp->Prop)(E:St->XK)(tf:TE)(t:TA):TE:=λσ H Q=>tf σ H λx H1=>∃(f:Addr) (sp:Sp),x=.ref f/\C f sp/\t σ H1 λvs H2=>sp vs H2 Q (E σ)
end
section
variable{prog:Program}{w:World}{A:Around}{E:Value->Shared->Prop}{s:Shared}
theorem VT{it t:Addr}{i:Nat}{its:Array Value}{Q:Value->Shared->Prop}{o:Obj}(ho:s.heap.get? it=some o)(hc:o.cls=.type "tuple_iterator")(hd:o.data=.fields #[.ref t,.int i 0])(ht:s.heap.IsTuple t its)
  (h:wpAny (model prog w) A.in1 (match its[i]? with
   | some x=>do setField (.ref it) 1 (rawInt ((i:Int)+1));ret x
   | none=>do rule (toString "tuple_iterator.__next__"++toString ".end");setField (.ref it) 0 .none;Builtin.SmallTypes.stopIteration) (λfin s'=>∃v,fin=.done (.ret v)/\Q v s') E s):
  wpAny (model prog w) A (Builtin.SmallTypes.nextOf (.ref it)) Q E s:=by
 obtain⟨ol,hol,_,nl,hdl⟩:=ht
 have ty:s.TypeIs (.ref it) "tuple_iterator":=⟨o,ho,hc⟩
 unfold Builtin.SmallTypes.nextOf
 refine zdy (wpAny_callSpecial?_slot (name:=zdx "__next__") ty F.slot_tuple_iterator_next
  (wpAny_call_entry F.slot_tuple_iterator_next ty F.entry_tuple_iterator_next ?_ (F.args_tuple_iterator_next_1 _)))
 show wpAny _ _ (field (.ref it) 0 >>= _) _ _ s
 refine zdy (wpAny_field ho hd (x:=.ref t) rfl ?_)
 show wpAny _ _ (if (Value.ref t==Value.none)=true then _ else _) _ _ s
 rw[if_neg (show ¬((Value.ref t==Value.none)=true) from tS)]
 show wpAny _ _ (field (.ref it) 1 >>= _) _ _ s
 refine zdy (wpAny_field ho hd (x:=.int i 0) rfl ?_)
 show wpAny _ _ (seqItems? (.ref t) >>= _) _ _ s
 refine zdy (wpAny_seqItems hol hdl ?_)
 simp only[zbi]
 refine wpAny_mono h (λfin s' ⟨v,e,q⟩=>⟨v,e,zdz q⟩) λ_ _ q=>q
theorem Gs{it t:Addr}{i:Nat}{its:Array Value}{x:Value}{Q:Value->Shared->Prop}(st:s.heap.IsTupleIter it t i)(ht:s.heap.IsTuple t its)(hx:its[i]?=some x)
  (h:∀h',h'.IsTupleIter it t (i+1)->Heap.SameBut it s.heap h'->Q x {s with heap:=h'}):wpAny (model prog w) A (Builtin.SmallTypes.nextOf (.ref it)) Q E s:=by
 obtain⟨o,ho,hc,hd⟩:=id st
 refine VT ho hc hd ht ?_
 rw[hx]
 exact zdy (wpAny_setField ho hd (by simp) (zdz ⟨x,rfl,h _ ⟨_,zaZ _ ho (Obj.isFreed_of_fields (Obj.data_mapFields hd _)),(Obj.cls_mapFields ..).trans hc,by
  rw[Obj.data_mapFields hd];simp [rawInt]⟩ (Heap.SameBut.update ..)⟩))
theorem N5{it t:Addr}{i:Nat}{its:Array Value}{Q:Value->Shared->Prop}(hh:A.handled=none)(st:s.heap.IsTupleIter it t i)(ht:s.heap.IsTuple t its)(hx:its[i]?=none)
  (h:∀h' e,Heap.ExtBut it s.heap h'->(∃o,h'.get? e=some o/\o.cls=.type "StopIteration")->E (.ref e) {s with heap:=h'}):wpAny (model prog w) A (Builtin.SmallTypes.nextOf (.ref it)) Q E s:=by
 obtain⟨o,ho,hc,hd⟩:=id st
 refine VT ho hc hd ht ?_
 rw[hx]
 refine zdy (wpAny_rule (zdy (wpAny_setField ho hd (by simp) ?_)))
 show wpAny _ _ (newExc (.type "StopIteration") [] >>= _) _ _ _
 refine zdy ?_
 simp only[newExc,newTuple]
 refine zdy (wpAny_newObj_type ?_ (by size_fits))
 refine zdy (m:=firstArgMember _ _) (wpAny_of_eq (a:=Value.none) (by first | rfl | (simp only[firstArgMember];rfl)) ?_)
 refine wpAny_newObj_type ?_ (by size_fits)
 simp only[raiseNew]
 refine zdy (wpAny_handled ?_)
 first | rw[show A.in1.handled=none from hh] | rw[hh]
 exact zdy (zdz (wpAny_throw (h _ _ (((Heap.SameBut.update ..).extBut.push _).push _) ⟨_,zae _ rfl,rfl⟩)))
theorem yM{z TI TO i1 i2 l1 l2:Addr}{k:Nat}{xs ys:Array Value}{a b:Value}{Q:Value->Shared->Prop}(D:ZipApart z TI TO i1 i2 l1 l2)(hz:IsZip s.heap z TI TO .none)(hTI:IsPair s.heap TI (.ref i1) (.ref i2))(hTO:IsPair s.heap TO a b)
  (h1:s.heap.IsTupleIter i1 l1 k) (h2:s.heap.IsListIter i2 l2 k) (hl1:s.heap.IsTuple l1 xs) (hl2:s.heap.IsList l2 ys)
  (hQ:∀x y h',xs[k]?=some x->ys[k]?=some y->IsZip h' z TI TO (rawInt s.heap.objs.size)->IsPair h' TO x y->h'.IsTupleIter i1 l1 (k+1)->h'.IsListIter i2 l2 (k+1)->IsPair h' s.heap.objs.size x y->
   (∀c o,c∉[z,TO,i1,i2]->s.heap.get? c=some o->h'.get? c=some o)->Q (.ref s.heap.objs.size) {s with heap:=h'})
  (hE:xs[k]?=none\/ys[k]?=none->A.handled=none/\∀h' e,(∀c o,c∉[z,TO,i1,i2]->s.heap.get? c=some o->h'.get? c=some o)->(∃o,h'.get? e=some o/\o.cls=.type "StopIteration")->E (.ref e) {s with heap:=h'}):
  wpAny (model prog w) A (Builtin.«zip.__next__» ⟨[.ref z],[]⟩) (λfin s'=>∃v,fin=.done (.ret v)/\Q v s') E s:=by
 have no:∀{c:Addr},c∉[z,TO,i1,i2]->c≠z/\c≠TO/\c≠i1/\c≠i2:=λh=>by simpa only[tJ,zai,or_false,not_or] using h
 show wpAny _ _ (field (.ref z) 2 >>= _) _ _ _
 refine zdy (wpAny_field hz rfl (x:=.bool false) rfl ?_)
 show wpAny _ _ (field (.ref z) 3 >>= _) _ _ _
 refine zdy (wpAny_field hz rfl (x:=.ref TI) rfl (zdy (wpAny_seqItems hTI rfl ?_)))
 show wpAny _ _ (Builtin.SmallTypes.ownedTupleIsFree (.ref z) >>= _) _ _ _
 unfold Builtin.SmallTypes.ownedTupleIsFree
 refine zdy (zdy (wpAny_field hz rfl (x:=.none) rfl (zdz ?_)))
 simp only[if_true]
 refine zdy (wpAny_rule (zdy (wpAny_field hz rfl (x:=.ref TO) rfl (zdy (wpAny_setField_rec hz (by simp) λg1 z1 s1=>?_)))))
 replace z1:IsZip g1 z TI TO .ellipsis:=z1
 refine zdy ?_
 simp only[List.zipIdx_cons,List.zipIdx_nil,List.forIn_cons,List.forIn_nil]
 refine zdy (zdy (wpAny_onRaise ?_))
 show wpAny _ _ (Builtin.SmallTypes.nextOf (.ref i1) >>= _) _ _ _
 refine zdy ?_
 cases hx:xs[k]? with
 | none=>
  obtain⟨hh,hE⟩:=hE (.inl hx)
  refine N5 hh (h1.extBut s1.extBut D.i1z) (hl1.extBut s1.extBut D.l1z) hx λg2 e s2 ⟨oe,he,ce⟩=>?_
  have z2:IsZip g2 z TI TO .ellipsis:=s2 _ _ D.i1z.symm z1
  have ez:e≠z:=λq=>by subst q;rw[z2]at he;cases he;simp at ce
  exact wpAny_setField_rec z2 (by simp) λg3 _ s3=>hE g3 e (λc o hc q=>s3.extBut _ _ (no hc).1 (s2 _ _ (no hc).2.2.1 (s1.extBut _ _ (no hc).1 q))) ⟨oe,s3.extBut _ _ ez he,ce⟩
 | some x=>
  refine Gs (h1.extBut s1.extBut D.i1z) (hl1.extBut s1.extBut D.l1z) hx λg2 j1 s2=>zdz ?_
  have o2:IsPair g2 TO a b:=s2.extBut _ _ D.TOi1 (s1.extBut _ _ D.TOz hTO)
  refine zdy (wpAny_seqItems o2 rfl (zdy (wpAny_updateSeq_pair o2 λg3 o3 s3=>?_)))
  replace o3:IsPair g3 TO x b:=o3
  refine zdy (wpAny_letGo (zdz (zdy (zdy (wpAny_onRaise ?_)))))
  show wpAny _ _ (Builtin.SmallTypes.nextOf (.ref i2) >>= _) _ _ _
  refine zdy ?_
  have j2:=((h2.extBut s1.extBut D.i2z).extBut s2.extBut D.i12.symm).extBut s3.extBut D.TOi2.symm
  have m2:=((hl2.extBut s1.extBut D.l2z).extBut s2.extBut D.l2i1).extBut s3.extBut D.l2TO
  have z3:IsZip g3 z TI TO .ellipsis:=s3.extBut _ _ D.TOz.symm (s2.extBut _ _ D.i1z.symm z1)
  cases hy:ys[k]? with
  | none=>
   obtain⟨hh,hE⟩:=hE (.inr hy)
   refine wpAny_nextOf_list_end hh j2 m2 hy λg4 e s4 ⟨oe,he,ce⟩=>?_
   have z4:IsZip g4 z TI TO .ellipsis:=s4 _ _ D.i2z.symm z3
   have ez:e≠z:=λq=>by subst q;rw[z4]at he;cases he;simp at ce
   exact wpAny_setField_rec z4 (by simp) λg5 _ s5=>hE g5 e (λc o hc q=>s5.extBut _ _ (no hc).1 (s4 _ _ (no hc).2.2.2 (s3.extBut _ _ (no hc).2.1 (s2.extBut _ _ (no hc).2.2.1 (s1.extBut _ _ (no hc).1 q))))) ⟨oe,s5.extBut _ _ ez he,ce⟩
  | some y=>
   refine wpAny_nextOf_list_item j2 m2 hy λg4 j4 s4=>zdz ?_
   have o4:IsPair g4 TO x b:=s4.extBut _ _ D.TOi2 o3
   refine zdy (wpAny_seqItems o4 rfl (zdy (wpAny_updateSeq_pair o4 λg5 o5 s5=>?_)))
   replace o5:IsPair g5 TO x y:=o5
   refine zdy (wpAny_letGo (zdz (zdz (zdy (wpAny_seqItems o5 rfl (zdy (wpAny_newTuple ?_)))))))
   have sz:g5.objs.size=s.heap.objs.size:=by rw[s5.1,s4.1,s3.1,s2.1,s1.1]
   have z5:IsZip g5 z TI TO .ellipsis:=s5.extBut _ _ D.TOz.symm (s4.extBut _ _ D.i2z.symm z3)
   have zl:g5.objs.size≠z:=zbI (tN z5)
   show wpAny _ _ (Builtin.SmallTypes.ownedTupleHandOut (.ref z) (.ref g5.objs.size) >>= _) _ _ _
   unfold Builtin.SmallTypes.ownedTupleHandOut
   refine zdy (zdy (wpAny_setField_rec (show IsZip (g5.push {cls:=.type "tuple",data:=.seq #[x,y]}) z TI TO .ellipsis from tz _ z5) (by simp) λg7 z7 s7=>?_))
   refine wpAny_setField_rec (show IsZip g7 z TI TO (rawInt g5.objs.size) from z7) (by simp) λg8 z8 s8=>zdz ⟨_,rfl,?_⟩
   replace z8:IsZip g8 z TI TO (rawInt g5.objs.size):=z8
   have up:∀c o,c≠z->g5.get? c=some o->g8.get? c=some o:=λc o c1 e=>s8.extBut _ _ c1 (s7.extBut _ _ c1 (tz _ e))
   have pr:IsPair g8 g5.objs.size x y:=s8.extBut _ _ zl (s7.extBut _ _ zl (zae _ rfl))
   show Q (.ref g5.objs.size) _
   rw[sz]at z8 pr ⊢
   exact hQ x y g8 hx hy z8 (up _ _ D.TOz o5) ((((j1.extBut s3.extBut D.TOi1.symm).extBut s4.extBut D.i12).extBut s5.extBut D.TOi1.symm).at λo e=>up _ o D.i1z e)
    ((j4.extBut s5.extBut D.TOi2.symm).at λo e=>up _ o D.i2z e) pr λc o hc e=>up c o (no hc).1 (s5.extBut _ _ (no hc).2.1 (s4.extBut _ _ (no hc).2.2.2 (s3.extBut _ _ (no hc).2.1 (s2.extBut _ _ (no hc).2.2.1 (s1.extBut _ _ (no hc).1 e)))))
theorem Yy{z TI TO i1 i2 l1 l2:Addr}{k:Nat}{xs ys:Array Value}{a b:Value}{Q:Option Value->Shared->Prop}(D:ZipApart z TI TO i1 i2 l1 l2)(hz:IsZip s.heap z TI TO .none)(hTI:IsPair s.heap TI (.ref i1) (.ref i2))(hTO:IsPair s.heap TO a b)
  (h1:s.heap.IsTupleIter i1 l1 k) (h2:s.heap.IsListIter i2 l2 k) (hl1:s.heap.IsTuple l1 xs) (hl2:s.heap.IsList l2 ys)
  (hQ:∀x y h',xs[k]?=some x->ys[k]?=some y->IsZip h' z TI TO (rawInt s.heap.objs.size)->IsPair h' TO x y->h'.IsTupleIter i1 l1 (k+1)->h'.IsListIter i2 l2 (k+1)->IsPair h' s.heap.objs.size x y->
   (∀c o,c∉[z,TO,i1,i2]->s.heap.get? c=some o->h'.get? c=some o)->Q (some (.ref s.heap.objs.size)) {s with heap:=h'})
  (hE:xs[k]?=none\/ys[k]?=none->A.handled=none/\∀h',(∀c o,c∉[z,TO,i1,i2]->s.heap.get? c=some o->h'.get? c=some o)->Q none {s with heap:=h'}):
  wpAny (model prog w) A (pyNext (.ref z)) Q E s:=by
 have hT:s.TypeIs (.ref z) "zip":=⟨_,hz,rfl⟩
 unfold pyNext
 refine zdy (wpAny_attempt (wpAny_callSpecial?_slot (name:=zdx "__next__") hT F.slot_zip_next
  (wpAny_call_entry F.slot_zip_next hT F.entry_zip_next (yM D hz hTI hTO h1 h2 hl1 hl2 (λx y h' a1 a2 a3 a4 a5 a6 a7 a8=>zdz (hQ x y h' a1 a2 a3 a4 a5 a6 a7 a8)) λe=>⟨(hE e).1,λh' x kk ⟨o,ho,hc⟩=>?_⟩) (F.args_zip_next_1 _))))
 exact zdy (wpAny_isInstance (T:="StopIteration") (b:=true) ⟨o,ho,hc⟩ isSubtype_stop (zdz ((hE e).2 h' kk)))
end
def Ms(h:Heap)(l1 l2:Addr):Heap:=let n:=h.objs.size
 ((((h.push {cls:=.type "tuple_iterator",data:=.fields #[.ref l1,.int 0 0]}).push {cls:=.type "list_iterator",data:=.fields #[.ref l2,.int 0 0]}).push {cls:=.type "tuple",data:=.seq #[.ref n,.ref (n+1)]}).push
   {cls:=.type "tuple",data:=.seq #[.none,.none]}).push {cls:=.type "zip",data:=.fields #[.none,.bool false,.bool false,.ref (n+2),.ref (n+3)]}
theorem vK(l1 l2:Addr)(xs ys:Array Value):
  Meets (Builtin.«zip.__new__» ⟨[.type "zip",.ref l1,.ref l2],[]⟩) (λ_ R s=>s.heap.IsTuple l1 xs/\s.heap.IsList l2 ys/\R (.ok (.ret (.ref (s.heap.objs.size+4)))) {s with heap:=Ms s.heap l1 l2}):=
 .of_wp λprog w A R s h=>by
  obtain⟨hp,g,d,tk,os⟩:=s;obtain⟨hl1,hl2,h⟩:=h
  have hsub:=sub_zip
  have hL1:Heap.IsTuple (Shared.heap ⟨hp,g,d,tk,os⟩) l1 xs:=hl1
  have hL2:Heap.IsList (Shared.heap ⟨hp.push {cls:=.type "tuple_iterator",data:=.fields #[.ref l1,.int 0 0]},g,d,tk,os⟩) l2 ys:=Heap.IsList.push hl2 _
  wp_walk using wpAny_pyIter_tuple hL1,wpAny_pyIter_list hL2
  refine⟨_,rfl,?_⟩
  simp only[zbf]
  exact h
section
variable{prog:Program}{w:World}{A:Around}{E:Value->Shared->Prop}{s:Shared}
theorem wk{l1 l2:Addr}{xs ys:Array Value}{Q:Value->Shared->Prop}(hl1:s.heap.IsTuple l1 xs)(hl2:s.heap.IsList l2 ys)
  (h:∀h',IsZip h' (s.heap.objs.size+4) (s.heap.objs.size+2) (s.heap.objs.size+3) .none->IsPair h' (s.heap.objs.size+2) (.ref s.heap.objs.size) (.ref (s.heap.objs.size+1))->
   IsPair h' (s.heap.objs.size+3) .none .none->h'.IsTupleIter s.heap.objs.size l1 0->h'.IsListIter (s.heap.objs.size+1) l2 0->
   (∀c o,s.heap.get? c=some o->h'.get? c=some o)->Q (.ref (s.heap.objs.size+4)) {s with heap:=h'}):
  wpAny (model prog w) A (call (.type "zip") [.ref l1,.ref l2]) Q E s:=by
 refine callType_new F.called_zip (by decide) (F.typeCall_zip_2 _ _) (F.newCall_zip_2 _ _) (λobj=>F.args_object_init_3 obj _ _) F.entry_zip_new
  (vK l1 l2 xs ys) ⟨hl1,hl2,?_⟩
 have up:∀{h:Heap} {c:Addr} {o u:Obj},h.get? c=some o->(h.push u).get? c=some o:=λe=>tz _ e
 have nw:∀{h:Heap} {c:Addr} {o:Obj},o.isFreed=false->h.objs.size=c->(h.push o).get? c=some o:=λf e=>by rw[<-e];exact zae _ f
 have g5:IsZip (Ms s.heap l1 l2) (s.heap.objs.size+4) (s.heap.objs.size+2) (s.heap.objs.size+3) .none:=nw rfl (by simp only[zbf])
 exact⟨⟨_,g5,rfl⟩,h _ g5 (up (up (nw rfl (by simp only[zbf])))) (up (nw rfl (by simp only[zbf]))) ⟨_,up (up (up (up (nw rfl rfl)))),rfl,rfl⟩ ⟨_,up (up (up (nw rfl (by simp only[zbf])))),rfl,rfl⟩
  λc o e=>up (up (up (up (up e))))⟩
end
def Ml(K:zdw)(a b:Addr):It:=⟨λi H=>∃xs ys x y,SqT K H a xs/\SqL K H b ys/\xs[i]?=some x/\ys[i]?=some y,
 λi H v H'=>∃p,H p=none/\v=.ref p/\∀xs ys x y,SqT K H a xs->SqL K H b ys->xs[i]?=some x->ys[i]?=some y->H'=upd H p (.tup [x,y]),
 λi H=>∃xs ys,SqT K H a xs/\SqL K H b ys/\(xs.length<=i\/ys.length<=i)⟩
abbrev StY(a b z TI TO i1 i2:Addr)(i:Nat)(h:Heap):Prop:=IsZip h z TI TO .none/\IsPair h TI (.ref i1) (.ref i2)/\(∃u v,IsPair h TO u v)/\h.IsTupleIter i1 a i/\h.IsListIter i2 b i
theorem yQ{P:Program}{w:World}{K:zdw}{elts:List Expr}{x1:Nat}{tpos:Pos}(a b z TI TO i1 i2:Addr)(D:ZipApart z TI TO i1 i2 a b):
  U0 P w K (.Tuple elts x1 tpos) (Ml K a b) [z,TI,TO,i1,i2] z (StY a b z TI TO i1 i2) where
 mem:=by simp
 obj:=λi h st c hc=>by
  obtain⟨hz,hTI,⟨u,v,hTO⟩,⟨o1,e1,c1,d1⟩,⟨o2,e2,c2,d2⟩⟩:=st
  simp only[tJ,zbm,or_false]at hc
  rcases hc with rfl | rfl | rfl | rfl | rfl
  ·exact⟨_,hz,λv z=>by cases z⟩
  ·exact⟨_,hTI,λv z=>by cases z⟩
  ·exact⟨_,hTO,λv z=>by cases z⟩
  ·exact⟨o1,e1,λv z=>by rw[d1]at z;cases z⟩
  ·exact⟨o2,e2,λv z=>by rw[d2]at z;cases z⟩
 keep:=λi h h' ⟨hz,hTI,⟨u,v,hTO⟩,h1,h2⟩ k=>⟨k z (by simp) _ hz,k TI (by simp) _ hTI,⟨u,v,k TO (by simp) _ hTO⟩,h1.at λo e=>k i1 (by simp) o e,h2.at λo e=>k i2 (by simp) o e⟩
 item:=by
  intro X hP hw hK hc i pins s σ H E I hf st hg
  subst hP hw hK
  obtain⟨hz,hTI,⟨u0,v0,hTO⟩,h1,h2⟩:=st
  obtain⟨xs,ys,x,y,qa,qb,hx,hy⟩:=hg
  obtain⟨its,rv,p,_⟩:=I.tuple qa
  obtain⟨its2,rv2,p2,_⟩:=I.list qb
  obtain⟨u,hu,ru⟩:=rv.get hx
  obtain⟨u2,hu2,ru2⟩:=rv2.get hy
  refine Yy D hz hTI hTO h1 h2 (show s.heap.IsTuple a its.toArray from p) p2.isList (λx' y' h' ex ey z1 z2 z3 z4 z5 kk=>⟨_,rfl,?_⟩) λe=>by
   simp only[List.getElem?_toArray,hu,hu2]at e
   rcases e with e | e<;>cases e
  obtain rfl:x'=u:=by simpa [hu] using ex.symm
  obtain rfl:y'=u2:=by simpa [hu2] using ey.symm
  refine wpAny_letOwnedTupleGo_zip z1 λh'' z1' sb=>?_
  have nT:∀c o,s.heap.get? c=some o->s.heap.objs.size≠c:=λc o e=>zbI (tN e)
  have nTz:s.heap.objs.size≠z:=nT _ _ hz
  have kT:∀c o,c≠z->h'.get? c=some o->h''.get? c=some o:=λc o hc e=>(sb.2 c hc).trans e
  have I1:qz X pins σ (upd H s.heap.objs.size (.tup [x,y])) {s with heap:=h''}:=I.turnLaid (L:=[z,TI,TO,i1,i2]) (t':=s.toks)
   (λc o hc e=>kT c o (λz=>hc (by simp [z])) (kk c o (λz=>hc (by simp only[tJ,zai,or_false]at z ⊢;rcases z with z | z | z | z<;>simp [z])) e)) hf (tu _)
   ⟨by show 2<=zdB;decide,[x',y'],.cons ru (.cons ru2 .nil),⟨_,kT _ _ nTz z5,rfl,_,rfl⟩⟩
  refine⟨.ref s.heap.objs.size,_,I1,rfl,⟨s.heap.objs.size,I.hok.fresh (tu _),rfl,λxs' ys' x' y' qa' qb' hx' hy'=>?_⟩,
   ⟨z1',kT _ _ D.TIz (kk _ _ (by simp [D.TIz,D.TITO,D.TIi1,D.TIi2]) hTI),⟨_,_,kT _ _ D.TOz z2⟩,z3.at λo e=>kT _ o D.i1z e,z4.at λo e=>kT _ o D.i2z e⟩,λc hc=>?_⟩
  ·rw[I.tuple_inj qa' qa,hx]at hx'
   rw[I.list_inj qb' qb,hy]at hy'
   cases hx'
   cases hy'
   rfl
  ·rw[qi λe=>?_];exact(hf c hc).1
   subst e
   obtain⟨o1,e1,_⟩:=h1
   obtain⟨o2,e2,_⟩:=h2
   simp only[tJ,zbm,or_false]at hc
   rcases hc with e | e | e | e | e
   ·exact nTz e
   ·exact nT _ _ hTI e
   ·exact nT _ _ hTO e
   ·exact nT _ _ e1 e
   ·exact nT _ _ e2 e
 done:=by
  intro X hP hw hK hc i pins s σ H E I hf st hg
  subst hP hw hK
  obtain⟨hz,hTI,⟨u0,v0,hTO⟩,h1,h2⟩:=st
  obtain⟨xs,ys,qa,qb,hl⟩:=hg
  obtain⟨its,rv,p,_⟩:=I.tuple qa
  obtain⟨its2,rv2,p2,_⟩:=I.list qb
  have l1:=rv.length
  have l2:=rv2.length
  refine Yy D hz hTI hTO h1 h2 (show s.heap.IsTuple a its.toArray from p) p2.isList (λx' y' h' ex ey=>?_) λ_=>⟨I.ok.hd hc,λh' kk=>⟨rfl,I.turnedL (L:=[z,TI,TO,i1,i2]) (t':=s.toks)
   (λc o hc e=>kk c o (λz=>hc (by simp only[tJ,zai,or_false]at z ⊢;rcases z with z | z | z | z<;>simp [z])) e) hf⟩⟩
  have g1:=(tq.mp (by simpa using ex:its[i]?=some x')).1
  have g2:=(tq.mp (by simpa using ey:its2[i]?=some y')).1
  omega
 self:=λ_ _ _ _ _ st h=>wpAny_pyIter_zip st.1 h
section
variable{X:Cx}{elts:List Expr}{x1:Nat}{tpos:Pos}
def M8(K:zdw)(ta:TA):TI:=λσ H R=>ta σ H λvs H1=>∃a b,vs=[.ref a,.ref b]/\(∃xs,SqT K H1 a xs)/\(∃ys,SqL K H1 b ys)/\R (Ml K a b) H1
theorem yj{a b:Expr}{ta:TA}{p pos:Pos}(hg:Gl X "zip")(hm:X.mg "zip"=none)(ha:JA X [a,b] ta)(hs:starEach [a,b] X.env=[(false,eval a X.env),(false,eval b X.env)]:=by rfl)(hs2:starEach [b] X.env=[(false,eval b X.env)]:=by rfl):JI X (.Tuple elts x1 tpos) (.Call (.Name "zip" p) [a,b] [] pos) (M8 X.K ta):=.of (by
 have ha:=ha.to
 intro pins s σ H R I h
 refine Call_ (Yn I hg hm boot_zip (PyProof.Rows.callWith_type1 (jm (ha pos pins s σ H _ I h) λus s1 ⟨vs,H1,I1,r1,q1⟩=>?_) (by rw[hs,hs2]) (by rw[hs2];rfl)))
 obtain⟨l,l',e,⟨xs,qa⟩,⟨ys,qb⟩,q⟩:=q1
 subst e
 cases r1 with
 | cons r rr=>
  cases rr with
  | cons r' rr=>
   cases rr
   cases r
   cases r'
   obtain⟨its,rv,p,_⟩:=I1.tuple qa
   obtain⟨its2,rv2,p2,_⟩:=I1.list qb
   have l1:l < s1.heap.objs.size:=by obtain⟨_,e,_⟩:=(show s1.heap.IsTuple l its.toArray from p);exact tN e
   have l2:l' < s1.heap.objs.size:=by obtain⟨_,e,_⟩:=p2.isList;exact tN e
   refine wk (show s1.heap.IsTuple l its.toArray from p) p2.isList λh' z1 z2 z3 z4 z5 kk=>?_
   refine wpAny_pyIter_zip z1 ?_
   have I2:qz X pins σ H1 {s1 with heap:=h'}:=I1.kept (t':=s1.toks) kk
   have fr:∀c,s1.heap.objs.size<=c->Z0 X pins H1 c:=λc hc=>I1.fpOk hc (I1.hok.fresh hc)
   have ne:∀i j:Nat,i≠j->s1.heap.objs.size+i≠s1.heap.objs.size+j:=λi j h z=>h (Nat.add_left_cancel z)
   have lo:∀{c:Addr} (i:Nat),c < s1.heap.objs.size->c≠s1.heap.objs.size+i:=λi h=>zac (tE h (zce _ _))
   refine⟨s1.heap.objs.size+4,[s1.heap.objs.size+4,s1.heap.objs.size+2,s1.heap.objs.size+3,s1.heap.objs.size,s1.heap.objs.size+1],_,_,H1,rfl,I2,yQ l l' (s1.heap.objs.size+4) (s1.heap.objs.size+2) (s1.heap.objs.size+3) s1.heap.objs.size (s1.heap.objs.size+1)
    ⟨ne 2 4 (by decide),ne 3 4 (by decide),ne 0 4 (by decide),ne 1 4 (by decide),ne 2 3 (by decide),ne 2 0 (by decide),ne 2 1 (by decide),ne 3 0 (by decide),ne 3 1 (by decide),ne 0 1 (by decide),lo 4 l1,lo 3 l1,lo 0 l1,lo 1 l1,lo 4 l2,lo 3 l2,lo 0 l2,lo 1 l2⟩,
    ⟨z1,z2,⟨_,_,z3⟩,z4,z5⟩,λc hc=>?_,q⟩
   simp only[tJ,zbm,or_false]at hc
   rcases hc with e | e | e | e | e<;>rw[e]<;>first | exact fr _ (zce _ _) | exact fr _ (tu _))
end
section
variable{K:zdw}{a b:Addr}{xs ys:List V}{σ:St}{H:Hp}
theorem wC{i:Nat}(h:i < (xs.zip ys).length):∃x y,xs[i]?=some x/\ys[i]?=some y/\(xs.zip ys)[i]?=some (x,y):=by
 have h1:i < xs.length:=by rw[zbT]at h;omega
 have h2:i < ys.length:=by rw[zbT]at h;omega
 refine⟨xs[i],ys[i],tW h1,tW h2,?_⟩
 rw[tW h,List.getElem_zip]
theorem Mr{i:Nat}{x y:V}(qa:SqT K H a xs)(qb:SqL K H b ys)(hx:xs[i]?=some x)(hy:ys[i]?=some y):(Ml K a b).go i H/\∀v H',(Ml K a b).yld i H v H'->∃p,H p=none/\v=.ref p/\H'=upd H p (.tup [x,y]):=
 ⟨⟨xs,ys,x,y,qa,qb,hx,hy⟩,λv H' ⟨p,hp,e,q⟩=>⟨p,hp,e,q xs ys x y qa qb hx hy⟩⟩
theorem kf(qa:SqT K H a xs)(qb:SqL K H b ys):(Ml K a b).stop (xs.zip ys).length H:=⟨xs,ys,qa,qb,by rw[zbT];omega⟩
theorem Ge{g:TG}{tb:TS}{D:JN}(Pv:Nat->St->Hp->Prop)(h0:Pv 0 σ H)(hl:∀i σ H,Pv i σ H->SqT K H a xs/\SqL K H b ys)
  (hs:∀i x y σ H p,(xs.zip ys)[i]?=some (x,y)->H p=none->Pv i σ H->g (.ref p) σ (upd H p (.tup [x,y])) λσ2 H2=>tb {D with nx:=Pv (i+1),ct:=Pv (i+1),bk:=D.nx} σ2 H2) (hd:∀σ H,Pv (xs.zip ys).length σ H->D.nx σ H):
  ∃W:Nat->Nat->St->Hp->Prop,(∃m,W 0 m σ H)/\∀i m σ H,W i m σ H->
   ((Ml K a b).stop i H/\D.nx σ H)\/((Ml K a b).go i H/\∃N:St->Hp->Prop,(∀σ' H',N σ' H'->∃m',m' < m/\W (i+1) m' σ' H')/\∀x H',(Ml K a b).yld i H x H'->g x σ H' λσ2 H2=>tb {D with nx:=N,ct:=N,bk:=D.nx} σ2 H2):=by
 refine⟨λi m σ H=>m=(xs.zip ys).length - i/\i<=(xs.zip ys).length/\Pv i σ H,⟨_,rfl,zao _,h0⟩,?_⟩
 rintro i m σ H ⟨rfl,hi,p⟩
 obtain⟨qa,qb⟩:=hl i σ H p
 rcases Nat.lt_or_eq_of_le hi with hlt | rfl
 ·obtain⟨x,y,ex,ey,exy⟩:=wC hlt
  obtain⟨g1,g2⟩:=Mr qa qb ex ey
  refine .inr ⟨g1,Pv (i+1),λσ' H' p'=>⟨_,by omega,rfl,hlt,p'⟩,λv H' yl=>?_⟩
  obtain⟨pp,hp,rfl,rfl⟩:=g2 v H' yl
  exact hs i x y σ H pp exy hp p
 ·exact .inl ⟨kf qa qb,hd σ H p⟩
theorem Gy{D:Addr}{tt:TT}{te:TE}{rest:St}{Q:Hp->Prop}{out:V->V->V}(hD:H D=none)(qa:SqT K H a xs)(qb:SqL K H b ys)(len:xs.length < zdB)
  (ht:∀x y G,(x,y)∈xs.zip ys->∀R:Bool->Hp->Prop,R true G->tt (some x::some y::rest) G R)
  (he:∀x y,(x,y)∈xs.zip ys->∀G,(∀b o,H b=some o->G b=some o)->∀R:V->Hp->Prop,(∀G',(∀b o,G b=some o->G' b=some o)->R (out x y) G')->te (some x::some y::rest) G R)
  (k:∀G,(∀b o,H b=some o->G b=some o)->G D=some (.lst ((xs.zip ys).map λp=>out p.1 p.2))->Q G):X7 (Ml K a b) (xZ K 2 (ZF (j3 0) (ZF (j3 1) x5))) tt te D (none::none::rest) H Q:=by
 have sD:∀b o,H b=some o->upd H D (.lst []) b=some o:=λb o h=>by
  rw[qi (λe=>by rw[e,hD]at h;cases h)]
  exact h
 have sq:∀G,(∀b o,H b=some o->G b=some o)->SqT K G a xs/\SqL K G b ys:=λG s=>by
  refine⟨?_,?_⟩
  ·rcases qa with (h | ⟨o,h⟩) | h
   ·exact .inl (.inl (s _ _ h))
   ·exact .inl (.inr ⟨o,s _ _ h⟩)
   ·exact .inr h
  ·rcases qb with (h | ⟨o,h⟩) | h
   ·exact .inl (.inl (s _ _ h))
   ·exact .inl (.inr ⟨o,s _ _ h⟩)
   ·exact .inr h
 refine XX (n:=(xs.zip ys).length) (λi σ' G=>(∃v0 v1,σ'=v0::v1::rest)/\(∀b o,H b=some o->G b=some o)/\G D=some (.lst (((xs.zip ys).take i).map λp=>out p.1 p.2))) ⟨⟨none,none,rfl⟩,sD,qe⟩ ?_ ?_
 ·rintro i σ' G hi ⟨⟨v0,v1,rfl⟩,s,hG⟩
  obtain⟨x,y,ex,ey,exy⟩:=wC hi
  obtain⟨g1,g2⟩:=Mr (sq G s).1 (sq G s).2 ex ey
  refine⟨g1,λv G1 yl=>?_⟩
  obtain⟨pp,hp,rfl,rfl⟩:=g2 v G1 yl
  have hm:(x,y)∈xs.zip ys:=tV exy
  have s1:∀b o,G b=some o->upd G pp (.tup [x,y]) b=some o:=λb o h=>by
   rw[qi (λe=>by rw[e,hp]at h;cases h)]
   exact h
  refine⟨pp,_,rfl,.of qe,rfl,_,_,rfl,_,_,rfl,rfl,?_⟩
  show tt (some x::some y::rest) _ _
  refine ht x y _ hm _ ?_
  refine(show if true=true then _ else _ from ?_)
  rw[if_pos rfl]
  refine he x y hm _ (λb o h=>s1 _ _ (s _ _ h)) _ λG2 s2=>?_
  refine⟨_,s2 _ _ (s1 _ _ hG),?_,⟨_,_,rfl⟩,?_,?_⟩
  ·rw[tj,zag,zbT];omega
  ·intro b o h
   rw[qi (λe=>by rw[e,hD]at h;cases h)]
   exact s2 _ _ (s1 _ _ (s _ _ h))
  ·rw[tO,exy,tH]
   exact qe
 ·rintro σ' G ⟨_,s,hG⟩
  rw[tI (tu _)]at hG
  exact⟨kf (sq G s).1 (sq G s).2,k G s hG⟩
end
structure Q0(P:Program)(w:World)(K:zdw)(mg:Str->Option Value)(base:Heap)(CX:zp)(k:Nat)(f:Addr)(fd:zdA)(ps:List Str)(sp:Sp):Prop where
 len:∀vs H Q E,sp vs H Q E->vs.length=ps.length
 run:∀(A:Around) (outer:List Env) (s:Shared) (H:Hp) (args:Args) (us:List Value) (vs:List V) (Q:VK) (E:XK),0 < s.toks->qO k A->VG P w K mg base A outer s H->BindsTo s fd args (ps.zip us)->qR vs us->sp vs H Q E->
  codeAny (model P w) A (.call (.ref f) args) (CR CX outer P w H s Q E) s
theorem qo.toT{P:Program}{w:World}{K:zdw}{mg:Str->Option Value}{base:Heap}{CX:zp}{k:Nat}{f:Addr}{fd:zdA}{ps:List Str}{sp:Sp}(F:qo P w K mg base CX k f fd ps sp):Q0 P w K mg base CX k f fd ps sp:=
 ⟨F.len,λA outer s H args us vs Q E _=>F.run A outer s H args us vs Q E⟩
section
variable{X:Cx}{o:Expr}{to:TE}{y z:Str}{j j':Nat}{p p' apos cpos:Pos}
def wJ(K:zdw)(to:TE)(y z:Str):TE:=λσ H Q=>to σ H λx H1=>∃x':Str,x=.str x'/\x'.length<=1000000/\Q (.str (Txt.replace x' y z)) H1
theorem C0(ho:PE X o to)(hyz:(y==z)=false)(hz:z.length<=14)(hbase:attributeBase o "replace" X.env (eval o X.env)=eval o X.env:=by rfl)
  (hfew:((backTo cpos (starEach [.Constant (.str y) j p,.Constant (.str z) j' p'] X.env)).all (λx=> !x.1)&&(backToKw cpos (keywordEach [] X.env)).all (λx=>x.1.isSome)
   &&decide (([.Constant (.str y) j p,.Constant (.str z) j' p']:List Expr).length+([]:List Keyword).length+(if ([]:List Keyword).isEmpty then 0 else 1) < 30))=true:=by rfl)
  (hline:(apos.endLine==cpos.line)=true:=by rfl) (hs:starEach [.Constant (.str y) j p,.Constant (.str z) j' p'] X.env=[(false,eval (.Constant (.str y) j p) X.env),(false,eval (.Constant (.str z) j' p') X.env)]:=by rfl)
  (pins:List (Addr×Obj)) (s:Shared) (σ:L2.St) (H:Hp) (Q:VK) (I:qz X pins σ H s) (h:wJ X.K to y z σ H Q) (ht:0 < s.toks):
  wpAny (model X.prog X.w) X.A (eval (.Call (.Attribute o "replace" apos) [.Constant (.str y) j p,.Constant (.str z) j' p'] [] cpos) X.env) (EP X pins σ Q) X.xe s:=by
 refine wpAny_Call_method_late hbase hfew hline rfl (wpAny_mono (wpAny_toks_of ht (ho pins s σ H _ I h)) (λv s1 ⟨t1,x,H1,I1,r1,x',e,hx,q1⟩=>?_) λe s' q=>q.2)
 subst e
 obtain⟨t,rfl⟩:=r1
 refine⟨"str","str.replace",t9,zcK,zcL,typeIs_str _ _ _,?_⟩
 refine⟨(λa e=>by cases e),?_⟩
 rw[hs]
 refine Calls.callWith_builtin rfl (Calls.evalArgs_plain (Calls.spliced_cons (Calls.Constant_str (k:=j) (pos:=p) (Calls.spliced_cons (Calls.Constant_str (k:=j') (pos:=p') (Calls.spliced_nil ?_))))))
 exact SC.replaceW (by show s1.toks≠0;omega) (by show s1.toks+1≠0;omega) (by show s1.toks≠s1.toks+1;omega) hyz (by omega) hz λt' k=>⟨.str _,H1,I1.tok k,⟨t',rfl⟩,q1⟩
end
theorem BK{CX:zp}{P:Program}{w:World}{K:zdw}{mg:Str->Option Value}{base:Heap}{x qual:Str}{st:Stmt}{f:Addr}{fd:zdA}{N ps:List Str}{k:Nat}{sp:Sp}(F:jw K x qual st f fd)(S:qp N ps (qj st))(len:∀vs H Q E,sp vs H Q E->vs.length=ps.length)
  (hbody:∀(cdv:Value) (A:Around) (outer:List Env) (s s1:Shared) (H:Hp) (vs:List V) (Q:VK) (E:XK),qO k (A.deeper (envOfC qual (qj st) s.heap.objs.size f cdv))->sp vs H Q E->0 < s1.toks->qz (Qk CX P w K mg base N qual (qj st) f cdv A outer s H E) [] (Ze N vs) H s1->
   wpAny (model P w) (Qk CX P w K mg base N qual (qj st) f cdv A outer s H E).A (execs (jV st) (Qk CX P w K mg base N qual (qj st) f cdv A outer s H E).env) (SP (Qk CX P w K mg base N qual (qj st) f cdv A outer s H E) [] {nx:=λ_ H'=>Q .non H',rt:=Q})
    (Qk CX P w K mg base N qual (qj st) f cdv A outer s H E).xe s1):Q0 P w K mg base CX (k+1) f fd ps sp:=by
 obtain⟨oc,od,kV,doc,pm,an,cdv,ct,osl,rfl,lk,hcd⟩:=F.ex
 refine⟨len,λA outer s H args us vs Q E ht hr e0 hb r hsp=>?_⟩
 have KX:K.In s.heap:=e0.mod.kin.keeps λb o e=>(e0.bs b o e).1
 have lim:s.heap.NoLimit:=e0.mod.nolimit.keeps λb o e=>(e0.bs b o e).1
 refine codeAny_call_function hr.depth (KX _ _ lk) rfl S.co S.gen rfl (zdj KX hcd) (hb _ _ _ _ (wpAny_with_toks ht (wpAny_newFunctionEnv_cells S.kind (λ⟨n,v⟩ hy=>?_) λenv he s1 y=>λht1=>?_)))
 ·rcases S.par n (zbS hy).1 with q | q
  ·exact .inl q
  ·exact .inr ⟨q,zbX _ _ _ (.inl q)⟩
 ·subst he
  refine⟨lim.keeps y.toInCall.keep,codeAny_func (wpAny_mono (hbody cdv A outer s s1 H vs Q E (hr.deeper _) hsp ht1 (WK S hr.hd e0 (len _ _ _ _ hsp) r y)) (λfl s' hs=>?_) λe s' hs=>hs)⟩
  cases fl with
  | ret u=>
   obtain⟨v,σ',H',J,rv,q⟩:=hs
   exact⟨v,H',J.os,J.bare,J.base,J.hok,rv,q⟩
  | next=>
   obtain⟨σ',H',J,q⟩:=hs
   exact⟨.non,H',J.os,J.bare,J.base,J.hok,rfl,q⟩
  | brk=>
   obtain⟨_,_,_,q⟩:=hs
   exact False.elim q
  | cont=>
   obtain⟨_,_,_,q⟩:=hs
   exact False.elim q
section
variable{X:Cx}{CX:zp}{k:Nat}{f:Addr}{fd:zdA}{ps:List Str}{sp:Sp}{E:L2.St->XK}
theorem RY{pins:List (Addr×Obj)}{σ:L2.St}{H:Hp}{s:Shared}{Q:VK}{us:List Value}{vs:List V}(F:Q0 X.prog X.w X.K X.mg X.base CX k f fd ps sp)(ht:0 < s.toks)(hr:qO k X.A)(hb:ji X.K fd ps [])(hx:Q4 CX X E)
  (I:qz X pins σ H s) (r:qR vs us) (h:sp vs H Q (E σ)):wpAny (model X.prog X.w) X.A (call (.ref f) us) (EP X pins σ Q) X.xe s:=by
 have ll:us.length=ps.length:=r.length.symm.trans (F.len _ _ _ _ h)
 have hb':=hb s us I.kIn (by simpa using ll)
 rw[zaX]at hb'
 refine wpAny_call (codeAny_mono (F.run X.A X.stack s H ⟨us,[]⟩ us vs Q (E σ) ht hr I.env0 hb' r h) λz s' q=>?_)
 match z,q with
 | .error y,q=>exact hx pins σ H s y s' I q
 | .ok (.ret u),q=>exact I.after q
end
section
variable{X:Cx}{e:Expr}{pos:Pos}{pins:List (Addr×Obj)}{s:Shared}{σ:L2.St}{H:Hp}{D:JN}
theorem EB(h:wpAny (model X.prog X.w) X.A (eval e X.env) (EP X pins σ D.rt) X.xe s):wpAny (model X.prog X.w) X.A (execs [.Return (some e) pos] X.env) (SP X pins D) X.xe s:=by
 refine wpAny_execs_cons (wpAny_Return_some (wpAny_mono h (λv s1 ⟨x,H1,I1,r1,q1⟩=>?_) λ_ _ q=>q))
 exact⟨x,σ,H1,I1,r1,q1⟩
end
section
variable{X:Cx}{o i:Expr}{tf:TE}{t:TA}{e:Expr}{es:List Expr}{p pos:Pos}{C:Addr->Sp->Prop}{E:L2.St->XK}{CX:zp}
theorem vZ(hC:∀f sp,C f sp->∃(k:Nat) (fd:zdA) (ps:List Str),Q0 X.prog X.w X.K X.mg X.base CX k f fd ps sp/\qO k X.A/\zal X.K (.ref f)=true/\ji X.K fd ps [])(hx:Q4 CX X E)(ha:PA X (e::es) t)
  (hev:eval (.Call (.Subscript o i p) (e::es) [] pos) X.env=(eval (.Subscript o i p) X.env >>= λf=>callWith pos f [] (backTo pos (starEach (e::es) X.env)) (backToKw pos (keywordEach [] X.env))):=by rfl)
  (ht:∀{pins:List (Addr×Obj)} {s:Shared} {σ:L2.St} {H:Hp} {Q:VK},qz X pins σ H s->tf σ H Q->wpAny (model X.prog X.w) X.A (eval (.Subscript o i p) X.env) (λv s'=>EP X pins σ Q v s'/\0 < s'.toks) X.xe s)
  (he:starEach (e::es) X.env=(false,eval e X.env)::starEach es X.env:=by rfl) (hpl:(backTo pos (starEach es X.env)).any (·.1)=false:=by rfl):
  PE X (.Call (.Subscript o i p) (e::es) [] pos) (wQ C E tf t):=by
 intro pins s σ H Q I h
 rw[hev]
 refine zdy (wpAny_mono (ht I h) (λu s1 ⟨⟨v,H1,I1,r1,f,sp,e1,c,h1⟩,t1⟩=>?_) λ_ _ q=>q)
 subst e1
 cases r1
 obtain⟨k,fd,ps,F,hr,hk,hb⟩:=hC f sp c
 exact zaS (h₀:=X.base) I1.ok.mod.kin hk (wpAny_mono (wpAny_toks_of t1 (ha pos pins s1 σ _ _ I1 h1)) (λus s2 ⟨t2,vs,H2,I2,r,q⟩=>⟨I2.kIn,RY F t2 hr hb hx I2 r q⟩) λ_ _ q=>q.2) he hpl
theorem WI{td ty:TE}(ho:JE X o td)(hi:JE X i ty)(hs:Mi i)(hC:∀f sp,C f sp->∃(k:Nat) (fd:zdA) (ps:List Str),Q0 X.prog X.w X.K X.mg X.base CX k f fd ps sp/\qO k X.A/\zal X.K (.ref f)=true/\ji X.K fd ps [])(hx:Q4 CX X E)(ha:JA X (e::es) t)(hev:eval (.Call (.Subscript o i p) (e::es) [] pos) X.env=(eval (.Subscript o i p) X.env >>= λf=>callWith pos f [] (backTo pos (starEach (e::es) X.env)) (backToKw pos (keywordEach [] X.env))):=by rfl)(he:starEach (e::es) X.env=(false,eval e X.env)::starEach es X.env:=by rfl)(hpl:(backTo pos (starEach es X.env)).any (·.1)=false:=by rfl):JE X (.Call (.Subscript o i p) (e::es) [] pos) (wQ C E (wM X.K X.prog X.w td ty) t):=.of (by
 have ho:=ho.to
 have hi:=hi.to
 have ha:=ha.to
 refine vZ hC hx ha hev (λ{pins s σ H Q} I h=>?_) he hpl
 refine W1 zbK.lookup hs (jm (ho pins s σ H _ I h) λu s1 ⟨x,H1,I1,rx,q1⟩=>jm (hi pins s1 σ H1 _ I1 q1) λiv s2 ⟨y,H2,I2,ry,a,kvs,k,v,ex,ey,kd,ev,q2⟩=>?_)
 subst ex
 subst ey
 obtain rfl:u=Value.ref a:=rx
 obtain⟨hd,vs,rel,dd⟩:=kd.at_ I2
 obtain⟨w',hw,rw'⟩:=JM.some_of (v:=v) (o:=valueAt vs k) (by rw[<-ev];exact rel.val k)
 exact⟨dd.typeIs,wpAny_getItem_of (Z3 ry) dd.mapOf hw ⟨⟨v,H2,I2.tok _,rw',q2⟩,Nat.succ_pos _⟩⟩)
end
section
variable{X:Cx}{o e:Expr}{es:List Expr}{to:TE}{t:TA}{y z sep:Str}{j j' j0:Nat}{p p' p0 apos cpos apos' cpos':Pos}
def Fi(X:Cx)(o:Expr)(to:TE):Prop:=∀(pins:List (Addr×Obj)) (s:Shared) (σ:L2.St) (H:Hp) (Q:VK),qz X pins σ H s->to σ H Q->wpAny (model X.prog X.w) X.A (eval o X.env) (λv s'=>EP X pins σ Q v s'/\0 < s'.toks) X.xe s
theorem Nc(ho:Fi X o to)(hyz:(y==z)=false)(hz:z.length<=14)(hbase:attributeBase o "replace" X.env (eval o X.env)=eval o X.env:=by rfl)
  (hfew:((backTo cpos (starEach [.Constant (.str y) j p,.Constant (.str z) j' p'] X.env)).all (λx=> !x.1)&&(backToKw cpos (keywordEach [] X.env)).all (λx=>x.1.isSome)
   &&decide (([.Constant (.str y) j p,.Constant (.str z) j' p']:List Expr).length+([]:List Keyword).length+(if ([]:List Keyword).isEmpty then 0 else 1) < 30))=true:=by rfl)
  (hline:(apos.endLine==cpos.line)=true:=by rfl) (hs:starEach [.Constant (.str y) j p,.Constant (.str z) j' p'] X.env=[(false,eval (.Constant (.str y) j p) X.env),(false,eval (.Constant (.str z) j' p') X.env)]:=by rfl):
  PE X (.Call (.Attribute o "replace" apos) [.Constant (.str y) j p,.Constant (.str z) j' p'] [] cpos) (wJ X.K to y z):=by
 intro pins s σ H Q I h
 refine wpAny_Call_method_late hbase hfew hline rfl (wpAny_mono (ho pins s σ H _ I h) (λv s1 ⟨⟨x,H1,I1,r1,x',e,hx,q1⟩,t1⟩=>?_) λe s' q=>q)
 subst e
 obtain⟨t,rfl⟩:=r1
 refine⟨"str","str.replace",t9,zcK,zcL,typeIs_str _ _ _,(λa e=>by cases e),?_⟩
 rw[hs]
 refine Calls.callWith_builtin rfl (Calls.evalArgs_plain (Calls.spliced_cons (Calls.Constant_str (k:=j) (pos:=p) (Calls.spliced_cons (Calls.Constant_str (k:=j') (pos:=p') (Calls.spliced_nil ?_))))))
 exact SC.replaceW (by show s1.toks≠0;omega) (by show s1.toks+1≠0;omega) (by show s1.toks≠s1.toks+1;omega) hyz (by omega) hz λt' k=>⟨.str _,H1,I1.tok k,⟨t',rfl⟩,q1⟩
theorem NS(ho:Fi X o to)(hyz:(y==z)=false)(hz:z.length<=14)(hbase:attributeBase o "replace" X.env (eval o X.env)=eval o X.env:=by rfl) (hfew:((backTo cpos (starEach [.Constant (.str y) j p,.Constant (.str z) j' p'] X.env)).all (λx=> !x.1)&&(backToKw cpos (keywordEach [] X.env)).all (λx=>x.1.isSome)
 &&decide (([.Constant (.str y) j p,.Constant (.str z) j' p']:List Expr).length+([]:List Keyword).length+(if ([]:List Keyword).isEmpty then 0 else 1) < 30))=true:=by rfl) (hline:(apos.endLine==cpos.line)=true:=by rfl) (hs:starEach [.Constant (.str y) j p,.Constant (.str z) j' p'] X.env=[(false,eval (.Constant (.str y) j p) X.env),(false,eval (.Constant (.str z) j' p') X.env)]:=by rfl):JE X (.Call (.Attribute o "replace" apos) [.Constant (.str y) j p,.Constant (.str z) j' p'] [] cpos) (wJ X.K to y z):=.of (Nc ho hyz hz hbase hfew hline hs)
theorem Ds(ha:PA X (e::es) t)(hbase:attributeBase (.Constant (.str sep) j0 p0) "join" X.env (eval (.Constant (.str sep) j0 p0) X.env)=eval (.Constant (.str sep) j0 p0) X.env:=by rfl)
  (hfew:((backTo cpos (starEach (e::es) X.env)).all (λx=> !x.1)&&(backToKw cpos (keywordEach [] X.env)).all (λx=>x.1.isSome)
   &&decide ((e::es).length+([]:List Keyword).length+(if ([]:List Keyword).isEmpty then 0 else 1) < 30))=true:=by rfl)
  (hline:(apos.endLine==cpos.line)=true:=by rfl) (hs:starEach (e::es) X.env=(false,eval e X.env)::starEach es X.env:=by rfl) (hplain:(backTo cpos (starEach es X.env)).any (·.1)=false:=by rfl):
  Fi X (.Call (.Attribute (.Constant (.str sep) j0 p0) "join" apos) (e::es) [] cpos) (Eb X.K "str" (uS X.K) (tC (.str sep)) t):=by
 intro pins s σ H Q I h
 have I0:qz X pins σ H {s with toks:=s.toks+1}:=I.tok _
 refine wpAny_Call_method_late hbase hfew hline rfl (Calls.Constant_str ⟨"str","str.join",t9,zat,zau,typeIs_str _ _ _,(λa e=>by cases e),?_⟩)
 refine wpAny_mono (wpAny_toks_of (n:=1) (Nat.succ_le_succ (zao _)) (Q:=EP X pins σ Q) (E:=X.xe) ?_) (λv s' q=>⟨q.2,q.1⟩) λe s' q=>q.2
 have hA:=ha cpos pins _ σ H _ I0 h.2
 rw[hs]at hA ⊢
 refine Calls.callWith_builtin (by show (false || (backTo cpos (starEach es X.env)).any (·.1))=false;rw[hplain]<;>rfl) (Calls.evalArgs_plain ?_)
 exact jm hA λus s2 ⟨vs,H2,I2,r2,q2⟩=>Qu pins s2 σ H2 (.str sep) vs _ us Q I2 ⟨_,rfl⟩ r2 q2
end
end L2
namespace Rb
def Qy(ns:List Nat):Nat:=ns.foldl (·^^^ ·) 0
def setN(ns:List Nat):Nat:=ns.foldl (λb n=>b ||| 2^n) 0
def memN(b n:Nat):List Nat:=(zaD n).filter λi=>b.testBit i
def Lacks(r:Nat)(ns:List Nat):Prop:=r∉ns/\∀x,x < r->x∈ns
theorem Bt(x:Nat):x % 2=(x.testBit 0).toNat:=by
 rw[zcP]
 rcases Nat.mod_two_eq_zero_or_one x with h | h<;>simp [h]
theorem or_and_xor(a:Nat):∀b,(a ||| b)=(a&&& b)+(a^^^b):=by
 induction a using zcl with
 | ind a ih=>
  intro b
  by_cases ha:a=0
  ·subst ha;simp
  ·have i:=ih (a / 2) (by omega) (b / 2)
   have o1:(a ||| b) / 2=(a / 2) ||| (b / 2):=Nat.or_div_two
   have n1:(a&&& b) / 2=(a / 2)&&& (b / 2):=Nat.and_div_two
   have x1:(a^^^b) / 2=(a / 2)^^^ (b / 2):=Nat.xor_div_two
   have m:(a ||| b) % 2=(a&&& b) % 2+(a^^^b) % 2:=by
    rw[Bt (a ||| b),Bt (a&&& b),Bt (a^^^b),Nat.testBit_or,Nat.testBit_and,zbC]
    cases a.testBit 0<;>cases b.testBit 0<;>rfl
   omega
theorem Gi(ns:List Nat):∀b k,(ns.foldl (λb n=>b ||| 2^n) b).testBit k=(b.testBit k || decide (k∈ns)):=by
 induction ns with
 | nil=>intro b k;simp
 | cons n ns ih=>
  intro b k
  rw[zcm,ih,Nat.testBit_or,Nat.testBit_two_pow]
  by_cases h:n=k
  ·subst h;simp
  ·have h':¬k=n:=λe=>h e.symm
   simp [h,h']
theorem JQ(ns:List Nat)(k:Nat):(setN ns).testBit k=decide (k∈ns):=by
 unfold setN
 rw[Gi]
 simp
theorem mem_memN{b n i:Nat}:i∈memN b n↔i < n/\b.testBit i=true:=by
 unfold memN
 simp
theorem VW{b k m:Nat}(h:b < 2^m)(hk:m<=k):b.testBit k=false:=Nat.testBit_lt_two_pow (tE h (Nat.pow_le_pow_right (by decide) hk))
theorem WC{b m:Nat}(h:b < 2^m):∀n,m<=n->memN b n=memN b m:=by
 intro n hn
 obtain⟨k,rfl⟩:=Nat.le.dest hn
 unfold memN
 rw[List.range_add,zbb]
 have e:((zaD k).map (m+·)).filter (λi=>b.testBit i)=[]:=by
  rw[List.filter_eq_nil_iff]
  intro i hi
  obtain⟨j,_,rfl⟩:=tQ.mp hi
  rw[VW h (zce _ _)]
  simp
 rw[e,zaX]
theorem memN_same{b m n:Nat}(hm:b < 2^m)(hn:b < 2^n):memN b n=memN b m:=by
 by_cases h:m<=n
 ·exact WC hm n h
 ·exact(WC hn m (by omega)).symm
theorem kN{ns:List Nat}{m:Nat}(h:∀x∈ns,x < m):setN ns < 2^m:=by
 refine Nat.lt_pow_two_of_testBit _ λi hi=>?_
 rw[JQ]
 refine decide_eq_false λz=>?_
 have:=h i z
 omega
def turnN(b n m:Nat):Nat:=setN ((memN b m).map (·^^^n))
theorem xor_lt{a b m:Nat}(h1:a < 2^m)(h2:b < 2^m):a^^^b < 2^m:=Nat.xor_lt_two_pow h1 h2
theorem kg(a b:Nat):(a^^^b)^^^b=a:=by rw[zbd,zbJ,zcV]
theorem ko{b n m k:Nat}(hm:m<=2^k)(hn:n < 2^k):turnN b n m < 2^ (2^k):=by
 refine kN λx hx=>?_
 obtain⟨y,hy,rfl⟩:=tQ.mp hx
 exact xor_lt (tE (mem_memN.mp hy).1 hm) hn
theorem pigeon:∀(n:Nat) (ns:List Nat),(∀x,x < n->x∈ns)->n<=ns.length:=by
 intro n
 induction n with
 | zero=>intro ns _;exact zao _
 | succ n ih=>
  intro ns h
  have hn:n∈ns:=h n (zbu n)
  have:=ih (ns.erase n) λx hx=>(zcj (by omega)).mpr (h x (zcI hx))
  rw[zcM hn]at this
  have hp:0 < ns.length:=zca hn
  omega
theorem Lacks.uniq{r s:Nat}{ns:List Nat}(h:Lacks r ns)(g:Lacks s ns):r=s:=by
 rcases zaJ r s with z | z | z
 ·exact absurd (g.2 r z) h.1
 ·exact z
 ·exact absurd (h.2 s z) g.1
def Zh(ns:List Nat):Nat->Nat
 | 0=>0
 | i+1=>if Zh ns i∈ns then Zh ns i+1 else Zh ns i
theorem vO(ns:List Nat):∀i,(∀x,x < Zh ns i->x∈ns)/\Zh ns i<=i/\(Zh ns i < i->Zh ns i∉ns):=by
 intro i
 induction i with
 | zero=>exact⟨λx hx=>absurd hx (zbU _),tu _,λh=>absurd h (zaB _)⟩
 | succ i ih=>
  obtain⟨h1,h2,h3⟩:=ih
  unfold Zh
  by_cases h:Zh ns i∈ns
  ·rw[if_pos h]
   refine⟨λx hx=>?_,by omega,λhlt=>absurd h (h3 (by omega))⟩
   by_cases e:x=Zh ns i
   ·rw[e];exact h
   ·exact h1 x (by omega)
  ·rw[if_neg h]
   exact⟨h1,by omega,λ_=>h⟩
theorem lackI_lacks(ns:List Nat):Lacks (Zh ns (ns.length+1)) ns:=by
 obtain⟨h1,h2,h3⟩:=vO ns (ns.length+1)
 refine⟨h3 ?_,h1⟩
 have:=pigeon _ _ h1
 omega
def lackN(ns:List Nat):Nat:=Zh ns (ns.length+1)
theorem lackN_eq{r:Nat}{ns:List Nat}(h:Lacks r ns):r=lackN ns:=h.uniq (lackI_lacks ns)
theorem memN_succ(b i:Nat):memN b (i+1)=memN b i++(if b.testBit i then [i] else []):=by
 unfold memN
 rw[List.range_succ,zbb]
 congr 1
 by_cases h:b.testBit i=true
 ·simp [h]
 ·simp [h]
theorem testBit_div(b i:Nat):b.testBit i=decide (b / 2^i % 2=1):=by
 rw[Nat.testBit_eq_decide_div_mod_eq]
theorem VN(ns:List Nat)(n:Nat):Qy (ns++[n])=Qy ns^^^n:=by unfold Qy;rw[zcb];rfl
theorem setN_snoc(ns:List Nat)(n:Nat):setN (ns++[n])=setN ns ||| 2^n:=by unfold setN;rw[zcb];rfl
end Rb
namespace MLab
theorem kq:∀(g m:Nat),m < g->∃k,m.testBit k=false/\g.testBit k=true/\∀j,k < j->m.testBit j=g.testBit j:=by
 intro g
 induction g using zcl with
 | _ g ih=>
  intro m h
  by_cases c:m / 2 < g / 2
  ·obtain⟨k,h1,h2,h3⟩:=ih (g / 2) (by omega) (m / 2) c
   refine⟨k+1,by rw[zbw];exact h1,by rw[zbw];exact h2,λj hj=>?_⟩
   cases j with
   | zero=>omega
   | succ j=>rw[zbw,zbw];exact h3 j (by omega)
  ·have e:m / 2=g / 2:=by omega
   refine⟨0,?_,?_,λj hj=>?_⟩
   ·rw[zcP];simp;omega
   ·rw[zcP];simp;omega
   ·cases j with
    | zero=>omega
    | succ j=>rw[zbw,zbw,e]
theorem Bu{x y:Nat}(k:Nat)(hx:x.testBit k=false)(hy:y.testBit k=true)(h:∀j,k < j->x.testBit j=y.testBit j):x < y:=by
 rcases zaJ x y with c | rfl | c
 ·exact c
 ·rw[hx]at hy;cases hy
 ·obtain⟨i,h1,h2,h3⟩:=kq _ _ c
  rcases zaJ i k with d | rfl | d
  ·have:=h3 k d;rw[hx,hy]at this;cases this
  ·rw[hy]at h1;cases h1
  ·have:=h i d;rw[h1,h2]at this;cases this
def j8(ns:List Nat):Nat:=ns.foldr (λa b=>a^^^b) 0
theorem ZN(a:Nat)(ns:List Nat):j8 (a::ns)=a^^^j8 ns:=rfl
theorem VL{k:Nat}:∀{ns:List Nat},(j8 ns).testBit k=true->∃n∈ns,n.testBit k=true
 | [],h=>by simp [j8]at h
 | a::ns,h=>by
  rw[ZN,zbC]at h
  cases e:a.testBit k with
  | true=>exact⟨a,tK,e⟩
  | false=>
   rw[e,Bool.false_xor]at h
   obtain⟨n,hn,h'⟩:=VL h
   exact⟨n,tF _ hn,h'⟩
theorem yO{ns:List Nat}{m:Nat}(h:m < j8 ns):∃n∈ns,n^^^j8 ns^^^m < n:=by
 obtain⟨k,h1,h2,h3⟩:=kq _ _ h
 obtain⟨n,hn,hk⟩:=VL h2
 refine⟨n,hn,Bu k ?_ hk λj hj=>?_⟩
 ·rw[zbC,zbC,hk,h1,h2];rfl
 ·rw[zbC,zbC,h3 j hj]
  cases n.testBit j<;>cases (j8 ns).testBit j<;>rfl
section
variable{α:Type}(G:α->List α)
structure VJ(ok:α->Prop)(num:α->Option Nat)(stp:α->Nat):Prop where
 cl:∀{x y},ok x->y∈G x->ok y
 n1:∀{x n m},ok x->num x=some n->m < n->∃y∈G x,num y=some m/\stp y < stp x
 n2:∀{x y n},ok x->num x=some n->y∈G x->num y≠some n
 n3:∀{x y n},ok x->num x=some n->y∈G x->(∀m,num y=some m->n < m)->∃z∈G y,num z=some n/\stp z < stp x
 n4:∀{x y n m},ok x->num x=some n->y∈G x->num y=some m->m < n->stp y < stp x
 e:∀{x m},ok x->num x=none->(∀j,j < m->∃y∈G x,num y=some j)->(∀y∈G x,num y≠some m)->∃y∈G x,num y=none/\∀z∈G y,num z≠some m
section
variable{β:Type}(M:β->List β)
mutual
inductive zT:β->Prop
 | mk {a:β} (h:∀b∈M a,Won b):zT a
inductive Won:β->Prop
 | mk {a b:β} (m:b∈M a) (h:zT b):Won a
end
end
def mv:List α->List (List α)
 | []=>[]
 | x::h=>(G x).map (λy=>y::h)++(mv h).map (λb=>x::b)
theorem Qa:∀{a b:List α},b∈mv G a↔∃p x y q,a=p++x::q/\y∈G x/\b=p++y::q
 | [],b=>by
  constructor
  ·intro h;simp [mv]at h
  ·rintro⟨p,x,y,q,e,_⟩;simp at e
 | x::h,b=>by
  unfold mv
  rw[zar,tQ,tQ]
  constructor
  ·rintro(⟨y,hy,rfl⟩ | ⟨b',hb,rfl⟩)
   ·exact⟨[],x,y,h,rfl,hy,rfl⟩
   ·obtain⟨p,u,y,q,rfl,hy,rfl⟩:=Qa.mp hb
    exact⟨x::p,u,y,q,rfl,hy,rfl⟩
  ·rintro⟨p,u,y,q,e,hy,rfl⟩
   cases p with
   | nil=>
    cases e
    exact .inl ⟨y,hy,rfl⟩
   | cons v p=>
    cases e
    exact .inr ⟨p++y::q,Qa.mpr ⟨p,u,y,q,rfl,hy,rfl⟩,rfl⟩
variable{G}{ok:α->Prop}{num:α->Option Nat}{stp:α->Nat}
def Qi(num:α->Option Nat)(h:List α):List Nat:=h.filterMap num
def QQ(num:α->Option Nat)(h:List α):Nat:=(h.filter λx=>(num x).isNone).length
theorem VM(a b:List Nat):j8 (a++b)=j8 a^^^j8 b:=by
 induction a with
 | nil=>show j8 b=0^^^j8 b;rw[zcs]
 | cons x a ih=>rw[zcN,ZN,ih,ZN,zbd]
theorem Qo{p q:List α}{x:α}{n:Nat}(h:num x=some n):j8 (Qi num (p++x::q))=n^^^j8 (Qi num (p++q)):=by
 unfold Qi
 rw[zaz,zav,h,zaz,VM,VM]
 show _^^^ (n^^^j8 _)=_
 rw[<-zbd,zdq _ n,zbd]
theorem XE{p q:List α}{x:α}(h:num x=none):Qi num (p++x::q)=Qi num (p++q):=by
 unfold Qi
 rw[zaz,zav,h,zaz]
theorem jO{p q:List α}{x:α}{n:Nat}(h:num x=some n):QQ num (p++x::q)=QQ num (p++q):=by
 unfold QQ
 rw[zbb,zbx,h,zbb]
 rfl
theorem j5{p q:List α}{x:α}(h:num x=none):QQ num (p++x::q)=QQ num (p++q)+1:=by
 unfold QQ
 rw[zbb,zbx,h,zbb,tR,tR]
 show _+(_+1)=_
 omega
def UW(stp:α->Nat)(h:List α):Nat:=(h.map stp).sum
theorem ZI{p q:List α}{x:α}:UW stp (p++x::q)=stp x+UW stp (p++q):=by
 unfold UW
 rw[tH,tL,zbk,zam,tH,zbk]
 omega
theorem Xf{a b c:Nat}(h:a^^^c=b^^^c):a=b:=by
 have:a^^^c^^^c=b^^^c^^^c:=by rw[h]
 rwa [zbd,zbd,zbJ,zcV,zcV]at this
theorem W0(L:VJ G ok num stp){h:List α}(hk:∀x∈h,ok x){m:Nat}(lt:m < j8 (Qi num h)):∃p x y q,h=p++x::q/\y∈G x/\(∃n k,num x=some n/\num y=some k)/\j8 (Qi num (p++y::q))=m/\stp y < stp x:=by
 obtain⟨n,hn,hl⟩:=yO lt
 obtain⟨x,hx,ex⟩:=zaR.mp hn
 obtain⟨p,q,rfl⟩:=zcB hx
 obtain⟨y,hy,ey,ly⟩:=L.n1 (hk x hx) ex hl
 refine⟨p,x,y,q,rfl,hy,⟨n,_,ex,ey⟩,?_,ly⟩
 rw[Qo ey,Qo ex]
 generalize j8 (Qi num (p++q))=r
 rw[<-zbd n n r,zbJ,zcs,zdq r m,zbd,zbJ,zcV]
theorem zh{h p q:List α}{x y:α}(L:VJ G ok num stp)(hk:∀x∈h,ok x)(e:h=p++x::q)(hy:y∈G x):∀z∈p++y::q,ok z:=λz hz=>by
 subst e
 rcases zar.mp hz with hz | hz
 ·exact hk z (zaK _ hz)
 ·rcases tJ.mp hz with rfl | hz
  ·exact L.cl (hk x (by simp)) hy
  ·exact hk z (zan _ (tF _ hz))
theorem xF(L:VJ G ok num stp):∀(c:Nat) {h:List α},UW stp h<=c->(∀x∈h,ok x)->QQ num h=0->j8 (Qi num h)=0->zT (mv G) h:=by
 intro c
 induction c using zcl with
 | _ c ih=>
  intro h hc hk he hx
  refine .mk λb hb=>?_
  obtain⟨p,x,y,q,rfl,hy,rfl⟩:=(Qa G).mp hb
  have okx:=hk x (by simp)
  have hk':=zh L hk rfl hy
  cases ex:num x with
  | none=>rw[j5 ex]at he;omega
  | some n=>
   rw[jO ex]at he
   rw[Qo ex]at hx
   rw[ZI]at hc
   have back:(∀m,num y=some m->n < m)->Won (mv G) (p++y::q):=λgt=>by
    obtain⟨z,hz,ez,lz⟩:=L.n3 okx ex hy gt
    refine .mk (b:=p++z::q) ((Qa G).mpr ⟨p,y,z,q,rfl,hz,rfl⟩) (ih (UW stp (p++z::q)) (by rw[ZI];omega) (tu _) (zh L hk' rfl hz) (by rw[jO ez];exact he) (by rw[Qo ez];exact hx))
   cases ey:num y with
   | none=>exact back λm h=>by rw[ey]at h;cases h
   | some k=>
    rcases zaJ k n with lt | rfl | gt
    ·have ly:=L.n4 okx ex hy ey lt
     have pos:0 < j8 (Qi num (p++y::q)):=by
      rw[Qo ey]
      refine zdm λz=>?_
      have:=Xf (z.trans hx.symm)
      omega
     obtain⟨p',x',y',q',e',hy',⟨n',k',en,ek⟩,x0,l'⟩:=W0 L hk' pos
     have ce:UW stp (p++y::q)=stp y+UW stp (p++q):=ZI
     rw[e',ZI]at ce
     have ee:QQ num (p++y::q)=0:=by rw[jO ey];exact he
     refine .mk (b:=p'++y'::q') ((Qa G).mpr ⟨p',x',y',q',e',hy',rfl⟩) (ih (UW stp (p'++y'::q')) (by rw[ZI];omega) (tu _) (zh L hk' e' hy') ?_ x0)
     rw[e',jO en]at ee
     rw[jO ek]
     exact ee
    ·exact absurd ey (L.n2 okx ex hy)
    ·exact back λm h=>by rw[ey]at h;cases h;exact gt
def Drawn(G:α->List α)(num:α->Option Nat)(h:List α):Prop:=(∃p x q,h=p++x::q/\num x=none/\QQ num (p++q)=0/\∀y∈G x,num y≠some (j8 (Qi num (p++q))))\/2<=QQ num h
theorem ZH{h:List α}:0 < QQ num h↔∃p x q,h=p++x::q/\num x=none:=by
 unfold QQ
 constructor
 ·intro c
  obtain⟨x,hx⟩:=List.exists_mem_of_length_pos c
  obtain⟨h1,h2⟩:=zaw.mp hx
  obtain⟨p,q,e⟩:=zcB h1
  exact⟨p,x,q,e,by simpa using h2⟩
 ·rintro⟨p,x,q,rfl,ex⟩
  exact zca (a:=x) (zaw.mpr ⟨by simp,by rw[ex];rfl⟩)
theorem lack(L:VJ G ok num stp){x:α}(okx:ok x)(ex:num x=none):∃m,(∀j,j < m->∃y∈G x,num y=some j)/\(∀y∈G x,num y≠some m)/\∃y∈G x,num y=none/\∀z∈G y,num z≠some m:=by
 have ⟨b,hb⟩:∃b,∀y∈G x,num y≠some b:=by
  refine⟨(Qi num (G x)).sum+1,λy hy e=>?_⟩
  have:∀(l:List Nat) (n:Nat),n∈l->n<=l.sum:=by
   intro l
   induction l with
   | nil=>intro n h;cases h
   | cons a l ih=>
    intro n h
    rw[zam]
    rcases tJ.mp h with rfl | h
    ·omega
    ·have:=ih n h;omega
  have q:(Qi num (G x)).sum+1∈Qi num (G x):=zaR.mpr ⟨y,hy,e⟩
  have:=this _ _ q
  omega
 have ⟨m,hm,least⟩:∃m,(∀y∈G x,num y≠some m)/\∀j,j < m->¬∀y∈G x,num y≠some j:=by
  induction b using zcl with
  | _ b ih=>
   by_cases c:∃j,j < b/\∀y∈G x,num y≠some j
   ·obtain⟨j,hj,h⟩:=c
    exact ih j hj h
   ·exact⟨b,hb,λj hj h=>c ⟨j,hj,h⟩⟩
 have lo:∀j,j < m->∃y∈G x,num y=some j:=λj hj=>Classical.byContradiction λn=>least j hj λy hy e=>n ⟨y,hy,e⟩
 exact⟨m,lo,hm,L.e okx ex lo hm⟩
theorem Gr(L:VJ G ok num stp){h:List α}(hk:∀x∈h,ok x)(d:Drawn G num h):∃b∈mv G h,Drawn G num b:=by
 rcases d with ⟨p,x,q,rfl,ex,he,no⟩ | two
 ·have okx:=hk x (by simp)
  obtain⟨m,lo,hm,y,hy,ey,ly⟩:=lack L okx ex
  rcases zaJ m (j8 (Qi num (p++q))) with lt | e | gt
  ·have hk':∀z∈p++q,ok z:=λz hz=>hk z (by
    rcases zar.mp hz with hz | hz
    ·exact zaK _ hz
    ·exact zan _ (tF _ hz))
   obtain⟨p',x',y',q',e',hy',⟨n',k',en,ek⟩,x0,_⟩:=W0 L hk' lt
   have key:∃p2 q2,p++x::q∈[p++x::q]/\(p2++x::q2)∈mv G (p++x::q)/\p2++q2=p'++y'::q':=by
    rcases List.append_eq_append_iff.mp e' with ⟨r,e1,e2⟩ | ⟨r,e1,e2⟩
    ·
     refine⟨p,r++y'::q',by simp,(Qa G).mpr ⟨p++x::r,x',y',q',?_,hy',?_⟩,?_⟩
     ·rw[e2];simp
     ·simp
     ·rw[e1];simp
    ·
     cases r with
     | nil=>
      simp at e1 e2
      refine⟨p,y'::q',by simp,(Qa G).mpr ⟨p++[x],x',y',q',?_,hy',?_⟩,?_⟩
      ·rw[<-e2];simp
      ·simp
      ·rw[e1]
     | cons u r=>
      rw[zcN]at e2
      obtain⟨rfl,e3⟩:=zbv.inj e2
      refine⟨p'++y'::r,q,by simp,(Qa G).mpr ⟨p',x',y',r++x::q,?_,hy',?_⟩,?_⟩
      ·rw[e1];simp
      ·simp
      ·rw[e3];simp
   obtain⟨p2,q2,_,hm2,e2⟩:=key
   refine⟨_,hm2,.inl ⟨p2,x,q2,rfl,ex,?_,?_⟩⟩
   ·rw[e2,jO ek]
    rw[e',jO en]at he
    exact he
   ·rw[e2,x0]
    exact hm
  ·exact⟨p++y::q,(Qa G).mpr ⟨p,x,y,q,rfl,hy,rfl⟩,.inl ⟨p,y,q,rfl,ey,he,by rw[<-e];exact ly⟩⟩
  ·obtain⟨y',hy',e'⟩:=lo _ gt
   exact absurd e' (no y' hy')
 ·obtain⟨p,x,q,rfl,ex⟩:=ZH.mp (by omega:0 < QQ num h)
  obtain⟨m,lo,hm,y,hy,ey,ly⟩:=lack L (hk x (by simp)) ex
  refine⟨p++y::q,(Qa G).mpr ⟨p,x,y,q,rfl,hy,rfl⟩,.inr ?_⟩
  rw[j5 ex]at two
  rw[j5 ey]
  exact two
def YS(num:α->Option Nat)(h:List α):Prop:=QQ num h=0/\j8 (Qi num h)=0
theorem yN(L:VJ G ok num stp){h b:List α}(hk:∀x∈h,ok x)(z:YS num h)(m:b∈mv G h):¬YS num b:=λw=>by
 obtain⟨p,x,y,q,rfl,hy,rfl⟩:=(Qa G).mp m
 cases ex:num x with
 | none=>have:=z.1;rw[j5 ex]at this;omega
 | some n=>
  cases ey:num y with
  | none=>have:=w.1;rw[j5 ey]at this;omega
  | some k=>
   have h1:=z.2
   have h2:=w.2
   rw[Qo ex]at h1
   rw[Qo ey]at h2
   have:=Xf (h1.trans h2.symm)
   subst this
   exact L.n2 (hk x (by simp)) ex hy ey
theorem XV{h b:List α}(d:Drawn G num h)(m:b∈mv G h):¬YS num b:=λw=>by
 obtain⟨p',u,y,q',rfl,hy,rfl⟩:=(Qa G).mp m
 cases eu:num u with
 | some n=>
  have pos:0 < QQ num (p'++u::q'):=by
   rcases d with ⟨p,x,q,e,ex,_⟩ | two
   ·exact ZH.mpr ⟨p,x,q,e,ex⟩
   ·omega
  rw[jO eu]at pos
  have w1:=w.1
  cases ey:num y with
  | none=>rw[j5 ey]at w1;omega
  | some k=>rw[jO ey]at w1;omega
 | none=>
  have w1:=w.1
  cases ey:num y with
  | none=>rw[j5 ey]at w1;omega
  | some k=>
   rw[jO ey]at w1
   rcases d with ⟨p,x,q,e,ex,he,no⟩ | two
   ·have hu:u∈p++x::q:=by rw[<-e];simp
    have ux:u=x:=Classical.byContradiction λne=>by
     have:u∈p++q:=by
      rcases zar.mp hu with h | h
      ·exact zaK _ h
      ·rcases tJ.mp h with h | h
       ·exact absurd h ne
       ·exact zan _ h
     obtain⟨a,b,e2⟩:=zcB this
     have:=ZH.mpr ⟨a,u,b,e2,eu⟩
     omega
    subst ux
    have en:Qi num (p'++q')=Qi num (p++q):=by rw[<-XE (p:=p') (q:=q') eu,e,XE eu]
    have w2:=w.2
    rw[Qo ey,en]at w2
    have:k=j8 (Qi num (p++q)):=Xf (c:=j8 (Qi num (p++q))) (by rw[w2,zbJ])
    exact no y hy (by rw[ey,this])
   ·rw[j5 eu]at two
    omega
theorem kind(L:VJ G ok num stp){h:List α}(hk:∀x∈h,ok x):YS num h\/Drawn G num h\/∃b∈mv G h,YS num b/\∀x∈b,ok x:=by
 rcases zaJ (QQ num h) 1 with c | c | c
 ·have he:QQ num h=0:=by omega
  by_cases hx:j8 (Qi num h)=0
  ·exact .inl ⟨he,hx⟩
  ·obtain⟨p,x,y,q,e,hy,⟨n,k,en,ek⟩,x0,_⟩:=W0 L hk (zdm hx)
   refine .inr (.inr ⟨p++y::q,(Qa G).mpr ⟨p,x,y,q,e,hy,rfl⟩,⟨?_,x0⟩,zh L hk e hy⟩)
   rw[e,jO en]at he
   rw[jO ek]
   exact he
 ·obtain⟨p,x,q,rfl,ex⟩:=ZH.mp (by omega:0 < QQ num h)
  rw[j5 ex]at c
  have he:QQ num (p++q)=0:=by omega
  by_cases d:∃y∈G x,num y=some (j8 (Qi num (p++q)))
  ·obtain⟨y,hy,ey⟩:=d
   exact .inr (.inr ⟨p++y::q,(Qa G).mpr ⟨p,x,y,q,rfl,hy,rfl⟩,⟨by rw[jO ey];exact he,by rw[Qo ey,zbJ]⟩,zh L hk rfl hy⟩)
  ·exact .inr (.inl (.inl ⟨p,x,q,rfl,ex,he,λy hy e=>d ⟨y,hy,e⟩⟩))
 ·exact .inr (.inl (.inr (by omega)))
mutual
theorem yf(L:VJ G ok num stp){h:List α}(hk:∀x∈h,ok x):zT (mv G) h->YS num h
 | .mk w=>by
  rcases kind L hk with z | d | ⟨b,hb,z,kb⟩
  ·exact z
  ·obtain⟨b,hb,d'⟩:=Gr L hk d
   have kb:∀x∈b,ok x:=by
    obtain⟨p,x,y,q,e,hy,rfl⟩:=(Qa G).mp hb
    exact zh L hk e hy
   exact absurd d' (won_is L kb (w b hb)).1
  ·exact absurd z (won_is L kb (w b hb)).2
theorem won_is(L:VJ G ok num stp){h:List α}(hk:∀x∈h,ok x):Won (mv G) h->¬Drawn G num h/\¬YS num h
 | .mk (b:=b) m l=>by
  have kb:∀x∈b,ok x:=by
   obtain⟨p,x,y,q,e,hy,rfl⟩:=(Qa G).mp m
   exact zh L hk e hy
  have z:=yf L kb l
  exact⟨λd=>XV d m z,λz'=>yN L hk z' m z⟩
end
theorem UE(L:VJ G ok num stp){h:List α}(hk:∀x∈h,ok x):zT (mv G) h↔YS num h:=⟨yf L hk,λz=>xF L _ (tu _) hk z.1 z.2⟩
theorem Rj(L:VJ G ok num stp){h:List α}(hk:∀x∈h,ok x):Won (mv G) h↔¬Drawn G num h/\¬YS num h:=⟨won_is L hk,λ⟨d,z⟩=>by
 rcases kind L hk with z' | d' | ⟨b,hb,z',kb⟩
 ·exact absurd z' z
 ·exact absurd d' d
 ·exact .mk hb ((UE L kb).mpr z')⟩
end
section
variable{α:Type}[DecidableEq α](G:α->List α)(N:List α)
abbrev Rs(α:Type):=List (Nat×List α)
def q0(rs:Rs α)(z:α):Option Nat:=(rs.find? λr=>decide (z∈r.2)).map (·.1)
def ze(rs:Rs α)(z:α):Nat:=rs.findIdx λr=>decide (z∈r.2)
def B1(f:α->Option Nat)(x:α)(n:Nat):Prop:=(∀j,j < n->∃y∈G x,f y=some j)/\(∀y∈G x,f y≠some n)/\∀y∈G x,f y=none->∃z∈G y,f z=some n
structure yI(rs:Rs α)(n:Nat)(ns:List α):Prop where
 iff:∀x,x∈ns↔x∈N/\q0 rs x=none/\B1 G (q0 rs) x n
 sub:ns.Sublist N
inductive Zc(n:Nat):Rs α->Rs α->Prop
 | stop {rs:Rs α} (h:yI G N rs n []):Zc n rs rs
 | more {rs rs':Rs α} {ns:List α} (h:yI G N rs n ns) (ne:ns≠[]) (k:Zc n (rs++[(n,ns)]) rs'):Zc n rs rs'
inductive All:Nat->Rs α->Rs α->Prop
 | stop {n:Nat} {rs:Rs α} (h:yI G N rs n []):All n rs rs
 | more {n:Nat} {rs rs' rs'':Rs α} (h:Zc G N n rs rs') (ne:rs'≠rs) (k:All (n+1) rs' rs''):All n rs rs''
variable{G N}
theorem ZG{rs:Rs α}{n:Nat}{ns:List α}{z:α}:q0 (rs++[(n,ns)]) z=match q0 rs z with | some m=>some m | none=>if z∈ns then some n else none:=by
 unfold q0
 rw[List.find?_append]
 cases e:rs.find? (λr=>decide (z∈r.2)) with
 | some r=>rfl
 | none=>
  by_cases c:z∈ns
  ·simp [c]
  ·simp [c]
theorem Xe{rs:Rs α}{z:α}:q0 rs z=none↔∀r∈rs,z∉r.2:=by
 unfold q0
 rw[Option.map_eq_none_iff,zdl]
 simp
theorem JR{rs:Rs α}{n m:Nat}{ns:List α}{z:α}(h:q0 rs z=some m):ze (rs++[(n,ns)]) z=ze rs z/\ze rs z < rs.length:=by
 have ex:∃r∈rs,z∈r.2:=Classical.byContradiction λno=>by
  have:=Xe.mpr λr hr hz=>no ⟨r,hr,hz⟩
  rw[h]at this
  cases this
 obtain⟨r,hr,hz⟩:=ex
 have lt:ze rs z < rs.length:=List.findIdx_lt_length_of_exists ⟨r,hr,decide_eq_true hz⟩
 refine⟨?_,lt⟩
 unfold ze at lt ⊢
 rw[zdh,if_pos lt]
theorem RW{rs:Rs α}{n:Nat}{ns:List α}{z:α}(h:q0 rs z=none)(hz:z∈ns):ze (rs++[(n,ns)]) z=rs.length:=by
 have e:ze rs z=rs.length:=by
  unfold ze
  rw[List.findIdx_eq_length]
  intro r hr
  exact decide_eq_false (Xe.mp h r hr)
 unfold ze at e ⊢
 rw[zdh,if_neg (by rw[e];exact zaB _)]
 simp [hz,List.findIdx_cons]
variable(G N) in
structure Ae(rs:Rs α)(n:Nat):Prop where
 inN:∀{x m},q0 rs x=some m->x∈N
 le:∀{x m},q0 rs x=some m->m<=n
 n1:∀{x k m},q0 rs x=some k->m < k->∃y∈G x,q0 rs y=some m/\ze rs y < ze rs x
 n2:∀{x y k},q0 rs x=some k->y∈G x->q0 rs y≠some k
 n3:∀{x y k},q0 rs x=some k->y∈G x->(∀m,q0 rs y=some m->k < m)->∃z∈G y,q0 rs z=some k/\ze rs z < ze rs x
 n4:∀{x y k m},q0 rs x=some k->y∈G x->q0 rs y=some m->m < k->ze rs y < ze rs x
theorem zO{rs:Rs α}{n m:Nat}{ns:List α}{z:α}(h:q0 rs z=some m):q0 (rs++[(n,ns)]) z=some m:=by rw[ZG,h]
theorem Ab{rs:Rs α}{n:Nat}{ns:List α}{z:α}(h:q0 rs z=none)(hz:z∈ns):q0 (rs++[(n,ns)]) z=some n:=by
 rw[ZG,h]
 exact if_pos hz
theorem Qx{rs:Rs α}{n m:Nat}{ns:List α}{z:α}(h:q0 (rs++[(n,ns)]) z=some m):(q0 rs z=some m/\ze (rs++[(n,ns)]) z=ze rs z/\ze rs z < rs.length)\/(q0 rs z=none/\z∈ns/\m=n/\ze (rs++[(n,ns)]) z=rs.length):=by
 cases e:q0 rs z with
 | some k=>
  rw[zO e]at h
  cases h
  exact .inl ⟨rfl,JR e⟩
 | none=>
  rw[ZG,e]at h
  by_cases c:z∈ns
  ·have h:(if z∈ns then some n else none)=some m:=h
   rw[if_pos c]at h
   cases h
   exact .inr ⟨rfl,c,rfl,RW e c⟩
  ·have h:(if z∈ns then some n else none)=some m:=h
   rw[if_neg c]at h
   cases h
theorem Gn{rs:Rs α}{n:Nat}{ns:List α}{z:α}(h:q0 (rs++[(n,ns)]) z=none):q0 rs z=none:=by
 cases e:q0 rs z with
 | none=>rfl
 | some k=>rw[zO e]at h;cases h
theorem Ae.more{rs:Rs α}{n:Nat}{ns:List α}(v:Ae G N rs n)(r:yI G N rs n ns):Ae G N (rs++[(n,ns)]) n:=by
 refine⟨λ{x m} h=>?_,λ{x m} h=>?_,λ{x k m} h lt=>?_,λ{x y k} h hy e=>?_,λ{x y k} h hy gt=>?_,λ{x y k m} h hy ey lt=>?_⟩
 ·rcases Qx h with ⟨h,_⟩ | ⟨_,h,_⟩
  ·exact v.inN h
  ·exact((r.iff x).mp h).1
 ·rcases Qx h with ⟨h,_⟩ | ⟨_,_,rfl,_⟩
  ·exact v.le h
  ·exact tu _
 ·rcases Qx h with ⟨h,es,_⟩ | ⟨h,hx,rfl,es⟩
  ·obtain⟨y,hy,ey,ly⟩:=v.n1 h lt
   exact⟨y,hy,zO ey,by rw[es,(JR ey).1];exact ly⟩
  ·obtain⟨y,hy,ey⟩:=((r.iff x).mp hx).2.2.1 m lt
   exact⟨y,hy,zO ey,by rw[es,(JR (n:=k) (ns:=ns) ey).1];exact(JR (n:=k) (ns:=ns) ey).2⟩
 ·rcases Qx h with ⟨h,_⟩ | ⟨h,hx,rfl,_⟩
  ·rcases Qx e with ⟨e,_⟩ | ⟨e1,hy',e2,_⟩
   ·exact v.n2 h hy e
   ·obtain⟨z,hz,ez,_⟩:=v.n3 h hy (λm q=>by rw[e1]at q;cases q)
    rw[e2]at ez
    exact((r.iff y).mp hy').2.2.2.1 z hz ez
  ·have g:=((r.iff x).mp hx).2.2
   rcases Qx e with ⟨e,_⟩ | ⟨e,hy',_,_⟩
   ·exact g.2.1 y hy e
   ·obtain⟨z,hz,ez⟩:=g.2.2 y hy e
    exact((r.iff y).mp hy').2.2.2.1 z hz ez
 ·rcases Qx h with ⟨h,es,_⟩ | ⟨h,hx,rfl,es⟩
  ·obtain⟨z,hz,ez,lz⟩:=v.n3 h hy (λm q=>gt m (zO q))
   exact⟨z,hz,zO ez,by rw[es,(JR ez).1];exact lz⟩
  ·have bare:q0 rs y=none:=by
    cases e:q0 rs y with
    | none=>rfl
    | some m=>
     have:=gt m (zO e)
     have:=v.le e
     omega
   obtain⟨z,hz,ez⟩:=((r.iff x).mp hx).2.2.2.2 y hy bare
   exact⟨z,hz,zO ez,by rw[es,(JR (n:=k) (ns:=ns) ez).1];exact(JR (n:=k) (ns:=ns) ez).2⟩
 ·rcases Qx h with ⟨h,es,_⟩ | ⟨h,hx,rfl,es⟩
  ·rcases Qx ey with ⟨ey,es',_⟩ | ⟨_,_,em,_⟩
   ·rw[es,es']
    exact v.n4 h hy ey lt
   ·have:=v.le h
    omega
  ·rcases Qx ey with ⟨ey,es',l'⟩ | ⟨_,_,rfl,_⟩
   ·rw[es,es']
    exact l'
   ·omega
variable(G N) in
def EP(rs:Rs α)(m:Nat):Prop:=∀x∈N,q0 rs x=none->(∀j,j < m->∃y∈G x,q0 rs y=some j)->(∀y∈G x,q0 rs y≠some m)->∃y∈G x,q0 rs y=none/\∀z∈G y,q0 rs z≠some m
theorem Gq{rs:Rs α}{n:Nat}(r:yI G N rs n []):EP G N rs n:=λx hx e lo hi=>Classical.byContradiction λno=>by
 refine absurd ((r.iff x).mpr ⟨hx,e,lo,hi,λy hy ey=>Classical.byContradiction λq=>no ⟨y,hy,ey,λz hz ez=>q ⟨z,hz,ez⟩⟩⟩) (by simp)
theorem N4{rs:Rs α}{n m:Nat}{ns:List α}(v:Ae G N rs n)(r:yI G N rs n ns)(lt:m < n)(h:EP G N rs m):EP G N (rs++[(n,ns)]) m:=λx hx e lo hi=>by
 have old:∀{z j},j<=m->q0 (rs++[(n,ns)]) z=some j->q0 rs z=some j:=λ{z j} hj ez=>by
  rcases Qx ez with ⟨ez,_⟩ | ⟨_,_,rfl,_⟩
  ·exact ez
  ·omega
 obtain⟨y,hy,ey,ly⟩:=h x hx (Gn e) (λj hj=>let ⟨y,hy,ey⟩:=lo j hj;⟨y,hy,old (by omega) ey⟩) (λy hy ey=>hi y hy (zO ey))
 refine⟨y,hy,?_,λz hz ez=>ly z hz (old (tu _) ez)⟩
 cases q:q0 (rs++[(n,ns)]) y with
 | none=>rfl
 | some k=>
  rcases Qx q with ⟨q,_⟩ | ⟨_,hy',rfl,_⟩
  ·rw[ey]at q;cases q
  ·obtain⟨z,hz,ez⟩:=((r.iff y).mp hy').2.2.1 m lt
   exact absurd ez (ly z hz)
theorem NZ{n:Nat}{rs rs':Rs α}(g:Zc G N n rs rs'):Ae G N rs n->(∀m,m < n->EP G N rs m)->Ae G N rs' n/\∀m,m<=n->EP G N rs' m:=by
 induction g with
 | stop r=>exact λv h=>⟨v,λm hm=>by
  rcases zbe m n with c | c
  ·exact h m c
  ·have:m=n:=by omega
   subst this
   exact Gq r⟩
 | more r ne k ih=>exact λv h=>ih (v.more r) λm hm=>N4 v r hm (h m hm)
theorem BS(cl:∀x∈N,∀y∈G x,y∈N){n:Nat}{rs rs':Rs α}(a:All G N n rs rs'):Ae G N rs n->(∀x m,q0 rs x=some m->m < n)->(∀m,m < n->EP G N rs m)->VJ G (·∈N) (q0 rs') (ze rs'):=by
 induction a with
 | @stop n rs r=>
  intro v lt h
  refine⟨λ{x y} hx hy=>cl x hx y hy,λ{x n m} _=>v.n1,λ{x y n} _=>v.n2,λ{x y n} _=>v.n3,λ{x y n m} _=>v.n4,λ{x m} hx e lo hi=>?_⟩
  rcases zaJ m n with c | rfl | c
  ·exact h m c x hx e lo hi
  ·exact Gq r x hx e lo hi
  ·obtain⟨y,_,ey⟩:=lo n c
   have:=lt y n ey
   omega
 | @more n rs rs1 rs2 g ne k ih=>
  intro v lt h
  obtain⟨v',h'⟩:=NZ g v h
  exact ih ⟨v'.inN,λ{x m} e=>Nat.le_succ_of_le (v'.le e),v'.n1,v'.n2,v'.n3,v'.n4⟩ (λx m e=>Nat.lt_succ_of_le (v'.le e)) λm hm=>h' m (by omega)
theorem Rk(n:Nat):Ae G N ([]:Rs α) n:=⟨λh=>(nomatch h),λh=>(nomatch h),λh=>(nomatch h),λh=>(nomatch h),λh=>(nomatch h),λh=>(nomatch h)⟩
theorem xK(cl:∀x∈N,∀y∈G x,y∈N){rs:Rs α}(a:All G N 0 [] rs):VJ G (·∈N) (q0 rs) (ze rs):=BS cl a (Rk 0) (λx m h=>(nomatch h)) λm h=>absurd h (zbU m)
end
end MLab
namespace Rb
theorem Q1{b n k:Nat}(hn:n < 16):(turnN b n 16).testBit k=(decide (k < 16)&&b.testBit (k^^^n)):=by
 unfold turnN
 rw[JQ,zaW,decide_eq_true_iff,zaa,decide_eq_true_iff,tQ]
 constructor
 ·rintro⟨y,hy,rfl⟩
  obtain⟨h1,h2⟩:=mem_memN.mp hy
  exact⟨xor_lt (m:=4) h1 hn,by rw[kg];exact h2⟩
 ·rintro⟨h1,h2⟩
  exact⟨k^^^n,mem_memN.mpr ⟨xor_lt (m:=4) h1 hn,h2⟩,kg k n⟩
theorem yU{b x y:Nat}(hx:x < 16)(hy:y < 16):turnN (turnN b x 16) y 16=turnN b (x^^^y) 16:=by
 refine Nat.eq_of_testBit_eq λk=>?_
 have hxy:x^^^y < 16:=xor_lt (m:=4) hx hy
 rw[Q1 hy,Q1 hx,Q1 hxy,zbd,zdq y x]
 by_cases hk:k < 16
 ·rw[decide_eq_true hk,decide_eq_true (xor_lt (m:=4) hk hy)]
  simp
 ·rw[decide_eq_false hk]
  simp
theorem wE(n:Nat):turnN 0 n 16=0:=by
 unfold turnN
 have e:memN 0 16=[]:=by decide
 rw[e]
 rfl
inductive W where
 | num (n:Nat)
 | edl (b:Nat)
deriving DecidableEq
def zF:W->W->W
 | .num a,.num b=>.num (a^^^b)
 | .num a,.edl b=>.edl (turnN b a 16)
 | .edl b,.num a=>.edl (turnN b a 16)
 | .edl _,.edl _=>.edl 0
def Yl:W->Prop
 | .num n=>n < 16
 | .edl b=>b < 65536
def Zg(ws:List W):List Nat:=ws.filterMap λ| .num n=>some n | .edl _=>none
def Jm(ws:List W):List Nat:=ws.filterMap λ| .num _=>none | .edl b=>some b
def JP(ws:List W):W:=match Jm ws with
 | []=>.num (Qy (Zg ws))
 | [b]=>.edl (turnN b (Qy (Zg ws)) 16)
 | _=>.edl 0
theorem x8(ns:List Nat):∀a,ns.foldl (·^^^ ·) a=a^^^Qy ns:=by
 induction ns with
 | nil=>intro a;simp [Qy]
 | cons n ns ih=>
  intro a
  unfold Qy
  rw[zcm,zcm,ih (a^^^n),ih (0^^^n),zcs,zbd]
theorem YA(n:Nat)(ns:List Nat):Qy (n::ns)=n^^^Qy ns:=by
 show ns.foldl (·^^^ ·) (0^^^n)=_
 rw[x8,zcs]
theorem zV{ns:List Nat}(h:∀x∈ns,x < 16):Qy ns < 16:=by
 induction ns with
 | nil=>decide
 | cons n ns ih=>
  rw[YA]
  exact xor_lt (m:=4) (h n (tK ..)) (ih λx hx=>h x (tF _ hx))
theorem yb{ws:List W}(h:∀w∈ws,Yl w):∀x∈Zg ws,x < 16:=by
 intro x hx
 obtain⟨w,hw,e⟩:=zaR.mp hx
 cases w with
 | num n=>cases e;exact h _ hw
 | edl b=>cases e
theorem xz(ws:List W)(w:W):Zg (ws++[w])=Zg ws++(match w with | .num n=>[n] | .edl _=>[]):=by
 unfold Zg
 rw[zaz]
 cases w<;>rfl
theorem yZ(ws:List W)(w:W):Jm (ws++[w])=Jm ws++(match w with | .num _=>[] | .edl b=>[b]):=by
 unfold Jm
 rw[zaz]
 cases w<;>rfl
theorem wF{ws:List W}{w:W}(h:∀w∈ws,Yl w)(hw:Yl w):JP (ws++[w])=zF (JP ws) w:=by
 have hl:=zV (yb h)
 unfold JP
 rw[yZ,xz]
 cases w with
 | num n=>
  simp only[zaX]
  have e:Qy (Zg ws++[n])=Qy (Zg ws)^^^n:=VN _ _
  cases hs:Jm ws with
  | nil=>simp only[e];rfl
  | cons b r=>
   cases r with
   | nil=>
    simp only[e]
    show W.edl _=W.edl _
    rw[yU hl hw]
   | cons c r=>
    show W.edl 0=W.edl _
    rw[wE]
 | edl b=>
  simp only[zaX]
  cases hs:Jm ws with
  | nil=>rfl
  | cons c r=>
   cases r with
   | nil=>rfl
   | cons c2 r=>rfl
theorem wG{ws:List W}(h:∀w∈ws,Yl w):Yl (JP ws):=by
 have hl:=zV (yb h)
 unfold JP
 split
 ·exact hl
 ·exact ko (k:=4) (tu _) hl
 ·show 0 < 65536;decide
theorem Gj{ws:List W}(h:∀w∈ws,Yl w):∀i,i<=ws.length->(ws.take i).foldl zF (.num 0)=JP (ws.take i):=by
 intro i
 induction i with
 | zero=>intro _;rfl
 | succ i ih=>
  intro hi
  have hlt:i < ws.length:=hi
  have e:ws.take (i+1)=ws.take i++[ws[i]]:=by rw[tO,tW hlt];rfl
  rw[e,zcb,ih (zaC hlt),wF (λw hw=>h w (zdf hw)) (h _ (zaT hlt))]
  rfl
theorem UO{ws:List W}(h:∀w∈ws,Yl w):ws.foldl zF (.num 0)=JP ws:=by
 have:=Gj h ws.length (tu _)
 rw[tI (tu _)]at this
 exact this
end Rb
namespace MLab
section
variable{α:Type}(G:α->List α)
def gS:α ⊕ Nat->List (α ⊕ Nat)
 | .inl z=>(G z).map .inl
 | .inr h=>(zaD h).map .inr
def vH(num:α->Option Nat):α ⊕ Nat->Option Nat
 | .inl z=>num z
 | .inr h=>some h
variable{G}{ok:α->Prop}{num:α->Option Nat}{stp:α->Nat}
def two(b:α×Nat):List (α ⊕ Nat):=[.inl b.1,.inr b.2]
end
section
variable{β:Type}{M:β->List β}
end
section
variable{α:Type}[DecidableEq α]{G:α->List α}{N:List α}
theorem YW:∀{l m:List α},l.Sublist m->m.Nodup->l=m.filter λx=>decide (x∈l)
 | _,_,.slnil,_=>rfl
 | l,a::m,.cons _ h,nd=>by
  rw[zaG]at nd
  have na:a∉l:=λz=>nd.1 (h.subset z)
  rw[zbx,if_neg (by simpa using na)]
  exact YW h nd.2
 | a::l,_::m,.cons₂ _ h,nd=>by
  rw[zaG]at nd
  rw[zbx,if_pos (by simp)]
  congr 1
  have e:=YW h nd.2
  refine e.trans (zcc λx hx=>?_)
  have ne:x≠a:=λz=>nd.1 (z▸hx)
  simp [ne]
theorem yI.uniq(nd:N.Nodup){rs:Rs α}{n:Nat}{ns ms:List α}(a:yI G N rs n ns)(b:yI G N rs n ms):ns=ms:=by
 rw[YW a.sub nd,YW b.sub nd]
 exact zcc λx _=>decide_eq_decide.mpr ((a.iff x).trans (b.iff x).symm)
theorem Zc.uniq(nd:N.Nodup){n:Nat}{rs a b:Rs α}(h:Zc G N n rs a):Zc G N n rs b->a=b:=by
 induction h with
 | stop r=>
  intro k
  cases k with
  | stop _=>rfl
  | more r' ne _=>exact absurd (r'.uniq nd r) ne
 | more r ne k ih=>
  intro k'
  cases k' with
  | stop r'=>exact absurd (r.uniq nd r') ne
  | more r' _ k2=>
   have:=r.uniq nd r'
   subst this
   exact ih k2
theorem All.uniq(nd:N.Nodup){n:Nat}{rs a b:Rs α}(h:All G N n rs a):All G N n rs b->a=b:=by
 induction h with
 | stop r=>
  intro k
  cases k with
  | stop _=>rfl
  | more g ne _=>
   have:=g.uniq nd (Zc.stop r)
   exact absurd this ne
 | more g ne k ih=>
  intro k'
  cases k' with
  | stop r'=>exact absurd (g.uniq nd (Zc.stop r')) ne
  | more g' _ k2=>
   have:=g.uniq nd g'
   subst this
   exact ih k2
variable(G N) in
inductive BV:Nat->Rs α->Prop
 | nil:BV 0 []
 | more {n:Nat} {rs rs':Rs α} (h:BV n rs) (g:Zc G N n rs rs'):BV (n+1) rs'
end
section
variable{β:Type}[DecidableEq β]{M:β->List β}
mutual
theorem Ky{a:β}:zT M a->¬Won M a
 | .mk w=>λ⟨m,l⟩=>won_not (w _ m) l
theorem won_not{a:β}:Won M a->¬zT M a
 | .mk m l=>λ⟨w⟩=>Ky l (w _ m)
end
def pr(M:β->List β)(Bs:List β)(h:β):List β:=Bs.filter λc=>decide (h∈M c)
def opn(P l:List β):Nat:=(l.filter λc=>decide (c∉P)).length
structure Gnd(M:β->List β)(Bs:List β):Prop where
 nd:Bs.Nodup
 cl:∀{a b},a∈Bs->b∈M a->b∈Bs
 mnd:∀{a},a∈Bs->(M a).Nodup
structure Bi(M:β->List β)(Bs:List β)(F:β->Option Bool)(P ln:List β)(lf:β->Nat)(h:β)(j:Nat):Prop where
 dom:∀b,(F b).isSome=true↔b∈P\/b=h\/b∈ln
 nd:(P++h::ln).Nodup
 sub:∀b∈P++h::ln,b∈Bs
 lost:∀{b},F b=some false->zT M b
 won:∀{b},F b=some true->Won M b
 cnt:∀{b},b∈Bs->F b=none->lf b+(if b∈(pr M Bs h).take j then 1 else 0)=opn P (M b)/\0 < lf b/\(∀c∈M b,c∈P->F c=some true)/\(b∈(pr M Bs h).take j->F h=some true)
structure Bk(M:β->List β)(Bs:List β)(F:β->Option Bool)(P ln:List β)(lf:β->Nat):Prop where
 dom:∀b,(F b).isSome=true↔b∈P\/b∈ln
 nd:(P++ln).Nodup
 sub:∀b∈P++ln,b∈Bs
 lost:∀{b},F b=some false->zT M b
 won:∀{b},F b=some true->Won M b
 cnt:∀{b},b∈Bs->F b=none->lf b=opn P (M b)/\0 < lf b/\∀c∈M b,c∈P->F c=some true
variable{Bs:List β}{F:β->Option Bool}{P ln:List β}{lf:β->Nat}{h:β}
end
end MLab
namespace Rh
open PySem L2
def top(i:Nat):Stmt:=PySem.Challenge.pw_ringheaps_k92_desk_refused.main.body.getD i (.Pass ⟨0,0,0,0⟩)
abbrev QZ:Stmt:=top 22
abbrev Ul:Stmt:=top 139
abbrev zz:Stmt:=top 140
abbrev Ub:Stmt:=top 141
abbrev Wb:Stmt:=top 148
open PySem L2 PyProof.Rows
structure qZ(K:zdw)(mg:Str->Option Value)(x:Str)(st:Stmt)(ps:List Str)(f:Addr)(fd:zdA):Prop where
 fn:jw K x x st f fd
 ns:mg x=some (.ref f)
 bi:ji K fd ps []
theorem qT{X:Cx}{x:Str}{st:Stmt}{ps:List Str}{f:Addr}{fd:zdA}{k:Nat}{sp:Sp}{e:Expr}{es:List Expr}{t:TA}{p pos:Pos}(h:qZ X.K X.mg x st ps f fd)(G:qo X.prog X.w X.K X.mg X.base qJ k f fd ps sp)(hr:qO k X.A)
 (hg:Gl X x) (ha:JA X (e::es) t) (hdb:(x==("__debug__":Str))=false:=by decide) (he:starEach (e::es) X.env=(false,eval e X.env)::starEach es X.env:=by rfl) (hpl:(backTo pos (starEach es X.env)).any (·.1)=false:=by rfl):
 JE X (.Call (.Name x p) (e::es) [] pos) (QY sp [] E0 t):=.of (Vh G hr hg h.ns h.fn.kp h.bi .nil jG ha.to hdb he hpl)
theorem qw{H:Hp}{b p:Addr}{o o':HO}(h:H b=some o)(hp:H p=none):upd H p o' b=some o:=by
 rw[qi (qr h hp)]
 exact h
theorem qm{H:Hp}{p:Addr}{o:HO}(hp:H p=none):Same H (upd H p o):=λb u h=>qw h hp
theorem Same.upd{H H':Hp}{p:Addr}{o:HO}(s:Same H H')(hp:H p=none):Same H (upd H' p o):=λb u h=>by
 rw[qi (qr h hp)]
 exact s b u h
def Q6(n s t:Int):List (qG×V):=[(Sum.inr "number",.int n),(Sum.inr "seed",.int s),(Sum.inr "turn",.int t)]
theorem nns:¬(zdx "number")=zdx "seed":=by decide+kernel
theorem EN:¬(zdx "number")=zdx "turn":=by decide+kernel
theorem EM:¬(zdx "seed")=zdx "turn":=by decide+kernel
theorem nsn:¬(zdx "seed")=zdx "number":=by decide+kernel
theorem ntn:¬(zdx "turn")=zdx "number":=by decide+kernel
theorem nts:¬(zdx "turn")=zdx "seed":=by decide+kernel
theorem K2{a b:Str}(h:¬a=b):¬(Sum.inr a:qG)=Sum.inr b:=λe=>h (Sum.inr.inj e)
section
variable{H:Hp}{d:Addr}{n s t:Int}
theorem gN(h:H d=some (.dK (Q6 n s t))):jU H d (.str "number") (some (.int n)):=by
 have e:jc (Q6 n s t) (Sum.inr "number":qG)=some (.int n):=jK rfl
 have q:=jU.k (k:=(Sum.inr "number":qG)) h
 rw[e]at q
 exact q
theorem gS(h:H d=some (.dK (Q6 n s t))):jU H d (.str "seed") (some (.int s)):=by
 have e:jc (Q6 n s t) (Sum.inr "seed":qG)=some (.int s):=(jL (K2 nns)).trans (jK rfl)
 have q:=jU.k (k:=(Sum.inr "seed":qG)) h
 rw[e]at q
 exact q
theorem gT(h:H d=some (.dK (Q6 n s t))):jU H d (.str "turn") (some (.int t)):=by
 have e:jc (Q6 n s t) (Sum.inr "turn":qG)=some (.int t):=(jL (K2 EN)).trans ((jL (K2 EM)).trans (jK rfl))
 have q:=jU.k (k:=(Sum.inr "turn":qG)) h
 rw[e]at q
 exact q
theorem Ct:(Q6 n s t).length < zdB:=qy (by show 3<=1000;decide)
theorem pN(h:H d=some (.dK (Q6 n s t)))(v:Int):Jk H d (.str "number") (.int v) (upd H d (.dK (Q6 v s t))):=by
 have e:Qn (Q6 n s t) (Sum.inr "number":qG) (.int v)=Q6 v s t:=by
  unfold Qn Q6
  simp [nsn,ntn]
 have q:=Jk.k (k:=(Sum.inr "number":qG)) (v:=.int v) h Ct
 rw[e]at q
 exact q
theorem pT(h:H d=some (.dK (Q6 n s t)))(v:Int):Jk H d (.str "turn") (.int v) (upd H d (.dK (Q6 n s v))):=by
 have e:Qn (Q6 n s t) (Sum.inr "turn":qG) (.int v)=Q6 n s v:=by
  unfold Qn Q6
  simp [EN,EM]
 have q:=Jk.k (k:=(Sum.inr "turn":qG)) (v:=.int v) h Ct
 rw[e]at q
 exact q
end
def vg:Sp:=λvs H Q _=>∃(d:Addr) (m n s t:Int),vs=[.ref d,.int m]/\H d=some (.dK (Q6 n s t))/\0 < m/\m.natAbs < 2^200/\∀r n' t',0<=r->r < m->Q (.int r) (upd H d (.dK (Q6 n' s t')))
def V3:Sp:=λvs H Q _=>∃c:Int,vs=[.int c]/\∀d n s,H d=none->Q (.ref d) (upd H d (.dK (Q6 n s 0)))
def ui(K:zdw):Sp:=λvs H Q _=>∃(a:Addr) (ns:List Int) (k:Int),vs=[.ref a,.int k]/\SqL K H a (ns.map V.int)/\0<=k/\∀v,Q (.int v) H
section
variable{P:Program}{w:World}{K:zdw}{mg:Str->Option Value}{base:Heap}
theorem Vc:qp ["_law_source_here","_law_many","_law_digit","_law_number"] ["_law_source_here","_law_many"] (qj Ub):=zdv
theorem Np{f:Addr}{fd:zdA}(F:jw K "_law_take" "_law_take" Ub f fd):qo P w K mg base qJ 1 f fd ["_law_source_here","_law_many"] vg:=by
 refine F.okJ Vc (λvs H Q E h=>?_) (λcdv A outer s H vs Q E hr h=>?_)
 ·obtain⟨d,m,n,sd,t,rfl,_⟩:=h
  rfl
 ·obtain⟨d,m,n,sd,t,rfl,hd,m0,m1,k⟩:=h
  have hu:=Qp hr
  refine⟨_,qg (qE (qA Zy (jN hu (jv 0) qk (λ_ _=>rfl)) ql (qC _))
    (qg (qD (i:=2) Vc.nd rfl (Or.inl rfl) (qV Yj (jN hu (jv 0) qk (λ_ _=>rfl)) (jv 1)))
    (qg (j7 hu (jv 0) qk (qV u5 (jN hu (jv 0) qk (λ_ _=>rfl)) (jv 1)) rfl)
    (qh (qt (jv 2))))) qv)
   (qg (j7 hu (jv 0) qk (qV XB (jN hu (jv 0) qk (λ_ _=>rfl)) ql) rfl)
   (qg (qD (i:=3) Vc.nd rfl (Or.inl rfl) (qV Yj (qV Yi (qV XB (jN hu (jv 0) qk (λ_ _=>rfl)) (qV Yi ql (jN hu (jv 0) qk (λ_ _=>rfl)))) ql) ql))
   (qg (qD (i:=3) Vc.nd rfl (Or.inl rfl) (qV Yj (qV Yi (jv 3) (jv 3)) ql))
   (qh (qt (qV Yj (qV Ni (qV Yj (qV Yi (qV XB (jv 3) (jN hu (jv 0) qk (λ_ _=>rfl))) (qV XB (jv 3) ql)) ql) ql) (jv 1))))))),?_⟩
  refine⟨_,rfl,d,_,rfl,gN hd,_,_,rfl,rfl,_,rfl,?_⟩
  refine UI (λ_=>?_) (λ_=>?_)
  ·refine⟨_,rfl,d,_,rfl,gN hd,_,rfl,_,_,rfl,rfl,m0,?_⟩
   refine⟨_,rfl,d,_,rfl,gN hd,_,rfl,_,_,rfl,rfl,⟨m0,m1⟩,_,rfl,d,_,rfl,pN hd _,?_⟩
   exact⟨_,rfl,k _ _ _ (zcn _ (by omega)) (zbV _ m0)⟩
  ·refine⟨_,rfl,d,_,rfl,gT hd,_,_,rfl,rfl,_,rfl,d,_,rfl,pT hd _,?_⟩
   have h1:upd H d (.dK (Q6 n sd (t+1))) d=some (.dK (Q6 n sd (t+1))):=qe
   refine⟨_,rfl,d,_,rfl,gS h1,_,rfl,d,_,rfl,gT h1,_,_,rfl,rfl,.inl ⟨by decide,by decide⟩,_,_,rfl,rfl,_,_,rfl,rfl,.inr ⟨by decide,by decide⟩,_,_,rfl,rfl,(by show (0:Int) < 2147483647;decide),?_⟩
   generalize ha:((sd+7919*(t+1))*48271) % 2147483647=x
   have x0:0<=x:=by rw[<-ha];exact zcn _ (by decide)
   have x1:x < 2147483647:=by rw[<-ha];exact zbV _ (by decide)
   refine⟨_,rfl,_,rfl,_,_,rfl,rfl,.inl ⟨by omega,by omega⟩,_,_,rfl,rfl,(by show (0:Int) < 2147483629;decide),?_⟩
   generalize hb:(x*x) % 2147483629=y
   have y0:0<=y:=by rw[<-hb];exact zcn _ (by decide)
   have y1:y < 2147483629:=by rw[<-hb];exact zbV _ (by decide)
   refine⟨_,rfl,_,rfl,d,_,rfl,gT h1,_,_,rfl,rfl,_,rfl,_,_,rfl,rfl,_,_,rfl,rfl,.inr ⟨by omega,by omega⟩,_,_,rfl,rfl,(by show (0:Int) < 2147483587;decide),_,_,rfl,rfl,⟨by decide,by decide⟩,_,rfl,_,_,rfl,rfl,m0,?_⟩
   exact k _ _ _ (zcn _ (by omega)) (zbV _ m0)
end
open PySem L2 PyProof.Rows
structure QB(mg:Str->Option Value):Prop where
 len:mg "len"=none
 max:mg "max"=none
 min:mg "min"=none
 int:mg "int"=none
 rng:mg "range"=none
theorem xE(n s t:Int):zi [] (Q6 n s t)=Q6 n s t:=by
 unfold zi Q6
 simp only[zcm,List.foldl_nil]
 unfold Qn
 simp [nns,EN,EM,nsn,ntn,nts]
section
variable{P:Program}{w:World}{K:zdw}{mg:Str->Option Value}{base:Heap}
theorem uo:qp ["_law_cell"] ["_law_cell"] (qj zz):=zdv
theorem xr{f:Addr}{fd:zdA}(F:jw K "_law_source" "_law_source" zz f fd)(B:QB mg):qo P w K mg base qJ 1 f fd ["_law_cell"] V3:=by
 refine F.okJ uo (λvs H Q E h=>?_) (λcdv A outer s H vs Q E hr h=>?_)
 ·obtain⟨c,rfl,_⟩:=h
  rfl
 ·obtain⟨c,rfl,k⟩:=h
  refine⟨_,qh (qt (NV
   (XO qk (qV Yi (qu (WP rfl) (by rfl) B.max boot_max (qd ql (qd (jv 0) qf)))
    (QE wn (by rfl) B.int boot_int (qd (jE u4 (jv 0) (qV AS ql ql) (qC _)) qf)))
   (XO qk (qV Yj (jv 0) ql) (XO qk ql NR))) rfl rfl (by simp) (by decide))),?_⟩
  intro p hp
  refine⟨_,rfl,_,_,rfl,_,rfl,_,_,rfl,rfl,⟨by decide,by decide,by decide⟩,_,_,rfl,rfl,.inr ⟨_,rfl,_,_,rfl,rfl,.inr ?_,_,rfl,_,_,rfl,rfl,(by show (0:Int) < 2147483629;decide),?_⟩⟩
  ·split<;>exact⟨by decide,by decide⟩
  ·refine⟨qe,Q6 _ _ 0,rfl,(by show 3<=15;decide),?_⟩
   rw[xE,Qs]
   exact k p _ _ hp
theorem AI:qp ["_law_script","_law_k"] ["_law_script","_law_k"] (qj Ul):=zdv
theorem NI{f:Addr}{fd:zdA}(F:jw K "_law_cell_at" "_law_cell_at" Ul f fd)(B:QB mg):qo P w K mg base qJ 1 f fd ["_law_script","_law_k"] (ui K):=by
 refine F.okJ AI (λvs H Q E h=>?_) (λcdv A outer s H vs Q E hr h=>?_)
 ·obtain⟨a,ns,k,rfl,_⟩:=h
  rfl
 ·obtain⟨a,ns,k,rfl,hS,k0,q⟩:=h
  refine⟨_,qg (qE (qA u3 (jv 1) (qu qB (by rfl) B.len boot_len (qd (jv 0) qf)) (qC _))
    (qh (qt (qQ qP (jv 0) (jv 1) (λ_ _=>rfl)))) qv)
   (qh (qt (qV XB (qV Yi ql (jv 1)) ql))),?_⟩
  refine⟨_,rfl,_,rfl,a,_,rfl,.inl hS,_,_,rfl,rfl,_,rfl,?_⟩
  refine UI (λh=>?_) (λ_=>?_)
  ·have h1:k < ((ns.map V.int).length:Int):=of_decide_eq_true h
   rw[tj]at h1
   have h2:k.toNat < ns.length:=by omega
   have h3:(ns.map V.int)[k.toNat]?=some (V.int ns[k.toNat]):=by rw[tZ,tW h2];rfl
   have h4:k=((k.toNat:Nat):Int):=by omega
   refine⟨_,rfl,_,rfl,a,_,k,V.int ns[k.toNat],rfl,rfl,hS,?_,q _⟩
   have h5:=Me h3
   rw[<-h4]at h5
   exact h5
  ·exact⟨_,rfl,_,_,rfl,rfl,.inl ⟨by decide,by decide⟩,_,_,rfl,rfl,q _⟩
end
open PySem L2 PyProof.Rows
def Fr(H:Hp)(d:Addr)(H':Hp):Prop:=∀b o,H b=some o->b≠d->H' b=some o
theorem Fr.refl{H:Hp}{d:Addr}:Fr H d H:=λ_ _ h _=>h
theorem Fr.at_d{H H':Hp}{d:Addr}{o:HO}(h:Fr H d H'):Fr H d (upd H' d o):=λb u hb hn=>by
 rw[qi hn]
 exact h b u hb hn
theorem Fr.new{H H':Hp}{d p:Addr}{o:HO}(h:Fr H d H')(hp:H' p=none):Fr H d (upd H' p o):=λb u hb hn=>qw (h b u hb hn) hp
theorem Fr.own{H H':Hp}{d p:Addr}{o:HO}(h:Fr H d H')(hp:H p=none):Fr H d (upd H' p o):=λb u hb hn=>by
 rw[qi (qr hb hp)]
 exact h b u hb hn
theorem Fr.trans{H H' H'':Hp}{d:Addr}(h:Fr H d H')(k:Fr H' d H''):Fr H d H'':=λb u hb hn=>k b u (h b u hb hn) hn
theorem Fr.fresh{H H':Hp}{d p:Addr}{o:HO}(h:Fr H d H')(hd:H' d=some o)(hp:H' p=none):H p=none:=by
 cases e:H p with
 | none=>rfl
 | some u=>
  by_cases n:p=d
  ·subst n
   rw[hd]at hp
   cases hp
  ·rw[h p u e n]at hp
   cases hp
def Jg(c:Nat):Bool:=decide (97<=c)&&decide (c<=122)
def qN(z:Str):Bool:=(decide (1<=z.length)&&decide (z.length<=8))&&z.cps.toList.all Jg
def BU:Str:="abcdefghijklmnopqrstuvwxyz"
theorem wu:BU.cps.toList=[97,98,99,100,101,102,103,104,105,106,107,108,109,110,111,112,113,114,115,116,117,118,119,120,121,122]:=by decide+kernel
theorem BT:BU.cps.toList=(zaD 26).map (97+·):=by rw[wu];rfl
section
variable{P:Program}{w:World}{K:zdw}{mg:Str->Option Value}{base:Heap}
end
open PySem L2 PyProof.Rows
abbrev up(k:Nat×Nat):Int×Int:=((k.1:Int),(k.2:Int))
def ltN(a b:Nat×Nat):Prop:=a.1 < b.1\/(a.1=b.1/\a.2 < b.2)
structure Ahead(m i j:Nat)(ks:List (Nat×Nat)):Prop where
 ord:ks.Pairwise ltN
 lt:∀x∈ks,x.2 < m/\(x.1 < i\/(x.1=i/\x.2 < j))
 len:ks.length<=i*m+j
section
variable{P:Program}{w:World}{K:zdw}{mg:Str->Option Value}{base:Heap}
end
open PySem L2 PyProof.Rows
structure qF(rs:List (Str×List Str)):Prop where
 nm:∀r∈rs,qN r.1=true
 nd:(rs.map (·.1)).Nodup
 to:∀r∈rs,∀z∈r.2,z∈rs.map (·.1)
 rd:∀r∈rs,r.2.Nodup
 few:(rs.map λr=>r.2.length).sum<=40
theorem WA{α β:Type}{f:α->β}:∀{l:List α},l.Nodup->(∀a∈l,∀b∈l,f a=f b->a=b)->(l.map f).Nodup
 | [],_,_=>zbH
 | a::l,h,k=>by
  rw[tL,zaG]
  rw[zaG]at h
  refine⟨λz=>?_,WA h.2 λx hx y hy=>k x (tF _ hx) y (tF _ hy)⟩
  obtain⟨b,hb,e⟩:=tQ.mp z
  have:=k b (tF _ hb) a (tK) e
  subst this
  exact h.1 hb
structure Order(m:Nat)(os:List Nat):Prop where
 len:os.length=m
 nd:os.Nodup
 lt:∀k∈os,k < m
 all:∀j,j < m->j∈os
open PySem L2 PyProof.Rows
def jJ(H:Hp)(ps:List Addr)(rs:List (Str×List Str)):Prop:=ps.length=rs.length/\∀(i:Nat) (p:Addr) (r:Str×List Str),ps[i]?=some p->rs[i]?=some r->∃q,H p=some (.tup [.str r.1,.ref q])/\H q=some (.tup (r.2.map V.str))
structure Qm(mg:Str->Option Value):Prop where
 srt:mg "sorted"=none
 lst:mg "list"=none
 rev:mg "reversed"=none
 set:mg "set"=none
 tup:mg "tuple"=none
theorem jJ.mono{H H':Hp}{ps:List Addr}{rs:List (Str×List Str)}(h:jJ H ps rs)(s:Same H H'):jJ H' ps rs:=⟨h.1,λi p r e1 e2=>let ⟨q,a,b⟩:=h.2 i p r e1 e2;⟨q,s _ _ a,s _ _ b⟩⟩
theorem Fr.same{H H' H'':Hp}{d:Addr}(h:Fr H d H')(s:Same H' H''):Fr H d H'':=λb u hb hn=>s _ _ (h b u hb hn)
theorem jJ.snoc{H:Hp}{ps:List Addr}{rs:List (Str×List Str)}(h:jJ H ps rs){p q:Addr}{r:Str×List Str}(hp:H p=some (.tup [.str r.1,.ref q]))(hq:H q=some (.tup (r.2.map V.str))):jJ H (ps++[p]) (rs++[r]):=by
 refine⟨by rw[tR,tR,h.1];rfl,λi p' r' e1 e2=>?_⟩
 by_cases hi:i < ps.length
 ·rw[zay hi]at e1
  rw[zay (by rw[<-h.1];exact hi)]at e2
  exact h.2 i p' r' e1 e2
 ·have hi':i=ps.length:=by
   have:=(tq.mp e1).1
   rw[tR,zbE]at this
   omega
  subst hi'
  rw[zap (tu _),zct]at e1
  rw[h.1,zap (tu _),zct]at e2
  obtain rfl:=(tX.inj e1).symm
  obtain rfl:=(tX.inj e2).symm
  exact⟨q,hp,hq⟩
theorem jJ.upd_lst{H:Hp}{ps:List Addr}{rs:List (Str×List Str)}{l:Addr}{xs:List V}{o:HO}(h:jJ H ps rs)(hl:H l=some (.lst xs)):jJ (upd H l o) ps rs:=by
 refine⟨h.1,λi p r e1 e2=>?_⟩
 obtain⟨q,a,b⟩:=h.2 i p r e1 e2
 refine⟨q,?_,?_⟩
 ·rw[qi (λe=>by rw[e,hl]at a;cases a)]
  exact a
 ·rw[qi (λe=>by rw[e,hl]at b;cases b)]
  exact b
abbrev oL(os:List Nat):List V:=os.map λk=>V.int ((k:Nat):Int)
section
variable{P:Program}{w:World}{K:zdw}{mg:Str->Option Value}{base:Heap}
end
open PySem L2 PyProof.Rows
abbrev zy:Stmt:=top 26
abbrev zf:Stmt:=top 27
abbrev Ui:Stmt:=top 28
abbrev uw:Stmt:=top 29
abbrev Uj:Stmt:=top 30
abbrev uD:Stmt:=top 31
abbrev YD:Stmt:=top 32
theorem vJ(x:Str):[x].Nodup:=by simp
structure j9(K:zdw)(mg:Str->Option Value):Prop where
 isi:mg "isinstance"=none
 str:mg "str"=none
 all:mg "all"=none
 enu:mg "enumerate"=none
 sum:mg "sum"=none
 lets:∃t,mg "LETTERS"=some (.str BU t)
 lgst:∃t,mg "LONGEST_NAME"=some (.int 8 t)
 mp:∃t,mg "MOST_PLACES"=some (.int 14 t)
 mr:∃t,mg "MOST_ROADS"=some (.int 40 t)
 kss:tU K (.type "str") (.type "str")=some true
 ktt:tU K (.type "tuple") (.type "tuple")=some true
 kll:tU K (.type "list") (.type "list")=some true
theorem K3(c:Nat):(!(Builtin.Str.occurrences BU ⟨#[c]⟩ 0 BU.length 1).isEmpty)=Jg c:=by
 rw[StrLaws.found_one,BT]
 unfold Jg
 rw[zaW]
 simp only[decide_eq_true_eq,zaa,tQ,zcu]
 constructor
 ·rintro⟨k,hk,rfl⟩
  omega
 ·intro h
  exact⟨c - 97,by omega,by omega⟩
theorem UZ(f:Nat->Bool)(l:List Nat)(i c:Nat)(h:l[i]?=some c):(l.take i).map f++[f c]=(l.take (i+1)).map f:=by
 rw[tO,h]
 simp
def Rx:Sp:=λvs H Q _=>∃z,vs=[.str z]/\qN z=true/\∀H',Same H H'->Q (.bl true) H'
def Cv:Sp:=λvs H Q _=>∃(q:Addr) (zs:List Str),vs=[.ref q]/\H q=some (.tup (zs.map V.str))/\(∀z∈zs,qN z=true)/\zs.length<=1000/\∀H',Same H H'->Q (.bl true) H'
def MC:Sp:=λvs H Q _=>∃(p q:Addr) (r:Str×List Str),vs=[.ref p]/\H p=some (.tup [.str r.1,.ref q])/\H q=some (.tup (r.2.map V.str))/\qN r.1=true/\(∀z∈r.2,qN z=true)/\r.2.length<=1000/\∀H',Same H H'->Q (.bl true) H'
structure ZL(H:Hp)(l:Addr)(ps:List Addr)(rs:List (Str×List Str)):Prop where
 at_:H l=some (.lst (ps.map V.ref))
 rows:jJ H ps rs
 good:qF rs
 pos:0 < rs.length
 le:rs.length<=14
theorem ZL.mono{H H':Hp}{l:Addr}{ps:List Addr}{rs:List (Str×List Str)}(h:ZL H l ps rs)(s:Same H H'):ZL H' l ps rs:=⟨s _ _ h.at_,h.rows.mono s,h.good,h.pos,h.le⟩
theorem qF.names{rs:List (Str×List Str)}(h:qF rs):∀r∈rs,∀z∈r.2,qN z=true:=λr hr z hz=>by
 obtain⟨r',hr',rfl⟩:=tQ.mp (h.to r hr z hz)
 exact h.nm r' hr'
theorem qF.len{rs:List (Str×List Str)}(h:qF rs):∀r∈rs,r.2.length<=40:=λr hr=>by
 refine tM ?_ h.few
 have:∀(rs:List (Str×List Str)),r∈rs->r.2.length<=(rs.map λr=>r.2.length).sum:=by
  intro rs
  induction rs with
  | nil=>intro h;cases h
  | cons a rs ih=>
   intro h
   rw[tL,zam]
   rcases tJ.mp h with rfl | h
   ·omega
   ·have:=ih h
    omega
 exact this rs hr
theorem jJ.item{H:Hp}{ps:List Addr}{rs:List (Str×List Str)}(h:jJ H ps rs){i:Nat}{x:V}(hx:(ps.map V.ref)[i]?=some x):∃p q r,x=.ref p/\rs[i]?=some r/\r∈rs/\H p=some (.tup [.str r.1,.ref q])/\H q=some (.tup (r.2.map V.str)):=by
 rw[tZ]at hx
 cases e:ps[i]? with
 | none=>rw[e]at hx;cases hx
 | some p=>
  rw[e]at hx
  have hi:i < rs.length:=by
   have:=(tq.mp e).1
   rw[h.1]at this
   exact this
  obtain⟨q,a,b⟩:=h.2 i p _ e (tW hi)
  exact⟨p,q,_,(tX.inj hx).symm,tW hi,zaT hi,a,b⟩
def z6:Sp:=λvs H Q _=>∃(l:Addr) (ps:List Addr) (rs:List (Str×List Str)),vs=[.ref l]/\ZL H l ps rs/\∀H',Same H H'->Q .non H'
def MD:Sp:=λvs H Q _=>∃(l:Addr) (zs:List Str),vs=[.ref l]/\H l=some (.lst (zs.map V.str))/\zs.Nodup/\zs.length<=1000/\∀H',Same H H'->Q .non H'
def ug:Sp:=λvs H Q _=>∃(q l:Addr) (es zs:List Str),vs=[.ref q,.ref l]/\H q=some (.tup (es.map V.str))/\H l=some (.lst (zs.map V.str))/\es.Nodup/\(∀z∈es,z∈zs)/\es.length<=900/\∀H',Same H H'->Q .non H'
theorem Zo{kvs:List (qG×V)}{k:qG}(h:¬k∈kvs.map (·.1)):jc kvs k=none:=by
 cases e:jc kvs k with
 | none=>rfl
 | some v=>exact absurd (Rl e) h
theorem Q9(zs:List Str):(zs.map V.str).all JK=true:=by
 rw[zby,zak]
 intro z _
 rfl
theorem J4{z:Str}{zs:List Str}(h:z∈zs):Yu (.str z) (zs.map V.str)=true:=by
 unfold Yu
 rw[zbl]
 exact⟨.str z,tQ.mpr ⟨z,h,rfl⟩,by show (z==z)=true;simp⟩
section
variable{P:Program}{w:World}{K:zdw}{mg:Str->Option Value}{base:Heap}
theorem ut:qp ["thing"] ["thing"] (qj QZ):=zdv
theorem Vk{f:Addr}{fd:zdA}(F:jw K "is_name" "is_name" QZ f fd)(B:QB mg)(T:j9 K mg):qo P w K mg base qJ 1 f fd ["thing"] Rx:=by
 refine F.okJ ut (λvs H Q E h=>?_) (λcdv A outer s H vs Q E hr h=>?_)
 ·obtain⟨x,rfl,_⟩:=h
  rfl
 ·obtain⟨z,rfl,hz,q⟩:=h
  obtain⟨tl,hlets⟩:=T.lets
  obtain⟨tg,hlg⟩:=T.lgst
  refine⟨_,qg (qE (jy (jd (qu qX (by rfl) T.isi boot_isinstance (qd (jv 0) (qd (jR (v:=.ty "str") (by rfl) T.str boot_str rfl) qf))))) (qh (qt Qd)) qv)
   (qg (qE (Jp (qA u3 (qu Q3 (by rfl) B.len boot_len (qd (jv 0) qf)) ql (qC _))
     (QK (qA Zy (qu Q3 (by rfl) B.len boot_len (qd (jv 0) qf)) (qM (v:=.int 8) (by rfl) hlg ⟨_,rfl⟩) (qC _)))).pt (qh (qt Qd)) qv)
   (qh (qt (qu (QR rfl) (by rfl) T.all boot_all (qd (Ql (N':=["sign"]) (ix:=[none]) rfl ⟨rfl,rfl,rfl,rfl,rfl⟩ (KI (jv 0)) (λC s2 H2 fp pins=>
    ⟨qx (i:=0) (vJ _) rfl (Or.inl rfl),jr,jE Yk (jv 0) (qM (v:=.str BU) (by rfl) hlets ⟨_,rfl⟩) (by with_unfolding_all rfl)⟩)) qf))))),?_⟩
  have hn:=hz
  unfold qN at hn
  simp only[zaa,decide_eq_true_eq]at hn
  obtain⟨⟨n1,n8⟩,na⟩:=hn
  have hz':z.length<=zdB:=zaC (qy (by omega))
  refine⟨_,rfl,_,_,_,_,rfl,rfl,.str z,T.kss,_,rfl,jh ?_⟩
  refine⟨_,rfl,z,rfl,hz',_,_,rfl,rfl,_,rfl,?_⟩
  refine UI (λh=>?_) (λh=>?_)
  ·exact absurd (of_decide_eq_true h) (by omega)
  ·refine⟨_,rfl,z,rfl,hz',_,_,rfl,rfl,_,rfl,?_⟩
   refine UI (λh2=>?_) (λh2=>?_)
   ·exact absurd (of_decide_eq_true h2) (by show ¬(8:Int) < (z.length:Int);omega)
   ·refine⟨_,rfl,z,rfl,λD hD=>?_⟩
    refine yD (λi σ' H'=>∃v,σ'=[v]/\H'=upd H D (.lst (((z.cps.toList.take i).map Jg).map V.bl))) ⟨none,rfl,rfl⟩ ?_ ?_
    ·rintro i c σ' H' hc ⟨v,rfl,rfl⟩
     refine⟨_,rfl,_,_,rfl,rfl,_,qe,?_,?_⟩
     ·rw[tj,tj,zag]
      exact zax (zcQ _ _) (qy (show z.cps.toList.length<=1000 by rw[zbN];exact tM n8 (by decide)))
     ·refine⟨_,rfl,?_⟩
      rw[Qs,K3]
      have hc':z.cps.toList[i]?=some c:=by simpa using hc
      rw[<-UZ Jg z.cps.toList i c hc',tH]
      rfl
    ·rintro σ' H' ⟨v,rfl,rfl⟩
     refine⟨D,_,rfl,.of qe,?_⟩
     have e0:z.cps.toList.take z.cps.size=z.cps.toList:=tI (by simp)
     have e1:(z.cps.toList.map Jg).all id=true:=by rw[zby];exact na
     rw[e0,e1]
     exact q _ (qm hD)
theorem um:qp ["thing"] ["thing"] (qj zy):=zdv
theorem Nl{f fN:Addr}{fd fdN:zdA}(F:jw K "is_tuple_of_names" "is_tuple_of_names" zy f fd)(B:QB mg)(G:Qm mg)(T:j9 K mg)(hN:qZ K mg "is_name" QZ ["thing"] fN fdN):qo P w K mg base qJ 2 f fd ["thing"] Cv:=by
 have GN:qo P w K mg base qJ 1 fN fdN ["thing"] Rx:=Vk hN.fn B T
 refine F.okJ um (λvs H Q E h=>?_) (λcdv A outer s H vs Q E hr h=>?_)
 ·obtain⟨x,zs,rfl,_⟩:=h
  rfl
 ·obtain⟨x,zs,rfl,hx,hz,hl,q⟩:=h
  refine⟨_,qh (qt (QM (qu qX (by rfl) T.isi boot_isinstance (qd (jv 0) (qd (jR (v:=.ty "tuple") (by rfl) G.tup boot_tuple rfl) qf)))
   (QP (qu (QR rfl) (by rfl) T.all boot_all (qd (Ql (N':=["part"]) (ix:=[none]) rfl ⟨rfl,rfl,rfl,rfl,rfl⟩ (Vs (jv 0)) (λC s2 H2 fp pins=>
    ⟨qx (i:=0) (vJ _) rfl (Or.inl rfl),jr,qT hN GN hr (by rfl) (qd (jv 0) qf)⟩)) qf))))),?_⟩
  refine⟨_,rfl,_,_,_,_,rfl,rfl,.tup hx,T.ktt,_,rfl,Qj ⟨_,rfl,x,rfl,⟨_,.of hx⟩,λD hD=>?_⟩⟩
  refine yC (K:=K) (a:=x) (xs:=zs.map V.str) (λi σ' H'=>∃v,σ'=[v]/\Same H H'/\H' D=some (.lst ((zdc i true).map V.bl))) ⟨none,rfl,qm hD,qe⟩ (λi σ' H' _ ⟨_,_,s,_⟩=>.of (s _ _ hx)) ?_ ?_
  ·rintro i y σ' H' hy ⟨v,rfl,s1,hD1⟩
   rw[tZ]at hy
   cases e:zs[i]? with
   | none=>rw[e]at hy;cases hy
   | some z=>
    rw[e]at hy
    obtain rfl:=(tX.inj hy).symm
    have hi:=(tq.mp e).1
    refine⟨_,rfl,z,rfl,hz z (tV e),λH2 s2=>⟨_,s2 _ _ hD1,?_,_,rfl,?_,?_⟩⟩
    ·rw[tj,zcZ]
     exact qy (by omega)
    ·exact Same.upd (s1.trans s2) hD
    ·rw[qe,List.replicate_succ',tH]
     rfl
  ·rintro σ' H' ⟨v,rfl,s1,hD1⟩
   refine⟨D,_,rfl,.of hD1,?_⟩
   have e:(zdc (zs.map V.str).length true).all id=true:=by simp
   rw[e]
   exact q _ s1
theorem kP:qp ["thing"] ["thing"] (qj zf):=zdv
theorem Kj{f fN fP:Addr}{fd fdN fdP:zdA}(F:jw K "is_row" "is_row" zf f fd)(B:QB mg)(G:Qm mg)(T:j9 K mg)(hN:qZ K mg "is_name" QZ ["thing"] fN fdN)(hP:qZ K mg "is_tuple_of_names" zy ["thing"] fP fdP):qo P w K mg base qJ 3 f fd ["thing"] MC:=by
 have GN:qo P w K mg base qJ 1 fN fdN ["thing"] Rx:=Vk hN.fn B T
 have GP:qo P w K mg base qJ 2 fP fdP ["thing"] Cv:=Nl hP.fn B G T hN
 refine F.okJ kP (λvs H Q E h=>?_) (λcdv A outer s H vs Q E hr h=>?_)
 ·obtain⟨p,x,r,rfl,_⟩:=h
  rfl
 ·obtain⟨p,x,r,rfl,hp,hx,hn,hz,hl,q⟩:=h
  refine⟨_,qg (qE (Jp (jy (jd (qu qX (by rfl) T.isi boot_isinstance (qd (jv 0) (qd (jR (v:=.ty "tuple") (by rfl) G.tup boot_tuple rfl) qf)))))
    (QK (qA Wx (qu qB (by rfl) B.len boot_len (qd (jv 0) qf)) ql (qC _)))).pt qI qv)
   (qh (qt (QM (qT hN GN (hr.mono (by decide)) (by rfl) (qd (qQ jI (jv 0) ql (λ_ _=>rfl)) qf)) (QP (qT hP GP hr (by rfl) (qd (qQ jI (jv 0) ql (λ_ _=>rfl)) qf)))))),?_⟩
  refine⟨_,rfl,_,_,_,_,rfl,rfl,.tup hp,T.ktt,_,rfl,jh ⟨_,rfl,p,_,rfl,.inr (.of hp),rfl,_,rfl,jh ?_⟩⟩
  refine⟨_,rfl,p,_,0,_,rfl,rfl,.of hp,rfl,r.1,rfl,hn,λH1 s1=>⟨_,rfl,Qj ?_⟩⟩
  exact⟨_,rfl,p,_,1,_,rfl,rfl,.of (s1 _ _ hp),rfl,x,r.2,rfl,s1 _ _ hx,hz,hl,λH2 s2=>q H2 (s1.trans s2)⟩
end
open PySem L2 PyProof.Rows
section
variable{P:Program}{w:World}{K:zdw}{mg:Str->Option Value}{base:Heap}
abbrev Dk:List Str:=["rows","number","row"]
theorem Yb:qp Dk ["rows"] (qj Ui):=zdv
theorem ND{f fN fP fR:Addr}{fd fdN fdP fdR:zdA}(F:jw K "need_form" "need_form" Ui f fd)(B:QB mg)(G:Qm mg)(T:j9 K mg)(hN:qZ K mg "is_name" QZ ["thing"] fN fdN)(hP:qZ K mg "is_tuple_of_names" zy ["thing"] fP fdP)
  (hR:qZ K mg "is_row" zf ["thing"] fR fdR):qo P w K mg base qJ 4 f fd ["rows"] z6:=by
 have GR:qo P w K mg base qJ 3 fR fdR ["thing"] MC:=Kj hR.fn B G T hN hP
 obtain⟨tm,hmp⟩:=T.mp
 refine F.okJ Yb (λvs H Q E h=>?_) (λcdv A outer s H vs Q E hr h=>?_)
 ·obtain⟨l,ps,rs,rfl,_⟩:=h
  rfl
 ·obtain⟨l,ps,rs,rfl,g,q⟩:=h
  refine⟨_,qg (qE (Jp (jy (jd (qu qX (by rfl) T.isi boot_isinstance (qd (jv 0) (qd (jR (v:=.ty "list") (by rfl) G.lst boot_list rfl) qf)))))
    (QK (qA jY (qu qB (by rfl) B.len boot_len (qd (jv 0) qf)) ql (qC _)))).pt qI qv)
   (qg (qE (qA Zy (qu qB (by rfl) B.len boot_len (qd (jv 0) qf)) (qM (v:=.int 14) (by rfl) hmp ⟨_,rfl⟩) (qC _)) qI qv)
   (qh (jC PassesOwn.never rfl (Y8 (by rfl) T.enu (qd (jv 0) qf)) (ZB rfl (jp (qx (i:=1) Yb.nd rfl (Or.inl rfl)) (jp (qx (i:=2) Yb.nd rfl (Or.inl rfl)) Jq)))
    (qh (qE (jy (jd (qT hR GR hr (by rfl) (qd (jv 2) qf)))) qI qv))))),?_⟩
  have lp:(ps.map V.ref).length=rs.length:=by rw[tj,g.rows.1]
  refine⟨_,rfl,_,_,_,_,rfl,rfl,.lst g.at_,T.kll,_,rfl,jh ⟨_,rfl,l,_,rfl,.inl (.of g.at_),rfl,_,rfl,?_⟩⟩
  have e0:decide (V.int (((ps.map V.ref).length:Nat):Int)=V.int 0)=false:=decide_eq_false (by
   intro z
   have:=V.int.inj z
   have:=g.pos
   omega)
  rw[e0]
  refine jh ⟨_,rfl,l,_,rfl,.inl (.of g.at_),_,_,rfl,rfl,_,rfl,?_⟩
  have e1:decide ((14:Int) < (((ps.map V.ref).length:Nat):Int))=false:=decide_eq_false (by
   have:=g.le
   omega)
  refine UI (λz=>absurd z (by rw[e1];decide)) (λ_=>?_)
  refine⟨_,rfl,l,rfl,⟨_,.of g.at_⟩,?_⟩
  refine JJ (K:=K) (a:=l) (xs:=ps.map V.ref) (λi σ' H'=>∃v1 v2,σ'=[some (.ref l),v1,v2]/\Same H H') ⟨none,none,rfl,Same.refl H⟩ (λi σ' H' _ ⟨_,_,_,s⟩=>.of (s _ _ g.at_)) ?_ ?_
  ·rintro i x σ' H' p hx hp ⟨v1,v2,rfl,s1⟩
   have g1:=g.mono (s1.trans (qm (o:=.tup [.int (i:Nat),x]) hp))
   obtain⟨p',q',r,rfl,_,hr',a,b⟩:=g1.rows.item hx
   refine⟨p,_,rfl,.of qe,rfl,_,_,rfl,_,_,rfl,rfl,_,rfl,p',q',r,rfl,a,b,g.good.nm r hr',g.good.names r hr',tM (g.good.len r hr') (by decide),λH2 s2=>⟨_,rfl,jh ⟨_,_,rfl,?_⟩⟩⟩
   exact(s1.trans (qm hp)).trans s2
  ·rintro σ' H' ⟨v1,v2,rfl,s1⟩
   exact q H' s1
abbrev ER:List Str:=["order","ahead","name"]
theorem Wt:qp ER ["order"] (qj uw):=zdv
theorem ZU{zs:List Str}(hn:zs.Nodup){i:Nat}{z:Str}(e:zs[i]?=some z):¬(Sum.inr z:qG)∈(zs.take i).map Sum.inr:=λh=>by
 obtain⟨y,hy,ey⟩:=tQ.mp h
 have ey':y=z:=Sum.inr.inj ey
 subst ey'
 obtain⟨j,hj⟩:=zbg hy
 have hj1:=(tq.mp hj).1
 rw[zag]at hj1
 have hji:j < i:=by omega
 rw[zbR hji]at hj
 have h1:=(tq.mp hj)
 have h2:=(tq.mp e)
 exact absurd (h1.2.trans h2.2.symm) (zbL.mp hn j i h1.1 h2.1 hji)
theorem JU{kvs:List (qG×V)}{k:qG}(v:V)(h:jc kvs k=none):(Qn kvs k v).map (·.1)=kvs.map (·.1)++[k]:=by
 rw[zE v h,tH]
 rfl
theorem A7{f:Addr}{fd:zdA}(F:jw K "need_own_names" "need_own_names" uw f fd):qo P w K mg base qJ 1 f fd ["order"] MD:=by
 refine F.okJ Wt (λvs H Q E h=>?_) (λcdv A outer s H vs Q E hr h=>?_)
 ·obtain⟨l,zs,rfl,_⟩:=h
  rfl
 ·obtain⟨l,zs,rfl,hl,hn,hz,q⟩:=h
  have hu:=Qp hr
  refine⟨_,qg (qD (i:=1) Wt.nd rfl (Or.inl rfl) Qc)
   (qh (jC PassesOwn.never rfl (qL (jv 0)) (qx (i:=2) Wt.nd rfl (Or.inl rfl))
    (qg (qE (Qb (J2 hu (jv 2) (jv 1))) qI qv) (qh (j7 hu (jv 1) (jv 2) Qd rfl))))),?_⟩
  intro D hD
  refine⟨_,rfl,l,rfl,⟨_,.of (qw hl hD)⟩,?_⟩
  refine jk (K:=K) (a:=l) (xs:=zs.map V.str) (λi σ' H'=>∃v kvs,σ'=[some (.ref l),some (.ref D),v]/\Same H H'/\H' D=some (.dK kvs)/\kvs.map (·.1)=(zs.take i).map Sum.inr) ⟨none,[],rfl,qm hD,qe,rfl⟩ (λi σ' H' _ ⟨_,_,_,s,_⟩=>.of (s _ _ hl)) ?_ ?_
  ·rintro i x σ' H' hx ⟨v,kvs,rfl,s1,hD1,ek⟩
   rw[tZ]at hx
   cases e:zs[i]? with
   | none=>rw[e]at hx;cases hx
   | some z=>
    rw[e]at hx
    obtain rfl:=(tX.inj hx).symm
    have hi:=(tq.mp e).1
    have ez:jc kvs (Sum.inr z:qG)=none:=Zo (by rw[ek];exact ZU hn e)
    have gz:jU H' D (.str z) none:=by
     have:=jU.k (k:=(Sum.inr z:qG)) hD1
     rw[ez]at this
     exact this
    have lk:kvs.length < zdB:=by
     have:=congrArg zbs ek
     rw[tj,tj,zag]at this
     exact qy (by omega)
    refine⟨_,rfl,_,rfl,D,none,rfl,gz,_,rfl,jh ?_⟩
    refine⟨_,rfl,_,rfl,D,_,rfl,Jk.k (k:=(Sum.inr z:qG)) hD1 lk,_,_,rfl,Same.upd s1 hD,qe,?_⟩
    rw[JU _ ez,ek,tO,e,tH]
    rfl
  ·rintro σ' H' ⟨v,kvs,rfl,s1,_⟩
   exact q H' s1
abbrev Dl:List Str:=["ends","order","ahead","name"]
theorem Yc:qp Dl ["ends","order"] (qj Uj):=zdv
theorem NF{f:Addr}{fd:zdA}(F:jw K "need_ends" "need_ends" Uj f fd):qo P w K mg base qJ 1 f fd ["ends","order"] ug:=by
 refine F.okJ Yc (λvs H Q E h=>?_) (λcdv A outer s H vs Q E hr h=>?_)
 ·obtain⟨x,l,es,zs,rfl,_⟩:=h
  rfl
 ·obtain⟨x,l,es,zs,rfl,hx,hl,hn,hin,hz,q⟩:=h
  have hu:=Qp hr
  refine⟨_,qg (qD (i:=2) Yc.nd rfl (Or.inl rfl) Qc)
   (qh (jC PassesOwn.never rfl (Vs (jv 0)) (qx (i:=3) Yc.nd rfl (Or.inl rfl))
    (qg (qE (qA Q2 (jv 3) (jv 1) (by with_unfolding_all rfl)) qI qv)
    (qg (qE (Qb (J2 hu (jv 3) (jv 2))) qI qv) (qh (j7 hu (jv 2) (jv 3) Qd rfl)))))),?_⟩
  intro D hD
  refine⟨_,rfl,x,rfl,⟨_,.of (qw hx hD)⟩,?_⟩
  refine Vw (K:=K) (a:=x) (xs:=es.map V.str) (λi σ' H'=>∃v kvs,σ'=[some (.ref x),some (.ref l),some (.ref D),v]/\Same H H'/\H' D=some (.dK kvs)/\kvs.map (·.1)=(es.take i).map Sum.inr) ⟨none,[],rfl,qm hD,qe,rfl⟩ (λi σ' H' _ ⟨_,_,_,s,_⟩=>.of (s _ _ hx)) ?_ ?_
  ·rintro i y σ' H' hy ⟨v,kvs,rfl,s1,hD1,ek⟩
   rw[tZ]at hy
   cases e:es[i]? with
   | none=>rw[e]at hy;cases hy
   | some z=>
    rw[e]at hy
    obtain rfl:=(tX.inj hy).symm
    have hi:=(tq.mp e).1
    have ez:jc kvs (Sum.inr z:qG)=none:=Zo (by rw[ek];exact ZU hn e)
    have gz:jU H' D (.str z) none:=by
     have:=jU.k (k:=(Sum.inr z:qG)) hD1
     rw[ez]at this
     exact this
    have lk:kvs.length < zdB:=by
     have:=congrArg zbs ek
     rw[tj,tj,zag]at this
     exact qy (by omega)
    refine⟨_,rfl,_,rfl,l,_,rfl,.inl (.of (s1 _ _ hl)),rfl,Q9 zs,_,rfl,?_⟩
    rw[J4 (hin z (tV e))]
    refine jh ⟨_,rfl,_,rfl,D,none,rfl,gz,_,rfl,jh ?_⟩
    refine⟨_,rfl,_,rfl,D,_,rfl,Jk.k (k:=(Sum.inr z:qG)) hD1 lk,_,_,rfl,Same.upd s1 hD,qe,?_⟩
    rw[JU _ ez,ek,tO,e,tH]
    rfl
  ·rintro σ' H' ⟨v,kvs,rfl,s1,_⟩
   exact q H' s1
abbrev EW:List Str:=["rows","many"]
theorem kQ:qp EW ["rows"] (qj uD):=zdv
theorem Bf{f:Addr}{fd:zdA}(F:jw K "need_few_roads" "need_few_roads" uD f fd)(B:QB mg)(T:j9 K mg):qo P w K mg base qJ 1 f fd ["rows"] z6:=by
 obtain⟨tm,hmr⟩:=T.mr
 refine F.okJ kQ (λvs H Q E h=>?_) (λcdv A outer s H vs Q E hr h=>?_)
 ·obtain⟨l,ps,rs,rfl,_⟩:=h
  rfl
 ·obtain⟨l,ps,rs,rfl,g,q⟩:=h
  refine⟨_,qg (qD (i:=1) kQ.nd rfl (Or.inl rfl) (qu (WN rfl) (by rfl) T.sum boot_sum (qd (Ql (N':=["row"]) (ix:=[none]) (te:=Cq (λxs H Q=>∃p ys,xs=[.ref p]/\(SqL K H p ys\/SqT K H p ys)/\Q (.int ys.length) H) (jg (Xi (Us K) (qS 0) (tC (.int 1))) Qf)) rfl ⟨rfl,rfl,rfl,rfl,rfl⟩ (qL (jv 0)) (λC s2 H2 fp pins=>
    ⟨qx (i:=0) (vJ _) rfl (Or.inl rfl),jr,qu qB (by rfl) B.len boot_len (qd (qQ jI (jv 0) ql (λ_ _=>rfl)) qf)⟩)) qf)))
   (qh (qE (qA Zy (jv 1) (qM (v:=.int 40) (by rfl) hmr ⟨_,rfl⟩) (qC _)) qI qv)),?_⟩
  refine⟨_,rfl,l,rfl,⟨_,.of g.at_⟩,λD hD=>?_⟩
  refine Qe (K:=K) (a:=l) (xs:=ps.map V.ref) (λi σ' H'=>∃v,σ'=[v]/\H'=upd H D (.lst (((rs.take i).map λr=>r.2.length).map λn=>V.int ((n:Nat):Int)))) ⟨none,rfl,rfl⟩ (λi σ' H' _ ⟨_,_,e⟩=>e▸.of (qw g.at_ hD)) ?_ ?_
  ·rintro i x σ' H' hx ⟨v,rfl,rfl⟩
   obtain⟨p',q',r,rfl,er,hr',a,b⟩:=g.rows.item hx
   have hi:=(tq.mp er).1
   refine⟨_,rfl,p',_,1,_,rfl,rfl,.of (qw a hD),rfl,q',_,rfl,.inr (.of (qw b hD)),_,qe,?_,_,rfl,?_⟩
   ·rw[tj,tj,zag]
    have:=g.le
    exact qy (by omega)
   ·rw[Qs,tO,er,tH,tH,tj]
    rfl
  ·rintro σ' H' ⟨v,rfl,rfl⟩
   have e:rs.take (ps.map V.ref).length=rs:=tI (by rw[tj,g.rows.1];exact tu _)
   rw[e]
   refine⟨D,_,rfl,.of qe,zax g.good.few (by decide),?_⟩
   refine⟨_,rfl,_,_,rfl,rfl,_,rfl,?_⟩
   have:=g.good.few
   refine UI (λz=>absurd (of_decide_eq_true z) ?_) (λ_=>q _ (qm hD))
   show ¬(40:Int) < _
   omega
abbrev Dh:List Str:=["rows","order","row"]
theorem Ya:qp Dh ["rows"] (qj YD):=zdv
structure kc(K:zdw)(mg:Str->Option Value):Prop where
 nm:∃f fd,qZ K mg "is_name" QZ ["thing"] f fd
 tn:∃f fd,qZ K mg "is_tuple_of_names" zy ["thing"] f fd
 rw:∃f fd,qZ K mg "is_row" zf ["thing"] f fd
 fo:∃f fd,qZ K mg "need_form" Ui ["rows"] f fd
 ow:∃f fd,qZ K mg "need_own_names" uw ["order"] f fd
 en:∃f fd,qZ K mg "need_ends" Uj ["ends","order"] f fd
 fw:∃f fd,qZ K mg "need_few_roads" uD ["rows"] f fd
theorem Nx{f:Addr}{fd:zdA}(F:jw K "need_rows" "need_rows" YD f fd)(B:QB mg)(G:Qm mg)(T:j9 K mg)(N:kc K mg):qo P w K mg base qJ 5 f fd ["rows"] z6:=by
 obtain⟨fN,fdN,hN⟩:=N.nm
 obtain⟨fP,fdP,hP⟩:=N.tn
 obtain⟨fR,fdR,hR⟩:=N.rw
 obtain⟨fF,fdF,hF⟩:=N.fo
 obtain⟨fO,fdO,hO⟩:=N.ow
 obtain⟨fE,fdE,hE⟩:=N.en
 obtain⟨fW,fdW,hW⟩:=N.fw
 have GF:qo P w K mg base qJ 4 fF fdF ["rows"] z6:=ND hF.fn B G T hN hP hR
 have GO:qo P w K mg base qJ 1 fO fdO ["order"] MD:=A7 hO.fn
 have GE:qo P w K mg base qJ 1 fE fdE ["ends","order"] ug:=NF hE.fn
 have GW:qo P w K mg base qJ 1 fW fdW ["rows"] z6:=Bf hW.fn B T
 refine F.okJ Ya (λvs H Q E h=>?_) (λcdv A outer s H vs Q E hr h=>?_)
 ·obtain⟨l,ps,rs,rfl,_⟩:=h
  rfl
 ·obtain⟨l,ps,rs,rfl,g,q⟩:=h
  refine⟨_,qg (jf (qT hF GF hr (by rfl) (qd (jv 0) qf)))
   (qg (zK (i:=1) (N':=["row"]) (ix:=[none]) (te:=Xi (Us K) (qS 0) (tC (.int 0))) Ya.nd rfl (Or.inl rfl) rfl ⟨rfl,rfl,rfl,rfl,rfl⟩ (qL (jv 0)) (λC s2 H2 fp pins=>
    ⟨qx (i:=0) (vJ _) rfl (Or.inl rfl),jr,qQ jI (jv 0) ql (λ_ _=>rfl)⟩))
   (qg (jf (qT hO GO (hr.mono (by decide)) (by rfl) (qd (jv 1) qf)))
   (qg (jC PassesOwn.never rfl (qL (jv 0)) (qx (i:=2) Ya.nd rfl (Or.inl rfl))
    (qh (jf (qT hE GE (hr.mono (by decide)) (by rfl) (qd (qQ jI (jv 2) ql (λ_ _=>rfl)) (qd (jv 1) qf))))))
   (qh (jf (qT hW GW (hr.mono (by decide)) (by rfl) (qd (jv 0) qf))))))),?_⟩
  refine⟨_,rfl,l,ps,rs,rfl,g,λH1 s1=>?_⟩
  have g1:=g.mono s1
  refine⟨_,rfl,l,rfl,⟨_,.of g1.at_⟩,λD hD=>?_⟩
  refine Qe (K:=K) (a:=l) (xs:=ps.map V.ref) (λi σ' H'=>∃v,σ'=[v]/\H'=upd H1 D (.lst (((rs.take i).map (·.1)).map V.str))) ⟨none,rfl,rfl⟩ (λi σ' H' _ ⟨_,_,e⟩=>e▸.of (qw g1.at_ hD)) ?_ ?_
  ·rintro i x σ' H' hx ⟨v,rfl,rfl⟩
   obtain⟨p',q',r,rfl,er,hr',a,b⟩:=g1.rows.item hx
   have hi:=(tq.mp er).1
   refine⟨_,rfl,p',_,0,_,rfl,rfl,.of (qw a hD),rfl,_,qe,?_,_,rfl,?_⟩
   ·rw[tj,tj,zag]
    have:=g.le
    exact qy (by omega)
   ·rw[Qs,tO,er,tH,tH]
    rfl
  ·rintro σ' H' ⟨v,rfl,rfl⟩
   have e:rs.take (ps.map V.ref).length=rs:=tI (by rw[tj,g.rows.1];exact tu _)
   rw[e]
   refine⟨_,rfl,D,rs.map (·.1),rfl,qe,g.good.nd,by rw[tj];have:=g.le;omega,λH2 s2=>?_⟩
   have sD:Same H1 H2:=(qm hD).trans s2
   have hD2:H2 D=some (.lst ((rs.map (·.1)).map V.str)):=s2 _ _ qe
   have g2:=g1.mono sD
   refine⟨_,rfl,l,rfl,⟨_,.of g2.at_⟩,?_⟩
   refine jk (K:=K) (a:=l) (xs:=ps.map V.ref) (λi σ' H'=>∃v,σ'=[some (.ref l),some (.ref D),v]/\Same H2 H') ⟨none,rfl,Same.refl H2⟩ (λi σ' H' _ ⟨_,_,s⟩=>.of (s _ _ g2.at_)) ?_ ?_
   ·rintro i x σ' H' hx ⟨v,rfl,s3⟩
    obtain⟨p',q',r,rfl,er,hr',a,b⟩:=(g2.mono s3).rows.item hx
    refine⟨_,rfl,p',_,1,_,rfl,rfl,.of a,rfl,_,rfl,q',D,r.2,rs.map (·.1),rfl,b,s3 _ _ hD2,g.good.rd r hr',g.good.to r hr',tM (g.good.len r hr') (by decide),λH4 s4=>⟨_,rfl,s3.trans s4⟩⟩
   ·rintro σ' H' ⟨v,rfl,s3⟩
    exact⟨_,rfl,l,ps,rs,rfl,g2.mono s3,λH4 s4=>q H4 (((s1.trans sD).trans s3).trans s4)⟩
end
open PySem L2 PyProof.Rows
abbrev vt:Stmt:=ja (top 33) 0
abbrev Y5:Stmt:=ja (top 33) 1
abbrev Ve:Stmt:=ja (top 33) 2
def QI(rs:List (Str×List Str))(r:Str×List Str):List Str:=(rs.map (·.1)).filter λz=>Yu (.str z) (r.2.map V.str)
def jP(CG:Addr)(H:Hp)(a:Addr)(rs:List (Str×List Str)):Prop:=∃(dx lo rd:Addr) (kvs:List (qG×V)),H a=some (.ins CG dx [("order",.ref lo),("roads",.ref rd)])/\H lo=some (.lst ((rs.map (·.1)).map V.str))/\H rd=some (.dK kvs)/\
 ∀r∈rs,∃q,jc kvs (Sum.inr r.1)=some (.ref q)/\H q=some (.lst ((QI rs r).map V.str))
theorem jP.mono{CG:Addr}{H H':Hp}{a:Addr}{rs:List (Str×List Str)}(h:jP CG H a rs)(s:Same H H'):jP CG H' a rs:=by
 obtain⟨dx,lo,rd,kvs,h1,h2,h3,h4⟩:=h
 exact⟨dx,lo,rd,kvs,s _ _ h1,s _ _ h2,s _ _ h3,λr hr=>let ⟨q,a,b⟩:=h4 r hr;⟨q,a,s _ _ b⟩⟩
theorem ZL.fr{H H':Hp}{l x C dx:Addr}{fs:List (Str×V)}{ps:List Addr}{rs:List (Str×List Str)}(h:ZL H l ps rs)(hx:H x=some (.ins C dx fs))(s:Fr H x H'):ZL H' l ps rs:=by
 refine⟨s _ _ h.at_ (λe=>?_),⟨h.rows.1,λi p r e1 e2=>?_⟩,h.good,h.pos,h.le⟩
 ·have:=h.at_
  rw[e,hx]at this
  cases this
 ·obtain⟨q,a,b⟩:=h.rows.2 i p r e1 e2
  exact⟨q,s _ _ a (λe=>by rw[e,hx]at a;cases a),s _ _ b (λe=>by rw[e,hx]at b;cases b)⟩
structure Mp(K:zdw)(mg:Str->Option Value)(CG f:Addr)(fd:zdA):Prop where
 cl:YV K CG
 mkr:Mk K CG f
 ns:mg "Ground"=some (.ref CG)
 no:jW K CG "order"
 nr:jW K CG "roads"
 fn:jw K "__init__" "Ground.__init__" vt f fd
 bi:ji K fd ["self","rows"] []
theorem nor:¬(zdx "order")=zdx "roads":=by decide+kernel
theorem EH(v:V):Jj (zdx "order") v []=[(zdx "order",v)]:=rfl
theorem EG(v u:V):Jj (zdx "roads") u [(zdx "order",v)]=[(zdx "order",v),(zdx "roads",u)]:=by
 unfold Jj
 rw[if_neg nor]
 rfl
theorem EZ(v u:V):([(zdx "order",v),(zdx "roads",u)]:List (Str×V)).lookup (zdx "order")=some v:=by simp [zaA]
theorem DY(v u:V):([(zdx "order",v),(zdx "roads",u)]:List (Str×V)).lookup (zdx "roads")=some u:=by
 have e:((zdx "roads")==(zdx "order"))=false:=by decide+kernel
 simp [zaA,e]
def W6(CG:Addr):Sp:=λvs H Q _=>∃(x dx l:Addr) (ps:List Addr) (rs:List (Str×List Str)),vs=[.ref x,.ref l]/\ZL H l ps rs/\H x=some (.ins CG dx [])/\∀H',jP CG H' x rs->Fr H x H'->Q .non H'
def Jv(CG:Addr):Sp:=λvs H Q _=>∃(a:Addr) (rs:List (Str×List Str)),vs=[.ref a]/\jP CG H a rs/\∀l,H l=none->Q (.ref l) (upd H l (.lst ((rs.map (·.1)).map V.str)))
def W7(CG:Addr):Sp:=λvs H Q _=>∃(a:Addr) (rs:List (Str×List Str)) (r:Str×List Str),vs=[.ref a,.str r.1]/\jP CG H a rs/\r∈rs/\qN r.1=true/\∀H1 l,Same H H1->H1 l=none->Q (.ref l) (upd H1 l (.lst ((QI rs r).map V.str)))
section
variable{P:Program}{w:World}{K:zdw}{mg:Str->Option Value}{base:Heap}
abbrev nGI:List Str:=["self","rows","row"]
theorem AE:qp nGI ["self","rows"] (qj vt):=zdv
theorem Km{f fW CG:Addr}{fd fdW:zdA}(C:Mp K mg CG f fd)(B:QB mg)(G:Qm mg)(T:j9 K mg)(N:kc K mg)(hW:qZ K mg "need_rows" YD ["rows"] fW fdW):qo P w K mg base qJ 6 f fd ["self","rows"] (W6 CG):=by
 have GW:qo P w K mg base qJ 5 fW fdW ["rows"] z6:=Nx hW.fn B G T N
 refine C.fn.okJ AE (λvs H Q E h=>?_) (λcdv A outer s H vs Q E hr h=>?_)
 ·obtain⟨x,dx,l,ps,rs,rfl,_⟩:=h
  rfl
 ·obtain⟨x,dx,l,ps,rs,rfl,g,hx,q⟩:=h
  have hu:=Qp hr
  refine⟨_,qg (jf (qT hW GW hr (by rfl) (qd (jv 1) qf)))
   (qg (Yr (jv 0) (Ql (N':=["row"]) (ix:=[none]) (te:=Xi (Us K) (qS 0) (tC (.int 0))) rfl ⟨rfl,rfl,rfl,rfl,rfl⟩ (qL (jv 1)) (λC s2 H2 fp pins=>
    ⟨qx (i:=0) (vJ _) rfl (Or.inl rfl),jr,qQ jI (jv 0) ql (λ_ _=>rfl)⟩)) rfl)
   (qg (Yr (jv 0) Qc rfl)
   (qh (jC PassesOwn.never rfl (qL (jv 1)) (qx (i:=2) AE.nd rfl (Or.inr rfl))
    (qh (j7 hu (jD (jv 0) rfl) (qQ jI (jv 2) ql (λ_ _=>rfl))
     (Ql (N':=["name","row"]) (ix:=[none,some 2]) (tt:=kt (Xi (C7 K false) (qS 0) (Xi (Us K) (qS 1) (tC (.int 1))))) rfl ⟨rfl,rfl,rfl,rfl,rfl⟩ (qL (jD (jv 0) rfl)) (λC s2 H2 fp pins=>
      ⟨qx (i:=0) (show (["name","row"]:List Str).Nodup by decide+kernel) rfl (Or.inl rfl),ZW (qA JB (jv 0) (qQ jI (jv 1) ql (λ_ _=>rfl)) (by with_unfolding_all rfl)),jv 0⟩)) rfl)))))),?_⟩
  refine⟨_,rfl,l,ps,rs,rfl,g,λH1 s1=>?_⟩
  have g1:=g.mono s1
  have fr1:Fr H x H1:=λb u h _=>s1 _ _ h
  have hx1:=s1 _ _ hx
  refine⟨_,rfl,l,rfl,⟨_,.of g1.at_⟩,λlo hlo=>?_⟩
  have nlx:lo≠x:=λe=>by rw[e,hx1]at hlo;cases hlo
  refine Qe (K:=K) (a:=l) (xs:=ps.map V.ref) (λi σ' H'=>∃v,σ'=[v]/\H'=upd H1 lo (.lst (((rs.take i).map (·.1)).map V.str))) ⟨none,rfl,rfl⟩ (λi σ' H' _ ⟨_,_,e⟩=>e▸.of (qw g1.at_ hlo)) ?_ ?_
  ·rintro i y σ' H' hy ⟨v,rfl,rfl⟩
   obtain⟨p',q',r,rfl,er,hr',a,b⟩:=g1.rows.item hy
   have hi:=(tq.mp er).1
   refine⟨_,rfl,p',_,0,_,rfl,rfl,.of (qw a hlo),rfl,_,qe,?_,_,rfl,?_⟩
   ·rw[tj,tj,zag]
    have:=g.le
    exact qy (by omega)
   ·rw[Qs,tO,er,tH,tH]
    rfl
  rintro σ' H' ⟨v,rfl,rfl⟩
  have e:rs.take (ps.map V.ref).length=rs:=tI (by rw[tj,g.rows.1];exact tu _)
  rw[e]
  have fr2:Fr H x (upd H1 lo (.lst ((rs.map (·.1)).map V.str))):=fr1.new hlo
  have hlo2:upd H1 lo (.lst ((rs.map (·.1)).map V.str)) lo=some (.lst ((rs.map (·.1)).map V.str)):=qe
  have hx2:upd H1 lo (.lst ((rs.map (·.1)).map V.str)) x=some (.ins CG dx []):=qw hx1 hlo
  generalize upd H1 lo (.lst ((rs.map (·.1)).map V.str))=H2 at fr2 hlo2 hx2
  refine⟨_,rfl,x,CG,dx,[],rfl,hx2,C.cl,C.no,by decide,?_⟩
  rw[EH]
  intro rd hrd
  have nrx:rd≠x:=λe=>by rw[e,qe]at hrd;cases hrd
  have hrd2:H2 rd=none:=by rw[qi nrx]at hrd;exact hrd
  have nrl:rd≠lo:=λe=>by rw[e,hlo2]at hrd2;cases hrd2
  have hHr:H rd=none:=fr2.fresh hx2 hrd2
  refine⟨_,rfl,x,CG,dx,_,rfl,qw qe hrd,C.cl,C.nr,by show 1 < 1000;decide,?_⟩
  rw[EG]
  have fr5:Fr H x (upd (upd (upd H2 x (.ins CG dx [("order",.ref lo)])) rd (.dK [])) x (.ins CG dx [("order",.ref lo),("roads",.ref rd)])):=((fr2.at_d).own hHr).at_d
  have g5:=g.fr hx fr5
  refine⟨_,rfl,l,rfl,⟨_,.of g5.at_⟩,?_⟩
  refine jk (K:=K) (a:=l) (xs:=ps.map V.ref) (λi σ' H'=>∃v kvs,σ'=[some (.ref x),some (.ref l),v]/\H' x=some (.ins CG dx [("order",.ref lo),("roads",.ref rd)])/\H' lo=some (.lst ((rs.map (·.1)).map V.str))/\H' rd=some (.dK kvs)/\
   kvs.map (·.1)=((rs.map (·.1)).take i).map Sum.inr/\(∀r∈rs.take i,∃q,jc kvs (Sum.inr r.1)=some (.ref q)/\H' q=some (.lst ((QI rs r).map V.str)))/\Fr H x H')
   ⟨none,[],rfl,qe,?_,?_,rfl,λr h=>(nomatch h),fr5⟩ (λi σ' H' _ ⟨_,_,_,_,_,_,_,_,fr⟩=>.of (g.fr hx fr).at_) ?_ ?_
  ·rw[qi nlx,qi (Ne.symm nrl),qi nlx]
   exact hlo2
  ·rw[qi nrx]
   exact qe
  ·rintro i y σ' H' hy ⟨v,kvs,rfl,hx',hlo',hrd',ek,hv,fr⟩
   have g':=g.fr hx fr
   obtain⟨p,qq,r,rfl,er,hr',a,b⟩:=g'.rows.item hy
   have hi:=(tq.mp er).1
   have hle:=g.le
   refine⟨_,rfl,x,CG,dx,_,_,rfl,hx',C.cl,C.no,EZ _ _,lo,rfl,⟨_,.of hlo'⟩,λD hD=>?_⟩
   refine Qe (K:=K) (a:=lo) (xs:=(rs.map (·.1)).map V.str) (λj σ'' H''=>∃v0,σ''=[v0,some (.ref p)]/\H''=upd H' D (.lst ((((rs.map (·.1)).take j).filter λz=>Yu (.str z) (r.2.map V.str)).map V.str))) ⟨none,rfl,rfl⟩
    (λj σ'' H'' _ ⟨_,_,e⟩=>e▸.of (qw hlo' hD)) ?_ ?_
   ·rintro j y σ'' H'' hy ⟨v0,rfl,rfl⟩
    rw[tZ]at hy
    cases e:(rs.map (·.1))[j]? with
    | none=>rw[e]at hy;cases hy
    | some z=>
     rw[e]at hy
     obtain rfl:=(tX.inj hy).symm
     refine⟨_,rfl,_,rfl,p,_,1,_,rfl,rfl,.of (qw a hD),rfl,qq,_,rfl,.inr (.of (qw b hD)),rfl,Q9 _,_,rfl,?_⟩
     have et:((rs.map (·.1)).take (j+1)).filter (λz=>Yu (.str z) (r.2.map V.str))=((rs.map (·.1)).take j).filter (λz=>Yu (.str z) (r.2.map V.str))++if Yu (.str z) (r.2.map V.str)=true then [z] else []:=by
      rw[tO,e,zbb]
      congr 1
      cases ei:Yu (.str z) (r.2.map V.str)
      ·simp [ei]
      ·simp [ei]
     rw[et]
     show if Yu (.str z) (r.2.map V.str)=true then _ else _
     cases ei:Yu (.str z) (r.2.map V.str) with
     | true=>
      refine Qj ⟨_,rfl,_,qe,?_,_,rfl,?_⟩
      ·rw[tj]
       refine qy (tM (zaH _ _) ?_)
       rw[zag,tj]
       omega
      ·rw[Qs,if_pos rfl,tH]
       rfl
     | false=>
      refine jh ⟨_,rfl,?_⟩
      rw[if_neg tS,zaX]
   ·rintro σ'' H'' ⟨v0,rfl,rfl⟩
    have ed:((rs.map (·.1)).take ((rs.map (·.1)).map V.str).length).filter (λz=>Yu (.str z) (r.2.map V.str))=QI rs r:=by
     rw[tj,tI (tu _)]
     rfl
    rw[ed]
    have nD:∀{c:Addr} {o:HO},H' c=some o->c≠D:=λh e=>by rw[e,hD]at h;cases h
    have en:(rs.map (·.1))[i]?=some r.1:=by rw[tZ,er];rfl
    have ez:jc kvs (Sum.inr r.1:qG)=none:=Zo (by rw[ek];exact ZU g.good.nd en)
    have lk:kvs.length < zdB:=by
     have:=congrArg zbs ek
     rw[tj,tj,zag,tj]at this
     exact qy (by omega)
    refine⟨_,rfl,x,CG,dx,_,_,rfl,qw hx' hD,C.cl,C.nr,DY _ _,_,rfl,p,_,0,_,rfl,rfl,.of (qw a hD),rfl,rd,_,rfl,Jk.k (k:=(Sum.inr r.1:qG)) (qw hrd' hD) lk,?_⟩
    refine⟨_,Qn kvs (Sum.inr r.1) (.ref D),rfl,?_,?_,qe,?_,λr' hr2=>?_,?_⟩
    ·rw[qi (Ne.symm nrx)];exact qw hx' hD
    ·rw[qi (Ne.symm nrl)];exact qw hlo' hD
    ·rw[JU _ ez,ek,tO,en,tH]
     rfl
    ·rw[tO,er]at hr2
     rcases zar.mp hr2 with h | h
     ·obtain⟨q1,a1,b1⟩:=hv r' h
      refine⟨q1,?_,?_⟩
      ·rw[Jt,if_neg]
       ·exact a1
       ·intro z
        rw[z,ez]at a1
        cases a1
      ·have n1:q1≠rd:=λe=>by rw[e,hrd']at b1;cases b1
       rw[qi n1]
       exact qw b1 hD
     ·have er':r'=r:=by simpa using h
      subst er'
      refine⟨D,?_,?_⟩
      ·rw[Jt,if_pos rfl]
      ·rw[qi (Ne.symm (nD hrd'))]
       exact qe
    ·exact(fr.new hD).own hHr
  ·rintro σ' H' ⟨v,kvs,rfl,hx',hlo',hrd',ek,hv,fr⟩
   have e:rs.take (ps.map V.ref).length=rs:=tI (by rw[tj,g.rows.1];exact tu _)
   rw[e]at hv
   exact q H' ⟨dx,lo,rd,kvs,hx',hlo',hrd',hv⟩ fr
theorem Eo:qp ["self"] ["self"] (qj Y5):=zdv
theorem JD{f fI CG:Addr}{fd fdI:zdA}(F:jw K "names" "Ground.names" Y5 f fd)(C:Mp K mg CG fI fdI)(G:Qm mg):qo P w K mg base qJ 1 f fd ["self"] (Jv CG):=by
 refine F.okJ Eo (λvs H Q E h=>?_) (λcdv A outer s H vs Q E hr h=>?_)
 ·obtain⟨a,rs,rfl,_⟩:=h
  rfl
 ·obtain⟨a,rs,rfl,⟨dx,lo,rd,kvs,h1,h2,h3,h4⟩,q⟩:=h
  refine⟨_,qh (qt (QE J8 (by rfl) G.lst boot_list (qd (jD (jv 0) rfl) qf))),?_⟩
  exact⟨_,rfl,a,CG,dx,_,_,rfl,h1,C.cl,C.no,EZ _ _,lo,_,rfl,.inl (.of h2),q⟩
abbrev EV:List Str:=["self","name"]
theorem Ep:qp EV EV (qj Ve):=zdv
theorem Ux{f fI fN CG:Addr}{fd fdI fdN:zdA}(F:jw K "roads_from" "Ground.roads_from" Ve f fd)(C:Mp K mg CG fI fdI)(B:QB mg)(G:Qm mg)(T:j9 K mg)(hN:qZ K mg "is_name" QZ ["thing"] fN fdN):qo P w K mg base qJ 2 f fd EV (W7 CG):=by
 have GN:qo P w K mg base qJ 1 fN fdN ["thing"] Rx:=Vk hN.fn B T
 refine F.okJ Ep (λvs H Q E h=>?_) (λcdv A outer s H vs Q E hr h=>?_)
 ·obtain⟨a,rs,r,rfl,_⟩:=h
  rfl
 ·obtain⟨a,rs,r,rfl,gr,hr',hn,q⟩:=h
  have hu:=Qp hr
  refine⟨_,qg (qE (Jp (jy (jd (qT hN GN hr (by rfl) (qd (jv 1) qf)))) (QK (Qb (JF hu (jv 1) (jD (jv 0) rfl))))).pt qI qv)
   (qh (qt (QE J8 (by rfl) G.lst boot_list (qd (jN hu (jD (jv 0) rfl) (jv 1) (λ_ _=>rfl)) qf)))),?_⟩
  refine⟨_,rfl,r.1,rfl,hn,λH1 s1=>⟨_,rfl,jh ?_⟩⟩
  obtain⟨dx,lo,rd,kvs,h1,h2,h3,h4⟩:=gr.mono s1
  obtain⟨qq,hv,hq⟩:=h4 r hr'
  have gz:jU H1 rd (.str r.1) (some (.ref qq)):=by
   have:=jU.k (k:=(Sum.inr r.1:qG)) h3
   rw[hv]at this
   exact this
  refine⟨_,rfl,_,rfl,a,CG,dx,_,_,rfl,h1,C.cl,C.nr,DY _ _,rd,_,rfl,gz,_,rfl,jh ?_⟩
  exact⟨_,rfl,a,CG,dx,_,_,rfl,h1,C.cl,C.nr,DY _ _,_,rfl,rd,_,rfl,gz,qq,_,rfl,.inl (.of hq),λl hl=>q H1 l s1 hl⟩
end
open PySem L2 PyProof.Rows
abbrev QV:Stmt:=top 2
abbrev Yd:Stmt:=top 3
abbrev jt:=List (Str×List Str)
def Zm(rs:jt)(z:Str):List Str:=match rs.find? (λr=>decide (r.1=z)) with
 | some r=>QI rs r
 | none=>[]
theorem XT:∀{rs:jt} {r:Str×List Str},(rs.map (·.1)).Nodup->r∈rs->rs.find? (λq=>decide (q.1=r.1))=some r
 | a::rs,r,hn,h=>by
  rw[tL,zaG]at hn
  rcases tJ.mp h with rfl | h
  ·simp [zaY]
  ·have:¬a.1=r.1:=λe=>hn.1 (e▸tQ.mpr ⟨r,h,rfl⟩)
   simp only[zaY,decide_eq_false this]
   exact XT hn.2 h
theorem Xd{rs:jt}{r:Str×List Str}(hn:(rs.map (·.1)).Nodup)(h:r∈rs):Zm rs r.1=QI rs r:=by
 unfold Zm
 rw[XT hn h]
theorem uO{rs:jt}{r:Str×List Str}{y:Str}(h:y∈QI rs r):∃r'∈rs,r'.1=y:=by
 obtain⟨r',h1,h2⟩:=tQ.mp (zaw.mp h).1
 exact⟨r',h1,h2⟩
theorem Vt{z:Str}{zs:List Str}:Yu (.str z) (zs.map V.str)=true↔z∈zs:=by
 refine⟨λh=>?_,J4⟩
 unfold Yu at h
 obtain⟨y,hy,e⟩:=zbl.mp h
 obtain⟨x,hx,rfl⟩:=tQ.mp hy
 have e':(x==z)=true:=e
 rw[beq_iff_eq]at e'
 exact e'▸hx
theorem Ur{rs:jt}(g:qF rs){r:Str×List Str}(h:r∈rs){y:Str}:y∈QI rs r↔y∈r.2:=by
 unfold QI
 rw[zaw,Vt]
 exact⟨λz=>z.2,λz=>⟨g.to r h y z,z⟩⟩
theorem ZD{rs:jt}(hn:(rs.map (·.1)).Nodup):∀z∈rs.map (·.1),∀y∈Zm rs z,y∈rs.map (·.1):=λz hz y hy=>by
 obtain⟨r,hr,rfl⟩:=tQ.mp hz
 rw[Xd hn hr]at hy
 obtain⟨r',h1,rfl⟩:=uO hy
 exact tQ.mpr ⟨r',h1,rfl⟩
theorem JZ{α:Type}:∀{l m:List α},l.Nodup->(∀z∈l,z∈m)->l.length<=m.length
 | [],m,_,_=>zao _
 | a::l,m,hn,h=>by
  classical
  rw[zaG]at hn
  have ha:=h a tK
  have:=JZ (m:=m.erase a) hn.2 λz hz=>(zcj (λ(e:z=a)=>hn.1 (e▸hz))).mpr (h z (tF _ hz))
  rw[zcM ha]at this
  have:=zca ha
  rw[tP]
  omega
structure X0(K:zdw)(C:Addr)(m qual:Str)(st:Stmt)(ps:List Str)(f:Addr)(fd:zdA):Prop where
 fn:jw K m qual st f fd
 me:YU K C m f
 bi:ji K fd ps []
theorem WH{X:Cx}{C f:Addr}{fd:zdA}{m qual:Str}{st:Stmt}{ps:List Str}{k:Nat}{sp:Sp}{o:Expr}{ta:TE}{apos pos:Pos}{pl:Sem Bool}(h:X0 X.K C m qual st ps f fd)(c:YV X.K C)(G:qo X.prog X.w X.K X.mg X.base qJ k f fd ps sp)(hr:qO k X.A)(he:JE X o ta)
 (ht:eval (.Call (.Attribute o m apos) [] [] pos) X.env=(do
  let ov <-eval o X.env
  standAt apos.atName
  let (f,first) <-holding [ov] (getMethod ov m pl)
  callWith pos f first (backTo pos (starEach [] X.env)) (backToKw pos (keywordEach [] X.env))):=by rfl):
 JE X (.Call (.Attribute o m apos) [] [] pos) (Wi C m sp [] E0 ta Qf):=KR he c h.me G hr h.bi .nil jG ht
theorem KS{X:Cx}{C f:Addr}{fd:zdA}{m qual:Str}{st:Stmt}{ps:List Str}{k:Nat}{sp:Sp}{o e:Expr}{es:List Expr}{ta:TE}{t:TA}{apos pos:Pos}{pl:Sem Bool}(h:X0 X.K C m qual st ps f fd)(c:YV X.K C)(G:qo X.prog X.w X.K X.mg X.base qJ k f fd ps sp)(hr:qO k X.A)(he:JE X o ta)(ha:JA X (e::es) t)
 (hst:starEach (e::es) X.env=(false,eval e X.env)::starEach es X.env:=by rfl) (hpl:(backTo pos (starEach es X.env)).any (·.1)=false:=by rfl)
 (ht:eval (.Call (.Attribute o m apos) (e::es) [] pos) X.env=(do
  let ov <-eval o X.env
  standAt apos.atName
  let (f,first) <-holding [ov] (getMethod ov m pl)
  callWith pos f first (backTo pos (starEach (e::es) X.env)) (backToKw pos (keywordEach [] X.env))):=by rfl):
 JE X (.Call (.Attribute o m apos) (e::es) [] pos) (Wi C m sp [] E0 ta t):=Jr he c h.me G hr h.bi .nil jG ha hst hpl ht
structure GM(K:zdw)(mg:Str->Option Value)(CG:Addr):Prop where
 cls:∃f fd,Mp K mg CG f fd
 nm:∃f fd,X0 K CG "names" "Ground.names" Y5 ["self"] f fd
 fr:∃f fd,X0 K CG "roads_from" "Ground.roads_from" Ve ["self","name"] f fd
 isn:∃f fd,qZ K mg "is_name" QZ ["thing"] f fd
theorem jP.ins{CG:Addr}{H:Hp}{a:Addr}{rs:jt}(h:jP CG H a rs):∃dx fs,H a=some (.ins CG dx fs)/\fs.lookup (zdx "names")=none/\fs.lookup (zdx "roads_from")=none:=by
 obtain⟨dx,lo,rd,kvs,h1,_⟩:=h
 refine⟨dx,_,h1,?_,?_⟩
 ·have e1:((zdx "names")==(zdx "order"))=false:=by decide+kernel
  have e2:((zdx "names")==(zdx "roads"))=false:=by decide+kernel
  simp only[zaA]
  rw[e1,e2]
 ·have e1:((zdx "roads_from")==(zdx "order"))=false:=by decide+kernel
  have e2:((zdx "roads_from")==(zdx "roads"))=false:=by decide+kernel
  simp only[zaA]
  rw[e1,e2]
theorem Kv{rs:jt}{i:Nat}{y:V}(h:((rs.map (·.1)).map V.str)[i]?=some y):∃r,rs[i]?=some r/\r∈rs/\y=.str r.1:=by
 rw[tZ,tZ]at h
 cases e:rs[i]? with
 | none=>rw[e]at h;cases h
 | some r=>rw[e]at h;exact⟨r,rfl,tV e,(tX.inj h).symm⟩
theorem Qg{zs:List Str}{i:Nat}{y:V}(h:(zs.map V.str)[i]?=some y):∃z,zs[i]?=some z/\z∈zs/\y=.str z:=by
 rw[tZ]at h
 cases e:zs[i]? with
 | none=>rw[e]at h;cases h
 | some z=>rw[e]at h;exact⟨z,rfl,tV e,(tX.inj h).symm⟩
theorem vz{rs:jt}(r:Str×List Str):(QI rs r).length<=rs.length:=by
 have:=zaH (λz=>Yu (.str z) (r.2.map V.str)) (rs.map (·.1))
 rwa [tj]at this
theorem qH{c:Bool}{A B:Prop}(hc:c=false)(h:B):if c=true then A else B:=by
 rw[hc]
 exact jh h
theorem qW{c:Bool}{A B:Prop}(hc:c=true)(h:A):if c=true then A else B:=by
 rw[if_pos hc]
 exact h
theorem yr{rs:jt}(g:qF rs){r:Str×List Str}(h:r∈rs){y:Str}:y∈Zm rs r.1↔y∈r.2:=by
 rw[Xd g.nd h]
 exact Ur g h
theorem Bp{σ:L2.St}{H:Hp}{Q:List V->Hp->Prop}(h:Q [] H):Qf σ H Q:=h
theorem Jx{H H':Hp}{a:Addr}(s:Same H H')(h:H' a=none):H a=none:=by
 cases z:H a with
 | none=>rfl
 | some u=>rw[s _ _ z]at h;cases h
theorem JX{z:Str}(h:qN z=true):(∀c∈z.cps.toList,c<=122)/\z.length<=8/\1<=z.length:=by
 unfold qN at h
 simp only[zaa,decide_eq_true_eq]at h
 refine⟨λc hc=>?_,h.1.2,h.1.1⟩
 have:=zak.mp h.2 c hc
 unfold Jg at this
 simp only[zaa,decide_eq_true_eq]at this
 exact this.2
section
variable{P:Program}{w:World}{K:zdw}{mg:Str->Option Value}{base:Heap}
theorem Gw(x:Int):Builtin.bitNot (Builtin.bitNot x)=x:=by unfold Builtin.bitNot;omega
theorem bo(a b:Nat):Builtin.bitOr a b=((a ||| b:Nat):Int):=by
 have na:¬(0:Int)<=Builtin.bitNot a:=by unfold Builtin.bitNot;omega
 have nb:¬(0:Int)<=Builtin.bitNot b:=by unfold Builtin.bitNot;omega
 have e:Builtin.bitAnd (Builtin.bitNot a) (Builtin.bitNot b)=Builtin.bitNot (((Builtin.bitNot (Builtin.bitNot a)).toNat ||| (Builtin.bitNot (Builtin.bitNot b)).toNat:Nat):Int):=by
  unfold Builtin.bitAnd
  rw[decide_eq_false na,decide_eq_false nb]
 unfold Builtin.bitOr
 rw[e,Gw,Gw,Gw,zbi,zbi]
theorem ba(a b:Nat):Builtin.bitAnd a b=((a&&& b:Nat):Int):=by
 unfold Builtin.bitAnd
 rw[decide_eq_true (zcw a),decide_eq_true (zcw b)]
 rfl
def Yv(ns:List Nat):List V:=ns.map λn=>V.int (n:Nat)
theorem zL(ns:List Nat):(Yv ns).length=ns.length:=tj ..
theorem Vu{ns:List Nat}{i:Nat}{x:V}(h:(Yv ns)[i]?=some x):∃n:Nat,ns[i]?=some n/\x=.int n:=by
 unfold Yv at h
 rw[tZ]at h
 cases e:ns[i]? with
 | none=>rw[e]at h;cases h
 | some n=>rw[e]at h;exact⟨n,rfl,(tX.inj h).symm⟩
theorem zX{ns:List Nat}{i n:Nat}(h:ns[i]?=some n):ns.take (i+1)=ns.take i++[n]:=by
 rw[tO,h]
 rfl
theorem UJ(ns:List Nat)(n:Nat):Yv ns++[V.int (n:Nat)]=Yv (ns++[n]):=by unfold Yv;rw[tH];rfl
theorem UK(ns:List Nat):(Yv ns).all JK=true:=by
 unfold Yv
 rw[zby]
 exact zak.mpr λ_ _=>rfl
theorem K5(ns:List Nat)(n:Nat):Yu (.int (n:Nat)) (Yv ns)=decide (n∈ns):=by
 unfold Yu Yv
 rw[List.any_map,zaW,zbl,decide_eq_true_iff]
 constructor
 ·rintro⟨y,hy,e⟩
  have e':((y:Int)==(n:Int))=true:=e
  have:y=n:=by
   have:=eq_of_beq e'
   omega
  exact this▸hy
 ·intro h
  refine⟨n,h,?_⟩
  show ((n:Int)==(n:Int))=true
  simp
def Wp(K:zdw):Sp:=λvs H Q _=>∃(a:Addr) (ns:List Nat),vs=[.ref a]/\SqL K H a (Yv ns)/\ns.length<=1000/\∀H',Same H H'->Q (.int (Rb.lackN ns:Nat)) H'
def W2(K:zdw):Sp:=λvs H Q _=>∃(a:Addr) (ns:List Nat),vs=[.ref a]/\SqL K H a (Yv ns)/\(∀x∈ns,x < 1000)/\Q (.int (Rb.setN ns:Nat)) H
theorem YZ:qp ["numbers","bits","number"] ["numbers"] (qj Yd):=zdv
theorem Uv{f:Addr}{fd:zdA}(F:jw K "set_of" "set_of" Yd f fd):qo P w K mg base qJ 1 f fd ["numbers"] (W2 K):=by
 refine F.okJ YZ (λvs H Q E h=>?_) (λcdv A outer s H vs Q E hr h=>?_)
 ·obtain⟨a,ns,rfl,_⟩:=h
  rfl
 ·obtain⟨a,ns,rfl,hS,hb,q⟩:=h
  refine⟨_,qg (qD (i:=1) YZ.nd rfl (Or.inl rfl) ql)
   (qg (jC PassesOwn.never rfl (qL (jv 0)) (qx (i:=2) YZ.nd rfl (Or.inl rfl)) (qh (qD (i:=1) YZ.nd rfl (Or.inl rfl) (qV Dd (jv 1) (qV AR ql (jv 2))))))
   (qh (qt (jv 1)))),?_⟩
  refine⟨_,rfl,a,rfl,⟨_,hS⟩,?_⟩
  refine jk (K:=K) (a:=a) (xs:=Yv ns) (λi σ H'=>∃v,σ=[some (.ref a),some (.int ((Rb.setN (ns.take i):Nat):Int)),v]/\H'=H) ⟨none,rfl,rfl⟩ (λi σ H' _ ⟨_,_,e⟩=>e▸hS) ?_ ?_
  ·rintro i x σ H' hx ⟨v,rfl,rfl⟩
   obtain⟨n,hn,rfl⟩:=Vu hx
   have n1:=hb n (tV hn)
   have e1:(1:Int)*2^ ((n:Nat):Int).toNat=((2^n:Nat):Int):=by rw[zbi,Int.one_mul];push_cast;rfl
   have e:((Rb.setN (ns.take (i+1)):Nat):Int)=Builtin.bitOr (Rb.setN (ns.take i):Nat) ((1:Int)*2^ ((n:Nat):Int).toNat):=by rw[e1,bo,zX hn,Rb.setN_snoc]
   refine⟨_,rfl,_,rfl,_,_,rfl,rfl,⟨by omega,by omega,by decide⟩,_,_,rfl,rfl,some (.int n),?_,rfl⟩
   rw[e]
   rfl
  ·rintro σ H' ⟨v,rfl,rfl⟩
   refine⟨_,rfl,?_⟩
   rw[zL,tI (tu _)]
   exact q
theorem Jw:qp ["numbers","there","number","least"] ["numbers"] (qj QV):=zdv
theorem vF{f:Addr}{fd:zdA}(F:jw K "lacking" "lacking" QV f fd):qo P w K mg base qJ 1 f fd ["numbers"] (Wp K):=by
 refine F.okJ Jw (λvs H Q E h=>?_) (λcdv A outer s H vs Q E hr h=>?_)
 ·obtain⟨a,ns,rfl,_⟩:=h
  rfl
 ·obtain⟨a,ns,rfl,hS,hl,q⟩:=h
  have hu:=Qp hr
  refine⟨_,qg (qD (i:=1) Jw.nd rfl (Or.inl rfl) Qc)
   (qg (jC PassesOwn.never rfl (qL (jv 0)) (qx (i:=2) Jw.nd rfl (Or.inl rfl)) (qh (j7 hu (jv 1) (jv 2) Qd rfl)))
   (qg (qD (i:=3) Jw.nd rfl (Or.inl rfl) ql)
   (qg (XM PassesOwn.never (Qb (J2 hu (jv 3) (jv 1)) (by with_unfolding_all rfl)) (qh (KF (i:=3) Jw.nd rfl (Or.inl rfl) ql KZ)))
   (qh (qt (jv 3)))))),?_⟩
  intro D hD
  refine⟨_,rfl,a,rfl,⟨_,(qm hD).seq hS⟩,?_⟩
  refine jk (K:=K) (a:=a) (xs:=Yv ns) (λi σ H'=>∃v kvs,σ=[some (.ref a),some (.ref D),v,none]/\H'=upd H D (.dK kvs)/\kvs.length<=i/\∀x:Nat,(jc kvs (Sum.inl (x:Int):qG)).isSome=decide (x∈ns.take i)) ⟨none,[],rfl,rfl,tu _,λx=>by simp [jc]⟩
   (λi σ H' _ ⟨_,_,_,e,_⟩=>e▸(qm hD).seq hS) ?_ ?_
  ·rintro i x σ H' hx ⟨v,kvs,rfl,rfl,hk,hv⟩
   obtain⟨n,hn,rfl⟩:=Vu hx
   have hi:i < ns.length:=(tq.mp hn).1
   refine⟨_,rfl,_,rfl,D,_,rfl,Jk.k (k:=(Sum.inl (n:Int):qG)) qe (qy (by omega)),?_⟩
   refine⟨some (.int n),Qn kvs (Sum.inl (n:Int)) (.bl true),rfl,Qs,?_,λx=>?_⟩
   ·have:=Jn kvs (Sum.inl (n:Int):qG) (.bl true)
    omega
   ·rw[Jt,zX hn]
    by_cases e:x=n
    ·subst e;simp
    ·have e':¬(Sum.inl (x:Int):qG)=Sum.inl (n:Int):=λz=>e (by have:=Sum.inl.inj z;omega)
     rw[if_neg e',hv x,zaW]
     simp [e]
  ·rintro σ H' ⟨v,kvs,rfl,rfl,hk,hv⟩
   rw[zL,tI (tu _)]at hv
   refine Xg (λσ H'=>∃r:Nat,σ=[some (.ref a),some (.ref D),v,some (.int r)]/\H'=upd H D (.dK kvs)/\∀x,x < r->x∈ns) (λσ _=>match σ with | [_,_,_,some (.int r)]=>ns.length - r.toNat | _=>0) ⟨0,rfl,rfl,λx hx=>absurd hx (zbU _)⟩ ?_ ?_
   ·rintro σ H' ⟨r,rfl,rfl,hr'⟩
    refine⟨_,rfl,_,rfl,D,_,rfl,jU.k (k:=(Sum.inl (r:Int):qG)) qe,_,rfl,?_⟩
    rw[hv r]
    by_cases hm:r∈ns
    ·rw[decide_eq_true hm]
     have hp:=Rb.pigeon (r+1) ns λx hx=>by
      by_cases e:x=r
      ·rw[e];exact hm
      ·exact hr' x (by omega)
     refine Qj ⟨_,rfl,_,_,rfl,rfl,⟨r+1,rfl,rfl,λx hx=>?_⟩,?_⟩
     ·by_cases e:x=r
      ·rw[e];exact hm
      ·exact hr' x (by omega)
     ·show ns.length - ((r:Int)+1).toNat < ns.length - (r:Int).toNat
      omega
    ·rw[decide_eq_false hm]
     refine jh ⟨_,rfl,?_⟩
     have e:=Rb.lackN_eq (r:=r) (ns:=ns) ⟨hm,hr'⟩
     have:=q _ (qm (o:=.dK kvs) hD)
     rw[<-e]at this
     exact this
   ·rintro σ H Q Q' h1 ⟨v,e,w,e2,a,o,e3,g,k,e4,q⟩
    exact⟨v,e,w,e2,a,o,e3,g,k,e4,h1 _ _ q⟩
end
open PySem L2 PyProof.Rows MLab
abbrev MR:Stmt:=top 52
abbrev Xv:Stmt:=top 53
abbrev Ye:Stmt:=top 54
abbrev Uh:Stmt:=top 55
abbrev Vd:Stmt:=top 56
abbrev Y4:Stmt:=top 57
structure ju(N:List Str)(H:Hp)(d:Addr)(f:Str->Option Nat):Prop where
 at_:∃kvs:List (qG×V),H d=some (.dK kvs)/\(∀z:Str,jc kvs (Sum.inr z:qG)=(f z).map λn=>V.int (n:Nat))/\(kvs.map (·.1)).Nodup/\∀k∈kvs.map (·.1),k∈N.map (Sum.inr:Str->qG)
theorem ju.mono{N:List Str}{H H':Hp}{d:Addr}{f:Str->Option Nat}(h:ju N H d f)(s:Same H H'):ju N H' d f:=⟨let ⟨kvs,a,b⟩:=h.at_;⟨kvs,s _ _ a,b⟩⟩
theorem ju.get{N:List Str}{H:Hp}{d:Addr}{f:Str->Option Nat}(h:ju N H d f)(z:Str):jU H d (.str z) ((f z).map λn=>V.int (n:Nat)):=by
 obtain⟨kvs,a,b,_⟩:=h.at_
 rw[<-b z]
 exact jU.k (k:=(Sum.inr z:qG)) a
theorem ju.isd{N:List Str}{H:Hp}{d:Addr}{f:Str->Option Nat}(h:ju N H d f):∃kvs:List (qG×V),H d=some (.dK kvs):=let ⟨kvs,a,_⟩:=h.at_;⟨kvs,a⟩
theorem ju.put{N:List Str}{H:Hp}{d:Addr}{f:Str->Option Nat}(h:ju N H d f){z:Str}{n:Nat}(hz:z∈N)(hf:f z=none)(le:N.length<=14):∃H',Jk H d (.str z) (.int (n:Nat)) H'/\ju N H' d (λy=>if y=z then some n else f y)/\∃o,H'=upd H d o:=by
 obtain⟨kvs,a,b,nd,sub⟩:=h.at_
 have ln:kvs.length<=14:=by
  have:=JZ nd sub
  rw[tj,tj]at this
  omega
 refine⟨_,Jk.k (k:=(Sum.inr z:qG)) a (qy (by omega)),⟨Qn kvs (Sum.inr z) (.int (n:Nat)),qe,λy=>?_,?_,?_⟩,_,rfl⟩
 ·rw[Jt]
  by_cases e:y=z
  ·subst e;rw[if_pos rfl,if_pos rfl];rfl
  ·rw[if_neg e,if_neg (λq=>e (Sum.inr.inj q))];exact b y
 ·rw[zE _ (by rw[b z,hf];rfl),tH]
  refine zdr.mpr ⟨nd,zcR _ _,λx hx y hy e=>?_⟩
  have ey:y=Sum.inr z:=by simpa using hy
  subst ey
  subst e
  have:(jc kvs (Sum.inr z:qG)).isSome=true:=by
   obtain⟨p,hp,ep⟩:=tQ.mp hx
   have an:(kvs.any λkv=>decide (kv.1=(Sum.inr z:qG)))=true:=zbl.mpr ⟨p,hp,decide_eq_true ep⟩
   rw[QU]at an
   exact an
  rw[b z,hf]at this
  cases this
 ·rw[zE _ (by rw[b z,hf];rfl),tH]
  intro k hk
  rcases zar.mp hk with hk | hk
  ·exact sub k hk
  ·have:k=Sum.inr z:=by simpa using hk
   rw[this]
   exact tQ.mpr ⟨z,hz,rfl⟩
def YO(rs:jt)(f:Str->Option Nat)(z:Str):List Nat:=(Zm rs z).filterMap f
theorem QS{rs:jt}{f:Str->Option Nat}{z:Str}{n:Nat}:n∈YO rs f z↔∃y∈Zm rs z,f y=some n:=zaR
theorem yq{rs:jt}(z:Str):(Zm rs z).length<=rs.length:=by
 unfold Zm
 split
 ·exact vz _
 ·exact zao _
def WX(rs:jt)(f:Str->Option Nat)(z:Str):List Str:=(Zm rs z).filter λy=>(f y).isNone
def zN(rs:jt)(f:Str->Option Nat)(z:Str)(n:Nat):Bool:=decide (Rb.lackN (YO rs f z)=n)&&(WX rs f z).all λy=>decide (n∈YO rs f y)
theorem xX{rs:jt}{f:Str->Option Nat}{z:Str}{n:Nat}:zN rs f z n=true↔B1 (Zm rs) f z n:=by
 unfold zN B1 WX
 rw[zaa,decide_eq_true_iff,zak]
 have lk:Rb.Lacks (Rb.lackN (YO rs f z)) (YO rs f z):=Rb.lackI_lacks _
 constructor
 ·rintro⟨rfl,h⟩
  refine⟨λj hj=>QS.mp (lk.2 j hj),λy hy e=>lk.1 (QS.mpr ⟨y,hy,e⟩),λy hy e=>?_⟩
  exact QS.mp (of_decide_eq_true (h y (zaw.mpr ⟨hy,by rw[e];rfl⟩)))
 ·rintro⟨h1,h2,h3⟩
  refine⟨(Rb.lackN_eq ⟨λm=>?_,λx hx=>QS.mpr (h1 x hx)⟩).symm,λy hy=>decide_eq_true ?_⟩
  ·obtain⟨y,hy,e⟩:=QS.mp m
   exact h2 y hy e
  ·obtain⟨hy1,hy2⟩:=zaw.mp hy
   exact QS.mpr (h3 y hy1 (by simpa using hy2))
def uK(rs:jt)(f:Str->Option Nat)(n:Nat):List Str:=((rs.map (·.1)).filter λz=>(f z).isNone).filter λz=>zN rs f z n
theorem R5(rs:jt)(R:Rs Str)(n:Nat):yI (Zm rs) (rs.map (·.1)) R n (uK rs (q0 R) n):=⟨λx=>by
 unfold uK
 rw[zaw,zaw,xX]
 constructor
 ·rintro⟨⟨a,b⟩,c⟩
  exact⟨a,by simpa using b,c⟩
 ·rintro⟨a,b,c⟩
  exact⟨⟨a,by rw[b];rfl⟩,c⟩,zaP.trans zaP⟩
def Ry(CG:Addr):Sp:=λvs H Q _=>∃(g d:Addr) (rs:jt) (z:Str) (f:Str->Option Nat),vs=[.ref g,.ref d,.str z]/\jP CG H g rs/\qF rs/\rs.length<=14/\z∈rs.map (·.1)/\ju (rs.map (·.1)) H d f/\
 ∀H' l,Same H H'->H l=none->H' l=some (.lst (Yv (YO rs f z)))->Q (.ref l) H'
def ud(CG:Addr):Sp:=λvs H Q _=>∃(g d:Addr) (rs:jt) (z:Str) (f:Str->Option Nat) (n:Nat),vs=[.ref g,.ref d,.str z,.int (n:Nat)]/\jP CG H g rs/\qF rs/\rs.length<=14/\z∈rs.map (·.1)/\ju (rs.map (·.1)) H d f/\
 ∀H',Same H H'->Q (.bl (zN rs f z n)) H'
def kD(CG:Addr):Sp:=λvs H Q _=>∃(g d:Addr) (rs:jt) (f:Str->Option Nat) (n:Nat),vs=[.ref g,.ref d,.int (n:Nat)]/\jP CG H g rs/\qF rs/\rs.length<=14/\ju (rs.map (·.1)) H d f/\
 ∀H' l,Same H H'->H l=none->H' l=some (.lst ((uK rs f n).map V.str))->Q (.ref l) H'
theorem vL{α β:Type}(g:α->Option β)(h:β->V):∀l:List α,(l.filterMap g).map h=l.filterMap λx=>(g x).map h
 | []=>rfl
 | a::l=>by
  rw[zav,zav]
  cases g a with
  | none=>exact vL g h l
  | some b=>rw[tL,vL g h l];rfl
theorem XU(p:Str->Bool):∀l:List Str,(l.filter p).map V.str=l.filterMap λx=>if p x=true then some (V.str x) else none
 | []=>rfl
 | a::l=>by
  rw[zbx,zav]
  cases p a with
  | false=>exact XU p l
  | true=>
   rw[if_pos rfl,if_pos rfl,tL,XU p l]
theorem ye{α:Type}(f:α->V):∀l:List α,l.map f=l.filterMap λx=>some (f x)
 | []=>rfl
 | a::l=>by rw[tL,zav,ye f l]
section
variable{P:Program}{w:World}{K:zdw}{mg:Str->Option Value}{base:Heap}
abbrev G0:List Str:=["ground","numbered","name"]
theorem Ek:qp G0 G0 (qj MR):=zdv
theorem MV{f CG:Addr}{fd:zdA}(F:jw K "numbers_behind" "numbers_behind" MR f fd)(B:QB mg)(G:Qm mg)(T:j9 K mg)(M:GM K mg CG):qo P w K mg base qJ 3 f fd G0 (Ry CG):=by
 obtain⟨fC,fdC,C⟩:=M.cls
 obtain⟨fR,fdR,hR⟩:=M.fr
 obtain⟨fN,fdN,hN⟩:=M.isn
 have GR:qo P w K mg base qJ 2 fR fdR ["self","name"] (W7 CG):=Ux hR.fn C B G T hN
 refine F.okJ Ek (λvs H Q E h=>?_) (λcdv A outer s H vs Q E hr h=>?_)
 ·obtain⟨g,d,rs,z,nf,rfl,_⟩:=h
  rfl
 ·obtain⟨g,d,rs,z,nf,rfl,gr,good,le14,hz,hd,q⟩:=h
  have hu:=Qp hr
  refine⟨_,qh (qt (Ql (N':=["end","numbered"]) (ix:=[none,some 1]) rfl ⟨rfl,rfl,rfl,rfl,rfl⟩ (qL (KS hR C.cl GR hr (jv 0) (qd (jv 2) qf))) (λC s2 H2 fp pins=>
   ⟨qx (i:=0) (show (["end","numbered"]:List Str).Nodup by decide+kernel) rfl (Or.inl rfl),ZW (Qb (J2 hu (jv 0) (jv 1))),jN hu (jv 1) (jv 0) (λ_ _=>rfl)⟩))),?_⟩
  obtain⟨dx,fs,hg,l1,l2⟩:=gr.ins
  obtain⟨r,hr',rfl⟩:=tQ.mp hz
  refine⟨_,rfl,g,dx,fs,rfl,hg,l2,_,rfl,g,rs,r,rfl,gr,hr',good.nm r hr',λH1 le s1 hle=>?_⟩
  have s2:Same H (upd H1 le (.lst ((QI rs r).map V.str))):=s1.trans (qm hle)
  have hl2:upd H1 le (.lst ((QI rs r).map V.str)) le=some (.lst ((QI rs r).map V.str)):=qe
  generalize upd H1 le (.lst ((QI rs r).map V.str))=H2 at s2 hl2
  have hd2:=hd.mono s2
  refine⟨le,rfl,⟨_,.of hl2⟩,λW hW=>?_⟩
  refine J9 (K:=K) (a:=le) (xs:=QI rs r) (enc:=V.str) (out:=λy=>(nf y).map λn=>V.int (n:Nat)) (rest:=[some (.ref d)]) hW hl2 (qy (tM (vz r) (by omega))) ?_ ?_ ?_
  ·intro x hx G' s3 R k
   refine⟨_,rfl,_,rfl,d,_,rfl,(hd2.mono s3).get x,_,rfl,k G' λ_ _ h=>h⟩
  ·intro x hx v ev G' s3 R k
   have gx:=(hd2.mono s3).get x
   rw[ev]at gx
   exact⟨_,rfl,_,rfl,d,_,rfl,gx,k G' λ_ _ h=>h⟩
  ·intro G' s3 hG
   refine q _ W (s2.trans s3) (Jx s2 hW) ?_
   rw[hG]
   congr 2
   unfold Yv YO
   rw[Xd good.nd hr',vL]
abbrev Dj:List Str:=["ground","numbered","name","number","bare"]
abbrev XA:List Str:=["ground","numbered","name","number"]
theorem uv:qp Dj XA (qj Xv):=zdv
theorem NC{f fB fL CG:Addr}{fd fdB fdL:zdA}(F:jw K "gets_number" "gets_number" Xv f fd)(B:QB mg)(G:Qm mg)(T:j9 K mg)(M:GM K mg CG)(hB:qZ K mg "numbers_behind" MR G0 fB fdB)(hL:qZ K mg "lacking" QV ["numbers"] fL fdL):qo P w K mg base qJ 4 f fd XA (ud CG):=by
 have GB:qo P w K mg base qJ 3 fB fdB G0 (Ry CG):=MV hB.fn B G T M
 have GL:qo P w K mg base qJ 1 fL fdL ["numbers"] (Wp K):=vF hL.fn
 obtain⟨fC,fdC,C⟩:=M.cls
 obtain⟨fR,fdR,hR⟩:=M.fr
 obtain⟨fN,fdN,hN⟩:=M.isn
 have GR:qo P w K mg base qJ 2 fR fdR ["self","name"] (W7 CG):=Ux hR.fn C B G T hN
 refine F.okJ uv (λvs H Q E h=>?_) (λcdv A outer s H vs Q E hr h=>?_)
 ·obtain⟨g,d,rs,z,nf,n,rfl,_⟩:=h
  rfl
 ·obtain⟨g,d,rs,z,nf,n,rfl,gr,good,le14,hz,hd,q⟩:=h
  have hu:=Qp hr
  have r1:qO 1 _:=hr.mono (by decide)
  have r2:qO 2 _:=hr.mono (by decide)
  refine⟨_,qg (qE (qA Wx (qT hL GL r1 (by rfl) (qd (qT hB GB hr (by rfl) (qd (jv 0) (qd (jv 1) (qd (jv 2) qf)))) qf)) (jv 3) (qC _)) (qh (qt Qd)) qv)
   (qg (zK (i:=4) (N':=["end","numbered"]) (ix:=[none,some 1]) uv.nd rfl (Or.inl rfl) rfl ⟨rfl,rfl,rfl,rfl,rfl⟩ (qL (KS hR C.cl GR r2 (jv 0) (qd (jv 2) qf))) (λC s2 H2 fp pins=>
    ⟨qx (i:=0) (show (["end","numbered"]:List Str).Nodup by decide+kernel) rfl (Or.inl rfl),ZW (Qb (JF hu (jv 0) (jv 1))),jv 0⟩))
   (qh (qt (qu (QR rfl) (by rfl) T.all boot_all (qd (Ql (N':=["end","number","ground","numbered"]) (ix:=[none,some 3,some 0,some 1]) (te:=Xi (C7 K false) (qS 1) (QY (Ry CG) [] E0 (jg (qS 2) (jg (qS 3) (jg (qS 0) Qf))))) rfl ⟨rfl,rfl,rfl,rfl,rfl⟩ (qL (jv 4)) (λC s2 H2 fp pins=>
    ⟨qx (i:=0) (show (["end","number","ground","numbered"]:List Str).Nodup by decide+kernel) rfl (Or.inl rfl),jr,jE JB (jv 1) (qT hB GB hr (by rfl) (qd (jv 2) (qd (jv 3) (qd (jv 0) qf)))) (by with_unfolding_all rfl)⟩)) qf))))),?_⟩
  refine⟨_,rfl,_,rfl,_,rfl,g,d,rs,z,nf,rfl,gr,good,le14,hz,hd,λH1 l1 s1 hl1 hl1'=>?_⟩
  have ln:∀y,(YO rs nf y).length<=14:=λy=>tM (zbt _ _) (tM (yq y) le14)
  refine⟨l1,_,rfl,.of hl1',by have:=ln z;omega,λH2 s2=>⟨_,rfl,rfl,_,rfl,?_⟩⟩
  have s12:=s1.trans s2
  by_cases c:Rb.lackN (YO rs nf z)=n
  ·refine qH (by rw[c];simp) ?_
   obtain⟨dx,fs,hg,e1,e2⟩:=(gr.mono s12).ins
   obtain⟨r,hr',rfl⟩:=tQ.mp hz
   refine⟨_,rfl,g,dx,fs,rfl,hg,e2,_,rfl,g,rs,r,rfl,gr.mono s12,hr',good.nm r hr',λH3 le s3 hle=>?_⟩
   have s4:Same H (upd H3 le (.lst ((QI rs r).map V.str))):=s12.trans (s3.trans (qm hle))
   have hl4:upd H3 le (.lst ((QI rs r).map V.str)) le=some (.lst ((QI rs r).map V.str)):=qe
   generalize upd H3 le (.lst ((QI rs r).map V.str))=H4 at s4 hl4
   refine⟨le,rfl,⟨_,.of hl4⟩,λW hW=>?_⟩
   refine J9 (K:=K) (a:=le) (xs:=QI rs r) (enc:=V.str) (out:=λy=>if (nf y).isNone=true then some (V.str y) else none) (rest:=[some (.ref d)]) hW hl4 (qy (tM (vz r) (by omega))) ?_ ?_ ?_
   ·intro x hx G' s5 R k
    refine⟨_,rfl,_,rfl,d,_,rfl,((hd.mono s4).mono s5).get x,_,rfl,?_⟩
    have:=k G' λ_ _ h=>h
    cases e:nf x with
    | none=>rw[e]at this;exact this
    | some m=>rw[e]at this;exact this
   ·intro x hx v ev G' s5 R k
    have:v=V.str x:=by
     split at ev
     ·exact(tX.inj ev).symm
     ·cases ev
    subst this
    exact⟨_,rfl,k G' λ_ _ h=>h⟩
   ·intro G5 s5 hG
    rw[<-XU (λy=>(nf y).isNone),<-Xd good.nd hr']at hG
    have hb:G5 W=some (.lst ((WX rs nf r.1).map V.str)):=hG
    have s45:=s4.trans s5
    refine⟨_,rfl,W,rfl,⟨_,.of hb⟩,λU hU=>?_⟩
    have bl:(WX rs nf r.1).length<=14:=tM (zaH _ _) (tM (yq r.1) le14)
    refine J9 (K:=K) (a:=W) (xs:=WX rs nf r.1) (enc:=V.str) (out:=λy=>some (V.bl (decide (n∈YO rs nf y)))) (rest:=[some (.int (n:Nat)),some (.ref g),some (.ref d)]) hU hb (qy (by omega)) ?_ ?_ ?_
    ·intro x hx G' s6 R k
     exact k G' λ_ _ h=>h
    ·intro x hx v ev G' s6 R k
     obtain rfl:=tX.inj ev
     have hxN:x∈rs.map (·.1):=ZD good.nd _ hz x (zaw.mp hx).1
     have sA:=s45.trans s6
     refine⟨_,rfl,_,rfl,_,rfl,_,rfl,g,d,rs,x,nf,rfl,gr.mono sA,good,le14,hxN,hd.mono sA,λH7 l7 s7 hl7 hl7'=>?_⟩
     refine⟨l7,_,rfl,.inl (.of hl7'),rfl,UK _,?_⟩
     rw[K5]
     exact k H7 s7
    ·intro G6 s6 hG6
     rw[<-ye]at hG6
     refine⟨U,(WX rs nf r.1).map λy=>decide (n∈YO rs nf y),rfl,.of (by rw[hG6,zaM];rfl),?_⟩
     have:=q G6 (s45.trans s6)
     unfold zN at this
     rw[decide_eq_true c,zdi]at this
     rw[zby]
     exact this
  ·refine qW (by
    have:¬V.int ((Rb.lackN (YO rs nf z):Nat):Int)=V.int ((n:Nat):Int):=λe=>c (by have:=V.int.inj e;omega)
    rw[decide_eq_false this];rfl) ?_
   have:=q H2 s12
   unfold zN at this
   rw[decide_eq_false c,zcv]at this
   exact this
end
open PySem L2 PyProof.Rows MLab
def jF(H:Hp)(ps:List Addr)(ls:List (List Str)):Prop:=ps.length=ls.length/\∀(i:Nat) (p:Addr) (l:List Str),ps[i]?=some p->ls[i]?=some l->H p=some (.lst (l.map V.str))
theorem jF.mono{H H':Hp}{ps:List Addr}{ls:List (List Str)}(h:jF H ps ls)(s:Same H H'):jF H' ps ls:=⟨h.1,λi p l e1 e2=>s _ _ (h.2 i p l e1 e2)⟩
theorem jF.nil{H:Hp}:jF H [] []:=⟨rfl,λi p l e=>(nomatch e)⟩
theorem ZP{α:Type}{xs:List α}{x y:α}{i:Nat}(h:(xs++[x])[i]?=some y):(i < xs.length/\xs[i]?=some y)\/(i=xs.length/\y=x):=by
 by_cases hi:i < xs.length
 ·rw[zay hi]at h
  exact .inl ⟨hi,h⟩
 ·have hi':i=xs.length:=by
   have:=(tq.mp h).1
   rw[tR,zbE]at this
   omega
  subst hi'
  rw[zap (tu _),zct]at h
  exact .inr ⟨rfl,(tX.inj h).symm⟩
theorem jF.snoc{H:Hp}{ps:List Addr}{ls:List (List Str)}{p:Addr}{l:List Str}(h:jF H ps ls)(hp:H p=some (.lst (l.map V.str))):jF H (ps++[p]) (ls++[l]):=by
 refine⟨by rw[tR,tR,h.1];rfl,λi p' l' e1 e2=>?_⟩
 rcases ZP e1 with ⟨i1,e1⟩ | ⟨i1,rfl⟩
 ·rcases ZP e2 with ⟨_,e2⟩ | ⟨i2,_⟩
  ·exact h.2 i p' l' e1 e2
  ·have:=h.1;omega
 ·rcases ZP e2 with ⟨i2,_⟩ | ⟨_,rfl⟩
  ·have:=h.1;omega
  ·exact hp
theorem jF.app{H:Hp}{ps qs:List Addr}{ls ms:List (List Str)}(h:jF H ps ls)(k:jF H qs ms):jF H (ps++qs) (ls++ms):=by
 refine⟨by rw[tR,tR,h.1,k.1],λi p l e1 e2=>?_⟩
 by_cases c:i < ps.length
 ·rw[zay c]at e1
  rw[zay (by rw[<-h.1];exact c)]at e2
  exact h.2 i p l e1 e2
 ·rw[zap (by omega)]at e1
  rw[zap (by rw[<-h.1];omega)]at e2
  rw[<-h.1]at e2
  exact k.2 _ p l e1 e2
theorem jF.fr{H H':Hp}{ps:List Addr}{ls:List (List Str)}{d:Addr}{kvs:List (qG×V)}(h:jF H ps ls)(hd:H d=some (.dK kvs))(f:Fr H d H'):jF H' ps ls:=⟨h.1,λi p l e1 e2=>f _ _ (h.2 i p l e1 e2) (λe=>by have:=h.2 i p l e1 e2;rw[e,hd]at this;cases this)⟩
theorem ju.fr{N:List Str}{H H':Hp}{d e:Addr}{f:Str->Option Nat}(h:ju N H d f)(s:Fr H e H')(ne:d≠e):ju N H' d f:=⟨let ⟨kvs,a,b⟩:=h.at_;⟨kvs,s _ _ a ne,b⟩⟩
theorem ju.congr{N:List Str}{H:Hp}{d:Addr}{f g:Str->Option Nat}(h:ju N H d f)(e:∀z,f z=g z):ju N H d g:=⟨let ⟨kvs,a,b,c⟩:=h.at_;⟨kvs,a,λz=>by rw[b z,e z],c⟩⟩
def U4(CG:Addr)(H:Hp)(g d:Addr):Prop:=∀dx lo rd,H g=some (.ins CG dx [("order",.ref lo),("roads",.ref rd)])->rd≠d
theorem jP.fr{CG:Addr}{H H':Hp}{a d:Addr}{rs:jt}(h:jP CG H a rs)(hd:∃kvs:List (qG×V),H d=some (.dK kvs))(ap:U4 CG H a d)(s:Fr H d H'):jP CG H' a rs:=by
 obtain⟨dx,lo,rd,kv,h1,h2,h3,h4⟩:=h
 obtain⟨kvs,hd⟩:=hd
 have ne:∀{b:Addr} {o:HO},H b=some o->(∀kv:List (qG×V),o≠.dK kv)->b≠d:=λhb no e=>by rw[e,hd]at hb;exact no kvs (tX.inj hb).symm
 refine⟨dx,lo,rd,kv,s _ _ h1 (ne h1 (λ_=>by simp)),s _ _ h2 (ne h2 (λ_=>by simp)),s _ _ h3 (ap dx lo rd h1),λr hr=>let ⟨q,a,b⟩:=h4 r hr;⟨q,a,s _ _ b (ne b (λ_=>by simp))⟩⟩
def YR(f:Str->Option Nat)(n:Nat)(ns:List Str):Str->Option Nat:=λz=>if z∈ns then some n else f z
theorem Gd{R:Rs Str}{n:Nat}{ns:List Str}(h:∀z∈ns,q0 R z=none)(z:Str):YR (q0 R) n ns z=q0 (R++[(n,ns)]) z:=by
 unfold YR
 rw[ZG]
 by_cases c:z∈ns
 ·rw[if_pos c,h z c]
  show _=if z∈ns then some n else none
  rw[if_pos c]
 ·rw[if_neg c]
  cases q0 R z with
  | some m=>rfl
  | none=>
   show none=if z∈ns then some n else none
   rw[if_neg c]
theorem R0{R:Rs Str}{n:Nat}{ls:List (List Str)}{l:List Str}:R++(ls++[l]).map (λx=>(n,x))=(R++ls.map λx=>(n,x))++[(n,l)]:=by
 rw[tH,List.append_assoc]
 rfl
def uc(CG:Addr):Sp:=λvs H Q _=>∃(g d:Addr) (rs:jt) (R:Rs Str) (n:Nat),vs=[.ref g,.ref d,.int (n:Nat)]/\jP CG H g rs/\qF rs/\rs.length<=14/\ju (rs.map (·.1)) H d (q0 R)/\U4 CG H g d/\
 ∀H' l ps ls,H l=none->H' l=some (.lst (ps.map V.ref))->jF H' ps ls->(∀p∈ps,H p=none)->ju (rs.map (·.1)) H' d (q0 (R++ls.map λx=>(n,x)))->Zc (Zm rs) (rs.map (·.1)) n R (R++ls.map λx=>(n,x))->Fr H d H'->Q (.ref l) H'
def ZK(rs:jt)(f:Str->Option Nat):Nat:=((rs.map (·.1)).filter λz=>(f z).isNone).length
theorem yE{rs:jt}{R:Rs Str}{n:Nat}{ns:List Str}(h:∀z∈ns,z∈rs.map (·.1)/\q0 R z=none)(ne:ns≠[]):ZK rs (q0 (R++[(n,ns)])) < ZK rs (q0 R):=by
 unfold ZK
 generalize rs.map (·.1)=N at*
 have sub:(N.filter λz=>(q0 (R++[(n,ns)]) z).isNone).Sublist (N.filter λz=>(q0 R z).isNone):=by
  have e:(N.filter λz=>(q0 (R++[(n,ns)]) z).isNone)=(N.filter λz=>(q0 R z).isNone).filter λz=>(q0 (R++[(n,ns)]) z).isNone:=by
   rw[List.filter_filter]
   refine zcc λz _=>?_
   cases c:(q0 (R++[(n,ns)]) z).isNone with
   | false=>simp
   | true=>
    have:=Gn (by simpa using c)
    rw[this]
    rfl
  rw[e]
  exact zaP
 obtain⟨z0,r,e0⟩:=zcC ne
 have m0:z0∈ns:=by rw[e0];exact tK
 obtain⟨hz,ez⟩:=h z0 m0
 rcases zbe (N.filter λz=>(q0 (R++[(n,ns)]) z).isNone).length (N.filter λz=>(q0 R z).isNone).length with c | c
 ·exact c
 ·have e:=sub.eq_of_length_le c
  have m:z0∈N.filter λz=>(q0 R z).isNone:=zaw.mpr ⟨hz,by rw[ez];rfl⟩
  rw[<-e]at m
  have:=(zaw.mp m).2
  rw[Ab ez m0]at this
  cases this
def WY(N:List Str)(H:Hp)(d:Addr):Nat:=match H d with
 | some (.dK kvs)=>(N.filter λz=>(jc kvs (Sum.inr z:qG)).isNone).length
 | _=>0
theorem ju.bare{rs:jt}{H:Hp}{d:Addr}{f:Str->Option Nat}(h:ju (rs.map (·.1)) H d f):WY (rs.map (·.1)) H d=ZK rs f:=by
 obtain⟨kvs,a,b,_⟩:=h.at_
 unfold WY ZK
 rw[a]
 show ((rs.map (·.1)).filter λz=>(jc kvs (Sum.inr z:qG)).isNone).length=_
 congr 1
 refine zcc λz _=>?_
 rw[b z]
 cases f z<;>rfl
section
variable{P:Program}{w:World}{K:zdw}{mg:Str->Option Value}{base:Heap}
abbrev Bq:List Str:=["ground","numbered","number","bare"]
abbrev Jd:List Str:=["ground","numbered","number"]
theorem kO:qp Bq Jd (qj Ye):=zdv
theorem Ka{f fB fL fG CG:Addr}{fd fdB fdL fdG:zdA}(F:jw K "round_of" "round_of" Ye f fd)(B:QB mg)(G:Qm mg)(T:j9 K mg)(M:GM K mg CG)(hB:qZ K mg "numbers_behind" MR G0 fB fdB)(hL:qZ K mg "lacking" QV ["numbers"] fL fdL)(hG:qZ K mg "gets_number" Xv XA fG fdG):qo P w K mg base qJ 5 f fd Jd (kD CG):=by
 have GG:qo P w K mg base qJ 4 fG fdG XA (ud CG):=NC hG.fn B G T M hB hL
 obtain⟨fC,fdC,C⟩:=M.cls
 obtain⟨fM,fdM,hM⟩:=M.nm
 have GM:qo P w K mg base qJ 1 fM fdM ["self"] (Jv CG):=JD hM.fn C G
 refine F.okJ kO (λvs H Q E h=>?_) (λcdv A outer s H vs Q E hr h=>?_)
 ·obtain⟨g,d,rs,nf,n,rfl,_⟩:=h
  rfl
 ·obtain⟨g,d,rs,nf,n,rfl,gr,good,le14,hd,q⟩:=h
  have hu:=Qp hr
  have r1:qO 1 _:=hr.mono (by decide)
  refine⟨_,qg (zK (i:=3) (N':=["name","numbered"]) (ix:=[none,some 1]) kO.nd rfl (Or.inl rfl) rfl ⟨rfl,rfl,rfl,rfl,rfl⟩ (qL (WH hM C.cl GM r1 (jv 0))) (λC s2 H2 fp pins=>
    ⟨qx (i:=0) (show (["name","numbered"]:List Str).Nodup by decide+kernel) rfl (Or.inl rfl),ZW (Qb (JF hu (jv 0) (jv 1))),jv 0⟩))
   (qh (qt (Ql (N':=["name","ground","numbered","number"]) (ix:=[none,some 0,some 1,some 2]) rfl ⟨rfl,rfl,rfl,rfl,rfl⟩ (qL (jv 3)) (λC s2 H2 fp pins=>
    ⟨qx (i:=0) (show (["name","ground","numbered","number"]:List Str).Nodup by decide+kernel) rfl (Or.inl rfl),ZW (jd (qT hG GG hr (by rfl) (qd (jv 1) (qd (jv 2) (qd (jv 0) (qd (jv 3) qf)))))),jv 0⟩)))),?_⟩
  obtain⟨dx,fs,hg,l1,l2⟩:=gr.ins
  refine⟨_,rfl,g,dx,fs,rfl,hg,l1,g,rs,rfl,gr,λln hln=>⟨ln,rfl,⟨_,.of qe⟩,λW hW=>?_⟩⟩
  have s2:Same H (upd H ln (.lst ((rs.map (·.1)).map V.str))):=qm hln
  have hl2:upd H ln (.lst ((rs.map (·.1)).map V.str)) ln=some (.lst ((rs.map (·.1)).map V.str)):=qe
  generalize upd H ln (.lst ((rs.map (·.1)).map V.str))=H2 at s2 hl2 hW
  refine J9 (K:=K) (a:=ln) (xs:=rs.map (·.1)) (enc:=V.str) (out:=λy=>if (nf y).isNone=true then some (V.str y) else none) (rest:=[some (.ref d)]) hW hl2 (qy (by rw[tj];omega)) ?_ ?_ ?_
  ·intro x hx G' s5 R k
   refine⟨_,rfl,_,rfl,d,_,rfl,((hd.mono s2).mono s5).get x,_,rfl,?_⟩
   have:=k G' λ_ _ h=>h
   cases e:nf x with
   | none=>rw[e]at this;exact this
   | some m=>rw[e]at this;exact this
  ·intro x hx v ev G' s5 R k
   have:v=V.str x:=by
    split at ev
    ·exact(tX.inj ev).symm
    ·cases ev
   subst this
   exact⟨_,rfl,k G' λ_ _ h=>h⟩
  ·intro G5 s5 hG5
   rw[<-XU (λy=>(nf y).isNone)]at hG5
   have s25:=s2.trans s5
   refine⟨_,rfl,W,rfl,⟨_,.of hG5⟩,λU hU=>?_⟩
   have bl:((rs.map (·.1)).filter λy=>(nf y).isNone).length<=14:=tM (zaH _ _) (by rw[tj];exact le14)
   refine J9 (K:=K) (a:=W) (xs:=(rs.map (·.1)).filter λy=>(nf y).isNone) (enc:=V.str) (out:=λy=>if zN rs nf y n=true then some (V.str y) else none) (rest:=[some (.ref g),some (.ref d),some (.int (n:Nat))]) hU hG5 (qy (by omega)) ?_ ?_ ?_
   ·intro x hx G' s6 R k
    have sA:=s25.trans s6
    refine⟨_,rfl,_,rfl,_,rfl,_,rfl,g,d,rs,x,nf,n,rfl,gr.mono sA,good,le14,(zaw.mp hx).1,hd.mono sA,λH7 s7=>⟨_,rfl,?_⟩⟩
    have:=k H7 s7
    cases e:zN rs nf x n with
    | true=>rw[e]at this;exact this
    | false=>rw[e]at this;exact this
   ·intro x hx v ev G' s6 R k
    have:v=V.str x:=by
     split at ev
     ·exact(tX.inj ev).symm
     ·cases ev
    subst this
    exact⟨_,rfl,k G' λ_ _ h=>h⟩
   ·intro G6 s6 hG6
    rw[<-XU (λy=>zN rs nf y n)]at hG6
    exact q G6 U (s25.trans s6) (Jx s25 hU) hG6
abbrev Di:List Str:=["ground","numbered","number","rounds","names","name"]
theorem Xn:qp Di Jd (qj Uh):=zdv
theorem NB{f fB fL fG fR CG:Addr}{fd fdB fdL fdG fdR:zdA}(F:jw K "give_number" "give_number" Uh f fd)(B:QB mg)(G:Qm mg)(T:j9 K mg)(M:GM K mg CG)(hB:qZ K mg "numbers_behind" MR G0 fB fdB)(hL:qZ K mg "lacking" QV ["numbers"] fL fdL)(hG:qZ K mg "gets_number" Xv XA fG fdG)
  (hR:qZ K mg "round_of" Ye Jd fR fdR):qo P w K mg base qJ 6 f fd Jd (uc CG):=by
 have GR:qo P w K mg base qJ 5 fR fdR Jd (kD CG):=Ka hR.fn B G T M hB hL hG
 refine F.okJ Xn (λvs H Q E h=>?_) (λcdv A outer s H vs Q E hr h=>?_)
 ·obtain⟨g,d,rs,R,n,rfl,_⟩:=h
  rfl
 ·obtain⟨g,d,rs,R,n,rfl,gr,good,le14,hd,ap,q⟩:=h
  have hu:=Qp hr
  refine⟨_,qg (qD (i:=3) Xn.nd rfl (Or.inl rfl) (jo qf))
   (qg (qD (i:=4) Xn.nd rfl (Or.inl rfl) (qT hR GR hr (by rfl) (qd (jv 0) (qd (jv 1) (qd (jv 2) qf)))))
   (qg (XM PassesOwn.never (qA Zy (qu qB (by rfl) B.len boot_len (qd (jv 4) qf)) ql (qC _))
    (qg (jC PassesOwn.never rfl (qL (jv 4)) (qx (i:=5) Xn.nd rfl (Or.inl rfl)) (qh (j7 hu (jv 1) (jv 5) (jv 2) rfl)))
    (qg (jf (QG zcS PySem.F.slot_list_append PySem.F.type_list_append WB (jv 3) (qd (jv 4) qf)))
    (qh (qD (i:=4) Xn.nd rfl (Or.inl rfl) (qT hR GR hr (by rfl) (qd (jv 0) (qd (jv 1) (qd (jv 2) qf)))))))))
   (qh (qt (jv 3))))),?_⟩
  refine⟨by show 0<=zdB;decide,λlr hlr=>?_⟩
  have sr:Same H (upd H lr (.lst [])):=qm hlr
  refine⟨_,rfl,_,rfl,_,rfl,g,d,rs,q0 R,n,rfl,gr.mono sr,good,le14,hd.mono sr,λH1 l1 s1 hl1 hl1'=>?_⟩
  obtain⟨kv0,hd0⟩:=hd.isd
  have nrd:lr≠d:=λe=>by rw[e,hd0]at hlr;cases hlr
  refine Xg (λσ H'=>∃(v5:Option V) (l:Addr) (ps:List Addr) (ls:List (List Str)),σ=[some (.ref g),some (.ref d),some (.int (n:Nat)),some (.ref lr),some (.ref l),v5]/\Fr H d H'/\H' lr=some (.lst (ps.map V.ref))/\jF H' ps ls/\
    ju (rs.map (·.1)) H' d (q0 (R++ls.map λx=>(n,x)))/\H' l=some (.lst ((uK rs (q0 (R++ls.map λx=>(n,x))) n).map V.str))/\(∀R',Zc (Zm rs) (rs.map (·.1)) n (R++ls.map λx=>(n,x)) R'->Zc (Zm rs) (rs.map (·.1)) n R R')/\l≠lr/\(∀p∈ps,p≠lr)/\H l=none/\(∀p∈ps,H p=none)/\ls.length+ZK rs (q0 (R++ls.map λx=>(n,x)))<=14)
   (λ_ H'=>WY (rs.map (·.1)) H' d)
   ⟨none,l1,[],[],rfl,λb u hb _=>s1 _ _ (sr _ _ hb),s1 _ _ qe,.nil,?_,?_,?_,(λe=>by rw[e,qe]at hl1;cases hl1),λp h=>(nomatch h),Jx sr hl1,λp h=>(nomatch h),?_⟩ ?_ ?_
  ·have:=(hd.mono sr).mono s1
   simpa using this
  ·simpa using hl1'
  ·intro R' h
   simpa using h
  ·show 0+_<=14
   rw[Nat.zero_add]
   refine tM (zaH _ _) ?_
   rw[tj]
   exact le14
  ·rintro σ H' ⟨v5,l,ps,ls,rfl,fr,hlr',rnds,num,hl,gv,nl,np,l0,p0,bd⟩
   have grH:jP CG H' g rs:=gr.fr ⟨kv0,hd0⟩ ap fr
   obtain⟨kv1,hd1⟩:=num.isd
   generalize hR1:R++ls.map (λx=>(n,x))=R1 at*
   refine⟨_,rfl,l,_,rfl,.inl (.of hl),_,_,rfl,rfl,_,rfl,?_⟩
   rw[tj]
   generalize hns:uK rs (q0 R1) n=ns at*
   have rnd:yI (Zm rs) (rs.map (·.1)) R1 n ns:=hns▸R5 rs R1 n
   have nsN:∀z∈ns,z∈rs.map (·.1)/\q0 R1 z=none:=λz hz=>let ⟨a,b,_⟩:=(rnd.iff z).mp hz;⟨a,b⟩
   have nsnd:ns.Nodup:=by
    rw[<-hns]
    exact good.nd.sublist (zaP.trans zaP)
   have nslen:ns.length<=14:=by
    have:=JZ nsnd λz hz=>(nsN z hz).1
    rw[tj]at this
    omega
   cases c:ns with
   | nil=>
    subst c
    refine qH (by decide) ?_
    refine⟨_,rfl,?_⟩
    have:=gv R1 (.stop rnd)
    rw[<-hR1]at this num
    exact q H' lr ps ls hlr hlr' rnds p0 num this fr
   | cons z0 rest=>
    have ne:ns≠[]:=by rw[c];simp
    rw[<-c]
    clear c
    refine qW (decide_eq_true (by have:=zcp.mpr ne;show (0:Int) < (ns.length:Int);omega)) ?_
    have nld:l≠d:=λe=>by rw[e,hd1]at hl;cases hl
    refine⟨_,rfl,l,rfl,⟨_,.of hl⟩,?_⟩
    refine jk (K:=K) (a:=l) (xs:=ns.map V.str) (λi σ' G'=>∃v5,σ'=[some (.ref g),some (.ref d),some (.int (n:Nat)),some (.ref lr),some (.ref l),v5]/\ju (rs.map (·.1)) G' d (YR (q0 R1) n (ns.take i))/\Fr H' d G')
     ⟨v5,rfl,num.congr λz=>by unfold YR;rw[List.take_zero,if_neg (by simp)],Fr.refl⟩ (λi σ' G' _ ⟨_,_,_,f⟩=>.of (f _ _ hl nld)) ?_ ?_
    ·rintro i y σ' G' hy ⟨v5',rfl,numG,frG⟩
     obtain⟨z,ez,hz,rfl⟩:=Qg hy
     have il:=(tq.mp ez).1
     have nt:z∉ns.take i:=λm=>by
      obtain⟨j,hj⟩:=zbg m
      rw[zbz]at hj
      split at hj
      ·have h1:=(tq.mp hj)
       have h2:=(tq.mp ez)
       have:=Ku nsnd (h1.2.trans h2.2.symm)
       omega
      ·cases hj
     obtain⟨H2,put,num2,o2,e2⟩:=numG.put (n:=n) (nsN z hz).1 (by unfold YR;rw[if_neg nt];exact(nsN z hz).2) (by rw[tj];exact le14)
     refine⟨_,rfl,_,rfl,_,rfl,d,H2,rfl,put,_,rfl,num2.congr λy=>?_,?_⟩
     ·unfold YR
      rw[tO,ez]
      by_cases e:y=z
      ·subst e;rw[if_pos rfl,if_pos (by simp)]
      ·rw[if_neg e]
       by_cases m:y∈ns.take i
       ·rw[if_pos m,if_pos (zaK _ m)]
       ·rw[if_neg m,if_neg (by simp [m,e])]
     ·rw[e2]
      exact frG.at_d
    ·rintro σ' G' ⟨v5',rfl,numG,frG⟩
     rw[tj,tI (tu _)]at numG
     have numG:=numG.congr (Gd λz hz=>(nsN z hz).2)
     have lrG:=frG _ _ hlr' nrd
     have lG:=frG _ _ hl nld
     have rG:=rnds.fr hd1 frG
     have fr2:=fr.trans frG
     have blt:=yE (n:=n) nsN ne
     refine⟨_,rfl,.inl ⟨rfl,_,.of lrG⟩,_,rfl,lr,_,_,rfl,rfl,lrG,by rw[tj,rnds.1];exact qy (by omega),?_⟩
     have e5:ps.map V.ref++[V.ref l]=(ps++[l]).map V.ref:=by rw[tH];rfl
     rw[e5]
     have fr3:Fr H d (upd G' lr (.lst ((ps++[l]).map V.ref))):=fr2.own hlr
     have r3:jF (upd G' lr (.lst ((ps++[l]).map V.ref))) (ps++[l]) (ls++[ns]):=by
      refine jF.snoc ⟨rG.1,λi p x e1 e2=>?_⟩ (by rw[qi nl];exact lG)
      rw[qi (np p (tV e1))]
      exact rG.2 i p x e1 e2
     have lr3:upd G' lr (.lst ((ps++[l]).map V.ref)) lr=some (.lst ((ps++[l]).map V.ref)):=qe
     have num3:ju (rs.map (·.1)) (upd G' lr (.lst ((ps++[l]).map V.ref))) d (q0 (R1++[(n,ns)])):=⟨let ⟨kvs,a,b⟩:=numG.at_;⟨kvs,by rw[qi (Ne.symm nrd)];exact a,b⟩⟩
     generalize upd G' lr (.lst ((ps++[l]).map V.ref))=G3 at fr3 r3 lr3 num3 ⊢
     refine⟨_,rfl,_,rfl,_,rfl,g,d,rs,q0 (R1++[(n,ns)]),n,rfl,gr.fr ⟨kv0,hd0⟩ ap fr3,good,le14,num3,λH4 l4 s4 hl4 hl4'=>?_⟩
     have eR:R++(ls++[ns]).map (λx=>(n,x))=R1++[(n,ns)]:=by rw[R0,hR1]
     refine⟨⟨v5',l4,ps++[l],ls++[ns],rfl,fr3.same s4,s4 _ _ lr3,r3.mono s4,?_,?_,?_,(λe=>by rw[e,lr3]at hl4;cases hl4),?_,?_,?_,?_⟩,?_⟩
     ·rw[eR];exact num3.mono s4
     ·rw[eR];exact hl4'
     ·rw[eR];exact λR' h=>gv R' (.more rnd ne h)
     ·intro p hp
      rcases zar.mp hp with hp | hp
      ·exact np p hp
      ·rw[zaf.mp hp];exact nl
     ·obtain⟨kv3,hd3⟩:=num3.isd
      exact fr3.fresh hd3 hl4
     ·intro p hp
      rcases zar.mp hp with hp | hp
      ·exact p0 p hp
      ·rw[zaf.mp hp];exact l0
     ·rw[eR,tR,zbE]
      omega
     ·rw[(num3.mono s4).bare,num.bare]
      exact blt
  ·rintro σ H' Q Q' h ⟨v,e,p,ys,e2,h1,i,j,e3,e4,b,e5,h2⟩
   exact⟨v,e,p,ys,e2,h1,i,j,e3,e4,b,e5,h _ _ h2⟩
end
open PySem L2 PyProof.Rows MLab
theorem Ga{G:Str->List Str}{N:List Str}{n:Nat}{R R':Rs Str}(h:Zc G N n R R'):(R'=R/\yI G N R n [])\/R.length < R'.length:=by
 induction h with
 | stop r=>exact .inl ⟨rfl,r⟩
 | more r ne k ih=>
  right
  rcases ih with ⟨e,_⟩ | lt
  ·rw[e,tR];exact zbu _
  ·rw[tR]at lt
   exact Nat.lt_of_succ_lt lt
theorem xV{G:Str->List Str}{N:List Str}{n:Nat}{R:Rs Str}(h:Zc G N n R R):yI G N R n []:=by
 rcases Ga h with ⟨_,r⟩ | lt
 ·exact r
 ·exact absurd lt (zaB _)
structure yJ(N:List Str)(R:Rs Str):Prop where
 sub:∀r∈R,∀z∈r.2,z∈N
 dis:R.Pairwise λr r'=>∀z∈r.2,z∉r'.2
 ne:∀r∈R,r.2≠[]
 srt:∀r∈R,r.2.Sublist N
theorem yJ.nil{N:List Str}:yJ N []:=⟨λ_ h=>(nomatch h),List.Pairwise.nil,λ_ h=>(nomatch h),λ_ h=>(nomatch h)⟩
theorem yJ.more{G:Str->List Str}{N:List Str}{R:Rs Str}{n:Nat}{ns:List Str}(o:yJ N R)(r:yI G N R n ns)(ne:ns≠[]):yJ N (R++[(n,ns)]):=by
 refine⟨λx hx z hz=>?_,List.pairwise_append.mpr ⟨o.dis,zcR _ _,λa ha b hb z hz hb'=>?_⟩,λx hx=>?_,λx hx=>?_⟩
 ·rcases zar.mp hx with hx | hx
  ·exact o.sub x hx z hz
  ·rw[zaf.mp hx]at hz
   exact((r.iff z).mp hz).1
 ·rw[zaf.mp hb]at hb'
  exact Xe.mp ((r.iff z).mp hb').2.1 a ha hz
 ·rcases zar.mp hx with hx | hx
  ·exact o.ne x hx
  ·rw[zaf.mp hx];exact ne
 ·rcases zar.mp hx with hx | hx
  ·exact o.srt x hx
  ·rw[zaf.mp hx];exact r.sub
theorem UL{G:Str->List Str}{N:List Str}{n:Nat}{R R':Rs Str}(h:Zc G N n R R'):yJ N R->yJ N R':=by
 induction h with
 | stop r=>exact id
 | more r ne k ih=>exact λo=>ih (o.more r ne)
theorem Mf{G:Str->List Str}{N:List Str}{n:Nat}{R R':Rs Str}(h:All G N n R R'):yJ N R->yJ N R':=by
 induction h with
 | stop r=>exact id
 | more g ne k ih=>exact λo=>ih (UL g o)
theorem xW{rs:jt}{n:Nat}{R R':Rs Str}(h:Zc (Zm rs) (rs.map (·.1)) n R R'):ZK rs (q0 R')<=ZK rs (q0 R)/\(R'≠R->ZK rs (q0 R') < ZK rs (q0 R)):=by
 induction h with
 | stop r=>exact⟨tu _,λe=>absurd rfl e⟩
 | more r ne k ih=>
  have:=yE (λz hz=>let ⟨a,b,_⟩:=(r.iff z).mp hz;⟨a,b⟩) ne (n:=n) (rs:=rs)
  exact⟨by omega,λ_=>by omega⟩
theorem k9{N:List Str}:∀{R:Rs Str},yJ N R->R.length<=N.length:=λ{R} o=>by
 have key:∀R:Rs Str,(R.Pairwise λr r'=>∀z∈r.2,z∉r'.2)->(∀r∈R,r.2≠[])->∃zs:List Str,zs.length=R.length/\zs.Nodup/\∀z∈zs,∃r∈R,z∈r.2:=by
  intro R
  induction R with
  | nil=>exact λ_ _=>⟨[],rfl,zbH,λz h=>(nomatch h)⟩
  | cons r R ih=>
   intro p ne
   obtain⟨zs,l,nd,sub⟩:=ih (zdn.mp p).2 (λx hx=>ne x (tF _ hx))
   obtain⟨z,t,e⟩:=zcC (ne r tK)
   have hz:z∈r.2:=by rw[e];exact tK
   refine⟨z::zs,by simp [l],zaG.mpr ⟨λm=>?_,nd⟩,λy hy=>?_⟩
   ·obtain⟨r',hr',hz'⟩:=sub z m
    exact(zdn.mp p).1 r' hr' z hz hz'
   ·rcases tJ.mp hy with rfl | hy
    ·exact⟨r,tK,hz⟩
    ·obtain⟨r',hr',h⟩:=sub y hy
     exact⟨r',tF _ hr',h⟩
 obtain⟨zs,l,nd,sub⟩:=key R o.dis o.ne
 rw[<-l]
 exact JZ nd λz hz=>let ⟨r,hr,h⟩:=sub z hz;o.sub r hr z h
def kL(CG:Addr):Sp:=λvs H Q _=>∃(g d:Addr) (rs:jt),vs=[.ref g,.ref d]/\jP CG H g rs/\qF rs/\rs.length<=14/\ju (rs.map (·.1)) H d (q0 [])/\U4 CG H g d/\
 ∀H' l ps R,H l=none->H' l=some (.lst (ps.map V.ref))->jF H' ps (R.map (·.2))->(∀p∈ps,H p=none)->ju (rs.map (·.1)) H' d (q0 R)->All (Zm rs) (rs.map (·.1)) 0 [] R->Fr H d H'->Q (.ref l) H'
section
variable{P:Program}{w:World}{K:zdw}{mg:Str->Option Value}{base:Heap}
abbrev Br:List Str:=["ground","numbered","rounds","number","more"]
abbrev Vi:List Str:=["ground","numbered"]
theorem ZQ:qp Br Vi (qj Vd):=zdv
theorem Kl{f fB fL fG fR fV CG:Addr}{fd fdB fdL fdG fdR fdV:zdA}(F:jw K "give_numbers" "give_numbers" Vd f fd)(B:QB mg)(G:Qm mg)(T:j9 K mg)(M:GM K mg CG)(hB:qZ K mg "numbers_behind" MR G0 fB fdB)(hL:qZ K mg "lacking" QV ["numbers"] fL fdL)(hG:qZ K mg "gets_number" Xv XA fG fdG)
  (hR:qZ K mg "round_of" Ye Jd fR fdR) (hV:qZ K mg "give_number" Uh Jd fV fdV):qo P w K mg base qJ 7 f fd Vi (kL CG):=by
 have GV:qo P w K mg base qJ 6 fV fdV Jd (uc CG):=NB hV.fn B G T M hB hL hG hR
 refine F.okJ ZQ (λvs H Q E h=>?_) (λcdv A outer s H vs Q E hr h=>?_)
 ·obtain⟨g,d,rs,rfl,_⟩:=h
  rfl
 ·obtain⟨g,d,rs,rfl,gr,good,le14,hd,ap,q⟩:=h
  have hu:=Qp hr
  refine⟨_,qg (qD (i:=2) ZQ.nd rfl (Or.inl rfl) (jo qf))
   (qg (qD (i:=3) ZQ.nd rfl (Or.inl rfl) ql)
   (qg (qD (i:=4) ZQ.nd rfl (Or.inl rfl) (qT hV GV hr (by rfl) (qd (jv 0) (qd (jv 1) (qd (jv 3) qf)))))
   (qg (XM PassesOwn.never (qA Zy (qu qB (by rfl) B.len boot_len (qd (jv 4) qf)) ql (qC _))
    (qg (jf (QG zcS PySem.F.slot_list_extend PySem.F.type_list_extend xC (jv 2) (qd (jv 4) qf)))
    (qg (KF (i:=3) ZQ.nd rfl (Or.inl rfl) ql KZ)
    (qh (qD (i:=4) ZQ.nd rfl (Or.inl rfl) (qT hV GV hr (by rfl) (qd (jv 0) (qd (jv 1) (qd (jv 3) qf)))))))))
   (qh (qt (jv 2)))))),?_⟩
  refine⟨by show 0<=zdB;decide,λlr hlr=>?_⟩
  have sr:Same H (upd H lr (.lst [])):=qm hlr
  obtain⟨kv0,hd0⟩:=hd.isd
  have nrd:lr≠d:=λe=>by rw[e,hd0]at hlr;cases hlr
  have apm:∀{H':Hp},Fr H d H'->U4 CG H' g d:=λfr dx lo rd h=>by
   obtain⟨dx',lo',rd',kvs',h1,_⟩:=gr
   have:=fr _ _ h1 (λe=>by rw[e,hd0]at h1;cases h1)
   rw[h]at this
   cases this
   exact ap _ _ _ h1
  have fr0:Fr H d (upd H lr (.lst [])):=Fr.refl.own hlr
  refine⟨_,rfl,_,rfl,_,rfl,g,d,rs,[],0,rfl,gr.mono sr,good,le14,hd.mono sr,apm fr0,λH1 l1 ps1 ls1 hl1 hl1' rn1 pn1 num1 gv1 fr1=>?_⟩
  refine Xg (λσ H'=>∃(l:Addr) (n:Nat) (ps ps1:List Addr) (R:Rs Str) (ls:List (List Str)),σ=[some (.ref g),some (.ref d),some (.ref lr),some (.int (n:Nat)),some (.ref l)]/\Fr H d H'/\H' lr=some (.lst (ps.map V.ref))/\jF H' ps (R.map (·.2))/\H' l=some (.lst (ps1.map V.ref))/\jF H' ps1 ls/\
    ju (rs.map (·.1)) H' d (q0 (R++ls.map λx=>(n,x)))/\Zc (Zm rs) (rs.map (·.1)) n R (R++ls.map λx=>(n,x))/\(∀R',All (Zm rs) (rs.map (·.1)) n R R'->All (Zm rs) (rs.map (·.1)) 0 [] R')/\l≠lr/\(∀p∈ps,p≠lr/\H p=none)/\(∀p∈ps1,p≠lr/\H p=none)/\yJ (rs.map (·.1)) R)
   (λσ H'=>WY (rs.map (·.1)) H' d*2+(match σ with | [_,_,_,_,some (.ref l)]=>(match H' l with | some (.lst (_::_))=>1 | _=>0) | _=>0))
   ⟨l1,0,[],ps1,[],ls1,rfl,fr0.trans fr1,fr1 _ _ qe nrd,.nil,hl1',rn1,num1,gv1,λR' h=>h,(λe=>by rw[e,qe]at hl1;cases hl1),λp h=>(nomatch h),?_,.nil⟩ ?_ ?_
  ·intro p hp
   have h1:=pn1 p hp
   have h2:p≠lr:=λe=>by rw[e,qe]at h1;cases h1
   exact⟨h2,by rw[qi h2]at h1;exact h1⟩
  ·rintro σ H' ⟨l,n,ps,ps1,R,ls,rfl,fr,hlr',rnds,hl,rn,num,gv,al,nl,np,np1,od⟩
   obtain⟨kv1,hd1⟩:=num.isd
   have od':=UL gv od
   have ol:=k9 od'
   rw[tR,tj,tj]at ol
   refine⟨_,rfl,l,_,rfl,.inl (.of hl),_,_,rfl,rfl,_,rfl,?_⟩
   rw[tj]
   cases c:ls with
   | nil=>
    subst c
    have e0:ps1=[]:=zaQ rn.1
    subst e0
    rw[zcr,zaX]at gv num
    refine qH (by decide) ⟨_,rfl,?_⟩
    exact q H' lr ps R hlr hlr' rnds (λp hp=>(np p hp).2) num (al R (.stop (xV gv))) fr
   | cons x0 rest=>
    have ne:ls≠[]:=by rw[c];simp
    clear c
    have lp:ps1.length=ls.length:=rn.1
    have pos:=zcp.mpr ne
    refine qW (decide_eq_true (by show (0:Int) < (ps1.length:Int);omega)) ?_
    refine⟨_,rfl,.inl ⟨rfl,_,.of hlr'⟩,_,rfl,lr,l,_,_,rfl,rfl,hlr',hl,?_,?_⟩
    ·rw[tj,tj,rnds.1,tj,lp]
     exact zaC (qy (by omega))
    ·have e5:ps.map V.ref++ps1.map V.ref=(ps++ps1).map V.ref:=by rw[tH]
     rw[e5]
     have fr3:Fr H d (upd H' lr (.lst ((ps++ps1).map V.ref))):=fr.own hlr
     have lr3:upd H' lr (.lst ((ps++ps1).map V.ref)) lr=some (.lst ((ps++ps1).map V.ref)):=qe
     have r3:jF (upd H' lr (.lst ((ps++ps1).map V.ref))) (ps++ps1) ((R++ls.map λx=>(n,x)).map (·.2)):=by
      have ee:(R++ls.map λx=>(n,x)).map (·.2)=R.map (·.2)++ls:=by
       rw[tH,zaM]
       congr 1
       exact List.map_id ls
      rw[ee]
      refine jF.app ⟨rnds.1,λi p x e1 e2=>?_⟩ ⟨rn.1,λi p x e1 e2=>?_⟩
      ·rw[qi (np p (tV e1)).1]
       exact rnds.2 i p x e1 e2
      ·rw[qi (np1 p (tV e1)).1]
       exact rn.2 i p x e1 e2
     have num3:ju (rs.map (·.1)) (upd H' lr (.lst ((ps++ps1).map V.ref))) d (q0 (R++ls.map λx=>(n,x))):=⟨let ⟨kvs,a,b⟩:=num.at_;⟨kvs,by rw[qi (Ne.symm nrd)];exact a,b⟩⟩
     have neR:R++ls.map (λx=>(n,x))≠R:=λe=>by
      have:=congrArg zbs e
      rw[tR,tj]at this
      omega
     generalize R++ls.map (λx=>(n,x))=R1 at*
     generalize upd H' lr (.lst ((ps++ps1).map V.ref))=G3 at fr3 r3 lr3 num3 ⊢
     obtain⟨kv3,hd3⟩:=num3.isd
     refine⟨_,rfl,_,_,rfl,rfl,?_⟩
     refine⟨_,rfl,_,rfl,_,rfl,g,d,rs,R1,n+1,rfl,gr.fr ⟨kv0,hd0⟩ ap fr3,good,le14,num3,apm fr3,λH4 l4 ps4 ls4 hl4 hl4' rn4 pn4 num4 gv4 fr4=>?_⟩
     refine⟨⟨l4,n+1,ps++ps1,ps4,R1,ls4,rfl,fr3.trans fr4,fr4 _ _ lr3 nrd,r3.fr hd3 fr4,hl4',rn4,num4,gv4,λR' h=>al R' (.more gv neR h),(λe=>by rw[e,lr3]at hl4;cases hl4),?_,?_,od'⟩,?_⟩
     ·intro p hp
      rcases zar.mp hp with hp | hp
      ·exact np p hp
      ·exact np1 p hp
     ·intro p hp
      have h1:=pn4 p hp
      refine⟨(λe=>by rw[e,lr3]at h1;cases h1),?_⟩
      cases h2:H p with
      | none=>rfl
      | some u=>
       by_cases c:p=d
       ·rw[c,hd3]at h1;cases h1
       ·rw[fr3 _ _ h2 c]at h1;cases h1
     ·show WY (rs.map (·.1)) H4 d*2+(match H4 l4 with | some (.lst (_::_))=>1 | _=>0) < WY (rs.map (·.1)) H' d*2+(match H' l with | some (.lst (_::_))=>1 | _=>0)
      have gb:=xW gv4
      rw[num4.bare,num.bare,hl4',hl]
      obtain⟨p1,t1,e1⟩:=List.exists_cons_of_length_pos (by omega:0 < ps1.length)
      rw[e1]
      show _ < ZK rs (q0 R1)*2+1
      cases ls4 with
      | nil=>
       have e0:ps4=[]:=zaQ rn4.1
       rw[e0]
       show _+0 < _
       have:=gb.1
       omega
      | cons x4 t4=>
       have:=gb.2 λe=>by
        have:=congrArg zbs e
        rw[tR,tj]at this
        simp at this
       have le1:(match (some (HO.lst (ps4.map V.ref)):Option HO) with | some (.lst (_::_))=>1 | _=>0)<=1:=by split<;>omega
       omega
  ·rintro σ H' Q Q' h ⟨v,e,p,ys,e2,h1,i,j,e3,e4,b,e5,h2⟩
   exact⟨v,e,p,ys,e2,h1,i,j,e3,e4,b,e5,h _ _ h2⟩
end
open PySem L2 PyProof.Rows MLab
def X8(R:Rs Str)(i:Nat):Str->Option Nat:=λz=>(q0 (R.take i) z).map λ_=>ze R z
theorem vo{N:List Str}{R:Rs Str}(o:yJ N R){i:Nat}{r:Nat×List Str}{z:Str}(hr:R[i]?=some r)(hz:z∈r.2):ze R z=i:=by
 obtain⟨hi,er⟩:=tq.mp hr
 unfold ze
 rw[List.findIdx_eq hi]
 refine⟨by rw[er];exact decide_eq_true hz,λj hj=>decide_eq_false λm=>?_⟩
 have:=zbL.mp o.dis j i (by omega) hi hj z m
 rw[er]at this
 exact this hz
theorem V1{N:List Str}{R:Rs Str}(o:yJ N R){i:Nat}{r:Nat×List Str}{z:Str}(hr:R[i]?=some r)(hz:z∈r.2):X8 R i z=none:=by
 unfold X8
 have:q0 (R.take i) z=none:=Xe.mpr λx hx m=>by
  obtain⟨j,hj⟩:=zbg hx
  rw[zbz]at hj
  split at hj
  ·have h1:=vo o hj m
   have h2:=vo o hr hz
   omega
  ·cases hj
 rw[this]
 rfl
theorem yX{N:List Str}{R:Rs Str}(o:yJ N R){i:Nat}{r:Nat×List Str}(hr:R[i]?=some r)(z:Str):YR (X8 R i) i r.2 z=X8 R (i+1) z:=by
 unfold YR
 by_cases c:z∈r.2
 ·rw[if_pos c]
  have n:=V1 o hr c
  unfold X8 at n ⊢
  have n':q0 (R.take i) z=none:=by
   cases e:q0 (R.take i) z with
   | none=>rfl
   | some m=>rw[e]at n;cases n
  rw[tO,hr]
  show _=(q0 (R.take i++[(r.1,r.2)]) z).map _
  rw[Ab n' c,vo o hr c]
  rfl
 ·rw[if_neg c]
  unfold X8
  rw[tO,hr]
  show _=(q0 (R.take i++[(r.1,r.2)]) z).map _
  rw[ZG]
  cases q0 (R.take i) z with
  | some m=>rfl
  | none=>
   show _=Option.map _ (if z∈r.2 then some r.1 else none)
   rw[if_neg c]
theorem wS(R:Rs Str)(z:Str):X8 R R.length z=(q0 R z).map λ_=>ze R z:=by
 unfold X8
 rw[tI (tu _)]
def Yo(rs:jt)(R:Rs Str)(z:Str):List V:=match q0 R z with
 | some n=>[.str "number",.int (n:Nat),.int (ze R z:Nat)]
 | none=>[.str "endless",.int (Rb.setN (YO rs (q0 R) z):Nat)]
structure X5(H:Hp)(D:Addr)(rs:jt)(R:Rs Str):Prop where
 at_:∃kvs:List (qG×V),H D=some (.dK kvs)/\kvs.map (·.1)=(rs.map (·.1)).map Sum.inr/\∀r∈rs,∃t,jc kvs (Sum.inr r.1:qG)=some (.ref t)/\H t=some (.tup (Yo rs R r.1))
theorem X5.mono{H H':Hp}{D:Addr}{rs:jt}{R:Rs Str}(h:X5 H D rs R)(s:Same H H'):X5 H' D rs R:=⟨let ⟨kvs,a,b,c⟩:=h.at_;⟨kvs,s _ _ a,b,λr hr=>let ⟨t,u,v⟩:=c r hr;⟨t,u,s _ _ v⟩⟩⟩
theorem kz:∀(n:Nat) (L:List Nat),(∀m,m<=n->m∈L)->n*(n+1)<=2*L.sum
 | 0,_,_=>by simp
 | n+1,L,h=>by
  have hm:=h (n+1) (tu _)
  have ih:=kz n (L.erase (n+1)) λm hm'=>(zcj (by omega)).mpr (h m (by omega))
  have es:L.sum=(n+1)+(L.erase (n+1)).sum:=by
   have:=(List.perm_cons_erase hm).sum_nat
   rw[this,zam]
  rw[es]
  have:(n+1)*(n+1+1)=n*(n+1)+2*(n+1):=by
   rw[Nat.mul_comm,<-Nat.add_mul]
  omega
theorem VY{α:Type}{f g:α->Nat}:∀{l:List α},(∀x∈l,f x<=g x)->(l.map f).sum<=(l.map g).sum
 | [],_=>tu _
 | a::l,h=>by
  rw[tL,tL,zam,zam]
  have:=h a tK
  have:=VY (l:=l) λx hx=>h x (tF _ hx)
  omega
theorem BJ{rs:jt}(hn:(rs.map (·.1)).Nodup)(z:Str):(Zm rs z).Nodup:=by
 unfold Zm
 split
 ·exact hn.sublist zaP
 ·exact zbH
theorem Vl{rs:jt}(good:qF rs){num:Str->Option Nat}{stp:Str->Nat}(L:VJ (Zm rs) (·∈rs.map (·.1)) num stp){x:Str}{n:Nat}(hx:x∈rs.map (·.1))(e:num x=some n):n<=8:=by
 have h1:∀m,m<=n->m∈rs.map λr=>(num r.1).getD 0:=λm hm=>by
  rcases zbe m n with c | c
  ·obtain⟨y,hy,ey,_⟩:=L.n1 hx e c
   obtain⟨r,hr,rfl⟩:=tQ.mp (L.cl hx hy)
   exact tQ.mpr ⟨r,hr,by rw[ey];rfl⟩
  ·have:m=n:=by omega
   subst this
   obtain⟨r,hr,rfl⟩:=tQ.mp hx
   exact tQ.mpr ⟨r,hr,by rw[e];rfl⟩
 have h2:=kz n _ h1
 have h3:(rs.map λr=>(num r.1).getD 0).sum<=(rs.map λr=>r.2.length).sum:=VY λr hr=>by
  cases c:num r.1 with
  | none=>exact zao _
  | some m=>
   show m<=_
   have hr':r.1∈rs.map (·.1):=tQ.mpr ⟨r,hr,rfl⟩
   have:(zaD m).length<=((Zm rs r.1).filterMap num).length:=JZ List.nodup_range λj hj=>by
    obtain⟨y,hy,ey,_⟩:=L.n1 hr' c (zcu.mp hj)
    exact zaR.mpr ⟨y,hy,ey⟩
   rw[zbF]at this
   have h4:=zbt num (Zm rs r.1)
   have h5:(Zm rs r.1).length<=r.2.length:=JZ (BJ good.nd _) λy hy=>(yr good hr).mp hy
   omega
 have h4:=good.few
 rcases zbe 8 n with c | c
 ·have:9*10<=n*(n+1):=Nat.mul_le_mul c (by omega)
  omega
 ·exact c
def Xl(CG:Addr):Sp:=λvs H Q _=>∃(g:Addr) (rs:jt),vs=[.ref g]/\jP CG H g rs/\qF rs/\rs.length<=14/\
 ∀H' D R,Same H H'->H D=none->X5 H' D rs R->All (Zm rs) (rs.map (·.1)) 0 [] R->Q (.ref D) H'
section
variable{P:Program}{w:World}{K:zdw}{mg:Str->Option Value}{base:Heap}
abbrev nLb:List Str:=["ground","numbered","steps","step","names","name","labels"]
theorem Ua:qp nLb ["ground"] (qj Y4):=zdv
structure wz(K:zdw)(mg:Str->Option Value):Prop where
 lack:∃f fd,qZ K mg "lacking" QV ["numbers"] f fd
 seto:∃f fd,qZ K mg "set_of" Yd ["numbers"] f fd
 nb:∃f fd,qZ K mg "numbers_behind" MR G0 f fd
 gets:∃f fd,qZ K mg "gets_number" Xv XA f fd
 round:∃f fd,qZ K mg "round_of" Ye Jd f fd
 give:∃f fd,qZ K mg "give_number" Uh Jd f fd
 gives:∃f fd,qZ K mg "give_numbers" Vd Vi f fd
 labels:∃f fd,qZ K mg "labels_of" Y4 ["ground"] f fd
theorem Wy{f CG:Addr}{fd:zdA}(F:jw K "labels_of" "labels_of" Y4 f fd)(B:QB mg)(G:Qm mg)(T:j9 K mg)(M:GM K mg CG)(Y:wz K mg):qo P w K mg base qJ 8 f fd ["ground"] (Xl CG):=by
 obtain⟨fL,fdL,hL⟩:=Y.lack
 obtain⟨fS,fdS,hS⟩:=Y.seto
 obtain⟨fB,fdB,hB⟩:=Y.nb
 obtain⟨fG,fdG,hG⟩:=Y.gets
 obtain⟨fR,fdR,hR⟩:=Y.round
 obtain⟨fV,fdV,hV⟩:=Y.give
 obtain⟨fW,fdW,hW⟩:=Y.gives
 have GW:qo P w K mg base qJ 7 fW fdW Vi (kL CG):=Kl hW.fn B G T M hB hL hG hR hV
 have GB:qo P w K mg base qJ 3 fB fdB G0 (Ry CG):=MV hB.fn B G T M
 have GS:qo P w K mg base qJ 1 fS fdS ["numbers"] (W2 K):=Uv hS.fn
 obtain⟨fC,fdC,C⟩:=M.cls
 obtain⟨fM,fdM,hM⟩:=M.nm
 have GM:qo P w K mg base qJ 1 fM fdM ["self"] (Jv CG):=JD hM.fn C G
 refine F.okJ Ua (λvs H Q E h=>?_) (λcdv A outer s H vs Q E hr h=>?_)
 ·obtain⟨g,rs,rfl,_⟩:=h
  rfl
 ·obtain⟨g,rs,rfl,gr,good,le14,q⟩:=h
  have hu:=Qp hr
  have r1:qO 1 _:=hr.mono (by decide)
  have r3:qO 3 _:=hr.mono (by decide)
  refine⟨_,qg (qD (i:=1) Ua.nd rfl (Or.inl rfl) Qc)
   (qg (qD (i:=2) Ua.nd rfl (Or.inl rfl) Qc)
   (qg (jC PassesOwn.never rfl (Y8 (by rfl) T.enu (qd (qT hW GW hr (by rfl) (qd (jv 0) (qd (jv 1) qf))) qf)) (ZB rfl (jp (qx (i:=3) Ua.nd rfl (Or.inl rfl)) (jp (qx (i:=4) Ua.nd rfl (Or.inl rfl)) Jq)))
    (qh (jC PassesOwn.never rfl (qL (jv 4)) (qx (i:=5) Ua.nd rfl (Or.inl rfl)) (qh (j7 hu (jv 2) (jv 5) (jv 3) rfl)))))
   (qg (qD (i:=6) Ua.nd rfl (Or.inl rfl) Qc)
   (qg (jC PassesOwn.never rfl (qL (WH hM C.cl GM r1 (jv 0))) (qx (i:=5) Ua.nd rfl (Or.inl rfl))
    (qh (qE (Qb (J2 hu (jv 5) (jv 1)))
     (qh (j7 hu (jv 6) (jv 5) (q5 (qd qk (qd (jN hu (jv 1) (jv 5) (λ_ _=>rfl)) (qd (jN hu (jv 2) (jv 5) (λ_ _=>rfl)) qf)))) rfl))
     (qh (j7 hu (jv 6) (jv 5) (q5 (qd qk (qd (qT hS GS r1 (by rfl) (qd (qT hB GB r3 (by rfl) (qd (jv 0) (qd (jv 1) (qd (jv 5) qf)))) qf)) qf))) rfl)))))
   (qh (qt (jv 6))))))),?_⟩
  intro d hd st hst
  have s1:Same H (upd H d (.dK [])):=qm hd
  have s2:Same H (upd (upd H d (.dK [])) st (.dK [])):=s1.trans (qm hst)
  have hd2:upd (upd H d (.dK [])) st (.dK []) d=some (.dK []):=qw qe hst
  have hst2:upd (upd H d (.dK [])) st (.dK []) st=some (.dK []):=qe
  have nds:d≠st:=λe=>by rw[<-e,qe]at hst;cases hst
  have hs0:H st=none:=Jx s1 hst
  generalize upd (upd H d (.dK [])) st (.dK [])=H2 at s2 hd2 hst2
  have num0:∀{a:Addr},H2 a=some (.dK [])->ju (rs.map (·.1)) H2 a (q0 []):=λh=>⟨[],h,λz=>rfl,zbH,λk h=>(nomatch h)⟩
  have ap:∀{H':Hp} {a:Addr},Same H H'->H a=none->U4 CG H' g a:=λsH ha dx lo rd h=>by
   obtain⟨dx',lo',rd',kvs',h1,_,h3,_⟩:=gr
   have:=sH _ _ h1
   rw[h]at this
   cases this
   exact λe=>by rw[e,ha]at h3;cases h3
  refine⟨_,rfl,_,rfl,g,d,rs,rfl,gr.mono s2,good,le14,num0 hd2,ap s2 hd,λH3 l3 ps R hl3 hl3' rnds _ num all fr3=>?_⟩
  have od:=Mf all .nil
  have oL:=k9 od
  rw[tj]at oL
  have s3:Same H H3:=λb u h=>fr3 b u (s2 _ _ h) (qr h hd)
  have st3:H3 st=some (.dK []):=fr3 _ _ hst2 (Ne.symm nds)
  obtain⟨kvd,hd3⟩:=num.isd
  have nl3:l3≠st:=λe=>by rw[e,hst2]at hl3;cases hl3
  have L:=xK (ZD good.nd) all
  refine⟨l3,rfl,⟨_,.of hl3'⟩,?_⟩
  refine JJ (K:=K) (a:=l3) (xs:=ps.map V.ref) (λi σ' G'=>∃v3 v4 v5,σ'=[some (.ref g),some (.ref d),some (.ref st),v3,v4,v5,none]/\ju (rs.map (·.1)) G' st (X8 R i)/\Fr H3 st G')
   ⟨none,none,none,rfl,⟨[],st3,λz=>rfl,zbH,λk h=>(nomatch h)⟩,Fr.refl⟩ (λi σ' G' _ ⟨_,_,_,_,_,f⟩=>.of (f _ _ hl3' nl3)) ?_ ?_
  ·rintro i x σ' G' p hx hp ⟨v3,v4,v5,rfl,vH,frS⟩
   rw[tZ]at hx
   cases ep:ps[i]? with
   | none=>rw[ep]at hx;cases hx
   | some pi=>
    rw[ep]at hx
    obtain rfl:=(tX.inj hx).symm
    have li:i < R.length:=by
     have:=(tq.mp ep).1
     have:=rnds.1
     rw[tj]at this
     omega
    obtain⟨r,er⟩:∃r,R[i]?=some r:=⟨_,tW li⟩
    have hpi:=rnds.2 i pi r.2 ep (by rw[tZ,er];rfl)
    have npi:pi≠st:=λe=>by rw[e,st3]at hpi;cases hpi
    have sp:Same G' (upd G' p (.tup [.int (i:Nat),V.ref pi])):=qm hp
    have frp:Fr H3 st (upd G' p (.tup [.int (i:Nat),V.ref pi])):=frS.same sp
    have rN:∀z∈r.2,z∈rs.map (·.1):=od.sub r (tV er)
    refine⟨p,_,rfl,.of qe,rfl,_,_,rfl,_,_,rfl,rfl,?_⟩
    have hpp:∀{G2:Hp},Fr H3 st G2->G2 pi=some (.lst (r.2.map V.str)):=λf=>f _ _ hpi npi
    have num1:=vH.mono sp
    generalize upd G' p (.tup [.int (i:Nat),V.ref pi])=G1 at sp frp num1
    refine⟨_,rfl,pi,rfl,⟨_,.of (hpp frp)⟩,?_⟩
    have rnd:r.2.Nodup:=good.nd.sublist (od.srt r (tV er))
    refine jk (K:=K) (a:=pi) (xs:=r.2.map V.str) (λj σ'' G2=>∃v5,σ''=[some (.ref g),some (.ref d),some (.ref st),some (.int (i:Nat)),some (.ref pi),v5,none]/\ju (rs.map (·.1)) G2 st (YR (X8 R i) i (r.2.take j))/\Fr H3 st G2)
     ⟨v5,rfl,num1.congr λz=>by unfold YR;rw[List.take_zero,if_neg (by simp)],frp⟩ (λj σ'' G2 _ ⟨_,_,_,f⟩=>.of (hpp f)) ?_ ?_
    ·rintro j y σ'' G2 hy ⟨v5',rfl,numG,frG⟩
     obtain⟨z,ez,hz,rfl⟩:=Qg hy
     by_cases nt:z∈r.2.take j
     ·exfalso
      obtain⟨j',hj⟩:=zbg nt
      rw[zbz]at hj
      split at hj
      . have h1:=(tq.mp hj)
        have h2:=(tq.mp ez)
        have:=Ku rnd (h1.2.trans h2.2.symm)
        omega
      . cases hj
     ·obtain⟨H4,put,num4,o4,e4⟩:=numG.put (n:=i) (rN z hz) (by unfold YR;rw[if_neg nt];exact V1 od er hz) (by rw[tj];exact le14)
      refine⟨_,rfl,_,rfl,_,rfl,st,H4,rfl,put,_,rfl,num4.congr λy=>?_,?_⟩
      . unfold YR
        rw[tO,ez]
        by_cases e:y=z
        ·subst e;rw[if_pos rfl,if_pos (by simp)]
        ·rw[if_neg e]
         by_cases m:y∈r.2.take j
         ·rw[if_pos m,if_pos (zaK _ m)]
         ·rw[if_neg m,if_neg (by simp [m,e])]
      . rw[e4]
        exact frG.at_d
    ·rintro σ'' G2 ⟨v5',rfl,numG,frG⟩
     rw[tj,tI (tu _)]at numG
     exact⟨_,_,_,rfl,numG.congr (yX od er),frG⟩
  ·rintro σ' G' ⟨v3,v4,v5,rfl,vH,frS⟩
   rw[tj,rnds.1,tj]at vH
   have vH:=vH.congr (wS R)
   have sG:Same H G':=λb u h=>frS _ _ (s3 _ _ h) (qr h hs0)
   have numD:ju (rs.map (·.1)) G' d (q0 R):=num.fr frS nds
   intro D hD
   have sD:Same G' (upd G' D (.dK [])):=qm hD
   have hD0:H D=none:=Jx sG hD
   have hDD:upd G' D (.dK []) D=some (.dK []):=qe
   generalize upd G' D (.dK [])=G1 at sD hDD
   obtain⟨dx,fs,hg,l1,l2⟩:=((gr.mono sG).mono sD).ins
   refine⟨_,rfl,g,dx,fs,rfl,hg,l1,g,rs,rfl,(gr.mono sG).mono sD,λln hln=>⟨ln,rfl,⟨_,.of qe⟩,?_⟩⟩
   have sL:Same G1 (upd G1 ln (.lst ((rs.map (·.1)).map V.str))):=qm hln
   have hL2:upd G1 ln (.lst ((rs.map (·.1)).map V.str)) ln=some (.lst ((rs.map (·.1)).map V.str)):=qe
   have nDl:ln≠D:=λe=>by rw[e,hDD]at hln;cases hln
   generalize upd G1 ln (.lst ((rs.map (·.1)).map V.str))=G2 at sL hL2
   have sG2:Same G' G2:=sD.trans sL
   refine jk (K:=K) (a:=ln) (xs:=(rs.map (·.1)).map V.str) (λi σ' G3=>∃v5 kvs,σ'=[some (.ref g),some (.ref d),some (.ref st),v3,v4,v5,some (.ref D)]/\Fr G2 D G3/\G3 D=some (.dK kvs)/\kvs.map (·.1)=((rs.map (·.1)).take i).map Sum.inr/\
     ∀r∈rs.take i,∃t,jc kvs (Sum.inr r.1:qG)=some (.ref t)/\G3 t=some (.tup (Yo rs R r.1)))
    ⟨v5,[],rfl,Fr.refl,sL _ _ hDD,rfl,λr h=>(nomatch h)⟩ (λi σ' G3 _ ⟨_,_,_,f,_⟩=>.of (f _ _ hL2 nDl)) ?_ ?_
   ·rintro i y σ' G3 hy ⟨v5',kvs,rfl,fr,hDk,ek,hv⟩
    obtain⟨r,er,hr',rfl⟩:=Kv hy
    have hi:=(tq.mp er).1
    have s23:Same G' G3:=λb u h=>fr _ _ (sG2 _ _ h) (qr h hD)
    have sA:=sG.trans s23
    have nm:=numD.mono s23
    have ns:=vH.mono s23
    have lk:kvs.length=i:=by
     have:=congrArg zbs ek
     rw[tj,tj,zag,tj]at this
     omega
    have eN:(rs.map (·.1))[i]?=some r.1:=by rw[tZ,er];rfl
    have new:jc kvs (Sum.inr r.1:qG)=none:=Zo (by rw[ek];exact ZU good.nd eN)
    have fin:∀(G4:Hp) (t:Addr),Fr G2 D G4->G4 D=some (.dK kvs)->Same G3 G4->G4 t=some (.tup (Yo rs R r.1))->∃H5,Jk G4 D (.str r.1) (.ref t) H5/\
      ∃v5 kvs,[some (V.ref g),some (.ref d),some (.ref st),v3,v4,some (.str r.1),some (.ref D)]=[some (.ref g),some (.ref d),some (.ref st),v3,v4,v5,some (.ref D)]/\Fr G2 D H5/\H5 D=some (.dK kvs)/\kvs.map (·.1)=((rs.map (·.1)).take (i+1)).map Sum.inr/\
       ∀r∈rs.take (i+1),∃t,jc kvs (Sum.inr r.1:qG)=some (.ref t)/\H5 t=some (.tup (Yo rs R r.1)):=λG4 t f4 h4 s4 ht=>by
     refine⟨_,Jk.k (k:=(Sum.inr r.1:qG)) h4 (qy (by omega)),some (.str r.1),Qn kvs (Sum.inr r.1) (.ref t),rfl,f4.at_d,qe,?_,λr2 hr2=>?_⟩
     ·rw[zE _ new,tH,ek,tO,eN,tH]
      rfl
     ·have tD:∀{b:Addr} {xs:List V},G4 b=some (.tup xs)->b≠D:=λhb e=>by rw[e,h4]at hb;cases hb
      rw[tO,er]at hr2
      rcases zar.mp hr2 with h | h
      . obtain⟨t2,a,b⟩:=hv r2 h
        have ne:r2.1≠r.1:=λe=>by rw[e,new]at a;cases a
        refine⟨t2,?_,?_⟩
        ·rw[Jt,if_neg (λq=>ne (Sum.inr.inj q))];exact a
        ·rw[qi (tD (s4 _ _ b))];exact s4 _ _ b
      . have:r2=r:=by simpa using h
        subst this
        refine⟨t,?_,?_⟩
        ·rw[Jt,if_pos rfl]
        ·rw[qi (tD ht)];exact ht
    refine⟨_,rfl,_,rfl,d,_,rfl,nm.get r.1,_,rfl,?_⟩
    cases c:q0 R r.1 with
    | some n=>
     have g1:=nm.get r.1
     have g2:=ns.get r.1
     rw[c]at g1 g2
     refine Qj ⟨_,rfl,_,rfl,d,_,rfl,g1,_,rfl,_,rfl,st,_,rfl,g2,by show 3<=zdB;decide,λt ht=>?_⟩
     have el:Yo rs R r.1=[.str "number",.int (n:Nat),.int (ze R r.1:Nat)]:=by unfold Yo;rw[c]
     obtain⟨H5,put,k⟩:=fin (upd G3 t (.tup [.str "number",.int (n:Nat),.int (ze R r.1:Nat)])) t (fr.same (qm ht)) (qw hDk ht) (qm ht) (by rw[el];exact qe)
     exact⟨_,rfl,_,rfl,D,H5,rfl,put,k⟩
    | none=>
     have gN:=L
     refine jh ⟨_,rfl,_,rfl,_,rfl,g,d,rs,r.1,q0 R,rfl,gr.mono sA,good,le14,tQ.mpr ⟨r,hr',rfl⟩,nm,λH4 l4 s4 hl4 hl4'=>?_⟩
     refine⟨l4,_,rfl,.of hl4',λx hx=>?_,by show 2<=zdB;decide,λt ht=>?_⟩
     ·obtain⟨y,hy,ey⟩:=QS.mp hx
      have:=Vl good L (ZD good.nd _ (tQ.mpr ⟨r,hr',rfl⟩) y hy) ey
      omega
     ·have el:Yo rs R r.1=[.str "endless",.int (Rb.setN (YO rs (q0 R) r.1):Nat)]:=by unfold Yo;rw[c]
      obtain⟨H5,put,k⟩:=fin (upd H4 t (.tup [.str "endless",.int (Rb.setN (YO rs (q0 R) r.1):Nat)])) t ((fr.same s4).same (qm ht)) (qw (s4 _ _ hDk) ht) (s4.trans (qm ht)) (by rw[el];exact qe)
      exact⟨_,rfl,_,rfl,D,H5,rfl,put,k⟩
   ·rintro σ' G3 ⟨v5',kvs,rfl,fr,hDk,ek,hv⟩
    rw[tj,tI (tu _)]at ek
    rw[tj,tj,tI (tu _)]at hv
    exact⟨_,rfl,q G3 D R (λb u h=>fr _ _ (sG2 _ _ (sG _ _ h)) (qr h hD0)) hD0 ⟨kvs,hDk,ek,hv⟩ all⟩
end
open PySem L2 PyProof.Rows Rb
abbrev Xr:Stmt:=top 4
abbrev Y0:Stmt:=top 5
abbrev Zs:Stmt:=top 21
abbrev zA:Stmt:=top 45
abbrev Xu:Stmt:=top 46
abbrev Xp:Stmt:=top 50
abbrev Xs:Stmt:=ja (top 48) 0
abbrev uy:Stmt:=ja (top 48) 1
abbrev vq:Stmt:=ja (top 48) 3
abbrev uz:Stmt:=ja (top 48) 4
abbrev kW:Stmt:=ja (top 48) 5
abbrev Xy:Stmt:=ja (top 49) 0
abbrev uE:Stmt:=ja (top 49) 1
abbrev vw:Stmt:=ja (top 49) 3
abbrev uF:Stmt:=ja (top 49) 4
abbrev kZ:Stmt:=ja (top 49) 5
section
variable{P:Program}{w:World}{K:zdw}{mg:Str->Option Value}{base:Heap}
theorem bx(a b:Nat):Builtin.bitXor a b=((a^^^b:Nat):Int):=by
 unfold Builtin.bitXor
 rw[bo,ba]
 have:=Rb.or_and_xor a b
 omega
def YX:Sp:=λvs H Q _=>∃b:Nat,vs=[.int b]/\b < 65536/\∀l,H l=none->Q (.ref l) (upd H l (.lst (Yv (Rb.memN b 16))))
def V2:Sp:=λvs H Q _=>∃b n:Nat,vs=[.int b,.int n]/\b < 65536/\n < 16/\∀H',Same H H'->Q (.int (Rb.turnN b n 16:Nat)) H'
theorem Md(b:Nat):b < 2^ (Builtin.Int.intBits (b:Nat)):=by
 unfold Builtin.Int.intBits
 by_cases h:b=0
 ·subst h;simp
 ·rw[if_neg (by simpa using h)]
  exact Nat.lt_log2_self
theorem WS{b:Nat}(h:b < 65536):Builtin.Int.intBits (b:Nat)<=16:=by
 unfold Builtin.Int.intBits
 by_cases h0:b=0
 ·subst h0;simp
 ·rw[if_neg (by simpa using h0)]
  have:b.log2 < 16:=(Nat.log2_lt h0).mpr h
  exact this
theorem RA(b i:Nat):Builtin.bitAnd ((b:Int) / 2^ ((i:Nat):Int).toNat) 1=(((b.testBit i).toNat:Nat):Int):=by
 have e1:(b:Int) / 2^ ((i:Nat):Int).toNat=((b / 2^i:Nat):Int):=by rw[zbi];push_cast;rfl
 have e2:Builtin.bitAnd ((b / 2^i:Nat):Int) 1=(((b / 2^i)&&& 1:Nat):Int):=ba (b / 2^i) 1
 rw[e1,e2,Nat.and_one_is_mod,Rb.testBit_div]
 by_cases h:b / 2^i % 2=1
 ·rw[h];rfl
 ·have h':b / 2^i % 2=0:=by omega
  rw[h'];rfl
theorem RF:qp ["bits"] ["bits"] (qj Xr):=zdv
theorem XD{f:Addr}{fd:zdA}(F:jw K "numbers_in" "numbers_in" Xr f fd)(B:QB mg):qo P w K mg base qJ 1 f fd ["bits"] YX:=by
 refine F.okJ RF (λvs H Q E h=>?_) (λcdv A outer s H vs Q E hr h=>?_)
 ·obtain⟨b,rfl,_⟩:=h
  rfl
 ·obtain⟨b,rfl,hb,q⟩:=h
  refine⟨_,qh (qt (Ql (N':=["number","bits"]) (ix:=[none,some 0]) rfl ⟨rfl,rfl,rfl,rfl,rfl⟩
   (Ys (by rfl) B.rng (qd (BH PySem.F.plainAttrs_int PySem.F.slot_int_bit_length PySem.F.type_int_bit_length xD (jv 0)) qf))
   (λC s2 H2 fp pins=>⟨qx (i:=0) (show (["number","bits"]:List Str).Nodup by decide+kernel) rfl (Or.inl rfl),ZW (qA jY (qV AV (qV AQ (jv 1) (jv 0)) ql) ql (qC _)),jv 0⟩))),?_⟩
  refine⟨_,rfl,rfl,_,rfl,rfl,_,rfl,by omega,?_,λD hD=>?_⟩
  ·have:=WS hb
   omega
  ·rw[zbi]
   refine WR (λi σ' H'=>∃v,σ'=[v,some (.int b)]/\H'=upd H D (.lst (Yv (Rb.memN b i)))) ⟨none,rfl,rfl⟩ ?_ ?_
   ·rintro i σ' H' hi ⟨v,rfl,rfl⟩
    rw[Int.zero_add]
    refine⟨_,rfl,_,rfl,_,_,rfl,rfl,by omega,_,_,rfl,rfl,rfl,_,rfl,?_⟩
    have e:decide (V.int (Builtin.bitAnd ((b:Int) / 2^ ((i:Nat):Int).toNat) 1)=V.int 1)=b.testBit i:=by
     rw[RA]
     cases b.testBit i<;>decide
    rw[e]
    have l:(Yv (Rb.memN b i)).length < zdB:=by
     rw[zL]
     refine qy ?_
     have:=WS hb
     have h1:(Rb.memN b i).length<=(zaD i).length:=zaH _ _
     rw[zbF]at h1
     omega
    cases hb':b.testBit i with
    | true=>
     refine Qj ⟨_,rfl,_,qe,l,some (.int i),rfl,?_⟩
     rw[Qs,UJ,Rb.memN_succ,hb']
     rfl
    | false=>
     refine jh ⟨some (.int i),rfl,?_⟩
     rw[Rb.memN_succ,hb']
     simp
   ·rintro σ' H' ⟨v,rfl,rfl⟩
    rw[Rb.memN_same (m:=16) hb (Md b)]
    exact q D hD
theorem ul:qp ["bits","number"] ["bits","number"] (qj Y0):=zdv
theorem xq{f fN fS:Addr}{fd fdN fdS:zdA}(F:jw K "set_turned" "set_turned" Y0 f fd)(B:QB mg)(hN:qZ K mg "numbers_in" Xr ["bits"] fN fdN)(hS:qZ K mg "set_of" Yd ["numbers"] fS fdS):
  qo P w K mg base qJ 2 f fd ["bits","number"] V2:=by
 have GN:qo P w K mg base qJ 1 fN fdN ["bits"] YX:=XD hN.fn B
 have GS:qo P w K mg base qJ 1 fS fdS ["numbers"] (W2 K):=Uv hS.fn
 refine F.okJ ul (λvs H Q E h=>?_) (λcdv A outer s H vs Q E hr h=>?_)
 ·obtain⟨b,n,rfl,_⟩:=h
  rfl
 ·obtain⟨b,n,rfl,hb,hn,q⟩:=h
  refine⟨_,qh (qt (qT hS GS hr (by rfl) (qd (Ql (N':=["other","number"]) (ix:=[none,some 1]) rfl ⟨rfl,rfl,rfl,rfl,rfl⟩
   (qL (qT hN GN hr (by rfl) (qd (jv 0) qf)))
   (λC s2 H2 fp pins=>⟨qx (i:=0) (show (["other","number"]:List Str).Nodup by decide+kernel) rfl (Or.inl rfl),jr,qV uZ (jv 0) (jv 1)⟩)) qf))),?_⟩
  refine⟨_,rfl,b,rfl,hb,λl hl=>⟨l,rfl,⟨_,.of qe⟩,λD hD=>?_⟩⟩
  have nlD:l≠D:=λe=>by rw[e,qe]at hD;cases hD
  have HD:H D=none:=by rw[<-hD,qi (Ne.symm nlD)]
  refine Qe (K:=K) (a:=l) (xs:=Yv (Rb.memN b 16)) (λi σ' H'=>∃v,σ'=[v,some (.int n)]/\H'=upd (upd H l (.lst (Yv (Rb.memN b 16)))) D (.lst (Yv (((Rb.memN b 16).take i).map (·^^^n))))) ⟨none,rfl,rfl⟩
   (λi σ' H' _ ⟨_,_,e⟩=>.of (by rw[e,qi nlD];exact qe)) ?_ ?_
  ·rintro i x σ' H' hx ⟨v,rfl,rfl⟩
   obtain⟨m,hm,rfl⟩:=Vu hx
   refine⟨_,rfl,_,rfl,_,_,rfl,rfl,_,qe,?_,some (.int m),rfl,?_⟩
   ·rw[zL,tj,zag]
    refine qy (tM (zcQ _ _) ?_)
    have h1:(Rb.memN b 16).length<=(zaD 16).length:=zaH _ _
    rw[zbF]at h1
    omega
   ·rw[Qs]
    dsimp only
    rw[bx,UJ,zX hm,tH]
    rfl
  ·rintro σ' H' ⟨v,rfl,rfl⟩
   rw[zL,tI (tu _)]
   refine⟨D,(Rb.memN b 16).map (·^^^n),rfl,.of qe,λx hx=>?_,?_⟩
   ·obtain⟨y,hy,rfl⟩:=tQ.mp hx
    have:=Rb.xor_lt (m:=4) (Rb.mem_memN.mp hy).1 hn
    omega
   ·exact q _ (Same.upd (qm hl) HD)
end
structure Cl(K:zdw)(mg:Str->Option Value)(x qual fld:Str)(st:Stmt)(C f:Addr)(fd:zdA):Prop where
 cl:YV K C
 mkr:Mk K C f
 ns:mg x=some (.ref C)
 na:jW K C fld
 fn:jw K "__init__" qual st f fd
 bi:ji K fd ["self",fld] []
 ca:t8 K (.ref C) "__class__"=some (some (.builtin "object.__class__"))
 ob:zbP K C (.type "object")=some true
structure Wk(K:zdw)(mg:Str->Option Value):Prop where
 isi:mg "isinstance"=none
 bool:mg "bool"=none
 kii:tU K (.type "int") (.type "int")=some true
 kib:tU K (.type "int") (.type "bool")=some false
 most:∃t,mg "MOST_NUMBER"=some (.int 15 t)
 mset:∃t,mg "MOST_BITS"=some (.int 65535 t)
theorem MY{f:Str}{v:V}:[(f,v)].lookup f=some v:=by simp [zaA]
def Za(CN CE:Addr)(H:Hp)(a:Addr):W->Prop
 | .num n=>∃dx,H a=some (.ins CN dx [("number",.int (n:Nat))])
 | .edl b=>∃dx,H a=some (.ins CE dx [("bits",.int (b:Nat))])
theorem Za.same{CN CE:Addr}{H H':Hp}{a:Addr}{w:W}(h:Za CN CE H a w)(s:Same H H'):Za CN CE H' a w:=by
 cases w with
 | num n=>obtain⟨dx,e⟩:=h;exact⟨dx,s _ _ e⟩
 | edl b=>obtain⟨dx,e⟩:=h;exact⟨dx,s _ _ e⟩
section
variable{P:Program}{w:World}{K:zdw}{mg:Str->Option Value}{base:Heap}
def Xj:Sp:=λvs H Q _=>∃i:Int,vs=[.int i]/\Q (.bl true) H
def V5:Sp:=λvs H Q _=>∃i:Int,vs=[.int i]/\0<=i/\i<=15/\Q (.bl true) H
def kK:Sp:=λvs H Q _=>∃i:Int,vs=[.int i]/\0<=i/\i<=65535/\Q (.bl true) H
theorem RD:qp ["thing"] ["thing"] (qj Zs):=zdv
theorem Uu{f:Addr}{fd:zdA}(F:jw K "is_whole" "is_whole" Zs f fd)(B:QB mg)(T:Wk K mg):qo P w K mg base qJ 1 f fd ["thing"] Xj:=by
 refine F.okJ RD (λvs H Q E h=>?_) (λcdv A outer s H vs Q E hr h=>?_)
 ·obtain⟨i,rfl,_⟩:=h
  rfl
 ·obtain⟨i,rfl,q⟩:=h
  refine⟨_,qh (qt (QM (qu qX (by rfl) T.isi boot_isinstance (qd (jv 0) (qd (jR (v:=.ty "int") (by rfl) B.int boot_int rfl) qf)))
   (QP (BG (qu qX (by rfl) T.isi boot_isinstance (qd (jv 0) (qd (jR (v:=.ty "bool") (by rfl) T.bool boot_bool rfl) qf))))))),?_⟩
  exact⟨_,rfl,_,_,_,_,rfl,rfl,.int i,T.kii,_,rfl,Qj ⟨_,rfl,_,_,_,_,rfl,rfl,.int i,T.kib,_,rfl,q⟩⟩
theorem ur:qp ["thing"] ["thing"] (qj zA):=zdv
theorem xu{f fW:Addr}{fd fdW:zdA}(F:jw K "is_number" "is_number" zA f fd)(B:QB mg)(T:Wk K mg)(hW:qZ K mg "is_whole" Zs ["thing"] fW fdW):qo P w K mg base qJ 2 f fd ["thing"] V5:=by
 have GW:qo P w K mg base qJ 1 fW fdW ["thing"] Xj:=Uu hW.fn B T
 obtain⟨t,hm⟩:=T.most
 refine F.okJ ur (λvs H Q E h=>?_) (λcdv A outer s H vs Q E hr h=>?_)
 ·obtain⟨i,rfl,_⟩:=h
  rfl
 ·obtain⟨i,rfl,h0,h1,q⟩:=h
  refine⟨_,qh (qt (QM (qT hW GW hr (by rfl) (qd (jv 0) qf)) (QM (jE ya ql (jv 0) (qC _)) (QP (jE ya (jv 0) (qM (v:=.int 15) (by rfl) hm ⟨_,rfl⟩) (qC _)))))),?_⟩
  refine⟨_,rfl,i,rfl,_,rfl,Qj ⟨_,rfl,_,_,rfl,rfl,_,rfl,?_⟩⟩
  rw[decide_eq_true h0]
  refine Qj ⟨_,rfl,_,_,rfl,rfl,?_⟩
  have e:decide (i<=15)=true:=decide_eq_true h1
  show Q (.bl (decide (i<=15))) H
  rw[e]
  exact q
theorem RK:qp ["thing"] ["thing"] (qj Xu):=zdv
theorem Ki{f fW:Addr}{fd fdW:zdA}(F:jw K "is_set" "is_set" Xu f fd)(B:QB mg)(T:Wk K mg)(hW:qZ K mg "is_whole" Zs ["thing"] fW fdW):qo P w K mg base qJ 2 f fd ["thing"] kK:=by
 have GW:qo P w K mg base qJ 1 fW fdW ["thing"] Xj:=Uu hW.fn B T
 obtain⟨t,hm⟩:=T.mset
 refine F.okJ RK (λvs H Q E h=>?_) (λcdv A outer s H vs Q E hr h=>?_)
 ·obtain⟨i,rfl,_⟩:=h
  rfl
 ·obtain⟨i,rfl,h0,h1,q⟩:=h
  refine⟨_,qh (qt (QM (qT hW GW hr (by rfl) (qd (jv 0) qf)) (QM (jE ya ql (jv 0) (qC _)) (QP (jE ya (jv 0) (qM (v:=.int 65535) (by rfl) hm ⟨_,rfl⟩) (qC _)))))),?_⟩
  refine⟨_,rfl,i,rfl,_,rfl,Qj ⟨_,rfl,_,_,rfl,rfl,_,rfl,?_⟩⟩
  rw[decide_eq_true h0]
  refine Qj ⟨_,rfl,_,_,rfl,rfl,?_⟩
  have e:decide (i<=65535)=true:=decide_eq_true h1
  show Q (.bl (decide (i<=65535))) H
  rw[e]
  exact q
def W5(C:Addr)(fld:Str)(hi:Int):Sp:=λvs H Q _=>∃(x dx:Addr) (n:Int),vs=[.ref x,.int n]/\0<=n/\n<=hi/\H x=some (.ins C dx [])/\Q .non (upd H x (.ins C dx [(fld,.int n)]))
theorem RI:qp ["self","number"] ["self","number"] (qj Xs):=zdv
theorem Ke{f fB fW CN:Addr}{fd fdB fdW:zdA}(F:jw K "__init__" "Numbered.__init__" Xs f fd)(B:QB mg)(T:Wk K mg)(hW:qZ K mg "is_whole" Zs ["thing"] fW fdW)(hB:qZ K mg "is_number" zA ["thing"] fB fdB)(cl:YV K CN)(na:jW K CN "number"):
  qo P w K mg base qJ 3 f fd ["self","number"] (W5 CN "number" 15):=by
 have GB:qo P w K mg base qJ 2 fB fdB ["thing"] V5:=xu hB.fn B T hW
 refine F.okJ RI (λvs H Q E h=>?_) (λcdv A outer s H vs Q E hr h=>?_)
 ·obtain⟨x,dx,n,rfl,_⟩:=h
  rfl
 ·obtain⟨x,dx,n,rfl,h0,h1,hx,q⟩:=h
  refine⟨_,qg (qE (jy (jd (qT hB GB hr (by rfl) (qd (jv 1) qf)))) qI qv) (qh (Yr (jv 0) (jv 1) rfl)),?_⟩
  exact⟨_,rfl,n,rfl,h0,h1,_,rfl,jh ⟨_,rfl,_,rfl,x,CN,dx,[],rfl,hx,cl,na,by decide,q⟩⟩
theorem RN:qp ["self","bits"] ["self","bits"] (qj Xy):=zdv
theorem Kq{f fB fW CE:Addr}{fd fdB fdW:zdA}(F:jw K "__init__" "Endless.__init__" Xy f fd)(B:QB mg)(T:Wk K mg)(hW:qZ K mg "is_whole" Zs ["thing"] fW fdW)(hB:qZ K mg "is_set" Xu ["thing"] fB fdB)(cl:YV K CE)(na:jW K CE "bits"):
  qo P w K mg base qJ 3 f fd ["self","bits"] (W5 CE "bits" 65535):=by
 have GB:qo P w K mg base qJ 2 fB fdB ["thing"] kK:=Ki hB.fn B T hW
 refine F.okJ RN (λvs H Q E h=>?_) (λcdv A outer s H vs Q E hr h=>?_)
 ·obtain⟨x,dx,n,rfl,_⟩:=h
  rfl
 ·obtain⟨x,dx,n,rfl,h0,h1,hx,q⟩:=h
  refine⟨_,qg (qE (jy (jd (qT hB GB hr (by rfl) (qd (jv 1) qf)))) qI qv) (qh (Yr (jv 0) (jv 1) rfl)),?_⟩
  exact⟨_,rfl,n,rfl,h0,h1,_,rfl,jh ⟨_,rfl,_,rfl,x,CE,dx,[],rfl,hx,cl,na,by decide,q⟩⟩
def yY(b:Bool):Sp:=λvs H Q _=>∃a,vs=[.ref a]/\Q (.bl b) H
theorem AA:qp ["self"] ["self"] (qj kW):=zdv
theorem Nw{f:Addr}{fd:zdA}(F:jw K "is_endless" "Numbered.is_endless" kW f fd):qo P w K mg base qJ 1 f fd ["self"] (yY false):=by
 refine F.okJ AA (λvs H Q E h=>?_) (λcdv A outer s H vs Q E hr h=>?_)
 ·obtain⟨a,rfl,_⟩:=h
  rfl
 ·obtain⟨a,rfl,q⟩:=h
  exact⟨_,qh (qt Qd),q⟩
theorem AG:qp ["self"] ["self"] (qj kZ):=zdv
theorem NG{f:Addr}{fd:zdA}(F:jw K "is_endless" "Endless.is_endless" kZ f fd):qo P w K mg base qJ 1 f fd ["self"] (yY true):=by
 refine F.okJ AG (λvs H Q E h=>?_) (λcdv A outer s H vs Q E hr h=>?_)
 ·obtain⟨a,rfl,_⟩:=h
  rfl
 ·obtain⟨a,rfl,q⟩:=h
  exact⟨_,qh (qt Qd),q⟩
end
structure WF(K:zdw)(mg:Str->Option Value) where
 (CN CE fNI fEI fNT fET fNO fEO fNP fEP fNE fEE fW fB fS fT fN fO:Addr)
 (dNI dEI dNT dET dNO dEO dNP dEP dNE dEE dW dB dS dT dN dO:zdA)
 ne:CN≠CE
 cN:Cl K mg "Numbered" "Numbered.__init__" "number" Xs CN fNI dNI
 cE:Cl K mg "Endless" "Endless.__init__" "bits" Xy CE fEI dEI
 nT:X0 K CN "told" "Numbered.told" uy ["self"] fNT dNT
 eT:X0 K CE "told" "Endless.told" uE ["self"] fET dET
 nO:X0 K CN "outcome" "Numbered.outcome" uz ["self"] fNO dNO
 eO:X0 K CE "outcome" "Endless.outcome" uF ["self"] fEO dEO
 nP:X0 K CN "plus" "Numbered.plus" vq ["self","other"] fNP dNP
 eP:X0 K CE "plus" "Endless.plus" vw ["self","other"] fEP dEP
 nE:X0 K CN "is_endless" "Numbered.is_endless" kW ["self"] fNE dNE
 eE:X0 K CE "is_endless" "Endless.is_endless" kZ ["self"] fEE dEE
 hW:qZ K mg "is_whole" Zs ["thing"] fW dW
 hB:qZ K mg "is_number" zA ["thing"] fB dB
 hS:qZ K mg "is_set" Xu ["thing"] fS dS
 hT:qZ K mg "set_turned" Y0 ["bits","number"] fT dT
 hN:qZ K mg "numbers_in" Xr ["bits"] fN dN
 hO:qZ K mg "set_of" Yd ["numbers"] fO dO
section
variable{P:Program}{w:World}{K:zdw}{mg:Str->Option Value}{base:Heap}
def isE:W->Bool
 | .num _=>false
 | .edl _=>true
theorem WF.gNI(h:WF K mg)(B:QB mg)(T:Wk K mg):qo P w K mg base qJ 3 h.fNI h.dNI ["self","number"] (W5 h.CN "number" 15):=Ke h.cN.fn B T h.hW h.hB h.cN.cl h.cN.na
theorem WF.gEI(h:WF K mg)(B:QB mg)(T:Wk K mg):qo P w K mg base qJ 3 h.fEI h.dEI ["self","bits"] (W5 h.CE "bits" 65535):=Kq h.cE.fn B T h.hW h.hS h.cE.cl h.cE.na
theorem WF.gNE(h:WF K mg):qo P w K mg base qJ 1 h.fNE h.dNE ["self"] (yY false):=Nw h.nE.fn
theorem WF.gEE(h:WF K mg):qo P w K mg base qJ 1 h.fEE h.dEE ["self"] (yY true):=NG h.eE.fn
theorem WF.gT(h:WF K mg)(B:QB mg):qo P w K mg base qJ 2 h.fT h.dT ["bits","number"] V2:=xq h.hT.fn B h.hN h.hO
theorem NL{f g:Str}{v:V}(h:(g==f)=false):[(f,v)].lookup g=none:=by simp [zaA,h]
theorem n1:((zdx "is_endless")==(zdx "number"))=false:=by decide+kernel
theorem n2:((zdx "is_endless")==(zdx "bits"))=false:=by decide+kernel
theorem n5:((zdx "plus")==(zdx "number"))=false:=by decide+kernel
theorem n6:((zdx "plus")==(zdx "bits"))=false:=by decide+kernel
theorem BO{CN CE a:Addr}{H:Hp}{w:W}{Q:VK}(h:Za CN CE H a w)(q:Q (.bl (isE w)) H):∃a' dx fs,V.ref a=.ref a'/\fs.lookup (zdx "is_endless")=none/\((H a'=some (.ins CN dx fs)/\yY false [V.ref a] H Q E0)\/(H a'=some (.ins CE dx fs)/\yY true [V.ref a] H Q E0)):=by
 cases w with
 | num n=>obtain⟨dx,e⟩:=h;exact⟨a,dx,_,rfl,NL n1,.inl ⟨e,a,rfl,q⟩⟩
 | edl b=>obtain⟨dx,e⟩:=h;exact⟨a,dx,_,rfl,NL n2,.inr ⟨e,a,rfl,q⟩⟩
theorem KU{X:Cx}(h:WF X.K X.mg)(hr:qO 1 X.A){o:Expr}{ta:TE}{apos pos:Pos}{pl:Sem Bool}(he:JE X o ta)
  (ht:eval (.Call (.Attribute o "is_endless" apos) [] [] pos) X.env=(eval o X.env >>= λov=>standAt apos.atName >>= λ_=>holding [ov] (getMethod ov "is_endless" pl) >>= λr=>callWith pos r.1 r.2 (backTo pos (starEach [] X.env)) (backToKw pos (keywordEach [] X.env))):=by rfl):
  JE X (.Call (.Attribute o "is_endless" apos) [] [] pos) (λσ H Q=>ta σ H λx H1=>∃a u,x=.ref a/\Za h.CN h.CE H1 a u/\Q (.bl (isE u)) H1):=
 Xa (Yt (yk he) h.cN.cl h.nE.me h.gNE hr h.nE.bi h.cE.cl h.eE.me h.gEE hr h.eE.bi ht) λσ H Q q=>⟨_,q,λx H1 ⟨a,u,e,i,q1⟩=>by subst e;exact BO i q1⟩
def kE(CN CE:Addr):Sp:=λvs H Q _=>∃a o n v,vs=[.ref a,.ref o]/\Za CN CE H a (.num n)/\Za CN CE H o v/\n < 16/\Yl v/\∀H' r,Same H H'->Za CN CE H' r (zF (.num n) v)->Q (.ref r) H'
def kF(CN CE:Addr):Sp:=λvs H Q _=>∃a o b v,vs=[.ref a,.ref o]/\Za CN CE H a (.edl b)/\Za CN CE H o v/\b < 65536/\Yl v/\∀H' r,Same H H'->Za CN CE H' r (zF (.edl b) v)->Q (.ref r) H'
theorem Vn{CN CE:Addr}{H:Hp}{x dx:Addr}{n:Nat}(hx:H x=none)(hd:H dx=none)(hne:dx≠x):Same H (upd (upd (upd H dx (.own x)) x (.ins CN dx [])) x (.ins CN dx [("number",.int (n:Nat))]))/\Za CN CE (upd (upd (upd H dx (.own x)) x (.ins CN dx [])) x (.ins CN dx [("number",.int (n:Nat))])) x (.num n):=
 ⟨λb o hb=>by rw[qi (qr hb hx),qi (qr hb hx),qi (qr hb hd)];exact hb,dx,qe⟩
theorem Vo{CN CE:Addr}{H:Hp}{x dx:Addr}{b:Nat}(hx:H x=none)(hd:H dx=none)(hne:dx≠x):Same H (upd (upd (upd H dx (.own x)) x (.ins CE dx [])) x (.ins CE dx [("bits",.int (b:Nat))]))/\Za CN CE (upd (upd (upd H dx (.own x)) x (.ins CE dx [])) x (.ins CE dx [("bits",.int (b:Nat))])) x (.edl b):=
 ⟨λb o hb=>by rw[qi (qr hb hx),qi (qr hb hx),qi (qr hb hd)];exact hb,dx,qe⟩
theorem RM:qp ["self","other"] ["self","other"] (qj vw):=zdv
theorem WF.gEP(h:WF K mg)(B:QB mg)(T:Wk K mg):qo P w K mg base qJ 5 h.fEP h.dEP ["self","other"] (kF h.CN h.CE):=by
 refine h.eP.fn.okJ RM (λvs H Q E z=>?_) (λcdv A outer s H vs Q E hr z=>?_)
 ·obtain⟨a,o,b,v,rfl,_⟩:=z
  rfl
 ·obtain⟨a,o,b,v,rfl,ha,ho,hb,hv,q⟩:=z
  refine⟨_,qg (qE (jd (KU h (hr.mono (by decide)) (jv 1))) (qh (qt (J1 h.cE.mkr (h.gEI B T) hr (by rfl) h.cE.ns h.cE.bi .nil jG (qd ql qf)))) qv)
   (qh (qt (J1 h.cE.mkr (h.gEI B T) hr (by rfl) h.cE.ns h.cE.bi .nil jG (qd (qT h.hT (h.gT B) (hr.mono (by decide)) (by rfl) (qd (jD (jv 0) rfl) (qd (jD (jv 1) rfl) qf))) qf)))),?_⟩
  refine⟨_,rfl,o,v,rfl,ho,_,rfl,?_⟩
  cases v with
  | edl c=>
   refine Qj (λx dx hx hd hne=>⟨x,dx,0,rfl,by decide,by decide,qe,rfl,?_⟩)
   obtain⟨s1,i1⟩:=Vo (CN:=h.CN) (CE:=h.CE) (b:=0) hx hd hne
   exact q _ _ s1 i1
  | num n=>
   obtain⟨dx0,e0⟩:=id ha
   obtain⟨dx1,e1⟩:=id ho
   refine jh ⟨_,rfl,a,h.CE,dx0,_,_,rfl,e0,h.cE.cl,h.cE.na,MY,_,rfl,o,h.CN,dx1,_,_,rfl,e1,h.cN.cl,h.cN.na,MY,b,n,rfl,hb,hv,λH1 s1 x dx hx hd hne=>?_⟩
   have lt:=ko (k:=4) (b:=b) (tu _) hv
   refine⟨x,dx,_,rfl,by omega,?_,qe,rfl,?_⟩
   ·have:turnN b n 16 < 65536:=lt
    omega
   ·obtain⟨s2,i2⟩:=Vo (CN:=h.CN) (CE:=h.CE) (b:=turnN b n 16) hx hd hne
    exact q _ _ (s1.trans s2) i2
theorem RH:qp ["self","other"] ["self","other"] (qj vq):=zdv
theorem WF.gNP(h:WF K mg)(B:QB mg)(T:Wk K mg):qo P w K mg base qJ 6 h.fNP h.dNP ["self","other"] (kE h.CN h.CE):=by
 refine h.nP.fn.okJ RH (λvs H Q E z=>?_) (λcdv A outer s H vs Q E hr z=>?_)
 ·obtain⟨a,o,b,v,rfl,_⟩:=z
  rfl
 ·obtain⟨a,o,n,v,rfl,ha,ho,hn,hv,q⟩:=z
  refine⟨_,qg (qE (jd (KU h (hr.mono (by decide)) (jv 1))) (qh (qt (KS h.eP h.cE.cl (h.gEP B T) hr (jv 1) (qd (jv 0) qf)))) qv)
   (qh (qt (J1 h.cN.mkr (h.gNI B T) (hr.mono (by decide)) (by rfl) h.cN.ns h.cN.bi .nil jG (qd (qV uZ (jD (jv 0) rfl) (jD (jv 1) rfl)) qf)))),?_⟩
  refine⟨_,rfl,o,v,rfl,ho,_,rfl,?_⟩
  cases v with
  | edl c=>
   obtain⟨dx1,e1⟩:=id ho
   exact Qj ⟨_,rfl,o,dx1,_,rfl,e1,NL n6,_,rfl,o,a,c,.num n,rfl,ho,ha,hv,hn,λH' r s i=>q H' r s i⟩
  | num m=>
   obtain⟨dx0,e0⟩:=id ha
   obtain⟨dx1,e1⟩:=id ho
   refine jh ⟨_,rfl,a,h.CN,dx0,_,_,rfl,e0,h.cN.cl,h.cN.na,MY,_,rfl,o,h.CN,dx1,_,_,rfl,e1,h.cN.cl,h.cN.na,MY,_,_,rfl,rfl,λx dx hx hd hne=>?_⟩
   have lt:n^^^m < 16:=xor_lt (m:=4) hn hv
   refine⟨x,dx,((n^^^m:Nat):Int),by rw[<-bx];rfl,by omega,by omega,qe,rfl,?_⟩
   obtain⟨s2,i2⟩:=Vn (CN:=h.CN) (CE:=h.CE) (n:=n^^^m) hx hd hne
   exact q _ _ s2 i2
theorem Nb{CN CE a:Addr}{H:Hp}{u:W}{Q:VK}{t:TA}{σ:L2.St}(h:Za CN CE H a u)(hu:Yl u)(ht:t σ H λvs H2=>∃o v,vs=[.ref o]/\Za CN CE H2 a u/\Za CN CE H2 o v/\Yl v/\∀H' r,Same H2 H'->Za CN CE H' r (zF u v)->Q (.ref r) H')
  (mono:∀R R':List V->Hp->Prop,(∀vs H,R vs H->R' vs H)->t σ H R->t σ H R'):
  ∃a' dx fs,V.ref a=.ref a'/\fs.lookup (zdx "plus")=none/\((H a'=some (.ins CN dx fs)/\t σ H λvs H2=>kE CN CE (V.ref a::vs) H2 Q E0)\/(H a'=some (.ins CE dx fs)/\t σ H λvs H2=>kF CN CE (V.ref a::vs) H2 Q E0)):=by
 cases u with
 | num n=>
  obtain⟨dx,e⟩:=id h
  exact⟨a,dx,_,rfl,NL n5,.inl ⟨e,mono _ _ (λvs H2 ⟨o,v,e1,h1,h2,h3,h4⟩=>⟨a,o,n,v,by rw[e1],h1,h2,hu,h3,h4⟩) ht⟩⟩
 | edl b=>
  obtain⟨dx,e⟩:=id h
  exact⟨a,dx,_,rfl,NL n6,.inr ⟨e,mono _ _ (λvs H2 ⟨o,v,e1,h1,h2,h3,h4⟩=>⟨a,o,b,v,by rw[e1],h1,h2,hu,h3,h4⟩) ht⟩⟩
theorem NT{X:Cx}(h:WF X.K X.mg)(B:QB X.mg)(T:Wk X.K X.mg)(hr:qO 6 X.A){o e:Expr}{ta:TE}{t:TA}{apos pos:Pos}{pl:Sem Bool}(he:JE X o ta)(ha:JA X [e] t)(hst:starEach [e] X.env=(false,eval e X.env)::starEach [] X.env:=by rfl)
  (ht:eval (.Call (.Attribute o "plus" apos) [e] [] pos) X.env=(eval o X.env >>= λov=>standAt apos.atName >>= λ_=>holding [ov] (getMethod ov "plus" pl) >>= λr=>callWith pos r.1 r.2 (backTo pos (starEach [e] X.env)) (backToKw pos (keywordEach [] X.env))):=by rfl):
  JE X (.Call (.Attribute o "plus" apos) [e] [] pos) (λσ H Q=>ta σ H λx H1=>∃a u,x=.ref a/\Za h.CN h.CE H1 a u/\Yl u/\t σ H1 λvs H2=>∃o v,vs=[.ref o]/\Za h.CN h.CE H2 a u/\Za h.CN h.CE H2 o v/\Yl v/\∀H' r,Same H2 H'->Za h.CN h.CE H' r (zF u v)->Q (.ref r) H'):=
 Xa (KQ (yk he) h.cN.cl h.nP.me (h.gNP B T) hr h.nP.bi h.cE.cl h.eP.me (h.gEP B T) (hr.mono (by decide)) h.eP.bi (Du ha) hst rfl ht) λσ H Q q=>⟨_,q,λx H1 ⟨a,u,e,i,hu,q1⟩=>by
  subst e
  exact Nb (t:=aWk t) i hu ⟨_,q1,λvs H2 z=>z⟩ λR R' k ⟨G,g,z⟩=>⟨G,g,λvs H2 y=>k vs H2 (z vs H2 y)⟩⟩
def Wl(CN CE:Addr)(H:Hp)(as:List Addr)(ws:List W):Prop:=as.length=ws.length/\∀(i:Nat) (a:Addr) (u:W),as[i]?=some a->ws[i]?=some u->Za CN CE H a u
def kC(K:zdw)(CN CE:Addr):Sp:=λvs H Q _=>∃(l:Addr) (as:List Addr) (ws:List W),vs=[.ref l]/\SqL K H l (as.map V.ref)/\Wl CN CE H as ws/\(∀u∈ws,Yl u)/\∀H' r,Same H H'->Za CN CE H' r (JP ws)->Q (.ref r) H'
theorem YY:qp ["worths","total","worth"] ["worths"] (qj Xp):=zdv
theorem Vx{ws:List W}(h:∀u∈ws,Yl u)(i:Nat):Yl ((ws.take i).foldl zF (.num 0)):=by
 have h':∀u∈ws.take i,Yl u:=λu hu=>h u (zdf hu)
 rw[UO h']
 exact wG h'
theorem u8{f:Addr}{fd:zdA}(F:jw K "sum_of" "sum_of" Xp f fd)(h:WF K mg)(B:QB mg)(T:Wk K mg):qo P w K mg base qJ 7 f fd ["worths"] (kC K h.CN h.CE):=by
 refine F.okJ YY (λvs H Q E z=>?_) (λcdv A outer s H vs Q E hr z=>?_)
 ·obtain⟨l,as,ws,rfl,_⟩:=z
  rfl
 ·obtain⟨l,as,ws,rfl,hS,hW,hok,q⟩:=z
  refine⟨_,qg (qD (i:=1) YY.nd rfl (Or.inl rfl) (J1 h.cN.mkr (h.gNI B T) (hr.mono (by decide)) (by rfl) h.cN.ns h.cN.bi .nil jG (qd ql qf)))
   (qg (jC PassesOwn.never rfl (qL (jv 0)) (qx (i:=2) YY.nd rfl (Or.inl rfl)) (qh (qD (i:=1) YY.nd rfl (Or.inl rfl) (NT h B T hr (jv 1) (qd (jv 2) qf)))))
   (qh (qt (jv 1)))),?_⟩
  intro x dx hx hd hne
  refine⟨x,dx,0,rfl,by decide,by decide,qe,rfl,?_⟩
  obtain⟨s1,i1⟩:=Vn (CN:=h.CN) (CE:=h.CE) (n:=0) hx hd hne
  refine⟨_,rfl,l,rfl,⟨_,s1.seq hS⟩,?_⟩
  refine jk (K:=K) (a:=l) (xs:=as.map V.ref) (λi σ H'=>∃r v,σ=[some (.ref l),some (.ref r),v]/\Same H H'/\Za h.CN h.CE H' r ((ws.take i).foldl zF (.num 0))) ⟨x,none,rfl,s1,i1⟩ (λi σ H' _ ⟨_,_,_,e,_⟩=>e.seq hS) ?_ ?_
  ·rintro i y σ H' hy ⟨r,v,rfl,s2,i2⟩
   rw[tZ]at hy
   cases ea:as[i]? with
   | none=>rw[ea]at hy;cases hy
   | some o=>
    rw[ea]at hy
    obtain rfl:=(tX.inj hy).symm
    have hi:i < ws.length:=by
     have:=(tq.mp ea).1
     rw[hW.1]at this
     exact this
    have ew:ws[i]?=some ws[i]:=tW hi
    have io:=(hW.2 i o _ ea ew).same s2
    have et:ws.take (i+1)=ws.take i++[ws[i]]:=by rw[tO,ew];rfl
    refine⟨_,rfl,r,_,rfl,i2,Vx hok i,_,rfl,o,_,rfl,i2,io,hok _ (zaT hi),λH3 r3 s3 i3=>?_⟩
    refine⟨r3,_,rfl,s2.trans s3,?_⟩
    rw[et,zcb]
    exact i3
  ·rintro σ H' ⟨r,v,rfl,s2,i2⟩
   refine⟨_,rfl,q _ _ s2 ?_⟩
   rw[tj,hW.1,tI (tu _),UO hok]at i2
   exact i2
def vC:W->Str
 | .num n=>if n=0 then "lost" else "won"
 | .edl b=>if b.testBit 0=true then "won" else "drawn"
def w6(CN CE:Addr):Sp:=λvs H Q _=>∃a n,vs=[.ref a]/\Za CN CE H a (.num n)/\Q (.str (vC (.num n))) H
def w9(CN CE:Addr):Sp:=λvs H Q _=>∃a b,vs=[.ref a]/\Za CN CE H a (.edl b)/\b < 65536/\∀H',Same H H'->Q (.str (vC (.edl b))) H'
theorem Az:qp ["self"] ["self"] (qj uz):=zdv
theorem AF:qp ["self"] ["self"] (qj uF):=zdv
theorem WF.gNO(h:WF K mg):qo P w K mg base qJ 1 h.fNO h.dNO ["self"] (w6 h.CN h.CE):=by
 refine h.nO.fn.okJ Az (λvs H Q E z=>?_) (λcdv A outer s H vs Q E hr z=>?_)
 ·obtain⟨a,n,rfl,_⟩:=z
  rfl
 ·obtain⟨a,n,rfl,⟨dx,e⟩,q⟩:=z
  refine⟨_,qg (qE (qA jY (jD (jv 0) rfl) ql (qC _)) (qh (qt qk)) qv) (qh (qt qk)),?_⟩
  refine⟨_,rfl,a,h.CN,dx,_,_,rfl,e,h.cN.cl,h.cN.na,MY,rfl,_,rfl,?_⟩
  have q:Q (.str (if n=0 then "lost" else "won")) H:=q
  by_cases c:n=0
  ·subst c
   rw[if_pos rfl]at q
   exact qW (by decide) q
  ·rw[if_neg c]at q
   exact qH (decide_eq_false λz=>c (by have:=V.int.inj z;omega)) q
theorem WF.gEO(h:WF K mg)(B:QB mg):qo P w K mg base qJ 2 h.fEO h.dEO ["self"] (w9 h.CN h.CE):=by
 have GN:qo P w K mg base qJ 1 h.fN h.dN ["bits"] YX:=XD h.hN.fn B
 refine h.eO.fn.okJ AF (λvs H Q E z=>?_) (λcdv A outer s H vs Q E hr z=>?_)
 ·obtain⟨a,b,rfl,_⟩:=z
  rfl
 ·obtain⟨a,b,rfl,⟨dx,e⟩,hb,q⟩:=z
  refine⟨_,qg (qE (qA JB ql (qT h.hN GN hr (by rfl) (qd (jD (jv 0) rfl) qf)) (by with_unfolding_all rfl)) (qh (qt qk)) qv) (qh (qt qk)),?_⟩
  refine⟨_,rfl,a,h.CE,dx,_,_,rfl,e,h.cE.cl,h.cE.na,MY,b,rfl,hb,λl hl=>?_⟩
  refine⟨l,_,rfl,.inl (.of qe),rfl,UK _,_,rfl,?_⟩
  have e0:Yu (.int ((0:Nat):Int)) (Yv (memN b 16))=b.testBit 0:=by
   rw[K5]
   unfold memN
   rw[zaW,decide_eq_true_iff,zaw]
   exact⟨λh=>h.2,λh=>⟨by decide,h⟩⟩
  have q:=q _ (qm (o:=HO.lst (Yv (memN b 16))) hl)
  have q:Q (.str (if b.testBit 0=true then "won" else "drawn")) (upd H l (HO.lst (Yv (memN b 16)))):=q
  show if Yu (.int ((0:Nat):Int)) (Yv (memN b 16))=true then _ else _
  rw[e0]
  cases c:b.testBit 0 with
  | true=>rw[if_pos c]at q;exact Qj q
  | false=>rw[if_neg (by rw[c];exact tS)]at q;exact jh q
theorem n7:((zdx "outcome")==(zdx "number"))=false:=by decide+kernel
theorem n8:((zdx "outcome")==(zdx "bits"))=false:=by decide+kernel
theorem Nf{CN CE a:Addr}{H:Hp}{w:W}{Q:VK}(h:Za CN CE H a w)(ok:Yl w)(q:∀H',Same H H'->Q (.str (vC w)) H'):
  ∃a' dx fs,V.ref a=.ref a'/\fs.lookup (zdx "outcome")=none/\((H a'=some (.ins CN dx fs)/\w6 CN CE [V.ref a] H Q E0)\/(H a'=some (.ins CE dx fs)/\w9 CN CE [V.ref a] H Q E0)):=by
 cases w with
 | num n=>obtain⟨dx,e⟩:=id h;exact⟨a,dx,_,rfl,NL n7,.inl ⟨e,a,n,rfl,h,q H λ_ _ z=>z⟩⟩
 | edl b=>obtain⟨dx,e⟩:=id h;exact⟨a,dx,_,rfl,NL n8,.inr ⟨e,a,b,rfl,h,ok,q⟩⟩
theorem NU{X:Cx}(h:WF X.K X.mg)(B:QB X.mg)(hr:qO 2 X.A){o:Expr}{ta:TE}{apos pos:Pos}{pl:Sem Bool}(he:JE X o ta)
  (ht:eval (.Call (.Attribute o "outcome" apos) [] [] pos) X.env=(eval o X.env >>= λov=>standAt apos.atName >>= λ_=>holding [ov] (getMethod ov "outcome" pl) >>= λr=>callWith pos r.1 r.2 (backTo pos (starEach [] X.env)) (backToKw pos (keywordEach [] X.env))):=by rfl):
  JE X (.Call (.Attribute o "outcome" apos) [] [] pos) (λσ H Q=>ta σ H λx H1=>∃a u,x=.ref a/\Za h.CN h.CE H1 a u/\Yl u/\∀H',Same H1 H'->Q (.str (vC u)) H'):=
 Xa (Yt (yk he) h.cN.cl h.nO.me h.gNO (hr.mono (by decide)) h.nO.bi h.cE.cl h.eO.me (h.gEO B) hr h.eO.bi ht) λσ H Q q=>⟨_,q,λx H1 ⟨a,u,e,i,k,q1⟩=>by subst e;exact Nf i k q1⟩
end
open PySem L2 PyProof.Rows MLab Rb
abbrev Jb:Stmt:=top 34
abbrev Yf:Stmt:=top 37
abbrev B6:Stmt:=top 58
abbrev RS:Stmt:=top 63
abbrev DX:Stmt:=top 66
abbrev Ue:Stmt:=top 67
structure Zb(H:Hp)(h:Addr)(rs:jt)(hs:List Str):Prop where
 at_:H h=some (.lst (hs.map V.str))
 le:hs.length<=8
 in_:∀z∈hs,∃r∈rs,r.1=z
theorem Zb.mono{H H':Hp}{h:Addr}{rs:jt}{hs:List Str}(x:Zb H h rs hs)(s:Same H H'):Zb H' h rs hs:=⟨s _ _ x.at_,x.le,x.in_⟩
def W4(CG:Addr):Sp:=λvs H Q _=>∃(g:Addr) (rs:jt) (z:Str),vs=[.ref g,.str z]/\jP CG H g rs/\(∃r∈rs,r.1=z)/\∀H',Same H H'->Q .non H'
def kI(CG:Addr):Sp:=λvs H Q _=>∃(g h:Addr) (rs:jt) (hs:List Str),vs=[.ref g,.ref h]/\jP CG H g rs/\Zb H h rs hs/\∀H',Same H H'->Q .non H'
def Zl(rs:jt)(z:Str):List Str:=match rs.find? (λr=>decide (r.1=z)) with
 | some r=>r.2
 | none=>[]
theorem KB{rs:jt}{r:Str×List Str}(hn:(rs.map (·.1)).Nodup)(h:r∈rs):Zl rs r.1=r.2:=by
 unfold Zl
 rw[XT hn h]
theorem jS{rs:jt}(g:qF rs){z y:Str}(hz:z∈rs.map (·.1)):y∈Zl rs z↔y∈Zm rs z:=by
 obtain⟨r,hr,rfl⟩:=tQ.mp hz
 rw[KB g.nd hr,yr g hr]
theorem E3{rs:jt}(g:qF rs){num:Str->Option Nat}{stp:Str->Nat}(L:VJ (Zm rs) (·∈rs.map (·.1)) num stp):VJ (Zl rs) (·∈rs.map (·.1)) num stp where
 cl:=λ{x y} hx hy=>L.cl hx ((jS g hx).mp hy)
 n1:=λ{x n m} hx e lt=>let ⟨y,hy,k⟩:=L.n1 hx e lt;⟨y,(jS g hx).mpr hy,k⟩
 n2:=λ{x y n} hx e hy=>L.n2 hx e ((jS g hx).mp hy)
 n3:=λ{x y n} hx e hy gt=>let ⟨z,hz,k⟩:=L.n3 hx e ((jS g hx).mp hy) gt;⟨z,(jS g (L.cl hx ((jS g hx).mp hy))).mpr hz,k⟩
 n4:=λ{x y n m} hx e hy=>L.n4 hx e ((jS g hx).mp hy)
 e:=λ{x m} hx e lo hi=>by
  obtain⟨y,hy,ey,ly⟩:=L.e hx e (λj hj=>let ⟨y,hy,k⟩:=lo j hj;⟨y,(jS g hx).mp hy,k⟩) (λy hy=>hi y ((jS g hx).mpr hy))
  exact⟨y,(jS g hx).mpr hy,ey,λz hz=>ly z ((jS g (L.cl hx hy)).mp hz)⟩
section
variable{P:Program}{w:World}{K:zdw}{mg:Str->Option Value}{base:Heap}
abbrev UA:List Str:=["ground","thing"]
theorem CS:qp UA UA (qj Jb):=zdv
theorem Uw{f CG:Addr}{fd:zdA}(F:jw K "need_place" "need_place" Jb f fd)(G:Qm mg)(M:GM K mg CG):qo P w K mg base qJ 2 f fd UA (W4 CG):=by
 obtain⟨fC,fdC,C⟩:=M.cls
 obtain⟨fN,fdN,hN⟩:=M.nm
 have GN:qo P w K mg base qJ 1 fN fdN ["self"] (Jv CG):=JD hN.fn C G
 refine F.okJ CS (λvs H Q E h=>?_) (λcdv A outer s H vs Q E hr h=>?_)
 ·obtain⟨g,rs,z,rfl,_⟩:=h
  rfl
 ·obtain⟨g,rs,z,rfl,gr,hz,q⟩:=h
  refine⟨_,qh (qE (qA Q2 (jv 1) (WH hN C.cl GN hr (jv 0)) (by with_unfolding_all rfl)) qI qv),?_⟩
  obtain⟨dx,fs,hg,l1,l2⟩:=gr.ins
  refine⟨_,rfl,_,rfl,g,dx,fs,rfl,hg,l1,g,rs,rfl,gr,λl hl=>⟨l,_,rfl,.inl (.of qe),rfl,Q9 _,_,rfl,?_⟩⟩
  have e:Yu (.str z) ((rs.map (·.1)).map V.str)=true:=J4 (by obtain⟨r,hr',rfl⟩:=hz;exact tQ.mpr ⟨r,hr',rfl⟩)
  show if (!Yu (.str z) ((rs.map (·.1)).map V.str))=true then _ else _
  rw[e]
  exact jh (q _ (qm hl))
abbrev nNH:List Str:=["ground","heap","thing"]
theorem RJ:qp nNH ["ground","heap"] (qj Yf):=zdv
theorem Kf{f fP CG:Addr}{fd fdP:zdA}(F:jw K "need_heap" "need_heap" Yf f fd)(B:QB mg)(G:Qm mg)(T:j9 K mg)(M:GM K mg CG)(hP:qZ K mg "need_place" Jb UA fP fdP)(mt:∃t,mg "MOST_TOKENS"=some (.int 8 t)):qo P w K mg base qJ 3 f fd ["ground","heap"] (kI CG):=by
 have GP:qo P w K mg base qJ 2 fP fdP UA (W4 CG):=Uw hP.fn G M
 obtain⟨tk,hmt⟩:=mt
 refine F.okJ RJ (λvs H Q E h=>?_) (λcdv A outer s H vs Q E hr h=>?_)
 ·obtain⟨g,h',rs,hs,rfl,_⟩:=h
  rfl
 ·obtain⟨g,h',rs,hs,rfl,gr,hh,q⟩:=h
  refine⟨_,qg (qE (jy (jd (qu qX (by rfl) T.isi boot_isinstance (qd (jv 1) (qd (jR (v:=.ty "list") (by rfl) G.lst boot_list rfl) qf))))) qI qv)
   (qg (qE (qA Zy (qu qB (by rfl) B.len boot_len (qd (jv 1) qf)) (qM (v:=.int 8) (by rfl) hmt ⟨_,rfl⟩) (qC _)) qI qv)
   (qh (jC PassesOwn.never rfl (qL (jv 1)) (qx (i:=2) RJ.nd rfl (Or.inl rfl)) (qh (jf (qT hP GP hr (by rfl) (qd (jv 0) (qd (jv 2) qf)))))))),?_⟩
  refine⟨_,rfl,_,_,_,_,rfl,rfl,.lst hh.at_,T.kll,_,rfl,jh ?_⟩
  refine⟨_,rfl,h',_,rfl,.inl (.of hh.at_),_,_,rfl,rfl,_,rfl,qH (decide_eq_false ?_) ?_⟩
  ·have:=hh.le
   rw[tj]
   omega
  refine⟨_,rfl,h',rfl,⟨_,.of hh.at_⟩,?_⟩
  refine jk (K:=K) (a:=h') (xs:=hs.map V.str) (λi σ' G=>∃v,σ'=[some (.ref g),some (.ref h'),v]/\Same H G) ⟨_,rfl,Same.refl H⟩ (λi σ' G _ ⟨_,_,s⟩=>.of (s _ _ hh.at_)) ?_ ?_
  ·rintro i y σ' G hy ⟨v,rfl,sG⟩
   obtain⟨z,ez,hz,rfl⟩:=Qg hy
   exact⟨_,rfl,_,rfl,g,rs,z,rfl,gr.mono sG,hh.in_ z hz,λH' s'=>⟨_,rfl,sG.trans s'⟩⟩
  ·rintro σ' G ⟨v,rfl,sG⟩
   exact q G sG
end
def wT(rs:jt)(R:Rs Str)(z:Str):W:=match q0 R z with
 | some n=>.num n
 | none=>.edl (setN (YO rs (q0 R) z))
theorem WZ{rs:jt}{R:Rs Str}{z:Str}{n:Nat}(e:q0 R z=some n):wT rs R z=.num n:=by unfold wT;rw[e]
theorem Xh{rs:jt}{R:Rs Str}{z:Str}(e:q0 R z=none):wT rs R z=.edl (setN (YO rs (q0 R) z)):=by unfold wT;rw[e]
theorem ki{rs:jt}(good:qF rs){R:Rs Str}(L:VJ (Zm rs) (·∈rs.map (·.1)) (q0 R) (ze R)){z:Str}(hz:z∈rs.map (·.1)):Yl (wT rs R z):=by
 cases e:q0 R z with
 | some n=>
  rw[WZ e]
  have:=Vl good L hz e
  show n < 16
  omega
 | none=>
  rw[Xh e]
  show setN _ < 65536
  refine kN (m:=16) λx hx=>?_
  obtain⟨y,hy,ey⟩:=QS.mp hx
  have:=Vl good L (L.cl hz hy) ey
  omega
theorem Yz(ns:List Nat):Qy ns=j8 ns:=by
 induction ns with
 | nil=>rfl
 | cons n ns ih=>rw[YA,ih,ZN]
theorem Wz{rs:jt}{R:Rs Str}:∀hs:List Str,Zg (hs.map (wT rs R))=Qi (q0 R) hs
 | []=>rfl
 | z::hs=>by
  unfold Zg Qi
  rw[tL,zav,zav]
  have ih:=Wz (rs:=rs) (R:=R) hs
  unfold Zg Qi at ih
  cases e:q0 R z with
  | some n=>rw[WZ e,ih]
  | none=>rw[Xh e,ih]
theorem z9{rs:jt}{R:Rs Str}:∀hs:List Str,(Jm (hs.map (wT rs R))).length=QQ (q0 R) hs
 | []=>rfl
 | z::hs=>by
  unfold Jm QQ
  rw[tL,zav,zbx]
  have ih:=z9 (rs:=rs) (R:=R) hs
  unfold Jm QQ at ih
  cases e:q0 R z with
  | some n=>rw[WZ e];exact ih
  | none=>rw[Xh e];show _+1=_+1;rw[ih]
theorem xa{rs:jt}{R:Rs Str}{p q:List Str}{x:Str}(ex:q0 R x=none)(he:QQ (q0 R) (p++q)=0):Jm ((p++x::q).map (wT rs R))=[setN (YO rs (q0 R) x)]:=by
 have h1:Jm ((p++q).map (wT rs R))=[]:=zaQ (by rw[z9];exact he)
 unfold Jm at h1 ⊢
 rw[tH,zaz,List.append_eq_nil_iff]at h1
 rw[tH,tL,zaz,zav,Xh ex,h1.1,h1.2]
 rfl
theorem AN{rs:jt}(good:qF rs){R:Rs Str}(L:VJ (Zm rs) (·∈rs.map (·.1)) (q0 R) (ze R)){hs:List Str}(hk:∀z∈hs,z∈rs.map (·.1)):
  (zT (mv (Zl rs)) hs/\vC (JP (hs.map (wT rs R)))="lost")\/(Won (mv (Zl rs)) hs/\vC (JP (hs.map (wT rs R)))="won")\/(¬zT (mv (Zl rs)) hs/\¬Won (mv (Zl rs)) hs/\vC (JP (hs.map (wT rs R)))="drawn"):=by
 have LL:=E3 good L
 have hl:=z9 (rs:=rs) (R:=R) hs
 have en:Qy (Zg (hs.map (wT rs R)))=j8 (Qi (q0 R) hs):=by rw[Wz,Yz]
 rw[UE LL hk,Rj LL hk]
 rcases zaJ (QQ (q0 R) hs) 1 with c | c | c
 ·have he:QQ (q0 R) hs=0:=by omega
  rw[he]at hl
  have e0:Jm (hs.map (wT rs R))=[]:=zaQ hl
  have et:JP (hs.map (wT rs R))=.num (j8 (Qi (q0 R) hs)):=by unfold JP;rw[e0,<-en]
  have nd:¬Drawn (Zl rs) (q0 R) hs:=by
   rintro(⟨p,x,q,rfl,ex,_⟩ | h)
   ·rw[j5 ex]at he;omega
   ·omega
  rw[et]
  by_cases x0:j8 (Qi (q0 R) hs)=0
  ·exact .inl ⟨⟨he,x0⟩,if_pos x0⟩
  ·exact .inr (.inl ⟨⟨nd,λz=>x0 z.2⟩,if_neg x0⟩)
 ·obtain⟨p,x,q,rfl,ex⟩:=ZH.mp (by omega:0 < QQ (q0 R) hs)
  rw[j5 ex]at c
  have he:QQ (q0 R) (p++q)=0:=by omega
  have hx:x∈rs.map (·.1):=hk x (by simp)
  have lt:j8 (Qi (q0 R) (p++x::q)) < 16:=by
   rw[<-Yz]
   refine zV λn hn=>?_
   obtain⟨z,hz,ez⟩:=zaR.mp hn
   have:=Vl good L (hk z hz) ez
   omega
  have et:JP ((p++x::q).map (wT rs R))=.edl (turnN (setN (YO rs (q0 R) x)) (j8 (Qi (q0 R) (p++x::q))) 16):=by
   unfold JP
   rw[xa ex he,<-en]
  have nz:¬YS (q0 R) (p++x::q):=λz=>by have:=z.1;rw[j5 ex]at this;omega
  have eb:(turnN (setN (YO rs (q0 R) x)) (j8 (Qi (q0 R) (p++x::q))) 16).testBit 0=decide (j8 (Qi (q0 R) (p++q))∈YO rs (q0 R) x):=by
   rw[Q1 lt,zcs,JQ,XE ex]
   simp
  rw[et]
  by_cases m:j8 (Qi (q0 R) (p++q))∈YO rs (q0 R) x
  ·refine .inr (.inl ⟨⟨?_,nz⟩,?_⟩)
   ·obtain⟨y,hy,ey⟩:=QS.mp m
    have ly:y∈Zl rs x:=(jS good hx).mpr hy
    intro d
    have zb:YS (q0 R) (p++y::q):=⟨by rw[jO ey];exact he,by rw[Qo ey,zbJ]⟩
    exact XV d ((Qa _).mpr ⟨p,x,y,q,rfl,ly,rfl⟩) zb
   ·show (if _ then _ else _)=_
    rw[eb,if_pos (decide_eq_true m)]
  ·have d:Drawn (Zl rs) (q0 R) (p++x::q):=.inl ⟨p,x,q,rfl,ex,he,λy hy ey=>m (QS.mpr ⟨y,(jS good hx).mp hy,ey⟩)⟩
   refine .inr (.inr ⟨nz,λh=>h.1 d,?_⟩)
   show (if _ then _ else _)=_
   rw[eb,decide_eq_false m]
   rfl
 ·have d:Drawn (Zl rs) (q0 R) hs:=.inr (by omega)
  have nz:¬YS (q0 R) hs:=λz=>by have:=z.1;omega
  have et:JP (hs.map (wT rs R))=.edl 0:=by
   unfold JP
   cases e:Jm (hs.map (wT rs R)) with
   | nil=>rw[e]at hl;simp at hl;omega
   | cons a t=>
    cases t with
    | nil=>rw[e]at hl;simp at hl;omega
    | cons b t=>rfl
  rw[et]
  exact .inr (.inr ⟨nz,λh=>h.1 d,rfl⟩)
def Rz(CN CE:Addr):Sp:=λvs H Q _=>∃(t:Addr) (rs:jt) (R:Rs Str) (z:Str),vs=[.ref t]/\H t=some (.tup (Yo rs R z))/\Yl (wT rs R z)/\∀a H',Same H H'->Za CN CE H' a (wT rs R z)->Q (.ref a) H'
def Mx(CN CE:Addr):Sp:=λvs H Q _=>∃(D h:Addr) (rs:jt) (R:Rs Str) (hs:List Str),vs=[.ref D,.ref h]/\X5 H D rs R/\Zb H h rs hs/\(∀z∈hs,Yl (wT rs R z))/\∀a H',Same H H'->Za CN CE H' a (JP (hs.map (wT rs R)))->Q (.ref a) H'
def CA(CG CN CE:Addr):Sp:=λvs H Q _=>∃(g h:Addr) (rs:jt) (hs:List Str),vs=[.ref g,.ref h]/\jP CG H g rs/\qF rs/\rs.length<=14/\Zb H h rs hs/\
 ∀a H' R,Same H H'->All (Zm rs) (rs.map (·.1)) 0 [] R->Za CN CE H' a (JP (hs.map (wT rs R)))->Q (.ref a) H'
def w5(CG:Addr):Sp:=λvs H Q _=>∃(g h:Addr) (rs:jt) (hs:List Str),vs=[.ref g,.ref h]/\jP CG H g rs/\qF rs/\rs.length<=14/\Zb H h rs hs/\
 ∀H' z,Same H H'->((zT (mv (Zl rs)) hs/\z=zdx "lost")\/(Won (mv (Zl rs)) hs/\z=zdx "won")\/(¬zT (mv (Zl rs)) hs/\¬Won (mv (Zl rs)) hs/\z=zdx "drawn"))->Q (.str z) H'
section
variable{P:Program}{w:World}{K:zdw}{mg:Str->Option Value}{base:Heap}
theorem El:qp ["label"] ["label"] (qj B6):=zdv
theorem MW{f:Addr}{fd:zdA}(F:jw K "label_worth" "label_worth" B6 f fd)(h:WF K mg)(B:QB mg)(T:Wk K mg):qo P w K mg base qJ 5 f fd ["label"] (Rz h.CN h.CE):=by
 refine F.okJ El (λvs H Q E z=>?_) (λcdv A outer s H vs Q E hr z=>?_)
 ·obtain⟨t,rs,R,z,rfl,_⟩:=z
  rfl
 ·obtain⟨t,rs,R,z,rfl,ht,ok,q⟩:=z
  refine⟨_,qg (qE (qA jY (qQ jI (jv 0) ql (λ_ _=>rfl)) qk (qC _)) (qh (qt (J1 h.cN.mkr (h.gNI B T) hr (by rfl) h.cN.ns h.cN.bi .nil jG (qd (qQ jI (jv 0) ql (λ_ _=>rfl)) qf)))) qv)
   (qh (qt (J1 h.cE.mkr (h.gEI B T) hr (by rfl) h.cE.ns h.cE.bi .nil jG (qd (qQ jI (jv 0) ql (λ_ _=>rfl)) qf)))),?_⟩
  cases e:q0 R z with
  | some n=>
   rw[WZ e]at ok q
   have el:Yo rs R z=[.str "number",.int (n:Nat),.int (ze R z:Nat)]:=by unfold Yo;rw[e]
   rw[el]at ht
   refine⟨_,rfl,t,_,0,_,rfl,rfl,.of ht,rfl,rfl,_,rfl,qW (by decide+kernel) ?_⟩
   refine⟨_,rfl,t,_,1,_,rfl,rfl,.of ht,rfl,λx dx hx hd hne=>⟨x,dx,_,rfl,by omega,?_,qe,rfl,?_⟩⟩
   ·have:n < 16:=ok
    omega
   ·obtain⟨s1,i1⟩:=Vn (CN:=h.CN) (CE:=h.CE) (n:=n) hx hd hne
    exact q _ _ s1 i1
  | none=>
   rw[Xh e]at ok q
   have el:Yo rs R z=[.str "endless",.int (setN (YO rs (q0 R) z):Nat)]:=by unfold Yo;rw[e]
   rw[el]at ht
   refine⟨_,rfl,t,_,0,_,rfl,rfl,.of ht,rfl,rfl,_,rfl,qH (by decide+kernel) ?_⟩
   refine⟨_,rfl,t,_,1,_,rfl,rfl,.of ht,rfl,λx dx hx hd hne=>⟨x,dx,_,rfl,by omega,?_,qe,rfl,?_⟩⟩
   ·have:setN (YO rs (q0 R) z) < 65536:=ok
    omega
   ·obtain⟨s1,i1⟩:=Vo (CN:=h.CN) (CE:=h.CE) (b:=setN (YO rs (q0 R) z)) hx hd hne
    exact q _ _ s1 i1
theorem CM:qp ["labels","heap"] ["labels","heap"] (qj RS):=zdv
theorem A0{f fL fS:Addr}{fd fdL fdS:zdA}(F:jw K "worth_by" "worth_by" RS f fd)(h:WF K mg)(B:QB mg)(T:Wk K mg)(hL:qZ K mg "label_worth" B6 ["label"] fL fdL)(hS:qZ K mg "sum_of" Xp ["worths"] fS fdS):qo P w K mg base qJ 8 f fd ["labels","heap"] (Mx h.CN h.CE):=by
 have GL:qo P w K mg base qJ 5 fL fdL ["label"] (Rz h.CN h.CE):=MW hL.fn h B T
 have GS:qo P w K mg base qJ 7 fS fdS ["worths"] (kC K h.CN h.CE):=u8 hS.fn h B T
 refine F.okJ CM (λvs H Q E z=>?_) (λcdv A outer s H vs Q E hr z=>?_)
 ·obtain⟨D,h',rs,R,hs,rfl,_⟩:=z
  rfl
 ·obtain⟨D,h',rs,R,hs,rfl,lb,hh,ok,q⟩:=z
  have hu:=Qp hr
  have r4:qO 5 _:=hr.mono (by decide)
  refine⟨_,qh (qt (qT hS GS hr (by rfl) (qd (Ql (N':=["place","labels"]) (ix:=[none,some 0]) (te:=QY (Rz h.CN h.CE) [] E0 (jg (wP (qS 1) (qS 0)) Qf)) rfl ⟨rfl,rfl,rfl,rfl,rfl⟩ (qL (jv 1)) (λC s2 H2 fp pins=>
    ⟨qx (i:=0) (show (["place","labels"]:List Str).Nodup by decide+kernel) rfl (Or.inl rfl),jr,qT hL GL r4 (by rfl) (qd (jN hu (jv 1) (jv 0) (λ_ _=>rfl)) qf)⟩)) qf))),?_⟩
  refine⟨_,rfl,h',rfl,⟨_,.of hh.at_⟩,λW hW=>?_⟩
  refine Qe (K:=K) (a:=h') (xs:=hs.map V.str) (λj σ'' G=>∃(v0:Option V) (as:List Addr),σ''=[v0,some (.ref D)]/\Same H G/\G W=some (.lst (as.map V.ref))/\Wl h.CN h.CE G as ((hs.take j).map (wT rs R)))
   ⟨none,[],rfl,qm hW,qe,rfl,λi a u e=>(nomatch e)⟩ (λj σ'' G _ ⟨_,_,_,s,_⟩=>.of (s _ _ hh.at_)) ?_ ?_
  ·rintro j y σ'' G hy ⟨v0,as,rfl,sG,hG,wl⟩
   obtain⟨z,ez,hz,rfl⟩:=Qg hy
   obtain⟨kvs,hD,_,hv⟩:=(lb.mono sG).at_
   obtain⟨r,hr',er⟩:=hh.in_ z hz
   obtain⟨t,et,ht⟩:=hv r hr'
   rw[er]at et ht
   refine⟨_,rfl,_,rfl,D,_,rfl,by rw[<-et];exact jU.k (k:=(Sum.inr z:qG)) hD,t,rs,R,z,rfl,ht,ok z hz,λa G1 s1 ia=>?_⟩
   have l8:=hh.le
   have lw:=wl.1
   rw[tj,zag]at lw
   have nW:H W=none:=hW
   refine⟨_,s1 _ _ hG,by rw[tj];exact qy (by omega),_,as++[a],rfl,Same.upd (sG.trans s1) hW,by rw[tH];exact qe,?_⟩
   have up:∀{b:Addr} {u:Rb.W},Za h.CN h.CE G1 b u->Za h.CN h.CE (upd G1 W (.lst (as.map V.ref++[V.ref a]))) b u:=λ{b u} hb=>by
    have hW1:=s1 _ _ hG
    cases u with
    | num n=>obtain⟨dx,e⟩:=hb;exact⟨dx,by rw[qi (λq=>by rw[q,hW1]at e;cases e)];exact e⟩
    | edl n=>obtain⟨dx,e⟩:=hb;exact⟨dx,by rw[qi (λq=>by rw[q,hW1]at e;cases e)];exact e⟩
   rw[tO,ez,tH]
   refine⟨by rw[tR,tR,wl.1];rfl,λi b u e1 e2=>?_⟩
   rcases ZP e1 with ⟨i1,e1⟩ | ⟨i1,rfl⟩
   ·rcases ZP (show (List.map (wT rs R) (hs.take j)++[wT rs R z])[i]?=some u from e2) with ⟨_,e2⟩ | ⟨i2,_⟩
    ·exact up ((wl.2 i b u e1 e2).same s1)
    ·have:=wl.1;omega
   ·rcases ZP (show (List.map (wT rs R) (hs.take j)++[wT rs R z])[i]?=some u from e2) with ⟨i2,_⟩ | ⟨_,rfl⟩
    ·have:=wl.1;omega
    ·exact up ia
  ·rintro σ'' G ⟨v0,as,rfl,sG,hG,wl⟩
   rw[tj,tI (tu _)]at wl
   refine⟨W,as,_,rfl,.of hG,wl,λu hu=>?_,λH' r s' i'=>q r H' (sG.trans s') i'⟩
   obtain⟨z,hz,rfl⟩:=tQ.mp hu
   exact ok z hz
structure Mm(K:zdw)(mg:Str->Option Value):Prop where
 place:∃f fd,qZ K mg "need_place" Jb UA f fd
 heap:∃f fd,qZ K mg "need_heap" Yf ["ground","heap"] f fd
 lw:∃f fd,qZ K mg "label_worth" B6 ["label"] f fd
 sum:∃f fd,qZ K mg "sum_of" Xp ["worths"] f fd
 wby:∃f fd,qZ K mg "worth_by" RS ["labels","heap"] f fd
 hw:∃f fd,qZ K mg "heap_worth" DX ["ground","heap"] f fd
 outc:∃f fd,qZ K mg "outcome" Ue ["ground","heap"] f fd
 most:∃t,mg "MOST_TOKENS"=some (.int 8 t)
theorem Em:qp ["ground","heap"] ["ground","heap"] (qj DX):=zdv
theorem De{f CG:Addr}{fd:zdA}(F:jw K "heap_worth" "heap_worth" DX f fd)(h:WF K mg)(B:QB mg)(Z:Wk K mg)(G:Qm mg)(T:j9 K mg)(M:GM K mg CG)(Y:wz K mg)(O:Mm K mg):qo P w K mg base qJ 9 f fd ["ground","heap"] (CA CG h.CN h.CE):=by
 obtain⟨fP,fdP,hP⟩:=O.place
 obtain⟨fH,fdH,hH⟩:=O.heap
 obtain⟨fL,fdL,hL⟩:=O.lw
 obtain⟨fS,fdS,hS⟩:=O.sum
 obtain⟨fW,fdW,hW⟩:=O.wby
 obtain⟨fB,fdB,hB⟩:=Y.labels
 have GH:qo P w K mg base qJ 3 fH fdH ["ground","heap"] (kI CG):=Kf hH.fn B G T M hP O.most
 have GW:qo P w K mg base qJ 8 fW fdW ["labels","heap"] (Mx h.CN h.CE):=A0 hW.fn h B Z hL hS
 have GB:qo P w K mg base qJ 8 fB fdB ["ground"] (Xl CG):=Wy hB.fn B G T M Y
 refine F.okJ Em (λvs H Q E z=>?_) (λcdv A outer s H vs Q E hr z=>?_)
 ·obtain⟨g,h',rs,hs,rfl,_⟩:=z
  rfl
 ·obtain⟨g,h',rs,hs,rfl,gr,good,le,hh,q⟩:=z
  refine⟨_,qg (jf (qT hH GH (hr.mono (by decide)) (by rfl) (qd (jv 0) (qd (jv 1) qf))))
   (qh (qt (qT hW GW hr (by rfl) (qd (qT hB GB hr (by rfl) (qd (jv 0) qf)) (qd (jv 1) qf))))),?_⟩
  refine⟨_,rfl,_,rfl,g,h',rs,hs,rfl,gr,hh,λH1 s1=>?_⟩
  refine⟨_,rfl,g,rs,rfl,gr.mono s1,good,le,λH2 D R s2 hD lb all=>?_⟩
  have L:=xK (ZD good.nd) all
  refine⟨_,rfl,D,h',rs,R,hs,rfl,lb,(hh.mono s1).mono s2,λz hz=>?_,λa H3 s3 i3=>q a H3 R (s1.trans (s2.trans s3)) all i3⟩
  obtain⟨r,hr',e⟩:=hh.in_ z hz
  exact ki good L (tQ.mpr ⟨r,hr',e⟩)
theorem Ax:qp ["ground","heap"] ["ground","heap"] (qj Ue):=zdv
theorem Nu{f CG:Addr}{fd:zdA}(F:jw K "outcome" "outcome" Ue f fd)(h:WF K mg)(B:QB mg)(Z:Wk K mg)(G:Qm mg)(T:j9 K mg)(M:GM K mg CG)(Y:wz K mg)(O:Mm K mg):qo P w K mg base qJ 10 f fd ["ground","heap"] (w5 CG):=by
 obtain⟨fW,fdW,hW⟩:=O.hw
 have GW:qo P w K mg base qJ 9 fW fdW ["ground","heap"] (CA CG h.CN h.CE):=De hW.fn h B Z G T M Y O
 refine F.okJ Ax (λvs H Q E z=>?_) (λcdv A outer s H vs Q E hr z=>?_)
 ·obtain⟨g,h',rs,hs,rfl,_⟩:=z
  rfl
 ·obtain⟨g,h',rs,hs,rfl,gr,good,le,hh,q⟩:=z
  refine⟨_,qh (qt (NU h B (hr.mono (by decide)) (qT hW GW hr (by rfl) (qd (jv 0) (qd (jv 1) qf))))),?_⟩
  refine⟨_,rfl,_,rfl,g,h',rs,hs,rfl,gr,good,le,hh,λa H1 R s1 all i1=>⟨a,_,rfl,i1,?_,λH2 s2=>?_⟩⟩
  ·refine wG λu hu=>?_
   obtain⟨z,hz,rfl⟩:=tQ.mp hu
   obtain⟨r,hr',e⟩:=hh.in_ z hz
   exact ki good (xK (ZD good.nd) all) (tQ.mpr ⟨r,hr',e⟩)
  ·exact q H2 _ (s1.trans s2) (AN good (xK (ZD good.nd) all) λz hz=>let ⟨r,hr',e⟩:=hh.in_ z hz;tQ.mpr ⟨r,hr',e⟩)
end
open PySem L2 PyProof.Rows
structure Al(K:zdw)(mg:Str->Option Value)(g x:Str)(st:Stmt)(ps:List Str)(f:Addr)(fd:zdA):Prop where
 fn:jw K x x st f fd
 ns:mg g=some (.ref f)
 bi:ji K fd ps []
theorem M5{X:Cx}{g x:Str}{st:Stmt}{ps:List Str}{f:Addr}{fd:zdA}{k:Nat}{sp:Sp}{e:Expr}{es:List Expr}{t:TA}{p pos:Pos}(h:Al X.K X.mg g x st ps f fd)(G:qo X.prog X.w X.K X.mg X.base qJ k f fd ps sp)(hr:qO k X.A)
 (hg:Gl X g) (ha:JA X (e::es) t) (hdb:(g==("__debug__":Str))=false:=by decide) (he:starEach (e::es) X.env=(false,eval e X.env)::starEach es X.env:=by rfl) (hpl:(backTo pos (starEach es X.env)).any (·.1)=false:=by rfl):
 JE X (.Call (.Name g p) (e::es) [] pos) (QY sp [] E0 t):=.of (Vh G hr hg h.ns h.fn.kp h.bi .nil jG ha.to hdb he hpl)
abbrev Zu:Stmt:=top 82
abbrev Uc:Stmt:=top 83
abbrev ZT:Stmt:=top 84
abbrev Xq:Stmt:=top 86
abbrev Ud:Stmt:=top 87
abbrev ZS:Stmt:=ja (top 8) 0
abbrev Jc:Stmt:=ja (top 9) 0
abbrev Xo:Stmt:=ja (top 10) 0
abbrev Zt:Stmt:=ja (top 11) 0
abbrev Y3:Stmt:=ja (top 12) 0
structure zo(K:zdw)(mg:Str->Option Value)(D:Addr)(x qual:Str)(st:Stmt)(fld:Str)(C f:Addr)(fd:zdA):Prop where
 cls:zU K C (.ref D::jz)
 mkr:Ci K C f (.ref D::jz)
 ns:mg x=some (.ref C)
 na:jW K C fld
 fn:jw K "__init__" qual st f fd
 bi:ji K fd ["self",fld] []
theorem vB(D:Addr):vA (.ref D::jz):=rfl
theorem xG(D:Addr):(Value.ref D::jz).contains (.type "BaseException")=true:=rfl
theorem zo.rcls{K:zdw}{mg:Str->Option Value}{D C f:Addr}{x qual fld:Str}{st:Stmt}{fd:zdA}(h:zo K mg D x qual st fld C f fd):U1 K C:=⟨f,_,h.mkr,xG D⟩
def zc(C:Addr)(fld:Str):Sp:=λvs H Q _=>∃e y,vs=[.ref e,y]/\H e=some (J6 e C)/\∀dx,H dx=none->Q .non (upd (upd H e (QX e C dx)) dx (.xd [(fld,y)]))
theorem Y7{H:Hp}{e dx C:Addr}{fs:List (Str×V)}(h1:H e=none)(h2:upd H e (J6 e C) dx=none):
  Same H (upd (upd (upd H e (J6 e C)) e (QX e C dx)) dx (.xd fs))/\upd (upd (upd H e (J6 e C)) e (QX e C dx)) dx (.xd fs) e=some (QX e C dx)/\upd (upd (upd H e (J6 e C)) e (QX e C dx)) dx (.xd fs) dx=some (.xd fs):=by
 have ne:e≠dx:=λz=>by rw[<-z,qe]at h2;cases h2
 refine⟨λb o hb=>?_,?_,qe⟩
 ·have b1:b≠e:=qr hb h1
  have b2:b≠dx:=λz=>by rw[<-z,qi b1,hb]at h2;cases h2
  rw[qi b2,qi b1,qi b1];exact hb
 ·rw[qi ne];exact qe
def Qr(H H':Hp):Prop:=∀b o,H b=some o->(∀φ,o≠.ext φ)->H' b=some o
theorem _root_.L2.Same.keep{H H':Hp}(s:Same H H'):Qr H H':=λb o h _=>s b o h
theorem Qr.trans{H H' H'':Hp}(a:Qr H H')(b:Qr H' H''):Qr H H'':=λc o h n=>b c o (a c o h n) n
theorem Qr.refl(H:Hp):Qr H H:=λ_ _ h _=>h
theorem _root_.L2.SqT.keep{K:zdw}{H H':Hp}{p:Addr}{xs:List V}(h:SqT K H p xs)(s:Qr H H'):SqT K H' p xs:=by
 rcases h with (h | ⟨o,h⟩) | h
 ·exact .inl (.inl (s _ _ h (λ_ z=>nomatch z)))
 ·exact .inl (.inr ⟨o,s _ _ h (λ_ z=>nomatch z)⟩)
 ·exact .inr h
theorem _root_.L2.SqL.keep{K:zdw}{H H':Hp}{p:Addr}{xs:List V}(h:SqL K H p xs)(s:Qr H H'):SqL K H' p xs:=by
 rcases h with (h | ⟨o,h⟩) | h
 ·exact .inl (.inl (s _ _ h (λ_ z=>nomatch z)))
 ·exact .inl (.inr ⟨o,s _ _ h (λ_ z=>nomatch z)⟩)
 ·exact .inr h
theorem jP.keep{CG:Addr}{H H':Hp}{a:Addr}{rs:jt}(h:jP CG H a rs)(s:Qr H H'):jP CG H' a rs:=by
 obtain⟨dx,lo,rd,kvs,h1,h2,h3,h4⟩:=h
 exact⟨dx,lo,rd,kvs,s _ _ h1 (λ_ z=>nomatch z),s _ _ h2 (λ_ z=>nomatch z),s _ _ h3 (λ_ z=>nomatch z),λr hr=>let ⟨q,a,b⟩:=h4 r hr;⟨q,a,s _ _ b (λ_ z=>nomatch z)⟩⟩
theorem vI{X:Hp}{l2:Addr}{ps:List Addr}{rs:jt}{CG:Addr}{R:Hp->Prop}(hl:X l2=some (.lst (ps.map V.ref)))(rat:jJ X ps rs)(good:qF rs)(pos:0 < rs.length)(le14:rs.length<=14)
  {x dx:Addr} (hx:X x=none) (hdx:X dx=none) (ndx:dx≠x) {E:XK} (k:∀H4,Same X H4->jP CG H4 x rs->R H4):
  W6 CG [.ref x,.ref l2] (upd (upd X dx (.own x)) x (.ins CG dx [])) (λv H'=>v=.non/\R H') E:=by
 have s3:Same X (upd (upd X dx (.own x)) x (.ins CG dx [])):=λb u hb=>by
  rw[qi (qr hb hx),qi (qr hb hdx)]
  exact hb
 refine⟨x,dx,l2,ps,rs,rfl,⟨s3 _ _ hl,rat.mono s3,good,pos,le14⟩,qe,λH4 gr fr4=>⟨rfl,k H4 (λb u hb=>fr4 b u (s3 _ _ hb) (qr hb hx)) gr⟩⟩
open PySem L2 PyProof.Rows
mutual
inductive DH(K:zdw)(H:Hp):V->PyData->Prop
 | non:DH K H .non .none
 | bl (b:Bool):DH K H (.bl b) (.bool b)
 | int (i:Int):DH K H (.int i) (.int i)
 | str (x:Str):x.length<=1000->DH K H (.str x) (.str x)
 | lst {a:Addr} {xs:List V} {ds:List PyData}:H a=some (.lst xs)->DVs K H xs ds->DH K H (.ref a) (.list ds)
 | tup {a:Addr} {xs:List V} {ds:List PyData}:H a=some (.tup xs)->xs.length<=900->DHs K H xs ds->DH K H (.ref a) (.tuple ds)
 | dct {a:Addr}:H a=some (.dK [])->DH K H (.ref a) (.dict [])
inductive DHs(K:zdw)(H:Hp):List V->List PyData->Prop
 | nil:DHs K H [] []
 | cons {x:V} {xs:List V} {d:PyData} {ds:List PyData}:DH K H x d->DHs K H xs ds->DHs K H (x::xs) (d::ds)
end
mutual
theorem zP{K:zdw}{H H':Hp}(s:Qr H H'):∀{x:V} {d:PyData},DV K H x d->DV K H' x d
 | _,_,.non=>.non
 | _,_,.bl b=>.bl b
 | _,_,.int i=>.int i
 | _,_,.str x=>.str x
 | _,_,.lst q hs=>.lst (q.keep s) (dvs_keepS s hs)
 | _,_,.tup q hs=>.tup (q.keep s) (dvs_keepS s hs)
theorem dvs_keepS{K:zdw}{H H':Hp}(s:Qr H H'):∀{xs:List V} {ds:List PyData},DVs K H xs ds->DVs K H' xs ds
 | _,_,.nil=>.nil
 | _,_,.cons h hs=>.cons (zP s h) (dvs_keepS s hs)
end
mutual
theorem DH.keep{K:zdw}{H H':Hp}(s:Qr H H'):∀{x:V} {d:PyData},DH K H x d->DH K H' x d
 | _,_,.non=>.non
 | _,_,.bl b=>.bl b
 | _,_,.int i=>.int i
 | _,_,.str x l=>.str x l
 | _,_,.lst q hs=>.lst (s _ _ q (λ_ z=>nomatch z)) (dvs_keepS s hs)
 | _,_,.tup q l hs=>.tup (s _ _ q (λ_ z=>nomatch z)) l (DHs.keep s hs)
 | _,_,.dct q=>.dct (s _ _ q (λ_ z=>nomatch z))
theorem DHs.keep{K:zdw}{H H':Hp}(s:Qr H H'):∀{xs:List V} {ds:List PyData},DHs K H xs ds->DHs K H' xs ds
 | _,_,.nil=>.nil
 | _,_,.cons h hs=>.cons (DH.keep s h) (DHs.keep s hs)
end
theorem DHs.len{K:zdw}{H:Hp}:∀{xs:List V} {ds:List PyData},DHs K H xs ds->xs.length=ds.length
 | _,_,.nil=>rfl
 | _,_,.cons _ hs=>congrArg Nat.succ hs.len
theorem DHs.get{K:zdw}{H:Hp}:∀{xs:List V} {ds:List PyData},DHs K H xs ds->∀{i:Nat} {x:V},xs[i]?=some x->∃d,ds[i]?=some d/\DH K H x d
 | _,_,.nil,i,x,e=>by simp at e
 | _,_,.cons h hs,0,x,e=>by
  obtain rfl:_=x:=by simpa using e
  exact⟨_,rfl,h⟩
 | _,_,.cons h hs,i+1,x,e=>by
  obtain⟨d,e2,h2⟩:=hs.get (i:=i) (x:=x) (by simpa using e)
  exact⟨d,by simpa using e2,h2⟩
def Rm:PyData->String
 | .none=>"NoneType"
 | .bool _=>"bool"
 | .int _=>"int"
 | .str _=>"str"
 | .list _=>"list"
 | .tuple _=>"tuple"
 | .dict _=>"dict"
theorem DH.ty{K:zdw}{H:Hp}{x:V}{d:PyData}(h:DH K H x d):JL K H x (.type (Rm d)):=by
 cases h with
 | non=>exact .non
 | bl b=>exact .bl b
 | int i=>exact .int i
 | str z _=>exact .str z
 | lst q _=>exact .lst q
 | tup q _ _=>exact .tup q
 | dct q=>exact .dK q
def BI:PyData->Bool
 | .str _=>true
 | _=>false
def DZ:PyData->Bool
 | .tuple _=>true
 | _=>false
def D1:PyData->Bool
 | .list _=>true
 | _=>false
theorem KC{K:zdw}(d:PyData):tU K (.type (Rm d)) (.type "str")=some (BI d):=by cases d<;>(unfold Rm BI;dsimp only;kernel_rfl)
theorem M0{K:zdw}(d:PyData):tU K (.type (Rm d)) (.type "tuple")=some (DZ d):=by cases d<;>(unfold Rm DZ;dsimp only;kernel_rfl)
theorem Dp{K:zdw}(d:PyData):tU K (.type (Rm d)) (.type "list")=some (D1 d):=by cases d<;>(unfold Rm D1;dsimp only;kernel_rfl)
def Zi:PyData->Bool
 | .str z=>qN z
 | _=>false
def Ro:PyData->Bool
 | .tuple xs=>xs.all Zi
 | _=>false
def vy:PyData->Bool
 | .tuple [a,b]=>Zi a&&Ro b
 | _=>false
def Wn(K:zdw):Sp:=λvs H Q _=>∃v d,vs=[v]/\DH K H v d/\∀H',Same H H'->Q (.bl (Zi d)) H'
def wX(K:zdw):Sp:=λvs H Q _=>∃v d,vs=[v]/\DH K H v d/\∀H',Same H H'->Q (.bl (Ro d)) H'
def vh(K:zdw):Sp:=λvs H Q _=>∃v d,vs=[v]/\DH K H v d/\∀H',Same H H'->Q (.bl (vy d)) H'
section
variable{P:Program}{w:World}{K:zdw}{mg:Str->Option Value}{base:Heap}
theorem zG{f:Addr}{fd:zdA}(F:jw K "is_name" "is_name" QZ f fd)(B:QB mg)(T:j9 K mg):qo P w K mg base qJ 1 f fd ["thing"] (Wn K):=by
 refine F.okJ ut (λvs H Q E h=>?_) (λcdv A outer s H vs Q E hr h=>?_)
 ·obtain⟨v,d,rfl,_⟩:=h
  rfl
 ·obtain⟨v,d,rfl,hd,q⟩:=h
  obtain⟨tl,hlets⟩:=T.lets
  obtain⟨tg,hlg⟩:=T.lgst
  refine⟨_,qg (qE (jy (jd (qu qX (by rfl) T.isi boot_isinstance (qd (jv 0) (qd (jR (v:=.ty "str") (by rfl) T.str boot_str rfl) qf))))) (qh (qt Qd)) qv)
   (qg (qE (Jp (qA u3 (qu Q3 (by rfl) B.len boot_len (qd (jv 0) qf)) ql (qC _))
     (QK (qA Zy (qu Q3 (by rfl) B.len boot_len (qd (jv 0) qf)) (qM (v:=.int 8) (by rfl) hlg ⟨_,rfl⟩) (qC _)))).pt (qh (qt Qd)) qv)
   (qh (qt (qu (QR rfl) (by rfl) T.all boot_all (qd (Ql (N':=["sign"]) (ix:=[none]) rfl ⟨rfl,rfl,rfl,rfl,rfl⟩ (KI (jv 0)) (λC s2 H2 fp pins=>
    ⟨qx (i:=0) (vJ _) rfl (Or.inl rfl),jr,jE Yk (jv 0) (qM (v:=.str BU) (by rfl) hlets ⟨_,rfl⟩) (by with_unfolding_all rfl)⟩)) qf))))),?_⟩
  refine⟨_,rfl,_,_,_,_,rfl,rfl,hd.ty,KC d,_,rfl,?_⟩
  cases c:BI d with
  | false=>
   refine Qj ?_
   have e:Zi d=false:=by cases d<;>first | rfl | cases c
   rw[e]at q
   exact q H (Same.refl _)
  | true=>
   refine jh ?_
   cases hd with
   | str z hz=>
    have hz':z.length<=zdB:=zaC (qy hz)
    have q:∀H',Same H H'->Q (.bl (qN z)) H':=q
    refine⟨_,rfl,z,rfl,hz',_,_,rfl,rfl,_,rfl,?_⟩
    refine UI (λh=>?_) (λh=>?_)
    ·have:z.length < 1:=by have:=of_decide_eq_true h;omega
     have e:qN z=false:=by
      unfold qN
      rw[decide_eq_false (by omega:¬1<=z.length)]
      rfl
     rw[e]at q
     exact q H (Same.refl _)
    ·have n1:1<=z.length:=by
      have:¬(z.length:Int) < 1:=λy=>h (decide_eq_true y)
      omega
     refine⟨_,rfl,z,rfl,hz',_,_,rfl,rfl,_,rfl,?_⟩
     refine UI (λh2=>?_) (λh2=>?_)
     ·have:8 < z.length:=by have:(8:Int) < (z.length:Int):=of_decide_eq_true h2;omega
      have e:qN z=false:=by
       unfold qN
       rw[decide_eq_false (by omega:¬z.length<=8),zdd]
       rfl
      rw[e]at q
      exact q H (Same.refl _)
     ·have n8:z.length<=8:=by
       have:¬(8:Int) < (z.length:Int):=λy=>h2 (decide_eq_true y)
       omega
      refine⟨_,rfl,z,rfl,λD hD=>?_⟩
      refine yD (λi σ' H'=>∃v,σ'=[v]/\H'=upd H D (.lst (((z.cps.toList.take i).map Jg).map V.bl))) ⟨none,rfl,rfl⟩ ?_ ?_
      ·rintro i c σ' H' hc ⟨v,rfl,rfl⟩
       refine⟨_,rfl,_,_,rfl,rfl,_,qe,?_,?_⟩
       ·rw[tj,tj,zag]
        exact zax (zcQ _ _) (qy (show z.cps.toList.length<=1000 by rw[zbN];exact tM n8 (by decide)))
       ·refine⟨_,rfl,?_⟩
        rw[Qs,K3]
        have hc':z.cps.toList[i]?=some c:=by simpa using hc
        rw[<-UZ Jg z.cps.toList i c hc',tH]
        rfl
      ·rintro σ' H' ⟨v,rfl,rfl⟩
       refine⟨D,_,rfl,.of qe,?_⟩
       have e0:z.cps.toList.take z.cps.size=z.cps.toList:=tI (by simp)
       have e1:(z.cps.toList.map Jg).all id=qN z:=by
        unfold qN
        rw[zby,decide_eq_true n1,decide_eq_true n8]
        simp [Function.comp_def]
       rw[e0,e1]
       exact q _ (qm hD)
   | _=>cases c
theorem Nm{f fN:Addr}{fd fdN:zdA}(F:jw K "is_tuple_of_names" "is_tuple_of_names" zy f fd)(B:QB mg)(G:Qm mg)(T:j9 K mg)(hN:qZ K mg "is_name" QZ ["thing"] fN fdN):qo P w K mg base qJ 2 f fd ["thing"] (wX K):=by
 have GN:qo P w K mg base qJ 1 fN fdN ["thing"] (Wn K):=zG hN.fn B T
 refine F.okJ um (λvs H Q E h=>?_) (λcdv A outer s H vs Q E hr h=>?_)
 ·obtain⟨v,d,rfl,_⟩:=h
  rfl
 ·obtain⟨v,d,rfl,hd,q⟩:=h
  refine⟨_,qh (qt (QM (qu qX (by rfl) T.isi boot_isinstance (qd (jv 0) (qd (jR (v:=.ty "tuple") (by rfl) G.tup boot_tuple rfl) qf)))
   (QP (qu (QR rfl) (by rfl) T.all boot_all (qd (Ql (N':=["part"]) (ix:=[none]) rfl ⟨rfl,rfl,rfl,rfl,rfl⟩ (Vs (jv 0)) (λC s2 H2 fp pins=>
    ⟨qx (i:=0) (vJ _) rfl (Or.inl rfl),jr,qT hN GN hr (by rfl) (qd (jv 0) qf)⟩)) qf))))),?_⟩
  refine⟨_,rfl,_,_,_,_,rfl,rfl,hd.ty,M0 d,_,rfl,?_⟩
  cases c:DZ d with
  | false=>
   refine jh ?_
   have e:Ro d=false:=by cases d<;>first | rfl | cases c
   rw[e]at q
   exact q H (Same.refl _)
  | true=>
   refine Qj ?_
   cases hd with
   | @tup x xs ds hx hl hs=>
    have q:∀H',Same H H'->Q (.bl (ds.all Zi)) H':=q
    have ll:=hs.len
    refine⟨_,rfl,x,rfl,⟨_,.of hx⟩,λD hD=>?_⟩
    refine yC (K:=K) (a:=x) (xs:=xs) (λi σ' H'=>∃v,σ'=[v]/\Same H H'/\H' D=some (.lst (((ds.take i).map Zi).map V.bl))) ⟨none,rfl,qm hD,qe⟩ (λi σ' H' _ ⟨_,_,s,_⟩=>.of (s _ _ hx)) ?_ ?_
    ·rintro i y σ' H' hy ⟨v,rfl,s1,hD1⟩
     obtain⟨d,ed,hd⟩:=hs.get hy
     have hi:=(tq.mp ed).1
     refine⟨_,rfl,y,d,rfl,hd.keep s1.keep,λH2 s2=>⟨_,s2 _ _ hD1,?_,_,rfl,Same.upd (s1.trans s2) hD,?_⟩⟩
     ·rw[tj,tj,zag]
      exact qy (by omega)
     ·rw[qe,tO,ed,tH,tH]
      rfl
    ·rintro σ' H' ⟨v,rfl,s1,hD1⟩
     rw[ll,tI (tu _)]at hD1
     refine⟨D,_,rfl,.of hD1,?_⟩
     rw[zby]
     exact q _ s1
   | _=>cases c
theorem Nq{f fN fP:Addr}{fd fdN fdP:zdA}(F:jw K "is_row" "is_row" zf f fd)(B:QB mg)(G:Qm mg)(T:j9 K mg)(hN:qZ K mg "is_name" QZ ["thing"] fN fdN)(hP:qZ K mg "is_tuple_of_names" zy ["thing"] fP fdP):qo P w K mg base qJ 3 f fd ["thing"] (vh K):=by
 have GN:qo P w K mg base qJ 1 fN fdN ["thing"] (Wn K):=zG hN.fn B T
 have GP:qo P w K mg base qJ 2 fP fdP ["thing"] (wX K):=Nm hP.fn B G T hN
 refine F.okJ kP (λvs H Q E h=>?_) (λcdv A outer s H vs Q E hr h=>?_)
 ·obtain⟨v,d,rfl,_⟩:=h
  rfl
 ·obtain⟨v,d,rfl,hd,q⟩:=h
  refine⟨_,qg (qE (Jp (jy (jd (qu qX (by rfl) T.isi boot_isinstance (qd (jv 0) (qd (jR (v:=.ty "tuple") (by rfl) G.tup boot_tuple rfl) qf)))))
    (QK (qA Wx (qu qB (by rfl) B.len boot_len (qd (jv 0) qf)) ql (qC _)))).pt (qh (qt Qd)) qv)
   (qh (qt (QM (qT hN GN (hr.mono (by decide)) (by rfl) (qd (qQ jI (jv 0) ql (λ_ _=>rfl)) qf)) (QP (qT hP GP hr (by rfl) (qd (qQ jI (jv 0) ql (λ_ _=>rfl)) qf)))))),?_⟩
  refine⟨_,rfl,_,_,_,_,rfl,rfl,hd.ty,M0 d,_,rfl,?_⟩
  cases c:DZ d with
  | false=>
   refine Qj ?_
   have e:vy d=false:=by cases d<;>first | rfl | cases c
   rw[e]at q
   exact q H (Same.refl _)
  | true=>
   refine jh ?_
   cases hd with
   | @tup p xs ds hp hl hs=>
    have ll:=hs.len
    refine⟨_,rfl,p,_,rfl,.inr (.of hp),rfl,_,rfl,?_⟩
    by_cases c2:xs.length=2
    ·refine qH (by rw[c2];rfl) ?_
     match xs,ds,hs,c2 with
     | [x0,x1],[d0,d1],.cons h0 (.cons h1 .nil),_=>
      refine⟨_,rfl,p,_,0,_,rfl,rfl,.of hp,rfl,x0,d0,rfl,h0,λH1 s1=>⟨_,rfl,?_⟩⟩
      have q:∀H',Same H H'->Q (.bl (Zi d0&&Ro d1)) H':=q
      cases c0:Zi d0 with
      | false=>
       rw[c0]at q
       exact jh (q H1 s1)
      | true=>
       rw[c0]at q
       exact Qj ⟨_,rfl,p,_,1,_,rfl,rfl,.of (s1 _ _ hp),rfl,x1,d1,rfl,h1.keep s1.keep,λH2 s2=>q H2 (s1.trans s2)⟩
    ·refine qW (by simp only[Bool.not_eq_true',decide_eq_false_iff_not];intro z;have:=V.int.inj z;omega) ?_
     have e:vy (.tuple ds)=false:=by
      match ds,ll with
      | [],_=>rfl
      | [_],_=>rfl
      | [_,_],l=>exact absurd l c2
      | _::_::_::_,_=>rfl
     rw[e]at q
     exact q H (Same.refl _)
   | _=>cases c
end
open PySem L2 PyProof.Rows
abbrev yV(C:Addr)(sp:Sp)(E:XK)(t:TA):TE:=λσ H Q=>t σ H λvs H1=>vs.length<=zdB/\∀x,H1 x=none->sp (.ref x::vs) (upd H1 x (J6 x C)) (λv H2=>v=.non/\Q (.ref x) H2) E
inductive ww where
 | ground (n:Nat) | many (n:Nat) | twice (z:Str) | place (z:Str) | text (n:Nat)
structure C4 where
 g:Addr
 m:Addr
 t:Addr
 p:Addr
 x:Addr
def ww.cls(c:C4):ww->Addr
 | .ground _=>c.g
 | .many _=>c.m
 | .twice _=>c.t
 | .place _=>c.p
 | .text _=>c.x
def ww.fld:ww->Str
 | .ground _=>zdx "row"
 | .text _=>zdx "row"
 | _=>zdx "found"
def ww.val:ww->V
 | .ground n=>.int (n:Nat)
 | .text n=>.int (n:Nat)
 | .many n=>.int (n:Nat)
 | .twice z=>.str z
 | .place z=>.str z
def YL(c:C4)(E:XK)(H:Hp)(r:ww):Prop:=∀Hx dx,Same H Hx->Hx dx=some (.xd [(r.fld,r.val)])->E (.ref (r.cls c)) (some dx) Hx
theorem YL.mono{c:C4}{E:XK}{H H':Hp}{r:ww}(h:YL c E H r)(s:Same H H'):YL c E H' r:=λHx dx s2 hd=>h Hx dx (s.trans s2) hd
structure Mn(K:zdw)(mg:Str->Option Value)(D:Addr)(c:C4):Prop where
 g:∃f fd,zo K mg D "NoGround" "NoGround.__init__" ZS "row" c.g f fd
 m:∃f fd,zo K mg D "TooMany" "TooMany.__init__" Zt "found" c.m f fd
 t:∃f fd,zo K mg D "Twice" "Twice.__init__" Xo "found" c.t f fd
 p:∃f fd,zo K mg D "NoPlace" "NoPlace.__init__" Jc "found" c.p f fd
 x:∃f fd,zo K mg D "NoText" "NoText.__init__" Y3 "row" c.x f fd
def VF(K:zdw)(H:Hp)(y:V):Prop:=∃d,DH K H y d/\vy d=true
def W8(K:zdw)(c:C4):Sp:=λvs H Q E=>∃v,vs=[v]/\
 ((∃d,DH K H v d/\D1 d=false/\YL c E H (.ground 0))\/(∃l,v=.ref l/\H l=some (.lst [])/\YL c E H (.ground 0))\/
  (∃l xs,v=.ref l/\H l=some (.lst xs)/\14 < xs.length/\xs.length<=1000/\YL c E H (.many xs.length))\/
  (∃(l:Addr) (xs:List V) (i:Nat) (x:V) (d:PyData),v=.ref l/\H l=some (.lst xs)/\xs.length<=14/\xs[i]?=some x/\DH K H x d/\vy d=false/\(∀(j:Nat) (y:V),j < i->xs[j]?=some y->VF K H y)/\YL c E H (.ground i))\/
  (∃l xs,v=.ref l/\H l=some (.lst xs)/\0 < xs.length/\xs.length<=14/\(∀(j:Nat) (y:V),xs[j]?=some y->VF K H y)/\∀H',Same H H'->Q .non H'))
def w4(c:C4):Sp:=λvs H Q E=>∃(l:Addr) (zs:List Str),vs=[.ref l]/\H l=some (.lst (zs.map V.str))/\zs.length<=1000/\
 ((zs.Nodup/\∀H',Same H H'->Q .non H')\/∃i z,zs[i]?=some z/\z∈zs.take i/\(zs.take i).Nodup/\YL c E H (.twice z))
def W9(c:C4):Sp:=λvs H Q E=>∃(q l:Addr) (es zs:List Str),vs=[.ref q,.ref l]/\H q=some (.tup (es.map V.str))/\H l=some (.lst (zs.map V.str))/\es.length<=900/\
 ((es.Nodup/\(∀z∈es,z∈zs)/\∀H',Same H H'->Q .non H')\/∃i z,es[i]?=some z/\(es.take i).Nodup/\(∀y∈es.take i,y∈zs)/\((z∉zs/\YL c E H (.place z))\/(z∈zs/\z∈es.take i/\YL c E H (.twice z))))
theorem yc{zs:List Str}{i:Nat}{z:Str}(h:(zs.take (i+1)).Nodup)(e:zs[i]?=some z):z∉zs.take i:=by
 rw[tO,e]at h
 exact λm=>(zdr.mp h).2.2 z m z (by simp) rfl
theorem yd{zs:List Str}{i j:Nat}(h:(zs.take j).Nodup)(l:i<=j):(zs.take i).Nodup:=by
 have:zs.take i=(zs.take j).take i:=by rw[List.take_take,zbD l]
 rw[this]
 exact h.sublist (zbY _ _)
theorem yh{zs:List Str}{i:Nat}{z:Str}{H':Hp}{D:Addr}{kvs:List (qG×V)}(hz:zs.length<=1000)(e:zs[i]?=some z)(hD1:H' D=some (.dK kvs))(ek:kvs.map (·.1)=(zs.take i).map Sum.inr):
  jU H' D (.str z) (jc kvs (Sum.inr z:qG))/\kvs.length < zdB/\(z∉zs.take i->jc kvs (Sum.inr z:qG)=none)/\(z∈zs.take i->(jc kvs (Sum.inr z:qG)).isSome=true):=by
 refine⟨jU.k (k:=(Sum.inr z:qG)) hD1,?_,λn=>Zo (by rw[ek];exact λm=>by obtain⟨y,hy,ey⟩:=tQ.mp m;exact n (by rw[<-Sum.inr.inj ey];exact hy)),λm=>?_⟩
 ·have:=congrArg zbs ek
  have hi:=(tq.mp e).1
  rw[tj,tj,zag]at this
  exact qy (by omega)
 ·rw[<-QU,zbl]
  have:(Sum.inr z:qG)∈kvs.map (·.1):=by rw[ek];exact tQ.mpr ⟨z,m,rfl⟩
  obtain⟨kv,hkv,e2⟩:=tQ.mp this
  exact⟨kv,hkv,decide_eq_true e2⟩
section
variable{P:Program}{w:World}{K:zdw}{mg:Str->Option Value}{base:Heap}
theorem Ex:qp ["self","row"] ["self","row"] (qj ZS):=zdv
theorem Er:qp ["self","row"] ["self","row"] (qj Y3):=zdv
theorem Eu:qp ["self","found"] ["self","found"] (qj Zt):=zdv
theorem Es:qp ["self","found"] ["self","found"] (qj Xo):=zdv
theorem Et:qp ["self","found"] ["self","found"] (qj Jc):=zdv
theorem EL{D C f:Addr}{fd:zdA}(x:zo K mg D "NoGround" "NoGround.__init__" ZS "row" C f fd):qo P w K mg base qJ 1 f fd ["self","row"] (zc C "row"):=by
 refine x.fn.okJ Ex (λvs H Q E h=>?_) (λcdv A outer s H vs Q E hr h=>?_)
 ·obtain⟨e,y,rfl,_⟩:=h
  rfl
 ·obtain⟨e,y,rfl,hH,k⟩:=h
  exact⟨_,qh (zk (bm:=.ref D::jz) (jv 0) (jv 1) rfl),_,rfl,_,rfl,e,C,rfl,hH,x.cls,vB D,x.na,λdx hdx=>k dx hdx⟩
theorem EI{D C f:Addr}{fd:zdA}(x:zo K mg D "NoText" "NoText.__init__" Y3 "row" C f fd):qo P w K mg base qJ 1 f fd ["self","row"] (zc C "row"):=by
 refine x.fn.okJ Er (λvs H Q E h=>?_) (λcdv A outer s H vs Q E hr h=>?_)
 ·obtain⟨e,y,rfl,_⟩:=h
  rfl
 ·obtain⟨e,y,rfl,hH,k⟩:=h
  exact⟨_,qh (zk (bm:=.ref D::jz) (jv 0) (jv 1) rfl),_,rfl,_,rfl,e,C,rfl,hH,x.cls,vB D,x.na,λdx hdx=>k dx hdx⟩
theorem Bo{D C f:Addr}{fd:zdA}(x:zo K mg D "TooMany" "TooMany.__init__" Zt "found" C f fd):qo P w K mg base qJ 1 f fd ["self","found"] (zc C "found"):=by
 refine x.fn.okJ Eu (λvs H Q E h=>?_) (λcdv A outer s H vs Q E hr h=>?_)
 ·obtain⟨e,y,rfl,_⟩:=h
  rfl
 ·obtain⟨e,y,rfl,hH,k⟩:=h
  exact⟨_,qh (zk (bm:=.ref D::jz) (jv 0) (jv 1) rfl),_,rfl,_,rfl,e,C,rfl,hH,x.cls,vB D,x.na,λdx hdx=>k dx hdx⟩
theorem Bl{D C f:Addr}{fd:zdA}(x:zo K mg D "Twice" "Twice.__init__" Xo "found" C f fd):qo P w K mg base qJ 1 f fd ["self","found"] (zc C "found"):=by
 refine x.fn.okJ Es (λvs H Q E h=>?_) (λcdv A outer s H vs Q E hr h=>?_)
 ·obtain⟨e,y,rfl,_⟩:=h
  rfl
 ·obtain⟨e,y,rfl,hH,k⟩:=h
  exact⟨_,qh (zk (bm:=.ref D::jz) (jv 0) (jv 1) rfl),_,rfl,_,rfl,e,C,rfl,hH,x.cls,vB D,x.na,λdx hdx=>k dx hdx⟩
theorem Bm{D C f:Addr}{fd:zdA}(x:zo K mg D "NoPlace" "NoPlace.__init__" Jc "found" C f fd):qo P w K mg base qJ 1 f fd ["self","found"] (zc C "found"):=by
 refine x.fn.okJ Et (λvs H Q E h=>?_) (λcdv A outer s H vs Q E hr h=>?_)
 ·obtain⟨e,y,rfl,_⟩:=h
  rfl
 ·obtain⟨e,y,rfl,hH,k⟩:=h
  exact⟨_,qh (zk (bm:=.ref D::jz) (jv 0) (jv 1) rfl),_,rfl,_,rfl,e,C,rfl,hH,x.cls,vB D,x.na,λdx hdx=>k dx hdx⟩
theorem QC{c:C4}{E:XK}{H:Hp}(r:ww){C D f:Addr}{fd:zdA}{nm qn:Str}{st:Stmt}(x:zo K mg D nm qn st r.fld (r.cls c) f fd)(o:YL c E H r):
  ∀e,H e=none->zc (r.cls c) r.fld [.ref e,r.val] (upd H e (J6 e (r.cls c))) (λv H2=>v=.non/\∃a C dx,V.ref e=.ref a/\H2 a=some (QX a C dx)/\U1 K C/\E (.ref C) (some dx) H2) E0:=λe he=>by
 refine⟨e,_,rfl,qe,λdx hdx=>⟨rfl,e,r.cls c,dx,rfl,(Y7 he hdx).2.1,x.rcls,?_⟩⟩
 obtain⟨m1,m2,m3⟩:=Y7 (fs:=[(r.fld,r.val)]) he hdx
 exact o _ dx m1 m3
theorem Ko{f D fN fP fR:Addr}{c:C4}{fd fdN fdP fdR:zdA}(F:jw K "need_form" "need_form" Ui f fd)(B:QB mg)(G:Qm mg)(T:j9 K mg)(hN:qZ K mg "is_name" QZ ["thing"] fN fdN)(hP:qZ K mg "is_tuple_of_names" zy ["thing"] fP fdP)
  (hR:qZ K mg "is_row" zf ["thing"] fR fdR) (X4:Mn K mg D c):qo P w K mg base (jX P w) 4 f fd ["rows"] (W8 K c):=by
 have GR:qo P w K mg base qJ 3 fR fdR ["thing"] (vh K):=Nq hR.fn B G T hN hP
 obtain⟨tm,hmp⟩:=T.mp
 obtain⟨fg,fdg,xg⟩:=X4.g
 obtain⟨fm,fdm,xm⟩:=X4.m
 have Gg:qo P w K mg base qJ 1 fg fdg ["self","row"] (zc c.g "row"):=EL xg
 have Gm:qo P w K mg base qJ 1 fm fdm ["self","found"] (zc c.m "found"):=Bo xm
 refine F.okX Yb (λvs H Q E h=>?_) (λcdv A outer s H vs Q E hr h=>?_)
 ·obtain⟨v,rfl,_⟩:=h
  rfl
 ·obtain⟨v,rfl,h⟩:=h
  have r2:qO 2 _:=hr.mono (by decide)
  refine⟨_,qg (qE (Jp (jy (jd (qu qX (by rfl) T.isi boot_isinstance (qd (jv 0) (qd (jR (v:=.ty "list") (by rfl) G.lst boot_list rfl) qf)))))
    (QK (qA jY (qu qB (by rfl) B.len boot_len (qd (jv 0) qf)) ql (qC _)))).pt (qh (jA rfl Qh (jB xg.mkr Gg r2 (by rfl) xg.ns xg.bi jG (qd ql qf)))) qv)
   (qg (qE (qA Zy (qu qB (by rfl) B.len boot_len (qd (jv 0) qf)) (qM (v:=.int 14) (by rfl) hmp ⟨_,rfl⟩) (qC _)) (qh (jA rfl Qh (jB xm.mkr Gm r2 (by rfl) xm.ns xm.bi jG (qd (qu qB (by rfl) B.len boot_len (qd (jv 0) qf)) qf)))) qv)
   (qh (J0 (t:=zZ (K6 K (jg (qS 0) Qf)) (xZ K 2 (ZF (j3 1) (ZF (j3 2) x5))) (YM (Aq (tB (QY (vh K) [] E0 (jg (qS 2) Qf)))) (zd K E (yV c.g (zc c.g "row") E0 (jg (qS 1) Qf))) Zd)) λpn W hO hP hR'=>
    jC hO rfl (Y8 (by rfl) T.enu (qd (jv 0) qf)) (ZB rfl (jp (qx (i:=1) Yb.nd rfl (Or.inl rfl)) (jp (qx (i:=2) Yb.nd rfl (Or.inl rfl)) Jq)))
    (qh (qE (jy (jd (qT hR GR hr (by rfl) (qd (jv 2) qf)))) (qh (jA rfl hR' (jB xg.mkr Gg r2 (by rfl) xg.ns xg.bi jG (qd (jv 1) qf)))) qv))))),?_⟩
  have g0:∀{H':Hp},YL c E H' (.ground 0)->∀e,H' e=none->zc c.g "row" [.ref e,.int 0] (upd H' e (J6 e c.g)) (λv H2=>v=.non/\∃a C dx,V.ref e=.ref a/\H2 a=some (QX a C dx)/\U1 K C/\E (.ref C) (some dx) H2) E0:=λo=>QC (C:=c.g) (.ground 0) xg o
  rcases h with ⟨d,hd,nl,o⟩ | ⟨l,rfl,hl,o⟩ | ⟨l,xs,rfl,hl,big,sm,o⟩ | ⟨l,xs,i0,x0,d0,rfl,hl,le,e0,hd0,bad,pre,o⟩ | ⟨l,xs,rfl,hl,pos,le,all,q⟩
  ·refine⟨_,rfl,_,_,_,_,rfl,rfl,hd.ty,Dp d,_,rfl,?_⟩
   rw[nl]
   exact Qj ⟨by show 1<=zdB;decide,g0 o⟩
  ·refine⟨_,rfl,_,_,_,_,rfl,rfl,.lst hl,T.kll,_,rfl,jh ⟨_,rfl,l,_,rfl,.inl (.of hl),rfl,_,rfl,?_⟩⟩
   exact qW (decide_eq_true rfl) ⟨by show 1<=zdB;decide,g0 o⟩
  ·refine⟨_,rfl,_,_,_,_,rfl,rfl,.lst hl,T.kll,_,rfl,jh ⟨_,rfl,l,_,rfl,.inl (.of hl),rfl,_,rfl,?_⟩⟩
   refine qH (decide_eq_false λz=>by have:=V.int.inj z;omega) ⟨_,rfl,l,_,rfl,.inl (.of hl),_,_,rfl,rfl,_,rfl,qW (decide_eq_true (by show (14:Int) < _;omega)) ?_⟩
   exact⟨_,rfl,l,_,rfl,.inl (.of hl),by show 1<=zdB;decide,QC (C:=c.m) (.many xs.length) xm o⟩
  all_goals
   refine⟨_,rfl,_,_,_,_,rfl,rfl,.lst hl,T.kll,_,rfl,jh ⟨_,rfl,l,_,rfl,.inl (.of hl),rfl,_,rfl,?_⟩⟩
   refine qH (decide_eq_false λz=>by have:=V.int.inj z;first | omega | (have:=(tq.mp e0).1;omega)) ⟨_,rfl,l,_,rfl,.inl (.of hl),_,_,rfl,rfl,_,rfl,qH (decide_eq_false (by show ¬(14:Int) < _;omega)) ⟨_,rfl,l,rfl,⟨_,.of hl⟩,?_⟩⟩
  ·refine JJ (K:=K) (a:=l) (xs:=xs) (λi σ' H'=>(∃v1 v2,σ'=[some (.ref l),v1,v2])/\Same H H'/\i<=i0) ⟨⟨none,none,rfl⟩,Same.refl H,zao _⟩ (λi σ' H' _ ⟨_,s,_⟩=>.of (s _ _ hl)) ?_ ?_
   ·rintro i x σ' H' p hx hp ⟨⟨v1,v2,rfl⟩,s1,hi⟩
    have s2:=s1.trans (qm (o:=.tup [.int (i:Nat),x]) hp)
    refine⟨p,_,rfl,.of qe,rfl,_,_,rfl,_,_,rfl,rfl,_,rfl,?_⟩
    rcases zbe i i0 with c0 | c0
    ·obtain⟨d,hd,gd⟩:=pre i x c0 hx
     refine⟨x,d,rfl,hd.keep s2.keep,λH2 s3=>⟨_,rfl,?_⟩⟩
     rw[gd]
     exact jh ⟨⟨_,_,rfl⟩,s2.trans s3,c0⟩
    ·have ei:i=i0:=by omega
     subst ei
     rw[hx]at e0
     obtain rfl:=tX.inj e0
     refine⟨x,d0,rfl,hd0.keep s2.keep,λH2 s3=>⟨_,rfl,?_⟩⟩
     rw[bad]
     exact Qj ⟨_,rfl,by show 1<=zdB;decide,QC (C:=c.g) (.ground i) xg (o.mono (s2.trans s3))⟩
   ·rintro σ' H' ⟨_,_,hi⟩
    have:=(tq.mp e0).1
    omega
  ·refine JJ (K:=K) (a:=l) (xs:=xs) (λi σ' H'=>(∃v1 v2,σ'=[some (.ref l),v1,v2])/\Same H H') ⟨⟨none,none,rfl⟩,Same.refl H⟩ (λi σ' H' _ ⟨_,s⟩=>.of (s _ _ hl)) ?_ ?_
   ·rintro i x σ' H' p hx hp ⟨⟨v1,v2,rfl⟩,s1⟩
    have s2:=s1.trans (qm (o:=.tup [.int (i:Nat),x]) hp)
    refine⟨p,_,rfl,.of qe,rfl,_,_,rfl,_,_,rfl,rfl,_,rfl,?_⟩
    obtain⟨d,hd,gd⟩:=all i x hx
    refine⟨x,d,rfl,hd.keep s2.keep,λH2 s3=>⟨_,rfl,?_⟩⟩
    rw[gd]
    exact jh ⟨⟨_,_,rfl⟩,s2.trans s3⟩
   ·rintro σ' H' ⟨_,s1⟩
    exact q H' s1
theorem Nt{f D:Addr}{c:C4}{fd:zdA}(F:jw K "need_own_names" "need_own_names" uw f fd)(X4:Mn K mg D c):qo P w K mg base (jX P w) 3 f fd ["order"] (w4 c):=by
 obtain⟨ft,fdt,xt⟩:=X4.t
 have Gt:qo P w K mg base qJ 1 ft fdt ["self","found"] (zc c.t "found"):=Bl xt
 refine F.okX Wt (λvs H Q E h=>?_) (λcdv A outer s H vs Q E hr h=>?_)
 ·obtain⟨l,zs,rfl,_⟩:=h
  rfl
 ·obtain⟨l,zs,rfl,hl,hz,h⟩:=h
  have hu:=Qp hr
  refine⟨_,qg (qD (i:=1) Wt.nd rfl (Or.inl rfl) Qc)
   (qh (J0 (t:=zZ (zM K (qS 0)) (j3 2) (X6 (YM (tB (wO (qS 2) (qS 1))) (zd K E (yV c.t (zc c.t "found") E0 (jg (qS 2) Qf))) Zd) (uG (qS 1) (qS 2) (tC (.bl true))))) λpn W hO hP hR'=>
    jC hO rfl (qL (jv 0)) (qx (i:=2) Wt.nd rfl (Or.inl rfl))
    (qg (qE (Qb (J2 hu (jv 2) (jv 1))) (qh (jA rfl hR' (jB xt.mkr Gt hr (by rfl) xt.ns xt.bi jG (qd (jv 2) qf)))) qv) (qh (j7 hu (jv 1) (jv 2) Qd rfl))))),?_⟩
  intro D hD
  refine⟨_,rfl,l,rfl,⟨_,.of (qw hl hD)⟩,?_⟩
  rcases h with ⟨hn,q⟩ | ⟨i0,z0,e0,m0,nd0,o⟩
  ·refine jk (K:=K) (a:=l) (xs:=zs.map V.str) (λi σ' H'=>∃v kvs,σ'=[some (.ref l),some (.ref D),v]/\Same H H'/\H' D=some (.dK kvs)/\kvs.map (·.1)=(zs.take i).map Sum.inr) ⟨none,[],rfl,qm hD,qe,rfl⟩ (λi σ' H' _ ⟨_,_,_,s,_⟩=>.of (s _ _ hl)) ?_ ?_
   ·rintro i x σ' H' hx ⟨v,kvs,rfl,s1,hD1,ek⟩
    obtain⟨z,e,hz',rfl⟩:=Qg hx
    obtain⟨dg,lk,n1,_⟩:=yh (by omega) e hD1 ek
    have ez:=n1 (yc (hn.sublist (zbY _ _)) e)
    rw[ez]at dg
    refine⟨_,rfl,_,rfl,D,none,rfl,dg,_,rfl,jh ?_⟩
    refine⟨_,rfl,_,rfl,D,_,rfl,Jk.k (k:=(Sum.inr z:qG)) hD1 lk,_,_,rfl,Same.upd s1 hD,qe,?_⟩
    rw[JU _ ez,ek,tO,e,tH]
    rfl
   ·rintro σ' H' ⟨v,kvs,rfl,s1,_⟩
    exact q H' s1
  ·refine jk (K:=K) (a:=l) (xs:=zs.map V.str) (λi σ' H'=>(∃v kvs,σ'=[some (.ref l),some (.ref D),v]/\Same H H'/\H' D=some (.dK kvs)/\kvs.map (·.1)=(zs.take i).map Sum.inr)/\i<=i0) ⟨⟨none,[],rfl,qm hD,qe,rfl⟩,zao _⟩ (λi σ' H' _ ⟨⟨_,_,_,s,_⟩,_⟩=>.of (s _ _ hl)) ?_ ?_
   ·rintro i x σ' H' hx ⟨⟨v,kvs,rfl,s1,hD1,ek⟩,hi⟩
    obtain⟨z,e,hz',rfl⟩:=Qg hx
    obtain⟨dg,lk,n1,n2⟩:=yh (by omega) e hD1 ek
    rcases zbe i i0 with c0 | c0
    ·have ez:=n1 (yc (yd nd0 c0) e)
     rw[ez]at dg
     refine⟨_,rfl,_,rfl,D,none,rfl,dg,_,rfl,jh ?_⟩
     refine⟨_,rfl,_,rfl,D,_,rfl,Jk.k (k:=(Sum.inr z:qG)) hD1 lk,⟨_,_,rfl,Same.upd s1 hD,qe,?_⟩,c0⟩
     rw[JU _ ez,ek,tO,e,tH]
     rfl
    ·have ei:i=i0:=by omega
     subst ei
     rw[e]at e0
     obtain rfl:=tX.inj e0
     refine⟨_,rfl,_,rfl,D,_,rfl,dg,_,rfl,qW (n2 m0) ?_⟩
     exact⟨_,rfl,by show 1<=zdB;decide,QC (C:=c.t) (.twice z) xt (o.mono s1)⟩
   ·rintro σ' H' ⟨_,hi⟩
    have:=(tq.mp e0).1
    rw[tj]at hi
    omega
theorem Kp{f D:Addr}{c:C4}{fd:zdA}(F:jw K "need_ends" "need_ends" Uj f fd)(X4:Mn K mg D c):qo P w K mg base (jX P w) 3 f fd ["ends","order"] (W9 c):=by
 obtain⟨ft,fdt,xt⟩:=X4.t
 obtain⟨fp,fdp,xp⟩:=X4.p
 have Gt:qo P w K mg base qJ 1 ft fdt ["self","found"] (zc c.t "found"):=Bl xt
 have Gp:qo P w K mg base qJ 1 fp fdp ["self","found"] (zc c.p "found"):=Bm xp
 refine F.okX Yc (λvs H Q E h=>?_) (λcdv A outer s H vs Q E hr h=>?_)
 ·obtain⟨x,l,es,zs,rfl,_⟩:=h
  rfl
 ·obtain⟨x,l,es,zs,rfl,hx,hl,hz,h⟩:=h
  have hu:=Qp hr
  refine⟨_,qg (qD (i:=2) Yc.nd rfl (Or.inl rfl) Qc)
   (qh (J0 (t:=zZ (Dv K (qS 0)) (j3 3) (X6 (YM (kt (Xi (C7 K true) (qS 3) (qS 1))) (zd K E (yV c.p (zc c.p "found") E0 (jg (qS 3) Qf))) Zd) (X6 (YM (tB (wO (qS 3) (qS 2))) (zd K E (yV c.t (zc c.t "found") E0 (jg (qS 3) Qf))) Zd) (uG (qS 2) (qS 3) (tC (.bl true)))))) λpn W hO hP hR'=>
    jC hO rfl (Vs (jv 0)) (qx (i:=3) Yc.nd rfl (Or.inl rfl))
    (qg (qE (qA Q2 (jv 3) (jv 1) (by with_unfolding_all rfl)) (qh (jA rfl hR' (jB xp.mkr Gp hr (by rfl) xp.ns xp.bi jG (qd (jv 3) qf)))) qv)
    (qg (qE (Qb (J2 hu (jv 3) (jv 2))) (qh (jA rfl hR' (jB xt.mkr Gt hr (by rfl) xt.ns xt.bi jG (qd (jv 3) qf)))) qv) (qh (j7 hu (jv 2) (jv 3) Qd rfl)))))),?_⟩
  intro D hD
  refine⟨_,rfl,x,rfl,⟨_,.of (qw hx hD)⟩,?_⟩
  have noin:∀{z:Str},z∉zs->Yu (.str z) (zs.map V.str)=false:=λ{z} n=>by
   cases e:Yu (.str z) (zs.map V.str) with
   | false=>rfl
   | true=>exact absurd (Vt.mp e) n
  rcases h with ⟨hn,hin,q⟩ | ⟨i0,z0,e0,nd0,in0,h⟩
  ·refine Vw (K:=K) (a:=x) (xs:=es.map V.str) (λi σ' H'=>∃v kvs,σ'=[some (.ref x),some (.ref l),some (.ref D),v]/\Same H H'/\H' D=some (.dK kvs)/\kvs.map (·.1)=(es.take i).map Sum.inr) ⟨none,[],rfl,qm hD,qe,rfl⟩ (λi σ' H' _ ⟨_,_,_,s,_⟩=>.of (s _ _ hx)) ?_ ?_
   ·rintro i y σ' H' hy ⟨v,kvs,rfl,s1,hD1,ek⟩
    obtain⟨z,e,hz',rfl⟩:=Qg hy
    obtain⟨dg,lk,n1,_⟩:=yh (by omega) e hD1 ek
    have ez:=n1 (yc (hn.sublist (zbY _ _)) e)
    rw[ez]at dg
    refine⟨_,rfl,_,rfl,l,_,rfl,.inl (.of (s1 _ _ hl)),rfl,Q9 zs,_,rfl,?_⟩
    rw[J4 (hin z hz')]
    refine jh ⟨_,rfl,_,rfl,D,none,rfl,dg,_,rfl,jh ?_⟩
    refine⟨_,rfl,_,rfl,D,_,rfl,Jk.k (k:=(Sum.inr z:qG)) hD1 lk,_,_,rfl,Same.upd s1 hD,qe,?_⟩
    rw[JU _ ez,ek,tO,e,tH]
    rfl
   ·rintro σ' H' ⟨v,kvs,rfl,s1,_⟩
    exact q H' s1
  ·refine Vw (K:=K) (a:=x) (xs:=es.map V.str) (λi σ' H'=>(∃v kvs,σ'=[some (.ref x),some (.ref l),some (.ref D),v]/\Same H H'/\H' D=some (.dK kvs)/\kvs.map (·.1)=(es.take i).map Sum.inr)/\i<=i0) ⟨⟨none,[],rfl,qm hD,qe,rfl⟩,zao _⟩ (λi σ' H' _ ⟨⟨_,_,_,s,_⟩,_⟩=>.of (s _ _ hx)) ?_ ?_
   ·rintro i y σ' H' hy ⟨⟨v,kvs,rfl,s1,hD1,ek⟩,hi⟩
    obtain⟨z,e,hz',rfl⟩:=Qg hy
    obtain⟨dg,lk,n1,n2⟩:=yh (by omega) e hD1 ek
    refine⟨_,rfl,_,rfl,l,_,rfl,.inl (.of (s1 _ _ hl)),rfl,Q9 zs,_,rfl,?_⟩
    rcases zbe i i0 with c0 | c0
    ·have ez:=n1 (yc (yd nd0 c0) e)
     rw[ez]at dg
     have mz:z∈es.take i0:=tV (i:=i) (by rw[zbR c0];exact e)
     rw[J4 (in0 z mz)]
     refine jh ⟨_,rfl,_,rfl,D,none,rfl,dg,_,rfl,jh ?_⟩
     refine⟨_,rfl,_,rfl,D,_,rfl,Jk.k (k:=(Sum.inr z:qG)) hD1 lk,⟨_,_,rfl,Same.upd s1 hD,qe,?_⟩,c0⟩
     rw[JU _ ez,ek,tO,e,tH]
     rfl
    ·have ei:i=i0:=by omega
     subst ei
     rw[e]at e0
     obtain rfl:=tX.inj e0
     rcases h with ⟨no,o⟩ | ⟨yes,m0,o⟩
     ·rw[noin no]
      exact Qj ⟨_,rfl,by show 1<=zdB;decide,QC (C:=c.p) (.place z) xp (o.mono s1)⟩
     ·rw[J4 yes]
      refine jh ⟨_,rfl,_,rfl,D,_,rfl,dg,_,rfl,qW (n2 m0) ?_⟩
      exact⟨_,rfl,by show 1<=zdB;decide,QC (C:=c.t) (.twice z) xt (o.mono s1)⟩
   ·rintro σ' H' ⟨_,hi⟩
    have:=(tq.mp e0).1
    rw[tj]at hi
    omega
end
open PySem L2 PyProof.Rows
structure zS(H:Hp)(l:Addr)(ps:List Addr)(rs:jt):Prop where
 at_:H l=some (.lst (ps.map V.ref))
 rows:jJ H ps rs
 nm:∀r∈rs,qN r.1=true
 nms:∀r∈rs,∀z∈r.2,qN z=true
 len:∀r∈rs,r.2.length<=900
 pos:0 < rs.length
 le:rs.length<=14
theorem zS.mono{H H':Hp}{l:Addr}{ps:List Addr}{rs:jt}(h:zS H l ps rs)(s:Same H H'):zS H' l ps rs:=⟨s _ _ h.at_,h.rows.mono s,h.nm,h.nms,h.len,h.pos,h.le⟩
theorem XH{z:Str}(h:qN z=true):z.length<=8:=by
 unfold qN at h
 simp only[zaa,decide_eq_true_eq]at h
 exact h.1.2
theorem U3{K:zdw}{H:Hp}:∀{zs:List Str},(∀z∈zs,z.length<=1000)->DHs K H (zs.map V.str) (zs.map PyData.str)
 | [],_=>.nil
 | z::zs,h=>.cons (.str z (h z tK)) (U3 λy hy=>h y (tF _ hy))
def BP(r:Str×List Str):PyData:=.tuple [.str r.1,.tuple (r.2.map PyData.str)]
theorem B2{K:zdw}{H:Hp}{p q:Addr}{r:Str×List Str}(hp:H p=some (.tup [.str r.1,.ref q]))(hq:H q=some (.tup (r.2.map V.str)))(h1:r.1.length<=1000)(h2:∀z∈r.2,z.length<=1000)(l:r.2.length<=900):DH K H (.ref p) (BP r):=
 .tup hp (by show 2<=900;decide) (.cons (.str _ h1) (.cons (.tup hq (by rw[tj];exact l) (U3 h2)) .nil))
theorem uJ{r:Str×List Str}(h1:qN r.1=true)(h2:∀z∈r.2,qN z=true):vy (BP r)=true:=by
 show (qN r.1&&(r.2.map PyData.str).all Zi)=true
 rw[h1,zby,zdi,zak]
 exact h2
theorem zS.it{K:zdw}{H:Hp}{l:Addr}{ps:List Addr}{rs:jt}(g:zS H l ps rs){j:Nat}{y:V}(e:(ps.map V.ref)[j]?=some y):VF K H y:=by
 obtain⟨p,q,r,rfl,er,hr,a,b⟩:=g.rows.item e
 exact⟨BP r,B2 a b (tM (XH (g.nm r hr)) (by decide)) (λz hz=>tM (XH (g.nms r hr z hz)) (by decide)) (g.len r hr),uJ (g.nm r hr) (g.nms r hr)⟩
def GZ(K:zdw)(c:C4)(v:V)(H:Hp)(E:XK):Prop:=
 (∃d,DH K H v d/\D1 d=false/\YL c E H (.ground 0))\/(∃l,v=.ref l/\H l=some (.lst [])/\YL c E H (.ground 0))\/
  (∃l xs,v=.ref l/\H l=some (.lst xs)/\14 < xs.length/\xs.length<=1000/\YL c E H (.many xs.length))\/
  (∃(l:Addr) (xs:List V) (i:Nat) (x:V) (d:PyData),v=.ref l/\H l=some (.lst xs)/\xs.length<=14/\xs[i]?=some x/\DH K H x d/\vy d=false/\(∀(j:Nat) (y:V),j < i->xs[j]?=some y->VF K H y)/\YL c E H (.ground i))
theorem GZ.sp{K:zdw}{c:C4}{v:V}{H:Hp}{Q:VK}{E:XK}(h:GZ K c v H E):W8 K c [v] H Q E:=by
 rcases h with h | h | h | h
 ·exact⟨v,rfl,.inl h⟩
 ·exact⟨v,rfl,.inr (.inl h)⟩
 ·exact⟨v,rfl,.inr (.inr (.inl h))⟩
 ·exact⟨v,rfl,.inr (.inr (.inr (.inl h)))⟩
def Mo(c:C4)(H:Hp)(E:XK)(zs es:List Str):Prop:=∃(i:Nat) (z:Str),es[i]?=some z/\(es.take i).Nodup/\(∀y∈es.take i,y∈zs)/\((z∉zs/\YL c E H (.place z))\/(z∈zs/\z∈es.take i/\YL c E H (.twice z)))
theorem Mo.mono{c:C4}{H H':Hp}{E:XK}{zs es:List Str}(h:Mo c H E zs es)(s:Same H H'):Mo c H' E zs es:=by
 obtain⟨i,z,a,b,d,e⟩:=h
 refine⟨i,z,a,b,d,?_⟩
 rcases e with ⟨e1,e2⟩ | ⟨e1,e2,e3⟩
 ·exact .inl ⟨e1,e2.mono s⟩
 ·exact .inr ⟨e1,e2,e3.mono s⟩
def Ff(c:C4)(H:Hp)(E:XK)(rs:jt):Prop:=
 (∃(i:Nat) (z:Str),(rs.map (·.1))[i]?=some z/\z∈(rs.map (·.1)).take i/\((rs.map (·.1)).take i).Nodup/\YL c E H (.twice z))\/
 ((rs.map (·.1)).Nodup/\∃(k:Nat) (r:Str×List Str),rs[k]?=some r/\(∀(j:Nat) (r':Str×List Str),j < k->rs[j]?=some r'->r'.2.Nodup/\∀z∈r'.2,z∈rs.map (·.1))/\Mo c H E (rs.map (·.1)) r.2)\/
 ((rs.map (·.1)).Nodup/\(∀r∈rs,r.2.Nodup/\∀z∈r.2,z∈rs.map (·.1))/\40 < (rs.map λr=>r.2.length).sum/\YL c E H (.many (rs.map λr=>r.2.length).sum))
def GX(K:zdw)(c:C4)(v:V)(H:Hp)(E:XK):Prop:=GZ K c v H E\/∃l ps rs,v=.ref l/\zS H l ps rs/\Ff c H E rs
def kG(K:zdw)(c:C4):Sp:=λvs H Q E=>∃v,vs=[v]/\GX K c v H E
def ue(c:C4):Sp:=λvs H Q E=>∃(l:Addr) (ps:List Addr) (rs:jt),vs=[.ref l]/\zS H l ps rs/\40 < (rs.map λr=>r.2.length).sum/\YL c E H (.many (rs.map λr=>r.2.length).sum)
theorem As{xs:List Nat}{m:Nat}(h:∀x∈xs,x<=m):xs.sum<=xs.length*m:=by
 induction xs with
 | nil=>simp
 | cons x xs ih=>
  have h1:=h x tK
  have h2:=ih λy hy=>h y (tF _ hy)
  rw[zam,tP,Nat.succ_mul]
  omega
theorem zS.sum{H:Hp}{l:Addr}{ps:List Addr}{rs:jt}(g:zS H l ps rs):(rs.map λr=>r.2.length).sum < 2^60:=by
 have h1:=As (xs:=rs.map λr=>r.2.length) (m:=900) λx hx=>by
  obtain⟨r,hr,rfl⟩:=tQ.mp hx
  exact g.len r hr
 rw[tj]at h1
 have:=g.le
 exact zax h1 (zax (Nat.mul_le_mul_right 900 this) (by decide))
section
variable{P:Program}{w:World}{K:zdw}{mg:Str->Option Value}{base:Heap}
theorem QL{X:Cx}{x:Str}{st:Stmt}{ps:List Str}{f:Addr}{fd:zdA}{k:Nat}{sp:Sp}{E:XK}{e:Expr}{es:List Expr}{t:TA}{p pos:Pos}(h:qZ X.K X.mg x st ps f fd)(G:qo X.prog X.w X.K X.mg X.base (jX X.prog X.w) k f fd ps sp)(hr:qO k X.A)(hx:jQ (jX X.prog X.w) X E)
 (hg:Gl X x) (ha:JA X (e::es) t) (hdb:(x==("__debug__":Str))=false:=by decide) (he:starEach (e::es) X.env=(false,eval e X.env)::starEach es X.env:=by rfl) (hpl:(backTo pos (starEach es X.env)).any (·.1)=false:=by rfl):
 JE X (.Call (.Name x p) (e::es) [] pos) (QY sp [] E t):=.of (Vh G hr hg h.ns h.fn.kp h.bi .nil hx ha.to hdb he hpl)
theorem NE{f D:Addr}{c:C4}{fd:zdA}(F:jw K "need_few_roads" "need_few_roads" uD f fd)(B:QB mg)(T:j9 K mg)(X4:Mn K mg D c):qo P w K mg base (jX P w) 3 f fd ["rows"] (ue c):=by
 obtain⟨tm,hmr⟩:=T.mr
 obtain⟨fm,fdm,xm⟩:=X4.m
 have Gm:qo P w K mg base qJ 1 fm fdm ["self","found"] (zc c.m "found"):=Bo xm
 refine F.okX kQ (λvs H Q E h=>?_) (λcdv A outer s H vs Q E hr h=>?_)
 ·obtain⟨l,ps,rs,rfl,_⟩:=h
  rfl
 ·obtain⟨l,ps,rs,rfl,g,big,o⟩:=h
  have sm:=g.sum
  refine⟨_,qg (qD (i:=1) kQ.nd rfl (Or.inl rfl) (qu (WN rfl) (by rfl) T.sum boot_sum (qd (Ql (N':=["row"]) (ix:=[none]) (te:=Cq (λxs H Q=>∃p ys,xs=[.ref p]/\(SqL K H p ys\/SqT K H p ys)/\Q (.int ys.length) H) (jg (Xi (Us K) (qS 0) (tC (.int 1))) Qf)) rfl ⟨rfl,rfl,rfl,rfl,rfl⟩ (qL (jv 0)) (λC s2 H2 fp pins=>
    ⟨qx (i:=0) (vJ _) rfl (Or.inl rfl),jr,qu qB (by rfl) B.len boot_len (qd (qQ jI (jv 0) ql (λ_ _=>rfl)) qf)⟩)) qf)))
   (qh (qE (qA Zy (jv 1) (qM (v:=.int 40) (by rfl) hmr ⟨_,rfl⟩) (qC _)) (qh (jA rfl Qh (jB xm.mkr Gm hr (by rfl) xm.ns xm.bi jG (qd (jv 1) qf)))) qv)),?_⟩
  refine⟨_,rfl,l,rfl,⟨_,.of g.at_⟩,λD0 hD=>?_⟩
  refine Qe (K:=K) (a:=l) (xs:=ps.map V.ref) (λi σ' H'=>∃v,σ'=[v]/\H'=upd H D0 (.lst (((rs.take i).map λr=>r.2.length).map λn=>V.int ((n:Nat):Int)))) ⟨none,rfl,rfl⟩ (λi σ' H' _ ⟨_,_,e⟩=>e▸.of (qw g.at_ hD)) ?_ ?_
  ·rintro i x σ' H' hx ⟨v,rfl,rfl⟩
   obtain⟨p',q',r,rfl,er,hr',a,b⟩:=g.rows.item hx
   have hi:=(tq.mp er).1
   refine⟨_,rfl,p',_,1,_,rfl,rfl,.of (qw a hD),rfl,q',_,rfl,.inr (.of (qw b hD)),_,qe,?_,_,rfl,?_⟩
   ·rw[tj,tj,zag]
    have:=g.le
    exact qy (by omega)
   ·rw[Qs,tO,er,tH,tH,tj]
    rfl
  ·rintro σ' H' ⟨v,rfl,rfl⟩
   have e:rs.take (ps.map V.ref).length=rs:=tI (by rw[tj,g.rows.1];exact tu _)
   rw[e]
   refine⟨D0,_,rfl,.of qe,tE sm (by decide),?_⟩
   have s0:=qm (o:=HO.lst ((rs.map λr=>r.2.length).map λn=>V.int ((n:Nat):Int))) hD
   generalize upd H D0 (.lst ((rs.map λr=>r.2.length).map λn=>V.int ((n:Nat):Int)))=H1 at s0
   refine⟨_,rfl,_,_,rfl,rfl,_,rfl,qW (decide_eq_true (by show (40:Int) < _;omega)) ?_⟩
   exact⟨_,rfl,by show 1<=zdB;decide,QC (C:=c.m) (.many _) xm (o.mono s0)⟩
theorem Kg{f D:Addr}{c:C4}{fd:zdA}(F:jw K "need_rows" "need_rows" YD f fd)(B:QB mg)(G:Qm mg)(T:j9 K mg)(N:kc K mg)(X4:Mn K mg D c):qo P w K mg base (jX P w) 5 f fd ["rows"] (kG K c):=by
 obtain⟨fN,fdN,hN⟩:=N.nm
 obtain⟨fP,fdP,hP⟩:=N.tn
 obtain⟨fR,fdR,hR⟩:=N.rw
 obtain⟨fF,fdF,hF⟩:=N.fo
 obtain⟨fO,fdO,hO⟩:=N.ow
 obtain⟨fE,fdE,hE⟩:=N.en
 obtain⟨fW,fdW,hW⟩:=N.fw
 have GF:qo P w K mg base (jX P w) 4 fF fdF ["rows"] (W8 K c):=Ko hF.fn B G T hN hP hR X4
 have GO:qo P w K mg base (jX P w) 3 fO fdO ["order"] (w4 c):=Nt hO.fn X4
 have GE:qo P w K mg base (jX P w) 3 fE fdE ["ends","order"] (W9 c):=Kp hE.fn X4
 have GW:qo P w K mg base (jX P w) 3 fW fdW ["rows"] (ue c):=NE hW.fn B T X4
 refine F.okX Ya (λvs H Q E h=>?_) (λcdv A outer s H vs Q E hr h=>?_)
 ·obtain⟨v,rfl,_⟩:=h
  rfl
 ·obtain⟨v,rfl,h⟩:=h
  have r3:qO 3 _:=hr.mono (by decide)
  refine⟨_,qg (jf (QL hF GF hr qU (by rfl) (qd (jv 0) qf)))
   (qg (zK (i:=1) (N':=["row"]) (ix:=[none]) (te:=Xi (Us K) (qS 0) (tC (.int 0))) Ya.nd rfl (Or.inl rfl) rfl ⟨rfl,rfl,rfl,rfl,rfl⟩ (qL (jv 0)) (λC s2 H2 fp pins=>
    ⟨qx (i:=0) (vJ _) rfl (Or.inl rfl),jr,qQ jI (jv 0) ql (λ_ _=>rfl)⟩))
   (qg (jf (QL hO GO r3 qU (by rfl) (qd (jv 1) qf)))
   (qg (J0 (t:=zZ (zM K (qS 0)) (j3 2) (kx (QY (W9 c) [] E (jg (Xi (Us K) (qS 2) (tC (.int 1))) (jg (qS 1) Qf))))) λpn W hO hP' hR=>jC hO rfl (qL (jv 0)) (qx (i:=2) Ya.nd rfl (Or.inl rfl))
    (qh (jf (QL hE GE r3 hP' (by rfl) (qd (qQ jI (jv 2) ql (λ_ _=>rfl)) (qd (jv 1) qf))))))
   (qh (jf (QL hW GW r3 qU (by rfl) (qd (jv 0) qf))))))),?_⟩
  rcases h with h | ⟨l,ps,rs,rfl,g,h⟩
  ·exact⟨_,rfl,Bp h.sp⟩
  have lps:=g.rows.1
  have le:=g.le
  refine⟨_,rfl,.ref l,rfl,.inr (.inr (.inr (.inr ⟨l,_,rfl,g.at_,by rw[tj,lps];exact g.pos,by rw[tj,lps];exact le,λj y e=>g.it e,λH1 s1=>?_⟩)))⟩
  have g1:=g.mono s1
  refine⟨_,rfl,l,rfl,⟨_,.of g1.at_⟩,λD hD=>?_⟩
  refine Qe (K:=K) (a:=l) (xs:=ps.map V.ref) (λi σ' H'=>∃v,σ'=[v]/\H'=upd H1 D (.lst (((rs.take i).map (·.1)).map V.str))) ⟨none,rfl,rfl⟩ (λi σ' H' _ ⟨_,_,e⟩=>e▸.of (qw g1.at_ hD)) ?_ ?_
  ·rintro i x σ' H' hx ⟨v,rfl,rfl⟩
   obtain⟨p',q',r,rfl,er,hr',a,b⟩:=g1.rows.item hx
   have hi:=(tq.mp er).1
   refine⟨_,rfl,p',_,0,_,rfl,rfl,.of (qw a hD),rfl,_,qe,?_,_,rfl,?_⟩
   ·rw[tj,tj,zag]
    exact qy (by omega)
   ·rw[Qs,tO,er,tH,tH]
    rfl
  ·rintro σ' H' ⟨v,rfl,rfl⟩
   have e:rs.take (ps.map V.ref).length=rs:=tI (by rw[tj,lps];exact tu _)
   rw[e]
   have sD0:Same H1 (upd H1 D (.lst ((rs.map (·.1)).map V.str))):=qm hD
   have hD0:upd H1 D (.lst ((rs.map (·.1)).map V.str)) D=some (.lst ((rs.map (·.1)).map V.str)):=qe
   generalize upd H1 D (.lst ((rs.map (·.1)).map V.str))=H1' at sD0 hD0
   have s1':=s1.trans sD0
   refine⟨_,rfl,D,rs.map (·.1),rfl,hD0,by rw[tj];omega,?_⟩
   rcases h with ⟨i,z,e1,m1,vJ,o⟩ | ⟨nd,k,r,ek,pre,bad⟩ | ⟨nd,all,big,o⟩
   ·exact .inr ⟨i,z,e1,m1,vJ,o.mono s1'⟩
   ·refine .inl ⟨nd,λH2 s2=>?_⟩
    have s12:=s1'.trans s2
    have g2:=g.mono s12
    have hD2:=s2 _ _ hD0
    refine⟨_,rfl,l,rfl,⟨_,.of g2.at_⟩,?_⟩
    refine jk (K:=K) (a:=l) (xs:=ps.map V.ref) (λi σ' H'=>(∃v,σ'=[some (.ref l),some (.ref D),v])/\Same H2 H'/\i<=k) ⟨⟨none,rfl⟩,Same.refl H2,zao _⟩ (λi σ' H' _ ⟨_,s,_⟩=>.of (s _ _ g2.at_)) ?_ ?_
    ·rintro i x σ' H' hx ⟨⟨v,rfl⟩,s3,hi⟩
     obtain⟨p',q',r',rfl,er,hr',a,b⟩:=(g2.mono s3).rows.item hx
     refine⟨_,rfl,p',_,1,_,rfl,rfl,.of a,rfl,_,rfl,q',D,r'.2,rs.map (·.1),rfl,b,s3 _ _ hD2,tM (g.len r' hr') (by decide),?_⟩
     rcases zbe i k with c0 | c0
     ·obtain⟨n1,n2⟩:=pre i r' c0 er
      exact .inl ⟨n1,n2,λH4 s4=>⟨⟨_,rfl⟩,s3.trans s4,c0⟩⟩
     ·have ei:i=k:=by omega
      subst ei
      rw[er]at ek
      obtain rfl:=tX.inj ek
      exact .inr (bad.mono (s12.trans s3))
    ·rintro σ' H' ⟨_,_,hi⟩
     have:=(tq.mp ek).1
     rw[tj]at hi
     omega
   ·refine .inl ⟨nd,λH2 s2=>?_⟩
    have s12:=s1'.trans s2
    have g2:=g.mono s12
    have hD2:=s2 _ _ hD0
    refine⟨_,rfl,l,rfl,⟨_,.of g2.at_⟩,?_⟩
    refine jk (K:=K) (a:=l) (xs:=ps.map V.ref) (λi σ' H'=>(∃v,σ'=[some (.ref l),some (.ref D),v])/\Same H2 H') ⟨⟨none,rfl⟩,Same.refl H2⟩ (λi σ' H' _ ⟨_,s⟩=>.of (s _ _ g2.at_)) ?_ ?_
    ·rintro i x σ' H' hx ⟨⟨v,rfl⟩,s3⟩
     obtain⟨p',q',r',rfl,er,hr',a,b⟩:=(g2.mono s3).rows.item hx
     obtain⟨n1,n2⟩:=all r' hr'
     exact⟨_,rfl,p',_,1,_,rfl,rfl,.of a,rfl,_,rfl,q',D,r'.2,rs.map (·.1),rfl,b,s3 _ _ hD2,tM (g.len r' hr') (by decide),.inl ⟨n1,n2,λH4 s4=>⟨⟨_,rfl⟩,s3.trans s4⟩⟩⟩
    ·rintro σ' H' ⟨⟨v,rfl⟩,s3⟩
     exact⟨_,rfl,l,ps,rs,rfl,g2.mono s3,big,o.mono (s12.trans s3)⟩
def MJ(K:zdw)(c:C4):Sp:=λvs H Q E=>∃x v,vs=[x,v]/\GX K c v H E
theorem xw{f fW CG D:Addr}{c:C4}{fd fdW:zdA}(C:Mp K mg CG f fd)(B:QB mg)(G:Qm mg)(T:j9 K mg)(N:kc K mg)(hW:qZ K mg "need_rows" YD ["rows"] fW fdW)(X4:Mn K mg D c):qo P w K mg base (jX P w) 6 f fd ["self","rows"] (MJ K c):=by
 have GW:qo P w K mg base (jX P w) 5 fW fdW ["rows"] (kG K c):=Kg hW.fn B G T N X4
 refine C.fn.okX AE (λvs H Q E h=>?_) (λcdv A outer s H vs Q E hr h=>?_)
 ·obtain⟨x,v,rfl,_⟩:=h
  rfl
 ·obtain⟨x,v,rfl,h⟩:=h
  exact⟨_,qg (jf (QL hW GW hr qU (by rfl) (qd (jv 1) qf))) qI,_,rfl,v,rfl,h⟩
end
open PySem L2 PyProof.Rows
theorem atI_get{xs:List V}{r:Int}(h0:0<=r)(h1:r < (xs.length:Int)):∃v,yH xs r=some v/\xs[r.toNat]?=some v:=by
 have:r.toNat < xs.length:=by omega
 refine⟨xs[r.toNat],?_,tW this⟩
 unfold yH M6
 rw[if_pos h0,if_pos h1]
 exact tW this
abbrev Qq:Str:=⟨#[32]⟩
abbrev ZJ:Str:=⟨#[58]⟩
def YT(z:Str)(r:Str×List Str):Prop:=qN r.1=true/\(∀x∈r.2,qN x=true)/\z=Str.join Qq ((r.1++ZJ)::r.2)
theorem Uz{z:Str}(h:qN z=true):∀c∈z.cps.toList,97<=c:=by
 unfold qN at h
 simp only[zaa,decide_eq_true_eq]at h
 intro c hc
 have:=zak.mp h.2 c hc
 unfold Jg at this
 simp only[zaa,decide_eq_true_eq]at this
 exact this.1
theorem zH{z:Str}(h:qN z=true){c:Nat}(hc:c < 97):c∉z.cps.toList:=λm=>by
 have:=Uz h c m
 omega
theorem QD(c:Nat)(x y:Str)(l:List Str):(Str.join ⟨#[c]⟩ (x::y::l)).cps.toList=x.cps.toList++c::(Str.join ⟨#[c]⟩ (y::l)).cps.toList:=by
 show ((x++⟨#[c]⟩)++Str.join ⟨#[c]⟩ (y::l)).cps.toList=_
 show ((x.cps++#[c])++(Str.join ⟨#[c]⟩ (y::l)).cps).toList=_
 simp
theorem ZY(a b:Str):(a++b).cps.toList=a.cps.toList++b.cps.toList:=by
 show (a.cps++b.cps).toList=_
 simp
theorem XR(a b:Str)(l:List Str):(Str.join Qq ((a++b)::l)).cps.toList=a.cps.toList++(Str.join Qq (b::l)).cps.toList:=by
 cases l with
 | nil=>exact ZY a b
 | cons y l=>
  rw[QD,QD,ZY]
  simp
theorem WG{c:Nat}(hc:c≠32):∀{l:List Str},(∀x∈l,c∉x.cps.toList)->c∉(Str.join Qq l).cps.toList
 | [],_=>by show c∉([]:List Nat);simp
 | [x],h=>h x tK
 | x::y::l,h=>by
  rw[QD]
  intro m
  rcases zar.mp m with m | m
  ·exact h x tK m
  ·rcases tJ.mp m with m | m
   ·exact hc m
   ·exact WG hc (λz hz=>h z (tF _ hz)) m
theorem wj(a:Str):a++(⟨#[]⟩:Str)=a:=zu (by rw[ZY];simp)
theorem Uo(a:Str)(ns:List Str):Str.join Qq ((a++ZJ)::ns)=Str.join ZJ [a,Str.join Qq (⟨#[]⟩::ns)]:=by
 refine zu ?_
 rw[XR,QD]
 congr 1
 show (Str.join Qq (ZJ::ns)).cps.toList=58::(Str.join Qq (⟨#[]⟩::ns)).cps.toList
 have:=XR ZJ ⟨#[]⟩ ns
 rw[wj]at this
 exact this
theorem Q8{z:Str}{r:Str×List Str}(h:YT z r):Txt.split z ZJ=[r.1,Str.join Qq (⟨#[]⟩::r.2)]:=by
 obtain⟨h1,h2,e⟩:=h
 rw[e,Uo]
 refine Z9 (by simp) λx hx=>?_
 rcases tJ.mp hx with rfl | hx
 ·exact zH h1 (by decide)
 ·rw[zaf.mp hx]
  refine WG (by decide) λy hy=>?_
  rcases tJ.mp hy with rfl | hy
  ·simp
  ·exact zH (h2 y hy) (by decide)
theorem Yh{z:Str}{r:Str×List Str}(h:YT z r):Txt.split (Str.join Qq (⟨#[]⟩::r.2)) Qq=⟨#[]⟩::r.2:=by
 refine Z9 (by simp) λy hy=>?_
 rcases tJ.mp hy with rfl | hy
 ·simp
 ·exact zH (h.2.1 y hy) (by decide)
theorem wg{z a b:Str}{ns:List Str}(e:Txt.split z ZJ=[a,b])(ha:qN a=true)(eb:Txt.split b Qq=⟨#[]⟩::ns)(hn:∀x∈ns,qN x=true):YT z (a,ns):=by
 refine⟨ha,hn,?_⟩
 rw[Uo,<-eb,StrLaws.join_split,<-e,StrLaws.join_split]
theorem xk{z:Str}{r:Str×List Str}(h:YT z r):Txt.split z Qq=(r.1++ZJ)::r.2:=by
 obtain⟨h1,h2,e⟩:=h
 rw[e]
 refine Z9 (by simp) λx hx=>?_
 rcases tJ.mp hx with rfl | hx
 ·rw[ZY]
  intro m
  rcases zar.mp m with m | m
  ·exact zH h1 (by decide) m
  ·simp at m
 ·exact zH (h2 x hx) (by decide)
theorem Jo(x:Str):x.length=x.cps.toList.length:=by
 show x.cps.size=_
 simp
theorem XQ{c:Nat}:∀{l:List Str} {x:Str},x∈l->x.length<=(Str.join ⟨#[c]⟩ l).length
 | [y],x,h=>by rw[zaf.mp h];exact tu _
 | y::y2::l,x,h=>by
  have e:=congrArg zbs (QD c y y2 l)
  rw[<-Jo,tR,tP,<-Jo,<-Jo]at e
  rcases tJ.mp h with rfl | h
  ·omega
  ·have:=XQ (c:=c) h
   omega
theorem WE{c:Nat}:∀(l:List Str),l.length<=(Str.join ⟨#[c]⟩ l).length+1
 | []=>zao _
 | [y]=>by show 1<=_;omega
 | y::y2::l=>by
  have e:=congrArg zbs (QD c y y2 l)
  rw[<-Jo,tR,tP,<-Jo,<-Jo]at e
  have:=WE (c:=c) (y2::l)
  simp only[tP]at this ⊢
  omega
theorem Q7{z x:Str}{c:Nat}(h:x∈Txt.split z ⟨#[c]⟩):x.length<=z.length:=by
 have:=XQ (c:=c) h
 rwa [StrLaws.join_split]at this
theorem Z8(z:Str)(c:Nat):(Txt.split z ⟨#[c]⟩).length<=z.length+1:=by
 have:=WE (c:=c) (Txt.split z ⟨#[c]⟩)
 rwa [StrLaws.join_split]at this
theorem NQ:zdx ":"=ZJ:=by decide+kernel
theorem vQ:zdx " "=Qq:=by decide+kernel
theorem Dr:zdx ""=(⟨#[]⟩:Str):=by decide+kernel
theorem js{x:V}{xs:List V}:yH (x::xs) 0=some x:=by
 obtain⟨v,e1,e2⟩:=atI_get (xs:=x::xs) (r:=0) (by omega) (by rw[tP];omega)
 rw[e1]
 exact e2.symm
theorem Ws{n:Nat}(h:n<=2000):n < zdB:=zax h (by decide)
def Xm:Sp:=λvs H Q _=>∃z:Str,vs=[.str z]/\z.length<=1000/\∀b H',Same H H'->(b=true↔∃r,YT z r)->Q (.bl b) H'
section
variable{P:Program}{w:World}{K:zdw}{mg:Str->Option Value}{base:Heap}
theorem uu:qp ["line","halves","words"] ["line"] (qj ZT):=zdv
theorem xv{f fN:Addr}{fd fdN:zdA}(F:jw K "is_line" "is_line" ZT f fd)(B:QB mg)(T:j9 K mg)(hN:qZ K mg "is_name" QZ ["thing"] fN fdN):qo P w K mg base qJ 2 f fd ["line"] Xm:=by
 have GN:qo P w K mg base qJ 1 fN fdN ["thing"] (Wn K):=zG hN.fn B T
 refine F.okJ uu (λvs H Q E h=>?_) (λcdv A outer s H vs Q E hr h=>?_)
 ·obtain⟨z,rfl,_⟩:=h
  rfl
 ·obtain⟨z,rfl,l1,q⟩:=h
  have hu:=Qp hr
  refine⟨_,qg (qD (i:=1) uu.nd rfl (Or.inl rfl) (QG t9 zaN zaO Je (jv 0) (qd qk qf)))
   (qg (qE (JW.pt (Jp (qA Wx (qu qB (by rfl) B.len boot_len (qd (jv 1) qf)) (ql) (qC _)) (QK (jy (jd (qT hN GN hr (by rfl) (qd (qQ qP (jv 1) (ql) (λ_ _=>rfl)) qf))))))) (qh (qt Qd)) qv)
   (qg (qD (i:=2) uu.nd rfl (Or.inl rfl) (QG t9 zaN zaO Je (qQ qP (jv 1) (ql) (λ_ _=>rfl)) (qd qk qf)))
   (qh (qt (QM (jE jY (qQ qP (jv 2) (ql) (λ_ _=>rfl)) qk (qC _)) (QP (qu (QR rfl) (by rfl) T.all boot_all (qd (Ql (N':=["word"]) (ix:=[none]) (te:=QY (Wn K) [] E0 (jg (qS 0) Qf)) rfl ⟨rfl,rfl,rfl,rfl,rfl⟩ (qL (jZ Qt (jv 2) (Qv ql) Qw)) (λC s2 H2 fp pins=>
    ⟨qx (i:=0) (vJ _) rfl (Or.inl rfl),jr,qT hN GN hr (by rfl) (qd (jv 0) qf)⟩)) qf)))))))),?_⟩
  refine⟨_,rfl,rfl,z,_,rfl,rfl,by decide+kernel,l1,λl hl=>?_⟩
  rw[NQ]
  have s1:=qm (o:=HO.lst ((Txt.split z ZJ).map V.str)) hl
  have y1:upd H l (HO.lst ((Txt.split z ZJ).map V.str)) l=some (.lst ((Txt.split z ZJ).map V.str)):=qe
  generalize upd H l (HO.lst ((Txt.split z ZJ).map V.str))=H1 at s1 y1
  refine⟨_,rfl,l,_,rfl,.inl (.of y1),rfl,_,rfl,?_⟩
  by_cases c2:(Txt.split z ZJ).length=2
  ·obtain⟨a,b,e⟩:∃a b,Txt.split z ZJ=[a,b]:=by
    match h:Txt.split z ZJ,c2 with
    | [a,b],_=>exact⟨a,b,rfl⟩
   have la:a.length<=1000:=tM (Q7 (c:=58) (by show a∈Txt.split z ZJ;rw[e];simp)) l1
   have lb:b.length<=1000:=tM (Q7 (c:=58) (by show b∈Txt.split z ZJ;rw[e];simp)) l1
   rw[e]at y1 ⊢
   refine qH rfl ⟨_,rfl,l,_,0,.str a,rfl,rfl,.of y1,rfl,.str a,.str a,rfl,.str a la,λH2 s2=>⟨_,rfl,?_⟩⟩
   cases ca:qN a with
   | false=>
    have e1:Zi (.str a)=false:=ca
    rw[e1]
    refine Qj ?_
    refine q false H2 (s1.trans s2) ⟨(λh=>nomatch h),λ⟨r,h⟩=>?_⟩
    have e2:=Q8 h
    rw[e]at e2
    have e3:a=r.1:=(zbv.inj e2).1
    rw[e3,h.1]at ca
    cases ca
   | true=>
    have e1:Zi (.str a)=true:=ca
    rw[e1]
    refine jh ⟨_,rfl,l,_,1,.str b,rfl,rfl,.of (s2 _ _ y1),rfl,rfl,b,_,rfl,rfl,by decide+kernel,lb,λl2 f2=>?_⟩
    rw[vQ]
    have s3:=qm (o:=HO.lst ((Txt.split b Qq).map V.str)) f2
    have y3:upd H2 l2 (HO.lst ((Txt.split b Qq).map V.str)) l2=some (.lst ((Txt.split b Qq).map V.str)):=qe
    generalize upd H2 l2 (HO.lst ((Txt.split b Qq).map V.str))=H3 at s3 y3
    have s13:=(s1.trans s2).trans s3
    have mem:∀x∈Txt.split b Qq,x.length<=1000:=λx hx=>tM (Q7 (c:=32) hx) lb
    have many:(Txt.split b Qq).length<=1001:=by have:=Z8 b 32;show (Txt.split b ⟨#[32]⟩).length<=_;omega
    cases ew:Txt.split b Qq with
    | nil=>exact absurd ew (zx _ _)
    | cons w0 ws=>
     rw[ew]at y3 mem many
     refine⟨_,rfl,l2,_,0,.str w0,rfl,rfl,.of y3,js,rfl,_,rfl,?_⟩
     by_cases c0:w0=(⟨#[]⟩:Str)
     ·have ec:J7 ((w0::ws).map V.str) (some (1:Int)) none=ws.map V.str:=by
       unfold J7
       rw[HT.sIx_none,show (1:Int)=((1:Nat):Int) from rfl,HT.sIx_nat,tj,tP,zbD (by omega),tL,zcq,zdg,tI (by rw[tj];omega)]
      refine qW (decide_eq_true (by rw[c0,Dr])) ⟨_,rfl,1,rfl,l2,_,rfl,.of y3,λl3 f3=>?_⟩
      rw[ec]
      have s4:=qm (o:=HO.lst (ws.map V.str)) f3
      have y4:upd H3 l3 (HO.lst (ws.map V.str)) l3=some (.lst (ws.map V.str)):=qe
      generalize upd H3 l3 (HO.lst (ws.map V.str))=H4 at s4 y4
      refine⟨l3,rfl,⟨_,.of y4⟩,λW hW=>?_⟩
      refine J9 (K:=K) (a:=l3) (xs:=ws) (enc:=V.str) (out:=λx=>some (V.bl (qN x))) (rest:=[]) hW y4 (Ws (by rw[tP]at many;omega)) (λx hx Y sY Rr hR=>hR Y (Same.refl Y)) (λx hx v ev Y sY Rr hR=>?_) (λH5 s5 hW5=>?_)
      ·cases ev
       exact⟨_,rfl,.str x,.str x,rfl,.str x (mem x (tF _ hx)),λY2 s2'=>hR Y2 s2'⟩
      ·have em:ws.filterMap (λx=>some (V.bl (qN x)))=(ws.map qN).map V.bl:=by
        rw[zaM]
        induction ws<;>simp [*]
       rw[em]at hW5
       refine⟨W,_,rfl,.of hW5,?_⟩
       refine q _ H5 ((s13.trans s4).trans s5) ⟨λh=>?_,λ⟨r,h⟩=>?_⟩
       ·have hall:∀x∈ws,qN x=true:=by simpa using h
        exact⟨(a,ws),wg e ca (by rw[ew,c0]) hall⟩
       ·have e2:=Q8 h
        rw[e]at e2
        have e4:b=Str.join Qq (⟨#[]⟩::r.2):=(zbv.inj (zbv.inj e2).2).1
        have e5:=Yh h
        rw[<-e4,ew]at e5
        have e6:ws=r.2:=(zbv.inj e5).2
        rw[e6]
        have:=h.2.1
        simpa using this
     ·refine qH (decide_eq_false λh=>c0 (by rw[<-Dr];exact V.str.inj h)) ?_
      refine q false H3 s13 ⟨(λh=>nomatch h),λ⟨r,h⟩=>?_⟩
      have e2:=Q8 h
      rw[e]at e2
      have e4:b=Str.join Qq (⟨#[]⟩::r.2):=(zbv.inj (zbv.inj e2).2).1
      have e5:=Yh h
      rw[<-e4,ew]at e5
      exact absurd (zbv.inj e5).1 c0
  ·refine qW ?_ (Qj ?_)
   ·show (!decide (V.int ((Txt.split z ZJ).map V.str).length=V.int 2))=true
    rw[decide_eq_false λh=>c2 (by have:=V.int.inj h;rw[tj]at this;omega)]
    rfl
   ·exact q false H1 s1 ⟨(λh=>nomatch h),λ⟨r,h⟩=>absurd (by rw[Q8 h];rfl) c2⟩
end
def W3:Sp:=λvs H Q _=>∃(z:Str) (r:Str×List Str),vs=[.str z]/\z.length<=1000/\YT z r/\∀H' p q,Same H H'->H' p=some (.tup [.str r.1,.ref q])->H' q=some (.tup (r.2.map V.str))->Q (.ref p) H'
section
variable{P:Program}{w:World}{K:zdw}{mg:Str->Option Value}{base:Heap}
theorem MN:qp ["line","halves"] ["line"] (qj Xq):=zdv
theorem u9{f:Addr}{fd:zdA}(F:jw K "row_of" "row_of" Xq f fd)(G:Qm mg):qo P w K mg base qJ 1 f fd ["line"] W3:=by
 refine F.okJ MN (λvs H Q E h=>?_) (λcdv A outer s H vs Q E hr h=>?_)
 ·obtain⟨z,r,rfl,_⟩:=h
  rfl
 ·obtain⟨z,r,rfl,l1,rl,q⟩:=h
  refine⟨_,qg (qD (i:=1) MN.nd rfl (Or.inl rfl) (QG t9 zaN zaO Je (jv 0) (qd qk qf)))
   (qh (qt (q5 (qd (qQ qP (jv 1) (ql) (λ_ _=>rfl)) (qd (QE Z5 (by rfl) G.tup boot_tuple (qd (jZ Qt (QG t9 zaN zaO Je (qQ qP (jv 1) (ql) (λ_ _=>rfl)) (qd qk qf)) (Qv ql) Qw) qf)) qf))))),?_⟩
  refine⟨_,rfl,rfl,z,_,rfl,rfl,by decide+kernel,l1,λl hl=>?_⟩
  rw[NQ,Q8 rl]
  have s1:=qm (o:=HO.lst ([r.1,Str.join Qq (⟨#[]⟩::r.2)].map V.str)) hl
  have y1:upd H l (HO.lst ([r.1,Str.join Qq (⟨#[]⟩::r.2)].map V.str)) l=some (.lst [V.str r.1,.str (Str.join Qq (⟨#[]⟩::r.2))]):=qe
  generalize upd H l (HO.lst ([r.1,Str.join Qq (⟨#[]⟩::r.2)].map V.str))=H1 at s1 y1
  have lb:(Str.join Qq (⟨#[]⟩::r.2)).length<=1000:=tM (Q7 (c:=58) (by show _∈Txt.split z ZJ;rw[Q8 rl];simp)) l1
  refine⟨_,rfl,l,_,0,.str r.1,rfl,rfl,.of y1,rfl,_,rfl,l,_,1,.str (Str.join Qq (⟨#[]⟩::r.2)),rfl,rfl,.of y1,rfl,rfl,_,_,rfl,rfl,by decide+kernel,lb,λl2 f2=>?_⟩
  rw[vQ,Yh rl]
  have s2:=qm (o:=HO.lst ((⟨#[]⟩::r.2).map V.str)) f2
  have y2:upd H1 l2 (HO.lst ((⟨#[]⟩::r.2).map V.str)) l2=some (.lst ((⟨#[]⟩::r.2).map V.str)):=qe
  generalize upd H1 l2 (HO.lst ((⟨#[]⟩::r.2).map V.str))=H2 at s2 y2
  refine⟨1,rfl,l2,_,rfl,.of y2,λl3 f3=>?_⟩
  have ec:J7 (((⟨#[]⟩:Str)::r.2).map V.str) (some (1:Int)) none=r.2.map V.str:=by
   unfold J7
   rw[HT.sIx_none,show (1:Int)=((1:Nat):Int) from rfl,HT.sIx_nat,tj,tP,zbD (by omega),tL,zcq,zdg,tI (by rw[tj];omega)]
  rw[ec]
  have s3:=qm (o:=HO.lst (r.2.map V.str)) f3
  have y3:upd H2 l3 (HO.lst (r.2.map V.str)) l3=some (.lst (r.2.map V.str)):=qe
  generalize upd H2 l3 (HO.lst (r.2.map V.str))=H3 at s3 y3
  refine⟨l3,_,rfl,.inl ⟨.of y3,λl4 f4=>⟨by show 2<=zdB;decide,λp fp=>?_⟩⟩⟩
  have s4:=qm (o:=HO.tup (r.2.map V.str)) f4
  have s5:=qm (o:=HO.tup [V.str r.1,.ref l4]) fp
  exact q _ p l4 ((s1.trans s2).trans (s3.trans (s4.trans s5))) qe (s5 _ _ qe)
end
open PySem L2 PyProof.Rows
def cw(c:Nat):Nat:=if c < 128 then (if c=32 then 2 else 1) else 2000
def wt(z:Str):Nat:=(z.cps.toList.map cw).sum
theorem BQ(c:Nat):1<=cw c:=by unfold cw;split<;>(try split)<;>omega
theorem Ai(a b:Str):wt (a++b)=wt a+wt b:=by unfold wt;rw[ZY,tH,zbk]
theorem wR:∀l:List Nat,l.length<=(l.map cw).sum
 | []=>zao _
 | c::l=>by
  have:=wR l
  have:=BQ c
  simp only[tP,tL,zam]
  omega
theorem Ah(z:Str):z.length<=wt z:=by rw[Jo];exact wR _
theorem kh{z:Str}(h:qN z=true):wt z<=8:=by
 have e:∀l:List Nat,(∀c∈l,97<=c/\c<=122)->(l.map cw).sum=l.length:=λl=>by
  induction l with
  | nil=>intro _;rfl
  | cons c l ih=>
   intro h
   have h1:=h c tK
   rw[tL,zam,ih λx hx=>h x (tF _ hx),tP]
   have:cw c=1:=by unfold cw;rw[if_pos (by omega),if_neg (by omega)]
   omega
 unfold wt
 rw[e _ λc hc=>⟨Uz h c hc,(JX h).1 c hc⟩,<-Jo]
 exact(JX h).2.1
def tw(k:Nat)(l:List Str):Nat:=(l.map λx=>wt x+k).sum
theorem Jl(k:Nat)(x:Str)(l:List Str):tw k (x::l)=wt x+k+tw k l:=by unfold tw;rw[tL,zam]
theorem km{c:Nat}:∀(l:List Str),wt (Str.join ⟨#[c]⟩ l)<=tw (cw c) l
 | []=>zao _
 | [x]=>by rw[Jl];show wt x<=_;omega
 | x::y::l=>by
  have:=km (c:=c) (y::l)
  rw[Jl]
  have e:wt (Str.join ⟨#[c]⟩ (x::y::l))=wt x+cw c+wt (Str.join ⟨#[c]⟩ (y::l)):=by
   unfold wt
   rw[QD,tH,tL,zbk,zam]
   omega
  omega
theorem Vr{c:Nat}:∀{l:List Str},l≠[]->tw (cw c) l=wt (Str.join ⟨#[c]⟩ l)+cw c
 | [x],_=>by rw[Jl];show wt x+cw c+0=_;rfl
 | x::y::l,_=>by
  have ih:=Vr (c:=c) (l:=y::l) (by simp)
  rw[Jl]
  have e:wt (Str.join ⟨#[c]⟩ (x::y::l))=wt x+cw c+wt (Str.join ⟨#[c]⟩ (y::l)):=by
   unfold wt
   rw[QD,tH,tL,zbk,zam]
   omega
  omega
open PySem L2 PyProof.Rows
abbrev Wd:Str:=⟨#[10]⟩
def Fs(zs es:List Str)(r:ww):Prop:=∃(i:Nat) (z:Str),es[i]?=some z/\(es.take i).Nodup/\(∀y∈es.take i,y∈zs)/\((z∉zs/\r=.place z)\/(z∈zs/\z∈es.take i/\r=.twice z))
def DJ(zs:List Str)(r:Str×List Str):Prop:=r.2.Nodup/\∀z∈r.2,z∈zs
abbrev Uq(rs:jt):Nat:=(rs.map λr=>r.2.length).sum
def BX(rs:jt)(r:ww):Prop:=
 (14 < rs.length/\r=.many rs.length)\/(rs.length<=14/\
 ((∃(i:Nat) (z:Str),(rs.map (·.1))[i]?=some z/\z∈(rs.map (·.1)).take i/\((rs.map (·.1)).take i).Nodup/\r=.twice z)\/
 ((rs.map (·.1)).Nodup/\∃(k:Nat) (r':Str×List Str),rs[k]?=some r'/\(∀(j:Nat) (r'':Str×List Str),j < k->rs[j]?=some r''->DJ (rs.map (·.1)) r'')/\Fs (rs.map (·.1)) r'.2 r)\/
 ((rs.map (·.1)).Nodup/\(∀r∈rs,DJ (rs.map (·.1)) r)/\40 < Uq rs/\r=.many (Uq rs))))
theorem vb{α:Type}{l:List α}{n:Nat}{x:α}(h:l[n]?=some x):l.take (n+1)=l.take n++[x]:=by rw[tO,h];rfl
def Mj(r:Str×List Str):Prop:=qN r.1=true/\∀x∈r.2,qN x=true
def jH(r:Str×List Str):Str:=Str.join Qq ((r.1++ZJ)::r.2)
theorem Up{z:Str}{r:Str×List Str}:YT z r↔Mj r/\z=jH r:=⟨λh=>⟨⟨h.1,h.2.1⟩,h.2.2⟩,λh=>⟨h.1.1,h.1.2,h.2⟩⟩
def Zp(rs:jt):jt:=rs.map λr=>(r.1,QI rs r)
def Ee(rs:jt):Str:=Str.join Wd ((Zp rs).map jH)
def VH(ls:List Str)(rs:jt):Prop:=ls=rs.map jH/\∀r∈rs,Mj r
def FB(ls:List Str)(i:Nat):Prop:=(∃l,ls[i]?=some l/\¬∃r,YT l r)/\∀(j:Nat) (l:Str),j < i->ls[j]?=some l->∃r,YT l r
theorem qF.nmr{rs:jt}(g:qF rs):∀r∈rs,Mj r:=λr hr=>⟨g.nm r hr,λx hx=>by
 obtain⟨r',h1,h2⟩:=tQ.mp (g.to r hr x hx)
 rw[<-h2]
 exact g.nm r' h1⟩
theorem kr(rs:jt):(Zp rs).map (·.1)=rs.map (·.1):=by unfold Zp;rw[zaM];rfl
theorem zW{rs:jt}(g:qF rs):qF (Zp rs):=by
 have mem:∀{r},r∈Zp rs->∃r0∈rs,r=(r0.1,QI rs r0):=λh=>by
  obtain⟨r0,h0,rfl⟩:=tQ.mp h
  exact⟨r0,h0,rfl⟩
 refine⟨λr hr=>?_,by rw[kr];exact g.nd,λr hr z hz=>?_,λr hr=>?_,?_⟩
 ·obtain⟨r0,h0,rfl⟩:=mem hr
  exact g.nm r0 h0
 ·obtain⟨r0,h0,rfl⟩:=mem hr
  rw[kr]
  exact(zaw.mp hz).1
 ·obtain⟨r0,h0,rfl⟩:=mem hr
  exact g.nd.sublist zaP
 ·refine tM ?_ g.few
  unfold Zp
  rw[zaM]
  have:∀qs:jt,(∀r∈qs,r∈rs)->(qs.map ((λr=>r.2.length) ∘ λr=>(r.1,QI rs r))).sum<=(qs.map λr=>r.2.length).sum:=λqs=>by
   induction qs with
   | nil=>intro _;exact tu _
   | cons r qs ih=>
    intro h
    have h1:=ih λx hx=>h x (tF _ hx)
    have hr:=h r tK
    have h2:(QI rs r).length<=r.2.length:=JZ (g.nd.sublist zaP) λz hz=>(Ur g hr).mp hz
    simp only[tL,zam,Function.comp_apply]at h1 ⊢
    omega
  exact this rs λ_ h=>h
theorem yg{r:Str×List Str}(h:Mj r):wt (jH r)<=9+10*r.2.length:=by
 have h1:=km (c:=32) ((r.1++ZJ)::r.2)
 have h2:∀l:List Str,(∀x∈l,qN x=true)->tw (cw 32) l<=10*l.length:=λl=>by
  induction l with
  | nil=>intro _;exact tu _
  | cons x l ih=>
   intro h
   have a:=ih λy hy=>h y (tF _ hy)
   have b:=kh (h x tK)
   have e:cw 32=2:=by decide
   rw[Jl,tP]
   omega
 have h3:=h2 r.2 h.2
 have h4:=kh h.1
 have h5:=Vr (c:=32) (l:=(r.1++ZJ)::r.2) (by simp)
 have e:cw 32=2:=by decide
 have e2:wt ZJ=1:=by decide
 rw[Jl,Ai,e,e2]at h5
 rw[e]at h3
 show wt (Str.join ⟨#[32]⟩ _)<=_
 omega
theorem KA{rs:jt}(h:∀r∈rs,Mj r):tw 1 (rs.map jH)<=10*rs.length+10*Uq rs:=by
 induction rs with
 | nil=>exact zao _
 | cons r rs ih=>
  have a:=ih λx hx=>h x (tF _ hx)
  have b:=yg (h r tK)
  unfold Uq at a ⊢
  rw[tL,Jl,tL,zam,tP]
  omega
open PySem L2 PyProof.Rows
abbrev Xw:Stmt:=ja (top 33) 3
theorem M4{l:List Str}{k:Nat}{sep:Str}(h:tw k l<=100000)(hs:sep.length<=k):(l.map (·.length)).sum+l.length*sep.length<=16777216:=by
 have:∀l:List Str,(l.map (·.length)).sum+l.length*sep.length<=tw k l:=λl=>by
  induction l with
  | nil=>simp
  | cons x l ih=>
   have:=Ah x
   rw[Jl,tL,zam,tP,Nat.succ_mul]
   omega
 have:=this l
 omega
theorem yi(sep:Str)(l:List Str):Txt.join sep l=Str.join sep l:=StrLaws.glued_eq_join sep l
theorem Dq:zdx "\n"=Wd:=by decide+kernel
theorem EY(v u:V):([(zdx "order",v),(zdx "roads",u)]:List (Str×V)).lookup (zdx "rows")=none:=by
 have e1:(zdx "rows"==zdx "order")=false:=by decide+kernel
 have e2:(zdx "rows"==zdx "roads")=false:=by decide+kernel
 simp [zaA,e1,e2]
abbrev C1(K:zdw):List V->Hp->VK->Prop:=λxs H Q=>∃p ys,xs=[.ref p]/\((SqL K H p ys/\∀l,H l=none->Q (.ref l) (upd H l (.tup ys)))\/(SqT K H p ys/\Q (.ref p) H))
def kM(CG:Addr):Sp:=λvs H Q _=>∃(a:Addr) (rs:jt),vs=[.ref a]/\jP CG H a rs/\rs.length<=14/\∀l ps H',Same H H'->H l=none->H' l=some (.lst (ps.map V.ref))->jJ H' ps (Zp rs)->Q (.ref l) H'
def wZ:Sp:=λvs H Q _=>∃(p q:Addr) (r:Str×List Str),vs=[.ref p]/\H p=some (.tup [.str r.1,.ref q])/\H q=some (.tup (r.2.map V.str))/\Mj r/\r.2.length<=40/\∀H',Same H H'->Q (.str (jH r)) H'
def MA(CG:Addr):Sp:=λvs H Q _=>∃(a:Addr) (rs:jt),vs=[.ref a]/\jP CG H a rs/\qF rs/\rs.length<=14/\∀H',Same H H'->Q (.str (Ee rs)) H'
section
variable{P:Program}{w:World}{K:zdw}{mg:Str->Option Value}{base:Heap}
theorem En:qp ["self"] ["self"] (qj Xw):=zdv
theorem Kk{f fI CG:Addr}{fd fdI:zdA}(F:jw K "rows" "Ground.rows" Xw f fd)(C:Mp K mg CG fI fdI)(G:Qm mg):qo P w K mg base qJ 1 f fd ["self"] (kM CG):=by
 refine F.okJ En (λvs H Q E h=>?_) (λcdv A outer s H vs Q E hr h=>?_)
 ·obtain⟨a,rs,rfl,_⟩:=h
  rfl
 ·obtain⟨a,rs,rfl,gr,le14,q⟩:=h
  have hu:=Qp hr
  refine⟨_,qh (qt (Ql (N':=["name","self"]) (ix:=[none,some 0]) (te:=Ao (jg (qS 0) (jg (Cq (C1 K) (jg (wP (YN K (qS 1) "roads") (qS 0)) Qf)) Qf))) rfl ⟨rfl,rfl,rfl,rfl,rfl⟩ (qL (jD (jv 0) rfl)) (λC s2 H2 fp pins=>
    ⟨qx (i:=0) (show (["name","self"]:List Str).Nodup by decide+kernel) rfl (Or.inl rfl),jr,q5 (qd (jv 0) (qd (QE Z5 (by rfl) G.tup boot_tuple (qd (jN hu (jD (jv 1) rfl) (jv 0) (λ_ _=>rfl)) qf)) qf))⟩))),?_⟩
  obtain⟨dx,lo,rd,kvs,h1,h2,h3,h4⟩:=gr
  refine⟨_,rfl,a,CG,dx,_,_,rfl,h1,C.cl,C.no,EZ _ _,lo,rfl,⟨_,.of h2⟩,λD hD=>?_⟩
  refine Qe (K:=K) (a:=lo) (xs:=(rs.map (·.1)).map V.str) (λi σ' X=>∃(v:Option V) (ps:List Addr),σ'=[v,some (.ref a)]/\Same H X/\X D=some (.lst (ps.map V.ref))/\jJ X ps ((rs.take i).map λr=>(r.1,QI rs r)))
   ⟨none,[],rfl,qm hD,qe,rfl,λi p r e=>(nomatch e)⟩ (λi σ' X _ ⟨_,_,_,s,_⟩=>.of (s _ _ h2)) ?_ ?_
  ·rintro i y σ' X hy ⟨v,ps,rfl,sX,hX,rat⟩
   rw[tZ,tZ]at hy
   cases er:rs[i]? with
   | none=>rw[er]at hy;cases hy
   | some r=>
    rw[er]at hy
    obtain rfl:=(tX.inj hy).symm
    have hr':=tV er
    have hi:=(tq.mp er).1
    obtain⟨qq,hv,hq⟩:=h4 r hr'
    have gz:jU X rd (.str r.1) (some (.ref qq)):=by
     have:=jU.k (k:=(Sum.inr r.1:qG)) (sX _ _ h3)
     rw[hv]at this
     exact this
    refine⟨_,rfl,_,rfl,a,CG,dx,_,_,rfl,sX _ _ h1,C.cl,C.nr,DY _ _,_,rfl,rd,_,rfl,gz,qq,_,rfl,.inl ⟨.of (sX _ _ hq),λp2 hp2=>⟨by show 2<=zdB;decide,λp3 hp3=>?_⟩⟩⟩
    have a3:Same X (upd (upd X p2 (.tup ((QI rs r).map V.str))) p3 (.tup [.str r.1,.ref p2])):=(qm hp2).trans (qm hp3)
    have b2:upd (upd X p2 (.tup ((QI rs r).map V.str))) p3 (.tup [.str r.1,.ref p2]) p2=some (.tup ((QI rs r).map V.str)):=qw qe hp3
    have b3:upd (upd X p2 (.tup ((QI rs r).map V.str))) p3 (.tup [.str r.1,.ref p2]) p3=some (.tup [.str r.1,.ref p2]):=qe
    generalize upd (upd X p2 (.tup ((QI rs r).map V.str))) p3 (.tup [.str r.1,.ref p2])=X3 at a3 b2 b3
    have hX3:=a3 _ _ hX
    have lps:=rat.1
    rw[tj,zag]at lps
    refine⟨_,hX3,by rw[tj];exact qy (by omega),_,ps++[p3],rfl,Same.upd (sX.trans a3) hD,by rw[tH];exact qe,?_⟩
    rw[tO,er,tH]
    refine jJ.upd_lst ?_ hX3
    exact jJ.snoc (q:=p2) (rat.mono a3) b3 b2
  ·rintro σ' X ⟨v,ps,rfl,sX,hX,rat⟩
   have e0:rs.take ((rs.map (·.1)).map V.str).length=rs:=tI (by rw[tj,tj];exact tu _)
   rw[e0]at rat
   exact q D ps X sX hD hX rat
theorem Eh:qp ["row"] ["row"] (qj Zu):=zdv
theorem A2{f:Addr}{fd:zdA}(F:jw K "show_row" "show_row" Zu f fd)(G:Qm mg):qo P w K mg base qJ 1 f fd ["row"] wZ:=by
 refine F.okJ Eh (λvs H Q E h=>?_) (λcdv A outer s H vs Q E hr h=>?_)
 ·obtain⟨p,q,r,rfl,_⟩:=h
  rfl
 ·obtain⟨p,q,r,rfl,hp,hq,nr,l40,k⟩:=h
  refine⟨_,qh (qt (QG t9 zat zau Qu qk (qd (qV AU (jo (qd (qV jx (qQ jI (jv 0) ql (λ_ _=>rfl)) qk) qf)) (QE J8 (by rfl) G.lst boot_list (qd (qQ jI (jv 0) ql (λ_ _=>rfl)) qf))) qf))),?_⟩
  have l1:=XH nr.1
  refine⟨rfl,_,rfl,p,_,0,_,rfl,rfl,.of hp,rfl,_,_,rfl,rfl,?_,by show 1<=zdB;decide,λl1 f1=>?_⟩
  ·rw[NQ]
   exact zaC (qy (by show r.1.length+1<=1000;omega))
  have s1:=qm (o:=HO.lst [V.str (r.1++zdx ":")]) f1
  have h1:upd H l1 (HO.lst [V.str (r.1++zdx ":")]) l1=some (.lst [V.str (r.1++zdx ":")]):=qe
  generalize upd H l1 (HO.lst [V.str (r.1++zdx ":")])=H1 at s1 h1
  refine⟨_,rfl,p,_,1,_,rfl,rfl,.of (s1 _ _ hp),rfl,q,_,rfl,.inr (.of (s1 _ _ hq)),λl2 f2=>?_⟩
  have s2:=qm (o:=HO.lst (r.2.map V.str)) f2
  have h2:upd H1 l2 (HO.lst (r.2.map V.str)) l2=some (.lst (r.2.map V.str)):=qe
  generalize upd H1 l2 (HO.lst (r.2.map V.str))=H2 at s2 h2
  refine⟨l1,l2,_,_,rfl,rfl,s2 _ _ h1,h2,zaC (qy (by rw[tj];show 1+_<=1000;omega)),λl3 f3=>?_⟩
  have s3:=qm (o:=HO.lst ([V.str (r.1++zdx ":")]++r.2.map V.str)) f3
  refine⟨_,l3,(r.1++ZJ)::r.2,rfl,rfl,.of (by rw[<-NQ];exact qe),?_,?_⟩
  ·refine M4 (k:=2) ?_ (by decide+kernel)
   have h1:=yg nr
   have h2:=Vr (c:=32) (l:=(r.1++ZJ)::r.2) (by simp)
   have e:cw 32=2:=by decide
   rw[e]at h2
   rw[h2]
   show wt (jH r)+2<=_
   omega
  ·rw[yi,vQ]
   exact k _ ((s1.trans s2).trans s3)
theorem Ei:qp ["ground"] ["ground"] (qj Uc):=zdv
theorem VU{rs:jt}(g:qF rs):∀r∈Zp rs,Mj r:=(zW g).nmr
theorem R4{rs:jt}(g:qF rs){r:Str×List Str}(h:r∈rs):r.2.length<=40:=by
 have:∀l:List Nat,∀x∈l,x<=l.sum:=λl=>by
  induction l with
  | nil=>intro x hx;cases hx
  | cons y l ih=>
   intro x hx
   rw[zam]
   rcases tJ.mp hx with rfl | hx
   ·omega
   ·have:=ih x hx;omega
 exact tM (this _ _ (tQ.mpr ⟨r,h,rfl⟩)) g.few
theorem A3{f fI CG fRw fSR:Addr}{fd fdI fdRw fdSR:zdA}(F:jw K "show_ground" "show_ground" Uc f fd)(C:Mp K mg CG fI fdI)(G:Qm mg)(hRw:X0 K CG "rows" "Ground.rows" Xw ["self"] fRw fdRw)(hS:qZ K mg "show_row" Zu ["row"] fSR fdSR):qo P w K mg base qJ 2 f fd ["ground"] (MA CG):=by
 have GRw:qo P w K mg base qJ 1 fRw fdRw ["self"] (kM CG):=Kk hRw.fn C G
 have GS:qo P w K mg base qJ 1 fSR fdSR ["row"] wZ:=A2 hS.fn G
 refine F.okJ Ei (λvs H Q E h=>?_) (λcdv A outer s H vs Q E hr h=>?_)
 ·obtain⟨a,rs,rfl,_⟩:=h
  rfl
 ·obtain⟨a,rs,rfl,gr,gd,le14,k⟩:=h
  have r1:qO 1 _:=hr.mono (by decide)
  refine⟨_,qh (qt (QG t9 zat zau Qu qk (qd (Ql (N':=["row"]) (ix:=[none]) (te:=QY wZ [] E0 (jg (qS 0) Qf)) rfl ⟨rfl,rfl,rfl,rfl,rfl⟩ (qL (WH hRw C.cl GRw r1 (jv 0))) (λC s2 H2 fp pins=>
    ⟨qx (i:=0) (vJ _) rfl (Or.inl rfl),jr,qT hS GS hr (by rfl) (qd (jv 0) qf)⟩)) qf))),?_⟩
  obtain⟨dx,lo,rd,kvs,h1,_⟩:=id gr
  refine⟨rfl,_,rfl,a,dx,_,rfl,h1,EY _ _,a,rs,rfl,gr,le14,λl ps H1 s1 nl hl rat=>?_⟩
  refine⟨l,rfl,⟨_,.of hl⟩,λD hD=>?_⟩
  have lt:(Zp rs).length=rs.length:=tj ..
  have e1:ps.map V.ref=(ps.zip (Zp rs)).map λx=>V.ref x.1:=by
   rw[show (λx:Addr×(Str×List Str)=>V.ref x.1)=V.ref ∘ Prod.fst from rfl,<-zaM,List.map_fst_zip (by rw[rat.1];exact tu _)]
  rw[e1]at hl
  refine J9 (K:=K) (a:=l) (xs:=ps.zip (Zp rs)) (enc:=λx=>V.ref x.1) (out:=λx=>some (V.str (jH x.2))) (rest:=[]) hD hl (qy (by rw[zbT,rat.1];omega)) (λx hx Y sY Rr hR=>hR Y (Same.refl Y)) (λx hx v ev Y sY Rr hR=>?_) (λH5 s5 hW5=>?_)
  ·cases ev
   obtain⟨i,e⟩:=zbg hx
   obtain⟨e2,e3⟩:=zcE.mp e
   obtain⟨q,a1,a2⟩:=rat.2 i _ _ e2 e3
   have hm:=tV e3
   exact⟨_,rfl,x.1,q,x.2,rfl,sY _ _ a1,sY _ _ a2,VU gd _ hm,R4 (zW gd) hm,λY2 s2=>hR Y2 s2⟩
  ·have em:(ps.zip (Zp rs)).filterMap (λx=>some (V.str (jH x.2)))=((Zp rs).map jH).map V.str:=by
    rw[show (λx:Addr×(Str×List Str)=>some (V.str (jH x.2)))=(λx=>some ((λr:Str×List Str=>V.str (jH r)) x.2)) from rfl]
    rw[show (λx:Addr×(Str×List Str)=>some ((λr:Str×List Str=>V.str (jH r)) x.2))=(some ∘ λx:Addr×(Str×List Str)=>(λr:Str×List Str=>V.str (jH r)) x.2) from rfl,List.filterMap_eq_map]
    rw[show (λx:Addr×(Str×List Str)=>(λr:Str×List Str=>V.str (jH r)) x.2)=(λr:Str×List Str=>V.str (jH r)) ∘ Prod.snd from rfl,<-zaM,List.map_snd_zip (by rw[rat.1];exact tu _),zaM]
    rfl
   rw[em]at hW5
   refine⟨_,D,(Zp rs).map jH,rfl,rfl,.of hW5,?_,?_⟩
   ·refine M4 (k:=1) ?_ (by decide+kernel)
    have:=KA (VU gd)
    have:=(zW gd).few
    have:Uq (Zp rs)<=40:=this
    omega
   ·rw[yi,Dq]
    exact k _ (s1.trans s5)
end
end Rh
/-! GROUNDS READ. -/
namespace Rh
open PySem L2 PyProof.Rows
/-- rows of the right form,however many -/
structure Fg(H:Hp)(l:Addr)(ps:List Addr)(rs:jt):Prop where
 at_:H l=some (.lst (ps.map V.ref))
 rows:jJ H ps rs
 nm:∀r∈rs,Mj r
 len:∀r∈rs,r.2.length<=900
 pos:0 < rs.length
 le:rs.length<=1000
theorem uP{K:zdw}{c:C4}{H:Hp}{l:Addr}{ps:List Addr}{rs:jt}{E:XK}{x:ww}(g:Fg H l ps rs)(h:BX rs x)(o:YL c E H x):GX K c (.ref l) H E:=by
 rcases h with ⟨h,rfl⟩ | ⟨le,h⟩
 ·have e:=g.rows.1
  exact .inl (.inr (.inr (.inl ⟨l,_,rfl,g.at_,by rw[tj,e];exact h,by rw[tj,e];exact g.le,by rw[tj,e];exact o⟩)))
 ·refine .inr ⟨l,ps,rs,rfl,⟨g.at_,g.rows,λr hr=>(g.nm r hr).1,λr hr=>(g.nm r hr).2,g.len,g.pos,le⟩,?_⟩
  rcases h with ⟨i,z,e,m,nd,rfl⟩ | ⟨nd,k,r',e,pre,i,z,e2,n2,t2,h⟩ | ⟨nd,all,big,rfl⟩
  ·exact .inl ⟨i,z,e,m,nd,o⟩
  ·refine .inr (.inl ⟨nd,k,r',e,pre,i,z,e2,n2,t2,?_⟩)
   rcases h with ⟨h,rfl⟩ | ⟨h,h2,rfl⟩
   ·exact .inl ⟨h,o⟩
   ·exact .inr ⟨h,h2,o⟩
  ·exact .inr (.inr ⟨nd,all,big,o⟩)
def Zq(K:zdw)(CG:Addr)(c:C4):Sp:=λvs H Q E=>∃v,vs=[v]/\
 ((∃d,DH K H v d/\BI d=false/\YL c E H (.text 0))\/
  (∃(z:Str) (i:Nat),v=.str z/\z.length<=1000/\FB (Txt.split z Wd) i/\YL c E H (.text i))\/
  (∃(z:Str) (rs:jt),v=.str z/\z.length<=1000/\VH (Txt.split z Wd) rs/\
   ((∃x,BX rs x/\YL c E H x)\/(qF rs/\rs.length<=14/\∀H' a,Same H H'->jP CG H' a rs->Q (.ref a) H'))))
theorem GJ{ls:List Str}{rs:jt}(h:VH ls rs){i:Nat}{l:Str}(e:ls[i]?=some l):∃r,rs[i]?=some r/\YT l r:=by
 rw[h.1,tZ]at e
 cases er:rs[i]? with
 | none=>rw[er]at e;cases e
 | some r=>
  rw[er]at e
  obtain rfl:=tX.inj e
  exact⟨r,rfl,Up.mpr ⟨h.2 r (tV er),rfl⟩⟩
theorem uI{z:Str}{r:Str×List Str}(h:YT z r)(l:z.length<=1000):r.2.length<=900:=by
 have h1:∀l:List Str,(∀x∈l,qN x=true)->2*l.length<=(l.map (·.length)).sum+l.length:=λl=>by
  induction l with
  | nil=>intro _;exact tu _
  | cons x l ih=>
   intro h
   have a:=ih λy hy=>h y (tF _ hy)
   have b:=(JX (h x tK)).2.2
   rw[tL,zam,tP]
   omega
 have h2:=h1 r.2 h.2.1
 have h3:z.length=((r.1++ZJ).length+(r.2.map (·.length)).sum)+r.2.length:=by
  rw[h.2.2,<-yi,show Txt.join Qq ((r.1++ZJ)::r.2)=Builtin.Str.glued Qq ((r.1++ZJ)::r.2) from rfl,size_glued,tL,zam,tP]
  show _+(r.2.length+1 - 1)*1=_
  omega
 omega
theorem xj{z:Str}{rs:jt}(h:VH (Txt.split z Wd) rs)(l:z.length<=1000):rs.length<=1000:=by
 have h1:∀qs:jt,(∀r∈qs,Mj r)->qs.length<=((qs.map jH).map (·.length)).sum:=λqs=>by
  induction qs with
  | nil=>intro _;exact tu _
  | cons r qs ih=>
   intro h
   have a:=ih λy hy=>h y (tF _ hy)
   have b:1<=(jH r).length:=by
    have c:=XQ (c:=32) (l:=(r.1++ZJ)::r.2) (x:=r.1++ZJ) tK
    have e:(r.1++ZJ).length=r.1.length+1:=Str.length_append _ _
    show 1<=(Str.join ⟨#[32]⟩ ((r.1++ZJ)::r.2)).length
    omega
   rw[tL,tL,zam,tP]
   omega
 have h2:=h1 rs h.2
 have h3:z.length=((rs.map jH).map (·.length)).sum+((rs.map jH).length - 1)*1:=by
  rw[<-StrLaws.join_split z Wd,h.1,<-yi]
  exact size_glued Wd (rs.map jH)
 omega
section
variable{P:Program}{w:World}{K:zdw}{mg:Str->Option Value}{base:Heap}
abbrev nRd:List Str:=["text","lines","number","line"]
theorem RE:qp nRd ["text"] (qj Ud):=zdv
theorem Nr{f CG D fW fN fL fO:Addr}{c:C4}{fd fdW fdN fdL fdO:zdA}(F:jw K "read_ground" "read_ground" Ud f fd)(B:QB mg)(G:Qm mg)(T:j9 K mg)(N:kc K mg)(hcl:∃fI fdI,Mp K mg CG fI fdI)(hW:qZ K mg "need_rows" YD ["rows"] fW fdW)
  (hN:qZ K mg "is_name" QZ ["thing"] fN fdN) (hL:Al K mg "is_line_groundtext" "is_line" ZT ["line"] fL fdL) (hO:qZ K mg "row_of" Xq ["line"] fO fdO) (X4:Mn K mg D c):qo P w K mg base (jX P w) 8 f fd ["text"] (Zq K CG c):=by
 obtain⟨fI,fdI,C⟩:=hcl
 obtain⟨fx,fdx,xx⟩:=X4.x
 have Gx:qo P w K mg base qJ 1 fx fdx ["self","row"] (zc c.x "row"):=EI xx
 have GL:qo P w K mg base qJ 2 fL fdL ["line"] Xm:=xv hL.fn B T hN
 have GO:qo P w K mg base qJ 1 fO fdO ["line"] W3:=u9 hO.fn G
 have GI:qo P w K mg base (jX P w) 6 fI fdI ["self","rows"] (λvs H Q E=>W6 CG vs H Q E\/MJ K c vs H Q E):=(Km C B G T N hW).toX.either (xw C B G T N hW X4)
 refine F.okX RE (λvs H Q E h=>?_) (λcdv A outer s H vs Q E hr h=>?_)
 ·obtain⟨v,rfl,_⟩:=h
  rfl
 ·obtain⟨v,rfl,h⟩:=h
  have r1:qO 1 _:=hr.mono (by decide)
  have r2:qO 2 _:=hr.mono (by decide)
  refine⟨_,qg (qE (jy (jd (qu qX (by rfl) T.isi boot_isinstance (qd (jv 0) (qd (jR (v:=.ty "str") (by rfl) T.str boot_str rfl) qf))))) (qh (jA rfl Qh (jB xx.mkr Gx r2 (by rfl) xx.ns xx.bi jG (qd ql qf)))) qv)
   (qg (qD (i:=1) RE.nd rfl (Or.inl rfl) (QG t9 zaN zaO Je (jv 0) (qd qk qf)))
   (qg (J0 (t:=zZ (K6 K (jg (qS 1) Qf)) (xZ K 2 (ZF (j3 2) (ZF (j3 3) x5))) (YM (Aq (tB (QY Xm [] E0 (jg (qS 3) Qf)))) (zd K E (yV c.x (zc c.x "row") E0 (jg (qS 2) Qf))) Zd)) λpn W hO' hP' hR'=>
    jC hO' rfl (Y8 (by rfl) T.enu (qd (jv 1) qf)) (ZB rfl (jp (qx (i:=2) RE.nd rfl (Or.inl rfl)) (jp (qx (i:=3) RE.nd rfl (Or.inl rfl)) Jq)))
    (qh (qE (jy (jd (M5 hL GL r2 (by rfl) (qd (jv 3) qf)))) (qh (jA rfl hR' (jB xx.mkr Gx r2 (by rfl) xx.ns xx.bi jG (qd (jv 2) qf)))) qv)))
   (qh (qt (J1 C.mkr GI hr (by rfl) C.ns C.bi .nil qU (qd (Ql (N':=["line"]) (ix:=[none]) (te:=QY W3 [] E0 (jg (qS 0) Qf)) rfl ⟨rfl,rfl,rfl,rfl,rfl⟩ (qL (jv 1)) (λC s2 H2 fp pins=>
    ⟨qx (i:=0) (vJ _) rfl (Or.inl rfl),jr,qT hO GO r1 (by rfl) (qd (jv 0) qf)⟩)) qf)))))),?_⟩
  have g0:∀{H':Hp} {i:Nat},YL c E H' (.text i)->∀e,H' e=none->zc c.x "row" [.ref e,.int (i:Nat)] (upd H' e (J6 e c.x)) (λv H2=>v=.non/\∃a C dx,V.ref e=.ref a/\H2 a=some (QX a C dx)/\U1 K C/\E (.ref C) (some dx) H2) E0:=λ{_ i} o=>QC (C:=c.x) (.text i) xx o
  rcases h with ⟨d,hd,ns,o⟩ | h
  ·refine⟨_,rfl,_,_,_,_,rfl,rfl,hd.ty,KC d,_,rfl,?_⟩
   rw[ns]
   exact Qj ⟨by show 1<=zdB;decide,g0 (i:=0) o⟩
  obtain⟨z,rfl,l1⟩:∃z,v=.str z/\z.length<=1000:=by
   rcases h with ⟨z,i,e,l,_⟩ | ⟨z,rs,e,l,_⟩
   ·exact⟨z,e,l⟩
   ·exact⟨z,e,l⟩
  refine⟨_,rfl,_,_,_,_,rfl,rfl,JL.str z,T.kss,_,rfl,jh ?_⟩
  refine⟨_,rfl,rfl,z,_,rfl,rfl,by decide+kernel,l1,λl fl=>?_⟩
  rw[Dq]
  have s1:=qm (o:=HO.lst ((Txt.split z Wd).map V.str)) fl
  have y1:upd H l (HO.lst ((Txt.split z Wd).map V.str)) l=some (.lst ((Txt.split z Wd).map V.str)):=qe
  generalize upd H l (HO.lst ((Txt.split z Wd).map V.str))=H1 at s1 y1
  have mem:∀x∈Txt.split z Wd,x.length<=1000:=λx hx=>tM (Q7 (c:=10) hx) l1
  have many:(Txt.split z Wd).length<=1001:=by have:=Z8 z 10;show (Txt.split z ⟨#[10]⟩).length<=_;omega
  refine⟨_,rfl,l,rfl,⟨_,.of y1⟩,?_⟩
  rcases h with ⟨z',i0,e,_,fb,o⟩ | ⟨z',rs,e,_,ar,h⟩
  ·obtain rfl:=V.str.inj e
   obtain⟨⟨l0,e0,bad⟩,pre⟩:=fb
   refine JJ (K:=K) (a:=l) (xs:=(Txt.split z Wd).map V.str) (λi σ' H'=>(∃v1 v2,σ'=[some (.str z),some (.ref l),v1,v2])/\Same H1 H'/\i<=i0) ⟨⟨none,none,rfl⟩,Same.refl H1,zao _⟩ (λi σ' H' _ ⟨_,s,_⟩=>.of (s _ _ y1)) ?_ ?_
   ·rintro i x σ' H' p hx hp ⟨⟨v1,v2,rfl⟩,s2,hi⟩
    have s3:=s2.trans (qm (o:=.tup [.int (i:Nat),x]) hp)
    obtain⟨y,ey,hy,rfl⟩:=Qg hx
    refine⟨p,_,rfl,.of qe,rfl,_,_,rfl,_,_,rfl,rfl,_,rfl,y,rfl,mem y hy,λb H2 s4 hb=>⟨_,rfl,?_⟩⟩
    rcases zbe i i0 with c0 | c0
    ·rw[hb.mpr (pre i y c0 ey)]
     exact jh ⟨⟨_,_,rfl⟩,s3.trans s4,c0⟩
    ·have ei:i=i0:=by omega
     subst ei
     rw[ey]at e0
     obtain rfl:=tX.inj e0
     cases b with
     | true=>exact absurd (hb.mp rfl) bad
     | false=>exact Qj ⟨_,rfl,by show 1<=zdB;decide,g0 (o.mono (s1.trans (s3.trans s4)))⟩
   ·rintro σ' H' ⟨_,_,hi⟩
    have:=(tq.mp e0).1
    rw[tj]at hi
    omega
  ·obtain rfl:=V.str.inj e
   refine JJ (K:=K) (a:=l) (xs:=(Txt.split z Wd).map V.str) (λi σ' H'=>(∃v1 v2,σ'=[some (.str z),some (.ref l),v1,v2])/\Same H1 H') ⟨⟨none,none,rfl⟩,Same.refl H1⟩ (λi σ' H' _ ⟨_,s⟩=>.of (s _ _ y1)) ?_ ?_
   ·rintro i x σ' H' p hx hp ⟨⟨v1,v2,rfl⟩,s2⟩
    have s3:=s2.trans (qm (o:=.tup [.int (i:Nat),x]) hp)
    obtain⟨y,ey,hy,rfl⟩:=Qg hx
    refine⟨p,_,rfl,.of qe,rfl,_,_,rfl,_,_,rfl,rfl,_,rfl,y,rfl,mem y hy,λb H2 s4 hb=>⟨_,rfl,?_⟩⟩
    obtain⟨r,_,hr'⟩:=GJ ar ey
    rw[hb.mpr ⟨r,hr'⟩]
    exact jh ⟨⟨_,_,rfl⟩,s3.trans s4⟩
   ·rintro σ' H2 ⟨⟨v1,v2,rfl⟩,s2⟩
    have y2:=s2 _ _ y1
    have ll:(Txt.split z Wd).length=rs.length:=by rw[ar.1,tj]
    refine⟨_,rfl,l,rfl,⟨_,.of y2⟩,λW hW=>?_⟩
    refine Qe (K:=K) (a:=l) (xs:=(Txt.split z Wd).map V.str) (λi σ' H'=>∃(v:Option V) (ps:List Addr),σ'=[v]/\Same H2 H'/\H' W=some (.lst (ps.map V.ref))/\jJ H' ps (rs.take i))
     ⟨none,[],rfl,qm hW,qe,rfl,λi p r e=>(nomatch e)⟩ (λi σ' H' _ ⟨_,_,_,s,_⟩=>.of (s _ _ y2)) ?_ ?_
    ·rintro i x σ' X hx ⟨v,ps,rfl,sX,hX,rat⟩
     obtain⟨y,ey,hy,rfl⟩:=Qg hx
     obtain⟨r,er,hr'⟩:=GJ ar ey
     have hi:=(tq.mp er).1
     refine⟨_,rfl,y,r,rfl,mem y hy,hr',λX3 p q a3 b3 b2=>?_⟩
     have hX3:=a3 _ _ hX
     have lps:=rat.1
     rw[zag]at lps
     refine⟨_,hX3,by rw[tj];exact zax (by omega:ps.length<=1001) (by decide),_,ps++[p],rfl,Same.upd (sX.trans a3) hW,by rw[tH];exact qe,?_⟩
     rw[vb er]
     exact jJ.upd_lst (jJ.snoc (q:=q) (rat.mono a3) b3 b2) hX3
    ·rintro σ' X ⟨v,ps,rfl,sX,hX,rat⟩
     rw[tj,ll,tI (tu _)]at rat
     have s4:=(s1.trans s2).trans sX
     have pos:0 < rs.length:=by
      rw[<-ll]
      exact zcp.mpr (zx _ _)
     rcases h with ⟨x,hx,o⟩ | ⟨gd,le,q⟩
     ·intro a dx ha hdx ndx
      refine .inr ⟨.ref a,.ref W,rfl,?_⟩
      have s5:Same X (upd (upd X dx (.own a)) a (.ins CG dx [])):=λb u hb=>by
       rw[qi (qr hb ha),qi (qr hb hdx)]
       exact hb
      have sm:=xj ar l1
      ·refine uP (ps:=ps) (rs:=rs) ⟨s5 _ _ hX,rat.mono s5,ar.2,λr hr'=>?_,pos,sm⟩ hx (o.mono (s4.trans s5))
       obtain⟨i,er⟩:=zbg hr'
       have el:(Txt.split z Wd)[i]?=some (jH r):=by rw[ar.1,tZ,er];rfl
       exact uI (Up.mpr ⟨ar.2 r hr',rfl⟩) (mem _ (tV el))
     ·exact λa dx ha hdx ndx=>.inl (vI hX rat gd pos le ha hdx ndx λH4 s6 gr=>q H4 a (s4.trans s6) gr)
end
end Rh
/-! THE DESK'S LINES:many_fit,word_fits,is_line. -/
namespace Rh
open PySem L2 PyProof.Rows
abbrev Zw:Stmt:=top 114
abbrev Jy:Stmt:=top 115
abbrev Jz:Stmt:=top 116
/-- the kinds of words behind each first word -/
def Jh:List (Str×List Str):=[("ground",["name","rows"]),("join",["name","ground","ground"]),("pair",["name","ground","ground"]),("least",["name","ground"]),("heap",["name","ground","places"]),("move",["heap","token","place"]),
 ("play",["heap"]),("show",["ground"]),("worths",["ground"]),("worth",["ground","place"]),("single",["ground","place"]),("alike",["ground","place","place"]),("part",["ground","place","place"]),("ring",["ground"]),("tokens",["heap"]),
 ("outcome",["heap"]),("moves",["heap"]),("most",["heap"])]
def toks:List Str:=["0","1","2","3","4","5","6","7"]
def QT(ks:List Str)(n:Nat):Bool:=if ks.getLast?=some ("places":Str) then decide (ks.length - 1<=n) else if ks.getLast?=some ("rows":Str) then decide (ks.length<=n) else decide (n=ks.length)
def Js(k z:Str):Bool:=if k="name" then Zi (.str z) else !decide (k="token") || Yu (.str z) (toks.map V.str)
theorem yG{ks:List Str}{k:Str}(h:ks.getLast?=some k):yH (ks.map V.str) (-1)=some (.str k):=by
 have e:=List.getLast?_eq_getElem? (l:=ks)
 rw[h]at e
 have l:=(tq.mp e.symm).1
 unfold yH M6
 rw[tj,if_neg (by decide),if_pos (by omega),Option.bind_some,tZ,show (-1+(ks.length:Int)).toNat=ks.length - 1 by omega,<-e]
 rfl
def Wo(K:zdw):Sp:=λvs H Q _=>∃(a:Addr) (ks:List Str) (n:Nat) (k:Str),vs=[.ref a,.int (n:Nat)]/\SqT K H a (ks.map V.str)/\ks.getLast?=some k/\Q (.bl (QT ks n)) H
def za:Sp:=λvs H Q _=>∃k z:Str,vs=[.str k,.str z]/\z.length<=1000/\∀H',Same H H'->Q (.bl (Js k z)) H'
section
variable{P:Program}{w:World}{K:zdw}{mg:Str->Option Value}{base:Heap}
theorem AB:qp ["form","many"] ["form","many"] (qj Zw):=zdv
theorem vE{f:Addr}{fd:zdA}(F:jw K "many_fit" "many_fit" Zw f fd)(B:QB mg):qo P w K mg base qJ 1 f fd ["form","many"] (Wo K):=by
 refine F.okJ AB (λvs H Q E h=>?_) (λcdv A outer s H vs Q E hr h=>?_)
 ·obtain⟨a,ks,n,k,rfl,_⟩:=h
  rfl
 ·obtain⟨a,ks,n,k,rfl,q,el,h⟩:=h
  refine⟨_,qg (qE (qA jY (qQ jI (jv 0) (KM U6 ql) (λ_ _=>rfl)) qk (qC _)) (qh (qt (jE u4 (jv 1) (qV AO (qu qB (by rfl) B.len boot_len (qd (jv 0) qf)) ql) (qC _)))) qv)
   (qg (qE (qA jY (qQ jI (jv 0) (KM U6 ql) (λ_ _=>rfl)) qk (qC _)) (qh (qt (jE u4 (jv 1) (qu qB (by rfl) B.len boot_len (qd (jv 0) qf)) (qC _)))) qv)
   (qh (qt (jE jY (jv 1) (qu qB (by rfl) B.len boot_len (qd (jv 0) qf)) (qC _))))),?_⟩
  refine⟨_,rfl,1,rfl,a,_,-1,.str k,rfl,rfl,q,yG el,rfl,_,rfl,?_⟩
  have len:(ks.map V.str).length=ks.length:=tj _
  have pos:1<=ks.length:=by
   cases ks with
   | nil=>cases el
   | cons=>simp
  by_cases c1:k="places"
  ·refine qW (decide_eq_true (by rw[c1])) ⟨_,rfl,_,rfl,a,_,rfl,.inr q,_,_,rfl,rfl,_,_,rfl,rfl,?_⟩
   rw[show QT ks n=decide (ks.length - 1<=n) by unfold QT;rw[el,c1,if_pos rfl]]at h
   show Q (.bl (decide (((ks.map V.str).length:Int) - 1<=(n:Int)))) H
   rw[len,show decide ((ks.length:Int) - 1<=(n:Int))=decide (ks.length - 1<=n) from decide_eq_decide.mpr (by omega)]
   exact h
  ·refine qH (decide_eq_false λe=>c1 (V.str.inj e)) ⟨_,rfl,1,rfl,a,_,-1,.str k,rfl,rfl,q,yG el,rfl,_,rfl,?_⟩
   by_cases c2:k="rows"
   ·refine qW (decide_eq_true (by rw[c2])) ⟨_,rfl,_,rfl,a,_,rfl,.inr q,_,_,rfl,rfl,?_⟩
    rw[show QT ks n=decide (ks.length<=n) by unfold QT;rw[el,if_neg (λe=>c1 (tX.inj e)),c2,if_pos rfl]]at h
    show Q (.bl (decide (((ks.map V.str).length:Int)<=(n:Int)))) H
    rw[len,show decide ((ks.length:Int)<=(n:Int))=decide (ks.length<=n) from decide_eq_decide.mpr (by omega)]
    exact h
   ·refine qH (decide_eq_false λe=>c2 (V.str.inj e)) ⟨_,rfl,_,rfl,a,_,rfl,.inr q,rfl,?_⟩
    rw[show QT ks n=decide (n=ks.length) by unfold QT;rw[el,if_neg (λe=>c1 (tX.inj e)),if_neg (λe=>c2 (tX.inj e))]]at h
    show Q (.bl (decide (V.int (n:Int)=V.int ((ks.map V.str).length:Int)))) H
    rw[len,show decide (V.int (n:Int)=V.int (ks.length:Int))=decide (n=ks.length) from decide_eq_decide.mpr ⟨λe=>by have:=V.int.inj e;omega,λe=>by rw[e]⟩]
    exact h
theorem RC:qp ["kind","word"] ["kind","word"] (qj Jy):=zdv
/-- the eight numbers of tokens -/
def Fd(K:zdw)(mg:Str->Option Value):Prop:=∃tk:Addr,mg "TOKENS"=some (.ref tk)/\∀H,SqT K H tk (toks.map V.str)
theorem Ut{f fN:Addr}{fd fdN:zdA}(F:jw K "word_fits" "word_fits" Jy f fd)(B:QB mg)(T:j9 K mg)(hN:qZ K mg "is_name" QZ ["thing"] fN fdN)(hT:Fd K mg):qo P w K mg base qJ 2 f fd ["kind","word"] za:=by
 have GN:qo P w K mg base qJ 1 fN fdN ["thing"] (Wn K):=zG hN.fn B T
 obtain⟨tk,ht,hq⟩:=hT
 refine F.okJ RC (λvs H Q E h=>?_) (λcdv A outer s H vs Q E hr h=>?_)
 ·obtain⟨k,z,rfl,_⟩:=h
  rfl
 ·obtain⟨k,z,rfl,lz,h⟩:=h
  refine⟨_,qg (qE (qA jY (jv 0) qk (qC _)) (qh (qt (qT hN GN hr (by rfl) (qd (jv 1) qf)))) qv)
   (qh (qt (Dt (jE Wx (jv 0) qk (qC _)) (QP (jE JB (jv 1) (qM (v:=.ref tk) (by rfl) ht rfl) rfl))))),?_⟩
  refine⟨_,rfl,rfl,_,rfl,?_⟩
  unfold Js at h
  by_cases c1:k="name"
  ·rw[if_pos c1]at h
   exact qW (decide_eq_true (by rw[c1])) ⟨_,rfl,.str z,.str z,rfl,.str z lz,λH' s'=>h H' s'⟩
  ·rw[if_neg c1]at h
   refine qH (decide_eq_false λe=>c1 (V.str.inj e)) ⟨_,rfl,rfl,_,rfl,?_⟩
   by_cases c2:k="token"
   ·rw[decide_eq_true c2]at h
    refine qH (by rw[c2];rfl) ⟨_,rfl,tk,_,rfl,.inr (hq _),rfl,by decide+kernel,h _ (Same.refl _)⟩
   ·rw[decide_eq_false c2]at h
    exact qW (by rw[decide_eq_false λe=>c2 (V.str.inj e)];rfl) (h _ (Same.refl _))
end
end Rh
/-! THE DESK'S LINES:is_line of the desk. -/
namespace Rh
open PySem L2 PyProof.Rows
def J3:List Str->Bool
 | []=>false
 | z::ws=>match Jh.lookup z with
  | none=>false
  | some ks=>QT ks ws.length&&((ks.zip ws).map λp=>Js p.1 p.2).all id
/-- the Jh,as the module keeps them -/
def DQ(P:Program)(w:World)(K:zdw)(mg:Str->Option Value):Prop:=∃(a:Addr) (kvs:List (qG×V)),mg "FORMS"=some (.ref a)/\KD K P w a kvs/\(∀z,Jh.lookup z=none->jc kvs (Sum.inr z:qG)=none)/\
 ∀z ks,Jh.lookup z=some ks->∃t,jc kvs (Sum.inr z:qG)=some (.ref t)/\∀H,SqT K H t (ks.map V.str)
theorem UN:∀{fs:List (Str×List Str)} {z:Str} {ks:List Str},fs.lookup z=some ks->(z,ks)∈fs
 | (y,ys)::fs,z,ks,h=>by
  rw[zad]at h
  by_cases c:(z==y)=true
  ·rw[c]at h
   cases h
   rw[eq_of_beq c]
   exact .head _
  ·rw[zbZ.mpr c]at h
   exact .tail _ (UN h)
theorem WM{z:Str}{ks:List Str}(h:Jh.lookup z=some ks):(∃k,ks.getLast?=some k)/\ks.length<=3:=by
 have a:∀f∈Jh,f.2.getLast?.isSome=true/\f.2.length<=3:=by decide+kernel
 obtain⟨h1,h2⟩:=a _ (UN h)
 exact⟨zbQ.mp h1,h2⟩
theorem yB{z:Str}{ws:List Str}:J7 ((z::ws).map V.str) (some (1:Int)) none=ws.map V.str:=by
 unfold J7
 rw[HT.sIx_none,show (1:Int)=((1:Nat):Int) from rfl,HT.sIx_nat,tj,tP,zbD (by omega),tL,zcq,zdg,tI (by rw[tj];omega)]
def wfV:V->V->V
 | .str k,.str z=>.bl (Js k z)
 | _,_=>.non
def Wr:Sp:=λvs H Q _=>∃(l:Addr) (z:Str) (ws:List Str),vs=[.ref l]/\H l=some (.lst ((z::ws).map V.str))/\ws.length<=1000/\(∀x∈ws,x.length<=1000)/\∀H',Same H H'->Q (.bl (J3 (z::ws))) H'
section
variable{P:Program}{w:World}{K:zdw}{mg:Str->Option Value}{base:Heap}
theorem vk:qp ["words","form","behind"] ["words"] (qj Jz):=zdv
theorem vG{f fM fW:Addr}{fd fdM fdW:zdA}(F:jw K "is_line" "is_line" Jz f fd)(B:QB mg)(T:j9 K mg)(hz:mg "zip"=none)(hF:DQ P w K mg)(hM:qZ K mg "many_fit" Zw ["form","many"] fM fdM)(hW:qZ K mg "word_fits" Jy ["kind","word"] fW fdW)
  (GW:qo P w K mg base qJ 2 fW fdW ["kind","word"] za):qo P w K mg base qJ 3 f fd ["words"] Wr:=by
 have GM:qo P w K mg base qJ 1 fM fdM ["form","many"] (Wo K):=vE hM.fn B
 obtain⟨fa,kvs,hf,kd,k0,k1⟩:=hF
 refine F.okJ vk (λvs H Q E h=>?_) (λcdv A outer s H vs Q E hr h=>?_)
 ·obtain⟨l,z,ws,rfl,_⟩:=h
  rfl
 ·obtain⟨l,z,ws,rfl,hl,many,mem,h⟩:=h
  refine⟨_,qg (qE (Qb (xN (qQ qP (jv 0) ql (λ_ _=>rfl)) (qM (v:=.ref fa) (by rfl) hf rfl))) (qh (qt Qd)) qv)
   (qg (qD (i:=1) vk.nd rfl (Or.inl rfl) (yn (qM (v:=.ref fa) (by rfl) hf rfl) (qQ qP (jv 0) ql (λ_ _=>rfl)) (λ_ _=>rfl)))
   (qg (qD (i:=2) vk.nd rfl (Or.inl rfl) (jZ Qt (jv 0) (Qv ql) Qw))
   (qh (qt (QM (qT hM GM (hr.mono (by decide)) (by rfl) (qd (jv 1) (qd (qu qB (by rfl) B.len boot_len (qd (jv 2) qf)) qf)))
    (QP (qu (QR rfl) (by rfl) T.all boot_all (qd (Ql (N':=["kind","word"]) (ix:=[none,none]) (g:=xZ K 2 (ZF (j3 0) (ZF (j3 1) x5))) (te:=QY za [] E0 (jg (qS 0) (jg (qS 1) Qf))) rfl ⟨rfl,rfl,rfl,rfl,rfl⟩
     (yj (by rfl) hz (qd (jv 1) (qd (jv 2) qf))) (λC s2 H2 fp pins=>
     ⟨ZB rfl (jp (qx (i:=0) (show (["kind","word"]:List Str).Nodup by decide+kernel) rfl (Or.inl rfl)) (jp (qx (i:=1) (show (["kind","word"]:List Str).Nodup by decide+kernel) rfl (Or.inl rfl)) Jq)),jr,
      qT hW GW hr (by rfl) (qd (jv 0) (qd (jv 1) qf))⟩)) qf)))))))),?_⟩
  refine⟨_,rfl,l,_,0,.str z,rfl,rfl,.of hl,js,fa,kvs,(Sum.inr z:qG),rfl,rfl,kd,?_⟩
  cases ef:Jh.lookup z with
  | none=>
   rw[show J3 (z::ws)=false by simp only[J3,ef]]at h
   exact⟨_,rfl,qW (by rw[k0 z ef];rfl) (h H (Same.refl _))⟩
  | some ks=>
   rw[show J3 (z::ws)=(QT ks ws.length&&((ks.zip ws).map λp=>Js p.1 p.2).all id) by simp only[J3,ef]]at h
   obtain⟨t,et,sq⟩:=k1 z ks ef
   obtain⟨⟨k,ek⟩,kl⟩:=WM ef
   refine⟨_,rfl,qH (by rw[et];rfl) ⟨_,rfl,l,_,0,.str z,rfl,rfl,.of hl,js,fa,kvs,(Sum.inr z:qG),_,rfl,rfl,kd,et,_,rfl,1,rfl,l,_,rfl,.of hl,λl3 f3=>?_⟩⟩
   rw[yB]
   have s1:=qm (o:=HO.lst (ws.map V.str)) f3
   have y1:upd H l3 (HO.lst (ws.map V.str)) l3=some (.lst (ws.map V.str)):=qe
   generalize upd H l3 (HO.lst (ws.map V.str))=H1 at s1 y1
   refine⟨_,rfl,_,rfl,l3,_,rfl,.inl (.of y1),t,ks,ws.length,k,by rw[tj];rfl,sq _,ek,_,rfl,?_⟩
   cases em:QT ks ws.length with
   | false=>
    rw[em]at h
    exact jh (h H1 s1)
   | true=>
    rw[em,zdi]at h
    have zm:(ks.map V.str).zip (ws.map V.str)=(ks.zip ws).map λp=>(V.str p.1,V.str p.2):=by rw[List.zip_map];rfl
    refine Qj ⟨_,rfl,_,rfl,t,l3,rfl,⟨_,sq _⟩,⟨_,.of y1⟩,λD hD=>?_⟩
    refine Gy (K:=K) (xs:=ks.map V.str) (ys:=ws.map V.str) (rest:=[]) (out:=wfV) hD (sq _) (.of y1) (Ws (by rw[tj];omega)) (λx y G _ R hR=>hR) (λx y hm G sG R hR=>?_) (λH5 s5 hW5=>?_)
    ·rw[zm]at hm
     obtain⟨⟨k',z'⟩,hp,e⟩:=tQ.mp hm
     cases e
     exact⟨_,rfl,_,rfl,k',z',rfl,mem z' (zbS hp).2,hR⟩
    ·rw[zm,zaM]at hW5
     refine⟨D,(ks.zip ws).map λp=>Js p.1 p.2,rfl,.of ?_,h H5 (s1.trans s5)⟩
     rw[hW5,zaM]
     rfl
end
end Rh
/-! words_of:a line's words,or NoLine. -/
namespace Rh
open PySem L2 PyProof.Rows
abbrev zB:Stmt:=ja (top 17) 0
abbrev ZR:Stmt:=ja (top 13) 0
abbrev Zr:Stmt:=top 118
/-- a refusal of class C,with what was found -/
def Q5(C:Addr)(E:XK)(H:Hp)(v:V):Prop:=∀Hx dx,Same H Hx->Hx dx=some (.xd [((zdx "found"),v)])->E (.ref C) (some dx) Hx
theorem Q5.mono{C:Addr}{E:XK}{H H':Hp}{v:V}(h:Q5 C E H v)(s:Same H H'):Q5 C E H' v:=λHx dx s2 hd=>h Hx dx (s.trans s2) hd
def M9(z:Str):Bool:= !(Builtin.Str.occurrences z (zdx "\n") 0 z.length 1).isEmpty
def Jf(z:Str):Bool:= !M9 z&&J3 (Txt.split z Qq)
def Wm(K:zdw)(CL:Addr):Sp:=λvs H Q E=>∃v,vs=[v]/\((∃d,DH K H v d/\BI d=false/\Q5 CL E H v)\/∃z:Str,v=.str z/\z.length<=1000/\
 ((Jf z=false/\Q5 CL E H v)\/(Jf z=true/\∀l H',Same H H'->H' l=some (.lst ((Txt.split z Qq).map V.str))->Q (.ref l) H')))
section
variable{P:Program}{w:World}{K:zdw}{mg:Str->Option Value}{base:Heap}
theorem JV{E:XK}{H:Hp}{v:V}{C D f:Addr}{fd:zdA}{nm qn:Str}{st:Stmt}(x:zo K mg D nm qn st "found" C f fd)(o:Q5 C E H v):
  ∀e,H e=none->zc C "found" [.ref e,v] (upd H e (J6 e C)) (λv H2=>v=.non/\∃a C dx,V.ref e=.ref a/\H2 a=some (QX a C dx)/\U1 K C/\E (.ref C) (some dx) H2) E0:=λe he=>by
 refine⟨e,_,rfl,qe,λdx hdx=>⟨rfl,e,C,dx,rfl,(Y7 he hdx).2.1,x.rcls,?_⟩⟩
 obtain⟨m1,m2,m3⟩:=Y7 (fs:=[(zdx "found",v)]) he hdx
 exact o _ dx m1 m3
theorem Ev:qp ["self","found"] ["self","found"] (qj zB):=zdv
theorem EJ{D C f:Addr}{fd:zdA}(x:zo K mg D "NoLine" "NoLine.__init__" zB "found" C f fd):qo P w K mg base qJ 1 f fd ["self","found"] (zc C "found"):=by
 refine x.fn.okJ Ev (λvs H Q E h=>?_) (λcdv A outer s H vs Q E hr h=>?_)
 ·obtain⟨e,y,rfl,_⟩:=h
  rfl
 ·obtain⟨e,y,rfl,hH,k⟩:=h
  exact⟨_,qh (zk (bm:=.ref D::jz) (jv 0) (jv 1) rfl),_,rfl,_,rfl,e,C,rfl,hH,x.cls,vB D,x.na,λdx hdx=>k dx hdx⟩
theorem Ew:qp ["self","found"] ["self","found"] (qj ZR):=zdv
theorem EK{D C f:Addr}{fd:zdA}(x:zo K mg D "NoHeap" "NoHeap.__init__" ZR "found" C f fd):qo P w K mg base qJ 1 f fd ["self","found"] (zc C "found"):=by
 refine x.fn.okJ Ew (λvs H Q E h=>?_) (λcdv A outer s H vs Q E hr h=>?_)
 ·obtain⟨e,y,rfl,_⟩:=h
  rfl
 ·obtain⟨e,y,rfl,hH,k⟩:=h
  exact⟨_,qh (zk (bm:=.ref D::jz) (jv 0) (jv 1) rfl),_,rfl,_,rfl,e,C,rfl,hH,x.cls,vB D,x.na,λdx hdx=>k dx hdx⟩
theorem ML:qp ["line","words"] ["line"] (qj Zr):=zdv
theorem vD{f fL CL D fx:Addr}{fd fdL fdx:zdA}(F:jw K "words_of" "words_of" Zr f fd)(B:QB mg)(T:j9 K mg)(hL:Al K mg "is_line_desk" "is_line" Jz ["words"] fL fdL)(GL:qo P w K mg base qJ 3 fL fdL ["words"] Wr)
  (xx:zo K mg D "NoLine" "NoLine.__init__" zB "found" CL fx fdx):qo P w K mg base (jX P w) 4 f fd ["line"] (Wm K CL):=by
 have Gx:qo P w K mg base qJ 1 fx fdx ["self","found"] (zc CL "found"):=EJ xx
 refine F.okX ML (λvs H Q E h=>?_) (λcdv A outer s H vs Q E hr h=>?_)
 ·obtain⟨v,rfl,_⟩:=h
  rfl
 ·obtain⟨v,rfl,h⟩:=h
  have r2:qO 2 _:=hr.mono (by decide)
  refine⟨_,qg (qE (JW.pt (Jp (jy (jd (qu qX (by rfl) T.isi boot_isinstance (qd (jv 0) (qd (jR (v:=.ty "str") (by rfl) T.str boot_str rfl) qf))))) (QK (qA Yk qk (jv 0) rfl))))
    (qh (jA rfl Qh (jB xx.mkr Gx r2 (by rfl) xx.ns xx.bi jG (qd (jv 0) qf)))) qv)
   (qg (qD (i:=1) ML.nd rfl (Or.inl rfl) (QG t9 zaN zaO Je (jv 0) (qd qk qf)))
   (qg (qE (jy (jd (M5 hL GL hr (by rfl) (qd (jv 1) qf)))) (qh (jA rfl Qh (jB xx.mkr Gx r2 (by rfl) xx.ns xx.bi jG (qd (jv 0) qf)))) qv)
   (qh (qt (jv 1))))),?_⟩
  have g0:∀{H':Hp} {v:V},Q5 CL E H' v->∀e,H' e=none->zc CL "found" [.ref e,v] (upd H' e (J6 e CL)) (λv H2=>v=.non/\∃a C dx,V.ref e=.ref a/\H2 a=some (QX a C dx)/\U1 K C/\E (.ref C) (some dx) H2) E0:=λo=>JV xx o
  rcases h with ⟨d,hd,ns,o⟩ | ⟨z,rfl,l1,h⟩
  ·refine⟨_,rfl,_,_,_,_,rfl,rfl,hd.ty,KC d,_,rfl,?_⟩
   rw[ns]
   exact Qj (Qj ⟨_,rfl,by show 1<=zdB;decide,g0 o⟩)
  refine⟨_,rfl,_,_,_,_,rfl,rfl,JL.str z,T.kss,_,rfl,jh ⟨_,rfl,_,z,rfl,rfl,_,rfl,?_⟩⟩
  cases en:M9 z with
  | true=>
   have e0:Jf z=false:=by unfold Jf;rw[en];rfl
   rcases h with ⟨_,o⟩ | ⟨e,_⟩
   ·exact qW en ⟨_,rfl,by show 1<=zdB;decide,g0 o⟩
   ·rw[e0]at e;cases e
  | false=>
   have e0:Jf z=J3 (Txt.split z Qq):=by unfold Jf;rw[en];rfl
   rw[e0]at h
   refine qH en ⟨_,rfl,rfl,z,_,rfl,rfl,by decide+kernel,l1,λl fl=>?_⟩
   rw[vQ]
   have s1:=qm (o:=HO.lst ((Txt.split z Qq).map V.str)) fl
   have y1:upd H l (HO.lst ((Txt.split z Qq).map V.str)) l=some (.lst ((Txt.split z Qq).map V.str)):=qe
   generalize upd H l (HO.lst ((Txt.split z Qq).map V.str))=H1 at s1 y1
   have mem:∀x∈Txt.split z Qq,x.length<=1000:=λx hx=>tM (Q7 (c:=32) hx) l1
   have many:(Txt.split z Qq).length<=1001:=by have:=Z8 z 32;show (Txt.split z ⟨#[32]⟩).length<=_;omega
   cases ew:Txt.split z Qq with
   | nil=>exact absurd ew (zx _ _)
   | cons w0 ws=>
    rw[ew]at y1 h mem many
    refine⟨_,rfl,l,w0,ws,rfl,y1,by rw[tP]at many;omega,λx hx=>mem x (tF _ hx),λH2 s2=>⟨_,rfl,?_⟩⟩
    rcases h with ⟨e,o⟩ | ⟨e,h⟩
    ·rw[e]
     exact Qj ⟨_,rfl,by show 1<=zdB;decide,g0 (o.mono (s1.trans s2))⟩
    ·rw[e]
     exact jh ⟨_,rfl,h l H2 (s1.trans s2) (s2 _ _ y1)⟩
end
end Rh
/-! need_known:are a line's names known to the desk? -/
namespace Rh
open PySem L2 PyProof.Rows
abbrev Xt:Stmt:=top 119
/-- a desk:its grounds and its heaps by names -/
structure ZM(CD:Addr)(H:Hp)(a dg dh:Addr)(gs hs:List (qG×V)):Prop where
 at_:∃dx,H a=some (.ins CD dx [("grounds",.ref dg),("heaps",.ref dh)])
 gr:H dg=some (.dK gs)
 hp:H dh=some (.dK hs)
theorem ZM.mono{CD:Addr}{H H':Hp}{a dg dh:Addr}{gs hs:List (qG×V)}(h:ZM CD H a dg dh gs hs)(s:Same H H'):ZM CD H' a dg dh gs hs:=⟨let ⟨dx,e⟩:=h.at_;⟨dx,s _ _ e⟩,s _ _ h.gr,s _ _ h.hp⟩
structure wB(K:zdw)(CD:Addr):Prop where
 cl:YV K CD
 ng:jW K CD "grounds"
 nh:jW K CD "heaps"
inductive Kn where
 | twice | place | heap
def ZC(gs:List (qG×V))(z:Str):Bool:=(jc gs (Sum.inr z:qG)).isSome
/-- what a word of a kind is refused for -/
def known(gs hs:List (qG×V))(k z:Str):Option Kn:=
 if k="name"/\(ZC gs z || ZC hs z)=true then some .twice else if k="ground"/\ZC gs z=false then some .place else if k="heap"/\ZC hs z=false then some .heap else none
structure C3 where
 t:Addr
 p:Addr
 h:Addr
def Kn.cls(c:C3):Kn->Addr
 | .twice=>c.t
 | .place=>c.p
 | .heap=>c.h
structure Fq(K:zdw)(mg:Str->Option Value)(D:Addr)(c:C3):Prop where
 t:∃f fd,zo K mg D "Twice" "Twice.__init__" Xo "found" c.t f fd
 p:∃f fd,zo K mg D "NoPlace" "NoPlace.__init__" Jc "found" c.p f fd
 h:∃f fd,zo K mg D "NoHeap" "NoHeap.__init__" ZR "found" c.h f fd
def kJ(CD:Addr)(c:C3):Sp:=λvs H Q E=>∃(a dg dh l:Addr) (gs hs:List (qG×V)) (z:Str) (ws ks:List Str),vs=[.ref a,.ref l]/\ZM CD H a dg dh gs hs/\H l=some (.lst ((z::ws).map V.str))/\Jh.lookup z=some ks/\
 ((∃(i:Nat) (k y:Str) (r:Kn),(ks.zip ws)[i]?=some (k,y)/\(∀p∈(ks.zip ws).take i,known gs hs p.1 p.2=none)/\known gs hs k y=some r/\Q5 (r.cls c) E H (.str y))\/
  ((∀p∈ks.zip ws,known gs hs p.1 p.2=none)/\∀H',Same H H'->Q .non H'))
section
variable{P:Program}{w:World}{K:zdw}{mg:Str->Option Value}{base:Heap}
abbrev nKn:List Str:=["desk","words","kind","word"]
theorem AC:qp nKn ["desk","words"] (qj Xt):=zdv
abbrev Ap(K:zdw)(E:XK)(C:Addr):TS:=zd K E (yV C (zc C "found") E0 (jg (qS 3) Qf))
abbrev B5(x:Str):TT:=kt (Xi rEq (qS 2) (tC (.str x)))
abbrev Mv(K:zdw)(E:XK)(c:C3):TS:=
 X6 (YM (ve (B5 "name") (tOr (tB (wO (qS 3) (YN K (qS 0) "grounds"))) (tB (wO (qS 3) (YN K (qS 0) "heaps"))))) (Ap K E c.t) Zd)
  (X6 (YM (ve (B5 "ground") (tB (ZO (qS 3) (YN K (qS 0) "grounds")))) (Ap K E c.p) Zd)
   (YM (ve (B5 "heap") (tB (ZO (qS 3) (YN K (qS 0) "heaps")))) (Ap K E c.h) Zd))
theorem ngh:((zdx "heaps")==(zdx "grounds"))=false:=by decide+kernel
section
variable{CD a dg dh D l:Addr}{c:C3}{gs hs:List (qG×V)}{G:Hp}{y k:Str}{E:XK}{D':JN}
theorem fGr{R:V->Hp->Prop}{σ:L2.St}(hd:ZM CD G a dg dh gs hs)(C:wB K CD)(h:R (.ref dg) G):YN K (qS 0) "grounds" (some (.ref a)::σ) G R:=by
 obtain⟨dx,e⟩:=hd.at_
 exact⟨_,rfl,a,CD,dx,_,_,rfl,e,C.cl,C.ng,by simp [zaA],h⟩
theorem fHp{R:V->Hp->Prop}{σ:L2.St}(hd:ZM CD G a dg dh gs hs)(C:wB K CD)(h:R (.ref dh) G):YN K (qS 0) "heaps" (some (.ref a)::σ) G R:=by
 obtain⟨dx,e⟩:=hd.at_
 exact⟨_,rfl,a,CD,dx,_,_,rfl,e,C.cl,C.nh,by rw[zad,ngh];simp [zaA],h⟩
theorem rz{CX f:Addr}{fd:zdA}{nm qn:Str}{st:Stmt}{v0 v1 v2:Option V}(x:zo K mg D nm qn st "found" CX f fd)(o:Q5 CX E G (.str y)):Ap K E CX D' [v0,v1,v2,some (.str y)] G:=⟨_,rfl,by show 1<=zdB;decide,JV x o⟩
theorem wU{fld x:Str}{CX f dq:Addr}{qs:List (qG×V)}{fd:zdA}{nm qn:Str}{st:Stmt}{v0 v1:Option V}(X:zo K mg D nm qn st "found" CX f fd)(hf:∀R:V->Hp->Prop,R (.ref dq) G->YN K (qS 0) fld [v0,v1,some (.str k),some (.str y)] G R)(hq:G dq=some (.dK qs))
  (h1:k=x->ZC qs y=false->Q5 CX E G (.str y)) (h2:¬(k=x/\ZC qs y=false)->D'.nx [v0,v1,some (.str k),some (.str y)] G):YM (ve (B5 x) (tB (ZO (qS 3) (YN K (qS 0) fld)))) (Ap K E CX) Zd D' [v0,v1,some (.str k),some (.str y)] G:=by
 refine⟨_,rfl,rfl,_,rfl,?_⟩
 by_cases c1:k=x
 ·refine qW (decide_eq_true (by rw[c1])) ⟨_,rfl,hf _ ⟨dq,_,rfl,jU.k (k:=(Sum.inr y:qG)) hq,_,rfl,?_⟩⟩
  cases c2:ZC qs y with
  | true=>exact qH (by show (!ZC qs y)=false;rw[c2];rfl) (h2 λe=>by rw[e.2]at c2;cases c2)
  | false=>exact qW (by show (!ZC qs y)=true;rw[c2];rfl) (rz X (h1 c1 c2))
 ·exact qH (decide_eq_false λe=>c1 (V.str.inj e)) (jh (h2 λe=>c1 e.1))
theorem DI(C:wB K CD)(X3:Fq K mg D c)(hd:ZM CD G a dg dh gs hs)(hr:∀r,known gs hs k y=some r->Q5 (r.cls c) E G (.str y))(hn:known gs hs k y=none->D'.nx [some (.ref a),some (.ref l),some (.str k),some (.str y)] G):
  Mv K E c D' [some (.ref a),some (.ref l),some (.str k),some (.str y)] G:=by
 obtain⟨ft,fdt,xt⟩:=X3.t
 obtain⟨fp,fdp,xp⟩:=X3.p
 obtain⟨fh,fdh,xh⟩:=X3.h
 have rest:¬(k="name"/\(ZC gs y || ZC hs y)=true)->X6 (YM (ve (B5 "ground") (tB (ZO (qS 3) (YN K (qS 0) "grounds")))) (Ap K E c.p) Zd)
   (YM (ve (B5 "heap") (tB (ZO (qS 3) (YN K (qS 0) "heaps")))) (Ap K E c.h) Zd) D' [some (.ref a),some (.ref l),some (.str k),some (.str y)] G:=λn1=>by
  refine wU xp (λR h=>fGr hd C h) hd.gr (λe1 e2=>hr .place (by unfold known;rw[if_neg n1,if_pos ⟨e1,e2⟩])) λn2=>?_
  exact wU xh (λR h=>fHp hd C h) hd.hp (λe1 e2=>hr .heap (by unfold known;rw[if_neg n1,if_neg n2,if_pos ⟨e1,e2⟩])) λn3=>hn (by unfold known;rw[if_neg n1,if_neg n2,if_neg n3])
 have bad:k="name"->(ZC gs y || ZC hs y)=true->Q5 c.t E G (.str y):=λe1 e2=>hr .twice (by unfold known;rw[if_pos ⟨e1,e2⟩])
 refine⟨_,rfl,rfl,_,rfl,?_⟩
 by_cases c1:k="name"
 ·refine qW (decide_eq_true (by rw[c1])) ⟨_,rfl,fGr hd C ⟨dg,_,rfl,jU.k (k:=(Sum.inr y:qG)) hd.gr,_,rfl,?_⟩⟩
  cases c2:ZC gs y with
  | true=>exact qW c2 (Qj (rz xt (bad c1 (by rw[c2];rfl))))
  | false=>
   refine qH c2 ⟨_,rfl,fHp hd C ⟨dh,_,rfl,jU.k (k:=(Sum.inr y:qG)) hd.hp,_,rfl,?_⟩⟩
   cases c3:ZC hs y with
   | true=>exact qW c3 (rz xt (bad c1 (by rw[c2,c3];rfl)))
   | false=>exact qH c3 (rest λe=>by have:=e.2;rw[c2,c3]at this;cases this)
 ·exact qH (decide_eq_false λe=>c1 (V.str.inj e)) (jh (rest λe=>c1 e.1))
end
theorem Kh{f CD D:Addr}{c:C3}{fd:zdA}(F:jw K "need_known" "need_known" Xt f fd)(hz:mg "zip"=none)(hF:DQ P w K mg)(C:wB K CD)(X3:Fq K mg D c):qo P w K mg base (jX P w) 3 f fd ["desk","words"] (kJ CD c):=by
 obtain⟨ft,fdt,xt⟩:=X3.t
 obtain⟨fp,fdp,xp⟩:=X3.p
 obtain⟨fh,fdh,xh⟩:=X3.h
 have Gt:qo P w K mg base qJ 1 ft fdt ["self","found"] (zc c.t "found"):=Bl xt
 have Gp:qo P w K mg base qJ 1 fp fdp ["self","found"] (zc c.p "found"):=Bm xp
 have Gh:qo P w K mg base qJ 1 fh fdh ["self","found"] (zc c.h "found"):=EK xh
 obtain⟨fa,kvs,hf,kd,k0,k1⟩:=hF
 refine F.okX AC (λvs H Q E h=>?_) (λcdv A outer s H vs Q E hr h=>?_)
 ·obtain⟨a,dg,dh,l,gs,hs,z,ws,ks,rfl,_⟩:=h
  rfl
 ·obtain⟨a,dg,dh,l,gs,hs,z,ws,ks,rfl,hd,hl,ef,h⟩:=h
  have hu:=Qp hr
  refine⟨_,qh (J0 (t:=zZ (M8 K (jg (wM K P w (tC (.ref fa)) (Xi (AK K) (qS 1) (tC (.int 0)))) (jg (tSl (C5 K) (qS 1) (Mt (tC (V.int 1))) ku) Qf))) (xZ K 2 (ZF (j3 2) (ZF (j3 3) x5))) (Mv K E c)) λpn W hO' hP' hR'=>
   jC hO' rfl (yj (by rfl) hz (qd (yn (qM (v:=.ref fa) (by rfl) hf rfl) (qQ qP (jv 1) ql (λ_ _=>rfl)) (λ_ _=>rfl)) (qd (jZ Qt (jv 1) (Qv ql) Qw) qf)))
    (ZB rfl (jp (qx (i:=2) AC.nd rfl (Or.inl rfl)) (jp (qx (i:=3) AC.nd rfl (Or.inl rfl)) Jq)))
    (qg (qE (JW.pt (vR (qA jY (jv 2) qk (qC _)) (Vq (JW.pt (Jp (Qb (J2 hu (jv 3) (jD (jv 0) rfl))) (QK (Qb (J2 hu (jv 3) (jD (jv 0) rfl)))))))))
      (qh (jA rfl hR' (jB xt.mkr Gt hr (by rfl) xt.ns xt.bi jG (qd (jv 3) qf)))) qv)
    (qg (qE (JW.pt (vR (qA jY (jv 2) qk (qC _)) (Vq (Qb (JF hu (jv 3) (jD (jv 0) rfl))))))
      (qh (jA rfl hR' (jB xp.mkr Gp hr (by rfl) xp.ns xp.bi jG (qd (jv 3) qf)))) qv)
    (qh (qE (JW.pt (vR (qA jY (jv 2) qk (qC _)) (Vq (Qb (JF hu (jv 3) (jD (jv 0) rfl))))))
      (qh (jA rfl hR' (jB xh.mkr Gh hr (by rfl) xh.ns xh.bi jG (qd (jv 3) qf)))) qv))))),?_⟩
  obtain⟨t,et,sq⟩:=k1 z ks ef
  refine⟨_,rfl,l,_,0,.str z,rfl,rfl,.of hl,js,fa,kvs,(Sum.inr z:qG),_,rfl,rfl,kd,et,_,rfl,1,rfl,l,_,rfl,.of hl,λl3 f3=>?_⟩
  rw[yB]
  have s1:=qm (o:=HO.lst (ws.map V.str)) f3
  have y1:upd H l3 (HO.lst (ws.map V.str)) l3=some (.lst (ws.map V.str)):=qe
  generalize upd H l3 (HO.lst (ws.map V.str))=H1 at s1 y1
  have zm:(ks.map V.str).zip (ws.map V.str)=(ks.zip ws).map λp=>(V.str p.1,V.str p.2):=by rw[List.zip_map];rfl
  refine⟨t,l3,rfl,⟨_,sq _⟩,⟨_,.of y1⟩,?_⟩
  refine Ge (K:=K) (a:=t) (b:=l3) (xs:=ks.map V.str) (ys:=ws.map V.str) (λi σ' H'=>(∃v2 v3,σ'=[some (.ref a),some (.ref l),v2,v3])/\Same H1 H'/\∀p∈(ks.zip ws).take i,known gs hs p.1 p.2=none) ⟨⟨none,none,rfl⟩,Same.refl H1,λp hp=>by simp at hp⟩
   (λi σ' H' ⟨_,s,_⟩=>⟨sq _,.of (s _ _ y1)⟩) ?_ ?_
  ·rintro i x y σ' H' p hx hp ⟨⟨v2,v3,rfl⟩,s2,none'⟩
   rw[zm,tZ]at hx
   cases ez:(ks.zip ws)[i]? with
   | none=>rw[ez]at hx;cases hx
   | some q=>
    obtain⟨k',y'⟩:=q
    rw[ez]at hx
    cases hx
    have s3:=s2.trans (qm (o:=.tup [.str k',.str y']) hp)
    refine⟨p,_,rfl,.of qe,rfl,_,_,rfl,_,_,rfl,rfl,?_⟩
    refine DI (D:=D) C X3 (hd.mono (s1.trans s3)) (λr er=>?_) λen=>⟨⟨_,_,rfl⟩,s3,λq hq=>?_⟩
    ·rcases h with ⟨i0,k0',y0,r0,e0,pre,er0,o⟩ | ⟨al,_⟩
     ·rcases zaJ i i0 with c0 | rfl | c0
      ·have:=pre (k',y') (tV (i:=i) (by rw[zbz,if_pos c0];exact ez))
       rw[er]at this
       cases this
      ·rw[ez]at e0
       cases e0
       rw[er]at er0
       cases er0
       exact o.mono (s1.trans s3)
      ·have:=none' (k0',y0) (tV (i:=i0) (by rw[zbz,if_pos c0];exact e0))
       rw[er0]at this
       cases this
     ·have:=al (k',y') (tV ez)
      rw[er]at this
      cases this
    ·rw[tO,ez]at hq
     rcases zar.mp hq with h1 | h1
     ·exact none' q h1
     ·cases (zaf.mp h1)
      exact en
  ·rintro σ' H' ⟨_,s2,none'⟩
   rw[zm,tj,tI (tu _)]at none'
   rcases h with ⟨i0,k0',y0,r0,e0,pre,er0,o⟩ | ⟨al,h⟩
   ·have:=none' (k0',y0) (tV e0)
    rw[er0]at this
    cases this
   ·exact h H' (s1.trans s2)
end
end Rh
/-! or_dash,tokens_answer,outcome_answer. -/
namespace Rh
open PySem L2 PyProof.Rows
abbrev Uk:Stmt:=top 120
abbrev kS:Stmt:=top 129
abbrev kU:Stmt:=top 130
def Vj(z:Str):Str:=if z="" then "-" else z
def uh:Sp:=λvs H Q _=>∃z:Str,vs=[.str z]/\Q (.str (Vj z)) H
def wY:Sp:=λvs H Q _=>∃(g:V) (l:Addr) (zs:List Str),vs=[g,.ref l]/\H l=some (.lst (zs.map V.str))/\(zs.map (·.length)).sum+zs.length<=1000/\Q (.str (Vj (Txt.join Qq zs))) H
section
variable{P:Program}{w:World}{K:zdw}{mg:Str->Option Value}{base:Heap}
theorem AH:qp ["text"] ["text"] (qj Uk):=zdv
theorem NH{f:Addr}{fd:zdA}(F:jw K "or_dash" "or_dash" Uk f fd):qo P w K mg base qJ 1 f fd ["text"] uh:=by
 refine F.okJ AH (λvs H Q E h=>?_) (λcdv A outer s H vs Q E hr h=>?_)
 ·obtain⟨z,rfl,_⟩:=h
  rfl
 ·obtain⟨z,rfl,h⟩:=h
  refine⟨_,qg (qE (qA jY (jv 0) qk (qC _)) (qh (qt qk)) qv) (qh (qt (jv 0))),_,rfl,rfl,_,rfl,?_⟩
  unfold Vj at h
  by_cases c:z=""
  ·rw[if_pos c]at h
   exact qW (decide_eq_true (by rw[c])) h
  ·rw[if_neg c]at h
   exact qH (decide_eq_false λe=>c (V.str.inj e)) ⟨_,rfl,h⟩
theorem Aw:qp ["ground","heap"] ["ground","heap"] (qj kS):=zdv
theorem No{f fD:Addr}{fd fdD:zdA}(F:jw K "tokens_answer" "tokens_answer" kS f fd)(hD:qZ K mg "or_dash" Uk ["text"] fD fdD):qo P w K mg base qJ 2 f fd ["ground","heap"] wY:=by
 have GD:qo P w K mg base qJ 1 fD fdD ["text"] uh:=NH hD.fn
 refine F.okJ Aw (λvs H Q E h=>?_) (λcdv A outer s H vs Q E hr h=>?_)
 ·obtain⟨g,l,zs,rfl,_⟩:=h
  rfl
 ·obtain⟨g,l,zs,rfl,hl,len,h⟩:=h
  refine⟨_,qh (qt (qT hD GD hr (by rfl) (qd (QG t9 zat zau Qu qk (qd (jv 1) qf)) qf))),?_⟩
  refine⟨rfl,_,rfl,_,l,zs,rfl,rfl,.of hl,?_,_,rfl,?_⟩
  ·rw[vQ]
   have:Qq.length=1:=rfl
   rw[this]
   omega
  ·rw[vQ]
   exact h
end
end Rh
/-! WORTHS' TEXTS:text(),worth_of,worths_answer. -/
namespace Rh
open PySem L2 PyProof.Rows MLab Rb
abbrev vp:Stmt:=ja (top 48) 2
abbrev vv:Stmt:=ja (top 49) 2
abbrev vm:Stmt:=top 59
abbrev RP:Stmt:=top 122
def G7(n:Nat):Str:=zdx (toString ((n:Nat):Int))
theorem yv:∀n,n < 16->(G7 n).length<=2:=by decide+kernel
def wb:Str:=zdx "endless"
def KH(ns:List Nat):Str:=Str.join ⟨#[32]⟩ (wb::ns.map G7)
def VR:W->Str
 | .num n=>G7 n
 | .edl b=>KH (memN b 16)
theorem Kw(b:Nat):∀n∈memN b 16,n < 16:=λn h=>(mem_memN.mp h).1
theorem zI(b:Nat):(memN b 16).length<=16:=by
 have h1:(memN b 16).length<=(zaD 16).length:=zaH _ _
 rw[zbF]at h1
 exact h1
theorem VZ:∀(ns:List Nat),(∀n∈ns,n < 16)->((ns.map G7).map (·.length)).sum<=2*ns.length:=by
 intro ns
 induction ns with
 | nil=>intro _;exact zao _
 | cons n ns ih=>
  intro h
  have h1:=yv n (h n tK)
  have h2:=ih λm hm=>h m (tF _ hm)
  simp only[tL,zam,tP]
  omega
theorem xM{ns:List Nat}(h:∀n∈ns,n < 16)(hl:ns.length<=16):(KH ns).length<=60:=by
 have h1:=StrLaws.join_length_le ⟨#[32]⟩ (wb::ns.map G7)
 have h2:=VZ ns h
 have e:wb.length=7:=by decide+kernel
 simp only[tL,zam,tP,tj,e]at h1
 have e1:(⟨#[32]⟩:Str).length=1:=rfl
 rw[e1]at h1
 unfold KH
 omega
theorem kj{u:W}(h:Yl u):(VR u).length<=60:=by
 cases u with
 | num n=>exact tM (yv n h) (by decide)
 | edl b=>exact xM (Kw b) (zI b)
/-- the methods text() -/
structure Ad(K:zdw)(mg:Str->Option Value)(h:WF K mg) where
 (fNS fES:Addr)
 (dNS dES:zdA)
 nS:X0 K h.CN "text" "Numbered.text" vp ["self"] fNS dNS
 eS:X0 K h.CE "text" "Endless.text" vv ["self"] fES dES
 str:mg "str"=none
theorem Ed:(zdx " ")=⟨#[32]⟩:=by decide+kernel
theorem yu{α β:Type}(f:α->β)(l:List α):l.filterMap (λx=>some (f x))=l.map f:=by induction l<;>simp [*]
theorem NY(s:Str)(l:List Str):Txt.join s l=Str.join s l:=StrLaws.glued_eq_join s l
section
variable{P:Program}{w:World}{K:zdw}{mg:Str->Option Value}{base:Heap}
/-- the text of a worth -/
def My(CN CE:Addr):Sp:=λvs H Q _=>∃a n,vs=[.ref a]/\Za CN CE H a (.num n)/\n < 16/\Q (.str (G7 n)) H
def Mz(CN CE:Addr):Sp:=λvs H Q _=>∃a b,vs=[.ref a]/\Za CN CE H a (.edl b)/\b < 65536/\∀H',Same H H'->Q (.str (VR (.edl b))) H'
theorem RG:qp ["self"] ["self"] (qj vp):=zdv
theorem WF.gNS(h:WF K mg)(t:Ad K mg h):qo P w K mg base qJ 1 t.fNS t.dNS ["self"] (My h.CN h.CE):=by
 refine t.nS.fn.okJ RG (λvs H Q E z=>?_) (λcdv A outer s H vs Q E hr z=>?_)
 ·obtain⟨a,n,rfl,_⟩:=z
  rfl
 ·obtain⟨a,n,rfl,⟨dx,e⟩,hn,q⟩:=z
  refine⟨_,qh (qt (QE WO (by rfl) t.str boot_str (qd (jD (jv 0) rfl) qf))),?_⟩
  exact⟨_,rfl,a,h.CN,dx,_,_,rfl,e,h.cN.cl,h.cN.na,MY,_,rfl,by omega,by omega,q⟩
theorem RL:qp ["self"] ["self"] (qj vv):=zdv
theorem WF.gES(h:WF K mg)(t:Ad K mg h)(B:QB mg):qo P w K mg base qJ 2 t.fES t.dES ["self"] (Mz h.CN h.CE):=by
 have GN:qo P w K mg base qJ 1 h.fN h.dN ["bits"] YX:=XD h.hN.fn B
 refine t.eS.fn.okJ RL (λvs H Q E z=>?_) (λcdv A outer s H vs Q E hr z=>?_)
 ·obtain⟨a,n,rfl,_⟩:=z
  rfl
 ·obtain⟨a,b,rfl,⟨dx,e⟩,hb,q⟩:=z
  refine⟨_,qh (qt (QG t9 zat zau Qu qk (qd (qV QJ (jo (qd qk qf))
   (Ql (N':=["number"]) (ix:=[none]) rfl ⟨rfl,rfl,rfl,rfl,rfl⟩ (qL (qT h.hN GN hr (by rfl) (qd (jD (jv 0) rfl) qf)))
    (λC s2 H2 fp pins=>⟨qx (i:=0) (vJ _) rfl (Or.inl rfl),jr,QE WO (by rfl) t.str boot_str (qd (jv 0) qf)⟩))) qf))),?_⟩
  refine⟨rfl,by show 1<=zdB;decide,λl1 f1=>⟨_,rfl,a,h.CE,dx,_,_,rfl,qw e f1,h.cE.cl,h.cE.na,MY,b,rfl,hb,λl2 f2=>⟨l2,rfl,⟨_,.of qe⟩,λD hD=>?_⟩⟩⟩
  have s1:=qm (o:=HO.lst [V.str (zdx "endless")]) f1
  have s2:=qm (o:=HO.lst (Yv (memN b 16))) f2
  have g1:=s2 _ _ (qe (H:=H) (a:=l1) (o:=HO.lst [V.str (zdx "endless")]))
  refine J9 (K:=K) (a:=l2) (xs:=memN b 16) (enc:=λn=>V.int (n:Nat)) (out:=λn=>some (V.str (G7 n))) (rest:=[]) hD qe (qy (tM (zI b) (by decide))) (λx hx Y sY R hR=>hR Y (Same.refl Y)) (λx hx v ev Y sY R hR=>?_) (λH5 s5 hD5=>?_)
  ·cases ev
   have hx':=Kw b x hx
   exact⟨_,rfl,_,rfl,by omega,by omega,hR Y (Same.refl Y)⟩
  ·rw[yu]at hD5
   refine⟨l1,D,_,_,rfl,rfl,.of (s5 _ _ g1),.of hD5,?_,λl3 f3=>?_⟩
   ·rw[tj]
    have:=zI b
    exact zaC (qy (by show 1+_<=1000;omega))
   ·refine⟨_,l3,wb::(memN b 16).map G7,rfl,rfl,.of (by rw[tL,zaM];exact qe),?_,?_⟩
    ·have h2:=VZ (memN b 16) (Kw b)
     have:=zI b
     have e7:wb.length=7:=by decide+kernel
     have e1:(zdx " ").length=1:=by decide+kernel
     simp only[tL,zam,tP,tj,e7,e1]
     omega
    ·have q:=q _ (((s1.trans s2).trans s5).trans (qm (o:=HO.lst ([V.str (zdx "endless")]++(memN b 16).map λn=>V.str (G7 n))) f3))
     have e:Txt.join (zdx " ") (wb::(memN b 16).map G7)=VR (.edl b):=by rw[NY,Ed];rfl
     rw[e]
     exact q
end
theorem n9:((zdx "text")==(zdx "number"))=false:=by decide+kernel
theorem n10:((zdx "text")==(zdx "bits"))=false:=by decide+kernel
theorem Rt{CN CE a:Addr}{H:Hp}{w:W}{Q:VK}(h:Za CN CE H a w)(ok:Yl w)(q:∀H',Same H H'->Q (.str (VR w)) H'):
  ∃a' dx fs,V.ref a=.ref a'/\fs.lookup (zdx "text")=none/\((H a'=some (.ins CN dx fs)/\My CN CE [V.ref a] H Q E0)\/(H a'=some (.ins CE dx fs)/\Mz CN CE [V.ref a] H Q E0)):=by
 cases w with
 | num n=>obtain⟨dx,e⟩:=id h;exact⟨a,dx,_,rfl,NL n9,.inl ⟨e,a,n,rfl,h,ok,q H λ_ _ z=>z⟩⟩
 | edl b=>obtain⟨dx,e⟩:=id h;exact⟨a,dx,_,rfl,NL n10,.inr ⟨e,a,b,rfl,h,ok,q⟩⟩
theorem ym{X:Cx}(h:WF X.K X.mg)(t:Ad X.K X.mg h)(B:QB X.mg)(hr:qO 2 X.A){o:Expr}{ta:TE}{apos pos:Pos}{pl:Sem Bool}(he:JE X o ta)
  (ht:eval (.Call (.Attribute o "text" apos) [] [] pos) X.env=(eval o X.env >>= λov=>standAt apos.atName >>= λ_=>holding [ov] (getMethod ov "text" pl) >>= λr=>callWith pos r.1 r.2 (backTo pos (starEach [] X.env)) (backToKw pos (keywordEach [] X.env))):=by rfl):
  JE X (.Call (.Attribute o "text" apos) [] [] pos) (λσ H Q=>ta σ H λx H1=>∃a u,x=.ref a/\Za h.CN h.CE H1 a u/\Yl u/\∀H',Same H1 H'->Q (.str (VR u)) H'):=
 Xa (Yt (yk he) h.cN.cl t.nS.me (h.gNS t) (hr.mono (by decide)) t.nS.bi h.cE.cl t.eS.me (h.gES t B) hr t.eS.bi ht) λσ H Q q=>⟨_,q,λx H1 ⟨a,u,e,i,k,q1⟩=>by subst e;exact Rt i k q1⟩
abbrev tTx(CN CE:Addr)(ta:TE):TE:=λσ H Q=>ta σ H λx H1=>∃a u,x=.ref a/\Za CN CE H1 a u/\Yl u/\∀H',Same H1 H'->Q (.str (VR u)) H'
/-- o.text(),in a block -/
theorem KN{X:Cx}{K:zdw}{mg:Str->Option Value}(h:WF K mg)(t:Ad K mg h)(B:QB mg)(hr:qO 2 X.A){o:Expr}{ta:TE}{apos pos:Pos}{pl:Sem Bool}(he:JE X o ta)
  (ht:eval (.Call (.Attribute o "text" apos) [] [] pos) X.env=(eval o X.env >>= λov=>standAt apos.atName >>= λ_=>holding [ov] (getMethod ov "text" pl) >>= λr=>callWith pos r.1 r.2 (backTo pos (starEach [] X.env)) (backToKw pos (keywordEach [] X.env))):=by rfl) (eK:X.K=K:=by rfl) (eM:X.mg=mg:=by rfl):
  JE X (.Call (.Attribute o "text" apos) [] [] pos) (tTx h.CN h.CE ta):=by
 subst eK eM
 exact ym h t B hr he ht
section
variable{P:Program}{w:World}{K:zdw}{mg:Str->Option Value}{base:Heap}
def wW(CG CN CE:Addr):Sp:=λvs H Q _=>∃(g:Addr) (rs:jt) (z:Str),vs=[.ref g,.str z]/\jP CG H g rs/\qF rs/\rs.length<=14/\z∈rs.map (·.1)/\
 ∀H' a R,Same H H'->All (Zm rs) (rs.map (·.1)) 0 [] R->Za CN CE H' a (wT rs R z)->Q (.ref a) H'
theorem MM:qp ["ground","name"] ["ground","name"] (qj vm):=zdv
theorem AY{f fP fL CG:Addr}{fd fdP fdL:zdA}(F:jw K "worth_of" "worth_of" vm f fd)(h:WF K mg)(B:QB mg)(Z:Wk K mg)(G:Qm mg)(T:j9 K mg)(M:GM K mg CG)(Y:wz K mg)(hP:qZ K mg "need_place" Jb UA fP fdP)(hL:qZ K mg "label_worth" B6 ["label"] fL fdL):qo P w K mg base qJ 9 f fd ["ground","name"] (wW CG h.CN h.CE):=by
 obtain⟨fB,fdB,hB⟩:=Y.labels
 have GP:qo P w K mg base qJ 2 fP fdP UA (W4 CG):=Uw hP.fn G M
 have GB:qo P w K mg base qJ 8 fB fdB ["ground"] (Xl CG):=Wy hB.fn B G T M Y
 have GL:qo P w K mg base qJ 5 fL fdL ["label"] (Rz h.CN h.CE):=MW hL.fn h B Z
 refine F.okJ MM (λvs H Q E h=>?_) (λcdv A outer s H vs Q E hr h=>?_)
 ·obtain⟨g,rs,z,rfl,_⟩:=h
  rfl
 ·obtain⟨g,rs,z,rfl,gr,good,le14,hz,q⟩:=h
  have hu:=Qp hr
  refine⟨_,qg (jf (qT hP GP (hr.mono (by decide)) (by rfl) (qd (jv 0) (qd (jv 1) qf))))
   (qh (qt (qT hL GL (hr.mono (by decide)) (by rfl) (qd (jN hu (qT hB GB hr (by rfl) (qd (jv 0) qf)) (jv 1) (λ_ _=>rfl)) qf)))),?_⟩
  refine⟨_,rfl,_,rfl,g,rs,z,rfl,gr,tQ.mp hz,λH1 s1=>?_⟩
  refine⟨_,rfl,g,rs,rfl,gr.mono s1,good,le14,λH2 D R s2 hD lb all=>?_⟩
  have s12:=s1.trans s2
  have L:=xK (ZD good.nd) all
  obtain⟨kvs,a,_,c⟩:=lb.at_
  obtain⟨r,hr',er⟩:=tQ.mp hz
  obtain⟨t,u,v⟩:=c r hr'
  rw[er]at u v
  have gd:jU H2 D (.str z) (some (.ref t)):=by rw[<-u];exact jU.k (k:=(Sum.inr z:qG)) a
  exact⟨_,rfl,D,_,rfl,gd,t,rs,R,z,rfl,v,ki good L hz,λa H3 s3 i3=>q H3 a R (s12.trans s3) all i3⟩
/-- the rounds of a ground -/
noncomputable def Rof (rs:jt):Rs Str:=by classical exact if h:∃R,All (Zm rs) (rs.map (·.1)) 0 [] R then h.choose else []
theorem BW{rs:jt}{R:Rs Str}(nd:(rs.map (·.1)).Nodup)(a:All (Zm rs) (rs.map (·.1)) 0 [] R):R=Rof rs:=by
 have h:∃R,All (Zm rs) (rs.map (·.1)) 0 [] R:=⟨R,a⟩
 unfold Rof
 rw[dif_pos h]
 exact a.uniq nd h.choose_spec
def Cj(u:W):Str:=if (VR u).length<=60 then VR u else Str.empty
theorem Rn(u:W):(Cj u).length<=60:=by
 unfold Cj
 split
 ·assumption
 ·decide
noncomputable def wsRow (rs:jt) (z:Str):Str:=(z++zdx ": ")++Cj (wT rs (Rof rs) z)
noncomputable def wsL (rs:jt):List Str:=(rs.map (·.1)).map (wsRow rs)
noncomputable def wsTxt (rs:jt):Str:=Txt.join (zdx "; ") (wsL rs)
abbrev k7:V->V->Hp->VK->Prop:=λx y H Q=>∃i j,x=.str i/\y=.str j/\i.length+j.length<=zdB/\Q (.str (i++j)) H
theorem Aj{N:List Str}{f:Str->Str}(h:∀z∈N,(f z).length<=100):((N.map f).map (·.length)).sum<=100*N.length:=by
 induction N with
 | nil=>exact zao _
 | cons x l ih=>
  have a:=ih λy hy=>h y (tF _ hy)
  have b:=h x tK
  simp only[tL,zam,tP]at a ⊢
  omega
def Mw(CG:Addr):Sp:=λvs H Q _=>∃(g:Addr) (v:V) (rs:jt),vs=[.ref g,v]/\jP CG H g rs/\qF rs/\rs.length<=14/\∀H',Same H H'->Q (.str (wsTxt rs)) H'
theorem CI:qp ["ground","places"] ["ground","places"] (qj RP):=zdv
theorem AX{f fO CG:Addr}{fd fdO:zdA}(F:jw K "worths_answer" "worths_answer" RP f fd)(h:WF K mg)(t:Ad K mg h)(B:QB mg)(G:Qm mg)(M:GM K mg CG)(hO:qZ K mg "worth_of" vm ["ground","name"] fO fdO)(GO:qo P w K mg base qJ 9 fO fdO ["ground","name"] (wW CG h.CN h.CE)):qo P w K mg base qJ 10 f fd ["ground","places"] (Mw CG):=by
 obtain⟨fC,fdC,C⟩:=M.cls
 obtain⟨fN,fdN,hN⟩:=M.nm
 have GN:qo P w K mg base qJ 1 fN fdN ["self"] (Jv CG):=JD hN.fn C G
 refine F.okJ CI (λvs H Q E h=>?_) (λcdv A outer s H vs Q E hr z=>?_)
 ·obtain⟨g,v,rs,rfl,_⟩:=h
  rfl
 ·obtain⟨g,v,rs,rfl,gr,good,le14,q⟩:=z
  have r1:qO 1 _:=hr.mono (by decide)
  have r2:qO 2 _:=hr.mono (by decide)
  refine⟨_,qh (qt (QG t9 zat zau Qu qk (qd
   (Ql (N':=["name","ground"]) (ix:=[none,some 0]) (te:=Xi k7 (Xi k7 (qS 0) (tC (.str (zdx ": ")))) (tTx h.CN h.CE (QY (wW CG h.CN h.CE) [] E0 (jg (qS 1) (jg (qS 0) Qf))))) rfl ⟨rfl,rfl,rfl,rfl,rfl⟩ (qL (WH hN C.cl GN r1 (jv 0)))
    (λC s2 H2 fp pins=>⟨qx (i:=0) (show (["name","ground"]:List Str).Nodup by decide+kernel) rfl (Or.inl rfl),jr,
     qV jx (qV jx (jv 0) qk) (KN h t B r2 (qT hO GO hr (by rfl) (qd (jv 1) (qd (jv 0) qf))))⟩)) qf))),?_⟩
  obtain⟨dx,fs,hg,l1,l2⟩:=gr.ins
  refine⟨rfl,_,rfl,g,dx,fs,rfl,hg,l1,g,rs,rfl,gr,λl hl=>?_⟩
  have s1:Same H (upd H l (.lst ((rs.map (·.1)).map V.str))):=qm hl
  have hl1:upd H l (.lst ((rs.map (·.1)).map V.str)) l=some (.lst ((rs.map (·.1)).map V.str)):=qe
  generalize upd H l (.lst ((rs.map (·.1)).map V.str))=H1 at s1 hl1
  have lnm:∀z∈rs.map (·.1),z.length<=8:=λz hz=>by
   obtain⟨r,hr',rfl⟩:=tQ.mp hz
   exact(JX (good.nm r hr')).2.1
  have okz:∀{R:Rs Str},All (Zm rs) (rs.map (·.1)) 0 [] R->∀z∈rs.map (·.1),Yl (wT rs R z):=λa z hz=>ki good (xK (ZD good.nd) a) hz
  have llen:∀z∈rs.map (·.1),((z++zdx ": ").length=z.length+2):=λz _=>by rw[Str.length_append];rfl
  refine⟨l,rfl,⟨_,.of hl1⟩,λD hD=>?_⟩
  refine J9 (K:=K) (a:=l) (xs:=rs.map (·.1)) (enc:=V.str) (out:=λz=>some (V.str (wsRow rs z))) (rest:=[some (.ref g)]) hD hl1 (qy (by rw[tj];omega)) (λx hx Y sY R hR=>hR Y (Same.refl Y)) (λx hx v ev Y sY R hR=>?_) (λH5 s5 hD5=>?_)
  ·cases ev
   have s2:=s1.trans sY
   refine⟨_,rfl,_,_,rfl,rfl,tM (zci (lnm x hx) _) (by decide+kernel),_,rfl,_,rfl,g,rs,x,rfl,gr.mono s2,good,le14,hx,λH3 a R3 s3 all i3=>⟨a,_,rfl,i3,okz all x hx,λH4 s4=>⟨_,_,rfl,rfl,?_,?_⟩⟩⟩
   ·rw[llen x hx]
    have:=lnm x hx
    have:=kj (okz all x hx)
    exact tM (show _<=1000 by omega) (by decide)
   ·have e:=kj (okz all x hx)
    obtain rfl:=BW good.nd all
    have:=hR H4 (s3.trans s4)
    unfold wsRow Cj at this
    rw[if_pos e]at this
    exact this
  ·rw[yu]at hD5
   refine⟨_,D,wsL rs,rfl,rfl,.of (by unfold wsL;rw[zaM];exact hD5),?_,q H5 (s1.trans s5)⟩
   have a:=Aj (N:=rs.map (·.1)) (f:=wsRow rs) λz hz=>by
    show ((z++zdx ": ")++Cj _).length<=100
    rw[Str.length_append,llen z hz]
    have:=lnm z hz
    have:=Rn (wT rs (Rof rs) z)
    omega
   have e2:(zdx "; ").length=2:=by decide+kernel
   have e3:(wsL rs).length=rs.length:=by unfold wsL;rw[tj,tj]
   rw[tj]at a
   rw[e2,e3]
   exact tM (zci a _) (by omega)
end
end Rh
/-! ANSWERS:show,outcome;worth,single,alike,part where a place is refused. -/
namespace Rh
open PySem L2 PyProof.Rows MLab Rb
abbrev RQ:Stmt:=top 123
abbrev RT:Stmt:=top 124
abbrev RX:Stmt:=top 125
abbrev RV:Stmt:=top 126
abbrev RU:Stmt:=top 121
abbrev Yg:Stmt:=top 96
abbrev Zv:Stmt:=top 97
end Rh
namespace L2
theorem qo.up{P:PySem.Program}{w:PySem.World}{K:zdw}{mg:PySem.Str->Option PySem.Value}{base:PySem.Heap}{CX:zp}{k j:Nat}{f:PySem.Addr}{fd:PySem.FuncData}{ps:List PySem.Str}{sp:Sp}(a:qo P w K mg base CX k f fd ps sp)(h:k<=j):qo P w K mg base CX j f fd ps sp:=
 ⟨a.len,λA outer s H args us vs Q E hr he hb hv hs=>a.run A outer s H args us vs Q E (hr.mono h) he hb hv hs⟩
end L2
namespace Rh
open PySem L2 PyProof.Rows MLab Rb
/-- a place,or NoPlace of it -/
def Xk(CG CP:Addr):Sp:=λvs H Q E=>∃(g:Addr) (rs:jt) (z:Str),vs=[.ref g,.str z]/\jP CG H g rs/\((z∈rs.map (·.1)/\∀H',Same H H'->Q .non H')\/(z∉rs.map (·.1)/\Q5 CP E H (.str z)))
def V7(CG CP:Addr):Sp:=λvs H _ E=>∃(g l:Addr) (rs:jt) (z:Str) (xs:List V),vs=[.ref g,.ref l]/\jP CG H g rs/\H l=some (.lst (.str z::xs))/\z∉rs.map (·.1)/\Q5 CP E H (.str z)
def Cu(CG CP:Addr):Sp:=λvs H _ E=>∃(g:Addr) (rs:jt) (z:Str),vs=[.ref g,.str z]/\jP CG H g rs/\z∉rs.map (·.1)/\Q5 CP E H (.str z)
/-- v is the first that is no place -/
def GY(N:List Str)(x y v:Str):Prop:=(x∉N/\v=x)\/(x∈N/\y∉N/\v=y)
def V9(CG CP:Addr):Sp:=λvs H _ E=>∃(g:Addr) (rs:jt) (x y v:Str),vs=[.ref g,.str x,.str y]/\jP CG H g rs/\GY (rs.map (·.1)) x y v/\Q5 CP E H (.str v)
def V6(CG CP:Addr):Sp:=λvs H _ E=>∃(g l:Addr) (rs:jt) (x y v:Str),vs=[.ref g,.ref l]/\jP CG H g rs/\H l=some (.lst [.str x,.str y])/\GY (rs.map (·.1)) x y v/\Q5 CP E H (.str v)
theorem v8{x y:V}{xs:List V}:yH (x::y::xs) 1=some y:=by
 obtain⟨v,e1,e2⟩:=atI_get (xs:=x::y::xs) (r:=1) (by omega) (by rw[tP,tP];omega)
 rw[e1]
 exact e2.symm
section
variable{P:Program}{w:World}{K:zdw}{mg:Str->Option Value}{base:Heap}
theorem Kb{f CG D CP fP:Addr}{fd fdP:zdA}(F:jw K "need_place" "need_place" Jb f fd)(G:Qm mg)(M:GM K mg CG)(xP:zo K mg D "NoPlace" "NoPlace.__init__" Jc "found" CP fP fdP):qo P w K mg base (jX P w) 3 f fd UA (Xk CG CP):=by
 obtain⟨fC,fdC,C⟩:=M.cls
 obtain⟨fN,fdN,hN⟩:=M.nm
 have GN:qo P w K mg base qJ 1 fN fdN ["self"] (Jv CG):=JD hN.fn C G
 have GP:qo P w K mg base qJ 1 fP fdP ["self","found"] (zc CP "found"):=Bm xP
 refine F.okX CS (λvs H Q E h=>?_) (λcdv A outer s H vs Q E hr h=>?_)
 ·obtain⟨g,rs,z,rfl,_⟩:=h
  rfl
 ·obtain⟨g,rs,z,rfl,gr,q⟩:=h
  refine⟨_,qh (qE (qA Q2 (jv 1) (WH hN C.cl GN (hr.mono (by decide)) (jv 0)) (by with_unfolding_all rfl)) (qh (jA rfl Qh (jB xP.mkr GP hr (by rfl) xP.ns xP.bi jG (qd (jv 1) qf)))) qv),?_⟩
  obtain⟨dx,fs,hg,l1,l2⟩:=gr.ins
  refine⟨_,rfl,_,rfl,g,dx,fs,rfl,hg,l1,g,rs,rfl,gr,λl hl=>⟨l,_,rfl,.inl (.of qe),rfl,Q9 _,_,rfl,?_⟩⟩
  show if (!Yu (.str z) ((rs.map (·.1)).map V.str))=true then _ else _
  rcases q with ⟨hz,q⟩ | ⟨hz,o⟩
  ·rw[J4 hz]
   exact jh (q _ (qm hl))
  ·rw[show Yu (.str z) ((rs.map (·.1)).map V.str)=false from zbZ.mpr λe=>hz (Vt.mp e)]
   exact Qj ⟨_,rfl,by show 1<=zdB;decide,JV xP (o.mono (qm hl))⟩
section
variable{f fQ CG D CP fP:Addr}{fd fdQ fdP:zdA}
theorem Nk(F:jw K "worth_of" "worth_of" vm f fd)(hQ:qZ K mg "need_place" Jb UA fQ fdQ)(GQ:qo P w K mg base (jX P w) 3 fQ fdQ UA (Xk CG CP)):qo P w K mg base (jX P w) 4 f fd ["ground","name"] (Cu CG CP):=by
 refine F.okX MM (λvs H Q E h=>?_) (λcdv A outer s H vs Q E hr h=>?_)
 ·obtain⟨g,rs,z,rfl,_⟩:=h
  rfl
 ·obtain⟨g,rs,z,rfl,gr,hz,o⟩:=h
  exact⟨_,qg (jf (QL hQ GQ hr qU (by rfl) (qd (jv 0) (qd (jv 1) qf)))) qI,_,rfl,_,rfl,g,rs,z,rfl,gr,.inr ⟨hz,o⟩⟩
theorem CJ:qp ["ground","places"] ["ground","places"] (qj RQ):=zdv
theorem AZ{fO:Addr}{fdO:zdA}(F:jw K "worth_answer" "worth_answer" RQ f fd)(h:WF K mg)(t:Ad K mg h)(B:QB mg)(hO:qZ K mg "worth_of" vm ["ground","name"] fO fdO)(GO:qo P w K mg base (jX P w) 4 fO fdO ["ground","name"] (Cu CG CP)):qo P w K mg base (jX P w) 5 f fd ["ground","places"] (V7 CG CP):=by
 refine F.okX CJ (λvs H Q E h=>?_) (λcdv A outer s H vs Q E hr z=>?_)
 ·obtain⟨g,l,rs,z,xs,rfl,_⟩:=h
  rfl
 ·obtain⟨g,l,rs,z,xs,rfl,gr,hl,hz,o⟩:=z
  exact⟨_,qh (qt (ym h t B (hr.mono (by decide)) (QL hO GO hr qU (by rfl) (qd (jv 0) (qd (qQ qP (jv 1) ql (λ_ _=>rfl)) qf))))),_,rfl,_,rfl,l,_,0,.str z,rfl,rfl,.of hl,js,g,rs,z,rfl,gr,hz,o⟩
abbrev EO:List Str:=["ground","places","entry"]
theorem CO:qp EO ["ground","places"] (qj RT):=zdv
theorem A1(F:jw K "single_answer" "single_answer" RT f fd)(hQ:qZ K mg "need_place" Jb UA fQ fdQ)(GQ:qo P w K mg base (jX P w) 3 fQ fdQ UA (Xk CG CP)):qo P w K mg base (jX P w) 5 f fd ["ground","places"] (V7 CG CP):=by
 refine F.okX CO (λvs H Q E h=>?_) (λcdv A outer s H vs Q E hr z=>?_)
 ·obtain⟨g,l,rs,z,xs,rfl,_⟩:=h
  rfl
 ·obtain⟨g,l,rs,z,xs,rfl,gr,hl,hz,o⟩:=z
  exact⟨_,qg (jf (QL hQ GQ (hr.mono (by decide)) qU (by rfl) (qd (jv 0) (qd (qQ qP (jv 1) ql (λ_ _=>rfl)) qf)))) qI,_,rfl,_,rfl,l,_,0,.str z,rfl,rfl,.of hl,js,g,rs,z,rfl,gr,.inr ⟨hz,o⟩⟩
abbrev nAl:List Str:=["ground","one","other","told"]
abbrev wA:List Str:=["ground","one","other"]
theorem RO:qp nAl wA (qj Yg):=zdv
theorem Bh(F:jw K "alike" "alike" Yg f fd)(hQ:qZ K mg "need_place" Jb UA fQ fdQ)(GQ:qo P w K mg base (jX P w) 3 fQ fdQ UA (Xk CG CP)):qo P w K mg base (jX P w) 4 f fd wA (V9 CG CP):=by
 refine F.okX RO (λvs H Q E h=>?_) (λcdv A outer s H vs Q E hr h=>?_)
 ·obtain⟨g,rs,x,y,v,rfl,_⟩:=h
  rfl
 ·obtain⟨g,rs,x,y,v,rfl,gr,hn,o⟩:=h
  refine⟨_,qg (jf (QL hQ GQ hr qU (by rfl) (qd (jv 0) (qd (jv 1) qf)))) (qg (jf (QL hQ GQ hr qU (by rfl) (qd (jv 0) (qd (jv 2) qf)))) qI),_,rfl,_,rfl,g,rs,x,rfl,gr,?_⟩
  rcases hn with ⟨hn,rfl⟩ | ⟨hx,hn,rfl⟩
  ·exact .inr ⟨hn,o⟩
  ·exact .inl ⟨hx,λH1 s1=>⟨_,rfl,_,rfl,g,rs,_,rfl,gr.mono s1,.inr ⟨hn,o.mono s1⟩⟩⟩
abbrev nPt:List Str:=["ground","one","other","labels","triples"]
theorem Ej:qp nPt wA (qj Zv):=zdv
theorem Kc{fA:Addr}{fdA:zdA}(F:jw K "parting" "parting" Zv f fd)(hA:qZ K mg "alike" Yg wA fA fdA)(GA:qo P w K mg base (jX P w) 4 fA fdA wA (V9 CG CP)):qo P w K mg base (jX P w) 5 f fd wA (V9 CG CP):=by
 refine F.okX Ej (λvs H Q E h=>?_) (λcdv A outer s H vs Q E hr h=>?_)
 ·obtain⟨g,rs,x,y,v,rfl,_⟩:=h
  rfl
 ·obtain⟨g,rs,x,y,v,rfl,r⟩:=h
  exact⟨_,qg (qE (jd (QL hA GA hr qU (by rfl) (qd (jv 0) (qd (jv 1) (qd (jv 2) qf))))) qI qv) qI,_,rfl,_,rfl,_,rfl,g,rs,x,y,v,rfl,r⟩
theorem CV:qp ["ground","places"] ["ground","places"] (qj RX):=zdv
theorem Bj{fA:Addr}{fdA:zdA}(F:jw K "alike_answer" "alike_answer" RX f fd)(hA:qZ K mg "alike" Yg wA fA fdA)(GA:qo P w K mg base (jX P w) 4 fA fdA wA (V9 CG CP)):qo P w K mg base (jX P w) 6 f fd ["ground","places"] (V6 CG CP):=by
 refine F.okX CV (λvs H Q E h=>?_) (λcdv A outer s H vs Q E hr h=>?_)
 ·obtain⟨g,l,rs,x,y,v,rfl,_⟩:=h
  rfl
 ·obtain⟨g,l,rs,x,y,v,rfl,gr,hl,r⟩:=h
  exact⟨_,qg (qE (jd (QL hA GA (hr.mono (by decide)) qU (by rfl) (qd (jv 0) (qd (qQ qP (jv 1) ql (λ_ _=>rfl)) (qd (qQ qP (jv 1) ql (λ_ _=>rfl)) qf))))) qI qv) qI,
   _,rfl,_,rfl,l,_,0,_,rfl,rfl,.of hl,js,_,rfl,l,_,1,_,rfl,rfl,.of hl,v8,g,rs,x,y,v,rfl,gr,r⟩
theorem MO:qp ["ground","places","triple"] ["ground","places"] (qj RV):=zdv
theorem A6{fA:Addr}{fdA:zdA}(F:jw K "part_answer" "part_answer" RV f fd)(hA:qZ K mg "parting" Zv wA fA fdA)(GA:qo P w K mg base (jX P w) 5 fA fdA wA (V9 CG CP)):qo P w K mg base (jX P w) 6 f fd ["ground","places"] (V6 CG CP):=by
 refine F.okX MO (λvs H Q E h=>?_) (λcdv A outer s H vs Q E hr h=>?_)
 ·obtain⟨g,l,rs,x,y,v,rfl,_⟩:=h
  rfl
 ·obtain⟨g,l,rs,x,y,v,rfl,gr,hl,r⟩:=h
  exact⟨_,qg (qD (i:=2) MO.nd rfl (Or.inl rfl) (QL hA GA hr qU (by rfl) (qd (jv 0) (qd (qQ qP (jv 1) ql (λ_ _=>rfl)) (qd (qQ qP (jv 1) ql (λ_ _=>rfl)) qf))))) qI,
   _,rfl,_,rfl,l,_,0,_,rfl,rfl,.of hl,js,_,rfl,l,_,1,_,rfl,rfl,.of hl,v8,g,rs,x,y,v,rfl,gr,r⟩
end
/-! ### show_answer,outcome_answer -/
def MK(rs:jt):Str:=Txt.replace (Ee rs) (zdx "\n") (zdx "; ")
def MB(CG:Addr):Sp:=λvs H Q _=>∃(g:Addr) (v:V) (rs:jt),vs=[.ref g,v]/\jP CG H g rs/\qF rs/\rs.length<=14/\(Ee rs).length<=1000000/\∀H',Same H H'->Q (.str (MK rs)) H'
theorem CQ:qp ["ground","places"] ["ground","places"] (qj RU):=zdv
theorem A4{f fG CG:Addr}{fd fdG:zdA}(F:jw K "show_answer" "show_answer" RU f fd)(hG:qZ K mg "show_ground" Uc ["ground"] fG fdG)(GG:qo P w K mg base qJ 2 fG fdG ["ground"] (MA CG)):Q0 P w K mg base qJ 3 f fd ["ground","places"] (MB CG):=by
 refine BK F CQ (λvs H Q E h=>?_) (λcdv A outer s s1 H vs Q E hr h ht I=>?_)
 ·obtain⟨g,v,rs,rfl,_⟩:=h
  rfl
 ·obtain⟨g,v,rs,rfl,gr,good,le14,sm,q⟩:=h
  refine EB (C0 (JE.to (qT hG GG hr (by rfl) (qd (jv 0) qf))) (by decide+kernel) (by decide+kernel) (pins:=[]) (s:=s1) (σ:=Ze ["ground","places"] [.ref g,v]) (H:=H) (Q:=Q) (I:=I) (h:=?_) (ht:=ht))
  exact⟨_,rfl,g,rs,rfl,gr,good,le14,λH' s'=>⟨_,rfl,sm,q H' s'⟩⟩
noncomputable def outT (rs:jt) (hs:List Str):Str:=by classical exact if zT (mv (Zl rs)) hs then zdx "lost" else if Won (mv (Zl rs)) hs then zdx "won" else zdx "drawn"
def ua(CG:Addr):Sp:=λvs H Q _=>∃(g h:Addr) (rs:jt) (hs:List Str),vs=[.ref g,.ref h]/\jP CG H g rs/\qF rs/\rs.length<=14/\Zb H h rs hs/\∀H',Same H H'->Q (.str (outT rs hs)) H'
theorem Ay:qp ["ground","heap"] ["ground","heap"] (qj kU):=zdv
theorem Nv{f fG CG:Addr}{fd fdG:zdA}(F:jw K "outcome_answer" "outcome_answer" kU f fd)(hG:qZ K mg "outcome" Ue ["ground","heap"] fG fdG)(GG:qo P w K mg base qJ 10 fG fdG ["ground","heap"] (w5 CG)):qo P w K mg base qJ 11 f fd ["ground","heap"] (ua CG):=by
 refine F.okJ Ay (λvs H Q E h=>?_) (λcdv A outer s H vs Q E hr h=>?_)
 ·obtain⟨g,h,rs,hs,rfl,_⟩:=h
  rfl
 ·obtain⟨g,h,rs,hs,rfl,gr,good,le14,hh,q⟩:=h
  refine⟨_,qh (qt (qT hG GG hr (by rfl) (qd (jv 0) (qd (jv 1) qf)))),_,rfl,_,rfl,g,h,rs,hs,rfl,gr,good,le14,hh,λH' z s' hz=>?_⟩
  have e:z=outT rs hs:=by
   unfold outT
   rcases hz with ⟨a,rfl⟩ | ⟨a,rfl⟩ | ⟨a,b,rfl⟩
   ·rw[if_pos a]
   ·rw[if_neg (won_not a),if_pos a]
   ·rw[if_neg a,if_neg b]
  rw[e]
  exact q H' s'
end
end Rh
/-! THE DESK:need_heap,make_heap,ground_made,__init__. -/
namespace Rh
open PySem L2 PyProof.Rows MLab Rb
abbrev Xx:Stmt:=top 135
abbrev Vf:Stmt:=ja (top 137) 0
abbrev vn:Stmt:=ja (top 137) 1
abbrev zC:Stmt:=ja (top 137) 2
theorem GC{xs:List V}{n:Nat}{v:V}(h:xs[n]?=some v):yH xs (n:Int)=some v:=by
 have l:=(tq.mp h).1
 obtain⟨u,e1,e2⟩:=atI_get (xs:=xs) (r:=n) (by omega) (by omega)
 rw[e1,<-e2]
 exact h
theorem UU{zs:List Str}{n:Nat}:J7 (zs.map V.str) (some (n:Int)) none=(zs.drop n).map V.str:=by
 unfold J7
 rw[HT.sIx_none,HT.sIx_nat,tj,List.map_drop]
 rcases Nat.le_total n zs.length with c | c
 ·rw[zbD c,tI (by rw[zcd,tj];omega)]
 ·rw[Nat.min_eq_right c,zcW (by rw[tj];exact tu _),zcW (by rw[tj];exact c),List.take_nil]
theorem Bv{v u:V}:([(zdx "grounds",v),(zdx "heaps",u)]:List (Str×V)).lookup (zdx "grounds")=some v:=by simp [zaA]
theorem Dn{v u:V}:([(zdx "grounds",v),(zdx "heaps",u)]:List (Str×V)).lookup (zdx "heaps")=some u:=by rw[zad,ngh];simp [zaA]
/-- a heap of texts:good,too many,or one that is no place -/
inductive Ch(N hs:List Str)(CT CP:Addr)(H:Hp)(E:XK)(R:Prop):Prop where
 | good (l:hs.length<=8) (h:∀z∈hs,z∈N) (r:R)
 | many (l:8 < hs.length) (m:hs.length<=1000) (o:Q5 CT E H (.int (hs.length:Nat)))
 | place (l:hs.length<=8) (pre rest:List Str) (z:Str) (e:hs=pre++z::rest) (h:∀y∈pre,y∈N) (n:z∉N) (o:Q5 CP E H (.str z))
def MH(CG CT CP:Addr):Sp:=λvs H Q E=>∃(g l:Addr) (rs:jt) (hs:List Str),vs=[.ref g,.ref l]/\jP CG H g rs/\H l=some (.lst (hs.map V.str))/\Ch (rs.map (·.1)) hs CT CP H E (∀H',Same H H'->Q .non H')
section
variable{P:Program}{w:World}{K:zdw}{mg:Str->Option Value}{base:Heap}
theorem A8{f fQ CG D fP fT fH CP CT CH:Addr}{fd fdQ fdP fdT fdH:zdA}(F:jw K "need_heap" "need_heap" Yf f fd)(B:QB mg)(G:Qm mg)(T:j9 K mg)(M:GM K mg CG)(hQ:qZ K mg "need_place" Jb UA fQ fdQ)(mt:∃t,mg "MOST_TOKENS"=some (.int 8 t))
  (xP:zo K mg D "NoPlace" "NoPlace.__init__" Jc "found" CP fP fdP) (xT:zo K mg D "TooMany" "TooMany.__init__" Zt "found" CT fT fdT) (xH:zo K mg D "NoHeap" "NoHeap.__init__" ZR "found" CH fH fdH):qo P w K mg base (jX P w) 4 f fd ["ground","heap"] (MH CG CT CP):=by
 obtain⟨tk,hmt⟩:=mt
 have GQ:qo P w K mg base (jX P w) 3 fQ fdQ UA (Xk CG CP):=Kb hQ.fn G M xP
 have GT:qo P w K mg base qJ 1 fT fdT ["self","found"] (zc CT "found"):=Bo xT
 refine F.okX RJ (λvs H Q E h=>?_) (λcdv A outer s H vs Q E hr h=>?_)
 ·obtain⟨g,l,rs,hs,rfl,_⟩:=h
  rfl
 ·obtain⟨g,l,rs,hs,rfl,gr,hl,h⟩:=h
  have r2:qO 2 _:=hr.mono (by decide)
  refine⟨_,qg (qE (jy (jd (qu qX (by rfl) T.isi boot_isinstance (qd (jv 1) (qd (jR (v:=.ty "list") (by rfl) G.lst boot_list rfl) qf))))) qI qv)
   (qg (qE (qA Zy (qu qB (by rfl) B.len boot_len (qd (jv 1) qf)) (qM (v:=.int 8) (by rfl) hmt ⟨_,rfl⟩) (qC _)) (qh (jA rfl Qh (jB xT.mkr GT r2 (by rfl) xT.ns xT.bi jG (qd (qu qB (by rfl) B.len boot_len (qd (jv 1) qf)) qf)))) qv)
   (qh (J0 (t:=zZ (zM K (qS 1)) (j3 2) (kx (QY (Xk CG CP) [] E (jg (qS 0) (jg (qS 2) Qf))))) λpn W hO hP hR=>jC hO rfl (qL (jv 1)) (qx (i:=2) RJ.nd rfl (Or.inl rfl)) (qh (jf (QL hQ GQ hr hP (by rfl) (qd (jv 0) (qd (jv 2) qf)))))))),?_⟩
  refine⟨_,rfl,_,_,_,_,rfl,rfl,.lst hl,T.kll,_,rfl,jh ?_⟩
  have len:(hs.map V.str).length=hs.length:=tj _
  refine⟨_,rfl,l,_,rfl,.inl (.of hl),_,_,rfl,rfl,_,rfl,?_⟩
  rw[len]
  have loop:∀(i0:Nat),i0<=hs.length->(∀(i:Nat) (z:Str),i < i0->hs[i]?=some z->z∈rs.map (·.1))->(∀z,hs[i0]?=some z->z∉rs.map (·.1)/\Q5 CP E H (.str z))->(i0=hs.length->∀H',Same H H'->Q .non H')->
    zZ (zM K (qS 1)) (j3 2) (kx (QY (Xk CG CP) [] E (jg (qS 0) (jg (qS 2) Qf)))) {nx:=λx H'=>Q .non H',rt:=Q} [some (.ref g),some (.ref l),none] H:=λi0 le ins bad end'=>by
   refine⟨_,rfl,l,rfl,⟨_,.of hl⟩,?_⟩
   refine jk (K:=K) (a:=l) (xs:=hs.map V.str) (λi σ' X=>(∃v,σ'=[some (.ref g),some (.ref l),v])/\Same H X/\i<=i0) ⟨⟨_,rfl⟩,Same.refl H,zao _⟩ (λi σ' X _ ⟨_,sx,_⟩=>.of (sx _ _ hl)) ?_ ?_
   ·rintro i y σ' X hy ⟨⟨v,rfl⟩,sx,hi⟩
    obtain⟨z,ez,hz,rfl⟩:=Qg hy
    refine⟨_,rfl,_,rfl,g,rs,z,rfl,gr.mono sx,?_⟩
    rcases zbe i i0 with c | c
    ·exact .inl ⟨ins i z c ez,λX' s'=>⟨⟨_,rfl⟩,sx.trans s',c⟩⟩
    ·obtain rfl:i=i0:=by omega
     obtain⟨nz,o⟩:=bad z ez
     exact .inr ⟨nz,o.mono sx⟩
   ·rintro σ' X ⟨_,sx,hi⟩
    rw[len]at hi
    exact end' (by omega) X sx
  cases h with
  | good l8 h r=>exact qH (decide_eq_false (by omega)) (loop hs.length (tu _) (λi z _ e=>h z (tV e)) (λz e=>by rw[List.getElem?_eq_none (tu _)]at e;cases e) λ_=>r)
  | many l8 m o=>exact qW (decide_eq_true (by omega)) ⟨_,rfl,l,_,rfl,.inl (.of hl),by show 1<=zdB;decide,JV xT (by rw[len];exact o)⟩
  | place l8 pre rest z e h n o=>
   subst e
   refine qH (decide_eq_false (by omega)) (loop pre.length (by rw[tR];omega) (λi y c e=>?_) (λy e=>?_) λe=>?_)
   ·rw[zay c]at e
    exact h y (tV e)
   ·rw[zap (tu _),zct]at e
    obtain rfl:z=y:=by simpa using e
    exact⟨n,o⟩
   ·rw[tR,tP]at e
    omega
/-- what stays when a desk's dict is changed -/
def ub(CD CG CT CP:Addr):Sp:=λvs H Q E=>∃(a dg dh l g:Addr) (gs hs:List (qG×V)) (y x gn:Str) (ps:List Str) (rs:jt),vs=[.ref a,.ref l]/\ZM CD H a dg dh gs hs/\H l=some (.lst ((y::x::gn::ps).map V.str))/\jc gs (Sum.inr gn:qG)=some (.ref g)/\jP CG H g rs/\hs.length<=1000/\
 Ch (rs.map (·.1)) ps CT CP H E (∀H' t l',Fr H dh H'->H' dh=some (.dK (Qn hs (Sum.inr x:qG) (.ref t)))->H' t=some (.tup [.ref g,.ref l'])->H' l'=some (.lst (ps.map V.str))->Q .non H')
theorem MQ:qp ["self","words","ground"] ["self","words"] (qj zC):=zdv
theorem Ch.mono{N hs:List Str}{CT CP:Addr}{H H':Hp}{E:XK}{R R':Prop}(h:Ch N hs CT CP H E R)(s:Same H H')(k:R->R'):Ch N hs CT CP H' E R':=by
 cases h with
 | good l h r=>exact .good l h (k r)
 | many l m o=>exact .many l m (o.mono s)
 | place l pre rest z e h n o=>exact .place l pre rest z e h n (o.mono s)
theorem A9{f fH CG CD CT CP:Addr}{fd fdH:zdA}(F:jw K "make_heap" "Desk.make_heap" zC f fd)(C:wB K CD)(hH:qZ K mg "need_heap" Yf ["ground","heap"] fH fdH)(GH:qo P w K mg base (jX P w) 4 fH fdH ["ground","heap"] (MH CG CT CP)):qo P w K mg base (jX P w) 5 f fd ["self","words"] (ub CD CG CT CP):=by
 refine F.okX MQ (λvs H Q E h=>?_) (λcdv A outer s H vs Q E hr h=>?_)
 ·obtain⟨a,dg,dh,l,g,gs,hs,y,x,gn,ps,rs,rfl,_⟩:=h
  rfl
 ·obtain⟨a,dg,dh,l,g,gs,hs,y,x,gn,ps,rs,rfl,hd,hl,ev,gr,few,h⟩:=h
  have hu:=Qp hr
  refine⟨_,qg (qD (i:=2) MQ.nd rfl (Or.inl rfl) (jN hu (jD (jv 0) rfl) (qQ qP (jv 1) ql (λ_ _=>rfl)) (λ_ _=>rfl)))
   (qg (jf (QL hH GH hr qU (by rfl) (qd (jv 2) (qd (jZ Qt (jv 1) (Qv ql) Qw) qf))))
   (qh (j7 hu (jD (jv 0) rfl) (qQ qP (jv 1) ql (λ_ _=>rfl)) (q5 (qd (jv 2) (qd (jZ Qt (jv 1) (Qv ql) Qw) qf))) rfl))),?_⟩
  have gg:jU H dg (.str gn) (some (.ref g)):=by rw[<-ev];exact jU.k (k:=(Sum.inr gn:qG)) hd.gr
  have c3:J7 ((y::x::gn::ps).map V.str) (some (3:Int)) none=ps.map V.str:=UU (n:=3)
  obtain⟨dx0,e0⟩:=hd.at_
  refine⟨_,rfl,a,CD,dx0,_,_,rfl,e0,C.cl,C.ng,Bv,_,rfl,l,_,2,.str gn,rfl,rfl,.of hl,GC (n:=2) rfl,dg,_,rfl,gg,?_⟩
  refine⟨_,rfl,_,rfl,3,rfl,l,_,rfl,.of hl,λl3 f3=>?_⟩
  rw[c3]
  have s1:=qm (o:=HO.lst (ps.map V.str)) f3
  have y1:upd H l3 (HO.lst (ps.map V.str)) l3=some (.lst (ps.map V.str)):=qe
  generalize upd H l3 (HO.lst (ps.map V.str))=H1 at s1 y1
  refine⟨g,l3,rs,ps,rfl,gr.mono s1,y1,h.mono s1 λq H2 s2=>?_⟩
  have s12:=s1.trans s2
  refine⟨_,rfl,_,rfl,3,rfl,l,_,rfl,.of (s12 _ _ hl),λl4 f4=>⟨by show 2<=zdB;decide,λt ft=>?_⟩⟩
  rw[c3]at ft ⊢
  have s3:=qm (o:=HO.lst (ps.map V.str)) f4
  have y3:upd H2 l4 (HO.lst (ps.map V.str)) l4=some (.lst (ps.map V.str)):=qe
  generalize upd H2 l4 (HO.lst (ps.map V.str))=H3 at s3 y3 ft
  have s4:=qm (o:=HO.tup [.ref g,.ref l4]) ft
  have y4:upd H3 t (HO.tup [.ref g,.ref l4]) t=some (.tup [.ref g,.ref l4]):=qe
  generalize upd H3 t (HO.tup [.ref g,.ref l4])=H4 at s4 y4
  have sA:=(s12.trans s3).trans s4
  have hd4:=hd.mono sA
  refine⟨_,rfl,a,CD,dx0,_,_,rfl,sA _ _ e0,C.cl,C.nh,Dn,_,rfl,l,_,1,.str x,rfl,rfl,.of (sA _ _ hl),GC (n:=1) rfl,dh,_,rfl,Jk.k (k:=(Sum.inr x:qG)) hd4.hp (qy few),?_⟩
  have n1:t≠dh:=λe=>by rw[e,hd4.hp]at y4;cases y4
  have n2:l4≠dh:=λe=>by have:=s4 _ _ y3;rw[e,hd4.hp]at this;cases this
  exact q _ t l4 (λb o hb nb=>by rw[qi nb];exact sA _ _ hb) qe (by rw[qi n1];exact y4) (by rw[qi n2];exact s4 _ _ y3)
/-! ### ground_made -/
def Vv(ws:List Str):Str:=Txt.replace (Txt.join (zdx " ") ws) (zdx "; ") (zdx "\n")
def MI(K:zdw)(CG:Addr)(c:C4):Sp:=λvs H Q E=>∃(v:V) (l:Addr) (x:Str) (ws:List Str),vs=[v,.ref l]/\H l=some (.lst ((zdx "ground"::x::ws).map V.str))/\(ws.map (·.length)).sum+ws.length<=1000/\(Txt.join (zdx " ") ws).length<=1000/\∀H',Same H H'->Zq K CG c [.str (Vv ws)] H' Q E
theorem CU:qp ["desk","words","one","other"] ["desk","words"] (qj Xx):=zdv
theorem Be{f fR CG:Addr}{c:C4}{fd fdR:zdA}(F:jw K "ground_made" "ground_made" Xx f fd)(hR:qZ K mg "read_ground" Ud ["text"] fR fdR)(GR:qo P w K mg base (jX P w) 8 fR fdR ["text"] (Zq K CG c)):qo P w K mg base (jX P w) 9 f fd ["desk","words"] (MI K CG c):=by
 refine F.okX CU (λvs H Q E h=>?_) (λcdv A outer s H vs Q E hr h=>?_)
 ·obtain⟨v,l,x,ws,rfl,_⟩:=h
  rfl
 ·obtain⟨v,l,x,ws,rfl,hl,len,zj,h⟩:=h
  refine⟨_,qg (qE (qA jY (qQ qP (jv 1) ql (λ_ _=>rfl)) qk (qC _)) (qh (qt (QL hR GR hr qU (by rfl)
   (qd (NS (Ds (JA.to (qd (jZ Qt (jv 1) (Qv ql) Qw) qf))) (by decide+kernel) (by decide+kernel)) qf)))) qv) qI,?_⟩
  have c2:J7 ((zdx "ground"::x::ws).map V.str) (some (2:Int)) none=ws.map V.str:=UU (n:=2)
  refine⟨_,rfl,l,_,0,_,rfl,rfl,.of hl,js,rfl,_,rfl,qW (decide_eq_true rfl) ?_⟩
  refine⟨rfl,_,rfl,2,rfl,l,_,rfl,.of hl,λl3 f3=>?_⟩
  rw[c2]
  refine⟨_,l3,ws,rfl,rfl,.of qe,?_,_,rfl,tM zj (by decide),h _ (qm f3)⟩
  rw[show (zdx " ").length=1 by decide+kernel]
  omega
/-! ### __init__ -/
def CB(CD:Addr):Sp:=λvs H Q _=>∃x dx:Addr,vs=[.ref x]/\H x=some (.ins CD dx [])/\∀H' dg dh,ZM CD H' x dg dh [] []->dg≠dh->Fr H x H'->Q .non H'
theorem C9(v:V):Jj (zdx "grounds") v []=[(zdx "grounds",v)]:=rfl
theorem C8(v u:V):Jj (zdx "heaps") u [(zdx "grounds",v)]=[(zdx "grounds",v),(zdx "heaps",u)]:=by
 unfold Jj
 rw[if_neg (by decide+kernel)]
 rfl
theorem Ey:qp ["self"] ["self"] (qj Vf):=zdv
theorem Df{f CD:Addr}{fd:zdA}(F:jw K "__init__" "Desk.__init__" Vf f fd)(C:wB K CD):qo P w K mg base qJ 1 f fd ["self"] (CB CD):=by
 refine F.okJ Ey (λvs H Q E h=>?_) (λcdv A outer s H vs Q E hr h=>?_)
 ·obtain⟨x,dx,rfl,_⟩:=h
  rfl
 ·obtain⟨x,dx,rfl,hx,q⟩:=h
  refine⟨_,qg (Yr (jv 0) Qc rfl) (qh (Yr (jv 0) Qc rfl)),?_⟩
  intro dg f1
  have n1:dg≠x:=λe=>by rw[e,hx]at f1;cases f1
  refine⟨_,rfl,x,CD,dx,[],rfl,qw hx f1,C.cl,C.ng,by decide,?_⟩
  intro dh f2
  have n2:dh≠x:=λe=>by rw[e,qe]at f2;cases f2
  have n3:dh≠dg:=λe=>by rw[e,qi n1,qe]at f2;cases f2
  refine⟨_,rfl,x,CD,dx,_,rfl,qw qe f2,C.cl,C.nh,by show 1 < 1000;decide,?_⟩
  rw[C9,C8]
  refine q _ dg dh ⟨⟨dx,qe⟩,?_,?_⟩ (Ne.symm n3) λb o hb nb=>?_
  ·rw[qi n1,qi (Ne.symm n3),qi n1]
   exact qe
  ·rw[qi n2]
   exact qe
  ·rw[qi nb,qi (λe=>?_),qi nb,qi (λe=>?_)]
   ·exact hb
   ·rw[e,f1]at hb;cases hb
   ·rw[qi n2,qi n3]at f2
    rw[e,f2]at hb;cases hb
end
end Rh
/-! THE DESK:say. -/
namespace Rh
open PySem L2 PyProof.Rows MLab Rb
/-- where the answers lie -/
structure FA where
 (sh ws wo si al pt tk oc:Addr)
inductive Yx(fs:FA)(CG CP:Addr):Str->Addr->Sp->Prop where
 | sh:Yx fs CG CP "show" fs.sh (MB CG)
 | ws:Yx fs CG CP "worths" fs.ws (Mw CG)
 | wo:Yx fs CG CP "worth" fs.wo (V7 CG CP)
 | si:Yx fs CG CP "single" fs.si (V7 CG CP)
 | al:Yx fs CG CP "alike" fs.al (V6 CG CP)
 | pt:Yx fs CG CP "part" fs.pt (V6 CG CP)
inductive VE(fs:FA)(CG:Addr):Str->Addr->Sp->Prop where
 | tk:VE fs CG "tokens" fs.tk wY
 | oc:VE fs CG "outcome" fs.oc (ua CG)
def gaN:List Str:=["show","worths","worth","single","alike","part","ring"]
def haN:List Str:=["tokens","outcome","moves","most"]
def D4(P:Program)(w:World)(K:zdw)(mg:Str->Option Value)(fs:FA):Prop:=∃(a:Addr) (kvs:List (qG×V)),mg "GROUND_ANSWERS"=some (.ref a)/\KD K P w a kvs/\(∀z,z∉gaN->jc kvs (Sum.inr z:qG)=none)/\∀CG CP y f sp,Yx fs CG CP y f sp->jc kvs (Sum.inr y:qG)=some (.ref f)
def D3(P:Program)(w:World)(K:zdw)(mg:Str->Option Value)(fs:FA):Prop:=∃(a:Addr) (kvs:List (qG×V)),mg "HEAP_ANSWERS"=some (.ref a)/\KD K P w a kvs/\(∀z,z∉haN->jc kvs (Sum.inr z:qG)=none)/\∀CG y f sp,VE fs CG y f sp->jc kvs (Sum.inr y:qG)=some (.ref f)
theorem VE.mem{fs:FA}{CG f:Addr}{y:Str}{sp:Sp}(h:VE fs CG y f sp):y∈haN/\y∉gaN:=by cases h<;>decide+kernel
/-- a line whose names are known:its first word,those behind -/
def Ln(v:V)(gs hs:List (qG×V))(y:Str)(ws:List Str):Prop:=∃(z:Str) (ks:List Str),v=.str z/\z.length<=1000/\Jf z=true/\Txt.split z Qq=y::ws/\Jh.lookup y=some ks/\∀p∈ks.zip ws,known gs hs p.1 p.2=none
/-- one whose names are not -/
def Fb(c:C3)(v:V)(gs hs:List (qG×V))(H:Hp)(E:XK):Prop:=∃(z y:Str) (ws ks:List Str) (i:Nat) (k x:Str) (r:Kn),v=.str z/\z.length<=1000/\Jf z=true/\Txt.split z Qq=y::ws/\Jh.lookup y=some ks/\(ks.zip ws)[i]?=some (k,x)/\(∀p∈(ks.zip ws).take i,known gs hs p.1 p.2=none)/\known gs hs k x=some r/\Q5 (r.cls c) E H (.str x)
def NoL(K:zdw)(CL:Addr)(v:V)(H:Hp)(E:XK):Prop:=(∃d,DH K H v d/\BI d=false/\Q5 CL E H v)\/∃z:Str,v=.str z/\z.length<=1000/\Jf z=false/\Q5 CL E H v
/-- what is Zp of a line,and what it changes -/
inductive wv(K:zdw)(CD CG:Addr)(c:C4)(fs:FA)(H:Hp)(a dg:Addr)(gs hs:List (qG×V))(Q:VK)(E:XK):Str->List Str->Prop where
 | ga {y gn:Str} {ws:List Str} {g f:Addr} {sp:Sp}:Yx fs CG c.p y f sp->jc gs (Sum.inr gn:qG)=some (.ref g)->(∀H' l,Same H H'->H' l=some (.lst (ws.map V.str))->sp [.ref g,.ref l] H' Q E)->wv K CD CG c fs H a dg gs hs Q E y (gn::ws)
 | ha {y hn:Str} {t g l f:Addr} {sp:Sp}:VE fs CG y f sp->jc hs (Sum.inr hn:qG)=some (.ref t)->H t=some (.tup [.ref g,.ref l])->(∀H',Same H H'->sp [.ref g,.ref l] H' Q E)->wv K CD CG c fs H a dg gs hs Q E y [hn]
 | heap {x gn:Str} {ps:List Str}:(∀H' l,Same H H'->H' l=some (.lst ((zdx "heap"::x::gn::ps).map V.str))->ub CD CG c.m c.p [.ref a,.ref l] H' (λ_ H''=>Q (.str "ok") H'') E)->wv K CD CG c fs H a dg gs hs Q E "heap" (x::gn::ps)
 | ground {x:Str} {ws:List Str}:(ws.map (·.length)).sum+ws.length<=1000->(Txt.join (zdx " ") ws).length<=1000->(∀H',Same H H'->Zq K CG c [.str (Vv ws)] H' (λu H''=>Same H' H''/\Q (.str "ok") (upd H'' dg (.dK (Qn gs (Sum.inr x:qG) u)))) E)->wv K CD CG c fs H a dg gs hs Q E "ground" (x::ws)
def V4(K:zdw)(CD CG CL:Addr)(c3:C3)(c:C4)(fs:FA):Sp:=λvs H Q E=>∃(a dg dh:Addr) (v:V) (gs hs:List (qG×V)),vs=[.ref a,v]/\ZM CD H a dg dh gs hs/\gs.length<=1000/\
 (NoL K CL v H E\/Fb c3 v gs hs H E\/∃y ws,Ln v gs hs y ws/\wv K CD CG c fs H a dg gs hs Q E y ws)
theorem Zq.mono{K:zdw}{CG:Addr}{c:C4}{vs:List V}{H:Hp}{Q Q':VK}{E:XK}(h:Zq K CG c vs H Q E)(k:∀v H',Q v H'->Q' v H'):Zq K CG c vs H Q' E:=by
 obtain⟨v,e,h⟩:=h
 refine⟨v,e,?_⟩
 rcases h with h | h | ⟨z,rs,a,b,d,h⟩
 ·exact .inl h
 ·exact .inr (.inl h)
 ·refine .inr (.inr ⟨z,rs,a,b,d,?_⟩)
  rcases h with h | ⟨p,q,h⟩
  ·exact .inl h
  ·exact .inr ⟨p,q,λH' a s g=>k _ _ (h H' a s g)⟩
section
variable{P:Program}{w:World}{K:zdw}{mg:Str->Option Value}{base:Heap}
theorem E1{v u:V}:([(zdx "grounds",v),(zdx "heaps",u)]:List (Str×V)).lookup (zdx "make_heap")=none:=by
 have e1:(zdx "make_heap"==zdx "grounds")=false:=by decide+kernel
 have e2:(zdx "make_heap"==zdx "heaps")=false:=by decide+kernel
 rw[zad,e1]
 simp only[zad,e2,List.lookup_nil]
abbrev EQ:List Str:=["self","line","words","kept"]
theorem uq:qp EQ ["self","line"] (qj vn):=zdv
theorem A5{f CD CG CL fWO fKn fM fGM:Addr}{c3:C3}{c:C4}{fs:FA}{fd fdWO fdKn fdM fdGM:zdA}(F:jw K "say" "Desk.say" vn f fd)(C:wB K CD)(hWO:qZ K mg "words_of" Zr ["line"] fWO fdWO)(GWO:qo P w K mg base (jX P w) 4 fWO fdWO ["line"] (Wm K CL))
  (hKn:qZ K mg "need_known" Xt ["desk","words"] fKn fdKn) (GKn:qo P w K mg base (jX P w) 3 fKn fdKn ["desk","words"] (kJ CD c3)) (hGa:D4 P w K mg fs) (hHa:D3 P w K mg fs)
  (mM:X0 K CD "make_heap" "Desk.make_heap" zC ["self","words"] fM fdM) (GM:qo P w K mg base (jX P w) 5 fM fdM ["self","words"] (ub CD CG c.m c.p)) (hGM:qZ K mg "ground_made" Xx ["desk","words"] fGM fdGM) (GGM:qo P w K mg base (jX P w) 9 fGM fdGM ["desk","words"] (MI K CG c))
  (hGA:∀y f sp,Yx fs CG c.p y f sp->∃(fd:zdA) (ps:List Str),Q0 P w K mg base (jX P w) 11 f fd ps sp/\zal K (.ref f)=true/\ji K fd ps []) (hHA:∀y f sp,VE fs CG y f sp->∃(fd:zdA) (ps:List Str),Q0 P w K mg base (jX P w) 11 f fd ps sp/\zal K (.ref f)=true/\ji K fd ps []):
  qo P w K mg base (jX P w) 12 f fd ["self","line"] (V4 K CD CG CL c3 c fs):=by
 obtain⟨ga,gkv,hga,gkd,g0,g1⟩:=hGa
 obtain⟨ha,hkv,hha,hkd,h0,h1⟩:=hHa
 refine F.okX uq (λvs H Q E h=>?_) (λcdv A outer s H vs Q E hr h=>?_)
 ·obtain⟨a,dg,dh,v,gs,hs,rfl,_⟩:=h
  rfl
 ·obtain⟨a,dg,dh,v,gs,hs,rfl,hd,few,h⟩:=h
  have hu:=Qp hr
  have r3:qO 3 _:=hr.mono (by decide)
  have r4:qO 4 _:=hr.mono (by decide)
  have r5:qO 5 _:=hr.mono (by decide)
  have r9:qO 9 _:=hr.mono (by decide)
  have hC:∀f sp,(∃y,Yx fs CG c.p y f sp)->∃(k:Nat) (fd:zdA) (ps:List Str),Q0 P w K mg base (jX P w) k f fd ps sp/\qO k _/\zal K (.ref f)=true/\ji K fd ps []:=λf sp ⟨y,h⟩=>let ⟨fd,ps,a,b,d⟩:=hGA y f sp h;⟨11,fd,ps,a,hr,b,d⟩
  have hD:∀f sp,(∃y,VE fs CG y f sp)->∃(k:Nat) (fd:zdA) (ps:List Str),Q0 P w K mg base (jX P w) k f fd ps sp/\qO k _/\zal K (.ref f)=true/\ji K fd ps []:=λf sp ⟨y,h⟩=>let ⟨fd,ps,a,b,d⟩:=hHA y f sp h;⟨11,fd,ps,a,hr,b,d⟩
  refine⟨_,qg (qD (i:=2) uq.nd rfl (Or.inl rfl) (QL hWO GWO r4 qU (by rfl) (qd (jv 1) qf)))
   (qg (jf (QL hKn GKn r3 qU (by rfl) (qd (jv 0) (qd (jv 2) qf))))
   (qg (qE (Qb (KW (qQ qP (jv 2) ql (λ_ _=>rfl)) (qM (v:=.ref ga) (by rfl) hga rfl))) (qh (qt (WI (C:=λf sp=>∃y,Yx fs CG c.p y f sp) (E:=λ_=>E) (qM (v:=.ref ga) (by rfl) hga rfl) (qQ qP (jv 2) ql (λ_ _=>rfl)) (λ_ _=>rfl) hC (jQ.s qU) (qd (jN hu (jD (jv 0) rfl) (qQ qP (jv 2) ql (λ_ _=>rfl)) (λ_ _=>rfl)) (qd (jZ Qt (jv 2) (Qv ql) Qw) qf))))) qv)
   (qg (qE (Qb (KW (qQ qP (jv 2) ql (λ_ _=>rfl)) (qM (v:=.ref ha) (by rfl) hha rfl))) (qg (qD (i:=3) uq.nd rfl (Or.inl rfl) (jN hu (jD (jv 0) rfl) (qQ qP (jv 2) ql (λ_ _=>rfl)) (λ_ _=>rfl))) (qh (qt (WI (C:=λf sp=>∃y,VE fs CG y f sp) (E:=λ_=>E) (qM (v:=.ref ha) (by rfl) hha rfl) (qQ qP (jv 2) ql (λ_ _=>rfl)) (λ_ _=>rfl) hD (jQ.s qU) (qd (qQ jI (jv 3) ql (λ_ _=>rfl)) (qd (qQ jI (jv 3) ql (λ_ _=>rfl)) qf)))))) qv)
   (qg (qE (qA JB (qQ qP (jv 2) ql (λ_ _=>rfl)) (q5 (qd qk (qd qk qf))) (by with_unfolding_all rfl)) qI qv)
   (qg (qE (qA jY (qQ qP (jv 2) ql (λ_ _=>rfl)) qk (qC _)) (qh (jf (Jr (jv 0) C.cl mM.me GM r5 mM.bi .nil qU (qd (jv 2) qf)))) (qh (j7 hu (jD (jv 0) rfl) (qQ qP (jv 2) ql (λ_ _=>rfl)) (QL hGM GGM r9 qU (by rfl) (qd (jv 0) (qd (jv 2) qf))) rfl)))
   (qh (qt qk))))))),?_⟩
  refine⟨_,rfl,v,rfl,?_⟩
  rcases h with (⟨d,h1',h2,o⟩ | ⟨z,e,l1,nl,o⟩) | ⟨z,y,ws,ks,i,k,x,r,e,l1,ln,es,ef,ei,pre,er,o⟩ | ⟨y,ws,⟨z,ks,e,l1,ln,es,ef,al⟩,h⟩
  ·exact .inl ⟨d,h1',h2,o⟩
  ·exact .inr ⟨z,e,l1,.inl ⟨nl,o⟩⟩
  ·refine .inr ⟨z,e,l1,.inr ⟨ln,λl H1 s1 hl=>?_⟩⟩
   rw[es]at hl
   exact⟨_,rfl,_,rfl,a,dg,dh,l,gs,hs,y,ws,ks,rfl,hd.mono s1,hl,ef,.inl ⟨i,k,x,r,ei,pre,er,o.mono s1⟩⟩
  refine .inr ⟨z,e,l1,.inr ⟨ln,λl H1 s1 hl=>?_⟩⟩
  rw[es]at hl
  refine⟨_,rfl,_,rfl,a,dg,dh,l,gs,hs,y,ws,ks,rfl,hd.mono s1,hl,ef,.inr ⟨al,λH2 s2=>?_⟩⟩
  replace hl:=s2 _ _ hl
  have s12:=s1.trans s2
  have hd2:=hd.mono s12
  obtain⟨dx0,e0⟩:=hd2.at_
  refine⟨_,rfl,l,_,0,.str y,rfl,rfl,.of hl,js,ga,gkv,(Sum.inr y:qG),rfl,rfl,gkd,_,rfl,?_⟩
  cases h with
  | ga an eg q=>
   rename_i gn ws g f' sp
   have ev:=g1 CG c.p y f' sp an
   have gg:jU H2 dg (.str gn) (some (.ref g)):=by rw[<-eg];exact jU.k (k:=(Sum.inr gn:qG)) hd2.gr
   have c2:J7 ((y::gn::ws).map V.str) (some (2:Int)) none=ws.map V.str:=UU (n:=2)
   refine qW (by rw[ev];rfl) ?_
   refine⟨_,rfl,l,_,0,.str y,rfl,rfl,.of hl,js,ga,gkv,(Sum.inr y:qG),_,rfl,rfl,gkd,ev,f',sp,rfl,⟨y,an⟩,?_⟩
   refine⟨_,rfl,a,CD,dx0,_,_,rfl,e0,C.cl,C.ng,Bv,_,rfl,l,_,1,.str gn,rfl,rfl,.of hl,GC (n:=1) rfl,dg,_,rfl,gg,_,rfl,2,rfl,l,_,rfl,.of hl,λl3 f3=>?_⟩
   rw[c2]
   exact q _ l3 (s12.trans (qm f3)) qe
  | ha an eh ht q=>
   rename_i hn t g l' f' sp
   have ev:=h1 CG y f' sp an
   have gg:jU H2 dh (.str hn) (some (.ref t)):=by rw[<-eh];exact jU.k (k:=(Sum.inr hn:qG)) hd2.hp
   refine qH (by rw[g0 y an.mem.2];rfl) ⟨_,rfl,l,_,0,.str y,rfl,rfl,.of hl,js,ha,hkv,(Sum.inr y:qG),rfl,rfl,hkd,_,rfl,qW (by rw[ev];rfl) ?_⟩
   refine⟨_,rfl,a,CD,dx0,_,_,rfl,e0,C.cl,C.nh,Dn,_,rfl,l,_,1,.str hn,rfl,rfl,.of hl,GC (n:=1) rfl,dh,_,rfl,gg,?_⟩
   refine⟨_,rfl,l,_,0,.str y,rfl,rfl,.of hl,js,ha,hkv,(Sum.inr y:qG),_,rfl,rfl,hkd,ev,f',sp,rfl,⟨y,an⟩,?_⟩
   exact⟨_,rfl,t,_,0,_,rfl,rfl,.of (s12 _ _ ht),js,_,rfl,t,_,1,_,rfl,rfl,.of (s12 _ _ ht),v8,q _ s12⟩
  | heap q=>
   rename_i x gn ps
   refine qH (by rw[g0 _ (by decide+kernel)];rfl) ⟨_,rfl,l,_,0,_,rfl,rfl,.of hl,js,ha,hkv,(Sum.inr (zdx "heap"):qG),rfl,rfl,hkd,_,rfl,qH (by rw[h0 _ (by decide+kernel)];rfl) ?_⟩
   refine⟨_,rfl,l,_,0,_,rfl,rfl,.of hl,js,by show 2<=zdB;decide,λp hp=>⟨p,_,rfl,.inr (.of qe),rfl,by decide+kernel,_,rfl,qH (by decide+kernel) ?_⟩⟩
   have s3:=qm (o:=HO.tup [.str (zdx "move"),.str (zdx "play")]) hp
   refine⟨_,rfl,l,_,0,_,rfl,rfl,.of (s3 _ _ hl),js,rfl,_,rfl,qW (decide_eq_true rfl) ?_⟩
   exact⟨_,rfl,a,dx0,_,rfl,s3 _ _ e0,E1,_,rfl,q _ l (s12.trans s3) (s3 _ _ hl)⟩
  | ground la lb q=>
   rename_i x ws
   refine qH (by rw[g0 _ (by decide+kernel)];rfl) ⟨_,rfl,l,_,0,_,rfl,rfl,.of hl,js,ha,hkv,(Sum.inr (zdx "ground"):qG),rfl,rfl,hkd,_,rfl,qH (by rw[h0 _ (by decide+kernel)];rfl) ?_⟩
   refine⟨_,rfl,l,_,0,_,rfl,rfl,.of hl,js,by show 2<=zdB;decide,λp hp=>⟨p,_,rfl,.inr (.of qe),rfl,by decide+kernel,_,rfl,qH (by decide+kernel) ?_⟩⟩
   have s3:=qm (o:=HO.tup [.str (zdx "move"),.str (zdx "play")]) hp
   refine⟨_,rfl,l,_,0,_,rfl,rfl,.of (s3 _ _ hl),js,rfl,_,rfl,qH (decide_eq_false (λe=>?_)) ?_⟩
   ·exact absurd (V.str.inj e) (by decide+kernel)
   refine⟨_,rfl,_,rfl,_,l,x,ws,rfl,s3 _ _ hl,la,lb,λH4 s4=>?_⟩
   have sA:=(s12.trans s3).trans s4
   refine(q H4 sA).mono λu H5 ⟨s5,r⟩=>?_
   have sB:=sA.trans s5
   obtain⟨dx5,e5⟩:=(hd.mono sB).at_
   exact⟨_,rfl,a,CD,dx5,_,_,rfl,e5,C.cl,C.ng,Bv,_,rfl,l,_,1,.str x,rfl,rfl,.of (s5 _ _ (s4 _ _ (s3 _ _ hl))),GC (n:=1) rfl,dg,_,rfl,Jk.k (k:=(Sum.inr x:qG)) (hd.mono sB).gr (qy few),r⟩
end
end Rh
/-! THE LAW:_law_error,_law_no_line,_law_is. -/
namespace Rh
open PySem L2 PyProof.Rows MLab Rb
abbrev Wv:Stmt:=top 142
abbrev Ug:Stmt:=top 143
abbrev uC:Stmt:=top 146
/-- the refusals' classes:HeapError,NoLine,NoHeap,NoPlace,NoText,TooMany,Twice,NoGround -/
structure CC where
 (D cl ch cp cx cm ct cg:Addr)
def CC.c3(q:CC):C3:=⟨q.ct,q.cp,q.ch⟩
def CC.c4(q:CC):C4:=⟨q.cg,q.cm,q.ct,q.cp,q.cx⟩
def CC.at(q:CC):Nat->Addr
 | 0=>q.ch
 | 1=>q.cp
 | 2=>q.cm
 | _=>q.ct
/-- their names -/
structure XN(mg:Str->Option Value)(q:CC):Prop where
 cl:mg "NoLine"=some (.ref q.cl)
 ch:mg "NoHeap"=some (.ref q.ch)
 cp:mg "NoPlace"=some (.ref q.cp)
 cx:mg "NoText"=some (.ref q.cx)
 cm:mg "TooMany"=some (.ref q.cm)
 ct:mg "Twice"=some (.ref q.ct)
structure wy(K:zdw)(mg:Str->Option Value)(q:CC):Prop where
 nD:mg "HeapError"=some (.ref q.D)
 cD:Mq K q.D
 spc:zbh K (.builtin "object.__class__") "__get__"=some (some (.builtin "getset_descriptor.__get__"))
 tks:zbB K (.builtin "object.__class__")=some true
 ll:tU K (.ref q.cl) (.ref q.cl)=some true
 la:zbo K (.ref q.cl) [.ref q.ch,.ref q.cp,.ref q.cx,.ref q.cm,.ref q.ct]=some false
 xx:tU K (.ref q.cx) (.ref q.cx)=some true
/-- a class that refuses,with its field -/
structure XC(K:zdw)(D C:Addr)(fld:Str):Prop where
 mkr:∃f,Ci K C f (.ref D::jz)
 cls:zU K C (.ref D::jz)
 na:jW K C fld
theorem zo.xc{K:zdw}{mg:Str->Option Value}{D C f:Addr}{nm qn fld:Str}{st:Stmt}{fd:zdA}(x:zo K mg D nm qn st fld C f fd):XC K D C fld:=⟨⟨f,x.mkr⟩,x.cls,x.na⟩
/-- the k-th of the four -/
structure Kd(K:zdw)(q:CC)(C:Addr)(k:Nat):Prop where
 one:∀j,j < 4->tU K (.ref C) (.ref (q.at j))=some (decide (k=j))
 any:zbo K (.ref C) [.ref q.ch,.ref q.cp,.ref q.cm,.ref q.ct]=some true
 xc:XC K q.D C "found"
/-- what a desk refuses:the class,its field -/
def DK(K:zdw)(CD CG:Addr)(q:CC)(fs:FA)(H:Hp)(a dg:Addr)(gs hs:List (qG×V))(v:V)(C:Addr)(fld:Str)(u:V):Prop:=
 ∀(Q:VK) (E:XK),(∀Hx dx,Same H Hx->Hx dx=some (.xd [(fld,u)])->E (.ref C) (some dx) Hx)->NoL K q.cl v H E\/Fb q.c3 v gs hs H E\/∃y ws,Ln v gs hs y ws/\wv K CD CG q.c4 fs H a dg gs hs Q E y ws
def uf(K:zdw)(CD CG:Addr)(q:CC)(fs:FA):Sp:=λvs H Q _=>∃(a dg dh C:Addr) (v u:V) (fld:Str) (gs hs:List (qG×V)),vs=[.ref a,v]/\ZM CD H a dg dh gs hs/\gs.length<=1000/\DK K CD CG q fs H a dg gs hs v C fld u/\XC K q.D C fld/\
 ∀H' e dx hd,Qr H H'->H' e=some (j6 e C dx hd)->H' dx=some (.xd [(fld,u)])->Q (.ref e) H'
/-- what is no line -/
def BY(K:zdw)(H:Hp)(v:V):Prop:=∃d,DH K H v d/\DV K H v d/\PySem.SeqAt.shaped d=true/\(BI d=false\/∃z:Str,v=.str z/\z.length<=1000/\Jf z=false)
def MG(K:zdw)(CD:Addr):Sp:=λvs H Q _=>∃(a dg dh:Addr) (v:V) (gs hs:List (qG×V)),vs=[.ref a,v]/\ZM CD H a dg dh gs hs/\gs.length<=1000/\BY K H v/\∀H',Qr H H'->Q (.bl true) H'
def Cz(K:zdw)(q:CC):Sp:=λvs H Q _=>∃(e C dx:Addr) (hd:Value) (k:Nat) (u:V) (d:PyData),vs=[.ref e,.int (k:Nat),u]/\k < 4/\H e=some (j6 e C dx hd)/\H dx=some (.xd [(zdx "found",u)])/\Kd K q C k/\DV K H u d/\PySem.SeqAt.shaped d=true/\∀H',Same H H'->Q (.bl true) H'
def isB:PyData->Bool
 | .bool _=>true
 | _=>false
theorem M3{K:zdw}(d:PyData):tU K (.type (Rm d)) (.type "bool")=some (isB d):=by cases d<;>(unfold Rm isB;dsimp only;kernel_rfl)
theorem JL.keep{K:zdw}{H H':Hp}{v:V}{t:Value}(h:JL K H v t)(s:Qr H H'):JL K H' v t:=by
 cases h with
 | non=>exact .non
 | bl x=>exact .bl x
 | int i=>exact .int i
 | str x=>exact .str x
 | flt x=>exact .flt x
 | lst e=>exact .lst (s _ _ e (λ_ z=>nomatch z))
 | frz e=>exact .frz (s _ _ e (λ_ z=>nomatch z))
 | tup e=>exact .tup (s _ _ e (λ_ z=>nomatch z))
 | dK e=>exact .dK (s _ _ e (λ_ z=>nomatch z))
 | dT e=>exact .dT (s _ _ e (λ_ z=>nomatch z))
 | ins e a b c d f=>exact .ins (s _ _ e (λ_ z=>nomatch z)) a b c d f
theorem ZM.keep{CD:Addr}{H H':Hp}{a dg dh:Addr}{gs hs:List (qG×V)}(h:ZM CD H a dg dh gs hs)(s:Qr H H'):ZM CD H' a dg dh gs hs:=⟨let ⟨dx,e⟩:=h.at_;⟨dx,s _ _ e (λ_ z=>nomatch z)⟩,s _ _ h.gr (λ_ z=>nomatch z),s _ _ h.hp (λ_ z=>nomatch z)⟩
section
variable{P:Program}{w:World}{K:zdw}{mg:Str->Option Value}{base:Heap}
theorem XJ{v u:V}:([(zdx "grounds",v),(zdx "heaps",u)]:List (Str×V)).lookup (zdx "say")=none:=by
 have e1:(zdx "say"==zdx "grounds")=false:=by decide+kernel
 have e2:(zdx "say"==zdx "heaps")=false:=by decide+kernel
 rw[zad,e1]
 simp only[zad,e2,List.lookup_nil]
abbrev EX:List Str:=["_law_desk","_law_line","_law_error_here","e"]
theorem kR:qp EX ["_law_desk","_law_line"] (qj Wv):=zdv
theorem NA{f fS CD CG:Addr}{q:CC}{fs:FA}{fd fdS:zdA}(F:jw K "_law_error" "_law_error" Wv f fd)(C:wB K CD)(mS:X0 K CD "say" "Desk.say" vn ["self","line"] fS fdS)(GS:qo P w K mg base (jX P w) 12 fS fdS ["self","line"] (V4 K CD CG q.cl q.c3 q.c4 fs))(Z:wy K mg q):
  qo P w K mg base qJ 13 f fd ["_law_desk","_law_line"] (uf K CD CG q fs):=by
 refine F.okJ kR (λvs H Q E h=>?_) (λcdv A outer s H vs Q E hr h=>?_)
 ·obtain⟨a,dg,dh,C,v,u,fld,gs,hs,rfl,_⟩:=h
  rfl
 ·obtain⟨a,dg,dh,Cx,v,u,fld,gs,hs,rfl,hd,few,ref,xc,k⟩:=h
  refine⟨_,qg (qD (i:=2) kR.nd rfl (Or.inl rfl) KO)
   (qg (BE rfl rfl (λpn W E hE=>qh (jf (KP (jv 0) C.cl mS.me GS hr mS.bi .nil hE (qd (jv 1) qf))))
    (KL (j:=3) (ts:=yW (qS 3) (j3 2)) (by rfl) Z.nD Z.cD kR.nd rfl rfl (λv E=>qh (qD (i:=2) kR.nd rfl (Or.inl rfl) (jv 3))) KJ))
   (qh (qt (jv 2)))),?_⟩
  obtain⟨dx0,e0⟩:=hd.at_
  refine⟨λC' dx Hx=>C'=Cx/\Same H Hx/\Hx dx=some (.xd [(fld,u)]),⟨_,rfl,a,dx0,_,rfl,e0,XJ,_,rfl,a,dg,dh,v,gs,hs,rfl,hd,few,ref _ _ λHx dx s1 h1=>⟨rfl,Cx,dx,rfl,rfl,rfl,s1,h1⟩⟩,?_⟩
  rintro e C' dx T' Hx H' ⟨rfl,sx,hdx⟩ ha kp ha'
  have nda:dx≠e:=λz=>by
   rw[z,ha]at hdx
   cases hdx
  have k1:Qr H H':=λb o hb nx=>kp b o (λz=>by
   rw[z]at hb
   have:=sx _ _ hb
   rw[ha]at this
   exact nx _ (tX.inj this).symm) (sx _ _ hb)
  obtain⟨fm,mk⟩:=xc.mkr
  refine⟨fm,_,mk,?_⟩
  rw[if_pos (by simp [zcz])]
  exact⟨_,rfl,_,rfl,k H' e dx _ k1 ha' (kp dx _ nda hdx)⟩
abbrev ET:List Str:=["_law_desk","_law_line","_law_error_here"]
theorem MP:qp ET ["_law_desk","_law_line"] (qj Ug):=zdv
theorem Nz{f fE CD CG:Addr}{q:CC}{fs:FA}{fd fdE:zdA}(F:jw K "_law_no_line" "_law_no_line" Ug f fd)(T:j9 K mg)(Zk:Wk K mg)(X:XN mg q)(Z:wy K mg q)(xl:XC K q.D q.cl "found")(hE:qZ K mg "_law_error" Wv ["_law_desk","_law_line"] fE fdE)(GE:qo P w K mg base qJ 13 fE fdE ["_law_desk","_law_line"] (uf K CD CG q fs)):
  qo P w K mg base qJ 14 f fd ["_law_desk","_law_line"] (MG K CD):=by
 refine F.okJ MP (λvs H Q E h=>?_) (λcdv A outer s H vs Q E hr h=>?_)
 ·obtain⟨a,dg,dh,v,gs,hs,rfl,_⟩:=h
  rfl
 ·obtain⟨a,dg,dh,v,gs,hs,rfl,hd,few,⟨d,dh',dv,shp,no⟩,k⟩:=h
  refine⟨_,qg (qD (i:=2) MP.nd rfl (Or.inl rfl) (qT hE GE hr (by rfl) (qd (jv 0) (qd (jv 1) qf))))
   (qg (qE (JW.pt (Jp (jy (jd (qu (QH (bm:=.ref q.D::jz) Z.spc Z.tks) (by rfl) T.isi boot_isinstance (qd (jv 2) (qd (qM (v:=.ref q.cl) (by rfl) X.cl rfl) qf))))) (QK (jd (qu (YK (bm:=.ref q.D::jz) Z.spc Z.tks) (by rfl) T.isi boot_isinstance (qd (jv 2) (qd (q5 (qd (qM (v:=.ref q.ch) (by rfl) X.ch rfl) (qd (qM (v:=.ref q.cp) (by rfl) X.cp rfl) (qd (qM (v:=.ref q.cx) (by rfl) X.cx rfl) (qd (qM (v:=.ref q.cm) (by rfl) X.cm rfl) (qd (qM (v:=.ref q.ct) (by rfl) X.ct rfl) qf)))))) qf))))))) (qh (qt Qd)) qv)
   (qh (qt (QM (jE (u6 hr.units) (Y9 (bm:=.ref q.D::jz) (jv 2) rfl) (jv 1) (qC _)) (QP (jE jY (qu qX (by rfl) T.isi boot_isinstance (qd (Y9 (bm:=.ref q.D::jz) (jv 2) rfl) (qd (jR (v:=.ty "bool") (by rfl) Zk.bool boot_bool rfl) qf))) (qu qX (by rfl) T.isi boot_isinstance (qd (jv 1) (qd (jR (v:=.ty "bool") (by rfl) Zk.bool boot_bool rfl) qf))) (qC _))))))),?_⟩
  refine⟨_,rfl,_,rfl,a,dg,dh,q.cl,v,v,zdx "found",gs,hs,rfl,hd,few,λQ E o=>.inl ?_,xl,λH' e dx hd' k1 he hdx=>?_⟩
  ·rcases no with no | ⟨z,e,l,no⟩
   ·exact .inl ⟨d,dh',no,o⟩
   ·exact .inr ⟨z,e,l,no,o⟩
  have lk:([(zdx "found",v)]:List (Str×V)).lookup (zdx "found")=some v:=by simp [zaA]
  refine⟨_,rfl,e,q.cl,dx,_,_,.ref q.cl,true,rfl,rfl,he,hdx,xl.cls,Z.ll,_,rfl,jh ?_⟩
  refine⟨_,rfl,by show 5<=zdB;decide,λp hp=>?_⟩
  have s2:=qm (o:=HO.tup ([q.ch,q.cp,q.cx,q.cm,q.ct].map V.ref)) hp
  have y2:upd H' p (HO.tup ([q.ch,q.cp,q.cx,q.cm,q.ct].map V.ref)) p=some (HO.tup ([q.ch,q.cp,q.cx,q.cm,q.ct].map V.ref)):=qe
  have k2:Qr H (upd H' p (HO.tup ([q.ch,q.cp,q.cx,q.cm,q.ct].map V.ref))):=k1.trans s2.keep
  replace he:=s2 _ _ he
  replace hdx:=s2 _ _ hdx
  refine⟨e,p,q.cl,dx,_,_,_,false,rfl,he,hdx,xl.cls,y2,Z.la,_,rfl,jh ?_⟩
  have dv2:=zP k2 dv
  have ty:=JL.keep dh'.ty k2
  refine⟨_,rfl,e,q.cl,dx,_,_,v,rfl,he,hdx,xl.cls,xl.na,lk,_,rfl,d,dv2,dv2,shp,_,rfl,Qj ?_⟩
  refine⟨_,rfl,e,q.cl,dx,_,_,v,rfl,he,hdx,xl.cls,xl.na,lk,_,_,_,_,rfl,rfl,ty,M3 d,_,rfl,_,_,_,_,rfl,rfl,ty,M3 d,rfl,?_⟩
  rw[decide_eq_true rfl]
  exact k _ k2
abbrev nIs:List Str:=["_law_error_here","_law_kind","_law_found","_law_kinds"]
abbrev Dc:List Str:=["_law_error_here","_law_kind","_law_found"]
theorem AD:qp nIs Dc (qj uC):=zdv
theorem Bc{f:Addr}{q:CC}{fd:zdA}(F:jw K "_law_is" "_law_is" uC f fd)(B:QB mg)(T:j9 K mg)(X:XN mg q)(Z:wy K mg q):qo P w K mg base qJ 1 f fd Dc (Cz K q):=by
 refine F.okJ AD (λvs H Q E h=>?_) (λcdv A outer s H vs Q E hr h=>?_)
 ·obtain⟨e,C,dx,hd,k,u,d,rfl,_⟩:=h
  rfl
 ·obtain⟨e,C,dx,hd,k,u,d,rfl,k4,he,hdx,kd,dv,shp,qq⟩:=h
  refine⟨_,qg (qD (i:=3) AD.nd rfl (Or.inl rfl) (jo (qd (qu (QH (bm:=.ref q.D::jz) Z.spc Z.tks) (by rfl) T.isi boot_isinstance (qd (jv 0) (qd (qM (v:=.ref q.ch) (by rfl) X.ch rfl) qf))) (qd (qu (QH (bm:=.ref q.D::jz) Z.spc Z.tks) (by rfl) T.isi boot_isinstance (qd (jv 0) (qd (qM (v:=.ref q.cp) (by rfl) X.cp rfl) qf))) qf))))
   (qg (qD (i:=3) AD.nd rfl (Or.inl rfl) (qV QJ (jv 3) (jo (qd (qu (QH (bm:=.ref q.D::jz) Z.spc Z.tks) (by rfl) T.isi boot_isinstance (qd (jv 0) (qd (qM (v:=.ref q.cm) (by rfl) X.cm rfl) qf))) (qd (qu (QH (bm:=.ref q.D::jz) Z.spc Z.tks) (by rfl) T.isi boot_isinstance (qd (jv 0) (qd (qM (v:=.ref q.ct) (by rfl) X.ct rfl) qf))) qf)))))
   (qg (qE (JW.pt (Jp (qA (u1 hr.units0) (jv 3) (Ql (N':=["_law_k","_law_kind"]) (ix:=[none,some 1]) rfl ⟨rfl,rfl,rfl,rfl,rfl⟩ (Ys (by rfl) B.rng (qd ql qf)) (λC s2 H2 fp pins=>⟨qx (i:=0) (show (["_law_k","_law_kind"]:List Str).Nodup by decide+kernel) rfl (Or.inl rfl),jr,jE jY (jv 1) (jv 0) (qC _)⟩)) (qC _)) (QK (jy (jd (qu (YK (bm:=.ref q.D::jz) Z.spc Z.tks) (by rfl) T.isi boot_isinstance (qd (jv 0) (qd (q5 (qd (qM (v:=.ref q.ch) (by rfl) X.ch rfl) (qd (qM (v:=.ref q.cp) (by rfl) X.cp rfl) (qd (qM (v:=.ref q.cm) (by rfl) X.cm rfl) (qd (qM (v:=.ref q.ct) (by rfl) X.ct rfl) qf))))) qf)))))))) (qh (qt Qd)) qv)
   (qh (qt (jE (u6 hr.units) (Y9 (bm:=.ref q.D::jz) (jv 0) rfl) (jv 2) (qC _)))))),?_⟩
  have lk:([(zdx "found",u)]:List (Str×V)).lookup (zdx "found")=some u:=by simp [zaA]
  have ec:=kd.xc.cls
  refine⟨_,rfl,e,C,dx,_,_,.ref q.ch,_,rfl,rfl,he,hdx,ec,kd.one 0 (by decide),_,rfl,e,C,dx,_,_,.ref q.cp,_,rfl,rfl,he,hdx,ec,kd.one 1 (by decide),by show 2<=zdB;decide,λl1 f1=>?_⟩
  have s1:=qm (o:=HO.lst [.bl (decide (k=0)),.bl (decide (k=1))]) f1
  have y1:upd H l1 (HO.lst [.bl (decide (k=0)),.bl (decide (k=1))]) l1=some (HO.lst [.bl (decide (k=0)),.bl (decide (k=1))]):=qe
  generalize upd H l1 (HO.lst [.bl (decide (k=0)),.bl (decide (k=1))])=H1 at s1 y1
  refine⟨_,rfl,_,rfl,e,C,dx,_,_,.ref q.cm,_,rfl,rfl,s1 _ _ he,s1 _ _ hdx,ec,kd.one 2 (by decide),_,rfl,e,C,dx,_,_,.ref q.ct,_,rfl,rfl,s1 _ _ he,s1 _ _ hdx,ec,kd.one 3 (by decide),by show 2<=zdB;decide,λl2 f2=>?_⟩
  have s2:=qm (o:=HO.lst [.bl (decide (k=2)),.bl (decide (k=3))]) f2
  have y2:upd H1 l2 (HO.lst [.bl (decide (k=2)),.bl (decide (k=3))]) l2=some (HO.lst [.bl (decide (k=2)),.bl (decide (k=3))]):=qe
  generalize upd H1 l2 (HO.lst [.bl (decide (k=2)),.bl (decide (k=3))])=H2 at s2 y2
  refine⟨l1,l2,_,_,rfl,rfl,.of (s2 _ _ y1),.of y2,by show 4<=zdB;decide,λl3 f3=>?_⟩
  rw[show ([V.bl (decide (k=0)),V.bl (decide (k=1))]++[V.bl (decide (k=2)),V.bl (decide (k=3))])=[V.bl (decide (k=0)),V.bl (decide (k=1)),V.bl (decide (k=2)),V.bl (decide (k=3))] from rfl]
  have s3:=qm (o:=HO.lst [.bl (decide (k=0)),.bl (decide (k=1)),.bl (decide (k=2)),.bl (decide (k=3))]) f3
  have y3:upd H2 l3 (HO.lst [.bl (decide (k=0)),.bl (decide (k=1)),.bl (decide (k=2)),.bl (decide (k=3))]) l3=some (HO.lst [.bl (decide (k=0)),.bl (decide (k=1)),.bl (decide (k=2)),.bl (decide (k=3))]):=qe
  have sA:=(s1.trans s2).trans s3
  generalize upd H2 l3 (HO.lst [.bl (decide (k=0)),.bl (decide (k=1)),.bl (decide (k=2)),.bl (decide (k=3))])=H3 at s3 y3 sA
  refine⟨_,rfl,4,rfl,by decide,by decide,λD hD=>?_⟩
  refine Mc (n:=4) (D:=D) (out:=λj=>some (.bl (decide (k=j)))) (rest:=[some (.int (k:Nat))]) hD (by decide) (λx hx Y sY R hR=>hR Y (Same.refl Y)) (λx hx v ev Y sY R hR=>?_) (λH5 s5 hD5=>?_)
  ·cases ev
   refine⟨_,rfl,_,rfl,rfl,?_⟩
   rw[show decide (V.int (k:Int)=V.int (x:Int))=decide (k=x) from decide_eq_decide.mpr ⟨λe=>by have:=V.int.inj e;omega,λe=>by rw[e]⟩]
   exact hR Y (Same.refl Y)
  ·have sB:=sA.trans s5
   refine⟨l3,D,_,_,rfl,rfl,.of (s5 _ _ y3),.of hD5,rfl,rfl,_,rfl,qH ?_ ?_⟩
   ·have h4:k=0\/k=1\/k=2\/k=3:=by omega
    rcases h4 with rfl | rfl | rfl | rfl<;>rfl
   replace he:=sB _ _ he
   replace hdx:=sB _ _ hdx
   refine⟨_,rfl,by show 4<=zdB;decide,λp hp=>?_⟩
   have s6:=qm (o:=HO.tup ([q.ch,q.cp,q.cm,q.ct].map V.ref)) hp
   refine⟨e,p,C,dx,_,_,[q.ch,q.cp,q.cm,q.ct],true,rfl,s6 _ _ he,s6 _ _ hdx,ec,qe,kd.any,_,rfl,jh ?_⟩
   have sC:=sB.trans s6
   have dv2:=zP sC.keep dv
   exact⟨_,rfl,e,C,dx,_,_,u,rfl,s6 _ _ he,s6 _ _ hdx,ec,kd.xc.na,lk,_,rfl,d,dv2,dv2,shp,qq _ sC⟩
end
end Rh
/-! THE LAW:_law_spoilt. -/
namespace Rh
open PySem L2 PyProof.Rows MLab Rb
abbrev uB:Stmt:=top 144
def v7:List Str:=["join x g g","pair x g g","least x g","move h 0 a","play h","show g","worths g","worth g a"]
def wq:List Str:=["single g a","alike g a b","part g a b","ring g","tokens h","outcome h","moves h","most h"]
def G8:List Str:=v7++wq
def fws:List Str:=["Show","","shows","grounds","desk"]
def l5s:List Str:=["move h 8 a","move h -1 a","move h 00 a","move h x a","move h  a"]
def nms:List Str:=["","A","abcdefghi","a1","x:"]
def Ef:List Str:=["\n","\nshow g"]
def wd(b:Str):List Str:=Txt.split b Qq
def NJ(z:Str):Bool:=decide (z.length<=1000)&& !Jf z&&PyData.strOk z
def jl(ys:List Str):Bool:=decide ((ys.map (·.length)).sum+ys.length<=900)
def jn(ys:List Str):Str:=Txt.join Qq ys
def Cb(ys:List Str):Bool:=jl ys&&NJ (jn ys)
theorem F0:∀b∈G8,Cb (wd b++[zdx "a"])=true:=by decide+kernel
theorem F1:∀b∈G8,J7 ((wd b).map V.str) none (some (-1))=(wd b).dropLast.map V.str/\Cb (wd b).dropLast=true:=by decide+kernel
theorem F2:∀b∈G8,∀n∈zaD (wd b).length,Cb (((wd b).take n++[zdx ""])++(wd b).drop n)=true:=by decide+kernel
theorem F3:∀b∈G8,(jl (wd b)&&NJ (jn (wd b)++Qq))=true:=by decide+kernel
theorem F4:∀b∈G8,∀z∈fws,Cb (z::(wd b).drop 1)=true:=by decide+kernel
theorem F5:∀z∈l5s,NJ z=true:=by decide+kernel
theorem F6:∀z∈nms,z.length<=9/\∀y∈[(zdx "join "++z)++zdx " g g",(zdx "heap "++z)++zdx " g",(zdx "ground "++z)++zdx " a:"],NJ y=true:=by decide+kernel
theorem F7:∀b∈G8,∀z∈Ef,NJ (jn (wd b)++z)=true:=by decide+kernel
theorem F8:∀b∈G8,b.length<=1000/\0 < (wd b).length/\(wd b).length<=900/\(jn (wd b)).length<=900:=by decide+kernel
theorem F9:∀z∈Ef,z.length<=9:=by decide+kernel
theorem DD{zs:List Str}{n:Nat}(h:n<=zs.length):J7 (zs.map V.str) none (some (n:Int))=(zs.take n).map V.str:=by
 unfold J7
 rw[HT.sIx_none,HT.sIx_nat,tj,zbD h,List.map_take]
 rfl
theorem Gz{zs:List Str}{r:Int}(h0:0<=r)(h1:r < (zs.length:Int)):∃z∈zs,yH (zs.map V.str) r=some (.str z):=by
 obtain⟨v,e1,e2⟩:=atI_get (xs:=zs.map V.str) h0 (by rw[tj];exact h1)
 obtain⟨z,_,hz,rfl⟩:=Qg e2
 exact⟨z,hz,e1⟩
theorem BF{ys:List Str}(c:jl ys=true):(ys.map (·.length)).sum+ys.length*Qq.length<=16777216:=by
 have:=of_decide_eq_true c
 rw[show Qq.length=1 by decide+kernel]
 omega
theorem rj{K:zdw}{G:Hp}{p:Addr}{ys:List Str}{R:VK}(h:G p=some (.lst (ys.map V.str)))(c:jl ys=true)(q:R (.str (jn ys)) G):uS K (.str Qq) [.ref p] G R:=by
 exact⟨_,p,ys,rfl,rfl,.of h,BF c,q⟩
theorem Ma{ys:List Str}(h:Cb ys=true):jl ys=true:=(zaa _ _ |>.mp h).1
theorem N9{ys:List Str}(h:Cb ys=true):NJ (jn ys)=true:=(zaa _ _ |>.mp h).2
theorem few(n:Nat)(h:n<=1000):n<=zdB:=zaC (qy h)
def Cy:Sp:=λvs H Q _=>∃(d:Addr) (n s t:Int),vs=[.ref d]/\H d=some (.dK (Q6 n s t))/\∀H' z,Fr H d H'->NJ z=true->Q (.str z) H'
section
variable{P:Program}{w:World}{K:zdw}{mg:Str->Option Value}{base:Heap}
abbrev nSp:List Str:=["_law_source_here","_law_lines","_law_words","_law_way","_law_at","_law_name"]
theorem vj:qp nSp ["_law_source_here"] (qj uB):=zdv
theorem Bb{f fT:Addr}{fd fdT:zdA}(F:jw K "_law_spoilt" "_law_spoilt" uB f fd)(B:QB mg)(hT:qZ K mg "_law_take" Ub ["_law_source_here","_law_many"] fT fdT):qo P w K mg base qJ 2 f fd ["_law_source_here"] Cy:=by
 have GT:qo P w K mg base qJ 1 fT fdT ["_law_source_here","_law_many"] vg:=Np hT.fn
 refine F.okJ vj (λvs H Q E h=>?_) (λcdv A outer s H vs Q E hr h=>?_)
 ·obtain⟨d,n,s,t,rfl,_⟩:=h
  rfl
 ·obtain⟨d,n,s0,t,rfl,hd,q⟩:=h
  refine⟨_,qg (qD (i:=1) vj.nd rfl (Or.inl rfl) (jo (qd qk (qd qk (qd qk (qd qk (qd qk (qd qk (qd qk (qd qk qf))))))))))
   (qg (qD (i:=1) vj.nd rfl (Or.inl rfl) (qV QJ (jv 1) (jo (qd qk (qd qk (qd qk (qd qk (qd qk (qd qk (qd qk (qd qk qf)))))))))))
   (qg (qD (i:=2) vj.nd rfl (Or.inl rfl) (QG t9 zaN zaO Je (qQ qP (jv 1) (qT hT GT hr (by rfl) (qd (jv 0) (qd (qu qB (by rfl) B.len boot_len (qd (jv 1) qf)) qf))) (λ_ _=>rfl)) (qd qk qf)))
   (qg (qD (i:=3) vj.nd rfl (Or.inl rfl) (qT hT GT hr (by rfl) (qd (jv 0) (qd ql qf))))
   (qg (qD (i:=4) vj.nd rfl (Or.inl rfl) (qT hT GT hr (by rfl) (qd (jv 0) (qd (qu qB (by rfl) B.len boot_len (qd (jv 2) qf)) qf))))
   (qg (qE (qA jY (jv 3) ql (qC _)) (qh (qt (QG t9 zat zau Qu qk (qd (qV QJ (jv 2) (jo (qd qk qf))) qf)))) qv)
   (qg (qE (qA jY (jv 3) ql (qC _)) (qh (qt (QG t9 zat zau Qu qk (qd (jZ Qt (jv 2) Qw (Qv (KM U6 ql))) qf)))) qv)
   (qg (qE (qA jY (jv 3) ql (qC _)) (qh (qt (QG t9 zat zau Qu qk (qd (qV QJ (qV QJ (jZ Qt (jv 2) Qw (Qv (jv 4))) (jo (qd qk qf))) (jZ Qt (jv 2) (Qv (jv 4)) Qw)) qf)))) qv)
   (qg (qE (qA jY (jv 3) ql (qC _)) (qh (qt (qV jx (QG t9 zat zau Qu qk (qd (jv 2) qf)) (qk)))) qv)
   (qg (qE (qA jY (jv 3) ql (qC _)) (qh (qt (QG t9 zat zau Qu qk (qd (qV QJ (jo (qd (qQ qP (jo (qd qk (qd qk (qd qk (qd qk (qd qk qf)))))) (qT hT GT hr (by rfl) (qd (jv 0) (qd ql qf))) (λ_ _=>rfl)) qf)) (jZ Qt (jv 2) (Qv ql) Qw)) qf)))) qv)
   (qg (qE (qA jY (jv 3) ql (qC _)) (qh (qt (qQ qP (jo (qd qk (qd qk (qd qk (qd qk (qd qk qf)))))) (qT hT GT hr (by rfl) (qd (jv 0) (qd ql qf))) (λ_ _=>rfl)))) qv)
   (qg (qE (qA jY (jv 3) ql (qC _)) (qg (qD (i:=5) vj.nd rfl (Or.inl rfl) (qQ qP (jo (qd qk (qd qk (qd qk (qd qk (qd qk qf)))))) (qT hT GT hr (by rfl) (qd (jv 0) (qd ql qf))) (λ_ _=>rfl))) (qh (qt (qQ qP (jo (qd (qV jx (qV jx (qk) (jv 5)) (qk)) (qd (qV jx (qV jx (qk) (jv 5)) (qk)) (qd (qV jx (qV jx (qk) (jv 5)) (qk)) qf)))) (qT hT GT hr (by rfl) (qd (jv 0) (qd ql qf))) (λ_ _=>rfl))))) qv)
   (qh (qt (qV jx (QG t9 zat zau Qu qk (qd (jv 2) qf)) (qQ qP (jo (qd qk (qd qk qf))) (qT hT GT hr (by rfl) (qd (jv 0) (qd ql qf))) (λ_ _=>rfl)))))))))))))))),?_⟩
  refine⟨by show 8<=zdB;decide,λl1 f1=>?_⟩
  have fr1:Fr H d (upd H l1 (HO.lst [V.str (zdx "join x g g"),V.str (zdx "pair x g g"),V.str (zdx "least x g"),V.str (zdx "move h 0 a"),V.str (zdx "play h"),V.str (zdx "show g"),V.str (zdx "worths g"),V.str (zdx "worth g a")])):=Fr.refl.new f1
  have y1:upd H l1 (HO.lst [V.str (zdx "join x g g"),V.str (zdx "pair x g g"),V.str (zdx "least x g"),V.str (zdx "move h 0 a"),V.str (zdx "play h"),V.str (zdx "show g"),V.str (zdx "worths g"),V.str (zdx "worth g a")]) l1=some (HO.lst (v7.map V.str)):=qe
  have d1:upd H l1 (HO.lst [V.str (zdx "join x g g"),V.str (zdx "pair x g g"),V.str (zdx "least x g"),V.str (zdx "move h 0 a"),V.str (zdx "play h"),V.str (zdx "show g"),V.str (zdx "worths g"),V.str (zdx "worth g a")]) d=some (.dK (Q6 n s0 t)):=qw hd f1
  generalize upd H l1 (HO.lst [V.str (zdx "join x g g"),V.str (zdx "pair x g g"),V.str (zdx "least x g"),V.str (zdx "move h 0 a"),V.str (zdx "play h"),V.str (zdx "show g"),V.str (zdx "worths g"),V.str (zdx "worth g a")])=H1 at fr1 y1 d1
  refine⟨_,rfl,by show 8<=zdB;decide,λl2 f2=>?_⟩
  have fr2:Fr H d (upd H1 l2 (HO.lst [V.str (zdx "single g a"),V.str (zdx "alike g a b"),V.str (zdx "part g a b"),V.str (zdx "ring g"),V.str (zdx "tokens h"),V.str (zdx "outcome h"),V.str (zdx "moves h"),V.str (zdx "most h")])):=fr1.new f2
  have y2:upd H1 l2 (HO.lst [V.str (zdx "single g a"),V.str (zdx "alike g a b"),V.str (zdx "part g a b"),V.str (zdx "ring g"),V.str (zdx "tokens h"),V.str (zdx "outcome h"),V.str (zdx "moves h"),V.str (zdx "most h")]) l2=some (HO.lst (wq.map V.str)):=qe
  have d2:upd H1 l2 (HO.lst [V.str (zdx "single g a"),V.str (zdx "alike g a b"),V.str (zdx "part g a b"),V.str (zdx "ring g"),V.str (zdx "tokens h"),V.str (zdx "outcome h"),V.str (zdx "moves h"),V.str (zdx "most h")]) d=some (.dK (Q6 n s0 t)):=qw d1 f2
  replace y1:upd H1 l2 (HO.lst [V.str (zdx "single g a"),V.str (zdx "alike g a b"),V.str (zdx "part g a b"),V.str (zdx "ring g"),V.str (zdx "tokens h"),V.str (zdx "outcome h"),V.str (zdx "moves h"),V.str (zdx "most h")]) l1=some (HO.lst (v7.map V.str)):=qw y1 f2
  generalize upd H1 l2 (HO.lst [V.str (zdx "single g a"),V.str (zdx "alike g a b"),V.str (zdx "part g a b"),V.str (zdx "ring g"),V.str (zdx "tokens h"),V.str (zdx "outcome h"),V.str (zdx "moves h"),V.str (zdx "most h")])=H2 at fr2 y1 y2 d2
  refine⟨l1,l2,_,_,rfl,rfl,.of y1,.of y2,by decide+kernel,λl3 f3=>?_⟩
  rw[<-tH]
  have fr3:Fr H d (upd H2 l3 (HO.lst ((v7++wq).map V.str))):=fr2.new f3
  have y3:upd H2 l3 (HO.lst ((v7++wq).map V.str)) l3=some (HO.lst (G8.map V.str)):=qe
  have d3:upd H2 l3 (HO.lst ((v7++wq).map V.str)) d=some (.dK (Q6 n s0 t)):=qw d2 f3
  generalize upd H2 l3 (HO.lst ((v7++wq).map V.str))=H3 at fr3 y3 d3
  clear y1 y2 fr1 fr2 d1 d2 f1 f2 f3
  have n3:l3≠d:=λe=>by rw[e,d3]at y3;cases y3
  refine⟨_,rfl,_,rfl,_,rfl,l3,_,rfl,.inl (.of y3),d,_,n,s0,t,rfl,d3,by decide+kernel,by decide+kernel,λr n4 t4 h0 h1=>?_⟩
  have fr4:Fr H d (upd H3 d (.dK (Q6 n4 s0 t4))):=fr3.at_d
  have d4:upd H3 d (.dK (Q6 n4 s0 t4)) d=some (.dK (Q6 n4 s0 t4)):=qe
  replace y3:upd H3 d (.dK (Q6 n4 s0 t4)) l3=some (HO.lst (G8.map V.str)):=by rw[qi n3];exact y3
  generalize upd H3 d (.dK (Q6 n4 s0 t4))=H4 at fr4 d4 y3
  obtain⟨b,hb,eb⟩:=Gz (zs:=G8) h0 (by rw[tj]at h1;exact h1)
  obtain⟨lb,wpos,wmany,wlen⟩:=F8 b hb
  have wlen':(Txt.join Qq (wd b)).length<=900:=wlen
  refine⟨l3,_,r,_,rfl,rfl,.of y3,eb,rfl,b,_,rfl,rfl,by decide+kernel,lb,λlw fw=>?_⟩
  rw[vQ]
  have fr5:Fr H d (upd H4 lw (HO.lst ((Txt.split b Qq).map V.str))):=fr4.new fw
  have y5:upd H4 lw (HO.lst ((Txt.split b Qq).map V.str)) lw=some (HO.lst ((wd b).map V.str)):=qe
  have d5:upd H4 lw (HO.lst ((Txt.split b Qq).map V.str)) d=some (.dK (Q6 n4 s0 t4)):=qw d4 fw
  generalize upd H4 lw (HO.lst ((Txt.split b Qq).map V.str))=H5 at fr5 y5 d5
  have n5:lw≠d:=λe=>by rw[e,d5]at y5;cases y5
  refine⟨_,rfl,d,8,n4,s0,t4,rfl,d5,by decide,by decide,λwy n6 t6 _ _=>?_⟩
  have fr6:Fr H d (upd H5 d (.dK (Q6 n6 s0 t6))):=fr5.at_d
  have d6:upd H5 d (.dK (Q6 n6 s0 t6)) d=some (.dK (Q6 n6 s0 t6)):=qe
  replace y5:upd H5 d (.dK (Q6 n6 s0 t6)) lw=some (HO.lst ((wd b).map V.str)):=by rw[qi n5];exact y5
  generalize upd H5 d (.dK (Q6 n6 s0 t6))=H6 at fr6 d6 y5
  refine⟨_,rfl,_,rfl,lw,_,rfl,.inl (.of y5),d,_,n6,s0,t6,rfl,d6,by rw[tj];omega,by rw[tj];exact zax wmany (by decide),λat' n7 t7 a0 a1=>?_⟩
  have fr7:Fr H d (upd H6 d (.dK (Q6 n7 s0 t7))):=fr6.at_d
  have d7:upd H6 d (.dK (Q6 n7 s0 t7)) d=some (.dK (Q6 n7 s0 t7)):=qe
  have y7:upd H6 d (.dK (Q6 n7 s0 t7)) lw=some (HO.lst ((wd b).map V.str)):=by rw[qi n5];exact y5
  generalize upd H6 d (.dK (Q6 n7 s0 t7))=G at fr7 d7 y7
  rw[tj]at a1
  clear y5 y3 d3 d4 d5 d6 fr3 fr4 fr5 fr6 h0 h1 eb fw n3
  have way:∀{p1 p2:Prop} {c:Bool},p1->p2->if c=true then p1 else p2:=λh1 h2=>by split<;>assumption
  have fst5:∀{zs:List Str} {X:Hp} {l:Addr} {n s t:Int} {R:VK},X l=some (HO.lst (zs.map V.str))->Fr H d X->X d=some (.dK (Q6 n s t))->0 < zs.length->zs.length<=100->(∀z∈zs,∀X' n t,(∀a o,a≠d->X a=some o->X' a=some o)->Fr H d X'->X' d=some (.dK (Q6 n s t))->R (.str z) X')->
    vg [.ref d,.int (zs.length:Nat)] X (λv X'=>AK K (.ref l) v X' R) E0:=λ{zs X l n s t R} hl fr hd' p0 p1 k=>by
   refine⟨d,_,n,s,t,rfl,hd',by omega,by show zs.length < _;exact zax p1 (by decide),λr n' t' r0 r1=>?_⟩
   obtain⟨z,hz,ez⟩:=Gz r0 r1
   have nl:l≠d:=λe=>by rw[e,hd']at hl;cases hl
   exact⟨l,_,r,_,rfl,rfl,.of (by rw[qi nl];exact hl),ez,k z hz _ n' t' (λa o na ha=>by rw[qi na];exact ha) fr.at_d qe⟩
  -- 0
  refine⟨_,rfl,rfl,_,rfl,way ?_ ?_⟩
  ·have c:=F0 b hb
   refine⟨rfl,_,rfl,by show 1<=zdB;decide,λl f=>⟨lw,l,_,_,rfl,rfl,.of (qw y7 f),.of qe,few _ (by rw[tj];show _+1<=1000;omega),λl' f'=>rj (ys:=wd b++[zdx "a"]) (by rw[tH];exact qe) (Ma c) (q _ _ ((fr7.new f).new f') (N9 c))⟩⟩
  -- 1
  refine⟨_,rfl,rfl,_,rfl,way ?_ ?_⟩
  ·obtain⟨e,c⟩:=F1 b hb
   refine⟨rfl,_,rfl,1,rfl,-1,rfl,lw,_,rfl,.of y7,λl f=>?_⟩
   rw[e]
   exact rj qe (Ma c) (q _ _ (fr7.new f) (N9 c))
  -- 2
  refine⟨_,rfl,rfl,_,rfl,way ?_ ?_⟩
  ·obtain⟨m,rfl⟩:=Int.eq_ofNat_of_zero_le a0
   have hm:m < (wd b).length:=by omega
   have c:=F2 b hb m (zcu.mpr hm)
   refine⟨rfl,_,rfl,_,rfl,_,rfl,lw,_,rfl,.of y7,λl f=>?_⟩
   rw[DD (zaC hm)]
   refine⟨by show 1<=zdB;decide,λl' f'=>⟨l,l',_,_,rfl,rfl,.of (qw qe f'),.of qe,few _ (by rw[tj,zag];show _+1<=1000;omega),λl4 f4=>?_⟩⟩
   refine⟨_,rfl,_,rfl,_,rfl,lw,_,rfl,.of (qw (qw (qw y7 f) f') f4),λl6 f6=>?_⟩
   rw[UU]
   refine⟨l4,l6,_,_,rfl,rfl,.of (qw qe f6),.of qe,few _ ?_,λl9 f9=>rj (ys:=((wd b).take m++[zdx ""])++(wd b).drop m) (by rw[tH,tH];exact qe) (Ma c) (q _ _ ((((fr7.new f).new f').new f4).new f6 |>.new f9) (N9 c))⟩
   rw[tR,tj,tj,zag,zcd]
   show _+1+_<=1000
   omega
  -- 3
  refine⟨_,rfl,rfl,_,rfl,way ?_ ?_⟩
  ·have c:=F3 b hb
   rw[zaa]at c
   exact⟨rfl,_,rfl,_,lw,wd b,rfl,rfl,.of y7,BF c.1,_,_,rfl,rfl,few _ (by rw[show Qq.length=1 by decide+kernel];omega),q _ _ fr7 c.2⟩
  -- 4
  refine⟨_,rfl,rfl,_,rfl,way ?_ ?_⟩
  ·refine⟨rfl,by show 5<=zdB;decide,λl f=>⟨_,rfl,fst5 (zs:=fws) qe (fr7.new f) (qw d7 f) (by decide) (by decide) λz hz X' n t kp fr hd'=>?_⟩⟩
   have c:=F4 b hb z hz
   have y8:=kp lw _ n5 (qw y7 f)
   refine⟨by show 1<=zdB;decide,λl' f'=>⟨_,rfl,1,rfl,lw,_,rfl,.of (qw y8 f'),λl4 f4=>?_⟩⟩
   have e:J7 ((wd b).map V.str) (some (1:Int)) none=((wd b).drop 1).map V.str:=UU (n:=1)
   rw[e]
   refine⟨l',l4,_,_,rfl,rfl,.of (qw qe f4),.of qe,few _ (by rw[tj,zcd];show 1+_<=1000;omega),λl6 f6=>rj (ys:=z::(wd b).drop 1) qe (Ma c) (q _ _ (((fr.new f').new f4).new f6) (N9 c))⟩
  -- 5
  refine⟨_,rfl,rfl,_,rfl,way ?_ ?_⟩
  ·refine⟨by show 5<=zdB;decide,λl f=>⟨_,rfl,fst5 (zs:=l5s) qe (fr7.new f) (qw d7 f) (by decide) (by decide) λz hz X' n t _ fr _=>q _ _ fr (F5 z hz)⟩⟩
  -- 6
  refine⟨_,rfl,rfl,_,rfl,way ?_ ?_⟩
  ·refine⟨by show 5<=zdB;decide,λl f=>⟨_,rfl,fst5 (zs:=nms) qe (fr7.new f) (qw d7 f) (by decide) (by decide) λz hz X' n t kp fr hd'=>?_⟩⟩
   obtain⟨lz,c⟩:=F6 z hz
   have sm:∀{x y:Str},x.length<=100->y.length<=100->x.length+y.length<=zdB:=λh1 h2=>few _ (by omega)
   have sm2:∀{x:Str},x.length<=50->(x++z).length<=100:=λh1=>by rw[Str.length_append];omega
   refine⟨_,rfl,_,_,rfl,rfl,sm (by decide+kernel) (by omega),_,_,rfl,rfl,sm (sm2 (by decide+kernel)) (by decide+kernel),?_⟩
   refine⟨_,rfl,_,_,rfl,rfl,sm (by decide+kernel) (by omega),_,_,rfl,rfl,sm (sm2 (by decide+kernel)) (by decide+kernel),?_⟩
   refine⟨_,rfl,_,_,rfl,rfl,sm (by decide+kernel) (by omega),_,_,rfl,rfl,sm (sm2 (by decide+kernel)) (by decide+kernel),by show 3<=zdB;decide,λl' f'=>?_⟩
   exact⟨_,rfl,fst5 (zs:=[(zdx "join "++z)++zdx " g g",(zdx "heap "++z)++zdx " g",(zdx "ground "++z)++zdx " a:"]) qe (fr.new f') (qw hd' f') (by show 0 < 3;decide) (by show 3<=100;decide) λy hy X'' n t _ fr' _=>q _ _ fr' (c y hy)⟩
  -- 7
  exact⟨rfl,_,rfl,_,lw,wd b,rfl,rfl,.of y7,BF ((zaa _ _).mp (F3 b hb)).1,by show 2<=zdB;decide,λl f=>⟨_,rfl,fst5 (zs:=Ef) qe (fr7.new f) (qw d7 f) (by decide) (by decide) λz hz X' n t _ fr _=>⟨_,_,rfl,rfl,few _ (by have:=F9 z hz;omega),q _ _ fr (F7 b hb z hz)⟩⟩⟩
end
end Rh
/-! THE LAW'S DESK:what is refused. -/
namespace Rh
open PySem L2 PyProof.Rows MLab Rb
def VI:jt:=[("a",["b"]),("b",["a","c"]),("c",[])]
def hs0:List Str:=["a","b","c","a"]
theorem XS:qF VI:=⟨by decide+kernel,by decide+kernel,by decide+kernel,by decide+kernel,by decide+kernel⟩
def vS(G:Addr):List (qG×V):=[((Sum.inr (zdx "g"):qG),.ref G)]
def B9(T:Addr):List (qG×V):=[((Sum.inr (zdx "h"):qG),.ref T)]
/-- the desk of the law -/
structure Ri(CD CG:Addr)(H:Hp)(a dg dh G T L:Addr):Prop where
 dk:ZM CD H a dg dh (vS G) (B9 T)
 gr:jP CG H G VI
 tp:H T=some (.tup [.ref G,.ref L])
 ls:H L=some (.lst (hs0.map V.str))
theorem Ri.keep{CD CG:Addr}{H H':Hp}{a dg dh G T L:Addr}(h:Ri CD CG H a dg dh G T L)(s:Qr H H'):Ri CD CG H' a dg dh G T L:=⟨h.dk.keep s,h.gr.keep s,s _ _ h.tp (λ_ z=>nomatch z),s _ _ h.ls (λ_ z=>nomatch z)⟩
theorem VQ{x:Str}{v:V}:jc [((Sum.inr x:qG),v)] (Sum.inr x:qG)=some v:=by unfold jc;simp
theorem K8{x z:Str}{v:V}:ZC [((Sum.inr x:qG),v)] z=decide (x=z):=by
 unfold ZC jc
 by_cases c:x=z
 ·rw[c];simp
 ·rw[decide_eq_false c]
  have:¬((Sum.inr x:qG)=Sum.inr z):=λe=>c (Sum.inr.inj e)
  simp [c]
/-- as known,of these two names -/
def Bz(k z:Str):Option Kn:=
 if k="name"/\(decide (zdx "g"=z) || decide (zdx "h"=z))=true then some .twice else if k="ground"/\decide (zdx "g"=z)=false then some .place else if k="heap"/\decide (zdx "h"=z)=false then some .heap else none
theorem vP{G T:Addr}{k z:Str}:known (vS G) (B9 T) k z=Bz k z:=by unfold known Bz vS B9;rw[K8,K8]
def Kn.n:Kn->Nat
 | .heap=>0
 | .place=>1
 | .twice=>3
theorem Kn.at(q:CC)(r:Kn):r.cls q.c3=q.at r.n:=by cases r<;>rfl
def B7(z y:Str)(ws:List Str):Bool:=decide (z.length<=1000)&&Jf z&&decide (Txt.split z Qq=y::ws)&&match Jh.lookup y with
 | some ks=>(ks.zip ws).all λp=>(Bz p.1 p.2).isNone
 | none=>false
theorem YF{z y:Str}{ws:List Str}{G T:Addr}(h:B7 z y ws=true):Ln (.str z) (vS G) (B9 T) y ws:=by
 unfold B7 at h
 simp only[zaa,decide_eq_true_eq]at h
 obtain⟨⟨⟨h1,h2⟩,h3⟩,h4⟩:=h
 cases e:Jh.lookup y with
 | none=>rw[e]at h4;cases h4
 | some ks=>
  rw[e]at h4
  refine⟨z,ks,rfl,h1,h2,h3,e,λp hp=>?_⟩
  rw[vP]
  exact zbM.mp (zak.mp h4 p hp)
def Am(z:Str)(n:Nat)(x:Str):Bool:=decide (z.length<=1000)&&Jf z&&match Txt.split z Qq with
 | []=>false
 | y::ws=>match Jh.lookup y with
  | none=>false
  | some ks=>match (ks.zip ws).find? λp=>(Bz p.1 p.2).isSome with
   | some p=>decide (p.2=x)&&decide ((Bz p.1 p.2).map Kn.n=some n)
   | none=>false
theorem Ak{z x:Str}{n:Nat}{q:CC}{G T:Addr}{H:Hp}{E:XK}(h:Am z n x=true)(o:Q5 (q.at n) E H (.str x)):Fb q.c3 (.str z) (vS G) (B9 T) H E:=by
 unfold Am at h
 simp only[zaa,decide_eq_true_eq]at h
 obtain⟨⟨h1,h2⟩,h3⟩:=h
 cases es:Txt.split z Qq with
 | nil=>rw[es]at h3;cases h3
 | cons y ws=>
  rw[es]at h3
  dsimp only at h3
  cases e:Jh.lookup y with
  | none=>rw[e]at h3;cases h3
  | some ks=>
   rw[e]at h3
   dsimp only at h3
   cases ef:(ks.zip ws).find? λp=>(Bz p.1 p.2).isSome with
   | none=>rw[ef]at h3;cases h3
   | some p=>
    rw[ef]at h3
    simp only[zaa,decide_eq_true_eq]at h3
    obtain⟨h4,h5⟩:=h3
    obtain⟨hp,as,bs,eq,no⟩:=List.find?_eq_some_iff_append.mp ef
    cases er:Bz p.1 p.2 with
    | none=>rw[er]at hp;cases hp
    | some r=>
     rw[er]at h5
     have h6:r.n=n:=tX.inj h5
     refine⟨z,y,ws,ks,as.length,p.1,p.2,r,rfl,h1,h2,es,e,?_,λp' hp'=>?_,by rw[vP];exact er,?_⟩
     ·rw[eq,zap (tu _),zct]
      rfl
     ·rw[eq,List.take_left' rfl]at hp'
      rw[vP]
      have:=no p' hp'
      simpa using this
     ·rw[Kn.at,h6,h4]
      exact o
/-! ### refusals -/
section
variable{K:zdw}{CD CG:Addr}{q:CC}{fs:FA}{H:Hp}{a dg dh G T L:Addr}
abbrev Rf(K:zdw)(CD CG:Addr)(q:CC)(fs:FA)(H:Hp)(a dg G T:Addr)(z:Str)(C:Addr)(fld:Str)(u:V):Prop:=DK K CD CG q fs H a dg (vS G) (B9 T) (.str z) C fld u
theorem QO{z x:Str}{n:Nat}(h:Am z n x=true):Rf K CD CG q fs H a dg G T z (q.at n) "found" (.str x):=λQ E o=>.inr (.inl (Ak h o))
theorem Vg{z x:Str}{ps:List Str}{n:Nat}{u:V}(d:Ri CD CG H a dg dh G T L)(h:B7 z "heap" (x::"g"::ps)=true)(r:∀(H':Hp) (E:XK),(∀Hx dx,Same H' Hx->Hx dx=some (.xd [(zdx "found",u)])->E (.ref (q.at n)) (some dx) Hx)->Ch (VI.map (·.1)) ps q.cm q.cp H' E False):
  Rf K CD CG q fs H a dg G T z (q.at n) "found" u:=λQ E o=>by
 refine .inr (.inr ⟨_,_,YF h,.heap λH' l s hl=>?_⟩)
 have d':=d.keep s.keep
 exact⟨a,dg,dh,l,G,_,_,_,x,_,ps,VI,rfl,d'.dk,hl,VQ,d'.gr,by show 1<=1000;decide,(r H' E λHx dx s2 h2=>o Hx dx (s.trans s2) h2).mono (Same.refl _) False.elim⟩
theorem uN{z y x:Str}{f:Addr}{sp:Sp}(d:Ri CD CG H a dg dh G T L)(h:B7 z y ["g",x]=true)(an:Yx fs CG q.cp y f sp)(e:sp=V7 CG q.cp)(n:x∉VI.map (·.1)):Rf K CD CG q fs H a dg G T z (q.at 1) "found" (.str x):=λQ E o=>by
 refine .inr (.inr ⟨_,_,YF h,.ga an VQ λH' l s hl=>?_⟩)
 rw[e]
 exact⟨G,l,VI,x,[],rfl,(d.keep s.keep).gr,hl,n,λHx dx s2 h2=>o Hx dx (s.trans s2) h2⟩
theorem uL{z y x x' v:Str}{f:Addr}{sp:Sp}(d:Ri CD CG H a dg dh G T L)(h:B7 z y ["g",x,x']=true)(an:Yx fs CG q.cp y f sp)(e:sp=V6 CG q.cp)(n:GY (VI.map (·.1)) x x' v):Rf K CD CG q fs H a dg G T z (q.at 1) "found" (.str v):=λQ E o=>by
 refine .inr (.inr ⟨_,_,YF h,.ga an VQ λH' l s hl=>?_⟩)
 rw[e]
 exact⟨G,l,VI,x,x',v,rfl,(d.keep s.keep).gr,hl,n,λHx dx s2 h2=>o Hx dx (s.trans s2) h2⟩
/-! ### texts of grounds -/
def DE(x:Str):Str:=⟨x.cps.pop⟩
theorem N8(n:Str):DE (n++ZJ)=n:=zu (by
 show (n++ZJ).cps.pop.toList=_
 rw[Array.toList_pop,ZY]
 exact List.dropLast_concat)
def Kt(l:Str):Bool:=match Txt.split l Qq with
 | []=>true
 | x::ns=>ns.any (λn=> !qN n) || !qN (DE x)
theorem Ks{l:Str}(h:Kt l=true):¬∃r,YT l r:=λ⟨r,hr⟩=>by
 have e:=xk hr
 unfold Kt at h
 rw[e]at h
 dsimp only at h
 rw[N8,hr.1,Bool.not_true,Bool.or_false,zbl]at h
 obtain⟨x,hx,h⟩:=h
 rw[hr.2.1 x hx]at h
 cases h
def Ca(z x:Str)(ws:List Str):Bool:=B7 z "ground" (x::ws)&&decide ((ws.map (·.length)).sum+ws.length<=1000)&&decide ((Txt.join (zdx " ") ws).length<=1000)&&decide ((Vv ws).length<=1000)
theorem MS{z x:Str}{ws:List Str}{C:Addr}{fld:Str}{u:V}(h:Ca z x ws=true)(r:∀(H':Hp) (Q:VK) (E:XK),(∀Hx dx,Same H' Hx->Hx dx=some (.xd [(fld,u)])->E (.ref C) (some dx) Hx)->Zq K CG q.c4 [.str (Vv ws)] H' Q E):Rf K CD CG q fs H a dg G T z C fld u:=λQ E o=>by
 unfold Ca at h
 simp only[zaa,decide_eq_true_eq]at h
 obtain⟨⟨⟨h1,h2⟩,h3⟩,h4⟩:=h
 exact .inr (.inr ⟨_,_,YF h1,.ground h2 h3 λH' s=>r H' _ E λHx dx s2 hd=>o Hx dx (s.trans s2) hd⟩)
theorem Gc{z x:Str}{ws:List Str}(h:Ca z x ws=true):(Vv ws).length<=1000:=by
 unfold Ca at h
 simp only[zaa,decide_eq_true_eq]at h
 exact h.2
theorem Y6{z x:Str}{ws:List Str}{i:Nat}(h:Ca z x ws=true)(fb:FB (Txt.split (Vv ws) Wd) i):Rf K CD CG q fs H a dg G T z q.cx "row" (.int (i:Nat)):=
 MS h λH' Q E o=>⟨_,rfl,.inr (.inl ⟨_,i,rfl,Gc h,fb,o⟩)⟩
theorem uM{z x:Str}{ws:List Str}{rs:jt}{r:ww}(h:Ca z x ws=true)(ar:VH (Txt.split (Vv ws) Wd) rs)(rp:BX rs r):Rf K CD CG q fs H a dg G T z (r.cls q.c4) r.fld r.val:=
 MS h λH' Q E o=>⟨_,rfl,.inr (.inr ⟨_,rs,rfl,Gc h,ar,.inl ⟨r,rp,o⟩⟩)⟩
end
end Rh
/-! THE LAW:_law_others. -/
namespace Rh
open PySem L2 PyProof.Rows MLab Rb
abbrev Uf:Stmt:=top 147
def vx:List (Str×Nat×V):=[(zdx "join g x y",3,V.str (zdx "g")),
 (zdx "join h x y",3,V.str (zdx "h")),
 (zdx "join x y z",1,V.str (zdx "y")),
 (zdx "join x g z",1,V.str (zdx "z")),
 (zdx "pair x z y",1,V.str (zdx "z")),
 (zdx "least x h",1,V.str (zdx "h")),
 (zdx "heap x y a",1,V.str (zdx "y")),
 (zdx "heap g g nosuch",3,V.str (zdx "g")),
 (zdx "heap x g a nosuch none",1,V.str (zdx "nosuch")),
 (zdx "heap x g"++Txt.mul (zdx " a") 9,2,V.int 9),
 (zdx "heap x g ",1,V.str (zdx "")),
 (zdx "move g 0 a",0,V.str (zdx "g")),
 (zdx "play x",0,V.str (zdx "x")),
 (zdx "tokens ",0,V.str (zdx "")),
 (zdx "show h",1,V.str (zdx "h")),
 (zdx "ring ",1,V.str (zdx "")),
 (zdx "worth g x",1,V.str (zdx "x")),
 (zdx "single g ",1,V.str (zdx "")),
 (zdx "alike g x y",1,V.str (zdx "x")),
 (zdx "part g a y",1,V.str (zdx "y"))]
def uH:List (Str×Nat):=[(zdx "ground x ",0),(zdx "ground x a: b; B:",1),(zdx "ground x a:;b:",0),(zdx "ground x a: ; b:",0)]
/-- tuples,side by side -/
def QW(H:Hp)(ps:List Addr)(rs:List (List V)):Prop:=ps.length=rs.length/\∀(i:Nat) (p:Addr) (r:List V),ps[i]?=some p->rs[i]?=some r->H p=some (.tup r)
theorem QW.mono{H H':Hp}{ps:List Addr}{rs:List (List V)}(h:QW H ps rs)(s:Same H H'):QW H' ps rs:=⟨h.1,λi p r a b=>s _ _ (h.2 i p r a b)⟩
theorem QW.keep{H H':Hp}{ps:List Addr}{rs:List (List V)}(h:QW H ps rs)(s:Qr H H'):QW H' ps rs:=⟨h.1,λi p r a b=>s _ _ (h.2 i p r a b) (λ_ z=>nomatch z)⟩
theorem QW.nil{H:Hp}:QW H [] []:=⟨rfl,λi p r e=>(nomatch e)⟩
theorem QW.cons{H:Hp}{ps:List Addr}{rs:List (List V)}{p:Addr}{r:List V}(h:QW H ps rs)(y:H p=some (.tup r)):QW H (p::ps) (r::rs):=by
 refine⟨by rw[tP,tP,h.1],λi p' r' e1 e2=>?_⟩
 cases i with
 | zero=>cases e1;cases e2;exact y
 | succ i=>exact h.2 i p' r' e1 e2
theorem QW.app{H:Hp}{ps ps':List Addr}{rs rs':List (List V)}(h:QW H ps rs)(h':QW H ps' rs'):QW H (ps++ps') (rs++rs'):=by
 refine⟨by rw[tR,tR,h.1,h'.1],λi p r e1 e2=>?_⟩
 rcases zbe i ps.length with c | c
 ·rw[zay c]at e1
  rw[zay (by rw[<-h.1];exact c)]at e2
  exact h.2 i p r e1 e2
 ·rw[zap c]at e1
  rw[zap (by rw[<-h.1];exact c),<-h.1]at e2
  exact h'.2 _ p r e1 e2
def zt:List V->TA
 | []=>Qf
 | v::vs=>jg (tC v) (zt vs)
theorem zr:∀(vs:List V) (σ:L2.St) (H:Hp) (Q:List V->Hp->Prop),Q vs H->zt vs σ H Q
 | [],_,_,_,h=>h
 | v::vs,σ,H,Q,h=>zr vs σ H (λxs H2=>Q (v::xs) H2) h
def YB:List (List V×TA)->TA
 | []=>Qf
 | x::xs=>jg (Ao x.2) (YB xs)
/-- items that only tell values -/
def v9(ts:List (List V×TA)):Prop:=∀x∈ts,x.1.length<=100/\∀(σ:L2.St) (H:Hp) (Q:List V->Hp->Prop),Q x.1 H->x.2 σ H Q
theorem VX:∀(ts:List (List V×TA)) {σ:L2.St} {H:Hp} {Q:List V->Hp->Prop},v9 ts->(∀H' ps,Same H H'->QW H' ps (ts.map (·.1))->Q (ps.map V.ref) H')->YB ts σ H Q
 | [],_,H,_,_,k=>k H [] (Same.refl H) QW.nil
 | x::xs,σ,H,Q,h,k=>by
  obtain⟨l,r⟩:=h x tK
  refine r σ H _ ⟨tM l (by decide),λp hp=>VX xs (λy hy=>h y (tF _ hy)) λH' ps s t=>?_⟩
  exact k H' (p::ps) ((qm hp).trans s) (t.cons (s _ _ qe))
theorem XI{ts:List (List V×TA)}{σ:L2.St}{H:Hp}{Q:VK}(h:v9 ts)(n:ts.length<=100)(k:∀H' ps l,Same H H'->QW H' ps (ts.map (·.1))->H' l=some (.lst (ps.map V.ref))->Q (.ref l) H'):vd (YB ts) σ H Q:=by
 refine VX ts h λH' ps s t=>⟨?_,λl hl=>?_⟩
 ·rw[tj,t.1,tj]
  exact tM n (by decide)
 ·exact k _ ps l (s.trans (qm hl)) (t.mono (qm hl)) qe
theorem uj{ts:List (List V×TA)}{i:Nat}{rest:TS}{D:JN}{σ:L2.St}{H:Hp}(h:v9 ts)(n:ts.length<=100)(k:∀H' ps l,Same H H'->QW H' ps (ts.map (·.1))->H' l=some (.lst (ps.map V.ref))->rest D (σ.set i (some (.ref l))) H'):X6 (yW (vd (YB ts)) (j3 i)) rest D σ H:=by
 show vd (YB ts) σ H (λx H1=>rest D (σ.set i (some x)) H1)
 exact XI h n k
theorem zR{K:zdw}{ts:List (List V×TA)}{i:Nat}{rest:TS}{D:JN}{σ:L2.St}{H:Hp}{l0:Addr}{ps0:List Addr}{rs:List (List V)}(e:σ[i]?=some (some (.ref l0)))(hl:H l0=some (.lst (ps0.map V.ref)))(t0:QW H ps0 rs)(n0:rs.length<=100)(h:v9 ts)(n:ts.length<=100)
  (k:∀H' ps l,Same H H'->QW H' ps (rs++ts.map (·.1))->H' l=some (.lst (ps.map V.ref))->rest D (σ.set i (some (.ref l))) H'):X6 (yW (Xi (MU K) (qS i) (vd (YB ts))) (j3 i)) rest D σ H:=by
 refine⟨_,e,XI h n λH' ps l s t hl'=>⟨l0,l,_,_,rfl,rfl,.of (s _ _ hl),.of hl',?_,λl2 f2=>?_⟩⟩
 ·rw[tj,tj,t0.1,t.1,tj]
  exact tM (Nat.add_le_add n0 n) (by decide)
 ·rw[<-tH]
  exact k _ (ps0++ps) l2 (s.trans (qm f2)) (((t0.mono s).app t).mono (qm f2)) qe
theorem Gf{K:zdw}{ts:List (List V×TA)}{g:TG}{tb rest:TS}{D:JN}{σ:L2.St}{H:Hp}(h:v9 ts)(n:ts.length<=100)(k:∀H' ps l,Same H H'->QW H' ps (ts.map (·.1))->H' l=some (.lst (ps.map V.ref))->zZ (zM K (tC (.ref l))) g tb {D with nx:=rest D} σ H'):X6 (zZ (zM K (vd (YB ts))) g tb) rest D σ H:=by
 show vd (YB ts) σ H (λv H'=>zZ (zM K (tC v)) g tb {D with nx:=rest D} σ H')
 exact XI h n k
theorem Ju{rows:List (List V)}(h:∀r∈rows,r.length<=100):v9 (rows.map λr=>(r,zt r)):=λx hx=>by
 obtain⟨r,hr,rfl⟩:=tQ.mp hx
 exact⟨h r hr,zr r⟩
theorem QW.item{α:Type}{H:Hp}{ps:List Addr}{rows:List α}{f:α->List V}(h:QW H ps (rows.map f)){i:Nat}{y:V}(e:(ps.map V.ref)[i]?=some y):∃p,∃r∈rows,y=.ref p/\H p=some (.tup (f r)):=by
 rw[tZ]at e
 cases ep:ps[i]? with
 | none=>rw[ep]at e;cases e
 | some p=>
  rw[ep]at e
  have l:=(tq.mp ep).1
  rw[h.1,tj]at l
  obtain rfl:=(tX.inj e).symm
  exact⟨p,rows[i],zaT l,rfl,h.2 i p _ ep (by rw[tZ,tW l];rfl)⟩
section
variable{K:zdw}{CD CG:Addr}{q:CC}{fs:FA}{H:Hp}{a dg dh G T L:Addr}
def Fp(K:zdw)(u:V):Prop:=∃d,(∀H,DV K H u d)/\PySem.SeqAt.shaped d=true
theorem Vb{z:Str}(h:PyData.strOk z=true):PySem.SeqAt.shaped (.str z)=true:=by
 unfold PySem.SeqAt.shaped
 simp only[PyData.canLay0,h,PyData.depth]
 rfl
theorem Vz(z:Str)(h:PyData.strOk z=true):Fp K (.str z):=⟨_,λ_=>.str z,Vb h⟩
theorem flI(i:Int):Fp K (.int i):=⟨_,λ_=>.int i,rfl⟩
theorem R7(d:Ri CD CG H a dg dh G T L):∀r∈vx,Rf K CD CG q fs H a dg G T r.1 (q.at r.2.1) "found" r.2.2/\r.2.1 < 4/\Fp K r.2.2:=by
 have N:(VI.map (·.1))=[zdx "a",zdx "b",zdx "c"]:=rfl
 intro r hr
 unfold vx at hr
 simp only[tJ,zai,or_false]at hr
 rcases hr with rfl | rfl | rfl | rfl | rfl | rfl | rfl | rfl | rfl | rfl | rfl | rfl | rfl | rfl | rfl | rfl | rfl | rfl | rfl | rfl
 ·exact⟨QO (by decide+kernel),by decide,Vz _ (by decide+kernel)⟩
 ·exact⟨QO (by decide+kernel),by decide,Vz _ (by decide+kernel)⟩
 ·exact⟨QO (by decide+kernel),by decide,Vz _ (by decide+kernel)⟩
 ·exact⟨QO (by decide+kernel),by decide,Vz _ (by decide+kernel)⟩
 ·exact⟨QO (by decide+kernel),by decide,Vz _ (by decide+kernel)⟩
 ·exact⟨QO (by decide+kernel),by decide,Vz _ (by decide+kernel)⟩
 ·exact⟨QO (by decide+kernel),by decide,Vz _ (by decide+kernel)⟩
 ·exact⟨QO (by decide+kernel),by decide,Vz _ (by decide+kernel)⟩
 ·exact⟨Vg d (x:="x") (ps:=["a","nosuch","none"]) (by decide+kernel) λH' E o=>.place (by decide) ["a"] ["none"] "nosuch" rfl (by decide+kernel) (by decide+kernel) o,by decide,Vz _ (by decide+kernel)⟩
 ·exact⟨Vg d (x:="x") (ps:=["a","a","a","a","a","a","a","a","a"]) (by decide+kernel) λH' E o=>.many (by decide) (by decide) o,by decide,flI _⟩
 ·exact⟨Vg d (x:="x") (ps:=[""]) (by decide+kernel) λH' E o=>.place (by decide) [] [] "" rfl (by decide+kernel) (by decide+kernel) o,by decide,Vz _ (by decide+kernel)⟩
 ·exact⟨QO (by decide+kernel),by decide,Vz _ (by decide+kernel)⟩
 ·exact⟨QO (by decide+kernel),by decide,Vz _ (by decide+kernel)⟩
 ·exact⟨QO (by decide+kernel),by decide,Vz _ (by decide+kernel)⟩
 ·exact⟨QO (by decide+kernel),by decide,Vz _ (by decide+kernel)⟩
 ·exact⟨QO (by decide+kernel),by decide,Vz _ (by decide+kernel)⟩
 ·exact⟨uN d (x:="x") (by decide+kernel) .wo rfl (by decide+kernel),by decide,Vz _ (by decide+kernel)⟩
 ·exact⟨uN d (x:="") (by decide+kernel) .si rfl (by decide+kernel),by decide,Vz _ (by decide+kernel)⟩
 ·exact⟨uL d (x:="x") (x':="y") (by decide+kernel) .al rfl (.inl ⟨by decide+kernel,rfl⟩),by decide,Vz _ (by decide+kernel)⟩
 ·exact⟨uL d (x:="a") (x':="y") (by decide+kernel) .pt rfl (.inr ⟨by decide+kernel,by decide+kernel,rfl⟩),by decide,Vz _ (by decide+kernel)⟩
theorem E8{ls:List Str}{l:Str}{m:List Str}(e:ls=l::m)(h:Kt l=true):FB ls 0:=by
 subst e
 exact⟨⟨l,rfl,Ks h⟩,λj _ hj=>absurd hj (zbU _)⟩
theorem R6:∀r∈uH,Rf K CD CG q fs H a dg G T r.1 q.cx "row" (.int (r.2:Nat)):=by
 intro r hr
 unfold uH at hr
 simp only[tJ,zai,or_false]at hr
 rcases hr with rfl | rfl | rfl | rfl
 ·exact Y6 (x:="x") (ws:=[""]) (by decide+kernel) (E8 (l:="") (m:=[]) (by decide+kernel) (by decide+kernel))
 ·refine Y6 (x:="x") (ws:=["a:","b;","B:"]) (by decide+kernel) ?_
  rw[show Txt.split (Vv ["a:","b;","B:"]) Wd=[zdx "a: b",zdx "B:"] by decide+kernel]
  refine⟨⟨_,rfl,Ks (by decide+kernel)⟩,λj l hj e=>?_⟩
  obtain rfl:j=0:=by omega
  obtain rfl:=tX.inj e
  exact⟨(zdx "a",[zdx "b"]),by decide+kernel,by decide+kernel,by decide+kernel⟩
 ·exact Y6 (x:="x") (ws:=["a:;b:"]) (by decide+kernel) (E8 (l:="a:;b:") (m:=[]) (by decide+kernel) (by decide+kernel))
 ·exact Y6 (x:="x") (ws:=["a:",";","b:"]) (by decide+kernel) (E8 (l:="a: ") (m:=["b:"]) (by decide+kernel) (by decide+kernel))
theorem CZ:Rf K CD CG q fs H a dg G T "ground x a: b" (q.at 1) "found" (.str "b"):=
 uM (x:="x") (ws:=["a:","b"]) (rs:=[("a",["b"])]) (r:=.place "b") (by decide+kernel) ⟨by decide+kernel,λr hr=>by obtain rfl:=zaf.mp hr;exact⟨by decide+kernel,by decide+kernel⟩⟩
  (.inr ⟨by decide,.inr (.inl ⟨by decide+kernel,0,_,rfl,λj _ hj=>absurd hj (zbU _),0,"b",rfl,by decide+kernel,(λy hy=>nomatch hy),.inl ⟨by decide+kernel,rfl⟩⟩)⟩)
theorem CY:Rf K CD CG q fs H a dg G T "ground x a:; a:" (q.at 3) "found" (.str "a"):=
 uM (x:="x") (ws:=["a:;","a:"]) (rs:=[("a",[]),("a",[])]) (r:=.twice "a") (by decide+kernel) ⟨by decide+kernel,λr hr=>by
  have:r=(zdx "a",[]):=by simpa using hr
  subst this
  exact⟨by decide+kernel,(λ_ z=>nomatch z)⟩⟩
  (.inr ⟨by decide,.inl ⟨1,"a",rfl,by decide+kernel,by decide+kernel,rfl⟩⟩)
end
theorem Cm:v9 ([([V.str (zdx "heap x g a nosuch none"),V.int 1,V.str (zdx "nosuch")],zt [V.str (zdx "heap x g a nosuch none"),V.int 1,V.str (zdx "nosuch")]),([V.str (zdx "heap x g"++Txt.mul (zdx " a") 9),V.int 2,V.int 9],jg (Xi k7 (tC (V.str (zdx "heap x g"))) (Xi uR (tC (V.str (zdx " a"))) (tC (V.int 9)))) (zt [V.int 2,V.int 9])),([V.str (zdx "heap x g "),V.int 1,V.str (zdx "")],zt [V.str (zdx "heap x g "),V.int 1,V.str (zdx "")])]):=λx hx=>by
 simp only[tJ,zai,or_false]at hx
 rcases hx with rfl | rfl | rfl
 ·exact⟨by decide,zr _⟩
 ·exact⟨by decide,λσ H Q h=>⟨_,_,rfl,rfl,by decide+kernel,by decide,by decide,_,_,rfl,rfl,by decide+kernel,zr _ σ H _ h⟩⟩
 ·exact⟨by decide,zr _⟩
/-- the four classes -/
def K4(K:zdw)(q:CC):Prop:=∀k,k < 4->Kd K q (q.at k) k
def ME(CD CG:Addr):Sp:=λvs H Q _=>∃a dg dh G T L:Addr,vs=[.ref a]/\Ri CD CG H a dg dh G T L/\∀H',Qr H H'->Q (.bl true) H'
section
variable{P:Program}{w:World}{K:zdw}{mg:Str->Option Value}{base:Heap}
abbrev ES:List Str:=["_law_desk","_law_rows","_law_line","_law_kind","_law_found","_law_row","_law_error_here"]
theorem Zf:qp ES ["_law_desk"] (qj Uf):=zdv
theorem Ny{f fE fI CD CG:Addr}{q:CC}{fs:FA}{fd fdE fdI:zdA}(F:jw K "_law_others" "_law_others" Uf f fd)(B:QB mg)(T:j9 K mg)(X:XN mg q)(Z:wy K mg q)(k4:K4 K q)(xx:XC K q.D q.cx "row")(hE:qZ K mg "_law_error" Wv ["_law_desk","_law_line"] fE fdE)(GE:qo P w K mg base qJ 13 fE fdE ["_law_desk","_law_line"] (uf K CD CG q fs))
  (hI:qZ K mg "_law_is" uC Dc fI fdI):qo P w K mg base qJ 14 f fd ["_law_desk"] (ME CD CG):=by
 have GI:qo P w K mg base qJ 1 fI fdI Dc (Cz K q):=Bc hI.fn B T X Z
 refine F.okJ Zf (λvs H Q E h=>?_) (λcdv A outer s H vs Q E hr h=>?_)
 ·obtain⟨a,dg,dh,G,T,L,rfl,_⟩:=h
  rfl
 ·obtain⟨a,dg,dh,G,T',L,rfl,d,k⟩:=h
  have r1:qO 1 _:=hr.mono (by decide)
  refine⟨_,qg (qD (i:=1) Zf.nd rfl (Or.inl rfl) (jo (qd (q5 (qd qk (qd ql (qd qk qf)))) (qd (q5 (qd qk (qd ql (qd qk qf)))) (qd (q5 (qd qk (qd ql (qd qk qf)))) (qd (q5 (qd qk (qd ql (qd qk qf)))) qf))))))
   (qg (qD (i:=1) Zf.nd rfl (Or.inl rfl) (qV QJ (jv 1) (jo (qd (q5 (qd qk (qd ql (qd qk qf)))) (qd (q5 (qd qk (qd ql (qd qk qf)))) (qd (q5 (qd qk (qd ql (qd qk qf)))) (qd (q5 (qd qk (qd ql (qd qk qf)))) qf)))))))
   (qg (qD (i:=1) Zf.nd rfl (Or.inl rfl) (qV QJ (jv 1) (jo (qd (q5 (qd qk (qd ql (qd qk qf)))) (qd (q5 (qd (qV jx qk (qV Nh qk ql)) (qd ql (qd ql qf)))) (qd (q5 (qd qk (qd ql (qd qk qf)))) qf))))))
   (qg (qD (i:=1) Zf.nd rfl (Or.inl rfl) (qV QJ (jv 1) (jo (qd (q5 (qd qk (qd ql (qd qk qf)))) (qd (q5 (qd qk (qd ql (qd qk qf)))) (qd (q5 (qd qk (qd ql (qd qk qf)))) (qd (q5 (qd qk (qd ql (qd qk qf)))) (qd (q5 (qd qk (qd ql (qd qk qf)))) qf))))))))
   (qg (qD (i:=1) Zf.nd rfl (Or.inl rfl) (qV QJ (jv 1) (jo (qd (q5 (qd qk (qd ql (qd qk qf)))) (qd (q5 (qd qk (qd ql (qd qk qf)))) (qd (q5 (qd qk (qd ql (qd qk qf)))) (qd (q5 (qd qk (qd ql (qd qk qf)))) qf)))))))
   (qg (jC PassesOwn.never rfl (qL (jv 1)) (ZB rfl (jp (qx (i:=2) Zf.nd rfl (Or.inl rfl)) (jp (qx (i:=3) Zf.nd rfl (Or.inl rfl)) (jp (qx (i:=4) Zf.nd rfl (Or.inl rfl)) Jq)))) (qh (qE (jy (jd (qT hI GI r1 (by rfl) (qd (qT hE GE hr (by rfl) (qd (jv 0) (qd (jv 2) qf))) (qd (jv 3) (qd (jv 4) qf)))))) (qh (qt Qd)) qv)))
   (qg (jC PassesOwn.never rfl (qL (jo (qd (q5 (qd qk (qd ql qf))) (qd (q5 (qd qk (qd ql qf))) (qd (q5 (qd qk (qd ql qf))) (qd (q5 (qd qk (qd ql qf))) qf)))))) (ZB rfl (jp (qx (i:=2) Zf.nd rfl (Or.inl rfl)) (jp (qx (i:=5) Zf.nd rfl (Or.inl rfl)) Jq))) (qg (qD (i:=6) Zf.nd rfl (Or.inl rfl) (qT hE GE hr (by rfl) (qd (jv 0) (qd (jv 2) qf)))) (qh (qE (JW.pt (Jp (jy (jd (qu (QH (bm:=.ref q.D::jz) Z.spc Z.tks) (by rfl) T.isi boot_isinstance (qd (jv 6) (qd (qM (v:=.ref q.cx) (by rfl) X.cx rfl) qf))))) (QK (qA Wx (Y9 (bm:=.ref q.D::jz) (jv 6) rfl) (jv 5) (qC _))))) (qh (qt Qd)) qv))))
   (qh (qt (QM (qT hI GI r1 (by rfl) (qd (qT hE GE hr (by rfl) (qd (jv 0) (qd qk qf))) (qd ql (qd qk qf)))) (QP (qT hI GI r1 (by rfl) (qd (qT hE GE hr (by rfl) (qd (jv 0) (qd qk qf))) (qd ql (qd qk qf)))))))))))))),?_⟩
  refine uj (ts:=[[V.str (zdx "join g x y"),V.int 3,V.str (zdx "g")],[V.str (zdx "join h x y"),V.int 3,V.str (zdx "h")],[V.str (zdx "join x y z"),V.int 1,V.str (zdx "y")],[V.str (zdx "join x g z"),V.int 1,V.str (zdx "z")]].map λr=>(r,zt r)) (Ju (by decide)) (by decide) λH1 ps1 n1 sA t1 y1=>?_
  refine zR (ts:=[[V.str (zdx "pair x z y"),V.int 1,V.str (zdx "z")],[V.str (zdx "least x h"),V.int 1,V.str (zdx "h")],[V.str (zdx "heap x y a"),V.int 1,V.str (zdx "y")],[V.str (zdx "heap g g nosuch"),V.int 3,V.str (zdx "g")]].map λr=>(r,zt r)) rfl y1 t1 (by decide) (Ju (by decide)) (by decide) λH2 ps2 n2 s2 t2 y2=>?_
  replace sA:=sA.trans s2
  refine zR (ts:=[([V.str (zdx "heap x g a nosuch none"),V.int 1,V.str (zdx "nosuch")],zt [V.str (zdx "heap x g a nosuch none"),V.int 1,V.str (zdx "nosuch")]),([V.str (zdx "heap x g"++Txt.mul (zdx " a") 9),V.int 2,V.int 9],jg (Xi k7 (tC (V.str (zdx "heap x g"))) (Xi uR (tC (V.str (zdx " a"))) (tC (V.int 9)))) (zt [V.int 2,V.int 9])),([V.str (zdx "heap x g "),V.int 1,V.str (zdx "")],zt [V.str (zdx "heap x g "),V.int 1,V.str (zdx "")])]) rfl y2 t2 (by decide) Cm (by decide) λH3 ps3 n3 s3 t3 y3=>?_
  replace sA:=sA.trans s3
  refine zR (ts:=[[V.str (zdx "move g 0 a"),V.int 0,V.str (zdx "g")],[V.str (zdx "play x"),V.int 0,V.str (zdx "x")],[V.str (zdx "tokens "),V.int 0,V.str (zdx "")],[V.str (zdx "show h"),V.int 1,V.str (zdx "h")],[V.str (zdx "ring "),V.int 1,V.str (zdx "")]].map λr=>(r,zt r)) rfl y3 t3 (by decide) (Ju (by decide)) (by decide) λH4 ps4 n4 s4 t4 y4=>?_
  replace sA:=sA.trans s4
  refine zR (ts:=[[V.str (zdx "worth g x"),V.int 1,V.str (zdx "x")],[V.str (zdx "single g "),V.int 1,V.str (zdx "")],[V.str (zdx "alike g x y"),V.int 1,V.str (zdx "x")],[V.str (zdx "part g a y"),V.int 1,V.str (zdx "y")]].map λr=>(r,zt r)) rfl y4 t4 (by decide) (Ju (by decide)) (by decide) λH5 ps5 n5 s5 t5 y5=>?_
  replace sA:=sA.trans s5
  have ta1:QW H5 ps5 (vx.map λr=>[.str r.1,.int (r.2.1:Nat),r.2.2]):=t5
  have d1:=d.keep sA.keep
  refine⟨_,rfl,n5,rfl,⟨_,.of y5⟩,?_⟩
  refine jk (K:=K) (a:=n5) (xs:=ps5.map V.ref) (λi σ' X=>(∃v2 v3 v4,σ'=[some (.ref a),some (.ref n5),v2,v3,v4,none,none])/\Qr H5 X) ⟨⟨none,none,none,rfl⟩,Qr.refl _⟩ (λi σ' X _ ⟨_,kX⟩=>.of (kX _ _ y5 (λ_ z=>nomatch z))) ?_ ?_
  ·rintro i y σ' X hy ⟨⟨v2,v3,v4,rfl⟩,kX⟩
   obtain⟨p,r,hr',rfl,hp⟩:=(ta1.keep kX).item hy
   obtain⟨rf,hk,fl⟩:=R7 (K:=K) (q:=q) (fs:=fs) (d1.keep kX) r hr'
   refine⟨p,_,rfl,.of hp,rfl,_,_,rfl,_,_,rfl,_,_,rfl,rfl,?_⟩
   obtain⟨dd,dv,sh⟩:=fl
   exact⟨_,rfl,_,rfl,a,dg,dh,_,_,_,_,_,_,rfl,(d1.keep kX).dk,by show 1<=1000;decide,rf,(k4 _ hk).xc,λX' e dx hd' k1 he hdx=>⟨_,rfl,_,rfl,e,_,dx,hd',_,_,dd,rfl,hk,he,hdx,k4 _ hk,dv _,sh,λX'' s''=>⟨_,rfl,jh ⟨⟨_,_,_,rfl⟩,(kX.trans k1).trans s''.keep⟩⟩⟩⟩
  ·rintro σ' Y ⟨⟨v2,v3,v4,rfl⟩,kY⟩
   have dY:=d1.keep kY
   have kH:=sA.keep.trans kY
   refine Gf (ts:=[[V.str (zdx "ground x "),V.int 0],[V.str (zdx "ground x a: b; B:"),V.int 1],[V.str (zdx "ground x a:;b:"),V.int 0],[V.str (zdx "ground x a: ; b:"),V.int 0]].map λr=>(r,zt r)) (Ju (by decide)) (by decide) λY1 qs lz sY tY yz=>?_
   have tY':QW Y1 qs (uH.map λr=>[.str r.1,.int (r.2:Nat)]):=tY
   refine⟨lz,rfl,⟨_,.of yz⟩,?_⟩
   refine jk (K:=K) (a:=lz) (xs:=qs.map V.ref) (λi σ' X=>(∃v2 v5 v6,σ'=[some (.ref a),some (.ref n5),v2,v3,v4,v5,v6])/\Qr Y1 X) ⟨⟨_,none,none,rfl⟩,Qr.refl _⟩ (λi σ' X _ ⟨_,kX⟩=>.of (kX _ _ yz (λ_ z=>nomatch z))) ?_ ?_
   ·rintro i y σ' X hy ⟨⟨v2,v5,v6,rfl⟩,kX⟩
    obtain⟨p,r,hr',rfl,hp⟩:=(tY'.keep kX).item hy
    have dX:=dY.keep (sY.keep.trans kX)
    have rf:=R6 (K:=K) (CD:=CD) (CG:=CG) (q:=q) (fs:=fs) (H:=X) (a:=a) (dg:=dg) (G:=G) (T:=T') r hr'
    refine⟨p,_,rfl,.of hp,rfl,_,_,rfl,_,_,rfl,rfl,?_⟩
    refine⟨_,rfl,_,rfl,a,dg,dh,_,_,_,_,_,_,rfl,dX.dk,by show 1<=1000;decide,rf,xx,λX' e dx hd' k1 he hdx=>?_⟩
    have lk:([(zdx "row",V.int (r.2:Nat))]:List (Str×V)).lookup (zdx "row")=some (V.int (r.2:Nat)):=by simp [zaA]
    refine⟨_,rfl,e,q.cx,dx,_,_,.ref q.cx,true,rfl,rfl,he,hdx,xx.cls,Z.xx,_,rfl,jh ?_⟩
    refine⟨_,rfl,e,q.cx,dx,_,_,_,rfl,he,hdx,xx.cls,xx.na,lk,_,rfl,rfl,_,rfl,qH ?_ ⟨⟨_,_,_,rfl⟩,kX.trans k1⟩⟩
    rw[decide_eq_true rfl]
    rfl
   ·rintro σ' X ⟨⟨v2,v5,v6,rfl⟩,kX⟩
    have kA:=kH.trans (sY.keep.trans kX)
    have dX:=d.keep kA
    refine⟨_,rfl,a,dg,dh,_,_,_,_,_,_,rfl,dX.dk,by show 1<=1000;decide,CZ,(k4 1 (by decide)).xc,λX' e dx hd' k1 he hdx=>⟨e,_,dx,hd',1,_,_,rfl,by decide,he,hdx,k4 1 (by decide),.str _,Vb (by decide+kernel),λX1 s1=>⟨_,rfl,Qj ?_⟩⟩⟩
    have k2:=k1.trans s1.keep
    refine⟨_,rfl,a,dg,dh,_,_,_,_,_,_,rfl,(dX.keep k2).dk,by show 1<=1000;decide,CY,(k4 3 (by decide)).xc,λX' e dx hd' k1 he hdx=>⟨e,_,dx,hd',3,_,_,rfl,by decide,he,hdx,k4 3 (by decide),.str _,Vb (by decide+kernel),λX1 s1=>?_⟩⟩
    exact k _ (((kA.trans k2).trans k1).trans s1.keep)
end
end Rh
/-! THE LAW:_law_state,law. -/
namespace Rh
open PySem L2 PyProof.Rows MLab Rb
abbrev uA:Stmt:=top 145
end Rh
namespace L2
open PySem PySem.Spec PyProof.Rows
/-- xs==ys of flat items -/
def ED(K:zdw):R2:=λx y H Q=>∃a b xs,x=.ref a/\y=.ref b/\SqL K H a xs/\SqL K H b xs/\xs.all JK=true/\(∀x∈xs,yw x x=true)/\Q (.bl true) H
theorem AT{X:Cx}(hu:X.A.units < cLine):ZZ X (compareOp .Eq) (ED X.K):=by
 intro pins s σ H x y v u Q I rx ry h
 obtain⟨a,b,xs,rfl,rfl,ha,hb,fx,same,q⟩:=h
 cases rx
 cases ry
 obtain⟨its,rv,pl,_⟩:=I.list ha
 obtain⟨its2,rv2,pl2,_⟩:=I.list hb
 have l1:=rv.length
 have l2:=rv2.length
 refine EqBoolInt.of_rc (k:=true) ?_ ⟨.bl true,H,I,rfl,q⟩
 have:=SeqAt.RcAt.lists (A:=X.A) (s:=s) (e:=λ_=>true) pl.isList pl2.isList (by simp;omega) hu λj h1 h2=>by
  have j1:j < xs.length:=by simp at h1;omega
  obtain⟨w1,hw1,r1⟩:=rv.get (tW j1)
  obtain⟨w2,hw2,r2⟩:=rv2.get (tW j1)
  have g1:its.toArray[j]=w1:=by
   have:its.toArray[j]?=some w1:=by simpa using hw1
   rw[zbq h1]at this
   exact tX.inj this
  have g2:its2.toArray[j]=w2:=by
   have:its2.toArray[j]?=some w2:=by simpa using hw2
   rw[zbq h2]at this
   exact tX.inj this
  rw[g1,g2,<-same xs[j] (zaT j1)]
  exact vX r1 r2 (zak.mp fx _ (zaT j1)) (zak.mp fx _ (zaT j1))
 rwa [show (zaD its.toArray.size).all (λ_=>true)=true from zak.mpr λ_ _=>rfl]at this
end L2
namespace Rh
open PySem L2 PyProof.Rows MLab Rb
theorem wV{K:zdw}{H H':Hp}{a d:Addr}{xs:List V}{kvs:List (qG×V)}(h:SqL K H a xs)(hd:H d=some (.dK kvs))(f:Fr H d H'):SqL K H' a xs:=by
 rcases h with (h | ⟨o,h⟩) | h
 ·exact .inl (.inl (f _ _ h (λz=>by rw[z,hd]at h;cases h)))
 ·exact .inl (.inr ⟨o,f _ _ h (λz=>by rw[z,hd]at h;cases h)⟩)
 ·exact .inr h
theorem jP.frD{CG:Addr}{H H':Hp}{a d:Addr}{rs:jt}(h:jP CG H a rs)(ne:rs≠[])(hd:H d=some (.dK []))(f:Fr H d H'):jP CG H' a rs:=by
 obtain⟨dx,lo,rd,kvs,h1,h2,h3,h4⟩:=h
 refine⟨dx,lo,rd,kvs,f _ _ h1 (λe=>?_),f _ _ h2 (λe=>?_),f _ _ h3 (λe=>?_),λr hr=>let ⟨q,a,b⟩:=h4 r hr;⟨q,a,f _ _ b (λe=>?_)⟩⟩
 ·rw[e,hd]at h1;cases h1
 ·rw[e,hd]at h2;cases h2
 ·rw[e,hd]at h3
  cases h3
  cases rs with
  | nil=>exact ne rfl
  | cons r l=>
   obtain⟨q,e1,_⟩:=h4 r tK
   cases e1
 ·rw[e,hd]at b;cases b
/-- what the law is Zp of its desk -/
noncomputable def stV:List V:=[.str (MK VI),.str (Vj (Txt.join Qq hs0)),.str (wsTxt VI),.str (outT VI hs0)]
def Cw(CD CG:Addr):Sp:=λvs H Q _=>∃a dg dh G T L:Addr,vs=[.ref a]/\Ri CD CG H a dg dh G T L/\∀H' l,Same H H'->H' l=some (.lst stV)->Q (.ref l) H'
section
variable{P:Program}{w:World}{K:zdw}{mg:Str->Option Value}{base:Heap}
theorem Eg:qp ["_law_desk"] ["_law_desk"] (qj uA):=zdv
theorem Ba{f fS CD CG:Addr}{q:CC}{fs:FA}{fd fdS:zdA}(F:jw K "_law_state" "_law_state" uA f fd)(C:wB K CD)(mS:X0 K CD "say" "Desk.say" vn ["self","line"] fS fdS)(GS:qo P w K mg base (jX P w) 12 fS fdS ["self","line"] (V4 K CD CG q.cl q.c3 q.c4 fs)):
  qo P w K mg base qJ 13 f fd ["_law_desk"] (Cw CD CG):=by
 refine F.okJ Eg (λvs H Q E h=>?_) (λcdv A outer s H vs Q E hr h=>?_)
 ·obtain⟨a,dg,dh,G,T,L,rfl,_⟩:=h
  rfl
 ·obtain⟨a,dg,dh,G,T,L,rfl,d,k⟩:=h
  have r12:qO 12 _:=hr
  refine⟨_,qh (qt (jo (qd (Jr (jv 0) C.cl mS.me GS r12 mS.bi .nil Ww (qd qk qf)) (qd (Jr (jv 0) C.cl mS.me GS r12 mS.bi .nil Ww (qd qk qf)) (qd (Jr (jv 0) C.cl mS.me GS r12 mS.bi .nil Ww (qd qk qf)) (qd (Jr (jv 0) C.cl mS.me GS r12 mS.bi .nil Ww (qd qk qf)) qf)))))),?_⟩
  obtain⟨dx0,e0⟩:=d.dk.at_
  have few:(vS G).length<=1000:=by show 1<=1000;decide
  have hh:∀{X:Hp},Same H X->Zb X L VI hs0:=λs=>⟨s _ _ d.ls,by decide,by decide+kernel⟩
  refine⟨_,rfl,a,dx0,_,rfl,e0,XJ,a,dg,dh,_,_,_,rfl,d.dk,few,.inr (.inr ⟨_,_,YF (y:="show") (ws:=["g"]) (by decide+kernel),.ga .sh VQ λH1 l1 s1 _=>⟨G,_,VI,rfl,(d.keep s1.keep).gr,XS,by decide,by decide+kernel,λH2 s2=>?_⟩⟩)⟩
  have sA:=s1.trans s2
  have d2:=d.keep sA.keep
  refine⟨_,rfl,a,dx0,_,rfl,sA _ _ e0,XJ,a,dg,dh,_,_,_,rfl,d2.dk,few,.inr (.inr ⟨_,_,YF (y:="tokens") (ws:=["h"]) (by decide+kernel),.ha .tk VQ d2.tp λH3 s3=>⟨_,L,hs0,rfl,s3 _ _ d2.ls,by decide+kernel,?_⟩⟩)⟩
  replace sA:=sA.trans s3
  have d3:=d.keep sA.keep
  refine⟨_,rfl,a,dx0,_,rfl,sA _ _ e0,XJ,a,dg,dh,_,_,_,rfl,d3.dk,few,.inr (.inr ⟨_,_,YF (y:="worths") (ws:=["g"]) (by decide+kernel),.ga .ws VQ λH4 l4 s4 _=>⟨G,_,VI,rfl,(d3.keep s4.keep).gr,XS,by decide,λH5 s5=>?_⟩⟩)⟩
  replace sA:=(sA.trans s4).trans s5
  have d5:=d.keep sA.keep
  refine⟨_,rfl,a,dx0,_,rfl,sA _ _ e0,XJ,a,dg,dh,_,_,_,rfl,d5.dk,few,.inr (.inr ⟨_,_,YF (y:="outcome") (ws:=["h"]) (by decide+kernel),.ha .oc VQ d5.tp λH6 s6=>⟨G,L,VI,hs0,rfl,(d5.keep s6.keep).gr,XS,by decide,hh (sA.trans s6),λH7 s7=>⟨by show 4<=zdB;decide,λl fl=>?_⟩⟩⟩)⟩
  exact k _ l (((sA.trans s6).trans s7).trans (qm fl)) qe
/-! ### the law -/
theorem BY.keep{H H':Hp}{v:V}(h:BY K H v)(s:Qr H H'):BY K H' v:=let ⟨d,a,b,c,e⟩:=h;⟨d,DH.keep s a,zP s b,c,e⟩
theorem MX{H:Hp}{z:Str}(h:NJ z=true):BY K H (.str z):=by
 unfold NJ at h
 simp only[zaa,decide_eq_true_eq]at h
 exact⟨_,.str z h.1.1,.str z,Vb h.2,.inr ⟨z,rfl,h.1.1,by simpa using h.1.2⟩⟩
def NO:Str:="ground g a: b; b: a c; c:"
def yP:List Str:=["a:","b;","b:","a","c;","c:"]
def NM:Str:="heap h g a b c a"
def Dy:Bool:=decide (NO.length<=1000)&&Jf NO&&decide (Txt.split NO Qq=zdx "ground"::zdx "g"::yP)&&decide ((yP.map (·.length)).sum+yP.length<=1000)&&decide ((Txt.join (zdx " ") yP).length<=1000)&&decide ((Vv yP).length<=1000)
 &&(([zdx "name",zdx "rows"]:List Str).zip (zdx "g"::yP)).all λp=>(known [] [] p.1 p.2).isNone
def E5(k z:Str):Option Kn:=
 if k="name"/\(decide (zdx "g"=z) || false)=true then some .twice else if k="ground"/\decide (zdx "g"=z)=false then some .place else if k="heap"/\false=false then some .heap else none
theorem By{G:Addr}{k z:Str}:known (vS G) [] k z=E5 k z:=by
 unfold known E5 vS
 rw[K8]
 rfl
def Dm:Bool:=decide (NM.length<=1000)&&Jf NM&&decide (Txt.split NM Qq=zdx "heap"::zdx "h"::zdx "g"::hs0)&&(([zdx "name",zdx "ground",zdx "places"]:List Str).zip (zdx "h"::zdx "g"::hs0)).all λp=>(E5 p.1 p.2).isNone
def Rq(l t:Addr):List V:=[.non,.int 7,.bl true,.ref l,.ref t,.str (zdx ""),.str (zdx " "),.str (zdx "ground"),.str (zdx "ground x"),.str (zdx "heap x"),.str (zdx "show")]
theorem Av{z:Str}(h:PyData.strOk z=true):PySem.SeqAt.shaped (.list [.str z])=true:=by
 unfold PySem.SeqAt.shaped
 simp only[PyData.canLay0,PyData.canLayAll0,h,PyData.depth,PyData.depthAll]
 rfl
theorem Au{z y:Str}(h:PyData.strOk z=true)(h':PyData.strOk y=true):PySem.SeqAt.shaped (.tuple [.str z,.str y])=true:=by
 unfold PySem.SeqAt.shaped
 simp only[PyData.canLay0,PyData.canLayAll0,h,h',PyData.depth,PyData.depthAll]
 rfl
theorem An{H:Hp}{l t:Addr}(hl:H l=some (.lst [.str (zdx "show g")]))(ht:H t=some (.tup [.str (zdx "show"),.str (zdx "g")])):∀y∈Rq l t,BY K H y:=by
 intro y hy
 unfold Rq at hy
 simp only[tJ,zai,or_false]at hy
 rcases hy with rfl | rfl | rfl | rfl | rfl | rfl | rfl | rfl | rfl | rfl | rfl
 ·exact⟨_,.non,.non,rfl,.inl rfl⟩
 ·exact⟨_,.int 7,.int 7,rfl,.inl rfl⟩
 ·exact⟨_,.bl true,.bl true,rfl,.inl rfl⟩
 ·exact⟨_,.lst hl (.cons (.str _) .nil),.lst (.of hl) (.cons (.str _) .nil),Av (by decide+kernel),.inl rfl⟩
 ·exact⟨_,.tup ht (by decide) (.cons (.str _ (by decide+kernel)) (.cons (.str _ (by decide+kernel)) .nil)),.tup (.of ht) (.cons (.str _) (.cons (.str _) .nil)),Au (by decide+kernel) (by decide+kernel),.inl rfl⟩
 ·exact MX (by decide+kernel)
 ·exact MX (by decide+kernel)
 ·exact MX (by decide+kernel)
 ·exact MX (by decide+kernel)
 ·exact MX (by decide+kernel)
 ·exact MX (by decide+kernel)
theorem BN{v:V}(h:v∈stV):yw v v=true:=by
 unfold stV at h
 simp only[tJ,zai,or_false]at h
 rcases h with rfl | rfl | rfl | rfl<;>simp [yw]
def V8(K:zdw):Sp:=λvs H Q _=>∃(a:Addr) (ns:List Int),vs=[.ref a]/\SqL K H a (ns.map V.int)/\ns.length<=63/\∀H',Q (.bl true) H'
structure Ft(K:zdw)(mg:Str->Option Value)(CD f:Addr)(fd:zdA):Prop where
 mkr:Mk K CD f
 ns:mg "Desk"=some (.ref CD)
 fn:jw K "__init__" "Desk.__init__" Vf f fd
 bi:ji K fd ["self"] []
abbrev EU:List Str:=["_law_script","_law_desk","_law_before","_law_k","_law_line","_law_thing"]
theorem Wu:qp EU ["_law_script"] (qj Wb):=zdv
theorem Bd{f fS fI CD CG fN fSt fSp fSo fCe fO:Addr}{q:CC}{fs:FA}{fd fdS fdI fdN fdSt fdSp fdSo fdCe fdO:zdA}(F:jw K "law" "law" Wb f fd)(B:QB mg)(C:wB K CD)(CK:Ft K mg CD fI fdI)(mS:X0 K CD "say" "Desk.say" vn ["self","line"] fS fdS)(GS:qo P w K mg base (jX P w) 12 fS fdS ["self","line"] (V4 K CD CG q.cl q.c3 q.c4 fs))
  (hN:qZ K mg "_law_no_line" Ug ["_law_desk","_law_line"] fN fdN) (GN:qo P w K mg base qJ 14 fN fdN ["_law_desk","_law_line"] (MG K CD)) (hS:qZ K mg "_law_state" uA ["_law_desk"] fSt fdSt) (GSt:qo P w K mg base qJ 13 fSt fdSt ["_law_desk"] (Cw CD CG))
  (hSp:qZ K mg "_law_spoilt" uB ["_law_source_here"] fSp fdSp) (GSp:qo P w K mg base qJ 2 fSp fdSp ["_law_source_here"] Cy) (hSo:qZ K mg "_law_source" zz ["_law_cell"] fSo fdSo) (hCe:qZ K mg "_law_cell_at" Ul ["_law_script","_law_k"] fCe fdCe)
  (hO:qZ K mg "_law_others" Uf ["_law_desk"] fO fdO) (GO:qo P w K mg base qJ 14 fO fdO ["_law_desk"] (ME CD CG)):qo P w K mg base qJ 15 f fd ["_law_script"] (V8 K):=by
 have GSo:qo P w K mg base qJ 1 fSo fdSo ["_law_cell"] V3:=xr hSo.fn B
 have GCe:qo P w K mg base qJ 1 fCe fdCe ["_law_script","_law_k"] (ui K):=NI hCe.fn B
 have GD:qo P w K mg base qJ 1 fI fdI ["self"] (CB CD):=Df CK.fn C
 refine F.okJ Wu (λvs H Q E h=>?_) (λcdv A outer s H vs Q E hr h=>?_)
 ·obtain⟨a,ns,rfl,_⟩:=h
  rfl
 ·obtain⟨a,ns,rfl,hq,hlen,k⟩:=h
  have r1:qO 1 _:=hr.mono (by decide)
  have r2:qO 2 _:=hr.mono (by decide)
  have r12:qO 12 _:=hr.mono (by decide)
  have hr13:qO 13 _:=hr.mono (by decide)
  have r14:qO 14 _:=hr
  refine⟨_,qg (qD (i:=1) Wu.nd rfl (Or.inl rfl) (UH CK.mkr GD r2 (by rfl) CK.ns CK.bi .nil jG))
   (qg (qE (qA (u1 hr.units0) (jo (qd (Jr (jv 1) C.cl mS.me GS r12 mS.bi .nil Ww (qd qk qf)) (qd (Jr (jv 1) C.cl mS.me GS r12 mS.bi .nil Ww (qd qk qf)) qf))) (jo (qd qk (qd qk qf))) (qC _)) (qh (qt Qd)) qv)
   (qg (qD (i:=2) Wu.nd rfl (Or.inl rfl) (qT hS GSt hr13 (by rfl) (qd (jv 1) qf)))
   (qg (jC PassesOwn.never rfl (Ys (by rfl) B.rng (qd (qu (WP rfl) (by rfl) B.max boot_max (qd ql (qd (qu (wm rfl) (by rfl) B.min boot_min (qd ql (qd (qu qB (by rfl) B.len boot_len (qd (jv 0) qf)) qf))) qf))) qf)) (qx (i:=3) Wu.nd rfl (Or.inl rfl)) (qg (qD (i:=4) Wu.nd rfl (Or.inl rfl) (qT hSp GSp r2 (by rfl) (qd (qT hSo GSo r1 (by rfl) (qd (qT hCe GCe r1 (by rfl) (qd (jv 0) (qd (jv 3) qf))) qf)) qf))) (qh (qE (JW.pt (Jp (jy (jd (qT hN GN r14 (by rfl) (qd (jv 1) (qd (jv 4) qf))))) (QK (jy (jd (qT hN GN r14 (by rfl) (qd (UH CK.mkr GD r2 (by rfl) CK.ns CK.bi .nil jG) (qd (jv 4) qf)))))))) (qh (qt Qd)) qv))))
   (qg (jC PassesOwn.never rfl (qL (jo (qd KO (qd ql (qd Qd (qd (jo (qd qk qf)) (qd (q5 (qd qk (qd qk qf))) (qd qk (qd qk (qd qk (qd qk (qd qk (qd qk qf))))))))))))) (qx (i:=5) Wu.nd rfl (Or.inl rfl)) (qh (qE (jy (jd (qT hN GN r14 (by rfl) (qd (jv 1) (qd (jv 5) qf))))) (qh (qt Qd)) qv)))
   (qh (qt (QM (qT hO GO r14 (by rfl) (qd (jv 1) qf)) (QP (jE (AT hr.units0) (qT hS GSt hr13 (by rfl) (qd (jv 1) qf)) (jv 2) (qC _)))))))))),?_⟩
  intro x dx fx fdx ndx
  refine⟨x,dx,rfl,qe,λH1 dg dh dk ndh fr1=>⟨rfl,?_⟩⟩
  have sm1:Same H H1:=λb o hb=>fr1 b o (by rw[qi (qr hb fx),qi (qr hb fdx)];exact hb) (qr hb fx)
  have hq1:=sm1.seq hq
  clear fr1 fx fdx ndx
  obtain⟨dx1,e1⟩:=dk.at_
  -- the ground
  have la:Dy=true:=by decide+kernel
  unfold Dy at la
  simp only[zaa,decide_eq_true_eq]at la
  obtain⟨⟨⟨⟨⟨⟨la1,la2⟩,la3⟩,la4⟩,la5⟩,la6⟩,la7⟩:=la
  refine⟨_,rfl,x,dx1,_,rfl,e1,XJ,x,dg,dh,_,[],[],rfl,dk,by decide,.inr (.inr ⟨_,_,⟨NO,["name","rows"],rfl,la1,la2,la3,by decide+kernel,λp hp=>zbM.mp (zak.mp la7 p hp)⟩,.ground la4 la5 λH2 s2=>⟨_,rfl,.inr (.inr ⟨_,VI,rfl,la6,⟨by decide+kernel,λr hr=>?_⟩,.inr ⟨XS,by decide,λH3 G s3 gr=>⟨s3,?_⟩⟩⟩)⟩⟩)⟩
  ·exact⟨XS.nm r hr,λz hz=>by
    obtain⟨r',hr',e⟩:=tQ.mp (XS.to r hr z hz)
    rw[<-e]
    exact XS.nm r' hr'⟩
  have s13:=s2.trans s3
  have dk3:=dk.mono s13
  have hq3:=s13.seq hq1
  have fr4:Fr H3 dg (upd H3 dg (.dK (vS G))):=Fr.refl.at_d
  have y4:upd H3 dg (.dK (vS G)) dg=some (.dK (vS G)):=qe
  have ep:Qn ([]:List (qG×V)) (Sum.inr (zdx "g"):qG) (.ref G)=vS G:=rfl
  rw[ep]
  generalize upd H3 dg (.dK (vS G))=H4 at fr4 y4
  have gr4:=gr.frD (by decide) dk3.gr fr4
  have hq4:=wV hq3 dk3.gr fr4
  have dk4:ZM CD H4 x dg dh (vS G) []:=by
   obtain⟨dx3,e3⟩:=dk3.at_
   exact⟨⟨dx3,fr4 _ _ e3 (λz=>by rw[z,dk3.gr]at e3;cases e3)⟩,y4,fr4 _ _ dk3.hp (Ne.symm ndh)⟩
  clear gr fr4 y4 dk3 hq3 s13 hq1 hq
  obtain⟨dx4,e4⟩:=dk4.at_
  -- the heap
  have lb:Dm=true:=by decide+kernel
  unfold Dm at lb
  simp only[zaa,decide_eq_true_eq]at lb
  obtain⟨⟨⟨lb1,lb2⟩,lb3⟩,lb4⟩:=lb
  refine⟨_,rfl,x,dx4,_,rfl,e4,XJ,x,dg,dh,_,_,_,rfl,dk4,by show 1<=1000;decide,.inr (.inr ⟨_,_,⟨NM,["name","ground","places"],rfl,lb1,lb2,lb3,by decide+kernel,λp hp=>?_⟩,.heap λH5 l5 s5 hl5=>⟨x,dg,dh,l5,G,_,_,_,_,_,_,VI,rfl,dk4.mono s5,hl5,VQ,gr4.mono s5,by decide,.good (by decide) (by decide+kernel) λH6 T L fr6 y6 yT yL=>?_⟩⟩)⟩
  ·rw[By]
   exact zbM.mp (zak.mp lb4 p hp)
  have dk5:=dk4.mono s5
  have d6:Ri CD CG H6 x dg dh G T L:=by
   obtain⟨dx5,e5⟩:=dk5.at_
   exact⟨⟨⟨dx5,fr6 _ _ e5 (λz=>by rw[z,dk5.hp]at e5;cases e5)⟩,fr6 _ _ dk5.gr ndh,y6⟩,(gr4.mono s5).frD (by decide) dk5.hp fr6,yT,yL⟩
  have hq6:=wV (s5.seq hq4) dk5.hp fr6
  clear fr6 y6 yT yL dk5 dk4 gr4 hq4
  refine⟨by show 2<=zdB;decide,λl7 f7=>⟨by show 2<=zdB;decide,λl8 f8=>⟨l7,l8,_,_,rfl,rfl,.of (qw qe f8),.of qe,by decide+kernel,by decide+kernel,_,rfl,qH (by decide+kernel) ?_⟩⟩⟩
  have s8:=(qm (o:=HO.lst [V.str (zdx "ok"),V.str (zdx "ok")]) f7).trans (qm (o:=HO.lst [V.str (zdx "ok"),V.str (zdx "ok")]) f8)
  generalize upd (upd H6 l7 (HO.lst [V.str (zdx "ok"),V.str (zdx "ok")])) l8 (HO.lst [V.str (zdx "ok"),V.str (zdx "ok")])=H8 at s8
  have d8:=d6.keep s8.keep
  refine⟨_,rfl,x,dg,dh,G,T,L,rfl,d8,λH9 lb s9 y9=>?_⟩
  have d9:=d8.keep s9.keep
  have hq9:=(s8.trans s9).seq hq6
  clear d8 d6 s8 hq6 f7 f8
  refine⟨_,rfl,a,_,rfl,.inl hq9,_,_,rfl,_,_,rfl,?_⟩
  generalize hj:(if (if ((ns.map V.int).length:Int) < (30:Int) then ((ns.map V.int).length:Int) else (30:Int)) > 1 then (if ((ns.map V.int).length:Int) < (30:Int) then ((ns.map V.int).length:Int) else (30:Int)) else 1)=jj
  have jb:-(2^62)<=jj/\jj < 2^62:=by
   rw[<-hj]
   split<;>split<;>omega
  refine⟨jj,rfl,jb.1,jb.2,?_⟩
  refine x6 (λi σ X=>∃v3 v4,σ=[some (.ref a),some (.ref x),some (.ref lb),v3,v4,none]/\Qr H9 X) ⟨_,_,rfl,Qr.refl _⟩ ?_ ?_
  ·rintro i σ X hi ⟨v3,v4,rfl,kX⟩
   have dX:=d9.keep kX
   refine⟨_,rfl,_,rfl,a,ns,_,rfl,hq9.keep kX,by omega,λc=>⟨c,rfl,λd n sd hd=>⟨d,n,sd,0,rfl,qe,λX1 z frz ok=>?_⟩⟩⟩
   have sX:Same X X1:=λb o hb=>frz b o (qw hb hd) (qr hb hd)
   have dX1:=dX.keep sX.keep
   refine⟨_,rfl,_,rfl,x,dg,dh,_,_,_,rfl,dX1.dk,by show 1<=1000;decide,MX ok,λX2 k2=>⟨_,rfl,jh ?_⟩⟩
   intro x3 dx3 fx3 fdx3 n3
   refine⟨x3,dx3,rfl,qe,λX4 dg4 dh4 dk4 _ fr4=>⟨rfl,?_⟩⟩
   have sm4:Same X2 X4:=λb o hb=>fr4 b o (by rw[qi (qr hb fx3),qi (qr hb fdx3)];exact hb) (qr hb fx3)
   exact⟨_,rfl,x3,dg4,dh4,_,_,_,rfl,dk4,by decide,MX ok,λX5 k5=>⟨_,rfl,jh ⟨_,_,rfl,((kX.trans sX.keep).trans (k2.trans sm4.keep)).trans k5⟩⟩⟩
  ·rintro σ X ⟨v3,v4,rfl,kX⟩
   have dX:=d9.keep kX
   refine⟨by show 1<=zdB;decide,λl1 f1=>⟨by show 2<=zdB;decide,λt1 f2=>⟨by show 11<=zdB;decide,λll fl=>?_⟩⟩⟩
   have s1:=qm (o:=HO.lst [V.str (zdx "show g")]) f1
   have y1:upd X l1 (HO.lst [V.str (zdx "show g")]) l1=some (HO.lst [V.str (zdx "show g")]):=qe
   generalize upd X l1 (HO.lst [V.str (zdx "show g")])=X1 at s1 y1 f2 fl
   have s2:=qm (o:=HO.tup [V.str (zdx "show"),V.str (zdx "g")]) f2
   have y2:upd X1 t1 (HO.tup [V.str (zdx "show"),V.str (zdx "g")]) t1=some (HO.tup [V.str (zdx "show"),V.str (zdx "g")]):=qe
   generalize upd X1 t1 (HO.tup [V.str (zdx "show"),V.str (zdx "g")])=X2 at s2 y2 fl
   have s3:=qm (o:=HO.lst (Rq l1 t1)) fl
   have y3:upd X2 ll (HO.lst (Rq l1 t1)) ll=some (HO.lst (Rq l1 t1)):=qe
   show zZ (zM K (tC (.ref ll))) _ _ _ _ (upd X2 ll (HO.lst (Rq l1 t1)))
   generalize upd X2 ll (HO.lst (Rq l1 t1))=X3 at s3 y3
   have no:∀y∈Rq l1 t1,BY K X3 y:=An (s3 _ _ (s2 _ _ y1)) (s3 _ _ y2)
   have kX3:=kX.trans ((s1.trans s2).trans s3).keep
   refine⟨ll,rfl,⟨_,.of y3⟩,?_⟩
   refine jk (K:=K) (a:=ll) (xs:=Rq l1 t1) (λi σ' Y=>(∃v5,σ'=[some (.ref a),some (.ref x),some (.ref lb),v3,v4,v5])/\Qr X3 Y) ⟨⟨_,rfl⟩,Qr.refl _⟩ (λi σ' Y _ ⟨_,kY⟩=>.of (kY _ _ y3 (λ_ z=>nomatch z))) ?_ ?_
   ·rintro i y σ' Y hy ⟨⟨v5,rfl⟩,kY⟩
    have dY:=d9.keep (kX3.trans kY)
    exact⟨_,rfl,_,rfl,x,dg,dh,_,_,_,rfl,dY.dk,by show 1<=1000;decide,(no y (tV hy)).keep kY,λY2 k2=>⟨_,rfl,jh ⟨⟨_,rfl⟩,kY.trans k2⟩⟩⟩
   ·rintro σ' Y ⟨⟨v5,rfl⟩,kY⟩
    have kY9:=kX3.trans kY
    refine⟨_,rfl,x,dg,dh,G,T,L,rfl,d9.keep kY9,λY2 k2=>⟨_,rfl,Qj ?_⟩⟩
    have k92:=kY9.trans k2
    refine⟨_,rfl,x,dg,dh,G,T,L,rfl,d9.keep k92,λY3 l3 s3' y3'=>?_⟩
    exact⟨_,rfl,l3,lb,_,rfl,rfl,.of y3',.of (s3' _ _ (k92 _ _ y9 (λ_ z=>nomatch z))),rfl,λv hv=>BN hv,k _⟩
end
end Rh
/-! WHAT LIES IN THE FRAGMENT. -/
namespace Rh
open PySem L2 PyProof.Rows MLab Rb
/-! ### what lies in the fragment:dicts,tuples -/
def U2(w:World):List DictEntry->List (Str×Addr)->Prop
 | [],[]=>True
 | e::es,x::zs=>e.hash=hashStr w x.1/\(∃k,e.key=.str x.1 k)/\e.val=.ref x.2/\U2 w es zs
 | _,_=>False
section
variable{P:Program}{w:World}{K:zdw}{mg:Str->Option Value}{base:Heap}
abbrev Bx(zs:List (Str×Addr)):List (qG×V):=zs.map λx=>((Sum.inr x.1:qG),V.ref x.2)
abbrev E4(zs:List (Str×Addr)):List (qG×Value):=zs.map λx=>((Sum.inr x.1:qG),Value.ref x.2)
theorem U2.keys:∀{es:List DictEntry} {zs:List (Str×Addr)},U2 w es zs->∀e∈es,∃k:qG,(jq P w).is k e.key=true/\e.hash=(jq P w).hash k
 | e::es,x::zs,⟨h1,⟨k,h2⟩,_,h4⟩,e',he=>by
  rcases tJ.mp he with rfl | he
  ·exact⟨Sum.inr x.1,by rw[h2];exact Yq x.1 k,h1⟩
  ·exact U2.keys h4 e' he
theorem U2.pairs:∀{es:List DictEntry} {zs:List (Str×Addr)},U2 w es zs->Pairs (jq P w) es (E4 zs)
 | [],[],_=>.nil
 | e::es,x::zs,⟨h1,⟨k,h2⟩,h3,h4⟩=>.cons (by rw[h2];exact Yq x.1 k) h3 (U2.pairs h4)
theorem MZ:∀zs:List (Str×Addr),KV (Bx zs) (E4 zs)
 | []=>.nil
 | x::zs=>.cons ⟨rfl,rfl⟩ (MZ zs)
theorem KE{a:Addr}{ep:Nat}{es:List DictEntry}{zs:List (Str×Addr)}(hs:(a==sysModules)=false)(l:K.lookup a=some ⟨.type "dict",none,.dict ⟨es⟩ ep,#[]⟩)(e:U2 w es zs)(nd:(zs.map (·.1)).Nodup):KD K P w a (Bx zs):=by
 refine⟨hs,_,E4 zs,l,⟨⟨es⟩,ep,⟨rfl,rfl,rfl⟩,rfl,λe' he=>e.keys e' (by simpa using he),e.pairs,?_⟩,MZ zs⟩
 rw[zaM,show ((·.1) ∘ λx:Str×Addr=>((Sum.inr x.1:qG),Value.ref x.2))=(Sum.inr:Str->qG) ∘ (·.1) from rfl,<-zaM]
 exact WA nd λa _ b _ e=>Sum.inr.inj e
theorem Z6{z:Str}:∀{zs:List (Str×Addr)},jc (Bx zs) (Sum.inr z:qG)=(zs.lookup z).map V.ref
 | []=>rfl
 | x::zs=>by
  have ih:=Z6 (z:=z) (zs:=zs)
  unfold jc at ih ⊢
  show Option.map (·.2) (List.find? (λkv=>decide (kv.1=(Sum.inr z:qG))) (((Sum.inr x.1:qG),V.ref x.2)::Bx zs))=_
  rw[zaY,zad]
  by_cases c:x.1=z
  ·rw[show (z==x.1)=true from beq_iff_eq.mpr c.symm]
   simp [c]
  ·rw[show (z==x.1)=false from beq_eq_false_iff_ne.mpr λe=>c e.symm]
   have:¬((Sum.inr x.1:qG)=Sum.inr z):=λe=>c (Sum.inr.inj e)
   simp only[decide_eq_false this]
   exact ih
def V0:List Value->List Str->Bool
 | [],[]=>true
 | .str x _::vs,k::ks=>decide (x=k)&&V0 vs ks
 | _,_=>false
theorem kB:∀{vs:List Value} {ks:List Str},V0 vs ks=true->qR (ks.map V.str) vs
 | [],[],_=>.nil
 | .str x t::vs,k::ks,h=>by
  unfold V0 at h
  rw[zaa,decide_eq_true_eq]at h
  obtain⟨rfl,h⟩:=h
  exact .cons ⟨t,rfl⟩ (kB h)
/-- a tuple of texts -/
def TpK(K:zdw)(t:Addr)(ks:List Str):Prop:=∃(o:Obj) (its:Array Value) (n:Nat),K.lookup t=some o/\o.cls=.type "tuple"/\o.data=.seq its n/\V0 its.toList ks=true
theorem TpK.mk'{t:Addr}{ks:List Str}{od:Option Addr}{its:List Value}{n:Nat}{osl:Array (Option Value)}(l:K.lookup t=some ⟨.type "tuple",od,.seq ⟨its⟩ n,osl⟩)(b:V0 its ks=true):TpK K t ks:=⟨_,⟨its⟩,n,l,rfl,rfl,b⟩
theorem TpK.sq{t:Addr}{ks:List Str}(h:TpK K t ks)(n:ks.length<=100)(H:Hp):SqT K H t (ks.map V.str):=by
 obtain⟨o,its,m,l,c,d,b⟩:=h
 have v:=kB b
 refine .inr ⟨o,its,m,l,c,d,?_,v⟩
 have e:=v.length
 rw[tj]at e
 have:its.size=its.toList.length:=by simp
 rw[this,<-e]
 exact tM n (by decide)
theorem ZA{α β:Type}{z:Str}{f:α->β}:∀{zs:List (Str×α)},(zs.map λx=>(x.1,f x.2)).lookup z=(zs.lookup z).map f
 | []=>rfl
 | x::zs=>by
  rw[tL,zad,zad]
  cases z==x.1 with
  | true=>rfl
  | false=>exact ZA
theorem UF{α:Type}{z:Str}:∀{zs:List (Str×α)} {v:α},zs.lookup z=some v->(z,v)∈zs
 | x::zs,v,h=>by
  rw[zad]at h
  by_cases c:(z==x.1)=true
  ·rw[c]at h
   cases h
   rw[eq_of_beq c]
   exact .head _
  ·rw[zbZ.mpr c]at h
   exact .tail _ (UF h)
theorem DA{a:Addr}{fz:List (Str×(List Str×Addr))}(hm:mg "FORMS"=some (.ref a))(ef:(fz.map λx=>(x.1,x.2.1))=Jh)(kd:KD K P w a (Bx (fz.map λx=>(x.1,x.2.2))))(tp:∀x∈fz,TpK K x.2.2 x.2.1):DQ P w K mg:=by
 refine⟨a,_,hm,kd,λz hz=>?_,λz ks hz=>?_⟩
 ·rw[<-ef,ZA (f:=λy:List Str×Addr=>y.1)]at hz
  rw[Z6,ZA (f:=λy:List Str×Addr=>y.2)]
  cases e:fz.lookup z with
  | none=>rfl
  | some y=>rw[e]at hz;cases hz
 ·have hz':=hz
  rw[<-ef,ZA (f:=λy:List Str×Addr=>y.1)]at hz
  rw[Z6,ZA (f:=λy:List Str×Addr=>y.2)]
  cases e:fz.lookup z with
  | none=>rw[e]at hz;cases hz
  | some y=>
   rw[e]at hz
   cases hz
   exact⟨y.2,rfl,(tp _ (UF e)).sq (tM (WM hz').2 (by decide))⟩
theorem Ym{z:Str}:∀{zs:List (Str×Addr)},z∉zs.map (·.1)->zs.lookup z=none
 | [],_=>rfl
 | x::zs,h=>by
  rw[zad]
  have c:(z==x.1)=false:=beq_eq_false_iff_ne.mpr λe=>h (by rw[e];exact .head _)
  rw[c]
  exact Ym λm=>h (.tail _ m)
theorem Dz{a r:Addr}{fs:FA}(hm:mg "GROUND_ANSWERS"=some (.ref a))(kd:KD K P w a (Bx [("show",fs.sh),("worths",fs.ws),("worth",fs.wo),("single",fs.si),("alike",fs.al),("part",fs.pt),("ring",r)])):D4 P w K mg fs:=by
 refine⟨a,_,hm,kd,λz hz=>?_,λCG CP y f sp h=>?_⟩
 ·rw[Z6,Ym hz];rfl
 ·rw[Z6]
  cases h<;>rfl
theorem Dx{a r t:Addr}{fs:FA}(hm:mg "HEAP_ANSWERS"=some (.ref a))(kd:KD K P w a (Bx [("tokens",fs.tk),("outcome",fs.oc),("moves",r),("most",t)])):D3 P w K mg fs:=by
 refine⟨a,_,hm,kd,λz hz=>?_,λCG y f sp h=>?_⟩
 ·rw[Z6,Ym hz];rfl
 ·rw[Z6]
  cases h<;>rfl
end
end Rh
/-! ALL TOGETHER. -/
namespace Rh
open PySem L2 PyProof.Rows MLab Rb
end Rh
namespace L2
open PySem
theorem Q0.up{P:Program}{w:World}{K:zdw}{mg:Str->Option Value}{base:Heap}{CX:zp}{k j:Nat}{f:Addr}{fd:zdA}{ps:List Str}{sp:Sp}(a:Q0 P w K mg base CX k f fd ps sp)(h:k<=j):Q0 P w K mg base CX j f fd ps sp:=
 ⟨a.len,λA outer s H args us vs Q E ht hr he hb hv hs=>a.run A outer s H args us vs Q E ht (hr.mono h) he hb hv hs⟩
theorem Q0.cx{P:Program}{w:World}{K:zdw}{mg:Str->Option Value}{base:Heap}{CX:zp}{k:Nat}{f:Addr}{fd:zdA}{ps:List Str}{sp:Sp}(F:Q0 P w K mg base qJ k f fd ps sp):Q0 P w K mg base CX k f fd ps sp:=
 ⟨F.len,λA outer s H args us vs Q E ht hr he hb hv hs=>codeAny_mono (F.run A outer s H args us vs Q E ht hr he hb hv hs) λr s' q=>by
  match r,q with
  | .ok (.ret u),q=>exact q
  | .ok .next,q=>exact q
  | .ok .brk,q=>exact q
  | .ok .cont,q=>exact q⟩
end L2
namespace Rh
open PySem L2 PyProof.Rows MLab Rb
abbrev pA:List Str:=["ground","places"]
abbrev pH:List Str:=["ground","heap"]
structure DP(K:zdw)(mg:Str->Option Value):Prop where
 shr:∃f fd,qZ K mg "show_row" Zu ["row"] f fd
 shg:∃f fd,qZ K mg "show_ground" Uc ["ground"] f fd
 lnt:∃f fd,Al K mg "is_line_groundtext" "is_line" ZT ["line"] f fd
 rof:∃f fd,qZ K mg "row_of" Xq ["line"] f fd
 rd:∃f fd,qZ K mg "read_ground" Ud ["text"] f fd
 wof:∃f fd,qZ K mg "worth_of" vm ["ground","name"] f fd
 alk:∃f fd,qZ K mg "alike" Yg wA f fd
 prt:∃f fd,qZ K mg "parting" Zv wA f fd
 mf:∃f fd,qZ K mg "many_fit" Zw ["form","many"] f fd
 wdf:∃f fd,qZ K mg "word_fits" Jy ["kind","word"] f fd
 lnd:∃f fd,Al K mg "is_line_desk" "is_line" Jz ["words"] f fd
 wo:∃f fd,qZ K mg "words_of" Zr ["line"] f fd
 kn:∃f fd,qZ K mg "need_known" Xt ["desk","words"] f fd
 da:∃f fd,qZ K mg "or_dash" Uk ["text"] f fd
 gm:∃f fd,qZ K mg "ground_made" Xx ["desk","words"] f fd
 nr:∃f fd,qZ K mg "need_rows" YD ["rows"] f fd
structure Ag(K:zdw)(mg:Str->Option Value)(fs:FA):Prop where
 sh:∃fd,qZ K mg "show_answer" RU pA fs.sh fd
 ws:∃fd,qZ K mg "worths_answer" RP pA fs.ws fd
 wo:∃fd,qZ K mg "worth_answer" RQ pA fs.wo fd
 si:∃fd,qZ K mg "single_answer" RT pA fs.si fd
 al:∃fd,qZ K mg "alike_answer" RX pA fs.al fd
 pt:∃fd,qZ K mg "part_answer" RV pA fs.pt fd
 tk:∃fd,qZ K mg "tokens_answer" kS pH fs.tk fd
 oc:∃fd,qZ K mg "outcome_answer" kU pH fs.oc fd
structure DO(K:zdw)(mg:Str->Option Value):Prop where
 ce:∃f fd,qZ K mg "_law_cell_at" Ul ["_law_script","_law_k"] f fd
 so:∃f fd,qZ K mg "_law_source" zz ["_law_cell"] f fd
 ta:∃f fd,qZ K mg "_law_take" Ub ["_law_source_here","_law_many"] f fd
 er:∃f fd,qZ K mg "_law_error" Wv ["_law_desk","_law_line"] f fd
 nl:∃f fd,qZ K mg "_law_no_line" Ug ["_law_desk","_law_line"] f fd
 sp:∃f fd,qZ K mg "_law_spoilt" uB ["_law_source_here"] f fd
 st:∃f fd,qZ K mg "_law_state" uA ["_law_desk"] f fd
 iS:∃f fd,qZ K mg "_law_is" uC Dc f fd
 oth:∃f fd,qZ K mg "_law_others" Uf ["_law_desk"] f fd
structure DkM(K:zdw)(CD:Addr):Prop where
 say:∃f fd,X0 K CD "say" "Desk.say" vn ["self","line"] f fd
 mkh:∃f fd,X0 K CD "make_heap" "Desk.make_heap" zC ["self","words"] f fd
section
variable{P:Program}{w:World}{K:zdw}{mg:Str->Option Value}{base:Heap}
theorem Bg{f CD CG fI fRw flh fll:Addr}{q:CC}{fs:FA}{fd fdI fdRw fdlh fdll:zdA}(F:jw K "law" "law" Wb f fd)(h:WF K mg)(t:Ad K mg h)(B:QB mg)(Zk:Wk K mg)(G:Qm mg)(T:j9 K mg)(N:kc K mg)(M:GM K mg CG)(Y:wz K mg)(O:Mm K mg)
  (hRw:X0 K CG "rows" "Ground.rows" Xw ["self"] fRw fdRw) (X4:Mn K mg q.D q.c4) (xh:zo K mg q.D "NoHeap" "NoHeap.__init__" ZR "found" q.ch flh fdlh) (xl:zo K mg q.D "NoLine" "NoLine.__init__" zB "found" q.cl fll fdll) (Z:wy K mg q) (k4:K4 K q)
  (C:wB K CD) (CK:Ft K mg CD fI fdI) (DM:DkM K CD) (D:DP K mg) (A:Ag K mg fs) (L:DO K mg) (hz:mg "zip"=none) (hF:DQ P w K mg) (hT:Fd K mg) (hGa:D4 P w K mg fs) (hHa:D3 P w K mg fs):qo P w K mg base qJ 15 f fd ["_law_script"] (V8 K):=by
 obtain⟨fm,fdm,xm⟩:=X4.m
 obtain⟨ft,fdt,xt⟩:=X4.t
 obtain⟨fp,fdp,xp⟩:=X4.p
 obtain⟨fx,fdx,xx⟩:=X4.x
 obtain⟨fC,fdC,cl⟩:=M.cls
 obtain⟨_,_,hshr⟩:=D.shr
 obtain⟨_,_,hshg⟩:=D.shg
 obtain⟨_,_,hlnt⟩:=D.lnt
 obtain⟨_,_,hrof⟩:=D.rof
 obtain⟨_,_,hrd⟩:=D.rd
 obtain⟨_,_,hwof⟩:=D.wof
 obtain⟨_,_,halk⟩:=D.alk
 obtain⟨_,_,hprt⟩:=D.prt
 obtain⟨_,_,hmf⟩:=D.mf
 obtain⟨_,_,hwdf⟩:=D.wdf
 obtain⟨_,_,hlnd⟩:=D.lnd
 obtain⟨_,_,hwo⟩:=D.wo
 obtain⟨_,_,hkn⟩:=D.kn
 obtain⟨_,_,hda⟩:=D.da
 obtain⟨_,_,hgm⟩:=D.gm
 obtain⟨_,_,hnr⟩:=D.nr
 obtain⟨_,_,hnm⟩:=N.nm
 obtain⟨_,_,hpl⟩:=O.place
 obtain⟨_,_,hhp⟩:=O.heap
 obtain⟨_,_,hlw⟩:=O.lw
 obtain⟨_,_,hou⟩:=O.outc
 obtain⟨_,msh⟩:=A.sh
 obtain⟨_,mws⟩:=A.ws
 obtain⟨_,mwo⟩:=A.wo
 obtain⟨_,msi⟩:=A.si
 obtain⟨_,mal⟩:=A.al
 obtain⟨_,mpt⟩:=A.pt
 obtain⟨_,mtk⟩:=A.tk
 obtain⟨_,moc⟩:=A.oc
 obtain⟨_,_,lce⟩:=L.ce
 obtain⟨_,_,lso⟩:=L.so
 obtain⟨_,_,lta⟩:=L.ta
 obtain⟨_,_,ler⟩:=L.er
 obtain⟨_,_,lnl⟩:=L.nl
 obtain⟨_,_,lsp⟩:=L.sp
 obtain⟨_,_,lst⟩:=L.st
 obtain⟨_,_,lis⟩:=L.iS
 obtain⟨_,_,lot⟩:=L.oth
 obtain⟨_,_,mS⟩:=DM.say
 obtain⟨_,_,mM⟩:=DM.mkh
 have mt:=O.most
 have GPl:=Kb (P:=P) (w:=w) (base:=base) hpl.fn G M xp
 have GAl:=Bh (P:=P) (w:=w) (base:=base) halk.fn hpl GPl
 have GPr:=Kc (P:=P) (w:=w) (base:=base) hprt.fn halk GAl
 have GWo:=AY (P:=P) (w:=w) (base:=base) hwof.fn h B Zk G T M Y hpl hlw
 have GWx:=Nk (P:=P) (w:=w) (base:=base) hwof.fn hpl GPl
 have GRd:=Nr (P:=P) (w:=w) (base:=base) hrd.fn B G T N ⟨_,_,cl⟩ hnr hnm hlnt hrof X4
 have GSg:=A3 (P:=P) (w:=w) (base:=base) hshg.fn cl G hRw hshr
 have GOu:=Nu (P:=P) (w:=w) (base:=base) hou.fn h B Zk G T M Y O
 have GWf:=Ut (P:=P) (w:=w) (base:=base) hwdf.fn B T hnm hT
 have GLd:=vG (P:=P) (w:=w) (base:=base) hlnd.fn B T hz hF hmf hwdf GWf
 have GWd:=vD (P:=P) (w:=w) (base:=base) hwo.fn B T hlnd GLd xl
 have X3:Fq K mg q.D q.c3:=⟨⟨_,_,xt⟩,⟨_,_,xp⟩,⟨_,_,xh⟩⟩
 have GKn:=Kh (P:=P) (w:=w) (base:=base) hkn.fn hz hF C X3
 have GNh:=A8 (P:=P) (w:=w) (base:=base) hhp.fn B G T M hpl mt xp xm xh
 have GMk:=A9 (P:=P) (w:=w) (base:=base) mM.fn C hhp GNh
 have GGm:=Be (P:=P) (w:=w) (base:=base) hgm.fn hrd GRd
 have GS:qo P w K mg base (jX P w) 12 _ _ ["self","line"] (V4 K CD CG q.cl q.c3 q.c4 fs):=A5 mS.fn C hwo GWd hkn GKn hGa hHa mM GMk hgm GGm
  (λy f sp hy=>by
   cases hy with
   | sh=>exact⟨_,pA,((A4 msh.fn hshg GSg).up (by decide)).cx,msh.fn.kp,msh.bi⟩
   | ws=>exact⟨_,pA,(((AX mws.fn h t B G M hwof GWo).up (by decide)).cx).toT,mws.fn.kp,mws.bi⟩
   | wo=>exact⟨_,pA,((AZ mwo.fn h t B hwof GWx).up (by decide)).toT,mwo.fn.kp,mwo.bi⟩
   | si=>exact⟨_,pA,((A1 msi.fn hpl GPl).up (by decide)).toT,msi.fn.kp,msi.bi⟩
   | al=>exact⟨_,pA,((Bj mal.fn halk GAl).up (by decide)).toT,mal.fn.kp,mal.bi⟩
   | pt=>exact⟨_,pA,((A6 mpt.fn hprt GPr).up (by decide)).toT,mpt.fn.kp,mpt.bi⟩)
  (λy f sp hy=>by
   cases hy with
   | tk=>exact⟨_,pH,(((No mtk.fn hda).up (by decide)).cx).toT,mtk.fn.kp,mtk.bi⟩
   | oc=>exact⟨_,pH,((Nv moc.fn hou GOu).cx).toT,moc.fn.kp,moc.bi⟩)
 have X:XN mg q:=⟨xl.ns,xh.ns,xp.ns,xx.ns,xm.ns,xt.ns⟩
 have GE:=NA (P:=P) (w:=w) (base:=base) ler.fn C mS GS Z
 have GN:=Nz (P:=P) (w:=w) (base:=base) lnl.fn T Zk X Z xl.xc ler GE
 have GSt:=Ba (P:=P) (w:=w) (base:=base) lst.fn C mS GS
 have GSp:=Bb (P:=P) (w:=w) (base:=base) lsp.fn B lta
 have GO:=Ny (P:=P) (w:=w) (base:=base) lot.fn B T X Z k4 xx.xc ler GE lis
 exact Bd F B C CK mS GS lnl GN lst GSt lsp GSp lso lce lot GO
end
open PySem L2 PyProof.Rows MLab
theorem kss{K:zdw}:tU K (.type "str") (.type "str")=some true:=by kernel_rfl
theorem ktt{K:zdw}:tU K (.type "tuple") (.type "tuple")=some true:=by kernel_rfl
theorem kll{K:zdw}:tU K (.type "list") (.type "list")=some true:=by kernel_rfl
theorem kii{K:zdw}:tU K (.type "int") (.type "int")=some true:=by kernel_rfl
theorem kib{K:zdw}:tU K (.type "int") (.type "bool")=some false:=by kernel_rfl
section
variable{K:zdw}
/-- a def as the head tells it -/
def MF(K:zdw)(n q:Str)(s:Stmt)(f:Addr):Prop:=∃fd,jw K n q s f fd
theorem MF.mk'{x qual:Str}{st:Stmt}{f:Addr}{oc:Value}{od an:Option Addr}{osl:Array (Option Value)}{kV doc pm cdv ct:Value}(l:K.lookup f=some ⟨oc,od,.func (zaV x qual (QN st) (jV st) (qj st) .none kV doc pm an cdv ct),osl⟩)(c:zbn K cdv qual=true)(k:zal K (.ref f)=true):MF K x qual st f:=⟨_,Yw l c k⟩
def HF(K:zdw)(n:Str)(s:Stmt)(f:Addr):Prop:=zab K mainGlobals n=some (some (.ref f))/\MF K n n s f
theorem HF.mk'{x:Str}{st:Stmt}{f:Addr}{oc:Value}{od an:Option Addr}{osl:Array (Option Value)}{kV doc pm cdv ct:Value}(a:zab K mainGlobals x=some (some (.ref f)))(l:K.lookup f=some ⟨oc,od,.func (zaV x x (QN st) (jV st) (qj st) .none kV doc pm an cdv ct),osl⟩)(c:zbn K cdv x=true)(k:zal K (.ref f)=true):HF K x st f:=⟨a,_,Yw l c k⟩
theorem HF.has{h:Heap}{mg:Str->Option Value}{n:Str}{s:Stmt}{f:Addr}{ps:List Str}(l:HF K n s f)(X:K.In h)(G:h.Ns mainGlobals mg)(b:∀{fd},jw K n n s f fd->ji K fd ps []:=by exact λF=>F.binds λ_ _ _ _ _ _ us hl=>by first | (obtain⟨_,rfl⟩:=xI hl;rfl) | (obtain⟨_,_,rfl⟩:=zj hl;rfl) | (obtain⟨_,_,_,rfl⟩:=Bw hl;rfl) | (obtain⟨_,_,_,_,rfl⟩:=Do hl;rfl) | (obtain⟨_,_,_,_,_,rfl⟩:=len5 hl;rfl)):∃fd,qZ K mg n s ps f fd:=let ⟨a,fd,F⟩:=l;⟨fd,F,zas X G a,b F⟩
def QF(K:zdw)(C:Addr)(n q:Str)(s:Stmt)(f:Addr):Prop:=(t8 K (.ref C) n=some (some (.ref f))/\zbc K (.ref f)=true)/\MF K n q s f
theorem QF.mk'{C:Addr}{x qual:Str}{st:Stmt}{f:Addr}{oc:Value}{od an:Option Addr}{osl:Array (Option Value)}{kV doc pm cdv ct:Value}(a:t8 K (.ref C) x=some (some (.ref f)))(b:zbc K (.ref f)=true)(l:K.lookup f=some ⟨oc,od,.func (zaV x qual (QN st) (jV st) (qj st) .none kV doc pm an cdv ct),osl⟩)(c:zbn K cdv qual=true)(k:zal K (.ref f)=true):QF K C x qual st f:=⟨⟨a,b⟩,_,Yw l c k⟩
theorem QF.has{C:Addr}{n q:Str}{s:Stmt}{f:Addr}{ps:List Str}(l:QF K C n q s f)(b:∀{fd},jw K n q s f fd->ji K fd ps []:=by exact λF=>F.binds λ_ _ _ _ _ _ us hl=>by first | (obtain⟨_,rfl⟩:=xI hl;rfl) | (obtain⟨_,_,rfl⟩:=zj hl;rfl) | (obtain⟨_,_,_,rfl⟩:=Bw hl;rfl) | (obtain⟨_,_,_,_,rfl⟩:=Do hl;rfl) | (obtain⟨_,_,_,_,_,rfl⟩:=len5 hl;rfl)):∃fd,X0 K C n q s ps f fd:=let ⟨⟨a,c⟩,fd,F⟩:=l;⟨fd,F,⟨a,c,F.kp⟩,b F⟩
end
def Cs(es:Array DictEntry):Bool:=es.all λe=>match e.key with | .str _ _=>true | _=>false
theorem Rw{es:Array DictEntry}(h:Cs es=true):StrKeys es:=by
 intro e he
 have q:=Array.all_eq_true'.mp h e he
 revert q
 cases hk:e.key<;>intro q<;>first | exact⟨_,_,rfl⟩ | (dsimp only at q;cases q)
section
variable{K:zdw}{mg:Str->Option Value}{D C f:Addr}{x qual fld:Str}{st:Stmt}
def XF(K:zdw)(D:Addr)(x qual fld:Str)(st:Stmt)(C f:Addr):Prop:=∀{h:Heap} {mg:Str->Option Value},K.In h->h.Ns mainGlobals mg->(∀h:Heap,K.In h->OwnTail h jz (.ref D::jz))->(∀{fd},jw K "__init__" qual st f fd->ji K fd ["self",fld] [])->∃fd,zo K mg D x qual st fld C f fd
theorem XF.mk'{nm q:Str}{N:Addr}{bs:List Value}{hdct:Bool}{sn:List Str}{sub:List Value}{ab:Bool}{col:Option Bool}{dd:Option Addr}{k0 k1 k2 k3 k5:Option Value}{oc:Value}{od an:Option Addr}{osl:Array (Option Value)}{kV doc pm cdv ct:Value}
  (a1:zab K mainGlobals x=some (some (.ref C)))
  (a2:K.lookup C=some (excClassObj nm q C N bs (.ref D::jz) hdct sn sub ab col dd k0 k1 k2 k3 k5 "ValueError.__new__"))
  (a3:t8 K (.ref C) "__init__"=some (some (.ref f))) (a4:zbc K (.ref f)=true) (l:K.lookup f=some ⟨oc,od,.func (zaV "__init__" qual (QN st) (jV st) (qj st) .none kV doc pm an cdv ct),osl⟩) (c:zbn K cdv qual=true) (k:zal K (.ref f)=true) (a5:zal K (.ref C)=true)
  (a6:t8 K (.ref C) "__getattribute__"=some (some (.builtin "BaseException.__getattribute__"))) (a7:t8 K (.ref C) "__getattr__"=some none)
  (a8:t8 K (.ref C) "__setattr__"=some (some (.builtin "object.__setattr__"))) (a9:zaU K C=true)
  (a10:zbP K C (.type "BaseException")=some true) (a11:zbP K C (.type "object")=some true)
  (a12:t8 K (.ref C) "__class__"=some (some (.builtin "object.__class__"))) (a13:t8 K (.ref C) fld=some none):XF K D x qual fld st C f:=λX G tl b=>
 ⟨_,⟨a6,a7,a8,a9,⟨_,by unfold PySem.W.clsIn;rw[a2],rfl⟩,a10,a11,a12⟩,⟨⟨nm,q,N,bs,hdct,sn,sub,ab,col,dd,k0,k1,k2,k3,k5,a2⟩,tl,a3,a4,a5⟩,zas X G a1,a13,Yw l c k,b (Yw l c k)⟩
end
theorem all_mk{l:PySem.W.OpenLaw}{w:World}{K:zdw}{h:Heap}{mg:Str->Option Value}{fa:Addr}(X:K.In h)(G:h.Ns mainGlobals mg)(hfa:mg "law"=some (.ref fa))
  {fO fL fT fA1 fA2 fA3 fA4 fA5 fA6 fA7 fA8 fB1 fB2 fB3 fB4 fB5 fB6 fB7 fB8 fW1 fW2 fW3 fW4 fW5 fW6 fP1 fP2 fP3 fP4 fP5 fP6 fE1 fE2 fE4 fE5 fJ5 fQ5 fQ6 fD1 fD2 fD3 fD4 fD5 fD6 fR1 fR2 fR3 fR4 fR5 fR6 fR7 fR8 fF1 fF2 fF3 fF4 fF5 fF6 fCGi fCGM fCGF fCGR fCNi fCNT fCNO fCNP fCNE fCNS fCEi fCET fCEO fCEP fCEE fCES CNoGround fNoGround CNoPlace fNoPlace CTwice fTwice CTooMany fTooMany CNoText fNoText CNoHeap fNoHeap CNoLine fNoLine:Addr}
  {fLAW:Addr} {odLAW anLAW:Option Addr} {slLAW:Array (Option Value)} {ocLAW kVLAW dcLAW pmLAW cdLAW ctLAW:Value}
  {CG:Addr}
  {CN:Addr}
  {CE:Addr}
  {tm1:Tok}
  {tm2:Tok}
  {tm3:Tok}
  {tm4:Tok}
  {tm5:Tok}
  {tm6:Tok}
  {tm7:Tok}
  {D:Addr} {nmHE qHE:Str} {NHE:Addr} {bsHE subHE:List Value} {hdctHE abHE:Bool} {snHE:List Str} {colHE:Option Bool} {ddHE:Option Addr} {kaHE kbHE kcHE kdHE keHE:Option Value} {oHN:Value} {dHN:Option Addr} {es:Array DictEntry} {ep:Nat} {slHN:Array (Option Value)}
  {fL1:Addr}
  {fL2:Addr}
  {CD fCDi fCDS fCDM:Addr}
  {aFO:Addr} {epFO:Nat} {hFO0 hFO1 hFO2 hFO3 hFO4 hFO5 hFO6 hFO7 hFO8 hFO9 hFO10 hFO11 hFO12 hFO13 hFO14 hFO15 hFO16 hFO17:Int} {kFO0 kFO1 kFO2 kFO3 kFO4 kFO5 kFO6 kFO7 kFO8 kFO9 kFO10 kFO11 kFO12 kFO13 kFO14 kFO15 kFO16 kFO17:Tok} {tFO0 tFO1 tFO2 tFO3 tFO4 tFO5 tFO6 tFO7 tFO8 tFO9 tFO10 tFO11 tFO12 tFO13 tFO14 tFO15 tFO16 tFO17:Addr}
  {aGA:Addr} {epGA:Nat} {hGA0 hGA1 hGA2 hGA3 hGA4 hGA5 hGA6:Int} {kGA0 kGA1 kGA2 kGA3 kGA4 kGA5 kGA6:Tok} {tRI:Addr}
  {aHA:Addr} {epHA:Nat} {hHA0 hHA1 hHA2 hHA3:Int} {kHA0 kHA1 kHA2 kHA3:Tok} {tMV tMO:Addr}
  {aTK:Addr}
  (lO:HF K "_law_cell_at" Ul fO)
  (lL:HF K "_law_source" zz fL)
  (lT:HF K "_law_take" Ub fT)
  (lA1:HF K "is_name" QZ fA1)
  (lA2:HF K "is_tuple_of_names" zy fA2)
  (lA3:HF K "is_row" zf fA3)
  (lA4:HF K "need_form" Ui fA4)
  (lA5:HF K "need_own_names" uw fA5)
  (lA6:HF K "need_ends" Uj fA6)
  (lA7:HF K "need_few_roads" uD fA7)
  (lA8:HF K "need_rows" YD fA8)
  (lB1:HF K "lacking" QV fB1)
  (lB2:HF K "set_of" Yd fB2)
  (lB3:HF K "numbers_behind" MR fB3)
  (lB4:HF K "gets_number" Xv fB4)
  (lB5:HF K "round_of" Ye fB5)
  (lB6:HF K "give_number" Uh fB6)
  (lB7:HF K "give_numbers" Vd fB7)
  (lB8:HF K "labels_of" Y4 fB8)
  (lW1:HF K "is_whole" Zs fW1)
  (lW2:HF K "is_number" zA fW2)
  (lW3:HF K "is_set" Xu fW3)
  (lW4:HF K "set_turned" Y0 fW4)
  (lW5:HF K "numbers_in" Xr fW5)
  (lW6:HF K "sum_of" Xp fW6)
  (lP1:HF K "need_place" Jb fP1)
  (lP2:HF K "need_heap" Yf fP2)
  (lP3:HF K "label_worth" B6 fP3)
  (lP4:HF K "worth_by" RS fP4)
  (lP5:HF K "heap_worth" DX fP5)
  (lP6:HF K "outcome" Ue fP6)
  (lE1:HF K "show_row" Zu fE1)
  (lE2:HF K "show_ground" Uc fE2)
  (lE4:HF K "row_of" Xq fE4)
  (lE5:HF K "read_ground" Ud fE5)
  (lJ5:HF K "worth_of" vm fJ5)
  (lQ5:HF K "alike" Yg fQ5)
  (lQ6:HF K "parting" Zv fQ6)
  (lD1:HF K "many_fit" Zw fD1)
  (lD2:HF K "word_fits" Jy fD2)
  (lD3:HF K "words_of" Zr fD3)
  (lD4:HF K "need_known" Xt fD4)
  (lD5:HF K "or_dash" Uk fD5)
  (lD6:HF K "ground_made" Xx fD6)
  (lR1:HF K "show_answer" RU fR1)
  (lR2:HF K "worths_answer" RP fR2)
  (lR3:HF K "worth_answer" RQ fR3)
  (lR4:HF K "single_answer" RT fR4)
  (lR5:HF K "alike_answer" RX fR5)
  (lR6:HF K "part_answer" RV fR6)
  (lR7:HF K "tokens_answer" kS fR7)
  (lR8:HF K "outcome_answer" kU fR8)
  (lF1:HF K "_law_error" Wv fF1)
  (lF2:HF K "_law_no_line" Ug fF2)
  (lF3:HF K "_law_spoilt" uB fF3)
  (lF4:HF K "_law_state" uA fF4)
  (lF5:HF K "_law_is" uC fF5)
  (lF6:HF K "_law_others" Uf fF6)
  (aLAW:zab K mainGlobals "law"=some (some (.ref fLAW)))
  (lLAW:K.lookup fLAW=some ⟨ocLAW,odLAW,.func (zaV "law" "law" (QN Wb) (jV Wb) (qj Wb) .none kVLAW dcLAW pmLAW anLAW cdLAW ctLAW),slLAW⟩)
  (cLAW:zbn K cdLAW "law"=true)
  (kLAW:zal K (.ref fLAW)=true)
  (nCG:zab K mainGlobals "Ground"=some (some (.ref CG)))
  (pgCG:zba K CG Str.empty=true)
  (hdCG:zaU K CG=true)
  (poCG:zbr K CG=true)
  (saCG:t8 K (.ref CG) "__setattr__"=some (some (.builtin "object.__setattr__")))
  (mkCG:zbA K CG=true)
  (inCG:t8 K (.ref CG) "__init__"=some (some (.ref fCGi)))
  (fiCG:zbc K (.ref fCGi)=true)
  (kcCG:zal K (.ref CG)=true)
  (noCG:t8 K (.ref CG) "order"=some none)
  (nrCG:t8 K (.ref CG) "roads"=some none)
  (lCGi:MF K "__init__" "Ground.__init__" vt fCGi)
  (lCGM:QF K CG "names" "Ground.names" Y5 fCGM)
  (lCGF:QF K CG "roads_from" "Ground.roads_from" Ve fCGF)
  (lCGR:QF K CG "rows" "Ground.rows" Xw fCGR)
  (nCN:zab K mainGlobals "Numbered"=some (some (.ref CN)))
  (pgCN:zba K CN Str.empty=true)
  (hdCN:zaU K CN=true)
  (poCN:zbr K CN=true)
  (saCN:t8 K (.ref CN) "__setattr__"=some (some (.builtin "object.__setattr__")))
  (mkCN:zbA K CN=true)
  (inCN:t8 K (.ref CN) "__init__"=some (some (.ref fCNi)))
  (fiCN:zbc K (.ref fCNi)=true)
  (kcCN:zal K (.ref CN)=true)
  (naCN:t8 K (.ref CN) "number"=some none)
  (lCNi:MF K "__init__" "Numbered.__init__" Xs fCNi)
  (caCN:t8 K (.ref CN) "__class__"=some (some (.builtin "object.__class__")))
  (obCN:zbP K CN (.type "object")=some true)
  (lCNT:QF K CN "told" "Numbered.told" uy fCNT)
  (lCNO:QF K CN "outcome" "Numbered.outcome" uz fCNO)
  (lCNP:QF K CN "plus" "Numbered.plus" vq fCNP)
  (lCNE:QF K CN "is_endless" "Numbered.is_endless" kW fCNE)
  (lCNS:QF K CN "text" "Numbered.text" vp fCNS)
  (nCE:zab K mainGlobals "Endless"=some (some (.ref CE)))
  (pgCE:zba K CE Str.empty=true)
  (hdCE:zaU K CE=true)
  (poCE:zbr K CE=true)
  (saCE:t8 K (.ref CE) "__setattr__"=some (some (.builtin "object.__setattr__")))
  (mkCE:zbA K CE=true)
  (inCE:t8 K (.ref CE) "__init__"=some (some (.ref fCEi)))
  (fiCE:zbc K (.ref fCEi)=true)
  (kcCE:zal K (.ref CE)=true)
  (naCE:t8 K (.ref CE) "bits"=some none)
  (lCEi:MF K "__init__" "Endless.__init__" Xy fCEi)
  (caCE:t8 K (.ref CE) "__class__"=some (some (.builtin "object.__class__")))
  (obCE:zbP K CE (.type "object")=some true)
  (lCET:QF K CE "told" "Endless.told" uE fCET)
  (lCEO:QF K CE "outcome" "Endless.outcome" uF fCEO)
  (lCEP:QF K CE "plus" "Endless.plus" vw fCEP)
  (lCEE:QF K CE "is_endless" "Endless.is_endless" kZ fCEE)
  (lCES:QF K CE "text" "Endless.text" vv fCES)
  (zlen:zab K mainGlobals "len"=some none)
  (zmax:zab K mainGlobals "max"=some none)
  (zmin:zab K mainGlobals "min"=some none)
  (zint:zab K mainGlobals "int"=some none)
  (zrange:zab K mainGlobals "range"=some none)
  (zisinstance:zab K mainGlobals "isinstance"=some none)
  (zstr:zab K mainGlobals "str"=some none)
  (zall:zab K mainGlobals "all"=some none)
  (zenumerate:zab K mainGlobals "enumerate"=some none)
  (zsum:zab K mainGlobals "sum"=some none)
  (zsorted:zab K mainGlobals "sorted"=some none)
  (zlist:zab K mainGlobals "list"=some none)
  (zreversed:zab K mainGlobals "reversed"=some none)
  (zset:zab K mainGlobals "set"=some none)
  (ztuple:zab K mainGlobals "tuple"=some none)
  (zbool:zab K mainGlobals "bool"=some none)
  (zzip:zab K mainGlobals "zip"=some none)
  (m1:zab K mainGlobals "LETTERS"=some (some (.str "abcdefghijklmnopqrstuvwxyz" tm1)))
  (m2:zab K mainGlobals "LONGEST_NAME"=some (some (.int 8 tm2)))
  (m3:zab K mainGlobals "MOST_PLACES"=some (some (.int 14 tm3)))
  (m4:zab K mainGlobals "MOST_ROADS"=some (some (.int 40 tm4)))
  (m5:zab K mainGlobals "MOST_NUMBER"=some (some (.int 15 tm5)))
  (m6:zab K mainGlobals "MOST_BITS"=some (some (.int 65535 tm6)))
  (m7:zab K mainGlobals "MOST_TOKENS"=some (some (.int 8 tm7)))
  (aHE:zab K mainGlobals "HeapError"=some (some (.ref D)))
  (oHE:K.lookup D=some (excClassObj nmHE qHE D NHE bsHE jz hdctHE snHE subHE abHE colHE ddHE kaHE kbHE kcHE kdHE keHE "ValueError.__new__"))
  (nHE:K.lookup NHE=some ⟨oHN,dHN,.dict es ep,slHN⟩)
  (skHE:Cs es=true)
  (niHE:nsFind es (zdx "__init__")=none)
  (lNoGround:XF K D "NoGround" "NoGround.__init__" "row" ZS CNoGround fNoGround)
  (lNoPlace:XF K D "NoPlace" "NoPlace.__init__" "found" Jc CNoPlace fNoPlace)
  (lTwice:XF K D "Twice" "Twice.__init__" "found" Xo CTwice fTwice)
  (lTooMany:XF K D "TooMany" "TooMany.__init__" "found" Zt CTooMany fTooMany)
  (lNoText:XF K D "NoText" "NoText.__init__" "row" Y3 CNoText fNoText)
  (lNoHeap:XF K D "NoHeap" "NoHeap.__init__" "found" ZR CNoHeap fNoHeap)
  (lNoLine:XF K D "NoLine" "NoLine.__init__" "found" zB CNoLine fNoLine)
  (spc:zbh K (.builtin "object.__class__") "__get__"=some (some (.builtin "getset_descriptor.__get__")))
  (tks:zbB K (.builtin "object.__class__")=some true)
  (ne:CN≠CE)
  (aL1:zab K mainGlobals "is_line_groundtext"=some (some (.ref fL1)))
  (lL1:MF K "is_line" "is_line" ZT fL1)
  (aL2:zab K mainGlobals "is_line_desk"=some (some (.ref fL2)))
  (lL2:MF K "is_line" "is_line" Jz fL2)
  (nCD:zab K mainGlobals "Desk"=some (some (.ref CD)))
  (pgCD:zba K CD Str.empty=true)
  (hdCD:zaU K CD=true)
  (poCD:zbr K CD=true)
  (saCD:t8 K (.ref CD) "__setattr__"=some (some (.builtin "object.__setattr__")))
  (mkCD:zbA K CD=true)
  (inCD:t8 K (.ref CD) "__init__"=some (some (.ref fCDi)))
  (fiCD:zbc K (.ref fCDi)=true)
  (kcCD:zal K (.ref CD)=true)
  (ngCD:t8 K (.ref CD) "grounds"=some none)
  (nhCD:t8 K (.ref CD) "heaps"=some none)
  (lCDi:MF K "__init__" "Desk.__init__" Vf fCDi)
  (lCDS:QF K CD "say" "Desk.say" vn fCDS)
  (lCDM:QF K CD "make_heap" "Desk.make_heap" zC fCDM)
  (nFO:zab K mainGlobals "FORMS"=some (some (.ref aFO)))
  (sFO:(aFO==sysModules)=false)
  (lFO:K.lookup aFO=some ⟨.type "dict",none,.dict ⟨[⟨hFO0,.str "ground" kFO0,.ref tFO0⟩,⟨hFO1,.str "join" kFO1,.ref tFO1⟩,⟨hFO2,.str "pair" kFO2,.ref tFO2⟩,⟨hFO3,.str "least" kFO3,.ref tFO3⟩,⟨hFO4,.str "heap" kFO4,.ref tFO4⟩,⟨hFO5,.str "move" kFO5,.ref tFO5⟩,⟨hFO6,.str "play" kFO6,.ref tFO6⟩,⟨hFO7,.str "show" kFO7,.ref tFO7⟩,⟨hFO8,.str "worths" kFO8,.ref tFO8⟩,⟨hFO9,.str "worth" kFO9,.ref tFO9⟩,⟨hFO10,.str "single" kFO10,.ref tFO10⟩,⟨hFO11,.str "alike" kFO11,.ref tFO11⟩,⟨hFO12,.str "part" kFO12,.ref tFO12⟩,⟨hFO13,.str "ring" kFO13,.ref tFO13⟩,⟨hFO14,.str "tokens" kFO14,.ref tFO14⟩,⟨hFO15,.str "outcome" kFO15,.ref tFO15⟩,⟨hFO16,.str "moves" kFO16,.ref tFO16⟩,⟨hFO17,.str "most" kFO17,.ref tFO17⟩]⟩ epFO,#[]⟩)
  (eFO0:hFO0=hashStr w "ground")
  (eFO1:hFO1=hashStr w "join")
  (eFO2:hFO2=hashStr w "pair")
  (eFO3:hFO3=hashStr w "least")
  (eFO4:hFO4=hashStr w "heap")
  (eFO5:hFO5=hashStr w "move")
  (eFO6:hFO6=hashStr w "play")
  (eFO7:hFO7=hashStr w "show")
  (eFO8:hFO8=hashStr w "worths")
  (eFO9:hFO9=hashStr w "worth")
  (eFO10:hFO10=hashStr w "single")
  (eFO11:hFO11=hashStr w "alike")
  (eFO12:hFO12=hashStr w "part")
  (eFO13:hFO13=hashStr w "ring")
  (eFO14:hFO14=hashStr w "tokens")
  (eFO15:hFO15=hashStr w "outcome")
  (eFO16:hFO16=hashStr w "moves")
  (eFO17:hFO17=hashStr w "most")
  (pFO0:TpK K tFO0 ["name","rows"])
  (pFO1:TpK K tFO1 ["name","ground","ground"])
  (pFO2:TpK K tFO2 ["name","ground","ground"])
  (pFO3:TpK K tFO3 ["name","ground"])
  (pFO4:TpK K tFO4 ["name","ground","places"])
  (pFO5:TpK K tFO5 ["heap","token","place"])
  (pFO6:TpK K tFO6 ["heap"])
  (pFO7:TpK K tFO7 ["ground"])
  (pFO8:TpK K tFO8 ["ground"])
  (pFO9:TpK K tFO9 ["ground","place"])
  (pFO10:TpK K tFO10 ["ground","place"])
  (pFO11:TpK K tFO11 ["ground","place","place"])
  (pFO12:TpK K tFO12 ["ground","place","place"])
  (pFO13:TpK K tFO13 ["ground"])
  (pFO14:TpK K tFO14 ["heap"])
  (pFO15:TpK K tFO15 ["heap"])
  (pFO16:TpK K tFO16 ["heap"])
  (pFO17:TpK K tFO17 ["heap"])
  (nGA:zab K mainGlobals "GROUND_ANSWERS"=some (some (.ref aGA)))
  (sGA:(aGA==sysModules)=false)
  (lGA:K.lookup aGA=some ⟨.type "dict",none,.dict ⟨[⟨hGA0,.str "show" kGA0,.ref fR1⟩,⟨hGA1,.str "worths" kGA1,.ref fR2⟩,⟨hGA2,.str "worth" kGA2,.ref fR3⟩,⟨hGA3,.str "single" kGA3,.ref fR4⟩,⟨hGA4,.str "alike" kGA4,.ref fR5⟩,⟨hGA5,.str "part" kGA5,.ref fR6⟩,⟨hGA6,.str "ring" kGA6,.ref tRI⟩]⟩ epGA,#[]⟩)
  (eGA0:hGA0=hashStr w "show")
  (eGA1:hGA1=hashStr w "worths")
  (eGA2:hGA2=hashStr w "worth")
  (eGA3:hGA3=hashStr w "single")
  (eGA4:hGA4=hashStr w "alike")
  (eGA5:hGA5=hashStr w "part")
  (eGA6:hGA6=hashStr w "ring")
  (nHA:zab K mainGlobals "HEAP_ANSWERS"=some (some (.ref aHA)))
  (sHA:(aHA==sysModules)=false)
  (lHA:K.lookup aHA=some ⟨.type "dict",none,.dict ⟨[⟨hHA0,.str "tokens" kHA0,.ref fR7⟩,⟨hHA1,.str "outcome" kHA1,.ref fR8⟩,⟨hHA2,.str "moves" kHA2,.ref tMV⟩,⟨hHA3,.str "most" kHA3,.ref tMO⟩]⟩ epHA,#[]⟩)
  (eHA0:hHA0=hashStr w "tokens")
  (eHA1:hHA1=hashStr w "outcome")
  (eHA2:hHA2=hashStr w "moves")
  (eHA3:hHA3=hashStr w "most")
  (nTK:zab K mainGlobals "TOKENS"=some (some (.ref aTK)))
  (pTK:TpK K aTK toks)
  (wl:tU K (.ref CNoLine) (.ref CNoLine)=some true)
  (wa:zbo K (.ref CNoLine) [.ref CNoHeap,.ref CNoPlace,.ref CNoText,.ref CTooMany,.ref CTwice]=some false)
  (wx:tU K (.ref CNoText) (.ref CNoText)=some true)
  (w00:tU K (.ref CNoHeap) (.ref CNoHeap)=some true)
  (w01:tU K (.ref CNoHeap) (.ref CNoPlace)=some false)
  (w02:tU K (.ref CNoHeap) (.ref CTooMany)=some false)
  (w03:tU K (.ref CNoHeap) (.ref CTwice)=some false)
  (v0:zbo K (.ref CNoHeap) [.ref CNoHeap,.ref CNoPlace,.ref CTooMany,.ref CTwice]=some true)
  (w10:tU K (.ref CNoPlace) (.ref CNoHeap)=some false)
  (w11:tU K (.ref CNoPlace) (.ref CNoPlace)=some true)
  (w12:tU K (.ref CNoPlace) (.ref CTooMany)=some false)
  (w13:tU K (.ref CNoPlace) (.ref CTwice)=some false)
  (v1:zbo K (.ref CNoPlace) [.ref CNoHeap,.ref CNoPlace,.ref CTooMany,.ref CTwice]=some true)
  (w20:tU K (.ref CTooMany) (.ref CNoHeap)=some false)
  (w21:tU K (.ref CTooMany) (.ref CNoPlace)=some false)
  (w22:tU K (.ref CTooMany) (.ref CTooMany)=some true)
  (w23:tU K (.ref CTooMany) (.ref CTwice)=some false)
  (v2:zbo K (.ref CTooMany) [.ref CNoHeap,.ref CNoPlace,.ref CTooMany,.ref CTwice]=some true)
  (w30:tU K (.ref CTwice) (.ref CNoHeap)=some false)
  (w31:tU K (.ref CTwice) (.ref CNoPlace)=some false)
  (w32:tU K (.ref CTwice) (.ref CTooMany)=some false)
  (w33:tU K (.ref CTwice) (.ref CTwice)=some true)
  (v3:zbo K (.ref CTwice) [.ref CNoHeap,.ref CNoPlace,.ref CTooMany,.ref CTwice]=some true)
  :
  ∃(tabs:List U5) (fd:zdA),(tabs.map (·.P)).Nodup/\(∀t∈tabs,t.P∈([]:List Addr)/\zcO K t.c t.P=true)/\(∀(s:Shared) (v:Value),BindsTo s fd ⟨[v],[]⟩ [("_law_script",v)])/\∀base:Heap,K.In base->base.Ns mainGlobals mg->(∀t∈tabs,GK mg base t.c t.P)->qo l.prog w K mg base qJ 15 fa fd ["_law_script"] (V8 K):=by
 have e:=hfa.symm.trans (zas X G aLAW)
 cases e
 obtain⟨_,hB2⟩:=lB2.has (ps:=["numbers"]) X G
 obtain⟨_,hW1⟩:=lW1.has (ps:=["thing"]) X G
 obtain⟨_,hW2⟩:=lW2.has (ps:=["thing"]) X G
 obtain⟨_,hW3⟩:=lW3.has (ps:=["thing"]) X G
 obtain⟨_,hW4⟩:=lW4.has (ps:=["bits","number"]) X G
 obtain⟨_,hW5⟩:=lW5.has (ps:=["bits"]) X G
 have FLAW:=Yw (st:=Wb) lLAW cLAW kLAW
 obtain⟨_,FiCG⟩:=lCGi
 have clCG:Mp K mg CG fCGi _:=⟨⟨pgCG,hdCG,poCG,saCG⟩,⟨mkCG,inCG,fiCG,kcCG⟩,zas X G nCG,noCG,nrCG,FiCG,FiCG.binds (ps:=["self","rows"]) λ_ _ _ _ _ _ us hl=>by obtain⟨_,_,rfl⟩:=zj hl;rfl⟩
 obtain⟨_,mCGM⟩:=lCGM.has (ps:=["self"])
 obtain⟨_,mCGF⟩:=lCGF.has (ps:=["self","name"])
 obtain⟨_,mCGR⟩:=lCGR.has (ps:=["self"])
 obtain⟨_,FiCN⟩:=lCNi
 have clCN:Cl K mg "Numbered" "Numbered.__init__" "number" Xs CN fCNi _:=⟨⟨pgCN,hdCN,poCN,saCN⟩,⟨mkCN,inCN,fiCN,kcCN⟩,zas X G nCN,naCN,FiCN,FiCN.binds (ps:=["self","number"]) λ_ _ _ _ _ _ us hl=>by obtain⟨_,_,rfl⟩:=zj hl;rfl,caCN,obCN⟩
 obtain⟨_,mCNT⟩:=lCNT.has (ps:=["self"])
 obtain⟨_,mCNO⟩:=lCNO.has (ps:=["self"])
 obtain⟨_,mCNP⟩:=lCNP.has (ps:=["self","other"])
 obtain⟨_,mCNE⟩:=lCNE.has (ps:=["self"])
 obtain⟨_,mCNS⟩:=lCNS.has (ps:=["self"])
 obtain⟨_,FiCE⟩:=lCEi
 have clCE:Cl K mg "Endless" "Endless.__init__" "bits" Xy CE fCEi _:=⟨⟨pgCE,hdCE,poCE,saCE⟩,⟨mkCE,inCE,fiCE,kcCE⟩,zas X G nCE,naCE,FiCE,FiCE.binds (ps:=["self","bits"]) λ_ _ _ _ _ _ us hl=>by obtain⟨_,_,rfl⟩:=zj hl;rfl,caCE,obCE⟩
 obtain⟨_,mCET⟩:=lCET.has (ps:=["self"])
 obtain⟨_,mCEO⟩:=lCEO.has (ps:=["self"])
 obtain⟨_,mCEP⟩:=lCEP.has (ps:=["self","other"])
 obtain⟨_,mCEE⟩:=lCEE.has (ps:=["self"])
 obtain⟨_,mCES⟩:=lCES.has (ps:=["self"])
 have tl:∀h:Heap,K.In h->OwnTail h jz (.ref D::jz):=λh X=>.own (X _ _ oHE) ⟨_,es,ep,X _ _ nHE,rfl,Rw skHE,λ_=>rfl⟩ niHE .base
 have ccD:Mq K D:=⟨jz,⟨_,_,_,_,_,_,_,_,_,_,_,_,_,_,_,oHE⟩,rfl⟩
 obtain⟨_,xNoGround⟩:=lNoGround X G tl λF=>F.binds λ_ _ _ _ _ _ us hl=>by obtain⟨_,_,rfl⟩:=zj hl;rfl
 obtain⟨_,xNoPlace⟩:=lNoPlace X G tl λF=>F.binds λ_ _ _ _ _ _ us hl=>by obtain⟨_,_,rfl⟩:=zj hl;rfl
 obtain⟨_,xTwice⟩:=lTwice X G tl λF=>F.binds λ_ _ _ _ _ _ us hl=>by obtain⟨_,_,rfl⟩:=zj hl;rfl
 obtain⟨_,xTooMany⟩:=lTooMany X G tl λF=>F.binds λ_ _ _ _ _ _ us hl=>by obtain⟨_,_,rfl⟩:=zj hl;rfl
 obtain⟨_,xNoText⟩:=lNoText X G tl λF=>F.binds λ_ _ _ _ _ _ us hl=>by obtain⟨_,_,rfl⟩:=zj hl;rfl
 obtain⟨_,xNoHeap⟩:=lNoHeap X G tl λF=>F.binds λ_ _ _ _ _ _ us hl=>by obtain⟨_,_,rfl⟩:=zj hl;rfl
 obtain⟨_,xNoLine⟩:=lNoLine X G tl λF=>F.binds λ_ _ _ _ _ _ us hl=>by obtain⟨_,_,rfl⟩:=zj hl;rfl
 have B:QB mg:=⟨zaj X G zlen,zaj X G zmax,zaj X G zmin,zaj X G zint,zaj X G zrange⟩
 have Gk:Qm mg:=⟨zaj X G zsorted,zaj X G zlist,zaj X G zreversed,zaj X G zset,zaj X G ztuple⟩
 have T:j9 K mg:=⟨zaj X G zisinstance,zaj X G zstr,zaj X G zall,zaj X G zenumerate,zaj X G zsum,⟨_,zas X G m1⟩,⟨_,zas X G m2⟩,⟨_,zas X G m3⟩,⟨_,zas X G m4⟩,kss,ktt,kll⟩
 have Nn:kc K mg:=⟨⟨_,lA1.has X G⟩,⟨_,lA2.has X G⟩,⟨_,lA3.has X G⟩,⟨_,lA4.has X G⟩,⟨_,lA5.has X G⟩,⟨_,lA6.has X G⟩,⟨_,lA7.has X G⟩⟩
 have M:GM K mg CG:=⟨⟨_,_,clCG⟩,⟨_,_,mCGM⟩,⟨_,_,mCGF⟩,⟨_,lA1.has X G⟩⟩
 have Y:wz K mg:=⟨⟨_,lB1.has X G⟩,⟨_,lB2.has X G⟩,⟨_,lB3.has X G⟩,⟨_,lB4.has X G⟩,⟨_,lB5.has X G⟩,⟨_,lB6.has X G⟩,⟨_,lB7.has X G⟩,⟨_,lB8.has X G⟩⟩
 have Wq:Wk K mg:=⟨zaj X G zisinstance,zaj X G zbool,kii,kib,⟨_,zas X G m5⟩,⟨_,zas X G m6⟩⟩
 let wf:WF K mg:=⟨CN,CE,fCNi,fCEi,fCNT,fCET,fCNO,fCEO,fCNP,fCEP,fCNE,fCEE,fW1,fW2,fW3,fW4,fW5,fB2,_,_,_,_,_,_,_,_,_,_,_,_,_,_,_,_,ne,clCN,clCE,mCNT,mCET,mCNO,mCEO,mCNP,mCEP,mCNE,mCEE,hW1,hW2,hW3,hW4,hW5,hB2⟩
 let wt:Ad K mg wf:=⟨fCNS,fCES,_,_,mCNS,mCES,zaj X G zstr⟩
 have O:Mm K mg:=⟨⟨_,lP1.has X G⟩,⟨_,lP2.has X G⟩,⟨_,lP3.has X G⟩,⟨_,lW6.has X G⟩,⟨_,lP4.has X G⟩,⟨_,lP5.has X G⟩,⟨_,lP6.has X G⟩,⟨_,zas X G m7⟩⟩
 obtain⟨_,FL1⟩:=lL1
 have hL1:Al K mg "is_line_groundtext" "is_line" ZT ["line"] fL1 _:=⟨FL1,zas X G aL1,FL1.binds λ_ _ _ _ _ _ us hl=>by obtain⟨_,rfl⟩:=xI hl;rfl⟩
 obtain⟨_,FL2⟩:=lL2
 have hL2:Al K mg "is_line_desk" "is_line" Jz ["words"] fL2 _:=⟨FL2,zas X G aL2,FL2.binds λ_ _ _ _ _ _ us hl=>by obtain⟨_,rfl⟩:=xI hl;rfl⟩
 have dC:wB K CD:=⟨⟨pgCD,hdCD,poCD,saCD⟩,ngCD,nhCD⟩
 obtain⟨_,FiCD⟩:=lCDi
 have dK:Ft K mg CD fCDi _:=⟨⟨mkCD,inCD,fiCD,kcCD⟩,zas X G nCD,FiCD,FiCD.binds (ps:=["self"]) λ_ _ _ _ _ _ us hl=>by obtain⟨_,rfl⟩:=xI hl;rfl⟩
 have dM:DkM K CD:=⟨⟨_,lCDS.has (ps:=["self","line"])⟩,⟨_,lCDM.has (ps:=["self","words"])⟩⟩
 have dFO:=KE (P:=l.prog) (w:=w) (zs:=[("ground",tFO0),("join",tFO1),("pair",tFO2),("least",tFO3),("heap",tFO4),("move",tFO5),("play",tFO6),("show",tFO7),("worths",tFO8),("worth",tFO9),("single",tFO10),("alike",tFO11),("part",tFO12),("ring",tFO13),("tokens",tFO14),("outcome",tFO15),("moves",tFO16),("most",tFO17)]) sFO lFO ⟨eFO0,⟨_,rfl⟩,rfl,eFO1,⟨_,rfl⟩,rfl,eFO2,⟨_,rfl⟩,rfl,eFO3,⟨_,rfl⟩,rfl,eFO4,⟨_,rfl⟩,rfl,eFO5,⟨_,rfl⟩,rfl,eFO6,⟨_,rfl⟩,rfl,eFO7,⟨_,rfl⟩,rfl,eFO8,⟨_,rfl⟩,rfl,eFO9,⟨_,rfl⟩,rfl,eFO10,⟨_,rfl⟩,rfl,eFO11,⟨_,rfl⟩,rfl,eFO12,⟨_,rfl⟩,rfl,eFO13,⟨_,rfl⟩,rfl,eFO14,⟨_,rfl⟩,rfl,eFO15,⟨_,rfl⟩,rfl,eFO16,⟨_,rfl⟩,rfl,eFO17,⟨_,rfl⟩,rfl,trivial⟩ (show (["ground","join","pair","least","heap","move","play","show","worths","worth","single","alike","part","ring","tokens","outcome","moves","most"]:List Str).Nodup by decide+kernel)
 have FG:DQ l.prog w K mg:=DA (fz:=[("ground",(["name","rows"],tFO0)),("join",(["name","ground","ground"],tFO1)),("pair",(["name","ground","ground"],tFO2)),("least",(["name","ground"],tFO3)),("heap",(["name","ground","places"],tFO4)),("move",(["heap","token","place"],tFO5)),("play",(["heap"],tFO6)),("show",(["ground"],tFO7)),("worths",(["ground"],tFO8)),("worth",(["ground","place"],tFO9)),("single",(["ground","place"],tFO10)),("alike",(["ground","place","place"],tFO11)),("part",(["ground","place","place"],tFO12)),("ring",(["ground"],tFO13)),("tokens",(["heap"],tFO14)),("outcome",(["heap"],tFO15)),("moves",(["heap"],tFO16)),("most",(["heap"],tFO17))]) (zas X G nFO) rfl dFO (by
  intro x hx
  simp only[tJ,zai,or_false]at hx
  rcases hx with rfl | rfl | rfl | rfl | rfl | rfl | rfl | rfl | rfl | rfl | rfl | rfl | rfl | rfl | rfl | rfl | rfl | rfl
  ·exact pFO0
  ·exact pFO1
  ·exact pFO2
  ·exact pFO3
  ·exact pFO4
  ·exact pFO5
  ·exact pFO6
  ·exact pFO7
  ·exact pFO8
  ·exact pFO9
  ·exact pFO10
  ·exact pFO11
  ·exact pFO12
  ·exact pFO13
  ·exact pFO14
  ·exact pFO15
  ·exact pFO16
  ·exact pFO17)
 have dGA:=KE (P:=l.prog) (w:=w) (zs:=[("show",fR1),("worths",fR2),("worth",fR3),("single",fR4),("alike",fR5),("part",fR6),("ring",tRI)]) sGA lGA ⟨eGA0,⟨_,rfl⟩,rfl,eGA1,⟨_,rfl⟩,rfl,eGA2,⟨_,rfl⟩,rfl,eGA3,⟨_,rfl⟩,rfl,eGA4,⟨_,rfl⟩,rfl,eGA5,⟨_,rfl⟩,rfl,eGA6,⟨_,rfl⟩,rfl,trivial⟩ (show (["show","worths","worth","single","alike","part","ring"]:List Str).Nodup by decide+kernel)
 have dHA:=KE (P:=l.prog) (w:=w) (zs:=[("tokens",fR7),("outcome",fR8),("moves",tMV),("most",tMO)]) sHA lHA ⟨eHA0,⟨_,rfl⟩,rfl,eHA1,⟨_,rfl⟩,rfl,eHA2,⟨_,rfl⟩,rfl,eHA3,⟨_,rfl⟩,rfl,trivial⟩ (show (["tokens","outcome","moves","most"]:List Str).Nodup by decide+kernel)
 have gA:D4 l.prog w K mg ⟨fR1,fR2,fR3,fR4,fR5,fR6,fR7,fR8⟩:=Dz (zas X G nGA) dGA
 have hA:D3 l.prog w K mg ⟨fR1,fR2,fR3,fR4,fR5,fR6,fR7,fR8⟩:=Dx (zas X G nHA) dHA
 have tG:Fd K mg:=⟨aTK,zas X G nTK,pTK.sq (by decide)⟩
 let q:CC:=⟨D,CNoLine,CNoHeap,CNoPlace,CNoText,CTooMany,CTwice,CNoGround⟩
 have ZE:wy K mg q:=⟨zas X G aHE,ccD,spc,tks,wl,wa,wx⟩
 have X4:Mn K mg q.D q.c4:=⟨⟨_,_,xNoGround⟩,⟨_,_,xTooMany⟩,⟨_,_,xTwice⟩,⟨_,_,xNoPlace⟩,⟨_,_,xNoText⟩⟩
 have k4:K4 K q:=λk hk=>by
  match k,hk with
  | 0,_=>exact⟨λj hj=>by match j,hj with | 0,_=>exact w00 | 1,_=>exact w01 | 2,_=>exact w02 | 3,_=>exact w03,v0,xNoHeap.xc⟩
  | 1,_=>exact⟨λj hj=>by match j,hj with | 0,_=>exact w10 | 1,_=>exact w11 | 2,_=>exact w12 | 3,_=>exact w13,v1,xNoPlace.xc⟩
  | 2,_=>exact⟨λj hj=>by match j,hj with | 0,_=>exact w20 | 1,_=>exact w21 | 2,_=>exact w22 | 3,_=>exact w23,v2,xTooMany.xc⟩
  | 3,_=>exact⟨λj hj=>by match j,hj with | 0,_=>exact w30 | 1,_=>exact w31 | 2,_=>exact w32 | 3,_=>exact w33,v3,xTwice.xc⟩
 have HD:DP K mg:=⟨⟨_,lE1.has X G⟩,⟨_,lE2.has X G⟩,⟨_,_,hL1⟩,⟨_,lE4.has X G⟩,⟨_,lE5.has X G⟩,⟨_,lJ5.has X G⟩,⟨_,lQ5.has X G⟩,⟨_,lQ6.has X G⟩,⟨_,lD1.has X G⟩,⟨_,lD2.has X G⟩,⟨_,_,hL2⟩,⟨_,lD3.has X G⟩,⟨_,lD4.has X G⟩,⟨_,lD5.has X G⟩,⟨_,lD6.has X G⟩,⟨_,lA8.has X G⟩⟩
 have HA:Ag K mg ⟨fR1,fR2,fR3,fR4,fR5,fR6,fR7,fR8⟩:=⟨lR1.has X G,lR2.has X G,lR3.has X G,lR4.has X G,lR5.has X G,lR6.has X G,lR7.has X G,lR8.has X G⟩
 have HL:DO K mg:=⟨⟨_,lO.has X G⟩,⟨_,lL.has X G⟩,⟨_,lT.has X G⟩,⟨_,lF1.has X G⟩,⟨_,lF2.has X G⟩,⟨_,lF3.has X G⟩,⟨_,lF4.has X G⟩,⟨_,lF5.has X G⟩,⟨_,lF6.has X G⟩⟩
 exact⟨[],zaV "law" "law" (QN Wb) (jV Wb) (qj Wb) .none kVLAW dcLAW pmLAW anLAW cdLAW ctLAW,zbH,(λt ht=>nomatch ht),λs v=>.of_eq rfl,λbase _ _ _=>Bg (q:=q) FLAW wf wt B Wq Gk T Nn M Y O mCGR X4 xNoHeap xNoLine ZE k4 dC dK dM HD HA HL (zaj X G zzip) FG tG gA hA⟩
theorem walk{l:PySem.W.OpenLaw}{q:Program}{loose:List Str}{XP:(Str->Option Value)->Heap->Prop}{YP:World->Heap->Prop}{d:DefRec}{K:Params->zdw}(hn:l.most=some 63)(hdf:d.params.defaults=[])
  (hY:∀(w:World) (h:Heap),YP w h->(K w.params).In h) (hnt:∀w:World,zde (K w.params)=true)
  (F:∀(w:World) (mg:Str->Option Value) (fa:Addr) (h:Heap),(K w.params).In h->h.Ns mainGlobals mg->mg d.name=some (.ref fa)->
   ∃(tabs:List U5) (fd:zdA),(tabs.map (·.P)).Nodup/\(∀t∈tabs,t.P∈([]:List Addr)/\zcO (K w.params) t.c t.P=true)/\(∀(s:Shared) (v:Value),BindsTo s fd ⟨[v],[]⟩ [("_law_script",v)])/\∀base:Heap,(K w.params).In base->base.Ns mainGlobals mg->(∀t∈tabs,GK mg base t.c t.P)->qo l.prog w (K w.params) mg base qJ 15 fa fd ["_law_script"] (V8 (K w.params))):
  PySem.W.WalkO q loose XP YP l.row.toRowW d [] (λf vs=>PySem.call f vs):=
 L2.walk_ofT (n:=63) (k:=15) (x:="_law_script") (sp:=λK _=>V8 K) (ts:=[]) hn (by decide) hdf ⟨rfl,by decide,by decide,rfl⟩ hY (λ_ _ _ _ z=>nomatch z) hnt F (λ_ _ _ a ns hl hS _=>⟨a,ns,rfl,hS,hl,λ_=>rfl⟩)
end Rh
open PySem PySem.W PyProof.Rows
set_option maxRecDepth 100000 in
set_option maxHeartbeats 0 in
theorem PySem.Challenge.cw_ringheaps_k92_desk_refused_holds : PySem.Challenge.rw_ringheaps_k92_desk_refused.Holds := by
 refine hd ?_
 k_fill
 refine Rh.walk (l:=PySem.Challenge.rw_ringheaps_k92_desk_refused) rfl rfl (λw h Y=>PySem.W.km_in_of Y) ?hnt ?F
 case hnt=>exact λw=>by kernel_rfl
 case F=>
   intro w mg fa h KX G hmg
   refine' Rh.all_mk KX G hmg ..
   any_goals first | (apply Rh.TpK.mk'<;>first | k_is | rfl | kernel_rfl) | (apply Rh.HF.mk'<;>k_is) | (apply Rh.MF.mk'<;>k_is) | (apply Rh.QF.mk'<;>k_is) | (apply Rh.XF.mk'<;>k_is) | k_is | kernel_rfl | rfl | decide
