import PyProof.Rows.All
import KE.KFromBytes
import KE.KSortTup
import KE.RegKIsAll
import KE.KIntText
import KE.KRevIter
import KE.KDictOf
import Wide.FinOn
import PySem.Challenge.RW_sunstore_k83_desk_lines_that_are_none
set_option compiler.extract_closed false
set_option linter.all false
theorem w12{t:Sort u}{A B:t->Prop}{P:Prop}(h:∃x,A x∧B x)(k:∀x,A x->B x->P):P:=let ⟨x,a,b⟩:=h;k x a b
theorem w03{A B C P:Prop}(h:A∧B∧C)(k:A->B->C->P):P:=let ⟨a,b,c⟩:=h;k a b c
theorem w13{t:Sort u}{A B C:t->Prop}{P:Prop}(h:∃x,A x∧B x∧C x)(k:∀x,A x->B x->C x->P):P:=let ⟨x,a,b,c⟩:=h;k x a b c
theorem w22{t:Sort u}{v:Sort w}{A B:t->v->Prop}{P:Prop}(h:∃x y,A x y∧B x y)(k:∀x y,A x y->B x y->P):P:=let ⟨x,y,a,b⟩:=h;k x y a b
theorem w23{t:Sort u}{v:Sort w}{A B C:t->v->Prop}{P:Prop}(h:∃x y,A x y∧B x y∧C x y)(k:∀x y,A x y->B x y->C x y->P):P:=let ⟨x,y,a,b,c⟩:=h;k x y a b c
theorem w24{t:Sort u}{v:Sort w}{A B C D:t->v->Prop}{P:Prop}(h:∃x y,A x y∧B x y∧C x y∧D x y)(k:∀x y,A x y->B x y->C x y->D x y->P):P:=let ⟨x,y,a,b,c,d⟩:=h;k x y a b c d
local macro_rules|`(tactic|obtain ⟨$p,*⟩:=$h)=>do
 let p:=p.getElems
 let t<-match p.size with
  |2=>`(tactic|first|refine Exists.elim $h ?_|refine And.elim ?_ $h)
  |3=>`(tactic|first|refine w12 $h ?_|refine w03 $h ?_)
  |4=>`(tactic|first|refine w13 $h ?_|refine w22 $h ?_)
  |5=>`(tactic|refine w23 $h ?_)
  |6=>`(tactic|refine w24 $h ?_)
  |_=>Lean.Macro.throwUnsupported
 `(tactic|($t;(try clear $h);rintro $[($p:rcasesPatLo)]*))
local macro_rules|`(tactic|cases $h:ident)=>`(tactic|first|subst $h:ident|(exfalso;injection $h:ident;done)|(injection $h:ident with a b c;cases a<;>cases b<;>cases c)|(injection $h:ident with a b;cases a<;>cases b)|(injection $h:ident with a;cases a))
structure PySem.W.Fast:Prop where
 (tw1001841145974799510 tw5919569251154258848 tw11625381236512812898 tw5868897382928038628 tw2302422074895710093 tw9452618656627334373 tw4709250741967406121 tw16856423632406652861 tw17652029066182590923 tw8167882023716407537 tw9720923440028715140 tw3207994358154598464 tw9125764385870258359 tw15507612552323088478 tw3125775441631917121 tw1388748042928237988 tw12275583262615906835 tw7715494478119633176 tw13756632203659816300 tw719121675702920392 tw4712826591116512024 tw5855077897553157728 tw4119953118402484602 tw15791028248226324355 tw13833647128537703077 tw15553911031005273976 tw4141107956343471731 tw13027291914392828236 tw17739714675293669201 tw6768304752521095630 tw9128681264281220955 tw13227676931805491058 tw18315191404619438817 tw17857967086186229240 tw7956839855193950954 tw17955128936640053397 tw790356706669980125 tw4182165499701745899 tw12650927865566313417 tw4371766886330025049 tw9995396241205222426 tw14854737451171219768 tw11267605525309042615 tw1861210703788598740 tw11549779418809165273 tw8830677428435774844 tw17531318899654566995 tw1307058893641730787 tw6568286684739642226 tw105448959364645888 tw4440771992440764026 tw15227476737584110717 tw3278208470164894517 tw3497897507032800112 tw12240899497667990957 tw8067559059772996982 tw13232803347008789867 tw17739263909046604580 tw7821257680222380869 tw8160810338044149664 tw11754221354874336372 tw7077631503880784849 tw14903480896159392347 tw4201926453904308293 tw16622023065026369028 tw9741654887223462198 tw6503882079303086651 tw16698591588062938534 tw16362930897340862263 tw11579960968875581097 tw1379313277066625649 tw5694635671711024452 tw6257868001131540244 tw17394018320524852087 tw920384222789550568 tw12836325440627830364 tw14530201213639553678 tw17092361932699866665 tw8727111601711210318 tw2923785517049300737 tw15947693502792327774 tw8020158515247920145 tw14589108255394612995 tw14191879030811280497 tw1366539957350335181 tw14421260175362204840 tw8133745266668051614 tw3456896050337251401 tw9585996353972132139 tw6776867184756838029 tw10161606202545034902 tw7560643837130094308 tw2169593917221795638 tw5395293053889662996 tw8725518498458761919 tw11452983647205396197 tw8844563944230498490 tw11944024729574110013 tw8649125001720058313 tw2602401197110764714 tw16053663930568982065 tw2850851411886039989 tw5811154939659838918 tw12915030571702462286 tw8821414363921645628 tw5027364173686087467 tw7571928556585554630 tw5213516830939124275 tw16408735369245669833 tw16516021199131494077 tw2053417275538241812 tw3329938339666865479 tw760543481663726005 tw10953938328772074962 tw10166631855039323534 tw15745809109297787764 tw13773033876206355032 tw14690801561279181827 tw6442788095723013116 tw14699638798591296786 tw8343864700881565618 tw1607176108456213122 tw9051247713966611759 tw10056142660981795079 tw3777599399159355002 tw12924929163793274331 tw9418291713702175152 tw17350949304686222497 tw3476303318486340993 tw5144210058626146084 tw8001770648433930995 tw9528135974373025410 tw102536954603585682 tw4925054172421792446 tw10305945317215401841 tw3261009816539112674 tw17244127068636380736 tw2832650306049330295 tw3650128045173518170 tw6250585166516049813 tw11489691388035277007 tw4201537865372523728 tw4821805517843468462 tw17472652204861257216 tw16656363833926770440 tw16139561160168928419 tw8004053538218061623 tw16534719083814180405 tw4306263791858739637 tw3934224967713473237 tw3518258033295663558 tw2401682653771346380 tw14012498331792469906 tw17354396109745559848 tw9625569078244743603 tw1467981649887372227 tw18250801518920804185 tw1984089076722117762 tw16120750837243730486 tw13743677901030074220 tw15457235858132020713 tw14520413215169344137 tw9644085548610874419 tw12966379776801624269 tw4188201165363680005 tw1648790056929104307 tw16451333590613414379 tw4678323196053255956 tw12216748678381491795 tw9995656716825605490 tw4123234822315783125 tw7859083333589321776 tw211748668507136384 tw9474078545142876616 tw9960672355330223807 tw9168203596110847044 tw17278103947663010009 tw4117131910281163358 tw2159149752586637701 tw14140695160145827000 tw224751098245741227 tw5102399496817373016 tw10914099496949357619 tw4076094243433212955 tw14067293890278805837 tw15511057014595368541 tw10107245285836753864 tw4623045030435703386 tw13359550622490857526 tw3743877413005635217 tw16674337437392583395 tw5316228537728222634 tw9102141628317442569 tw11005968809613992346 tw17738716147205051585 tw4388556031470374781 tw13174030242740831867 tw14618651913347631229 tw8115144510560850844 tw8605471155582568021 tw2483224433076130506 tw9113057256281987541 tw7390529984893135409 tw13979138841889656596 tw6415920283556352214 tw5622337739663767490 tw17651902422646759839 tw11449915532444107156 tw9084100845138313950 tw8446345524516187515 tw3637875742043518773 tw7377506989898331925 tw10129726430113518562 tw13651997777934814749 tw8120188483766933275 tw151907094443860142 tw16959214900458796037 tw3133509973732431069 tw8634586897212366271 tw5465802016884346148 tw8935717405914146204 tw7254676023607331088 tw8173099441445914831 tw15275002351714289203 tw8889631327691424778 tw10294656072954929551 tw6871948309413732341 tw4487998538118266804 tw18348089387687250500 tw9634676827477233120 tw17431142513493573030 tw5788086505587492416 tw2971125421895572937 tw8998907658370257959 tw13668025306757809129 tw12316506791560151635 tw10736602225960618540 tw9784331020414557124 tw8357398541953594191 tw14909755984948291113 tw5527695877959064259 tw10624322569505650300 tw10195678164280594795 tw13492539010082633548 tw18155441012672185269 tw7102136327469078559 tw5316119501452540328 tw11166379475680933235 tw2658819979591666311 tw9966429616739879493 tw2942088950121661055 tw15011007197191465412 tw2164698036712023447 tw5087882385967512266 tw5456344622452806336 tw8522166412149938896 tw11064523237247843524 tw10696369920334862110 tw2838998922611752882 tw13841240736811174226 tw2556163045355514396 tw2738618320157166437 tw2175011448694298029 tw6317346884016834531 tw8727791288524007314 tw12645400995469155200 tw11820717948429552718 tw17566439691163439136 tw1210057801967590244 tw3604099813256586751 tw4269459672871825731 tw1053721827957161307 tw7920418998329611582 tw13098009173348685860 tw6769757277921117822 tw3526455236449778462 tw14632702121083367566 tw12521831591614654889 tw6782642685583147798 tw5739121514406096706 tw6837906005809094112 tw17493521350938094658 tw17975773453496993788 tw17343119939111798145 tw13057079182700416736 tw16234570332116592184 tw12041061186832978989 tw10761376552365028683 tw11936684148224074654 tw4822492631760030582 tw2621534754298782788 tw9850184661444813660 tw2196490793398549198 tw13856725524434073112 tw703359408640482584 tw8206856012973362330 tw14089888485546611970 tw8216208594761827063 tw4118750605094183845 tw10290811722237560653 tw1700247724781022301 tw15020828256165905547 tw6388778412403993639 tw14217627389698317271 tw15123026791786720245 tw3413859055251527358 tw10072116967026830358 tw5621654911211990330 tw12033059060477840958 tw17008152792187010372 tw954354173874759693 tw16511692422510862608 tw16719380514586929670 tw7658915705369432910 tw1270128360339935894 tw17351901564804486459 tw16300768411779868473 tw6639699502617505360 tw8177500401642699740 tw2244132110710619298 tw1703791957866337674 tw11390205890539390092 tw2850292937164591074 tw17844061456784319630 tw11925735383336207863 tw5854172106186289639 tw10278587711753640854 tw5023894613114024445 tw6929548719204045506 tw16586047552236163980 tw4823696629533026955 tw12892279611608158484 tw7935347586441987541 tw8131296226602372439 tw2211679604218093971 tw15943969020439707437 tw5264651534292275458 tw14251456001461106004 tw15692635835599533032 tw8266181378945469233 tw12632702324465377281 tw18320085775064059691 tw15690178088817181106 tw7445600547119041872 tw4138513253610184796 tw11613415801045246340 tw3088597264600797172 tw18230557435434571606 tw2617517662808800615 tw3021009478452341909 tw12656766602580881174 tw3582498465908376409 tw1980398275611127164 tw11393758017760597533 tw701256738400296024 tw2390626088603749251 tw12308018839479320718 tw11458029583207345459 tw13964242472343296669 tw15772023817484698092 tw14805011297632799090 tw13895401320616013356 tw7505407776388018978 tw10432738495523075069 tw12856962173616014818 tw5290382127916767034 tw16311550549840450932 tw9038936894839545122 tw14425459337180877123 tw1201659930202302739 tw10316299676849672226 tw4628205859418056646 tw4149395374077972202 tw3918518889029774841 tw16709939176217725870 tw13479067150020570456 tw10965844023415778377 tw16039603018189618108 tw8104893027225878389 tw17628135087837617010 tw13675350193550316174 tw12974014874312387646 tw4259486743166416115 tw2258761153221729925 tw15541106755502043632 tw16766441208054921908 tw4373222808963657625 tw1688067939419017663 tw8265596887121730131 tw7727496059531675195 tw6356720541355209944 tw862387744318635980 tw825729805228073168 tw7130724176424481014 tw6628185735052944673 tw5993820230324536423 tw324030178830458289 tw18431543286276825183 tw17835254198460635244 tw17781164862752211590 tw15991764269776926276 tw15112329189852811551 tw12524420081906849559 tw12489254961600174869 tw11495542372568074593 tw6767759884938036176 tw10700574403920470019 tw3418425819380943671 tw5867702600402401419 tw422145612886426613 tw10126242177324444340 tw14275602938505444975 tw13453187027738521147 tw15459493759056979847 tw17193211295752862263 tw15170741578141553781 tw5390059431924763411 tw11314403907207519779 tw2063857369382660861 tw7037021475591574276 tw10688987334565483600 tw7600061007357057063 tw4436883296046587039 tw9650774550512104234 tw4775874360061819529 tw16734149589741040989 tw13022998686157742504 tw17830392397918485251 tw9771815720495237222 tw882533129570354154 tw5805974731160833685 tw5780532193879954780 tw17538394574170147885 tw16012768584905462508 tw15643973972301076038 tw1409626307377277664 tw14046172370987185404 tw13168838432850401673 tw1272274041601891930 tw10641052166100137284 tw1020167683361654116 tw10145051445118369203 tw9663035719366446419 tw8352245925624923187 tw1622104682939722589 tw15206148071767506348 tw13452006498948977783 tw5223583090432472620 tw16850356841921340983 tw9119302160422026742 tw10465741471687624071 tw5977429925909098307 tw2487334311326596389 tw11385156147766679515 tw9877322851125546654 tw9330203776713368396 tw6304944207634676338 tw6228020075011918242 tw5663821858077345407 tw2812754394188855872 tw2610967696508220162 tw1980584145104444256 tw1835902529664641599 tw17220057912777021417 tw16847671448383684809 tw16582376511012674937 tw16545582311852528812 tw15695922036343457259 tw15657723279316974748 tw1541263395787351041 tw15301112129258657320 tw15220505038949094348 tw14697695343934983639 tw13647541824166646272 tw13144177598695816660 tw12119784394268765119 tw11267607798684560522 tw10056690923366056867 tw10050532787468542199 tw12833643332661261146 tw9432583388472712994 tw8015852184896825979 tw6430916476193122995 tw5956564930219454726 tw2397316029628860897 tw16978258450055189915 tw16322207460388233027 tw15810887963822068743 tw15772294868810751390 tw14793508054831161345 tw12654560529280391376 tw1177485288284080135 tw10977829638479854805 tw2496270178104493644 tw10323669356100299325 tw4075546346026432490 tw12510133036441940599 tw10207203730722923930 tw3312569159782968567 tw8175617241958473550 tw7791840881170454297 tw7691173390836900362 tw4706198559074757297 tw4261561302803328356 tw4031456139482733869 tw16062288978974686953 tw13955371146347692089 tw11178025693940596150 tw4497848274948866572 tw5214753353117213460 tw11582259059121605636 tw10117726063439700021 tw7871502006946838186 tw3296823414388078035 tw1580182833540297437 tw11824981376151403186 tw10364376241791723489 tw2335822186006559449 tw18213393653148106266 tw1740821367703045550 tw1011201406059637868 tw8610826245755269651 tw16632796883234254241 tw9604968995678786367 tw9412800922202092128 tw9376721897286726307 tw9339676622089974170 tw9224697254143219089 tw9195440970447094715 tw9178694470160545435 tw9121962422210672407 tw8785270803557516328 tw8456028965969216946 tw8415992567120656778 tw8228970804360671917 tw7981727071424657721 tw762939640659652342 tw7289794899429686467 tw7211076898729119523 tw7168482414018550697 tw6665581117382085172 tw6596803520255340415 tw5937901730996830744 tw5779191023163330683 tw5327461904218215908 tw5090106221535812940 tw468323176791889845 tw4674229865148435717 tw4623967332247780909 tw4316247522982013584 tw4301924571610235023 tw4072984202803124283 tw356178726635027807 tw3436056744057766945 tw2677934490744880653 tw2437357523173118067 tw2407469566847313717 tw2253578674639010326 tw2051024761507822418 tw2019568919267897176 tw1935614680938347504 tw1830008414772679709 tw18180751979037414608 tw1786629676176647219 tw17756794144995258906 tw17726721011834224026 tw17174377856079200183 tw17130511450421984091 tw17122545064382262015 tw17028675175932837754 tw16929002769159445957 tw16723440271269293357 tw16576470385978405332 tw16546591121036888000 tw16130159025492053956 tw16104718977211244610 tw15553209372696611483 tw15515153855195827819 tw14718968013802455210 tw14665519830882103802 tw14486057042124910250 tw14077016518402741165 tw13917165052806466442 tw13713309259853050378 tw13404354878722083669 tw13336183863478647465 tw13048975411474539856 tw12915577008166916775 tw12811036859635413475 tw12754459101123440838 tw11989486957581462786 tw11920509137457980509 tw11551283139592213456 tw11224094734063878133 tw11079114739722671782 tw10997094150304608235 tw10695350910309003876 tw10510692262103680007 tw10179495143071449718 tw10132293565432337396 tw10005233261518185407 tw12738603460762326988 tw1874558501983286310 tw6642304292158846487 tw3705518384180873314 tw5974142280222149024 tw17522480861070454629 tw17101801618919054658 tw9018917841971962933 tw17867264849884258912 tw11341482635702448427 tw9632492914795237812 tw8525270473847363352 tw827565482754784609 tw7781487808928366156 tw7658345191054845401 tw7349539368622148480 tw7308453200903327048 tw6175489181871987559 tw1992967086102409371 tw17913274078369232502 tw16732380507644332695 tw16349183224201987430 tw15717359368261483478 tw14238360265939147356 tw13377302732065527155 tw12802637695443211761 tw12126294885471778196 tw11959730018339181381 tw11780077814063873660 tw10561148941752544725 tw10299803546983294597 tw11001996982263971124 tw18145148777505403874 tw13439484269728278988 tw11680011898838739148 tw12220769895098966962 tw10324868238169839486 tw603924247377390139 tw11931629573844635616 tw11685119550277262971 tw9785768462637935964 tw17291907861286587756 tw12887688603483164122 tw17384071797514019045 tw13974940112866707125 tw5702148584533666952 tw4717786076551261406 tw18445463592452657881 tw18238722395437439092 tw17760353026903935147 tw8841266257946311990 tw7550752997042487782 tw7154133640458583374 tw4976837315430010539 tw4570227858062057992 tw4386835558332373953 tw4088552333499237101 tw3866060155134119639 tw2642367615259124600 tw2148389269273834560 tw14884537983319322699 tw13514931991709079555 tw13315684644135255570 tw12081889353848083576 tw6513274107905040296 tw12157654948157250312:True)
namespace Z
open PySem PySem.W PySem.Calls PyProof.Rows
noncomputable def sm(p:Program)(n:Str):Program:={p with main:={p.main with body:=p.main.body.filter fun s=>match s with|.FunctionDef m ..=>m==n|_=>false}}
noncomputable def lo(p:Program)(n:Str):List Str:=p.boundNames.filter (·!=n)
variable{r:OpenRow}{Xt:Shared->Bool}{XP:(Str->Option Value)->Heap->Prop}{α:Type}{Yf:Shared->α}{Ya:World->α}{YP:World->Heap->Prop}{d:DefRec}{kwd:List (Str×Expr)}{N:Nat}
theorem PySem.W.holds_open{q:Program}{loose:List Str}(left:LeftO r.prog (sm r.prog r.name) (lo r.prog r.name) Xt Yf Ya N)(a:∀w s,Yf s=Ya w->YP w s.heap)(b:∀w h k,YP w h->(∀c o,h.get? c=some o->k.get? c=some o)->YP w k)(c:∀s,Xt s=true->XP (s.heap.nsMap mainGlobals) s.heap)(e:∀m h k,XP m h->(∀c o,h.get? c=some o->k.get? c=some o)->XP m k)(f:defOf (sm r.prog r.name) r.name=some (d,kwd))(g:r.prog.theDef r.name=some (d.params,d.body,d.scope))(h:kwWritten? d.params.kwonlyargs d.params.kw_defaults=some kwd)(i:∀s,Xt s=true->RecFacts r.records s.heap)(j:(!r.writes||r.records.isEmpty)=true)(k:r.wellSaid=true)(l:(chainsOk (sm r.prog r.name)&&opensWell r.prog&&(frees r.toRowW&&r.within.isEmpty))=true)(m:r.prog.bare)(n:r.toRowW.promised)(o:WalkO (sm r.prog r.name) (lo r.prog r.name) XP YP r.toRowW d kwd λf v=>PySem.call f v):r.Holds:=_root_.PySem.W.holds_open left a b c e f g h i j k l m n o
set_option Elab.async false
set_option maxRecDepth 100000 in
set_option maxHeartbeats 0 in
open_top topHd for PySem.Challenge.rw_sunstore_k83_desk_lines_that_are_none
end Z
theorem b0I{p:Prop}(h:p:=by rfl):p:=h
def bL:=b0I._auto_1
theorem b0J{p:Prop}(h:p:=by intro _;rfl):p:=h
def tM:=b0J._auto_1
theorem a8M{p:Prop}(h:p:=by intro _ _;rfl):p:=h
def b1T:=a8M._auto_1
theorem b0K{p:Prop}(h:p:=by first|exact .inl rfl|exact .inr rfl|assumption):p:=h
def gQ:=b0K._auto_1
theorem b0L{p:Prop}(h:p:=by refine⟨?_,?_,?_,?_,?_⟩<;>kernel_rfl):p:=h
def qI:=b0L._auto_1
theorem xY{p:Prop}(h:p:=by kernel_rfl):p:=h
def B7:=xY._auto_1
theorem f7{p:Prop}(h:p:=by decide):p:=h
def aj:=f7._auto_1
theorem A3{p:Prop}(h:p:=by lia):p:=h
theorem B9{p:Prop}(h:p:=by decide +kernel):p:=h
def iJ:=B9._auto_1
theorem C9{p:Prop}(h:p:=by simp):p:=h
theorem B1{p:Prop}(h:p:=by assumption):p:=h
def Ls:=B1._auto_1
theorem G0{p:Prop}(h:p:=by omega):p:=h
theorem V8{p:Prop}(h:p:=by simp[*]):p:=h
theorem b0M{p:Prop}(h:p:=by contradiction):p:=h
theorem Q3{p:Prop}(h:p:=by repeat constructor):p:=h
theorem nE{α:Type u}{x:α}{p:Prop}(h:none=some x):p:=nomatch h
theorem nS{α:Type u}{x:α}{p:Prop}(h:some x=none):p:=nomatch h
theorem nT{p:Prop}(h:false=true):p:=nomatch h
theorem nF{p:Prop}(h:true=false):p:=nomatch h
theorem A9{d c:Type}{o:Option d}{f:d->Option c}{b:c}(h:o.bind f=some b):∃a,o=some a/\f a=some b:=Option.bind_eq_some_iff.1 h
theorem P8{p:Prop}[Decidable p]{d:Type}{o:Option d}{b:d}(h:(if p then o else none)=some b):p/\o=some b:=by
 split at h;exact⟨‹_›,h⟩;exact nE h
theorem ei{a b:Int}(h:autoParam (b<a) Ls):a≠b:=Int.ne_of_gt h
theorem nAl{a b c:Nat}(h:autoParam (a<=b) Ls):a<=c+b:=Nat.le_add_left_of_le h
theorem nTr{a b c:Nat}(h:autoParam (a+b<=c) Ls):a<=c:=Nat.le_trans (Nat.le_add_right _ _) h
set_option Elab.async false
set_option maxRecDepth 100000
set_option maxHeartbeats 4000000
set_option bootstrap.genMatcherCode false
set_option compiler.reuse false
set_option tactic.hygienic false
noncomputable section
open PySem.PyData renaming str->f6,int->p6,tuple->B4,list->B8,bool->E5,none->F3,str->E6,canLayAll0->cP,tuple->bM,canLay0->dW,depthAll->dO,dict->iN,eqv->cW,eqvAll->oz,int->jL,depth->oy,list->tT,strOk->zS,bool->zO
open PySem.Str renaming ofString->p7,empty->ow,join->oo,ofString_eq_toList->XJ
open PySem.Value renaming ref->A5,type->E8,none->F0,builtin->P5,int->U8,bool->cy,ref->X2,str->eZ,none->eV,bool->zN,str->zL,type->EA,int->Ex
open PySem renaming PyData->f9,wpAny_bind->C6,Value->A1,Shared->C5,wpAny_pure->G8,sizeLine->G7,mainGlobals->U0,starEach->O7,wpAny_field->Z3,compareOp->V9,FuncData->W4,Program->S6,World->N6,wpAny_mono->aT,swapsWith->ak,wpAny_loadPart_at->jU,strIterType->dM,sizeLine_eq->eX,Around->X1,wpAny_callSpecial?_slot->uC,wpAny_newObj_type->oJ,mem_of_lookup->ra,bootBuiltins->jO,wpAny_Call_Name_kw->uq,wpAny_setField->oC,wpAny_execs_nil->qQ,binaryOp->eU,wpAny_truthy_bool->um,behindInMarks->oB,backTo->bP,wpAny_call_entry->uk,wpAny_seqItems->qN,excClassObj->lN,wpAny_setField_rec->wU,wpAny_passesOwn->uh,cLine->aQ,sysModules->lM,call_meets->lK,wpAny_isSubtype_exc->Ap,attributeBase->uf,wpAny_holding->ue,wpAny_standAt->ub,strLen_append->ua,rawInt->eT,cellsFrom->lJ,strValues->lI,Scope->cV,codeAny_mono->tX,IsPart->fU,noteFrame->oq,wpAny_execs_cons->Af,NameKind->lH,codeAny_call_builtin->FR,sliceBounds->tU,notedBy->jG,wpAny_getItem_list_slice->MS,codeAny->lG,wpAny_call->tS,typeIs_str->tR,JoinOk->jF,tupleKind->tQ,codeAny_handlers_test->MJ,plainObj_wpAny_Assign_Attribute->Ys,letOwnedTupleGo->Fp,wpAny_rule->wA,wpAny_updateSeq_pair->MG,unbindBehindTheSuite->MF,wpAny_setFlight_none->ME,wpAny_handleBy_cons->My,wpAny_loadPart->EU,getItem->qL,callerA->qK,intText?->ET,keywordEach->zP,pushCells->wy,IsPair->oj,tupleKind_room_in1->Mv,wpAny_attempt->ER,wpAny_onRaise->EO,wpAny_pyIter_list->Mn,assignEach->zM,wpAny_excMatches_sub_self->Yg,codeAny_handlers_suite_as->Yf,BindsTo->tP,concat_meets->EK,noFill_tuple_add->Ml,wpAny_typeOf->EJ,call_meetsIn->EI,setFlight->zJ,standAt->wx,Keyword->wu,valueAt->wq,backToKw->zI,compEnvC->zH,compPost->zG,handleBy->zF,seq_tuple_add->LW,Within->LQ,getMethod->Ew,PassesOwn->Eu,slicePick->Et,wpAny_mkText->LO,ExcBaseFacts->LL,call->LH
open PySem.W renaming Frag->D4,findIn->bz,nsIn->Z8,keepIn->dC,kitOne->cY,emptyDict->qW,fnOf->jN,callWith_K->uo,instObj->qS,looks_findIn->xa,InstAt->qO,mg_of->tZ,findObj->wL,hasDictIn->Ai,lookIn->wI,plainGet->Ae,codeIn->Aa,handedIn->FE,any_some->FC,methodCall_KW->ML,isFn->zV,makesIn->Fn,plainGet_of->MC,looks_clsIn->MB,looks_mroIn->MA,clsIn->EN,plainOver->Mq,specialIn->Mo,takerIn->Mh,OpenLaw->Mf,cellsFrom_some->XO,mroIn->LU,Looks->LR,findObj_own->Xp,looks_find->WU,tail_of_in->WQ,set_plain->WH,readsIn->Wc,findCls->Wb,kia_one->Wa
open List renaming mem_cons_of_mem->G6,length_map->F4,mem_cons_self->K9,length_cons->L3,map_cons->K3,mem_append_right->S5,getElem?_eq_getElem->Y2,length_append->R5,not_mem_nil->U1,mem_cons->Q7,replicate->S9,getElem?_map->aK,size_toArray->aJ,getElem?_cons_zero->fx,getElem?_cons_succ->gC,mem_append_left->fw,append_nil->bA,map_append->bN,getElem?_set_ne->ir,take_of_length_le->ko,getD_eq_getElem?_getD->mi,range->Z4,append_assoc->gb,zipWith->bQ,length_zipWith->iP,length_drop->gU,map_map->cX,all_cons->fZ,nil_append->iM,getElem_mem->jS,drop_succ_cons->oK,length_singleton->rh,map_nil->fX,length_take->lX,cons_append->lW,lookup->fW,length_range->oI,getElem?_set_self->xg,getElem?_append_right->Az,lookup_cons->qU,getElem?_eq_none->xc,getElem?_append_left->Ay,drop_eq_getElem_cons->Ax,mem_of_getElem?->wZ,any_cons->oA,getElem?_zipWith->Au,drop_zero->ug,all_eq_true->wN,mem_append->wK,set_cons_zero->An,set_cons_succ->Am,drop_of_length_le->FT,drop_length->Ad,mem_of_mem_drop->FQ,filterMap_cons->FP,zip_cons_cons->FK,contains_cons->FJ,getElem?_replicate->MR,any_eq_false->FI,reverse_cons->FH,getElem?_set->FF,range'->wB,drop_eq_nil_of_le->MN,length_replicate->MK,forIn_cons->Fj,nodup_cons->Ff,length_nil->EY,drop_left'->EX,take_left'->EW,getElem?_range->Mz,mem_filterMap->Mu,sum_cons->EM,map_drop->EL,mem_of_find?_eq_some->Yd,range'_succ->Mj,idxOf_lt_length_iff->XZ,ext_getElem->Mi,of_mem_zip->Mg,find?_cons->Me,idxOf_cons->Md,length->EF,drop_drop->Ma,getElem?_append->Xx,mem_of_mem_take->Xr,getElem_zipWith->Xq,take_succ_cons->Xi,map_congr_left->Xg,getElem_of_mem->Xa,mem_replicate->WT,map_inj_right->WL,foldl_toArray->WK,flatten_cons->Wy,getElem_inj->Wx,take_length->Wq,foldl_cons->VY,range_succ->VX,take->LC
open Nat renaming le_trans->D6,lt_of_lt_of_le->Q8,le_refl->N7,lt_of_le_of_lt->bO,ne_of_lt->Z9,lt_irrefl->cO,le_of_lt->fY,ne_of_gt->gS,min_le_right->oG,pow_le_pow_right->uw,zero_le->lP,le_succ->lO,le_add_right->Ar,lt_succ_self->FA,le_of_not_lt->Fy,min_eq_right->Fx,coprime_comm->Fq,zero_add->zU,min_eq_left->EZ,le_add_left->EV,lt_of_succ_lt_succ->XM,Coprime->EC,sub_succ_lt_self->Xy,mul_le_mul_right->Xv,lt_trans->LM,add_right_comm->WS,sub_zero->LK,le_succ_of_le->WE,lt_succ_of_lt->WC,succ_lt_succ->Wr,dvd_antisymm->Wn
open PySem.Heap renaming get?_push_of_some->L0,lt_size->L6,get?_update_other->af,get?_push_size->ae,get?_update_self->jV,size_push->jR,SameBut->tY,get?_none_of_le->MI
open Or renaming inl->B3,inr->B6
open PySem.Expr renaming Name->G9,Attribute->Q0,Call->L8,BoolOp->aa,Constant->jk,Subscript->mf,Tuple->lY,ListComp->qZ,Compare->qX,UnaryOp->uv,Slice->Fz,FormattedValue->Ye,JoinedStr->Xu,IfExp->Wv,BinOp->Wt,List->Wj,Dict->We
open PySem.Paired renaming cons->N8,nil->P1,length->ES,snoc->LI
open PySem.Data renaming fields->O3,seq->W7,dict->dX,cell->qR,func->Fm
open Int renaming fmod_nonneg_of_pos->U9,le_trans->O0,fmod_lt_of_pos->W8,gcd->J6,fdiv_eq_ediv_of_nonneg->gD,dvd_refl->W6,mul_comm->Y9,mul_le_mul_of_nonneg_right->rM,mul_pos->ao,le_of_lt->bu,mul_ediv_cancel_left->mh,gcd_dvd_right->gd,mul_left_comm->gW,natCast_nonneg->iO,lt_of_le_of_lt->ma,gcd_dvd_left->jT,mul_nonpos_of_nonneg_of_nonpos->AA,gcd_pos_of_ne_zero_right->xi,natAbs_mul->jQ,le_refl->fV,mul_assoc->jP,gcd_ediv_gcd_ediv_gcd->Aw,ediv_mul_cancel->wY,toNat_of_nonneg->Aq,natAbs_neg->wG,lt_or_le->tV,le_of_dvd->wD,eq_of_mul_eq_mul_right->MV,ediv_pos_of_pos_of_dvd->MU,dvd_trans->wC,mul_nonneg->zX,toNat_natCast->FG,gcd_comm->zR,mul_le_mul_of_nonneg_left->Yp,natAbs_natCast->Ms,le_of_mul_le_mul_right->Yj,mul_neg_of_neg_of_pos->Yc,fdiv_one->EH,dvd_mul_of_dvd_right->XY,dvd_mul_of_dvd_left->XR,negSucc->EE,dvd_gcd->ED,add_mul->EB,mul_le_mul->LY,mul_ediv_cancel->Xb,cast_ofNat_Int->WN,gcd_zero_right->WM,zero_add->LJ
open Option renaming some->U,none->J,bind_some->P0,map_some->lU,map_eq_some_iff->MM,map_map->Mb,isSome_some->WV,getD_none->Ws,bind_none->Wo,map_none->VZ
open PySem.NameKind renaming «local»->aX,cell->aV,free->cQ,cell->cF,free->iL
open Bool renaming true->Uf,false->U',false_ne_true->dE,and_eq_true->fu,not_eq_true'->lZ,true_and->lR,false_and->oF,and_false->oE,false_eq_true->Ao,or_true->tW,not_false->wH,and_true->wF,eq_iff_iff->Ab,not_true->zW,and_eq_false_iff->XA,or_false->LV,false_or->LS,true_or->LN
open Nat.le renaming refl->Y1
open Sum renaming inr->O6,inl->S0
open PySem.ScopeKind renaming function->mC,module->XQ,«class»->XH
open Option.some renaming inj->dY,injEq->qV
open PySem.Stmt renaming Assign->gB,Expr->ui,Return->wR,Raise->wM,FunctionDef->MO,Try->LZ,If->LX,While->Wu,Pass->Wf
open False renaming elim->X7
open Ne renaming symm->P9
open PySem.SeqAt renaming shaped->cE,canLay_of_shaped->FW,EqAt->Ez,in_listAt->Wh
open PySem.BoolOp renaming And->gV,Or->gT
open PySem.Txt renaming slice->aE,join->aR,split->jJ,startswith->zZ,contains->zT
open PySem.ExceptHandler renaming ExceptHandler->xj
open PySem.Obj renaming mapFields->eY,data_mapFields->wV,isFreed_of_fields->Av
open PySem.F renaming plainAttrs_list->uA,slot_dict_get->xf,slot_tuple_iterator_next->Gb,entry_dict_get->FU,args_tuple_add_2->MT,entry_tuple_add->MQ,slot_tuple_add->MP,slot_str_split->Fw,slot_zip_next->Fg,args_tuple_iterator_next_1->Yo,entry_tuple_iterator_next->Yn,args_str_split_2->Mt,excBase_ValueError->Yk,entry_str_split->Mm,args_dict_get_2->XX,args_dict_get_3->XW,plainAttrs_dict->XU,slot_list_index->XS,type_dict_get->XF,slot_enumerate_next->XE,slot_list_pop->XC,type_list_pop->XB,slot_str_partition->Xw
open ForInStep renaming yield->lV
open PySem.Operator renaming Add->qY
open PySem.Flow renaming ret->lT,next->Wm
open Rat renaming mul_nonneg->lS,le_trans->qM,mul_le_mul_of_nonneg_left->MW,le_of_lt->zQ,mul_le_mul_of_nonneg_right->Yq,le_iff->Ey,sub_eq_add_neg->WI
open PySem.Builtin.Str renaming occurrences->xh,strKind->Xe,strSub->WO
open PySem.Code renaming builtin->uu,call->qP,compLoop->Xm,quiet_builtin->WR
open PyProof.Rows renaming slot_tuple_getitem->Ge,envOfC->bq,callWith_type1->Gd,AllBare->jH,joinParts_cons->zY,callWith_builtin1->Yr,envOfC->Mx,subscriptTail_builtinR->XN,split_pos->XI,IntsAre->wt,FormattedValue_plain->Xs
open Except renaming error->lQ,ok->jK
open True renaming intro->jM
open PySem.W.Looks renaming here->wX,now->WB
open PySem.W.WData renaming bool->wW,int->WD
open PySem.Builtin.ObjectAttr.Found renaming value->MY,bind->MX
open Function renaming comp_def->wQ,comp_apply->Xd
open PySem.Builtin.Slice renaming slicePlaces->Ga,sliceAdjust->Yi
open PySem.Builtin.SmallTypes renaming nextOf->FZ
open ToString renaming toString->jI
open PySem.Calls renaming callWith_builtin->FY,Constant_str->FN,spliced_cons->FL,evalArgs_plain->MH,Name_function_global->Ym,spliced_nil->Mp
open PySem.UnaryOp renaming Not->Ak
open PySem.CmpOp renaming NotIn->Aj,In->wJ,NotEq->Mr,Eq->Mc
open PySem.Const renaming none->Ag,str->Ac,bool->Ww,int->Wl
open Array renaming getElem?_setIfInBounds_self->Yt,length_toList->MD,find?_toList->Mw,getElem?_toList->XG,all_eq_true'->WJ
open PySem.Builtin.Tuple renaming tupleItemsOf->Yl
open PyProof.Rows.IntsAre renaming cons->Yh,nil->Ya
open PySem.Builtin.List renaming listTooLong->Yb
open Classical renaming propDecidable->XT
open PyProof.Rows.IsTup renaming new->zK
open Sum.inr renaming inj->EG
open PySem.StrLaws renaming occ_length_le->XD
open PySem.SeqAt.EqAt renaming bool_none->Xz,int_none->Xo,str_none->Xn,int_str->WZ,str_int->WY,same->Wi
open Eq renaming trans->zE
open PySem.Heap.SameBut renaming update->Xj
open PySem.EntryCells renaming newEntry->Xh
open PySem.Around renaming under->LP
open PySem.Heap.IsSliceOf renaming new->WX
open LawfulBEq renaming eq_of_beq->Es
open PySem.IsPart renaming none->WG
open PySem.Meets renaming of_wp->WA
open Decidable renaming not_not->Wz
open PySem.W.WTm renaming lit->Wg
open Char renaming toNat->LG,ofNat->LF
open PySem.PassesOwn renaming never->VW
abbrev A6:=@if_pos
abbrev B2:=@if_neg
abbrev J8:=@decide_eq_false
abbrev L7:=@decide_eq_true
abbrev J3:=@congrArg
abbrev V4:=@or_false
abbrev ff:=@of_decide_eq_true
abbrev gX:=@decide_eq_true_eq
abbrev uB:=@decide_eq_false_iff_not
abbrev oH:=@not_false_eq_true
abbrev uj:=@decide_eq_decide
abbrev wO:=@beq_self_eq_true
abbrev Ah:=@not_true_eq_false
open List (mem_range mem_map mem_singleton)
namespace L2
open PySem PySem.Spec PyProof.Rows
variable{a:C5}{e y:Addr}{c:List (Addr×Obj)}{Z L:Expr}{p:Pos}{k:Nat}{m:Str}{g:Heap}{o:S6}{q:N6}{A:X1}{u:A1->C5->Prop}{K:D4}{D:A1}{G:List Expr}{I:List A1}{N:List Str}{O:List Addr}{R:Bool}{S:Str->Option A1}{b6:W4}{b8:List Stmt}{b9:Obj}{d6:Unit->C5->Prop}{d8:A1->A1->Sem A1}{e8:Model}{g8:CmpOp}{i5:Type}{i6:Stmt}{i7:String}{i8:Sem Bool}{i9:List (Str×A1)}{j0:cV}{j1:Array GenState}{j3:Int->Int->Int}{j4:A1×List A1->C5->Prop}{j5:Option A1}{j6:List Env}
noncomputable abbrev hz(s:C5):Nat:=s.heap.objs.size
abbrev Key:=Sum Int Str
def Ba:Key->A1->Bool
 |S0 k,v=>Value.isInt k v
 |O6 x,v=>Value.isStrOf x v
def b1M(w:N6):Key->Int
 |S0 k=>hashInt k
 |O6 x=>hashStr w x
def cN:∀{k:Key}{v:A1},Ba k v=Uf->(∃i t,k=S0 i/\v=Ex i t)\/(∃x t,k=O6 x/\v=zL x t)
 |S0 i,v,h=>by obtain⟨t,e⟩:=Value.isInt_shape h;exact B3 ⟨i,t,rfl,e⟩
 |O6 x,v,h=>by obtain⟨t,e⟩:=Value.isStrOf_shape h;exact B6 ⟨x,t,rfl,e⟩
def UO(i:Int)(t:Tok):Ba (S0 i) (U8 i t)=Uf:=by simp[Ba,Value.isInt]
def UN(x:Str)(t:Tok):Ba (O6 x) (eZ x t)=Uf:=by simp[Ba,Value.isStrOf]
def a7V(a b:Int):decide ((S0 a:Key)=S0 b)=(a==b):=by
 by_cases e:a=b;subst e;simp
 . have h:¬(S0 a:Key)=S0 b:=λq=>e<|Sum.inl.inj q;rw[J8 h];exact(beq_eq_false_iff_ne.mpr e).symm
def a7S(a b:Str):decide ((O6 a:Key)=O6 b)=decide (a=b):=by
 by_cases e:a=b;subst e;simp
 . have h:¬(O6 a:Key)=O6 b:=λq=>e<|EG q;rw[J8 h,J8 e]
def a7U(a:Int)(b:Str):decide ((S0 a:Key)=O6 b)=U':=J8<|λq=>nomatch q
def a7T(a:Str)(b:Int):decide ((O6 a:Key)=S0 b)=U':=J8<|λq=>nomatch q
def bj(prog:S6)(w:N6):PySem.KeyKind prog w Key where
 is:=Ba
 hash:=b1M w
 inj:=λv a b ha hb=>by
  rcases cN ha with ⟨i,t,rfl,rfl⟩|⟨x,t,rfl,rfl⟩
  . rcases cN hb with ⟨j,u,rfl,e⟩|⟨y,u,rfl,e⟩
    . injection e with e1 _;rw[e1]
    exact nomatch e
  . rcases cN hb with ⟨j,u,rfl,e⟩|⟨y,u,rfl,e⟩
    exact nomatch e
    . injection e with e1 _;rw[e1]
 byValue:=λk v h=>by rcases cN h with ⟨i,t,rfl,rfl⟩|⟨x,t,rfl,rfl⟩<;>rfl
 pyHash:=λhv h=>by
  rcases cN hv with ⟨i,t,rfl,rfl⟩|⟨x,t,rfl,rfl⟩
  exact wpAny_pyHash_int h;exact wpAny_pyHash_str h
 eqBool:=λhu hv h=>by
  rcases cN hu with ⟨i,t,rfl,rfl⟩|⟨x,t,rfl,rfl⟩
  . rcases cN hv with ⟨j,u,rfl,rfl⟩|⟨y,u,rfl,rfl⟩
    rw[a7V]at h;exact wpAny_eqBool_int h;rw[a7U]at h;exact WZ i t y u _ _ _ _ h
  . rcases cN hv with ⟨j,u,rfl,rfl⟩|⟨y,u,rfl,rfl⟩
    rw[a7T]at h;exact WY x t j u _ _ _ _ h;rw[a7S]at h;exact wpAny_eqBool_str h
 «strs»:=λk x t v h=>by
  rcases cN h with ⟨i,u,rfl,e⟩|⟨y,u,rfl,e⟩
  exact nomatch e
  . injection e with e1 _
    subst e1;cases v<;>rfl
def Nv(prog:S6)(w:N6)(i:Int)(t:Tok):(bj prog w).is (S0 i) (U8 i t)=Uf:=UO i t
def Nu(prog:S6)(w:N6)(x:Str)(t:Tok):(bj prog w).is (O6 x) (eZ x t)=Uf:=UN x t
inductive V where
 |non|bl (b:Bool)|int (i:Int)|str (x:Str)|byt (b:Array UInt8)|flt (b:UInt64)|ref (a:Addr)|ty (n:String)
 deriving DecidableEq
variable{l:List (Option V)}{z:List V}{M:V}{h8:List (Str×V)}
def RelV:V->A1->Prop
 | .non,u=>u=eV
 | .bl b,u=>u=zN b
 | .int i,u=>∃t,u=Ex i t
 | .str x,u=>∃t,u=zL x t
 | .byt b,u=>∃t,u=Value.bytes b t
 | .flt b,u=>∃t,u=Value.float b t
 | .ref a,u=>u=X2 a
 | .ty n,u=>u=EA n
abbrev Vals:List V->List A1->Prop:=Paired RelV
theorem Vals.length(r:Vals z I):z.length=I.length:=ES r
theorem Vals.get:∀{xs:List V}{us:List A1}{i:Nat}{x:V},Vals xs us->xs[i]?=U x->∃u,us[i]?=U u/\RelV x u
 |_,_,_,_,P1,e=>by simp at e
 |_,_,0,_,N8 r _,e=>by simp at e;subst e;exact⟨_,rfl,r⟩
 |_,_,i+1,x,N8 _ t,e=>by
  obtain⟨u,b,a⟩:=Vals.get t (by simpa using e);exact⟨u,by simpa using b,a⟩
theorem Vals.set{x:V}{u:A1}(r:RelV x u):∀{xs:List V}{us:List A1} (i:Nat),Vals xs us->Vals (xs.set i x) (us.set i u)
 |_,_,_,P1=>P1
 |_,_,0,N8 _ t=>N8 r t
 |_,_,i+1,N8 q t=>N8 q<|Vals.set r i t
def Vals.append{ys:List V}{ws:List A1}(h:Vals z I)(s:Vals ys ws):Vals (z++ys)<|I++ws:=by
 induction h with
 |nil=>exact s
 |cons r t i=>exact N8 r i
theorem Vals.take:∀{xs:List V}{us:List A1} (n:Nat),Vals xs us->Vals (xs.take n) (us.take n)
 |_,_,0,_=>P1
 |_,_,_+1,P1=>P1
 |_,_,n+1,N8 r t=>N8 r<|Vals.take n t
theorem Vals.drop:∀{xs:List V}{us:List A1} (n:Nat),Vals xs us->Vals (xs.drop n) (us.drop n)
 |_,_,0,r=>r
 |_,_,_+1,P1=>P1
 |_,_,n+1,N8 _ t=>Vals.drop n t
def jD:Option V->Option A1->Prop
 |some v,U u=>RelV v u
 |none,J=>True
 |_,_=>False
def KV:List (i5×V)->List (i5×A1)->Prop:=Paired λ(p:i5×V) (q:i5×A1)=>p.1=q.1/\RelV p.2 q.2
def kV:Key->V
 |S0 i=>.int i
 |O6 x=>.str x
inductive HO where
 |lst (xs:List V)
 |tup (xs:List V)
 |dK (kvs:List<|Key×V)|dT (kvs:List<|List Key×V)
 |set (S:Int->Bool) (n:Nat)
 |ins (C dx:Addr) (fs:List<|Str×V)
 |own (x:Addr)
 |xd (fs:List<|Str×V)
 |met (f x:Addr)
 |rng (lo hi:Int)
 |iF (o:Obj) (u:HO)
 |tbl (ps:Array A1)
 |ext (φ:Heap->Prop)
variable{B:HO}
abbrev Hp:=Addr->Option HO
variable{d:Hp}
noncomputable def upd(H:Hp)(a:Addr)(o:HO):Hp:=λb=>if b=a then U o else H b
def K8:upd d e B e=U B:=by delta upd;rw[A6 rfl]
def F9(h:y≠e):upd d e B y=d y:=by delta upd;rw[B2 h]
def a3n{u:HO}:upd (upd d e B) e u=upd d e u:=by funext b;delta upd;split<;>rfl
def b0p{u:HO}(h:d e=U B)(h':d y=U u)(H:B≠u):e≠y:=by intro a;subst a;rw[h]at h';exact H<|dY h'
def T9(h:d e=U B)(h':d y=J):e≠y:=by intro H;subst H;rw[h]at h';exact nS h'
section
variable(P:S6)(w:N6)
def Z2(H:Hp)(h:Heap)(a:Addr):HO->Prop
 | .lst xs=>xs.length<=G7/\∃(its:List A1) (n:Nat),Vals xs its/\h.get? a=U {cls:=E8 "list",data:=W7 its.toArray n}
 | .tup xs=>xs.length<=G7/\∃its:List A1,Vals xs its/\IsTup h a its.toArray
 | .dK kvs=>kvs.length<=G7/\(a==lM)=U'/\∃vs,KV kvs vs/\h.DictOf (bj P w) a vs
 | .dT kvs=>kvs.length<=G7/\(a==lM)=U'/\∃xs:List<|List Key×Addr×A1,
   Paired (λ(p:List Key×V) (q:List Key×Addr×A1)=>p.1=q.1/\H q.2.1=U (.tup<|p.1.map kV)/\RelV p.2 q.2.2) kvs xs /\
   ∃o es ep,h.get? a=U o/\o.ExactDict/\o.data=dX es ep/\es.toList=xs.map (entryOfKey<|tQ<|bj P w)/\(xs.map (·.1)).Nodup
 | .set S n=>h.SetOf (intKind P w) a S n
 | .ins C dx fs=>H dx=U (.own a)/\fs.length<=1000/\dx≠a/\h.get? a=U (qS C dx) /\
   ∃mA,h.Ns1 dx mA/\(∀f,jD (fs.lookup f)<|mA f)/\LQ mA (fs.map (·.1))
 | .own _=>∃o,h.get? a=U o
 | .xd fs=>∃mA,h.Ns1 a mA/\∀f,jD (fs.lookup f)<|mA f
 | .rng lo hi=>∃t u v,h.get? a=U {cls:=E8 "range",data:=O3 #[U8 lo t,U8 hi u,U8 1 v]}
 | .iF o u=>h.get? a=U o/\Z2 H h a u
 | .tbl ps=>h.get? a=U {cls:=F0,data:=O3 ps}
 | .met f x=>h.get? a=U (PySem.W.methodObj (A5 f)<|A5 x)
 | .ext φ=>φ h/\(∃o,h.get? a=U o)/\∀h1 h2:Heap,φ h1->(∀o,h1.get? a=U o->h2.get? a=U o)->φ h2
def dQ(H:Hp)(h:Heap):Prop:=∀a o,H a=U o->Z2 P w H h a o
end
section
variable{H:Hp}{h:Heap}
theorem Z2.lt{P:S6}{w:N6}{a:Addr}{o:HO}(x:Z2 P w H h a o):a<h.objs.size:=by
 cases o with
 |lst c=>obtain⟨_,_,_,_,e⟩:=x;exact L6 e
 |tup c=>obtain⟨_,_,_,p⟩:=x;exact p.lt
 |dK b=>obtain⟨_,_,_,_,o,_,_,e,_⟩:=x;exact L6 e
 |dT b=>obtain⟨_,_,_,_,o,_,_,e,_⟩:=x;exact L6 e
 |set S n=>obtain⟨o,_,_,_,e,_⟩:=x;exact L6 e
 |ins C k fs=>obtain⟨_,_,_,e,_⟩:=x;exact L6 e
 |own y=>obtain⟨_,e⟩:=x;exact L6 e
 |xd fs=>obtain⟨_,⟨_,_,_,e,_⟩,_⟩:=x;exact L6 e
 |rng j d=>obtain⟨_,_,_,e⟩:=x;exact L6 e
 |iF i u=>obtain⟨e,_⟩:=x;exact L6 e
 |tbl g=>exact L6<|show h.get? a=U _ from x
 |met f y=>exact L6<|show h.get? a=U _ from x
 |ext φ=>obtain⟨_,⟨_,e⟩,_⟩:=x;exact L6 e
def Paired.a7K{e:Type}{F G:i5->e->Prop}{c:List i5}{l:List e}(h:Paired F c l)(f:∀a b,F a b->G a b):Paired G c l:=by
 induction h with
 |nil=>exact P1
 |cons r t i=>exact N8 (f _ _ r) i
def Z2.sH(x:Z2 o q H h e B)(k:∀b u,(b=e\/H b=U (.own e))->h.get? b=U u->g.get? b=U u)(F:∀b,H b=U (.own e)->d b=U (.own e))(E:∀b xs,H b=U (.tup xs)->d b=U (.tup xs)):Z2 o q d g e B:=by
 induction B with
 |lst xs=>obtain⟨z,l,n,r,O⟩:=x;exact⟨z,l,n,r,k _ _ (B3 rfl) O⟩
 |tup xs=>obtain⟨z,l,r,a,O,c⟩:=x;exact⟨z,l,r,a,k _ _ (B3 rfl) O,c⟩
 |dK A=>obtain⟨z,y,G,r,a,i,j,O,c⟩:=x;exact⟨z,y,G,r,a,i,j,k _ _ (B3 rfl) O,c⟩
 |dT A=>
  obtain⟨z,y,xs,r,a,i,j,O,c⟩:=x;exact⟨z,y,xs,Paired.a7K r λp P z=>⟨z.1,E _ _ z.2.1,z.2.2⟩,a,i,j,k _ _ (B3 rfl) O,c⟩
 |set S n=>obtain⟨a,i,j,t,O,c⟩:=x;exact⟨a,i,j,t,k _ _ (B3 rfl) O,c⟩
 |ins C N fs=>
  obtain⟨w,z,ne,O,m,⟨s,i,j,I,c⟩,r⟩:=x;exact⟨F _ w,z,ne,k _ _ (B3 rfl) O,m,⟨s,i,j,k _ _ (B6 w) I,c⟩,r⟩
 |own y=>obtain⟨a,O⟩:=x;exact⟨a,k _ _ (B3 rfl) O⟩
 |xd fs=>obtain⟨m,⟨s,i,j,O,c⟩,r⟩:=x;exact⟨m,⟨s,i,j,k _ _ (B3 rfl) O,c⟩,r⟩
 |rng M K=>obtain⟨t,u,v,O⟩:=x;exact⟨t,u,v,k _ _ (B3 rfl) O⟩
 |iF a u D=>obtain⟨O,P⟩:=x;exact⟨k _ _ (B3 rfl) O,D P⟩
 |tbl L=>
  have O:=x;exact k e _ (B3 rfl) O
 |met f y=>
  have O:=x;exact k e _ (B3 rfl) O
 |ext φ=>obtain⟨p,⟨B,O⟩,Q⟩:=x;exact⟨Q _ _ p λB P=>k _ _ (B3 rfl) P,⟨B,k _ _ (B3 rfl) O⟩,Q⟩
theorem dQ.lt(x:dQ o q H h)(P:H e=U B):e<h.objs.size:=(x e B P).lt
def dQ.fresh(x:dQ o q H h)(w:h.objs.size<=e):H e=J:=by
 cases P:H e with
 |none=>rfl
 |some u=>exact absurd (Q8 (x.lt P) w)<|cO _
def dQ.kept(x:dQ o q H h)(k:∀b u,h.get? b=U u->g.get? b=U u):dQ o q H g:=λa P e=>
 (x a P e).sH (λb u _ w=>k b u w) (λ_ w=>w) λ_ _ w=>w
def dQ.laid{P:S6}{o:HO}(x:dQ P q H h)(k:∀b u,h.get? b=U u->g.get? b=U u)(a:h.objs.size<=e)(new:Z2 P q (upd H e o) g e o):dQ P q (upd H e o) g:=λb u j=>by
 have d:=x.fresh a;by_cases f:b=e;subst f;rw[K8]at j;cases j;exact new
 . rw[F9 f]at j;exact(x b u j).sH (λc v _ w=>k c v w) (λc w=>by rw[F9<|T9 w d];exact w) λc i w=>by rw[F9<|T9 w d];exact w
end
def Rd(H:Hp)(a:Addr)(u:HO):Prop:=H a=U u\/∃o,H a=U (.iF o u)
def Rd.ok(r:Rd d e B)(x:dQ o q d g):Z2 o q d g e B:=by
 rcases r with r|⟨P,r⟩
 exact x e B r;obtain⟨_,w⟩:=x e _ r;exact w
def VU:Option HO->Prop
 |some (.lst _)=>True
 |some (.dK _)=>True
 |some (.dT _)=>True
 |some (.set _ _)=>True
 |some (.ins _ _ _)=>True
 |some (.ext _)=>True
 |_=>False
section
variable{H:Hp}{h:Heap}
def dQ.write(ok:dQ o q H h)(mu:VU<|H y)(m:e=y\/H e=U (.own y))(k:∀b u,b≠e->h.get? b=U u->g.get? b=U u)(l:∃u,g.get? e=U u)(new:Z2 o q (upd H y B) g y B):dQ o q (upd H y B) g:=λb u w=>by
 have d:∀c p,H c=U (.own p)->c≠y:=λc p r z=>by subst z;rw[r]at mu;exact mu
 have f:∀c x,H c=U (.tup x)->c≠y:=λc x r z=>by subst z;rw[r]at mu;exact mu
 by_cases j:b=y;subst j;rw[K8]at w;cases w;exact new
 . rw[F9 j]at w;by_cases a:b=e
   . have n:H b=U (.own y):=by
       rcases m with z|z
       exact absurd (a.trans z) j;rw[a];exact z
     rw[w]at n;cases n;obtain⟨v,P⟩:=l;exact⟨v,by rw[a];exact P⟩
   . refine(ok b u w).sH (λc v i r=>k c v ?_ r) (λc r=>by rw[F9<|d c b r];exact r) λc x r=>by rw[F9<|f c x r];exact r
     rcases i with rfl|i
     exact a
     . rintro rfl;rcases m with z|z
       exact d c b i z;rw[i]at z;cases z;exact j rfl
end
structure Un(fs ex:List Addr)(H H':Hp)(h h':Heap):Prop where
 keep:∀b o,h.get? b=U o->H b=J->b∉fs->b∉ex->h'.get? b=U o
 slot:∀b o,h.get? b=U o->H b=J->b∈fs->b∉ex->∃sl,h'.get? b=U {o with slots:=sl}
 free:∀b o,h.get? b=U o->H b=J->b∉ex->H' b=J
 there:∀b o,h.get? b=U o->b∉ex->∃o',h'.get? b=U o'
 xr:∀b xs,H b=U (.tup xs)->H' b=U (.tup xs)
 vt:∀b o u,H b=U (.iF o u)->H' b=U (.iF o u)
 xu:∀b ps,H b=U (.tbl ps)->∃more,H' b=U (.tbl<|ps++more)
section
variable{H:Hp}{h:Heap}
def Un.any{ex:List Addr}(u:Un O ex H d h g)(q:h.get? e=U b9)(n:H e=J)(c:e∉ex):∃b,g.get? e=U {b9 with slots:=b}:=by
 by_cases a:e∈O;exact u.slot e b9 q n a c;exact⟨b9.slots,u.keep e b9 q n a c⟩
def Un.kept{ex:List Addr}(k:∀b u,h.get? b=U u->g.get? b=U u):Un O ex H H h g:=
 ⟨λb a q _ _ _=>k b a q,λb a q _ _ _=>⟨a.slots,k b a q⟩,λ_ _ _ n _=>n,λb a q _=>⟨a,k b a q⟩,λ_ _ q=>q,λ_ _ _ q=>q,λ_ c q=>⟨#[],by rw[q];simp⟩⟩
def Un.refl{ex:List Addr}:Un O ex H H h h:=Un.kept λ_ _ q=>q
def Un.laid{ex:List Addr}{o:HO}(k:∀b u,h.get? b=U u->g.get? b=U u)(a:h.objs.size<=e)(c:H e=J):Un O ex H (upd H e o) h g where
 keep:=λb u q _ _ _=>k b u q
 slot:=λb u q _ _ _=>⟨u.slots,k b u q⟩
 free:=λb u q n _=>by rw[F9<|Z9<|Q8 (L6 q) a];exact n
 there:=λb u q _=>⟨u,k b u q⟩
 xr:=λb d q=>by rw[F9<|T9 q c];exact q
 vt:=λb u d q=>by rw[F9<|T9 q c];exact q
 xu:=λb f q=>⟨#[],by rw[F9<|T9 q c,q];simp⟩
def Un.write{ex:List Addr}{o:HO}(mu:VU<|H y)(i:e=y\/H e=U (.own y))(k:∀b u,b≠e->h.get? b=U u->g.get? b=U u)(d:∃u,g.get? e=U u):Un O ex H (upd H y o) h g:=by
 have f:∀b,H b=J->b≠y:=λb n z=>by subst z;rw[n]at mu;exact mu
 have x:∀b,H b=J->b≠e:=λb n z=>by
  subst z;rcases i with r|r
  exact f b n r;rw[n]at r;exact nE r
 have c:∀b u,H b=U u->¬VU (U u)->b≠y:=λb u q j z=>by subst z;rw[q]at mu;exact j mu
 refine⟨λb u q n _ _=>k b u (x b n) q,λb u q n _ _=>⟨u.slots,k b u (x b n) q⟩,λb u q n _=>by rw[F9<|f b n];exact n,λb u q _=>?_,
  λb l q=>by rw[F9<|c b _ q λz=>z];exact q,λb u l q=>by rw[F9<|c b _ q λz=>z];exact q,λb m q=>⟨#[],by rw[F9<|c b _ q λz=>z,q];simp⟩⟩
 by_cases a:b=e;subst a;exact d;exact⟨u,k b u a q⟩
end
noncomputable def trk(h:Heap)(H:Hp):List Addr:=(Z4 h.objs.size).filter λa=>(H a).isSome
def zh(h:Heap)(H:Hp):Heap:=PySem.W.hideAll h<|trk h H
def Vl(h:Heap)(H:Hp):(zh h H).objs.size=h.objs.size:=PySem.W.hideAll_size _ _
def a0T(h:g.get? e=U b9)(n:d e=J):(zh g d).get? e=U b9:=
 PySem.W.hideAll_get _ h λa=>by have q:=(List.mem_filter.mp a).2;rw[n]at q;simp at q
def a4G(h:(zh g d).get? e=U b9):g.get? e=U b9/\d e=J:=by
 have a:=PySem.W.of_hideAll (trk g d) h;refine⟨a,?_⟩;cases q:d e with
 |none=>rfl
 |some x=>
  have c:e∈trk g d:=List.mem_filter.mpr ⟨mem_range.mpr<|L6 a,by simp[q]⟩;have z:(zh g d).get? e=J:=PySem.W.hideAll_none (trk g d) c;rw[z]at h;exact nE h
noncomputable def a5F(g h:Heap)(L:Addr):List<|Addr×Obj:=(Z4 h.objs.size).filterMap λa=>if a=L\/(g.get? a).isSome=Uf then J else(h.get? a).map λo=>(a,o)
def rest(g h:Heap)(L d:Addr):List<|Addr×Obj:=(a5F g h L).filter λp=>decide (p.1≠d)
structure Mod(K:D4)(mg:Str->Option A1)(base:Heap):Prop where
 yZ:K.In base
 glob:base.Ns U0 mg
 blt:∃mb,base.Ns builtinsNs mb/\∀x:Str,x ≠ "__name__"->mb x=jO x
 nolimit:base.NoLimit
structure Cx where
 prog:S6
 w:N6
 K:D4
 mg:Str->Option A1
 base:Heap
 A:X1
 N:List Str
 ag:C5
 D8:Hp
 env:Env
 outer:List Env
 stack:List Env
 ex:List Addr
 fn:Str->Bool
 calm:Bool
 pn:List<|Addr×Obj
 xe:A1->C5->Prop
 ek:A1->Option Addr->Hp->Prop:=λ_ _ _=>False
variable{X:Cx}
abbrev fS(X:Cx)(e:Expr)(es:List Expr):Prop:=O7 (e::es) X.env=(U',eval e X.env)::O7 es X.env
abbrev lF(X:Cx)(p:Pos)(es:List Expr):Prop:=(bP p<|O7 es X.env).any (·.1)=U'
abbrev jj(x:Str):Prop:=(x==("__debug__" : Str))=U'
abbrev yz(X:Cx)(x:Str):Prop:=X.fn x=Uf\/X.env.scope.names.lookup x=U aX
abbrev Fsi(X:Cx)(e:Expr):Prop:=∀x,foldedSetIterable e X.env x=pure x
abbrev Nf(X:Cx)(o:Expr)(m:Str):Prop:=uf o m X.env (eval o X.env)=eval o X.env
abbrev Px(X:Cx)(o:Expr)(m:Str)(a:Pos)(es:List Expr)(p:Pos)(pl:Sem Bool):Prop:=eval (L8 (Q0 o m a) es [] p) X.env=(do
 let ov <- eval o X.env
 wx a.atName
 let (f,first) <- holding [ov] (Ew ov m pl)
 callWith p f first (bP p<|O7 es X.env) (zI p<|zP [] X.env))
noncomputable def aY(l:List Env):List Addr:=l.filterMap (·.frame)
abbrev Cx.fs(X:Cx):List Addr:=aY X.outer
def Pu(sc:cV)(x:Str):Prop:=sc.names.lookup x=U aX\/sc.names.lookup x=U aV\/sc.names.lookup x=U cQ
def Loc(sc:cV)(x:Str):Prop:=sc.names.lookup x=U aX\/sc.names.lookup x=U aV
def Look(env:Env)(h:Heap)(m:Str->Option A1)(x:Str)(u:A1):Prop:=
 (env.kindOf x=U aX/\m x=U u)\/((env.kindOf x=U aV\/env.kindOf x=U cQ)/\∃c,env.cells.lookup x=U c/\h.IsCell c (U u))
structure Cx.Ok(X:Cx):Prop where
 mod:Mod X.K X.mg X.base
 kind:X.env.scope.kind=mC
 glob:X.env.globals=U0
 blt:X.env.builtins=builtinsNs
 above:X.ag.heap.objs.size<=X.env.locals
 inj:∀x y c,X.env.cells.lookup x=U c->X.env.cells.lookup y=U c->x=y
 has:∀x,(X.env.kindOf x=U aV\/X.env.kindOf x=U cQ)->∃c,X.env.cells.lookup x=U c
 HY:∀x c,X.fn x=Uf->X.env.cells.lookup x=U c->X.ag.heap.objs.size<=c
 hd:X.calm=Uf->X.A.handled=J
 frames:X.A.frames=U X.stack
 Ji:X.stack=X.outer\/(X.stack=X.env::X.outer/\X.env.frame=U X.env.locals)
 Pb:∀b∈X.ex,b≠X.env.locals/\∀x c,X.env.cells.lookup x=U c->c≠b
 bs:∀b o,X.base.get? b=U o->X.ag.heap.get? b=U o/\X.D8 b=J
 uV:X.base.objs.size<=X.ag.heap.objs.size
 xJ:∀b o,X.base.get? b=U o->b∉X.ex
 zo:∀b∈X.ex,b∉X.fs
 mQ:X.ag.heap.FunFrames X.base X.outer
 BI:∀b∈X.fs,X.D8 b=J
structure Inv(X:Cx)(pins:List<|Addr×Obj)(σ:List<|Option V)(H:Hp)(s:C5):Prop where
 ok:X.Ok
 os:s.os=X.ag.os
 bare:jH s.gens
 base:Un X.fs X.ex X.D8 H X.ag.heap s.heap
 loc:∃m,s.heap.Ns X.env.locals m/\∀(i:Nat) (x:Str) (v:V),X.N[i]?=U x->σ[i]?=U (U v)->Pu X.env.scope x->∃u,RelV v u/\Look X.env s.heap m x u
 cell:∀x c,X.env.cells.lookup x=U c->∃v,s.heap.IsCell c v
 free:H X.env.locals=J
 fm:∀x c,X.env.cells.lookup x=U c->H c=J
 pin:∀p∈X.pn++pins,s.heap.get? p.1=U p.2/\H p.1=J/\p.1≠X.env.locals/\p.1∉X.fs/\∀v,p.2.data≠qR v
 H9:dQ X.prog X.w H s.heap
 len:σ.length=X.N.length
section
variable{H:Hp}
def Cx.Ok.b1H(ok:X.Ok)(b:X.base.get? e=U b9):e∉X.fs:=λa=>by have:=(ok.mQ.mem a).1;rw[b]at this;exact nS this
theorem Inv.bs(I:Inv X c l H a):∀b o,X.base.get? b=U o->a.heap.get? b=U o/\H b=J:=λb o e=>
 ⟨I.base.keep b o (I.ok.bs b o e).1 (I.ok.bs b o e).2 (I.ok.b1H e)<|I.ok.xJ b o e,I.base.free b o (I.ok.bs b o e).1 (I.ok.bs b o e).2<|I.ok.xJ b o e⟩
def Inv.bk(I:Inv X c l H a):∀b o,X.base.get? b=U o->a.heap.get? b=U o:=λb o e=>(I.bs b o e).1
theorem Inv.mod(I:Inv X c l H a):Mod X.K X.mg X.base:=I.ok.mod
def Inv.bI(I:Inv X c l H a):X.K.In a.heap:=I.ok.mod.yZ.keeps I.bk
def Inv.fr{s:C5}(I:Inv X c l H s):∃m,Fr X.base X.env.locals s.heap m:=
 let ⟨m,a,_⟩:=I.loc
 ⟨m,a,I.bk,D6 I.ok.uV I.ok.above⟩
theorem Inv.lt(I:Inv X c l H a):X.env.locals<(hz a):=let ⟨_,σ,_⟩:=I.loc;σ.lt
def Inv.sz(I:Inv X c l H a):X.ag.heap.objs.size<=(hz a):=D6 I.ok.above<|fY I.lt
def Inv.a0u(I:Inv X c l H a)(h:(hz a)<=e):e∉X.fs:=λb=>by obtain⟨_,o,σ,_⟩:=I.ok.mQ.mem b;exact absurd (Q8 (L6 σ)<|D6 I.sz h)<|cO _
def Inv.zr(I:Inv X c l H a):∀x σ,X.env.cells.lookup x=U σ->σ≠X.env.locals:=λx σ e z=>by obtain⟨v,o,f,d⟩:=I.cell x σ e;obtain⟨m,⟨i,g,h,s,b,_⟩,_⟩:=I.loc;rw[z,s]at f;cases f;rw[b]at d;cases d
theorem Inv.mQ{X:Cx}{pins:List (Addr×Obj)}{σ:List (Option V)}{s:C5}(I:Inv X pins σ H s):s.heap.FunFrames X.base X.outer:=by
 have all:∀l,(∀b∈aY l,b∈X.fs)->X.ag.heap.FunFrames X.base l->s.heap.FunFrames X.base l:=by
  intro l;induction l with
  |nil=>intro _ _;trivial
  |cons j r i=>
   intro f n;obtain⟨p,⟨L,o,d,h,k,g⟩,m⟩:=n;have a:=f L (by delta aY;rw[FP,d];exact K9);obtain⟨q,e⟩:=I.base.slot L o k (I.ok.BI L a) a λz=>I.ok.zo L z a;exact⟨p,⟨L,_,d,h,e,g⟩,i (λb c=>f b (by delta aY;rw[FP,d];exact G6 _ c)) m⟩
 exact all X.outer (λ_ c=>c) I.ok.mQ
theorem Inv.stack(I:Inv X c l H a):a.heap.FunFrames X.base X.stack:=by
 rcases I.ok.Ji with e|⟨e,σ⟩
 rw[e];exact I.mQ
 . rw[e];obtain⟨m,b,_⟩:=I.loc;refine PySem.Heap.FunFrames.cons (by rw[I.ok.kind];decide) σ b ?_ I.mQ;exact MI<|D6 I.ok.uV I.ok.above
def Inv.yG(I:Inv X c l H a):∀b∈aY X.stack,b∈X.env.locals::X.fs:=λb s=>by
 rcases I.ok.Ji with e|⟨e,σ⟩
 rw[e]at s;exact G6 _ s;rw[e]at s;unfold aY at s;rw[FP,σ]at s;exact s
def Inv.vH(I:Inv X c l H a):∀b∈aY X.stack,H b=J:=λb s=>by
 rcases List.mem_cons.mp (I.yG b s)with e|s
 rw[e];exact I.free;obtain⟨_,o,σ,_⟩:=I.ok.mQ.mem s;exact I.base.free b o σ (I.ok.BI b s) λz=>I.ok.zo b z s
def Inv.step{t':Nat}{d':Drawn}{ch:List Addr}(I:Inv X c l H a)(Y:∀b∈ch,(b∈X.ex\/X.ag.heap.objs.size<=b)/\b≠X.env.locals/\(∀x σ,X.env.cells.lookup x=U σ->σ≠b)/\∀p∈X.pn++c,p.1≠b)(keep:∀b o,b≠X.env.locals->b∉X.fs->b∉ch->a.heap.get? b=U o->H b=J->g.get? b=U o)(slot:∀b o,b≠X.env.locals->b∈X.fs->b∉ch->a.heap.get? b=U o->H b=J->∃L,g.get? b=U {o with slots:=L})(free:∀b o,b∉ch->a.heap.get? b=U o->H b=J->d b=J)(there:∀b o,b∉ch->a.heap.get? b=U o->∃D,g.get? b=U D)(xr:∀b xs,H b=U (.tup xs)->d b=U (.tup xs))(vt:∀b o u,H b=U (.iF o u)->d b=U (.iF o u))(xu:∀b E,H b=U (.tbl E)->∃more,d b=U (.tbl<|E++more))(ns:∀m,a.heap.Ns X.env.locals m->g.Ns X.env.locals m)(K:dQ X.prog X.w d g)(Q:jH j1):
  Inv X c l d {a with heap:=g,gens:=j1,drawn:=d',toks:=t'}:=by
 have B:∀b o,X.ag.heap.get? b=U o->b≠X.env.locals:=λb o e=>Z9<|Q8 (L6 e) I.ok.above
 have j:∀b o,X.ag.heap.get? b=U o->b∉X.ex->b∉ch:=λb o e W y=>by
  rcases(Y b y).1 with z|z
  exact W z;exact absurd (Q8 (L6 e) z)<|cO _
 have h:∀x σ,X.env.cells.lookup x=U σ->∀v,a.heap.IsCell σ v->g.IsCell σ v:=λx σ e v ⟨o,A,F⟩=>by
  have f:=λz=>(Y σ z).2.2.1 x σ e rfl;by_cases O:σ∈X.fs;obtain⟨L,q⟩:=slot σ o (I.zr x σ e) O f A<|I.fm x σ e;exact⟨_,q,F⟩;exact⟨o,keep σ o (I.zr x σ e) O f A<|I.fm x σ e,F⟩
 refine⟨I.ok,I.os,Q,⟨λb o e n y W=>?_,λb o e n y W=>?_,λb o e n W=>?_,λb o e W=>?_,λb xs e=>xr b xs<|I.base.xr b xs e,λb o xs e=>vt b o xs<|I.base.vt b o xs e,λb E e=>?_⟩,?_,λx σ e=>?_,?_,λx σ e=>?_,λp N=>?_,K,I.len⟩;exact keep b o (B b o e) y (j b o e W) (I.base.keep b o e n y W)<|I.base.free b o e n W;obtain⟨L,t⟩:=I.base.slot b o e n y W;obtain⟨G,C⟩:=slot b _ (B b o e) y (j b o e W) t<|I.base.free b o e n W;exact⟨G,C⟩;obtain⟨D,t⟩:=I.base.there b o e W;exact free b D (j b o e W) t<|I.base.free b o e n W;obtain⟨D,t⟩:=I.base.there b o e W;exact there b D (j b o e W) t;obtain⟨m1,t⟩:=I.base.xu b E e;obtain⟨T,C⟩:=xu b _ t;exact⟨m1++T,by rw[C,Array.append_assoc]⟩
 . obtain⟨m,S,P⟩:=I.loc;refine⟨m,ns m S,λi x v t C R=>?_⟩
   obtain⟨u,r,s⟩:=P i x v t C R;refine⟨u,r,?_⟩;rcases s with s|⟨k,σ,e,z⟩
   exact B3 s;exact B6 ⟨k,σ,e,h x σ e _ z⟩
 obtain⟨v,z⟩:=I.cell x σ e;exact⟨v,h x σ e v z⟩;obtain⟨m,⟨o,_,_,A,_⟩,_⟩:=I.loc;exact free _ o (λz=>(Y _ z).2.1 rfl) A I.free;obtain⟨v,o,A,F⟩:=I.cell x σ e;exact free σ o (λz=>(Y σ z).2.2.1 x σ e rfl) A<|I.fm x σ e
 . obtain⟨e,n,ne,M,w⟩:=I.pin p N;have f:=λz=>(Y p.1 z).2.2.2 p N rfl;exact⟨keep p.1 p.2 ne M f e n,free p.1 p.2 f e n,ne,M,w⟩
def Inv.un{s:C5}(I:Inv X c l H s)(u:Un X.fs [] H d s.heap g)(σ:dQ X.prog X.w d g):Inv X c l d {s with heap:=g,toks:=k}:=by
 obtain⟨m,⟨o,w,t,h,r⟩,_⟩:=id I.loc;obtain⟨p,A⟩:=u.any h I.free C9;exact I.step (ch:=[]) (λ_ z=>nomatch z) (λb o _ y _ e n=>u.keep b o e n y C9) (λb o _ y _ e n=>u.slot b o e n y C9) (λb o _ e n=>u.free b o e n C9) (λb o _ e=>u.there b o e C9) u.xr u.vt u.xu (λq i=>by obtain⟨v,x,f,a,j⟩:=i;rw[h]at a;cases a;exact⟨_,x,f,A,j⟩) σ I.bare
def Inv.call{d':Drawn}{ch:List Addr}(I:Inv X c l H a)(u:Un (aY X.stack) ch H d a.heap g)(h:dQ X.prog X.w d g)(v:jH j1)(f:∀b∈ch,(b∈X.ex\/X.ag.heap.objs.size<=b)/\b≠X.env.locals/\(∀x σ,X.env.cells.lookup x=U σ->σ≠b)/\∀p∈X.pn++c,p.1≠b):
  Inv X c l d {a with heap:=g,gens:=j1,drawn:=d',toks:=k}:=by
 obtain⟨m,⟨o,y,B,G,r⟩,_⟩:=id I.loc;obtain⟨A,F⟩:=u.any G I.free λz=>(f _ z).2.1 rfl;exact I.step f (λb o F s E e n=>u.keep b o e n (λz=>(List.mem_cons.mp<|I.yG b z).elim F s) E) (λb o _ _ E e n=>u.any e n E) (λb o E e n=>u.free b o e n E) (λb o E e=>u.there b o e E) u.xr u.vt u.xu (λC q=>by obtain⟨D,j,i,w,t⟩:=q;rw[G]at w;cases w;exact⟨_,j,i,F,t⟩) h v
def Inv.turned{s:C5}{h':Heap}{t':Nat}(I:Inv X c l H s)(k:∀b o,b≠e->s.heap.get? b=U o->h'.get? b=U o)(g:H e=J)(f:e≠X.env.locals)(y:e∈X.ex\/X.ag.heap.objs.size<=e)(j:∀x σ,X.env.cells.lookup x=U σ->σ≠e)(C:∀p∈X.pn++c,p.1≠e):Inv X c l H {s with heap:=h',toks:=t'}:=by
 have d:∀b u,H b=U u->b≠e:=λb u D z=>by rw[z,g]at D;exact nE D
 refine I.step (ch:=[e]) (λb A=>?_) (λb o _ _ a D _=>k b o (λz=>a<|by simp[z]) D) (λb o _ _ a D _=>⟨o.slots,k b o (λz=>a<|by simp[z]) D⟩) (λ_ _ _ _ n=>n)
  (λb o a D=>⟨o,k b o (λz=>a<|by simp[z]) D⟩) (λ_ _ D=>D) (λ_ _ _ D=>D) (λb B D=>⟨#[],by rw[D];simp⟩) (λm w=>?_) (λb u D=>?_) I.bare
 . have D:b=e:=by simpa using A
   subst D;exact⟨y,f,j,C⟩
 obtain⟨o,h,t,i,r⟩:=w;exact⟨o,h,t,k _ o (P9 f) i,r⟩
 . refine(I.H9 b u D).sH (λσ v a q=>k σ v ?_ q) (λ_ q=>q) λ_ _ q=>q
   rcases a with z|z
   rw[z];exact d b u D;exact d σ _ z
def Inv.tok(I:Inv X c l H a)(t:Nat):Inv X c l H {a with toks:=t}:=I.un Un.refl I.H9
theorem Inv.kept(I:Inv X c l H a)(σ:∀b u,a.heap.get? b=U u->g.get? b=U u):Inv X c l H {a with heap:=g,toks:=k}:=I.un (Un.kept σ)<|I.H9.kept σ
theorem Inv.laid{o:HO}{t':Nat}(I:Inv X c l H a)(k:∀b u,a.heap.get? b=U u->g.get? b=U u)(σ:(hz a)<=e)(new:Z2 X.prog X.w (upd H e o) g e o):
  Inv X c l (upd H e o) {a with heap:=g,toks:=t'}:=I.un (Un.laid k σ<|I.H9.fresh σ)<|I.H9.laid k σ new
theorem Inv.write{o:HO}{t':Nat}(I:Inv X c l H a)(mu:VU<|H y)(σ:e=y\/H e=U (.own y))(k:∀b u,b≠e->a.heap.get? b=U u->g.get? b=U u)(s:∃u,g.get? e=U u)(new:Z2 X.prog X.w (upd H y o) g y o):Inv X c l (upd H y o) {a with heap:=g,toks:=t'}:=I.un (Un.write mu σ k s)<|I.H9.write mu σ k s new
def Inv.weak{s:List (Option V)}(I:Inv X c l H a)(g:s.length=l.length)(w:∀(i:Nat) v,s[i]?=U (U v)->l[i]?=U (U v)):Inv X c s H a:=
 ⟨I.ok,I.os,I.bare,I.base,let ⟨m,σ,b⟩:=I.loc;⟨m,σ,λi x v e f d=>b i x v e (w i v f) d⟩,I.cell,I.free,I.fm,I.pin,I.H9,g.trans I.len⟩
def Inv.pG{σ:List (Addr×Obj)}(I:Inv X c l H a)(h:∀p∈σ,a.heap.get? p.1=U p.2/\H p.1=J/\p.1≠X.env.locals/\p.1∉X.fs/\∀v,p.2.data≠qR v):Inv X σ l H a:=
 ⟨I.ok,I.os,I.bare,I.base,I.loc,I.cell,I.free,I.fm,λp b=>(List.mem_append.mp b).elim (λz=>I.pin p<|fw _ z)<|h p,I.H9,I.len⟩
def Cj(d:N.Nodup){j:Nat}(a:N[k]?=U m)(b:N[j]?=U m):k=j:=by obtain⟨g,c⟩:=List.getElem?_eq_some_iff.mp a;obtain⟨f,e⟩:=List.getElem?_eq_some_iff.mp b;exact(Wx d).mp (c.trans e.symm)
def Sv{v:V}(I:Inv X c l H a)(hN:X.N.Nodup)(hi:X.N[k]?=U m)(hx:Loc X.env.scope m)(r:RelV v D)(h:∀s',Inv X c (l.set k<|U v) H s'->(∃s,tY s a.heap s'.heap/\(s=X.env.locals\/X.env.cells.lookup m=U s))->d6 () s')(hf:autoParam (yz X m) gQ):wpAny e8 A (storeName X.env m D) d6 u a:=by
 obtain⟨E,hn,hl⟩:=id I.loc;have hcls:(X.env.scope.kind==XH||(X.env.scope.kind==XQ&&X.env.locals != X.env.globals))=U':=by rw[I.ok.kind];rfl
 have hiσ:k<l.length:=by rw[I.len];exact(List.getElem?_eq_some_iff.mp hi).1
 have zr:=I.zr;have tracked:∀{s:Addr}{h':Heap},(∃o,a.heap.get? s=U o/\H s=J)->tY s a.heap h'->dQ X.prog X.w H h':=λ{s h'} ha hs b ob e=>by
  obtain⟨_,_,hfree⟩:=ha;refine(I.H9 b ob e).sH (λσ w' hc q=>(hs.2 σ ?_).trans q) (λ_ q=>q) λ_ _ q=>q
  rintro rfl;rcases hc with rfl|hc
  rw[hfree]at e;exact nE e;rw[hfree]at hc;exact nE hc
 rcases hx with hk|hk
 . refine wpAny_storeName_local hk hn (λh' hn' hs=>?_) hcls;obtain⟨oL,_,_,hoL,_⟩:=id hn;refine h _ ⟨I.ok,I.os,I.bare,⟨λb o e n hb hx=>?_,λb o e n hb hx=>?_,I.base.free,λb o e hx=>?_,I.base.xr,I.base.vt,I.base.xu⟩,⟨_,hn',λj y v' e1 e2 e3=>?_⟩,λy σ e=>?_,I.free,I.fm,λp hp=>?_,tracked ⟨oL,hoL,I.free⟩ hs,by simpa using I.len⟩ ⟨_,hs,B3 rfl⟩;exact(hs.2 b<|Z9<|Q8 (L6 e) I.ok.above).trans (I.base.keep b o e n hb hx);obtain⟨sl,e1⟩:=I.base.slot b o e n hb hx;exact⟨sl,(hs.2 b<|Z9<|Q8 (L6 e) I.ok.above).trans e1⟩;obtain⟨o',e1⟩:=I.base.there b o e hx;exact⟨o',(hs.2 b<|Z9<|Q8 (L6 e) I.ok.above).trans e1⟩
   . by_cases hj:j=k;subst hj;rw[hi]at e1;cases e1;rw[xg hiσ]at e2;cases e2;exact⟨D,r,B3 ⟨hk,by simp⟩⟩
     . rw[ir<|P9 hj]at e2;obtain⟨u',r',q⟩:=hl j y v' e1 e2 e3;refine⟨u',r',?_⟩;rcases q with ⟨M,e⟩|⟨M,σ,e,z⟩
       . refine B3 ⟨M,?_⟩;have:y≠m:=λe=>hj<|Cj hN e1<|e▸hi;simp[this,e]
       exact B6 ⟨M,σ,e,z.sameBut hs<|zr y σ e⟩
   obtain⟨w',z⟩:=I.cell y σ e;exact⟨w',z.sameBut hs<|zr y σ e⟩;obtain⟨e,n,ne,nf,d⟩:=I.pin p hp;exact⟨(hs.2 p.1 ne).trans e,n,ne,nf,d⟩
 . have hfn:X.fn m=Uf:=by
     rcases hf with z|z
     exact z;rw[z]at hk;cases hk
   obtain⟨σ,hc⟩:=I.ok.has m<|B3 hk;obtain⟨w',z⟩:=I.cell m σ hc;refine wpAny_storeName_cell I.ok.kind hk hc z<|λh' hc' hs=>?_;obtain⟨oc,hoc,hocd⟩:=id z;refine h {a with heap:=h'} ⟨I.ok,I.os,I.bare,⟨λb o e n hb hx=>?_,λb o e n hb hx=>?_,I.base.free,λb o e hx=>?_,I.base.xr,I.base.vt,I.base.xu⟩,⟨E,hn.sameBut hs<|P9<|zr m σ hc,λj y v' e1 e2 e3=>?_⟩,λy c' e=>?_,I.free,I.fm,λp hp=>?_,tracked ⟨oc,hoc,I.fm m σ hc⟩ hs,by simpa using I.len⟩ ⟨σ,hs,B6 hc⟩;exact(hs.2 b<|Z9<|Q8 (L6 e)<|I.ok.HY m σ hfn hc).trans (I.base.keep b o e n hb hx);obtain⟨sl,e1⟩:=I.base.slot b o e n hb hx;exact⟨sl,(hs.2 b<|Z9<|Q8 (L6 e)<|I.ok.HY m σ hfn hc).trans e1⟩;obtain⟨o',e1⟩:=I.base.there b o e hx;exact⟨o',(hs.2 b<|Z9<|Q8 (L6 e)<|I.ok.HY m σ hfn hc).trans e1⟩
   . by_cases hj:j=k;subst hj;rw[hi]at e1;cases e1;rw[xg hiσ]at e2;cases e2;exact⟨D,r,B6 ⟨B3 hk,σ,hc,hc'⟩⟩
     . rw[ir<|P9 hj]at e2;obtain⟨u',r',q⟩:=hl j y v' e1 e2 e3;refine⟨u',r',?_⟩;rcases q with q|⟨M,c',e,z'⟩
       exact B3 q;refine B6 ⟨M,c',e,z'.sameBut hs ?_⟩;rintro rfl;exact hj<|Cj hN e1<|I.ok.inj _ _ _ e hc▸hi
   . by_cases hcc:c'=σ;subst hcc;exact⟨_,hc'⟩;obtain⟨w2,z2⟩:=I.cell y c' e;exact⟨w2,z2.sameBut hs hcc⟩
   obtain⟨e,n,ne,nf,d⟩:=I.pin p hp;refine⟨(hs.2 p.1 ?_).trans e,n,ne,nf,d⟩;intro q;rw[q,hoc]at e;exact d w' (by rw[<-(dY e)];exact hocd)
def sG{v:V}(I:Inv X c l H a)(σ:X.N.Nodup)(s:X.N[k]?=U m)(b:Loc X.env.scope m)(r:RelV v D)(h:∀s',Inv X c (l.set k<|U v) H s'->d6 () s')(e:autoParam (yz X m) gQ):wpAny e8 A (storeName X.env m D) d6 u a:=
 Sv I σ s b r (λs' d _=>h s' d) e
def Inv.IP{s':C5}(I:Inv X c l H a)(f:s'.os=a.os)(u:Un (aY X.stack) O H d a.heap s'.heap)(s:dQ X.prog X.w d s'.heap)(e:jH s'.gens)(m:∀b∈O,(b∈X.ex\/X.ag.heap.objs.size<=b)/\b≠X.env.locals/\(∀x σ,X.env.cells.lookup x=U σ->σ≠b)/\∀p∈X.pn++c,p.1≠b):Inv X c l d s':=by obtain⟨j,h,i,g,k⟩:=s';subst f;exact I.call u s e m
end
abbrev XK:=A1->Option Addr->Hp->Prop
variable{c9:XK}
abbrev St:=List<|Option V
variable{n:St}
abbrev VK:=V->Hp->Prop
variable{e9:VK}
abbrev TE:=St->Hp->VK->Prop
variable{t Y:TE}
abbrev TT:=St->Hp->(Bool->Hp->Prop)->Prop
variable{T:TT}
abbrev TA:=St->Hp->(List V->Hp->Prop)->Prop
variable{a9:TA}
structure Ends where
 nx:St->Hp->Prop
 rt:VK
 bk:St->Hp->Prop:=λ_ _=>False
 ct:St->Hp->Prop:=λ_ _=>False
abbrev TS:=Ends->St->Hp->Prop
variable{c8:TS}
inductive EP(X:Cx)(pins:List<|Addr×Obj)(σ:St)(Q:VK)(u:A1)(s':C5):Prop
 |mk (v:V) (H':Hp) (a:Inv X pins σ H' s') (b:RelV v u) (c:Q v H'):EP X pins σ Q u s'
inductive TP(X:Cx)(pins:List<|Addr×Obj)(σ:St)(Q:Bool->Hp->Prop)(b:Bool)(s':C5):Prop
 |mk (H':Hp) (a:Inv X pins σ H' s') (c:Q b H'):TP X pins σ Q b s'
inductive AP(X:Cx)(pins:List<|Addr×Obj)(σ:St)(Q:List V->Hp->Prop)(us:List A1)(s':C5):Prop
 |mk (vs:List V) (H':Hp) (a:Inv X pins σ H' s') (b:Vals vs us) (c:Q vs H'):AP X pins σ Q us s'
inductive NP(X:Cx)(pins:List<|Addr×Obj)(Q:St->Hp->Prop)(s':C5):Prop
 |mk (σ':St) (H':Hp) (a:Inv X pins σ' H' s') (c:Q σ' H'):NP X pins Q s'
inductive RP(X:Cx)(pins:List<|Addr×Obj)(Q:VK)(u:A1)(s':C5):Prop
 |mk (v:V) (σ':St) (H':Hp) (a:Inv X pins σ' H' s') (b:RelV v u) (c:Q v H'):RP X pins Q u s'
def SP(X:Cx)(pins:List<|Addr×Obj)(D:Ends)(f:Flow)(s':C5):Prop:=
 match f with
 |Wm=>NP X pins D.nx s'
 |PySem.Flow.brk=>NP X pins D.bk s'
 |PySem.Flow.cont=>NP X pins D.ct s'
 |lT u=>RP X pins D.rt u s'
def PE(X:Cx)(e:Expr)(t:TE):Prop:=
 ∀(pins:List<|Addr×Obj) (s:C5) (σ:St) (H:Hp) (Q:VK),Inv X pins σ H s->t σ H Q->wpAny (model X.prog X.w) X.A (eval e X.env) (EP X pins σ Q) X.xe s
def PT(X:Cx)(e:Expr)(t:TT):Prop:=
 ∀(pins:List<|Addr×Obj) (s:C5) (σ:St) (H:Hp) (Q:Bool->Hp->Prop),Inv X pins σ H s->t σ H Q->wpAny (model X.prog X.w) X.A (isTrue e X.env<|eval e X.env) (TP X pins σ Q) X.xe s
def PW(X:Cx)(e:Expr)(t:TT):Prop:=
 ∀(whole:Sem A1) (pins:List<|Addr×Obj) (s:C5) (σ:St) (H:Hp) (Q:Bool->Hp->Prop),Inv X pins σ H s->t σ H Q->wpAny (model X.prog X.w) X.A (isTrue e X.env whole) (TP X pins σ Q) X.xe s
def PW.pt(h:PW X Z T):PT X Z T:=h _
def PA(X:Cx)(es:List Expr)(t:TA):Prop:=
 ∀(pos:Pos) (pins:List<|Addr×Obj) (s:C5) (σ:St) (H:Hp) (Q:List V->Hp->Prop),Inv X pins σ H s->t σ H Q->wpAny (model X.prog X.w) X.A (spliced<|bP pos<|O7 es X.env) (AP X pins σ Q) X.xe s
def PS(X:Cx)(st:Stmt)(t:TS):Prop:=
 ∀(pins:List<|Addr×Obj) (s:C5) (σ:St) (H:Hp) (D:Ends),Inv X pins σ H s->t D σ H->wpAny (model X.prog X.w) X.A (exec st X.env) (SP X pins D) X.xe s
def pw(X:Cx)(st:List Stmt)(t:TS):Prop:=
 ∀(pins:List<|Addr×Obj) (s:C5) (σ:St) (H:Hp) (D:Ends),Inv X pins σ H s->t D σ H->wpAny (model X.prog X.w) X.A (execs st X.env) (SP X pins D) X.xe s
def M8{t:Sem i5}{Q c:i5->C5->Prop}(h:wpAny e8 A t Q u a)(d:∀b a,Q b a->c b a):wpAny e8 A t c u a:=aT h d λ_ _ x=>x
def S7(i:Nat):TE:=λσ H Q=>∃v,σ[i]?=U (U v)/\Q v H
def tC(v:V):TE:=λ_ H Q=>Q v H
def a7g(w:X.N[k]?=U m)(o:Pu X.env.scope m)(hd:autoParam (jj m) B7)(g:autoParam ((m==("__classdict__" : Str))=U') B7):PE X (G9 m p)<|S7 k:=by
 intro f s t H Q I h;obtain⟨v,e,h⟩:=h;obtain⟨x,i,q⟩:=I.loc;obtain⟨u,r,l⟩:=q k m v w e o;have d:EP X f t Q u s:=⟨v,H,I,r,h⟩;rcases l with ⟨b,n⟩|⟨b,c,j,a⟩
 exact wpAny_Name (wpAny_loadName_local I.ok.kind b i n d) hd
 . rcases b with b|b
   exact wpAny_Name (wpAny_loadName_cell I.ok.kind b j a d) hd;exact wpAny_Name (wpAny_loadName_free I.ok.kind b j a d g) hd
def a7n{i j pos}:PE X (jk (Wl i) j pos)<|tC<|.int i:=λ_ _ _ H _ I h=>wpAny_Constant_int ⟨.int i,H,I.tok _,⟨_,rfl⟩,h⟩
def b0d{b j pos}:PE X (jk (Ww b) j pos)<|tC<|.bl b:=λ_ _ _ H _ I h=>Constant_bool ⟨.bl b,H,I,rfl,h⟩
def a7l{j pos}:PE X (jk Ag j pos)<|tC .non:=λ_ _ _ H _ I h=>Constant_none ⟨.non,H,I,rfl,h⟩
def a7i{x j pos}:PE X (jk (Ac x) j pos)<|tC<|.str x:=λ_ _ _ H _ I h=>FN ⟨.str x,H,I.tok _,⟨_,rfl⟩,h⟩
abbrev Gl(X:Cx)(x:Str):Prop:=X.env.kindOf x=U PySem.NameKind.globalImplicit
def nk{Q:A1->C5->Prop}(I:Inv X c n d a)(E:Gl X m)(b:X.mg m=U D)(h:Q D a)(hd:autoParam (jj m) B7):wpAny (model X.prog X.w) X.A (eval (G9 m p) X.env) Q u a:=
 Ym I.ok.kind E (Calls.loadGlobal_global (by rw[I.ok.glob];exact I.mod.glob.keeps I.bk) b h) hd
def vU{H:Hp}{Q:A1->C5->Prop}(I:Inv X c n H a)(f:Gl X m)(s:X.mg m=J)(E:jO m=U D)(h:Q D a)(b:autoParam (m ≠ "__name__") iJ)(hd:autoParam (jj m) B7):wpAny (model X.prog X.w) X.A (eval (G9 m p) X.env) Q u a:=by obtain⟨i,g,e⟩:=I.mod.blt;exact Ym I.ok.kind f (Calls.loadGlobal_builtin (by rw[I.ok.glob];exact I.mod.glob.keeps I.bk) s (by rw[I.ok.blt];exact g.keeps I.bk) ((e m b).trans E) h) hd
def Gv{v:V}(b:Gl X m)(a:X.mg m=U D)(r:RelV v D)(hd:autoParam (jj m) B7):PE X (G9 m p)<|tC v:=
 λ_ _ _ H _ I h=>nk I b a ⟨v,H,I,r,h⟩ hd
def a4v(c:Gl X m)(a:X.mg m=J)(d:jO m=U D)(r:RelV M D)(b:autoParam (m ≠ "__name__") iJ)(hd:autoParam (jj m) B7):PE X (G9 m p)<|tC M:=
 λ_ _ _ H _ I h=>vU I c a d ⟨M,H,I,r,h⟩ b hd
def tB(t:TE):TT:=λσ H Q=>t σ H λx H1=>∃c,x=.bl c/\Q c H1
def JD(h:PE X Z t)(f:autoParam (∀a,isTrue Z X.env a=(do let v <- a;wx Z.pos;holding [v] (truthy v))) tM):PT X Z<|tB t:=by
 intro b s i H Q I c;refine isTrue_plain (M8 (h b s i H _ I c) λv m ⟨x,j,k,g,l⟩=>?_)<|f _;obtain⟨d,rfl,q⟩:=l;cases g;exact um ⟨j,k,q⟩
def Qa(t u:TT):TT:=λσ H Q=>t σ H λc H1=>if c=Uf then u σ H1 Q else Q U' H1
def tOr(t u:TT):TT:=λσ H Q=>t σ H λc H1=>if c=Uf then Q Uf H1 else u σ H1 Q
def PZ(t:TT):TT:=λσ H Q=>t σ H λc H1=>Q (!c) H1
def pw_and1(f:PT X Z T):PW X (aa gV [Z] p) T:=by
 intro wh b s d H Q I h;refine isTrue_and<|M8 (f b s d H Q I h) λc g e=>?_
 cases c with
 |true=>exact isTrue_and_nil e
 |false=>exact e
def pw_or1(f:PT X Z T):PW X (aa gT [Z] p) T:=by
 intro wh b s d H Q I h;refine isTrue_or<|M8 (f b s d H Q I h) λc g e=>?_
 cases c with
 |false=>exact isTrue_or_nil e
 |true=>exact e
def pw_and{tB':TT}(l:PT X Z T)(k:PW X (aa gV (L::G) p) tB'):PW X (aa gV (Z::L::G) p)<|Qa T tB':=by
 intro wh d s e H Q I h;refine isTrue_and<|M8 (l d s e H _ I h) λc j ⟨f,g,i⟩=>?_
 cases c with
 |true=>exact k wh d j e f Q g i
 |false=>exact⟨f,g,i⟩
def pw_or{tB':TT}(l:PT X Z T)(k:PW X (aa gT (L::G) p) tB'):PW X (aa gT (Z::L::G) p)<|tOr T tB':=by
 intro wh d s e H Q I h;refine isTrue_or<|M8 (l d s e H _ I h) λc j ⟨f,g,i⟩=>?_
 cases c with
 |true=>exact⟨f,g,i⟩
 |false=>exact k wh d j e f Q g i
def Tn(f:PT X Z T):PT X (uv Ak Z p)<|PZ T:=by exact λb s d H Q I h=>isTrue_not<|M8 (f b s d H (λc e=>Q (!c) e) I h) λ_ _ ⟨_,i,q⟩=>⟨_,i,q⟩
def a2f(ta tb:TE):TE:=λσ H Q=>ta σ H λx H1=>∃c,x=.bl c/\if c=Uf then tb σ H1 Q else Q (.bl U') H1
def a6j(ta tb:TE):TE:=λσ H Q=>ta σ H λx H1=>∃c,x=.bl c/\if c=Uf then Q (.bl Uf) H1 else tb σ H1 Q
def a2b(ta:TE):TE:=λσ H Q=>ta σ H λx H1=>∃c,x=.bl c/\Q (.bl<|!c) H1
def a7j{op}(h:PE X Z t):PE X (aa op [Z] p) t:=λb s c H Q I d=>BoolOp_one<|h b s c H Q I d
def a7p(m:PE X Z t)(l:PE X (aa gV (L::G) p) Y):PE X (aa gV (Z::L::G) p)<|a2f t Y:=by
 intro d s f H Q I h;refine BoolOp_and<|M8 (m d s f H _ I h) λv k ⟨x,g,i,j,e⟩=>?_
 obtain⟨c,rfl,e⟩:=e;cases j;refine um ?_;cases c with
 |true=>exact l d k f g Q i e
 |false=>exact⟨.bl U',g,i,rfl,e⟩
def b0a(m:PE X Z t)(l:PE X (aa gT (L::G) p) Y):PE X (aa gT (Z::L::G) p)<|a6j t Y:=by
 intro d s f H Q I h;refine BoolOp_or<|M8 (m d s f H _ I h) λv k ⟨x,g,i,j,e⟩=>?_
 obtain⟨c,rfl,e⟩:=e;cases j;refine um ?_;cases c with
 |false=>exact l d k f g Q i e
 |true=>exact⟨.bl Uf,g,i,rfl,e⟩
def a7k(j:PE X Z t):PE X (uv Ak Z p)<|a2b t:=by
 intro b s f H Q I h;refine UnaryOp_<|M8 (j b s f H _ I h) λv k ⟨x,g,i,e,d⟩=>?_;obtain⟨c,rfl,d⟩:=d;cases e;exact not_of<|um ⟨.bl<|!c,g,i,rfl,d⟩
def tIf(t:TT)(ta tb:TE):TE:=λσ H Q=>t σ H λc H1=>if c=Uf then ta σ H1 Q else tb σ H1 Q
def a0f{c:Expr}(l:PT X c T)(n:PE X Z t)(m:PE X L Y):PE X (Wv c Z L p)<|tIf T t Y:=by
 intro e s f H Q I h;refine wpAny_IfExp<|M8 (l e s f H _ I h) λd g ⟨i,j,k⟩=>?_
 cases d with
 |true=>exact n e g f i Q j k
 |false=>exact m e g f i Q j k
def X6(K:D4)(H:Hp)(a:Addr)(xs:List V):Prop:=
 Rd H a (.lst xs) \/
  ∃(o:Obj) (its:Array A1) (n:Nat),K.lookup a=U o/\o.cls=E8 "list"/\o.dict=J/\o.data=W7 its n/\its.size<=G7/\Vals xs its.toList
def cM(K:D4)(H:Hp)(a:Addr)(xs:List V):Prop:=
 Rd H a (.tup xs) \/
  ∃(o:Obj) (its:Array A1) (n:Nat),K.lookup a=U o/\o.cls=E8 "tuple"/\o.data=W7 its n/\its.size<=G7/\Vals xs its.toList
noncomputable def b1P:A1->Option V
 |F0=>U .non
 |cy b=>U<|.bl b
 |U8 i _=>U<|.int i
 |eZ x _=>U<|.str x
 |PySem.Value.bytes b _=>U<|.byt b
 |PySem.Value.float b _=>U<|.flt b
 |A5 a=>U<|.ref a
 |E8 n=>U<|.ty n
 |_=>J
def RelV.abs(r:RelV M D):b1P D=U M:=by
 cases M with
 |non=>cases r;rfl
 |bl _=>cases r;rfl
 |int _=>obtain⟨t,rfl⟩:=r;rfl
 |str _=>obtain⟨t,rfl⟩:=r;rfl
 |byt _=>obtain⟨t,rfl⟩:=r;rfl
 |flt _=>obtain⟨t,rfl⟩:=r;rfl
 |ref _=>cases r;rfl
 |ty _=>cases r;rfl
def RelV.inj{y:V}(r:RelV M D)(q:RelV y D):M=y:=dY<|r.abs.symm.trans q.abs
theorem Vals.inj{xs ys:List V}{us:List A1}(h:Vals xs us):Vals ys us->xs=ys:=by
 induction h generalizing ys with
 |nil=>intro k;cases k;rfl
 |cons r t i=>intro k;cases k with
  |cons q s=>rw[r.inj q,i s]
section
variable{H:Hp}
def X6.of(h:H e=U (.lst z)):X6 K H e z:=B3<|B3 h
def cM.of(h:H e=U (.tup z)):cM K H e z:=B3<|B3 h
def Inv.list(I:Inv X c n H a)(h:X6 X.K H e z):∃b:List A1,Vals z b/\PlainL a.heap e b.toArray/\z.length<=G7:=by
 rcases h with h|⟨o,b,s,g,f,σ,d,i,r⟩
 obtain⟨k,b,s,r,j⟩:=h.ok I.H9;exact⟨b,r,⟨_,s,j,rfl,rfl,rfl⟩,k⟩
 . refine⟨b.toList,r,⟨o,s,I.bI e o g,f,σ,by simpa using d⟩,?_⟩;have j:=r.length;simp only[MD]at j;simp[*]
def Inv.tuple(I:Inv X c n H a)(h:cM X.K H e z):∃b:List A1,Vals z b/\IsTup a.heap e b.toArray/\z.length<=G7:=by
 rcases h with h|⟨o,b,s,f,d,σ,g,r⟩
 obtain⟨j,b,r,p⟩:=h.ok I.H9;exact⟨b,r,p,j⟩
 . refine⟨b.toList,r,⟨o,I.bI e o f,d,s,by simpa using σ⟩,?_⟩;have i:=r.length;simp only[MD]at i;simp[*]
def Inv.Kj{ys:List V}(I:Inv X c n H a)(h:X6 X.K H e z)(h':X6 X.K H e ys):z=ys:=by
 obtain⟨σ,r,⟨o,s,l,_,_,d⟩,_⟩:=I.list h;obtain⟨b,i,⟨k,j,g,_,_,f⟩,_⟩:=I.list h';rw[l]at g;cases g;rw[d]at f;injection f with d1 _
 have:σ=b:=by simpa using J3 Array.toList d1
 subst this;exact r.inj i
def Inv.He{ys:List V}(I:Inv X c n H a)(h:cM X.K H e z)(h':cM X.K H e ys):z=ys:=by
 obtain⟨σ,r,⟨o,l,_,s,d⟩,_⟩:=I.tuple h;obtain⟨b,i,⟨k,g,_,j,f⟩,_⟩:=I.tuple h';rw[l]at g;cases g;rw[d]at f;injection f with d1 _
 have:σ=b:=by simpa using J3 Array.toList d1
 subst this;exact r.inj i
end
noncomputable abbrev Cx.vn(X:Cx)(E:A1->C5->Prop):Cx:={X with xe:=E}
noncomputable abbrev Cx.HD(X:Cx):Cx:=X.vn λ_ _=>False
theorem Cx.Ok.vn(ok:X.Ok)(E:A1->C5->Prop):(X.vn E).Ok:=
 ⟨ok.mod,ok.kind,ok.glob,ok.blt,ok.above,ok.inj,ok.has,ok.HY,ok.hd,ok.frames,ok.Ji,ok.Pb,ok.bs,ok.uV,ok.xJ,ok.zo,ok.mQ,ok.BI⟩
def Cx.Ok.qr(ok:(X.vn u).Ok):X.Ok:=
 ⟨ok.mod,ok.kind,ok.glob,ok.blt,ok.above,ok.inj,ok.has,ok.HY,ok.hd,ok.frames,ok.Ji,ok.Pb,ok.bs,ok.uV,ok.xJ,ok.zo,ok.mQ,ok.BI⟩
section
variable{H:Hp}
theorem Inv.vn(I:Inv X c n H a)(E:A1->C5->Prop):Inv (X.vn E) c n H a:=⟨I.ok.vn E,I.os,I.bare,I.base,I.loc,I.cell,I.free,I.fm,I.pin,I.H9,I.len⟩
theorem Inv.qr(I:Inv (X.vn u) c n H a):Inv X c n H a:=⟨I.ok.qr,I.os,I.bare,I.base,I.loc,I.cell,I.free,I.fm,I.pin,I.H9,I.len⟩
theorem SP.qr{X:Cx}{pins:List (Addr×Obj)}{E:A1->C5->Prop}{D:Ends}{f:Flow}{s':C5}(h:SP (X.vn E) pins D f s'):SP X pins D f s':=by
 cases f with
 |next=>obtain⟨a,b,I,q⟩:=h;exact⟨a,b,I.qr,q⟩
 |brk=>obtain⟨a,b,I,q⟩:=h;exact⟨a,b,I.qr,q⟩
 |cont=>obtain⟨a,b,I,q⟩:=h;exact⟨a,b,I.qr,q⟩
 |ret u=>obtain⟨v,a,b,I,r,q⟩:=h;exact⟨v,a,b,I.qr,r,q⟩
theorem pw.HD(h:pw X.HD b8 c8):pw X b8 c8:=λa s c H D I d=>
 aT (h a s c H D (I.vn _) d) (λ_ _ q=>q.qr) λ_ _ z=>X7 z
end
def a2c:TS:=λD σ H=>D.nx σ H
def a6i(t u:TS):TS:=λD σ H=>t {D with nx:=u D} σ H
def a4i:pw X [] a2c:=λ_ _ a H _ I h=>qQ ⟨a,H,I,h⟩
def xD{u:TS}(i:PS X i6 c8)(d:pw X b8 u):pw X (i6::b8)<|a6i c8 u:=by
 intro a s c H D I h;refine Af<|M8 (i a s c H {D with nx:=u D} I h) λf g q=>?_
 cases f with
 |next=>
  obtain⟨b,j,e,q⟩:=q;exact d a g b j D e q
 |ret v=>exact q
 |brk=>exact q
 |cont=>exact q
def AN(c:PS X i6 c8):pw X [i6] c8:=by
 intro a s b H D I h;refine Af<|M8 (c a s b H D I h) λf d q=>?_
 cases f with
 |next=>exact qQ q
 |ret v=>exact q
 |brk=>exact q
 |cont=>exact q
def Inv.quiet{s:C5}(I:Inv X c n d s):interactive X.env=U':=by simp[interactive,I.ok.kind]
def AJ(te:TE):TS:=λD σ H=>te σ H λ_ H1=>D.nx σ H1
def mY(c:PE X Z t)(hs:autoParam (ak Z J p.line X.env=pure U') B7):PS X (ui Z p)<|AJ t:=by exact λa s b H D I h=>wpAny_Expr_any (M8 (c a s b H _ I h) λv j ⟨x,d,f,i,g⟩=>⟨b,d,f,g⟩) I.quiet hs
def BZ(te:TE):TS:=λD σ H=>te σ H D.rt
def yS(f:PE X Z t):PS X (wR (U Z) p)<|BZ t:=by exact λa s b H D I h=>wpAny_Return_some<|M8 (f a s b H _ I h) λv j ⟨x,c,d,i,g⟩=>⟨x,b,c,d,i,g⟩
def YT(c:TT)(t u:TS):TS:=λD σ H=>c σ H λb H1=>if b=Uf then t D σ H1 else u D σ H1
def a2n{u:TS}{b:List Stmt}(m:PT X Z T)(o:pw X b8 c8)(n:pw X b u):PS X (LX Z b8 b p)<|YT T c8 u:=by
 intro e s f H D I h;refine wpAny_If<|M8 (m e s f H _ I h) λd g ⟨i,j,k⟩=>?_
 cases d with
 |true=>exact o e g f i D j k
 |false=>exact n e g f i D j k
def CW:TS:=λ_ _ _=>False
def ZT:PS X i6 CW:=λ_ _ _ _ _ _ h=>h.elim
def TB:pw X b8 CW:=λ_ _ _ _ _ _ h=>h.elim
abbrev TG:=V->St->Hp->(St->Hp->Prop)->Prop
abbrev BP:=List V->St->Hp->(St->Hp->Prop)->Prop
def PG(X:Cx)(target:Expr)(t:TG):Prop:=
 ∀(pins:List<|Addr×Obj) (s:C5) (σ:St) (H:Hp) (v:V) (u:A1) (Q:St->Hp->Prop),Inv X pins σ H s->RelV v u->t v σ H Q ->
  wpAny (model X.prog X.w) X.A (assign target X.env u) (λ_ s'=>NP X pins Q s') X.xe s
def VT(X:Cx)(ts:List Expr)(t:BP):Prop:=
 ∀(pins:List<|Addr×Obj) (s:C5) (σ:St) (H:Hp) (vs:List V) (us:List A1) (Q:St->Hp->Prop),Inv X pins σ H s->Vals vs us->t vs σ H Q ->
  wpAny (model X.prog X.w) X.A (assignInOrder ((zM ts X.env).map (·.2)) us) (λ_ s'=>NP X pins Q s') X.xe s
def fk(i:Nat):TG:=λv σ H Q=>Q (σ.set i<|U v) H
def Oq(d:X.N.Nodup)(b:X.N[k]?=U m)(c:Loc X.env.scope m)(f:autoParam (yz X m) gQ):PG X (G9 m p)<|fk k:=by exact λa s g H v u Q I r h=>wpAny_assign_Name<|sG I d b c r (λj e=>⟨_,H,e,h⟩) f
def Ro:BP:=λvs σ H Q=>vs=[]/\Q σ H
def Bf(t:TG)(u:BP):BP:=λvs σ H Q=>∃v r,vs=v::r/\t v σ H λσ' H'=>u r σ' H' Q
def a4r:VT X [] Ro:=by intro a s b H d c Q I r h;obtain⟨e,h⟩:=h;subst e;cases r;exact assignInOrder_nil ⟨b,H,I,h⟩
def a0d{t:TG}{u:BP}(i:PG X Z t)(d:VT X G u)(hs:autoParam ((zM (Z::G) X.env).map (·.2)=assign Z X.env::(zM G X.env).map (·.2)) B7):VT X (Z::G)<|Bf t u:=by
 intro a s f H o p Q I r h;obtain⟨v,n,j,h⟩:=h;subst j;cases r with
 |cons r c=>
  rw[hs];refine assignInOrder_cons<|M8 (i a s f H _ _ _ I r h) λ_ g ⟨b,k,l,m⟩=>?_;exact d a g b k _ _ Q l c m
def KO(K:D4)(n:Nat)(t:BP):TG:=λv σ H Q=>∃a xs,v=.ref a/\cM K H a xs/\xs.length=n/\t xs σ H Q
def a7f{t:BP}{n:Nat}(z:X.calm=Uf)(h:VT X G t)(j:autoParam ((zM G X.env).length=n) B7)(d:autoParam ((zM G X.env).findIdx? (·.1)=J) B7):PG X (lY G k p)<|KO X.K n t:=by
 intro c s g H v u Q I r f;obtain⟨a,x,y,hq,C,f⟩:=f;subst y;cases r;obtain⟨A,i,l,B⟩:=I.tuple hq;refine assign_Tuple_tuple (I.ok.hd z) l (by simp[j,<-C,i.length]) d λw m=>?_;have q:Inv X c g H {s with heap:=w}:=I.kept λb o e=>m b o (Z9<|L6 e) e;exact h c _ g H x _ Q q (by simpa using i) f
def xv(te:TE)(g:TG):TS:=λD σ H=>te σ H λx H1=>g x σ H1 D.nx
def Dp{a:Pos}(g:X.N.Nodup)(c:X.N[k]?=U m)(f:Loc X.env.scope m)(d:PE X Z t)(hs:autoParam (ak Z (U<|G9 m a) p.line X.env=pure U') B7)(n:autoParam (yz X m) gQ):
  PS X (gB [G9 m a] Z p) (xv t<|fk k):=by
 intro b s l H D I h;refine wpAny_Assign_Name (M8 (d b s l H _ I h) λv r ⟨y,e,o,x,i⟩=>?_) hs;exact sG o g c f x (λq j=>⟨_,e,j,i⟩) n
def So(c:TT)(tb:TS):TS:=λD σ H=>∃W:Nat->St->Hp->Prop,(∃m,W m σ H)/\∀m σ H,W m σ H ->
 c σ H λb H1=>if b=Uf then ∃N:St->Hp->Prop,(∀σ' H',N σ' H'->∃m',m'<m/\W m' σ' H')/\tb {D with nx:=N,ct:=N,bk:=D.nx} σ H1 else D.nx σ H1
def ZS(t:Eu (model X.prog X.w) X.A X.env X.xe)(P:PT X Z T)(Q:pw X b8 c8):PS X (Wu Z b8 [] p)<|So T c8:=by
 intro d s E H D I h;obtain⟨W,⟨m0,F⟩,turn⟩:=h;refine wpAny_While<|codeAny_whileLoop (λn O=>∃i C,Inv X d i C O/\W n i C) ?_ m0 ⟨E,H,I,F⟩;rintro n G ⟨e,z,K,L⟩;refine uh t<|M8 (P d G e z _ K<|turn n e z L) λb M ⟨u,r,q2⟩=>?_
 cases b with
 |true=>
  obtain⟨N,y,q2⟩:=q2;refine uh t<|M8 (Q d M e u _ r q2) λf R k=>?_
  cases f with
  |next=>
   obtain⟨a,j,q,l⟩:=k;obtain⟨c,o,m⟩:=y a j l;exact⟨c,o,a,j,q,m⟩
  |cont=>
   obtain⟨a,j,q,l⟩:=k;obtain⟨c,o,m⟩:=y a j l;exact⟨c,o,a,j,q,m⟩
  |brk=>exact k
  |ret v=>exact k
 |false=>
  exact qQ ⟨e,u,r,q2⟩
structure It where
 go:Nat->Hp->Prop
 RQ:Nat->Hp->V->Hp->Prop
 stop:Nat->Hp->Prop
def rq(X:Cx)(pins:List<|Addr×Obj)(H:Hp)(b:Addr):Prop:=
 H b=J/\b≠X.env.locals/\b∉X.fs/\(b∈X.ex\/X.ag.heap.objs.size<=b)/\(∀x c,X.env.cells.lookup x=U c->c≠b)/\∀p∈X.pn++pins,p.1≠b
def Inv.zi{H H':Hp}(I:Inv X c n H a)(s:(hz a)<=e)(f:H' e=J):rq X c H' e:=by
 refine⟨f,gS<|Q8 I.lt s,I.a0u s,B6<|D6 I.sz s,λx d b z=>?_,λp g z=>?_⟩;obtain⟨v,q⟩:=I.cell x d b;exact absurd (Q8 q.lt (by rw[z];exact s))<|cO _;exact absurd (Q8 (L6 (I.pin p g).1) (by rw[z];exact s))<|cO _
structure Turn(P:S6)(w:N6)(K:D4)(tg:Expr)(Jff:It)(fp:List Addr)(it:Addr)(tn:Nat->Heap->Prop):Prop where
 mem:it∈fp
 obj:∀i h,tn i h->∀b∈fp,∃o,h.get? b=U o/\∀v,o.data≠qR v
 keep:∀i h h',tn i h->(∀b∈fp,∀o,h.get? b=U o->h'.get? b=U o)->tn i h'
 item:∀(X:Cx),X.prog=P->X.w=w->X.K=K->X.calm=Uf->∀(i:Nat) (pins:List<|Addr×Obj) (s:C5) (σ:St) (H:Hp) (E:A1->C5->Prop),Inv X pins σ H s->(∀b∈fp,rq X pins H b)->tn i s.heap->Jff.go i H ->
  wpAny (model P w) X.A (pyNext<|A5 it) (λr s1=>∃u,r=U u /\
   wpAny (model P w) X.A (Fp tg (A5 it) u) (λ_ s2=>∃x H',Inv X pins σ H' s2/\RelV x u/\Jff.RQ i H x H'/\tn (i+1) s2.heap/\∀b∈fp,H' b=J) E s1) E s
 done:∀(X:Cx),X.prog=P->X.w=w->X.K=K->X.calm=Uf->∀(i:Nat) (pins:List<|Addr×Obj) (s:C5) (σ:St) (H:Hp) (E:A1->C5->Prop),Inv X pins σ H s->(∀b∈fp,rq X pins H b)->tn i s.heap->Jff.stop i H ->
  wpAny (model P w) X.A (pyNext<|A5 it) (λr s1=>r=J/\Inv X pins σ H s1) E s
 self:∀(A:X1) (i:Nat) (s:C5) (Q:A1->C5->Prop) (E:A1->C5->Prop),tn i s.heap->Q (A5 it) s->wpAny (model P w) A (pyIter<|A5 it) Q E s
abbrev TI:=St->Hp->(It->Hp->Prop)->Prop
def PIE(X:Cx)(pins:List<|Addr×Obj)(σ:St)(tg:Expr)(R:It->Hp->Prop)(itv:A1)(s2:C5):Prop:=
 ∃(it:Addr) (fp:List Addr) (tn:Nat->Heap->Prop) (Jff:It) (H':Hp),itv=A5 it/\Inv X pins σ H' s2/\Turn X.prog X.w X.K tg Jff fp it tn/\tn 0 s2.heap/\(∀b∈fp,rq X pins H' b)/\R Jff H'
def PI(X:Cx)(tg iter:Expr)(wi:TI):Prop:=
 ∀(pins:List<|Addr×Obj) (s:C5) (σ:St) (H:Hp) (R:It->Hp->Prop),Inv X pins σ H s->wi σ H R ->
  wpAny (model X.prog X.w) X.A (eval iter X.env) (λv s1=>wpAny (model X.prog X.w) X.A (pyIter v) (PIE X pins σ tg R) X.xe s1) X.xe s
def II{vs:Array A1}(d:a.heap.get? e=U b9)(E:b9.cls=E8 i7)(hd:b9.data=O3 vs)(c:["enumerate","zip","dict_itemiterator","dict_reverseitemiterator","odict_iterator","itertools.zip_longest","itertools.pairwise"].contains i7=U')(M:d6 () a):wpAny e8 A (Fp Z (A5 e) D) d6 u a:=by
 cases Z<;>first
  |exact G8 M
  |(cases D<;>first
    |exact G8 M
    | (refine C6 (wpAny_load d ?_)
       rw[E,hd];show wpAny e8 A (if (["enumerate","zip","dict_itemiterator","dict_reverseitemiterator","odict_iterator","itertools.zip_longest","itertools.pairwise"].contains i7&&vs[0]?==U (eT _))=Uf then _ else _) d6 u a;rw[B2 (by intro h;rw[c,oF]at h;exact nT h)]
       exact G8 M))
def Itl(K:D4)(a:Addr):It:=
 ⟨λi H=>∃xs x,X6 K H a xs/\xs[i]?=U x,λi H x H'=>H'=H/\∀xs,X6 K H a xs->xs[i]?=U x,λi H=>∃xs,X6 K H a xs/\xs.length<=i⟩
def Itt(K:D4)(a:Addr):It:=
 ⟨λi H=>∃xs x,cM K H a xs/\xs[i]?=U x,λi H x H'=>H'=H/\∀xs,cM K H a xs->xs[i]?=U x,λi H=>∃xs,cM K H a xs/\xs.length<=i⟩
noncomputable def Itr(lo:Int)(n:Nat):It:=⟨λi _=>i<n,λi H x H'=>H'=H/\x=.int (lo+i),λi _=>n<=i⟩
def Sg(a it:Addr):Turn o q K Z (Itl K a) [it] it (λi h=>h.IsListIter it a i) where
 mem:=Q3
 obj:=λi h f b j=>by
  have e:b=it:=by simpa using j
  subst e;obtain⟨P,e,c,d⟩:=f;exact⟨P,e,λv z=>by rw[d]at z;cases z⟩
 keep:=λi h C f k=>f.at λP e=>k it Q3 P e
 item:=by
  intro X n B t O i g s N H E I m f G;subst n B t;obtain⟨xs,x,hq,w⟩:=G;obtain⟨L,F,p,Q⟩:=I.list hq;obtain⟨u,Y,T⟩:=F.get w;obtain⟨y,M,f2,D,r,A⟩:=m it Q3;refine wpAny_pyNext_list_item f p.isList (by simpa using Y) λC l R=>?_;have S:Inv X g N H {s with heap:=C}:=I.turned (λb P j e=>(R.2 b j).trans e) y M D r A;obtain⟨P,e,c,d⟩:=id l;exact⟨u,rfl,II e c d f7 ⟨x,H,S,T,⟨rfl,λys hy=>by rw[I.Kj hy hq];exact w⟩,l,λb j=>(m b j).1⟩⟩
 done:=by intro X n B t O i g s N H E I m f G;subst n B t;obtain⟨xs,hq,w⟩:=G;obtain⟨L,F,p,Q⟩:=I.list hq;obtain⟨y,M,f2,D,r,A⟩:=m it Q3;have:=F.length;exact wpAny_pyNext_list_end (I.ok.hd O) f p.isList (by simp;simp_all) λC V=>⟨rfl,I.turned (λb P j e=>V b P j e) y M D r A⟩
 self:=λ_ _ _ _ _ f h=>wpAny_pyIter_listiter f h
def PN(a it:Addr):Turn o q K Z (Itt K a) [it] it (λi h=>h.IsTupleIter it a i) where
 mem:=Q3
 obj:=λi h f b j=>by
  have e:b=it:=by simpa using j
  subst e;obtain⟨P,e,c,d⟩:=f;exact⟨P,e,λv z=>by rw[d]at z;cases z⟩
 keep:=λi h D f k=>f.at λP e=>k it Q3 P e
 item:=by
  intro X w C y O i g s N H E I n f L;subst w C y;obtain⟨xs,x,hq,r⟩:=L;obtain⟨l,G,p,Q⟩:=I.tuple hq;obtain⟨u,Y,T⟩:=G.get r;obtain⟨A,M,f2,F,t,B⟩:=n it Q3;refine wpAny_pyNext_tuple_item f (show s.heap.IsTuple a l.toArray from p) (by simpa using Y) λD m R=>?_;have S:Inv X g N H {s with heap:=D}:=I.turned (λb P j e=>(R.2 b j).trans e) A M F t B;obtain⟨P,e,c,d⟩:=id m;exact⟨u,rfl,II e c d f7 ⟨x,H,S,T,⟨rfl,λys hy=>by rw[I.He hy hq];exact r⟩,m,λb j=>(n b j).1⟩⟩
 done:=by intro X w C y O i g s N H E I n f L;subst w C y;obtain⟨xs,hq,r⟩:=L;obtain⟨l,G,p,Q⟩:=I.tuple hq;obtain⟨A,M,f2,F,t,B⟩:=n it Q3;have:=G.length;exact wpAny_pyNext_tuple_end (I.ok.hd O) f (show s.heap.IsTuple a l.toArray from p) (by simp;simp_all) λD V=>⟨rfl,I.turned (λb P j e=>V b P j e) A M F t B⟩
 self:=λ_ _ _ _ _ f h=>wpAny_pyIter_tupleiter f h
def PQ(it:Addr)(lo:Int)(n:Nat):Turn o q K L (Itr lo n) [it] it (λi h=>IsRangeIter h it (lo+(i:Nat)*1) ((n:Int)-(i:Nat)) 1) where
 mem:=Q3
 obj:=λi h a b d=>by
  have e:b=it:=by simpa using d
  subst e;exact⟨_,a,λv z=>by cases z⟩
 keep:=λi h w a k=>k it Q3 _ a
 item:=by
  intro X y C A x i c s B H E I g a u;obtain⟨l,p,O,r,j,m⟩:=g it Q3;refine(Walks.range (I.ok.hd x) it lo 1 n).item i s _ _ u a λv w D M f N=>?_;obtain⟨t,rfl⟩:=M;have F:Inv X c B H {s with heap:=w,toks:=D}:=I.turned (λb P d e=>N b P (by simpa using d) e) l p r j m;refine⟨_,rfl,II f rfl rfl f7 ⟨.int<|lo+i,H,F,⟨t,?_⟩,⟨rfl,rfl⟩,f,λb d=>(g b d).1⟩⟩;rw[Int.mul_one]
 done:=by intro X y C A x i c s B H E I g a u;obtain⟨l,p,O,r,j,m⟩:=g it Q3;exact wpAny_pyNext_range_end (I.ok.hd x) a (by have:n<=i:=u;lia) λw G=>⟨rfl,I.turned (λb P d e=>G b P d e) l p r j m⟩
 self:=λ_ _ _ _ _ a h=>wpAny_pyIter_rangeiter a h
def Zt{R:It->Hp->Prop}{lo s:Int}{t E v:Tok}(I:Inv X c n d a)(f : -(2^62)<=lo)(i:lo<2^62)(j : -(2^62)<=s)(g:s<2^62)(q:R (Itr lo (s-lo).toNat) d):wpAny (model X.prog X.w) X.A (pyIter<|A5<|hz a) (PIE X c n Z R) u {a with heap:=a.heap.push {cls:=E8 "range",data:=O3 #[U8 lo t,U8 s E,U8 1 v]},toks:=k}:=by
 refine wpAny_pyIter_range (IsRange.new ..) (small_one f i j g) ?_;have H:Inv X c n d {a with heap:=a.heap.push {cls:=E8 "range",data:=O3 #[U8 lo t,U8 s E,U8 1 v]},toks:=k}:=I.kept λb o e=>L0 _ e
 refine⟨(a.heap.push {cls:=E8 "range",data:=O3 #[U8 lo t,U8 s E,U8 1 v]}).objs.size,[(a.heap.push {cls:=E8 "range",data:=O3 #[U8 lo t,U8 s E,U8 1 v]}).objs.size],_,_,d,rfl,
  H.kept λb o e=>L0 _ e,PQ _ lo (s-lo).toNat,?_,λb m=>?_,q⟩
 . have l:lo+((0:Nat))*1=lo:=by simp
   have h:(((s-lo).toNat))-((0:Nat))=Builtin.Range.rangeSize lo s 1:=by rw[rangeSize_one];split<;>lia
   rw[l,h];exact ae _ rfl
 . have e:b=(a.heap.push {cls:=E8 "range",data:=O3 #[U8 lo t,U8 s E,U8 1 v]}).objs.size:=by simpa using m
   subst e;exact H.zi Y1<|H.H9.fresh Y1
def a2A(ta:TA):TI:=λσ H R=>ta σ H λvs H1=>∃j:Int,vs=[.int j]/\-(2^62)<=j/\j<2^62/\R (Itr 0 j.toNat) H1
def TL{pos:Pos}(l:Gl X "range")(f:X.mg "range" = J)(n:PA X [L] a9)(hs:autoParam (O7 [L] X.env=[(U',eval L X.env)]) B7):PI X Z (L8 (G9 "range" p) [L] [] pos)<|a2A a9:=by
 intro b s k H R I h;refine Call_<|vU I l f boot_range<|Gd (M8 (n pos b s k H _ I h) λv u ⟨o,w,m,i,c⟩=>?_) hs rfl
 obtain⟨j,e,c,q2,q⟩:=c;subst e;cases i with
 |cons r g=>
  cases g;obtain⟨t,rfl⟩:=r;exact call_range_1 (Zt m V8 V8 c q2<|by simpa using q)
def a6l(wi:TI)(g:TG)(tb:TS):TS:=λD σ H=>wi σ H λJff H1=>∃W:Nat->Nat->St->Hp->Prop,(∃m,W 0 m σ H1)/\∀i m σ H,W i m σ H ->
 (Jff.stop i H/\D.nx σ H)\/(Jff.go i H/\∃N:St->Hp->Prop,(∀σ' H',N σ' H'->∃m',m'<m/\W (i+1) m' σ' H')/\∀x H',Jff.RQ i H x H'->g x σ H' λσ2 H2=>tb {D with nx:=N,ct:=N,bk:=D.nx} σ2 H2)
noncomputable def yT(fp:List Addr)(h:Heap):List<|Addr×Obj:=fp.filterMap λb=>(h.get? b).map λo=>(b,o)
def rG(a:e∈O)(h:g.get? e=U b9):(e,b9)∈yT O g:=List.mem_filterMap.mpr ⟨e,a,by rw[h];rfl⟩
def Uj{p:Addr×Obj}(a:p∈yT O g):p.1∈O/\g.get? p.1=U p.2:=by
 obtain⟨b,d,e⟩:=List.mem_filterMap.mp a;cases q:g.get? b with
 |none=>rw[q]at e;exact nE e
 |some o=>
  rw[q]at e;have c:=dY e;subst c;exact⟨d,q⟩
def Inv.pinned{s:C5}(I:Inv X c n d s)(h:∀b∈O,rq X c d b)(g:∀b∈O,∃o,s.heap.get? b=U o/\∀v,o.data≠qR v):Inv X (c++yT O s.heap) n d s:=
 I.pG λp i=>(List.mem_append.mp i).elim (λz=>I.pin p<|S5 _ z) λz=>by obtain⟨f,e⟩:=Uj z;obtain⟨j,l,k,_⟩:=h p.1 f;obtain⟨o,a,H⟩:=g p.1 f;rw[e]at a;cases a;exact⟨e,j,l,k,H⟩
def Inv.BW{pl:List (Addr×Obj)}{s:C5}(I:Inv X (c++pl) n d s):Inv X c n d s:=I.pG λp b=>I.pin p<|S5 _<|fw _ b
def a7a{wi:TI}{g:TG}(hp:Eu (model X.prog X.w) X.A X.env X.xe)(hc:X.calm=Uf)(hi:PI X Z L wi)(hg:PG X Z g)(hb:pw X b8 c8)(hs:autoParam (Fsi X L) tM):PS X (PySem.Stmt.For Z L b8 [] p)<|a6l wi g c8:=by
 intro pins s σ H D I h;refine wpAny_For (M8 (hi pins s σ H _ I h) λv s1 h1=>M8 h1 λitv s2 h2=>?_) hs;obtain⟨it,fp,tn,Jff,H2,e,I2,T,st2,f2,W,⟨m0,w0⟩,turn⟩:=h2;subst e;have stat:∀{H':Hp},(∀b∈fp,H' b=J)->∀b∈fp,rq X pins H' b:=λhn b hb=>⟨hn b hb,(f2 b hb).2⟩;refine codeAny_forLoop_any (λn s'=>∃i σ' H',Inv X pins σ' H' s'/\tn i s'.heap/\(∀b∈fp,H' b=J)/\W i n σ' H') ?_ m0 ⟨0,σ,H2,I2,st2,λb hb=>(f2 b hb).1,w0⟩
 rintro n s3 ⟨i,σ3,H3,I3,st3,fr3,w3⟩;rcases turn i n σ3 H3 w3 with ⟨stop,qn⟩|⟨go,N,hN,step⟩
 . refine uh hp<|M8 (T.done X rfl rfl rfl hc i pins s3 σ3 H3 X.xe I3 (stat fr3) st3 stop) λr s4 ⟨hr,I4⟩=>?_;subst hr;exact qQ ⟨σ3,H3,I4,qn⟩
 . refine uh hp<|M8 (T.item X rfl rfl rfl hc i pins s3 σ3 H3 X.xe I3 (stat fr3) st3 go) λr s4 ⟨u,hr,h4⟩=>?_;subst hr;refine uh hp<|M8 h4 λ_ s5 ⟨x,H5,I5,r5,y5,st5,fr5⟩=>?_;have I5':=I5.pinned (stat fr5)<|T.obj _ _ st5;refine uh hp<|M8 (hg _ s5 σ3 H5 x u _ I5' r5<|step x H5 y5) λ_ s6 ⟨σ6,H6,I6,q6⟩=>?_;refine uh hp (M8 (hb _ s6 σ6 H6 _ I6 q6) λf s7 q7=>?_)
   have again:∀{σ7:St}{H7:Hp},Inv X (pins++yT fp s5.heap) σ7 H7 s7->N σ7 H7->∃m,m<n/\∃i σ' H',Inv X pins σ' H' s7/\tn i s7.heap/\(∀b∈fp,H' b=J)/\W i m σ' H':=λ{σ7 H7} I7 n7=>by
    obtain⟨m',hm,w7⟩:=hN σ7 H7 n7;refine⟨m',hm,i+1,σ7,H7,I7.BW,T.keep _ _ _ st5 λb hb o e=>(I7.pin (b,o)<|S5 _<|S5 _<|rG hb e).1,λb hb=>?_,w7⟩;obtain⟨o,e,d⟩:=T.obj _ _ st5 b hb;exact(I7.pin (b,o)<|S5 _<|S5 _<|rG hb e).2.1
   cases f with
   |next=>obtain⟨σ7,H7,I7,n7⟩:=q7;exact again I7 n7
   |cont=>obtain⟨σ7,H7,I7,n7⟩:=q7;exact again I7 n7
   |brk=>obtain⟨σ7,H7,I7,q7⟩:=q7;exact⟨σ7,H7,I7.BW,q7⟩
   |ret v=>obtain⟨x7,σ7,H7,I7,r7,q7⟩:=q7;exact⟨x7,σ7,H7,I7.BW,r7,q7⟩
abbrev R2:=V->V->Hp->VK->Prop
variable{d9:R2}
def X4(X:Cx)(f:A1->A1->Sem A1)(r:R2):Prop:=
 ∀(pins:List<|Addr×Obj) (s:C5) (σ:St) (H:Hp) (x y:V) (v u:A1) (Q:VK),Inv X pins σ H s->RelV x v->RelV y u->r x y H Q ->
  wpAny (model X.prog X.w) X.A (f v u) (EP X pins σ Q) X.xe s
def UnR(X:Cx)(f:A1->Sem A1)(r:V->Hp->VK->Prop):Prop:=
 ∀(pins:List<|Addr×Obj) (s:C5) (σ:St) (H:Hp) (x:V) (v:A1) (Q:VK),Inv X pins σ H s->RelV x v->r x H Q ->
  wpAny (model X.prog X.w) X.A (f v) (EP X pins σ Q) X.xe s
def cA(X:Cx)(f:A1)(r:List V->Hp->VK->Prop):Prop:=
 ∀(pins:List<|Addr×Obj) (s:C5) (σ:St) (H:Hp) (xs:List V) (us:List A1) (Q:VK),Inv X pins σ H s->Vals xs us->r xs H Q ->
  wpAny (model X.prog X.w) X.A (call f us) (EP X pins σ Q) X.xe s
def vF(r:R2)(ta tb:TE):TE:=λσ H Q=>ta σ H λx H1=>tb σ H1 λy H2=>r x y H2 Q
def tUn(r:V->Hp->VK->Prop)(ta:TE):TE:=λσ H Q=>ta σ H λx H1=>r x H1 Q
def rI(C:Int->Int->Prop)(g:Int->Int->V):R2:=λx y H Q=>∃i j,x=.int i/\y=.int j/\C i j/\Q (g i j) H
def sQ(g:Int->Int->V):R2:=λx y H Q=>∃i j,x=.int i/\y=.int j/\Q (g i j) H
def rU(g:Int->V):V->Hp->VK->Prop:=λx H Q=>∃i,x=.int i/\Q (g i) H
def a1D(o:PE X Z t)(a:PE X L Y){s:C5}{R:V->V->Hp->Prop}(I:Inv X c n d s)(h:t n d λx b=>Y n b λy H2=>R x y H2)(k:∀v H s2 x y H2,Inv X c n H2 s2->RelV x v->RelV y H->R x y H2->wpAny (model X.prog X.w) X.A (d8 v H) u X.xe s2):
  wpAny (model X.prog X.w) X.A (eval Z X.env) (λv s₁=>wpAny (model X.prog X.w) X.A (eval L X.env) (λH s₂=>wpAny (model X.prog X.w) X.A (d8 v H) u X.xe s₂) X.xe s₁) X.xe s:=by
 refine M8 (o c s n d _ I h) λv j ⟨x,b,l,i,m⟩=>?_;refine M8 (a c j n b _ l m) λH s2 ⟨y,H2,g,e,q2⟩=>?_;exact k v H s2 x y H2 g i e q2
def b0b{op:Operator}(e:X4 X (eU op) d9)(m:PE X Z t)(l:PE X L Y):PE X (Wt Z op L p)<|vF d9 t Y:=by exact λc s j H Q I h=>wpAny_BinOp<|a1D m l I h λv u f x y d g k i q=>e c f j d x y v u Q g k i q
def a9Z{op:UnaryOp}{r:V->Hp->VK->Prop}(d:UnR X (unaryOp op) r)(k:PE X Z t):PE X (uv op Z p)<|tUn r t:=by exact λb s c H Q I h=>UnaryOp_<|M8 (k b s c H _ I h) λv f ⟨x,g,i,e,j⟩=>d b f c g x v Q i e j
def opI{C:Int->Int->Prop}(a:∀(i j:Int) (t u:Tok) (s:C5) (Q:A1->C5->Prop) (E:A1->C5->Prop),C i j->Q (U8 (j3 i j) s.toks) {s with toks:=s.toks+1}->wpAny (model X.prog X.w) X.A (d8 (U8 i t)<|U8 j u) Q E s):
  X4 X d8 (rI C λi j=>.int<|j3 i j):=by intro b s l H x y v u Q I e c h;obtain⟨i,j,rfl,rfl,k,q⟩:=h;obtain⟨t,rfl⟩:=e;obtain⟨d,rfl⟩:=c;exact a i j t d s _ _ k ⟨.int<|j3 i j,H,I.tok _,⟨_,rfl⟩,q⟩
def a7A(a:∀(i j:Int) (t u:Tok) (s:C5) (Q:A1->C5->Prop) (E:A1->C5->Prop),Q (U8 (j3 i j) s.toks) {s with toks:=s.toks+1}->wpAny (model X.prog X.w) X.A (d8 (U8 i t)<|U8 j u) Q E s):
  X4 X d8 (sQ λi j=>.int<|j3 i j):=by intro b s k H x y v u Q I e c h;obtain⟨i,j,rfl,rfl,q⟩:=h;obtain⟨t,rfl⟩:=e;obtain⟨d,rfl⟩:=c;exact a i j t d s _ _ ⟨.int<|j3 i j,H,I.tok _,⟨_,rfl⟩,q⟩
def QI{g:Int->Int->Bool}(a:∀(i j:Int) (t u:Tok) (s:C5) (Q:A1->C5->Prop) (E:A1->C5->Prop),Q (cy<|g i j) s->wpAny (model X.prog X.w) X.A (d8 (U8 i t)<|U8 j u) Q E s):
  X4 X d8 (sQ λi j=>.bl<|g i j):=by intro b s k H x y v u Q I e c h;obtain⟨i,j,rfl,rfl,q⟩:=h;obtain⟨t,rfl⟩:=e;obtain⟨d,rfl⟩:=c;exact a i j t d s _ _ ⟨.bl<|g i j,H,I,rfl,q⟩
def CP(i j:Int):Prop:=0<=j/\j<=1000000/\i.natAbs<2^64
def a7z:X4 X (eU qY)<|sQ λi j=>.int<|i+j:=a7A λ_ _ _ _ _ _ _ q=>add_int q
def a7s:X4 X (eU PySem.Operator.Sub)<|sQ λi j=>.int<|i-j:=a7A λ_ _ _ _ _ _ _ q=>sub_int q
def a4B:X4 X (eU PySem.Operator.Mod)<|rI (λ_ j=>j≠0) λi j=>.int<|i.fmod j:=opI λ_ _ _ _ _ _ _ a q=>mod_int' a q
def a7t:X4 X (eU PySem.Operator.Pow)<|rI CP λi j=>.int<|i^j.toNat:=opI λ_ _ _ _ _ _ _ a q=>pow_int_small a.1 a.2.1 a.2.2 q
def unI{f:A1->Sem A1}{g:Int->Int}(a:∀(i:Int) (t:Tok) (s:C5) (Q:A1->C5->Prop) (E:A1->C5->Prop),Q (U8 (g i) s.toks) {s with toks:=s.toks+1}->wpAny (model X.prog X.w) X.A (f<|U8 i t) Q E s):
  UnR X f (rU λi=>.int<|g i):=by intro b s d H x v Q I c h;obtain⟨i,rfl,q⟩:=h;obtain⟨t,rfl⟩:=c;exact a i t s _ _ ⟨.int<|g i,H,I.tok _,⟨_,rfl⟩,q⟩
def a6b:UnR X (unaryOp PySem.UnaryOp.USub)<|rU λi=>.int<|-i:=unI λ_ _ _ _ _ q=>neg_int q
noncomputable def a6x:V->V->Bool
 | .non,.non=>Uf | .non,.int _=>Uf | .int _,.non=>Uf | .non,.bl _=>Uf | .bl _,.non=>Uf | .non,.str _=>Uf | .str _,.non=>Uf
 | .int _,.int _=>Uf | .bl _,.bl _=>Uf | .str _,.str _=>Uf | .byt _,.byt _=>Uf
 | .int _,.str _=>Uf | .str _,.int _=>Uf | .bl _,.str _=>Uf | .str _,.bl _=>Uf
 |_,_=>U'
def rEq:R2:=λx y H Q=>a6x x y=Uf/\Q (.bl<|decide (x=y)) H
def rNe:R2:=λx y H Q=>a6x x y=Uf/\Q (.bl<|!decide (x=y)) H
def Pg{i j:Int}:decide (V.int i=V.int j)=(i==j):=by rw[Ab];simp
def Vy{j:Bool}:decide (V.bl R=V.bl j)=(R==j):=by rw[Ab];simp
def Pf{j:Str}:decide (V.str m=V.str j)=(m==j):=by rw[Ab];simp
def Ph{i j:Array UInt8}:decide (V.byt i=V.byt j)=(i.toList==j.toList):=by rw[Ab];cases i;cases j;simp
def R7{s:C5}{k':Bool}(I:Inv X c n d s)(q:e9 (.bl R) d)(e:R=k'):EP X c n e9 (cy k') s:=by subst e;exact⟨.bl R,d,I,rfl,q⟩
def b0j:X4 X (V9 Mc) rEq:=by
 intro e s f H x y v u Q I d a h;obtain⟨c,q⟩:=h;cases x with
 |non=>
  cases d;cases y with
  |non=>cases a;exact PySem.EqNone.eq_none_none<|R7 I q rfl
  |bl j=>cases a;exact PySem.EqNone.eq_none_bool<|R7 I q rfl
  |int j=>obtain⟨b,rfl⟩:=a;exact PySem.EqNone.eq_none_int<|R7 I q rfl
  |str j=>obtain⟨b,rfl⟩:=a;exact PySem.EqNone.eq_none_str<|R7 I q rfl
  |_=>exact absurd (show U'=Uf from c) dE
 |bl i=>
  cases d;cases y with
  |non=>cases a;exact PySem.EqNone.eq_bool_none<|R7 I q rfl
  |bl j=>cases a;exact eq_bool<|R7 I q Vy
  |str j=>obtain⟨b,rfl⟩:=a;exact PySem.EqMixed.eq_bool_str<|R7 I q rfl
  |_=>exact absurd (show U'=Uf from c) dE
 |int i=>
  obtain⟨t,rfl⟩:=d;cases y with
  |non=>cases a;exact PySem.EqNone.eq_int_none<|R7 I q rfl
  |int j=>obtain⟨b,rfl⟩:=a;exact eq_int<|R7 I q Pg
  |str j=>obtain⟨b,rfl⟩:=a;exact PySem.EqMixed.eq_int_str<|R7 I q rfl
  |_=>exact absurd (show U'=Uf from c) dE
 |str i=>
  obtain⟨t,rfl⟩:=d;cases y with
  |non=>cases a;exact PySem.EqNone.eq_str_none<|R7 I q rfl
  |bl j=>cases a;exact PySem.EqMixed.eq_str_bool<|R7 I q rfl
  |int j=>obtain⟨b,rfl⟩:=a;exact PySem.EqMixed.eq_str_int<|R7 I q rfl
  |str j=>obtain⟨b,rfl⟩:=a;exact eq_str<|R7 I q Pf
  |_=>exact absurd (show U'=Uf from c) dE
 |byt i=>
  obtain⟨t,rfl⟩:=d;cases y with
  |byt j=>obtain⟨b,rfl⟩:=a;exact PySem.W.eq_bytes<|R7 I q Ph
  |_=>exact absurd (show U'=Uf from c) dE
 |_=>cases y<;>exact absurd (show U'=Uf from c) dE
def b0g:X4 X (V9 Mr) rNe:=by
 intro e s f H x y v u Q I d a h;obtain⟨c,q⟩:=h;cases x with
 |non=>
  cases d;cases y with
  |non=>cases a;exact PySem.EqNone.ne_none_none<|R7 I q rfl
  |bl j=>cases a;exact PySem.EqNone.ne_none_bool<|R7 I q rfl
  |int j=>obtain⟨b,rfl⟩:=a;exact PySem.EqNone.ne_none_int<|R7 I q rfl
  |str j=>obtain⟨b,rfl⟩:=a;exact PySem.EqNone.ne_none_str<|R7 I q rfl
  |_=>exact absurd (show U'=Uf from c) dE
 |bl i=>
  cases d;cases y with
  |non=>cases a;exact PySem.EqNone.ne_bool_none<|R7 I q rfl
  |bl j=>cases a;exact ne_bool<|R7 I q<|J3 not Vy
  |str j=>obtain⟨b,rfl⟩:=a;exact PySem.EqMixed.ne_bool_str<|R7 I q rfl
  |_=>exact absurd (show U'=Uf from c) dE
 |int i=>
  obtain⟨t,rfl⟩:=d;cases y with
  |non=>cases a;exact PySem.EqNone.ne_int_none<|R7 I q rfl
  |int j=>obtain⟨b,rfl⟩:=a;exact ne_int<|R7 I q<|J3 not Pg
  |str j=>obtain⟨b,rfl⟩:=a;exact PySem.EqMixed.ne_int_str<|R7 I q rfl
  |_=>exact absurd (show U'=Uf from c) dE
 |str i=>
  obtain⟨t,rfl⟩:=d;cases y with
  |non=>cases a;exact PySem.EqNone.ne_str_none<|R7 I q rfl
  |bl j=>cases a;exact PySem.EqMixed.ne_str_bool<|R7 I q rfl
  |int j=>obtain⟨b,rfl⟩:=a;exact PySem.EqMixed.ne_str_int<|R7 I q rfl
  |str j=>obtain⟨b,rfl⟩:=a;exact ne_str<|R7 I q<|J3 not Pf
  |_=>exact absurd (show U'=Uf from c) dE
 |byt i=>
  obtain⟨t,rfl⟩:=d;cases y with
  |byt j=>obtain⟨b,rfl⟩:=a;exact PySem.W.ne_bytes<|R7 I q<|J3 not Ph
  |_=>exact absurd (show U'=Uf from c) dE
 |_=>cases y<;>exact absurd (show U'=Uf from c) dE
def a2o:X4 X (V9 PySem.CmpOp.Lt)<|sQ λi j=>.bl<|decide (i<j):=QI λ_ _ _ _ _ _ _ q=>lt_int q
def IC:X4 X (V9 PySem.CmpOp.LtE)<|sQ λi j=>.bl<|decide (i<=j):=QI λ_ _ _ _ _ _ _ q=>le_int q
def b0h:X4 X (V9 PySem.CmpOp.Gt)<|sQ λi j=>.bl<|decide (j<i):=QI λ_ _ _ _ _ _ _ q=>gt_int q
def b0i:X4 X (V9 PySem.CmpOp.GtE)<|sQ λi j=>.bl<|decide (j<=i):=QI λ_ _ _ _ _ _ _ q=>ge_int q
def Ud:X4 X (V9 wJ) (λx y H Q=>∃i j,x=.str i/\y=.str j/\Q (.bl<|!(xh j i 0 j.length 1).isEmpty) H):=by intro a s d H x y v u Q I c b h;obtain⟨i,j,rfl,rfl,q⟩:=h;obtain⟨t,rfl⟩:=c;obtain⟨e,rfl⟩:=b;exact in_str<|R7 I q rfl
def a7v:X4 X (V9 PySem.CmpOp.Is)<|λx y H Q=>y=.non/\Q (.bl<|decide (x=.non)) H:=by
 intro b s d H x y v u Q I a c h;obtain⟨rfl,q⟩:=h;cases c;refine is_none_gen<|R7 I q ?_;cases x<;>first
  |(cases a;rfl)
  |(obtain⟨t,rfl⟩:=a;rfl)
def a4z:X4 X (V9 PySem.CmpOp.IsNot)<|λx y H Q=>y=.non/\Q (.bl<|!decide (x=.non)) H:=by
 intro b s d H x y v u Q I a c h;obtain⟨rfl,q⟩:=h;cases c;refine isnot_none_gen<|R7 I q ?_;cases x<;>first
  |(cases a;rfl)
  |(obtain⟨t,rfl⟩:=a;rfl)
def X4.or{r:R2}(h:X4 X d8 r)(h':X4 X d8 d9):X4 X d8<|λx y H Q=>r x y H Q\/d9 x y H Q:=by
 intro a s d H x y v u Q I e c q;rcases q with q|q
 exact h a s d H x y v u Q I e c q;exact h' a s d H x y v u Q I e c q
def lj(b:Expr)(h:autoParam (g8≠wJ) aj)(a:autoParam (g8≠Aj) aj):oB g8 b=U':=by
 have d:(g8==CmpOp.In)=U':=by cases g8<;>first|rfl|exact absurd rfl h
 have c:(g8==CmpOp.NotIn)=U':=by cases g8<;>first|rfl|exact absurd rfl a
 cases b<;>simp[oB,d,c]
def Ov(f:X4 X (V9 g8) d9)(n:PE X Z t)(m:PE X L Y)(d:oB g8 L=U'):PE X (qX Z [g8] [L] p)<|vF d9 t Y:=by exact λc s k H Q I h=>wpAny_Compare1 (a1D n m I h λv u g x y e i l j q=>f c g k e x y v u Q i l j q) d
def Iy(t:TE):TT:=λσ H Q=>t σ H λx H'=>∃k,x=.bl k/\Q k H'
def Om(g:X4 X (V9 g8) d9)(E:PE X Z t)(D:PE X L Y)(o:oB g8 L=U'):PT X (qX Z [g8] [L] p)<|Iy<|vF d9 t Y:=by
 intro d s f H Q I h;refine wpAny_isTrue_Compare1 (M8 (E d s f H _ I h) λv l ⟨x,B,m,a,C⟩=>M8 (D d l f B _ m C) λu q ⟨y,b,j,n,q2⟩=>
  M8 (g d q f b x y v u _ j a n q2) λc G ⟨z,w,F,A,k,e,i⟩=>?_) o
 subst e;cases A;exact um ⟨w,F,i⟩
def CY(r r':R2)(ta tb tc:TE):TE:=λσ H Q=>ta σ H λx H1=>tb σ H1 λy H2=>r x y H2 λz H3=>∃k,z=.bl k /\
 (if k=Uf then tc σ H3 λw' H4=>r' y w' H4 Q else Q (.bl U') H3)
def JJ{c:Expr}{tc:TE}{g:CmpOp}{n:R2}(b:X4 X (V9 g8) d9)(j:X4 X (V9 g) n)(r:PE X Z t)(W:PE X L Y)(V:PE X c tc)(E:lastMarks [g8,g] [L,c]=U':=by with_unfolding_all rfl):PE X (qX Z [g8,g] [L,c] p)<|CY d9 n t Y tc:=by
 intro f s i H Q I h;refine Compare_chain (M8 (r f s i H _ I h) λv B ⟨x,S,C,N,T⟩=>chain_link (M8 (W f B i S _ C T) λu M ⟨y,F,w,m,q2⟩=>
  M8 (b f M i F x y v u _ w N m q2) λd q ⟨z,o,ta,P,k,e,l⟩=>?_)) E
 subst e;cases P;refine um ?_;cases k with
 |false=>exact ite_ff ⟨.bl U',o,ta,rfl,l⟩
 |true=>exact ite_tt<|chain_last<|M8 (V f q i o _ ta l) λA R ⟨K,D,G,O,a⟩=>j f R i D y K u A Q G m O a
def yY:(G7:Nat)<2^63:=by rw[eX];decide
def QH:X4 X (eU qY) (λx y H Q=>∃i j,x=.str i/\y=.str j/\i.length+j.length<=G7/\Q (.str<|i++j) H):=by intro a s g H x y v u Q I e c h;obtain⟨i,j,rfl,rfl,b,q⟩:=h;obtain⟨t,rfl⟩:=e;obtain⟨d,rfl⟩:=c;exact add_str (λd f=>⟨.str<|i++j,H,I.tok _,⟨_,rfl⟩,q⟩) b
def vals1(r:Vals [M] I):∃u,I=[u]/\RelV M u:=by
 cases r with
 |cons b a=>cases a;exact⟨_,rfl,b⟩
def vals2{y:V}(r:Vals [M,y] I):∃u w',I=[u,w']/\RelV M u/\RelV y w':=by
 cases r with
 |cons c a=>
  cases a with
  |cons b d=>cases d;exact⟨_,_,rfl,c,b⟩
def a1B:cA X (P5 "abs") (λxs H Q=>∃i,xs=[.int i]/\Q (.int<|if i<0 then -i else i) H):=by intro a s c H xs d Q I r h;obtain⟨i,rfl,q⟩:=h;obtain⟨u,rfl,t,rfl⟩:=vals1 r;exact call_abs_int λu b=>⟨.int<|if i<0 then -i else i,H,I.tok _,⟨_,rfl⟩,q⟩
def VH:cA X (E8 "int") (λxs H Q=>(∃i,xs=[.int i]/\Q (.int i) H)\/∃k,xs=[.bl k]/\Q (.int<|if k then 1 else 0) H):=by
 intro a s c H xs d Q I r h;rcases h with ⟨i,rfl,q⟩|⟨k,rfl,q⟩
 obtain⟨u,rfl,t,rfl⟩:=vals1 r;exact call_int_int ⟨.int i,H,I,⟨_,rfl⟩,q⟩;obtain⟨u,rfl,b⟩:=vals1 r;cases b;exact call_int_bool ⟨.int<|if k then 1 else 0,H,I.tok _,⟨_,rfl⟩,q⟩
def zv:cA X (E8 "str") (λxs H Q=>∃i,xs=[.int i]/\i.natAbs.log2<1920/\Q (.str<|jI i) H):=by intro a s c H xs d Q I r h;obtain⟨i,rfl,b,q⟩:=h;obtain⟨u,rfl,t,rfl⟩:=vals1 r;exact PySem.P.str_of_int b ⟨.str _,H,I.tok _,⟨_,rfl⟩,q⟩
structure CM(h:Heap)(x dx C:Addr)(mA:Str->Option A1):Prop where
 obj:h.get? x=U (qS C dx)
 ns:h.Ns1 dx mA
 ne:dx≠x
set_option tactic.hygienic true in
def UG(n:g.Ns1 e S):∃od,g.get? e=U od/\∀name,wI name od=U (S name):=by
 obtain⟨o,c,p,j,h,m,_,i⟩:=n;refine⟨o,j,λname=>?_⟩;have f:=i name;unfold nsFind findBy at f;rw[<-Mw]at f;delta wI;rw[h];dsimp only;split;rename_i y q;rw[q]at f;exact J3 U f
 . rename_i q;rw[q]at f;have a:c.toList.any (·.refKey)=U':=by rw[FI];intro y k;obtain⟨z,t,b⟩:=m y<|Array.mem_toList_iff.mp k;simp[DictEntry.refKey,b]
   have l:¬c.toList.any (·.refKey)=Uf:=by rw[a];exact dE
   rw[B2 l];exact J3 U f
def CM.look{C:Addr}(I:CM g e y C S):∃od,qO g e (qS C y) C (U od)/\∀name,wI name od=U (S name):=
 let ⟨od,c,d⟩:=UG I.ns
 ⟨od,⟨I.obj,rfl,rfl,c⟩,d⟩
def get_map{C:Addr}{Q:A1->C5->Prop}(X:K.In a.heap)(I:CM a.heap e y C S)(d:Ae K C m=Uf)(c:Ai K C=Uf)(g:bz K (A5 C) m=U J)(f:S m=U D)(b:FE D=Uf)(h:Q D {a with toks:=a.toks+1}):
  wpAny (model o q) A (getAttr (A5 e) m R) Q u a:=by obtain⟨i,Jff,w⟩:=I.look;exact PySem.W.get_value X Jff (MC d).1 (Xp c g rfl<|by rw[w,f]) b h
def a0X{C f:Addr}(X:K.In a.heap)(I:CM a.heap e y C S)(w:Ae K C m=Uf)(d:bz K (A5 C) m=U (U<|A5 f))(b:zV K (A5 f)=Uf)(c:S m=J)(h:j4 (A5 f,[A5 e]) a):
  wpAny (model o q) A (Ew (A5 e) m i8) j4 u a:=by obtain⟨E,Jff,g⟩:=I.look;exact PySem.W.method_fn X Jff (MC w).1 (MC w).2 d (beq_iff_eq.mp b) (by show(wI m E).map (·.isSome)=U U';rw[g,c];rfl) h
def a3D{C:Addr}(X:K.In a.heap)(I:CM a.heap e y C S)(hs:bz K (A5 C) "__setattr__" = U (U<|P5 "object.__setattr__"))(p:Mq K C=Uf)(j:Mh K C m=U J)(w:Ai K C=Uf)(l:LQ S N)(hsz:N.length<=G7)(h:∀h',CM h' e y C (λv=>if v=m then U D else S v)->tY y a.heap h'->d6 () {a with heap:=h',toks:=a.toks+2}):
  wpAny (model o q) A (setAttr (A5 e) m D) d6 u a:=by
 obtain⟨t,Jff,s⟩:=I.look;refine WH X Jff hs<|PySem.W.osa_open X Jff p j λb=>?_;obtain⟨B,E,x⟩:=FC w;refine C6<|G8<|C6<|C6<|EU I.obj<|C6<|wX (MB X E) ?_;rw[x];refine G8<|C6<|G8<|C6 ?_;refine wpAny_nsSet1 I.ns λh' d c=>?_;obtain⟨z,n,k,g,i,f⟩:=d.count<|PySem.Within.cons m D l;refine C6 (wpAny_lookBehind g (by rw[i];exact pastItsLine_dict<|D6 f (by rw[L3];simp[*])) ?_);exact G8<|h _ ⟨(c.2 _<|P9 I.ne).trans I.obj,d,I.ne⟩ c
def a0A{R:Result->C5->Prop} (X:K.In a.heap) (c:Fn K e=Uf) (s:bz K (A5 e) "__init__" = U (U<|A5 y)) (i:PySem.W.typeIn K (A5 y)=U (E8 "function")) (h:lG (model o q) (A.under<|uu "type.__call__" ⟨A5 e::I,i9⟩) (qP (A5 y) ⟨A5 ((hz a) + 1)::I,i9⟩) (PySem.W.InitBack ((hz a) + 1) R)
   {a with heap:=(a.heap.push qW).push (qS e<|hz a)}) :
  lG (model o q) A (qP (A5 e) ⟨I,i9⟩) R a:=by obtain⟨j,g,d,t,k⟩:=a;exact PySem.W.make_core (PySem.W.makes_of X c) (xa X s) (λw=>PySem.W.bind_fn X w i) (B3 rfl) h
noncomputable def gk(f:Str)(v:V):List (Str×V)->List (Str×V)
 | []=>[(f,v)]
 |(g,x)::r=>if g=f then(g,v)::r else(g,x)::gk f v r
theorem BE(f g:Str)(v:V):∀fs:List<|Str×V,(gk f v fs).lookup g=if g=f then U v else fs.lookup g
 | []=>by
  show fW g [(f,v)]=_;by_cases h:g=f;have a:=beq_iff_eq.mpr h;simp only[fW,a,A6 h];have a:=beq_eq_false_iff_ne.mpr h;simp only[fW,a,B2 h]
 |(k,x)::r=>by
  rw[show gk f v ((k,x)::r)=(if k=f then(k,v)::r else(k,x)::gk f v r)from rfl];by_cases b:k=f
  . rw[A6 b];by_cases h:g=k;have a:=beq_iff_eq.mpr h;simp only[fW,a,A6<|h.trans b];have a:=beq_eq_false_iff_ne.mpr h;simp only[fW,a,B2 (λe:g=f=>h<|e.trans b.symm)]
  . rw[B2 b];by_cases h:g=k;have a:=beq_iff_eq.mpr h;simp only[fW,a,B2 (λe:g=f=>b<|h.symm.trans e)];have a:=beq_eq_false_iff_ne.mpr h;simp only[fW,a];exact(BE f g v r)
theorem zd(f:Str)(v:V):∀fs:List<|Str×V,f∈(gk f v fs).map (·.1)/\∀g,g∈fs.map (·.1)->g∈(gk f v fs).map (·.1)
 | []=>⟨by simp[gk],λg h=>by simp at h⟩
 |(k,x)::r=>by
  obtain⟨b,c⟩:=zd f v r;rw[show gk f v ((k,x)::r)=(if k=f then(k,v)::r else(k,x)::gk f v r)from rfl];by_cases a:k=f;rw[A6 a];subst a;exact⟨Q3,λg h=>by simpa using h⟩
  . rw[B2 a];refine⟨?_,λg h=>?_⟩;rw[K3];exact G6 _ b
    . rw[K3]at h|-;rcases List.mem_cons.mp h with e|e
      exact List.mem_cons.mpr<|B3 e;exact G6 _<|c g e
theorem BG(f:Str)(v:V):∀fs:List<|Str×V,(gk f v fs).length<=fs.length+1
 | []=>by simp[gk]
 |(k,x)::r=>by
  have:=BG f v r;rw[show gk f v ((k,x)::r)=(if k=f then(k,v)::r else(k,x)::gk f v r)from rfl];by_cases a:k=f;rw[A6 a,L3,L3];simp[*];rw[B2 a,L3,L3];simp[*]
def jD.some_of(r:jD (U M) j5):∃u,j5=U u/\RelV M u:=by
 cases j5 with
 |none=>exact(show False from r).elim
 |some u=>exact⟨u,rfl,r⟩
def jD.none_of(r:jD J j5):j5=J:=by
 cases j5 with
 |none=>rfl
 |some u=>exact(show False from r).elim
def HP(r:RelV M D):FE D=Uf:=by
 cases M with
 |non=>cases(show D=eV from r);rfl
 |bl b=>cases(show D=zN b from r);rfl
 |int i=>obtain⟨t,e⟩:=(show ∃t,D=Ex i t from r);cases e;rfl
 |str x=>obtain⟨t,e⟩:=(show ∃t,D=zL x t from r);cases e;rfl
 |byt b=>obtain⟨t,e⟩:=(show ∃t,D=Value.bytes b t from r);cases e;rfl
 |flt b=>obtain⟨t,e⟩:=(show ∃t,D=Value.float b t from r);cases e;rfl
 |ref a=>cases(show D=X2 a from r);rfl
 |ty n=>cases(show D=EA n from r);rfl
section
variable{H:Hp}{h:Heap}
def GK{dx:Addr}(c:dQ o q H h)(w:H e=U (.ins y dx h8)):∃b,CM h e dx y b/\(∀f,jD (h8.lookup f)<|b f)/\LQ b (h8.map (·.1))/\h8.length<=1000/\H dx=U (.own e):=by
 obtain⟨d,z,ne,g,b,n,r,P⟩:=(show Z2 o q H h e (.ins y dx h8)from c e _ w);exact⟨b,⟨g,n,ne⟩,r,P,z,d⟩
end
structure Gi(K:D4)(C:Addr):Prop where
 pg:Ae K C ow=Uf
 hd:Ai K C=Uf
 po:Mq K C=Uf
 sa:bz K (A5 C) "__setattr__" = U (U<|P5 "object.__setattr__")
def Gi.get(c:Gi K e)(f:Str):Ae K e f=Uf:=c.pg
def jE(K:D4)(C:Addr)(f:Str):Prop:=bz K (A5 C) f=U J
def jE.a9H(n:jE K e m):Mh K e m=U J:=by
 delta Mh;rw[show bz K (A5 e) m=U J from n];rfl
structure Meth(K:D4)(C:Addr)(m:Str)(f:Addr):Prop where
 at_:bz K (A5 C) m=U (U<|A5 f)
 fn:zV K (A5 f)=Uf
 kp:dC K (A5 f)=Uf
section
variable{H:Hp}
def Rn{dx:Addr}{Q:A1->C5->Prop}(I:Inv X c n H a)(C:H e=U (.ins y dx h8))(σ:Gi X.K y)(s:jE X.K y m)(l:h8.lookup m=U M)(h:∀f s',Inv X c n H s'->RelV M f->Q f s'):wpAny (model X.prog X.w) A (getAttr (A5 e) m R) Q u a:=by
 obtain⟨i,O,r,_,_,_⟩:=GK I.H9 C;obtain⟨f,g,d⟩:=jD.some_of (by rw[<-l];exact r m);exact get_map I.bI O (σ.get m) σ.hd s g (HP d)<|h f _ (I.tok _) d
def DU{dx:Addr}{g:Addr}(I:Inv X c n H a)(s:H e=U (.ins y dx h8))(σ:Gi X.K y)(k:Meth X.K y m g)(l:h8.lookup m=J)(h:j4 (A5 g,[A5 e]) a):wpAny (model X.prog X.w) A (Ew (A5 e) m i8) j4 u a:=by
 obtain⟨mA,O,r,_,_,_⟩:=GK I.H9 s;have hn:mA m=J:=jD.none_of (by rw[<-l];exact r m);exact a0X I.bI O (σ.get m) k.at_ k.fn hn h
def Qg{dx:Addr}(I:Inv X c n H a)(C:H e=U (.ins y dx h8))(σ:Gi X.K y)(s:jE X.K y m)(G:h8.length<1000)(t:RelV M D)(h:∀s',Inv X c n (upd H e<|.ins y dx<|gk m M h8) s'->d6 () s'):wpAny (model X.prog X.w) A (setAttr (A5 e) m D) d6 u a:=by
 obtain⟨i,O,r,k,_,j⟩:=GK I.H9 C;have p:(h8.map (·.1)).length<=G7:=by rw[F4,eX];exact nAl
 refine a3D I.bI O σ.sa σ.po s.a9H σ.hd k p λf d B=>h _ ?_
 have l:∃o,f.get? dx=U o:=let ⟨o,_,_,E,_⟩:=d.ns;⟨o,E⟩;refine I.write (by rw[C];exact jM) (B6 j) (λb q F z=>(B.2 b F).trans z) l ?_
 refine⟨by rw[F9 O.ne];exact j,?_,O.ne,d.obj,_,d.ns,λg=>?_,λg v=>?_⟩;have:=BG m M h8;exact D6 B1 B1
 . show jD ((gk m M h8).lookup g) (if g=m then U D else i g);rw[BE];by_cases q:g=m;rw[A6 q,A6 q];exact t;rw[B2 q,B2 q];exact r g
 . by_cases q:g=m;rw[q];exact(zd m M h8).1
   . refine(zd m M h8).2 g (k g λz=>v ?_);show(if g=m then U D else i g)=J;rw[B2 q];exact z
def Inv.made{C:Addr}(I:Inv X c n H a):Inv X c n (upd (upd H (hz a)<|.own<|(hz a)+1) ((hz a)+1)<|.ins C (hz a) [])
  {a with heap:=(a.heap.push qW).push (qS C<|hz a)}:=by
 have s:(a.heap.push qW).get? (hz a)=U qW:=ae a.heap rfl;have g:((a.heap.push qW).push<|qS C<|hz a).get? ((hz a)+1)=U (qS C<|hz a):=by
  have:=ae (a.heap.push qW) (o:=qS C<|hz a) rfl
  rwa [jR]at this
 have σ:(a.heap.push qW).Ns (hz a)<|λ_=>J:=⟨qW,#[],_,s,rfl,(λe f=>absurd f<|λh=>nomatch h),λ_=>rfl⟩;have d:=I.laid (o:=.own<|(hz a)+1) (t':=a.toks) (λb u q=>L0 _ q) Y1 ⟨_,s⟩;refine d.laid (λb u q=>L0 _ q) (Nat.le_of_eq<|jR _ _) ?_;have ne:(hz a)≠(hz a)+1:=Z9<|FA _;refine⟨by rw[F9 ne,K8],lP _,ne,g,λ_=>J,(Heap.Ns1.of_empty σ).at λo q=>L0 _ q,λ_=>jM,λy h=>absurd rfl h⟩
def Pq{env:Env}{Q:A1->C5->Prop}(w:uf Z m env (eval Z env)=eval Z env)(h:wpAny (model o q) A (eval Z env) (λE s₁=>wpAny (model o q) A (getAttr E m Uf) Q u s₁) u a):wpAny (model o q) A (eval (Q0 Z m p) env) Q u a:=
 Attribute_any_ h (by rw[arm_eval_Attribute,w])
end
def YU(K:D4)(ta:TE)(f:Str):TE:=λσ H Q=>ta σ H λx H1=>∃a C dx fs v,x=.ref a/\H1 a=U (.ins C dx fs)/\Gi K C/\jE K C f/\fs.lookup f=U v/\Q v H1
def a6A(K:D4)(ta tv:TE)(f:Str):TS:=λD σ H=>tv σ H λy H1=>ta σ H1 λx H2=>∃a C dx fs,x=.ref a/\H2 a=U (.ins C dx fs)/\Gi K C/\jE K C f/\fs.length<1000 /\
 D.nx σ (upd H2 a<|.ins C dx<|gk f y fs)
def TN(g:PE X Z t)(r:Nf X Z m):PE X (Q0 Z m p)<|YU X.K t m:=by
 intro b s j H Q I h;refine Pq r<|M8 (g b s j H _ I h) λu y ⟨x,e,o,k,a,C,z,fs,v,B,d,c,n,l,q⟩=>?_;subst B;obtain rfl:=k;exact Rn o d c n l λA w i f=>⟨v,e,i,f,q⟩
def a7b{pos':Pos}(w:PE X Z t)(r:PE X L Y)(hs:ak L (U<|Q0 Z m pos') p.line X.env=pure U'):PS X (gB [Q0 Z m pos'] L p)<|a6A X.K t Y m:=by
 intro b s d H D I h;refine Ys (M8 (r b s d H _ I h) λu j ⟨y,v,o,G,q⟩=>M8 (w b j d v _ o q) λk E ⟨x,B,g,i,a,C,F,fs,f,e,c,n,l,q2⟩=>?_) hs;subst f;obtain rfl:=i;exact Qg g e c n l G λA z=>⟨d,_,z,q2⟩
section
variable{H:Hp}
end
structure dy(c:Bool)(k:Nat)(A:X1):Prop where
 hd:c=Uf->A.handled=J
 dp:A.depth+3*k+5<recursionLimit
 un:A.units+16*k+200<aQ
abbrev aG:=dy Uf
def dy.mono{j:Nat}(r:dy R k A)(h:j<=k):dy R j A:=⟨r.hd,by have:=r.dp;lia,by have:=r.un;lia⟩
theorem dy.deeper(r:dy R (k+1) A)(env:Env):dy R k<|A.deeper env:=
 ⟨r.hd,by have:=r.dp;show A.depth+1+3*k+5<_;lia,by have:=r.un;show A.units+3+16*k+200<_;lia⟩
def QU:(A.under<|uu "type.__call__" ⟨A5 e::I,i9⟩).depth=A.depth+1:=by first|rfl|simp[LP]
def QT:(A.under<|uu "type.__call__" ⟨A5 e::I,i9⟩).units=A.units+1:=by first|rfl|simp[LP]
def dy.make(r:dy R (k+1) A)(C:Addr)(us:List A1)(a:List<|Str×A1):dy R k<|A.under<|uu "type.__call__" ⟨A5 C::us,a⟩:=
 ⟨r.hd,by have:=r.dp;rw[QU];lia,by have:=r.un;rw[QT];lia⟩
theorem dy.depth(r:dy R k A):A.depth<recursionLimit:=by have:=r.dp;lia
theorem dy.units(r:dy R k A):A.units+64<aQ:=by have:=r.un;lia
def pA:TA:=λ_ H Q=>Q [] H
def fj(ta:TE)(tr:TA):TA:=λσ H Q=>ta σ H λx H1=>tr σ H1 λxs H2=>Q (x::xs) H2
def jt:PA X [] pA:=λ_ _ _ _ H Q I h=>Mp ⟨[],H,I,P1,h⟩
def bg(o:PE X Z t)(f:PA X G a9)(hs:autoParam (fS X Z G) B7):PA X (Z::G)<|fj t a9:=by
 intro pos a s b H Q I h;rw[hs];refine FL<|M8 (o a s b H _ I h) λu k ⟨x,l,m,i,n⟩=>?_;exact M8 (f pos a k b l _ m n) λq p ⟨j,d,g,c,q2⟩=>⟨x::j,d,g,N8 i c,q2⟩
def a6g(t:TA):TE:=λσ H Q=>t σ H λxs H1=>xs.length<=G7/\∀p,H1 p=J->Q (.ref p) (upd H1 p<|.tup xs)
def a6k(t:TA):TE:=λσ H Q=>t σ H λxs H1=>xs.length<=G7/\∀p,H1 p=J->Q (.ref p) (upd H1 p<|.lst xs)
def a7h{x1}(h:PA X G a9):PE X (lY G x1 p)<|a6g a9:=by
 intro pins s σ H Q I hq;refine wpAny_Tuple_spliced (M8 (h p pins s σ H _ I hq) λus s1 ⟨xs,H1,I1,r,z,q⟩=>⟨by rw[<-r.length];exact z,?_⟩);have hf:H1 s1.heap.objs.size=J:=I1.H9.fresh Y1;refine⟨.ref s1.heap.objs.size,upd H1 s1.heap.objs.size<|.tup xs,I1.laid (t':=s1.toks) (λb u e=>L0 _ e) Y1 ?_,rfl,q _ hf⟩;exact⟨z,us,r,⟨_,ae _ rfl,rfl,_,rfl⟩⟩
def a7m(h:PA X G a9):PE X (Wj G p)<|a6k a9:=by
 intro pins s σ H Q I hq;refine wpAny_List_spliced (M8 (h p pins s σ H _ I hq) λus s1 ⟨xs,H1,I1,r,z,q⟩=>⟨by rw[<-r.length];exact z,?_⟩);have hf:H1 s1.heap.objs.size=J:=I1.H9.fresh Y1;refine⟨.ref s1.heap.objs.size,upd H1 s1.heap.objs.size<|.lst xs,I1.laid (t':=s1.toks) (λb u e=>L0 _ e) Y1 ?_,rfl,q _ hf⟩;exact⟨z,us,0,r,ae _ rfl⟩
abbrev Sp:=List V->Hp->VK->XK->Prop
variable{b7:Sp}
abbrev vi:=List Env->Hp->C5->XK->A1->C5->Prop
variable{b5:vi}
structure CO(P:S6)(w:N6)(K:D4)(mg:Str->Option A1)(base:Heap)(A:X1)(outer:List Env)(s:C5)(H:Hp):Prop where
 frames:A.frames=U outer
 mod:Mod K mg base
 bs:∀b o,base.get? b=U o->s.heap.get? b=U o/\H b=J
 uV:base.objs.size<=s.heap.objs.size
 mQ:s.heap.FunFrames base outer
 BI:∀b∈aY outer,H b=J
 H9:dQ P w H s.heap
 bare:jH s.gens
def CE(outer:List Env)(P:S6)(w:N6)(H:Hp)(s:C5)(Q:VK)(u:A1)(s':C5):Prop:=
 ∃v H',s'.os=s.os/\jH s'.gens/\Un (aY outer) [] H H' s.heap s'.heap/\dQ P w H' s'.heap/\RelV v u/\Q v H'
def CR(CX:vi)(outer:List Env)(P:S6)(w:N6)(H:Hp)(s:C5)(Q:VK)(E:XK)(r:Result)(s':C5):Prop:=
 match r with
 |jK (lT u)=>CE outer P w H s Q u s'
 |jK _=>False
 |lQ e=>CX outer H s E e s'
structure rN(c:Bool)(P:S6)(w:N6)(K:D4)(mg:Str->Option A1)(base:Heap)(CX:vi)(k:Nat)(f:Addr)(fd:W4)(ps:List Str)(sp:Sp):Prop where
 len:∀vs H Q E,sp vs H Q E->vs.length=ps.length
 run:∀(A:X1) (outer:List Env) (s:C5) (H:Hp) (args:Args) (us:List A1) (vs:List V) (Q:VK) (E:XK),dy c k A->CO P w K mg base A outer s H->tP s fd args (ps.zip us)->Vals vs us->sp vs H Q E ->
  lG (model P w) A (qP (A5 f) args) (CR CX outer P w H s Q E) s
abbrev Y6:=rN Uf
theorem Y6.mono{j:Nat}(F:Y6 o q K S g b5 j e b6 N b7)(h:j<=k):
  Y6 o q K S g b5 k e b6 N b7:=⟨F.len,λA a s H b P w Q E d=>F.run A a s H b P w Q E<|d.mono h⟩
def Y6.imp{c:Sp}(F:Y6 o q K S g b5 k e b6 N b7)(h:∀vs H Q E,c vs H Q E->b7 vs H Q E):Y6 o q K S g b5 k e b6 N c:=
 ⟨λvs H Q E P=>F.len vs H Q E<|h _ _ _ _ P,λA a s H b l vs Q E i w j f m=>F.run A a s H b l vs Q E i w j f<|h _ _ _ _ m⟩
def CO.make(e:CO o q K S g A j6 a d)(C:Addr)(us:List A1)(P:List<|Str×A1):
  CO o q K S g (A.under<|uu "type.__call__" ⟨A5 C::us,P⟩) j6 a d:=⟨by first|exact e.frames|(simpa [LP,Code.envs,Code.isFrame,pushEnvs]using e.frames),e.mod,e.bs,e.uV,e.mQ,e.BI,e.H9,e.bare⟩
section
variable{H:Hp}
def Inv.Ld(I:Inv X c n H a):CO X.prog X.w X.K X.mg X.base X.A X.stack a H:=
 ⟨I.ok.frames,I.ok.mod,I.bs,D6 I.ok.uV I.sz,I.stack,I.vH,I.H9,I.bare⟩
def Inv.after{s':C5}(I:Inv X c n H a)(h:CE X.stack X.prog X.w H a e9 D s'):EP X c n e9 D s':=by obtain⟨v,i,f,s,un,σ,r,q⟩:=h;obtain⟨j,g,d,t,e⟩:=s';obtain rfl:=f;exact⟨v,i,I.call un σ s<|λb z=>absurd z C9,r,q⟩
end
def nK(sp:Sp)(dvs:List V)(E:XK)(t:TA):TE:=λσ H Q=>t σ H λvs H1=>sp (vs++dvs) H1 Q E
def uK(C:Addr)(m:Str)(sp:Sp)(dvs:List V)(E:XK)(ta:TE)(t:TA):TE:=λσ H Q=>ta σ H λx H1=>∃a dx fs,x=.ref a/\H1 a=U (.ins C dx fs)/\fs.lookup m=J /\
 t σ H1 λvs H2=>sp (x::(vs++dvs)) H2 Q E
def a2d(C:Addr)(sp:Sp)(dvs:List V)(E:XK)(t:TA):TE:=λσ H Q=>t σ H λvs H1=>∀x dx,H1 x=J->H1 dx=J->dx≠x ->
 sp (.ref x::(vs++dvs)) (upd (upd H1 dx<|.own x) x<|.ins C dx []) (λv H2=>v=.non/\Q (.ref x) H2) E
def Binds(K:D4)(fd:W4)(ps:List Str)(ds:List A1):Prop:=
 ∀(s:C5) (us:List A1),K.In s.heap->(us++ds).length=ps.length->tP s fd ⟨us,[]⟩ (ps.zip<|us++ds)
def Binds.all(h:∀us:List A1,us.length=N.length->bindArgs b6 ⟨us,[]⟩=pure (N.zip us)):Binds K b6 N []:=λs us _ b=>by rw[bA]at b|-;exact PySem.BindsTo.of_eq<|h us b
def Passes(CX:vi)(X:Cx)(E:XK):Prop:=∀(pins:List<|Addr×Obj) (σ:St) (H:Hp) (s:C5) (e:A1) (s':C5),Inv X pins σ H s->CX X.stack H s E e s'->X.xe e s'
section
variable{f C:Addr}
def Jt{s:C5}{us:List A1}{vs:List V}(F:Y6 X.prog X.w X.K X.mg X.base b5 k f b6 N b7)(g:aG k X.A)(l:Binds X.K b6 N I)(hd:Vals z I)(H:Passes b5 X c9)(E:Inv X c n d s)(r:Vals vs us)(h:b7 (vs++z) d e9 c9):wpAny (model X.prog X.w) X.A (call (A5 f) us) (EP X c n e9) X.xe s:=by
 have b:=r.append hd;have i:(us++I).length=N.length:=by rw[<-b.length];exact F.len _ _ _ _ h
 refine tS<|tX (F.run X.A X.stack s d ⟨us,[]⟩ (us++I) (vs++z) e9 c9 g E.Ld (l s us E.bI i) b h) λr j hq=>?_
 cases r with
 |error e=>exact H c n d s e j E hq
 |ok a=>
  cases a with
  |ret u=>exact E.after hq
  |next=>exact X7 hq
  |brk=>exact X7 hq
  |cont=>exact X7 hq
def Gx{pos:Pos}(F:Y6 X.prog X.w X.K X.mg X.base b5 k f b6 N b7)(l:aG k X.A)(n:Gl X m)(g:X.mg m=U (A5 f))(u:dC X.K (A5 f)=Uf)(o:Binds X.K b6 N I)(hd:Vals z I)(j:Passes b5 X c9)(v:PA X (Z::G) a9)(b:autoParam (jj m) B7)(i:autoParam (fS X Z G) B7)(c:autoParam (lF X pos G) B7):
  PE X (L8 (G9 m p) (Z::G) [] pos) (nK b7 z c9 a9):=by
 intro a s e H Q x h;refine uq<|nk x n g ?_ b;refine uo x.ok.mod.yZ u (M8 (v pos a s e H _ x h) λB E ⟨y,C,d,r,q⟩=>⟨d.bI,?_⟩) i c;exact Jt F l o hd j d r q
def Ot{apos:Pos}(M:PE X L t)(c:Gi X.K C)(v:Meth X.K C m f)(F:Y6 X.prog X.w X.K X.mg X.base b5 k f b6 N b7)(E:aG k X.A)(P:Binds X.K b6 N I)(hd:Vals z I)(B:Passes b5 X c9)(R:PA X (Z::G) a9)(d:autoParam (fS X Z G) B7)(g:autoParam (lF X p G) B7)(e:autoParam (Px X L m apos (Z::G) p i8) B7):
  PE X (L8 (Q0 L m apos) (Z::G) [] p) (uK C m b7 z c9 t a9):=by
 intro b s n H Q o h;refine ML (M8 (M b s n H _ o h) λu K ⟨x,O,w,D,a,Y,fs,A,y,l,q⟩=>?_) e;subst A;obtain rfl:=D;refine DU w y c v l ?_;refine uo o.ok.mod.yZ v.kp (M8 (R p b K n O _ w q) λS V ⟨j,T,i,r,q2⟩=>⟨i.bI,?_⟩) d g;exact Jt (vs:=.ref a::j) F E P hd B i (N8 rfl r) q2
structure Mk(K:D4)(C f:Addr):Prop where
 makes:Fn K C=Uf
 init:bz K (A5 C) "__init__" = U (U<|A5 f)
 fn:zV K (A5 f)=Uf
 kp:dC K (A5 C)=Uf
def Zl{H:Hp}{us:List A1}{vs:List V}(M:Mk X.K C f)(F:Y6 X.prog X.w X.K X.mg X.base b5 k f b6 N b7)(Q:aG (k+1) X.A)(E:Binds X.K b6 N I)(hd:Vals z I)(l:Passes b5 X c9)(d:Inv X c n H a)(r:Vals vs us)(h:∀x s,H x=J->H s=J->s≠x->b7 (.ref x::(vs++z)) (upd (upd H s<|.own x) x<|.ins C s []) (λv H2=>v=.non/\e9 (.ref x) H2) c9):
  wpAny (model X.prog X.w) X.A (call (A5 C) us) (EP X c n e9) X.xe a:=by
 have hq:=h ((hz a)+1) (hz a) (d.H9.fresh<|lO _) (d.H9.fresh Y1)<|Z9<|FA _;have b:=Inv.made (C:=C) d;have g:Vals (V.ref ((hz a)+1)::(vs++z)) (X2 ((hz a)+1)::(us++I)):=N8 rfl<|r.append hd;have p:(X2 ((hz a)+1)::us++I).length=N.length:=by have e:=g.length;rw[F.len _ _ _ _ hq]at e;exact e.symm
 refine tS<|a0A d.bI M.makes M.init (beq_iff_eq.mp M.fn)<|tX (F.run _ X.stack _ _ ⟨X2 ((hz a)+1)::us,[]⟩ (X2 ((hz a)+1)::(us++I)) _ _ c9 (Q.make C us [])
  (b.Ld.make C us []) (E _ (X2 ((hz a)+1)::us) b.bI p) g hq) λr q w=>?_
 cases r with
 |error e=>exact l c n _ _ e q b w
 |ok i=>
  cases i with
  |ret u=>
   obtain⟨v,y,j,o,t,m⟩:=b.after w;subst t;exact⟨o,⟨V.ref<|(hz a)+1,y,j,rfl,m⟩⟩
  |next=>exact X7 w
  |brk=>exact X7 w
  |cont=>exact X7 w
def a4s{pos:Pos}(M:Mk X.K C f)(F:Y6 X.prog X.w X.K X.mg X.base b5 k f b6 N b7)(l:aG (k+1) X.A)(n:Gl X m)(g:X.mg m=U (A5 C))(o:Binds X.K b6 N I)(hd:Vals z I)(j:Passes b5 X c9)(u:PA X (Z::G) a9)(b:autoParam (jj m) B7)(i:autoParam (fS X Z G) B7)(c:autoParam (lF X pos G) B7):
  PE X (L8 (G9 m p) (Z::G) [] pos) (a2d C b7 z c9 a9):=by
 intro a s e H Q x h;refine uq<|nk x n g ?_ b;refine uo x.ok.mod.yZ M.kp (M8 (u pos a s e H _ x h) λE y ⟨v,B,d,r,q⟩=>⟨d.bI,?_⟩) i c;exact Zl M F l o hd j d r q
end
structure fF(N P:List Str)(sc:cV):Prop where
 kind:sc.kind=mC
 co:sc.isCoroutine=U'
 gen:sc.isGenerator=U'
 nd:N.Nodup
 pre:N.take P.length=P
 par:∀x∈P,sc.names.lookup x=U aX\/sc.names.lookup x=U aV
 a7I:∀y∈sc.names,y.2≠cQ
theorem HZ{a:Str->Option lH}{x:Str}:∀{binds:List (Str×A1)}{m:Str->Option A1},(∀v,(x,v)∉binds)->bindL a binds m x=m x
 | [],_,_=>rfl
 |(n,v)::r,m,h=>by
  unfold bindL;rw[HZ λw b=>h w<|G6 _ b];split
  . have:x≠n:=by rintro rfl;exact h v K9
    simp[this]
  rfl
theorem Ib{a:Str->Option lH}{x:Str}:∀{binds:List (Str×A1)}{m:Str->Option A1},(∀v,(x,v)∉binds)->bindC a binds m x=m x
 | [],_,_=>rfl
 |(n,v)::r,m,h=>by
  unfold bindC;rw[Ib λw b=>h w<|G6 _ b];split;rfl
  . have:x≠n:=by rintro rfl;exact h v K9
    simp[this]
theorem Ia{a:Str->Option lH}{x:Str}{v:A1}:∀{P:List Str}{vs:List A1}{i:Nat}{m:Str->Option A1},P.Nodup->P[i]?=U x->vs[i]?=U v->a x=U aX ->
  bindL a (P.zip vs) m x=U v
 | [],_,_,_,_,h,_,_=>by simp at h
 |_::_,[],_,_,_,_,h,_=>by simp at h
 |p::P,w::vs,0,m,nd,h1,h2,hk=>by
  simp at h1 h2;subst h1;subst h2;show bindL a ((p,w)::P.zip vs) m p=_;unfold bindL;rw[HZ λv b=>(List.nodup_cons.mp nd).1 (Mg b).1,A6 hk];simp
 |p::P,w::vs,i+1,m,nd,h1,h2,hk=>by
  show bindL a ((p,w)::P.zip vs) m x=_;exact Ia (List.nodup_cons.mp nd).2 (by simpa using h1) (by simpa using h2) hk
theorem Ic{a:Str->Option lH}{x:Str}{v:A1}:∀{P:List Str}{vs:List A1}{i:Nat}{m:Str->Option A1},P.Nodup->P[i]?=U x->vs[i]?=U v->a x≠U aX ->
  bindC a (P.zip vs) m x=U v
 | [],_,_,_,_,h,_,_=>by simp at h
 |_::_,[],_,_,_,_,h,_=>by simp at h
 |p::P,w::vs,0,m,nd,h1,h2,hk=>by
  simp at h1 h2;subst h1;subst h2;show bindC a ((p,w)::P.zip vs) m p=_;unfold bindC;rw[Ib λv b=>(List.nodup_cons.mp nd).1 (Mg b).1,B2 hk];simp
 |p::P,w::vs,i+1,m,nd,h1,h2,hk=>by
  show bindC a ((p,w)::P.zip vs) m x=_;exact Ic (List.nodup_cons.mp nd).2 (by simpa using h1) (by simpa using h2) hk
noncomputable def start(N:List Str)(vs:List V):St:=vs.map U++S9 (N.length-vs.length) J
noncomputable def fD(CX:vi)(P:S6)(w:N6)(K:D4)(mg:Str->Option A1)(base:Heap)(N:List Str)(qual:Str)(scope:cV)(f:Addr)(cd:A1)(A:X1)(outer:List Env)(s:C5)(H:Hp)(E:XK):Cx where
 prog:=P
 ek:=E
 w:=w
 K:=K
 mg:=mg
 base:=base
 A:=A.deeper<|bq qual scope s.heap.objs.size f cd
 N:=N
 ag:=s
 D8:=H
 env:=bq qual scope s.heap.objs.size f cd
 outer:=outer
 stack:=bq qual scope s.heap.objs.size f cd::outer
 ex:=[]
 calm:=Uf
 fn:=λ_=>Uf
 pn:=[]
 xe:=λe s'=>wpAny (model P w) (A.deeper<|bq qual scope s.heap.objs.size f cd) (leaving (bq qual scope s.heap.objs.size f cd) e) (λ_ s''=>CX outer H s E e s'') (λe' s''=>CX outer H s E e' s'') s'
def Lj(h:j0.names.lookup m=U aV):∃c,(lJ k j0.names []).lookup m=U c:=by exact Option.isSome_iff_exists.mp<|XO j0.names k []<|B3 h
def Pk(c:Bool)(CX:vi)(P:S6)(w:N6)(K:D4)(mg:Str->Option A1)(base:Heap)(N:List Str)(qual:Str)(scope:cV)(f:Addr)(cd:A1)(A:X1)(outer:List Env)(s:C5)(H:Hp)(E:XK):Cx:={fD CX P w K mg base N qual scope f cd A outer s H E with calm:=c}
def Vg{s:List Str}{s1:C5}{H:Hp}(d:fF N s j0)(hd:R=Uf->A.handled=J)(j:CO o q K S g A j6 a H)(Q:z.length=s.length)(r:Vals z I)(x:InCallC a (hz a) (bindL (bq m j0 (hz a) e D).kindOf (s.zip I) λ_=>J) (lJ ((hz a)+1) j0.names []) (bindC (bq m j0 (hz a) e D).kindOf (s.zip I) λ_=>J) s1):
  Inv (Pk R b5 o q K S g N m j0 e D A j6 a H c9) [] (start N z) H s1:=by
 have:s.length<=N.length:=by have:=J3 EF d.pre;rw[lX]at this;lia
 obtain⟨F,c,rfl,G⟩:=x.done;have l:∀b:Addr,b∉(Pk R b5 o q K S g N m j0 e D A j6 a H c9).ex:=λb W=>absurd (show b∈([])from W) C9
 refine⟨⟨j.mod,d.kind,rfl,rfl,N7 _,λy W R F f=>?_,λy P=>?_,λy R _ h=>?_,hd,Around.frames_deeper j.frames,B6 ⟨rfl,rfl⟩,λb W=>absurd W<|l b,j.bs,j.uV,λb _ _=>l b,λb W=>absurd W<|l b,j.mQ,j.BI⟩,
  rfl,j.bare,Un.kept G,⟨_,x.toInCall.ns,λi y v F f T=>?_⟩,λy R h=>⟨_,x.cell y R h⟩,j.H9.fresh Y1,λy R h=>?_,λp t=>absurd (show p∈([])from t) C9,j.H9.kept G,?_⟩
 exact name_of_addr x.apart (ra F)<|ra f
 . have P:=P;rcases P with P|P
   exact Lj P;exact absurd rfl<|d.a7I _<|ra P
 exact fY<|x.above y R<|ra h
 . have C:i<z.length:=by
     unfold start at f;by_cases C:i<z.length;exact C
     . rw[Az<|by simpa using C]at f
       rw[MR]at f;split at f<;>cases f
   have M:z[i]?=U v:=by
    unfold start at f;rw[Ay (by simpa using C),aK]at f
    cases E:z[i]? with
    |none=>rw[E]at f;exact nE f
    |some n=>rw[E]at f;cases f;rfl
   obtain⟨u,O,L⟩:=r.get M;have t:s[i]?=U y:=by rw[<-d.pre,List.getElem?_take_of_lt<|Nat.lt_of_lt_of_eq B1 B1];exact F
   have B:s.Nodup:=by rw[<-d.pre];exact d.nd.sublist<|List.take_sublist _ _
   refine⟨u,L,?_⟩;rcases d.par y (wZ t)with k|k
   exact B3 ⟨k,Ia B t O k⟩
   . obtain⟨R,E⟩:=Lj k;refine B6 ⟨B3 k,R,E,?_⟩;have w:=x.cell y R E;rw[Ic B t O (by show j0.names.lookup y≠_;rw[k];decide)]at w;exact w
 exact j.H9.fresh<|fY<|x.above y R<|ra h
 . delta start;show _=N.length;rw[R5,F4,MK];simp[*]
def Rp{qual:Str}{params:Arguments}{kV doc pm cdv ct oc:A1}{an od:Option Addr}{osl:Array (Option A1)}{ps:List Str} (lk:K.lookup e=U ⟨oc,od,Fm<|jN m qual params b8 j0 D kV doc pm an cdv ct,osl⟩) (hcd:Aa K cdv qual=Uf) (w:fF N ps j0) (len:∀vs H Q E,b7 vs H Q E->vs.length=ps.length) (hbody:∀(A:X1) (outer:List Env) (s:C5) (H:Hp) (vs:List V) (Q:VK) (E:XK),dy R k (A.deeper<|bq qual j0 s.heap.objs.size e cdv)->b7 vs H Q E ->
   ∃t,pw (Pk R b5 o q K S g N qual j0 e cdv A outer s H E) b8 t/\t {nx:=λ_ H'=>Q .non H',rt:=Q} (start N vs) H) :
  rN R o q K S g b5 (k+1) e (jN m qual params b8 j0 D kV doc pm an cdv ct) ps b7:=by
 refine⟨len,λA outer s H args us vs Q E hr e0 hb r hsp=>?_⟩;have hl:=len _ _ _ _ hsp;have KX:K.In s.heap:=e0.mod.yZ.keeps λb c f=>(e0.bs b c f).1;have lim:s.heap.NoLimit:=e0.mod.nolimit.keeps λb c f=>(e0.bs b c f).1
 have hkind:∀y∈ps.zip us,j0.names.lookup y.1=U aX\/(j0.names.lookup y.1=U aV/\((lJ (s.heap.objs.size+1) j0.names []).lookup y.1).isSome=Uf):=λ⟨n,v⟩ hy=>by
  rcases w.par n (Mg hy).1 with P|P
  exact B3 P;exact B6 ⟨P,XO _ _ _<|B3 P⟩
 refine codeAny_call_function hr.depth (KX _ _ lk) rfl w.co w.gen rfl (PySem.W.codeRec_of KX hcd)<|hb _ _ _ _ ?_;refine wpAny_newFunctionEnv_cells w.kind hkind λenv he s1 x=>?_;subst he;refine⟨lim.keeps x.toInCall.keep,codeAny_func ?_⟩;obtain⟨t,ht,hq⟩:=hbody A outer s H vs Q E (hr.deeper _) hsp;have I:Inv (Pk R b5 o q K S g N qual j0 e cdv A outer s H E) [] (start N vs) H s1:=Vg w hr.hd e0 hl r x;refine aT (ht [] s1 (start N vs) H _ I hq) (λfl s' hs=>?_) λf s' hs=>hs
 have fin:∀{σ':St}{H':Hp}{v:V}{u:A1},Inv (Pk R b5 o q K S g N qual j0 e cdv A outer s H E) [] σ' H' s'->RelV v u->Q v H'->CE outer o q H s Q u s':=
  λ{σ' H' v u} Jff rv P=>⟨v,H',Jff.os,Jff.bare,Jff.base,Jff.H9,rv,P⟩
 cases fl with
 |ret u=>
  obtain⟨v,σ',H',Jff,rv,P⟩:=hs;exact fin Jff rv P
 |next=>
  obtain⟨σ',H',Jff,P⟩:=hs;exact fin (v:=V.non) (u:=eV) Jff rfl P
 |brk=>
  obtain⟨_,_,_,P⟩:=hs;exact X7 P
 |cont=>
  obtain⟨_,_,_,P⟩:=hs;exact X7 P
section
variable{r:List V->Hp->VK->Prop}
def Jf(r:List V->Hp->VK->Prop)(t:TA):TE:=λσ H Q=>t σ H λvs H1=>r vs H1 Q
def JK{pos:Pos}(w:cA X (P5 i7) r)(x:Gl X m)(f:X.mg m=J)(i:jO m=U (P5 i7))(y:PA X (Z::G) a9)(g:autoParam (m ≠ "__name__") iJ)(b:autoParam (jj m) B7)(j:autoParam (fS X Z G) B7)(c:autoParam (lF X pos G) B7):PE X (L8 (G9 m p) (Z::G) [] pos)<|Jf r a9:=by intro a s d H Q I h;refine uq<|vU I x f i ?_ g b;exact Yr (M8 (y pos a s d H _ I h) λo n ⟨l,q,u,k,v⟩=>w a n d q l o Q u k v) j c
def TQ{pos:Pos}(w:cA X (E8 i7) r)(x:Gl X m)(f:X.mg m=J)(i:jO m=U (E8 i7))(y:PA X (Z::G) a9)(g:autoParam (m ≠ "__name__") iJ)(b:autoParam (jj m) B7)(j:autoParam (fS X Z G) B7)(c:autoParam (lF X pos G) B7):PE X (L8 (G9 m p) (Z::G) [] pos)<|Jf r a9:=by intro a s d H Q I h;refine uq<|vU I x f i ?_ g b;exact Gd (M8 (y pos a s d H _ I h) λo n ⟨l,q,u,k,v⟩=>w a n d q l o Q u k v) j c
end
end L2
namespace HT
open PySem PyProof.Rows
variable{Z:S6}{w:N6}{A:X1}{E:A1->C5->Prop}{s:C5}{t:Addr}{v:A1}{o:Option Int}
section
open PySem.SeqAt
open PySem.AutoSeq1 (wpAny_loadPart')
open PySem.MeetsSeq PySem.MeetsSeq2 PySem.MeetsSeq3
end
def a5y{b:Addr}{vs ws:List A1}{Q:A1->C5->Prop}(x:IsTup s.heap t vs.toArray)(B:IsTup s.heap b ws.toArray)(p:vs≠[])(z:ws=[]->Q (A5 t) s)(y:ws≠[]->Q (A5 s.heap.objs.size) {s with heap:=s.heap.push {cls:=E8 "tuple",data:=W7 (vs++ws).toArray}})(hsz:vs.length+ws.length<=G7):wpAny (model Z w) A (eU qY (A5 t)<|A5 b) Q E s:=by
 obtain⟨⟨l,v,g,q⟩,i,u,n,m⟩:=id x;obtain⟨⟨o,c,k,f⟩,a,d,r,h⟩:=id B;subst u m d h;have e:vs.toArray++ws.toArray=(vs++ws).toArray:=by simp
 by_cases j:ws=[]
 . exact EK ⟨_,i,rfl⟩ ⟨_,a,rfl⟩ Ml LW MP MQ (MT _ _)
     (tuple_addW1 t b vs.toArray ws.toArray n r v c q f (by simpa using p)<|by simp[j]) ⟨i,a,z j⟩
 . refine EK ⟨_,i,rfl⟩ ⟨_,a,rfl⟩ Ml LW MP MQ (MT _ _)
     (tuple_addW2 t b vs.toArray ws.toArray n r v c q f (by simpa using p) (by simpa using j) (by rw[aJ,aJ];exact hsz)) ⟨i,a,?_⟩
   rw[e];exact y j
noncomputable def U4(n d:Nat):Option Int->Nat
 |none=>d
 |some v=>if v<0 then(v+(n:Int)).toNat else min v.toNat n
def Po(v:Int)(n d:Nat):(if v<0 then max (v+(n:Int)) 0 else min v (n:Int))=((U4 n d (U v):Nat):Int):=by
 show(if v<0 then max (v+n) 0 else min v n)=(((if v<0 then(v+n).toNat else min v.toNat n)));by_cases a:v<0;simp only[A6 a];simp[*];simp only[B2 a];lia
def RD(lo a:Option Int)(n:Nat):Yi lo a 1 (n:Int)=(((U4 n 0 lo:Nat):Int),((U4 n n a:Nat):Int)):=by
 refine Prod.ext ?_ ?_
 . cases lo with
   |none=>rfl
   |some v=>exact Po v n 0
 . cases a with
   |none=>rfl
   |some v=>exact Po v n n
def QE(i j:Nat):Ga (i:Int) (j:Int) 1=j-i:=by delta Ga;split<;>lia
def Dh{Q:Option Int->C5->Prop}(p:fU v o)(h:Q o s):wpAny (model Z w) A (Builtin.Slice.slicePartIndex v) Q E s:=by
 cases p with
 |none=>exact slicePart_none h
 |int i t=>exact slicePart_int h
def sI{e:A1}{c:Option Int}{n:Nat}{Q:Int×Int×Nat->C5->Prop}(hs:s.heap.IsSliceOf t v e F0)(pl:fU v o)(i:fU e c)(h:Q (((U4 n 0 o:Nat):Int),1,U4 n n c-U4 n 0 o) s):wpAny (model Z w) A (Builtin.Slice.sliceApplied (A5 t)<|pure (n:Int)) Q E s:=by
 obtain⟨j,a,g,b⟩:=id hs;refine C6<|C6<|Z3 a b rfl<|C6<|Z3 a b rfl<|C6<|Z3 a b rfl<|G8 ?_;refine C6<|slicePart_none ?_;refine C6<|Dh pl<|C6<|Dh i<|C6<|G8 ?_;show wpAny _ _ (match Yi o c 1 n with|(o,c)=>pure (o,(1:Int),Ga o c 1)) _ _ s;rw[RD o c n];show wpAny _ _ (pure (((U4 n 0 o):Int),1,Ga ((U4 n 0 o)) ((U4 n n c)) 1)) _ _ s;rw[QE];exact G8 h
def a0b(xs:Array A1)(i k:Nat):((Z4 k).filterMap λ(m:Nat)=>xs[((i:Int)+(m:Int)*1).toNat]?).toArray=((xs.toList.drop i).take k).toArray:=by
 have e:(λ(m:Nat)=>xs[((i:Int)+m*1).toNat]?)=λm=>xs[i+m]?:=by
  funext m
  have:((i:Int)+m*1).toNat=i+m:=by lia
  rw[this]
 rw[e];have:=pick_run xs i k;rw[List.filterMap_map]at this;have a:((λx=>xs[x]?)∘λx=>i+x)=λm=>xs[i+m]?:=rfl;rw[a]at this;rw[this]
def Br{i:Addr}{items:Array A1}{j:A1}{b:Option Int}{Q:A1->C5->Prop}(c:IsTup s.heap t items)(hs:s.heap.IsSliceOf i v j F0)(pl:fU v o)(p:fU j b)(l:¬(U4 items.size 0 o=0/\U4 items.size items.size b=items.size))(h:Q (A5 s.heap.objs.size) {s with heap:=s.heap.push {cls:=E8 "tuple",data:=W7 ((items.toList.drop<|U4 items.size 0 o).take<|U4 items.size items.size b-U4 items.size 0 o).toArray}})(hsz:items.size<=G7):wpAny (model Z w) A (qL (A5 t)<|A5 i) Q E s:=by
 have a:sizeOk<|W7 ((items.toList.drop<|U4 items.size 0 o).take<|U4 items.size items.size b-U4 items.size 0 o).toArray:=by
  show((items.toList.drop<|U4 items.size 0 o).take<|U4 items.size items.size b-U4 items.size 0 o).toArray.size<=G7;rw[aJ,lX,gU,MD];exact D6 (oG _ _)<|D6 (Nat.sub_le _ _) B1
 obtain⟨k,g,d,n⟩:=id hs;have e:s.TypeIs (A5 i) "slice":=⟨k,g,d⟩;delta qL;try with_reducible refine ue ?_
 first|refine C6 (G8 ?_)|skip
 refine C6<|wpAny_sequenceKey c.typeIs f7 ?_;refine C6 (uC c.typeIs Ge
  (uk Ge c.typeIs entry_tuple_getitem ?_<|args_tuple_getitem _ _))
 show wpAny _ _ (Yl (A5 t) >>= _) _ _ s
 refine C6<|tupleItemsOf_ c ?_;refine C6<|EJ e ?_;refine C6<|sI hs pl p ?_;have f:¬((((U4 items.size 0 o):Int)==0&&(1:Int)==1&&(U4 items.size items.size b-U4 items.size 0 o)==items.size)=Uf):=by exact λq=>l ⟨by simp_all,by lia⟩
 show wpAny _ _ (if (((U4 items.size 0 o):Int)==0&&1==1&&(U4 items.size items.size b-U4 items.size 0 o)==items.size)=Uf then _ else _) _ _ s
 rw[B2 f,a0b];first
  |exact C6<|oJ (G8 ⟨_,rfl,G8 h⟩) a
  |exact C6<|oJ (C6<|G8<|G8 ⟨_,rfl,G8 h⟩) a
  |exact C6<|C6<|oJ (G8<|G8 ⟨_,rfl,G8 h⟩) a
  |exact C6<|C6<|oJ (G8 ⟨_,rfl,G8 h⟩) a
end HT
namespace L2
open PySem PySem.Spec PyProof.Rows
variable{X:Cx}{s:C5}{e:Expr}{Z:TE}{Y:List (Addr×Obj)}{k:St}{T:Pos}{S:List V}{a:List A1}{n:Nat}{x:V}{u:A1}{R:String}{c:V->Option Int->Option Int->Hp->VK->Prop}{Q:Type}{l:Addr}
abbrev TO:=St->Hp->(Option Int->Hp->Prop)->Prop
def PO(X:Cx)(e:Option Expr)(t:TO):Prop:=
 ∀(pins:List<|Addr×Obj) (s:C5) (σ:St) (H:Hp) (Q:Option Int->Hp->Prop),Inv X pins σ H s->t σ H Q ->
  wpAny (model X.prog X.w) X.A (evalPart e X.env) (λu s'=>∃o H',Inv X pins σ H' s'/\fU u o/\Q o H') X.xe s
def NO:TO:=λ_ H Q=>Q J H
def a1Z(t:TE):TO:=λσ H Q=>t σ H λx H1=>∃i,x=.int i/\Q (U i) H1
def a4n:PO X J NO:=by exact λa s b H Q I h=>G8 ⟨J,H,I,WG,h⟩
def a4m(h:PE X e Z):PO X (U e)<|a1Z Z:=by
 intro a s d H Q I b;refine M8 (h a s d H _ I b) λu k ⟨x,f,g,c,j⟩=>?_;obtain⟨i,rfl,q⟩:=j;obtain⟨t,rfl⟩:=c;exact⟨U i,f,g,PySem.IsPart.int i t,q⟩
def yu(X:Cx)(r:V->Option Int->Option Int->Hp->VK->Prop):Prop:=
 ∀(pins:List<|Addr×Obj) (s:C5) (σ:St) (H:Hp) (x:V) (v vl vu:A1) (lo hi:Option Int) (sl:Addr) (Q:VK),Inv X pins σ H s->RelV x v->s.heap.IsSliceOf sl vl vu F0->fU vl lo->fU vu hi->r x lo hi H Q ->
  ∃T id,typeLookup (E8 T) "__getitem__" = pure (U<|P5 id)/\s.TypeIs v T/\wpAny (model X.prog X.w) X.A (qL v<|A5 sl) (EP X pins σ Q) X.xe s
def yu.or{r:V->Option Int->Option Int->Hp->VK->Prop}(h:yu X r)(h':yu X c):yu X<|λx lo b H Q=>r x lo b H Q\/c x lo b H Q:=by
 intro a s f H x v i e lo b k Q I g j d l q;rcases q with q|q
 exact h a s f H x v i e lo b k Q I g j d l q;exact h' a s f H x v i e lo b k Q I g j d l q
def tSl(r:V->Option Int->Option Int->Hp->VK->Prop)(te:TE)(tl th:TO):TE:=λσ H Q=>te σ H λx H1=>tl σ H1 λl H2=>th σ H2 λu H3=>r x l u H3 Q
def a0e{lo hi:Option Expr}{tl th:TO}{p2:Pos}(F:yu X c)(D:PE X e Z)(n:PO X lo tl)(y:PO X hi th):PE X (mf e (Fz lo hi J p2) T)<|tSl c Z tl th:=by
 intro a s d H Q I h;refine Subscript_<|M8 (D a s d H _ I h) λv o ⟨x,L,t,G,M⟩=>?_;refine wpAny_Slice<|M8 (n a o d L _ t M) λg E ⟨l,z,m,B,q2⟩=>M8 (y a E d z _ m q2) λf w ⟨u,i,O,N,k⟩=>?_;refine G8 ?_;have C:Inv X a d i {w with heap:=w.heap.push {cls:=E8 "slice",data:=O3 #[g,f,F0]}}:=O.kept λb P q=>L0 _ q;obtain⟨r,R,p,j,K⟩:=F a {w with heap:=w.heap.push {cls:=E8 "slice",data:=O3 #[g,f,F0]}} d i x v g f l u (hz w) Q C G (WX ..) B N k;exact tail_any j p K (by with_unfolding_all rfl)
noncomputable def xX(xs:List V)(lo hi:Option Int):List V:=(xs.drop<|HT.U4 xs.length 0 lo).take<|HT.U4 xs.length xs.length hi-HT.U4 xs.length 0 lo
def BM(xs:List V)(lo a:Option Int):(xX xs lo a).length<=xs.length:=by delta xX;rw[lX,gU];exact D6 (oG _ _)<|Nat.sub_le _ _
def b1C(K:D4):V->Option Int->Option Int->Hp->VK->Prop:=λx lo hi H Q=>∃a xs,x=.ref a/\cM K H a xs /\
 ¬(HT.U4 xs.length 0 lo=0/\HT.U4 xs.length xs.length hi=xs.length)/\∀p,H p=J->Q (.ref p) (upd H p<|.tup<|xX xs lo hi)
def a6q:yu X<|b1C X.K:=by
 intro k s y H x v A w e f B Q I p t l u h;obtain⟨a,d,rfl,n,m,q⟩:=h;cases p;obtain⟨g,r,i,j⟩:=I.tuple n;have c:g.toArray.size=d.length:=by rw[aJ];exact r.length.symm
 refine⟨"tuple",_,PyProof.Rows.slot_tuple_getitem.lookup,i.typeIs,?_⟩;refine HT.Br i t l u (by rw[c];exact m) ?_ (by rw[c];exact j);rw[c];refine⟨.ref s.heap.objs.size,_,I.laid (λb z q=>L0 _ q) Y1 ?_,rfl,q _<|I.H9.fresh Y1⟩;exact⟨D6 (BM d e f) j,_,(r.drop<|HT.U4 d.length 0 e).take<|HT.U4 d.length d.length f-HT.U4 d.length 0 e,zK _ _⟩
def a9Q(K:D4):R2:=λx y H Q=>∃a b xs ys,x=.ref a/\y=.ref b/\cM K H a xs/\cM K H b ys/\xs≠[]/\xs.length+ys.length<=G7 /\
 (ys=[]->Q (.ref a) H)/\(ys≠[]->∀p,H p=J->Q (.ref p) (upd H p<|.tup<|xs++ys))
def Vals.AW(r:Vals S a):a=[]↔S=[]:=by
 cases r with
 |nil=>simp
 |cons _ _=>simp
def a4D:X4 X (eU qY)<|a9Q X.K:=by
 intro g s t H x y v u Q I k m h;obtain⟨a,b,B,C,rfl,rfl,r,o,j,f,n,q2⟩:=h;cases k;cases m;obtain⟨p,d,i,_⟩:=I.tuple r;obtain⟨e,c,l,_⟩:=I.tuple o;refine HT.a5y i l (λz=>j<|d.AW.mp z) (λz=>⟨.ref a,H,I,rfl,n<|c.AW.mp z⟩) (λz=>?_) (by rw[<-d.length,<-c.length];exact f);refine⟨.ref s.heap.objs.size,_,I.laid (λb A q=>L0 _ q) Y1 ?_,rfl,q2 (λw=>z<|c.AW.mpr w) _<|I.H9.fresh Y1⟩;exact⟨by rw[R5];exact f,_,d.append c,zK _ _⟩
noncomputable def Kz(n:Nat)(i:Int):Option Nat:=if 0<=i then(if i<n then U i.toNat else J)else if -(n:Int)<=i then U (i+n).toNat else J
def Y5(xs:List Q)(i:Int):Option Q:=(Kz xs.length i).bind λj=>xs[j]?
def a5d{i:Int}{j:Nat}(h:Kz n i=U j):seqIndex? i n=U j/\j<n/\-(n:Int)<=i/\i<n:=by
 unfold Kz at h;by_cases b:0<=i
 . rw[A6 b]at h;by_cases a:i<n;rw[A6 a]at h;exact⟨by rw[seqIndex_of b a,(dY h)],by lia,by lia,a⟩;rw[B2 a]at h;exact nE h
 . rw[B2 b]at h;by_cases a : -n<=i;rw[A6 a]at h;exact⟨by rw[seqIndex_neg (Int.not_le.1 B1) a,(dY h)],by lia,a,by lia⟩;rw[B2 a]at h;exact nE h
def GW{xs:List Q}{i:Int}{v:Q}(h:Y5 xs i=U v):∃j,seqIndex? i xs.length=U j/\xs[j]?=U v/\j<xs.length/\-(xs.length:Int)<=i/\i<xs.length:=by obtain⟨j,e,h⟩:=A9 h;obtain⟨d,b,c,f⟩:=a5d e;exact⟨j,d,h,b,c,f⟩
def Pw(b:Expr):Prop:=∀o i,subscripted b U' o i=operate [o,i] (qL o i)
def BU(X:Cx)(r:R2):Prop:=
 ∀(value slice:Expr) (pins:List<|Addr×Obj) (s:C5) (σ:St) (H:Hp) (x y:V) (v u:A1) (Q:VK),Inv X pins σ H s->RelV x v->RelV y u->r x y H Q ->
  subscripted slice U' v u=operate [v,u] (qL v u)->wpAny (model X.prog X.w) X.A (subscriptTail value slice v u) (EP X pins σ Q) X.xe s
def BS(X:Cx)(id:String)(r:V->List V->Hp->VK->Prop):Prop:=
 ∀(pins:List<|Addr×Obj) (s:C5) (σ:St) (H:Hp) (x:V) (xs:List V) (v:A1) (us:List A1) (Q:VK),Inv X pins σ H s->RelV x v->Vals xs us->r x xs H Q ->
  wpAny (model X.prog X.w) X.A (call (P5 id) (v::us)) (EP X pins σ Q) X.xe s
structure Gj(X:Cx)(o:Expr)(m:Str)(a:Pos)(e:Expr)(es:List Expr)(c:Pos):Prop where
 b:Nf X o m
 f:((bP c<|O7 (e::es) X.env).all (λx=>!x.1)&&(zI c<|zP [] X.env).all (λx=>x.1.isSome)
   && decide ((e::es).length+([]:List wu).length+(if ([]:List wu).isEmpty then 0 else 1)<30))=Uf
 l:(a.endLine==c.line)=Uf
 s:fS X e es
 p:lF X c es
section
def BU.or{r d:R2}(h:BU X r)(h':BU X d):BU X<|λx y H Q=>r x y H Q\/d x y H Q:=by
 intro b a c s f H x y v u Q I g e q i;rcases q with q|q
 exact h b a c s f H x y v u Q I g e q i;exact h' b a c s f H x y v u Q I g e q i
def b0c{b:Expr}{tb:TE}{r:R2}(f:BU X r)(m:PE X e Z)(l:PE X b tb)(hs:Pw b):PE X (mf e b T)<|vF r Z tb:=by exact λc s j H Q I h=>Subscript_<|a1D m l I h λv u a x y d g k i q=>f e b c a j d x y v u Q g k i q<|hs _ _
def a6J(K:D4):R2:=λx y H Q=>∃p xs i v,x=.ref p/\y=.int i/\X6 K H p xs/\Y5 xs i=U v/\Q v H
def a6H(K:D4):R2:=λx y H Q=>∃p xs i v,x=.ref p/\y=.int i/\cM K H p xs/\Y5 xs i=U v/\Q v H
def a6I:R2:=λx y H Q=>∃z i c,x=.str z/\y=.int i/\z.length<=G7/\Y5 z.cps.toList i=U c/\Q (.str ⟨#[c]⟩) H
def a5b:BU X<|a6J X.K:=by
 intro e k a s n H x y v u Q I D L h o;obtain⟨p,R,i,z,rfl,rfl,hq,F,q⟩:=h;cases D;obtain⟨t,rfl⟩:=L;obtain⟨l,r,f,O⟩:=I.list hq;obtain⟨j,c,C,P,G,E⟩:=GW F;obtain⟨w,A,g⟩:=r.get C;have B:=r.length;have:=yY;have b:EP X a n Q w s:=⟨z,H,I,g,q⟩;by_cases m:0<=i
 . have d:i.toNat=j:=by rw[seqIndex_of m E]at c;exact dY c
   exact item_listR f.isList m A3 (by rw[d];simpa using A) b o
 . have d:(i+l.toArray.size).toNat=j:=by rw[seqIndex_neg (Int.not_le.1 B1) G]at c;rw[aJ,<-B];exact dY c
   exact XN f.isList.typeIs slot_list_getitem.lookup
    (wpAny_getItem_list_neg f.isList (Int.not_le.1 B1) (by rw[aJ]<;>simp_all) A3 (by rw[d];simpa using A) ⟨rfl,b⟩) o
def a7Y:BU X<|a6H X.K:=by
 intro a c d s C H x y v u Q I g l h n;obtain⟨p,G,i,z,rfl,rfl,hq,k,q⟩:=h;cases g;obtain⟨t,rfl⟩:=l;obtain⟨o,r,e,B⟩:=I.tuple hq;obtain⟨j,m,f,D,F,E⟩:=GW k;obtain⟨w,A,b⟩:=r.get f;have:=yY;exact XN e.typeIs slot_tuple_getitem.lookup
  (getItem_tuple e A3 A3 (by rw[aJ,<-r.length];exact m) (by simpa using A) ⟨rfl,(⟨z,H,I,b,q⟩)⟩) n
def a7Z:BU X a6I:=by
 intro a b d s C H x y v u Q I k p h w;obtain⟨z,i,c,rfl,rfl,B,n,q⟩:=h;obtain⟨t,rfl⟩:=k;obtain⟨D,rfl⟩:=p;obtain⟨j,e,g,E,o,l⟩:=GW n;have f:z.cps.toList.length=z.length:=by simp[Str.length]
 rw[f]at e o l;have:=yY;exact tail_any (tR s z t) slot_str_getitem.lookup (getItem_str (by have r:decide (i < -(2^63))=U':=J8 A3;have m:decide (i>=2^63)=U':=J8 A3;rw[r,m,LV]) (by rw[e];simpa using g) ⟨.str ⟨#[c]⟩,H,I.tok _,⟨_,rfl⟩,q⟩) w
def rIx(K:D4):R2:=λx y H Q=>a6J K x y H Q\/a6H K x y H Q\/a6I x y H Q
def a8e:BU X<|rIx X.K:=a5b.or<|a7Y.or a7Z
def Jj(lo a:Option Int)(n:Nat):(tU lo a J n).1=((HT.U4 n 0 lo:Nat):Int)/\(tU lo a J n).2.1=((HT.U4 n n a:Nat):Int)/\(tU lo a J n).2.2=1:=by
 refine⟨?_,?_,rfl⟩
 . cases lo with
   |none=>simp[tU,HT.U4]
   |some i=>
    simp only[tU,HT.U4,Ws];by_cases h:i<0
    . simp only[h]<;>lia
    . simp only[h]<;>lia
 . cases a with
   |none=>simp[tU,HT.U4]
   |some i=>
    simp only[tU,HT.U4,Ws];by_cases h:i<0
    . simp only[h]<;>lia
    . simp only[h]<;>lia
def Ij(a:List A1)(lo b:Option Int):Et a.toArray lo b J=((a.drop<|HT.U4 a.length 0 lo).take<|HT.U4 a.length a.length b-HT.U4 a.length 0 lo).toArray:=by obtain⟨e,c,d⟩:=Jj lo b a.toArray.size;delta Et;rw[e,c,d];simp only[sliceRange_one,pick_run]<;>rfl
def a6E(K:D4):V->Option Int->Option Int->Hp->VK->Prop:=λx lo hi H Q=>∃a xs,x=.ref a/\X6 K H a xs/\∀p,H p=J->Q (.ref p) (upd H p<|.lst<|xX xs lo hi)
def a3A:yu X<|a6E X.K:=by
 intro i s w H x v z u e f A Q I n p j t h;obtain⟨a,c,rfl,k,q⟩:=h;cases n;obtain⟨l,r,g,m⟩:=I.list k;have d:=r.length;refine⟨"list",_,slot_list_getitem.lookup,g.isList.typeIs,?_⟩;refine MS g.isList p j t WG C9 ?_ (by rw[aJ]<;>simp_all);rw[Ij,<-d];refine⟨.ref s.heap.objs.size,_,I.laid (λb y q=>L0 _ q) Y1 ?_,rfl,q _<|I.H9.fresh Y1⟩;exact⟨D6 (BM c e f) m,_,0,(r.drop<|HT.U4 c.length 0 e).take<|HT.U4 c.length c.length f-HT.U4 c.length 0 e,ae _ rfl⟩
noncomputable def gA:V->Bool
 | .non=>Uf
 | .bl _=>Uf
 | .int _=>Uf
 | .str _=>Uf
 |_=>U'
noncomputable def Ek:V->V->Bool
 | .non,.non=>Uf
 | .bl a,.bl b=>a==b
 | .bl a,.int b=>(if a then 1 else 0)==b
 | .int a,.bl b=>a==(if b then 1 else 0)
 | .int a,.int b=>a==b
 | .str a,.str b=>a==b
 |_,_=>U'
def a8w{A:X1}{y:V}{v:A1}(f:RelV y u)(c:RelV x v)(g:gA y=Uf)(e:gA x=Uf):Ez A s u v<|Ek y x:=by
 cases y with
 |non=>
  cases f;cases x with
  |non=>cases c;exact Wi _
  |bl b=>cases c;exact SeqAt.EqAt.none_bool b
  |int b=>obtain⟨t,rfl⟩:=c;exact SeqAt.EqAt.none_int b t
  |str b=>obtain⟨t,rfl⟩:=c;exact SeqAt.EqAt.none_str b t
  |_=>exact absurd (show U'=Uf from e) dE
 |bl a=>
  cases f;cases x with
  |non=>cases c;exact Xz a
  |bl b=>cases c;exact SeqAt.EqAt.bool_bool a b
  |int b=>obtain⟨t,rfl⟩:=c;exact SeqAt.EqAt.bool_int a b t
  |str b=>obtain⟨t,rfl⟩:=c;exact SeqAt.EqAt.bool_str a b t
  |_=>exact absurd (show U'=Uf from e) dE
 |int a=>
  obtain⟨d,rfl⟩:=f;cases x with
  |non=>cases c;exact Xo a d
  |bl b=>cases c;exact SeqAt.EqAt.int_bool a d b
  |int b=>obtain⟨t,rfl⟩:=c;exact SeqAt.EqAt.int_int a d b t
  |str b=>obtain⟨t,rfl⟩:=c;exact WZ a d b t
  |_=>exact absurd (show U'=Uf from e) dE
 |str a=>
  obtain⟨d,rfl⟩:=f;cases x with
  |non=>cases c;exact Xn a d
  |bl b=>cases c;exact SeqAt.EqAt.str_bool a d b
  |int b=>obtain⟨t,rfl⟩:=c;exact WY a d b t
  |str b=>obtain⟨t,rfl⟩:=c;exact SeqAt.EqAt.str_str a d b t
  |_=>exact absurd (show U'=Uf from e) dE
 |_=>exact absurd (show U'=Uf from g) dE
def tD(x:V)(u:A1):Bool:=match u with
 |F0=>Ek .non x
 |cy b=>Ek (.bl b) x
 |U8 i _=>Ek (.int i) x
 |eZ z _=>Ek (.str z) x
 |_=>U'
def Vv{y:V}(r:RelV y u)(f:gA y=Uf):tD x u=Ek y x:=by
 cases y with
 |non=>cases r;rfl
 |bl b=>cases r;rfl
 |int i=>obtain⟨t,rfl⟩:=r;rfl
 |str z=>obtain⟨t,rfl⟩:=r;rfl
 |_=>exact absurd (show U'=Uf from f) dE
theorem wg{x:V}:∀{xs:List V}{us:List A1},Vals xs us->xs.all gA=Uf->us.any (tD x)=xs.any λy=>Ek y x
 |_,_,P1,_=>rfl
 |y::xs,u::us,N8 r t,f=>by rw[fZ,fu]at f;rw[oA,oA,Vv r f.1,wg t f.2]
theorem ti{A:X1}{s:C5}{x:V}{v:A1}(c:RelV x v)(b:gA x=Uf):∀{xs:List V}{us:List A1},Vals xs us->xs.all gA=Uf->∀u∈us,Ez A s u v (tD x u)
 |_,_,P1,_=>λu a=>by cases a
 |y::xs,u::us,N8 r t,f=>λd a=>by
  rw[fZ,fu]at f;rcases List.mem_cons.mp a with rfl|a
  rw[Vv r f.1];exact a8w r c f.1 b;exact ti c b t f.2 d a
def DN(x:V)(xs:List V):Bool:=xs.any λy=>Ek y x
def Tc(K:D4)(neg:Bool):R2:=λx y H Q=>∃p xs,y=.ref p/\(X6 K H p xs\/cM K H p xs)/\gA x=Uf/\xs.all gA=Uf/\Q (.bl<|if neg then !DN x xs else DN x xs) H
def Ue:X4 X (V9 wJ)<|Tc X.K U':=by
 intro f s j H x y v u Q I e i h;obtain⟨p,k,rfl,hq,d,fs,q⟩:=h;cases i;rcases hq with hq|hq
 . obtain⟨a,r,b,g⟩:=I.list hq;refine Wh (tD x) b.isList (λw c=>ti e d r fs w<|by simpa using c) ⟨.bl _,H,I,rfl,?_⟩;rw[show a.toArray.any (tD x)=a.any (tD x) by simp,wg r fs];exact q
 . obtain⟨a,r,b,g⟩:=I.tuple hq;refine SeqAt.in_tupleAt (tD x) b (λw c=>ti e d r fs w<|by simpa using c) ⟨.bl _,H,I,rfl,?_⟩;rw[show a.toArray.any (tD x)=a.any (tD x) by simp,wg r fs];exact q
def JP:X4 X (V9 Aj)<|Tc X.K Uf:=by
 intro f s j H x y v u Q I e i h;obtain⟨p,k,rfl,hq,d,fs,q⟩:=h;cases i;rcases hq with hq|hq
 . obtain⟨a,r,b,g⟩:=I.list hq;refine SeqAt.notIn_listAt (tD x) b.isList (λw c=>ti e d r fs w<|by simpa using c) ⟨.bl _,H,I,rfl,?_⟩;rw[show a.toArray.any (tD x)=a.any (tD x) by simp,wg r fs];exact q
 . obtain⟨a,r,b,g⟩:=I.tuple hq;refine SeqAt.notIn_tupleAt (tD x) b (λw c=>ti e d r fs w<|by simpa using c) ⟨.bl _,H,I,rfl,?_⟩;rw[show a.toArray.any (tD x)=a.any (tD x) by simp,wg r fs];exact q
def JO:X4 X (V9 Aj) (λx y H Q=>∃i j,x=.str i/\y=.str j/\Q (.bl<|!(!(xh j i 0 j.length 1).isEmpty)) H):=by intro a s d H x y v u Q I c b h;obtain⟨i,j,rfl,rfl,q⟩:=h;obtain⟨t,rfl⟩:=c;obtain⟨e,rfl⟩:=b;exact notIn_str ⟨.bl _,H,I,rfl,q⟩
def Ln:cA X (P5 "len") (λxs H Q=>∃p ys,xs=[.ref p]/\(X6 X.K H p ys\/cM X.K H p ys)/\Q (.int ys.length) H):=by
 intro e s j H xs k Q I r h;obtain⟨p,ys,rfl,hq,q⟩:=h;obtain⟨u,rfl,g⟩:=vals1 r;cases g;have:=yY;rcases hq with hq|hq
 obtain⟨d,b,c,f⟩:=I.list hq;have a:=b.length;exact Calls.call_len_list c.isList (by simp only[aJ]<;>lia) ⟨.int ys.length,H,I.tok _,⟨s.toks+1,by rw[aJ,a]⟩,q⟩;obtain⟨d,b,c,f⟩:=I.tuple hq;have a:=b.length;exact len_tuple c (by simp only[aJ]<;>lia) ⟨.int ys.length,H,I.tok _,⟨s.toks+1,by rw[aJ,a]⟩,q⟩
def Lm:cA X (P5 "len") (λxs H Q=>∃z,xs=[.str z]/\z.length<=G7/\Q (.int z.length) H):=by intro a s d H xs e Q I r h;obtain⟨z,rfl,c,q⟩:=h;obtain⟨u,rfl,t,rfl⟩:=vals1 r;have:=yY;exact len_str A3 ⟨.int z.length,H,I.tok _,⟨_,rfl⟩,q⟩
def cA.or{r c:List V->Hp->VK->Prop}(h:cA X u r)(h':cA X u c):cA X u<|λxs H Q=>r xs H Q\/c xs H Q:=by
 intro a s b H xs e Q I d q;rcases q with q|q
 exact h a s b H xs e Q I d q;exact h' a s b H xs e Q I d q
def Ll:cA X (E8 "list") (λxs H Q=>∃p ys,xs=[.ref p]/\(X6 X.K H p ys\/cM X.K H p ys)/\∀l,H l=J->Q (.ref l) (upd H l<|.lst ys)):=by
 intro k s A H xs C Q I r h;obtain⟨p,ys,rfl,hq,q⟩:=h;obtain⟨u,rfl,B⟩:=vals1 r;cases B;have m:∀a,Vals ys a->ys.length<=G7->∀c d,(∀b z,s.heap.get? b=U z->c.get? b=U z) ->
   c.get? s.heap.objs.size=U {cls:=E8 "list",dict:=J,data:=W7 a.toArray d,slots:=#[]}->EP X k A Q (A5 s.heap.objs.size) {s with heap:=c}:=λa f i c d j e=>
  ⟨.ref s.heap.objs.size,_,I.laid j Y1<|show Z2 X.prog X.w _ c _ (.lst ys)from⟨i,a,d,f,e⟩,rfl,q _<|I.H9.fresh Y1⟩
 rcases hq with hq|hq
 obtain⟨a,f,x,i⟩:=I.list hq;have:=f.length;obtain⟨o,v,y,n,t⟩:=x.isList;exact call_list_seq p (B3 rfl) v y t (λc d j e=>m a f i c d j e) (by simp only[aJ]<;>simp_all);obtain⟨a,f,x,i⟩:=I.tuple hq;have:=f.length;obtain⟨o,v,y,n,t⟩:=x;exact call_list_seq p (B6 rfl) v y t (λc d j e=>m a f i c d j e) (by simp only[aJ]<;>simp_all)
def Io:cA X (E8 "tuple") (λxs H Q=>∃p ys,xs=[.ref p]/\((X6 X.K H p ys/\∀l,H l=J->Q (.ref l) (upd H l<|.tup ys))\/(cM X.K H p ys/\Q (.ref p) H))):=by
 intro a s k H xs x Q I r h;obtain⟨p,ys,rfl,h⟩:=h;obtain⟨u,rfl,t⟩:=vals1 r;cases t;rcases h with ⟨hq,q⟩|⟨hq,q⟩
 . obtain⟨c,f,g,j⟩:=I.list hq;have:=f.length;refine call_tuple_list g.isList (λd v=>?_) (by simp only[aJ]<;>simp_all);have m:Inv X a k H {s with heap:=d}:=I.kept v
   have n:Inv X a k (upd H d.objs.size<|.tup ys) {s with heap:=d.push {cls:=E8 "tuple",data:=W7 c.toArray}}:=
    m.laid (λb o e=>L0 _ e) Y1 (show Z2 X.prog X.w _ _ _ (.tup ys)from⟨j,c,f,zK _ _⟩)
   exact⟨.ref d.objs.size,_,n,rfl,q _<|m.H9.fresh Y1⟩
 obtain⟨c,f,g,j⟩:=I.tuple hq;exact call_tuple_same g ⟨.ref p,H,I,rfl,q⟩
def tyV(K:D4)(T:String)(x:V)(H:Hp):Prop:=match x with
 | .str _=>T = "str"
 | .int _=>T = "int"
 | .ref p=>(T = "list"/\∃xs,X6 K H p xs)\/(T = "tuple"/\∃o,K.lookup p=U o/\o.cls=E8 "tuple"/\o.dict=J) \/
   (T = "dict"/\((∃kvs,H p=U (.dK kvs))\/∃kvs,H p=U (.dT kvs)))\/(T = "set"/\∃S n,H p=U (.set S n))
 |_=>False
def Sf{H:Hp}(I:Inv X Y k H s)(r:RelV x u)(ty:tyV X.K R x H):
  s.TypeIs u R/\∀a,u=A5 a->∃ob,s.heap.get? a=U ob/\ob.dict=J:=by
 cases x with
 |str z=>
  obtain⟨t,rfl⟩:=r;cases(show R = "str" from ty);exact⟨tR s z t,λ_ e=>nomatch e⟩
 |int i=>
  obtain⟨t,rfl⟩:=r;cases(show R = "int" from ty);exact⟨typeIs_int s i t,λ_ e=>nomatch e⟩
 |ref p=>
  cases r;rcases ty with ⟨rfl,q,hq⟩|⟨rfl,o,b,l,f⟩|⟨rfl,b⟩|⟨rfl,S,n,b⟩
  . obtain⟨m,_,j,_⟩:=I.list hq;refine⟨j.isList.typeIs,λa e=>?_⟩;cases e;obtain⟨o,n,e,c,f,_⟩:=j;exact⟨o,e,f⟩
  . refine⟨⟨o,I.bI p o b,l⟩,λa e=>?_⟩;cases e;exact⟨o,I.bI _ o b,f⟩
  . have z:∃o,s.heap.get? p=U o/\o.ExactDict:=by
      rcases b with ⟨g,b⟩|⟨g,b⟩
      obtain⟨_,_,_,_,o,_,_,e,d,_⟩:=I.H9 p _ b;exact⟨o,e,d⟩;obtain⟨_,_,_,_,o,_,_,e,d,_⟩:=I.H9 p _ b;exact⟨o,e,d⟩
    obtain⟨o,e,d⟩:=z;refine⟨⟨o,e,d.1⟩,λa h=>?_⟩;cases h;exact⟨o,e,d.2.1⟩
  . obtain⟨o,_,_,_,e,d,_⟩:=I.H9 p _ b;refine⟨⟨o,e,d.1⟩,λa h=>?_⟩;cases h;exact⟨o,e,d.2.1⟩
 |_=>exact X7 ty
def YW(K:D4)(T:String)(r:V->List V->Hp->VK->Prop)(to:TE):TE:=λσ H Q=>to σ H λx H1=>tyV K T x H1/\r x [] H1 Q
def Bw(K:D4)(T:String)(r:V->List V->Hp->VK->Prop)(to:TE)(t:TA):TE:=λσ H Q=>to σ H λx H1=>tyV K T x H1/\t σ H1 λxs H2=>r x xs H2 Q
variable{r:V->List V->Hp->VK->Prop}
def TR{name:Str}{cpos:Pos}{id:String}(k:PlainAttrs R)(slot:Slot R name id)(d:typeOf (P5 id)=pure (E8 "method_descriptor"))(i:BS X id r)(j:PE X e Z)(b:autoParam (Nf X e name) B7)(c:autoParam ((T.endLine==cpos.line)=Uf) B7):PE X (L8 (Q0 e name T) [] [] cpos)<|YW X.K R r Z:=by
 intro a s f H Q I h;refine wpAny_Call_method0_late b c<|M8 (j a s f H _ I h) λv m ⟨x,p,g,o,t,q⟩=>?_;obtain⟨n,l⟩:=Sf g o t;exact⟨R,id,k,slot,d,n,l,FY rfl<|PySem.evalArgs_none<|i a m f p x [] v [] Q g o P1 q⟩
def AQ{o:Expr}{es:List Expr}{t:TA}{name:Str}{cpos:Pos}{id:String}(u:PlainAttrs R)(slot:Slot R name id)(i:typeOf (P5 id)=pure (E8 "method_descriptor"))(C:BS X id r)(n:PE X o Z)(M:PA X (e::es) t)(bm:Gj X o name T e es cpos):
  PE X (L8 (Q0 o name T) (e::es) [] cpos) (Bw X.K R r Z t):=by
 obtain⟨f,g,d,hs,c⟩:=bm;intro b s j H Q I h;refine wpAny_Call_method_late f g d rfl<|M8 (n b s j H _ I h) λv y ⟨x,G,k,m,A,L⟩=>?_;obtain⟨F,w⟩:=Sf k m A;refine⟨R,id,u,slot,i,F,w,?_⟩;have l:=M cpos b y j G _ k L;rw[hs]at l|-;refine FY (by show(U'||(bP cpos<|O7 es X.env).any (·.1))=U';rw[c]<;>rfl)<|MH ?_;exact M8 l λz E ⟨q,D,p,B,q2⟩=>C b E j D x q v z Q p m B q2
end
def VV(X:Cx)(id:String)(r:V->List V->Hp->VK->Prop):Prop:=
 ∀(pins:List<|Addr×Obj) (s:C5) (σ:St) (H:Hp) (x:V) (xs:List V) (v:A1) (us:List A1) (Q:VK),Inv X pins σ H s->RelV x v->Vals xs us->r x xs H Q ->
  wpAny (model X.prog X.w) X.A (call (P5 id) (v::us)) (EP X pins σ Q) X.xe s
def Vals.one(h:Vals [x] a):∃u,a=[u]/\RelV x u:=by
 cases h with
 |cons r t=>cases t;exact⟨_,rfl,r⟩
def Vals.zero:∀{us:List A1},Vals [] us->us=[]
 |_,P1=>rfl
theorem Vals.eraseIdx:∀{xs:List V}{us:List A1} (i:Nat),Vals xs us->Vals (xs.eraseIdx i) (us.eraseIdx i)
 |_,_,_,P1=>P1
 |_,_,0,N8 _ t=>t
 |_,_,i+1,N8 r t=>N8 r<|Vals.eraseIdx i t
theorem Vals.reverse{xs:List V}{us:List A1}(h:Vals xs us):Vals xs.reverse us.reverse:=by
 induction h with
 |nil=>exact P1
 |cons r t a=>rw[FH,FH];exact Vals.append a<|N8 r P1
theorem HH{a:Type}:∀(l:List a) (i:Nat),(l.eraseIdx i).length<=l.length
 | [],_=>N7 _
 |_::_,0=>lO _
 |_::r,i+1=>Nat.succ_le_succ<|HH r i
section
variable{H:Hp}
def Inv.Kd{ys:List V}{its':List A1}{f:Array A1->Array A1}{t':Nat}(I:Inv X Y k H s)(d:H l=U (.lst S))(e:s.heap.get? l=U {cls:=E8 "list",data:=W7 a.toArray n})(g:f a.toArray=its'.toArray)(c:Vals ys its')(hz:ys.length<=G7):
  Inv X Y k (upd H l<|.lst ys) {s with heap:=s.heap.update l<|Obj.mapSeq f,toks:=t'}:=by
 have q:=PySem.IsL.update e f;rw[g]at q;refine I.write (by rw[d];exact trivial) (B3 rfl) (λi u h b=>(af s.heap (Obj.mapSeq f)<|P9 h).trans b) ⟨_,q⟩ ?_;exact⟨hz,its',_,c,q⟩
def Inv.b1J(I:Inv X Y k H s)(b:Vals S a)(hz:S.length<=G7):
  Inv X Y k (upd H s.heap.objs.size<|.lst S) {s with heap:=s.heap.push {cls:=E8 "list",data:=W7 a.toArray},toks:=n}:=
 I.laid (λ_ _ q=>L0 _ q) Y1 ⟨hz,a,0,b,ae _ rfl⟩
theorem Inv.fresh(I:Inv X Y k H s):H (hz s)=J:=I.H9.fresh Y1
def Inv.GG(I:Inv X Y k H s)(b:H l=U (.lst S)):S.length<=G7/\∃(a:List A1) (n:Nat),Vals S a/\S.length=a.length/\s.heap.get? l=U {cls:=E8 "list",data:=W7 a.toArray n}:=by obtain⟨z,a,n,r,e⟩:=I.H9 l _ b;exact⟨z,a,n,r,r.length,e⟩
def a0t(h:n<=G7):Yb n=U':=by exact J8 V8
end
def Oi:V->List V->Hp->VK->Prop:=λx vs H Q=>∃l xs y,x=.ref l/\vs=[y]/\H l=U (.lst xs)/\xs.length<G7/\Q .non (upd H l<|.lst<|xs++[y])
def Uw:VV X "list.append" Oi:=by
 intro c s k H x j v p Q I f d h;obtain⟨l,o,y,rfl,rfl,b,i,q⟩:=h;cases f;obtain⟨u,rfl,g⟩:=d.one;obtain⟨z,a,n,r,m,e⟩:=I.GG b;refine lK F.slot_list_append ⟨_,e,rfl⟩ F.entry_list_append (F.args_list_append_2 _ _) (PySem.list_append l a.toArray n u (by rw[aJ];simp_all)) ⟨e,?_⟩;refine⟨.non,_,I.Kd b e C9 (r.append<|N8 g P1) ?_,rfl,q⟩;rw[R5,rh];exact B1
def Oh:V->List V->Hp->VK->Prop:=λx vs H Q=>∃l b xs zs,x=.ref l/\vs=[.ref b]/\H l=U (.lst xs)/\H b=U (.lst zs)/\xs.length+zs.length<=G7/\Q .non (upd H l<|.lst<|xs++zs)
def Uv:VV X "list.extend" Oh:=by
 intro g s E H x C v G Q I k w h;obtain⟨l,b,L,A,rfl,rfl,i,j,B,q⟩:=h;cases k;obtain⟨u,rfl,o⟩:=w.one;cases o;obtain⟨z,c,n,r,D,e⟩:=I.GG i;obtain⟨K,a,m,t,y,p⟩:=I.GG j;have f:c.toArray.size+a.toArray.size<=G7:=by rw[aJ,aJ];simp_all
 have d:¬(!c.toArray.isEmpty&&Yb (c.toArray.size+a.toArray.size))=Uf:=by rw[a0t f,oE];exact dE
 refine lK F.slot_list_extend ⟨_,e,rfl⟩ F.entry_list_extend (F.args_list_extend_2 _ _)
  (AutoSeq1.list_extend_list_list_0 l c.toArray n b a.toArray m d (by rw[aJ];exact nTr)<|WE B1) ⟨e,p,?_⟩
 refine⟨.non,_,I.Kd i e C9 (r.append t) ?_,rfl,q⟩;rw[R5];omega
def yP:V->List V->Hp->VK->Prop:=λx vs H Q=>∃l xs i k y,x=.ref l/\vs=[.int i]/\H l=U (.lst xs)/\-(2^63)<=i/\i<2^63/\seqIndex? i xs.length=U k/\xs[k]?=U y/\Q y (upd H l<|.lst<|xs.eraseIdx k)
def JZ:VV X "list.pop" yP:=by
 intro c s G H x E v K Q I j A h;obtain⟨l,B,i,k,y,rfl,rfl,d,C,g,D,p,q⟩:=h;cases j;obtain⟨u,rfl,m⟩:=A.one;obtain⟨t,rfl⟩:=m;obtain⟨z,a,n,r,f,e⟩:=I.GG d;obtain⟨w,o,b⟩:=r.get p;refine lK F.slot_list_pop ⟨_,e,rfl⟩ F.entry_list_pop (F.args_list_pop_2 _ _)
  (MeetsSeq.list_pop_at l a.toArray n i t k w (fitsIndex_both C g) (by rw[aJ,<-f];exact D) (by rw[<-XG];exact o) (by rw[aJ];simp_all)) ⟨e,?_⟩
 refine⟨y,_,I.Kd d e ?_ (r.eraseIdx k) ?_,b,q⟩
 . show a.toArray.eraseIdxIfInBounds k=(a.eraseIdx k).toArray;rw[List.eraseIdxIfInBounds_toArray]
 have:=HH B k;exact D6 B1 B1
def Jy:V->List V->Hp->VK->Prop:=λx vs H Q=>∃l xs,x=.ref l/\vs=[]/\H l=U (.lst xs)/\Q .non (upd H l<|.lst xs.reverse)
def QP:VV X "list.reverse" Jy:=by
 intro d s k H x j v o Q I g f h;obtain⟨l,m,rfl,rfl,c,q⟩:=h;cases g;have b:=f.zero;subst b;obtain⟨z,a,n,r,i,e⟩:=I.GG c;refine lK F.slot_list_reverse ⟨_,e,rfl⟩ F.entry_list_reverse (F.args_list_reverse_1 _) (AutoSeq1.list_reverse_list_0 l a.toArray n (by rw[aJ];simp_all)) ⟨e,?_⟩;refine⟨.non,_,I.Kd c e C9 r.reverse ?_,rfl,q⟩;rw[List.length_reverse];omega
def Td:V->List V->Hp->VK->Prop:=λx vs H Q=>∃l xs,x=.ref l/\vs=[]/\H l=U (.lst xs)/\Q .non (upd H l<|.lst [])
def a0z:VV X "list.clear" Td:=by
 intro d s k H x j v o Q I g f h;obtain⟨l,m,rfl,rfl,c,q⟩:=h;cases g;have a:=f.zero;subst a;obtain⟨z,b,n,r,i,e⟩:=I.GG c;refine lK F.slot_list_clear ⟨_,e,rfl⟩ F.entry_list_clear (F.args_list_clear_1 _) (AutoSeq1.list_clear_list_0 l b.toArray n (by rw[aJ];simp_all)) ⟨e,?_⟩;exact⟨.non,_,I.Kd c e rfl P1<|lP _,rfl,q⟩
end L2
namespace Att
open PySem PySem.W PySem.Calls PyProof.Rows
variable{P:Params}{h:Heap}{l:OpenLaw}
def DM:∀(ns:List Int) (vs:List A1),WellAll P h vs (ns.map WData.int)->wt vs ns:=by
 intro ns;induction ns with
 |nil=>
  intro vs w;cases w;exact Ya
 |cons n ns c=>
  intro vs w;cases w with
  |cons a b=>
   cases a;exact Yh _ _<|c _ b
def SJ{n:Nat}(o:l.most=U n){args:List WData}{b:List A1}(c:l.row.toRowW.claim.pre args=Uf)(j:WellAll P h b args):
  ∃a vs ns,b=[X2 a]/\args=[WData.list<|ns.map WData.int]/\h.get? a=U {cls:=E8 "list",data:=W7 vs.toArray}/\wt vs ns/\ns.length<=n:=by
 obtain⟨d,r,rfl,x,s⟩:=hasAllW_cons<|(pre_splitW c).1;obtain rfl:=hasAllW_nil s;obtain⟨y,rfl,u⟩:=hasW_list x;obtain⟨ns,rfl⟩:=items_int u;have e:ns.length<=n:=by
  have i:(WTm.not<|PySem.W.WTm.lt (Wg<|WD n)<|PySem.W.WTm.len<|PySem.W.WTm.arg 0).holds [] {args:=[PySem.W.WData.list<|ns.map WD]}=Uf:=by have i:=(holds_andW<|(pre_splitW c).2).1;rw[o]at i;exact i
  have g:=condW_of i<|w_not<|w_lt w_lit<|w_len_list<|w_arg rfl;refine Fy λq=>?_
  first
   |(rw[L7 t]at g;exact absurd g f7)
   |(simp at g;lia)
 cases j with
 |cons v w=>
  cases w;cases v with
  |list p f=>exact⟨_,_,ns,rfl,rfl,p,DM ns _ f,e⟩
def TF(l:OpenLaw)(args:List WData):l.row.toRowW.claim.post args (wW Uf) args=Uf:=
 postW_of
  (show WShape.has [] (wW Uf) PySem.W.WShape.bool=Uf by first|rfl|decide|simp[WShape.has])
  (show(WTm.eq PySem.W.WTm.res<|Wg<|wW Uf).value [] {args:=args,res:=U<|wW Uf,after:=args}=U (wW<|Uf==Uf)from w_eq_bool (w_res rfl) w_lit) rfl
def NG{n:Nat}{q:S6}{b:List Str}{z:(Str->Option A1)->Heap->Prop}{A:N6->Heap->Prop}{d:DefRec} (K:l.most=U n) (p:d.params.defaults=[]) (call:∀(w:N6) (ag s₁:C5) (mg k:Str->Option A1) (fa:Addr) (o:Obj) (u j e:A1) (a:Addr) (vs:List A1) (ns:List Int),
   Ground q b [] z w ag mg k s₁.heap->A w s₁.heap ->
   s₁.heap.get? fa=U o->o.data=Fm (docDef d.name d.params d.body d.scope u j e)->s₁.heap.CodeRec j d.name->mg d.name=U (A5 fa) ->
   s₁.heap.get? a=U {cls:=E8 "list",data:=W7 vs.toArray}->wt vs ns->ns.length<=n->s₁.gens = #[] ->
   lG (model l.prog w) qK (qP (A5 fa) ⟨[A5 a],[]⟩) (λr s'=>r=jK (lT<|cy Uf)/\OldK s₁.heap s'.heap/\s'.os=s₁.os/\jH s'.gens) s₁) :
  WalkO q b z A l.row.toRowW d [] (λf vs=>LH f vs):=by
 intro w ag s₁ mg k G Y fa o u j e O kV B I s hD m F y x N g v M t H;obtain rfl:=Dflts.none hD p;obtain rfl:=Dflts.noKw hD;obtain⟨a,vs,ns,rfl,rfl,h,c,i⟩:=SJ K g t;refine enter_call<|tX (call w ag s₁ mg k fa o u j e a vs ns G Y B (fd_plain I) s m h c i F) λr s' hq=>?_;obtain⟨rfl,C,D,L⟩:=hq;exact⟨B3 ⟨cy Uf,wW Uf,[],rfl,λ_=>rfl,PySem.W.ReadsW.bool Uf,TF l _,λ_=>⟨List.Pairwise.nil,λ_ E=>(nomatch E)⟩⟩,C,D,L⟩
noncomputable def ledger(h:Heap)(L d:Addr):List<|Addr×Obj:=(Z4 h.objs.size).filterMap λa=>if a=L\/a=d then J else(h.get? a).map λo=>(a,o)
end Att
namespace L2
open PySem PySem.Spec PyProof.Rows
variable{c:Cx}{e:D4}{N z e8 m3:Addr}{g M:Hp}{o l8:Nat}{I j6:Bool}{p Y j8:Expr}{q b8 k7:Pos}{P:List Addr}{t h8:Str}{u:C5}{y j1:TE}{A:S6}{D:N6}{G:St}{L:X1}{T:Heap}{Z:A1}{a9 i5:A1->C5->Prop}{b5:List Expr}{b6:V}{b9:List V}{c8:List f9}{c9 j5:List Str}{d6:List (Addr×Obj)}{d8:Int}{d9:TT}{e9:TA}{i6:Array A1}{i7:f9}{j0:cV}{j3:Type}{j7:Str->Option A1}{j9:Option Addr}{l9:Stmt}{m4:Obj}{m5:List A1}{m7:R2}{m9:W4}{n8:Env}{n9:HO}{o3:String}{o5:Model}{o6:TI}{o7:TG}{o8:List (List Key×V)}{o9:List (Key×V)}{p8:Unit->C5->Prop}{p9:List (Str×V)}{q9:Option Obj}{r9:Tok}{s9:Option A1}{t4:List V->Hp->VK->Prop}{t5:TS}{t8:BP}{t9:List (List Key×Addr×A1)}{u4:XK}{u5:List Stmt}{u7:Option Bool}{u8:List Env}{v4:List (Str×Addr)}{v5:Result->C5->Prop}{v6:Option A1->C5->Prop}{v7:Option V}{v8:CmpOp}{w4:Array GenState}{w5:Drawn}{w9:OsState}
def Sa{ns:List Int}(h:wt m5 ns):Vals (ns.map V.int) m5:=by
 induction h with
 |nil=>exact P1
 |cons n t _ i=>exact N8 ⟨t,rfl⟩ i
def a1I(H:Hp):Prop:=∀b,H b=J\/∃o xs,H b=U (.iF o<|.lst xs)
def a0I{mb:Str->Option A1}{CX:vi}{sp:Sp}{ns:List Int}(KX:e.In u.heap)(hns:u.heap.Ns U0 j7)(hb:u.heap.Ns builtinsNs mb)(hbb:∀t:Str,t ≠ "__name__"->mb t=jO t)(hlim:u.heap.NoLimit)(hg:u.gens = #[])(ha:u.heap.get? z=U {cls:=E8 "list",data:=W7 m5.toArray})(hi:wt m5 ns)(hl:ns.length<=G7)(hr:aG o qK)(F:∀base:Heap,e.In base->base.Ns U0 j7->Y6 A D e j7 base CX o N m9 [t] sp)(hbind:∀(s:C5) (k:A1),tP s m9 ⟨[k],[]⟩ [(t,k)])(hsp:∀H:Hp,a1I H->X6 e H z (ns.map V.int)->sp [.ref z] H (λv _=>v=.bl Uf) λ_ _ _=>False)(hCX:∀H P s',CX [] H u (λ_ _ _=>False) P s'->False):
  lG (model A D) qK (qP (A5 N) ⟨[A5 z],[]⟩) (λr s'=>r=jK (lT<|cy Uf)/\OldK u.heap s'.heap/\s'.os=u.os/\jH s'.gens) u:=by
 have rv:=Sa hi;have core:∀H:Hp,a1I H->X6 e H z (ns.map V.int)->dQ A D H u.heap->(∀b,H b≠J->b=z)->(H z≠J->e.lookup z=J) ->
   lG (model A D) qK (qP (A5 N) ⟨[A5 z],[]⟩) (λr s'=>r=jK (lT<|cy Uf)/\OldK u.heap s'.heap/\s'.os=u.os/\jH s'.gens) u:=by
  intro H hO hS H9 hA hK;have base_of:∀{b:Addr}{w:Obj},u.heap.get? b=U w->H b=J->(zh u.heap H).get? b=U w:=λP n=>a0T P n
  have noA:∀{b:Addr}{w:Obj}{es:Array DictEntry}{ep:Nat},u.heap.get? b=U w->w.data=dX es ep->H b=J:=λ{b w es ep} P d=>by
   cases q:H b with
   |none=>rfl
   |some k=>
    have e':=hA b (by rw[q];simp);subst e';rw[ha]at P;cases P;cases d
  have nsK:∀{b:Addr}{m:Str->Option A1},u.heap.Ns b m->(zh u.heap H).Ns b m:=λ{b m} ⟨w,es,ep,P,d,r⟩=>⟨w,es,ep,base_of P<|noA P d,d,r⟩
  have hKb:=λb w P=>base_of (KX b w P) (by
   cases q:H b with
   |none=>rfl
   |some k=>
    have e':=hA b (by rw[q];simp)
    subst e';rw[hK (by rw[q];simp)]at P;exact nE P)
  have hM:Mod e j7<|zh u.heap H:=⟨hKb,nsK hns,⟨mb,nsK hb,hbb⟩,let ⟨mc,h1,h2⟩:=hlim;⟨mc,nsK h1,h2⟩⟩;have e0:CO A D e j7 (zh u.heap H) qK [] u H:=⟨rfl,hM,λb w P=>a4G P,Nat.le_of_eq<|Vl _ _,trivial,λb hb=>absurd (show b∈([])from hb) C9,H9,PyProof.Rows.AllBare.of_eq hg⟩;refine tX ((F _ hKb<|nsK hns).run qK [] u H ⟨[A5 z],[]⟩ [A5 z] [.ref z] _ _ hr e0 (hbind u<|A5 z) (N8 rfl P1)<|hsp H hO hS) λr s' h=>?_
  cases r with
  |error P=>exact(hCX H P s' h).elim
  |ok fl=>
   cases fl with
   |next=>exact X7 h
   |brk=>exact X7 h
   |cont=>exact X7 h
   |ret k=>
    obtain⟨v,H',os,bare,un,hok',r',q⟩:=h;subst q;obtain rfl:=r';refine⟨rfl,OldK.of_keep λb w P=>?_,os,bare⟩
    cases q:H b with
    |none=>exact un.keep b w P q (by intro K;exact absurd (show b∈([])from K) C9) C9
    |some k=>
     rcases hO b with K|⟨ob,xs,K⟩
     rw[q]at K;exact nS K;have z2:=un.vt b ob _ K;obtain⟨e1,_⟩:=H9 b _ K;obtain⟨e2,_⟩:=hok' b _ z2;rw[P]at e1;cases e1;exact e2
 cases hk:e.lookup z with
 |some w=>
  have P:=KX z w hk;rw[ha]at P;cases P;refine core (λ_=>J) (λ_=>B3 rfl) (B6 ⟨_,m5.toArray,_,hk,rfl,rfl,rfl,by rw[aJ,hi.length];exact hl,by simpa using rv⟩) (λb k K=>by have z':=K;exact nE z') (λb K=>absurd rfl K) λK=>absurd rfl K
 |none=>
  refine core (λb=>if b=z then U (.iF {cls:=E8 "list",data:=W7 m5.toArray}<|.lst<|ns.map V.int)else J) (λb=>?_) (B3<|B6 ⟨{cls:=E8 "list",data:=W7 m5.toArray},A6 rfl⟩) (λb k K=>?_) (λb K=>?_) λ_=>hk
  . by_cases hb:b=z;exact B6 ⟨_,_,A6 hb⟩;exact B3<|B2 hb
  . by_cases hb:b=z;have z':=(A6 hb).symm.trans K;cases z';subst hb;exact⟨ha,by rw[F4];exact hl,m5,_,rv,ha⟩;have z':=(B2 hb).symm.trans K;exact nE z'
  . by_cases hb:b=z;exact hb;exact absurd (B2 hb) K
def a3k{l:Mf}{n k:Nat}{R:(Str->Option A1)->Heap->Prop}{D:N6->Heap->Prop}{d:DefRec}{K:Params->D4}{CX:N6->vi}{sp:N6->Sp}{x:Str} (E:l.most=U n) (z:n<=G7) (y:d.params.defaults=[]) (N:aG k qK) (O:∀(w:N6) (h:Heap),D w h->(K w.params).In h) (F:∀(w:N6) (mg:Str->Option A1) (fa:Addr) (h:Heap),(K w.params).In h->h.Ns U0 mg->mg d.name=U (A5 fa) ->
   ∃fd:W4,(∀(s:C5) (u:A1),tP s fd ⟨[u],[]⟩ [(x,u)]) /\
    ∀base:Heap,(K w.params).In base->base.Ns U0 mg->Y6 l.prog w (K w.params) mg base (CX w) k fa fd [x] (sp w))
  (r:∀(w:N6) (H:Hp) (a:Addr) (ns:List Int),ns.length<=n->a1I H->X6 (K w.params) H a (ns.map V.int)->sp w [.ref a] H (λv _=>v=.bl Uf) λ_ _ _=>False)
  (q:∀(w:N6) (H:Hp) (s:C5) (e:A1) (s':C5),CX w [] H s (λ_ _ _=>False) e s'->False) :
  PySem.W.WalkO A c9 R D l.row.toRowW d [] (λf vs=>LH f vs):=by
 refine Att.NG E y λw B p mg mb fa o pm cd Q a vs ns G Y ho Z S t m i c P=>?_;have C:=O w _ Y;obtain⟨fd,X,I⟩:=F w mg fa _ C G.T.g t;exact a0I C G.T.g G.T.b G.T.builtins G.T.nolimit P m i (D6 c z) N I X (λH L M=>r w H a ns c L M) λH e s'=>q w H p e s'
noncomputable def inClass(s:Stmt)(j:Nat):Stmt:=match s with
 |PySem.Stmt.ClassDef _ _ _ body _ _ _ _ _ _ _=>body.getD j<|Wf ⟨0,0,0,0⟩
 |_=>Wf ⟨0,0,0,0⟩
noncomputable def iV(s:Stmt):Arguments:=match s with
 |MO _ a _ _ _ _ _ _ _ _=>a
 |_=>{posonlyargs:=[],args:=[],vararg:=J,kwonlyargs:=[],kw_defaults:=[],kwarg:=J,defaults:=[]}
noncomputable def aM(s:Stmt):List Stmt:=match s with
 |MO _ _ b _ _ _ _ _ _ _=>b
 |_=>[]
noncomputable def K0(s:Stmt):cV:=match s with
 |MO _ _ _ _ _ _ sc _ _ _=>sc
 |_=>{kind:=mC,names:=[],isGenerator:=U',isCoroutine:=U'}
abbrev jm:vi:=λ_ _ _ _ _ _=>False
abbrev E0:XK:=λ_ _ _=>False
def Dr:Passes jm c E0:=λ_ _ _ _ _ _ _ h=>h.elim
structure gf(K:D4)(x qual:Str)(st:Stmt)(f:Addr)(fd:W4):Prop where
 ex:∃(oc:A1) (od:Option Addr) (kV doc pm:A1) (an:Option Addr) (cdv ct:A1) (osl:Array<|Option A1),
  fd=jN x qual (iV st) (aM st) (K0 st) F0 kV doc pm an cdv ct/\K.lookup f=U ⟨oc,od,Fm fd,osl⟩/\Aa K cdv qual=Uf
 kp:dC K (A5 f)=Uf
def gf.pk{k:Nat}{sp:Sp} (F:gf e t h8 l9 N m9) (S:fF c9 j5<|K0 l9) (len:∀vs H Q E,sp vs H Q E->vs.length=j5.length) (g₀:∀(b:A1) (P:X1) (outer:List Env) (s:C5) (H:Hp) (vs:List V) (Q:VK) (E:XK),dy I k (P.deeper<|bq h8 (K0 l9) (hz s) N b)->sp vs H Q E ->
   ∃w,pw (Pk I jm A D e j7 T c9 h8 (K0 l9) N b P outer s H E).HD (aM l9) w/\w {nx:=λ_ H'=>Q .non H',rt:=Q} (start c9 vs) H):rN I A D e j7 T jm (k+1) N m9 j5 sp:=by
 obtain⟨u,p,kV,n,v,o,b,r,j,rfl,l,i⟩:=F.ex;refine Rp l i S len λP outer s H vs Q E m g=>?_;obtain⟨w,h,q⟩:=g₀ b P outer s H vs Q E m g;exact⟨w,h.HD,q⟩
def gf.ok{sp:Sp} (F:gf e t h8 l9 N m9) (S:fF c9 j5<|K0 l9) (len:∀vs H Q E,sp vs H Q E->vs.length=j5.length) (c:∀(b:A1) (P:X1) (outer:List Env) (s:C5) (H:Hp) (vs:List V) (Q:VK) (E:XK),aG o (P.deeper<|bq h8 (K0 l9) (hz s) N b)->sp vs H Q E ->
   ∃w,pw (fD jm A D e j7 T c9 h8 (K0 l9) N b P outer s H E).HD (aM l9) w/\w {nx:=λ_ H'=>Q .non H',rt:=Q} (start c9 vs) H):Y6 A D e j7 T jm (o+1) N m9 j5 sp:=F.pk S len c
def gf.binds(F:gf e t h8 l9 N m9)(h:∀(kV b i:A1) (K:Option Addr) (c ct:A1) (us:List A1),us.length=c9.length->bindArgs (jN t h8 (iV l9) (aM l9) (K0 l9) F0 kV b i K c ct) ⟨us,[]⟩=pure (c9.zip us)):Binds e m9 c9 []:=by obtain⟨l,m,kV,b,i,K,c,ct,j,rfl,n,k⟩:=F.ex;exact .all<|h kV b i K c ct
def KR{K:D4}{h:Option Addr}{g:Array (Option A1)}{kV d i b ct:A1}(l:K.lookup N=U ⟨Z,j9,Fm<|jN t h8 (iV l9) (aM l9) (K0 l9) F0 kV d i h b ct,g⟩)(c:Aa K b h8=Uf)(k:dC K (A5 N)=Uf):gf K t h8 l9 N<|jN t h8 (iV l9) (aM l9) (K0 l9) F0 kV d i h b ct:=⟨⟨Z,j9,kV,d,i,h,b,ct,g,rfl,l,c⟩,k⟩
noncomputable def YF:Option lH->Bool
 |some aX|some aV|some cQ=>Uf
 |_=>U'
noncomputable def a0C:Option lH->Bool
 |some aX|some aV=>Uf
 |_=>U'
def vs(h:autoParam (YF (j0.names.lookup t)=Uf) B7):Pu j0 t:=by
 unfold Pu;revert h;cases j0.names.lookup t with
 |none=>exact nofun
 |some k=>cases k<;>simp[YF]
def lc(h:autoParam (a0C (j0.names.lookup t)=Uf) B7):Loc j0 t:=by
 unfold Loc;revert h;cases j0.names.lookup t with
 |none=>exact nofun
 |some k=>cases k<;>simp[a0C]
def pv(i:Nat)(b:autoParam (c.N[i]?=U t) B7)(X:Pu c.env.scope t:=by exact vs)(hd:autoParam (jj t) B7)(a:autoParam ((t==("__classdict__" : Str))=U') B7):PE c (G9 t q)<|S7 i:=a7g b X hd a
def C8(H H':Hp):Prop:=∀b o,H b=U o->H' b=U o
def C8.refl(H:Hp):C8 H H:=λ_ _ h=>h
def C8.trans{H2:Hp}(a:C8 g M)(b:C8 M H2):C8 g H2:=λc o h=>b c o<|a c o h
def C8.free(e:C8 g M)(h:M N=Option.none):g N=Option.none:=by
 cases q:g N with
 |none=>rfl
 |some o=>
  rw[e N o q]at h;exact nS h
def C8.seq(K:C8 g M)(h:X6 e g N b9):X6 e M N b9:=by
 rcases h with (h|⟨o,h⟩)|h
 exact B3<|B3<|K _ _ h;exact B3<|B6 ⟨o,K _ _ h⟩;exact B6 h
def Rz(env:Env):∀(names:List<|Str×lH) (a:List<|Str×Addr),(∀y∈names,y.2=cQ->∃c,env.cells.lookup y.1=U c)->(∀x c,a.lookup x=U c->env.cells.lookup x=U c) ->
  ∃cl,(forIn names a λy (cs:List<|Str×Addr)=>if (y.2==cQ)=Uf then(do let c <- cellOf env y.1;pure (lV ((y.1,c)::cs)))else pure (lV cs):Sem<|List<|Str×Addr)=pure cl /\
   (∀x c,cl.lookup x=U c->env.cells.lookup x=U c)/\(∀y∈names,y.2=cQ->(cl.lookup y.1).isSome=Uf)/\(∀x,(a.lookup x).isSome=Uf->(cl.lookup x).isSome=Uf):=by
 intro l_;induction l_ with
 |nil=>
  intro a _ ha;exact⟨a,by simp only[List.forIn_nil],ha,(λ_ h=>nomatch h),(λ_ h=>h)⟩
 |cons a_ r ih_=>
  obtain⟨n,k⟩:=a_;intro a h ha;have s:=λy b=>h y<|G6 _ b;by_cases o:k=cQ
  . subst o;obtain⟨c,q⟩:=h (n,cQ) K9 rfl;have i:∀x c',((n,c)::a).lookup x=U c'->env.cells.lookup x=U c':=λx c' e=>by
     rw[qU]at e;cases d:x==n with
     |true=>
      rw[d]at e;cases e;rw[Es d];exact q
     |false=>
      rw[d]at e;exact ha x c' e
    obtain⟨cl,l,p,j,m⟩:=ih_ ((n,c)::a) s i;have t:=m;refine⟨cl,?_,p,λy b f=>?_,λx d=>t x ?_⟩
    . rw[Fj];have v:cellOf env n=pure c:=by delta cellOf;rw[q]
      simp only[v];exact l
    . rcases List.mem_cons.mp b with rfl|b
      exact t n C9;exact j y b f
    . rw[qU];cases x==n<;>simp[d]
  . obtain⟨cl,l,p,j,m⟩:=ih_ a s ha;refine⟨cl,?_,p,λy b f=>?_,m⟩
    . rw[Fj];have u:(k==iL)=U':=by simpa using o
      simp only[u];exact l
    . rcases List.mem_cons.mp b with rfl|b
      exact absurd f o;exact j y b f
def Ry(h:∀y∈j0.names,y.2=cQ->∃c,n8.cells.lookup y.1=U c):
  ∃cl,closureFor j0 n8=pure cl/\(∀x c,cl.lookup x=U c->n8.cells.lookup x=U c)/\(∀y∈j0.names,y.2=cQ->(cl.lookup y.1).isSome=Uf):=by
 obtain⟨cl,d,f,b,_⟩:=Rz n8 j0.names [] h (λx c e=>by simp at e);refine⟨cl,?_,f,b⟩;show((forIn j0.names [] λy a=>if (y.2==cQ)=Uf then(do let c <- cellOf n8 y.1;pure (lV ((y.1,c)::a)))else pure (lV a):Sem<|List<|Str×Addr) >>= pure)=_;rw[d];rfl
theorem sP{env:Env}:∀{names:List (Str×lH)}{x:Str},
  ((names.map λ(n,k)=>if (k==iL&&env.scope.kind==mC&&env.kindOf n==U aV)then(n,cF)else(n,k)).lookup x=U aV \/
   (names.map λ(n,k)=>if (k==iL&&env.scope.kind==mC&&env.kindOf n==U aV)then(n,cF)else(n,k)).lookup x=U cQ) ->
  (x,iL)∈names\/(x,cF)∈names
 | [],_,h=>by simp at h
 |(n,k)::r,x,h=>by
  by_cases f:(x==n)=Uf
  . have e:=Es f;subst e;by_cases b:k=cQ;subst b;exact B3 K9
    . right;have i:(k==iL)=U':=by simpa using b
      simp only[K3,i,oF,Ao,if_false,qU,wO]at h
      simp_all
  . have c:(x==n)=U':=by simpa using f
    refine((@sP env r x) ?_).imp (G6 _) (G6 _);rw[K3]at h;have d:∀(g:lH) l,fW x ((n,g)::l)=fW x l:=λg l=>by rw[qU,c]
    by_cases a:(k==iL&&env.scope.kind==mC&&env.kindOf n==U aV)=Uf
    . have e:(if (k==iL&&env.scope.kind==mC&&env.kindOf n==U aV)=Uf then(n,cF)else(n,k))=(n,cF):=A6 a;simp only[e,d]at h;exact h
    . have e:(if (k==iL&&env.scope.kind==mC&&env.kindOf n==U aV)=Uf then(n,cF)else(n,k))=(n,k):=B2 a;simp only[e,d]at h;exact h
noncomputable def yp(X:Cx)(bs nb:List Str)(scope:cV)(cl:List<|Str×Addr)(C:Addr)(fp:List Addr)(s:C5)(H:Hp)(pins:List<|Addr×Obj):Cx where
 prog:=X.prog
 w:=X.w
 K:=X.K
 mg:=X.mg
 base:=X.base
 A:=X.A
 N:=bs++nb
 ag:=s
 D8:=H
 env:=zH scope cl C X.env
 outer:=X.stack
 stack:=X.stack
 ex:=fp
 fn:=λy=>decide (scope.names.lookup y=U aV)
 calm:=X.calm
 pn:=X.pn++pins
 xe:=λ_ _=>False
structure IT(X:Cx)(bs nb:List Str)(scope:cV):Prop where
 kind:scope.kind=mC
 names:∀y∈scope.names,y.2=aX->scope.names.lookup y.1=U aX
 bU:∀y∈scope.names,y.2=cQ->X.env.scope.names.lookup y.1=U aV\/X.env.scope.names.lookup y.1=U cQ
 apart:∀x∈nb,∀y∈scope.names,y.1=x->y.2≠aX/\y.2≠aV
 len:nb.length=X.N.length
 nms:∀(j:Nat) (x:Str),nb[j]?=U x->X.N[j]?=U x\/∀y∈scope.names,y.1≠x
noncomputable def tJ(N nb:List Str)(fsc sc:cV):Bool:=
 (decide (nb.length=N.length)&&(nb.zip N).all λp=>decide (p.1=p.2)||sc.names.all λy=>!decide (y.1=p.1))&&(decide (sc.kind=mC)&&(sc.names.all λy=>!decide (y.2=aX)||decide (sc.names.lookup y.1=U aX)) &&
  (sc.names.all λy=>!decide (y.2=cQ)||(decide (fsc.names.lookup y.1=U aV)||decide (fsc.names.lookup y.1=U cQ)))&&nb.all λx=>sc.names.all λy=>!decide (y.1=x)||!decide (y.2=aX\/y.2=aV))
def a8P(h:tJ c.N j5 c.env.scope j0=Uf):IT c c9 j5 j0:=by
 unfold tJ at h;simp only[fu,wN,Bool.or_eq_true,lZ,gX,uB]at h;obtain⟨⟨g,m⟩,⟨⟨o,n⟩,l⟩,i⟩:=h;refine⟨o,λy a e=>?_,λy a e=>?_,λx d y a f=>?_,g,λj x b=>?_⟩
 . rcases n y a with q|q
   exact absurd e q;exact q
 . rcases l y a with q|q
   exact absurd e q;exact q
 . rcases i x d y a with q|q
   exact absurd f q;exact⟨λz=>q<|B3 z,λz=>q<|B6 z⟩
 . have:=(List.getElem?_eq_some_iff.mp b).1;have X:c.N[j]?=U (c.N[j]'A3):=Y2 _;have k:(j5.zip c.N)[j]?=U (x,c.N[j]'A3):=List.getElem?_zip_eq_some.mpr ⟨b,X⟩;rcases m _ (wZ k)with q|q
   left;rw[X];exact J3 U q.symm;right;exact q
def b0G(lo:Nat)(P:Str->Addr->Prop):∀(names:List<|Str×lH) (h:Heap) (d:List<|Str×Addr) (D:Str->Prop),lo<=h.objs.size ->
  (∀x c,d.lookup x=U c->c<h.objs.size/\((P x c/\¬D x)\/(D x/\lo<=c/\h.IsCell c J)))->(∀x y c,d.lookup x=U c->d.lookup y=U c->x=y)->(∀x,D x->(d.lookup x).isSome=Uf) ->
  (∀x c,(lJ h.objs.size names d).lookup x=U c->(P x c/\¬(D x\/(x,cF)∈names))\/((D x\/(x,cF)∈names)/\lo<=c/\(wy h names).IsCell c J)) /\
  (∀x y c,(lJ h.objs.size names d).lookup x=U c->(lJ h.objs.size names d).lookup y=U c->x=y)/\(∀x,(D x\/(x,cF)∈names)\/(d.lookup x).isSome=Uf->((lJ h.objs.size names d).lookup x).isSome=Uf):=by
 intro l_;induction l_ with
 |nil=>
  intro h d D hlo h1 h2 h3;refine⟨λx c e=>?_,h2,λx f=>?_⟩
  . rcases(h1 x c e).2 with ⟨u,v⟩|⟨u,v,B⟩
    exact B3 ⟨u,λz=>z.elim v C9⟩;exact B6 ⟨B3 u,v,B⟩
  . rcases f with (f|f)|f
    exact h3 x f;simp at f;exact f
 |cons a_ r ih_=>
  obtain⟨n,k⟩:=a_;intro h d D hlo h1 h2 h3;unfold wy lJ;by_cases w:k=aV
  . subst w;have l:∀x,((n,h.objs.size)::d).lookup x=if x=n then U h.objs.size else d.lookup x:=λx=>by
     rw[qU];by_cases c:x=n;subst c;simp
     . have:(x==n)=U':=by simpa using c
       rw[this,B2 c]
    have sz:(h.push {cls:=E8 "cell",data:=qR J}).objs.size=h.objs.size+1:=jR ..;obtain⟨s,m,p⟩:=ih_ (h.push {cls:=E8 "cell",data:=qR J}) ((n,h.objs.size)::d) (λx=>D x\/x=n) (by lia) (λx c e=>by
      rw[l]at e;split at e;rename_i f;cases e;exact⟨by simp,B6 ⟨B6 f,hlo,_,ae _ rfl,rfl⟩⟩
      . rename_i f;obtain⟨z,q⟩:=h1 x c e;refine⟨by rw[sz];exact WC z,?_⟩
        rcases q with ⟨t,q2⟩|⟨t,q2,E⟩
        exact B3 ⟨t,λy=>y.elim q2 f⟩
        . exact B6 ⟨B3 t,q2,E.keeps λb o e=>L0 _ e⟩) (λx y c i g=>by
      rw[l]at i g;split at i
      . split at g;rename_i a b;rw[a,b];cases i;exact absurd (h1 y _ g).1<|cO _
      . split at g;cases g;exact absurd (h1 x _ i).1 (cO _)
        . exact h2 x y c i g) (λx f=>by
      rw[l];split;rfl
      . rename_i C;exact h3 x<|f.resolve_right C)
    rw[sz]at s m p;have j:∀x,((D x\/x=n)\/(x,cF)∈r)↔(D x\/(x,cF)∈(n,cF)::r):=λx=>by
     rw[Q7];constructor
     . rintro((z|z)|z);exact B3 z;exact B6 (B3<|by rw[z]);exact B6<|B6 z
     . rintro(z|z|z);exact B3<|B3 z;exact B3<|B6<|J3 Prod.fst z;exact B6 z
    refine⟨λx c e=>?_,m,λx f=>p x ?_⟩;rw[<-j];exact s x c e
    . rw[<-j]at f;refine f.imp id λz=>?_;rw[l];split;rfl;exact z
  . have A:(k==cF)=U':=by simpa using w
    simp only[A];obtain⟨s,m,p⟩:=ih_ h d D hlo h1 h2 h3;have j:∀x,(x,cF)∈r↔(x,cF)∈(n,k)::r:=λx=>by rw[Q7];exact⟨B6,λz=>z.resolve_left λy=>w (J3 Prod.snd y).symm⟩
    refine⟨λx c e=>?_,m,λx f=>p x ?_⟩;rw[<-j];exact s x c e;rw[<-j]at f;exact f
structure a1L(X:Cx)(scope:cV)(cl:List<|Str×Addr)(n:Nat):Prop where
 c1:∀x c,cl.lookup x=U c->(X.env.cells.lookup x=U c/\¬(x,cF)∈scope.names)\/((x,cF)∈scope.names/\n<=c)
 c2:∀x,(x,iL)∈scope.names\/(x,cF)∈scope.names->(cl.lookup x).isSome=Uf
 c3:∀x y c,cl.lookup x=U c->cl.lookup y=U c->x=y
section
variable{H:Hp}
def a8O(I:Inv c d6 G H u)(B:IT c c9 j5 j0)(L:a1L c j0 v4<|hz u)(g:(hz u)<=N)(f:∀b∈P,rq c d6 H b)(d:∀b∈P,b<(hz u)):(yp c c9 j5 j0 v4 N P u H d6).Ok where
 mod:=I.ok.mod
 kind:=B.kind
 glob:=I.ok.glob
 blt:=I.ok.blt
 above:=g
 inj:=L.c3
 has:=λx j=>by exact Option.isSome_iff_exists.mp<|L.c2 x<|sP j
 HY:=λx X h e=>by
  rcases L.c1 x X e with z|z
  exact absurd (ra<|ff h) z.2;exact z.2
 hd:=I.ok.hd
 frames:=I.ok.frames
 Ji:=B3 rfl
 Pb:=λb a=>⟨Z9<|Q8 (d b a) g,λx X e=>(L.c1 x X e).elim (λz=>(f b a).2.2.2.2.1 x X z.1) λz=>gS<|Q8 (d b a) z.2⟩
 bs:=I.bs
 uV:=D6 I.ok.uV I.sz
 xJ:=λb o e a=>by
  rcases(f b a).2.2.2.1 with z|z
  exact I.ok.xJ b o e z;exact absurd (Q8 (L6 e)<|D6 I.ok.uV z)<|cO _
 zo:=λb a i=>by
  rcases List.mem_cons.mp (I.yG b i)with z|z
  exact(f b a).2.1 z;exact(f b a).2.2.1 z
 mQ:=I.stack
 BI:=I.vH
noncomputable def kn(bs:List Str)(σ:St):St:=S9 bs.length J++σ
def a5A{t':Nat}(I:Inv c d6 G H u)(B:IT c c9 j5 j0)(L:a1L c j0 v4<|hz u)(E:∀x X,v4.lookup x=U X->(hz u)<=X->T.IsCell X J)(Q:(hz u)<=N)(hf:∀b∈P,rq c d6 H b)(σ:∀b∈P,b<(hz u))(k:∀b m,u.heap.get? b=U m->T.get? b=U m)(hn:T.Ns N j7):Inv (yp c c9 j5 j0 v4 N P u H d6) [] (kn c9 G) H {u with heap:=T,toks:=t'}:=by
 refine⟨a8O I B L Q hf σ,rfl,I.bare,Un.kept k,⟨j7,hn,λi x v S y f=>?_⟩,λx X e=>?_,I.H9.fresh Q,λx X e=>(L.c1 x X e).elim (λz=>I.fm x X z.1) λz=>I.H9.fresh z.2,λp Z=>?_,I.H9.kept k,?_⟩
 . have q:(c9++j5)[i]?=U x:=S;unfold kn at y;by_cases A:i<c9.length
   . rw[Ay (by simpa using A),MR,A6 A]at y;cases y
   . rw[Az (by simpa using A),MK]at y;rw[Az<|by simpa using A]at q
     have h:=wZ q;have D:(x,iL)∈j0.names:=by
      rcases f with f|f
      . exfalso;obtain⟨⟨n,F⟩,s,j⟩:=mem_map.mp<|ra f;by_cases a:(F==iL&&c.env.scope.kind==mC&&c.env.kindOf n==U aV)=Uf;simp only[a]at j;cases j;simp only[a]at j;cases j;exact(B.apart _ h (_,aX) s rfl).1 rfl
      exact(sP f).resolve_right λz=>(B.apart x h _ z rfl).2 rfl
     have W:Pu c.env.scope x:=B6<|B.bU _ D rfl;obtain⟨m0,_,Y⟩:=I.loc;obtain⟨m,r,l⟩:=Y _ x v ((B.nms _ x q).resolve_right λz=>z _ D rfl) y W
     refine⟨m,r,?_⟩;have C:(yp c c9 j5 j0 v4 N P u H d6).env.kindOf x=U aV\/(yp c c9 j5 j0 v4 N P u H d6).env.kindOf x=U cQ:=by
      rcases f with f|f
      . exfalso;obtain⟨⟨n,F⟩,s,j⟩:=mem_map.mp<|ra f;by_cases a:(F==iL&&c.env.scope.kind==mC&&c.env.kindOf n==U aV)=Uf;simp only[a]at j;cases j;simp only[a]at j;cases j;exact(B.apart _ h (_,aX) s rfl).1 rfl
      exact f
     rcases l with ⟨hk,_⟩|⟨_,X,bs,t⟩
     . exfalso;have g:c.env.scope.names.lookup x=U aX:=hk;rcases B.bU _ D rfl with z|z
       rw[show c.env.scope.names.lookup x=U aV from z]at g;cases g;rw[show c.env.scope.names.lookup x=U cQ from z]at g;cases g
     . obtain⟨R,w⟩:=Option.isSome_iff_exists.mp<|L.c2 _<|B3 D;have:R=X:=by
        rcases L.c1 _ _ w with z|z
        exact dY<|z.1.symm.trans bs;exact absurd rfl (B.apart x h _ z.1 rfl).2
       subst this;obtain⟨o,M,O⟩:=t;exact B6 ⟨C,R,w,o,k _ _ M,O⟩
 . rcases L.c1 x X e with z|z
   obtain⟨v,o,M,O⟩:=I.cell x X z.1;exact⟨v,o,k _ _ M,O⟩;exact⟨_,E x X e z.2⟩
 . have K:p∈c.pn++d6:=by simpa [yp]using Z
   obtain⟨e,n,ne,V,d⟩:=I.pin p K;refine⟨k _ _ e,n,Z9<|Q8 (L6 e) Q,λz=>?_,d⟩
   rcases List.mem_cons.mp (I.yG _ z)with z|z
   exact ne z;exact V z
 . delta kn;show _=(c9++j5).length;rw[R5,R5,MK,I.len,B.len]
def Inv.Iw{o:HO}(I:Inv c d6 G H u)(i:H N=J)(g:N≠c.env.locals)(t:N∈c.ex\/c.ag.heap.objs.size<=N)(j:∀x X,c.env.cells.lookup x=U X->X≠N)(r:∀p∈c.pn++d6,p.1≠N)(new:Z2 c.prog c.w (upd H N o) u.heap N o):Inv c d6 G (upd H N o) u:=by
 have a:∀b σ,H b=U σ->upd H N o b=U σ:=λb σ e=>by rw[F9<|T9 e i];exact e
 have:=I.step (d':=u.drawn) (t':=u.toks) (ch:=[N]) (λb f=>?_) (λb d _ _ _ e _=>e) (λb d _ _ _ e _=>⟨d.slots,e⟩) (λb d l e n=>?_) (λb d _ e=>⟨d,e⟩)
  (λb h e=>a b _ e) (λb d σ e=>a b _ e) (λb v e=>⟨#[],by rw[a b _ e];rfl⟩) (λm k=>k) (λb σ e=>?_) I.bare
 exact this
 . have e:b=N:=by simpa using f
   subst e;exact⟨t,g,j,r⟩
 rw[F9<|by simpa using l];exact n
 . by_cases f:b=N;subst f;rw[K8]at e;cases e;exact new;rw[F9 f]at e;exact(I.H9 b σ e).sH (λ_ _ _ q=>q) (λX q=>a X _ q) λX h q=>a X _ q
end
def RJ(X:Cx)(ifs:List Expr)(t:TT):Prop:=
 ∀(pins:List<|Addr×Obj) (s:C5) (σ:St) (H:Hp) (Q:Bool->Hp->Prop) (E:A1->C5->Prop),(∀e s',X.xe e s'->E e s')->Inv X pins σ H s->t σ H Q ->
  wpAny (model X.prog X.w) X.A (forIn ifs Uf λc r=>if r=Uf then do let ok <- isTrue c X.env (eval c X.env);pure (lV ok)else pure (lV r)) (TP X pins σ Q) E s
def a2e:TT:=λ_ H Q=>Q Uf H
def a0a:RJ c [] a2e:=λ_ _ _ H _ _ _ I h=>wpAny_tests_nil ⟨H,I,h⟩
def ZZ(h:PT c p d9):RJ c [p] d9:=λa s b H Q E d I q=>wpAny_tests_one<|aT (h a s b H Q I q) (λ_ _ z=>z) d
def NF{k:A1} (I:Nat->C5->Prop) (turn:∀n u,I n u->wpAny (model A D) L (pyNext Z) (λr s₁=>match r with
   |none=>v5 (jK Wm) s₁
   |some v=>wpAny (model A D) L (Fp Y Z v) (λ_ ag=>wpAny (model A D) L (assign Y n8 v) (λ_ s₂=>
     wpAny (model A D) L (forIn b5 Uf λc r=>if r=Uf then do let ok <- isTrue c n8 (eval c n8);pure (lV ok)else pure (lV r)) (λok s₃=>
      if ok=Uf then wpAny (model A D) L (eval p n8) (λx i=>
       wpAny (model A D) L (call (P5 "list.append") [k,x]) (λ_ f=>∃m,m<n/\I m f) (jG (model A D) L n8 λe s'=>v5 (lQ e) s') i) (jG (model A D) L n8 λe s'=>v5 (lQ e) s') s₃
      else ∃m,m<n/\I m s₃) (jG (model A D) L n8 λe s'=>v5 (lQ e) s') s₂) (jG (model A D) L n8 λe s'=>v5 (lQ e) s') ag) (jG (model A D) L n8 λe s'=>v5 (lQ e) s') s₁) (jG (model A D) L n8 λe s'=>v5 (lQ e) s') u)
  (n:Nat) (h:I n u) :
  lG (model A D) L (Xm (qZ p [⟨Y,j8,b5,0⟩] j0 q) 0 Z k n8) v5 u:=by
 refine codeAny_loop rfl I (λn u y=>?_) n h;refine wpAny_noted ?_;refine C6<|ub<|C6<|aT (turn n u y) (λr s₁ d=>?_) λ_ _ b=>b
 cases r with
 |none=>exact G8 d
 |some v=>
  refine C6<|aT d (λ_ ag j=>?_) λ_ _ b=>b;refine C6<|aT j (λ_ s₂ R=>C6<|aT R (λok s₃ g=>?_) λ_ _ b=>b) λ_ _ b=>b
  cases ok with
  |false=>exact G8 ⟨rfl,g⟩
  |true=>
   exact C6<|C6<|aT g (λx i l=>C6<|aT l (λ_ f w=>G8<|G8 ⟨rfl,w⟩) λ_ _ b=>b) λ_ _ b=>b
def RK(n:Nat)(g:TG):Prop:=∀x σ H Q,g x σ H Q->g x σ H λσ2 H2=>Q σ2 H2/\σ2.length=σ.length/\∀j,n<=j->σ2[j]?=σ[j]?
def IS(n:Nat)(g:BP):Prop:=∀x σ H Q,g x σ H Q->g x σ H λσ2 H2=>Q σ2 H2/\σ2.length=σ.length/\∀j,n<=j->σ2[j]?=σ[j]?
def Vo(h:autoParam (l8<o) aj):RK o<|fk l8:=λx b H Q q=>⟨q,by simp,λj a=>by rw[ir<|Z9<|Q8 B1 B1]⟩
def Vn:IS o Ro:=λx a H Q q=>⟨q.1,q.2,rfl,λ_ _=>rfl⟩
def DT(n:IS o t8)(h:autoParam (l8<o) aj):IS o<|Bf (fk l8) t8:=λx f H Q q=>by
 obtain⟨v,r,e,q⟩:=q;refine⟨v,r,e,?_⟩;have m:∀d:St,(d.length=(f.set l8<|U v).length/\∀j,o<=j->d[j]?=(f.set l8<|U v)[j]?)->d.length=f.length/\∀j,o<=j->d[j]?=f[j]?:=λd ⟨a,b⟩=>by
  refine⟨by simpa using a,λj k=>?_⟩;have:=b j k
  rwa [ir<|Z9<|Q8 B1 B1]at this
 have l:(λd g=>Q d g/\d.length=(f.set l8<|U v).length/\∀j,o<=j->d[j]?=(f.set l8<|U v)[j]?)=λd g=>Q d g/\d.length=f.length/\∀j,o<=j->d[j]?=f[j]?:=by
  funext d g
  apply propext;constructor;rintro⟨a,b⟩;exact⟨a,m d b⟩
  . rintro⟨a,b,c⟩;refine⟨a,by simpa using b,λj k=>?_⟩;rw[ir<|Z9<|Q8 B1 B1];exact c j k
 rw[<-l];exact(n r (f.set l8<|U v) H Q q)
def a0W(h:IS o t8):RK o<|KO e l8 t8:=λx d H Q q=>by obtain⟨a,b,n,c,f,q⟩:=q;exact⟨a,b,n,c,f,h b d H Q q⟩
def b0H(Jff:It)(bs:List Str)(g:TG)(tt:TT)(te:TE)(σ:St)(Q:VK)(H1:Hp):Prop:=∃(n:Nat) (W:Nat->List V->Hp->Prop),n<=G7/\W 0 [] H1/\∀i ys H,W i ys H ->
 ((Jff.stop i H/\∀p,H p=J->Q (.ref p) (upd H p<|.lst ys))\/(Jff.go i H/\i<n/\∀x H',Jff.RQ i H x H'->g x (kn bs σ) H' λσ2 H2=>tt σ2 H2 λb H3=>if b=Uf then te σ2 H3 (λy H4=>W (i+1) (ys++[y]) H4)else W (i+1) ys H3))
def AK(bs:List Str)(wi:TI)(g:TG)(tt:TT)(te:TE):TE:=λσ H Q=>wi σ H λJff H1=>b0H Jff bs g tt te σ Q H1
def Vals.snoc(r:Vals b9 m5)(h:RelV b6 Z):Vals (b9++[b6])<|m5++[Z]:=r.append<|N8 h P1
def a3e{Q:Env->C5->Prop}(g:Q (newEnv j0 (hz u) N (lJ ((hz u)+1) j0.names v4) t J F0 (U n8) z) {u with heap:=wy (u.heap.push {cls:=E8 "dict",data:=dX #[]}) j0.names}):
  wpAny o5 L (newFunctionEnv j0 N v4 [] t J F0 (U n8) z) Q a9 u:=by
 simp only[newFunctionEnv,WV,if_true];refine C6<|wpAny_alloc ?_;refine C6 (wpAny_layCells _ (λe c d=>by rfl) _ _ _ _ ?_);rw[show({u with heap:=u.heap.push {cls:=E8 "dict",data:=dX #[]}}:C5).heap.objs.size=(hz u)+1 from jR ..];refine C6 ?_;exact G8<|G8 g
structure Pz(X:Cx)(bs nb:List Str)(scope:cV)(tg F:Expr)(Z:List Expr)(elt:Expr)(wi:TI)(g:TG)(tt:TT)(te:TE):Prop where
 c:X.calm=Uf
 b:IT X bs nb scope
 i:PI X tg F wi
 o:RK bs.length g
 g:∀cl C fp s H pins,PG (yp X bs nb scope cl C fp s H pins) tg g
 t:∀cl C fp s H pins,RJ (yp X bs nb scope cl C fp s H pins) Z tt
 e:∀cl C fp s H pins,PE (yp X bs nb scope cl C fp s H pins) elt te
 s:∀x,foldedSetIterable F X.env x=pure x
def NI{use:Option (A1->Sem Unit)}(M:Pz c c9 j5 j0 Y j8 b5 p o6 o7 d9 y)(pins:List<|Addr×Obj)(s:C5)(σ:St)(H:Hp)(Q:VK)(I:Inv c pins σ H s)(h:AK c9 o6 o7 d9 y σ H Q)(hfin:∀(D C:Addr) (s':C5) (H':Hp) (f:Flow),Inv c pins σ H' s'->Q (.ref D) H'->rq c pins H' C->(∃m,s'.heap.Ns C m)->zG (model c.prog c.w) c.A c.xe use a9 (A5 D) C (jK f) s'):
  wpAny (model c.prog c.w) c.A (comprehension (qZ p [⟨Y,j8,b5,0⟩] j0 q) j0 c.env (firstIterPos [⟨Y,j8,b5,0⟩] q) (newList []) (firstAsync [⟨Y,j8,b5,0⟩]) (firstIter [⟨Y,j8,b5,0⟩] c.env) use) a9 c.xe s:=by
 obtain⟨hc,B,hi,go,hg,ht,he,hs⟩:=M;obtain⟨cl0,hcl,c1,c2⟩:=Ry<|λR hy hf=>I.ok.has R.1<|B.bU R hy hf;refine wpAny_comprehension_free rfl hs hcl B.kind B.names<|M8 (hi pins s σ H _ I h) λv s1 h1=>M8 h1 λitv a h2=>?_
 obtain⟨it,fp,tn,Jff,H2,e,M,T,st2,f2,n,W,hn,w0,turn⟩:=h2;subst e;have hlt:∀b∈fp,b<a.heap.objs.size:=λb l=>by obtain⟨o,e,_⟩:=T.obj _ _ st2 b l;exact L6 e
 refine oJ<|a3e ?_;generalize hH2:a.heap.push {cls:=E8 "list",dict:=J,data:=W7 ([]).toArray}=E;have hCs:E.objs.size=a.heap.objs.size+1:=by rw[<-hH2,jR]
 have hDC:a.heap.objs.size≠E.objs.size:=by rw[hCs];exact Z9<|FA _
 have t:a.heap.objs.size<=E.objs.size:=by rw[hCs];exact lO _
 have sz3:(E.push {cls:=E8 "dict",data:=dX #[]}).objs.size=E.objs.size+1:=jR ..;obtain⟨f1,f3,f4⟩:=b0G a.heap.objs.size (λx X=>c.env.cells.lookup x=U X) j0.names (E.push {cls:=E8 "dict",data:=dX #[]}) cl0 (λ_=>False) A3
  (λx X e=>⟨by obtain⟨v,g⟩:=M.cell x X<|c1 x X e;rw[sz3];exact WC<|Q8 g.lt t,B3 ⟨c1 x X e,λz=>z⟩⟩) (λx R X e1 e2=>M.ok.inj x R X (c1 x X e1)<|c1 R X e2) λx z=>z.elim
 rw[sz3]at f1 f3 f4;generalize hcl':lJ (E.objs.size+1) j0.names cl0=cl at f1 f3 f4|-;have P:(wy (E.push {cls:=E8 "dict",data:=dX #[]}) j0.names).Ns E.objs.size<|λ_=>J:=(Heap.Ns.new E<|E8 "dict").keeps<|pushCells_keeps _ _;have old0:∀b o,E.get? b=U o->(wy (E.push {cls:=E8 "dict",data:=dX #[]}) j0.names).get? b=U o:=λb o e=>pushCells_keeps _ _ b o<|L0 _ e;generalize wy (E.push {cls:=E8 "dict",data:=dX #[]}) j0.names=h₁ at f1 P old0|-;have old:=λb o e=>old0 b o<|hH2▸L0 _ e;have hacc:=old0 _ _<|hH2▸ae _ rfl;have hDn:=λb l=>Z9<|hlt b l;have L:a1L c j0 cl a.heap.objs.size:=⟨λx X e=>(f1 x X e).imp (λz=>⟨z.1,λR=>z.2<|B6 R⟩) λz=>⟨z.1.resolve_left λR=>R,z.2.1⟩,λx z=>f4 x<|z.elim (λz=>B6<|c2 _ z rfl) λz=>B3<|B6 z,f3⟩
 have nD:∀x X,cl.lookup x=U X->X≠a.heap.objs.size:=λx X e z=>by
  rcases f1 x X e with ⟨R,_⟩|⟨_,_,o,R,yd⟩
  obtain⟨v,g⟩:=M.cell x X R;exact absurd g.lt (by rw[z];exact cO _);rw[z,hacc]at R;cases R;cases yd
 have J0:=a5A (t':=a.toks) M B L (λx X e z=>(f1 x X e).elim (λR=>by obtain⟨v,g⟩:=M.cell x X R.1;exact absurd g.lt<|Nat.not_lt.mpr z) λR=>R.2.2) t f2 hlt old P
 generalize G:yp c c9 j5 j0 cl E.objs.size fp a H2 pins=O at J0;have fpB:∀{H':Hp}{pl:List (Addr×Obj)},(∀b∈fp,H' b=J)->(∀F∈pl,F.1∉fp)->∀b∈fp,rq O pl H' b:=λ{H' pl} hz N b l=>by
  subst G;refine⟨hz b l,Z9<|Q8 (hlt b l) t,J0.ok.zo b l,B3 l,J0.ok.Pb b l |>.2,λF hq=>?_⟩
  rcases List.mem_append.mp hq with z|z
  exact(f2 b l).2.2.2.2.2 F z;intro e;exact N F z<|e▸l
 have Dfs:a.heap.objs.size∉O.fs:=λl=>by
  subst G;rcases List.mem_cons.mp (M.yG _ l)with z|z
  exact absurd M.lt (by rw[<-z];exact cO _);exact M.a0u Y1 z
 have Dcell:∀x X,c.env.cells.lookup x=U X->X≠a.heap.objs.size:=λx X e z=>by obtain⟨v,g⟩:=M.cell x X e;exact absurd g.lt (by rw[z];exact cO _)
 have Dpin:=λF N=>Z9<|L6 (M.pin F N).1;have Dloc:a.heap.objs.size≠O.env.locals:=λz=>hDC<|z.trans (J3 (·.env.locals) G).symm
 have pinD:∀{σ':St}{H':Hp}{s':C5}{o:Obj},Inv O [] σ' H' s'->s'.heap.get? a.heap.objs.size=U o->H' a.heap.objs.size=J->(∀v,o.data≠qR v)->Inv O [(a.heap.objs.size,o)] σ' H' s':=λ{σ' H' s' o} I' e hz hd=>
  I'.pG λF N=>by
   have ep:F=(a.heap.objs.size,o):=by simpa using N
   subst ep;exact⟨e,hz,Dloc,Dfs,hd⟩
 have loop:∀s₃:C5,s₃={a with heap:=h₁,toks:=a.toks} ->
   lG (model c.prog c.w) c.A (Xm (qZ p [⟨Y,j8,b5,0⟩] j0 q) 0 (A5 it) (A5 a.heap.objs.size)<|zH j0 cl E.objs.size c.env)
    (zG (model c.prog c.w) c.A c.xe use a9 (A5 a.heap.objs.size) E.objs.size) s₃:=by
  rintro s₃ rfl;refine NF (λk s'=>∃(i:Nat) (ys:List V) (S:List A1) (z:Nat) (H':Hp),k=n-i+1/\i<=n/\S.length<=i/\Vals ys S/\Inv O [(a.heap.objs.size,{cls:=E8 "list",data:=W7 S.toArray z})] (kn c9 σ) H' s'/\tn i s'.heap/\(∀b∈fp,H' b=J)/\W i ys H') ?_ (n-0+1)
   ⟨0,[],[],0,H2,rfl,lP _,N7 _,P1,pinD J0 hacc (M.H9.fresh Y1) (λv z=>by cases z),T.keep _ _ _ st2 λb _ o e=>old b o e,λb l=>(f2 b l).1,w0⟩
  rintro k s3 ⟨i,ys,S,z,H3,rfl,hin,hul,rv,I3,st3,fr3,w3⟩;have npl:∀F∈([(a.heap.objs.size,{cls:=E8 "list",data:=W7 S.toArray z})]:List<|Addr×Obj),F.1∉fp:=λF N hm=>by
   have ep:F=(a.heap.objs.size,{cls:=E8 "list",data:=W7 S.toArray z}):=by simpa using N
   subst ep;exact hDn _ hm rfl
  have eP:=(J3 (·.prog) G).symm;have eW:=(J3 (·.w) G).symm;have eK:=(J3 (·.K) G).symm;have eA:=(J3 (·.A) G).symm;have eC:=(J3 (·.calm) G).symm.trans hc;rcases turn i ys H3 w3 with ⟨stop,fin⟩|⟨gon,hlt',step⟩
  . have hd:=T.done O eP eW eK eC i _ s3 (kn c9 σ) H3 (jG (model c.prog c.w) c.A (zH j0 cl E.objs.size c.env) λe s'=>zG (model c.prog c.w) c.A c.xe use a9 (A5 a.heap.objs.size) E.objs.size (lQ e) s') I3 (fpB fr3 npl) st3 stop;rw[eA]at hd;refine M8 hd λr s4 ⟨hr,I4⟩=>?_
    subst hr;obtain⟨m,hm,_⟩:=I4.loc;have pD:=I4.pin (a.heap.objs.size,{cls:=E8 "list",data:=W7 S.toArray z})<|S5 _<|mem_singleton.mpr rfl;have hCl:O.env.locals=E.objs.size:=(J3 (·.env.locals) G).symm;have I5:Inv c pins σ H3 s4:=by
     have hun:Un (aY c.stack) fp H2 H3 a.heap s4.heap:=by have z:=I4.base;rw[<-G]at z;exact z
     exact M.IP (I4.os.trans (J3 (·.ag.os) G).symm) hun ((J3 (λZ:Cx=>dQ Z.prog Z.w H3 s4.heap) G).mpr I4.H9) I4.bare λb l=>⟨(f2 b l).2.2.2.1,(f2 b l).2.1,(f2 b l).2.2.2.2.1,(f2 b l).2.2.2.2.2⟩
    have hys:ys.length<=G7:=by rw[rv.length];lia
    refine hfin a.heap.objs.size E.objs.size s4 _ _ (I5.Iw (o:=.lst ys) pD.2.1 (gS M.lt) (B6 M.sz) Dcell Dpin ⟨hys,S,z,rv,pD.1⟩) (fin _ pD.2.1) ⟨?_,gS<|Q8 M.lt t,M.a0u t,B6<|D6 M.sz t,λx X e g=>?_,λF N g=>?_⟩ ⟨m,(hCl▸hm)⟩;rw[F9<|P9 hDC];exact(hCl▸I4.free);obtain⟨v,q2⟩:=M.cell x X e;exact absurd (Q8 q2.lt (by rw[g];exact t))<|cO _;exact absurd (Q8 (L6 (M.pin F N).1) (by rw[g];exact t))<|cO _
  . have hd:=T.item O eP eW eK eC i _ s3 (kn c9 σ) H3 (jG (model c.prog c.w) c.A (zH j0 cl E.objs.size c.env) λe s'=>zG (model c.prog c.w) c.A c.xe use a9 (A5 a.heap.objs.size) E.objs.size (lQ e) s') I3 (fpB fr3 npl) st3 gon;rw[eA]at hd;refine M8 hd λr s4 ⟨u,hr,h4⟩=>?_;subst hr;refine M8 h4 λ_ s5 ⟨x,H5,I5,r5,y5,st5,fr5⟩=>?_;have hxe:=λe s' g=>(congrFun (congrFun (J3 (·.xe) G) e) s').mpr g;have eE:=(J3 (·.env) G).symm;have w6:=(G▸hg _ _ _ _ _ _) _ s5 (kn c9 σ) H5 x u _ (I5.pinned (fpB fr5 npl)<|T.obj _ _ st5) r5<|go x (kn c9 σ) H5 _<|step x H5 y5;rw[eP,eW,eA,eE]at w6;refine aT w6 (λ_ s6 ⟨σ6,H6,I6,q6,l6,e6⟩=>?_) λ_ _ g=>(hxe _ _ g).elim;have w7:=(G▸ht _ _ _ _ _ _) _ s6 σ6 H6 _ (jG (model c.prog c.w) c.A (zH j0 cl E.objs.size c.env) λe s'=>zG (model c.prog c.w) c.A c.xe use a9 (A5 a.heap.objs.size) E.objs.size (lQ e) s') (λ_ _ g=>(hxe _ _ g).elim) I6 q6;rw[eP,eW,eA,eE]at w7;refine M8 w7 λok s7 ⟨H7,I7,q7⟩=>?_
    have weak:∀{pl:List (Addr×Obj)}{H':Hp}{s':C5},Inv O pl σ6 H' s'->Inv O pl (kn c9 σ) H' s':=λ{pl H' s'} I'=>I'.weak l6.symm λj v hj=>by
     by_cases hjn:j<c9.length
     . unfold kn at hj;rw[Ay (by simpa using hjn),MR,A6 hjn]at hj;cases hj
     rw[e6 j<|Fy hjn];exact hj
    have unp:∀{σ':St}{H':Hp}{s':C5},Inv O ([(a.heap.objs.size,({cls:=E8 "list",data:=W7 S.toArray z}))]++yT fp s5.heap) σ' H' s' ->
      (∀b∈fp,∀o,s5.heap.get? b=U o->s'.heap.get? b=U o)/\(∀b∈fp,H' b=J)/\s'.heap.get? a.heap.objs.size=U {cls:=E8 "list",data:=W7 S.toArray z}/\H' a.heap.objs.size=J:=λ{σ' H' s'} I'=>by
     refine⟨λb l o e=>(I'.pin (b,o)<|S5 _<|S5 _<|rG l e).1,λb l=>?_,?_,?_⟩;obtain⟨o,e,d⟩:=T.obj _ _ st5 b l;exact(I'.pin (b,o)<|S5 _<|S5 _<|rG l e).2.1;exact(I'.pin (a.heap.objs.size,{cls:=E8 "list",data:=W7 S.toArray z})<|S5 _<|fw _<|mem_singleton.mpr rfl).1;exact(I'.pin (a.heap.objs.size,{cls:=E8 "list",data:=W7 S.toArray z})<|S5 _<|fw _<|mem_singleton.mpr rfl).2.1
    cases ok with
    |false=>
     obtain⟨k1,k2,k3,k4⟩:=unp I7;refine⟨n-(i+1)+1,Wr<|Xy _ _ hlt',i+1,ys,S,z,H7,rfl,hlt',WE B1,rv,pinD (weak<|I7.pG λF N=>nomatch N) k3 k4 (λv g=>by cases g),T.keep _ _ _ st5 k1,k2,?_⟩;simpa using q7
    |true=>
     have q7':y σ6 H7 λR H4=>W (i+1) (ys++[R]) H4:=by simpa using q7
     have w8:=(G▸he _ _ _ _ _ _) _ s7 σ6 H7 _ I7 q7';rw[eP,eW,eA,eE]at w8;refine aT w8 (λuy s8 ⟨R,H8,I8,r8,q8⟩=>?_) λ_ _ g=>(hxe _ _ g).elim;obtain⟨k1,k2,k3,k4⟩:=unp I8;refine append_at k3 λh9 sb9 g9=>?_;have I8':Inv O [] (kn c9 σ) H8 s8:=weak<|I8.pG λF N=>nomatch N
     have ePn:O.pn=c.pn++pins:=(J3 (·.pn) G).symm;have eCl:O.env.cells=cl:=(J3 (·.env.cells) G).symm;have I9:Inv O [] (kn c9 σ) H8 {s8 with heap:=h9}:=I8'.turned (λb o l e=>sb9.extBut b o l e) k4 Dloc (B6 (by rw[((J3 (·.ag) G).symm)];exact N7 _))
      (λx X e=>nD x X (by rw[<-eCl];exact e)) (λF N=>Dpin F (by rw[ePn]at N;simpa using N))
     refine⟨n-(i+1)+1,Wr<|Xy _ _ hlt',i+1,ys++[R],S++[uy],z+1,H8,rfl,hlt',by rw[R5,rh];simp[*],rv.snoc r8,pinD I9 ?_ k4 (λv g=>by cases g),T.keep _ _ _ st5 λb l o e=>?_,k2,q8⟩;rw[g9,List.push_toArray];exact sb9.extBut b o (hDn b l)<|k1 b l o e
 exact codeAny_compStart_list (loop _ rfl)<|T.self _ 0 _ _ _ (T.keep _ _ _ st2 λb _ o e=>old b o e)<|loop _ rfl
def a4u(M:Pz c c9 j5 j0 Y j8 b5 p o6 o7 d9 y):PE c (qZ p [⟨Y,j8,b5,0⟩] j0 q)<|AK c9 o6 o7 d9 y:=by
 intro pins s l H Q I h;refine NI M pins s l H Q I h λD C G E f u j X ⟨m,z⟩=>⟨m,z,λw t=>?_⟩;exact⟨.ref D,E,u.turned (λb o d e=>t.extBut b o d e) X.1 X.2.1 X.2.2.2.1 X.2.2.2.2.1 X.2.2.2.2.2,rfl,j⟩
def a4k(hN:c.N.Nodup)(A:c.N[o]?=U t)(hx:Loc c.env.scope t)(M:Pz c c9 j5 j0 Y j8 b5 p o6 o7 d9 y)(G:autoParam (ak (qZ p [⟨Y,j8,b5,0⟩] j0 q) (U<|G9 t k7) b8.line c.env=pure Uf) bL)(hf:autoParam (yz c t) gQ):PS c (gB [G9 t k7] (qZ p [⟨Y,j8,b5,0⟩] j0 q) b8)<|xv (AK c9 o6 o7 d9 y)<|fk o:=by
 intro pins s u H D I h;rw[exec_Assign_Name_used _ _ _ _ G];refine C6<|ub ?_;refine C6<|C6<|M8 (NI M pins s u H _ I h λK C s' Q f O r d ⟨m,Z⟩=>?_) λ_ s' L=>G8<|G8 L
 obtain⟨n,es,ep,j,P,hr⟩:=id Z;have R:Inv c ((C,n)::pins) u Q s':=O.pG λX l=>by
  rcases List.mem_cons.mp l with rfl|l
  exact⟨j,d.1,d.2.1,d.2.2.1,λv z=>by rw[P]at z;cases z⟩;exact O.pin X<|S5 _ l
 refine M8 (Oq hN A hx hf ((C,n)::pins) s' u Q (.ref K) (A5 K) D.nx R rfl r) λ_ V ⟨a,E,F,q3⟩=>?_;have M:=F.pin (C,n)<|S5 _ K9;refine⟨m,⟨n,es,ep,M.1,P,hr⟩,λh'' sb=>⟨a,E,?_,q3⟩⟩;exact(F.pG λX l=>F.pin X<|S5 _<|G6 _ l).turned (λb k T e=>sb.extBut b k T e) M.2.1 d.2.1 d.2.2.2.1 d.2.2.2.2.1 d.2.2.2.2.2
def rC(kd:Bool)(h:Heap)(i l:Addr)(k:Nat):Prop:=match kd with
 |true=>h.IsTupleIter i l k
 |false=>h.IsListIter i l k
def yx(kd:Bool)(h:Heap)(i l:Addr)(k:Nat)(xs:Array A1):Prop:=match kd with
 |true=>h.IsTupleIter i l k/\h.IsTuple l xs
 |false=>h.IsListIter i l k/\h.IsList l xs
theorem rC.at{h':Heap}(x:rC I T N z o)(e:∀a,T.get? N=U a->h'.get? N=U a):rC I h' N z o:=by
 cases I;exact Heap.IsListIter.at (show T.IsListIter N z o from x) e;exact Heap.IsTupleIter.at (show T.IsTupleIter N z o from x) e
def rC.obj(x:rC I T N z o):∃h,T.get? N=U h/\∀v,h.data≠qR v:=by
 cases I
 . obtain⟨h,e,_,d⟩:=(show T.IsListIter N z o from x);exact⟨h,e,λv a=>by rw[d]at a;cases a⟩
 . obtain⟨h,e,_,d⟩:=(show T.IsTupleIter N z o from x);exact⟨h,e,λv a=>by rw[d]at a;cases a⟩
def yx.kept{h':Heap}(x:yx I T N z o i6)(e:∀b a,b=N\/b=z->T.get? b=U a->h'.get? b=U a):yx I h' N z o i6:=by
 cases I
 . obtain⟨x,⟨a,c,r⟩⟩:=(show T.IsListIter N z o/\T.IsList z i6 from x);exact⟨x.at λa q=>e N a (B3 rfl) q,⟨a,e z a (B6 rfl) c,r⟩⟩
 . obtain⟨x,⟨a,c,r⟩⟩:=(show T.IsTupleIter N z o/\T.IsTuple z i6 from x);exact⟨x.at λa q=>e N a (B3 rfl) q,⟨a,e z a (B6 rfl) c,r⟩⟩
def QM(a:u.heap.IsTupleIter N z o)(e:u.heap.IsTuple z i6)(h:i6[o]?=U Z)(f:∀h',h'.IsTupleIter N z (o+1)->tY N u.heap h'->i5 Z {u with heap:=h'}):wpAny (model A D) L (FZ<|A5 N) i5 a9 u:=by
 obtain⟨j,c,g,b⟩:=id a;obtain⟨k,d,_,n,dt⟩:=e;refine C6 (uC a.typeIs Gb
  (uk Gb a.typeIs Yn ?_<|Yo _))
 show wpAny _ _ (field (A5 N) 0 >>= _) _ _ u;refine C6<|Z3 c b rfl ?_;refine C6<|Z3 c b rfl ?_;refine C6<|qN d dt ?_;simp only[FG,h];refine C6 (oC c b Q3 (G8 ⟨Z,rfl,G8 (f _ ?_ (Xj ..))⟩));refine⟨_,jV _ c<|Av<|wV b _,(Obj.cls_mapFields ..).trans g,?_⟩;rw[wV b];rfl
def Ur(j:L.handled=J)(a:u.heap.IsTupleIter N z o)(h:u.heap.IsTuple z i6)(l:i6[o]?=J)(k:∀h' e,Heap.ExtBut N u.heap h'->(∃w,h'.get? e=U w/\w.cls=E8 "StopIteration")->a9 (A5 e) {u with heap:=h'}):wpAny (model A D) L (FZ<|A5 N) i5 a9 u:=by
 obtain⟨m,d,p,c⟩:=id a;obtain⟨q,g,_,n,dt⟩:=h;refine C6 (uC a.typeIs Gb
  (uk Gb a.typeIs Yn ?_<|Yo _))
 show wpAny _ _ (field (A5 N) 0 >>= _) _ _ u;refine C6<|Z3 d c rfl ?_;refine C6<|Z3 d c rfl ?_;refine C6<|qN g dt ?_;simp only[FG,l];refine C6<|wA<|C6<|oC d c Q3 ?_;refine C6 ?_;refine C6 (oJ ?_<|by size_fits);refine C6 (wpAny_of_eq (by rfl) ?_);refine oJ ?_ (by size_fits);refine C6<|wpAny_handled ?_;rw[j];refine wpAny_throw<|k _ _ (λb w f e=>?_) ⟨_,ae _ rfl,rfl⟩;exact L0 _ (L0 _ ((Xj ..).extBut b w f e))
def rF{x:A1}(h:yx I u.heap N z o i6)(f:z≠N)(e:i6[o]?=U x)(d:∀h',rC I h' N z (o+1)->tY N u.heap h'->i5 x {u with heap:=h'}):wpAny (model A D) L (FZ<|A5 N) i5 a9 u:=by
 cases I;exact wpAny_nextOf_list_item h.1 h.2 e λh' b a=>d h' b a;exact QM h.1 h.2 e λh' b a=>d h' b a
def uN(b:L.handled=J)(h:yx I u.heap N z o i6)(d:i6[o]?=J)(c:∀h' e,Heap.ExtBut N u.heap h'->(∃w,h'.get? e=U w/\w.cls=E8 "StopIteration")->a9 (A5 e) {u with heap:=h'}):wpAny (model A D) L (FZ<|A5 N) i5 a9 u:=by
 cases I;exact wpAny_nextOf_list_end b h.1 h.2 d c;exact Ur b h.1 h.2 d c
def RN{i2 B C:Addr}{ys:Array A1}{y a b:A1} (w:ZipApart z N e8 m3 i2 B C) (hz:IsZip u.heap z N e8 F0) (r:oj u.heap N (A5 m3)<|A5 i2) (v:oj u.heap e8 a b) (h1:yx I u.heap m3 B o i6) (V:yx j6 u.heap i2 C o ys) (hx:i6[o]?=U Z) (X:ys[o]?=U y) (hQ:∀h',IsZip h' z N e8 (eT u.heap.objs.size)->oj h' e8 Z y->rC I h' m3 B (o + 1)->rC j6 h' i2 C (o + 1)->oj h' u.heap.objs.size Z y ->
   (∀c x,c≠z->c≠e8->c≠m3->c≠i2->u.heap.get? c=U x->h'.get? c=U x)->v6 (U<|A5 u.heap.objs.size) {u with heap:=h'}) :
  wpAny (model A D) L (pyNext<|A5 z) v6 a9 u:=by
 have O:u.TypeIs (A5 z) "zip":=⟨_,hz,rfl⟩;refine C6<|ER<|uC O Fg<|uk Fg O F.entry_zip_next ?_<|F.args_zip_next_1 _;show wpAny _ _ (field (A5 z) 2 >>= _) _ _ _;refine C6<|Z3 hz rfl rfl ?_;refine C6<|Z3 hz rfl rfl<|C6<|qN r rfl ?_;refine C6 ?_;refine C6<|Z3 hz rfl rfl<|G8 ?_;refine C6<|wA<|C6<|Z3 hz rfl rfl<|C6<|wU hz Q3 λg1 z1 i=>?_;refine C6 ?_;refine C6<|C6<|EO ?_;refine C6 (rF (h1.kept λc x l e=>i.extBut c x (by rcases l with rfl|rfl;exact w.i1z;exact w.l1z) e) w.l1i1 hx λg2 p1 m=>G8 ?_);have G:=m.extBut _ _ w.TOi1<|i.extBut _ _ w.TOz v;refine C6<|qN G rfl<|C6<|MG G λg3 t3 g=>?_
 refine C6<|wpAny_letGo<|G8 ?_;refine C6<|C6<|EO ?_;have q2:=V.kept λc x l e=>by
  have Q:c≠z:=by rcases l with rfl|rfl;exact w.i2z;exact w.l2z
  have n2:c≠m3:=by rcases l with rfl|rfl;exact w.i12.symm;exact w.l2i1
  have W:c≠e8:=by rcases l with rfl|rfl;exact w.TOi2.symm;exact w.l2TO
  exact g.extBut c x W<|m.extBut c x n2<|i.extBut c x Q e
 refine C6<|rF q2 w.l2i2 X λg4 Y h=>G8 ?_;have k:=h.extBut _ _ w.TOi2 t3;refine C6<|qN k rfl<|C6<|MG k λf q j=>?_
 replace q:oj f e8 Z y:=q;refine C6<|wpAny_letGo<|G8<|G8<|C6<|qN q rfl<|C6<|wpAny_newTuple ?_;have sz:f.objs.size=u.heap.objs.size:=by rw[j.1,h.1,g.1,m.1,i.1]
 have M:=j.extBut _ _ w.TOz.symm<|h.extBut _ _ w.i2z.symm<|g.extBut _ _ w.TOz.symm<|m.extBut _ _ w.i1z.symm z1;have k5:∀c x,c≠z->c≠e8->c≠m3->c≠i2->u.heap.get? c=U x->f.get? c=U x:=λc x d n s t e=>
  j.extBut _ _ n (h.extBut _ _ t<|g.extBut _ _ n<|m.extBut _ _ s<|i.extBut _ _ d e)
 refine C6 ?_;have T:IsZip (f.push {cls:=E8 "tuple",data:=W7 #[Z,y]}) z N e8 PySem.Value.ellipsis:=L0 _ M;refine C6<|wU T Q3 λg7 z7 P=>?_;refine wU z7 Q3 λK R S=>?_;have p:∀c x,c≠z->f.get? c=U x->K.get? c=U x:=λc x d e=>S.extBut _ _ d<|P.extBut _ _ d<|L0 _ e;have E:=gS<|L6 M;have H:=S.extBut _ _ E<|P.extBut _ _ E<|ae _ rfl;rw[sz]at R H;refine G8 ⟨_,rfl,G8 ?_⟩;rw[sz];exact hQ K R (p _ _ w.TOz q) ((p1.at λx e=>j.extBut _ _ w.TOi1.symm<|h.extBut _ _ w.i12<|g.extBut _ _ w.TOi1.symm e).at λx e=>p _ x w.i1z e) ((Y.at λx e=>j.extBut _ _ w.TOi2.symm e).at λx e=>p _ x w.i2z e) H λc x d n s t e=>p c x d<|k5 c x d n s t e
def Yv{i2 P S:Addr}{ys:Array A1}{b:A1}(E:L.handled=J)(w:ZipApart z N e8 m3 i2 P S)(hz:IsZip u.heap z N e8 F0)(s:oj u.heap N (A5 m3)<|A5 i2)(B:oj u.heap e8 Z b)(h1:yx I u.heap m3 P o i6)(V:yx j6 u.heap i2 S o ys)(n:i6[o]?=J\/ys[o]?=J)(hQ:∀h',(∀c a,c≠z->c≠e8->c≠m3->c≠i2->u.heap.get? c=U a->h'.get? c=U a)->v6 J {u with heap:=h'}):
  wpAny (model A D) L (pyNext<|A5 z) v6 a9 u:=by
 have k:u.TypeIs (A5 z) "zip":=⟨_,hz,rfl⟩;refine C6<|ER<|uC k Fg<|uk Fg k F.entry_zip_next ?_<|F.args_zip_next_1 _;have p:∀g e,(∀c a,c≠z->c≠e8->c≠m3->c≠i2->u.heap.get? c=U a->g.get? c=U a)->(∃a,g.get? e=U a/\a.cls=E8 "StopIteration") ->
   wpAny (model A D) L (do if <- isInstance (A5 e) (E8 "StopIteration")then pure J else throw<|A5 e) v6 a9 {u with heap:=g}:=λg e hk ⟨a,ho,f⟩=>
  C6 (wpAny_isInstance ⟨a,ho,f⟩ isSubtype_stop<|G8<|hQ _ hk)
 show wpAny _ _ (field (A5 z) 2 >>= _) _ _ _;refine C6<|Z3 hz rfl rfl ?_;refine C6<|Z3 hz rfl rfl<|C6<|qN s rfl ?_;refine C6 ?_;refine C6<|Z3 hz rfl rfl<|G8 ?_;refine C6<|wA<|C6<|Z3 hz rfl rfl<|C6<|wU hz Q3 λg1 H r=>?_;refine C6 ?_;refine C6<|C6<|EO ?_;have M:=h1.kept λc a f e=>r.extBut c a (by rcases f with rfl|rfl;exact w.i1z;exact w.l1z) e
 cases hx:i6[o]? with
 |none=>
  refine C6<|uN E M hx λQ e i v=>?_
  obtain⟨t,d,l⟩:=v;have O:=i _ _ w.i1z.symm H;have ne:e≠z:=λq=>by subst q;rw[O]at d;lia
  refine wU O Q3 λT _ j=>p T e (λc a m _ y _ q=>j.extBut _ _ m<|i _ _ y<|r.extBut _ _ m q) ⟨t,j.extBut _ _ ne d,l⟩
 |some x=>
  have hy:ys[o]?=J:=by
   rcases n with h|h
   rw[hx]at h;exact nS h;exact h
  refine C6<|rF M w.l1i1 hx λQ p1 i=>G8 ?_;have C:=i.extBut _ _ w.TOi1<|r.extBut _ _ w.TOz B;refine C6<|qN C rfl<|C6<|MG C λT t3 j=>?_
  refine C6<|wpAny_letGo<|G8 ?_;refine C6<|C6<|EO ?_;have q2:=V.kept λc a f e=>by
   have n1:c≠z:=by rcases f with rfl|rfl;exact w.i2z;exact w.l2z
   have n2:c≠m3:=by rcases f with rfl|rfl;exact w.i12.symm;exact w.l2i1
   have Y:c≠e8:=by rcases f with rfl|rfl;exact w.TOi2.symm;exact w.l2TO
   exact j.extBut c a Y<|i.extBut c a n2<|r.extBut c a n1 e
  refine C6<|uN E q2 hy λg4 e K v=>?_
  obtain⟨t,d,l⟩:=v;have G:=K _ _ w.i2z.symm<|j.extBut _ _ w.TOz.symm<|i.extBut _ _ w.i1z.symm H;have ne:e≠z:=λq=>by subst q;rw[G]at d;cases d;simp at l
  refine wU G Q3 λW _ R=>p W e (λc a m X y c4 q=>R.extBut _ _ m<|K _ _ c4<|j.extBut _ _ X<|i.extBut _ _ y<|r.extBut _ _ m q) ⟨t,R.extBut _ _ ne d,l⟩
def VQ(K:D4)(H:Hp)(a:Addr)(xs:List V):Prop:=X6 K H a xs\/cM K H a xs
def VQ.ne(I:Inv c d6 G g u)(h:VQ c.K g N b9)(f:rq c d6 g z):N≠z:=by
 have d:∀{H:HO},Rd g N H->N≠z:=λ{H} r=>by
  rcases r with r|⟨o,r⟩
  exact T9 r f.1;exact T9 r f.1
 have X:∀{o:Obj},c.K.lookup N=U o->N≠z:=λ{o} e s=>by
  have i:=I.ok.mod.yZ N o e;rcases f.2.2.2.1 with q|q
  exact I.ok.xJ N o i<|s▸q;exact absurd (Q8 (L6 i)<|D6 I.ok.uV<|by simp_all)<|cO _
 rcases h with (r|⟨o,_,_,e,_⟩)|(r|⟨o,_,_,e,_⟩)
 exact d r;exact X e;exact d r;exact X e
def Oy{ys:Array A1}(f:T.IsList N i6)(g:T.IsTuple N ys):False:=by
 obtain⟨o,e,c,_⟩:=f;obtain⟨i,b,d,_⟩:=g;lia
def Inv.Zg{ys:List V}(I:Inv c d6 G g u)(h:VQ c.K g N b9)(h':VQ c.K g N ys):b9=ys:=by
 rcases h with h|h<;>rcases h' with h'|h'
 exact I.Kj h h';obtain⟨_,_,p,_⟩:=I.list h;obtain⟨_,_,q,_⟩:=I.tuple h';exact(Oy p.isList q).elim;obtain⟨_,_,p,_⟩:=I.list h';obtain⟨_,_,q,_⟩:=I.tuple h;exact(Oy p.isList q).elim;exact I.He h h'
def Inv.AH{ch:List Addr}(I:Inv c d6 G M u)(k:∀b H,b∉ch->u.heap.get? b=U H->T.get? b=U H)(f:∀b∈ch,rq c d6 M b):Inv c d6 G M {u with heap:=T,toks:=o}:=by
 have d:∀b g,M b=U g->b∉ch:=λb g e z=>by rw[(f b z).1]at e;exact nE e
 refine I.step (λb j=>?_) (λb H _ _ a e _=>k b H a e) (λb H _ _ a e _=>⟨H.slots,k b H a e⟩) (λ_ _ _ _ n=>n)
  (λb H a e=>⟨H,k b H a e⟩) (λ_ _ e=>e) (λ_ _ _ e=>e) (λb A e=>⟨#[],by rw[e];rfl⟩) (λm i=>?_) (λb g e=>?_) I.bare
 obtain⟨_,x,_,p,l,h⟩:=f b j;exact⟨p,x,l,h⟩;obtain⟨H,y,w,t,r⟩:=i;exact⟨H,y,w,k _ H (λz=>(f _ z).2.1 rfl) t,r⟩
 . refine(I.H9 b g e).sH (λX v a q=>k X v ?_ q) (λ_ q=>q) λ_ _ q=>q
   rcases a with z|z
   rw[z];exact d b g e;exact d X _ z
def kK(kd:Bool)(K:D4)(H:Hp)(a:Addr)(xs:List V):Prop:=match kd with
 |true=>cM K H a xs
 |false=>X6 K H a xs
def kK.x(h:kK I e g N b9):VQ e g N b9:=by
 cases I;exact B3 h;exact B6 h
def Inv.NS(X:Inv c d6 G g u)(h:kK I c.K g z b9)(it:rC I u.heap N z o):∃b:List A1,Vals b9 b/\yx I u.heap N z o b.toArray:=by
 cases I;obtain⟨b,d,p,e⟩:=X.list h;exact⟨b,d,it,p.isList⟩;obtain⟨b,d,p,e⟩:=X.tuple h;exact⟨b,d,it,p⟩
def Itz(k1 k2:Bool)(K:D4)(a b:Addr):It:=
 ⟨λi H=>∃xs ys x y,kK k1 K H a xs/\kK k2 K H b ys/\xs[i]?=U x/\ys[i]?=U y,
  λi H v H'=>∃p,v=.ref p/\H p=J/\∃x y,H'=upd H p (.tup [x,y])/\∀xs ys,kK k1 K H a xs->kK k2 K H b ys->xs[i]?=U x/\ys[i]?=U y,
  λi H=>∃xs ys,kK k1 K H a xs/\kK k2 K H b ys/\(xs.length<=i\/ys.length<=i)⟩
structure a2U(k1 k2:Bool)(z TI TO i1 i2 a b:Addr)(i:Nat)(h:Heap):Prop where
 hz:IsZip h z TI TO F0
 OT:oj h TI (A5 i1)<|A5 i2
 hTO:∃x y,oj h TO x y
 h1:rC k1 h i1 a i
 h2:rC k2 h i2 b i
structure a8T(z TI TO i1 i2:Addr):Prop where
 TIz:TI≠z
 TOz:TO≠z
 i1z:i1≠z
 i2z:i2≠z
 TITO:TI≠TO
 TIi1:TI≠i1
 TIi2:TI≠i2
 TOi1:TO≠i1
 TOi2:TO≠i2
 i12:i1≠i2
def kK.inj{ys:List V}(X:Inv c d6 G g u)(h:kK I c.K g N b9)(h':kK I c.K g N ys):b9=ys:=X.Zg h.x h'.x
def YI{i2 a b:Addr}(w:a8T z N e8 m3 i2):
  Turn A D e (lY b5 o q) (Itz I j6 e a b) [z,N,e8,m3,i2] z (λi h=>a2U I j6 z N e8 m3 i2 a b i h) where
 mem:=Q3
 obj:=λi h d c f=>by
  have g:c=z\/c=N\/c=e8\/c=m3\/c=i2:=by simpa using f
  rcases g with rfl|rfl|rfl|rfl|rfl
  exact⟨_,d.hz,λv W=>by cases W⟩;exact⟨_,d.OT,λv W=>by cases W⟩;obtain⟨x,y,K⟩:=d.hTO;exact⟨_,K,λv W=>by cases W⟩;exact d.h1.obj;exact d.h2.obj
 keep:=λi h L d C=>by obtain⟨x,y,K⟩:=d.hTO;exact⟨C z Q3 _ d.hz,C N Q3 _ d.OT,⟨x,y,C e8 Q3 _ K⟩,d.h1.at λk W=>C m3 Q3 k W,d.h2.at λk W=>C i2 Q3 k W⟩
 item:=by
  intro X S V hK f i j s Q H E es l d R;subst S V hK;obtain⟨xs,ys,x,y,r,m,ex,ey⟩:=R;obtain⟨us,rx,ox⟩:=es.NS r d.h1;obtain⟨vs,Z,Y⟩:=es.NS m d.h2;obtain⟨u,hu,ru⟩:=rx.get ex;obtain⟨v,hv,rvv⟩:=Z.get ey;obtain⟨x0,y0,B⟩:=d.hTO;have P:=l z Q3;have t:=l e8 Q3;have G:=l m3 Q3;have M:=l i2 Q3;have ZA:ZipApart z N e8 m3 i2 a b:=⟨w.TIz,w.TOz,w.i1z,w.i2z,w.TITO,w.TIi1,w.TIi2,w.TOi1,w.TOi2,w.i12,r.x.ne es P,r.x.ne es t,r.x.ne es G,r.x.ne es M,m.x.ne es P,m.x.ne es t,m.x.ne es G,m.x.ne es M⟩;refine RN ZA d.hz d.OT B ox Y (by simpa using hu) (by simpa using hv) λL g1 g2 g3 g4 g5 O=>?_
  have hT:=es.H9.fresh Y1;have I1:Inv X j Q H {s with heap:=L}:=es.AH (ch:=[z,e8,m3,i2]) (λc k f K=>O c k (λW=>f<|by simp[W]) (λW=>f<|by simp[W]) (λW=>f<|by simp[W]) (λW=>f<|by simp[W]) K)
   (λc f=>l c (by
    have g:c=z\/c=e8\/c=m3\/c=i2:=by simpa using f
    rcases g with rfl|rfl|rfl|rfl<;>simp))
  have I2:Inv X j Q (upd H s.heap.objs.size<|.tup [x,y]) {s with heap:=L}:=I1.Iw hT (gS es.lt) (B6 es.sz)
   (λn c K W=>by obtain⟨vv,q2⟩:=es.cell n c K;exact absurd q2.lt (by rw[W];exact cO _))
   (λp hp W=>absurd (L6 (es.pin p hp).1) (by rw[W];exact cO _))
   ⟨by show 2<=G7;rw[eX];decide,[u,v],N8 ru<|N8 rvv P1,⟨_,g5,rfl,_,rfl⟩⟩
  refine⟨_,rfl,wpAny_letOwnedTupleGo_zip g1 λh2 z2 pos=>?_⟩
  have uz:∀c,c∈[z,N,e8,m3,i2]->(upd H s.heap.objs.size<|.tup [x,y]) c=J:=λc f=>by
   have hlt:c<s.heap.objs.size:=by
    have g:c=z\/c=N\/c=e8\/c=m3\/c=i2:=by simpa using f
    rcases g with rfl|rfl|rfl|rfl|rfl
    exact(L6 d.hz);exact L6 d.OT;exact L6 B;obtain⟨k,K,_⟩:=d.h1.obj;exact L6 K;obtain⟨k,K,_⟩:=d.h2.obj;exact L6 K
   rw[F9<|Z9 hlt];exact(l c f).1
  have I3:Inv X j Q (upd H s.heap.objs.size<|.tup [x,y]) {s with heap:=h2}:=Inv.turned (s:={s with heap:=L}) I2 (λc k f K=>pos.extBut c k f K) (uz z Q3) P.2.1 P.2.2.2.1 P.2.2.2.2.1 P.2.2.2.2.2;refine⟨.ref s.heap.objs.size,_,I3,rfl,⟨_,rfl,hT,x,y,rfl,λxs' ys' T hy'=>?_⟩,⟨z2,pos.extBut _ _ w.TIz<|O _ _ w.TIz w.TITO w.TIi1 w.TIi2 d.OT,⟨_,_,pos.extBut _ _ w.TOz g2⟩,?_,?_⟩,uz⟩;rw[T.inj es r,hy'.inj es m];exact⟨ex,ey⟩;exact g3.at λk W=>pos.extBut _ _ w.i1z W;exact g4.at λk W=>pos.extBut _ _ w.i2z W
 done:=by
  intro X S V hK f i j s Q H E es l d R;subst S V hK;obtain⟨xs,ys,r,m,F⟩:=R;obtain⟨us,rx,ox⟩:=es.NS r d.h1;obtain⟨vs,Z,Y⟩:=es.NS m d.h2;obtain⟨x0,y0,B⟩:=d.hTO;have P:=l z Q3;have t:=l e8 Q3;have G:=l m3 Q3;have M:=l i2 Q3;have ZA:ZipApart z N e8 m3 i2 a b:=⟨w.TIz,w.TOz,w.i1z,w.i2z,w.TITO,w.TIi1,w.TIi2,w.TOi1,w.TOi2,w.i12,r.x.ne es P,r.x.ne es t,r.x.ne es G,r.x.ne es M,m.x.ne es P,m.x.ne es t,m.x.ne es G,m.x.ne es M⟩;have:=rx.length;have:=Z.length;refine Yv (es.ok.hd f) ZA d.hz d.OT B ox Y ?_ λL O=>⟨rfl,?_⟩
  . rcases F with W|W
    exact B3 (by simp;simp_all);exact B6 (by simp;simp_all)
  . exact es.AH (ch:=[z,e8,m3,i2]) (λc k f K=>O c k (λW=>f<|by simp[W]) (λW=>f<|by simp[W]) (λW=>f<|by simp[W]) (λW=>f<|by simp[W]) K)
      (λc f=>l c (by
       have g:c=z\/c=e8\/c=m3\/c=i2:=by simpa using f
       rcases g with rfl|rfl|rfl|rfl<;>simp))
 self:=λ_ _ _ _ _ d h=>wpAny_pyIter_zip d.hz h
def ExcAt(e C dx:Addr)(h:Heap):Prop:=∃vs,h.get? e=U {cls:=A5 C,dict:=U dx,data:=O3 vs}
def X5(e C:Addr)(dx:Option Addr)(h:Heap):Prop:=∃t,h.get? e=U {cls:=A5 C,dict:=dx,data:=O3 #[A5 t,F0,F0,F0,cy U',F0]}
def X5.keep{h':Heap}(x:X5 N z j9 T)(k:∀o,T.get? N=U o->h'.get? N=U o):X5 N z j9 h':=let ⟨t,q⟩:=x;⟨t,k _ q⟩
noncomputable def dH(C:Addr)(fld:Str)(d:f9):f9:=iN [(B4 [p6 (C:Nat),f6 fld],d)]
def ExcAt.keep{h':Heap}(x:ExcAt N z e8 T)(k:∀o,T.get? N=U o->h'.get? N=U o):ExcAt N z e8 h':=let ⟨b,q⟩:=x;⟨b,k _ q⟩
structure kW(K:D4)(C:Addr):Prop where
 ga:bz K (A5 C) "__getattribute__" = U (U<|P5 "BaseException.__getattribute__")
 gt:bz K (A5 C) "__getattr__" = U J
 hd:Ai K C=Uf
 be:LU K C (E8 "BaseException")=U Uf
 cl:bz K (A5 C) "__class__" = U (U<|P5 "object.__class__")
 cg:Mo K (P5 "object.__class__") "__get__" = U (U<|P5 "getset_descriptor.__get__")
 ct:PySem.W.takesIn K (P5 "object.__class__")=U Uf
 ob:LU K C (E8 "object")=U Uf
 n1:cY K (A5 C) (E8 "tuple")=U U'
 n2:cY K (A5 C) (E8 "list")=U U'
 n3:cY K (A5 C) (E8 "bool")=U U'
 n4:cY K (A5 C) (E8 "int")=U U'
 n5:cY K (A5 C) (E8 "str")=U U'
section
def a1c(T:kW e z)(X:e.In u.heap)(I:qO u.heap N m4 z q9)(b:wL e z q9 t=U (MY Z))(h:v5 (jK<|lT Z) u):
  lG (model A D) L (qP (P5 "BaseException.__getattribute__") ⟨[A5 N,eZ t r9],[]⟩) v5 u:=by
 obtain⟨c,g,d,s,w⟩:=u;refine FR F.excAttr_ValueError.ga.plain F.entry_bexc_ga ?_;refine C6 ?_;refine C6<|(I.type (M:=model A D)).at<|(MA (M:=model A D) X T.be).at ?_;repeat (first|wp_step)
 refine jU I.at_ ?_;rw[I.cls];refine G8<|C6<|(WU (M:=model A D) X I b).at ?_;exact G8 h
def Vu(T:kW e z)(X:e.In u.heap)(I:qO u.heap N m4 z q9)(b:wL e z q9 "__class__" = U (MX (P5 "getset_descriptor.__get__")<|P5 "object.__class__"))(h:v5 (jK<|lT<|A5 z) u):
  lG (model A D) L (qP (P5 "BaseException.__getattribute__") ⟨[A5 N,eZ "__class__" r9],[]⟩) v5 u:=by
 obtain⟨c,g,d,t,w⟩:=u;refine FR F.excAttr_ValueError.ga.plain F.entry_bexc_ga ?_;refine C6 ?_;refine C6<|(I.type (M:=model A D)).at<|(MA (M:=model A D) X T.be).at ?_;repeat (first|wp_step)
 refine jU I.at_ ?_;rw[I.cls];refine G8<|C6<|(WU (M:=model A D) X I b).at ?_;repeat (any_goals (first|assumption|wp_step))
 refine PySem.W.class_get X I T.ob ?_;repeat (any_goals (first|assumption|wp_step))
def a8u(T:kW e z)(X:e.In u.heap)(E:qO u.heap N m4 z q9)(f:wL e z q9 t=U (MY Z))(c:FE Z=Uf)(h:i5 Z u):
  wpAny (model A D) L (getAttrBy (A5 N) (eZ t r9) I j6) i5 a9 u:=by
 obtain⟨j,g,d,w,i⟩:=u;have:=F.excAttr_ValueError.ga.bind<|A5 N;have:(j6&&onTheHeap (Value.builtin "BaseException.__getattribute__"))=U':=by cases j6<;>rfl
 refine ue<|C6<|(E.type (M:=model A D)).at<|C6<|(xa (M:=model A D) X T.ga).at ?_;repeat (any_goals (first|assumption|(with_reducible refine(xa (M:=model A D) X T.gt).at ?_)|wp_step))
 refine a1c T X E f ?_;dsimp only;rw[PySem.W.handedOut_of c];exact G8 h
def a1d(T:kW e z)(X:e.In u.heap)(w:qO u.heap N m4 z q9)(c:wL e z q9 t=U (MY Z))(b:FE Z=Uf)(h:i5 Z {u with toks:=u.toks+1}):
  wpAny (model A D) L (getAttr (A5 N) t I) i5 a9 u:=by exact C6<|LO<|a8u T X w c b h
def a5p(T:kW e z)(X:e.In u.heap)(E:qO u.heap N m4 z q9)(w:wL e z q9 "__class__" = U (MX (P5 "getset_descriptor.__get__")<|P5 "object.__class__"))(h:i5 (A5 z) u):
  wpAny (model A D) L (getAttrBy (A5 N) (eZ "__class__" r9) I j6) i5 a9 u:=by
 obtain⟨i,g,d,t,f⟩:=u;have:=F.excAttr_ValueError.ga.bind<|A5 N;have:(j6&&onTheHeap (Value.builtin "BaseException.__getattribute__"))=U':=by cases j6<;>rfl
 refine ue<|C6<|(E.type (M:=model A D)).at<|C6<|(xa (M:=model A D) X T.ga).at ?_;repeat (any_goals (first|assumption|(with_reducible refine(xa (M:=model A D) X T.gt).at ?_)|wp_step))
 refine Vu T X E w ?_;exact G8 h
def Vt{o:Obj}(T:kW e z)(X:e.In u.heap)(I:qO u.heap N m4 z<|U o)(h:v6 (U<|A5 z) {u with toks:=u.toks+1}):wpAny (model A D) L (getAttr? (A5 N) "__class__") v6 a9 u:=by
 have a:wL e z (U o) "__class__" = U (MX (P5 "getset_descriptor.__get__")<|P5 "object.__class__"):=PySem.W.findObj_data (by obtain⟨c,b,_⟩:=FC T.hd;rw[b];rfl) T.cl T.cg T.ct;refine C6<|LO<|C6<|ER<|a5p T X I a ?_;exact G8 h
set_option tactic.hygienic true in
def a0J(T:kW e z):PySem.W.KitX e (A5 N) (A5 z) (λh=>ExcAt N z e8 h/\∃o,h.get? e8=U o) where
 ty:=λ_ _ _ I=>by obtain⟨⟨r,d⟩,_⟩:=I;exact(PySem.W.Looks.ld d).andThen WB
 it:=λ_ _ X _=>by
  obtain⟨i,a,_⟩:=FC T.hd;unfold EN at a;split at a;rename_i p l c b f;exact λy A x t k q=>C6<|EU (k _ _<|X _ _ f)<|G8 q;exact nE a
 ne:=λh v u s n w X g=>by
  obtain⟨i,a,_⟩:=FC T.hd;refine Bool.eq_false_iff.mpr λq=>?_;have K:=Value.ref.inj<|beq_iff_eq.mp q;subst K;unfold EN at a;split at a;rename_i p l c b f;cases((X _ _ f).symm.trans g);exact nE a
 ca:=λX I k=>by obtain⟨⟨r,d⟩,o,m⟩:=I;exact Vt T X ⟨d,rfl,rfl,m⟩ k
end
noncomputable def vW(kd:Bool)(l:Addr):Obj:=match kd with
 |true=>{cls:=E8 "tuple_iterator",data:=O3 #[A5 l,U8 0 0]}
 |false=>{cls:=E8 "list_iterator",data:=O3 #[A5 l,U8 0 0]}
def pV(kd:Bool)(h:Heap)(l:Addr)(xs:Array A1):Prop:=match kd with
 |true=>h.IsTuple l xs
 |false=>h.IsList l xs
theorem pV.push(x:pV I T N i6)(o:Obj):pV I (T.push o) N i6:=by
 cases I;exact Heap.IsList.push (show T.IsList N i6 from x) o;exact Heap.IsTuple.push (show T.IsTuple N i6 from x) o
def rC.new(e:T.get? N=U (vW I z)):rC I T N z 0:=by
 cases I;exact⟨_,e,rfl,rfl⟩;exact⟨_,e,rfl,rfl⟩
def Bb(x:pV I u.heap N i6)(b:i5 (A5<|hz u) {u with heap:=u.heap.push (vW I N)}):wpAny (model A D) L (pyIter<|A5 N) i5 a9 u:=by
 cases I;exact Mn (show u.heap.IsList N i6 from x) b;exact wpAny_pyIter_tuple (show u.heap.IsTuple N i6 from x) b
abbrev zh1(k1:Bool)(h:Heap)(a:Addr):Heap:=h.push<|vW k1 a
abbrev zh2(k1 k2:Bool)(h:Heap)(a b:Addr):Heap:=(zh1 k1 h a).push<|vW k2 b
abbrev zh3(k1 k2:Bool)(h:Heap)(a b:Addr):Heap:=(zh2 k1 k2 h a b).push {cls:=E8 "tuple",data:=W7 #[A5 h.objs.size,A5 (zh1 k1 h a).objs.size]}
abbrev zh4(k1 k2:Bool)(h:Heap)(a b:Addr):Heap:=(zh3 k1 k2 h a b).push {cls:=E8 "tuple",data:=W7 #[F0,F0]}
abbrev NH(k1 k2:Bool)(h:Heap)(a b:Addr):Heap:=(zh4 k1 k2 h a b).push {cls:=E8 "zip",data:=O3 #[F0,cy U',cy U',A5 (zh2 k1 k2 h a b).objs.size,A5 (zh3 k1 k2 h a b).objs.size]}
def QS(c k2:Bool)(a b:Addr)(xs ys:Array A1):
  Meets (Builtin.«zip.__new__» ⟨[E8 "zip",A5 a,A5 b],[]⟩) (λ_ R s=>pV c s.heap a xs/\pV k2 s.heap b ys /\
   R (jK<|lT<|A5 (zh4 c k2 s.heap a b).objs.size) {s with heap:=NH c k2 s.heap a b}):=
 WA λe w A R s h=>by
  obtain⟨m,g,d,k,j⟩:=s;obtain⟨f,i,h⟩:=h;have:=sub_zip;have l:pV k2 (Shared.heap ⟨m.push<|vW c a,g,d,k,j⟩) b ys:=pV.push i _
  wp_walk using Bb f,Bb l
  exact⟨_,rfl,h⟩
def VD{ys:Array A1} (p:pV I u.heap N i6) (q:pV j6 u.heap z ys) (h:∀h',a2U I j6 ((hz u) + 4) ((hz u) + 2) ((hz u) + 3) (hz u) ((hz u) + 1) N z 0 h' ->
   (∀c o,u.heap.get? c=U o->h'.get? c=U o)->i5 (A5<|(hz u)+4) {u with heap:=h'}) :
  wpAny (model A D) L (call (E8 "zip") [A5 N,A5 z]) i5 a9 u:=by
 refine callType_new F.called_zip f7 (F.typeCall_zip_2 _ _) (F.newCall_zip_2 _ _) (λobj=>F.args_object_init_3 obj _ _) F.entry_zip_new (QS I j6 N z i6 ys) ⟨p,q,?_⟩
 have g:(zh1 I u.heap N).objs.size=(hz u)+1:=jR ..;have f:(zh2 I j6 u.heap N z).objs.size=(hz u)+2:=by rw[jR,g]
 have i:(zh3 I j6 u.heap N z).objs.size=(hz u)+3:=by rw[jR,f]
 have j:(zh4 I j6 u.heap N z).objs.size=(hz u)+4:=by rw[jR,i]
 have e:(NH I j6 u.heap N z).get? (zh4 I j6 u.heap N z).objs.size=U _:=ae _ rfl;have l:(NH I j6 u.heap N z).get? (zh3 I j6 u.heap N z).objs.size=U _:=L0 _<|ae _ rfl;have k:(NH I j6 u.heap N z).get? (zh2 I j6 u.heap N z).objs.size=U _:=L0 _<|L0 _<|ae _ rfl;have n:(vW j6 z).isFreed=U':=by cases j6<;>rfl
 have t:(vW I N).isFreed=U':=by cases I<;>rfl
 have m:(NH I j6 u.heap N z).get? (zh1 I u.heap N).objs.size=U _:=L0 _<|L0 _<|L0 _<|ae _ n;have r:(NH I j6 u.heap N z).get? (hz u)=U _:=L0 _<|L0 _<|L0 _<|L0 _<|ae _ t;rw[f,i,j]at e;rw[g,f]at k;rw[i]at l;rw[g]at m;rw[j];exact⟨⟨_,e,rfl⟩,h _ ⟨e,k,⟨_,_,l⟩,.new r,.new m⟩ λc o x=>
  L0 _ (L0 _<|L0 _<|L0 _<|L0 _ x)⟩
def Yx(n:Nat):a8T (n+4) (n+2) (n+3) n<|n+1:=by constructor<;>(show @Ne Nat _ _)<;>simp[*]
def Inv.bZ(X:Inv c d6 G g u)(h:kK I c.K g N b9):∃b:List A1,pV I u.heap N b.toArray:=by
 cases I;obtain⟨b,_,p,_⟩:=X.list h;exact⟨b,p.isList⟩;obtain⟨b,_,p,_⟩:=X.tuple h;exact⟨b,p⟩
section
variable{H:Hp}
end
theorem IX:∀{bs:List Bool}{us:List A1},Vals (bs.map V.bl) us->us=bs.map zN
 | [],_,P1=>rfl
 |b::r,_,N8 h t=>by rw[IX t];cases h;rfl
theorem vN:∀(bs:List Bool) (d:Bool),(Z4 bs.length).all (λi=>bs.getD i d)=bs.all id
 | [],_=>rfl
 |b::r,d=>by rw[L3,List.range_succ_eq_map,fZ,List.all_map,fZ];have:=vN r d;simp only[List.getD_cons_zero,wQ,List.getD_cons_succ,id];rw[this]
def a1A:cA c (P5 "all") (λxs H Q=>∃(p:Addr) (bs:List Bool),xs=[.ref p]/\X6 c.K H p (bs.map V.bl)/\c.A.handled=J/\Q (.bl<|bs.all id) H):=by
 intro X s w H xs M Q I r h;obtain⟨p,bs,rfl,hq,C,q⟩:=h;obtain⟨u,rfl,t⟩:=vals1 r;cases t;obtain⟨a,D,j,L⟩:=I.list hq;have k:=IX D;refine call_all_walk<|Mn j.isList ?_;have lt:p<s.heap.objs.size:=by obtain⟨o,e,_⟩:=j.isList;exact L6 e
 refine⟨s.heap.objs.size,_,_,_,_,_,λi=>bs.getD i U',rfl,Walks.list (A:=c.A.in1) C s.heap.objs.size p (Z9 lt) a.toArray,⟨⟨_,ae _ rfl,rfl,rfl⟩,j.isList.push _⟩,?_,λF G B=>?_⟩
 . intro i v s' l E x d;have e:(bs.map zN)[i]?=U v:=by rw[<-k];simpa using x
   rw[aK]at e;cases eb:bs[i]? with
   |none=>rw[eb]at e;exact nE e
   |some b=>
    rw[eb]at e;cases e;have:bs.getD i U'=b:=by rw[mi,eb];rfl
    have g:l b s':=by rw[<-this];exact d
    exact um g
 . have m:a.toArray.size=bs.length:=by rw[k];simp
   rw[m,vN];refine⟨.bl<|bs.all id,H,?_,rfl,q⟩;have y:Inv c X w H {s with heap:=s.heap.push {cls:=E8 "list_iterator",data:=O3 #[A5 p,U8 0 0]}}:=I.kept λb o e=>L0 _ e;have f:=I.zi Y1<|I.H9.fresh<|N7 s.heap.objs.size;exact Inv.turned y (λb o z e=>B b o (by simpa using z) e) f.1 f.2.1 f.2.2.2.1 f.2.2.2.2.1 f.2.2.2.2.2
structure Bt(m:Nat)(i:Int):Prop where
 lt:i.natAbs<2^m
def Bt.mono{m:Nat}(h:Bt m d8)(a:m<=o):Bt o d8:=⟨Q8 h.lt<|uw f7 a⟩
def Bt.of_le{j:Int}(h:Bt o j)(a:d8.natAbs<=j.natAbs):Bt o d8:=⟨bO a h.lt⟩
def Bt.neg(h:Bt o d8):Bt o<|-d8:=h.of_le V8
def Bt.mul{j:Int}(h:Bt o d8)(h':Bt l8 j):Bt (o+l8)<|d8*j:=⟨by
 rw[jQ,Nat.pow_add];exact Nat.mul_lt_mul'' h.lt h'.lt⟩
theorem Bt.fdiv{j:Int}(h:Bt o d8):Bt o<|d8.fdiv j:=h.of_le<|PySem.natAbs_fdiv_le d8 j
def Bt.small(b : -(2^62)<d8)(a:d8<2^62):Bt 62 d8:=⟨by omega⟩
def Bt.b0s{j:Int}(h:Bt o d8)(h':Bt l8 j)(a:o+l8<=134217728):IntMulOk d8 j:=IntMulOk.of_le (intBits_le_iff.mpr h.lt) (intBits_le_iff.mpr h'.lt) a
section
variable{X:Cx}
def a4A:X4 X (eU PySem.Operator.Mult)<|rI (λi j=>Bt 60000 i/\Bt 60000 j) λi j=>.int<|i*j:=opI λi j _ _ _ _ _ a q=>mul_int q<|a.1.b0s a.2 f7
def a0n:X4 X (eU PySem.Operator.FloorDiv)<|rI (λ_ j=>j≠0/\Bt 8000 j) λi j=>.int<|i.fdiv j:=opI λi j _ _ _ _ _ a q=>floordiv_int a.1 q (B3<|PyProof.noPylong_of_log2 (by
 have b:j.natAbs≠0:=by have:=a.1;simp[*]
 have:=(Nat.log2_lt b).mpr a.2.lt;exact nAl))
noncomputable def ej(nm:Str):f9:=iN [(f6 nm,F3)]
noncomputable def RC:Str:=⟨#[0]⟩
noncomputable def b0y:f9->Bool
 |B4 (p6 _::_)=>U'
 |_=>Uf
def a2y:f9->Bool
 |iN ((k,_)::_)=>b0y k
 |_=>U'
noncomputable def a0O(nm:Str)(ns:List Str)(l:List f9):f9:=iN [(B4 [f6 nm,B8<|ns.map f6],B4 l)]
noncomputable def Rv(ks:List Str)(l:List f9):f9:=iN [(B8<|ks.map f6,B4 l)]
def a7W:Key->f9
 |S0 i=>p6 i
 |O6 x=>f6 x
def a7X(k:List Key):f9:=iN [(B8<|k.map a7W,F3)]
def a8y(ks:List<|List Key)(l:List f9):f9:=iN [(B8<|ks.map λk=>B4<|k.map a7W,B8 l)]
mutual
inductive Dt(K:D4)(H:Hp):V->f9->Prop
 |non:Dt K H .non F3
 |bl (b):Dt K H (.bl b)<|E5 b
 |int (i):Dt K H (.int i)<|p6 i
 |str (x):Dt K H (.str x)<|f6 x
 |tup {a xs ds}:cM K H a xs->N2 K H xs ds->Dt K H (.ref a) (B4 ds)
 |lst {a xs ds}:X6 K H a xs->N2 K H xs ds->Dt K H (.ref a) (B8 ds)
 |exc {ea C dx fld v d}:kW K C->bz K (A5 C) fld=U J->H ea=U (.ext<|ExcAt ea C dx)->H dx=U (.xd [(fld,v)])->Dt K H v d->Dt K H (.ref ea) (dH C fld d)
 |fn {f nm}:(Z8 K U0 nm=U (U<|A5 f)\/nm=RC)->Dt K H (.ref f) (ej nm)
 |ins {a C dx fv nm ns vs l}:Z8 K U0 nm=U (U<|A5 C)->H a=U (.ins C dx fv)->fv=ns.zip vs->N2 K H vs l->Dt K H (.ref a) (a0O nm ns l)
 |key {a k}:H a=U (.tup<|k.map kV)->Dt K H (.ref a) (a7X k)
 |dtt {a kvs ks vs l}:H a=U (.dT kvs)->ks.length=vs.length->kvs=ks.zip vs->N2 K H vs l->Dt K H (.ref a) (a8y ks l)
 |dct {a kvs ks vs l}:H a=U (.dK kvs)->kvs=(ks.map O6).zip vs->N2 K H vs l->Dt K H (.ref a) (Rv ks l)
inductive N2(K:D4)(H:Hp):List V->List f9->Prop
 |nil:N2 K H [] []
 |cons {x xs d ds}:Dt K H x d->N2 K H xs ds->N2 K H (x::xs) (d::ds)
end
def C8.mI(K:C8 g M)(h:cM e g N b9):cM e M N b9:=by
 rcases h with (h|⟨o,h⟩)|h
 exact B3<|B3<|K _ _ h;exact B3<|B6 ⟨o,K _ _ h⟩;exact B6 h
def C8.new(h:g N=J):C8 g<|upd g N n9:=λb u e=>by rw[F9<|T9 e h];exact e
mutual
theorem Dt.same{K:D4}{H H':Hp}(e:C8 H H'){x:V}{d:f9}(h:Dt K H x d):Dt K H' x d:=by
 cases h with
 |non=>exact .non
 |bl b=>exact .bl b
 |int i=>exact .int i
 |str x=>exact .str x
 |tup h t=>exact .tup (e.mI h)<|N2.same e t
 |lst h t=>exact .lst (e.seq h)<|N2.same e t
 |exc c n a f t=>exact .exc c n (e _ _ a) (e _ _ f)<|Dt.same e t
 |fn h=>exact .fn h
 |ins a f g t=>exact .ins a (e _ _ f) g<|N2.same e t
 |dct a f t=>exact .dct (e _ _ a) f<|N2.same e t
 |key h=>exact .key<|e _ _ h
 |dtt a f g t=>exact .dtt (e _ _ a) f g<|N2.same e t
theorem N2.same{K:D4}{H H':Hp}(e:C8 H H'){xs:List V}{ds:List f9}(h:N2 K H xs ds):N2 K H' xs ds:=by
 cases h with
 |nil=>exact .nil
 |cons h t=>exact .cons (Dt.same e h)<|N2.same e t
end
theorem N2.length{K:D4}{H:Hp}{xs:List V}{ds:List f9}(h:N2 K H xs ds):xs.length=ds.length:=by
 induction ds generalizing xs with
 |nil=>cases h;rfl
 |cons _ _ i=>cases h with
  |cons _ t=>exact J3 (· + 1)<|i t
def N2.get{i:Nat}(h:N2 e g b9 c8)(K:c8[i]?=U i7):∃x,b9[i]?=U x/\Dt e g x i7:=by
 induction c8 generalizing b9 i with
 |nil=>exact nE K
 |cons _ _ j=>cases h with
  |cons a t=>cases i with
   |zero=>cases K;exact⟨_,rfl,a⟩
   |succ i=>exact(j (i:=i) t K :)
mutual
theorem Inv.reads{pins:List (Addr×Obj)}{m:St}{H:Hp}{s:C5}(I:Inv X pins m H s){x:V}{u:A1}{d:f9}(h:Dt X.K H x d)(r:RelV x u)(a:d.canLay0=Uf):∃as,Reads s.heap u d as:=by
 cases h with
 |non=>cases r;exact⟨_,PySem.Reads.none⟩
 |bl b=>cases r;exact⟨_,PySem.Reads.bool b⟩
 |int i=>obtain⟨t,rfl⟩:=r;exact⟨_,PySem.Reads.int i t⟩
 |str y=>obtain⟨t,rfl⟩:=r;exact⟨_,PySem.Reads.str y t⟩
 |tup h t=>
  cases r;obtain⟨g,k,⟨o,e,c,n,f⟩,_⟩:=I.tuple h;obtain⟨as,j⟩:=Inv.readsAll I t k (by assumption);exact⟨_,PySem.Reads.tuple e c f<|by omega⟩
 |lst h t=>
  cases r;obtain⟨g,k,l,_⟩:=I.list h;obtain⟨o,e,c,n,f⟩:=l.isList;obtain⟨as,j⟩:=Inv.readsAll I t k (by assumption);exact⟨_,PySem.Reads.list e c f<|by omega⟩
 |exc _ _ _ _ _=>rw[dH,dW]at a;exact nT a
 |fn _=>rw[ej,dW]at a;exact nT a
 |ins _ _ _ _=>rw[a0O,dW]at a;exact nT a
 |dct _ _ _=>rw[Rv,dW]at a;exact nT a
 |key _=>rw[a7X,dW]at a;exact nT a
 |dtt _ _ _ _=>rw[a8y,dW]at a;exact nT a
theorem Inv.readsAll{pins:List (Addr×Obj)}{d:St}{H:Hp}{s:C5}(I:Inv X pins d H s){xs:List V}{us:List A1}{ds:List f9}(h:N2 X.K H xs ds)(r:Vals xs us)(a:cP ds=Uf):∃as,ReadsAll s.heap us ds as:=by
 cases h with
 |nil=>cases r;exact⟨_,PySem.ReadsAll.nil⟩
 |cons h t=>
  cases r with
  |cons r e=>
   rw[cP,fu]at a;obtain⟨as,b⟩:=Inv.reads I h r a.1;obtain⟨bs,c⟩:=Inv.readsAll I t e a.2;exact⟨_,PySem.ReadsAll.cons b c⟩
end
def a7y(g:X.A.units+64<aQ):X4 X (V9 Mc) (λx y H Q=>∃d e,Dt X.K H x d/\Dt X.K H y e/\cE d=Uf/\cE e=Uf/\Q (.bl<|cW d e) H):=by intro b s o H x y v u Q I j i h;obtain⟨d,e,l,m,c,a,q⟩:=h;obtain⟨n,f⟩:=I.reads l j<|FW c;obtain⟨bs,k⟩:=I.reads m i<|FW a;exact eq_dataH f k c a g ⟨.bl _,H,I,rfl,q⟩
def a7u(g:X.A.units+64<aQ):X4 X (V9 Mr) (λx y H Q=>∃d e,Dt X.K H x d/\Dt X.K H y e/\cE d=Uf/\cE e=Uf/\Q (.bl<|!PyData.eqv d e) H):=by intro b s o H x y v u Q I j i h;obtain⟨d,e,l,m,c,a,q⟩:=h;obtain⟨n,f⟩:=I.reads l j<|FW c;obtain⟨bs,k⟩:=I.reads m i<|FW a;exact ne_dataH f k c a g ⟨.bl _,H,I,rfl,q⟩
end
noncomputable def PM:f9->String
 |F3=>"NoneType"
 |E5 _=>"bool"
 |p6 _=>"int"
 |f6 _=>"str"
 |B4 _=>"tuple"
 |B8 _=>"list"
 |_=>"dict"
def isI(d:f9)(n:String):Bool:=PM d==n||(PM d=="bool"&&n=="int")
def Il{f:A1}{lo i:Option Int}(a:IsTup u.heap N i6)(hs:u.heap.IsSliceOf z Z f F0)(pl:fU Z lo)(k:fU f i)(j:HT.U4 i6.size 0 lo=0/\HT.U4 i6.size i6.size i=i6.size)(h:i5 (A5 N) u):wpAny (model A D) L (qL (A5 N)<|A5 z) i5 a9 u:=by
 obtain⟨l,d,c,m⟩:=id hs;have b:u.TypeIs (A5 z) "slice":=⟨l,d,c⟩;delta qL;try with_reducible refine ue ?_
 first|refine C6 (G8 ?_)|skip
 refine C6<|wpAny_sequenceKey a.typeIs f7 ?_;refine C6<|uC a.typeIs Ge<|uk Ge a.typeIs entry_tuple_getitem ?_<|args_tuple_getitem _ _;show wpAny _ _ (Yl (A5 N) >>= _) _ _ u;refine C6<|tupleItemsOf_ a<|C6<|EJ b ?_;refine C6<|HT.sI hs pl k ?_;rw[j.1,j.2];show wpAny _ _ (if ((0)==0&&1==1&&(i6.size-0)==i6.size)=Uf then _ else _) _ _ u
 rw[A6 C9];refine C6<|C6<|EJ a.typeIs<|G8 ?_;first
  |exact C6<|wA<|C6<|G8 ⟨_,rfl,G8 h⟩
  |exact C6<|wA<|G8 ⟨_,rfl,G8 h⟩
  |exact C6<|wA<|C6<|G8<|G8 ⟨_,rfl,G8 h⟩
def a5z{ws:List A1}(x:IsTup u.heap N m5.toArray)(w:IsTup u.heap z ws.toArray)(m:m5=[])(h:i5 (A5 z) u):wpAny (model A D) L (eU qY (A5 N)<|A5 z) i5 a9 u:=by
 obtain⟨⟨v,q,k,r⟩,i,l,n,o⟩:=id x;obtain⟨⟨j,e,g,c⟩,a,f,p,d⟩:=id w;subst l o f d;exact EK ⟨_,i,rfl⟩ ⟨_,a,rfl⟩ Ml LW MP MQ (MT _ _)
  (tuple_addW0 N z m5.toArray ws.toArray n p q e r c<|by simp[m]) ⟨i,a,h⟩
section
variable{κ:Type}[DecidableEq κ]
noncomputable def mH(kvs:List<|κ×V)(k:κ):Option V:=(kvs.find? λkv=>decide (kv.1=k)).map (·.2)
noncomputable def putK(kvs:List<|κ×V)(k:κ)(v:V):List<|κ×V:=
 if (kvs.any λkv=>decide (kv.1=k))=Uf then kvs.map (λkv=>if kv.1=k then(kv.1,v)else kv)else kvs++[(k,v)]
def xp{p:κ×V}{r:List (κ×V)}{k:κ}(e:p.1=k):mH (p::r) k=U p.2:=by simp[mH,e]
def xq{p:κ×V}{r:List (κ×V)}{k:κ}(e:¬p.1=k):mH (p::r) k=mH r k:=by simp[mH,e]
theorem IY(k:κ):∀a:List<|κ×V,(a.any λkv=>decide (kv.1=k))=(mH a k).isSome
 | []=>rfl
 |p::r=>by
  rw[oA];by_cases e:p.1=k;simp only[xp e,L7 e,LN,WV];rw[xq e,J8 e,LS];exact IY k r
def BF(a:List<|κ×V)(k:κ)(v:V):(putK a k v).length<=a.length+1:=by
 delta putK;split;rw[F4];simp[*];simp
def jD.Ve(r:jD v7 s9):v7.isSome=s9.isSome:=by
 cases v7 with
 |none=>cases s9 with
  |none=>rfl
  |some _=>exact(show False from r).elim
 |some _=>cases s9 with
  |none=>exact(show False from r).elim
  |some _=>rfl
theorem jD.getD{o:Option V}{u:Option A1}{d:V}{d':A1}(r:jD o u)(a:RelV d d'):RelV (o.getD d)<|u.getD d':=by
 cases o with
 |none=>cases u with
  |none=>exact a
  |some _=>exact(show False from r).elim
 |some _=>cases u with
  |none=>exact(show False from r).elim
  |some _=>exact r
def KV.val{a:List (κ×V)}{vs:List (κ×A1)}(r:KV a vs)(k:κ):jD (mH a k)<|wq vs k:=by
 induction r with
 |nil=>exact jM
 | @cons p q j d h t i=>
  obtain⟨f,g⟩:=h;by_cases e:p.1=k
  . have c:=f.symm.trans e;have b:wq (q::d) k=U q.2:=by simp[wq,c]
    rw[xp e,b];exact g
  . have c:¬q.1=k:=λz=>e (f.trans z)
    have b:wq (q::d) k=wq d k:=by simp[wq,c]
    rw[xq e,b];exact i
theorem KV.any{a:List (κ×V)}{vs:List (κ×A1)}(r:KV a vs)(k:κ):(a.any λkv=>decide (kv.1=k))=vs.any λkv=>decide (kv.1=k):=by
 induction r with
 |nil=>rfl
 |cons h t b=>simp_all
def KV.Jv{a:List (κ×V)}{vs:List (κ×A1)}(r:KV a vs)(k:κ)(c:RelV b6 Z):
  KV (a.map λkv=>if kv.1=k then(kv.1,b6)else kv) (vs.map λkv=>if kv.1=k then(kv.1,Z)else kv):=by
 induction r with
 |nil=>exact P1
 | @cons p q i g h t f=>
  rw[K3,K3];refine N8 ?_ f;obtain⟨b,d⟩:=h;by_cases e:p.1=k;rw[A6 e,A6<|b.symm.trans e];exact⟨b,c⟩;rw[B2 e,B2<|λz=>e<|b.trans z];exact⟨b,d⟩
def KV.put{a:List (κ×V)}{vs:List (κ×A1)}(r:KV a vs)(k:κ)(b:RelV b6 Z):KV (putK a k b6)<|stored vs k Z:=by
 delta putK stored;rw[r.any k];by_cases e:(vs.any λkv=>decide (kv.1=k))=Uf;rw[A6 e,A6 e];exact r.Jv k b;rw[B2 e,B2 e];exact LI r ⟨rfl,b⟩
theorem KV.length{a:List (κ×V)}{vs:List (κ×A1)}(r:KV a vs):a.length=vs.length:=ES r
end
def IF{k:Key}(r:RelV (kV k) Z):(bj A D).is k Z=Uf:=by
 cases k with
 |inl i=>obtain⟨t,e⟩:=(show ∃t,Z=Ex i t from r);subst e;exact Nv A D i t
 |inr x=>obtain⟨t,e⟩:=(show ∃t,Z=zL x t from r);subst e;exact Nu A D x t
theorem HK{P:S6}{w:N6}:∀{ks:List Key}{us:List A1},Vals (ks.map kV) us->ItemsAre (bj P w) ks us
 | [],_,r=>by rw[fX]at r;cases r;exact PySem.ItemsAre.nil
 |k::ks,_,r=>by
  cases r with
  |cons h t=>exact PySem.ItemsAre.cons (IF h)<|HK t
abbrev KT(H:Hp):List (List Key×V)->List (List Key×Addr×A1)->Prop:=Paired λp q=>p.1=q.1/\H q.2.1=U (.tup<|p.1.map kV)/\RelV p.2 q.2.2
def KT.val(r:KT g o8 t9)(k:List Key):jD (mH o8 k)<|(atKey t9 k).map (·.2):=by
 induction r with
 |nil=>exact jM
 | @cons p q j d h t i=>
  obtain⟨f,_,H⟩:=h;by_cases e:p.1=k
  . have c:=f.symm.trans e;have b:atKey (q::d) k=U q.2:=by simp[atKey,c]
    rw[xp e,b];exact H
  . have c:¬q.1=k:=λz=>e (f.trans z)
    have b:atKey (q::d) k=atKey d k:=by simp[atKey,c]
    rw[xq e,b];exact i
def KT.Jv(r:KT g o8 t9)(k:List Key)(d:RelV b6 Z):
  KT g (o8.map λkv=>if kv.1=k then(kv.1,b6)else kv) (t9.map<|putAt k Z):=by
 induction r with
 |nil=>exact P1
 | @cons p q j i h t H=>
  rw[K3,K3];refine N8 ?_ H;obtain⟨b,c,f⟩:=h;delta putAt;by_cases e:p.1=k;rw[A6 e,A6<|b.symm.trans e];exact⟨b,c,d⟩;rw[B2 e,B2<|λz=>e<|b.trans z];exact⟨b,c,f⟩
def KT.put(r:KT g o8 t9)(k:List Key)(d:g N=U (.tup<|k.map kV))(c:RelV b6 Z):
  KT g (putK o8 k b6) (storedH t9 k N Z):=by
 have e:(o8.any λkv=>decide (kv.1=k))=(atKey t9 k).isSome:=by rw[IY,(r.val k).Ve,Option.isSome_map]
 delta putK storedH;rw[e];by_cases q:(atKey t9 k).isSome=Uf;rw[A6 q,A6 q];exact r.Jv k c;rw[B2 q,B2 q];exact LI r ⟨rfl,d,c⟩
def KT.keeps(r:KT g o8 t9)(c:∀b ys,g b=U (.tup ys)->M b=U (.tup ys)):KT M o8 t9:=
 Paired.a7K r λ_ _ z=>⟨z.1,c _ _ z.2.1,z.2.2⟩
section
variable{H:Hp}{h:Heap}
def a2j(ok:dQ A D H h)(e:Rd H N n9):Z2 A D H h N n9:=e.ok ok
def IM(ok:dQ A D H h)(e:Rd H N<|.dK o9):o9.length<=G7/\(N==lM)=U'/\∃vs,KV o9 vs/\h.DictOf (bj A D) N vs:=
 show Z2 A D H h N (.dK o9)from a2j ok e
def b0D(ok:dQ A D H h)(e:H N=U (.dK o9)):o9.length<=G7/\(N==lM)=U'/\∃vs,KV o9 vs/\h.DictOf (bj A D) N vs:=IM ok<|B3 e
def DE{ks:List Key}(ok:dQ A D H h)(e:H N=U (.tup<|ks.map kV)):(tQ<|bj A D).is h ks N:=by
 obtain⟨_,b,r,o,c,f,n,d⟩:=(show Z2 A D H h N (.tup<|ks.map kV)from ok N _ e);exact⟨o,b.toArray,n,c,f,d,by simpa using HK r⟩
def IL(ok:dQ A D H h)(e:Rd H N<|.dT o8):o8.length<=G7/\(N==lM)=U' /\
  ∃xs,KT H o8 xs/\h.DictOfH (tQ<|bj A D) N xs:=by
 obtain⟨z,y,xs,r,o,g,f,d,j,k,i,n⟩:=(show Z2 A D H h N (.dT o8)from a2j ok e);refine⟨z,y,xs,r,o,g,f,d,j,k,i,λx c=>?_,n⟩
 have all:∀{l:List (List Key×V)}{m:List (List Key×Addr×A1)},KT H l m->∀x∈m,(tQ<|bj A D).is h x.1 x.2.1:=by
  intro l m q;induction q with
  |nil=>intro x c;exact nomatch c
  | @cons p q v u hq t s=>
   intro x c;rcases List.mem_cons.mp c with e|c
   subst e;exact DE ok (by rw[<-hq.1];exact hq.2.1);exact s x c
 exact all r x c
def b0C(ok:dQ A D H h)(e:H N=U (.dT o8)):o8.length<=G7/\(N==lM)=U' /\
  ∃xs,KT H o8 xs/\h.DictOfH (tQ<|bj A D) N xs:=IL ok<|B3 e
end
def AF(H:Hp)(a:Addr)(y:V)(r:Option V):Prop:=
 (∃kvs k,Rd H a (.dK kvs)/\y=kV k/\r=mH kvs k)\/∃kvs k b,Rd H a (.dT kvs)/\y=.ref b/\H b=U (.tup<|k.map kV)/\r=mH kvs k
def Na(H:Hp)(a:Addr)(y v:V)(H':Hp):Prop:=
 (∃kvs k,H a=U (.dK kvs)/\y=kV k/\kvs.length<G7/\H'=upd H a (.dK<|putK kvs k v)) \/
 ∃kvs k b,H a=U (.dT kvs)/\y=.ref b/\H b=U (.tup<|k.map kV)/\kvs.length<G7/\H'=upd H a (.dT<|putK kvs k v)
theorem AF.k{b:List (Key×V)}{k:Key}(e:g N=U (.dK b)):AF g N (kV k)<|mH b k:=B3 ⟨b,k,B3 e,rfl,rfl⟩
theorem Na.k{b:List (Key×V)}{k:Key}{v:V}(e:g N=U (.dK b))(c:b.length<G7):Na g N (kV k) v<|upd g N<|.dK<|putK b k v:=B3 ⟨b,k,e,rfl,c,rfl⟩
section
variable{H:Hp}{r:A1}
def Inv.big(I:Inv c d6 G H u):lM<(hz u):=by exact LM f7<|(I.mod.glob.keeps I.bk).lt
def Pj(I:Inv c d6 G H u)(mu:VU<|H N)(hs:tY N u.heap T)(d:∃q,T.get? N=U q)(new:Z2 c.prog c.w (upd H N n9) T N n9):
  Inv c d6 G (upd H N n9) {u with heap:=T,toks:=o}:=
 I.write mu (B3 rfl) (λb q X z=>(hs.2 b X).trans z) d new
def a8C{vs:List (Key×A1)}(z:o9.length<=G7)(hd:(N==lM)=U')(c:KV o9 vs)(d:T.DictOf (bj A D) N vs):
  Z2 A D g T N (.dK o9):=⟨z,hd,vs,c,d⟩
def Vz{v:V}(σ:L.units+1<aQ)(I:Inv c d6 G H u)(y:Na H N b6 v g)(x:RelV b6 Z)(F:RelV v r)(h:∀s',Inv c d6 G g s'->p8 () s'):
  wpAny (model c.prog c.w) L (setItem (A5 N) Z r) p8 a9 u:=by
 rcases y with ⟨d,k,e,p,l,t⟩|⟨d,k,b,e,p,B,l,t⟩
 . subst p t;obtain⟨z,n,O,f,m⟩:=b0D I.H9 e;have:O.length<=G7:=by rw[<-f.length];exact z
   have j:(putK d k v).length<=G7:=by have:=BF d k v;exact D6 B1 B1
   refine wpAny_setItem_pairs (IF x) m λD i o=>h _ ?_
   have a:∃q,D.get? N=U q:=let ⟨q,_,_,hq,_⟩:=i;⟨q,hq⟩;exact Pj I (by rw[e];exact jM) o a<|a8C j n (f.put k F) i
 . subst p t;cases(show Z=X2 b from x)
   obtain⟨z,n,S,f,m⟩:=b0C I.H9 e;have:S.length<=G7:=by rw[<-ES f];exact z
   have j:(putK d k v).length<=G7:=by have:=BF d k v;exact D6 B1 B1
   refine wpAny_setItem_heap (Mv σ) (DE I.H9 B) m λD i o=>h _ ?_;obtain⟨q,P,s,hq,R,T,K,_,M⟩:=i;refine Pj I (by rw[e];exact jM) o ⟨q,hq⟩ ⟨j,n,_,(f.put k B F).keeps λX V C=>?_,q,P,s,hq,R,T,K,M⟩;rw[F9<|b0p C e<|λz=>nomatch z];exact C
end
section
variable{H:Hp}
end
def a2h(td ty tv:TE):TS:=λD σ H=>tv σ H λv H1=>td σ H1 λx H2=>ty σ H2 λy H3=>∃a H4,x=.ref a/\Na H3 a y v H4/\D.nx σ H4
def a4l{tv:TE}(n:c.A.units+1<aQ)(t:PE c p y)(e:PE c Y j1)(d:PE c j8 tv)(hs:ak j8 (U<|mf p Y b8) q.line c.env=pure U'):
  PS c (gB [mf p Y b8] j8 q) (a2h y j1 tv):=by
 intro b s X H D I h;refine wpAny_Assign_Subscript (M8 (d b s X H _ I h) λr i ⟨v,F,G,B,E⟩=>M8 (t b i X F _ G E) λu z ⟨x,k,j,w,q2⟩=>M8 (e b z X k _ j q2) λN O ⟨A,L,o,m,a,f,K,g,l⟩=>?_) hs;subst K;obtain rfl:=w;exact Vz n o g m B λM C=>⟨X,f,C,l⟩
def a1h(h:Heap)(a:lM<h.objs.size):Z2 A D g (h.push {cls:=E8 "dict",data:=dX #[]}) h.objs.size<|.dK []:=
 ⟨lP _,beq_eq_false_iff_ne.mpr<|P9<|Z9 a,[],P1,Heap.DictOf.new h⟩
def Sq:TE:=λ_ H Q=>∀p,H p=J->Q (.ref p) (upd H p<|.dK [])
def a0g:PE c (We [] [] q) Sq:=λa s b H Q I h=>
 wpAny_Dict_empty ⟨.ref<|hz s,_,I.laid (λ_ _ X=>L0 _ X) Y1<|a1h s.heap I.big,rfl,h _<|I.H9.fresh Y1⟩
structure M1(X:Cx)(o:Expr)(m:Str)(apos:Pos)(e:Expr)(cpos:Pos):Prop where
 base:uf o m X.env (eval o X.env)=eval o X.env
 few:((bP cpos<|O7 [e] X.env).all (λx=>!x.1)&&(zI cpos<|zP [] X.env).all (λx=>x.1.isSome)
  && decide (([e]:List Expr).length+([]:List wu).length+(if ([]:List wu).isEmpty then 0 else 1)<30))=Uf
 line:(apos.endLine==cpos.line)=Uf
 trees:bP cpos (O7 [e] X.env)=[(U',eval e X.env)]
structure M2(X:Cx)(o:Expr)(m:Str)(apos:Pos)(e f:Expr)(cpos:Pos):Prop where
 base:uf o m X.env (eval o X.env)=eval o X.env
 few:((bP cpos<|O7 [e,f] X.env).all (λx=>!x.1)&&(zI cpos<|zP [] X.env).all (λx=>x.1.isSome)
  && decide (([e,f]:List Expr).length+([]:List wu).length+(if ([]:List wu).isEmpty then 0 else 1)<30))=Uf
 line:(apos.endLine==cpos.line)=Uf
 trees:bP cpos (O7 [e,f] X.env)=[(U',eval e X.env),(U',eval f X.env)]
def IsD(H:Hp)(a:Addr):Prop:=(∃kvs,Rd H a<|.dK kvs)\/∃kvs,Rd H a<|.dT kvs
def Vf(I:Inv c d6 G g u)(d:IsD g N):
  u.TypeIs (A5 N) "dict"/\(∀b,X2 N=A5 b->∃ob,u.heap.get? b=U ob/\ob.dict=J)/\(N==lM)=U':=by
 rcases d with ⟨i,e⟩|⟨i,e⟩
 . obtain⟨_,j,k,_,X⟩:=IM I.H9 e;refine⟨X.typeIs,λb q=>?_,j⟩;cases q;obtain⟨ob,_,_,f,h,_⟩:=X;exact⟨ob,f,h.2.1⟩
 . obtain⟨_,j,l,_,X⟩:=IL I.H9 e;refine⟨X.typeIs,λb q=>?_,j⟩;cases q;obtain⟨ob,_,_,f,h,_⟩:=X;exact⟨ob,f,h.2.1⟩
section
variable{H:Hp}{r:A1}
def a8H(p:L.units+1<aQ)(I:Inv c d6 G H u)(g:AF H N b6 v7)(m:RelV b6 Z)(h:∀w' s',Inv c d6 G H s'->RelV (v7.getD .non) w'->i5 w' s'):
  wpAny (model c.prog c.w) L (call (P5 "dict.get") [A5 N,Z]) i5 a9 u:=by
 rcases g with ⟨i,k,e,j,l⟩|⟨i,k,b,e,j,n,l⟩
 subst j;obtain⟨z,f,r,X,d⟩:=IM I.H9 e;refine EI xf d.typeIs FU (XX _ _) (meets_dict_get (bj c.prog c.w) N (IF m) f) ⟨_,d.mapOf,h _ _ (I.tok _) ?_⟩;rw[l];exact(X.val k).getD rfl
 . subst j;cases(show Z=X2 b from m);obtain⟨z,f,q,X,d⟩:=IL I.H9 e;refine EI xf d.typeIs FU (XX _ _) (meetsH_dict_get (tQ<|bj c.prog c.w) N b f) ⟨Mv p,k,q,DE I.H9 n,d,h _ _ (I.tok _) ?_⟩;rw[l];exact(X.val k).getD rfl
def a8G{d:V}(t:L.units+1<aQ)(I:Inv c d6 G H u)(g:AF H N b6 v7)(p:RelV b6 Z)(n:RelV d r)(h:∀w' s',Inv c d6 G H s'->RelV (v7.getD d) w'->i5 w' s'):
  wpAny (model c.prog c.w) L (call (P5 "dict.get") [A5 N,Z,r]) i5 a9 u:=by
 rcases g with ⟨j,k,e,m,l⟩|⟨j,k,b,e,m,q,l⟩
 subst m;obtain⟨z,i,x,X,f⟩:=IM I.H9 e;refine EI xf f.typeIs FU (XW _ _ _) (meets_dict_get_default (bj c.prog c.w) N (IF p) i r) ⟨_,f.mapOf,h _ _ (I.tok _) ?_⟩;rw[l];exact(X.val k).getD n
 . subst m;cases(show Z=X2 b from p);obtain⟨z,i,v,X,f⟩:=IL I.H9 e;refine EI xf f.typeIs FU (XW _ _ _) (meetsH_dict_get_default (tQ<|bj c.prog c.w) N b i r) ⟨Mv t,k,v,DE I.H9 q,f,h _ _ (I.tok _) ?_⟩;rw[l];exact(X.val k).getD n
end
def Ss(td ty:TE):TE:=λσ H Q=>td σ H λx H1=>∃a,x=.ref a/\IsD H1 a/\ty σ H1 λy H2=>∃o,AF H2 a y o/\Q (o.getD .non) H2
def Sr(td ty tx:TE):TE:=λσ H Q=>td σ H λx H1=>∃a,x=.ref a/\IsD H1 a/\ty σ H1 λy H2=>tx σ H2 λz H3=>∃o,AF H3 a y o/\Q (o.getD z) H3
def a0i(o:c.A.units+1<aQ)(w:PE c p y)(v:PE c Y j1)(m:M1 c p "get" q Y b8):PE c (L8 (Q0 p "get" q) [Y] [] b8)<|Ss y j1:=by
 intro b s f H Q I h;refine wpAny_Call_method m.base m.few m.line XU xf XF<|M8 (w b s f H _ I h) λu r ⟨x,C,i,z,a,D,d,B⟩=>?_;subst D;obtain rfl:=z;obtain⟨j,t,_⟩:=Vf i d;refine⟨j,t,?_⟩;rw[m.trees];refine FY rfl<|MH<|FL<|M8 (v b r f C _ i B) λE K ⟨A,l,k,n,L,g,q2⟩=>Mp ?_;exact a8H o k g n λM G e X=>⟨_,l,e,X,q2⟩
def a0h{tx:TE}(r:c.A.units+1<aQ)(G:PE c p y)(E:PE c Y j1)(C:PE c j8 tx)(m:M2 c p "get" q Y j8 b8):PE c (L8 (Q0 p "get" q) [Y,j8] [] b8)<|Sr y j1 tx:=by
 intro b s X H Q I h;refine wpAny_Call_method m.base m.few m.line XU xf XF<|M8 (G b s X H _ I h) λu v ⟨x,O,j,K,a,P,d,N⟩=>?_
 subst P;obtain rfl:=K;obtain⟨k,D,_⟩:=Vf j d;refine⟨k,D,?_⟩;rw[m.trees];refine FY rfl<|MH<|FL (M8 (E b v X O _ j N) λS L ⟨A,n,l,o,q2⟩=>
  FL (M8 (C b L X n _ l q2) λV T ⟨z,w,t,B,W,g,f⟩=>Mp ?_))
 exact a8G r t g o B λe R M i=>⟨_,w,M,i,f⟩
section
variable{H:Hp}
end
section
variable{H:Hp}
end
inductive PF where
 |dat (d:f9)
 |own (l:List f9)
 |dct (es:List<|Str×f9)
variable{m6:List (Str×PF)}{q5:PF}
inductive OD where
 |dct (es:List<|Str×f9)
 |ins (nm:Str) (fs:List<|Str×PF)
 |seq (b:Bool) (fs:List<|Str×PF)
inductive PV where
 |dat (d:f9)
 |own (l:List f9)
 |ob (w:Option Addr) (c:OD)
variable{i8:PV}{m8:f9->f9->Option PV}{t7:List PV}
noncomputable abbrev sd(d:f9):Option PV:=U<|.dat d
def PF.d:PF->f9
 | .dat d=>d
 | .own l=>B8 l
 | .dct es=>Rv (es.map (·.1))<|es.map (·.2)
def OD.d:OD->f9
 | .dct es=>Rv (es.map (·.1))<|es.map (·.2)
 | .ins nm fs=>a0O nm (fs.map (·.1))<|fs.map λf=>f.2.d
 | .seq Uf fs=>B8<|fs.map λf=>f.2.d
 | .seq U' fs=>B4<|fs.map λf=>f.2.d
noncomputable def PV.d:PV->f9
 | .dat d=>d
 | .own l=>B8 l
 | .ob _ c=>c.d
@[simp] theorem PV.du(d:f9):(PV.dat d).d=d:=rfl
@[simp] theorem PV.Bi(l:List f9):(PV.own l).d=B8 l:=rfl
abbrev Ds:=List<|Option PV
variable{b7:Ds}{u9:Ds->Option PV}
abbrev DV:=Ds->Option PV
variable{S k8:DV}
abbrev DB:=Ds->Option Bool
variable{g8:DB}
abbrev DL:=Ds->Option (List f9)
variable{j4:DL}
abbrev DD:=Ds->Option Ds
variable{u6:f9->DD}
abbrev FV:=List f9->Option PV
variable{u3:FV}
abbrev As:=List<|Option Addr
variable{B:As}
noncomputable def K1(H:Hp)(as:As)(O:List Addr):Hp:=λb=>if b∈O\/U b∈as then J else H b
def V7:K1 g B P N=U n9↔(N∉P/\U N∉B/\g N=U n9):=by
 delta K1;split
 . rename_i h;constructor;intro z;exact nE z;rintro⟨a,c,_⟩;exact(h.elim a c).elim
 . rename_i h;constructor;intro z;exact⟨λq=>h<|B3 q,λq=>h<|B6 q,z⟩;rintro⟨_,_,z⟩;exact z
def eN{a:As}{c:List Addr}(e:∀b o,b∉P->U b∉B->g b=U o->b∉c/\U b∉a/\M b=U o):C8 (K1 g B P)<|K1 M a c:=λb o h=>by obtain⟨d,f,H⟩:=V7.mp h;exact V7.mpr<|e b o d f H
def Z1(e:C8 g M):C8 (K1 g B P)<|K1 M B P:=eN λb o a c d=>⟨a,c,e b o d⟩
def eF{a:As}(e:C8 g M)(h:∀b,U b∈a->U b∈B):C8 (K1 g B P)<|K1 M a P:=eN λb o c d f=>⟨c,λz=>d<|h b z,e b o f⟩
def L1:C8 (K1 g B P) g:=λb o h=>(V7.mp h).2.2
def tm{bs:As}:K1 g (bs++B) P=K1 g bs (P++B.filterMap id):=by
 funext b
 delta K1;have:(b∈P\/U b∈bs++B)↔(b∈P++B.filterMap id\/U b∈bs):=by
  simp only[wK,Mu];constructor
  . rintro(h|h|h);exact B3<|B3 h;exact B6 h;exact B3<|B6 ⟨_,h,rfl⟩
  . rintro((h|⟨x,h,e⟩)|h);exact B3 h;subst e;exact B6<|B6 h;exact B6<|B3 h
 by_cases c:b∈P\/U b∈bs++B;rw[A6 c,A6<|this.mp c];rw[B2 c,B2<|λz=>c<|this.mpr z]
def Cell(u:HO):Prop:=(∃xs,u=.lst xs)\/(∃kvs,u=.dK kvs)\/∃C dx fv,u=.ins C dx fv
abbrev Cl:={u:HO // Cell u}
noncomputable def Cl.l(xs:List V):Cl:=⟨.lst xs,B3 ⟨xs,rfl⟩⟩
noncomputable def Cl.d(kvs:List<|Key×V):Cl:=⟨.dK kvs,B6<|B3 ⟨kvs,rfl⟩⟩
noncomputable def Cl.i(C dx:Addr)(fv:List<|Str×V):Cl:=⟨.ins C dx fv,B6<|B6 ⟨C,dx,fv,rfl⟩⟩
def kL(K:D4)(Hv:Hp):List (Key×V)->List (Str×f9)->Prop:=Paired λ(p:Key×V) (q:Str×f9)=>p.1=O6 q.1/\Dt K Hv p.2 q.2
theorem kL.same{K:D4}{H H':Hp}{a:List (Key×V)}{es:List (Str×f9)}(e:C8 H H')(h:kL K H a es):kL K H' a es:=by
 induction h with
 |nil=>exact P1
 |cons h t b=>exact N8 ⟨h.1,h.2.same e⟩ b
inductive bX(K:D4)(Hv H:Hp):List (Str×V)->List (Str×PF)->List Addr->Prop
 |nil:bX K Hv H [] [] []
 |dat {n x d fv fs R}:Dt K Hv x d->bX K Hv H fv fs R->bX K Hv H ((n,x)::fv) ((n,.dat d)::fs) R
 |own {n a xs l fv fs R}:H a=U (.lst xs)->N2 K Hv xs l->a∉R->bX K Hv H fv fs R->bX K Hv H ((n,.ref a)::fv) ((n,.own l)::fs) (a::R)
 |dct {n a kvs es fv fs R}:H a=U (.dK kvs)->kL K Hv kvs es->a∉R->bX K Hv H fv fs R->bX K Hv H ((n,.ref a)::fv) ((n,.dct es)::fs) (a::R)
def rp(K:D4)(Hv H:Hp)(v:Addr)(R:List Addr):OD->Prop
 | .dct es=>∃kvs,R=[v]/\H v=U (.dK kvs)/\kL K Hv kvs es
 | .ins nm fs=>∃C dx fv R',R=v::R'/\Z8 K U0 nm=U (U<|A5 C)/\H v=U (.ins C dx fv)/\bX K Hv H fv fs R'
 | .seq Uf fs=>∃fv R',R=v::R'/\v∉R'/\H v=U (.lst<|fv.map (·.2))/\bX K Hv H fv fs R'
 | .seq U' fs=>∃fv,Hv v=U (.tup<|fv.map (·.2))/\bX K Hv H fv fs R
section
variable{H:Hp}
theorem bX.same{K:D4}{Hv:Hp}{Hv':Hp}{H':Hp}{R:List Addr}{fv:List (Str×V)}{fs:List (Str×PF)}(e:C8 Hv Hv')(h:bX K Hv H fv fs R):(∀b∈R,∀o,H b=U o->H' b=U o)->bX K Hv' H' fv fs R:=by
 induction h with
 |nil=>exact λ_=>.nil
 |dat j t c=>exact λa=>.dat (j.same e)<|c a
 |own f g i t c=>exact λa=>.own (a _ K9 _ f) (g.same e) i<|c λb d=>a b<|G6 _ d
 |dct f g i t c=>exact λa=>.dct (a _ K9 _ f) (g.same e) i<|c λb d=>a b<|G6 _ d
def bX.at(h:bX e g H p9 m6 P):∀b∈P,∃u:HO,((∃xs,u=.lst xs)\/∃K,u=.dK K)/\H b=U u:=by
 induction h with
 |nil=>exact λb a=>absurd a C9
 |dat i t c=>exact c
 |own d f R t c=>
  intro b a;rcases List.mem_cons.mp a with rfl|a
  exact⟨_,B3 ⟨_,rfl⟩,d⟩;exact c b a
 |dct d f R t c=>
  intro b a;rcases List.mem_cons.mp a with rfl|a
  exact⟨_,B6 ⟨_,rfl⟩,d⟩;exact c b a
theorem rp.same{K:D4}{Hv:Hp}{Hv':Hp}{H':Hp}{v:Addr}{R:List Addr}{c:OD}(e:C8 Hv Hv')(f:∀b∈R,∀o,H b=U o->H' b=U o)(h:rp K Hv H v R c):rp K Hv' H' v R c:=by
 cases c with
 |dct n=>obtain⟨k,rfl,a,d⟩:=h;exact⟨k,rfl,f _ K9 _ a,d.same e⟩
 |ins p fs=>
  obtain⟨C,m,g,l,rfl,j,a,d⟩:=h;exact⟨C,m,g,l,rfl,j,f _ K9 _ a,d.same e λb i=>f b<|G6 _ i⟩
 |seq b fs=>
  cases b with
  |true=>
   obtain⟨g,l,rfl,j,a,d⟩:=h;exact⟨g,l,rfl,j,f _ K9 _ a,d.same e λb i=>f b<|G6 _ i⟩
  |false=>obtain⟨g,a,d⟩:=h;exact⟨g,e _ _ a,d.same e f⟩
theorem rp.at{K:D4}{Hv:Hp}{v:Addr}{R:List Addr}{c:OD}(h:rp K Hv H v R c):∀b∈R,∃u:Cl,H b=U u.1:=by
 cases c with
 |dct q=>
  obtain⟨n,rfl,j,f⟩:=h;intro b a;rw[mem_singleton.mp a];exact⟨Cl.d n,j⟩
 |ins r fs=>
  obtain⟨C,o,k,m,rfl,p,j,f⟩:=h;intro b a;rcases List.mem_cons.mp a with rfl|a
  exact⟨Cl.i C o k,j⟩
  . obtain⟨u,h|h,e⟩:=f.at b a;exact⟨⟨u,B3 h⟩,e⟩;exact⟨⟨u,B6<|B3 h⟩,e⟩
 |seq t fs=>
  have g:∀{k m},bX K Hv H k fs m->∀b∈m,∃u:Cl,H b=U u.1:=λf b a=>by
   obtain⟨u,h|h,e⟩:=f.at b a;exact⟨⟨u,B3 h⟩,e⟩;exact⟨⟨u,B6<|B3 h⟩,e⟩
  cases t with
  |true=>
   obtain⟨k,m,rfl,p,j,f⟩:=h;intro b a;rcases List.mem_cons.mp a with rfl|a
   exact⟨Cl.l _,j⟩;exact g f b a
  |false=>obtain⟨k,j,f⟩:=h;exact g f
def OM{es:List (Str×f9)}(h:kL e g o9 es):o9=((es.map (·.1)).map O6).zip (o9.map (·.2))/\N2 e g (o9.map (·.2)) (es.map (·.2)):=by
 induction h with
 |nil=>exact⟨rfl,.nil⟩
 | @cons p q c d h t b=>
  refine⟨?_,.cons h.2 b.2⟩;rw[K3,K3,K3,FK,<-b.1,<-h.1]
def bX.dts(h:bX e g H p9 m6 P)(K:C8 g M)(a:∀b∈P,∀o,H b=U o->M b=U o):p9=(m6.map (·.1)).zip (p9.map (·.2))/\N2 e M (p9.map (·.2)) (m6.map λf=>f.2.d):=by
 induction h with
 |nil=>exact⟨rfl,.nil⟩
 |dat p t c=>
  obtain⟨R,i⟩:=c a;refine⟨?_,.cons (p.same K) i⟩;rw[K3,K3,FK,<-R]
 |own l j n t c=>
  obtain⟨R,i⟩:=c λb k=>a b<|G6 _ k;refine⟨?_,.cons (.lst (X6.of<|a _ K9 _ l)<|j.same K) i⟩;rw[K3,K3,FK,<-R]
 |dct l j n t c=>
  obtain⟨R,i⟩:=c λb k=>a b<|G6 _ k;obtain⟨m,k2⟩:=OM j;refine⟨?_,.cons (.dct (a _ K9 _ l) m<|k2.same K) i⟩;rw[K3,K3,FK,<-R]
def rp.dt{c:OD}(h:rp e g H N P c)(K:C8 g M)(v:∀b∈P,∀o,H b=U o->M b=U o):Dt e M (.ref N) c.d:=by
 cases c with
 |dct q=>
  obtain⟨m,rfl,a,f⟩:=h;obtain⟨i,k2⟩:=OM f;exact .dct (v _ K9 _ a) i<|k2.same K
 |ins r fs=>
  obtain⟨C,p,k,n,rfl,l,a,f⟩:=h;obtain⟨i,k2⟩:=f.dts K λb j=>v b<|G6 _ j;exact .ins l (v _ K9 _ a) i k2
 |seq b fs=>
  cases b with
  |true=>
   obtain⟨k,n,rfl,l,a,f⟩:=h;obtain⟨i,k2⟩:=f.dts K λb j=>v b<|G6 _ j;exact .lst (X6.of<|v _ K9 _ a) k2
  |false=>
   obtain⟨k,a,f⟩:=h;obtain⟨i,k2⟩:=f.dts K v;exact .tup (cM.of<|K _ _ a) k2
end
def fT(K:D4)(O:List Addr)(as:As)(H:Hp)(si:Option<|Option V)(rg:List Addr):PV->Prop
 | .dat d=>∃v,si=U (U v)/\Dt K (K1 H as O) v d
 | .own l=>∃a xs,si=U (U<|.ref a)/\a∈rg/\H a=U (.lst xs)/\N2 K (K1 H as O) xs l
 | .ob w c=>∃v R,si=U (U<|.ref v)/\(w=J\/w=U v)/\(∀b∈R,b∈rg)/\rp K (K1 H as O) H v R c
structure DS(K:D4)(O:List Addr)(D8:Hp)(as:As)(σ:St)(H:Hp)(ds:Ds):Prop where
 ls:σ.length=ds.length
 same:C8 D8 H
 new:∀a,U a∈as->D8 a=J/\∃u:Cl,H a=U u.1
 gK:∀a∈O,∃o,D8 a=U o
 mX:∃rg:Nat->List Addr,(∀i b,b∈rg i->U b∈as)/\(∀i j b,b∈rg i->b∈rg j->i=j)/\∀(i:Nat) (pv:PV),ds[i]?=U (U pv)->fT K O as H σ[i]? (rg i) pv
def RG(K:D4)(O:List Addr)(as:As)(H:Hp)(si:Option<|Option V):PV->Prop
 | .dat d=>∃v,si=U (U v)/\Dt K (K1 H as O) v d
 | .own l=>∃a xs,si=U (U<|.ref a)/\U a∈as/\H a=U (.lst xs)/\N2 K (K1 H as O) xs l
 | .ob w c=>∃v R,si=U (U<|.ref v)/\(w=J\/w=U v)/\(∀b∈R,U b∈as)/\rp K (K1 H as O) H v R c
def DS.slot(S:DS e P g B G M b7)(i:Nat)(pv:PV)(h:b7[i]?=U (U pv)):RG e P B M G[i]? pv:=by
 obtain⟨r,j,q,n⟩:=S.mX;have z:=n i pv h;cases pv with
 |dat d=>exact z
 |own l=>obtain⟨a,m,K,O,f⟩:=z;exact⟨a,m,K,j i a O,f⟩
 |ob w c=>obtain⟨v,R,K,O,f,p⟩:=z;exact⟨v,R,K,O,λb o=>j i b<|f b o,p⟩
def fT.Jr{bs:As}{p:Option (Option V)}{k O:List Addr}(h:fT e P B g p k i8)(K:C8 (K1 g B P)<|K1 M bs P)(n:∀b∈k,∀o,g b=U o->M b=U o)(q:∀b∈k,b∈O):fT e P bs M p O i8:=by
 cases i8 with
 |dat d=>obtain⟨v,f,z⟩:=h;exact⟨v,f,z.same K⟩
 |own l=>obtain⟨a,r,f,j,i,z⟩:=h;exact⟨a,r,f,q a j,n a j _ i,z.same K⟩
 |ob w c=>obtain⟨v,R,f,j,i,z⟩:=h;exact⟨v,R,f,j,λb m=>q b<|i b m,z.same K λb m=>n b<|i b m⟩
noncomputable def bU(fr:Bool)(as:As):As:=if fr=Uf then as else[]
def NK(h:U N∈bU I B):U N∈B:=by
 unfold bU at h
 simp_all
def RX(K:D4)(O:List Addr)(va:As)(H H':Hp)(v:V):PV->Prop
 | .dat d=>Dt K (K1 H' va O) v d
 | .own l=>∃a xs,v=.ref a/\H a=J/\H' a=U (.lst xs)/\N2 K (K1 H' (U a::va) O) xs l
 | .ob w c=>∃o R,v=.ref o/\(w=J\/w=U o)/\(∀b∈R,H b=J)/\rp K (K1 H' (R.map U++va) O) H' o R c
structure uH(H:Hp)(va:As)(O:List Addr):Prop where
 o:∀a∈O,∃u,H a=U u
 a:∀a,U a∈va->∃u,H a=U u
section
variable{H:Hp}
def uH.same(D:uH H B P)(e:C8 H g):uH g B P:=⟨λa h=>let ⟨u,z⟩:=D.o a h;⟨u,e _ _ z⟩,λa h=>let ⟨u,z⟩:=D.a a h;⟨u,e _ _ z⟩⟩
def DS.dm{fr:Bool}(S:DS e P g B G H b7):uH H (bU fr B) P:=⟨λa h=>let ⟨u,z⟩:=S.gK a h;⟨u,S.same _ _ z⟩,λa h=>let ⟨_,z⟩:=(S.new a<|NK h).2;⟨_,z⟩⟩
def DS.nO(S:DS e P g B G H b7)(h:U N∈B):N∉P:=λz=>by obtain⟨o,K⟩:=S.gK N z;rw[(S.new N h).1]at K;exact nE K
def DS.grow(S:DS e P g B G H b7)(K:C8 H M):DS e P g B G M b7:=
 ⟨S.ls,S.same.trans K,λa h=>⟨(S.new a h).1,let ⟨o,z⟩:=(S.new a h).2;⟨o,K _ _ z⟩⟩,S.gK,let ⟨d,O,c,f⟩:=S.mX;⟨d,O,c,λi pv h=>(f i pv h).Jr (Z1 K) (λb _ o z=>K _ _ z) λ_ z=>z⟩⟩
def RX.grow(h:RX e P B H g b6 i8)(K:C8 g M):RX e P B H M b6 i8:=by
 cases i8 with
 |dat d=>exact Dt.same (Z1 K) h
 |own l=>obtain⟨a,j,O,f,i,h⟩:=h;exact⟨a,j,O,f,K _ _ i,h.same<|Z1 K⟩
 |ob w c=>obtain⟨o,R,O,f,i,h⟩:=h;exact⟨o,R,O,f,i,h.same (Z1 K) λb _ u z=>K _ _ z⟩
def RX.back(h:RX e P B H g b6 i8)(K:C8 M H):RX e P B M g b6 i8:=by
 cases i8 with
 |dat d=>exact h
 |own l=>obtain⟨a,j,O,f,i,h⟩:=h;exact⟨a,j,O,K.free f,i,h⟩
 |ob w c=>obtain⟨o,R,O,f,i,h⟩:=h;exact⟨o,R,O,f,λb k=>K.free<|i b k,h⟩
def rp.bU{R:List Addr}{c:OD}(h:rp e (K1 g (R.map U++B) P) g N R c)(n:∀b∈R,b∉P/\U b∉B):Dt e (K1 g B P) (.ref N) c.d:=
 h.dt (eF (C8.refl _) λb z=>S5 _ z) λb a u z=>V7.mpr ⟨(n b a).1,(n b a).2,z⟩
def RX.dt(h:RX e P B H g b6 i8)(D:uH H B P):Dt e (K1 g B P) b6 i8.d:=by
 have f:∀a,H a=J->a∉P/\U a∉B:=λa K=>by
  refine⟨λz=>?_,λz=>?_⟩
  . obtain⟨u,z⟩:=D.o a z;lia
  . obtain⟨u,z⟩:=D.a a z;lia
 cases i8 with
 |dat d=>exact h
 |ob w c=>obtain⟨o,R,rfl,_,O,h⟩:=h;exact h.bU λb i=>f b<|O b i
 |own l=>
  obtain⟨a,j,rfl,K,O,h⟩:=h;exact .lst (X6.of<|V7.mpr ⟨(f a K).1,(f a K).2,O⟩)<|h.same<|eF (C8.refl _) λb z=>G6 _ z
def RX.less{O:As}(h:RX e P B H g b6 i8)(s:∀b,U b∈O->U b∈B):RX e P O H g b6 i8:=by
 cases i8 with
 |dat d=>exact Dt.same (eF (C8.refl _) s) h
 |ob w c=>
  obtain⟨o,R,rfl,K,f,h⟩:=h;refine⟨o,R,rfl,K,f,h.same (eF (C8.refl _) λb z=>?_)<|λ_ _ _ z=>z⟩
  rcases List.mem_append.mp z with z|z
  exact fw _ z;exact S5 _<|s b z
 |own l=>
  obtain⟨a,i,rfl,K,f,h⟩:=h;refine⟨a,i,rfl,K,f,h.same<|eF (C8.refl _) λb z=>?_⟩
  rcases List.mem_cons.mp z with z|z
  rw[z];exact K9;exact G6 _<|s b z
def Bc:C8 (K1 H B P)<|K1 H (bU I B) P:=eF (C8.refl _) λ_ h=>NK h
noncomputable def Flat:f9->Bool
 |F3=>Uf
 |E5 _=>Uf
 |p6 _=>Uf
 |f6 _=>Uf
 |_=>U'
def N2.append{ys:List V}{es:List f9}(h:N2 e H b9 c8)(k:N2 e H ys es):N2 e H (b9++ys)<|c8++es:=by
 induction c8 generalizing b9 with
 |nil=>cases h;exact k
 |cons _ _ i=>cases h with
  |cons a t=>exact .cons a<|i t
def N2.get'(h:N2 e H b9 c8)(K:b9[o]?=U b6):∃d,c8[o]?=U d/\Dt e H b6 d:=by
 induction c8 generalizing b9 o with
 |nil=>cases h;exact nE K
 |cons _ _ j=>cases h with
  |cons a t=>cases o with
   |zero=>cases K;exact⟨_,rfl,a⟩
   |succ o=>exact j t K
theorem N2.take{K:D4}:∀{xs:List V}{ds:List f9} (n:Nat),N2 K H xs ds->N2 K H (xs.take n) (ds.take n)
 |_,_,0,_=>by simp;exact .nil
 |_,_,_+1,.nil=>by simp;exact .nil
 |_,_,n+1,.cons h t=>by simp only[Xi];exact .cons h<|N2.take n t
theorem N2.drop{K:D4}:∀{xs:List V}{ds:List f9} (n:Nat),N2 K H xs ds->N2 K H (xs.drop n) (ds.drop n)
 |_,_,0,h=>by simpa using h
 |_,_,_+1,.nil=>by simp;exact .nil
 |_,_,n+1,.cons h t=>by simp only[oK];exact N2.drop n t
theorem N2.reverse{K:D4}{xs:List V}{ds:List f9}(h:N2 K H xs ds):N2 K H xs.reverse ds.reverse:=by
 induction ds generalizing xs with
 |nil=>cases h;exact .nil
 |cons _ _ i=>cases h with
  |cons a t=>
   rw[FH,FH];exact(i t).append (.cons a .nil)
end
def TX(K:D4)(fr:Bool)(te:TE)(F:DV):Prop:=
 ∀(O:List Addr) (D8:Hp) (as:As) (σ:St) (H:Hp) (ds:Ds) (pv:PV) (Q:VK),DS K O D8 as σ H ds->F ds=U pv->(∀v H',C8 H H'->RX K O (bU fr as) H H' v pv->Q v H')->te σ H Q
structure PX(X:Cx)(fr:Bool)(e:Expr)(te:TE)(F:DV):Prop where
 p:PE X e te
 t:TX X.K fr te F
def yt(K:D4)(tt:TT)(F:DB):Prop:=
 ∀(O:List Addr) (D8:Hp) (as:As) (σ:St) (H:Hp) (ds:Ds) (b:Bool) (Q:Bool->Hp->Prop),DS K O D8 as σ H ds->F ds=U b->(∀H',C8 H H'->Q b H')->tt σ H Q
structure lE(X:Cx)(e:Expr)(tt:TT)(F:DB):Prop where
 p:PT X e tt
 t:yt X.K tt F
structure BR(X:Cx)(e:Expr)(tt:TT)(F:DB):Prop where
 p:PW X e tt
 t:yt X.K tt F
def TAX(K:D4)(fr:Bool)(t:TA)(F:DL):Prop:=
 ∀(O:List Addr) (D8:Hp) (as:As) (σ:St) (H:Hp) (ds:Ds) (l:List f9) (Q:List V->Hp->Prop),DS K O D8 as σ H ds->F ds=U l->(∀vs H',C8 H H'->N2 K (K1 H' (bU fr as) O) vs l->Q vs H')->t σ H Q
structure hV(X:Cx)(fr:Bool)(es:List Expr)(t:TA)(F:DL):Prop where
 p:PA X es t
 t:TAX X.K fr t F
def aZ(K:D4)(r:R2)(f:f9->f9->Option PV):Prop:=
 ∀(O:List Addr) (va:As) (H:Hp) (x y:V) (d e:f9) (pv:PV) (Q:VK),uH H va O->Dt K (K1 H va O) x d->Dt K (K1 H va O) y e->f d e=U pv->(∀v H',C8 H H'->RX K O va H H' v pv->Q v H')->r x y H Q
def R1X(K:D4)(r:V->Hp->VK->Prop)(f:f9->Option PV):Prop:=
 ∀(O:List Addr) (va:As) (H:Hp) (x:V) (d:f9) (pv:PV) (Q:VK),uH H va O->Dt K (K1 H va O) x d->f d=U pv->(∀v H',C8 H H'->RX K O va H H' v pv->Q v H')->r x H Q
def nG(K:D4)(r:List V->Hp->VK->Prop)(f:FV):Prop:=
 ∀(O:List Addr) (va:As) (H:Hp) (xs:List V) (ds:List f9) (pv:PV) (Q:VK),uH H va O->N2 K (K1 H va O) xs ds->f ds=U pv->(∀v H',C8 H H'->RX K O va H H' v pv->Q v H')->r xs H Q
noncomputable def C4(i:Nat):DV:=λds=>match ds[i]? with
 |some (U<|.dat d)=>U<|.dat d
 |_=>J
noncomputable def fC(d:f9):DV:=λ_=>U<|.dat d
section
set_option tactic.hygienic true in
def a6L(i:Nat)(h:PE c p<|S7 i):PX c I p (S7 i)<|C4 i:=⟨h,by
 intro O b k j H g pv Q S a q;unfold C4 at a;split at a;rename_i d f;cases a;obtain⟨v,X,h⟩:=S.slot i _ f;exact⟨v,X,q v H (C8.refl H)<|h.same Bc⟩
 . exact nE a⟩
def JC(h:PE c p<|tC b6)(hd:∀H,Dt c.K H b6 i7):PX c I p (tC b6)<|fC i7:=⟨h,by intro O a g f H X pv Q S b q;cases b;exact q b6 H (C8.refl H)<|hd _⟩
def JB{j}:PX c I (jk (Wl d8) j q) (tC<|.int d8)<|fC<|p6 d8:=JC a7n λ_=>.int d8
def a9X{j}:PX c I (jk (Ww j6) j q) (tC<|.bl j6)<|fC<|E5 j6:=JC b0d λ_=>.bl j6
def a6N{j}:PX c I (jk (Ac t) j q) (tC<|.str t)<|fC<|f6 t:=JC a7i λ_=>.str t
def a6Q{j}:PX c I (jk Ag j q) (tC .non)<|fC F3:=JC a7l λ_=>.non
def a2K(F:DV):DV:=λds=>(F ds).bind λpv=>if Flat pv.d=Uf then U (.dat pv.d)else J
noncomputable def A2(f:f9->f9->Option PV)(Fa Fb:DV):DV:=λds=>(Fa ds).bind λx=>(Fb ds).bind λy=>f x.d y.d
def Iu(a:aZ c.K m7 m8)(s:PX c I p y S)(z:PX c I Y j1 k8):TX c.K I (vF m7 y j1)<|A2 m8 S k8:=by
 intro O X j k H i pv Q r e q;obtain⟨x,h1,e⟩:=A9 e;obtain⟨b,h2,e⟩:=A9 e;refine s.t O X j k H i x _ r h1 λv B g m=>?_;refine z.t O X j k B i b _ (r.grow g) h2 λu n h l=>?_;refine a O (bU I j) n v u x.d b.d pv Q ((r.grow g).grow h).dm ((m.grow h).dt r.dm) (l.dt (r.grow g).dm) e λw C A o=>?_;exact q w C ((g.trans h).trans A)<|o.back<|g.trans h
def AM{op:Operator}{r:R2}(g:X4 c (eU op) r)(e:aZ c.K r m8)(d:PX c I p y S)(X:PX c I Y j1 k8):PX c I (Wt p op Y q) (vF r y j1)<|A2 m8 S k8:=
 ⟨b0b g d.p X.p,Iu e d X⟩
def a6U(e:X4 c (V9 v8) m7)(h:aZ c.K m7 m8)(g:oB v8 Y=U')(d:PX c I p y S)(X:PX c I Y j1 k8):PX c I (qX p [v8] [Y] q) (vF m7 y j1)<|A2 m8 S k8:=
 ⟨Ov e d.p X.p g,Iu h d X⟩
def a9U{r:R2}(g:BU c r)(e:aZ c.K r m8)(d:PX c I p y S)(X:PX c I Y j1 k8)(hs:Pw Y):PX c I (mf p Y q) (vF r y j1)<|A2 m8 S k8:=
 ⟨b0c g d.p X.p hs,Iu e d X⟩
noncomputable def qF(f:f9->Option PV)(Fa:DV):DV:=λds=>(Fa ds).bind λx=>f x.d
def a9R{op:UnaryOp}{r:V->Hp->VK->Prop}{f:f9->Option PV}(n:UnR c (unaryOp op) r)(l:R1X c.K r f)(g:PX c I p y S):PX c I (uv op p q) (tUn r y)<|qF f S:=⟨a9Z n g.p,by
 intro O b i s H h pv Q a X d;obtain⟨x,h1,X⟩:=A9 X;refine g.t O b i s H h x _ a h1 λv o e j=>?_;refine l O (bU I i) o v x.d pv Q (a.grow e).dm (j.dt a.dm) X λw u m k=>?_
 exact d w u (e.trans m)<|k.back e⟩
noncomputable def fR:f9->Option Bool
 |E5 b=>U b
 |_=>J
def B5(F:DV):DB:=λds=>(F ds).bind λx=>fR x.d
def CU(h:TX c.K I y S):yt c.K (tB y)<|B5 S:=by
 intro O e j k H f b Q F a q;obtain⟨x,h1,a⟩:=A9 a;refine h O e j k H f x _ F h1 λv i g l=>?_
 have d:=l.dt F.dm;generalize x.d=z at d a;cases z with
 |bool X=>cases a;cases d;exact⟨_,rfl,q i g⟩
 |_=>exact nE a
def Ol{fr:Bool}(h:PX c fr p y S)(b:autoParam (∀a,isTrue p c.env a=(do let v <- a;wx p.pos;holding [v] (truthy v))) tM):lE c p (tB y)<|B5 S:=⟨JD h.p b,CU h.t⟩
def a3X(e:X4 c (V9 v8) m7)(h:aZ c.K m7 m8)(g:oB v8 Y=U')(d:PX c I p y S)(X:PX c I Y j1 k8):lE c (qX p [v8] [Y] q) (Iy<|vF m7 y j1)<|B5<|A2 m8 S k8:=
 ⟨Om e d.p X.p g,CU<|Iu h d X⟩
noncomputable def ip(F:DB):DB:=λds=>(F ds).bind λb=>U<|!b
noncomputable def dV(F G:DB):DB:=λds=>(F ds).bind λb=>if b=Uf then G ds else U U'
noncomputable def V1(F G:DB):DB:=λds=>(F ds).bind λb=>if b=Uf then U Uf else G ds
def a3o(h:yt c.K d9 g8):yt c.K (PZ d9)<|ip g8:=by intro O a f e H d b Q S X q;obtain⟨x,h1,X⟩:=A9 X;cases X;exact h O a f e H d x _ S h1 q
def a3p{tu:TT}{Fu:DB}(h:yt c.K d9 g8)(k:yt c.K tu Fu):yt c.K (Qa d9 tu)<|dV g8 Fu:=by
 intro O a i g H e b Q S X q;obtain⟨x,h1,X⟩:=A9 X;refine h O a i g H e x _ S h1 λf d=>?_
 cases x with
 |true=>exact k O a i g f e b Q (S.grow d) X λl j=>q l<|d.trans j
 |false=>cases X;exact q f d
def a6d{tu:TT}{Fu:DB}(h:yt c.K d9 g8)(k:yt c.K tu Fu):yt c.K (tOr d9 tu)<|V1 g8 Fu:=by
 intro O a i g H e b Q S X q;obtain⟨x,h1,X⟩:=A9 X;refine h O a i g H e x _ S h1 λf d=>?_
 cases x with
 |false=>exact k O a i g f e b Q (S.grow d) X λl j=>q l<|d.trans j
 |true=>cases X;exact q f d
def a3W(h:lE c p d9 g8):lE c (uv Ak p q) (PZ d9)<|ip g8:=⟨Tn h.p,a3o h.t⟩
def ZG(h:lE c p d9 g8):BR c (aa gV [p] q) d9 g8:=⟨pw_and1 h.p,h.t⟩
def a3O(h:lE c p d9 g8):BR c (aa gT [p] q) d9 g8:=⟨pw_or1 h.p,h.t⟩
def a3P{tu:TT}{Fu:DB}(h:lE c p d9 g8)(k:BR c (aa gV (Y::b5) q) tu Fu):BR c (aa gV (p::Y::b5) q) (Qa d9 tu)<|dV g8 Fu:=⟨pw_and h.p k.p,a3p h.t k.t⟩
def a6X{tu:TT}{Fu:DB}(h:lE c p d9 g8)(k:BR c (aa gT (Y::b5) q) tu Fu):BR c (aa gT (p::Y::b5) q) (tOr d9 tu)<|V1 g8 Fu:=⟨pw_or h.p k.p,a6d h.t k.t⟩
theorem BR.pt(h:BR c p d9 g8):lE c p d9 g8:=⟨PW.pt h.p,h.t⟩
def pO(Fa Fb:DV):DV:=λds=>(B5 Fa ds).bind λb=>if b=Uf then Fb ds else U<|.dat<|E5 U'
def fOr(Fa Fb:DV):DV:=λds=>(B5 Fa ds).bind λb=>if b=Uf then U (.dat<|E5 Uf)else Fb ds
def xQ(Fa:DV):DV:=λds=>(B5 Fa ds).bind λb=>U<|.dat<|E5 !b
def a6O{op}(h:PX c I p y S):PX c I (aa op [p] q) y S:=⟨a7j h.p,h.t⟩
def a6V(h:PX c I p y S)(k:PX c I (aa gV (Y::b5) q) j1 k8):PX c I (aa gV (p::Y::b5) q) (a2f y j1)<|pO S k8:=⟨a7p h.p k.p,by
 intro O X j i H f pv Q a d b;obtain⟨x,h1,d⟩:=A9 d;refine CU h.t O X j i H f x _ a h1 λg e=>?_
 cases x with
 |true=>exact k.t O X j i g f pv Q (a.grow e) d λv m l r=>b v m (e.trans l)<|r.back e
 |false=>cases d;exact b _ g e<|Dt.bl _⟩
def a9T(h:PX c I p y S)(k:PX c I (aa gT (Y::b5) q) j1 k8):PX c I (aa gT (p::Y::b5) q) (a6j y j1)<|fOr S k8:=⟨b0a h.p k.p,by
 intro O X j i H f pv Q a d b;obtain⟨x,h1,d⟩:=A9 d;refine CU h.t O X j i H f x _ a h1 λg e=>?_
 cases x with
 |false=>exact k.t O X j i g f pv Q (a.grow e) d λv m l r=>b v m (e.trans l)<|r.back e
 |true=>cases d;exact b _ g e<|Dt.bl _⟩
def a6P(h:PX c I p y S):PX c I (uv Ak p q) (a2b y)<|xQ S:=⟨a7k h.p,by intro O b i g H d pv Q a X j;obtain⟨x,h1,X⟩:=A9 X;cases X;exact CU h.t O b i g H d x _ a h1 λe f=>j _ e f<|Dt.bl _⟩
noncomputable def BL(Ft:DB)(Fa Fb:DV):DV:=λds=>(Ft ds).bind λb=>if b=Uf then Fa ds else Fb ds
def a9V(n:lE c j8 d9 g8)(h:PX c I p y S)(k:PX c I Y j1 k8):PX c I (Wv j8 p Y q) (tIf d9 y j1)<|BL g8 S k8:=⟨a0f n.p h.p k.p,by
 intro O d m l H g pv Q X f a;obtain⟨x,h1,f⟩:=A9 f;refine n.t O d m l H g x _ X h1 λo e=>?_
 cases x with
 |true=>exact h.t O d m l o g pv Q (X.grow e) f λv j i r=>a v j (e.trans i)<|r.back e
 |false=>exact k.t O d m l o g pv Q (X.grow e) f λv j i r=>a v j (e.trans i)<|r.back e⟩
def lB(f g:f9->f9->Option PV)(Fa Fb Fc:DV):DV:=λds=>(Fa ds).bind λx=>(Fb ds).bind λy=>(f x.d y.d).bind λr=>(fR r.d).bind λk=>
 if k=Uf then(Fc ds).bind λz=>g y.d z.d else U<|.dat<|E5 U'
def Ja{tc:TE}{Fc:DV}{B:R2}{g:f9->f9->Option PV}(M:aZ c.K m7 m8)(s:aZ c.K B g)(N:PX c I p y S)(hb:PX c I Y j1 k8)(P:PX c I j8 tc Fc):TX c.K I (CY m7 B y j1 tc)<|lB m8 g S k8 Fc:=by
 intro O h o A H j pv Q f e q;unfold lB at e;cases h1:S j with
 |none=>simp_all
 |some x=>
  cases h2:k8 j with
  |none=>rw[h1,h2]at e;exact nE e
  |some r=>
   rw[h1,h2]at e;simp only[P0]at e;refine N.t O h o A H j x _ f h1 λv H1 l b=>?_;refine hb.t O h o A H1 j r _ (f.grow l) h2 λu Z m G=>?_;have n:=(f.grow l).grow m;have F:=G.dt (f.grow l).dm;obtain⟨w,h3,e⟩:=A9 e;refine M O (bU I o) Z v u x.d r.d w _ n.dm ((b.grow m).dt f.dm) F h3 λz C i X=>?_
   have D:=X.dt n.dm;obtain⟨k,h4,e⟩:=A9 e;have hk:z=.bl k:=by
    generalize w.d=ww at D h4;cases ww with
    |bool j8=>cases h4;cases D;rfl
    |_=>exact nE h4
   refine⟨k,hk,?_⟩;cases k with
   |false=>
    cases e;exact q _ C ((l.trans m).trans i)<|Dt.bl _
   |true=>
    obtain⟨E,h5,e⟩:=A9 e;refine P.t O h o A C j E _ (n.grow i) h5 λV W a L=>?_;refine s O (bU I o) W u V r.d E.d pv Q ((n.grow i).grow a).dm (F.same<|Z1<|i.trans a) (L.dt (n.grow i).dm) e λT H5 e5 R=>?_;exact q T H5 ((((l.trans m).trans i).trans a).trans e5)<|R.back<|((l.trans m).trans i).trans a
def Ce{tc:TE}{Fc:DV}{d:CmpOp}{h:R2}{g:f9->f9->Option PV}(m:X4 c (V9 v8) m7)(o:aZ c.K m7 m8)(i:X4 c (V9 d) h)(e:aZ c.K h g)(k:PX c I p y S)(j:PX c I Y j1 k8)(l:PX c I j8 tc Fc)(n:lastMarks [v8,d] [Y,j8]=U':=by with_unfolding_all rfl):PX c I (qX p [v8,d] [Y,j8] q) (CY m7 h y j1 tc)<|lB m8 g S k8 Fc:=⟨JJ m i k.p j.p l.p n,Ja o e k j l⟩
noncomputable def D0:DL:=λ_=>U []
noncomputable def A7(F:DV)(G:DL):DL:=λds=>(F ds).bind λx=>(G ds).bind λl=>U (x.d::l)
def a4w:hV c I [] pA D0:=⟨jt,by intro O a d e H X l Q S b q;cases b;exact q [] H (C8.refl H) .nil⟩
def a0k(h:PX c I p y S)(k:hV c I b5 e9 j4)(hs:autoParam (fS c p b5) B7):hV c I (p::b5) (fj y e9)<|A7 S j4:=⟨bg h.p k.p hs,by
 intro O a i g H X l Q e b q;unfold A7 at b;cases h1:S X with
 |none=>simp_all
 |some x=>
  cases h2:j4 X with
  |none=>rw[h1,h2]at b;exact nE b
  |some m=>
   rw[h1,h2]at b;cases b;refine h.t O a i g H X x _ e h1 λv s f n=>?_;refine k.t O a i g s X m _ (e.grow f) h2 λr o d j=>?_
   exact q (v::r) o (f.trans d)<|.cons ((n.grow d).dt e.dm) j⟩
def uH.fresh(D:uH g B P)(h:g N=J):N∉P/\U N∉B:=by
 refine⟨λz=>?_,λz=>?_⟩
 . obtain⟨u,z⟩:=D.o N z;lia
 . obtain⟨u,z⟩:=D.a N z;lia
def yN(D:uH g B P)(h:g N=J)(hd:N2 e (K1 g B P) b9 c8):RX e P B g (upd g N<|.tup b9) (.ref N)<|.dat<|B4 c8:=by obtain⟨a,b⟩:=D.fresh h;exact Dt.tup (cM.of<|V7.mpr ⟨a,b,K8⟩)<|hd.same<|Z1<|C8.new h
def qA(h:g N=J)(hd:N2 e (K1 g B P) b9 c8):RX e P B g (upd g N<|.lst b9) (.ref N)<|.own c8:=by
 refine⟨N,b9,rfl,h,K8,hd.same<|eN λb o c d a=>⟨c,λz=>?_,?_⟩⟩
 . simp_all
 exact C8.new h _ _ a
noncomputable def M4(Fl:DL):DV:=λds=>(Fl ds).bind λl=>if l.length<=1000000 then U (.dat<|B4 l)else J
noncomputable def G4(Fl:DL):DV:=λds=>(Fl ds).bind λl=>if l.length<=1000000 then U (.own l)else J
def Bx(h:o<=1000000):o<=G7:=D6 h (by rw[eX];decide)
def a6M{x1}(h:hV c I b5 e9 j4):PX c I (lY b5 x1 q) (a6g e9)<|M4 j4:=⟨a7h h.p,by
 intro O b j i H f pv Q S a t;obtain⟨l,h1,a⟩:=A9 a;obtain⟨g,a⟩:=P8 a;cases a;refine h.t O b j i H f l _ S h1 λk m X d=>⟨by rw[d.length];exact Bx g,λp e=>?_⟩
 exact t _ _ (X.trans<|C8.new e)<|RX.back (yN (S.grow X).dm e d) X⟩
def a6R(h:hV c I b5 e9 j4):PX c I (Wj b5 q) (a6k e9)<|G4 j4:=⟨a7m h.p,by
 intro O b j i H f pv Q S a t;obtain⟨l,h1,a⟩:=A9 a;obtain⟨g,a⟩:=P8 a;cases a;refine h.t O b j i H f l _ S h1 λk m e X=>⟨by rw[X.length];exact Bx g,λp d=>?_⟩
 exact t _ _ (e.trans<|C8.new d)<|RX.back (qA d X) e⟩
noncomputable def A0(F:FV)(Fl:DL):DV:=λds=>(Fl ds).bind F
def a1T(j:nG c.K t4 u3)(h:hV c I b5 e9 j4):TX c.K I (Jf t4 e9)<|A0 u3 j4:=by
 intro O a e o H d pv Q S b q;obtain⟨l,h1,b⟩:=A9 b;refine h.t O a e o H d l _ S h1 λk n X g=>?_;refine j O (bU I e) n k l pv Q (S.grow X).dm g b λw p m i=>?_;exact q w p (X.trans m)<|i.back X
def xC{r:List V->Hp->VK->Prop}(l:cA c (P5 o3) r)(k:nG c.K r u3)(g:Gl c h8)(h:c.mg h8=J)(i:jO h8=U (P5 o3))(X:hV c I (p::b5) e9 j4)(d:autoParam (h8 ≠ "__name__") iJ)(b:autoParam (jj h8) B7)(j:autoParam (fS c p b5) B7)(a:autoParam (lF c q b5) B7):PX c I (L8 (G9 h8 b8) (p::b5) [] q) (Jf r e9)<|A0 u3 j4:=⟨JK l g h i X.p d b j a,a1T k X⟩
def qB{r:List V->Hp->VK->Prop}(l:cA c (E8 o3) r)(k:nG c.K r u3)(g:Gl c h8)(h:c.mg h8=J)(i:jO h8=U (E8 o3))(X:hV c I (p::b5) e9 j4)(d:autoParam (h8 ≠ "__name__") iJ)(b:autoParam (jj h8) B7)(j:autoParam (fS c p b5) B7)(a:autoParam (lF c q b5) B7):PX c I (L8 (G9 h8 b8) (p::b5) [] q) (Jf r e9)<|A0 u3 j4:=⟨TQ l g h i X.p d b j a,a1T k X⟩
def vK(K:D4)(F:FV):Sp:=λvs H Q _=>∃(O:List Addr) (ds:List f9) (pv:PV),(∀a∈O,∃u,H a=U u)/\N2 K (K1 H [] O) vs ds/\F ds=U pv/\∀v H',C8 H H'->RX K O [] H H' v pv->Q v H'
def NN{fr:Bool}(h:hV c fr b5 e9 j4):TX c.K fr (nK (vK c.K u3) [] u4 e9)<|A0 u3 j4:=by
 intro O k g M H A pv Q S m q;obtain⟨l,h1,m⟩:=A9 m;refine h.t O k g M H A l _ S h1 λN P p I=>?_;have D:=(S.grow p).dm (fr:=fr);rw[bA];have z:∀H,K1 H (bU fr g) O=K1 H [] (O++(bU fr g).filterMap id):=λH=>tm (bs:=[]);refine⟨O++(bU fr g).filterMap id,l,pv,λa i=>?_,by rw[<-z];exact I,m,λv B C r=>q v B (p.trans C) ?_⟩
 . rcases List.mem_append.mp i with i|i
   exact D.o a i;obtain⟨x,G,e⟩:=List.mem_filterMap.mp i;subst e;exact D.a a G
 . cases pv with
   |dat d=>
    have j:Dt c.K (K1 B []<|O++(bU fr g).filterMap id) v d:=r;rw[<-z]at j;exact j
   |own l=>
    obtain⟨a,F,u,y,s,n⟩:=r;refine⟨a,F,u,p.free y,s,?_⟩;rw[show(U a::bU fr g)=[U a]++bU fr g from rfl,tm];exact n
   |ob w X=>
    obtain⟨o,R,u,y,s,n⟩:=r;refine⟨o,R,u,y,λb L=>p.free<|s b L,?_⟩;rw[tm];rw[bA]at n;exact n
end
noncomputable def iF(ds:Ds):Ds:=ds.map<|Option.map λpv=>.dat pv.d
def vM:U N∉(S9 o J:As):=λz=>by simp_all
def a5g:K1 g (S9 o J) P=K1 g [] P:=by
 funext b
 delta K1;simp
section
variable{H:Hp}
def RG.iF{i:Option (Option V)}{k:List Addr}{bs:As}(S:DS e P g B G H b7)(h:RG e P B H i i8)(K:∀b,U b∈bs->U b∈B)(j:∀b,(match i8 with | .own _=>i=U (U<|.ref b) | .ob _ _=>U b∈B|_=>False)->U b∉bs):fT e P bs H i k<|.dat i8.d:=by
 cases i8 with
 |dat d=>obtain⟨v,f,h⟩:=h;exact⟨v,f,h.same<|eF (C8.refl _) K⟩
 |own l=>
  obtain⟨a,n,f,O,m,h⟩:=h;exact⟨_,f,.lst (X6.of<|V7.mpr ⟨S.nO O,j a f,m⟩)<|h.same<|eF (C8.refl _) K⟩
 |ob w c=>obtain⟨v,R,f,_,O,h⟩:=h;exact⟨_,f,h.dt (eF (C8.refl _) K) λb K u z=>V7.mpr ⟨S.nO<|O b K,j b<|O b K,z⟩⟩
theorem DS.iF{K:D4}{O:List Addr}{D8:Hp}{as:As}{σ:St}{ds:Ds}(S:DS K O D8 as σ H ds):DS K O D8 (S9 ds.length J) σ H (iF ds) where
 ls:=by simp[L2.iF,S.ls]
 same:=S.same
 new:=λa h=>absurd h vM
 gK:=S.gK
 mX:=⟨λ_=>[],λi b z=>absurd z C9,λi j b z=>absurd z C9,λi pv h=>by
  unfold L2.iF at h;rw[aK]at h;cases hd:ds[i]? with
  |none=>simp_all
  |some x=>
   cases x with
   |none=>simp_all
   |some w=>
    rw[hd]at h;cases h;exact(S.slot i w hd).iF S (λb z=>absurd z vM) (λa _=>vM)⟩
noncomputable def a0Z(i:Nat)(ds:Ds):Ds:=match ds[i]? with
 |some (U<|.own l)=>ds.set i<|U<|.dat<|B8 l
 |_=>ds
end
def ay(F:DV):DV:=λds=>F<|iF ds
def a6S(h:PX c Uf p y S):PX c U' p y<|ay S:=⟨h.p,by
 intro O a g d H i pv Q e f q;refine h.t O a _ d H _ pv Q e.iF f λv X p r=>q v X p ?_
 exact r.less λb z=>by simp[bU]at z⟩
def a9g(K:D4)(O:List Addr)(Hb:Hp)(Jff:It)(items:List f9):Prop:=
 ∀H',C8 Hb H'->∀i,(i<items.length->Jff.go i H')/\(items.length<=i->Jff.stop i H') /\
  ∀x H'',Jff.RQ i H' x H''->i<items.length->C8 H' H''/\∃d,items[i]?=U d/\∀vb:As,(∀b,U b∈vb->Hb b=J/\∃o,H' b=U o)->(∀b∈O,∃o,Hb b=U o)->Dt K (K1 H'' vb O) x d
def TIX(K:D4)(fr:Bool)(wi:TI)(Fi:DL):Prop:=
 ∀(O:List Addr) (D8:Hp) (as:As) (σ:St) (H:Hp) (ds:Ds) (items:List f9) (R:It->Hp->Prop),DS K O D8 as σ H ds->Fi ds=U items->(∀Jff H1,C8 H H1->a9g K O (K1 H1 (bU fr as) []) Jff items->R Jff H1)->wi σ H R
structure Ep(X:Cx)(fr:Bool)(tg e:Expr)(wi:TI)(Fi:DL):Prop where
 p:PI X tg e wi
 t:TIX X.K fr wi Fi
noncomputable def gx:f9->Option (List f9)
 |B8 l=>U l
 |B4 l=>U l
 |_=>J
def iSq(F:DV):DL:=λds=>(F ds).bind λpv=>gx pv.d
def ze{a:Hp}{O:As}(h:Dt e (K1 g B P) b6 i7)(K:C8 (K1 g B []) M)(k:C8 M a)(j:∀b,U b∈O->K1 g B [] b=J/\∃o,M b=U o):Dt e (K1 a O P) b6 i7:=
 h.same (eN λb o m l i=>by
  have f:K1 g B [] b=U o:=V7.mpr ⟨by simp,l,i⟩;refine⟨m,λz=>?_,k _ _<|K _ _ f⟩
  simp_all)
def DR:C8 (K1 g B P)<|K1 g B []:=eN λb o _ d c=>⟨by simp,d,c⟩
section
noncomputable def pE(lo:Int)(n:Nat):List f9:=(Z4 n).map λk=>p6<|lo+(k:Nat)
def a8i:a9g e P g (Itr d8 o)<|pE d8 o:=by
 intro O K i;have b:(pE d8 o).length=o:=by simp[pE]
 refine⟨λa=>(by rw[b]at a;exact a),λa=>(by rw[b]at a;exact a),λx d y a=>?_⟩;obtain⟨f,c⟩:=y;subst f;subst c;rw[b]at a;refine⟨C8.refl _,p6<|d8+i,?_,λh _ _=>.int _⟩;simp[pE,Mz a]
def rm:List f9->Option (List f9)
 | [p6 j]=>@ite _ (-(4611686018427387904)<=j/\j<4611686018427387904) (XT _) (U<|pE 0 j.toNat) J
 |_=>J
noncomputable def jg(f:List f9->Option (List f9))(Fl:DL):DL:=λds=>(Fl ds).bind f
set_option tactic.hygienic true in
def QF(i:Gl c "range")(n:c.mg "range" = J)(e:hV c I [Y] e9 j4)(hs:autoParam (O7 [Y] c.env=[(U',eval Y c.env)]) B7):Ep c I p (L8 (G9 "range" q) [Y] [] b8) (a2A e9)<|jg rm j4:=⟨TL i n e.p hs,by
 intro O X k m H f d R S b a;obtain⟨l,h1,b⟩:=A9 b;refine e.t O X k m H f l _ S h1 λv h s u=>?_;unfold rm at b;split at b
 . rename_i j;split at b
   . rename_i g;cases b;cases u with
     |cons r o=>
      cases r;cases o;exact⟨j,rfl,g.1,g.2,a _ h s a8i⟩
   exact nE b
 . exact nE b⟩
def a2z(K:D4)(ta:TA):TI:=λσ H R=>ta σ H λvs H1=>∃a b k1 k2,vs=[.ref a,.ref b]/\(∃xs,kK k1 K H1 a xs)/\(∃ys,kK k2 K H1 b ys)/\R (Itz k1 k2 K a b) H1
def a4q(D:Gl c "zip")(F:c.mg "zip" = J)(t:PA c [p,Y] e9)(hs:autoParam (O7 [p,Y] c.env=[(U',eval p c.env),(U',eval Y c.env)]) B7)(i:autoParam (O7 [Y] c.env=[(U',eval Y c.env)]) B7):
  PI c (lY b5 o k7) (L8 (G9 "zip" q) [p,Y] [] b8) (a2z c.K e9):=by
 intro d s m H R I h;refine Call_ (vU I D F boot_zip<|Gd (M8 (t b8 d s m H _ I h) λz X ⟨L,l,g,O,E⟩=>?_) (by rw[hs,i]) (by rw[i];rfl));obtain⟨x,y,Q,k2,e,⟨S,N⟩,⟨P,C⟩,a⟩:=E;subst e;obtain⟨u,v,e,G,B⟩:=vals2 O;subst e;cases G;cases B;obtain⟨z,A⟩:=g.bZ N;obtain⟨L,w⟩:=g.bZ C;refine VD A w λM Z n=>?_;refine wpAny_pyIter_zip Z.hz ?_;have r:Inv c d m l {X with heap:=M}:=g.kept n;refine⟨(hz X)+4,_,_,_,l,rfl,r,YI<|Yx _,Z,λY b=>?_,a⟩
 have j:Y=(hz X)+4\/Y=(hz X)+2\/Y=(hz X)+3\/Y=(hz X)\/Y=(hz X)+1:=by simpa using b
 have f:(hz X)<=Y:=by
  rcases j with e|e|e|e|e<;>rw[e]
  exact Ar _ _;exact Ar _ _;exact Ar _ _;exact N7 _;exact Ar _ _
 exact g.zi f<|g.H9.fresh f
def C8.bZ(b:C8 g M)(h:kK I e g N b9):kK I e M N b9:=by
 cases I;exact b.seq h;exact b.mI h
def Dt.bZ(h:Dt e g b6 i7)(hd:gx i7=U c8):∃a K xs,b6=.ref a/\kK K e g a xs/\N2 e g xs c8:=by
 cases h with
 |lst b c=>cases hd;exact⟨_,U',_,rfl,b,c⟩
 |tup b c=>cases hd;exact⟨_,Uf,_,rfl,b,c⟩
 |_=>exact nE hd
def nH:List f9->Option (List f9)
 | [d,e]=>(gx d).bind λl=>(gx e).bind λm=>U<|bQ (λx y=>B4 [x,y]) l m
 |_=>J
set_option tactic.hygienic true in
theorem a4o(hg:Gl c "zip")(W:c.mg "zip" = J)(w:hV c I [p,Y] e9 j4)(hs:autoParam (O7 [p,Y] c.env=[(U',eval p c.env),(U',eval Y c.env)]) B7)(v:autoParam (O7 [Y] c.env=[(U',eval Y c.env)]) B7):
  Ep c I (lY b5 o k7) (L8 (G9 "zip" q) [p,Y] [] b8) (a2z c.K e9) (jg nH j4):=⟨a4q hg W w.p hs v,by
 intro O j as V H D u R S X k;obtain⟨l,h1,X⟩:=A9 X;refine w.t O j as V H D l _ S h1 λvs Q N r1=>?_;unfold nH at X;split at X
 . rename_i d1 T;obtain⟨l1,hl,X⟩:=A9 X;obtain⟨l2,hl2,X⟩:=A9 X;cases X;cases r1 with
   |cons r s=>
    cases s with
    |cons r' s=>
     cases s;obtain⟨p,k1,m,rfl,A,E⟩:=r.bZ hl;obtain⟨Y,k2,h,rfl,B,C⟩:=r'.bZ hl2;refine⟨p,Y,k1,k2,rfl,⟨m,L1.bZ A⟩,⟨h,L1.bZ B⟩,k _ Q N λH' g i=>?_⟩;have e:=g.bZ<|DR.bZ A;have f:=g.bZ<|DR.bZ B;have:=E.length;have:=C.length;rw[iP];refine⟨λF=>⟨m,h,m[i]'A3,h[i]'A3,e,f,Y2 _,Y2 _⟩,λF=>⟨m,h,e,f,by lia⟩,λx L y F=>?_⟩;obtain⟨pp,z1,d,x',y',z3,a⟩:=y;obtain⟨z5,G⟩:=a m h e f;subst z1;subst z3;obtain⟨dx,ex,Z⟩:=E.get' z5;obtain⟨P,M,hy⟩:=C.get' G;refine⟨C8.new d,B4 [dx,P],by rw[Au,ex,M],λvb n b=>?_⟩;refine .tup (cM.of<|V7.mpr ⟨λz=>?_,λz=>?_,K8⟩)<|.cons (ze Z g (C8.new d) n)<|.cons (ze hy g (C8.new d) n) .nil;obtain⟨t,z⟩:=b _ z;rw[g _ _ z]at d;exact nS d;obtain⟨_,t,z⟩:=n _ z;rw[z]at d;exact nS d
 . exact nE X⟩
end
def TGB(K:D4)(n:Nat)(g:TG)(gt:f9->Option (List f9)):Prop:=
 ∀(O:List Addr) (va:As) (H:Hp) (v:V) (d:f9) (σ:St) (bs:List f9) (Q:St->Hp->Prop),Dt K (K1 H va O) v d->gt d=U bs->(∀vs,N2 K (K1 H va O) vs bs->vs.length=n->Q (vs.map U++σ) H)->g v (S9 n J++σ) H Q
noncomputable def M0:f9->Option (List f9):=λd=>U [d]
noncomputable def ke(n:Nat):f9->Option (List f9)
 |B4 l=>if l.length=n then U l else J
 |_=>J
def YQ:TGB e 1 (fk 0) M0:=by intro O K H v d c bs Q a b q;cases b;exact q [v] (.cons a .nil) rfl
def b1L:∀{l:List j3},l.length=2->∃x y,l=[x,y]
 | [x,y],_=>⟨x,y,rfl⟩
def b1K:∀{l:List j3},l.length=3->∃x y z,l=[x,y,z]
 | [x,y,z],_=>⟨x,y,z,rfl⟩
set_option tactic.hygienic true in
def YO:TGB e 2 (KO e 2<|Bf (fk 0)<|Bf (fk 1) Ro)<|ke 2:=by
 intro O k H v d i bs Q h K q;cases h with
 |tup g c=>
  rename_i a j l;have b:=K;obtain⟨f,b⟩:=P8 b;rw[(dY b)]at c f;obtain⟨x,y,rfl⟩:=b1L<|c.length.trans f;exact⟨a,[x,y],rfl,L1.mI g,rfl,x,[y],rfl,y,[],rfl,rfl,q [x,y] c rfl⟩
 |_=>exact nE K
noncomputable def iY(l:List f9):Ds:=l.map λd=>U<|.dat d
@[simp] theorem tF:iY []=[]:=rfl
@[simp] theorem qH(d:f9)(l:List f9):iY (d::l)=sd d::iY l:=rfl
def N2.slots(h:N2 e g b9 c8)(K:(iY c8)[o]?=U (U i8)):∃d v,i8=.dat d/\b9[o]?=U v/\Dt e g v d:=by
 unfold iY at K;rw[aK]at K;cases hd:c8[o]? with
 |none=>simp_all
 |some d=>
  rw[hd]at K;cases K;obtain⟨x,b,a⟩:=h.get hd;exact⟨d,x,rfl,b,a⟩
def GO:K1 g (S9 o J++B) P=K1 g B P:=by
 funext b
 delta K1;simp
def DS.pre(S:DS e P g B G M b7)(h:N2 e (K1 M B P) b9 c8):
  DS e P g (S9 c8.length J++B) (b9.map U++G) M (iY c8++b7) where
 ls:=by simp[iY,S.ls,h.length]
 same:=S.same
 new:=λa z=>S.new a<|(List.mem_append.mp z).elim (λz=>absurd z vM) id
 gK:=S.gK
 mX:=by
  obtain⟨m,s,q,p⟩:=S.mX;have n:=h.length;have r:(iY c8).length=c8.length:=by simp[iY]
  refine⟨λi=>if i<c8.length then[]else m (i-c8.length),λi b z=>?_,λi j b f c=>?_,λi pv K=>?_⟩
  . dsimp only at z;split at z;simp at z;exact S5 _<|s _ b z
  . dsimp only at f c;split at f;simp at f
    . split at c;simp at c
      . have:=q _ _ b f c;lia
  . rw[Xx]at K;split at K
    . rename_i O;obtain⟨d,v,rfl,f,c⟩:=h.slots K;refine⟨v,?_,by rw[GO];exact c⟩;rw[Ay (by simp;simp_all),aK,f];rfl
    . rename_i O;rw[r]at O K;dsimp only;rw[B2 O,Az (by simp;simp_all)];simp only[F4,n];exact(p _ pv K).Jr (by rw[GO];exact C8.refl _) (λb _ o z=>z) λb z=>z
def U7(gt:f9->Option (List f9))(Fc:DB)(Fe:DV)(ds:Ds):List f9->Option (List f9)
 | []=>U []
 |x::r=>(gt x).bind λbs=>(Fc<|iY bs++ds).bind λb=>if b=Uf then(Fe<|iY bs++ds).bind λy=>(U7 gt Fc Fe ds r).bind λl=>U (y.d::l)else U7 gt Fc Fe ds r
def Y8(Fi:DL)(gt:f9->Option (List f9))(Fc:DB)(Fe:DV):DV:=λds=>(Fi ds).bind λitems=>if items.length<=1000000 then(U7 gt Fc Fe ds items).bind λl=>U (.own l)else J
structure RH(X:Cx)(ifs:List Expr)(t:TT)(F:DB):Prop where
 p:RJ X ifs t
 t:yt X.K t F
noncomputable def M3:DB:=λ_=>U Uf
def TK:RH c [] a2e M3:=⟨a0a,by intro O a d e H f b Q S X q;cases X;exact q H<|C8.refl H⟩
def TJ(h:lE c p d9 g8):RH c [p] d9 g8:=⟨ZZ h.p,h.t⟩
noncomputable def tgN:Expr->List Str
 |G9 x _=>[x]
 |lY es _ _=>es.filterMap fun|G9 x _=>U x|_=>J
 |_=>[]
structure VS(X:Cx)(e:Expr)(te:TE)(F:DV):Prop where
 p:PX X Uf e te F
 s:∀{i:Nat}{x:Str}{p q:Pos},X.N.Nodup->X.N[i]?=U x->Loc X.env.scope x->ak e (U<|G9 x p) q.line X.env=pure Uf->X.fn x=Uf\/X.env.scope.names.lookup x=U aX->PS X (gB [G9 x p] e q) (xv te<|fk i)
def Pz.x(M:Pz c c9 j5 j0 p Y b5 j8 o6 o7 d9 y)(t:TX c.K Uf (AK c9 o6 o7 d9 y) S):VS c (qZ j8 [⟨p,Y,b5,0⟩] j0 q) (AK c9 o6 o7 d9 y) S:=⟨⟨a4u M,t⟩,λa b X d e=>a4k a b X M d e⟩
def a3N{gt:f9->Option (List f9)}(hc:c.calm=Uf)(hk:tJ c.N j5 c.env.scope j0=Uf)(hb:tgN Y=c9)(T:TGB c.K c9.length o7 gt)(hi:Ep c Uf Y j8 o6 j4)(go:RK c9.length o7)(hg:∀cl C fp s H pins,PG (yp c c9 j5 j0 cl C fp s H pins) Y o7)(ht:∀cl C fp s H pins,RH (yp c c9 j5 j0 cl C fp s H pins) b5 d9 g8)(he:∀cl C fp s H pins,PX (yp c c9 j5 j0 cl C fp s H pins) Uf p y S)(hs:autoParam (Fsi c j8) tM):VS c (qZ p [⟨Y,j8,b5,0⟩] j0 q) (AK c9 o6 o7 d9 y)<|Y8 j4 gt g8 S:=Pz.x ⟨hc,a8P hk,hi.p,go,hg,λ_ _ _ _ _ _=>(ht _ _ _ _ _ _).p,λ_ _ _ _ _ _=>(he _ _ _ _ _ _).p,hs⟩ (by
 intro O h v σ H n pv Q g f j;obtain⟨a,h1,f⟩:=A9 f;obtain⟨hn,f⟩:=P8 f;obtain⟨l,h2,f⟩:=A9 f;cases f;refine hi.t O h v σ H n a _ g h1 λJff H1 N it=>?_;have S1:=g.grow N;refine⟨a.length,λi ys L=>i<=a.length/\C8 H1 L/\∃F M,N2 c.K (K1 L v O) ys F/\U7 gt g8 S n (a.drop i)=U M/\F++M=l,Bx hn,⟨lP _,C8.refl _,[],l,.nil,h2,rfl⟩,?_⟩;rintro i ys L ⟨hi',r,F,M,d1,X,I⟩;have S2:=S1.grow r;obtain⟨R,st',V⟩:=it L (L1.trans r) i;by_cases e:i<a.length
 . refine B6 ⟨R e,e,λx m A=>?_⟩
   obtain⟨D,d,ed,dt⟩:=V x m A e;have dx:=dt v (λb G=>⟨by delta K1;rw[A6<|.inr G],let ⟨_,z⟩:=(S2.new b G).2;⟨_,z⟩⟩) λb G=>by
    obtain⟨o,z⟩:=g.gK b G;refine⟨o,V7.mpr ⟨by simp,λz2=>?_,S1.same _ _ z⟩⟩;rw[(g.new b z2).1]at z;exact nE z
   have P:a.drop i=d::a.drop (i+1):=by
    rw[Ax e];have:a[i]=d:=by have z:=Y2 e;rw[ed]at z;exact(dY z).symm
    rw[this]
   rw[P]at X;obtain⟨k,h3,X⟩:=A9 X;obtain⟨b,h4,X⟩:=A9 X;refine T O v m x d σ k _ dx h3 λvs dv lv=>?_;have W:=(S2.grow D).pre dv;refine((ht [] 0 [] c.ag c.D8 []).t) O h _ _ m _ b _ W h4 λH5 w=>?_
   cases b with
   |false=>
    exact⟨e,(r.trans D).trans w,F,M,d1.same<|Z1<|D.trans w,X,I⟩
   |true=>
    obtain⟨yv,h5,X⟩:=A9 X;obtain⟨l3,h6,X⟩:=A9 X;cases X;refine((he [] 0 [] c.ag c.D8 []).t) O h _ _ H5 _ yv _ (W.grow w) h5 λu H6 e6 r6=>?_
    have d7:Dt c.K (K1 H6 v O) u yv.d:=by have z:Dt c.K (K1 H6 (S9 k.length J++v) O) u yv.d:=(r6.dt (W.grow w).dm);rw[GO]at z;exact z
    exact⟨e,((r.trans D).trans w).trans e6,F++[yv.d],l3,(d1.same<|Z1<|(D.trans w).trans e6).append<|.cons d7 .nil,h6,by rw[<-I];simp⟩
 . have hi2:i=a.length:=by lia
   subst hi2;rw[Ad]at X;cases X;rw[bA]at I;subst I;exact B3 ⟨st' Y1,λE hp=>j _ _ ((N.trans r).trans<|C8.new hp)<|RX.back (qA hp d1)<|N.trans r⟩)
inductive Out where
 |next (ds:Ds)
 |ret (pv:PV)
 |brk (ds:Ds)
 |cont (ds:Ds)
 |up (x:f9)
 |retO (pv:PV) (ds:Ds)
 |upO (th:Bool) (x:f9) (ds:Ds)
abbrev DO:=Ds->Option Out
variable{i9:DO}
inductive a1H(K:D4)(O:List Addr)(H:Hp)(ea:Addr)(x:f9):Prop
 |mk:∀C dx fld v d,(x=dH C fld d)->(kW K C)->(bz K (A5 C) fld=U J)->(H ea=U (.ext<|X5 ea C<|U dx))->(H dx=U (.xd [(fld,v)]))->(dx∉O)->(Dt K (K1 H [] (ea::O)) v d)->a1H K O H ea x
def uF(X:Cx)(O:List Addr)(D8:Hp)(D:Ends):Out->Prop
 | .next ds=>∀as σ H,DS X.K O D8 as σ H ds->D.nx σ H
 | .brk ds=>∀as σ H,DS X.K O D8 as σ H ds->D.bk σ H
 | .cont ds=>∀as σ H,DS X.K O D8 as σ H ds->D.ct σ H
 | .ret pv=>∀v H,C8 D8 H->RX X.K O [] D8 H v pv->D.rt v H
 | .up x=>∀ea H,C8 D8 H->D8 ea=J->a1H X.K O H ea x->∀pins σ s,Inv X pins σ H s->X.xe (A5 ea) s
 | .retO pv ds=>∀as σ Hm H v,DS X.K O D8 as σ Hm ds->C8 Hm H->RX X.K O as Hm H v pv->D.rt v H
 | .upO U' x ds=>∀as σ Hm H ea,DS X.K O D8 as σ Hm ds->C8 Hm H->Hm ea=J->a1H X.K (O++as.filterMap id) H ea x->∀pins σ s,Inv X pins σ H s->X.xe (A5 ea) s
 | .upO Uf x ds=>∀as σ Hm H ea,DS X.K O D8 as σ Hm ds->C8 Hm H->Dt X.K (K1 H as O) (.ref ea) x->X.ek (A5 ea) J H
def TSX(X:Cx)(t:TS)(G:DO):Prop:=
 ∀(O:List Addr) (D8:Hp) (as:As) (σ:St) (H:Hp) (ds:Ds) (D:Ends) (o:Out),DS X.K O D8 as σ H ds->G ds=U o->uF X O D8 D o->t D σ H
structure V3(X:Cx)(st:Stmt)(t:TS)(G:DO):Prop where
 p:PS X st t
 t:TSX X t G
structure iq(X:Cx)(st:List Stmt)(t:TS)(G:DO):Prop where
 p:pw X st t
 t:TSX X t G
noncomputable def D9:DO:=λds=>U<|.next ds
noncomputable def A4(G1 G2:DO):DO:=λds=>(G1 ds).bind λo=>match o with
 | .next ds'=>G2 ds'
 |o=>U o
def ZR:iq c [] a2c D9:=⟨a4i,by intro O a X b H e D o S d q;cases d;exact q X b H S⟩
def ZQ(h:V3 c l9 t5 i9):iq c [l9] t5 i9:=⟨AN h.p,h.t⟩
def Tz{u:TS}{G2:DO}(g:V3 c l9 t5 i9)(h:iq c u5 u G2):iq c (l9::u5) (a6i t5 u)<|A4 i9 G2:=⟨xD g.p h.p,by
 intro O X k j H i D o S a q;obtain⟨f,e1,a⟩:=A9 a;refine g.t O X k j H i {D with nx:=u D} f S e1 ?_
 cases f with
 |next b=>exact λd e l m=>h.t O X d e l b D o m a q
 |ret pv=>cases a;exact q
 |brk b=>cases a;exact q
 |cont b=>cases a;exact q
 |up x=>cases a;exact q
 |retO pv b=>cases a;exact q
 |upO t5 x b=>cases a;cases t5<;>exact q⟩
def a2F(i:Nat)(G:DO):DO:=λds=>G<|a0Z i ds
theorem DS.set(S:DS e P g B G M b7)(i:Nat)(h:Dt e (K1 M B P) b6 i7):DS e P g B (G.set i<|U b6) M<|b7.set i<|sd i7:=by
 obtain⟨f,l,K,k⟩:=S.mX;refine⟨by simp[S.ls],S.same,S.new,S.gK,f,l,K,λj pv a=>?_⟩;by_cases b:i=j;subst b;rw[FF]at a;rw[A6 rfl]at a;obtain⟨O,a⟩:=P8 a;cases a;exact⟨b6,by rw[xg (by rw[S.ls];exact O)],h⟩;rw[ir b]at a;rw[ir b];exact k j pv a
def uS{R:List Addr}(h:C8 g M)(f:∀b∈R,g b=J):C8 (K1 g B P)<|K1 M (R.map U++B) P:=eN λb o i H a=>⟨i,λz=>by
 rcases List.mem_append.mp z with z|z
 obtain⟨j,e,d⟩:=mem_map.mp z;cases d;rw[f _ e]at a;exact nE a
 . exact H z,h _ _ a⟩
def DS.store{f:Hp}(S:DS e P g B G M b7)(t:C8 M f)(i:Nat)(r:RX e P B M f b6 i8):∃n,DS e P g n (G.set i<|U b6) f<|b7.set i<|U i8:=by
 have D:=S.grow t;have Z:∀R:List Addr,(∀b∈R,M b=J)->(∀b∈R,∃u:Cl,f b=U u.1)->DS e P g (R.map U++B) G f b7/\∀b∈R,g b=J/\U b∉B/\∃u:Cl,f b=U u.1:=λR p W=>by
  have X:∀b∈R,U b∉B:=λb K z=>by obtain⟨_,o,z⟩:=S.new b z;rw[p b K]at z;exact nE z
  have q:∀b∈R,g b=J/\U b∉B/\∃u:Cl,f b=U u.1:=λb K=>⟨S.same.free<|p b K,X b K,W b K⟩;obtain⟨F,y,v,I⟩:=S.mX;refine⟨⟨S.ls,D.same,λb K=>?_,S.gK,F,λi b z=>S5 _<|y i b z,v,λj i8 H=>(I j i8 H).Jr (uS t p) (λb _ o z=>t _ _ z) λb z=>z⟩,q⟩
  rcases List.mem_append.mp K with z|z
  obtain⟨b',A,E⟩:=mem_map.mp z;cases E;exact⟨(q _ A).1,(q _ A).2.2⟩;exact D.new b z
 have N:∀R:List Addr,(∀b∈R,M b=J)->(∀b∈R,∃u:Cl,f b=U u.1)->fT e P (R.map U++B) f (U<|U b6) R i8->∃n,DS e P g n (G.set i<|U b6) f<|b7.set i<|U i8:=λR p W Y=>by
  obtain⟨T,q⟩:=Z R p W;obtain⟨F,y,v,I⟩:=S.mX;refine⟨_,by simp[S.ls],D.same,T.new,S.gK,λj=>if j=i then R else F j,λj b K=>?_,λj k b x s=>?_,λj i8 H=>?_⟩
  . dsimp only at K;split at K;exact fw _<|mem_map.mpr ⟨b,K,rfl⟩;exact S5 _<|y j b K
  . dsimp only at x s;split at x
    . split at s;rename_i A E;rw[A,E];exact absurd (y k b s) (q b x).2.1
    . split at s;exact absurd (y j b x) (q b s).2.1;exact v j k b x s
  . by_cases m:i=j
    . subst m;rw[FF]at H;rw[A6 rfl]at H;obtain⟨Q,H⟩:=P8 H;cases H;dsimp only;rw[A6 rfl,xg (by rw[S.ls];exact Q)];exact Y
    . rw[ir m]at H;dsimp only;rw[B2<|λz=>m z.symm,ir m];exact(I j i8 H).Jr (uS t p) (λb _ o z=>t _ _ z) λb z=>z
 cases i8 with
 |dat d=>exact⟨_,D.set i r⟩
 |ob w c=>
  obtain⟨o,R,rfl,L,C,h⟩:=r;exact N R C h.at ⟨o,R,rfl,L,λb z=>z,h⟩
 |own l=>
  obtain⟨a,O,rfl,L,C,h⟩:=r;refine N [a] (λb K=>?_) (λb K=>?_) ⟨a,O,rfl,K9,C,h⟩;rw[mem_singleton.mp K];exact L;rw[mem_singleton.mp K];exact⟨Cl.l O,C⟩
noncomputable def fB(i:Nat)(F:DV):DO:=λds=>(F ds).bind λpv=>U<|.next<|ds.set i<|U pv
noncomputable def B0(i:Nat)(F:DV):DO:=λds=>(F ds).bind λpv=>U<|.next<|ds.set i<|U<|.dat pv.d
def a4b(r:c.N.Nodup)(l:c.N[o]?=U t)(k:Loc c.env.scope t)(d:PX c Uf p y S)(hs:autoParam (ak p (U<|G9 t b8) q.line c.env=pure U') B7)(n:autoParam (yz c t) gQ):
  V3 c (gB [G9 t b8] p q) (xv y<|fk o) (fB o S):=⟨Dp r l k d.p hs n,by
 intro O b j g H f D i e h F;obtain⟨pv,e1,h⟩:=A9 h;cases h;refine d.t O b j g H f pv _ e e1 λv w m s=>?_
 obtain⟨X,u⟩:=e.store m o s;exact F X _ _ u⟩
def ZL(n:c.N.Nodup)(k:c.N[o]?=U t)(j:Loc c.env.scope t)(X:PX c Uf p y S)(hs:autoParam (ak p (U<|G9 t b8) q.line c.env=pure U') B7)(m:autoParam (yz c t) gQ):
  V3 c (gB [G9 t b8] p q) (xv y<|fk o) (B0 o S):=⟨Dp n k j X.p hs m,by
 intro O b g f H d D i e h F;obtain⟨pv,e1,h⟩:=A9 h;cases h;refine X.t O b g f H d pv _ e e1 λv s l r=>?_
 exact F _ _ _<|(e.grow l).set o<|r.dt e.dm⟩
noncomputable def a8p(i j:Nat)(Fl:DL):DO:=λds=>(Fl ds).bind λl=>match l with
 | [a,b]=>U<|.next<|(ds.set i<|U<|.dat a).set j<|U<|.dat b
 |_=>J
noncomputable def D7(F:DV):DO:=λds=>(F ds).bind λpv=>U<|.ret pv
def Oo{fr:Bool}(X:PX c fr p y S):V3 c (wR (U p) q) (BZ y)<|D7 S:=⟨yS X.p,by
 intro O a g f H d D o e h F;obtain⟨pv,e1,h⟩:=A9 h;cases h;refine X.t O a g f H d pv _ e e1 λv k i j=>?_
 exact F v k (e.same.trans i)<|(j.back e.same).less λb z=>by simp at z⟩
noncomputable def bK(i:Nat):DO:=λds=>match ds[i]? with
 |some (U pv)=>U<|.ret pv
 |_=>J
def ZM(i:Nat)(h:PE c p<|S7 i):V3 c (wR (U p) q) (BZ<|S7 i)<|bK i:=⟨yS h,by
 intro O j B A H E D o S h x;unfold bK at h;split at h
 . rename_i pv n;cases h;have g:=S.slot i pv n;cases pv with
   |dat d=>
    obtain⟨v,f,h⟩:=g;exact⟨v,f,x v H S.same<|Dt.same (eF (C8.refl _) λb z=>by simp at z) h⟩
   |own l=>
    obtain⟨a,u,f,k,s,h⟩:=g;refine⟨_,f,x _ H S.same ⟨a,u,rfl,(S.new a k).1,s,h.same<|eF (C8.refl _) λb z=>?_⟩⟩
    simp_all
   |ob w X=>
    obtain⟨o,R,f,y,m,h⟩:=g;refine⟨_,f,x _ H S.same ⟨o,R,rfl,y,λb t=>(S.new b<|m b t).1,h.same (eF (C8.refl _) λb z=>?_)<|λ_ _ _ z=>z⟩⟩;rw[bA]at z;obtain⟨C,r,e⟩:=mem_map.mp z;cases e;exact m _ r
 . exact nE h⟩
noncomputable def a2D:DO:=λ_=>U<|.ret<|.dat F3
noncomputable def J4(Ft:DB)(G1 G2:DO):DO:=λds=>(Ft ds).bind λb=>if b=Uf then G1 ds else G2 ds
def a6Z{sb:List Stmt}{u:TS}{G2:DO}(g:lE c p d9 g8)(k:iq c u5 t5 i9)(i:iq c sb u G2):V3 c (LX p u5 sb q) (YT d9 t5 u)<|J4 g8 i9 G2:=⟨a2n g.p k.p i.p,by
 intro O a f e H d D o S h X;obtain⟨b,e1,h⟩:=A9 h;refine g.t O a f e H d b _ S e1 λl j=>?_
 cases b with
 |true=>exact k.t O a f e l d D o (S.grow j) h X
 |false=>exact i.t O a f e l d D o (S.grow j) h X⟩
noncomputable def a2E:DO:=λds=>U<|.next ds
noncomputable def Vp:DO:=λds=>U<|.brk ds
noncomputable def a2H:DO:=λds=>U<|.cont ds
noncomputable def fP:DO:=λ_=>J
def Hw{st:Stmt}:V3 c st CW fP:=⟨ZT,by exact λO a X b H d D o S h q=>nE h⟩
noncomputable def a2G(F:DV):DO:=λds=>(F ds).bind λ_=>U<|.next ds
def DS.Iv{K:PV}{u:Cl}{c:Nat->List Addr}(S:DS e P g B G M b7)(hd:b7[o]?=U (U i8))(m:∀o b,b∈c o->U b∈B)(n:∀o j b,b∈c o->b∈c j->o=j)(s:∀(o:Nat) (i8:PV),b7[o]?=U (U i8)->fT e P B M G[o]? (c o) i8)(l:N∈c o)(r:C8 (K1 M B P) (K1 (upd M N u.1) B P)->fT e P B (upd M N u.1) G[o]? (c o) K):DS e P g B G (upd M N u.1)<|b7.set o<|U K:=by
 have sm:C8 (K1 M B P)<|K1 (upd M N u.1) B P:=eN λb H t p v=>⟨t,p,by rw[F9<|λz=>p (by rw[z];exact m o N l)];exact v⟩;have q:=(List.getElem?_eq_some_iff.mp hd).1;refine⟨by simp[S.ls],λb H h=>?_,λb O=>⟨(S.new b O).1,?_⟩,S.gK,c,m,n,λj i8 k=>?_⟩
 . rw[F9<|λz=>?_];exact S.same _ _ h;rw[z,(S.new N<|m o N l).1]at h;exact nE h
 . by_cases z:b=N;exact⟨u,by rw[z];exact K8⟩;obtain⟨_,H,h⟩:=S.new b O;exact⟨H,by rw[F9 z];exact h⟩
 . by_cases d:o=j;subst d;rw[xg q]at k;cases k;exact r sm
   . rw[ir d]at k;refine(s j i8 k).Jr sm (λb O H z=>?_) λb z=>z;rw[F9<|λw=>d<|n o j N l (by rw[<-w];exact O)];exact z
def DS.turn{h:List f9}(S:DS e P g B G M b7)(hd:b7[o]?=U (U<|.own c8))(f:G[o]?=U (U<|.ref N))(k:N2 e (K1 M B P) b9 h):
  DS e P g B G (upd M N<|.lst b9) (b7.set o<|U<|.own h):=by obtain⟨n,m,j,O⟩:=S.mX;obtain⟨r,p,K,d,H,q⟩:=O o _ hd;rw[f]at K;cases K;exact S.Iv (u:=Cl.l b9) hd m j O d λsm=>⟨N,b9,f,d,K8,k.same sm⟩
noncomputable def ij(i:Nat)(F:DV):DO:=λds=>(F ds).bind λpv=>match ds[i]? with
 |some (U<|.own l)=>if l.length<1000000 then U (.next<|ds.set i<|U<|.own<|l++[pv.d])else J
 |_=>J
def a4h(i:Nat)(C:PE c Y<|S7 i)(w:PX c Uf p y S)(bm:autoParam (Gj c Y "append" k7 p [] b8) qI)(hs:autoParam (ak (L8 (Q0 Y "append" k7) [p] [] b8) J q.line c.env=pure U') B7):
  V3 c (ui (L8 (Q0 Y "append" k7) [p] [] b8) q) (AJ<|Bw c.K "list" Oi (S7 i)<|fj y pA) (ij i S):=
 ⟨mY (AQ uA PySem.F.slot_list_append PySem.F.type_list_append Uw C (bg w.p jt bm.s) bm) hs,by
 intro O g u n H z D Y e h o;obtain⟨pv,e1,h⟩:=A9 h;split at h
 . rename_i l m;obtain⟨G,h⟩:=P8 h;cases h;obtain⟨a,A,r,E,s,X⟩:=e.slot i _ m;refine⟨_,r,B3 ⟨rfl,A,X6.of s⟩,?_⟩;refine w.t O g u n H z pv _ e e1 λv I k B=>?_;have:=X.length;refine⟨a,A,v,rfl,rfl,k _ _ s,Q8 V8<|Bx Y1,o u n _ ?_⟩;exact(e.grow k).turn m r ((X.same<|Z1 k).append<|.cons (B.dt e.dm) .nil)
 . exact nE h⟩
def DS.rebase(S:DS e P g B G M b7):DS e P (K1 M B []) B G M b7 where
 ls:=S.ls
 same:=L1
 new:=λa h=>⟨by delta K1;rw[A6<|.inr h],(S.new a h).2⟩
 gK:=λa h=>by
  obtain⟨o,z⟩:=S.gK a h;refine⟨o,V7.mpr ⟨by simp,λq=>?_,S.same _ _ z⟩⟩;rw[(S.new a q).1]at z;exact nE z
 mX:=S.mX
def DS.qu{H:Hp}(S:DS e P M B G H b7)(K:C8 g M)(hd:∀a∈P,∃o,g a=U o):DS e P g B G H b7:=
 ⟨S.ls,K.trans S.same,λa h=>⟨K.free (S.new a h).1,(S.new a h).2⟩,hd,S.mX⟩
def DS.a6e(S:DS e P g B G M b7):C8 g<|K1 M B []:=λb o h=>by
 refine V7.mpr ⟨by simp,λq=>?_,S.same _ _ h⟩;rw[(S.new b q).1]at h;exact nE h
theorem uF.qu{X:Cx}{O:List Addr}{D8 Hb:Hp}{D:Ends}{o:Out}(h:uF X O D8 D o)(e:C8 D8 Hb)(hd:∀a∈O,∃u,D8 a=U u):uF X O Hb D o:=by
 cases o with
 |next d=>exact λc b H S=>h c b H<|S.qu e hd
 |brk d=>exact λc b H S=>h c b H<|S.qu e hd
 |cont d=>exact λc b H S=>h c b H<|S.qu e hd
 |ret pv=>exact λv H s r=>h v H (e.trans s)<|r.back e
 |up x=>exact λf H s n u=>h f H (e.trans s) (e.free n) u
 |retO pv d=>exact λc b g H v S s r=>h c b g H v (S.qu e hd) s r
 |upO t x d=>cases t with
  |false=>exact λc b g H v S s n u=>h c b g H v (S.qu e hd) s n u
  |true=>exact λc b g H v S s u=>h c b g H v (S.qu e hd) s u
def TGX(K:D4)(g:TG)(gt:f9->DD):Prop:=
 ∀(O:List Addr) (D8:Hp) (as:As) (σ:St) (H:Hp) (ds ds':Ds) (v:V) (d:f9) (Q:St->Hp->Prop),DS K O D8 as σ H ds->Dt K (K1 H as O) v d->gt d ds=U ds'->(∀as' σ',DS K O D8 as' σ' H ds'->Q σ' H)->g v σ H Q
noncomputable def K5(i:Nat):f9->DD:=λd ds=>U<|ds.set i<|U<|.dat d
def YM:TGX e (fk o)<|K5 o:=by intro O a f c H g b v d Q S h K q;cases K;exact q _ _<|S.set o h
def RF(K:D4)(g:BP)(gt:List f9->DD):Prop:=
 ∀(O:List Addr) (D8:Hp) (as:As) (σ:St) (H:Hp) (ds ds':Ds) (vs:List V) (l:List f9) (Q:St->Hp->Prop),DS K O D8 as σ H ds->N2 K (K1 H as O) vs l->gt l ds=U ds'->(∀as' σ',DS K O D8 as' σ' H ds'->Q σ' H)->g vs σ H Q
def mK:List f9->DD
 | [],ds=>U ds
 |_,_=>J
def aw(i:Nat)(r:List f9->DD):List f9->DD
 |d::l,ds=>r l<|ds.set i<|U<|.dat d
 | [],_=>J
def mJ(n:Nat)(r:List f9->DD):f9->DD
 |B4 l,ds=>if l.length=n then r l ds else J
 |_,_=>J
def YN:RF e Ro mK:=by
 intro O a d c H f b g l Q S h K q;cases h with
 |nil=>cases K;exact⟨rfl,q _ _ S⟩
 |cons _ _=>exact nE K
def Sl{r:List f9->DD}(c:RF e t8 r):RF e (Bf (fk o) t8)<|aw o r:=by
 intro O a f d H j b k l Q S h K q;cases h with
 |nil=>exact nE K
 |cons h t=>
  exact⟨_,_,rfl,c O a _ _ H _ b _ _ Q (S.set o h) t K q⟩
set_option tactic.hygienic true in
def a3r{r:List f9->DD}(t:RF e t8 r):TGX e (KO e o t8)<|mJ o r:=by
 intro O b p m H k ds' v d Q S h K q;cases h with
 |tup s i=>
  rename_i a j l;have f:=K;obtain⟨n,f⟩:=P8 f;exact⟨a,j,rfl,L1.mI s,by rw[i.length];exact n,t O b p m H k ds' j l Q S i f q⟩
 |_=>exact nE K
def O9(gt:f9->DD)(G:DO):List f9->DO
 | [],ds=>U<|.next ds
 |x::r,ds=>(gt x ds).bind λds1=>(G ds1).bind λo=>match o with
  | .next ds2=>O9 gt G r ds2
  | .cont ds2=>O9 gt G r ds2
  | .brk ds2=>U<|.next ds2
  | .ret pv=>U<|.ret pv
  | .up x=>U<|.up x
  | .retO pv ds2=>U<|.retO pv ds2
  | .upO t x ds2=>U<|.upO t x ds2
def bc(Fi:DL)(gt:f9->DD)(G:DO):DO:=λds=>(Fi ds).bind λitems=>O9 gt G items ds
def a4f(hp:Eu (model c.prog c.w) c.A c.env c.xe)(hc:c.calm=Uf)(Z:TGX c.K o7 u6)(hi:Ep c Uf p Y o6 j4)(hg:PG c p o7)(C:iq c u5 t5 i9)(hs:autoParam (Fsi c Y) tM):V3 c (PySem.Stmt.For p Y u5 [] q) (a6l o6 o7 t5)<|bc j4 u6 i9:=⟨a7a hp hc hi.p hg C.p hs,by
 intro O M N σ H W D o S h G;obtain⟨a,e1,h⟩:=A9 h;refine hi.t O M N σ H W a _ S e1 λJff H1 s1 it=>?_;have S1:=S.grow s1;have L:=G.qu S1.a6e S.gK;refine⟨λi m l n=>i<=a.length/\m=a.length-i/\∃r k,DS c.K O (K1 H1 N []) r l n k/\O9 u6 i9 (a.drop i) k=U o,⟨_,lP _,rfl,N,W,S1.rebase,h⟩,?_⟩;rintro i m I H2 ⟨hi',em,s,E,B,X⟩;obtain⟨R,st',V⟩:=it H2 B.same i;by_cases e:i<a.length
 . have ed':=Ax e;rw[ed']at X;obtain⟨v,e3,X⟩:=A9 X;obtain⟨o4,e4,X⟩:=A9 X;refine B6 ⟨R e,λl n=>∃r k,DS c.K O (K1 H1 N []) r l n k/\O9 u6 i9 (a.drop<|i+1) k=U o,λl n z=>⟨a.length-(i+1),by lia,e,rfl,z⟩,λx n y=>?_⟩
   obtain⟨e5,d,ed,dt⟩:=V x n y e;have Q:a[i]=d:=by rw[Y2 e]at ed;exact dY ed
   rw[Q]at e3;refine Z O _ s I n E v x d _ (B.grow e5) (dt s (λb C=>⟨(B.new b C).1,let ⟨_,z⟩:=(B.new b C).2;⟨_,z⟩⟩) B.gK) e3 λg σ4 S4=>?_
   refine C.t O _ g σ4 n v _ o4 S4 e4 ?_;cases o4 with
   |next j=>exact λf u P F=>⟨f,j,F,X⟩
   |cont j=>exact λf u P F=>⟨f,j,F,X⟩
   |brk j=>cases X;assumption
   |ret pv=>cases X;exact L
   |up x=>cases X;exact L
   |retO pv j=>cases X;exact L
   |upO t x j=>cases X;cases t<;>exact L
 . have T:i=a.length:=by lia
   subst T;rw[Ad]at X;cases X;exact B3 ⟨st' Y1,L s I H2 B⟩⟩
def Q4(Fc:DB)(G:DO):Nat->DO
 | 0,_=>J
 |n+1,ds=>(Fc ds).bind λb=>if b=Uf then(G ds).bind λo=>match o with
   | .next ds2=>Q4 Fc G n ds2
   | .cont ds2=>Q4 Fc G n ds2
   | .brk ds2=>U<|.next ds2
   | .ret pv=>U<|.ret pv
   | .up x=>U<|.up x
   | .retO pv ds2=>U<|.retO pv ds2
   | .upO t x ds2=>U<|.upO t x ds2
  else U<|.next ds
def lu(μ:Ds->Nat)(Fc:DB)(G:DO):DO:=λds=>Q4 Fc G (μ ds) ds
def To(μ:Ds->Nat)(P:Eu (model c.prog c.w) c.A c.env c.xe)(C:lE c p d9 g8)(y:iq c u5 t5 i9):V3 c (Wu p u5 [] q) (So d9 t5)<|lu μ g8 i9:=⟨ZS P C.p y.p,by
 intro O d M Q H N D o S h X;refine⟨λm i r=>∃k f,DS c.K O d k i r f/\Q4 g8 i9 m f=U o,⟨_,M,N,S,h⟩,?_⟩
 rintro m j I ⟨l,g,s,a⟩;cases m with
 |zero=>exact nE a
 |succ m=>
  obtain⟨b,e1,a⟩:=A9 a;refine C.t O d l j I g b _ s e1 λF E=>?_
  cases b with
  |false=>
   cases a;exact X l j F<|s.grow E
  |true=>
   obtain⟨B,e4,a⟩:=A9 a;refine⟨λi r=>∃k f,DS c.K O d k i r f/\Q4 g8 i9 m f=U o,λi r z=>⟨m,FA _,z⟩,?_⟩
   refine y.t O d l j F g _ B (s.grow E) e4 ?_;cases B with
   |next e=>exact λn u L v=>⟨n,e,v,a⟩
   |cont e=>exact λn u L v=>⟨n,e,v,a⟩
   |brk e=>cases a;exact X
   |ret pv=>cases a;exact X
   |up x=>cases a;exact X
   |retO pv e=>cases a;exact X
   |upO t x e=>cases a;cases t<;>exact X⟩
noncomputable def dG:Out->Option PV
 | .ret pv=>U pv
 | .next _=>U<|.dat F3
 |_=>J
def N1(n N:Nat)(G:DO):FV:=λl=>if l.length=n then(G<|iY l++S9 (N-n) J).bind dG else J
theorem DS.start(c:∀a∈P,∃u,g a=U u)(h:N2 e (K1 g [] P) b9 c8):DS e P g (S9 (iY c8++S9 (c9.length-c8.length) J).length J) (start c9 b9) g<|iY c8++S9 (c9.length-c8.length) J:=by
 have d:DS e P g (S9 (c9.length-c8.length) J) (S9 (c9.length-c8.length) J) g<|S9 (c9.length-c8.length) J:=
  ⟨by simp,C8.refl g,λa z=>absurd z vM,c,λ_=>[],λi b z=>absurd z C9,λi j b z=>absurd z C9,λi pv z=>by have:=wZ z;simp[WT]at this⟩
 have K:(S9 (iY c8++S9 (c9.length-c8.length) J).length J:As)=S9 c8.length J++S9 (c9.length-c8.length) J:=by
  congr 1
  simp[iY]
 rw[K];delta L2.start;rw[h.length];exact(d.pre (by rw[a5g];exact h))
def gf.okF(F:gf e t h8 l9 N m9) (S:fF c9 j5<|K0 l9) (R:j5.length<=c9.length) (d:∀(c:A1) (P:X1) (outer:List Env) (s:C5) (H:Hp) (E:XK),aG o (P.deeper<|bq h8 (K0 l9) (hz s) N c) ->
   ∃x,iq (fD jm A D e j7 T c9 h8 (K0 l9) N c P outer s H E).HD (aM l9) x i9):Y6 A D e j7 T jm (o+1) N m9 j5<|vK e<|N1 j5.length c9.length i9:=by
 have w:∀j H Q E,vK e (N1 j5.length c9.length i9) j H Q E->j.length=j5.length:=λj H Q E h=>by obtain⟨O,n,pv,z,u,a,q⟩:=h;obtain⟨l,a⟩:=P8 a;rw[u.length];exact l
 refine F.ok S w λc P outer s H j Q E B h=>?_
 obtain⟨O,n,pv,z,u,a,q⟩:=h;obtain⟨x,y⟩:=d c P outer s H E B;refine⟨x,y.p,?_⟩;obtain⟨l,a⟩:=P8 a;rw[<-l]at a;obtain⟨b,e1,a⟩:=A9 a;refine y.t O H _ (L2.start c9 j) H _ _ b (DS.start z u) e1 ?_;cases b with
 |next K=>cases a;exact λM L m I=>q _ m I.same Dt.non
 |ret C=>cases a;assumption
 |brk K=>exact nE a
 |cont K=>exact nE a
 |up t=>exact nE a
 |retO pv K=>exact nE a
 |upO x t K=>exact nE a
noncomputable instance {m:Nat}{i:Int}:Decidable<|Bt m i:=decidable_of_iff (i.natAbs<2^m) ⟨λh=>⟨h⟩,λh=>h.lt⟩
noncomputable instance {i j:Int}:Decidable<|CP i j:=by delta CP;infer_instance
noncomputable def OQ(g:Int->Int->f9):f9->f9->Option PV
 |p6 i,p6 j=>U<|.dat<|g i j
 |_,_=>J
noncomputable def CA(C:Int->Int->Prop)[∀i j,Decidable<|C i j](g:Int->Int->f9):f9->f9->Option PV
 |p6 i,p6 j=>if C i j then U (.dat<|g i j)else J
 |_,_=>J
section
def yQ{g:Int->Int->V}{g':Int->Int->f9}(b:∀i j H,Dt e H (g i j)<|g' i j):aZ e (sQ g)<|OQ g':=by
 intro O h H x y d K pv Q D c f a q;cases c with
 |int i=>
  cases f with
  |int j=>
   cases a;exact⟨i,j,rfl,rfl,q _ H (C8.refl H)<|b i j _⟩
  |_=>exact nE a
 |_=>exact nE a
def Dk{C c:Int->Int->Prop}[∀i j,Decidable<|C i j]{g:Int->Int->V}{g':Int->Int->f9}(k:∀i j,C i j->c i j)(f:∀i j H,Dt e H (g i j)<|g' i j):aZ e (rI c g)<|CA C g':=by
 intro O n H x y d K pv Q D h l b q;cases h with
 |int i=>
  cases l with
  |int j=>
   have a:=b;obtain⟨m,a⟩:=P8 a;cases a;exact⟨i,j,rfl,rfl,k i j m,q _ H (C8.refl H)<|f i j _⟩
  |_=>exact nE b
 |_=>exact nE b
def kM:=OQ λi j=>p6<|i-j
def sY:=CA (λi j=>Bt 60000 i/\Bt 60000 j) λi j=>p6<|i*j
def cv:=CA (λ_ j=>j≠0/\Bt 8000 j) λi j=>p6<|i.fdiv j
def Q1:=CA (λ_ j=>j≠0) λi j=>p6<|i.fmod j
def QC:=CA CP λi j=>p6<|i^j.toNat
def jd:=OQ λi j=>E5<|decide (i<j)
def pq:=OQ λi j=>E5<|decide (i<=j)
def lq:=OQ λi j=>E5<|decide (j<i)
def HQ:=OQ λi j=>E5<|decide (j<=i)
def a9o:aZ e (sQ λi j=>.int<|i-j) kM:=yQ λi j H=>.int _
def a9t:aZ e (rI (λi j=>Bt 60000 i/\Bt 60000 j) λi j=>.int<|i*j) sY:=Dk (λ_ _ h=>h) λi j H=>.int _
def a5T:aZ e (rI (λ_ j=>j≠0/\Bt 8000 j) λi j=>.int<|i.fdiv j) cv:=Dk (λ_ _ h=>h) λi j H=>.int _
def a9u:aZ e (rI (λ_ j=>j≠0) λi j=>.int<|i.fmod j) Q1:=Dk (λ_ _ h=>h) λi j H=>.int _
def a9r:aZ e (rI CP λi j=>.int<|i^j.toNat) QC:=Dk (λ_ _ h=>h) λi j H=>.int _
def a5P:aZ e (sQ λi j=>.bl<|decide (i<j)) jd:=yQ λi j H=>.bl _
def PH:aZ e (sQ λi j=>.bl<|decide (i<=j)) pq:=yQ λi j H=>.bl _
def b1z:aZ e (sQ λi j=>.bl<|decide (j<i)) lq:=yQ λi j H=>.bl _
def b1A:aZ e (sQ λi j=>.bl<|decide (j<=i)) HQ:=yQ λi j H=>.bl _
noncomputable def kO:f9->Option PV
 |p6 i=>U<|.dat<|p6<|-i
 |_=>J
def a9s:R1X e (rU λi=>.int<|-i) kO:=by
 intro O c H x d pv Q D b a q;cases b with
 |int i=>cases a;exact⟨i,rfl,q _ H (C8.refl H)<|Dt.int _⟩
 |_=>exact nE a
noncomputable def J5:f9->f9->Option PV
 |f6 i,f6 j=>U<|.dat<|E5<|decide (i=j)
 |d,e=>if cE d=Uf/\cE e=Uf then U (.dat<|E5<|cW d e)else J
noncomputable def V6:f9->f9->Option PV
 |f6 i,f6 j=>U<|.dat<|E5<|!decide (i=j)
 |d,e=>if cE d=Uf/\cE e=Uf then U (.dat<|E5<|!PyData.eqv d e)else J
def Qt(K:D4):R2:=λx y H Q=>rEq x y H Q\/∃d e,Dt K H x d/\Dt K H y e/\cE d=Uf/\cE e=Uf/\Q (.bl<|cW d e) H
def Qs(K:D4):R2:=λx y H Q=>rNe x y H Q\/∃d e,Dt K H x d/\Dt K H y e/\cE d=Uf/\cE e=Uf/\Q (.bl<|!PyData.eqv d e) H
def Ug(a:c.A.units+64<aQ):X4 c (V9 Mc)<|Qt c.K:=b0j.or<|a7y a
def Uc(a:c.A.units+64<aQ):X4 c (V9 Mr)<|Qs c.K:=b0g.or<|a7u a
set_option tactic.hygienic true in
def a5U:aZ e (Qt e) J5:=by
 intro O g H x y d K pv Q D b f a q;unfold J5 at a;split at a;cases a;cases b;cases f;rename_i i j;exact B3 ⟨rfl,q _ H (C8.refl H) (by rw[show decide (V.str i=V.str j)=decide (i=j) by simp];exact Dt.bl _)⟩;obtain⟨c,a⟩:=P8 a;cases a;exact B6 ⟨d,K,b.same L1,f.same L1,c.1,c.2,q _ H (C8.refl H)<|Dt.bl _⟩
set_option tactic.hygienic true in
def a5O:aZ e (Qs e) V6:=by
 intro O g H x y d K pv Q D b f a q;unfold V6 at a;split at a;cases a;cases b;cases f;rename_i i j;exact B3 ⟨rfl,q _ H (C8.refl H) (by rw[show decide (V.str i=V.str j)=decide (i=j) by simp];exact Dt.bl _)⟩;obtain⟨c,a⟩:=P8 a;cases a;exact B6 ⟨d,K,b.same L1,f.same L1,c.1,c.2,q _ H (C8.refl H)<|Dt.bl _⟩
noncomputable def K7:f9->Bool
 |F3=>Uf
 |_=>U'
def Dt.Oz(h:Dt e g b6 i7):decide (b6=.non)=K7 i7:=by cases h<;>rfl
def cS:f9->f9->Option PV
 |d,F3=>U<|.dat<|E5<|K7 d
 |_,_=>J
def DI:f9->f9->Option PV
 |d,F3=>U<|.dat<|E5<|!K7 d
 |_,_=>J
def b1x:aZ e (λx y H Q=>y=.non/\Q (.bl<|decide (x=.non)) H) cS:=by
 intro O f H x y d K pv Q D b c a q;cases c with
 |non=>cases a;exact⟨rfl,q _ H (C8.refl H) (by rw[b.Oz];exact Dt.bl _)⟩
 |_=>exact nE a
def a3d:aZ e (λx y H Q=>y=.non/\Q (.bl<|!decide (x=.non)) H) DI:=by
 intro O f H x y d K pv Q D b c a q;cases c with
 |non=>cases a;exact⟨rfl,q _ H (C8.refl H) (by rw[b.Oz];exact Dt.bl _)⟩
 |_=>exact nE a
def J2(d:f9):f9->Option PV
 |p6 i=>match d with
  |B8 l=>(Y5 l i).bind λd=>U<|.dat d
  |B4 l=>(Y5 l i).bind λd=>U<|.dat d
  |f6 z=>if z.length<=1000000 then(Y5 z.cps.toList i).bind λc=>U (.dat<|f6 ⟨#[c]⟩)else J
  |_=>J
 |_=>J
theorem N2.Y5{K:D4}{H:Hp}{xs:List V}{l:List f9}{i:Int}{d:f9}(h:N2 K H xs l)(e:L2.Y5 l i=U d):∃x,L2.Y5 xs i=U x/\Dt K H x d:=by
 unfold L2.Y5 at e|-;rw[h.length];cases hi:Kz l.length i with
 |none=>simp_all
 |some j=>
  rw[hi]at e;exact h.get e
def b1w:aZ e (rIx e) J2:=by
 intro O r H x y d K pv Q D p m f q;cases m with
 |int i=>cases p with
  |lst j n=>
   obtain⟨d,a,b⟩:=A9 f;cases b;obtain⟨v,h,k⟩:=n.Y5 a;exact B3 ⟨_,_,i,v,rfl,rfl,L1.seq j,h,q v H (C8.refl H) k⟩
  |tup j n=>
   obtain⟨d,a,b⟩:=A9 f;cases b;obtain⟨v,h,k⟩:=n.Y5 a;exact B6<|B3 ⟨_,_,i,v,rfl,rfl,L1.mI j,h,q v H (C8.refl H) k⟩
  |str z=>
   obtain⟨o,b⟩:=P8 f;obtain⟨c,a,b⟩:=A9 b;cases b;exact B6<|B6 ⟨z,i,c,rfl,rfl,Bx o,a,q _ H (C8.refl H)<|Dt.str _⟩
  |_=>exact nE f
 |_=>exact nE f
end
def a2l(K:D4):R2:=λx y H Q=>∃a b xs ys,x=.ref a/\y=.ref b/\cM K H a xs/\cM K H b ys/\xs.length+ys.length<=G7 /\
 (xs=[]->Q (.ref b) H)/\(xs≠[]->ys=[]->Q (.ref a) H)/\(xs≠[]->ys≠[]->∀p,H p=J->Q (.ref p) (upd H p<|.tup<|xs++ys))
def a2m(K:D4):R2:=λx y H Q=>∃a b xs ys,x=.ref a/\y=.ref b/\X6 K H a xs/\X6 K H b ys/\xs.length+ys.length<=G7/\∀p,H p=J->Q (.ref p) (upd H p<|.lst<|xs++ys)
def a4C:X4 c (eU qY)<|a2l c.K:=by
 intro X s q H x y v u Q I f l h;obtain⟨a,b,g,w,rfl,rfl,i,j,t,n,q2,B⟩:=h;by_cases d:g=[];subst d;cases f;cases l;obtain⟨A,o,z,_⟩:=I.tuple i;obtain⟨k,C,r,_⟩:=I.tuple j;exact a5z z r (o.AW.mpr rfl) ⟨.ref b,H,I,rfl,n rfl⟩;exact a4D X s q H (.ref a) (.ref b) v u Q I f l ⟨a,b,g,w,rfl,rfl,i,j,d,t,λe=>q2 d e,λe p m=>B d e p m⟩
def a4E:X4 c (eU qY)<|a2m c.K:=by
 intro w s V H x y v u Q I A P h;obtain⟨l,b,R,Y,rfl,rfl,G,B,W,q⟩:=h;cases A;cases P;obtain⟨X,r,L,S⟩:=I.list G;obtain⟨a,m,E,T⟩:=I.list B;obtain⟨⟨N,M,o,C⟩,t,D,n,O⟩:=L.isList;obtain⟨⟨p,f,g,i⟩,d,k,z,j⟩:=E.isList;subst D O k j;have e:X.toArray++a.toArray=(X++a).toArray:=by simp
 have:=r.length;have:=m.length;refine EK ⟨_,t,rfl⟩ ⟨_,d,rfl⟩ noFill_list_add seq_list_add PySem.F.slot_list_add PySem.F.entry_list_add (PySem.F.args_list_add_2 _ _) (list_addW l b X.toArray a.toArray n z M f C i (by simp;simp_all)) ⟨t,d,?_⟩;rw[e];exact⟨.ref _,_,I.b1J (r.append m) (by rw[R5];subst_vars;assumption),rfl,q _ I.fresh⟩
def Qv(K:D4):R2:=λx y H Q=>(sQ λi j=>.int<|i+j) x y H Q\/(∃i j,x=.str i/\y=.str j/\i.length+j.length<=G7/\Q (.str<|i++j) H)\/a2l K x y H Q\/a2m K x y H Q
def a4F:X4 c (eU qY)<|Qv c.K:=a7z.or<|QH.or<|a4C.or a4E
noncomputable def D5:f9->f9->Option PV
 |p6 i,p6 j=>U<|.dat<|p6<|i+j
 |f6 i,f6 j=>if i.length+j.length<=1000000 then U (.dat<|f6<|i++j)else J
 |B4 l,B4 m=>if l.length+m.length<=1000000 then U (.dat<|B4<|l++m)else J
 |B8 l,B8 m=>if l.length+m.length<=1000000 then U (.own<|l++m)else J
 |_,_=>J
set_option tactic.hygienic true in
def a9A:aZ e (Qv e) D5:=by
 intro O A H x y d K pv Q D w r g q;cases w with
 |int i=>
  cases r with
  |int j=>cases g;exact B3 ⟨i,j,rfl,rfl,q _ H (C8.refl H)<|Dt.int _⟩
  |_=>exact nE g
 |str i=>
  cases r with
  |str j=>
   have c:=g;obtain⟨o,c⟩:=P8 c;cases c;exact B6<|B3 ⟨i,j,rfl,rfl,Bx o,q _ H (C8.refl H)<|Dt.str _⟩
  |_=>exact nE g
 |tup s k=>
  cases r with
  |tup h f=>
   rename_i a t l b u m;have c:=g;obtain⟨o,c⟩:=P8 c;cases c;refine B6 (B6<|B3 ⟨a,b,t,u,rfl,rfl,L1.mI s,L1.mI h,by rw[k.length,f.length];exact Bx o,λK=>?_,λz v=>?_,λz v p n=>?_⟩);subst K;cases k;exact q _ H (C8.refl H)<|Dt.tup h f;subst v;cases f;rw[bA]at q;exact q _ H (C8.refl H)<|Dt.tup s k;exact q _ _ (C8.new n)<|yN D n<|k.append f
  |_=>exact nE g
 |lst s k=>
  cases r with
  |lst h f=>
   rename_i a t l b u m;have c:=g;obtain⟨o,c⟩:=P8 c;cases c;exact B6 (B6<|B6 ⟨a,b,t,u,rfl,rfl,L1.seq s,L1.seq h,by rw[k.length,f.length];exact Bx o,λp n=>q _ _ (C8.new n)<|qA n<|k.append f⟩)
  |_=>exact nE g
 |_=>exact nE g
noncomputable def cutD(xs:List j3)(lo hi:Option Int):List j3:=(xs.drop<|HT.U4 xs.length 0 lo).take<|HT.U4 xs.length xs.length hi-HT.U4 xs.length 0 lo
def N2.cut(h:N2 e g b9 c8)(lo a:Option Int):N2 e g (xX b9 lo a)<|cutD c8 lo a:=by delta xX cutD;rw[h.length];exact(h.drop _).take _
def a6C(K:D4):V->Option Int->Option Int->Hp->VK->Prop:=λx lo hi H Q=>∃a xs,x=.ref a/\cM K H a xs/\(xX xs lo hi=xs->Q (.ref a) H)/\∀p,H p=J->Q (.ref p) (upd H p<|.tup<|xX xs lo hi)
def a3z:yu c<|a6C c.K:=by
 intro d s u H x v p q o j w Q I g m k l h;obtain⟨a,b,rfl,i,t,q2⟩:=h;by_cases e:HT.U4 b.length 0 o=0/\HT.U4 b.length b.length j=b.length
 . cases g;obtain⟨f,r,n,y⟩:=I.tuple i;have X:f.toArray.size=b.length:=by rw[aJ];exact r.length.symm
   refine⟨"tuple",_,PyProof.Rows.slot_tuple_getitem.lookup,n.typeIs,?_⟩;refine Il n m k l (by rw[X];exact e) ⟨.ref a,H,I,rfl,t ?_⟩
   delta xX;simp_all
 exact a6q d s u H (.ref a) v p q o j w Q I g m k l ⟨a,b,rfl,i,e,q2⟩
def rSl(K:D4):V->Option Int->Option Int->Hp->VK->Prop:=λx lo hi H Q=>a6C K x lo hi H Q\/a6E K x lo hi H Q
def a6t:yu c<|rSl c.K:=a3z.or a3A
def NU:f9->Option Int->Option Int->Option PV
 |B4 l,lo,hi=>U<|.dat<|B4<|cutD l lo hi
 |B8 l,lo,hi=>U<|.own<|cutD l lo hi
 |_,_,_=>J
def R3X(K:D4)(r:V->Option Int->Option Int->Hp->VK->Prop)(f:f9->Option Int->Option Int->Option PV):Prop:=
 ∀(O:List Addr) (va:As) (H:Hp) (x:V) (lo hi:Option Int) (d:f9) (pv:PV) (Q:VK),uH H va O->Dt K (K1 H va O) x d->f d lo hi=U pv->(∀v H',C8 H H'->RX K O va H H' v pv->Q v H')->r x lo hi H Q
def b1v:R3X e (rSl e) NU:=by
 intro O k H x h f d pv Q D j g q;cases j with
 |tup b c=>
  cases g;refine B3 ⟨_,_,rfl,L1.mI b,λK=>?_,λp a=>q _ _ (C8.new a)<|yN D a<|c.cut h f⟩;have i:=c.cut h f;rw[K]at i;exact q _ H (C8.refl H)<|Dt.tup b i
 |lst b c=>
  cases g;exact B6 ⟨_,_,rfl,L1.seq b,λp a=>q _ _ (C8.new a)<|qA a<|c.cut h f⟩
 |_=>exact nE g
def TOX(K:D4)(to:TO)(F:Ds->Option (Option Int)):Prop:=
 ∀(O:List Addr) (D8:Hp) (as:As) (σ:St) (H:Hp) (ds:Ds) (b:Option Int) (Q:Option Int->Hp->Prop),DS K O D8 as σ H ds->F ds=U b->(∀H',C8 H H'->Q b H')->to σ H Q
structure Lx(X:Cx)(e:Option Expr)(to:TO)(F:Ds->Option (Option Int)):Prop where
 p:PO X e to
 t:TOX X.K to F
noncomputable def Q6:Ds->Option (Option Int):=λ_=>U J
noncomputable def asI:f9->Option Int
 |p6 i=>U i
 |_=>J
def L5(F:DV):Ds->Option (Option Int):=λds=>(F ds).bind λpv=>(asI pv.d).bind λi=>U<|U i
def ZV:Lx c J NO Q6:=⟨a4n,by intro O a e f H d b Q S X q;cases X;exact q H<|C8.refl H⟩
def ZU{fr:Bool}(h:PX c fr p y S):Lx c (U p) (a1Z y)<|L5 S:=⟨a4m h.p,by
 intro O X k l H f b Q e a q;obtain⟨pv,h1,a⟩:=A9 a;refine h.t O X k l H f pv _ e h1 λv g m j=>?_
 have d:=j.dt e.dm;generalize pv.d=z at d a;cases d with
 |int i=>cases a;exact⟨i,rfl,q g m⟩
 |_=>exact nE a⟩
noncomputable def ai(f:f9->Option Int->Option Int->Option PV)(F:DV)(Fl Fh:Ds->Option (Option Int)):DV:=λds=>(F ds).bind λx=>(Fl ds).bind λlo=>(Fh ds).bind λhi=>f x.d lo hi
def Zy{r:V->Option Int->Option Int->Hp->VK->Prop}{f:f9->Option Int->Option Int->Option PV}{lo A:Option Expr}{z u:TO}{n o:Ds->Option (Option Int)}(N:yu c r)(C:R3X c.K r f)(s:PX c I p y S)(F:Lx c lo z n)(B:Lx c A u o):
  PX c I (mf p (Fz lo A J q) b8) (tSl r y z u) (ai f S n o):=⟨a0e N s.p F.p B.p,by
 intro O a k m H X pv Q d b t;unfold ai at b;cases h1:S X with
 |none=>simp_all
 |some x=>
  cases h2:n X with
  |none=>rw[h1,h2]at b;exact nE b
  |some l=>
   cases h3:o X with
   |none=>rw[h1,h2,h3]at b;exact nE b
   |some h=>
    rw[h1,h2,h3]at b;refine s.t O a k m H X x _ d h1 λv L g D=>?_;refine F.t O a k m L X l _ (d.grow g) h2 λM i=>?_;refine B.t O a k m M X h _ ((d.grow g).grow i) h3 λG j=>?_;refine C O (bU I k) G v l h x.d pv Q (((d.grow g).grow i).grow j).dm ((D.grow<|i.trans j).dt d.dm) b λw P E e=>?_
    exact t w P (((g.trans i).trans j).trans E)<|e.back<|(g.trans i).trans j⟩
section
def d1(f:f9->Option PV):FV
 | [d]=>f d
 |_=>J
def nG.one{f:f9->Option PV}(h:R1X e (λx=>t4 [x]) f):nG e t4<|d1 f:=by
 intro O c H g i pv Q D b a q;cases b with
 |nil=>exact nE a
 |cons K t=>
  cases t with
  |nil=>exact h O c H _ _ pv Q D K a q
  |cons _ _=>exact nE a
def Zw(K:D4):List V->Hp->VK->Prop:=λxs H Q=>(∃p ys,xs=[.ref p]/\(X6 K H p ys\/cM K H p ys)/\Q (.int ys.length) H)\/(∃z,xs=[.str z]/\z.length<=G7/\Q (.int z.length) H)
def VF:cA c (P5 "len")<|Zw c.K:=Ln.or Lm
def N5:FV:=d1 fun
 |B8 l=>U<|.dat<|p6 (l.length:Nat)
 |B4 l=>U<|.dat<|p6 (l.length:Nat)
 |f6 z=>if z.length<=1000000 then U (.dat<|p6 (z.length:Nat))else J
 |_=>J
def N2.inv1(h:N2 e g b9 [i7]):∃x,b9=[x]/\Dt e g x i7:=by
 cases h with
 |cons h t=>cases t;exact⟨_,rfl,h⟩
def a9v:nG e (Zw e) N5:=.one λO g H x i pv Q D b a q=>by
 cases b with
 |lst c d=>cases a;exact B3 ⟨_,_,rfl,B3<|L1.seq c,q _ H (C8.refl H) (by rw[d.length];exact Dt.int _)⟩
 |tup c d=>cases a;exact B3 ⟨_,_,rfl,B6<|L1.mI c,q _ H (C8.refl H) (by rw[d.length];exact Dt.int _)⟩
 |str=>
  obtain⟨K,a⟩:=P8 a;cases a;exact B6 ⟨_,rfl,Bx K,q _ H (C8.refl H)<|Dt.int _⟩
 |_=>exact nE a
def vy:FV:=d1 fun
 |p6 i=>U<|.dat<|p6<|if i<0 then -i else i
 |_=>J
def a9B:nG e (λxs H Q=>∃i,xs=[.int i]/\Q (.int<|if i<0 then -i else i) H) vy:=.one λO c H x d pv Q D b a q=>by
 cases b with
 |int=>cases a;exact⟨_,rfl,q _ H (C8.refl H)<|Dt.int _⟩
 |_=>exact nE a
def iX:FV:=d1 fun
 |B8 l=>U<|.dat<|B4 l
 |B4 l=>U<|.dat<|B4 l
 |_=>J
def a3a:nG e (λxs H Q=>∃p ys,xs=[.ref p]/\((X6 e H p ys/\∀l,H l=J->Q (.ref l) (upd H l<|.tup ys))\/(cM e H p ys/\Q (.ref p) H))) iX:=.one λO f H x g pv Q D d a q=>by
 cases d with
 |lst b c=>cases a;exact⟨_,_,rfl,B3 ⟨L1.seq b,λp K=>q _ _ (C8.new K)<|yN D K c⟩⟩
 |tup b c=>cases a;exact⟨_,_,rfl,B6 ⟨L1.mI b,q _ H (C8.refl H)<|Dt.tup b c⟩⟩
 |_=>exact nE a
def qe:FV:=d1 fun
 |B8 l=>U<|.own l
 |B4 l=>U<|.own l
 |_=>J
def a5Q:nG e (λxs H Q=>∃p ys,xs=[.ref p]/\(X6 e H p ys\/cM e H p ys)/\∀l,H l=J->Q (.ref l) (upd H l<|.lst ys)) qe:=.one λO f H x g pv Q D K b q=>by
 cases K with
 |lst c d=>cases b;exact⟨_,_,rfl,B3<|L1.seq c,λp a=>q _ _ (C8.new a)<|qA a d⟩
 |tup c d=>cases b;exact⟨_,_,rfl,B6<|L1.mI c,λp a=>q _ _ (C8.new a)<|qA a d⟩
 |_=>exact nE b
def intD:FV
 | [p6 i]=>U<|.dat<|p6 i
 | [E5 k]=>U<|.dat<|p6<|if k then 1 else 0
 |_=>J
def a9w:nG e (λxs H Q=>(∃i,xs=[.int i]/\Q (.int i) H)\/∃k,xs=[.bl k]/\Q (.int<|if k then 1 else 0) H) intD:=by
 intro O c H xs d pv Q D b a q;unfold intD at a;split at a;cases a;obtain⟨x,rfl,h⟩:=b.inv1;cases h;exact B3 ⟨_,rfl,q _ H (C8.refl H)<|Dt.int _⟩;cases a;obtain⟨x,rfl,h⟩:=b.inv1;cases h;exact B6 ⟨_,rfl,q _ H (C8.refl H)<|Dt.int _⟩;exact nE a
def kN:FV
 | [p6 i]=>if i.natAbs.log2<1920 then U (.dat<|f6<|jI i)else J
 |_=>J
def a1R:nG e (λxs H Q=>∃i,xs=[.int i]/\i.natAbs.log2<1920/\Q (.str<|jI i) H) kN:=by
 intro O d H xs K pv Q D c a q;unfold kN at a;split at a
 . split at a;rename_i b;cases a;obtain⟨x,rfl,h⟩:=c.inv1;cases h;exact⟨_,rfl,b,q _ H (C8.refl H)<|Dt.str _⟩;exact nE a
 exact nE a
noncomputable def boolsOf:List f9->Option (List Bool)
 | []=>U []
 |E5 b::r=>(boolsOf r).bind λl=>U (b::l)
 |_=>J
def yb:FV
 | [B8 l]=>(boolsOf l).bind λbs=>U<|.dat<|E5<|bs.all id
 |_=>J
theorem N2.bools{K:D4}{H:Hp}:∀{l:List f9}{xs:List V}{bs:List Bool},N2 K H xs l->boolsOf l=U bs->xs=bs.map V.bl
 | [],_,_,h,e=>by cases e;cases h;rfl
 |d::r,xs,bs,h,e=>by
  cases h with
  |cons h t=>
   cases h with
   |bl b=>
    have a:=e;obtain⟨l,h1,a⟩:=A9 a;cases a;rw[t.bools h1];rfl
   |_=>exact nE e
set_option tactic.hygienic true in
def a9z{A:X1}(c:A.handled=J):nG e (λxs H Q=>∃(p:Addr) (bs:List Bool),xs=[.ref p]/\X6 e H p (bs.map V.bl)/\A.handled=J/\Q (.bl<|bs.all id) H) yb:=by
 intro O g H xs i pv Q D b a q;unfold yb at a;split at a
 . rename_i l;obtain⟨bs,h1,a⟩:=A9 a;cases a;obtain⟨x,rfl,h⟩:=b.inv1;cases h with
   |lst d f=>
    have K:=f.bools h1;subst K;exact⟨_,bs,rfl,L1.seq d,c,q _ H (C8.refl H)<|Dt.bl _⟩
 exact nE a
def a2J(n:String)(F:DV):DV:=λds=>(F ds).bind λx=>if a2y x.d=Uf then J else U<|.dat<|E5<|isI x.d n
end
abbrev a9P(K:D4):List V->Hp->VK->Prop:=λxs H Q=>∃p ys,xs=[.ref p]/\((X6 K H p ys/\∀l,H l=J->Q (.ref l) (upd H l<|.tup ys))\/(cM K H p ys/\Q (.ref p) H))
abbrev a6G(K:D4):List V->Hp->VK->Prop:=λxs H Q=>∃p ys,xs=[.ref p]/\(X6 K H p ys\/cM K H p ys)/\∀l,H l=J->Q (.ref l) (upd H l<|.lst ys)
def Qu(K:D4):List V->Hp->VK->Prop:=λxs H Q=>∃(p:Addr) (bs:List Bool),xs=[.ref p]/\X6 K H p (bs.map V.bl)/\Q (.bl<|bs.all id) H
def VJ(d:c.A.handled=J):cA c (P5 "all")<|Qu c.K:=λa s f H b X Q I r h=>by obtain⟨p,bs,e,g,q⟩:=h;exact a1A a s f H b X Q I r ⟨p,bs,e,g,d,q⟩
def a5V:nG e (Qu e) yb:=by intro O d H b f pv Q D a c q;obtain⟨p,bs,K,g,_,z⟩:=a9z (A:=qK) rfl O d H b f pv Q D a c q;exact⟨p,bs,K,g,z⟩
noncomputable def xK(i:Nat)(ds:Ds):Nat:=match ds[i]? with
 |some (U<|.dat<|p6 k)=>k.natAbs+1
 |_=>0
def a3x(h:X6 e g N b9):X6 e (K1 g [] []) N b9:=by assumption
def a1g:∀ns:List Int,N2 e g (ns.map V.int)<|ns.map jL:=by
 intro l_;induction l_ with
 |nil=>
  exact .nil
 |cons n r ih_=>
  exact .cons (.int n)<|ih_
def a5s(r:RX e [] [] g M b6<|.dat<|E5 Uf):b6=.bl Uf:=by cases r;rfl
noncomputable def bZ(o:Option Out)(G:DO):Option Out:=o.bind λo=>match o with
 | .next ds'=>G ds'
 |o=>U o
def Be(a G2:DO)(ds:Ds):A4 a G2 ds=bZ (a ds) G2:=rfl
def mW(ds:Ds)(G:DO):bZ (U<|.next ds) G=G ds:=rfl
def Jp(pv:PV)(G:DO):bZ (U<|.ret pv) G=U (.ret pv):=rfl
def Jq(ds:Ds)(G:DO):bZ (U<|.brk ds) G=U (.brk ds):=rfl
def Hn(ds:Ds)(G:DO):bZ (U<|.cont ds) G=U (.cont ds):=rfl
def jC(b:Bool):fR (E5 b)=U b:=rfl
def GX(i:Int):asI (p6 i)=U i:=rfl
def Di(l:List f9):gx (B8 l)=U l:=rfl
def Hk(l:List f9):gx (B4 l)=U l:=rfl
def JN(pv:PV):dG (.ret pv)=U pv:=rfl
def Hz(ds:Ds):dG (.next ds)=sd F3:=rfl
noncomputable def a0G(o:Option PV)(i:Nat)(ds:Ds):Option Out:=o.bind λpv=>U<|.next<|ds.set i<|U<|.dat pv.d
def KQ(i:Nat)(F:DV)(ds:Ds):B0 i F ds=a0G (F ds) i ds:=rfl
def uP(pv:PV)(i:Nat)(ds:Ds):a0G (U pv) i ds=U (.next<|ds.set i<|sd pv.d):=rfl
noncomputable def a7Q(o:Option PV)(i:Nat)(ds:Ds):Option Out:=o.bind λpv=>U<|.next<|ds.set i<|U pv
def GR(i:Nat)(F:DV)(ds:Ds):fB i F ds=a7Q (F ds) i ds:=rfl
def uO(pv:PV)(i:Nat)(ds:Ds):a7Q (U pv) i ds=U (.next<|ds.set i<|U pv):=rfl
noncomputable def a1F(o:Option PV)(i:Nat)(ds:Ds):Option Out:=o.bind λpv=>match ds[i]? with
 |some (U<|.own l)=>if l.length<1000000 then U (.next<|ds.set i<|U<|.own<|l++[pv.d])else J
 |_=>J
def sx(i:Nat)(F:DV)(ds:Ds):ij i F ds=a1F (F ds) i ds:=rfl
def aI(pv:PV)(h:b7[o]?=U (U<|.own c8))(a:c8.length<1000000):a1F (U pv) o b7=U (.next<|b7.set o<|U<|.own<|c8++[pv.d]):=by
 delta a1F
 simp_all
noncomputable abbrev iD(n:Int):Option PV:=U<|.dat<|p6 n
def ji(x:j3)(l:List j3):Y5 (x::l) 0=U x:=by delta Y5 Kz;rw[A6 f7,A6 C9];rfl
def gP{l:List j3}{n:Nat}(a:d8=(n:Int))(h:n<l.length):Y5 l d8=l[n]?:=by subst a;delta Y5 Kz;rw[A6 V8,A6 V8];simp
def RB(x y:j3)(l:List j3):Y5 (x::y::l) 1=U y:=gP rfl C9
def a2T(x y z:j3)(l:List j3):Y5 (x::y::z::l) 2=U z:=gP rfl C9
def a2S(x y z u:j3)(l:List j3):Y5 (x::y::z::u::l) 3=U u:=gP rfl C9
def a2R(x y z u v:j3)(l:List j3):Y5 (x::y::z::u::v::l) 4=U v:=gP rfl C9
def a2Q(x y z u v w:j3)(l:List j3):Y5 (x::y::z::u::v::w::l) 5=U w:=gP rfl C9
def a2P(x y z u v w a:j3)(l:List j3):Y5 (x::y::z::u::v::w::a::l) 6=U a:=gP rfl C9
def a8R{l:List j3}(b:0<=d8)(h:d8<l.length):Y5 l d8=U (l[d8.toNat]'A3):=by rw[gP ((Aq B1).symm) A3];exact Y2 _
def Lr(i j:Int):D5 (p6 i) (p6 j)=sd (p6<|i+j):=rfl
def Jh(i j:Int):kM (p6 i) (p6 j)=sd (p6<|i-j):=rfl
def Y0{j:Int}(h:Bt 60000 d8)(k:Bt 60000 j):sY (p6 d8) (p6 j)=sd (p6<|d8*j):=by
 delta sY CA
 simp_all
def U2{j:Int}(h:j≠0)(k:Bt 8000 j):cv (p6 d8) (p6 j)=sd (p6<|d8.fdiv j):=by
 delta cv CA
 simp_all
def K4{j:Int}(h:j≠0):Q1 (p6 d8) (p6 j)=sd (p6<|d8.fmod j):=A6 h
def ZW{j:Int}(h:CP d8 j):QC (p6 d8) (p6 j)=sd (p6<|d8^j.toNat):=A6 h
def GF(i j:Int):jd (p6 i) (p6 j)=sd (E5<|decide (i<j)):=rfl
def OI(i j:Int):pq (p6 i) (p6 j)=sd (E5<|decide (i<=j)):=rfl
def Bd(i j:Int):lq (p6 i) (p6 j)=sd (E5<|decide (j<i)):=rfl
def OW(i j:Int):HQ (p6 i) (p6 j)=sd (E5<|decide (j<=i)):=rfl
def a5q(i j:Str):cW (f6 i) (f6 j)=decide (i=j):=by rfl
def CG(i j:Int):J5 (p6 i) (p6 j)=sd (E5<|decide (i=j)):=by rfl
def JW(i j:Int):V6 (p6 i) (p6 j)=sd (E5<|!decide (i=j)):=by rfl
def CF(i j:Str):J5 (f6 i) (f6 j)=sd (E5<|decide (i=j)):=by rfl
def Cn(i j:Str):V6 (f6 i) (f6 j)=sd (E5<|!decide (i=j)):=by rfl
def vV(l:List f9)(i:Int):J2 (B4 l) (p6 i)=(Y5 l i).bind λd=>sd d:=rfl
def cI(l:List f9)(i:Int):J2 (B8 l) (p6 i)=(Y5 l i).bind λd=>sd d:=rfl
def Lu(i:Int):vy [p6 i]=sd (p6<|if i<0 then -i else i):=rfl
def JV(i:Int):kO (p6 i)=sd (p6<|-i):=rfl
def nj(l:List f9):N5 [B8 l]=sd (p6 (l.length:Nat)):=rfl
def Kk(l:List f9):N5 [B4 l]=sd (p6 (l.length:Nat)):=rfl
def Hf(l:List f9):iX [B8 l]=sd (B4 l):=rfl
def Jb(l:List f9):iX [B4 l]=sd (B4 l):=rfl
def DA(l:List f9):qe [B8 l]=U (.own l):=rfl
def HG(l:List f9):qe [B4 l]=U (.own l):=rfl
def tL{m:List f9}(h:c8.length+m.length<=1000000):D5 (B4 c8) (B4 m)=sd (B4<|c8++m):=A6 h
def uX{m:List f9}(h:c8.length+m.length<=1000000):D5 (B8 c8) (B8 m)=U (.own<|c8++m):=A6 h
def eQ(h:t.length+h8.length<=1000000):D5 (f6 t) (f6 h8)=sd (f6<|t++h8):=A6 h
def NT(l:List f9)(lo a:Option Int):NU (B4 l) lo a=sd (B4<|cutD l lo a):=rfl
def Jk(l:List f9)(lo a:Option Int):NU (B8 l) lo a=U (.own<|cutD l lo a):=rfl
def tj(d:f9):cS d F3=sd (E5<|K7 d):=rfl
def BH(d:f9):DI d F3=sd (E5<|!K7 d):=rfl
def mM(h : -(4611686018427387904)<=d8/\d8<4611686018427387904):rm [p6 d8]=U (pE 0 d8.toNat):=@if_pos _ (XT _) h _ _ _
def CK{f:Nat->f9}(h:∀i,i<o->∃pv,S (sd (p6<|d8+(i:Nat))::b7)=U pv/\pv.d=f i):U7 M0 M3 S b7 (pE d8 o)=U ((Z4 o).map f):=by
 have a:∀(l:List Nat),(∀i∈l,i<o)->U7 M0 M3 S b7 (l.map λk=>jL<|d8+(k:Nat))=U (l.map f):=by
  intro l;induction l with
  |nil=>intro _;rfl
  |cons i r n=>
   intro b;obtain⟨pv,g,c⟩:=h i<|b i K9;rw[K3];unfold U7;simp only[M0,P0,M3,qH,tF,lW,iM];rw[g];rw[n<|λj m=>b j<|G6 _ m];simp[c]
 exact a _<|λi e=>mem_range.mp e
def xM{gt:f9->DD}{G:DO}{lo:Int}{n:Nat}(I:Nat->Ds->Prop){ds:Ds}(l:I 0 ds)(hs:∀i ds,i<n->I i ds->∃ds1 ds2,gt (p6<|lo+(i:Nat)) ds=U ds1/\(G ds1=U (.next ds2)\/G ds1=U (.cont ds2))/\I (i+1) ds2):∃ds',O9 gt G (pE lo n) ds=U (.next ds')/\I n ds':=by
 have c:∀(k i) ds,i+k=n->I i ds->∃ds',O9 gt G ((wB i k).map λk=>jL<|lo+(k:Nat)) ds=U (.next ds')/\I n ds':=by
  intro k;induction k with
  |zero=>
   intro i ds e b;have d:i=n:=by omega
   subst d;exact⟨ds,rfl,b⟩
  |succ k o=>
   intro i ds e b;obtain⟨ds1,ds2,h,a,g⟩:=hs i ds A3 b;rw[Mj,K3];unfold O9;rw[h];simp only[P0];obtain⟨ds',j,f⟩:=o (i+1) ds2 A3 g;refine⟨ds',?_,f⟩;rcases a with a|a<;>rw[a]<;>exact j
 obtain⟨ds',m,d⟩:=c n 0 ds (Nat.add_comm _ _) l;refine⟨ds',?_,d⟩;unfold pE;rw[List.range_eq_range'];exact m
def xN{gt:f9->DD}{G:DO}{items:List f9}(I:Nat->Ds->Prop)(m:I 0 b7)(hs:∀i d b7,items[i]?=U d->I i b7->∃ds1 ds2,gt d b7=U ds1/\(G ds1=U (.next ds2)\/G ds1=U (.cont ds2))/\I (i+1) ds2):∃ds',O9 gt G items b7=U (.next ds')/\I items.length ds':=by
 have g:∀r i b7,items.drop i=r->i<=items.length->I i b7->∃ds',O9 gt G r b7=U (.next ds')/\I items.length ds':=by
  intro r;induction r with
  |nil=>
   intro i b7 e n f;have:=List.drop_eq_nil_iff.mp e;have o:i=items.length:=by lia
   subst o;exact⟨b7,rfl,f⟩
  |cons x r p=>
   intro i b7 e n f;have a:i<items.length:=by
    by_cases c:i<items.length;exact c;rw[MN<|Fy B1]at e;cases e
   rw[Ax a]at e;injection e with ea eb
   obtain⟨ds1,ds2,j,b,h⟩:=hs i x b7 (by rw[Y2 a,ea]) f
   unfold O9;rw[j];simp only[P0];obtain⟨ds',k,l⟩:=p (i+1) ds2 eb B1 h;refine⟨ds',?_,l⟩;rcases b with b|b<;>rw[b]<;>exact k
 exact g items 0 b7 rfl (lP _) m
def gF(h:g8 b7=U U'):Q4 g8 i9 (o+1) b7=U (.next b7):=by unfold Q4;rw[h];rfl
def vo{ds2:Ds}(h:g8 b7=U Uf)(k:i9 b7=U (.next ds2)):Q4 g8 i9 (o+1) b7=Q4 g8 i9 o ds2:=by rw[Q4,h];rw[k];rfl
def Ha{Fc:DB}(I:Ds->Prop)(μ:Ds->Nat)(hs:∀ds,I ds->Fc ds=U U'\/(Fc ds=U Uf/\∃ds2,i9 ds=U (.next ds2)/\I ds2/\μ ds2<μ ds)):
  ∀(n:Nat) (ds:Ds),I ds->μ ds<n->∃ds',Q4 Fc i9 n ds=U (.next ds')/\I ds'/\Fc ds'=U U':=by
 intro n;induction n with
 |zero=>intro ds _ h;exact b0M
 |succ n c=>
  intro ds a d;rcases hs ds a with h|⟨h,ds2,k,b,f⟩
  exact⟨ds,gF h,a,h⟩;obtain⟨ds',e,r⟩:=c ds2 b A3;exact⟨ds',by rw[vo h k];exact e,r⟩
def Bt.kG(b : -4611686018427387904<d8)(c:d8<4611686018427387904)(a:autoParam (62<=o) aj):Bt o d8:=(Bt.small V8 V8).mono a
def Bt.lit(a:autoParam (-4611686018427387904<d8) aj)(c:autoParam (d8<4611686018427387904) aj)(b:autoParam (62<=o) aj):Bt o d8:=Bt.kG a c b
noncomputable def rJ(i:Nat)(f:List f9->List f9):DO:=λds=>match ds[i]? with
 |some (U<|.own l)=>U<|.next<|ds.set i<|U<|.own<|f l
 |_=>J
def Tx(i:Nat)(m:PE c p<|S7 i)(b:autoParam (Nf c p "clear") B7)(X:autoParam ((k7.endLine==b8.line)=Uf) B7)(hs:autoParam (ak (L8 (Q0 p "clear" k7) [] [] b8) J q.line c.env=pure U') B7):
  V3 c (ui (L8 (Q0 p "clear" k7) [] [] b8) q) (AJ<|YW c.K "list" Td<|S7 i) (rJ i λ_=>[]):=
 ⟨mY (TR uA PySem.F.slot_list_clear PySem.F.type_list_clear a0z m b X) hs,by
 intro O e n k H r D p S h t;unfold rJ at h;split at h;rename_i l g;cases h;obtain⟨a,j,f,s,d,o⟩:=S.slot i _ g;exact⟨_,f,B3 ⟨rfl,j,X6.of d⟩,a,j,rfl,rfl,d,t n k _<|S.turn g f .nil⟩
 . exact nE h⟩
def a4c(i:Nat)(m:PE c p<|S7 i)(b:autoParam (Nf c p "reverse") B7)(X:autoParam ((k7.endLine==b8.line)=Uf) B7)(hs:autoParam (ak (L8 (Q0 p "reverse" k7) [] [] b8) J q.line c.env=pure U') B7):
  V3 c (ui (L8 (Q0 p "reverse" k7) [] [] b8) q) (AJ<|YW c.K "list" Jy<|S7 i) (rJ i List.reverse):=
 ⟨mY (TR uA PySem.F.slot_list_reverse PySem.F.type_list_reverse QP m b X) hs,by
 intro O e n k H r D p S h t;unfold rJ at h;split at h;rename_i l g;cases h;obtain⟨a,j,f,s,d,o⟩:=S.slot i _ g;exact⟨_,f,B3 ⟨rfl,j,X6.of d⟩,a,j,rfl,rfl,d,t n k _<|S.turn g f o.reverse⟩
 . exact nE h⟩
noncomputable def GS(i:Nat)(F:DV):DO:=λds=>(F ds).bind λpv=>match pv,ds[i]? with
 | .own m,U (U<|.own l)=>if l.length+m.length<=1000000 then U (.next<|ds.set i<|U<|.own<|l++m)else J
 |_,_=>J
def a4g(i:Nat)(L:PE c Y<|S7 i)(u:PX c Uf p y S)(bm:autoParam (Gj c Y "extend" k7 p [] b8) qI)(hs:autoParam (ak (L8 (Q0 Y "extend" k7) [p] [] b8) J q.line c.env=pure U') B7):
  V3 c (ui (L8 (Q0 Y "extend" k7) [p] [] b8) q) (AJ<|Bw c.K "list" Oh (S7 i)<|fj y pA) (GS i S):=
 ⟨mY (AQ uA PySem.F.slot_list_extend PySem.F.type_list_extend Uv L (bg u.p jt bm.s) bm) hs,by
 intro O g B s H X D Y e h o;obtain⟨pv,e1,h⟩:=A9 h;split at h
 . rename_i m l G;obtain⟨R,h⟩:=P8 h;cases h;obtain⟨a,A,C,T,r,w⟩:=e.slot i _ G;refine⟨_,C,B3 ⟨rfl,A,X6.of r⟩,?_⟩;refine u.t O g B s H X _ _ e e1 λv P n I=>?_;obtain⟨b,N,rfl,Q,M,E⟩:=I;have:=w.length;have:=E.length;refine⟨a,b,A,N,rfl,rfl,n _ _ r,M,Bx V8,o B s _ ?_⟩;exact(e.grow n).turn G C ((w.same<|Z1 n).append<|E.same<|eF (C8.refl _) λb z=>G6 _ z)
 . exact nE h⟩
noncomputable def qG:f9->f9->Bool
 |F3,F3=>Uf
 |E5 a,E5 b=>a==b
 |E5 a,p6 b=>(if a then 1 else 0)==b
 |p6 a,E5 b=>a==(if b then 1 else 0)
 |p6 a,p6 b=>a==b
 |f6 a,f6 b=>a==b
 |_,_=>U'
theorem Dt.gA{K:D4}{H:Hp}{x:V}{d:f9}(h:Dt K H x d)(f:Flat d=Uf):L2.gA x=Uf:=by
 cases h with
 |non=>rfl
 |bl _=>rfl
 |int _=>rfl
 |str _=>rfl
 |tup _ _=>exact nT f
 |lst _ _=>exact nT f
 |exc _ _ _ _ _=>exact nT f
 |fn _=>exact nT f
 |ins _ _ _ _=>exact nT f
 |dct _ _ _=>exact nT f
 |key _=>exact nT f
 |dtt _ _ _ _=>exact nT f
theorem Dt.qG{K:D4}{H:Hp}{x y:V}{d e:f9}(h:Dt K H x d)(k:Dt K H y e)(f:Flat d=Uf)(g:Flat e=Uf):Ek x y=L2.qG d e:=by
 cases h with
 |tup _ _=>exact nT f
 |lst _ _=>exact nT f
 |exc _ _ _ _ _=>exact nT f
 |fn _=>exact nT f
 |ins _ _ _ _=>exact nT f
 |dct _ _ _=>exact nT f
 |key _=>exact nT f
 |dtt _ _ _ _=>exact nT f
 |non=>cases k with
  |tup _ _=>exact nT g
  |lst _ _=>exact nT g
  |exc _ _ _ _ _=>exact nT g
  |fn _=>exact nT g
  |ins _ _ _ _=>exact nT g
  |dct _ _ _=>exact nT g
  |key _=>exact nT g
  |dtt _ _ _ _=>exact nT g
  |_=>rfl
 |bl _=>cases k with
  |tup _ _=>exact nT g
  |lst _ _=>exact nT g
  |exc _ _ _ _ _=>exact nT g
  |fn _=>exact nT g
  |ins _ _ _ _=>exact nT g
  |dct _ _ _=>exact nT g
  |key _=>exact nT g
  |dtt _ _ _ _=>exact nT g
  |_=>rfl
 |int _=>cases k with
  |tup _ _=>exact nT g
  |lst _ _=>exact nT g
  |exc _ _ _ _ _=>exact nT g
  |fn _=>exact nT g
  |ins _ _ _ _=>exact nT g
  |dct _ _ _=>exact nT g
  |key _=>exact nT g
  |dtt _ _ _ _=>exact nT g
  |_=>rfl
 |str _=>cases k with
  |tup _ _=>exact nT g
  |lst _ _=>exact nT g
  |exc _ _ _ _ _=>exact nT g
  |fn _=>exact nT g
  |ins _ _ _ _=>exact nT g
  |dct _ _ _=>exact nT g
  |key _=>exact nT g
  |dtt _ _ _ _=>exact nT g
  |_=>rfl
theorem N2.DN{K:D4}{H:Hp}{x:V}{d:f9}(h:Dt K H x d)(f:Flat d=Uf):∀{xs:List V}{l:List f9},N2 K H xs l->l.all Flat=Uf->xs.all gA=Uf/\L2.DN x xs=l.any (λy=>L2.qG y d)
 |_,_,.nil,_=>⟨rfl,rfl⟩
 |_,_,.cons k t,g=>by
  rw[fZ,fu]at g;obtain⟨b,a⟩:=N2.DN h f t g.2;refine⟨by rw[fZ,k.gA g.1,b];rfl,?_⟩;unfold L2.DN at a|-;rw[oA,oA,a,k.qG h g.1 f]
def inD:f9->f9->Option PV:=λd e=>(gx e).bind λl=>if Flat d=Uf/\l.all Flat=Uf then U (.dat<|E5<|l.any λy=>qG y d)else J
def U5:f9->f9->Option PV:=λd e=>(gx e).bind λl=>if Flat d=Uf/\l.all Flat=Uf then U (.dat<|E5<|!l.any λy=>qG y d)else J
def OP{y:V}{K:f9}(b:Dt e (K1 g B P) b6 i7)(j:Dt e (K1 g B P) y K)(O:gx K=U c8)(a:Flat i7=Uf/\c8.all Flat=Uf):
  ∃p xs,y=.ref p/\(X6 e g p xs\/cM e g p xs)/\gA b6=Uf/\xs.all gA=Uf/\DN b6 xs=c8.any (λy=>qG y i7):=by
 cases j with
 |lst i f=>
  cases O;obtain⟨h,c⟩:=N2.DN b a.1 f a.2;exact⟨_,_,rfl,B3<|L1.seq i,b.gA a.1,h,c⟩
 |tup i f=>
  cases O;obtain⟨h,c⟩:=N2.DN b a.1 f a.2;exact⟨_,_,rfl,B6<|L1.mI i,b.gA a.1,h,c⟩
 |_=>exact nE O
def b1y:aZ e (Tc e U') inD:=by intro O n H x y d K pv Q D c h a q;obtain⟨l,hl,a⟩:=A9 a;obtain⟨k,a⟩:=P8 a;cases a;obtain⟨p,m,f,i,b,j,g⟩:=OP c h hl k;refine⟨p,m,f,i,b,j,q _ H (C8.refl H) ?_⟩;rw[g];exact Dt.bl _
def a3c:aZ e (Tc e Uf) U5:=by intro O n H x y d K pv Q D c h a q;obtain⟨l,hl,a⟩:=A9 a;obtain⟨k,a⟩:=P8 a;cases a;obtain⟨p,m,f,i,b,j,g⟩:=OP c h hl k;refine⟨p,m,f,i,b,j,q _ H (C8.refl H) ?_⟩;rw[g];exact Dt.bl _
def a8t(i:Nat)(F:DV):DV:=λds=>match ds[i]? with
 |some (U<|.dat d)=>(F ds).bind λk=>J2 d k.d
 |some (U<|.own l)=>(F ds).bind λk=>J2 (B8 l) k.d
 |_=>J
def Vs(i:Nat):DV:=λds=>match ds[i]? with
 |some (U<|.dat d)=>qe [d]
 |some (U<|.own l)=>qe [B8 l]
 |_=>J
noncomputable def intsOf:List f9->Option (List Int)
 | []=>U []
 |p6 i::r=>(intsOf r).bind λl=>U (i::l)
 |_=>J
def Qb:FV:=d1 fun
 |B8 l=>(intsOf l).bind λis=>U<|.dat<|p6 is.sum
 |_=>J
noncomputable def cJ:Int->List f9->List f9
 |_,[]=>[]
 |k,d::r=>B4 [p6 k,d]::cJ (k+1) r
def xS:List f9->Option (List f9)
 | [d]=>(gx d).bind λl=>U<|cJ 0 l
 |_=>J
def Li(a b:Prop)[Decidable a][Decidable b]:(if a then U (PV.dat<|E5<|decide b)else U<|PV.dat<|E5 U')=U (PV.dat<|E5<|decide (a/\b)):=by
 by_cases h:a;rw[A6 h];simp[h];rw[B2 h];simp[h]
def KG(i:Int):intD [p6 i]=sd (p6 i):=rfl
def HM(b:Bool):intD [E5 b]=sd (p6<|if b=Uf then 1 else 0):=rfl
def Hi(l:List f9):Qb [B8 l]=(intsOf l).bind λis=>sd<|p6 is.sum:=rfl
def HU(d:f9):xS [d]=(gx d).bind λl=>U<|cJ 0 l:=rfl
def KU(gt:f9->DD)(G:DO)(ds:Ds):O9 gt G [] ds=U (.next ds):=rfl
def bp{gt:f9->DD}{r:List f9}{ds ds2:Ds}(b:gt i7 ds=U b7)(a:i9 b7=U (.next ds2)):O9 gt i9 (i7::r) ds=O9 gt i9 r ds2:=by
 rw[O9,b]
 simp_all
def comp_map{g f:j3->f9}{Fe:DV}{ds:Ds}:∀{l:List j3},(∀x∈l,∃pv,Fe (sd (g x)::ds)=U pv/\pv.d=f x)->U7 M0 M3 Fe ds (l.map g)=U (l.map f):=by
 intro l_;induction l_ with
 |nil=>
  intro _;exact rfl
 |cons x r ih_=>
  intro h;obtain⟨pv,e,c⟩:=h x K9;rw[K3];unfold U7;simp only[M0,P0,M3,qH,tF,lW,iM];rw[e];rw[ih_<|λy b=>h y<|G6 _ b];simp[c]
def ints_map(f:j3->Int):∀l:List j3,intsOf (l.map λx=>p6<|f x)=U (l.map f):=by
 intro l_;induction l_ with
 |nil=>
  exact rfl
 |cons x r ih_=>
  rw[K3,intsOf,ih_];rfl
def ZE(a:Gl c t)(h:c.mg t=U Z/\RelV b6 Z/\∀H,Dt c.K H b6 i7)(hd:autoParam (jj t) B7):PX c I (G9 t q) (tC b6)<|fC i7:=
 JC (Gv a h.1 h.2.1 hd) h.2.2
def a1w{d:Array (Option A1)}(c:e.lookup N=U ⟨E8 "tuple",j9,W7 i6 o,d⟩)(hz:i6.size<=1000)(r:Vals b9 i6.toList)(hd:∀H,N2 e H b9 c8)(H:Hp):Dt e H (.ref N)<|B4 c8:=
 .tup (B6 ⟨_,i6,o,c,rfl,rfl,D6 hz (by rw[eX];decide),r⟩) (hd H)
theorem CQ:∀{ns:List Int}{us:List A1},Vals (ns.map V.int) us->wt us ns
 | [],_,P1=>Ya
 |n::r,_,N8 h t=>by obtain⟨k,rfl⟩:=h;exact Yh n k<|CQ t
def Qr(K:D4):List V->Hp->VK->Prop:=λxs H Q=>∃(p:Addr) (ns:List Int),xs=[.ref p]/\X6 K H p (ns.map V.int)/\Q (.int ns.sum) H
def VE(f:c.A.handled=J):cA c (P5 "sum")<|Qr c.K:=by
 intro d s t H z v Q I r h;obtain⟨p,a,rfl,hq,q⟩:=h;obtain⟨u,rfl,g⟩:=vals1 r;cases g;obtain⟨i,n,k,x⟩:=I.list hq;have X:=CQ n;obtain⟨j,e⟩:=X.allInts.items;have b:=k.isList;rw[e]at b;have o:j.toList.map (·.1)=a:=by rw[<-nums_intItems,<-e];exact X.numsOf
 refine sum_intListG f b λy w l m=>?_;rw[preSum_eq,ko C9,o];exact⟨.int a.sum,H,I.kept m,⟨l,rfl⟩,q⟩
def N2.ints:∀{xs:List V}{is:List Int},N2 e g xs c8->intsOf c8=U is->xs=is.map V.int:=by
 induction c8 with
 |nil=>intro _ _ h K;cases h;cases K;rfl
 |cons d c8 i=>
  intro _ _ h K;cases h with
  |cons h t=>
  cases h with
  |int=>
   obtain⟨a,b,K⟩:=A9 K;cases K;rw[i t b];rfl
  |_=>exact nE K
def a5L:nG e (Qr e) Qb:=.one λO m H x k pv Q D g b q=>by
 cases g with
 |lst d h=>
  obtain⟨c,K,b⟩:=A9 b;cases b;cases h.ints K;exact⟨_,c,rfl,L1.seq d,q _ H (C8.refl H)<|Dt.int _⟩
 |_=>exact nE b
def Tr(A:c.N.Nodup)(b:c.N[o]?=U t)(w:Loc c.env.scope t)(C:VS c p y S)(X:autoParam (ak p (U<|G9 t q) b8.line c.env=pure Uf) bL)(e:autoParam (yz c t) gQ):V3 c (gB [G9 t q] p b8) (xv y<|fk o)<|B0 o S:=⟨C.s A b w X e,by intro O a E r H n D i F h x;obtain⟨pv,e1,h⟩:=A9 h;cases h;exact C.p.t O a E r H n pv _ F e1 λv S u z=>x _ _ _<|(F.grow u).set o<|z.dt F.dm⟩
def Tq(A:c.N.Nodup)(b:c.N[o]?=U t)(w:Loc c.env.scope t)(C:VS c p y S)(X:autoParam (ak p (U<|G9 t q) b8.line c.env=pure Uf) bL)(e:autoParam (yz c t) gQ):V3 c (gB [G9 t q] p b8) (xv y<|fk o)<|fB o S:=⟨C.s A b w X e,by
 intro O a G r H n D i F h x;obtain⟨pv,e1,h⟩:=A9 h;cases h;refine C.p.t O a G r H n pv _ F e1 λv I w A=>?_
 obtain⟨E,u⟩:=F.store w o A;exact x _ _ _ u⟩
noncomputable def U6(f:f9->FV)(Fo:DV)(Fl:DL):DV:=λds=>(Fo ds).bind λo=>(Fl ds).bind λl=>f o.d l
def Rb(l:List f9):K7 (B4 l)=U':=rfl
def Rh(l:List f9):K7 (B8 l)=U':=rfl
def DJ(i:Int):K7 (p6 i)=U':=rfl
def Rg:K7 F3=Uf:=rfl
section
variable{H:Hp}
end
section
variable{H:Hp}
theorem Z2.get{P:S6}{w:N6}{H:Hp}{h:Heap}{a:Addr}{o:HO}(x:Z2 P w H h a o):∃ob,h.get? a=U ob:=by
 induction o with
 |lst c=>obtain⟨_,_,_,_,e⟩:=x;exact⟨_,e⟩
 |tup c=>obtain⟨_,_,_,o,e,_⟩:=x;exact⟨_,e⟩
 |dK b=>obtain⟨_,_,_,_,o,_,_,e,_⟩:=x;exact⟨_,e⟩
 |dT b=>obtain⟨_,_,_,_,o,_,_,e,_⟩:=x;exact⟨_,e⟩
 |set S n=>obtain⟨o,_,_,_,e,_⟩:=x;exact⟨_,e⟩
 |ins C i fs=>obtain⟨_,_,_,e,_⟩:=x;exact⟨_,e⟩
 |own y=>exact x
 |xd fs=>obtain⟨_,⟨o,_,_,e,_⟩,_⟩:=x;exact⟨_,e⟩
 |met f y=>exact⟨_,x⟩
 |rng j k=>obtain⟨_,_,_,e⟩:=x;exact⟨_,e⟩
 |iF o u g=>exact⟨_,x.1⟩
 |tbl d=>exact⟨_,x⟩
 |ext φ=>exact x.2.1
end
structure qa(K:D4)(nm:Str)(C:Addr):Prop where
 ns:Z8 K U0 nm=U (U<|A5 C)
 cl:Gi K C
def qa.eq(T:qa e t N)(h:Z8 e U0 t=U (U<|A5 z)):z=N:=by
 rw[T.ns]at h
 simp_all
noncomputable def mN(f:Str)(p:PF):List (Str×PF)->List (Str×PF)
 | []=>[(f,p)]
 |(g,x)::r=>if g=f then(g,p)::r else(g,x)::mN f p r
noncomputable def dS(f:Str):List (Str×PF)->Option PF
 | []=>J
 |(g,x)::r=>if g=f then U x else dS f r
inductive Gh(K:D4)(Hv H:Hp):V->PF->List Addr->Prop
 |dat {x d}:Dt K Hv x d->Gh K Hv H x (.dat d) []
 |own {a xs l}:H a=U (.lst xs)->N2 K Hv xs l->Gh K Hv H (.ref a) (.own l) [a]
 |dct {a kvs es}:H a=U (.dK kvs)->kL K Hv kvs es->Gh K Hv H (.ref a) (.dct es) [a]
section
variable{H:Hp}
def bX.cons{K:D4}{Hv:Hp}{R:List Addr}{Rf:List Addr}{fv:List (Str×V)}{fs:List (Str×PF)}{y:V}{p:PF}{n:Str}(h:Gh K Hv H y p Rf)(d:∀b∈Rf,b∉R)(t:bX K Hv H fv fs R):bX K Hv H ((n,y)::fv) ((n,p)::fs)<|Rf++R:=by
 cases h with
 |dat h=>exact .dat h t
 |own c a=>exact .own c a (d _ K9) t
 |dct c a=>exact .dct c a (d _ K9) t
def bX.put{K:D4}{Rf:List Addr}{f:Str}(t:bX K g H k m6 P)(h:Gh K g H b6 q5 Rf)(d:∀b∈Rf,b∉P):∃R',bX K g H (gk f b6 k) (mN f q5 m6) R'/\∀b∈R',b∈Rf\/b∈P:=by
 induction t with
 |nil=>
  refine⟨Rf++[],bX.cons h (λb _=>by simp) .nil,λb e=>B3<|by simpa using e⟩
 | @dat n x v k m6 P s t j=>
  obtain⟨R',i,R⟩:=j d;rw[gk,mN];by_cases c:n=f;rw[A6 c,A6 c];exact⟨Rf++P,bX.cons h d t,λb e=>List.mem_append.mp e⟩;rw[B2 c,B2 c];exact⟨R',.dat s i,R⟩
 | @own n a u l k m6 P o m q t j=>
  obtain⟨R',i,R⟩:=j λb e z=>d b e<|G6 _ z;rw[gk,mN];by_cases c:n=f;rw[A6 c,A6 c];exact⟨Rf++P,bX.cons h (λb e z=>d b e<|G6 _ z) t,λb e=>(List.mem_append.mp e).imp id<|G6 _⟩
  . rw[B2 c,B2 c];refine⟨a::R',.own o m (λz=>?_) i,λb e=>?_⟩
    . rcases R a z with z|z
      exact d a z K9;exact q z
    . rcases List.mem_cons.mp e with rfl|e
      exact B6 K9;exact(R b e).imp id (G6 _)
 | @dct n a r w k m6 P o m q t j=>
  obtain⟨R',i,R⟩:=j λb e z=>d b e<|G6 _ z;rw[gk,mN];by_cases c:n=f;rw[A6 c,A6 c];exact⟨Rf++P,bX.cons h (λb e z=>d b e<|G6 _ z) t,λb e=>(List.mem_append.mp e).imp id<|G6 _⟩
  . rw[B2 c,B2 c];refine⟨a::R',.dct o m (λz=>?_) i,λb e=>?_⟩
    . rcases R a z with z|z
      exact d a z K9;exact q z
    . rcases List.mem_cons.mp e with rfl|e
      exact B6 K9;exact(R b e).imp id (G6 _)
def nc:fW t ((h8,b6)::p9)=if h8=t then U b6 else fW t p9:=by
 rw[qU];by_cases c:h8=t;subst c;simp
 . have a:(t==h8)=U':=by simpa using λz=>c z.symm
   rw[a,B2 c]
def bX.a7H(K:bX e g H p9 m6 P)(h:dS t m6=J):p9.lookup t=J:=by
 induction K with
 |nil=>rfl
 | dat hd K ih => rw [dS] at h; rw [nc]; split at h; · exact nS h
                  rename_i c;rw[B2 c];exact ih h
 | own h1 h2 h3 K ih => rw [dS] at h; rw [nc]; split at h; · exact nS h
                        rename_i c;rw[B2 c];exact ih h
 | dct h1 h2 h3 K ih => rw [dS] at h; rw [nc]; split at h; · exact nS h
                        rename_i c;rw[B2 c];exact ih h
def bX.look{w}(f:bX e g H w m6 P)(h:dS t m6=U q5):∃x Rf,w.lookup t=U x/\Gh e g H x q5 Rf/\(∀b∈Rf,b∈P) /\
  ∀{Hv' H':Hp}{m:PF},C8 g Hv'->(∀b∈P,b∉Rf->∀o,H b=U o->H' b=U o)->Gh e Hv' H' x m Rf->bX e Hv' H' w (mN t m m6) P:=by
 induction f with
 |nil=>exact nE h
 | @dat n x d w m6 P C f s=>
  rw[dS]at h;rw[nc];by_cases c:n=t
  . rw[A6 c]at h|-;cases h;refine⟨x,[],rfl,.dat C,λb R=>absurd R C9,λ{Hv' H' m} K i k=>?_⟩;rw[mN,A6 c];exact bX.cons k (λb R=>absurd R C9)<|f.same K λb R=>i b R C9
  . rw[B2 c]at h|-;obtain⟨y,Rf,A,u,q,r⟩:=s h;refine⟨y,Rf,A,u,q,λ{Hv' H' m} K i k=>?_⟩;rw[mN,B2 c];exact .dat (C.same K)<|r K i k
 | @own n a F l w m6 P B v j f s=>
  rw[dS]at h;rw[nc];by_cases c:n=t
  . rw[A6 c]at h|-;cases h;refine⟨_,[a],rfl,.own B v,λb R=>by rw[mem_singleton.mp R];exact K9,λ{Hv' H' m} K i k=>?_⟩;rw[mN,A6 c];refine bX.cons k (λb R=>by rw[mem_singleton.mp R];exact j)<|f.same K λb R=>i b (G6 _ R) λz=>?_;rw[mem_singleton.mp z]at R;exact j R
  . rw[B2 c]at h|-;obtain⟨y,Rf,A,u,q,r⟩:=s h;refine⟨y,Rf,A,u,λb R=>G6 _<|q b R,λ{Hv' H' m} K i k=>?_⟩;rw[mN,B2 c];exact .own (i a K9 (λz=>j<|q a z) _ B) (v.same K) j<|r K (λb R=>i b<|G6 _ R) k
 | @dct n a D E w m6 P B v j f s=>
  rw[dS]at h;rw[nc];by_cases c:n=t
  . rw[A6 c]at h|-;cases h;refine⟨_,[a],rfl,.dct B v,λb R=>by rw[mem_singleton.mp R];exact K9,λ{Hv' H' m} K i k=>?_⟩;rw[mN,A6 c];refine bX.cons k (λb R=>by rw[mem_singleton.mp R];exact j)<|f.same K λb R=>i b (G6 _ R) λz=>?_;rw[mem_singleton.mp z]at R;exact j R
  . rw[B2 c]at h|-;obtain⟨y,Rf,A,u,q,r⟩:=s h;refine⟨y,Rf,A,u,λb R=>G6 _<|q b R,λ{Hv' H' m} K i k=>?_⟩;rw[mN,B2 c];exact .dct (i a K9 (λz=>j<|q a z) _ B) (v.same K) j<|r K (λb R=>i b<|G6 _ R) k
end
noncomputable def yU(nm:Str)(i:Nat)(ds:Ds):Option<|Option Addr×List (Str×PF):=match ds[i]? with
 |some (U<|.ob w<|.ins n fs)=>if n=nm then U (w,fs)else J
 |_=>J
def sT(h:yU t o b7=U (j9,m6)):b7[o]?=U (U<|.ob j9<|.ins t m6):=by
 unfold yU at h;split at h
 . simp_all
 exact nE h
noncomputable def a8F:PF->Option f9
 | .dat d=>U d
 |_=>J
noncomputable def dctP:PF->Option (List<|Str×f9)
 | .dct es=>U es
 |_=>J
def a1n(h:a8F q5=U i7):q5=.dat i7:=by cases q5<;>cases h;rfl
def a1k{d:List (Str×f9)}(h:dctP q5=U d):q5=.dct d:=by cases q5<;>cases h;rfl
def xP(nm:Str)(i:Nat)(f:Str):DV:=λds=>(yU nm i ds).bind λx=>(dS f x.2).bind λp=>(a8F p).bind λd=>U<|.dat d
def Zz(kk:c.K=e)(T:qa e t N)(n:jE e N h8)(h:PE c p<|S7 o)(A:autoParam (Nf c p h8) B7):PX c I (Q0 p h8 q) (YU e (S7 o) h8)<|xP t o h8:=by
 subst kk;exact⟨TN h A,by
  intro O X D i H F pv Q S a K;obtain⟨⟨w,fs⟩,s,a⟩:=A9 a;obtain⟨f,l,a⟩:=A9 a;obtain⟨d,C,a⟩:=A9 a;cases a;have z:=a1n C;subst z;obtain⟨v,R,k,_,_,u,j,m,E,rfl,L,r,g⟩:=S.slot o _<|sT s;have B:=T.eq L;subst B;obtain⟨x,G,y,b,_⟩:=g.look l;cases b with
  |dat b=>exact⟨_,k,v,u,j,m,x,rfl,r,T.cl,n,y,K x H (C8.refl H)<|b.same Bc⟩⟩
section
variable{H:Hp}
def DS.adopt(S:DS e P g B G H b7)(m:C8 H M)(i:Nat){R:List Addr}(r:∀b∈R,H b=J)(x:∀b∈R,∃u:Cl,M b=U u.1):
  DS e P g (R.map U++B) G M b7/\∀c:Nat->List Addr,(∀i b,b∈c i->U b∈B)->(∀i j b,b∈c i->b∈c j->i=j)->(∀(i:Nat) (pv:PV),b7[i]?=U (U pv)->fT e P B H G[i]? (c i) pv) ->
   ∃a:Nat->List Addr,(∀i b,b∈a i->U b∈R.map U++B)/\(∀i j b,b∈a i->b∈a j->i=j)/\(∀(i:Nat) (pv:PV),b7[i]?=U (U pv)->fT e P (R.map U++B) M G[i]? (a i) pv)/\(∀b∈R,b∈a i)/\∀b∈c i,b∈a i:=by
 have s:∀b∈R,U b∉B:=λb d z=>by obtain⟨_,o,z⟩:=S.new b z;rw[r b d]at z;exact nE z
 have l:∀c:Nat->List Addr,(∀i b,b∈c i->U b∈B)->(∀i j b,b∈c i->b∈c j->i=j)->(∀i pv,b7[i]?=U (U pv)->fT e P B H G[i]? (c i) pv) ->
   ∃a:Nat->List Addr,(∀i b,b∈a i->U b∈R.map U++B)/\(∀i j b,b∈a i->b∈a j->i=j)/\(∀i pv,b7[i]?=U (U pv)->fT e P (R.map U++B) M G[i]? (a i) pv)/\(∀b∈R,b∈a i)/\∀b∈c i,b∈a i:=λc f h p=>by
  refine⟨λj=>if j=i then R++c j else c j,λj b d=>?_,λj k b O K=>?_,λj pv t=>(p j pv t).Jr (uS m r) (λb _ o z=>m _ _ z) λb z=>?_,λb d=>by dsimp only;rw[A6 rfl];exact fw _ d,λb d=>by dsimp only;rw[A6 rfl];exact S5 _ d⟩
  . dsimp only at d;split at d
    . rcases List.mem_append.mp d with z|z
      exact fw _<|mem_map.mpr ⟨b,z,rfl⟩;exact S5 _<|f j b z
    exact S5 _<|f j b d
  . dsimp only at O K;split at O
    . rename_i n;split at K;rename_i q;rw[n,q]
      . rcases List.mem_append.mp O with z|z
        exact absurd (f k b K)<|s b z;exact h j k b z K
    . split at K
      . rcases List.mem_append.mp K with z|z
        exact absurd (f j b O)<|s b z;exact h j k b O z
      exact h j k b O K
  . dsimp only;split;exact S5 _ z;exact z
 obtain⟨c,f,h,p⟩:=S.mX;obtain⟨a,v,k2,w,_⟩:=l c f h p;refine⟨⟨S.ls,S.same.trans m,λb d=>?_,S.gK,a,v,k2,w⟩,l⟩
 rcases List.mem_append.mp d with z|z
 obtain⟨y,n,q⟩:=mem_map.mp z;cases q;exact⟨S.same.free<|r _ n,x _ n⟩;exact⟨(S.new b z).1,let ⟨o,z⟩:=(S.new b z).2;⟨o,m _ _ z⟩⟩
end
noncomputable def IE:PV->Option PF
 | .dat d=>U<|.dat d
 | .own l=>U<|.own l
 | .ob _ (.dct es)=>U<|.dct es
 |_=>J
noncomputable def a1o(pv:PV):Option PF:=U<|.dat pv.d
def Ea(nm:Str)(i:Nat)(f:Str)(kp:PV->Option PF)(F:DV):DO:=λds=>(F ds).bind λpv=>(kp pv).bind λp=>(yU nm i ds).bind λx=>if x.2.length<900 then U (.next<|ds.set i<|U<|.ob x.1<|.ins nm<|mN f p x.2)else J
def bX.len(h:bX e g M p9 m6 P):p9.length=m6.length:=by
 induction h with
 |nil=>rfl
 |dat _ _ a=>simp_all
 |own _ _ _ _ a=>simp_all
 |dct _ _ _ _ a=>simp_all
def a5a(D:uH g B P)(r:RX e P B g M b6 i8)(h:IE i8=U q5\/a1o i8=U q5):∃Rf,(∀b∈Rf,g b=J)/\(∀b∈Rf,∃u:Cl,M b=U u.1)/\Gh e (K1 M (Rf.map U++B) P) M b6 q5 Rf:=by
 rcases h with h|h
 . cases i8 with
   |dat d=>cases h;exact⟨[],λb K=>absurd K C9,λb K=>absurd K C9,.dat r⟩
   |own l=>
    cases h;obtain⟨a,k,rfl,n,O,r⟩:=r;refine⟨[a],λb K=>?_,λb K=>?_,.own O r⟩;rw[mem_singleton.mp K];exact n;rw[mem_singleton.mp K];exact⟨Cl.l k,O⟩
   |ob w c=>
    cases c with
    |dct o=>
     cases h;obtain⟨a,R,rfl,_,O,i,rfl,j,m⟩:=r;refine⟨[a],O,λb K=>?_,.dct j m⟩;rw[mem_singleton.mp K];exact⟨Cl.d i,j⟩
    |ins _ _=>exact nE h
    |seq _ _=>exact nE h
 cases h;exact⟨[],λb K=>absurd K C9,λb K=>absurd K C9,.dat<|r.dt D⟩
def ZP{f:Str}{kp:PV->Option PF}(T:qa c.K t N)(n:jE c.K N f)(h:PE c p<|S7 o)(hk:∀pv i,kp pv=U i->IE pv=U i\/a1o pv=U i)(e:PX c Uf Y y S)(hs:autoParam (ak Y (U<|Q0 p f b8) q.line c.env=pure U') B7):V3 c (gB [Q0 p f b8] Y q) (a6A c.K (S7 o) y f)<|Ea t o f kp S:=⟨a7b h e.p hs,by
 intro O g as σ H ds D r C a K;obtain⟨pv,h1,a⟩:=A9 a;obtain⟨i,h2,a⟩:=A9 a;obtain⟨⟨w,fs⟩,I,a⟩:=A9 a;obtain⟨hl,a⟩:=P8 a;cases a;refine e.t O g as σ H ds pv _ C h1 λF H1 s r1=>?_
 obtain⟨Rf,M,k2,k3⟩:=a5a (C.dm) r1<|hk pv i h2;obtain⟨S1,ad⟩:=C.adopt s o M k2;obtain⟨rg,E,B,l⟩:=C.mX;obtain⟨rg',g1,g2,W,g4,g5⟩:=ad rg E B l;obtain⟨v,R,A,ew,hR,L,x,Z,R',rfl,V,G,c3⟩:=W o _<|sT I;have ec:=T.eq V;subst ec;obtain⟨v0,R0,j,ew0,Q,C0,dx0,fv0,R0',rfl,c10,P,d⟩:=l o _<|sT I;rw[A]at j;cases j;have k:=s _ _ P;rw[G]at k;cases k;have dj:∀b∈Rf,b∉R0':=λb X z=>by obtain⟨u,_,z⟩:=d.at b z;rw[M b X]at z;exact nE z
 obtain⟨R2,p1,p2⟩:=(d.same (uS s M) λb _ p z=>s _ _ z).put (f:=f) k3 dj;refine⟨_,A,v,L,x,Z,rfl,G,T.cl,n,by rw[d.len];exact nAl,K (Rf.map U++as) σ _ ?_⟩
 have nv:∀b∈R2,b≠v:=λb X z=>by subst z;obtain⟨u,m,z⟩:=p1.at b X;rw[G]at z;cases z;rcases m with ⟨_,m⟩|⟨_,m⟩<;>cases m
 have hv:=hR v K9;refine S1.Iv (u:=Cl.i L x<|gk f F Z) (sT I) g1 g2 W hv λsm=>⟨v,v::R2,A,ew,λb X=>?_,L,x,_,R2,rfl,V,K8,p1.same sm λb X p z=>by rw[F9<|nv b X];exact z⟩
 rcases List.mem_cons.mp X with rfl|X
 exact hv
 . rcases p2 b X with z|z
   exact g4 b z
   . exact g5 b<|Q b<|G6 _ z⟩
def DS.a9F{f:PF}{u:Cl}(S:DS e P g B G M b7)(hd:b7[o]?=U (U<|.ob j9<|.ins t m6))(I:dS h8 m6=U q5)(s:G[o]?=U (U<|.ref z))(l:M z=U (.ins e8 m3 p9))(a:p9.lookup h8=U (.ref N))(T:∀d,q5≠.dat d)(X:∀{Hv':Hp},C8 (K1 M B P) Hv'->Gh e Hv' (upd M N u.1) (.ref N) f [N]):DS e P g B G (upd M N u.1)<|b7.set o<|U<|.ob j9<|.ins t<|mN h8 f m6:=by
 obtain⟨rg,E,p,x⟩:=S.mX;obtain⟨v0,R0,c,m,h,Z,C,q,K,rfl,n,H,j⟩:=x o _ hd;rw[s]at c;cases c;rw[l]at H;cases H;obtain⟨x0,R,A,O,Q,F⟩:=j.look I;rw[a]at A;cases A;have L:R=[N]:=by
  cases O with
  |dat _=>exact absurd rfl<|T _
  |own _ _=>rfl
  |dct _ _=>rfl
 subst L;have w:=Q N K9;have Y:z≠N:=λv=>by subst v;obtain⟨u',k,v⟩:=j.at z w;rw[l]at v;cases v;rcases k with ⟨_,k⟩|⟨_,k⟩<;>cases k
 refine S.Iv hd E p x (h N<|G6 _ w) λsm=>⟨z,z::K,s,m,h,e8,m3,p9,K,rfl,n,by rw[F9 Y];exact l,F sm (λb hb D i v=>?_)<|X sm⟩;rw[F9<|λv=>D (by rw[v];exact K9)];exact v
inductive Dd(K:D4)(f:List PV->Option (PV×Ds))(vs:List V)(H:Hp)(Q:VK)(E:XK):Prop
 |mk:∀(O:List Addr) (D8:Hp) (as:As) (args:List PV) (pv:PV) (ds':Ds),(DS K O D8 as (vs.map U) H<|args.map U)->(f args=U (pv,ds'))->(∀as' Hm H' v,DS K O D8 as' (vs.map U) Hm ds'->C8 Hm H'->RX K O as' Hm H' v pv->Q v H')->Dd K f vs H Q E
noncomputable def jq(t:Nat->Addr):Nat->List PV->List PV
 |_,[]=>[]
 |i,.ob _ c::r=>.ob (U<|t i) c::jq t (i+1) r
 |i,x::r=>x::jq t (i+1) r
def T7(t:Nat->Addr):Nat->List PV->Ds->Ds
 |_,[],_=>[]
 |i,.ob _ _::a,U (.ob w c)::r=>(if w=U (t i)then U (.ob J c)else J)::T7 t (i+1) a r
 |i,_::a,_::r=>J::T7 t (i+1) a r
 |i,_::a,[]=>J::T7 t (i+1) a []
def QG(args:List PV)(t:Nat->Addr):Out->Option (PV×Ds)
 | .retO pv ds=>U (pv,T7 t 0 args ds)
 | .next ds=>U (.dat F3,T7 t 0 args ds)
 |_=>J
def BK(n N:Nat)(G:DO):List PV->Option (PV×Ds):=λargs=>if args.length=n then
 (open Classical in if h:∃r,∀t,(G<|(jq t 0 args).map U++S9 (N-n) J).bind (QG args t)=U r then U h.choose else J)else J
def KZ{r:PV×Ds}(b:t7.length=o)(h:∀t,(i9<|(jq t 0 t7).map U++S9 (l8-o) J).bind (QG t7 t)=U r):BK o l8 i9 t7=U r:=by
 delta BK;rw[A6 b];have a:∃r,∀t,(i9<|(jq t 0 t7).map U++S9 (l8-o) J).bind (QG t7 t)=U r:=⟨r,h⟩;rw[dif_pos a];have:=a.choose_spec λ_=>0;rw[h λ_=>0]at this;exact this.symm
def OX{r:PV×Ds}(h:BK o l8 i9 t7=U r):t7.length=o/\∀t,(i9<|(jq t 0 t7).map U++S9 (l8-o) J).bind (QG t7 t)=U r:=by
 unfold BK at h;split at h
 . rename_i a;split at h;rename_i b;cases h;exact⟨a,b.choose_spec⟩;exact nE h
 exact nE h
theorem Jd(t:Nat->Addr):∀(args:List PV) (i k:Nat),(jq t i args)[k]?=(args[k]?).map λpv=>match pv with
  | .ob _ c=>.ob (U<|t<|i+k) c
  |pv=>pv
 | [],i,k=>by simp[jq]
 |x::r,i,0=>by cases x<;>simp[jq]
 |x::r,i,k+1=>by
  have:=Jd t r (i+1) k;rw[show i+1+k=i+(k+1)from WS _ _ _]at this
  cases x<;>(assumption)
theorem xO(t:Nat->Addr):∀(args:List PV) (i k:Nat) (ds:Ds) (pv:PV),(T7 t i args ds)[k]?=U (U pv)->∃c w b,pv=.ob J c/\args[k]?=U (.ob w b)/\ds[k]?=U (U<|.ob (U<|t<|i+k) c)
 | [],i,k,ds,pv,h=>by simp[T7]at h
 |x::a,i,0,[],pv,h=>by cases x<;>simp[T7]at h
 |x::a,i,k+1,[],pv,h=>by
  have d:(T7 t (i+1) a [])[k]?=U (U pv):=by cases x<;>simpa [T7]using h
  obtain⟨c,w,b,_,_,h⟩:=xO t a (i+1) k [] pv d;simp at h
 |x::a,i,0,y::r,pv,h=>by
  cases x with
  |ob e b=>
   cases y with
   |none=>simp[T7]at h
   |some y=>
    cases y with
    |ob w c=>
     simp only[T7]at h;split at h;rename_i j;cases h;exact⟨c,e,b,rfl,rfl,by simp[j]⟩;cases h
    |dat _=>simp[T7]at h
    |own _=>simp[T7]at h
  |dat _=>simp[T7]at h
  |own _=>simp[T7]at h
 |x::a,i,k+1,y::r,pv,h=>by
  have d:(T7 t (i+1) a r)[k]?=U (U pv):=by
   cases x with
   |ob e b=>
    cases y with
    |none=>assumption
    |some y=>cases y<;>simpa [T7]using h
   |dat _=>assumption
   |own _=>assumption
  obtain⟨c,w,b,f,g,l⟩:=xO t a (i+1) k r pv d;exact⟨c,w,b,f,by assumption,by rw[gC,l,show i+1+k=i+(k+1)from WS _ _ _]⟩
theorem mR(t:Nat->Addr):∀(args:List PV) (i:Nat) (ds:Ds),(T7 t i args ds).length=args.length
 | [],_,_=>by simp[T7]
 |x::a,i,[]=>by cases x<;>simp[T7,mR t a]
 |x::a,i,y::r=>by
  cases x with
  |ob w c=>
   cases y with
   |none=>simp[T7,mR t a]
   |some y=>cases y<;>simp[T7,mR t a]
  |dat _=>simp[T7,mR t a]
  |own _=>simp[T7,mR t a]
section
variable{H:Hp}
def DS.slots(S:DS e P g B G H b7){b:St}{ds':Ds}(l:b.length=ds'.length)(h:∀(i:Nat) (pv:PV),ds'[i]?=U (U pv)->∃a,b7[i]?=U (U a)/\∀c,fT e P B H G[i]? c a->fT e P B H b[i]? c pv):DS e P g B b H ds':=by
 obtain⟨c,j,K,k⟩:=S.mX;refine⟨l,S.same,S.new,S.gK,c,j,K,λi pv f=>?_⟩;obtain⟨a,d,O⟩:=h i pv f;exact O _<|k i a d
end
noncomputable def addrOf:Option V->Addr
 |some (.ref a)=>a
 |_=>(0:Nat)
def DS.Sw{N:List Str}(S:DS e P g B (b9.map U) M<|t7.map U):
  DS e P g B (L2.start N b9) M ((jq (λi=>addrOf b9[i]?) 0 t7).map U++S9 (N.length-t7.length) J):=by
 have m:b9.length=t7.length:=by have:=S.ls;simpa using this
 have lt:(jq (λi=>addrOf b9[i]?) 0 t7).length=t7.length:=by
  have:∀a i t,(jq t i a).length=a.length:=by
   intro a;induction a with
   |nil=>intro i t;rfl
   |cons x r p=>intro i t;cases x<;>simp[jq,p]
  exact this _ _ _
 refine S.slots (by delta L2.start;simp[lt,m]) λi pv b=>?_;rw[Xx]at b;split at b
 . rename_i q;rw[aK,Jd,Mb]at b;have f:i<t7.length:=by simpa [lt]using q
   have K:i<b9.length:=by simp_all
   rw[Y2 f]at b;have k:(L2.start N b9)[i]?=(b9.map U)[i]?:=by delta L2.start;rw[Ay<|by simpa using K]
   have s:(t7.map U)[i]?=U (U t7[i]):=by rw[aK,Y2 f];rfl
   refine⟨t7[i],s,λy h=>?_⟩
   rw[k];simp only[lU,Function.comp,qV]at b;generalize t7[i]=x at b h;cases x with
   |dat d=>simp only at b;rw[<-b];exact h
   |own l=>simp only at b;rw[<-b];exact h
   |ob w c=>
    rw[<-b];obtain⟨v,R,O,u,o,n⟩:=h;refine⟨v,R,O,B6 ?_,o,n⟩;rw[aK]at O;rw[Y2 K]at O;have j:b9[i]=.ref v:=by simpa using O
    rw[zU,Y2 K,j];rfl
 have:=wZ b;simp[WT]at this
def gf.okO{N:List Str} (F:gf e t h8 l9 z m9) (S:fF N c9<|K0 l9) (hN:c9.length<=N.length) (u:∀(m:A1) (P:X1) (outer:List Env) (s:C5) (H:Hp) (E:XK),aG o (P.deeper<|bq h8 (K0 l9) (hz s) z m) ->
   ∃j,iq (fD jm A D e j7 T N h8 (K0 l9) z m P outer s H E).HD (aM l9) j i9):Y6 A D e j7 T jm (o+1) z m9 c9<|Dd e<|BK c9.length N.length i9:=by
 have ln:∀g H Q E,Dd e (BK c9.length N.length i9) g H Q E->g.length=c9.length:=λg H Q E h=>by obtain⟨O,d,as,q,pv,Z,w,I,X⟩:=h;have:=w.ls;have hl:=(OX I).1;simp at this;simp[*]
 refine F.ok S ln λm P outer s H g Q E hr h=>?_
 obtain⟨O,d,as,q,pv,Z,w,I,X⟩:=h;obtain⟨j,ht⟩:=u m P outer s H E hr;refine⟨j,ht.p,?_⟩;obtain⟨hl,I⟩:=OX I;have W:=I λi=>addrOf g[i]?
 obtain⟨f,W,C⟩:=A9 W;have S1:=DS.Sw (N:=N) w;rw[hl]at S1;have:g.length=c9.length:=by have:=w.ls;simp at this;simp[*]
 have L:∀a l x b,DS e O d a l x b->DS e O d a (g.map U) x (T7 (λi=>addrOf g[i]?) 0 q b):=λa l x b S2=>by
  refine S2.slots (by rw[mR,F4];simp[*]) λi pv hd=>?_;obtain⟨c,w0,c0,rfl,h4,h5⟩:=xO _ _ _ _ _ _ hd;refine⟨_,h5,λrg hs=>?_⟩
  obtain⟨v,R,z1,z2,z3,z4⟩:=hs;refine⟨v,R,?_,B3 rfl,z3,z4⟩;have n:addrOf g[0+i]?=v:=by
   rcases z2 with M|M
   exact nS M;exact dY M
  rw[zU]at n;obtain⟨v',_,B,_⟩:=w.slot i (.ob w0 c0) (by rw[aK,h4];rfl)
  rw[B];rw[aK]at B;cases K:g[i]? with
  |none=>rw[K]at B;exact nE B
  |some t=>
   rw[K]at B n;have y1':t=.ref v':=by simpa using B
   rw[y1']at n;have Y:v'=v:=n;rw[Y]
 refine ht.t O d as (L2.start N g) H _ _ f S1 W ?_;cases f with
 |next b=>cases C;exact λa l V S'=>X a V V _ (L _ _ _ _ S') (C8.refl _) Dt.non
 |retO pv' b=>cases C;exact λa l x V v S' s r=>X a x V v (L _ _ _ _ S') s r
 |ret pv'=>exact nE C
 |brk b=>exact nE C
 |cont b=>exact nE C
 |up t=>exact nE C
 |upO j t b=>exact nE C
inductive AV where
 |d (x:f9)
 |s (i:Nat)
variable{v9:Ds->Option (List AV)}
inductive Ih(K:D4)(Hv:Hp)(σ:St):List V->List AV->Prop
 |nil:Ih K Hv σ [] []
 |d {v x vs l}:Dt K Hv v x->Ih K Hv σ vs l->Ih K Hv σ (v::vs) (.d x::l)
 |s {v i vs l}:σ[i]?=U (U v)->Ih K Hv σ vs l->Ih K Hv σ (v::vs) (.s i::l)
def TAO(K:D4)(t:TA)(F:Ds->Option (List AV)):Prop:=
 ∀(O:List Addr) (D8:Hp) (as:As) (σ:St) (H:Hp) (ds:Ds) (l:List AV) (Q:List V->Hp->Prop),DS K O D8 as σ H ds->F ds=U l->(∀vs H',C8 H H'->Ih K (K1 H' as O) σ vs l->Q vs H')->t σ H Q
structure tO(X:Cx)(es:List Expr)(t:TA)(F:Ds->Option (List AV)):Prop where
 p:PA X es t
 t:TAO X.K t F
noncomputable def gm:Ds->Option (List AV):=λ_=>U []
noncomputable def X9(F:DV)(G:Ds->Option (List AV)):Ds->Option (List AV):=λds=>(F ds).bind λx=>(G ds).bind λl=>U (.d x.d::l)
noncomputable def ic(i:Nat)(G:Ds->Option (List AV)):Ds->Option (List AV):=λds=>match ds[i]? with
 |some (U<|.ob _ _)=>(G ds).bind λl=>U (.s i::l)
 |_=>J
section
def a4x:tO c [] pA gm:=⟨jt,by intro O a d e H X l Q S b q;cases b;exact q [] H (C8.refl H) .nil⟩
def a0m(h:PX c Uf p y S)(k:tO c b5 e9 v9)(hs:autoParam (fS c p b5) B7):tO c (p::b5) (fj y e9)<|X9 S v9:=⟨bg h.p k.p hs,by
 intro O a j f H i l Q t b q;obtain⟨x,s,b⟩:=A9 b;obtain⟨m,e,b⟩:=A9 b;cases b;refine h.t O a j f H i x _ t s λv n g u=>?_;refine k.t O a j f n i m _ (t.grow g) e λo w X r=>?_
 exact q (v::o) w (g.trans X)<|.d ((u.grow X).dt<|t.dm) r⟩
set_option tactic.hygienic true in
def a0l(i:Nat)(h:PE c p<|S7 i)(k:tO c b5 e9 v9)(hs:autoParam (fS c p b5) B7):tO c (p::b5) (fj (S7 i) e9)<|ic i v9:=⟨bg h k.p hs,by
 intro O b y n H u l Q S a q;unfold ic at a;split at a
 . rename_i w X f;obtain⟨m,r,a⟩:=A9 a;cases a;obtain⟨v,R,d,_⟩:=S.slot i _ f;refine⟨_,d,?_⟩;refine k.t O b y n H u m _ S r λg x j o=>?_;exact q (_::g) x j<|.s d o
 . exact nE a⟩
end
def pR(ds:Ds):List AV->Option (List PV)
 | []=>U []
 | .d x::l=>(pR ds l).bind λr=>U (.dat x::r)
 | .s i::l=>match ds[i]? with
  |some (U<|.ob _ c)=>(pR ds l).bind λr=>U (.ob J c::r)
  |_=>J
noncomputable def aB:List AV->List Nat
 | []=>[]
 | .d _::l=>aB l
 | .s i::l=>i::aB l
noncomputable def Dx:Option PV->Option (Option PV)->Option PV
 |some (.ob _ c),U (U<|.ob w _)=>U<|.ob w c
 |_,_=>J
set_option tactic.hygienic true in
def Um{x:Option PV}{o:Option (Option PV)}(h:Dx x o=U i8):∃w c b a,o=U (U<|.ob w a)/\x=U (.ob b c)/\i8=.ob w c:=by
 unfold Dx at h;split at h;rename_i b c w a;cases h;exact⟨w,c,b,a,rfl,rfl,rfl⟩;exact nE h
def mO:List AV->Ds->Ds->Ds
 | .s i::l,x::r,ds=>mO l r<|ds.set i<|Dx x ds[i]?
 | .d _::l,_::r,ds=>mO l r ds
 |_,_,ds=>ds
noncomputable def nN:List AV->Nat->Option Nat
 | [],_=>J
 | .d _::l,j=>(nN l j).map (· + 1)
 | .s i::l,j=>if i=j then U 0 else(nN l j).map (· + 1)
theorem qC:∀{l:List AV}{j k:Nat},nN l j=U k->l[k]?=U (.s j)
 | [],j,k,h=>nE h
 | .d x::l,j,k,h=>by simp only[nN,MM]at h;obtain⟨m,a,rfl⟩:=h;rw[gC];exact qC a
 | .s i::l,j,k,h=>by
  simp only[nN]at h;split at h;rename_i e;cases h;rw[e];rfl;simp only[MM]at h;obtain⟨m,a,rfl⟩:=h;rw[gC];exact qC a
theorem fK:∀{l:List AV}{j:Nat},j∈aB l ↔ ∃k:Nat,l[k]?=U (AV.s j)
 | [],j=>by simp[aB]
 | .d x::l,j=>by
  rw[aB,fK];constructor;rintro⟨k,h⟩;exact⟨k+1,by assumption⟩
  . rintro⟨k,h⟩;cases k with
    |zero=>simp at h
    |succ k=>exact⟨k,by assumption⟩
 | .s i::l,j=>by
  rw[aB,Q7,fK];constructor
  . rintro(h|⟨k,h⟩);exact⟨0,by rw[h];rfl⟩;exact⟨k+1,by assumption⟩
  . rintro⟨k,h⟩;cases k with
    |zero=>
     have a:i=j:=by simpa using h
     exact B3 a.symm
    |succ k=>exact B6 ⟨k,by assumption⟩
theorem pF:∀{l:List AV}{j k:Nat},(aB l).Nodup->l[k]?=U (.s j)->nN l j=U k
 | [],j,k,_,h=>by simp at h
 | .d x::l,j,k,n,h=>by
  cases k with
  |zero=>simp at h
  |succ k=>
   simp only[nN,pF (l:=l) n h,lU]
 | .s i::l,j,k,n,h=>by
  rw[aB,Ff]at n;cases k with
  |zero=>
   have b:i=j:=by simpa using h
   simp[nN,b]
  |succ k=>
   have a:i≠j:=λz=>n.1 (fK.mpr ⟨k,by rw[z];exact h⟩);simp only[nN,B2 a,pF n.2 h,lU]
set_option tactic.hygienic true in
def a8Q{l:List AV}(o:Ih e g G b9 l)(h:pR b7 l=U t7):b9.length=l.length/\t7.length=l.length/\∀(k:Nat) (pv:PV),t7[k]?=U pv ->
  (∃x v,l[k]?=U (AV.d x)/\pv=.dat x/\b9[k]?=U v/\Dt e g v x)\/∃i w c v,l[k]?=U (AV.s i)/\b7[i]?=U (U<|.ob w c)/\pv=.ob J c/\b9[k]?=U v/\G[i]?=U (U v):=by
 induction o generalizing t7 with
 |nil=>
  cases h;exact⟨rfl,rfl,λk pv h=>nE h⟩
 |d K t i=>
  obtain⟨r,f,h⟩:=A9 h;cases h;obtain⟨b,m,a⟩:=i f;refine⟨J3 (· + 1) b,J3 (· + 1) m,λk pv h=>?_⟩
  cases k with
  |zero=>exact B3 ⟨_,_,rfl,(dY h).symm,rfl,K⟩
  |succ k=>exact a k pv h
 |s K t i=>
  rw[pR]at h;split at h
  . rename_i w c n;obtain⟨r,f,h⟩:=A9 h;cases h;obtain⟨b,m,a⟩:=i f;refine⟨J3 (· + 1) b,J3 (· + 1) m,λk pv h=>?_⟩
    cases k with
    |zero=>exact B6 ⟨_,w,c,_,rfl,n,(dY h).symm,rfl,K⟩
    |succ k=>exact a k pv h
  exact nE h
theorem Cf:∀{l:List AV}{ds' ds:Ds},(mO l ds' ds).length=ds.length
 | [],_,_=>by simp[mO]
 | .d _::l,x::r,ds=>by rw[mO];exact Cf
 | .d _::l,[],ds=>by simp[mO]
 | .s i::l,[],ds=>by simp[mO]
 | .s i::l,x::r,ds=>by rw[mO,Cf,List.length_set]
theorem Cg:∀{l:List AV}{ds' ds:Ds}{j:Nat}{pv:PV},(aB l).Nodup->ds'.length=l.length->(mO l ds' ds)[j]?=U (U pv) ->
  (j∉aB l/\ds[j]?=U (U pv))\/∃(k:Nat) (w:Option Addr) (c:OD) (f:Option Addr) (e:OD),l[k]?=U (AV.s j)/\ds[j]?=U (U<|.ob w e)/\ds'[k]?=U (U<|.ob f c)/\pv=.ob w c
 | [],_,ds,j,pv,_,_,h=>B3 ⟨by simp[aB],by assumption⟩
 | .d x::l,[],ds,j,pv,n,hl,h=>by simp at hl
 | .s x::l,[],ds,j,pv,n,hl,h=>by simp at hl
 | .d x::l,y::r,ds,j,pv,n,hl,h=>by
  rcases Cg (l:=l) n (by simpa using hl) h with h|⟨k,w,c,f,e,g,b,o,m⟩
  exact B3 h;exact B6 ⟨k+1,w,c,f,e,by assumption,b,by assumption,m⟩
 | .s i::l,y::r,ds,j,pv,n,hl,h=>by
  rw[aB,Ff]at n;rcases Cg n.2 (by simpa using hl) h with ⟨g,b⟩|⟨k,v,q,f,e,g,b,o,m⟩
  . by_cases a:i=j;subst a;rw[FF,A6 rfl]at b;obtain⟨_,b⟩:=P8 b;obtain⟨w,c,f,e,t,p,u⟩:=Um<|dY b;exact B6 ⟨0,w,c,f,e,rfl,t,by rw[p];rfl,u⟩;rw[ir a]at b;exact B3 ⟨by rw[aB,Q7];exact λz=>z.elim (λz=>a z.symm) g,b⟩
  . have a:i≠j:=λz=>n.1 (fK.mpr ⟨k,by rw[z];exact g⟩);rw[ir a]at b;exact B6 ⟨k+1,v,q,f,e,by assumption,b,by assumption,m⟩
def Vk{bs:As}{O:List Addr}(h:∀b,(b∈O\/U b∈B)↔(b∈P\/U b∈bs)):K1 g B O=K1 g bs P:=by
 funext b
 delta K1
 simp_all
section
variable{H:Hp}
set_option tactic.hygienic true in
def DS.a2N(S:DS e P g B G H b7){l:List AV}(ha:Ih e (K1 H B P) G b9 l)(hp:pR b7 l=U t7)(hn:(aB l).Nodup):
  ∃Oc Hc ac,DS e Oc Hc ac (b9.map U) H (t7.map U)/\∀f X ds',DS e Oc Hc f (b9.map U) X ds'->∃as2,DS e P g as2 G X (mO l ds' b7)/\∀H' v pv,C8 X H'->RX e Oc f X H' v pv->RX e P as2 X H' v pv:=by
 obtain⟨rg,r1,r2,r3⟩:=S.mX;obtain⟨l1,l2,l3⟩:=a8Q ha hp;have C:∀b,b∈(aB l).flatMap rg ↔ ∃i∈aB l,b∈rg i:=λb=>List.mem_flatMap;generalize hR:(aB l).flatMap rg=RI at C;generalize hT:(B.filterMap id).filter (λb=>decide (b∉RI))=I
 have n:∀b,b∈I↔U b∈B/\b∉RI:=λb=>by rw[<-hT,List.mem_filter,Mu,gX];simp
 have σ:∀b,b∈RI->U b∈B:=λb F=>by obtain⟨i,_,h⟩:=(C b).mp F;exact r1 i b h
 have L:∀(R:List Addr) b,U b∈R.map U↔b∈R:=λR b=>by simp
 have D8:∀b o,K1 H (RI.map U) [] b=U o↔b∉RI/\H b=U o:=λb o=>by rw[V7,L];simp
 have e0:∀H,K1 H (RI.map U) (P++I)=K1 H B P:=λH=>Vk λb=>by
  rw[L,wK,n];constructor
  . rintro((h|⟨h,_⟩)|h);exact B3 h;exact B6 h;exact B6<|σ b h
  . rintro(h|h);exact B3 (B3 h)
    . by_cases c:b∈RI;exact B6 c;exact B3<|B6 ⟨h,c⟩
 refine⟨P++I,K1 H (RI.map U) [],RI.map U,⟨?_,L1,λa h=>?_,λa h=>?_,λk=>match l[k]? with|some (.s i)=>rg i|_=>[],λk b h=>?_,λk k' b h A=>?_,λk pv h=>?_⟩,?_⟩;simp[l1,l2];rw[L]at h;exact⟨by delta K1;rw[A6<|.inr<|(L _ _).mpr h],(S.new a<|σ a h).2⟩
 . rcases List.mem_append.mp h with h|h
   obtain⟨o,z⟩:=S.gK a h;exact⟨o,(D8 a o).mpr ⟨λq=>S.nO (σ a q) h,S.same _ _ z⟩⟩;obtain⟨m,p⟩:=(n a).mp h;obtain⟨_,u,z⟩:=S.new a m;exact⟨_,(D8 a _).mpr ⟨p,z⟩⟩
 . dsimp only at h;split at h;rename_i i M;rw[L,C];exact⟨i,fK.mpr ⟨k,M⟩,h⟩;simp at h
 . dsimp only at h A;split at h
   . rename_i i M;split at A;rename_i i' hi';have:=r2 i i' b h A;subst this;have q1:=pF hn M;rw[pF hn hi']at q1;exact(dY q1).symm;simp at A
   simp at h
 . rw[aK]at h;cases t:t7[k]? with
   |none=>rw[t]at h;exact nE h
   |some pv0=>
    rw[t]at h;have A:pv0=pv:=by simpa using h
    subst A;rcases l3 k pv0 t with ⟨x,v,D,rfl,z3,z4⟩|⟨i,w,c,v,D,z2,rfl,z3,z4⟩
    exact⟨v,by rw[aK,z3];rfl,by rw[e0];exact z4⟩
    . dsimp only;rw[D];obtain⟨v',R,Q,y2,Y,Z⟩:=r3 i _ z2;rw[z4]at Q;have W:v=.ref v':=by simpa using Q
      subst W;exact⟨v',R,by rw[aK,z3];rfl,B3 rfl,Y,by rw[e0];exact Z⟩
 intro f X ds' O;obtain⟨rg',q1,q2,q3⟩:=O.mX;have hl':ds'.length=l.length:=by have:=O.ls;simp at this;lia
 have na:∀b,U b∈f->b∉P/\b∉I/\g b=J:=λb F=>by
  have z:=(O.new b F).1;refine⟨λq=>?_,λq=>?_,?_⟩
  . obtain⟨o,y⟩:=S.gK b q;rw[(D8 b o).mpr ⟨λq'=>S.nO (σ b q') q,S.same _ _ y⟩]at z;exact nS z
  obtain⟨m,p⟩:=(n b).mp q;obtain⟨_,u,y⟩:=S.new b m;rw[(D8 b _).mpr ⟨p,y⟩]at z;exact nS z
  . cases y:g b with
    |none=>rfl
    |some o=>
     rw[(D8 b o).mpr ⟨λq'=>?_,S.same _ _ y⟩]at z;exact nS z;rw[(S.new b<|σ b q').1]at y;exact nE y
 have e1:∀H xs,K1 H (xs++f) (P++I)=K1 H (xs++(f++I.map U)) P:=λH xs=>Vk λb=>by
  rw[wK,wK,wK,wK,L];constructor
  . rintro((h|h)|h|h);exact B3 h;exact B6<|B6<|B6 h;exact B6<|B3 h;exact B6<|B6<|B3 h
  . rintro(h|h|h|h);exact B3<|B3 h;exact B6<|B3 h;exact B6<|B6 h;exact B3<|B6 h
 have e2:∀H:Hp,K1 H f (P++I)=K1 H (f++I.map U) P:=λH=>e1 H []
 have sm:C8 (K1 H B P)<|K1 X (f++I.map U) P:=eN λb o m p T=>by
  have F:=λz=>p<|σ b z;refine⟨m,λz=>?_,O.same _ _<|(D8 b o).mpr ⟨F,T⟩⟩
  rcases List.mem_append.mp z with z|z
  have:=(O.new b z).1;rw[(D8 b o).mpr ⟨F,T⟩]at this;exact nS this;exact p ((n b).mp<|(L _ _).mp z).1
 refine⟨f++I.map U,⟨by rw[Cf];exact S.ls,λb o h=>O.same _ _<|(D8 b o).mpr ⟨λq'=>?_,S.same _ _ h⟩,λb h=>?_,S.gK,λj=>match nN l j with|some k=>rg' k|none=>rg j,λj b h=>?_,λj N b h A=>?_,λj pv h=>?_⟩,λH' v pv s r=>?_⟩;rw[(S.new b<|σ b q').1]at h;exact nE h
 . rcases List.mem_append.mp h with h|h
   exact⟨(na b h).2.2,(O.new b h).2⟩;obtain⟨m,p⟩:=(n b).mp<|(L _ _).mp h;obtain⟨z,u,y⟩:=S.new b m;exact⟨z,u,O.same _ _<|(D8 b _).mpr ⟨p,y⟩⟩
 . dsimp only at h;split at h;exact fw _ (q1 _ b h)
   . rename_i hj;refine S5 _<|(L _ _).mpr<|(n b).mpr ⟨r1 j b h,λz=>?_⟩;obtain⟨i,M,z⟩:=(C b).mp z;have:=r2 i j b z h;subst this;obtain⟨k,t⟩:=fK.mp M;rw[pF hn t]at hj;exact nS hj
 . have no:∀(j N k),nN l j=U k->nN l N=J->b∈rg' k->b∈rg N->False:=λj N k hj hj' F hb'=>by
     have z:=q1 k b F;have:b∉RI:=λz=>by obtain⟨i,M,z⟩:=(C b).mp z;have:=r2 i N b z hb';subst this;obtain⟨k,t⟩:=fK.mp M;rw[pF hn t]at hj';exact nS hj'
     exact(na b z).2.1 ((n b).mpr ⟨r1 N b hb',this⟩)
   dsimp only at h A;split at h
   . rename_i k t;split at A;rename_i k' E;have:=q2 k k' b h A;subst this;have D:=qC t;rw[qC E]at D;cases D;rfl;rename_i E;exact(no j N k t E h A).elim
   . rename_i t;split at A;rename_i k' E;exact(no N j k' E t A h).elim;exact r2 j N b h A
 . rcases Cg hn hl' h with ⟨m,p⟩|⟨k,w,c,w0,c0,m,p,T,rfl⟩
   . have:nN l j=J:=by
       cases z:nN l j with
       |none=>rfl
       |some k=>exact absurd (fK.mpr ⟨k,qC z⟩) m
     dsimp only;rw[this];refine(r3 j pv p).Jr sm (λb F o z=>O.same _ _<|(D8 b o).mpr ⟨λq=>?_,z⟩) λb z=>z;obtain⟨i,M,y⟩:=(C b).mp q;have K:=r2 i j b y F;subst K;exact m M
   . dsimp only;rw[pF hn m];obtain⟨v',R,Q,y2,Y,Z⟩:=q3 k _ T;obtain⟨v0,R0,x1,x2,_⟩:=r3 j _ p;have t:k<t7.length:=by rw[l2];exact(List.getElem?_eq_some_iff.mp m).1
     rcases l3 k _ (Y2 t)with ⟨x,v,D,_⟩|⟨i,w',c',v,D,z2,z3,z4,z5⟩
     rw[m]at D;cases D
     . rw[m]at D;cases D;rw[aK,z4]at Q;have W:v=.ref v':=by simpa using Q
       subst W;rw[z5]at x1;have x1':v'=v0:=by simpa using x1
       subst x1';exact⟨v',R,z5,x2,Y,by rw[<-e2];exact Z⟩
 . cases pv with
   |dat d=>
    have r':Dt e (K1 H' f<|P++I) v d:=r;rw[e2]at r';exact r'
   |own l=>
    obtain⟨a,xs,Q,y2,Y,Z⟩:=r;refine⟨a,xs,Q,y2,Y,?_⟩;have:=e1 H' [U a];rw[show(U a::(f++I.map U))=[U a]++(f++I.map U)from rfl,<-this];exact Z
   |ob w c=>
    obtain⟨o,R,Q,y2,Y,Z⟩:=r;refine⟨o,R,Q,y2,Y,?_⟩;rw[<-e1 H' (R.map U)];exact Z
end
def TXO(K:D4)(te:TE)(F:Ds->Option (PV×Ds)):Prop:=
 ∀(O:List Addr) (D8:Hp) (as:As) (σ:St) (H:Hp) (ds:Ds) (pv:PV) (ds':Ds) (Q:VK),DS K O D8 as σ H ds->F ds=U (pv,ds')->(∀as' Hm H' v,DS K O D8 as' σ Hm ds'->C8 Hm H'->RX K O as' Hm H' v pv->Q v H')->te σ H Q
structure BQ(X:Cx)(e:Expr)(te:TE)(F:Ds->Option (PV×Ds)):Prop where
 p:PE X e te
 t:TXO X.K te F
def lD(f:List PV->Option (PV×Ds))(Fl:Ds->Option (List AV)):Ds->Option (PV×Ds):=λds=>(Fl ds).bind λl=>if (aB l).Nodup then(pR ds l).bind λargs=>(f args).bind λr=>U (r.1,mO l r.2 ds)else J
section
def YH{f':List PV->Option (PV×Ds)}(z:tO c b5 e9 v9):TXO c.K (nK (Dd c.K f') [] u4 e9)<|lD f' v9:=by
 intro O b I p H s pv o Q S a q;obtain⟨l,D,a⟩:=A9 a;obtain⟨r,a⟩:=P8 a;obtain⟨X,y,a⟩:=A9 a;obtain⟨⟨d,j⟩,w,a⟩:=A9 a;cases a;refine z.t O b I p H s l _ S D λL M m u=>?_;obtain⟨F,A,k,C,back⟩:=(S.grow m).a2N u y r;rw[bA];refine⟨F,A,k,X,d,j,C,w,λe i h v G g B=>?_⟩;obtain⟨f,n,x⟩:=back e i j G;exact q f i h v n g<|x h v d g B
def gJ(nm m:Str)(i:Nat)(f:List PV->Option (PV×Ds))(Fl:Ds->Option (List AV)):Ds->Option (PV×Ds):=λds=>(yU nm i ds).bind λx=>match dS m x.2 with
 |none=>lD f (ic i Fl) ds
 |some _=>J
noncomputable def DY(i:Nat)(F:Ds->Option (PV×Ds)):DO:=λds=>(F ds).bind λr=>U<|.next<|r.2.set i<|U<|.dat r.1.d
noncomputable def Eb(F:Ds->Option (PV×Ds)):DO:=λds=>(F ds).bind λr=>U<|.next r.2
noncomputable def kg(F:DV):DO:=λds=>(F ds).bind λpv=>U<|.retO pv ds
def Tp{FO:Ds->Option (PV×Ds)}(u:c.N.Nodup)(r:c.N[o]?=U t)(l:Loc c.env.scope t)(b:BQ c p y FO)(hs:autoParam (ak p (U<|G9 t b8) q.line c.env=pure U') B7)(f:autoParam (yz c t) gQ):
  V3 c (gB [G9 t b8] p q) (xv y<|fk o) (DY o FO):=⟨Dp u r l b.p hs f,by
 intro O a w k H s D x S h i;obtain⟨⟨pv,g⟩,m,h⟩:=A9 h;cases h;refine b.t O a w k H s pv g _ S m λn e z v X j d=>?_
 exact i _ _ _<|(X.grow j).set o<|d.dt<|X.dm (fr:=Uf)⟩
def Tv{FO:Ds->Option (PV×Ds)}(b:BQ c p y FO)(hs:autoParam (ak p J q.line c.env=pure U') B7):V3 c (ui p q) (AJ y)<|Eb FO:=⟨mY b.p hs,by intro O a l f H j D o S h e;obtain⟨⟨pv,X⟩,g,h⟩:=A9 h;cases h;exact b.t O a l f H j pv X _ S g λi m r v k d n=>e _ _ _<|k.grow d⟩
def ZN(X:PX c Uf p y S):V3 c (wR (U p) q) (BZ y)<|kg S:=⟨yS X.p,by intro O a d b H j D o e h F;obtain⟨pv,i,h⟩:=A9 h;cases h;exact X.t O a d b H j pv _ e i λv f g k=>F d b H f v e g k⟩
def QQ:PV×Ds->Option OD
 |(.dat F3,U (.ob _ c)::_)=>U c
 |_=>J
set_option tactic.hygienic true in
def Ux{r:PV×Ds}{c:OD}(h:QQ r=U c):∃w d,r=(.dat F3,U (.ob w c)::d):=by
 unfold QQ at h;split at h;rename_i w a d;cases h;exact⟨w,d,rfl⟩;exact nE h
def Ei(nm:Str)(f:List PV->Option (PV×Ds))(Fl:DL):DV:=λds=>(Fl ds).bind λl=>(f (.ob J (.ins nm [])::l.map .dat)).bind λr=>(QQ r).bind λc=>U<|.ob J c
def a3K{f':List PV->Option (PV×Ds)}{CX:vi}(T:qa c.K h8 z)(M:Mk c.K z N)(G:Y6 c.prog c.w c.K c.mg c.base CX o N m9 c9<|Dd c.K f')(hr:aG (o+1) c.A)(hg:Gl c h8)(hm:c.mg h8=U (A5 z))(r:Binds c.K m9 c9 [])(hx:Passes CX c u4)(ha:hV c Uf (p::b5) e9 j4)(hdb:autoParam (jj h8) B7)(he:autoParam (fS c p b5) B7)(hpl:autoParam (lF c q b5) B7):
  PX c Uf (L8 (G9 h8 b8) (p::b5) [] q) (a2d z (Dd c.K f') [] u4 e9) (Ei h8 f' j4):=⟨a4s M G hr hg hm r P1 hx ha.p hdb he hpl,by
 intro O D as σ H ds pv Q S m e;obtain⟨l,P,m⟩:=A9 m;obtain⟨r0,h2,m⟩:=A9 m;obtain⟨X,h3,m⟩:=A9 m;cases m;obtain⟨w,dr,rfl⟩:=Ux h3;refine ha.t O D as σ H ds l _ S P λvs g Y r1=>λk j hz hdx hne=>?_
 have S1:=S.grow Y;have nas:∀b,U b∈as->∃u,g b=U u:=λb r=>let ⟨_,u,y⟩:=S1.new b r;⟨_,y⟩
 generalize hT:as.filterMap id=RT;have n:∀b,b∈RT↔U b∈as:=λb=>by rw[<-hT,Mu];simp
 have I:C8 g<|upd g j<|.own k:=C8.new hdx;have B:upd g j (.own k) k=J:=by rw[F9<|λy=>hne y.symm];exact hz
 have sz:C8 (upd g j<|.own k)<|upd (upd g j<|.own k) k<|.ins z j []:=C8.new B;have nz:∀b u,g b=U u->b≠k:=λb u h y=>by rw[y,hz]at h;exact nE h
 refine⟨O++RT,upd g j<|.own k,[U k],_,_,_,?_,h2,λas' Hm H' v S' s' r'=>?_⟩
 . have hl:=r1.length;refine⟨by simp[hl],sz,λa h=>?_,λa h=>?_,λo=>if o=0 then[k]else[],λo b h=>?_,λo k' b h L=>?_,λo pv h=>?_⟩
   . have:a=k:=by simpa using h
     subst this;exact⟨B,Cl.i z j [],K8⟩
   . rcases List.mem_append.mp h with h|h
     obtain⟨u,y⟩:=S1.gK a h;exact⟨u,I _ _<|S1.same _ _ y⟩;obtain⟨u,y⟩:=nas a<|(n a).mp h;exact⟨u,I _ _ y⟩
   . dsimp only at h;split at h;rw[mem_singleton.mp h];exact K9;simp at h
   . dsimp only at h L;split at h
     . split at L;rename_i s F;rw[s,F];simp at L
     simp at h
   . cases o with
     |zero=>
      have L:PV.ob J (OD.ins h8 [])=pv:=by simpa using h
      rw[<-L];exact⟨k,[k],rfl,B3 rfl,λb r=>r,z,j,[],[],rfl,T.ns,K8,.nil⟩
     |succ o=>
      simp only[K3,gC,cX,aK,MM,Function.comp,qV]at h;obtain⟨d,h3,rfl⟩:=h;obtain⟨v,y1,V⟩:=r1.get h3;refine⟨v,by simp[y1],V.same<|eN λb t s F E=>⟨λy=>?_,λy=>?_,sz _ _<|I _ _ E⟩⟩
      . rcases List.mem_append.mp y with y|y
        exact s y;exact F<|(n b).mp y
      . have:b=k:=by simpa using y
        exact nz b t E this
 . obtain⟨v',R,y1,_,V,y3⟩:=S'.slot 0 (.ob w X) rfl;have Z:k=v':=by simpa using y1
   subst Z;have ev:v=.non:=by cases r';rfl
   refine⟨ev,e _ H' (Y.trans<|(I.trans S'.same).trans s') ⟨k,R,rfl,B3 rfl,λb r=>?_,y3.same (eN λb t s F E=>⟨λy=>s<|fw _ y,λy=>?_,s' _ _ E⟩) λb _ t y=>s' _ _ y⟩⟩;have:=(S'.new b<|V b r).1;exact Y.free<|I.free this
   . rcases List.mem_append.mp y with y|y
     obtain⟨b',q1,q2⟩:=mem_map.mp y;cases q2;exact F<|V _ q1
     . exact s<|S5 _<|(n b).mpr y⟩
end
set_option tactic.hygienic true in
def Nw(b:Bool)(l:Addr)(xs:Array A1):
  Meets (Builtin.«enumerate.__new__» ⟨[E8 "enumerate",A5 l],[]⟩) (λ_ R s=>pV b s.heap l xs /\
   R (jK<|lT<|A5 (s.heap.push<|vW b l).objs.size) {s with heap:=(s.heap.push<|vW b l).push {cls:=E8 "enumerate",data:=O3 #[F0,cy U',A5<|hz s,eT 0,F0,F0]}}):=
 WA λe w A R s h=>by
  obtain⟨j,g,d,i,m⟩:=s;obtain⟨f,h⟩:=h;have:=sub_enumerate;have a:=f
  wp_walk using Bb a
  refine wpAny_stack_any λk=>G8 ?_;split
  . rename_i c _ _ _ _ _;cases(c==EA "enumerate")
    . wp_walk using Bb a
      exact⟨_,rfl,h⟩
    . wp_walk using Bb a
      exact⟨_,rfl,h⟩
  . wp_walk using Bb a
    exact⟨_,rfl,h⟩
def RA(f:pV I u.heap N i6)(h:∀h',IsEnum h' (u.heap.objs.size+1) u.heap.objs.size 0 F0->rC I h' u.heap.objs.size N 0->(∀b o,u.heap.get? b=U o->h'.get? b=U o)->i5 (A5<|u.heap.objs.size+1) {u with heap:=h'}):
  wpAny (model A D) L (call (E8 "enumerate") [A5 N]) i5 a9 u:=by
 refine callType_new F.called_enumerate f7 (F.typeCall_enumerate_1 _) (F.newCall_enumerate_1 _) (λobj=>F.args_object_init_2 obj _) F.entry_enumerate_new (Nw I N i6) ⟨f,?_⟩
 have d:(u.heap.push<|vW I N).objs.size=u.heap.objs.size+1:=jR ..;have e:(vW I N).isFreed=U':=by cases I<;>rfl
 rw[d];have c:IsEnum ((u.heap.push<|vW I N).push {cls:=E8 "enumerate",data:=O3 #[F0,cy U',A5 u.heap.objs.size,eT 0,F0,F0]}) (u.heap.objs.size+1) u.heap.objs.size 0 F0:=by have:=ae (u.heap.push<|vW I N) (o:={cls:=E8 "enumerate",data:=O3 #[F0,cy U',A5 u.heap.objs.size,eT 0,F0,F0]}) rfl;rw[d]at this;exact this
 exact⟨⟨_,c,rfl⟩,h _ c (.new<|L0 _<|ae _ e) λb o x=>L0 _<|L0 _ x⟩
def a8A{prog:S6}{w:N6}(m:L.handled=J)(it l:Addr)(c:l≠it)(xs:Array A1):
  Draws prog w L it [it,l] xs.size (λi v=>xs[i]?=U v) (λi h=>yx I h it l i xs) where
 live:=λi h a=>by
  cases I;exact(Draws.list (prog:=prog) (w:=w) m it l c xs).live i h a
  . obtain⟨o,y,_⟩:=(show h.IsTupleIter it l i/\h.IsTuple l xs from a).1;exact⟨o,y⟩
 frame:=λi h j a u=>a.kept λb o q e=>u b (by rcases q with rfl|rfl<;>simp) o e
 item:=λi s Q E k a p=>by
  refine rF a c (x:=xs[i]) (by simp[k]) λj d n=>?_;refine p _ j s.toks (by simp[k]) ?_ n;have k2:=λo e=>n.extBut l o c e;cases I
  . obtain⟨_,o,g,r⟩:=(show s.heap.IsListIter it l i/\s.heap.IsList l xs from a);exact⟨d,o,k2 o g,r⟩
  . obtain⟨_,o,g,r⟩:=(show s.heap.IsTupleIter it l i/\s.heap.IsTuple l xs from a);exact⟨d,o,k2 o g,r⟩
 done:=λs Q E a t=>uN m a C9 t
def Ite(kd:Bool)(K:D4)(a:Addr):It:=
 ⟨λi H=>∃xs x,kK kd K H a xs/\xs[i]?=U x,
  λi H v H'=>∃p,v=.ref p/\H p=J/\∃x,H'=upd H p (.tup [.int i,x])/\∀xs,kK kd K H a xs->xs[i]?=U x,
  λi H=>∃xs,kK kd K H a xs/\xs.length<=i⟩
def Si(t:N≠z):
  Turn A D e (lY b5 o q) (Ite I e e8) [N,z] N (λi h=>(∃d,IsEnum h N z i d)/\rC I h z e8 i) where
 mem:=Q3
 obj:=λi h g c b=>by
  have j:c=N\/c=z:=by simpa using b
  rcases j with rfl|rfl
  obtain⟨d,K⟩:=g.1;exact⟨_,K,λv a=>by cases a⟩;exact g.2.obj
 keep:=λi h m g kk=>by obtain⟨d,K⟩:=g.1;exact⟨⟨d,kk N Q3 _ K⟩,g.2.at λw a=>kk z Q3 w a⟩
 item:=by
  intro X G hw hK b i f s S H E k B g hg;subst G hw hK;obtain⟨xs,x,C,ex⟩:=hg;obtain⟨l,Z,ox⟩:=k.NS C g.2;obtain⟨u,hu,ru⟩:=Z.get ex;obtain⟨d,M⟩:=g.1;have L:=B N Q3;have r:i<l.toArray.size:=by
   have:i<l.length:=by
    by_cases c:i<l.length;exact c;rw[xc<|Fy B1]at hu;exact nE hu
   omega
  have V:X.A.in1.handled=J:=k.ok.hd b;have P:Draws X.prog X.w X.A.in1 z [z,e8] l.toArray.size (λi v=>l.toArray[i]?=U v)<|λi h=>yx I h z e8 i l.toArray:=a8A V z e8 (C.x.ne k<|B z Q3) l.toArray;refine wpAny_pyNext_enum_itemD P M ox r t (by simp;exact⟨t,(C.x.ne k L).symm⟩) λx' m O G ho R Y hsz hk=>?_
  have ux:x'=u:=by
   have:l.toArray[i]?=U u:=by simpa using hu
   rw[this]at G;cases G;rfl
  subst ux;have Q:=k.H9.fresh Y1;have I1:Inv X f S H {s with heap:=m,toks:=O+1}:=k.AH (ch:=[N,z]) (λc w b a=>hk c w (λK=>b<|by simp[K]) (λK=>b<|by simp[K]) a)<|λc b=>B c G0
  have I2:Inv X f S (upd H (hz s)<|.tup [.int i,x]) {s with heap:=m,toks:=O+1}:=I1.Iw Q (gS k.lt) (B6 k.sz)
   (λn c a K=>by obtain⟨vv,q2⟩:=k.cell n c a;exact absurd q2.lt (by rw[K];exact cO _))
   (λp hp K=>absurd (L6 (k.pin p hp).1) (by rw[K];exact cO _))
   ⟨by show 2<=G7;rw[eX];decide,[U8 i O,x'],N8 ⟨_,rfl⟩<|N8 ru P1,⟨_,Y,rfl,_,rfl⟩⟩
  refine⟨_,rfl,wpAny_letOwnedTupleGo_enum ho λh2 z2 b2=>?_⟩
  have uz:∀c,c∈[N,z]->(upd H (hz s)<|.tup [.int i,x]) c=J:=λc b=>by
   have r:c<(hz s):=by
    have j:c=N\/c=z:=by simpa using b
    rcases j with rfl|rfl
    exact(L6 M);obtain⟨w,a,_⟩:=g.2.obj;exact L6 a
   rw[F9<|Z9 r];exact(B c b).1
  have I3:Inv X f S (upd H (hz s)<|.tup [.int i,x]) {s with heap:=h2,toks:=O+1}:=Inv.turned (s:={s with heap:=m,toks:=O+1}) I2 (λc w b a=>b2.extBut c w b a) (uz N Q3) L.2.1 L.2.2.2.1 L.2.2.2.2.1 L.2.2.2.2.2;refine⟨.ref<|hz s,_,I3,rfl,⟨_,rfl,Q,x,rfl,λxs' y=>?_⟩,⟨⟨_,z2⟩,?_⟩,uz⟩;rw[y.inj k C];exact ex
  . have it':rC I m z e8<|i+1:=by
      cases I;exact(show m.IsListIter z e8 (i+1)/\_ from R).1;exact(show m.IsTupleIter z e8 (i+1)/\_ from R).1
    exact it'.at λw K=>b2.extBut _ _ t.symm K
 done:=by
  intro X G hw hK b i f s S H E k B g hg;subst G hw hK;obtain⟨xs,C,hend⟩:=hg;obtain⟨l,Z,ox⟩:=k.NS C g.2;obtain⟨d,M⟩:=g.1;have:=Z.length;have Q:s.TypeIs (A5 N) "enumerate":=⟨_,M,rfl⟩;refine C6<|ER<|uC Q XE<|uk XE Q F.entry_enumerate_next ?_<|F.args_enumerate_next_1 _;show wpAny _ _ (field (A5 N) 2 >>= _) _ _ _;refine C6<|Z3 M rfl rfl ?_;refine C6 (uN (k.ok.hd b) ox (by simp;simp_all) λm x T y=>?_)
  obtain⟨w,ho,j⟩:=y;refine C6<|wpAny_isInstance ⟨w,ho,j⟩ isSubtype_stop ?_;refine G8 ⟨rfl,?_⟩;exact k.AH (ch:=[z]) (λc w b a=>T c w (λK=>b<|by simp[K]) a) (λc b=>B c (by
   have:c=z:=by simpa using b
   simp[this]))
 self:=λ_ _ _ _ _ g h=>by obtain⟨d,K⟩:=g.1;exact wpAny_pyIter_enum K h
def Vi(K:D4)(ta:TA):TI:=λσ H R=>ta σ H λvs H1=>∃a kd,vs=[.ref a]/\(∃xs,kK kd K H1 a xs)/\R (Ite kd K a) H1
def boot_enumerate:jO "enumerate" = U (E8 "enumerate"):=by decide +kernel
def a0c(F:Gl c "enumerate")(k:c.mg "enumerate" = J)(v:PA c [p] e9)(hs:autoParam (O7 [p] c.env=[(U',eval p c.env)]) B7):
  PI c (lY b5 o k7) (L8 (G9 "enumerate" q) [p] [] b8) (Vi c.K e9):=by
 intro X s m H R I h;refine Call_ (vU I F k boot_enumerate<|Gd (M8 (v b8 X s m H _ I h) λz d ⟨G,l,g,w,n⟩=>?_) (by rw[hs];rfl)<|by rfl);obtain⟨x,L,e,⟨M,t⟩,a⟩:=n;subst e;obtain⟨u,e,y⟩:=vals1 w;subst e;cases y;obtain⟨z,D⟩:=g.bZ t;refine RA D λA j B C=>?_;refine wpAny_pyIter_enum j ?_;have E:Inv c X m l {d with heap:=A}:=g.kept C;refine⟨(hz d)+1,_,_,_,l,rfl,E,Si (by show @Ne Nat _ _;simp[*]),⟨⟨_,j⟩,B⟩,λb r=>?_,a⟩
 have i:b=(hz d)+1\/b=(hz d):=by simpa using r
 have f:(hz d)<=b:=by
  rcases i with e|e<;>rw[e]
  exact Ar _ _;exact N7 _
 exact g.zi f<|g.H9.fresh f
theorem CH:∀(l:List f9) (k:Int) (i:Nat),(cJ k l)[i]?=(l[i]?).map λd=>B4 [p6<|k+(i:Nat),d]
 | [],k,i=>by rfl
 |d::r,k,0=>by simp[cJ]
 |d::r,k,i+1=>by have:=CH r (k+1) i;simp only[cJ,gC];rw[this,show k+1+i=k+((i+1:Nat)) by lia]
def Le:∀(l:List f9) (k:Int),(cJ k l).length=l.length:=by
 intro l_;induction l_ with
 |nil=>
  intro k;exact rfl
 |cons d r ih_=>
  intro k;rw[cJ,L3,ih_,L3]
def ZY{fr:Bool}(Y:Gl c "enumerate")(E:c.mg "enumerate" = J)(m:hV c fr [p] e9 j4)(hs:autoParam (O7 [p] c.env=[(U',eval p c.env)]) B7):
  Ep c fr (lY b5 o k7) (L8 (G9 "enumerate" q) [p] [] b8) (Vi c.K e9) (jg xS j4):=⟨a0c Y E m.p hs,by
 intro O e W G H v h R S b a;obtain⟨l,h1,b⟩:=A9 b;refine m.t O e W G H v l _ S h1 λvs D w N=>?_;unfold xS at b;split at b
 . rename_i C;obtain⟨Z,hl,b⟩:=A9 b;cases b;cases N with
   |cons r P=>
    cases P;obtain⟨p,B,f,rfl,n,u⟩:=r.bZ hl;refine⟨p,B,rfl,⟨f,L1.bZ n⟩,a _ D w λH' g i=>?_⟩;have X:=g.bZ<|DR.bZ n;have:=u.length;rw[Le];refine⟨λs=>⟨f,f[i]'A3,X,Y2 _⟩,λs=>⟨f,X,by simp[*]⟩,λx V y s=>?_⟩;obtain⟨pp,Q,d,x',T,F⟩:=y;subst Q;subst T;obtain⟨A,L,I⟩:=u.get'<|F f X;refine⟨C8.new d,B4 [p6 i,A],by rw[CH,L];simp,λvb j M=>?_⟩;refine .tup (cM.of<|V7.mpr ⟨λz=>?_,λz=>?_,K8⟩)<|.cons (.int _)<|.cons (ze I g (C8.new d) j) .nil;obtain⟨k,z⟩:=M _ z;rw[g _ _ z]at d;exact nS d;obtain⟨_,k,z⟩:=j _ z;rw[z]at d;exact nS d
 . exact nE b⟩
section
variable{j}
end
section
variable{r:Expr}
end
def UA{tl base sub:List A1}{k1 k2 k3 k5:Option A1}{nid iid:String}(F:LL o3 nid iid base)(w:OwnTail T base tl){args:List A1}{Q:PySem.Fin->C5->Prop}(hC:T.get? z=U (lN t h8 z N m5 tl I c9 sub j6 u7 j9 s9 k1 k2 k3 k5 nid))(hn:T.Ns N j7)(hi:j7 "__init__" = U (A5 e8))(hf:T.get? e8=U m4)(hfc:m4.cls=E8 "function")(hz:args.length<=G7)(hq:∀h' e,Heap.MadeExcOf T h' e (A5 z) args->wpAny (model A D) L (call (A5 e8) (A5 e::args)) (λr s'=>r=F0/\Q (PySem.Fin.done<|lT<|A5 e) s') a9 ⟨h',w4,w5,o,w9⟩):
  wpAny (model A D) L (Builtin.«type.__call__» ⟨A5 z::args,[]⟩) Q a9 ⟨T,w4,w5,o,w9⟩:=by
 repeat (first|with_reducible refine jU hC ?_|with_reducible refine wpAny_madeBy_exc hC ?_|wp_step)
 refine codeAny_call_builtin_code (WR _ F.quiet)<|wpAny_check_new_subT F w hC<|codeAny_exc_new_subT F w hC (show wpAny _ _ _ _ _ _ from ?_) hz
 have kp:∀b E,T.get? b=U E->((T.push {cls:=E8 "tuple",data:=W7 args.toArray}).push {cls:=A5 z,data:=O3 #[A5 T.objs.size,F0,F0,F0,cy U',F0]}).get? b=U E:=
  λb E q=>L0 _<|L0 _ q
 have at1:((T.push {cls:=E8 "tuple",data:=W7 args.toArray}).push {cls:=A5 z,data:=O3 #[A5 T.objs.size,F0,F0,F0,cy U',F0]}).get? (T.objs.size+1)=U {cls:=A5 z,data:=O3 #[A5 T.objs.size,F0,F0,F0,cy U',F0]}:=by heap_get
 have cC:(X2 z::tl).contains (A5 z)=Uf:=by simp
 have c1:=kp _ _ hC;have n1:((T.push {cls:=E8 "tuple",data:=W7 args.toArray}).push {cls:=A5 z,data:=O3 #[A5 T.objs.size,F0,F0,F0,cy U',F0]}).Ns N j7:=let ⟨E,es,ep,q,r⟩:=hn;⟨E,es,ep,kp _ _ q,r⟩;repeat (first|with_reducible refine jU at1 ?_|(with_reducible refine Ap c1 ?_;rw[cC])|wp_step)
 refine(show wpAny _ _ (typeLookup (A5 z) _) _ _ _ from wpAny_typeLookup_tail c1 n1 (w.keeps kp) F.mroIs F.init.lookup ?_);rw[hi];refine ue<|C6 ?_;refine C6<|EJ ⟨_,kp _ _ hf,hfc⟩ ?_;refine G8<|C6<|aT (hq _ (T.objs.size+1) ⟨kp,MI<|lO _,T.objs.size,at1,MI<|N7 _,L0 _<|Heap.get?_push_at rfl rfl⟩) (λr s' hr=>?_) λ_ _ x=>x;obtain⟨rfl,hQ⟩:=hr
 wp_walk
 exact hQ
def VI{tl base sub:List A1}{k1 k2 k3 k5:Option A1}{nid iid:String}(F:LL o3 nid iid base)(w:OwnTail T base tl){args:List A1}(hC:T.get? z=U (lN t h8 z N m5 tl I c9 sub j6 u7 j9 s9 k1 k2 k3 k5 nid))(hn:T.Ns N j7)(hi:j7 "__init__" = U (A5 e8))(hf:T.get? e8=U m4)(hfc:m4.cls=E8 "function")(hz:args.length<=G7)(hq:∀h' e,Heap.MadeExcOf T h' e (A5 z) args->wpAny (model A D) (L.under<|uu "type.__call__" ⟨A5 z::args,[]⟩) (call (A5 e8) (A5 e::args)) (λr s'=>r=F0/\i5 (A5 e) s') a9 ⟨h',w4,w5,o,w9⟩):
  wpAny (model A D) L (call (A5 z) args) i5 a9 ⟨T,w4,w5,o,w9⟩:=by
 have:=tc_lookup;have:=tc_bind<|A5 z;refine tS<|codeAny_of_tree<|show wpAny _ _ (callAny (A5 z) _) _ _ _ from ?_
 repeat (any_goals (first|assumption|with_reducible refine jU hC ?_|wp_step))
 exact⟨rfl,codeAny_call_builtin_at (WR _<|by decide +kernel) entry_typeCall<|wpAny_check_type_call_sub hC<|UA F w hC hn hi hf hfc hz λh' e hm=>hq h' e hm⟩
def VM{tl base sub:List A1}{dx:Option Addr}{k1 k2 k3 k5:Option A1}{nid iid:String}(F:LL o3 nid iid base)(w:OwnTail T base tl){args:List A1}(hC:T.get? z=U (lN t h8 z N m5 tl I c9 sub j6 u7 j9 s9 k1 k2 k3 k5 nid))(he:X5 e8 z dx T)(hz:args.length<=G7)(hq:∀h',(∀b E,b≠e8->T.get? b=U E->h'.get? b=U E)->X5 e8 z dx h'->i5 F0 ⟨h',w4,w5,o,w9⟩):wpAny (model A D) L (call (P5 iid) (A5 e8::args)) i5 a9 ⟨T,w4,w5,o,w9⟩:=by
 obtain⟨C,he⟩:=he;refine tS<|FR F.init.plain F.initEntry<|wpAny_check_init_subT F w hC he rfl ?_
 wp_walk
 refine hq _ (λb E hb q=>?_) ⟨T.objs.size,?_⟩;rw[af _ _<|P9 hb];exact L0 _ q;rw[jV _ (L0 _ he) rfl];rfl
def a4K(ho:T.get? N=U m4)(hd:m4.data=dX #[⟨d8,eZ t r9,Z⟩] l8):T.Ns1 N λn=>if n=t then U Z else J:=by
 refine⟨m4,_,l8,ho,hd,λe he=>⟨t,r9,by simp at he;rw[he]⟩,by unfold UniqKeys;exact List.pairwise_singleton _ _,λn=>?_⟩;unfold nsFind findBy;by_cases hn:n=t;subst hn;simp[Value.isStr]
 . have z:¬t=n:=λz=>hn z.symm;simp[Value.isStr,z,hn]
def Nk(self:A1):refuseLoop self "__setattr__" [E8 "ValueError",E8 "Exception",E8 "BaseException",E8 "object"]=pure ():=by kernel_rfl
noncomputable abbrev bG:List A1:=[E8 "ValueError",E8 "Exception",E8 "BaseException",E8 "object"]
theorem Bz(self:A1):∀{l:List Addr},refuseLoop self "__setattr__" (l.map X2++bG)=pure ()
 | []=>Nk self
 |c::r=>by rw[K3,lW,refuseLoop_ref];exact Bz self
def a5o{os:List Addr}{cd:ClassData}(X:e.In u.heap)(he:X5 N z J u.heap)(hs:bz e (A5 z) "__setattr__" = U (U<|P5 "object.__setattr__"))(hc:EN e z=U cd)(hm:cd.mro=os.map X2++bG)(hd:cd.hasDict=Uf)(ha:bz e (A5 z) t=U J)(h:∀h',(∀b o,b≠N->u.heap.get? b=U o->h'.get? b=U o)->X5 N z (U u.heap.objs.size) h'->h'.Ns1 u.heap.objs.size (λn=>if n=t then U Z else J)->p8 () {u with heap:=h',toks:=u.toks+2}):
  wpAny (model A D) L (setAttr (A5 N) t Z) p8 a9 u:=by
 obtain⟨w,hx⟩:=he;have I:qO u.heap N _ z J:=⟨hx,rfl,rfl,jM⟩;have SF:=PySem.F.store_object;have sub:LR (model A D) u.heap (isInstance (A5 N)<|E8 "object") Uf:=I.type.andThen (MA X (by unfold LU;rw[hc,P0,B2 (by rw[hm];simp),hm];simp));refine WH X I hs<|FR SF.slot.plain SF.entry<|@PySem.W.check_slot (model A D) _ _ {u with toks:=u.toks+1} "object.__setattr__" "object" "__setattr__" (A5 N) [eZ t u.toks,Z] [] _ SF.kind SF.split sub (SF.args (A5 N) (eZ t u.toks) Z) ?_;have lm:LR (model A D) u.heap (mroOf<|A5 z) cd.mro:=(MB X hc).andThen WB;rw[PySem.W.osa_eq,refuse_eq];refine C6<|C6<|wX I.type<|C6<|wX lm ?_;rw[hm,Bz];refine G8<|C6<|wX I.type<|C6<|wX (xa X ha)<|C6<|G8 ?_;have lc:LR (model A D) u.heap (classData z) cd:=MB X hc;refine C6<|G8<|C6<|C6<|EU hx<|C6<|wX lc ?_;rw[hd];have a1:(u.heap.push {cls:=E8 "dict",data:=dX #[]}).get? N=U {cls:=A5 z,data:=O3 #[A5 w,F0,F0,F0,cy U',F0]}:=L0 _ hx;have d1:(u.heap.push {cls:=E8 "dict",data:=dX #[]}).get? u.heap.objs.size=U {cls:=E8 "dict",data:=dX #[]}:=ae _ rfl;refine(show wpAny _ _ (do let d <- alloc {cls:=EA "dict",data:=Data.dict #[]};update N λo=>{o with dict:=U d};pure (U d)) _ _ _ from C6<|wpAny_alloc ?_);refine C6<|wpAny_update a1<|G8 ?_;have ne:=Z9<|L6 hx;have d2:((u.heap.push {cls:=E8 "dict",data:=dX #[]}).update N λo=>{o with dict:=U u.heap.objs.size}).get? u.heap.objs.size=U {cls:=E8 "dict",data:=dX #[]}:=(af _ _ ne).trans d1;have e2:((u.heap.push {cls:=E8 "dict",data:=dX #[]}).update N λo=>{o with dict:=U u.heap.objs.size}).get? N=U {cls:=A5 z,dict:=U u.heap.objs.size,data:=O3 #[A5 w,F0,F0,F0,cy U',F0]}:=jV _ a1 rfl;have k2:∀b o,b≠N->u.heap.get? b=U o->((u.heap.push {cls:=E8 "dict",data:=dX #[]}).update N λo=>{o with dict:=U u.heap.objs.size}).get? b=U o:=λb o hb q=>(af _ _<|P9 hb).trans<|L0 _ q;generalize (u.heap.push {cls:=E8 "dict",data:=dX #[]}).update N (λo=>{o with dict:=U u.heap.objs.size})=h2 at d2 e2 k2;refine(show wpAny _ _ (Builtin.ObjectAttr.storeInDict u.heap.objs.size (eZ t u.toks) t Z) _ _ {u with heap:=h2,toks:=u.toks+1}from ?_);refine C6<|G8<|C6<|C6<|C6<|wpAny_askSetting<|G8<|C6<|LO<|C6<|EU d2 ?_;refine wpAny_updatePart d2 ?_;have d3:=jV (Obj.putName t (if t.cps.isEmpty=Uf then 0 else reduceHash<|(model A D).w.params.strHash t.cps) (eZ t<|u.toks+1) Z) d2 rfl;refine C6 (wpAny_lookBehind d3 (pastItsLine_dict<|by simp)<|G8<|h _ (λb o hb q=>?_) ⟨w,?_⟩<|a4K d3 rfl);rw[af _ _<|gS<|L6 q];exact k2 b o hb q;rw[af _ _<|P9 ne];exact e2
structure jY(K:D4)(C CS fi:Addr)(fld:Str):Prop where
 cls:∃(nm qn:Str) (N:Addr) (bs:List A1) (sn:List Str) (sub:List A1) (ab:Bool) (col:Option Bool) (dd:Option Addr) (k0 k1 k2 k3 k5:Option A1),
  K.lookup C=U (lN nm qn C N bs (A5 CS::bG) Uf sn sub ab col dd k0 k1 k2 k3 k5 "ValueError.__new__")/\PySem.W.nsOkIn K N=Uf/\Z8 K N "__init__" = U (U<|A5 fi)
 tail:PySem.W.tailIn K bG (A5 CS::bG)=Uf
 fn:∃o,K.lookup fi=U o/\o.cls=E8 "function"
 sa:bz K (A5 C) "__setattr__" = U (U<|P5 "object.__setattr__")
 nof:bz K (A5 C) fld=U J
 rd:Wc K CS (E8 "type")=Uf
 ga:Mo K (A5 CS) "__getattribute__" = U (U<|P5 "type.__getattribute__")
 ini:Wb K (A5 CS) (E8 "type") "__init__" = U (PySem.W.CFound.val<|P5 "ValueError.__init__")
def a9J(C:Addr)(t:TA):TE:=λσ H Q=>t σ H λvs H1=>∃ea v dx,vs=[.ref ea,v]/\H1 ea=U (.ext<|X5 ea C dx)/\Q .non H1
def CB(x:X5 N z j9 T):Z2 A D g T N<|.ext<|X5 N z j9:=⟨x,let ⟨_,q⟩:=x;⟨_,q⟩,λ_ _ y k=>y.keep k⟩
def vr{pl:Sem Bool} (T:jY c.K N z e8 t) (hg:Gl c h8) (hm:c.mg h8=U (A5 z)) (ha:PA c [Y,j8] e9) (hdb:autoParam ((h8==("__debug__" : Str))=U') aj) (hst:autoParam (O7 [Y,j8] c.env=(U',eval Y c.env)::O7 [j8] c.env) B7) (hpl:autoParam ((bP b8<|O7 [j8] c.env).any (·.1)=U') B7) (ht:autoParam (eval (L8 (Q0 (G9 h8 q) "__init__" k7) [Y,j8] [] b8) c.env=(do
   let ov <- eval (G9 h8 q) c.env
   wx k7.atName
   let (f,first) <- holding [ov] (Ew ov "__init__" pl)
   callWith b8 f first (bP b8<|O7 [Y,j8] c.env) (zI b8<|zP [] c.env))) bL) :
  PE c (L8 (Q0 (G9 h8 q) "__init__" k7) [Y,j8] [] b8) (a9J N e9):=by
 intro pins s σ H Q I h;refine ML (M8 (Gv (v:=.ref z) hg hm rfl hdb pins s σ H (λv H'=>v=.ref z/\H'=H) I ⟨rfl,rfl⟩) λu s1 ⟨y,H1,I1,rx,ex,eH⟩=>?_) ht;subst ex;subst eH;obtain rfl:=rx;refine PySem.W.method_cls I1.bI T.ga (PySem.W.cls_value I1.bI T.rd T.ini (by decide +kernel) ?_);refine Yr (M8 (ha b8 pins _ σ H1 _ (I1.tok<|s1.toks+1) h) λus s2 ⟨vs,H2,I3,r,ea,v,dx,ev,hH,C⟩=>?_) hst hpl;subst ev;obtain⟨u1,u2,rfl,r1,r2⟩:=vals2 r;cases r1;obtain⟨nm,qn,X,bs,sn,sub,ab,col,dd,k0,k1,k2,k3,k5,hC,_,_⟩:=T.cls;obtain⟨hp,gs,dr,tk,os⟩:=s2;refine VM Yk (WQ I3.bI T.tail) (I3.bI _ _ hC) ((I3.H9 ea _ hH).1) (by rw[eX];simp) λh' kp ex'=>?_
 have e0:upd H2 ea (.ext<|X5 ea N dx)=H2:=by
  funext b
  by_cases hb:b=ea;subst hb;rw[K8,hH];rw[F9 hb]
 have I4:=I3.write (t':=tk) (by rw[hH];exact jM) (B3 rfl) (λb u hb C=>kp b u hb C) (let ⟨_,C⟩:=ex';⟨_,C⟩)<|CB ex';rw[e0]at I4;exact⟨.non,H2,I4,rfl,C⟩
def a9L(C:Addr)(fld:Str)(ta tv:TE):TS:=λD σ H=>tv σ H λy H1=>ta σ H1 λx H2=>∃ea,x=.ref ea/\H2 ea=U (.ext<|X5 ea C J) /\
 ∀dx,H2 dx=J->dx≠ea->D.nx σ (upd (upd H2 ea<|.ext<|X5 ea C<|U dx) dx<|.xd [(fld,y)])
def Gu{o:Expr}(T:jY c.K N z e8 t)(ha:PE c o y)(hv:PE c p j1)(hs:autoParam (ak p (U<|Q0 o t b8) q.line c.env=pure U') B7):PS c (gB [Q0 o t b8] p q)<|a9L N t y j1:=by
 intro pins s σ H D I h;refine Ys (M8 (hv pins s σ H _ I h) λu s1 ⟨e,H1,I1,ry,C⟩=>M8 (ha pins s1 σ H1 _ I1 C) λov s2 ⟨x,H2,I2,rx,ea,ex,hH,q2⟩=>?_) hs;subst ex;obtain rfl:=rx;obtain⟨nm,qn,X,bs,sn,sub,ab,col,dd,k0,k1,k2,k3,k5,hC,_,_⟩:=T.cls;have Dw:=(I2.H9 ea _ hH).1;refine a5o (os:=[N,z]) I2.bI Dw T.sa (by unfold EN;rw[hC]) rfl rfl T.nof λh' kp ex' n1=>?_;have hz:=I2.H9.fresh<|N7 _;have hne:=gS (let ⟨_,C⟩:=Dw;L6 C);have f:=I2.zi (N7 _) hz;refine⟨σ,_,(I2.write (t':=s2.toks+2) (by rw[hH];exact jM) (B3 rfl) (λb u hb C=>kp b u hb C) (let ⟨_,C⟩:=ex';⟨_,C⟩)<|CB ex').Iw (o:=.xd [(t,e)]) (by rw[F9 hne];exact hz) f.2.1 f.2.2.2.1 f.2.2.2.2.1 f.2.2.2.2.2 ⟨_,n1,λn=>?_⟩,q2 _ hz hne⟩;by_cases hn:n=t;subst hn;simp only[fW,wO];exact ry
 . rw[B2 hn];have:(n==t)=U':=by simpa using hn
   simp only[fW,this];exact jM
section
variable{H:Hp}
def Inv.b0v(I:Inv c d6 G H u)(k:∀b σ,u.heap.get? b=U σ->T.get? b=U σ)(hDn:u.heap.get? N=J)(new:Z2 c.prog c.w (upd H N n9) T N n9):
  H N=J/\Inv c d6 G (upd H N n9) {u with heap:=T,toks:=o}:=by
 have hH:H N=J:=by
  cases q:H N with
  |none=>rfl
  |some σ=>
   obtain⟨n9,e⟩:=Z2.get<|I.H9 N σ q;rw[hDn]at e;cases e
 refine⟨hH,?_⟩;have ne:∀b n9,u.heap.get? b=U n9->b≠N:=λb n9 e z=>by rw[z,hDn]at e;cases e
 have nh:∀b σ,H b=U σ->b≠N:=λb σ e z=>by rw[z,hH]at e;cases e
 have hup:∀b σ,H b=U σ->upd H N n9 b=U σ:=λb σ e=>by rw[F9<|nh b σ e];exact e
 refine I.step (ch:=[]) (λb hb=>absurd hb<|by simp) (λb n9 _ _ _ e _=>k b n9 e) (λb n9 _ _ _ e _=>⟨n9.slots,k b n9 e⟩) (λb n9 _ e n=>by rw[F9<|ne b n9 e];exact n)
  (λb n9 _ e=>⟨n9,k b n9 e⟩) (λb xs e=>hup b _ e) (λb ob σ e=>hup b _ e) (λb ps e=>⟨#[],by rw[hup b _ e];rfl⟩) (λm' hm''=>?_) (λb σ e=>?_) I.bare
 obtain⟨ob,es,ep,ho,r⟩:=hm'';exact⟨ob,es,ep,k _ _ ho,r⟩
 . by_cases hb:b=N;subst hb;rw[K8]at e;cases e;exact new;rw[F9 hb]at e;exact(I.H9 b σ e).sH (λX v _ q=>k X v q) (λX q=>hup X _ q) λX xs q=>hup X _ q
end
def b0m(X:e.In T)(G:T.Ns N j7)(K:Z8 e N t=U (U Z)):j7 t=U Z:=by
 obtain⟨o,es,ep,ho,hd,_,hf⟩:=G;unfold Z8 at K;split at K
 . rename_i q;have z:=X _ _ q;rw[ho]at z;cases z;cases hd;split at K;rename_i he;cases K;rw[<-hf];unfold nsFind findBy;rw[<-Mw,he];rfl
   . split at K<;>cases K
 cases K
inductive jl(e T C dx:Addr)(h:Heap):Prop
 |mk:∀vs oT ts,(h.get? e=U {cls:=A5 C,dict:=U dx,data:=O3 vs})->(vs[1]?=U (A5 T))->(T≠e)->(h.get? T=U oT)->(oT.data=O3 ts)->(ts[3]?=U F0)->jl e T C dx h
def El(hfr:L.frames=U (n8::u8))(hl:u.heap.FunFrames T (n8::u8))(hf:n8.frame=U N)(he:u.heap.get? z=U {cls:=A5 e8,dict:=U m3,data:=O3 i6})(hz:1<i6.size)(h:∀h' M,u.heap.objs.size<=M->(∀b o,b≠z->b∉aY (n8::u8)->u.heap.get? b=U o->h'.get? b=U o)->(∀b o,b∈aY (n8::u8)->u.heap.get? b=U o->∃sl,h'.get? b=U {o with slots:=sl})->jl z M e8 m3 h'->p8 () {u with heap:=h'}):
  wpAny o5 L (do let a <- frameOf n8;let pl <- entryPlaceOf N I;let b <- Xh Z a F0 (eT N) F0 pl;setField (A5 z) 1 b) (λ_ s'=>wpAny o5 L (zJ (A5 z) J) p8 a9 s') a9 u:=by
 have ene:z∉aY (n8::u8):=λhm=>by obtain⟨_,o,ho,hnf⟩:=hl.mem hm;rw[he]at ho;injection ho with ho;subst ho;exact hnf i6 rfl
 refine C6<|wpAny_frameOf_fun hfr hl hf λg1 q1=>C6<|wpAny_entryPlaceOf λpl hpl=>?_;refine C6<|oJ ?_<|hpl.sizeOk5 _ _ _ _ _;generalize ho:({cls:=E8 "traceback",dict:=J,data:=O3 ([Z,A5 N,F0,eT N,F0]++(if pl.isEmpty then S9 6 eV else pl)).toArray}:Obj)=oT
 have dT:oT.data=O3 ([Z,A5 N,F0,eT N,F0]++(if pl.isEmpty then S9 6 eV else pl)).toArray:=by rw[<-ho]
 have e1:=(q1.2.1 z ene).trans he;have e2:=L0 oT e1;have hT2:=ae g1<|Av dT;have hTe:=gS<|L6 e1;refine oC e2 rfl hz ?_;have e3:=jV (eY (·.setIfInBounds 1 (X2 g1.objs.size))) e2 rfl;have hT3:=(af (g1.push oT) (eY (·.setIfInBounds 1 (X2 g1.objs.size)))<|P9 hTe).trans hT2;refine C6 (Z3 (x:=A5 g1.objs.size) e3 rfl (by simp[hz]) ?_)
 have s3:3<([Z,A5 N,F0,eT N,F0]++(if pl.isEmpty then S9 6 eV else pl)).toArray.size:=by simp only[aJ,R5,L3];lia
 refine oC hT3 dT s3 (h _ g1.objs.size (by rw[q1.1];exact N7 _) (λb o hb hn q=>?_) (λb o hb q=>?_) ?_);have q2:=(q1.2.1 b hn).trans q;rw[af _ _<|gS<|L6 q2,af _ _<|P9 hb];exact L0 _ q2
 . obtain⟨sl,q2⟩:=q1.2.2 b o q;have hb':b≠z:=λA=>ene<|A▸hb;refine⟨sl,?_⟩;rw[af _ _<|gS<|L6 q2,af _ _<|P9 hb'];exact L0 _ q2
 . refine⟨i6.setIfInBounds 1<|A5 g1.objs.size,_,_,?_,?_,hTe,jV _ hT3<|Av<|wV dT _,wV dT _,?_⟩;rw[af _ _ hTe];exact e3;simp[hz];rw[Yt];rfl
def Nz(hfr:L.frames=U (n8::u8))(hl:u.heap.FunFrames T (n8::u8))(hf:n8.frame=U N)(he:X5 z e8 (U m3) u.heap)(h:∀h' M,u.heap.objs.size<=M->(∀b o,b≠z->b∉aY (n8::u8)->u.heap.get? b=U o->h'.get? b=U o)->(∀b o,b∈aY (n8::u8)->u.heap.get? b=U o->∃sl,h'.get? b=U {o with slots:=sl})->jl z M e8 m3 h'->p8 () {u with heap:=h'}):
  wpAny o5 L (leaving n8<|A5 z) p8 a9 u:=by obtain⟨t,he⟩:=he;unfold leaving oq;simp only[hf];refine C6<|C6<|Z3 he rfl rfl ?_;exact El hfr hl hf he (by simp) h
def HE{dx:Addr}(hfr:L.frames=U (n8::u8))(hl:u.heap.FunFrames T (n8::u8))(hf:n8.frame=U N)(he:jl z e8 m3 dx u.heap)(h:∀h' T',u.heap.objs.size<=T'->(∀b o,b≠z->b≠e8->b∉aY (n8::u8)->u.heap.get? b=U o->h'.get? b=U o)->(∀b o,b∈aY (n8::u8)->u.heap.get? b=U o->∃sl,h'.get? b=U {o with slots:=sl})->jl z T' m3 dx h'->p8 () {u with heap:=h'}):
  wpAny o5 L (oq (A5 z) n8) (λ_ s'=>wpAny o5 L (zJ (A5 z) J) p8 a9 s') a9 u:=by
 obtain⟨vs,oT,ts,he,h1,hTe,hT,hdT,h3⟩:=he;have s1:=(Array.getElem?_eq_some_iff.mp h1).1;have s3:=(Array.getElem?_eq_some_iff.mp h3).1;unfold oq;simp only[hf];refine C6<|Z3 he rfl h1 ?_;refine C6<|Z3 hT hdT h3 ?_;refine C6<|oC hT hdT s3 ?_;have oth:∀b,b≠e8->(u.heap.update e8<|eY (·.setIfInBounds 3 eV)).get? b=u.heap.get? b:=λb hb=>af _ _<|P9 hb
 have noT:e8∉aY (n8::u8):=λhm=>by obtain⟨_,o,ho,hnf⟩:=hl.mem hm;rw[hT]at ho;injection ho with ho;subst ho;exact hnf ts hdT
 have noR:∀b o,u.heap.get? b=U o->(∀us,o.data≠O3 us)->b≠e8:=λb o q hnf M=>by rw[M,hT]at q;injection q with q;subst q;exact hnf ts hdT
 refine El hfr (hl.of_keeps λb o q hnf=>⟨o,(oth b<|noR b o q hnf).trans q,rfl⟩) hf ((oth z<|P9 hTe).trans he) s1
  λh' T' hT' k1 k2 fl=>h h' T' ?_ (λb o hb hbT hn q=>k1 b o hb hn<|(oth b hbT).trans q) (λb o hb q=>k2 b o hb<|(oth b<|λM=>noT<|M▸hb).trans q) fl
 have z:(u.heap.update e8<|eY (·.setIfInBounds 3 eV)).objs.size=u.heap.objs.size:=by simp[Heap.update]
 rw[<-z];exact hT'
def Tb{nm qn:Str}{C:Addr}{bs tl sub:List A1}{hd ab:Bool}{sn:List Str}{col:Option Bool}{dd:Option Addr}{k0 k1 k2 k3 k5:Option A1}{nid:String}{x:Sem A1}{Q:Flow->C5->Prop}(hb:tl.contains (E8 "BaseException")=Uf)(hh:L.handled=J)(h:wpAny o5 L x (λv s1=>∃e dx,v=A5 e/\s1.heap.get? C=U (lN nm qn C N bs tl hd sn sub ab col dd k0 k1 k2 k3 k5 nid)/\X5 e C dx s1.heap/\a9 (A5 e) s1) a9 u):wpAny o5 L (raiseStmt n8 (U x) J) Q a9 u:=by
 have cB:(X2 C::tl).contains (E8 "BaseException")=Uf:=by rw[FJ,hb,tW]
 refine C6<|aT h (λv s1 q=>?_) λ_ _ z=>z
 obtain⟨e,dx,rfl,hC,⟨t,he⟩,hE⟩:=q;obtain⟨hp,gs,dr,tk,os⟩:=s1;repeat (first|with_reducible refine jU he ?_|with_reducible refine jU hC ?_|(with_reducible refine Ap hC ?_;rw[cB])|wp_step)
 exact wpAny_raiseNew_none hh hE
def a1f(x:ExcAt N z e8 T):Z2 A D g T N<|.ext<|ExcAt N z e8:=⟨x,let ⟨_,q⟩:=x;⟨_,q⟩,λ_ _ y k=>y.keep k⟩
def jl.at{h:Heap}(x:jl N z e8 m3 h):ExcAt N e8 m3 h:=let ⟨vs,_,_,q,_,_,_,_,_⟩:=x;⟨vs,q⟩
inductive iR(P:S6)(w:N6)(outer:List Env)(H:Hp)(s:C5)(E:XK)(e:A1)(s':C5):Prop
 |mk:∀ea T C dx H',(e=A5 ea)->(s'.os=s.os)->(jH s'.gens)->(Un (aY outer) [] H H' s.heap s'.heap)->(dQ P w H' s'.heap)->(jl ea T C dx s'.heap)->(H' ea=U (.ext<|ExcAt ea C dx))->(H' T=J)->(s.heap.objs.size<=T)->(E (A5 ea) J H')->iR P w outer H s E e s'
section
variable{H:Hp}
def Inv.flew{ch:List Addr}(I:Inv c d6 G H u)(he:H N=U n9)(ho:(∀xs,n9≠.tup xs)/\(∀y,n9≠.own y)/\(∀a σ,n9≠.iF a σ)/\∀ps,n9≠.tbl ps)(hT:∀b∈ch,H b=J)(hTn:∀b∈ch,c.ag.heap.objs.size<=b/\b≠c.env.locals/\(∀x X,c.env.cells.lookup x=U X->X≠b)/\∀p∈c.pn++d6,p.1≠b)(k1:∀b n9,b≠N->b∉ch->b∉aY c.stack->u.heap.get? b=U n9->T.get? b=U n9)(k2:∀b n9,b∈aY c.stack->u.heap.get? b=U n9->∃sl,T.get? b=U {n9 with slots:=sl})(hx:ExcAt N z e8 T):
  Inv c d6 G (upd H N<|.ext<|ExcAt N z e8) {u with heap:=T}:=by
 have nea:∀b,H b=J->b≠N:=λb n s=>by rw[s,he]at n;cases n
 have nst:∀b σ,H b=U σ->b∉aY c.stack:=λb σ q s=>by rw[I.vH b s]at q;cases q
 have nT:∀b σ,H b=U σ->b∉ch:=λb σ q s=>by rw[hT b s]at q;cases q
 refine I.call (ch:=ch) ⟨λb n9 q n hb hc=>?_,λb n9 q n hb hc=>?_,λb n9 q n hc=>?_,λb n9 q hc=>?_,λb xs q=>?_,λb n9 σ q=>?_,λb ps q=>?_⟩ (λb σ q=>?_) I.bare λb hb=>?_;exact k1 b n9 (nea b n) hc hb q;exact k2 b n9 hb q;rw[F9<|nea b n];exact n
 . by_cases hb:b∈aY c.stack;obtain⟨sl,s⟩:=k2 b n9 hb q;exact⟨_,s⟩
   . by_cases hbe:b=N;subst hbe;obtain⟨vs,s⟩:=hx;exact⟨_,s⟩;exact⟨_,k1 b n9 hbe hc hb q⟩
 . by_cases hb:b=N;subst hb;rw[he]at q;cases q;exact absurd rfl<|ho.1 xs;rw[F9 hb];exact q
 . by_cases hb:b=N;subst hb;rw[he]at q;cases q;exact absurd rfl<|ho.2.2.1 n9 σ;rw[F9 hb];exact q
 . by_cases hb:b=N;subst hb;rw[he]at q;cases q;exact absurd rfl<|ho.2.2.2 ps;rw[F9 hb];exact⟨#[],by rw[q];rfl⟩
 . by_cases hb:b=N;subst hb;rw[K8]at q;cases q;exact a1f hx
   . rw[F9 hb]at q;refine(I.H9 b σ q).sH (λX v hc r=>?_) (λX q2=>?_) (λX xs q2=>?_)
     . rcases hc with rfl|hc
       exact k1 X v hb (nT X σ q) (nst X σ q) r
       . have hce:X≠N:=λs=>by rw[s,he]at hc;cases hc;exact absurd rfl (ho.2.1 b)
         exact k1 X v hce (nT X _ hc) (nst X _ hc) r
     . have hce:X≠N:=λs=>by rw[s,he]at q2;cases q2;exact absurd rfl (ho.2.1 b)
       rw[F9 hce];exact q2
     . have hce:X≠N:=λs=>by rw[s,he]at q2;cases q2;exact absurd rfl (ho.1 xs)
       rw[F9 hce];exact q2
 obtain⟨a1,a2,a3,a4⟩:=hTn b hb;exact⟨B6 a1,a2,a3,a4⟩
def Inv.above(I:Inv c d6 G H u)(h:u.heap.objs.size<=N):c.ag.heap.objs.size<=N/\N≠c.env.locals/\(∀x X,c.env.cells.lookup x=U X->X≠N)/\∀p∈c.pn++d6,p.1≠N:=by
 refine⟨D6 I.sz h,λz=>?_,λx X e z=>?_,λp hp z=>?_⟩;exact cO _<|z▸Q8 I.lt h;obtain⟨v,o,ho,_⟩:=I.cell x X e;exact cO _<|z▸Q8 (L6 ho) h;exact cO _<|z▸Q8 (L6 (I.pin p hp).1) h
end
section
variable{H:Hp}
def Yy{s1:C5}{dx:Addr}(I:Inv (fD (iR A D) A D e j7 T c9 t j0 z Z L u8 u H u4) d6 G g s1)(he:g e8=U (.ext<|X5 e8 m3<|U dx))(hE:u4 (A5 e8) J<|upd g e8<|.ext<|ExcAt e8 m3 dx):
  (fD (iR A D) A D e j7 T c9 t j0 z Z L u8 u H u4).xe (A5 e8) s1:=by
 refine Nz I.ok.frames I.stack rfl ((I.H9 e8 _ he).1) λh' P hT k1 k2 fl=>?_;have Jff:=I.flew (ch:=[]) he ⟨λ_ w=>(by cases w),λ_ w=>(by cases w),λ_ _ w=>(by cases w),λ_ w=>(by cases w)⟩ (λb hb=>absurd hb<|by simp) (λb hb=>absurd hb<|by simp) (λb o hb _ hn q=>k1 b o hb hn q) (λb o hb q=>k2 b o hb q) fl.at
 have hTa:upd g e8 (.ext<|ExcAt e8 m3 dx) P=J:=by
  have n1:=I.H9.fresh hT;have n2:P≠e8:=λw=>by rw[w,he]at n1;cases n1
  rw[F9 n2];exact n1
 exact⟨e8,P,m3,dx,_,rfl,Jff.os,Jff.bare,Jff.base,Jff.H9,fl,K8,hTa,D6 I.sz hT,hE⟩
end
noncomputable def a7r:Out->Option (PV ⊕ f9)
 | .ret pv=>U<|S0 pv
 | .next _=>U<|S0<|.dat F3
 | .up x=>U<|O6 x
 |_=>J
def fnX(n N:Nat)(G:Ds->Option Out):List f9->Option (PV ⊕ f9):=λl=>if l.length=n then(G<|iY l++S9 (N-n) J).bind a7r else J
def b0R(K:D4)(O:List Addr)(H:Hp)(Q:VK)(E:XK):PV ⊕ f9->Prop
 |S0 pv=>∀v H',C8 H H'->RX K O [] H H' v pv->Q v H'
 |O6 x=>∀ea H',C8 H H'->Dt K (K1 H' [] O) (.ref ea) x->E (A5 ea) J H'
inductive Hj(K:D4)(F:List f9->Option (PV ⊕ f9))(vs:List V)(H:Hp)(Q:VK)(E:XK):Prop
 |mk:∀(O:List Addr) (ds:List f9) (a:PV ⊕ f9),((∀a∈O,∃u,H a=U u))->(N2 K (K1 H [] O) vs ds)->(F ds=U a)->(b0R K O H Q E a)->Hj K F vs H Q E
noncomputable def Cx.marked(X:Cx)(ea:Addr):Cx:={X with A:=X.A.mark<|U<|A5 ea,calm:=U',xe:=λ_ _=>False}
theorem Cx.Ok.marked(ok:c.Ok)(ea:Addr):(c.marked ea).Ok:=
 ⟨ok.mod,ok.kind,ok.glob,ok.blt,ok.above,ok.inj,ok.has,ok.HY,λz=>(by cases z),ok.frames,ok.Ji,ok.Pb,ok.bs,ok.uV,ok.xJ,ok.zo,ok.mQ,ok.BI⟩
section
variable{H:Hp}
theorem Inv.marked(I:Inv c d6 G H u)(ea:Addr):Inv (c.marked ea) d6 G H u:=⟨I.ok.marked ea,I.os,I.bare,I.base,I.loc,I.cell,I.free,I.fm,I.pin,I.H9,I.len⟩
def Inv.unmarked(I:Inv (c.marked N) d6 G H u)(ok:c.Ok):Inv c d6 G H u:=⟨ok,I.os,I.bare,I.base,I.loc,I.cell,I.free,I.fm,I.pin,I.H9,I.len⟩
def OU(I:Inv c d6 G H u)(hN:c.N.Nodup)(hj:c.N[o]?=U t)(hk:c.env.scope.names.lookup t=U aX)(h:∀s',Inv c d6 (G.set o J) H s'->p8 () s'):wpAny o5 L (do bindName c.env t F0;MF c.env t q) p8 a9 u:=by
 obtain⟨m,hn,hl⟩:=id I.loc;have hcls:(c.env.scope.kind==XH||(c.env.scope.kind==XQ&&c.env.locals != c.env.globals))=U':=by rw[I.ok.kind];rfl
 have hiσ:o<G.length:=by rw[I.len];exact(List.getElem?_eq_some_iff.mp hj).1
 have zr:=I.zr;refine wpAny_nameGoes_keeps hk hn hcls λh' v hn' hs=>?_
 obtain⟨oL,_,_,hoL,_⟩:=id hn;have tracked:=λb ob e=>by
  refine(I.H9 b ob e).sH (λX w' hc s=>(hs.2 X ?_).trans s) (λ_ s=>s) λ_ _ s=>s
  rintro rfl;rcases hc with rfl|hc
  rw[I.free]at e;cases e;rw[I.free]at hc;cases hc
 refine h _ ⟨I.ok,I.os,I.bare,⟨λb σ e t hb hx=>?_,λb σ e t hb hx=>?_,I.base.free,λb σ e hx=>?_,I.base.xr,I.base.vt,I.base.xu⟩,⟨_,hn',λi y v' e1 e2 e3=>?_⟩,λy X e=>?_,I.free,I.fm,λp hp=>?_,tracked,by simpa using I.len⟩;exact(hs.2 b<|Z9<|Q8 (L6 e) I.ok.above).trans (I.base.keep b σ e t hb hx);obtain⟨sl,e1⟩:=I.base.slot b σ e t hb hx;exact⟨sl,(hs.2 b<|Z9<|Q8 (L6 e) I.ok.above).trans e1⟩;obtain⟨o',e1⟩:=I.base.there b σ e hx;exact⟨o',(hs.2 b<|Z9<|Q8 (L6 e) I.ok.above).trans e1⟩
 . by_cases hij:i=o;subst hij;rw[xg hiσ]at e2;cases e2
   . rw[ir<|P9 hij]at e2;obtain⟨u',r',s⟩:=hl i y v' e1 e2 e3;refine⟨u',r',?_⟩;rcases s with ⟨k,e⟩|⟨k,X,e,z⟩
     . refine B3 ⟨k,?_⟩;have:y≠t:=λe=>hij<|Cj hN e1<|e▸hj;simp[this,e]
     exact B6 ⟨k,X,e,z.sameBut hs<|zr y X e⟩
 obtain⟨w',z⟩:=I.cell y X e;exact⟨w',z.sameBut hs<|zr y X e⟩;obtain⟨e,t,ne,nf,d⟩:=I.pin p hp;exact⟨(hs.2 p.1 ne).trans e,t,ne,nf,d⟩
end
noncomputable def xW(j:Nat)(D:Ends):Ends:={nx:=λσ H=>D.nx (σ.set j J) H,rt:=D.rt,bk:=λσ H=>D.bk (σ.set j J) H,ct:=λσ H=>D.ct (σ.set j J) H}
section
variable{H:Hp}
end
noncomputable def isExc(C:Addr):f9->Bool
 |iN [(B4 [p6 n,f6 _],_)]=>n==((C:Nat):Int)
 |_=>U'
noncomputable def Ir(j:Nat):Out->Option Out
 | .next ds=>U<|.next<|ds.set j J
 | .brk ds=>U<|.brk<|ds.set j J
 | .cont ds=>U<|.cont<|ds.set j J
 | .ret pv=>U<|.ret pv
 | .up _=>J
 | .retO _ _=>J
 | .upO _ _ _=>J
def DS.unset(S:DS e P g B G M b7)(i:Nat):DS e P g B (G.set i J) M<|b7.set i J:=by
 obtain⟨f,l,K,k⟩:=S.mX;refine⟨by simp[S.ls],S.same,S.new,S.gK,f,l,K,λj pv a=>?_⟩;by_cases b:i=j
 . subst b;rw[FF,A6 rfl]at a;split at a<;>cases a
 rw[ir b]at a;rw[ir b];exact k j pv a
set_option tactic.hygienic true in
theorem Dt.isExc{K:D4}{H:Hp}{C:Addr}{v:V}{x:f9}(h:Dt K H v x)(e:isExc C x=Uf):∃ea dx,v=.ref ea/\H ea=U (.ext<|ExcAt ea C dx):=by
 cases h with
 |exc c nf h1 h2 t=>
  rename_i ea C' dx fld v d;have:=Int.ofNat.inj<|beq_iff_eq.mp e;subst this;exact⟨ea,dx,rfl,h1⟩
 |_=>cases e
def uF.hand{D:Ends}{X o':Out}(h:uF c P g D o')(e:Ir o X=U o'):uF (c.marked N) P g (xW o D) X:=by
 cases X with
 |next ds=>cases e;exact λas σ H S=>h _ _ _<|S.unset o
 |brk ds=>cases e;exact λas σ H S=>h _ _ _<|S.unset o
 |cont ds=>cases e;exact λas σ H S=>h _ _ _<|S.unset o
 |ret pv=>cases e;exact λv H s r=>h v H s r
 |up x=>cases e
 |retO pv ds=>cases e
 |upO t x ds=>cases e
def a4V(h:T.Ns1 N j7)(e:j7 t=U Z):∃o,T.get? N=U o/\wI t o=U (U Z):=by
 obtain⟨o,es,ep,ho,hd,hk,hu,hm⟩:=h;refine⟨o,ho,?_⟩;unfold wI;rw[hd];have z:=hm t;rw[e]at z;unfold nsFind findBy at z;rw[<-Mw]at z;cases q:es.toList.find? (·.key.isStr t)with
 |none=>rw[q]at z;cases z
 |some d=>
  rw[q]at z;dsimp only;rw[q];exact J3 U z
noncomputable def a1e(fld:Str):f9->Option f9
 |iN [(B4 [p6 _,f6 f],d)]=>if f=fld then U d else J
 |_=>J
def xR(fld:Str)(F:Ds->Option PV):Ds->Option PV:=λds=>(F ds).bind λx=>(a1e fld x.d).bind λd=>U<|.dat d
def YV(K:D4)(fld:Str)(t:TE):TE:=λσ H Q=>t σ H λx H1=>∃ea C dx v,x=.ref ea/\kW K C/\bz K (A5 C) fld=U J/\H1 ea=U (.ext<|ExcAt ea C dx)/\H1 dx=U (.xd [(fld,v)])/\Q v H1
section
def a7o(he:PE c p y)(hb:autoParam (uf p t c.env (eval p c.env)=eval p c.env) B7):PE c (Q0 p t q)<|YV c.K t y:=by
 intro pins s σ H Q I h;refine Pq hb<|M8 (he pins s σ H _ I h) λu s1 ⟨X,H1,I1,ry,ea,C,dx,v,ey,hC,hnf,h1,h2,e⟩=>?_;subst ey;obtain rfl:=ry;obtain⟨vs,hx⟩:=(I1.H9 ea _ h1).1;obtain⟨mA,N,r⟩:=I1.H9 dx _ h2;obtain⟨w,hw,rw'⟩:=jD.some_of (by have:=r t;simpa [fW]using this);obtain⟨o,ho,hlk⟩:=a4V N hw;exact a1d hC I1.bI ⟨hx,rfl,rfl,ho⟩ (Xp hC.hd hnf rfl hlk) (HP rw') ⟨v,H1,I1.tok _,rw',e⟩
set_option tactic.hygienic true in
def a6T(he:PX c I p y u9)(hb:autoParam (uf p t c.env (eval p c.env)=eval p c.env) B7):PX c I (Q0 p t q) (YV c.K t y)<|xR t u9:=⟨a7o he.p hb,by
 intro O D8 as σ H ds pv Q S hf e;unfold xR at hf;cases h1:u9 ds with
 |none=>rw[h1]at hf;cases hf
 |some w=>
  rw[h1]at hf;simp only[P0]at hf;refine he.t O D8 as σ H ds w _ S h1 λv H1 e1 r1=>?_
  have dt:=r1.dt S.dm;revert hf;generalize w.d=d at dt;intro hf;cases dt with
  |exc cc nf g1 g2 X=>
   rename_i ea C dx f' v' d';have hf':((if f'=t then U d' else J).bind λd=>U<|PV.dat d)=U pv:=hf;by_cases hff:f'=t;subst hff;rw[A6 rfl]at hf';cases hf';exact⟨ea,C,dx,v',rfl,cc,nf,L1 _ _ g1,L1 _ _ g2,e _ H1 e1 X⟩;rw[B2 hff]at hf';cases hf'
  |_=>cases hf⟩
def kQ(C:Addr)(b:Bool)(F:Ds->Option PV):Ds->Option PV:=λds=>(F ds).bind λx=>if isExc C x.d=Uf then U (.dat<|E5 b)else if K7 x.d=Uf then U (.dat<|E5 U')else J
def Zx(K:D4)(C:Addr)(vc:V)(b:Bool):List V->Hp->VK->Prop:=λxs H Q=>∃y d,xs=[y,vc]/\Dt K H y d/\((isExc C d=Uf/\Q (.bl b) H)\/(d=F3/\Q (.bl U') H))
set_option tactic.hygienic true in
def a1z(hv:∀u,RelV b6 u->u=Z)(h1:cY c.K (A5 N) Z=U I)(h0:cY c.K (E8 "NoneType") Z=U U'):cA c (P5 "isinstance")<|Zx c.K N b6 I:=by
 intro pins s σ H xs us Q C r h;obtain⟨y,d,rfl,hd,q⟩:=h;obtain⟨u,X,rfl,rx,rc⟩:=vals2 r;obtain rfl:=hv X rc;rcases q with ⟨hx,q⟩|⟨rfl,q⟩
 . cases hd with
   |exc cc nf g1 g2 t=>
    rename_i ea C' dx f' v' d';have:=Int.ofNat.inj<|beq_iff_eq.mp hx;subst this;cases rx;obtain⟨mA,⟨ob,es,ep,ho,_⟩,_⟩:=C.H9 _ _ g2;exact Wa (a0J cc) C.bI ⟨(C.H9 _ _ g1).1,ob,ho⟩ h1 (λz=>nomatch z) λtk=>⟨.bl _,H,C.tok tk,rfl,q⟩
   |_=>cases hx
 cases hd;cases rx;exact Wa PySem.W.kitx_none C.bI jM h0 (λz=>nomatch z) λtk=>⟨.bl _,H,C.tok tk,rfl,q⟩
def Th{vc:V}{uc:A1}(hvu:∀u,RelV vc u->u=uc)(h1:cY c.K (A5 N) uc=U j6)(h0:cY c.K (E8 "NoneType") uc=U U')(hg:Gl c t)(hm:c.mg t=J)(hv:jO t=U (P5 "isinstance"))(h:PX c I p y u9)(hc:PE c Y<|tC vc)(hn:autoParam (t ≠ "__name__") iJ)(hdb:autoParam ((t==("__debug__" : Str))=U') aj)(hs1:autoParam (O7 [p,Y] c.env=(U',eval p c.env)::O7 [Y] c.env) B7)(hs2:autoParam (O7 [Y] c.env=(U',eval Y c.env)::O7 [] c.env) B7)(hpl:autoParam ((bP b8<|O7 [Y] c.env).any (·.1)=U') B7):
  PX c I (L8 (G9 t q) [p,Y] [] b8) (Jf (Zx c.K N vc j6)<|fj y<|fj (tC vc) pA) (kQ N j6 u9):=
 ⟨JK (a1z hvu h1 h0) hg hm hv (bg h.p (bg hc jt hs2) hs1) hn hdb hs1 hpl,by
 intro O D8 as σ H ds pv Q S hf X;unfold kQ at hf;cases hF:u9 ds with
 |none=>rw[hF]at hf;cases hf
 |some w=>
  rw[hF]at hf;simp only[P0]at hf;refine h.t O D8 as σ H ds w _ S hF λv H1 e1 r1=>?_;refine⟨v,w.d,rfl,(r1.dt S.dm).same L1,?_⟩;split at hf;rename_i hx;cases hf;exact B3 ⟨hx,X _ H1 e1<|Dt.bl _⟩
  . split at hf
    . rename_i hx;cases hf;refine B6 ⟨?_,X _ H1 e1<|Dt.bl _⟩;revert hx;generalize w.d=d;intro hx;unfold K7 at hx;split at hx;rfl;cases hx
    . cases hf⟩
end
section
def Ut:BS c "str.startswith" (λx xs H Q=>∃z y,x=.str z/\xs=[.str y]/\Q (.bl<|zZ z y) H):=by intro pins s σ H x xs v us Q I rx rxs h;obtain⟨z,y,rfl,rfl,q⟩:=h;obtain⟨t,rfl⟩:=rx;obtain⟨u,rfl,t2,rfl⟩:=vals1 rxs;exact SC.startswith ⟨.bl _,H,I,rfl,q⟩
def a0x:BS c "str.zfill" (λx xs H Q=>∃z i,x=.str z/\xs=[.int i]/\PadOk i=Uf/\Q (.str<|Txt.zfill z i) H):=by intro pins s σ H x xs v us Q I rx rxs h;obtain⟨z,i,rfl,rfl,hp,q⟩:=h;obtain⟨t,rfl⟩:=rx;obtain⟨u,rfl,t2,rfl⟩:=vals1 rxs;exact SC.zfill hp λt' k=>⟨.str _,H,I.tok k,⟨t',rfl⟩,q⟩
noncomputable def nW(x y:Str):List Str:=match xh x y 0 x.length 1 with
 |i::_=>[WO x 0 i,y,WO x (i+y.length) x.length]
 | []=>[x,ow,ow]
def a4O:BS c "str.partition" (λx xs H Q=>∃z y,x=.str z/\xs=[.str y]/\(y.length==0)=U'/\z.length<=G7/\∀p,H p=J->Q (.ref p) (upd H p<|.tup<|(nW z y).map V.str)):=by
 intro pins s σ H x xs v us Q I rx rxs h;obtain⟨z,y,rfl,rfl,hy,hz,q⟩:=h;obtain⟨t,rfl⟩:=rx;obtain⟨u,rfl,t2,rfl⟩:=vals1 rxs;refine lK Xw (tR _ _ _) F.entry_str_partition (F.args_str_partition_2 _ _) (meets_str_partition z y t t2 hy hz) ?_;have q':=q _<|I.H9.fresh<|N7 _;unfold nW at q';cases ho:xh z y 0 z.length 1 with
 |nil=>
  rw[ho]at q';refine⟨.ref s.heap.objs.size,_,I.laid (λb ob q=>L0 _ q) (N7 _) ?_,rfl,q'⟩;exact⟨(show 3<=G7 by decide),_,N8 ⟨t,rfl⟩<|N8 ⟨_,rfl⟩<|N8 ⟨_,rfl⟩ P1,zK _ _⟩
 |cons i r=>
  rw[ho]at q';refine⟨.ref s.heap.objs.size,_,I.laid (λb ob q=>L0 _ q) (N7 _) ?_,rfl,q'⟩;exact⟨(show 3<=G7 by decide),_,N8 ⟨_,rfl⟩<|N8 ⟨_,rfl⟩<|N8 ⟨_,rfl⟩ P1,zK _ _⟩
def Hd:∀{ts:List Str}{us:List A1},Vals (ts.map V.str) us->∃l:List<|Str×Tok,us=lI l/\l.map (·.1)=ts:=by
 intro l_;induction l_ with
 |nil=>
  intro _ h;cases h;exact⟨[],rfl,rfl⟩
 |cons a r ih_=>
  intro _ h;cases h with
  |cons h1 h2=>
   obtain⟨t,rfl⟩:=h1;obtain⟨l,rfl,e⟩:=ih_ h2;exact⟨(a,t)::l,rfl,by rw[K3,e]⟩
def a4P:BS c "str.join" (λx xs H Q=>∃z a ts,x=.str z/\xs=[.ref a]/\X6 c.K H a (ts.map V.str)/\jF z ts=Uf/\Q (.str<|aR z ts) H):=by intro pins s σ H x xs v us Q I rx rxs h;obtain⟨z,a,ts,rfl,rfl,hs,H9,q⟩:=h;obtain⟨t,rfl⟩:=rx;obtain⟨u,rfl,ru⟩:=vals1 rxs;cases ru;obtain⟨its,r',pl,hz⟩:=I.list hs;obtain⟨l,e,hl⟩:=Hd r';have pl':=pl.isList;rw[e]at pl';exact SC.join pl' hl H9 λt' k=>⟨.str _,H,I.tok k,⟨t',rfl⟩,q⟩
def LB(K:D4)(r:V->List V->Hp->VK->Prop)(f:f9->List f9->Option PV):Prop:=
 ∀(O:List Addr) (va:As) (H:Hp) (z:Str) (xs:List V) (ds:List f9) (pv:PV) (Q:VK),uH H va O->N2 K (K1 H va O) xs ds->f (f6 z) ds=U pv->(∀w H',C8 H H'->RX K O va H H' w pv->Q w H')->r (.str z) xs H Q
variable{r:V->List V->Hp->VK->Prop}
def a9S{Fl:Ds->Option (List f9)}{f:f9->List f9->Option PV}(slot:Slot "str" h8 o3)(hty:typeOf (P5 o3)=pure (E8 "method_descriptor"))(hm:BS c o3 r)(hr:LB c.K r f)(hs0:∀d l pv,f d l=U pv->∃z,d=f6 z)(ho:PX c I p y u9)(ha:hV c I (Y::b5) e9 Fl)(bm:autoParam (Gj c p h8 q Y b5 b8) qI):
  PX c I (L8 (Q0 p h8 q) (Y::b5) [] b8) (Bw c.K "str" r y e9) (U6 f u9 Fl):=
 ⟨AQ F.plainAttrs_str slot hty hm ho.p ha.p bm,by
 intro O D8 as σ H ds pv Q S hf X;unfold U6 at hf;cases h1:u9 ds with
 |none=>rw[h1]at hf;cases hf
 |some x=>
  cases h2:Fl ds with
  |none=>rw[h1,h2]at hf;cases hf
  |some l=>
   rw[h1,h2]at hf;simp only[P0]at hf;refine ho.t O D8 as σ H ds x _ S h1 λv H1 e1 r1=>?_;have d1:=r1.dt S.dm;obtain⟨z,ez⟩:=hs0 _ _ _ hf;rw[ez]at hf d1;cases d1;refine⟨rfl,ha.t O D8 as σ H1 ds l _ (S.grow e1) h2 λvs H2 e2 r2=>?_⟩
   exact hr O (bU I as) H2 z vs l pv Q ((S.grow e1).grow e2).dm r2 hf λw H3 e3 r3=>X w H3 ((e1.trans e2).trans e3)<|r3.back<|e1.trans e2⟩
noncomputable def pB:f9->List f9->Option PV
 |f6 z,[f6 y]=>U<|.dat<|E5<|zZ z y
 |_,_=>J
noncomputable def findD:f9->List f9->Option PV
 |f6 z,[f6 y]=>U<|.dat<|p6<|Txt.find z y
 |_,_=>J
noncomputable def vC:f9->List f9->Option PV
 |f6 z,[p6 i]=>if PadOk i=Uf then U (.dat<|f6<|Txt.zfill z i)else J
 |_,_=>J
def xG:f9->List f9->Option PV
 |f6 z,[f6 y]=>if (y.length==0)=U'/\z.length<=1000000 then U (.dat<|B4<|(nW z y).map f6)else J
 |_,_=>J
noncomputable def strsOf:List f9->Option (List Str)
 | []=>U []
 |f6 z::r=>(strsOf r).bind λl=>U (z::l)
 |_=>J
def bx:f9->List f9->Option PV
 |f6 z,[B8 l]=>(strsOf l).bind λts=>if jF z ts=Uf then U (.dat<|f6<|aR z ts)else J
 |_,_=>J
def Ni(h:pB i7 c8=U i8):∃z,i7=f6 z:=by
 unfold pB at h;split at h;exact⟨_,rfl⟩;cases h
def PC(h:vC i7 c8=U i8):∃z,i7=f6 z:=by
 unfold vC at h;split at h;exact⟨_,rfl⟩;cases h
def TU(h:xG i7 c8=U i8):∃z,i7=f6 z:=by
 unfold xG at h;split at h;exact⟨_,rfl⟩;cases h
def UQ(h:bx i7 c8=U i8):∃z,i7=f6 z:=by
 unfold bx at h;split at h;exact⟨_,rfl⟩;cases h
set_option tactic.hygienic true in
def Yz:LB e (λx xs H Q=>∃z y,x=.str z/\xs=[.str y]/\Q (.bl<|zZ z y) H) pB:=by
 intro O va H z xs ds pv Q D hx hf q;unfold pB at hf;split at hf;rename_i z' y K;cases K;cases hf;obtain⟨x,rfl,h⟩:=hx.inv1;cases h;exact⟨z,y,rfl,rfl,q _ H (C8.refl H)<|Dt.bl _⟩;cases hf
set_option tactic.hygienic true in
def a2Z:LB e (λx xs H Q=>∃z i,x=.str z/\xs=[.int i]/\PadOk i=Uf/\Q (.str<|Txt.zfill z i) H) vC:=by
 intro O va H z xs ds pv Q D hx hf q;unfold vC at hf;split at hf
 . rename_i z' i K;cases K;split at hf;rename_i hp;cases hf;obtain⟨x,rfl,h⟩:=hx.inv1;cases h;exact⟨z,i,rfl,rfl,hp,q _ H (C8.refl H)<|Dt.str _⟩;cases hf
 cases hf
theorem CI{K:D4}{H:Hp}:∀l:List Str,N2 K H (l.map V.str) (l.map f6)
 | []=>.nil
 |a::r=>.cons (.str a)<|CI r
set_option tactic.hygienic true in
def a5N:LB e (λx xs H Q=>∃z y,x=.str z/\xs=[.str y]/\(y.length==0)=U'/\z.length<=G7/\∀p,H p=J->Q (.ref p) (upd H p<|.tup<|(nW z y).map V.str)) xG:=by
 intro O va H z xs ds pv Q D hx hf q;unfold xG at hf;split at hf
 . rename_i z' y K;cases K;split at hf;rename_i hp;cases hf;obtain⟨x,rfl,h⟩:=hx.inv1;cases h;exact⟨z,y,rfl,rfl,hp.1,D6 hp.2 (by decide),λp hp=>q _ _ (C8.new hp)<|yN D hp<|CI _⟩;cases hf
 cases hf
theorem N2.strs{K:D4}{H:Hp}:∀{l:List f9}{xs:List V}{ts:List Str},N2 K H xs l->strsOf l=U ts->xs=ts.map V.str
 | [],_,_,.nil,e=>by cases e;rfl
 |d::r,_,ts,.cons h t,e=>by
  cases h with
  |str z=>
   have e':((strsOf r).bind λl=>U (z::l))=U ts:=e
   cases h2:strsOf r with
   |none=>rw[h2]at e';cases e'
   |some js=>
    rw[h2]at e';cases e';rw[t.strs h2];rfl
  |_=>cases e
set_option tactic.hygienic true in
def a5R:LB e (λx xs H Q=>∃z a ts,x=.str z/\xs=[.ref a]/\X6 e H a (ts.map V.str)/\jF z ts=Uf/\Q (.str<|aR z ts) H) bx:=by
 intro O va H z xs ds pv Q D hx hf q;unfold bx at hf;split at hf
 . rename_i z' l K;cases K;cases h1:strsOf l with
   |none=>rw[h1]at hf;cases hf
   |some ts=>
    rw[h1]at hf;simp only[P0]at hf;split at hf
    . rename_i hp;cases hf;obtain⟨x,rfl,h⟩:=hx.inv1;cases h with
      |lst hs ht=>
       have ex:=ht.strs h1;subst ex;exact⟨z,_,ts,rfl,rfl,L1.seq hs,hp,q _ H (C8.refl H)<|Dt.str _⟩
    cases hf
 cases hf
end
noncomputable def Its(x:Str):It:=⟨λi _=>i<x.cps.size,λi H v H'=>H'=H/\∃c,x.cps[i]?=U c/\v=.str ⟨#[c]⟩,λi _=>x.cps.size<=i⟩
def YJ(x:Str)(t:Tok)(it:Addr):Turn A D e p (Its x) [it] it (λi h=>h.IsStrIter it (dM x) x t i) where
 mem:=by simp
 obj:=λi h st b hb=>by
  have w:b=it:=by simpa using hb
  subst w;obtain⟨o,w,c,d⟩:=st;exact⟨o,w,λv z=>by rw[d]at z;cases z⟩
 keep:=λi h h' st k=>by obtain⟨o,w,r⟩:=st;exact⟨o,k it (by simp) o w,r⟩
 item:=by
  intro X hP hw hK hc i pins s σ H E I hf st hg;subst hP hw hK;obtain⟨f0,f1,f2,f3,f4,f5⟩:=hf it (by simp)
  have hx:=Array.getElem?_eq_getElem hg;have fin:∀h',h'.IsStrIter it (dM x) x t (i+1)->tY it s.heap h'->∃u,U (zL ⟨#[x.cps[i]]⟩ s.toks)=U u/\wpAny (model X.prog X.w) X.A (Fp p (A5 it) u) (λ_ s2=>∃y H',Inv X pins σ H' s2/\RelV y u/\(Its x).RQ i H y H'/\s2.heap.IsStrIter it (dM x) x t (i+1)/\∀b∈[it],H' b=J) E {s with heap:=h',toks:=s.toks+1}:=λh' st' sb=>by
   have I1:Inv X pins σ H {s with heap:=h',toks:=s.toks+1}:=I.turned (λb o hb w=>(sb.2 b hb).trans w) f0 f1 f3 f4 f5;obtain⟨o,w,c,d⟩:=id st';refine⟨_,rfl,II w c d (by unfold dM;split<;>decide) ⟨.str ⟨#[x.cps[i]]⟩,H,I1,⟨_,rfl⟩,⟨rfl,_,hx,rfl⟩,st',λb hb=>(hf b hb).1⟩⟩
  cases ha:x.cps.all (· < 128)with
  |true=>
   have et:dM x = "str_ascii_iterator":=by unfold dM;rw[A6 ha]
   rw[et]at st fin;exact wpAny_pyNext_ascii_item st hx λh' st' sb=>by rw[et];exact fin h' st' sb
  |false=>
   have et:dM x = "str_iterator":=by unfold dM;rw[B2 (by rw[ha];decide)]
   rw[et]at st fin;exact wpAny_pyNext_wide_item st hx λh' st' sb=>by rw[et];exact fin h' st' sb
 done:=by
  intro X hP hw hK hc i pins s σ H E I hf st hg;obtain⟨f0,f1,f2,f3,f4,f5⟩:=hf it (by simp)
  have hx:=Array.getElem?_eq_none hg;cases ha:x.cps.all (· < 128)with
  |true=>
   have et:dM x = "str_ascii_iterator":=by unfold dM;rw[A6 ha]
   rw[et]at st;exact wpAny_pyNext_ascii_end (I.ok.hd hc) st hx λh' eb=>⟨rfl,I.turned (λb o hb w=>eb b o hb w) f0 f1 f3 f4 f5⟩
  |false=>
   have et:dM x = "str_iterator":=by unfold dM;rw[B2 (by rw[ha];decide)]
   rw[et]at st;exact wpAny_pyNext_wide_end (I.ok.hd hc) st hx λh' eb=>⟨rfl,I.turned (λb o hb w=>eb b o hb w) f0 f1 f3 f4 f5⟩
 self:=λP i s Q E st h=>by
  cases ha:x.cps.all (· < 128)with
  |true=>
   have et:dM x = "str_ascii_iterator":=by unfold dM;rw[A6 ha]
   rw[et]at st;exact wpAny_pyIter_striter_ascii st h
  |false=>
   have et:dM x = "str_iterator":=by unfold dM;rw[B2 (by rw[ha];decide)]
   rw[et]at st;exact wpAny_pyIter_striter_wide st h
noncomputable def signs(z:Str):List f9:=z.cps.toList.map λc=>f6 ⟨#[c]⟩
section
def part_of{k:Option Int}(h:fU Z k):∃l:Option<|Int×Tok,Z=partValue l/\l.map (·.1)=k:=by
 cases h with
 |none=>exact⟨J,rfl,rfl⟩
 |int i t=>exact⟨U (i,t),rfl,rfl⟩
def a6D:V->Option Int->Option Int->Hp->VK->Prop:=λx lo hi H Q=>∃z,x=.str z/\z.length<=G7/\Q (.str<|aE z lo hi) H
def a6r:yu c a6D:=by intro pins s σ H x v vl vu lo hi sl Q I rx hs pl pu h;obtain⟨z,rfl,hz,q⟩:=h;obtain⟨t,rfl⟩:=rx;obtain⟨l,rfl,el⟩:=part_of pl;obtain⟨u,rfl,eu⟩:=part_of pu;refine⟨"str",_,F.slot_str_getitem.lookup,tR _ _ _,?_⟩;subst el eu;exact wpAny_getItem_str_slice (st:=J) hs rfl<|post_val_or_str ⟨D6 (Txt.slice_le z _ _) hz,λt' k=>⟨.str _,H,I.tok k,⟨t',rfl⟩,q⟩⟩
def Zu(K:D4):V->Option Int->Option Int->Hp->VK->Prop:=λx lo hi H Q=>rSl K x lo hi H Q\/a6D x lo hi H Q
def a6u:yu c<|Zu c.K:=a6t.or a6r
def K6:f9->Option Int->Option Int->Option PV
 |f6 z,lo,hi=>if z.length<=1000000 then U (.dat<|f6<|aE z lo hi)else J
 |d,lo,hi=>NU d lo hi
set_option tactic.hygienic true in
def a9p:R3X e (Zu e) K6:=by
 intro O va H x lo hi d pv Q D hx hf q;unfold K6 at hf;split at hf
 . split at hf;rename_i z hz;cases hf;cases hx;exact B6 ⟨z,rfl,D6 hz (by decide),q _ H (C8.refl H)<|Dt.str _⟩;cases hf
 exact B3<|b1v O va H x lo hi d pv Q D hx hf q
end
section
def a2k:List V->Hp->VK->Prop:=λxs H Q=>∃z n,xs=[.str z]/\ET z=U n/\z.length<=640/\Q (.int n) H
def VG:cA c (E8 "int") a2k:=by intro pins s σ H xs us Q I r h;obtain⟨z,n,rfl,hn,hl,q⟩:=h;obtain⟨u,rfl,t,rfl⟩:=vals1 r;exact PySem.W.KIN.call_text hn hl ⟨.int n,H,I.tok _,⟨_,rfl⟩,q⟩
noncomputable def jf:List f9->Option PV
 | [f6 z]=>if z.length<=640 then(ET z).bind λn=>U (.dat<|p6 n)else J
 |_=>J
set_option tactic.hygienic true in
def a5S:nG e a2k jf:=by
 intro O va H xs ds pv Q D hx hf q;unfold jf at hf;split at hf
 . rename_i z;split at hf
   . rename_i hl;cases hn:ET z with
     |none=>rw[hn]at hf;cases hf
     |some n=>
      rw[hn]at hf;cases hf;obtain⟨x,rfl,h⟩:=hx.inv1;cases h;exact⟨z,n,rfl,hn,hl,q _ H (C8.refl H)<|Dt.int _⟩
   cases hf
 cases hf
def Jz(neg:Bool):R2:=λx y H Q=>∃i j,x=.str i/\y=.str j/\Q (.bl<|if neg then !Txt.contains j i else zT j i) H
def a7w:X4 c (V9 wJ)<|Jz U':=λpins s σ H x y v u Q I rx ry h=>Ud pins s σ H x y v u Q I rx ry h
def TZ:X4 c (V9 Aj)<|Jz Uf:=λpins s σ H x y v u Q I rx ry h=>JO pins s σ H x y v u Q I rx ry h
noncomputable def U3:f9->f9->Option PV
 |f6 i,f6 j=>U<|.dat<|E5<|zT j i
 |_,_=>J
noncomputable def R8:f9->f9->Option PV
 |f6 i,f6 j=>U<|.dat<|E5<|!Txt.contains j i
 |_,_=>J
def a9x:aZ e (Jz U') U3:=by
 intro O va H x y d K pv Q D hx hy hf q;unfold U3 at hf;split at hf;cases hf;cases hx;cases hy;exact⟨_,_,rfl,rfl,q _ H (C8.refl H)<|Dt.bl _⟩;cases hf
def YA:aZ e (Jz Uf) R8:=by
 intro O va H x y d K pv Q D hx hy hf q;unfold R8 at hf;split at hf;cases hf;cases hx;cases hy;exact⟨_,_,rfl,rfl,q _ H (C8.refl H)<|Dt.bl _⟩;cases hf
end
def Rc(z:Str):K7 (f6 z)=U':=rfl
noncomputable def O2(f g:f9->f9->Option PV):f9->f9->Option PV:=λd e=>match f d e with
 |some pv=>U pv
 |none=>g d e
noncomputable def qD(f g:List f9->Option PV):List f9->Option PV:=λl=>match f l with
 |some pv=>U pv
 |none=>g l
set_option tactic.hygienic true in
def aZ.or{r:R2}{g:f9->f9->Option PV}(h:aZ e r m8)(h':aZ e m7 g):aZ e (λx y H Q=>r x y H Q\/m7 x y H Q)<|O2 m8 g:=by
 intro O va H x y d K pv Q D hx hy hf q;unfold O2 at hf;split at hf;rename_i pv' he;cases hf;exact B3<|h O va H x y d K _ Q D hx hy he q;exact B6<|h' O va H x y d K pv Q D hx hy hf q
set_option tactic.hygienic true in
def nG.or{r:List V->Hp->VK->Prop}{f g:List f9->Option PV}(h:nG e r f)(h':nG e t4 g):nG e (λxs H Q=>r xs H Q\/t4 xs H Q)<|qD f g:=by
 intro O va H xs ds pv Q D hx hf q;unfold qD at hf;split at hf;rename_i pv' he;cases hf;exact B3<|h O va H xs ds _ Q D hx he q;exact B6<|h' O va H xs ds pv Q D hx hf q
def Gr(K:D4)(neg:Bool):R2:=λx y H Q=>Tc K neg x y H Q\/Jz neg x y H Q
def a7x:X4 c (V9 wJ)<|Gr c.K U':=Ue.or a7w
def Ua:X4 c (V9 Aj)<|Gr c.K Uf:=JP.or TZ
def a9y:aZ e (Gr e U')<|O2 inD U3:=b1y.or a9x
def YB:aZ e (Gr e Uf)<|O2 U5 R8:=a3c.or YA
def a8k(K:D4)(tl:TE):TI:=λσ H R=>tl σ H λx H1=>(∃a,x=.ref a/\(((∃xs,X6 K H1 a xs)/\R (Itl K a) H1)\/((∃xs,cM K H1 a xs)/\R (Itt K a) H1)))\/∃z,x=.str z/\R (Its z) H1
section
def a7e(hl:PE c Y y):PI c p Y<|a8k c.K y:=by
 intro pins s σ H R I h;refine M8 (hl pins s σ H _ I h) λv s1 ⟨e,H1,I1,r1,q1⟩=>?_
 rcases q1 with q1|⟨z,rfl,q⟩
 . obtain⟨a,rfl,(⟨⟨xs,hq⟩,q⟩|⟨⟨xs,hq⟩,q⟩)⟩:=q1
   . cases r1;obtain⟨its,rv,X,hz⟩:=I1.list hq;refine Mn X.isList ?_;refine⟨s1.heap.objs.size,[s1.heap.objs.size],_,_,H1,rfl,I1.kept λb o Y=>L0 _ Y,Sg a _,⟨_,ae _ rfl,rfl,rfl⟩,λb hb=>?_,q⟩
     have Y:b=s1.heap.objs.size:=by simpa using hb
     subst Y;exact I1.zi (N7 _)<|I1.H9.fresh<|N7 _
   . cases r1;obtain⟨its,rv,X,hz⟩:=I1.tuple hq;refine wpAny_pyIter_tuple (show s1.heap.IsTuple a its.toArray from X) ?_;refine⟨s1.heap.objs.size,[s1.heap.objs.size],_,_,H1,rfl,I1.kept λb o Y=>L0 _ Y,PN a _,⟨_,ae _ rfl,rfl,rfl⟩,λb hb=>?_,q⟩
     have Y:b=s1.heap.objs.size:=by simpa using hb
     subst Y;exact I1.zi (N7 _)<|I1.H9.fresh<|N7 _
 . obtain⟨t,rfl⟩:=r1;refine wpAny_pyIter_strU ?_;refine⟨s1.heap.objs.size,[s1.heap.objs.size],_,_,H1,rfl,I1.kept λb o Y=>L0 _ Y,YJ z t _,⟨_,ae _ rfl,rfl,rfl⟩,λb hb=>?_,q⟩
   have Y:b=s1.heap.objs.size:=by simpa using hb
   subst Y;exact I1.zi (N7 _)<|I1.H9.fresh<|N7 _
def yD:f9->Option (List f9)
 |f6 z=>U<|signs z
 |d=>gx d
def bW(F:Ds->Option PV):Ds->Option (List f9):=λds=>(F ds).bind λpv=>yD pv.d
set_option tactic.hygienic true in
def a4p{fr:Bool}(h:PX c fr Y y u9):Ep c fr p Y (a8k c.K y)<|bW u9:=⟨a7e h.p,by
 intro O D8 as σ H ds items R S hf q;unfold bW at hf;cases h1:u9 ds with
 |none=>rw[h1]at hf;cases hf
 |some pv=>
  rw[h1]at hf;simp only[P0]at hf;by_cases hs:∃z,pv.d=f6 z
  . obtain⟨z,ez⟩:=hs;rw[ez]at hf;cases hf;refine h.t O D8 as σ H ds pv _ S h1 λv H1 e1 r1=>?_
    have d:=r1.dt S.dm;rw[ez]at d;cases d;have:(signs z).length=z.cps.size:=by simp[signs]
    refine B6 ⟨z,rfl,q _ H1 e1 λH' e' i=>?_⟩;refine⟨λhi=>(show i<z.cps.size by simp_all),λhi=>(show z.cps.size<=i by simp_all),λx H'' e hi=>?_⟩;obtain⟨e3,X,hc,ev⟩:=e;subst e3 ev;refine⟨C8.refl _,f6 ⟨#[X]⟩,?_,λvb hv _=>.str _⟩;unfold signs;rw[aK,XG,hc];rfl
  . have hf':gx pv.d=U items:=by revert hf hs;generalize pv.d=d;intro hf hs;cases d<;>first|exact hf|exact absurd ⟨_,rfl⟩ hs
    refine h.t O D8 as σ H ds pv _ S h1 λv H1 e1 r1=>B3 ?_
    have d:=r1.dt S.dm;generalize pv.d=z at d hf';cases d with
    |lst hs ht=>
     rename_i a xs l;cases hf';have:=ht.length;refine⟨a,rfl,B3 ⟨⟨xs,L1.seq hs⟩,q _ H1 e1 λH' e' i=>?_⟩⟩;have hs':=e'.seq<|DR.seq hs;refine⟨λhi=>⟨xs,xs[i]'(by simp_all),hs',Y2 _⟩,λhi=>⟨xs,hs',by simp_all⟩,λx H'' e hi=>?_⟩;obtain⟨e3,e⟩:=e;subst e3;obtain⟨d,ed,dd⟩:=ht.get'<|e xs hs';exact⟨C8.refl _,d,ed,λvb hv _=>ze dd e' (C8.refl _) hv⟩
    |tup hs ht=>
     rename_i a xs l;cases hf';have:=ht.length;refine⟨a,rfl,B6 ⟨⟨xs,L1.mI hs⟩,q _ H1 e1 λH' e' i=>?_⟩⟩;have hs':=e'.mI<|DR.mI hs;refine⟨λhi=>⟨xs,xs[i]'(by simp_all),hs',Y2 _⟩,λhi=>⟨xs,hs',by simp_all⟩,λx H'' e hi=>?_⟩;obtain⟨e3,e⟩:=e;subst e3;obtain⟨d,ed,dd⟩:=ht.get'<|e xs hs';exact⟨C8.refl _,d,ed,λvb hv _=>ze dd e' (C8.refl _) hv⟩
    |_=>cases hf'⟩
end
end L2
namespace L2
open PySem PySem.Spec PyProof.Rows PySem.NumText
noncomputable abbrev lz(z:Str):List Nat:=z.cps.toList
def bT{x y:Str}(h:lz x=lz y):x=y:=by obtain⟨a⟩:=x;obtain⟨b⟩:=y;have:a=b:=Array.toList_inj.mp h;rw[this]
def cR(x y:Str):lz (x++y)=lz x++lz y:=by
 show(x.cps++y.cps).toList=_;simp
def M6(x:Str):x.length=(lz x).length:=by simp[Str.length]
def b0t(l:List Nat):lz ⟨l.toArray⟩=l:=by simp
def a7L(c:Nat):lz ⟨#[c]⟩=[c]:=rfl
noncomputable def bB(n:Nat):List Nat:=(Nat.toDigits 10 n).map LG
def ax(i:Int):List Nat:=if i<0 then 45::bB i.natAbs else bB i.natAbs
def a7M(n:Nat):lz (p7<|jI (n:Int))=bB n:=PySem.W.KIN.signs_num n
def eM(i:Int):lz (p7<|jI i)=ax i:=by
 unfold ax;split
 . rename_i h;obtain⟨n,rfl⟩:∃n:Nat,i=EE n:=by
    cases i with
    |ofNat n=>exact absurd h (by simp)
    |negSucc n=>exact⟨n,rfl⟩
   rw[show lz (p7<|jI<|EE n)=(jI<|EE n).toList.map LG from signs_ofString _];have e:jI (EE n) = "-"++Nat.repr (n+1):=rfl;rw[e,String.toList_append,bN,Nat.toList_repr];rfl
 . rename_i h;obtain⟨n,rfl⟩:=Int.eq_ofNat_of_zero_le (show 0<=i by simp_all);exact a7M n
def a1i{c:Char}(h:c.isDigit=Uf):48<=c.toNat/\c.toNat<=57:=by unfold Char.isDigit at h;rw[fu]at h;exact⟨by simpa using UInt32.le_iff_toNat_le.mp<|ff h.1,by simpa using UInt32.le_iff_toNat_le.mp<|ff h.2⟩
def bC(n:Nat):AllDigits<|bB n:=by intro c hc;obtain⟨ch,hch,e⟩:=mem_map.mp hc;rw[<-e];exact a1i (Nat.isDigit_of_mem_toDigits (by decide) (by decide) hch)
def sV(n:Nat):digitsVal (bB n)=n:=PySem.W.KIN.val_back n
def pI{n k:Nat}(hk:0<k):(bB n).length<=k↔n<10^k:=by unfold bB;rw[F4];exact Nat.length_toDigits_le_iff (by decide) hk
def Gz(n:Nat):bB n≠[]:=λh=>by have h1:=sV n;rw[h]at h1;have h2:=h1.symm;subst h2;exact absurd h (by decide)
def Plain(cs:List Nat):Prop:=AllDigits cs/\cs≠[]/\(cs.head?≠U 48\/cs=[48])
def toNat_ofNat{c:Nat}(h:48<=c/\c<=57):(LF c).toNat=c:=by
 have:∀c:Fin 58,48<=c.1->(LF c.1).toNat=c.1:=by decide
 exact this ⟨c,by lia⟩ h.1
def Ox{cs:List Nat}(h:Plain cs):bB (digitsVal cs)=cs:=by
 obtain⟨hd,hne,hz⟩:=h;unfold bB;rw[toDigits_all cs hd];have back:∀l:List Nat,AllDigits l->(l.map LF).map LG=l:=λl hl=>by
  rw[cX]
  conv=>rhs;rw[<-List.map_id l]
  exact Xg λc hc=>toNat_ofNat<|hl c hc
 cases cs with
 |nil=>exact absurd rfl hne
 |cons c r=>
  rcases hz with hz|hz
  . have hc:(c==48)=U':=by simpa using hz
    rw[List.dropWhile_cons,hc];exact back _ hd
  rw[hz];rfl
def Dz(n:Nat):Plain<|bB n:=by
 refine⟨bC n,Gz n,?_⟩;by_cases h0:n=0;subst h0;exact B6 rfl
 . refine B3 λhz=>?_
   cases e:bB n with
   |nil=>exact Gz n e
   |cons c r=>
    rw[e]at hz;have hc:c=48:=by simpa using hz
    subst hc;have hv:=sV n;have hd:=bC n;rw[e]at hv hd;have h2:=hv;have hl:=(pI (n:=n) (k:=r.length) (by
     cases r with
     |nil=>exact absurd h2.symm (by simpa [digitsVal]using h0)
     |cons _ _=>exact Nat.succ_pos _))
    have hlt:digitsVal r<10^r.length:=by
     have key:∀l a,AllDigits l->l.foldl (λacc c=>acc*10+(c-48)) a<(a+1)*10^l.length:=by
      intro l;induction l with
      |nil=>intro a _;simp
      |cons d l ih=>
       intro a hl;have hd:=hl.head;have:=ih (a*10+(d-48)) hl.tail;refine Q8 this ?_;rw[L3,Nat.pow_succ,Nat.mul_comm (10^l.length) 10,<-Nat.mul_assoc];exact Xv _ (by lia)
     have:=key r 0 hd.tail;simpa [digitsVal]using this
    have h3:=hl.mpr (by rw[<-h2];exact hlt);rw[e,L3]at h3;lia
end L2
namespace L2
open PySem PySem.Spec PyProof.Rows PySem.NumText PySem.StrLaws
variable{X:Cx}{f L T h D:Addr}{e o:Expr}{i n:Nat}{p g z:Pos}{x m I:Str}{s:C5}{K:D4}{a:Hp}{G Y:TE}{b:Bool}{A:X1}{N:List Str}{d:St}{t:TA}{j:Heap}{k:W4}{l:List (Addr×Obj)}{u:A1}{q:List Expr}{w:S6}{y:N6}{B:List Env}{E:XK}{Q:A1->C5->Prop}{M:TT}{R:Model}{S:Str->Option A1}{Z:V->Prop}{b5:f9}{b6:Ds->Option PV}{b7:Env}{b8:V}{b9:Array A1}{c8:Unit->C5->Prop}{c9:cV}{d6:List (Str×f9)}{d8:Ds}{d9:Option Addr}{e8:Stmt}{e9:Option A1}{g8:DO}{i5:Ds->Option (List AV)}{i6:DV}{i7:List (Key×V)}{i8:OD->Option (List<|Str×f9)}{i9:List Stmt}{j0:List ExceptHandler}{j1:TS}{j3:Obj}{j4:f9->Bool}{j5:DL}{j6:List f9}{j7:OD->List (Str×f9)->OD}{j8:Ends}{j9:String}{k7:Ds->Option (List f9)}{k8:List Addr}{l8:Sem Bool}{l9:Option Int}{m3:Option Expr}{m4:List A1}{m5:Option Bool}{m6:Flow->C5->Prop}{m7:Heap->Prop}{m8:(PV ⊕ f9)×Ds}{m9:List f9->Option (PV ⊕ f9)}{n8:f9->f9->Option PV}
open Builtin.Str (occurrences strSub subAt strSliceIndices)
theorem Dg(x:Str)(hab:i<=n)(hb:n<=x.length){u:Option Int}(e:strSliceIndices l9 u 1 x.length=strSliceIndices (U (i:Int)) (U (n:Int)) 1 x.length):lz (aE x l9 u)=((lz x).drop i).take (n-i):=by
 unfold aE;rw[e];split
 . rename_i h;have hl:(strSliceIndices (U i) (U n) 1 x.length).length=x.length:=by simpa using h
   rw[strSliceIndices_plain hab hb,F4,oI]at hl;have ha:i=0:=by lia
   have hb':n=(lz x).length:=by rw[<-M6];simp_all
   subst ha;rw[ug,LK,hb',Wq]
 rw[sliced_plain x hab hb,b0t]
theorem mZ(x:Str)(i:Nat):lz (aE x (U (i:Int)) J)=(lz x).drop i:=by
 have e:strSliceIndices (U i) J 1 x.length=strSliceIndices (U<|(min i x.length:Nat)) (U x.length) 1 x.length:=by
  unfold strSliceIndices;have h2:¬((x.length:Int)<0):=by simp_all
  simp only[h2]
  congr 1
  lia
  . simp_all
 rw[Dg x (oG _ _) (N7 _) e];have:=M6 x;rw[ko (by rw[gU];exact N7 _)];by_cases h:i<=x.length;rw[EZ h];rw[Fx (by lia),FT (by exact N7 _),FT<|by lia]
def ID(x:Str)(j:Nat):lz (aE x J<|U (j:Int))=(lz x).take j:=by
 have e:strSliceIndices J (U j) 1 x.length=strSliceIndices (U 0) (U<|(min j x.length:Nat)) 1 x.length:=by
  unfold strSliceIndices;simp only[if_true]
  congr 1
  all_goals omega
 rw[Dg x (lP _) (oG _ _) e,ug,LK];have:=M6 x;by_cases h:j<=x.length;rw[EZ h];rw[Fx (by lia),ko (by exact N7 _),ko<|by lia]
def Qc(x:Str)(c:Nat):zZ x ⟨#[c]⟩=decide ((lz x).head? = U c):=by
 have h:=subAt_one x c 0;rw[<-List.head?_eq_getElem?]at h;unfold zZ;by_cases hc:(lz x).head? = U c;obtain⟨h1,h2⟩:=h.mpr hc;rw[h2,L7 h1,L7 hc];rfl
 . rw[J8 hc];cases h2:subAt x ⟨#[c]⟩ 0 with
   |false=>rw[oE]
   |true=>
    have:=λh1=>hc<|h.mp ⟨h1,h2⟩;rw[J8 this];rfl
theorem HB(s sub:Str)(hi:Nat):∀(l:List Nat) (st:Array Nat×Nat),1<=st.fst.size->(forIn l st<|occBody s sub hi 1).run.fst=st.fst
 | [],st,h=>rfl
 |a::l,st,h=>by
  rw[Fj];unfold occBody;rw[B2 (by intro z;have:=z.1.1.1;simp_all)];exact HB s sub hi l (st.fst,st.snd) h
def occ_first(x:Str)(c:Nat):∀(n a free:Nat),free<=a->(forIn (wB a n) ((#[]:Array Nat),free)<|occBody x ⟨#[c]⟩ x.length 1).run.fst.toList=(((wB a n).find? λi=>decide ((lz x)[i]?=U c)).toList):=by
 intro l_;induction l_ with
 |zero=>
  intro a free _;exact rfl
 |succ n ih_=>
  intro a free hf;rw[Mj,Fj,Me];have h:=subAt_one x c a;by_cases hc:(lz x)[a]?=U c
  . obtain⟨h1,h2⟩:=h.mpr hc;have e:occBody x ⟨#[c]⟩ x.length 1 a ((#[]),free)=pure (lV ((#[]).push a,a+(⟨#[c]⟩:Str).length)):=by unfold occBody;rw[A6 ⟨⟨⟨by simp,hf⟩,h1⟩,h2⟩]
    rw[e,L7 hc];have:=HB x ⟨#[c]⟩ x.length (wB (a+1) n) ((#[]).push a,a+(⟨#[c]⟩:Str).length) (by simp);show(forIn (wB (a+1) n) ((#[]).push a,a+(⟨#[c]⟩:Str).length)<|occBody x ⟨#[c]⟩ x.length 1).run.fst.toList=_;rw[this];rfl
  . have e:occBody x ⟨#[c]⟩ x.length 1 a ((#[]),free)=pure (lV ((#[]),free)):=by unfold occBody;rw[B2<|λz=>hc<|h.mp ⟨z.1.2,z.2⟩]
    rw[e,J8 hc];exact ih_ (a+1) free (by lia)
def Rr{cs:List Nat}:∀(c a:Nat),(wB a c).find? (λi=>decide (cs[i]?=U n))=(if n∈(cs.drop a).take c then U (a+((cs.drop a).idxOf n))else J):=by
 intro l_;induction l_ with
 |zero=>
  intro a;rfl
 |succ c ih_=>
  intro a;rw[Mj,Me];cases hd:cs.drop a with
  |nil=>
   have hl:=List.drop_eq_nil_iff.mp hd;have h0:=xc hl;rw[h0,J8 (by simp),ih_<|a+1];rw[FT<|by lia];simp
  |cons d r=>
   have h0:cs[a]?=U d:=by have:=List.getElem?_drop (xs:=cs) (i:=a) (j:=0);rw[hd]at this;simpa using this.symm
   have hr:cs.drop (a+1)=r:=by
    have:cs.drop (a+1)=(cs.drop a).drop 1:=by rw[Ma]
    rw[this,hd];rfl
   rw[h0];by_cases hc:d=n;subst hc;simp
   . rw[J8 (by simpa using hc),ih_<|a+1,hr]
     have e1:(n∈(d::r).take (c+1))↔n∈r.take c:=by
      rw[Xi,Q7];constructor
      . rintro(z|z);exact absurd z.symm hc;exact z
      exact B6
     by_cases hm:n∈r.take c
     . rw[A6 hm,A6<|e1.mpr hm,Md,beq_eq_false_iff_ne.mpr hc,cond_false]
       congr 1
       lia
     rw[B2 hm,B2<|λz=>hm<|e1.mp z]
def a4J(x:Str)(c:Nat):occurrences x ⟨#[c]⟩ 0 x.length 1=if c∈lz x then[(lz x).idxOf c]else[]:=by
 rw[occ_eq,occ_first x c _ 0 0<|N7 _,Rr];have:=M6 x;rw[ug,ko (by simp[*]),zU]
 split<;>rfl
def UB(x:Str)(i j:Nat):lz (strSub x i j)=((lz x).drop i).take (j-i):=by
 show(x.cps.extract i j).toList=_;rw[Array.toList_extract]
def a5u(x:Str)(c:Nat):(nW x ⟨#[c]⟩).map lz=if c∈lz x then[(lz x).take<|(lz x).idxOf c,[c],(lz x).drop<|(lz x).idxOf c+1]else[lz x,[],[]]:=by
 unfold nW;rw[a4J];by_cases h:c∈lz x
 . rw[A6 h,A6 h];show[lz<|strSub x 0 _,lz ⟨#[c]⟩,lz<|strSub x (_+(⟨#[c]⟩:Str).length) x.length]=_;rw[UB,UB,a7L,ug,LK];have e:(⟨#[c]⟩:Str).length=1:=rfl;rw[e,ko (l:=(lz x).drop _) (by rw[gU];exact N7 _)]
 rw[B2 h,B2 h];rfl
def jz(x:Str)(c:Nat):zT x ⟨#[c]⟩=decide (c∈lz x):=found_one x c
section
theorem Ht:∀l:List<|Str×Tok,Vals ((l.map (·.1)).map V.str) (lI l)
 | []=>P1
 |(a,t)::r=>N8 ⟨t,rfl⟩<|Ht r
def Qd(z y:Str)(hz:z.length<=100000):(jJ z y).length<=100002:=by
 unfold jJ;split;simp
 . split;simp;have:=XD z y 0 z.length<|z.length+1;rw[length_partsBetween];lia
def a0y:BS X "str.split" (λx xs H Q=>∃z y,x=.str z/\xs=[.str y]/\(y.length==0)=U'/\z.length<=100000/\∀p,H p=J->Q (.ref p) (upd H p<|.lst<|(jJ z y).map V.str)):=by
 intro pins s σ H x xs v us Q I rx rxs h;obtain⟨z,y,rfl,rfl,hy,hz,q⟩:=h;obtain⟨t,rfl⟩:=rx;obtain⟨u,rfl,t2,rfl⟩:=vals1 rxs;have q':=q _<|I.H9.fresh<|N7 _;have hs:=Qd z y hz;have:100002<=G7:=by decide
 have fin:∀l k,l.map (·.1)=jJ z y->EP X pins σ Q (A5 s.heap.objs.size) {s with toks:=k,heap:=s.heap.push {cls:=E8 "list",data:=W7 (lI l).toArray}}:=λl k e=>by
  rw[<-e]at q' hs;refine⟨.ref s.heap.objs.size,_,I.laid (λb ob q=>L0 _ q) (N7 _) ?_,rfl,q'⟩;exact⟨by rw[F4];exact D6 B1 B1,_,0,Ht l,ae _ rfl⟩
 have hn:(Builtin.Str.partsBetween z (xh z y 0 z.length<|z.length+1) y.length).length<=G7:=by have:=XD z y 0 z.length<|z.length+1;rw[length_partsBetween];lia
 cases h1:(decide (z.length<y.length)||decide (Xe z<Xe y))
 . cases hff:(xh z y 0 z.length<|z.length+1).isEmpty;refine lK Fw (tR _ _ _) Mm (Mt _ _) (meets_str_split_sep z y t t2 h1 hy hff (D6 B1 f7) hn) ?_;rw[strsFrom_eq];exact fin (numbered s.toks _) _<|(numbered_texts _ _).trans ((B2<|ne_true_of_eq_false h1).trans<|B2<|ne_true_of_eq_false hff).symm;exact lK Fw (tR _ _ _) Mm (Mt _ _) (meets_str_split_not_found z y t t2 h1 hy hff)<|fin [(z,t)] s.toks ((B2<|ne_true_of_eq_false h1).trans<|A6 hff).symm
 exact lK Fw (tR _ _ _) Mm (Mt _ _) (meets_str_split_cannot_occur z y t t2 h1)<|fin [(z,t)] s.toks (A6 h1).symm
noncomputable def dJ:f9->List f9->Option PV
 |f6 z,[f6 y]=>if (y.length==0)=U'/\z.length<=100000 then U (.own<|(jJ z y).map f6)else J
 |_,_=>J
def Qf{pv:PV}(h:dJ b5 j6=U pv):∃z,b5=f6 z:=by
 unfold dJ at h;split at h;exact⟨_,rfl⟩;cases h
set_option tactic.hygienic true in
def a3b:LB K (λx xs H Q=>∃z y,x=.str z/\xs=[.str y]/\(y.length==0)=U'/\z.length<=100000/\∀p,H p=J->Q (.ref p) (upd H p<|.lst<|(jJ z y).map V.str)) dJ:=by
 intro O va H z xs ds pv Q D hx hf q;unfold dJ at hf;split at hf
 . rename_i z' y e;cases e;split at hf;rename_i hp;cases hf;obtain⟨x,rfl,h⟩:=hx.inv1;cases h;exact⟨z,y,rfl,rfl,hp.1,hp.2,λp hp=>q _ _ (C8.new hp)<|qA hp<|CI _⟩;cases hf
 cases hf
def Lk:cA X (E8 "str") (λxs H Q=>∃z,xs=[.str z]/\Q (.str z) H):=by intro pins s σ H xs us Q I r h;obtain⟨z,rfl,q⟩:=h;obtain⟨u,rfl,t,rfl⟩:=vals1 r;exact PySem.P.str_of_str ⟨.str _,H,I,⟨_,rfl⟩,q⟩
noncomputable def AL:List f9->Option PV
 | [f6 z]=>U<|.dat<|f6 z
 |_=>J
def a5M:nG K (λxs H Q=>∃z,xs=[.str z]/\Q (.str z) H) AL:=by
 intro O va H xs ds pv Q D hx hf q;unfold AL at hf;split at hf;cases hf;obtain⟨x,rfl,h⟩:=hx.inv1;cases h;exact⟨_,rfl,q _ H (C8.refl H)<|Dt.str _⟩;cases hf
def a9a(X:Cx)(r:V->Option Int->Option Int->Option Int->Hp->VK->Prop):Prop:=
 ∀(pins:List<|Addr×Obj) (s:C5) (σ:St) (H:Hp) (x:V) (v vl vu vs:A1) (lo hi st:Option Int) (sl:Addr) (Q:VK),Inv X pins σ H s->RelV x v->s.heap.IsSliceOf sl vl vu vs->fU vl lo->fU vu hi->fU vs st->r x lo hi st H Q ->
  ∃T id,typeLookup (E8 T) "__getitem__" = pure (U<|P5 id)/\s.TypeIs v T/\wpAny (model X.prog X.w) X.A (qL v<|A5 sl) (EP X pins σ Q) X.xe s
def a6h(r:V->Option Int->Option Int->Option Int->Hp->VK->Prop)(te:TE)(tl th ts:TO):TE:=λσ H Q=>te σ H λx H1=>tl σ H1 λl H2=>th σ H2 λu H3=>ts σ H3 λk H4=>r x l u k H4 Q
def TM{hi:Option Expr}{tl th ts:TO}{r:V->Option Int->Option Int->Option Int->Hp->VK->Prop}(hr:a9a X r)(he:PE X e G)(hl:PO X m3 tl)(hu:PO X hi th)(hst:PO X (U o) ts):PE X (mf e (Fz m3 hi (U o) g) p)<|a6h r G tl th ts:=by
 intro pins s σ H Q I h;refine Subscript_<|M8 (he pins s σ H _ I h) λv s1 ⟨x,H1,I1,r1,q1⟩=>?_;refine wpAny_Slice<|M8 (hl pins s1 σ H1 _ I1 q1) λvl s2 ⟨l,H2,I2,pl,q2⟩=>M8 (hu pins s2 σ H2 _ I2 q2) λvu s3 ⟨u,H3,I3,pu,q3⟩=>M8 (hst pins s3 σ H3 _ I3 q3) λvs s4 ⟨k,H4,I4,ps,q4⟩=>?_;have I5:Inv X pins σ H4 {s4 with heap:=s4.heap.push {cls:=E8 "slice",data:=O3 #[vl,vu,vs]}}:=I4.kept λb ob q=>L0 _ q;obtain⟨T,id,hT,ht,hg⟩:=hr pins {s4 with heap:=s4.heap.push {cls:=E8 "slice",data:=O3 #[vl,vu,vs]}} σ H4 x v vl vu vs l u k s4.heap.objs.size Q I5 r1 (WX ..) pl pu ps q4;exact tail_any ht hT hg (by with_unfolding_all rfl)
def a7d{b c d e f:A1}:Et #[u,b,c,d,e,f] (U 0) J (U 2) = #[u,c,e]:=by with_unfolding_all rfl
def a7c{b c d e f:A1}:Et #[u,b,c,d,e,f] (U 1) J (U 2) = #[b,d,f]:=by with_unfolding_all rfl
noncomputable def six{α:Type}(l:List α)(lo hi st:Option Int):Option<|List α:=if hi=J/\st=U 2 then match l with
 | [a,b,c,d,e,f]=>if lo=U 0 then U [a,c,e]else if lo=U 1 then U [b,d,f]else J
 |_=>J else J
def Zv(K:D4):V->Option Int->Option Int->Option Int->Hp->VK->Prop:=λx lo hi st H Q=>∃a xs ys,x=.ref a/\X6 K H a xs/\six xs lo hi st=U ys/\∀p,H p=J->Q (.ref p) (upd H p<|.lst ys)
def a6s:a9a X<|Zv X.K:=by
 intro pins s σ H x v vl vu vs lo hi st sl Q I rx hs pl pu ps h;obtain⟨a,xs,ys,rfl,hx,h6,q⟩:=h;cases rx;obtain⟨its,r,ht,hz⟩:=I.list hx;refine⟨"list",_,slot_list_getitem.lookup,ht.isList.typeIs,?_⟩;unfold six at h6;obtain⟨⟨rfl,rfl⟩,g⟩:=P8 h6;split at g
 . cases r with|cons r1 r=>cases r with|cons r2 r=>cases r with|cons r3 r=>cases r with|cons r4 r=>cases r with|cons r5 r=>cases r with|cons r6 r=>
   cases r;split at g
   . rename_i e0;subst e0;cases g;refine MS ht.isList hs pl pu ps (by decide) ?_ (show 6<=G7 by decide);rw[a7d];refine⟨.ref s.heap.objs.size,_,I.laid (λb ob q=>L0 _ q) (N7 _) ?_,rfl,q _<|I.H9.fresh<|N7 _⟩;exact⟨show 3<=G7 by decide,_,0,N8 r1<|N8 r3<|N8 r5 P1,ae _ rfl⟩
   . obtain⟨e1,k⟩:=P8 g;subst e1;cases k;refine MS ht.isList hs pl pu ps (by decide) ?_ (show 6<=G7 by decide);rw[a7c];refine⟨.ref s.heap.objs.size,_,I.laid (λb ob q=>L0 _ q) (N7 _) ?_,rfl,q _<|I.H9.fresh<|N7 _⟩;exact⟨show 3<=G7 by decide,_,0,N8 r2<|N8 r4<|N8 r6 P1,ae _ rfl⟩
 cases g
def yK:f9->Option Int->Option Int->Option Int->Option PV
 |B8 l,lo,hi,st=>(six l lo hi st).bind λm=>U<|.own m
 |_,_,_,_=>J
def a3B{xs:List V}{m:List f9}{hi st:Option Int}(h:N2 K a xs j6)(e:six j6 l9 hi st=U m):∃ys,six xs l9 hi st=U ys/\N2 K a ys m:=by
 unfold six at e;obtain⟨⟨rfl,rfl⟩,g⟩:=P8 e;split at g
 . cases h with|cons h1 h=>cases h with|cons h2 h=>cases h with|cons h3 h=>cases h with|cons h4 h=>cases h with|cons h5 h=>cases h with|cons h6 h=>
   cases h;split at g;rename_i z;cases g;exact⟨_,(A6 ⟨rfl,rfl⟩).trans<|A6 z,.cons h1<|.cons h3<|.cons h5 .nil⟩;rename_i z;obtain⟨z1,k⟩:=P8 g;cases k;exact⟨_,(A6 ⟨rfl,rfl⟩).trans<|(B2 z).trans<|A6 z1,.cons h2<|.cons h4<|.cons h6 .nil⟩
 cases g
def R4X(K:D4)(r:V->Option Int->Option Int->Option Int->Hp->VK->Prop)(f:f9->Option Int->Option Int->Option Int->Option PV):Prop:=
 ∀(O:List Addr) (va:As) (H:Hp) (x:V) (lo hi st:Option Int) (d:f9) (pv:PV) (Q:VK),uH H va O->Dt K (K1 H va O) x d->f d lo hi st=U pv->(∀v H',C8 H H'->RX K O va H H' v pv->Q v H')->r x lo hi st H Q
set_option tactic.hygienic true in
def a9q:R4X K (Zv K) yK:=by
 intro O va H x lo hi st d pv Q D hx hf q;cases hx with
 |lst hs ht=>
  rename_i xs l;have hf':((six l lo hi st).bind λm=>U<|PV.own m)=U pv:=hf
  cases h1:six l lo hi st with
  |none=>rw[h1]at hf';cases hf'
  |some m=>
   rw[h1]at hf';cases hf';obtain⟨ys,e,hd⟩:=a3B ht h1;exact⟨_,_,ys,rfl,L1.seq hs,e,λp hp=>q _ _ (C8.new hp)<|qA hp hd⟩
 |_=>cases hf
noncomputable def zj(f:f9->Option Int->Option Int->Option Int->Option PV)(F:Ds->Option PV)(Fl Fh Fs:Ds->Option (Option Int)):Ds->Option PV:=λds=>(F ds).bind λx=>(Fl ds).bind λlo=>(Fh ds).bind λhi=>(Fs ds).bind λst=>f x.d lo hi st
def Tf{hi:Option Expr}{tl th ts:TO}{Fl Fh Fs:Ds->Option (Option Int)}(he:PX X b e G b6)(hl:Lx X m3 tl Fl)(hh:Lx X hi th Fh)(hst:Lx X (U o) ts Fs):
  PX X b (mf e (Fz m3 hi (U o) g) p) (a6h (Zv X.K) G tl th ts) (zj yK b6 Fl Fh Fs):=⟨TM a6s he.p hl.p hh.p hst.p,by
 intro O D8 as σ H ds pv Q S hf q;unfold zj at hf;cases h1:b6 ds with
 |none=>rw[h1]at hf;cases hf
 |some x=>
  cases h2:Fl ds with
  |none=>rw[h1,h2]at hf;cases hf
  |some l=>
   cases h3:Fh ds with
   |none=>rw[h1,h2,h3]at hf;cases hf
   |some h=>
    cases h4:Fs ds with
    |none=>rw[h1,h2,h3,h4]at hf;cases hf
    |some k=>
     rw[h1,h2,h3,h4]at hf;refine he.t O D8 as σ H ds x _ S h1 λv H1 e1 r1=>?_;refine hl.t O D8 as σ H1 ds l _ (S.grow e1) h2 λH2 e2=>?_;refine hh.t O D8 as σ H2 ds h _ ((S.grow e1).grow e2) h3 λH3 e3=>?_;refine hst.t O D8 as σ H3 ds k _ (((S.grow e1).grow e2).grow e3) h4 λH4 e4=>?_;refine a9q O (bU b as) H4 v l h k x.d pv Q ((((S.grow e1).grow e2).grow e3).grow e4).dm ((r1.grow<|(e2.trans e3).trans e4).dt S.dm) hf λw H5 e5 r5=>?_
     exact q w H5 ((((e1.trans e2).trans e3).trans e4).trans e5)<|r5.back<|((e1.trans e2).trans e3).trans e4⟩
noncomputable def QO(i:Nat)(ds:Ds):Nat:=match ds[i]? with
 |some (U<|.dat<|B8 l)=>l.length+1
 |_=>0
end
def QY(hfr:A.frames=U (b7::B))(hl:s.heap.FunFrames j (b7::B))(hf:b7.frame=U L)(he:jl f T h D s.heap)(M:∀h' T',s.heap.objs.size<=T'->(∀b o,b≠f->b≠T->b∉aY (b7::B)->s.heap.get? b=U o->h'.get? b=U o)->(∀b o,b∈aY (b7::B)->s.heap.get? b=U o->∃sl,h'.get? b=U {o with slots:=sl})->jl f T' h D h'->c8 () {s with heap:=h'}):
  wpAny R A (leaving b7<|A5 f) c8 Q s:=by exact C6<|HE hfr hl hf he M
section
variable{H:Hp}
def b0f:Passes (iR w y) (fD (iR w y) w y K S j N x c9 f u A B s H E) E:=by
 intro pins σ H1 s1 e s' I0 hq;obtain⟨ea,T1,C',dx,H',rfl,os,bare,un,H9,fl,h1,hT,hsz,hw⟩:=hq;have I1:=I0.IP os un H9 bare λb z=>absurd z (by simp);refine QY I1.ok.frames I1.stack rfl fl λh' T' hT' k1 k2 fl2=>?_
 have I2:=I1.flew h1 ⟨λ_ z=>(by cases z),λ_ z=>(by cases z),λ_ _ z=>(by cases z),λ_ z=>(by cases z)⟩ (λb hb=>by rw[mem_singleton.mp hb];exact hT) (λb hb=>by rw[mem_singleton.mp hb];exact(I0.above hsz))
  (λb o hb hc hnf q=>k1 b o hb (λz=>hc<|by simp[z]) hnf q) (λb o hb q=>k2 b o hb q) fl2.at
 have e0:upd H' ea (.ext<|ExcAt ea C' dx)=H':=by
  funext b
  by_cases hb:b=ea;subst hb;rw[K8,h1];rw[F9 hb]
 rw[e0]at I2;exact⟨ea,T',C',dx,H',rfl,I2.os,I2.bare,I2.base,I2.H9,fl2,h1,I1.H9.fresh hT',D6 I1.sz hT',hw⟩
end
noncomputable def mx(k:Str)(es:List<|Str×f9):Option f9:=(es.find? λe=>decide (e.1=k)).map (·.2)
noncomputable def Gs(es:List<|Str×f9)(k:Str)(d:f9):List<|Str×f9:=if (es.any λe=>decide (e.1=k))=Uf then es.map (λe=>if e.1=k then(e.1,d)else e)else es++[(k,d)]
theorem kL.length(h:kL K a i7 d6):i7.length=d6.length:=ES h
def kL.val(h:kL K a i7 d6)(k:Str):(mx k d6=J/\mH i7 (O6 k)=J)\/∃v d,mx k d6=U d/\mH i7 (O6 k)=U v/\Dt K a v d:=by
 induction h with
 |nil=>exact B3 ⟨rfl,rfl⟩
 | @cons p q ps qs h t ih=>
  by_cases c:q.1=k
  . have c':=h.1.trans (by rw[c]);exact B6 ⟨p.2,q.2,by simp[mx,c],xp c',h.2⟩
  . have c':=λz=>c (EG<|h.1.symm.trans z)
    have e1:mx k (q::qs)=mx k qs:=by simp[mx,c]
    rw[e1,xq c'];exact ih
theorem kL.any{K:D4}{Hv:Hp}{kvs:List (Key×V)}{es:List (Str×f9)}(h:kL K Hv kvs es)(k:Str):(kvs.any λe=>decide (e.1=O6 k))=es.any λe=>decide (e.1=k):=by
 induction h with
 |nil=>rfl
 | @cons p q ps qs h t ih=>
  rw[oA,oA,ih]
  congr 1
  rw[uj,h.1];exact⟨λz=>EG z,λz=>by rw[z]⟩
def kL.Jv(h:kL K a i7 d6)(k:Str)(hv:Dt K a b8 b5):kL K a (i7.map λe=>if e.1=O6 k then(e.1,b8)else e)<|d6.map λe=>if e.1=k then(e.1,b5)else e:=by
 induction h with
 |nil=>exact P1
 | @cons p q ps qs h t ih=>
  rw[K3,K3];refine N8 ?_ ih;by_cases c:q.1=k
  . rw[A6 c,A6<|h.1.trans<|by rw[c]];exact⟨h.1,hv⟩
  . rw[B2 c,B2<|λz=>c<|EG<|h.1.symm.trans z];exact h
def kL.put(h:kL K a i7 d6)(k:Str)(hv:Dt K a b8 b5):kL K a (putK i7 (O6 k) b8)<|Gs d6 k b5:=by
 unfold putK Gs;rw[h.any k];split;exact h.Jv k hv;exact LI h ⟨rfl,hv⟩
structure PD(X:Cx)(i:Nat)(o:Expr)(td:TE)(dec:OD->Option (List<|Str×f9))(enc:OD->List (Str×f9)->OD):Prop where
 p:PE X o td
 t:∀{O:List Addr}{D8:Hp}{as:As}{σ:St}{H:Hp}{ds:Ds}{w:Option Addr}{c:OD}{es:List (Str×f9)}{Q:VK},DS X.K O D8 as σ H ds->ds[i]?=U (U<|.ob w c)->dec c=U es ->
  (∀a kvs,H a=U (.dK kvs)->kL X.K (K1 H as O) kvs es ->
   (∀{H2:Hp}{kvs':List (Key×V)}{es':List (Str×f9)},DS X.K O D8 as σ H2 ds->C8 H H2->(∀{Hv':Hp},C8 (K1 H2 as O) Hv'->kL X.K Hv' kvs' es')->DS X.K O D8 as σ (upd H2 a<|.dK kvs') (ds.set i<|U<|.ob w<|enc c es'))->Q (.ref a) H)->td σ H Q
noncomputable def b1O:OD->Option (List<|Str×f9)
 | .dct es=>U es
 |_=>J
noncomputable def encD:OD->List (Str×f9)->OD:=λ_ es=>.dct es
def JL(h:PE X o<|S7 i):PD X i o (S7 i) b1O encD:=⟨h,by
 intro O D8 as σ H ds w c es Q S hd he q;cases c with
 |dct es0=>
  cases he;obtain⟨v,R,e1,e2,e3,kvs,rfl,k1,k2⟩:=S.slot i _ hd;refine⟨_,e1,q v kvs k1 k2 λ{H2 kvs' es'} S2 s k=>?_⟩;obtain⟨rg,m,n,g⟩:=S2.mX;obtain⟨v',R',z1,z2,z3,kvs2,rfl,z4,z5⟩:=g i _ hd;rw[e1]at z1;cases z1;exact S2.Iv (u:=Cl.d kvs') hd m n g (z3 _ K9) λsm=>⟨v,[v],e1,z2,z3,kvs',rfl,K8,k sm⟩
 |ins _ _=>cases he
 |seq _ _=>cases he⟩
def CJ(nm f:Str):OD->Option (List<|Str×f9)
 | .ins n fs=>if n=nm then(dS f fs).bind dctP else J
 |_=>J
def Lf(f:Str):OD->List (Str×f9)->OD
 | .ins n fs,es=>.ins n<|mN f (.dct es) fs
 |c,_=>c
def JM(T:qa X.K x L)(n:jE X.K L m)(h:PE X o<|S7 i)(hb:autoParam (Nf X o m) B7):PD X i (Q0 o m p) (YU X.K (S7 i) m) (CJ x m)<|Lf m:=⟨TN h hb,by
 intro O D8 as σ H ds w c es Q S hd he q;cases c with
 |dct _=>cases he
 |seq _ _=>cases he
 |ins n0 fs=>
  obtain⟨rfl,he'⟩:=P8 he;obtain⟨C,he,e⟩:=A9 he';have e:=a1k e;subst e;obtain⟨v,R,e1,e2,e3,C',dx,fv,R',rfl,c1,c2,c3⟩:=S.slot i _ hd;have ec:=T.eq c1;subst ec;obtain⟨f,Rf,l1,l2,l3,l4⟩:=c3.look he;cases l2 with
  |dct k1 k2=>
   refine⟨_,e1,v,C',dx,fv,_,rfl,c2,T.cl,n,l1,q _ _ k1 k2 λ{H2 kvs' es'} S2 s k=>?_⟩
   exact S2.a9F (u:=Cl.d kvs') hd he e1 (s _ _ c2) l1 (λd z=>by cases z) λsm=>.dct K8<|k sm⟩
noncomputable def yF:f9->Option Str
 |f6 s=>U s
 |_=>J
theorem Dt.yF{K:D4}{H:Hp}{y:V}{d:f9}{s:Str}(h:Dt K H y d)(e:L2.yF d=U s):y=kV (O6 s):=by
 cases h with
 |str x=>cases e;rfl
 |_=>cases e
noncomputable def JR(i:Nat)(dec:OD->Option (List<|Str×f9))(ds:Ds):Option<|(Option Addr×OD)×List (Str×f9):=match ds[i]? with
 |some (U<|.ob w c)=>(dec c).bind λes=>U ((w,c),es)
 |_=>J
set_option tactic.hygienic true in
def Ci{c:OD}(h:JR i i8 d8=U ((d9,c),d6)):d8[i]?=U (U<|.ob d9 c)/\i8 c=U d6:=by
 unfold JR at h;split at h;rename_i w0 c0 hd;obtain⟨es0,e,h⟩:=A9 h;cases h;exact⟨hd,e⟩;cases h
def Eh(i:Nat)(dec:OD->Option (List<|Str×f9))(Fk:Ds->Option PV):Ds->Option PV:=λds=>(JR i dec ds).bind λp=>(Fk ds).bind λk=>(yF k.d).bind λs=>U<|.dat<|(mx s p.2).getD F3
def Bh(i:Nat)(dec:OD->Option (List<|Str×f9))(Fk Fd:Ds->Option PV):Ds->Option PV:=λds=>(JR i dec ds).bind λp=>(Fk ds).bind λk=>(Fd ds).bind λd=>(yF k.d).bind λs=>U<|.dat<|(mx s p.2).getD d.d
def DZ(i:Nat)(dec:OD->Option (List<|Str×f9))(enc:OD->List (Str×f9)->OD)(Fk Fv:Ds->Option PV):Ds->Option Out:=λds=>(JR i dec ds).bind λp=>(Fv ds).bind λv=>(Fk ds).bind λk=>(yF k.d).bind λs=>if p.2.length<100000 then U (.next<|ds.set i<|U<|.ob p.1.1<|enc p.1.2<|Gs p.2 s v.d)else J
def ZD(hu:X.A.units+1<aQ)(P:PD X i o G i8 j7)(hk:PX X b e Y b6)(m:M1 X o "get" p e g):PX X b (L8 (Q0 o "get" p) [e] [] g) (Ss G Y)<|Eh i i8 b6:=⟨a0i hu P.p hk.p m,by
 intro O D8 as σ H ds pv Q S hf q;obtain⟨⟨⟨w,c⟩,es⟩,h1,hf⟩:=A9 hf;obtain⟨k,h2,hf⟩:=A9 hf;obtain⟨s,h3,hf⟩:=A9 hf;cases hf;obtain⟨hd,he⟩:=Ci h1;refine P.t S hd he λa kvs k1 k2 tn=>?_;refine⟨a,rfl,B3 ⟨kvs,B3 k1⟩,hk.t O D8 as σ H ds k _ S h2 λy H1 s1 r1=>?_⟩
 have ey:=(r1.dt S.dm).yF h3;subst ey;refine⟨mH kvs<|O6 s,AF.k<|s1 _ _ k1,?_⟩;rcases k2.val s with ⟨l1,l2⟩|⟨w,d,l1,l2,l3⟩
 rw[l2];rw[l1]at q;exact q _ H1 s1 .non
 . rw[l2];rw[l1]at q;exact q _ H1 s1<|l3.same<|Bc.trans<|Z1 s1⟩
def Tg{f:Expr}{tx:TE}{Fd:Ds->Option PV}(hu:X.A.units+1<aQ)(P:PD X i o G i8 j7)(hk:PX X b e Y b6)(hx:PX X b f tx Fd)(m:M2 X o "get" p e f g):PX X b (L8 (Q0 o "get" p) [e,f] [] g) (Sr G Y tx)<|Bh i i8 b6 Fd:=⟨a0h hu P.p hk.p hx.p m,by
 intro O D8 as σ H ds pv Q S hf q;obtain⟨⟨⟨w,c⟩,es⟩,h1,hf⟩:=A9 hf;obtain⟨k,h2,hf⟩:=A9 hf;obtain⟨x,h4,hf⟩:=A9 hf;obtain⟨s,h3,hf⟩:=A9 hf;cases hf;obtain⟨hd,he⟩:=Ci h1;refine P.t S hd he λa kvs k1 k2 tn=>?_;refine⟨a,rfl,B3 ⟨kvs,B3 k1⟩,hk.t O D8 as σ H ds k _ S h2 λy H1 s1 r1=>?_⟩;have ey:=(r1.dt S.dm).yF h3;subst ey;refine hx.t O D8 as σ H1 ds x _ (S.grow s1) h4 λz H2 s2 r2=>?_
 refine⟨mH kvs<|O6 s,AF.k<|s2 _ _<|s1 _ _ k1,?_⟩;rcases k2.val s with ⟨l1,l2⟩|⟨w,d,l1,l2,l3⟩
 rw[l2];rw[l1]at q;exact q _ H2 (s1.trans s2)<|r2.dt (S.grow s1).dm
 . rw[l2];rw[l1]at q;exact q _ H2 (s1.trans s2)<|l3.same<|Bc.trans<|Z1<|s1.trans s2⟩
def Tu{Fv:Ds->Option PV}{value:Expr}{tv:TE}(hu:X.A.units+1<aQ)(P:PD X i o G i8 j7)(hk:PX X Uf e Y b6)(hv:PX X Uf value tv Fv)(hs:autoParam (ak value (U<|mf o e g) p.line X.env=pure U') B7):V3 X (gB [mf o e g] value p) (a2h G Y tv)<|DZ i i8 j7 b6 Fv:=⟨a4l hu P.p hk.p hv.p hs,by
 intro O D8 as σ H ds D o' S hf q;obtain⟨⟨⟨w,c⟩,es⟩,h1,hf⟩:=A9 hf;obtain⟨x,h4,hf⟩:=A9 hf;obtain⟨k,h2,hf⟩:=A9 hf;obtain⟨s,h3,hf⟩:=A9 hf;split at hf
 . rename_i hl;cases hf;obtain⟨hd,he⟩:=Ci h1;refine hv.t O D8 as σ H ds x _ S h4 λz H1 s1 r1=>?_;have S1:=S.grow s1;refine P.t S1 hd he λa kvs k1 k2 tn=>?_;refine hk.t O D8 as σ H1 ds k _ S1 h2 λy H2 s2 r2=>?_
   have ey:=(r2.dt S1.dm).yF h3;subst ey;have hl':kvs.length<G7:=by rw[k2.length,eX];have:es.length<100000:=hl;exact D6 B1 f7
   refine⟨a,_,rfl,Na.k (s2 _ _ k1) hl',?_⟩;refine q as σ _<|tn (S1.grow s2) s2 λ{Hv'} sm=>kL.put (k2.same<|(Z1 s2).trans sm) s ?_;exact(r1.dt S.dm).same ((Z1 s2).trans sm)
 . cases hf⟩
noncomputable def Eg:Ds->Option PV:=λ_=>U<|.ob J<|.dct []
def ZC:PX X b (We [] [] p) Sq Eg:=⟨a0g,by intro O D8 as σ H ds pv Q S hf q;cases hf;exact λc hp=>q _ _ (C8.new hp) ⟨c,[c],rfl,B3 rfl,λa z=>by rw[mem_singleton.mp z];exact hp,[],rfl,K8,P1⟩⟩
section
variable{H:Hp}
def a0U{T' dx:Addr}(σ:jY X.K f L T x)(hgc:Gl X m)(hmc:X.mg m=U (A5 f))(hN:X.N.Nodup)(hj:X.N[i]?=U I)(hn:X.env.scope.names.lookup I=U aX)(hs:∀h,pw (X.marked h) (e8::i9) j1)(I2:Inv X l d H s)(a2:X.ag.heap.objs.size<=T'/\T'≠X.env.locals/\(∀D c,X.env.cells.lookup D=U c->c≠T')/\∀n∈X.pn++l,n.1≠T')(nT':H T'=J)(fl2:jl h T' f dx s.heap)(ht:j1 (xW i j8) (d.set i<|U<|.ref h) H)(hdb:autoParam ((m==("__debug__" : Str))=U') aj):
  wpAny (model X.prog X.w) X.A (zF (A5 h) X.env (xj (U<|G9 m p) (U I) (e8::i9) g::j0)) (SP X l j8) X.xe s:=by
 have I3:=I2.marked h;obtain⟨nm,qn,N,bs,sn,sub,ab,col,dd,c0,c1,c2,c3,c5,hC,_,_⟩:=σ.cls;refine My (MJ<|show wpAny (model (X.marked h).prog (X.marked h).w) (X.marked h).A (eval (G9 m p) (X.marked h).env) _ _ _ from nk I3 hgc hmc ?_ hdb) (by intro q;cases q);obtain⟨vs,q1⟩:=fl2.at;refine Yg (I2.bI _ _ hC) q1 rfl (by simp[bG]) ?_;refine Yf ?_;obtain⟨us,oT,ts,g1,g2,g3,g4,g5,g6⟩:=fl2;refine ME g1 rfl g2 g4 g5 (Array.getElem?_eq_some_iff.mp g6).1 ?_;have I4:=I3.turned (h':=s.heap.update T'<|eY (·.setIfInBounds 3 .none)) (t':=s.toks) (λb o hb q=>by rw[af _ _<|P9 hb];exact q) nT' a2.2.1 (B6 a2.1) a2.2.2.1 a2.2.2.2;refine sG (X:=X.marked h) I4 hN hj (B3 hn) (v:=.ref h) rfl (λs5 I5=>?_)<|B6 hn;refine aT (hs h l s5 _ H (xW i j8) I5 ht) (λC s6 q=>?_) λ_ _ z=>X7 z
 have fin:∀{σ':St}{H3:Hp}{Q:Unit->C5->Prop},Inv (X.marked h) l σ' H3 s6->(∀s7,Inv X l (σ'.set i J) H3 s7->Q () s7)->wpAny (model X.prog X.w) X.A (do bindName X.env I F0;MF X.env I g) Q X.xe s6:=
  λ{σ' H3 Q} Jff k=>OU (Jff.unmarked I2.ok) hN hj hn k
 cases C with
 |next=>obtain⟨σ',H3,Jff,q⟩:=q;exact fin Jff λs7 J7=>⟨_,H3,J7,q⟩
 |brk=>obtain⟨σ',H3,Jff,q⟩:=q;exact fin Jff λs7 J7=>⟨_,H3,J7,q⟩
 |cont=>obtain⟨σ',H3,Jff,q⟩:=q;exact fin Jff λs7 J7=>⟨_,H3,J7,q⟩
 |ret u=>obtain⟨v,σ',H3,Jff,r,q⟩:=q;exact fin Jff λs7 J7=>⟨v,_,H3,J7,r,q⟩
def a5x{s':C5}(hst:X.stack=X.env::X.outer/\X.env.frame=U X.env.locals)(I0:Inv X l d H s)(hq:iR X.prog X.w X.stack H s E u s')(k:∀ea T' C dx H' s2,E (A5 ea) J H'->H' ea=U (.ext<|ExcAt ea C dx)->Inv X l d H' s2->(X.ag.heap.objs.size<=T'/\T'≠X.env.locals/\(∀x c,X.env.cells.lookup x=U c->c≠T')/\∀p∈X.pn++l,p.1≠T')->H' T'=J->jl ea T' C dx s2.heap->wpAny (model X.prog X.w) X.A (zF (A5 ea) X.env j0) (SP X l j8) X.xe s2):
  wpAny (model X.prog X.w) X.A (oq u X.env) (λ_ s₂=>wpAny (model X.prog X.w) X.A (zJ u J) (λ_ s₃=>wpAny (model X.prog X.w) X.A (zF u X.env j0) (SP X l j8) X.xe s₃) X.xe s₂) X.xe s':=by
 obtain⟨ea,T1,C',dx,H',rfl,os,bare,un,H9,fl,h1,hT,hsz,hw⟩:=hq;have I1:=I0.IP os un H9 bare λb z=>absurd z (by simp);have hl:=I1.stack;have hfr:=I1.ok.frames;rw[hst.1]at hl hfr;refine HE hfr hl hst.2 fl λh' T' hT' k1 k2 fl2=>?_
 have I2:=I1.flew h1 ⟨λ_ z=>(by cases z),λ_ z=>(by cases z),λ_ _ z=>(by cases z),λ_ z=>(by cases z)⟩ (λb hb=>by rw[mem_singleton.mp hb];exact hT) (λb hb=>by rw[mem_singleton.mp hb];exact(I0.above hsz))
  (λb o hb hc hnf q=>k1 b o hb (λz=>hc<|by simp[z]) (by rw[<-hst.1];exact hnf) q) (λb o hb q=>k2 b o (by rw[<-hst.1];exact hb) q) fl2.at
 have e0:upd H' ea (.ext<|ExcAt ea C' dx)=H':=by
  funext b
  by_cases hb:b=ea;subst hb;rw[K8,h1];rw[F9 hb]
 rw[e0]at I2;exact k ea T' C' dx H' _ hw h1 I2 (I1.above hT') (I1.H9.fresh hT') fl2
end
def Im:entryFor table "proto.unchain" = U Builtin.«proto.unchain»:=entryFor_of_fast xY
def IZ{E:A1->C5->Prop}(hH:s.heap.get? h=U j3)(dh:j3.data=O3 b9)(v2:b9[2]?=U F0)(k:Q F0 s):
  wpAny (model w y) A (runValue<|uu "proto.unchain" ⟨[A5 f,A5 h,A5 h,cy U'],[]⟩) Q E s:=by refine wpAny_runValue<|codeAny_builtin Im ?_;refine C6<|Z3 hH dh v2 ?_;exact G8 k
def Nr{α:Type}{oe:Obj}{us:Array A1}{P:α->C5->Prop}(hh:A.handled=U (A5 h))(ne:h≠f)(hH:s.heap.get? h=U j3)(dh:j3.data=O3 b9)(v2:b9[2]?=U F0)(he:s.heap.get? f=U oe)(de:oe.data=O3 us)(hz:2<us.size)(k:Q (A5 f) {s with heap:=s.heap.update f (eY (·.setIfInBounds 2 (A5 h)))}):wpAny (model w y) A (raiseNew (A5 f):Sem α) P Q s:=by
 refine C6<|wpAny_handled ?_;rw[hh];simp only[(bne_iff_ne.mpr λz=>ne<|Value.ref.inj z)];refine C6<|ue<|IZ hH dh v2 ?_;refine C6 ?_;exact oC he de hz<|wpAny_throw k
def b0P(h e C dx:Addr)(hp:Heap):Prop:=∃t,hp.get? e=U {cls:=A5 C,dict:=U dx,data:=O3 #[A5 t,F0,A5 h,F0,cy Uf,F0]}
def Qq{nm qn:Str}{C N:Addr}{bs tl sub:List A1}{hd ab:Bool}{sn:List Str}{col:Option Bool}{dd:Option Addr}{k0 k1 k2 k3 k5:Option A1}{nid:String}{x c:Sem A1} (hb:tl.contains (E8 "BaseException")=Uf) (hh:A.handled=U (A5 h)) (hc:∀(s:C5) (m6:A1->C5->Prop),m6 F0 s->wpAny (model w y) A c m6 Q s) (hx:wpAny (model w y) A x (λv s1=>∃e dx oh vs,v=A5 e/\s1.heap.get? C=U (lN nm qn C N bs tl hd sn sub ab col dd k0 k1 k2 k3 k5 nid)/\C ≠ e/\X5 e C (U dx) s1.heap/\h ≠ e/\s1.heap.get? h=U oh/\oh.data=O3 vs/\vs[2]?=U F0 /\
   ∀h',(∀b,b≠e->h'.get? b=s1.heap.get? b)->h'.objs.size=s1.heap.objs.size->b0P h e C dx h'->Q (A5 e) {s1 with heap:=h'}) Q s):wpAny (model w y) A (raiseStmt b7 (U x)<|U c) m6 Q s:=by
 have cB:(X2 C::tl).contains (E8 "BaseException")=Uf:=by rw[FJ,hb,tW]
 refine C6<|aT hx (λv s1 q=>?_) λ_ _ z=>z
 obtain⟨e,dx,oh,vs,rfl,hC,nC,⟨t,he⟩,ne,hH,dh,v2,k⟩:=q;obtain⟨hp,gs,dr,tk,os⟩:=s1;refine C6<|ue<|hc _ _<|C6<|G8 ?_;repeat (first|with_reducible refine jU he ?_|with_reducible refine jU hC ?_|(with_reducible refine Ap hC ?_;rw[cB])|wp_step)
 have e1:=jV (eY (·.setIfInBounds 3 eV)) he rfl;have e2:=jV (eY (·.setIfInBounds 4 (zN Uf))) e1 rfl;have e3:=jV (eY (·.setIfInBounds 2 (X2 h))) e2 rfl;refine Nr hh ne ?_ dh v2 e2 rfl (by simp) (k _ (λb hb=>?_) (by simp) ⟨t,e3⟩)
 . show((hp.update e _).update e _).get? h=_;rw[af _ _<|P9 ne,af _ _<|P9 ne];exact hH
 rw[af _ _<|P9 hb,af _ _<|P9 hb,af _ _<|P9 hb]
inductive mB(c:Option A1)(m:A1)(e T C dx:Addr)(h:Heap):Prop
 |mk:∀vs oT ts,(h.get? e=U {cls:=A5 C,dict:=U dx,data:=O3 vs})->(vs[1]?=U (A5 T))->(T≠e)->(h.get? T=U oT)->(oT.data=O3 ts)->(ts[3]?=U m)->(vs[2]?=c)->mB c m e T C dx h
def mB.IK(x:mB e9 F0 f T L h j):jl f T L h j:=let ⟨vs,oT,ts,a1,a2,a3,a4,a5,a6,_⟩:=x;⟨vs,oT,ts,a1,a2,a3,a4,a5,a6⟩
def vx(hfr:A.frames=U (b7::B))(hl:s.heap.FunFrames j (b7::B))(hf:b7.frame=U L)(he:s.heap.get? f=U {cls:=A5 T,dict:=U h,data:=O3 b9})(hz:1<b9.size)(E:∀h' M,s.heap.objs.size<=M->(∀e o,e≠f->e∉aY (b7::B)->s.heap.get? e=U o->h'.get? e=U o)->(∀e o,e∈aY (b7::B)->s.heap.get? e=U o->∃sl,h'.get? e=U {o with slots:=sl})->mB b9[2]? (eT L) f M T h h'->c8 () {s with heap:=h'}):
  wpAny R A (do let a <- frameOf b7;let pl <- entryPlaceOf L b;let e <- Xh u a F0 (eT L) F0 pl;setField (A5 f) 1 e) c8 Q s:=by
 have ene:f∉aY (b7::B):=λhm=>by obtain⟨_,o,ho,hnf⟩:=hl.mem hm;rw[he]at ho;injection ho with ho;subst ho;exact hnf b9 rfl
 refine C6<|wpAny_frameOf_fun hfr hl hf λg1 q1=>C6<|wpAny_entryPlaceOf λpl hpl=>?_;refine C6<|oJ ?_<|hpl.sizeOk5 _ _ _ _ _;generalize ho:({cls:=E8 "traceback",dict:=J,data:=O3 ([u,A5 L,F0,eT L,F0]++(if pl.isEmpty then S9 6 eV else pl)).toArray}:Obj)=oT
 have dT:oT.data=O3 ([u,A5 L,F0,eT L,F0]++(if pl.isEmpty then S9 6 eV else pl)).toArray:=by rw[<-ho]
 have e1:=(q1.2.1 f ene).trans he;have e2:=L0 oT e1;have hT2:=ae g1<|Av dT;have hTe:=gS<|L6 e1;have e3:=jV (eY (·.setIfInBounds 1 (X2 g1.objs.size))) e2 rfl;have hT3:=(af (g1.push oT) (eY (·.setIfInBounds 1 (X2 g1.objs.size)))<|P9 hTe).trans hT2;refine oC e2 rfl hz (E _ g1.objs.size (by rw[q1.1];exact N7 _) (λe o hb hn q=>?_) (λe o hb q=>?_) ⟨_,_,_,e3,by simp[hz],hTe,hT3,dT,by rfl,by simp⟩);have q2:=(q1.2.1 e hn).trans q;rw[af _ _<|P9 hb];exact L0 _ q2
 . obtain⟨sl,q2⟩:=q1.2.2 e o q;have hb':e≠f:=λz=>ene<|z▸hb;refine⟨sl,?_⟩;rw[af _ _<|P9 hb'];exact L0 _ q2
def rK{m:A1}(hN:mB e9 u f T L h s.heap)(hm:d9.elim eV (λM=>eT M)=m)(E:∀h',h'.objs.size=s.heap.objs.size->(∀b,b≠T->h'.get? b=s.heap.get? b)->mB e9 m f T L h h'->c8 () {s with heap:=h'}):
  wpAny R A (zJ (A5 f) d9) c8 Q s:=by
 obtain⟨vs,oT,ts,he,h1,hTe,hT,hdT,h3,h2⟩:=hN;have s3:=(Array.getElem?_eq_some_iff.mp h3).1;refine C6<|Z3 he rfl h1 ?_;rw[A6 (show(X2 T != eV)=Uf by rfl),hm];refine oC hT hdT s3 (E _ (by simp) (λb hb=>af _ _<|P9 hb) ⟨vs,_,_,(af _ _ hTe).trans he,h1,hTe,jV _ hT<|Av<|wV hdT _,wV hdT _,?_,h2⟩);rw[Yt,A6 s3]
def Su{A':X1}{Qx:A1->Unit->C5->Prop}{E'x:A1->A1->C5->Prop}(hfr:A'.frames=U (b7::B))(hl:s.heap.FunFrames j (b7::B))(hf:b7.frame=U L)(he:s.heap.get? f=U {cls:=A5 T,dict:=U h,data:=O3 b9})(h1:b9[1]?=U F0)(e:∀h' M,s.heap.objs.size<=M->(∀b o,b≠f->b∉aY (b7::B)->s.heap.get? b=U o->h'.get? b=U o)->(∀b o,b∈aY (b7::B)->s.heap.get? b=U o->∃sl,h'.get? b=U {o with slots:=sl})->mB b9[2]? F0 f M T h h'->Qx (A5 f) () {s with heap:=h'}):
  jG R A' b7 (λx s2=>cameBackBy R A b7 (λx s3=>wpAny R A (leaving b7 x) (Qx x) (E'x x) s3) x s2) (A5 f) s:=by
 have hz:=(Array.getElem?_eq_some_iff.mp h1).1;unfold jG oq;simp only[hf];refine C6<|Z3 he rfl h1 ?_;refine vx hfr hl hf he hz λh' M hT k1 k2 hN=>?_
 obtain⟨vs',oT,ts,g1,g2,g3,g4,g5,g6,_⟩:=id hN;have tb:∀b o,s.heap.get? b=U o->b≠M:=λb o q z=>by have:=L6 q;rw[z]at this;exact absurd this<|Nat.not_lt.mpr hT
 refine C6<|Z3 g1 rfl g2 ?_;refine rK (m:=eT L) hN (by rw[hf];rfl) λh2 z1 z2 hN2=>?_;unfold leaving oq;simp only[hf];obtain⟨vs2,oT2,ts2,y1,y2,y3,y4,y5,y6,_⟩:=id hN2;refine C6<|C6<|Z3 y1 rfl y2 ?_;refine C6<|Z3 y4 y5 y6 ?_;rw[A6<|wO _];refine G8 ?_;refine rK hN2 rfl λh3 x1 x2 hF=>?_;refine e h3 M hT (λb o hb hn q=>?_) (λb o hb q=>?_) hF;rw[x2 b<|tb b o q,z2 b<|tb b o q];exact k1 b o hb hn q;obtain⟨sl,q2⟩:=k2 b o hb q;exact⟨sl,by rw[x2 b<|tb b o q,z2 b<|tb b o q];exact q2⟩
def Kl(hfr:A.frames=U (b7::B))(hl:s.heap.FunFrames j (b7::B))(hf:b7.frame=U L)(he:s.heap.get? f=U {cls:=A5 T,dict:=U h,data:=O3 b9})(h1:b9[1]?=U F0)(E:∀h' M,s.heap.objs.size<=M->(∀b o,b≠f->b∉aY (b7::B)->s.heap.get? b=U o->h'.get? b=U o)->(∀b o,b∈aY (b7::B)->s.heap.get? b=U o->∃sl,h'.get? b=U {o with slots:=sl})->mB b9[2]? F0 f M T h h'->c8 () {s with heap:=h'}):
  wpAny R A (leaving b7<|A5 f) c8 Q s:=by
 have hz:=(Array.getElem?_eq_some_iff.mp h1).1;unfold leaving oq;simp only[hf];refine C6<|C6<|Z3 he rfl h1 ?_;refine vx hfr hl hf he hz λh' M hT k1 k2 hN=>?_
 have tb:∀b o,s.heap.get? b=U o->b≠M:=λb o q z=>by have:=L6 q;rw[z]at this;exact absurd this<|Nat.not_lt.mpr hT
 refine rK hN rfl λh3 x1 x2 hF=>?_;refine E h3 M hT (λb o hb hn q=>?_) (λb o hb q=>?_) hF;rw[x2 b<|tb b o q];exact k1 b o hb hn q;obtain⟨sl,q2⟩:=k2 b o hb q;exact⟨sl,by rw[x2 b<|tb b o q];exact q2⟩
inductive uI(P:S6)(w:N6)(outer:List Env)(H:Hp)(s:C5)(E:XK)(e:A1)(s':C5):Prop
 |mk:∀ea T C dx H',(e=A5 ea)->(s'.os=s.os)->(jH s'.gens)->(Un (aY outer) [] H H' s.heap s'.heap)->(dQ P w H' s'.heap)->(mB (U F0) F0 ea T C dx s'.heap)->(H' ea=U (.ext<|ExcAt ea C dx))->(H' T=J)->(s.heap.objs.size<=T)->(E (A5 ea) J H')->(H ea=J)->uI P w outer H s E e s'
section
variable{H:Hp}
def RR{s1:C5}(I:Inv (fD (uI w y) w y K S j N x c9 f u A B s H E) l d a s1)(he:a L=U (.ext<|X5 L T<|U h))(hn:H L=J)(hE:E (A5 L) J<|upd a L<|.ext<|ExcAt L T h):
  (fD (uI w y) w y K S j N x c9 f u A B s H E).xe (A5 L) s1:=by
 obtain⟨t,Dw⟩:=(I.H9 L _ he).1;refine Kl I.ok.frames I.stack rfl Dw rfl λh' P hT k1 k2 fl=>?_;have Jff:=I.flew (ch:=[]) he ⟨λ_ z=>(by cases z),λ_ z=>(by cases z),λ_ _ z=>(by cases z),λ_ z=>(by cases z)⟩ (λb hb=>absurd hb<|by simp) (λb hb=>absurd hb<|by simp) (λb o hb _ hn q=>k1 b o hb hn q) (λb o hb q=>k2 b o hb q) fl.IK.at
 have hTa:upd a L (.ext<|ExcAt L T h) P=J:=by
  have n1:=I.H9.fresh hT;have n2:P≠L:=λz=>by rw[z,he]at n1;cases n1
  rw[F9 n2];exact n1
 exact⟨L,P,T,h,_,rfl,Jff.os,Jff.bare,Jff.base,Jff.H9,fl,K8,hTa,D6 I.sz hT,hE,hn⟩
end
def gf.b1F{ps:List Str}{G:Ds->Option Out} (F:gf K x m e8 f k) (P:fF N ps<|K0 e8) (hN:ps.length<=N.length) (hbody:∀(cdv:A1) (A:X1) (outer:List Env) (s:C5) (H:Hp) (E:XK),aG i (A.deeper<|bq m (K0 e8) s.heap.objs.size f cdv) ->
   ∃t,iq (fD (uI w y) w y K S j N m (K0 e8) f cdv A outer s H E) (aM e8) t G):Y6 w y K S j (uI w y) (i+1) f k ps<|Hj K<|fnX ps.length N.length G:=by
 have ln:∀vs H Q E,Hj K (fnX ps.length N.length G) vs H Q E->vs.length=ps.length:=λvs H Q E h=>by
  obtain⟨O,ds,pv,h1,h2,h3,h4⟩:=h;unfold fnX at h3;split at h3;rename_i hl;rw[h2.length];exact hl;cases h3
 obtain⟨oc,od,kV,doc,pm,an,cdv,ct,osl,rfl,lk,hcd⟩:=F.ex;refine Rp lk hcd P ln λA outer s H vs Q E hr h=>?_;obtain⟨O,ds,a,h1,h2,h3,h4⟩:=h;obtain⟨t,ht⟩:=hbody cdv A outer s H E hr;refine⟨t,ht.p,?_⟩;unfold fnX at h3;split at h3
 . rename_i hl;rw[<-hl]at h3;cases e1:G (iY ds++S9 (N.length-ds.length) J)with
   |none=>rw[e1]at h3;cases h3
   |some o=>
    rw[e1]at h3;refine ht.t O H _ (L2.start N vs) H _ _ o (DS.start h1 h2) e1 ?_;cases o with
    |next ds'=>cases h3;exact λas σ H' S'=>h4 _ H' S'.same Dt.non
    |ret pv'=>cases h3;exact λv H' s r=>h4 v H' s r
    |brk ds'=>cases h3
    |cont ds'=>cases h3
    |retO pv ds'=>cases h3
    |upO t x ds'=>cases h3
    |up x=>
     cases h3;intro ea H1 sm n0 ⟨C,dx,fld,v,d,hx,hC,hnf,q1,q2,q3,hd⟩ pins σ s1 I;subst hx;have hde:dx≠ea:=λz=>by rw[z,q1]at q2;cases q2
     have eaO:ea∉O:=λz=>by obtain⟨u,z⟩:=h1 ea z;rw[n0]at z;cases z
     refine RR I q1 n0 (h4 ea _ (λb u z=>?_)<|.exc hC hnf (V7.mpr ⟨eaO,by simp,K8⟩) (V7.mpr ⟨q3,by simp,by rw[F9 hde];exact q2⟩)<|hd.same<|eN λb u z1 z2 z3=>⟨λz=>z1<|G6 _ z,by trivial,?_⟩);rw[F9<|T9 z n0];exact sm b u z;rw[F9 λz=>z1 (by rw[z];exact K9)];exact z3
 cases h3
def QK(hfr:A.frames=U (b7::B))(hl:s.heap.FunFrames j (b7::B))(hf:b7.frame=U L)(he:mB e9 F0 f T h D s.heap)(M:∀h' T',s.heap.objs.size<=T'->(∀b o,b≠f->b≠T->b∉aY (b7::B)->s.heap.get? b=U o->h'.get? b=U o)->(∀b o,b∈aY (b7::B)->s.heap.get? b=U o->∃sl,h'.get? b=U {o with slots:=sl})->mB e9 F0 f T' h D h'->c8 () {s with heap:=h'}):
  wpAny R A (oq (A5 f) b7) (λ_ s'=>wpAny R A (zJ (A5 f) J) c8 Q s') Q s:=by
 obtain⟨vs,oT,ts,he,h1,hTe,hT,hdT,h3,h2⟩:=he;have s1:=(Array.getElem?_eq_some_iff.mp h1).1;have s3:=(Array.getElem?_eq_some_iff.mp h3).1;unfold oq;simp only[hf];refine C6<|Z3 he rfl h1 ?_;refine C6<|Z3 hT hdT h3 ?_;refine C6<|oC hT hdT s3 ?_;have oth:∀b,b≠T->(s.heap.update T<|eY (·.setIfInBounds 3 eV)).get? b=s.heap.get? b:=λb hb=>af _ _<|P9 hb
 have noT:T∉aY (b7::B):=λhm=>by obtain⟨_,o,ho,hnf⟩:=hl.mem hm;rw[hT]at ho;injection ho with ho;subst ho;exact hnf ts hdT
 have noR:∀b o,s.heap.get? b=U o->(∀us,o.data≠O3 us)->b≠T:=λb o q hnf z=>by rw[z,hT]at q;injection q with q;subst q;exact hnf ts hdT
 have sz:(s.heap.update T<|eY (·.setIfInBounds 3 eV)).objs.size=s.heap.objs.size:=by simp[Heap.update]
 refine vx hfr (hl.of_keeps λb o q hnf=>⟨o,(oth b<|noR b o q hnf).trans q,rfl⟩) hf ((oth f<|P9 hTe).trans he) s1
  λh' T' hT' k1 k2 fl=>?_
 have hT2:s.heap.objs.size<=T':=by rw[<-sz];exact hT'
 have tb:∀b o,s.heap.get? b=U o->b≠T':=λb o q z=>by have:=L6 q;rw[z]at this;exact absurd this<|Nat.not_lt.mpr hT2
 rw[h2]at fl;refine rK fl rfl λh3 x1 x2 hF=>?_;refine M h3 T' hT2 (λb o hb hbT hn q=>?_) (λb o hb q=>?_) hF;rw[x2 b<|tb b o q];exact k1 b o hb hn<|(oth b hbT).trans q
 . obtain⟨sl,q2⟩:=k2 b o hb<|(oth b<|λz=>noT<|z▸hb).trans q;exact⟨sl,by rw[x2 b<|tb b o q];exact q2⟩
noncomputable def del(H:Hp)(a:Addr):Hp:=λb=>if b=a then J else H b
def Lg:del a f f=J:=A6 rfl
def tE(h:L≠f):del a f L=a L:=B2 h
theorem C8.del{H':Hp}(h:C8 a H')(n:a f=J):C8 a<|L2.del H' f:=λb o z=>by
 rw[tE (λc=>by rw[c,n]at z;cases z)];exact h b o z
section
variable{H:Hp}
def Inv.gone(I:Inv X l d H s)(he:H f=U (.ext m7)):Inv X l d (del H f) s:=by
 refine I.call (ch:=[]) ⟨λb o q n hb hc=>q,λb o q n hb hc=>⟨_,q⟩,λb o q n hc=>?_,λb o q hc=>⟨_,q⟩,λb xs q=>?_,λb o u q=>?_,λb ps q=>?_⟩ (λb u q=>?_) I.bare λb hb=>absurd hb (by simp)
 . unfold del;split;rfl;exact n
 rw[tE λz=>by rw[z,he]at q;cases q];exact q;rw[tE λz=>by rw[z,he]at q;cases q];exact q;rw[tE λz=>by rw[z,he]at q;cases q];exact⟨#[],by rw[q];rfl⟩
 . have hb:b≠f:=λz=>by rw[z,Lg]at q;cases q
   rw[tE hb]at q;refine(I.H9 b u q).sH (λc v hc r=>r) (λc q2=>?_) (λc xs q2=>?_);rw[tE λz=>by rw[z,he]at q2;cases q2];exact q2;rw[tE λz=>by rw[z,he]at q2;cases q2];exact q2
def Inv.b1E(I:Inv X l d H s)(he:H f=U (.ext m7))(ho:s.heap.get? f=U j3)(hd:j3.data=O3 b9)(hf:f∉X.fs):Inv X ((f,j3)::l) d (del H f) s:=by
 have Jff:=I.gone he;refine⟨Jff.ok,Jff.os,Jff.bare,Jff.base,Jff.loc,Jff.cell,Jff.free,Jff.fm,λp hp=>?_,Jff.H9,Jff.len⟩
 rcases List.mem_append.mp hp with hp|hp
 exact Jff.pin p<|fw _ hp
 . rcases List.mem_cons.mp hp with rfl|hp
   exact⟨ho,Lg,(λz=>by rw[show f=X.env.locals from z,I.free]at he;cases he),hf,λv z=>by rw[hd]at z;cases z⟩;exact Jff.pin p<|S5 _ hp
def Inv.a5Z{p:Addr×Obj}(I:Inv X (p::l) d H s):Inv X l d H s:=
 ⟨I.ok,I.os,I.bare,I.base,I.loc,I.cell,I.free,I.fm,λq hq=>I.pin q (by
  rcases List.mem_append.mp hq with hq|hq
  exact fw _ hq
  . exact S5 _<|G6 _ hq),I.H9,I.len⟩
end
section
variable{H:Hp}
def Rm{s1:C5}{CS fi1 fi2 dx:Addr}{cn:Str}{q4:Pos}(T1:jY K h CS fi1 m)(T2:jY K D CS fi2 I)(hgc:Gl (fD (iR w y) w y K S j N x c9 f u A B s H E) cn)(hmc:S cn=U (A5 h))(I2:Inv (fD (iR w y) w y K S j N x c9 f u A B s H E) l d a s1)(h1:a L=U (.ext<|ExcAt L h dx))(a2:s.heap.objs.size<=T/\T≠(bq x c9 s.heap.objs.size f u).locals/\(∀σ c,(bq x c9 s.heap.objs.size f u).cells.lookup σ=U c->c≠T)/\∀k∈[]++l,k.1≠T)(nT':a T=J)(fl2:mB (U F0) F0 L T h dx s1.heap)(hfs:L∉aY B)(he2:PE ((fD (iR w y) w y K S j N x c9 f u A B s H E).marked L) e<|G)(ht:G d (del a L) λP H3=>∃ea dx2,P=.ref ea/\H3 ea=U (.ext<|X5 ea D<|U dx2)/\E (A5 ea) J (upd H3 ea<|.ext<|ExcAt ea D dx2))(hdb:autoParam ((cn==("__debug__" : Str))=U') aj):
  wpAny (model w y) (A.deeper<|bq x c9 s.heap.objs.size f u) (zF (A5 L) (bq x c9 s.heap.objs.size f u) (xj (U<|G9 cn p) J [wM (U e) (U<|jk Ag i q4) z] g::j0)) m6 (fD (iR w y) w y K S j N x c9 f u A B s H E).xe s1:=by
 have I3:=I2.marked L;obtain⟨nm,qn,Nn,bs,sn,sub,ab,col,dd,c0,c1,c2,c3,c5,hC,_,_⟩:=T1.cls;obtain⟨nm',qn',Nn',bs',sn',sub',ab',col',dd',c0',c1',c2',c3',c5',hC',_,_⟩:=T2.cls;obtain⟨us,oT,ts,g1,g2,g3,g4,g5,g6,g7⟩:=fl2;refine My (MJ<|show wpAny (model w y) ((fD (iR w y) w y K S j N x c9 f u A B s H E).marked L).A (eval (G9 cn p) ((fD (iR w y) w y K S j N x c9 f u A B s H E).marked L).env) _ _ _ from nk I3 hgc hmc ?_ hdb) (by intro q;cases q);refine Yg (I2.bI _ _ hC) g1 rfl (by simp[bG]) ?_;refine codeAny_handlers_suite ?_;refine ME g1 rfl g2 g4 g5 (Array.getElem?_eq_some_iff.mp g6).1 ?_;have I4:=I3.turned (h':=s1.heap.update T<|eY (·.setIfInBounds 3 .none)) (t':=s1.toks) (λb o hb q=>by rw[af _ _<|P9 hb];exact q) nT' a2.2.1 (B6 a2.1) a2.2.2.1 a2.2.2.2;have I5:=I4.b1E h1 ((af _ _ g3).trans g1) rfl hfs;refine Af ?_;refine C6 (ub<|Qq (C:=D) (nm:=nm') (qn:=qn') (N:=Nn') (bs:=bs') (tl:=A5 CS::bG) (hd:=Uf) (sn:=sn') (sub:=sub') (ab:=ab') (col:=col') (dd:=dd') (k0:=c0') (k1:=c1') (k2:=c2') (k3:=c3') (k5:=c5') (nid:="ValueError.__new__") (by simp[bG]) rfl (λs m6 hq=>C6<|Constant_none<|C6<|ub<|G8 hq) ?_);refine C6<|aT (he2 _ _ d _ _ I5 ht) (λv s3 ⟨P,H3,I6,ry,ea,dx2,ey,k1,hE⟩=>C6<|ub<|G8 ?_) λr s n=>X7 n
 subst ey;obtain rfl:=ry;obtain⟨p1,p2,_⟩:=I6.pin (L,_)<|S5 _ K9;have hne:L≠ea:=λn=>by rw[n,k1]at p2;cases p2
 have Dw:=(I6.H9 ea _ k1).1;have I7:=(I6.a5Z).unmarked I2.ok;refine⟨ea,dx2,_,us,rfl,I6.bI _ _ hC',λn=>?_,Dw,hne,p1,rfl,g7,λh' kb ks ⟨t,q⟩=>?_⟩;have:=(I7.bs D _<|I7.ok.mod.yZ D _ hC').2;rw[n,k1]at this;cases this
 . have J7:=I7.stack;have nfr:∀b o,s3.heap.get? b=U o->(∀us,o.data≠O3 us)->b≠ea:=λb o z1 z2 z3=>by
    obtain⟨t',z4⟩:=Dw;rw[z3,z4]at z1;injection z1 with z1
    subst z1;exact z2 _ rfl
   have efr:ea∉aY (bq x c9 s.heap.objs.size f u::B):=λhm=>by have:=I7.vH ea hm;rw[k1]at this;cases this
   refine Su I6.ok.frames (J7.of_keeps λb o z1 z2=>⟨o,(kb b<|nfr b o z1 z2).trans z1,rfl⟩) rfl q rfl λh2 Q hT m1 m2 fl=>?_;have Jff:=I7.flew (ch:=[]) k1 ⟨λ_ n=>(by cases n),λ_ n=>(by cases n),λ_ _ n=>(by cases n),λ_ n=>(by cases n)⟩ (λb hb=>absurd hb<|by simp) (λb hb=>absurd hb<|by simp) (λb o hb _ hn n=>m1 b o hb hn<|(kb b hb).trans n) (λb o hb n=>m2 b o hb<|(kb b<|λc=>efr<|c▸hb).trans n) fl.IK.at
   have hT3:s3.heap.objs.size<=Q:=by rw[<-ks];exact hT
   have hTa:upd H3 ea (.ext<|ExcAt ea D dx2) Q=J:=by
    have n1:=I7.H9.fresh hT3;have n2:Q≠ea:=λn=>by rw[n,k1]at n1;cases n1
    rw[F9 n2];exact n1
   exact⟨ea,Q,D,dx2,_,rfl,Jff.os,Jff.bare,Jff.base,Jff.H9,fl.IK,K8,hTa,D6 I7.sz hT3,hE⟩
end
def Pc(I:Inv X l d a s)(h1:a f=U (.ext<|ExcAt f L h))(h2:a f=U (.ext<|ExcAt f T D)):L=T:=by
 obtain⟨vs,q1⟩:=(I.H9 f _ h1).1;obtain⟨vs',q2⟩:=(I.H9 f _ h2).1;rw[q1]at q2;injection q2 with q2
 injection q2 with q2
 injection q2
noncomputable def Cx.quiet(X:Cx):Cx:={X with xe:=λ_ _=>False}
theorem Cx.Ok.quiet(ok:X.Ok):X.quiet.Ok:=
 ⟨ok.mod,ok.kind,ok.glob,ok.blt,ok.above,ok.inj,ok.has,ok.HY,ok.hd,ok.frames,ok.Ji,ok.Pb,ok.bs,ok.uV,ok.xJ,ok.zo,ok.mQ,ok.BI⟩
def Inv.a3q(I:Inv X l d a s):Inv X.quiet l d a s:=⟨I.ok.quiet,I.os,I.bare,I.base,I.loc,I.cell,I.free,I.fm,I.pin,I.H9,I.len⟩
def Inv.loud(I:Inv X.quiet l d a s)(ok:X.Ok):Inv X l d a s:=⟨ok,I.os,I.bare,I.base,I.loc,I.cell,I.free,I.fm,I.pin,I.H9,I.len⟩
def Vx(C1 C2:Addr)(tx:TE)(E:XK)(σ:St)(H1:Hp):XK:=λev _ H2=>∀ha,ev=A5 ha->H1 ha=J->∃dx,H2 ha=U (.ext<|ExcAt ha C1 dx)/\tx σ (del H2 ha) λy H3=>∃ea dx2,y=.ref ea/\H3 ea=U (.ext<|X5 ea C2<|U dx2)/\E (A5 ea) J (upd H3 ea<|.ext<|ExcAt ea C2 dx2)
def PY(C1 C2:Addr)(i:Nat)(sp:Sp)(t:TA)(tx:TE)(E:XK):TS:=λD σ H=>t σ H λvs H1=>sp vs H1 (λv H2=>D.nx (σ.set i<|U v) H2)<|Vx C1 C2 tx E σ H1
section
variable{H:Hp}
def a4j{fi1 fi2:Addr}{fld2 P cn:Str}{ps:List Str}{sp:Sp}{p3 p4 p5 q3 q4 pos:Pos}{ck:Nat}(hX:X=fD (iR w y) w y K S j N m c9 L u A B s H E)(F:Y6 w y K S j (uI w y) n f k ps sp)(hr:aG n X.A)(hg:Gl X x)(hm:X.mg x=U (A5 f))(hk:dC K (A5 f)=Uf)(hb:Binds K k ps [])(ha:PA X.quiet (e::q) t)(T1:jY K T D fi1 I)(T2:jY K h D fi2 fld2)(hgc:Gl X cn)(hmc:X.mg cn=U (A5 T))(hN:X.N.Nodup)(hi:X.N[i]?=U P)(hy:Loc X.env.scope P)(he2:∀ha,PE (X.marked ha) o<|G)(hdb:autoParam ((x==("__debug__" : Str))=U') aj)(hdc:autoParam ((cn==("__debug__" : Str))=U') aj)(he:autoParam (O7 (e::q) X.env=(U',eval e X.env)::O7 q X.env) B7)(hpl:autoParam ((bP pos<|O7 q X.env).any (·.1)=U') B7)(hsw:autoParam (ak (L8 (G9 x p) (e::q) [] pos) (U<|G9 P g) z.line X.env=pure U') B7)(hf:autoParam (X.fn P=Uf\/X.env.scope.names.lookup P=U aX) gQ):
  PS X (LZ [gB [G9 P g] (L8 (G9 x p) (e::q) [] pos) z] [xj (U<|G9 cn p3) J [wM (U o) (U<|jk Ag ck q4) q3] p4] [] [] p5) (PY T h i sp t G E):=by
 subst hX;intro pins s0 σ H0 d l c;refine wpAny_Try_except<|Af<|wpAny_Assign_Name (uq<|nk l hg hm ?_ hdb) hsw;refine uo l.ok.mod.yZ hk (aT (ha pos pins s0 σ H0 _ l.a3q c) (λus s1 ⟨vs,H1,J1,r,M⟩=>?_) λe s O=>X7 O) he hpl
 have I1:=J1.loud l.ok;refine⟨I1.bI,?_⟩;have hl:us.length=ps.length:=by rw[<-r.length];exact F.len _ _ _ _ M
 have hbd:=hb s1 us I1.bI (by rw[bA];exact hl);rw[bA]at hbd;refine tS<|tX (F.run _ _ s1 H1 ⟨us,[]⟩ us vs _ _ hr I1.Ld hbd r M) λr s' hq=>?_
 cases r with
 |error e=>
  obtain⟨ha,T',C',dx,H',rfl,os,bare,un,H9,fl,h1,hT,hsz,hw,hn⟩:=(show uI w y _ H1 s1 (Vx T h G E σ H1) e s' from hq);obtain⟨dx',h2,ht⟩:=hw ha rfl hn;have I2:=I1.IP os un H9 bare λb O=>absurd O (by simp);obtain rfl:=Pc I2 h1 h2;refine QK I2.ok.frames I2.stack rfl fl λh' T2' hT' k1 k2 fl2=>?_
  have I3:=I2.flew h1 ⟨λ_ O=>(by cases O),λ_ O=>(by cases O),λ_ _ O=>(by cases O),λ_ O=>(by cases O)⟩ (λb hb=>by rw[mem_singleton.mp hb];exact hT) (λb hb=>by rw[mem_singleton.mp hb];exact(I1.above hsz))
   (λb C hb hc hnf M=>k1 b C hb (λO=>hc<|by simp[O]) hnf M) (λb C hb M=>k2 b C hb M) fl2.IK.at
  have e0:upd H' ha (.ext<|ExcAt ha C' dx)=H':=by
   funext b
   by_cases hb:b=ha;subst hb;rw[K8,h1];rw[F9 hb]
  rw[e0]at I3;refine Rm T1 T2 hgc hmc I3 h1 (I2.above hT') (I2.H9.fresh hT') fl2 (λO=>?_) (he2 ha) ht hdc
  have:=I2.vH ha (by
   show ha∈aY (bq m c9 s.heap.objs.size L u::B);unfold aY at O|-;rw[FP];split;exact O
   . exact G6 _ O)
  rw[h1]at this;cases this
 |ok fl=>
  cases fl with
  |ret a=>
   obtain⟨v,H2,I2,rv,q2⟩:=I1.after hq;exact sG I2 hN hi hy rv (λs3 I3=>qQ<|qQ ⟨_,H2,I3,q2⟩) hf
  |next=>exact X7 hq
  |brk=>exact X7 hq
  |cont=>exact X7 hq
end
inductive iS(P:V->Prop)(C:Addr)(fld:Str)(vs:List V)(H:Hp)(Q:VK)(E:XK):Prop
 |mk:∀ea v,(vs=[.ref ea,v])->(P v)->(H ea=U (.ext<|X5 ea C J))->(∀dx,H dx=J->dx≠ea->Q .non (upd (upd H ea<|.ext<|X5 ea C<|U dx) dx<|.xd [(fld,v)]))->iS P C fld vs H Q E
def Zm{fd:W4}{Q:VK}(C:jY X.K f L T x)(F:rN b X.prog X.w X.K X.mg X.base jm i T fd ["self",m]<|iS Z f x)(hr:dy b (i+1) X.A)(hb:Binds X.K fd ["self",m] [])(hP:Z b8)(I:Inv X l d a s)(r:RelV b8 u)(h:∀ea dx,a ea=J->a dx=J->dx≠ea->Q (.ref ea) (upd (upd a ea<|.ext<|X5 ea f<|U dx) dx<|.xd [(x,b8)])):
  wpAny (model X.prog X.w) X.A (call (A5 f) [u]) (EP X l d Q) X.xe s:=by
 obtain⟨nm,qn,N,bs,sn,sub,ab,col,dd,k0,k1,k2,k3,k5,hC,H9,hin⟩:=C.cls;obtain⟨oi,hoi,hfc⟩:=C.fn;obtain⟨hp,gs,dr,tk,os⟩:=s;have nsN:hp.Ns N<|hp.nsMap N:=PySem.Heap.Ns.of_isNs<|PySem.W.isNs_of_in I.bI H9;refine VI Yk (WQ I.bI C.tail) (I.bI _ _ hC) nsN (b0m I.bI nsN hin) (I.bI _ _ hoi) hfc (by rw[eX];simp) λh' e hm=>?_;obtain⟨t,ht,_,_⟩:=hm.there;obtain⟨hH,I2⟩:=I.b0v hm.keeps hm.new<|CB ⟨t,ht⟩;have r2:Vals [V.ref e,b8] [X2 e,u]:=N8 rfl<|N8 r P1;have sp:iS Z f x [.ref e,b8] (upd a e<|.ext<|X5 e f J) (λy H2=>y=.non/\Q (.ref e) H2) E0:=⟨e,b8,rfl,hP,K8,λdx hdx hne=>⟨rfl,by rw[a3n];rw[F9 hne]at hdx;exact h e dx hH hdx hne⟩⟩;refine tS<|tX (F.run _ X.stack _ _ ⟨[A5 e,u],[]⟩ [A5 e,u] _ _ E0 (hr.make f [u] []) (I2.Ld.make f [u] []) (hb _ [A5 e,u] I2.bI rfl) r2 sp) λr s' hq'=>?_
 cases r with
 |error e=>exact hq'.elim
 |ok fl=>
  cases fl with
  |ret u'=>
   obtain⟨y,H',I3,ry,ev,q3⟩:=I2.after hq';subst ev;exact⟨ry,⟨V.ref e,H',I3,rfl,q3⟩⟩
  |next=>exact X7 hq'
  |brk=>exact X7 hq'
  |cont=>exact X7 hq'
def AI(P:V->Prop)(C:Addr)(fld:Str)(t:TA):TE:=λσ H Q=>t σ H λvs H1=>∃v,vs=[v]/\P v/\∀ea dx,H1 ea=J->H1 dx=J->dx≠ea->Q (.ref ea) (upd (upd H1 ea<|.ext<|X5 ea C<|U dx) dx<|.xd [(fld,v)])
def Gw{fd:W4}(C:jY X.K f L T m)(F:rN b X.prog X.w X.K X.mg X.base jm i T fd ["self",I]<|iS Z f m)(hr:dy b (i+1) X.A)(hb:Binds X.K fd ["self",I] [])(hkp:dC X.K (A5 f)=Uf)(hg:Gl X x)(hm:X.mg x=U (A5 f))(ha:PA X [e] t)(hdb:autoParam ((x==("__debug__" : Str))=U') aj)(he:autoParam (O7 [e] X.env=(U',eval e X.env)::O7 [] X.env) B7)(hpl:autoParam ((bP g<|O7 [] X.env).any (·.1)=U') B7):PE X (L8 (G9 x p) [e] [] g)<|AI Z f m t:=by
 intro pins s σ H Q k h;refine uq<|nk k hg hm ?_ hdb;refine uo k.ok.mod.yZ hkp (M8 (ha g pins s σ H _ k h) λus s1 ⟨vs,H1,I1,r,v,ev,hP,q⟩=>⟨I1.bI,?_⟩) he hpl;subst ev;obtain⟨u,rfl,ru⟩:=vals1 r;exact Zm C F hr hb hP I1 ru q
def Hx{C:Addr}(T:jY X.K C f L x)(W:Addr->Addr->V->Hp->Prop)(hc:X.A.handled=J)(he:PE X e<|AI Z C x t)(hxe:∀pins σ H s ea dx v,Inv X pins σ H s->H ea=U (.ext<|X5 ea C<|U dx)->H dx=U (.xd [(x,v)])->W ea dx v H->X.xe (A5 ea) s):
  PS X (wM (U e) J p) (λ_ σ H=>AI Z C x t σ H λy H2=>∃ea dx v,y=.ref ea/\H2 ea=U (.ext<|X5 ea C<|U dx)/\H2 dx=U (.xd [(x,v)])/\W ea dx v H2):=by
 intro pins s σ H D I h;obtain⟨nm,qn,N,bs,sn,sub,ab,col,dd,k0,k1,k2,k3,k5,hC,_,_⟩:=T.cls;refine C6 (ub<|Tb (C:=C) (nm:=nm) (qn:=qn) (N:=N) (bs:=bs) (tl:=A5 f::bG) (hd:=Uf) (sn:=sn) (sub:=sub) (ab:=ab) (col:=col) (dd:=dd) (k0:=k0) (k1:=k1) (k2:=k2) (k3:=k3) (k5:=k5) (nid:="ValueError.__new__") (by simp[bG]) hc ?_);refine C6<|M8 (he pins s σ H _ I h) λv s1 ⟨y,H1,I1,ry,ea,dx,v',ey,h1,h2,hw⟩=>C6<|ub<|G8 ?_;subst ey;obtain rfl:=ry;exact⟨ea,U dx,rfl,I1.bI _ _ hC,(I1.H9 ea _ h1).1,hxe pins σ H1 s1 ea dx v' I1 h1 h2 hw⟩
def KN(pd:f9->Bool)(C:Addr)(fld:Str)(F:Ds->Option (List f9)):Ds->Option Out:=λds=>(F ds).bind λl=>match l with
 | [d]=>if pd d=Uf then U (.up<|dH C fld d)else J
 |_=>J
section
def NZ(P:V->Prop)(X:Cx)(C:Addr)(fld:Str)(ta:TA):TS:=λ_ σ H=>AI P C fld ta σ H λy H2=>∃ea dx v,y=.ref ea/\H2 ea=U (.ext<|X5 ea C<|U dx)/\H2 dx=U (.xd [(fld,v)])/\∀pins σ s,Inv X pins σ H2 s->X.xe (A5 ea) s
set_option tactic.hygienic true in
def Qz{fd:W4}{fr:Bool}(hPd:∀H v d,Dt X.K H v d->j4 d=Uf->Z v)(C:jY X.K f L T m)(TC:kW X.K f)(F:Y6 X.prog X.w X.K X.mg X.base jm i T fd ["self",I]<|iS Z f m)(hr:aG (i+1) X.A)(hb:Binds X.K fd ["self",I] [])(hkp:dC X.K (A5 f)=Uf)(hc:X.A.handled=J)(hg:Gl X x)(hm:X.mg x=U (A5 f))(ha:hV X fr [e] t k7)(hdb:autoParam ((x==("__debug__" : Str))=U') aj)(he:autoParam (O7 [e] X.env=(U',eval e X.env)::O7 [] X.env) B7)(hpl:autoParam ((bP z<|O7 [] X.env).any (·.1)=U') B7):
  V3 X (wM (U<|L8 (G9 x p) [e] [] z) J g) (NZ Z X f m t) (KN j4 f m k7):=by
 refine⟨Hx C (λea dx v H2=>∀pins σ s,Inv X pins σ H2 s->X.xe (A5 ea) s) hc (Gw C F hr hb hkp hg hm ha.p hdb he hpl) λpins σ H s ea dx v k _ _ w=>w pins σ s k,?_⟩
 intro O D8 as σ H ds D o S hf q;unfold KN at hf;cases h1:k7 ds with
 |none=>rw[h1]at hf;cases hf
 |some l=>
  rw[h1]at hf;simp only[P0]at hf;split at hf
  . rename_i d;split at hf
    . rename_i hpd;cases hf;refine ha.t O D8 as σ H ds [d] _ S h1 λvs H1 e1 r1=>?_;obtain⟨v,rfl,hv⟩:=r1.inv1;refine⟨v,rfl,hPd _ _ _ hv hpd,λea dx n1 n2 hne=>⟨ea,dx,v,rfl,?_,K8,?_⟩⟩;rw[F9<|P9 hne,K8]
      . have sm1:C8 H1<|upd (upd H1 ea<|.ext<|X5 ea f<|U dx) dx<|.xd [(m,v)]:=λb u P=>by rw[F9<|T9 P n2,F9<|T9 P n1];exact P
        have sm0:=S.same.trans e1;refine q ea _ (sm0.trans sm1) (sm0.free n1) ⟨f,dx,m,v,d,rfl,TC,C.nof,by rw[F9<|P9 hne,K8],K8,λP=>?_,hv.same<|eN λb u z1 z2 z3=>⟨λP=>?_,by simp,sm1 b u z3⟩⟩;obtain⟨u,P⟩:=S.gK dx P;rw[sm0.free n2]at P;cases P
        . rcases List.mem_cons.mp P with P|P
          rw[P,n1]at z3;cases z3;exact z1 P
    cases hf
  cases hf
end
def VR(v:V):Prop:=∃i:Int,v=.int i/\i.natAbs.log2<1920
noncomputable def yJ:f9->Bool
 |p6 i=>decide (i.natAbs.log2<1920)
 |_=>U'
def YZ(H:Hp)(v:V)(d:f9)(h:Dt K H v d)(e:yJ d=Uf):VR v:=by
 cases h with
 |int i=>exact⟨_,rfl,ff e⟩
 |_=>cases e
def b1B(i:Nat):TE:=λσ H Q=>∃n:Int,σ[i]?=U (U<|.int n)/\n.natAbs.log2<1920/\∀x:Str,Q (.str x) H
def Ej{qq2:Str}{bm bs2 bm2 sub sub2:List A1}{hdct2 ab ab2:Bool}{sn sn2:List Str}{col2:Option Bool}{dd2:Option Addr}{k1 k2 k3 k5 l0 l1 l2 l3 l5:Option A1}{newId2:String}{g:Array GenState}{d:Drawn}{os:OsState}{M:Bool->C5->Prop}(hC:j.get? f=U (lN x m f L m4 bm b sn sub ab m5 d9 e9 k1 k2 k3 k5 j9))(hB:j.get? T=U (lN I qq2 T h bs2 bm2 hdct2 sn2 sub2 ab2 col2 dd2 l0 l1 l2 l3 l5 newId2))(he:j.get? D=U j3)(hcls:j3.cls=A5 f)(hbase:bm2.contains (E8 "BaseException")=Uf)(hin:bm.contains (A5 T)=Uf)(hq:M Uf ⟨j,g,d,i,os⟩):wpAny R A (excMatches (A5 D)<|A5 T) M Q ⟨j,g,d,i,os⟩:=by
 have hcB:(X2 T::bm2).contains (E8 "BaseException")=Uf:=by rw[FJ,hbase,tW]
 have hcC:(X2 f::bm).contains (A5 T)=Uf:=by rw[FJ,hin,tW]
 have:=tc_notTuple;repeat (first|(with_reducible refine jU he ?_;rw[hcls])|with_reducible refine jU hB ?_|(with_reducible refine Ap hB ?_;rw[hcB])|(with_reducible refine Ap hC ?_;rw[hcC])|wp_step)
 exact hq
section
variable{H:Hp}
end
abbrev px:=List PV->Option ((PV ⊕ f9)×Ds)
variable{h8:px}
def xH(args:List PV)(t:Nat->Addr):Out->Option ((PV ⊕ f9)×Ds)
 | .retO pv ds=>U (S0 pv,T7 t 0 args ds)
 | .next ds=>U (S0<|.dat F3,T7 t 0 args ds)
 | .upO _ x ds=>U (O6 x,T7 t 0 args ds)
 |_=>J
def tA(n N:Nat)(G:DO):px:=λargs=>if args.length=n then
 (open Classical in if h:∃r,∀t,(G<|(jq t 0 args).map U++S9 (N-n) J).bind (xH args t)=U r then U h.choose else J)else J
def kj{args:List PV}(b:args.length=n)(h:∀t,(g8<|(jq t 0 args).map U++S9 (i-n) J).bind (xH args t)=U m8):tA n i g8 args=U m8:=by
 delta tA;rw[A6 b];have a:∃m8,∀t,(g8<|(jq t 0 args).map U++S9 (i-n) J).bind (xH args t)=U m8:=⟨m8,h⟩;rw[dif_pos a];have:=a.choose_spec λ_=>0;rw[h λ_=>0]at this;exact this.symm
def La{args:List PV}(h:tA n i g8 args=U m8):args.length=n/\∀t,(g8<|(jq t 0 args).map U++S9 (i-n) J).bind (xH args t)=U m8:=by
 unfold tA at h;split at h
 . rename_i a;split at h;rename_i b;cases h;exact⟨a,b.choose_spec⟩;exact nE h
 exact nE h
def a9m(K:D4)(O:List Addr)(D8:Hp)(σ:St)(ds':Ds)(Q:VK)(E:XK):PV ⊕ f9->Prop
 |S0 pv=>∀as' Hm H' v,DS K O D8 as' σ Hm ds'->C8 Hm H'->RX K O as' Hm H' v pv->Q v H'
 |O6 x=>∀as' Hm H' ea,DS K O D8 as' σ Hm ds'->C8 Hm H'->Dt K (K1 H' as' O) (.ref ea) x->E (A5 ea) J H'
inductive nL(K:D4)(f:px)(vs:List V)(H:Hp)(Q:VK)(E:XK):Prop
 |mk:∀(O:List Addr) (D8:Hp) (as:As) (args:List PV) (r:PV ⊕ f9) (ds':Ds),(DS K O D8 as (vs.map U) H<|args.map U)->(f args=U (r,ds'))->(a9m K O D8 (vs.map U) ds' Q E r)->nL K f vs H Q E
def gf.b1G{P:List Str} (F:gf K x m e8 f k) (M:fF N P<|K0 e8) (hN:P.length<=N.length) (u:∀(G:A1) (A:X1) (outer:List Env) (s:C5) (H:Hp) (E:XK),aG i (A.deeper<|bq m (K0 e8) (hz s) f G) ->
   ∃t,iq (fD (iR w y) w y K S j N m (K0 e8) f G A outer s H E) (aM e8) t g8):Y6 w y K S j (iR w y) (i+1) f k P<|nL K<|tA P.length N.length g8:=by
 have ln:∀g H Q E,nL K (tA P.length N.length g8) g H Q E->g.length=P.length:=λg H Q E h=>by obtain⟨O,d,as,q,r,Z,D,I,X⟩:=h;have:=D.ls;have hl:=(La I).1;simp at this;simp[*]
 obtain⟨oc,od,kV,doc,pm,an,cdv,ct,osl,rfl,lk,hcd⟩:=F.ex;refine Rp lk hcd M ln λA outer s H g Q E hr h=>?_
 obtain⟨O,d,as,q,r,Z,D,I,X⟩:=h;obtain⟨t,ht⟩:=u cdv A outer s H E hr;refine⟨t,ht.p,?_⟩;obtain⟨hl,I⟩:=La I;have W:=I λp=>addrOf g[p]?
 obtain⟨o,W,C⟩:=A9 W;have S1:=DS.Sw (N:=N) D;rw[hl]at S1;have:g.length=P.length:=by have:=D.ls;simp at this;simp[*]
 have L:∀a l T b,DS K O d a l T b->DS K O d a (g.map U) T (T7 (λp=>addrOf g[p]?) 0 q b):=λa l T b S2=>by
  refine S2.slots (by rw[mR,F4];simp[*]) λp pv hd=>?_;obtain⟨c,w0,c0,rfl,h4,h5⟩:=xO _ _ _ _ _ _ hd;refine⟨_,h5,λrg hs=>?_⟩
  obtain⟨v,R,z1,z2,z3,z4⟩:=hs;refine⟨v,R,?_,B3 rfl,z3,z4⟩;have n:addrOf g[0+p]?=v:=by
   rcases z2 with z|z
   exact nS z;exact dY z
  rw[zU]at n;obtain⟨v',_,B,_⟩:=D.slot p (.ob w0 c0) (by rw[aK,h4];rfl)
  rw[B];rw[aK]at B;cases e:g[p]? with
  |none=>rw[e]at B;exact nE B
  |some x=>
   rw[e]at B n;have y1':x=.ref v':=by simpa using B
   rw[y1']at n;have Y:v'=v:=n;rw[Y]
 refine ht.t O d as (L2.start N g) H _ _ o S1 W ?_;cases o with
 |next b=>cases C;exact λa l V S'=>X a V V _ (L _ _ _ _ S') (C8.refl _) Dt.non
 |retO pv' b=>cases C;exact λa l T V v S' s r=>X a T V v (L _ _ _ _ S') s r
 |ret pv'=>exact nE C
 |brk b=>exact nE C
 |cont b=>exact nE C
 |up x=>exact nE C
 |upO th x b=>
  cases C;cases th with
  |true=>exact λa l Hm H' ea S' sm dt=>X a Hm H' ea (L _ _ _ _ S') sm dt
  |false=>
   intro a l Hm H1 ea S' sm n0 ⟨C,dx,fld,v,d',hx,hC,hnf,q1,q2,q3,hd⟩ pins σ s1 Jff;subst hx;have hde:dx≠ea:=λz=>by rw[z,q1]at q2;cases q2
   have eaO:ea∉O:=λz=>by obtain⟨u,z⟩:=S'.gK ea z;have:=S'.same _ _ z;rw[n0]at this;cases this
   have eaA:U ea∉a:=λz=>by obtain⟨_,o,z⟩:=S'.new ea z;rw[n0]at z;cases z
   refine Yy Jff q1 (X a Hm _ ea (L _ _ _ _ S') (λb u z=>?_)<|.exc hC hnf (V7.mpr ⟨eaO,eaA,K8⟩) (V7.mpr ⟨(λz=>q3<|fw _ z),(λz=>q3<|S5 _<|List.mem_filterMap.mpr ⟨_,z,rfl⟩),by rw[F9 hde];exact q2⟩)<|hd.same<|eN λb u z1 z2 z3=>⟨λz=>z1<|G6 _<|fw _ z,λz=>z1<|G6 _<|S5 _<|List.mem_filterMap.mpr ⟨_,z,rfl⟩,?_⟩);rw[F9<|T9 z n0];exact sm b u z;rw[F9 λz=>z1 (by rw[z];exact K9)];exact z3
def mz(pd:f9->Bool)(C:Addr)(fld:Str)(F:DL):DO:=λds=>(F ds).bind λl=>match l with
 | [d]=>if pd d=Uf then U (.upO U' (dH C fld d) ds)else J
 |_=>J
section
set_option tactic.hygienic true in
def BA{fd:W4}(hPd:∀H v d,Dt X.K H v d->j4 d=Uf->Z v)(C:jY X.K f L T m)(TC:kW X.K f)(F:Y6 X.prog X.w X.K X.mg X.base jm i T fd ["self",I]<|iS Z f m)(hr:aG (i+1) X.A)(hb:Binds X.K fd ["self",I] [])(hkp:dC X.K (A5 f)=Uf)(hc:X.A.handled=J)(hg:Gl X x)(hm:X.mg x=U (A5 f))(ha:hV X Uf [e] t j5)(hdb:autoParam (jj x) B7)(he:autoParam (fS X e []) B7)(hpl:autoParam (lF X z []) B7):
  V3 X (wM (U<|L8 (G9 x p) [e] [] z) J g) (NZ Z X f m t) (mz j4 f m j5):=by
 refine⟨Hx C (λea dx v H2=>∀pins σ s,Inv X pins σ H2 s->X.xe (A5 ea) s) hc (Gw C F hr hb hkp hg hm ha.p hdb he hpl) λpins σ H s ea dx v k _ _ w=>w pins σ s k,?_⟩;intro O D8 as σ H ds D o S hf q;obtain⟨l,h1,hf⟩:=A9 hf;split at hf
 . rename_i d;obtain⟨hpd,hf⟩:=P8 hf;cases hf;refine ha.t O D8 as σ H ds [d] _ S h1 λvs H1 e1 r1=>?_;obtain⟨v,rfl,hv⟩:=r1.inv1;have S1:=S.grow e1;refine⟨v,rfl,hPd _ _ _ hv hpd,λea dx n1 n2 hne=>⟨ea,dx,v,rfl,?_,K8,?_⟩⟩;rw[F9<|P9 hne,K8]
   . have sm1:C8 H1<|upd (upd H1 ea<|.ext<|X5 ea f<|U dx) dx<|.xd [(m,v)]:=λb u c=>by rw[F9<|T9 c n2,F9<|T9 c n1];exact c
     refine q as σ H1 _ ea S1 sm1 n1 ⟨f,dx,m,v,d,rfl,TC,C.nof,by rw[F9<|P9 hne,K8],K8,λc=>?_,hv.same<|eN λb u z1 z2 z3=>⟨λc=>?_,by simp,sm1 b u z3⟩⟩
     . rcases List.mem_append.mp c with c|c
       obtain⟨u,c⟩:=S1.gK dx c;have:=S1.same _ _ c;rw[n2]at this;cases this;obtain⟨a,c,e⟩:=List.mem_filterMap.mp c;subst e;obtain⟨_,o,c⟩:=S1.new dx c;rw[n2]at c;cases c
     . rcases List.mem_cons.mp c with c|c
       rw[c,n1]at z3;cases z3
       . rcases List.mem_append.mp c with c|c
         exact z1 c;obtain⟨a,c,e⟩:=List.mem_filterMap.mp c;subst e;exact z2 c
 cases hf
end
def vZ(f:px)(Fl:Ds->Option (List AV)):Ds->Option ((PV ⊕ f9)×Ds):=λds=>(Fl ds).bind λl=>if (aB l).Nodup then(pR ds l).bind λargs=>(f args).bind λr=>U (r.1,mO l r.2 ds)else J
def nu(nm m:Str)(i:Nat)(f:px)(Fl:Ds->Option (List AV)):Ds->Option ((PV ⊕ f9)×Ds):=λds=>(yU nm i ds).bind λx=>match dS m x.2 with
 |none=>vZ f (ic i Fl) ds
 |some _=>J
def BX(T:qa X.K x f)(I:tO X q t i5){Y:As}{H:Hp}{ds':Ds}{r:PV ⊕ f9}{Q:VK}(S:DS X.K k8 a Y d H d8)(c:nu x m i h8 i5 d8=U (r,ds'))(C:a9m X.K k8 a d ds' Q E r):uK f m (nL X.K h8) [] E (S7 i) t d H Q:=by
 obtain⟨⟨w,fs⟩,W,c⟩:=A9 c;have n:=sT W;have b:=c;obtain⟨v,R,u,_,hR,C',dx,A,R',rfl,P,N,z⟩:=S.slot i _ n;have ec:=T.eq P;subst ec;cases hl:dS m fs with
 |some _=>simp_all
 |none=>
  rw[hl]at b;refine⟨_,u,v,dx,A,rfl,N,z.a7H hl,?_⟩;obtain⟨l,h,c⟩:=A9 b;unfold ic at h;rw[n]at h;obtain⟨L,g,O⟩:=A9 h;cases O;obtain⟨hn,c⟩:=P8 c;obtain⟨F,h2,c⟩:=A9 c;obtain⟨⟨e,y⟩,h3,c⟩:=A9 c;cases c;refine I.t k8 a Y d H d8 L _ S g λvs H1 D r1=>?_
  obtain⟨V,Hc,B,Sc,back⟩:=(S.grow D).a2N (.s u r1) h2 hn;rw[bA];refine⟨V,Hc,B,F,e,y,Sc,h3,?_⟩;cases e with
  |inl pv=>
   intro j p o v S' r M;obtain⟨k,Z,G⟩:=back j p y S';exact C k p o v Z r<|G o v pv r M
  |inr x=>
   intro j p o ea S' r M;obtain⟨k,Z,G⟩:=back j p y S';exact C k p o ea Z r<|G o (.ref ea) (.dat x) r M
noncomputable def rn(f:px):List PV->Option (PV×Ds):=λargs=>(f args).bind λr=>match r.1 with
 |S0 pv=>U (pv,r.2)
 |O6 _=>J
def a0P{ds':Ds}{pv:PV}(h:gJ x m i (rn h8) i5 d8=U (pv,ds')):nu x m i h8 i5 d8=U (S0 pv,ds'):=by
 unfold nu;obtain⟨f,e,h⟩:=A9 h;rw[e,P0];split at h
 . rename_i e2;try rw[e2]
   unfold vZ;obtain⟨l,e3,h⟩:=A9 h;obtain⟨hn,h⟩:=P8 h;obtain⟨a,e4,h⟩:=A9 h;obtain⟨⟨p,y⟩,e5,h⟩:=A9 h;cases h;obtain⟨⟨r,y'⟩,e6,h⟩:=A9 e5;rw[e3,P0,A6 hn,e4,P0,e6,P0];cases r with
   |inl pv=>cases h;rfl
   |inr f=>cases h
 cases h
def b0e:Passes (iR w y) X λ_ _ _=>False:=by intro pins σ H1 s1 e s' I0 hq;obtain⟨ea,T1,C',dx,H',rfl,os,bare,un,H9,fl,h1,hT,hsz,hw⟩:=hq;exact hw.elim
def Te{fd:W4}(T:qa X.K x L)(r:PE X o<|S7 i)(l:Meth X.K L m f)(G:Y6 X.prog X.w X.K X.mg X.base (iR X.prog X.w) n f fd N<|nL X.K h8)(k:aG n X.A)(C:Binds X.K fd N [])(c:tO X (e::q) t i5)(a:autoParam (fS X e q) B7)(b:autoParam (lF X p q) B7)(h:autoParam (Px X o m g (e::q) p l8) B7):
  BQ X (L8 (Q0 o m g) (e::q) [] p) (uK L m (nL X.K h8) [] (λ_ _ _=>False) (S7 i) t) (gJ x m i (rn h8) i5):=⟨Ot r T.cl l G k C P1 b0e c.p a b h,by exact λO N Y F H ds pv ds' Q S a C=>BX T c S (a0P a) λas' Hm H' v S' s R=>C as' Hm H' v S' s R⟩
def lx(nm m:Str)(i:Nat)(f:px)(Fl:Ds->Option (List AV)):DO:=λds=>(nu nm m i f Fl ds).bind λr=>match r.1 with
 |S0 pv=>U<|.retO pv r.2
 |O6 x=>U<|.upO Uf x r.2
def Tt{fd:W4}(P:Passes (iR X.prog X.w) X X.ek)(T:qa X.K x L)(r:PE X o<|S7 i)(l:Meth X.K L m f)(G:Y6 X.prog X.w X.K X.mg X.base (iR X.prog X.w) n f fd N<|nL X.K h8)(k:aG n X.A)(C:Binds X.K fd N [])(c:tO X (e::q) t i5)(a:autoParam (fS X e q) B7)(b:autoParam (lF X p q) B7)(h:autoParam (Px X o m g (e::q) p l8) B7):
  V3 X (wR (U<|L8 (Q0 o m g) (e::q) [] p) z) (BZ<|uK L m (nL X.K h8) [] X.ek (S7 i) t) (lx x m i h8 i5):=⟨yS<|Ot r T.cl l G k C P1 P c.p a b h,by
 intro O N Y F H ds D o S a C;obtain⟨⟨r,ds'⟩,a1,a⟩:=A9 a;refine BX T c S a1 ?_;cases r with
 |inl pv=>cases a;exact λas' Hm H' v S' s R=>C as' F Hm H' v S' s R
 |inr x=>cases a;exact λas' Hm H' ea S' s R=>C as' F Hm H' ea S' s R⟩
def DX(pd:f9->Bool)(C1 C2:Addr)(fld2:Str)(j:Nat)(FX:List f9->Option (PV ⊕ f9))(Fl Fl2:DL):DO:=λds=>(Fl ds).bind λl=>(FX l).bind λa=>match a with
 |S0 pv=>U<|.next<|ds.set j<|U<|.dat pv.d
 |O6 x=>if isExc C1 x=Uf then(Fl2 ds).bind λl2=>match l2 with
  | [d]=>if pd d=Uf then U (.upO Uf (dH C2 fld2 d) ds)else J
  |_=>J
  else J
section
set_option tactic.hygienic true in
def YL{t2:TA}{Fl2:DL}(hPd:∀H v d,Dt X.K H v d->j4 d=Uf->Z v)(ha:hV X.quiet Uf q t j5)(ha2:∀j,hV (X.marked j) Uf [e] t2 Fl2)(T2:jY X.K L T h x)(TC:kW X.K L):
  TSX X (PY f L i (Hj X.K m9) t (AI Z L x t2) X.ek) (DX j4 f L x i m9 j5 Fl2):=by
 intro O D8 as σ H ds D o S hf m;obtain⟨l,h1,hf⟩:=A9 hf;obtain⟨a,h2,hf⟩:=A9 hf;refine ha.t O D8 as σ H ds l _ S h1 λvs H1 e1 r1=>?_;have S1:=S.grow e1;have D1:=S1.dm (fr:=Uf);have hh:∀H,K1 H (bU Uf as) O=K1 H [] (O++(bU Uf as).filterMap id):=λH=>tm (bs:=[]);refine⟨O++(bU Uf as).filterMap id,l,a,λb hb=>?_,by rw[<-hh];exact r1,h2,?_⟩
 . rcases List.mem_append.mp hb with hb|hb
   exact D1.o b hb;obtain⟨g,hx,k⟩:=List.mem_filterMap.mp hb;subst k;exact D1.a b hx
 . cases a with
   |inl pv=>
    cases hf;intro v H2 e r2;have r3:RX X.K O (bU Uf as) H1 H2 v pv:=by
     cases pv with
     |dat d=>
      have r2':Dt X.K (K1 H2 []<|O++(bU Uf as).filterMap id) v d:=r2;rw[<-hh]at r2';exact r2'
     |own l=>
      obtain⟨a,xs,e3,e4,e5,r3⟩:=r2;refine⟨a,xs,e3,e4,e5,?_⟩;rw[show(U a::bU Uf as)=[U a]++bU Uf as from rfl,tm];exact r3
     |ob w c=>
      obtain⟨o,R,u,y,s,n⟩:=r2;refine⟨o,R,u,y,s,?_⟩;rw[tm];rw[bA]at n;exact n
    exact m _ _ _<|(S.grow<|e1.trans e).set i<|r3.dt D1
   |inr g=>
    intro hx H2 e r2 hx' ehx hn;cases ehx;have hf':=hf;obtain⟨hex,hf'⟩:=P8 hf';obtain⟨l2,h3,hf'⟩:=A9 hf';split at hf'
    . rename_i d;obtain⟨hpd,hf'⟩:=P8 hf';cases hf';obtain⟨ea',dx,ev,hea⟩:=r2.isExc hex;cases ev;refine⟨dx,L1 _ _ hea,?_⟩;have sd:=C8.del e hn;refine(ha2 hx).t O D8 as σ _ ds [d] _ (S1.grow sd) h3 λvs2 H3 e3 r3=>?_;obtain⟨v,rfl,hv⟩:=r3.inv1;refine⟨v,rfl,hPd _ _ _ hv hpd,λea dx2 n1 n2 hne=>⟨ea,dx2,rfl,?_,?_⟩⟩;rw[F9<|P9 hne,K8]
      . have S3:=(S1.grow sd).grow e3;have sm:C8 H3<|upd (upd (upd H3 ea<|.ext<|X5 ea L<|U dx2) dx2<|.xd [(x,v)]) ea<|.ext<|ExcAt ea L dx2:=λb u z=>by rw[F9<|T9 z n1,F9<|T9 z n2,F9<|T9 z n1];exact z
        have nA:∀b,H3 b=J->U b∉as:=λb n z=>by obtain⟨_,u,z⟩:=S3.new b z;rw[n]at z;cases z
        have nO:∀b,H3 b=J->b∉O:=λb n z=>by obtain⟨u,z⟩:=S3.gK b z;rw[S3.same.free n]at z;cases z
        refine m as σ H3 _ ea S3 sm (.exc TC T2.nof (V7.mpr ⟨nO _ n1,nA _ n1,K8⟩) (V7.mpr ⟨nO _ n2,nA _ n2,by rw[F9 hne,K8]⟩)<|hv.same<|Z1 sm)
    cases hf'
end
section
variable{H:Hp}
def ZK{base:Heap}{fi1 fi2:Addr}{fld2 P cn cn2 prm:Str}{fd2:W4}{ps:List Str}{Fl2:DL}{j ck:Nat}{t2:TA}{p3 p4 p5 q1 q2 q3 q4 pos:Pos}(hPd:∀H v d,Dt K H v d->j4 d=Uf->Z v)(hX:X=fD (iR w y) w y K S base N m c9 L u A B s H E)(F:Y6 w y K S base (uI w y) i f k ps<|Hj K m9)(hr:aG i X.A)(hg:Gl X x)(hm:X.mg x=U (A5 f))(hk:dC K (A5 f)=Uf)(hb:Binds K k ps [])(ha:hV X.quiet Uf (e::q) t j5)(T1:jY K T D fi1 I)(T2:jY K h D fi2 fld2)(TC:kW K h)(hgc:Gl X cn)(hmc:X.mg cn=U (A5 T))(hN:X.N.Nodup)(hi:X.N[j]?=U P)(hy:Loc X.env.scope P)(F2:rN U' w y K S base jm n fi2 fd2 ["self",prm]<|iS Z h fld2)(hr2:dy U' (n+1) X.A)(hb2:Binds K fd2 ["self",prm] [])(hkp:dC K (A5 h)=Uf)(hg2:Gl X cn2)(hm2:X.mg cn2=U (A5 h))(ha2:∀a,hV (X.marked a) Uf [o] t2 Fl2)(hdb:autoParam (jj x) B7)(hdc:autoParam (jj cn) B7)(hd2:autoParam (jj cn2) B7)(he:autoParam (fS X e q) B7)(hpl:autoParam (lF X pos q) B7)(he2:autoParam (fS X o []) B7)(hpl2:autoParam (lF X q2 []) B7)(hsw:autoParam (ak (L8 (G9 x p) (e::q) [] pos) (U<|G9 P g) z.line X.env=pure U') B7)(hf:autoParam (yz X P) gQ):
  V3 X (LZ [gB [G9 P g] (L8 (G9 x p) (e::q) [] pos) z] [xj (U<|G9 cn p3) J [wM (U<|L8 (G9 cn2 q1) [o] [] q2) (U<|jk Ag ck q4) q3] p4] [] [] p5) (PY T h j (Hj K m9) t (AI Z h fld2 t2) E) (DX j4 T h fld2 j m9 j5 Fl2):=by
 refine⟨a4j hX F hr hg hm hk hb ha.p T1 T2 hgc hmc hN hi hy (λa=>?_) hdb hdc he hpl hsw hf,?_⟩;subst hX;exact Gw T2 F2 ⟨nofun,hr2.dp,hr2.un⟩ hb2 hkp hg2 hm2 (ha2 a).p hd2 he2 hpl2;subst hX;exact YL hPd ha ha2 T2 TC
end
def Lw(v:V):Prop:=∃x:Str,v=.str x/\x.length<=100000
noncomputable def cD:f9->Bool
 |f6 x=>decide (x.length<=100000)
 |_=>U'
def Cc(H:Hp)(v:V)(d:f9)(h:Dt K H v d)(e:cD d=Uf):Lw v:=by
 cases h with
 |str x=>exact⟨_,rfl,ff e⟩
 |_=>cases e
def a9I(i:Nat):TE:=λσ H Q=>∃n:Str,σ[i]?=U (U<|.str n)/\n.length<=100000/\∀x:Str,Q (.str x) H
def Ou(j:Nat)(hv:PE X e<|S7 j)(ha:x.length<=1000):PE X (Xu [jk (Ac x) i p,Ye e (-1) J g] z)<|a9I j:=by
 intro pins s σ H Q I h;obtain⟨n,hn,hs,q⟩:=h;refine JoinedStr_many<|zY ?_;refine FN ⟨?_,zY ?_⟩
 . show(ow++x).length<=G7;rw[ua,eX];show 0+x.length<=_;lia
 . refine Xs (M8 (hv pins _ σ H (λa H1=>a=.str n/\H1=H) (I.tok _) ⟨_,hn,rfl,rfl⟩) λu s1 ⟨a,H1,I1,r1,q1⟩=>?_)
   obtain⟨rfl,rfl⟩:=q1;obtain⟨t,rfl⟩:=r1;have L:(ow++x++n).length<=G7:=by
    rw[ua,ua,eX];have v:Str.empty.length=0:=rfl;lia
   exact formatField_str (λt' tk=>⟨L,joinParts_nil ⟨.str _,H1,(I1.tok _).tok _,⟨_,rfl⟩,q _⟩ L⟩) (by rw[eX];exact D6 B1 f7)
def RL(K:D4)(B:Addr):Prop:=∃(nm qn:Str) (N:Addr) (bs tl:List A1) (hd:Bool) (sn:List Str) (sub:List A1) (ab:Bool) (col:Option Bool) (dd:Option Addr) (k0 k1 k2 k3 k5:Option A1) (nid:String),K.lookup B=U (lN nm qn B N bs tl hd sn sub ab col dd k0 k1 k2 k3 k5 nid)/\tl.contains (E8 "BaseException")=Uf
def Cat(K:D4)(C B:Addr):Prop:=∃CS fi fld,jY K C CS fi fld/\(B=C\/B=CS/\RL K CS)
section
variable{H:Hp}
def a0V{dx:Addr}(c:Cat X.K f L)(hgc:Gl X x)(hmc:X.mg x=U (A5 L))(hN:X.N.Nodup)(hj:X.N[i]?=U m)(hn:X.env.scope.names.lookup m=U aX)(hs:∀T,pw (X.marked T) (e8::i9) j1)(I2:Inv X l d H s)(a2:X.ag.heap.objs.size<=h/\h≠X.env.locals/\(∀B c,X.env.cells.lookup B=U c->c≠h)/\∀σ∈X.pn++l,σ.1≠h)(nT':H h=J)(fl2:jl T h f dx s.heap)(ht:j1 (xW i j8) (d.set i<|U<|.ref T) H)(hdb:autoParam ((x==("__debug__" : Str))=U') aj):
  wpAny (model X.prog X.w) X.A (zF (A5 T) X.env (xj (U<|G9 x p) (U m) (e8::i9) g::j0)) (SP X l j8) X.xe s:=by
 obtain⟨CS,fi,fld,D,o⟩:=c;rcases o with e|⟨e,b⟩
 subst e;exact a0U D hgc hmc hN hj hn hs I2 a2 nT' fl2 ht hdb;subst e;have I3:=I2.marked T;obtain⟨nm,qn,N,bs,sn,sub,ab,col,dd,c0,c1,c2,c3,c5,hC,_,_⟩:=D.cls;obtain⟨nm',qn',N',bs',tl',hd',sn',sub',ab',col',dd',d0,d1,d2,d3,d5,nid',hCB,htl⟩:=b;refine My (MJ<|show wpAny (model (X.marked T).prog (X.marked T).w) (X.marked T).A (eval (G9 x p) (X.marked T).env) _ _ _ from nk I3 hgc hmc ?_ hdb) (by intro q;cases q);obtain⟨vs,q1⟩:=fl2.at;refine Ej (I2.bI _ _ hC) (I2.bI _ _ hCB) q1 rfl htl (by simp) ?_;refine Yf ?_;obtain⟨us,oT,ts,g1,g2,g3,g4,g5,g6⟩:=fl2;refine ME g1 rfl g2 g4 g5 (Array.getElem?_eq_some_iff.mp g6).1 ?_;have I4:=I3.turned (h':=s.heap.update h<|eY (·.setIfInBounds 3 .none)) (t':=s.toks) (λb o hb q=>by rw[af _ _<|P9 hb];exact q) nT' a2.2.1 (B6 a2.1) a2.2.2.1 a2.2.2.2;refine sG (X:=X.marked T) I4 hN hj (B3 hn) (v:=.ref T) rfl (λs5 I5=>?_)<|B6 hn;refine aT (hs T l s5 _ H (xW i j8) I5 ht) (λC s6 q=>?_) λ_ _ z=>X7 z
 have fin:∀{σ':St}{H3:Hp}{Q:Unit->C5->Prop},Inv (X.marked T) l σ' H3 s6->(∀s7,Inv X l (σ'.set i J) H3 s7->Q () s7)->wpAny (model X.prog X.w) X.A (do bindName X.env m F0;MF X.env m g) Q X.xe s6:=
  λ{σ' H3 Q} Jff k=>OU (Jff.unmarked I2.ok) hN hj hn k
 cases C with
 |next=>obtain⟨σ',H3,Jff,q⟩:=q;exact fin Jff λs7 J7=>⟨_,H3,J7,q⟩
 |brk=>obtain⟨σ',H3,Jff,q⟩:=q;exact fin Jff λs7 J7=>⟨_,H3,J7,q⟩
 |cont=>obtain⟨σ',H3,Jff,q⟩:=q;exact fin Jff λs7 J7=>⟨_,H3,J7,q⟩
 |ret u=>obtain⟨v,σ',H3,Jff,r,q⟩:=q;exact fin Jff λs7 J7=>⟨v,_,H3,J7,r,q⟩
end
def a8x(C1:Addr)(j:Nat)(tb:TS)(D:Ends)(σ:St):XK:=λev _ H2=>∃ea dx,ev=A5 ea/\H2 ea=U (.ext<|ExcAt ea C1 dx)/\tb (xW j D) (σ.set j<|U<|.ref ea) H2
def a1Y(C:Addr)(m:Str)(C1:Addr)(j p:Nat)(sp:Sp)(t:TA)(tb:TS):TS:=λD σ H=>uK C m sp [] (a8x C1 j tb D σ) (S7 p) t σ H λv H2=>D.nx σ H2
def rH(nm m:Str)(C1:Addr)(j p:Nat)(f:px)(Fl:Ds->Option (List AV))(G:DO):DO:=λds=>(nu nm m p f Fl ds).bind λr=>match r.1 with
 |S0 pv=>U<|.next r.2
 |O6 x=>if isExc C1 x=Uf then(G<|r.2.set j<|U<|.dat x).bind (Ir j)else J
def JE{nm:Str}{j d:Nat}{p4 p5 pos:Pos}{pl:Sem Bool}(hst:X.stack=X.env::X.outer/\X.env.frame=U X.env.locals)(hnx:∀e s,¬X.xe e s)(C:qa X.K nm L)(ho:PE X o<|S7 d)(hm:Meth X.K L m f)(F:Y6 X.prog X.w X.K X.mg X.base (iR X.prog X.w) i f k N<|nL X.K h8)(hr:aG i X.A)(hb:Binds X.K k N [])(ha:tO X (e::q) t i5)(c:Cat X.K T h)(hg:Gl X x)(hmc:X.mg x=U (A5 h))(hN:X.N.Nodup)(hj:X.N[j]?=U I)(hn:X.env.scope.names.lookup I=U aX)(hs:∀ea,iq (X.marked ea) (e8::i9) j1 g8)(hd:autoParam (jj x) B7)(he:autoParam (fS X e q) B7)(hpl:autoParam (lF X pos q) B7)(ht:autoParam (Px X o m p (e::q) pos pl) bL)(hsw:autoParam (ak (L8 (Q0 o m p) (e::q) [] pos) J g.line X.env=pure U') B7):
  V3 X (LZ [ui (L8 (Q0 o m p) (e::q) [] pos) g] [xj (U<|G9 x z) (U I) (e8::i9) p4] [] [] p5) (a1Y L m T j d (nL X.K h8) t j1) (rH nm m T j d h8 i5 g8):=by
 refine⟨λpins s σ H D G B=>?_,?_⟩
 . have cl:=C.cl;unfold a1Y uK at B;refine wpAny_Try_except<|Af<|wpAny_Expr_any (ML (aT (ho pins s σ H _ G B) (λu s1 ⟨n,H1,I1,rx,a,dx,fs,ex,ea,l,b⟩=>?_) λe s w=>(hnx e s w).elim) ht) G.quiet hsw;subst ex;obtain rfl:=rx;refine DU I1 ea cl hm l ?_;refine uo G.ok.mod.yZ hm.kp (aT (ha.p pos pins s1 σ H1 _ I1 b) (λus s2 ⟨vs,H2,I2,r,q2⟩=>⟨I2.bI,?_⟩) λe s w=>(hnx e s w).elim) he hpl
   simp only[bA]at q2;have r2:Vals (.ref a::vs) (A5 a::us):=N8 rfl r;have hl:(X2 a::us).length=N.length:=by rw[<-r2.length];exact F.len _ _ _ _ q2
   have hbd:=hb s2 (A5 a::us) I2.bI (by rw[bA];exact hl);rw[bA]at hbd;refine tS<|tX (F.run X.A X.stack s2 H2 ⟨A5 a::us,[]⟩ (A5 a::us) (.ref a::vs) _ _ hr I2.Ld hbd r2 q2) λr s' hq=>?_
   cases r with
   |error e=>
    refine a5x hst I2 hq λea T' C' dx H' s3 hE h1 I3 a2 nT fl=>?_;obtain⟨ea',dx',ev,h2,ht⟩:=hE;cases ev;obtain rfl:=Pc I3 h1 h2;exact a0V c hg hmc hN hj hn (λea=>(hs ea).p) I3 a2 nT fl ht hd
   |ok fl=>
    cases fl with
    |ret u=>
     obtain⟨v,H3,I3,rv,q3⟩:=I2.after hq;exact qQ<|qQ ⟨_,H3,I3,q3⟩
    |next=>exact X7 hq
    |brk=>exact X7 hq
    |cont=>exact X7 hq
 . intro O D8 as σ H ds D o S B b;obtain⟨⟨r,ds'⟩,a1,B⟩:=A9 B;refine BX C ha S a1 ?_;cases r with
   |inl pv=>
    cases B;exact λas' Hm H' v S' s R=>b _ _ _<|S'.grow s
   |inr n=>
    intro as' Hm H' ea S' s R;have h':=B;obtain⟨c1,h'⟩:=P8 h';obtain⟨o1,g1,u1⟩:=A9 h';obtain⟨ea',dx,ev,hea⟩:=R.isExc c1;cases ev;exact⟨ea,dx,rfl,L1 _ _ hea,(hs ea).t O D8 _ _ H' _ (xW j D) o1 ((S'.grow s).set j R) g1<|b.hand u1⟩
section
variable{r:Expr}
end
section
variable{H:Hp}
end
abbrev rj:=Ds->Option (Bool×Ds)
variable{a9:rj}
def a8V(K:D4)(tt:TT)(F:rj):Prop:=
 ∀(O:List Addr) (D8:Hp) (as:As) (σ:St) (H:Hp) (ds:Ds) (b:Bool) (ds':Ds) (Q:Bool->Hp->Prop),DS K O D8 as σ H ds->F ds=U (b,ds')->(∀as' H',DS K O D8 as' σ H' ds'->Q b H')->tt σ H Q
structure gR(X:Cx)(e:Expr)(tt:TT)(F:rj):Prop where
 p:PT X e tt
 t:a8V X.K tt F
structure vz(X:Cx)(e:Expr)(tt:TT)(F:rj):Prop where
 p:PW X e tt
 t:a8V X.K tt F
noncomputable def AS(F:DB):rj:=λds=>(F ds).bind λb=>U (b,ds)
def yV(F:Ds->Option (PV×Ds)):rj:=λds=>(F ds).bind λr=>(fR r.1.d).bind λb=>U (b,r.2)
def sU(f:f9->f9->Option PV)(F:Ds->Option (PV×Ds))(Fb:DV):rj:=λds=>(F ds).bind λr=>(Fb r.2).bind λy=>(f r.1.d y.d).bind λz=>(fR z.d).bind λb=>U (b,r.2)
noncomputable def xI(F:rj):rj:=λds=>(F ds).bind λr=>U (!r.1,r.2)
noncomputable def JS(F G:rj):rj:=λds=>(F ds).bind λr=>if r.1=Uf then G r.2 else U r
noncomputable def Ow(F G:rj):rj:=λds=>(F ds).bind λr=>if r.1=Uf then U r else G r.2
noncomputable def tq(F:rj)(G1 G2:DO):DO:=λds=>(F ds).bind λr=>if r.1=Uf then G1 r.2 else G2 r.2
def ZI{Ft:DB}(h:lE X e M Ft):gR X e M<|AS Ft:=⟨h.p,by intro O D8 as σ H ds b ds' Q S f q;obtain⟨x,h1,f⟩:=A9 f;cases f;exact h.t O D8 as σ H ds _ _ S h1 λH' s=>q _ _<|S.grow s⟩
def obB{o:OD}(h:fR (PV.ob d9 o).d=U b):False:=by
 cases o with
 |seq c _=>cases c<;>exact nE h
 |_=>exact nE h
def Lq{as:As}{H':Hp}{pv:PV}(r:RX K k8 as a H' b8 pv)(h:fR pv.d=U b):b8=.bl b:=by
 cases pv with
 |dat d=>
  cases d with
  |bool c=>cases h;cases r;rfl
  |_=>cases h
 |own l=>cases h
 |ob w o=>exact(obB h).elim
def a3Y{F:Ds->Option (PV×Ds)}(h:BQ X e G F)(f:autoParam (∀a,isTrue e X.env a=(do let v <- a;wx e.pos;holding [v] (truthy v))) tM):gR X e (tB G)<|yV F:=⟨JD h.p f,by intro O D8 as σ H ds b ds' Q S g q;obtain⟨⟨pv,d1⟩,h1,g⟩:=A9 g;obtain⟨x,h2,g⟩:=A9 g;cases g;exact h.t O D8 as σ H ds _ _ _ S h1 λas' Hm H' v S' s r=>⟨_,Lq r h2,q _ _<|S'.grow s⟩⟩
def a4a{F:Ds->Option (PV×Ds)}{op:CmpOp}{r:R2}(h:aZ X.K r n8)(d:BQ X e G F)(c:PX X Uf o Y i6)(a:X4 X (V9 op) r)(g:oB op o=U'):gR X (qX e [op] [o] p) (Iy<|vF r G Y)<|sU n8 F i6:=⟨Om a d.p c.p g,by
 intro O D8 as σ H ds o ds' Q S hf q;obtain⟨⟨pv,d1⟩,h1,hf⟩:=A9 hf;obtain⟨y,h2,hf⟩:=A9 hf;obtain⟨z,h3,hf⟩:=A9 hf;obtain⟨x,h4,hf⟩:=A9 hf;cases hf;refine d.t O D8 as σ H ds _ _ _ S h1 λas' Hm H' v S' s R=>?_;refine c.t O D8 as' σ H' _ y _ (S'.grow s) h2 λu H2 s2 R2=>?_;refine h O as' H2 v u pv.d y.d z _ (((S'.grow s).grow s2).dm (fr:=Uf)) ((R.grow s2).dt<|S'.dm (fr:=Uf)) (R2.dt<|(S'.grow s).dm) h3 λw H3 s3 R3=>?_
 exact⟨_,Lq R3 h4,q _ _<|((S'.grow s).grow s2).grow s3⟩⟩
def a3Z(h:gR X e M a9):gR X (uv Ak e p) (PZ M)<|xI a9:=⟨Tn h.p,by intro O D8 as σ H ds b ds' Q S f q;obtain⟨⟨x,d⟩,h1,f⟩:=A9 f;cases f;exact h.t O D8 as σ H ds x _ _ S h1 q⟩
def ZH(h:gR X e M a9):vz X (aa gV [e] p) M a9:=⟨pw_and1 h.p,h.t⟩
def a3Q(h:gR X e M a9):vz X (aa gT [e] p) M a9:=⟨pw_or1 h.p,h.t⟩
def a3R{tu:TT}{R:rj}(h:gR X e M a9)(k:vz X (aa gV (o::q) p) tu R):vz X (aa gV (e::o::q) p) (Qa M tu)<|JS a9 R:=⟨pw_and h.p k.p,by
 intro O D8 as σ H ds o ds' Q S f a;obtain⟨⟨x,d⟩,h1,f⟩:=A9 f;refine h.t O D8 as σ H ds x _ _ S h1 λas' H' S'=>?_
 cases x with
 |true=>exact k.t O D8 as' σ H' d o ds' Q S' f a
 |false=>cases f;exact a _ _ S'⟩
def a6Y{tu:TT}{R:rj}(h:gR X e M a9)(k:vz X (aa gT (o::q) p) tu R):vz X (aa gT (e::o::q) p) (tOr M tu)<|Ow a9 R:=⟨pw_or h.p k.p,by
 intro O D8 as σ H ds o ds' Q S f a;obtain⟨⟨x,d⟩,h1,f⟩:=A9 f;refine h.t O D8 as σ H ds x _ _ S h1 λas' H' S'=>?_
 cases x with
 |false=>exact k.t O D8 as' σ H' d o ds' Q S' f a
 |true=>cases f;exact a _ _ S'⟩
theorem vz.pt(h:vz X e M a9):gR X e M a9:=⟨PW.pt h.p,h.t⟩
def a4e{tv:TS}{G2:DO}{orelse:List Stmt}(h:gR X e M a9)(g:iq X i9 j1 g8)(k:iq X orelse tv G2):V3 X (LX e i9 orelse p) (YT M j1 tv)<|tq a9 g8 G2:=⟨a2n h.p g.p k.p,by
 intro O D8 as σ H ds D o S hf q;obtain⟨⟨x,d⟩,h1,hf⟩:=A9 hf;refine h.t O D8 as σ H ds x _ _ S h1 λas' H' S'=>?_
 cases x with
 |true=>exact g.t O D8 as' σ H' d D o S' hf q
 |false=>exact k.t O D8 as' σ H' d D o S' hf q⟩
def IJ(f:f9->f9->Option PV)(F:Ds->Option (PV×Ds))(Fb:DV):DO:=λds=>(sU f F Fb ds).bind λr=>U<|.ret<|.dat<|E5 r.1
def ZO{F:Ds->Option (PV×Ds)}{op:CmpOp}{r:R2}(h:aZ X.K r n8)(d:BQ X e G F)(c:PX X Uf o Y i6)(a:X4 X (V9 op) r)(f:oB op o=U'):V3 X (wR (U<|qX e [op] [o] p) g) (BZ<|vF r G Y)<|IJ n8 F i6:=⟨yS<|Ov a d.p c.p f,by
 intro O D8 as σ H ds D b S hf q;obtain⟨⟨u,d2⟩,h5,hf⟩:=A9 hf;cases hf;obtain⟨⟨pv,d1⟩,h1,hf⟩:=A9 h5;obtain⟨y,h2,hf⟩:=A9 hf;obtain⟨z,h3,hf⟩:=A9 hf;obtain⟨x,h4,hf⟩:=A9 hf;cases hf;refine d.t O D8 as σ H ds _ _ _ S h1 λas' Hm H' v S' s R=>?_;refine c.t O D8 as' σ H' _ y _ (S'.grow s) h2 λu H2 s2 R2=>?_;refine h O as' H2 v u pv.d y.d z _ (((S'.grow s).grow s2).dm (fr:=Uf)) ((R.grow s2).dt<|S'.dm (fr:=Uf)) (R2.dt<|(S'.grow s).dm) h3 λw H3 s3 R3=>?_
 obtain rfl:=Lq R3 h4;exact q _ H3 (((S'.grow s).grow s2).grow s3).same<|Dt.bl _⟩
noncomputable def QN(i:Nat)(ds:Ds):Nat:=match ds[i]? with
 |some (U<|.own l)=>l.length+1
 |_=>0
section
set_option tactic.hygienic true in
def Sm{as:As}{σ:St}{H:Hp}{Q:VK}(hz:PX X Uf e G<|fC<|p6 0)(S:DS X.K k8 a as σ H d8)(hd:d8[i]?=U (U<|.own (b5::j6)))(q:∀v H',DS X.K k8 a as σ H' (d8.set i<|U<|.own j6)->Dt X.K (K1 H' as k8) v b5->Q v H'):Bw X.K "list" yP (S7 i) (fj G pA) σ H Q:=by
 obtain⟨k,xs,z1,z2,z3,z4⟩:=S.slot i _ hd;cases z4 with
 |cons hv ht=>
  rename_i v vs;refine⟨_,z1,B3 ⟨rfl,v::vs,X6.of z3⟩,?_⟩;refine hz.t k8 a as σ H d8 (.dat<|p6 0) _ S rfl λw H1 s1 r1=>?_;cases(r1.dt S.dm);have S1:=S.grow s1;refine⟨k,v::vs,0,0,v,rfl,rfl,s1 _ _ z3,by decide,by decide,seqIndex_of (by decide) (by simp),rfl,?_⟩
  obtain⟨a',xs',y1,y2,y3,y4⟩:=S1.slot i _ hd;have ha:U k∈as:=by rw[z1]at y1;cases y1;exact y2
  refine q v _ (S1.turn hd z1<|ht.same<|Z1 s1)<|(hv.same<|Z1 s1).same<|eN λb u h1 h2 h3=>⟨h1,h2,?_⟩;have n:b≠k:=λz=>h2 (by rw[z];exact ha);rw[show((v::vs).eraseIdx 0)=vs from rfl,F9 n];exact h3
noncomputable def QD(i:Nat)(ds:Ds):Option<|f9×Ds:=match ds[i]? with
 |some (U<|.own (d::l))=>U (d,ds.set i<|U<|.own l)
 |_=>J
def JG{ds':Ds}(h:QD i d8=U (b5,ds')):∃l,d8[i]?=U (U<|.own (b5::l))/\ds'=d8.set i (U<|.own l):=by
 unfold QD at h;split at h;cases h;exact⟨_,by assumption,rfl⟩;cases h
def a0Y(i j:Nat):DO:=λds=>(QD i ds).bind λr=>U<|.next<|r.2.set j<|U<|.dat r.1
def a4d{pos':Pos}(hN:X.N.Nodup)(hi:X.N[n]?=U x)(hy:Loc X.env.scope x)(ho:PE X o<|S7 i)(hz:PX X Uf e G<|fC<|p6 0)(bm:autoParam (Gj X o "pop" z e [] g) qI)(hs:autoParam (ak (L8 (Q0 o "pop" z) [e] [] g) (U<|G9 x pos') p.line X.env=pure U') B7)(hf:autoParam (yz X x) gQ):
  V3 X (gB [G9 x pos'] (L8 (Q0 o "pop" z) [e] [] g) p) (xv (Bw X.K "list" yP (S7 i)<|fj G pA)<|fk n) (a0Y i n):=
 ⟨Dp hN hi hy (AQ uA XC XB JZ ho (bg hz.p jt bm.s) bm) hs hf,by intro O D8 as σ H ds D o S h q;obtain⟨⟨d,d1⟩,h1,h⟩:=A9 h;cases h;obtain⟨l,hd,rfl⟩:=JG h1;exact Sm hz S hd λv H' S' dv=>q _ _ _<|S'.set n dv⟩
end
def Dy(i:Nat)(f:FV)(F2:DV):rj:=λds=>(QD i ds).bind λr=>(F2 r.2).bind λv=>(f [r.1,v.d]).bind λx=>(fR x.d).bind λb=>U (b,r.2)
def ZJ{e2:Expr}{pc:Pos}{CX:vi}{fd:W4}{f':FV}(j:Y6 X.prog X.w X.K X.mg X.base CX n f fd N<|vK X.K f')(hr:aG n X.A)(hg:Gl X x)(hm:X.mg x=U (A5 f))(hk:dC X.K (A5 f)=Uf)(hb:Binds X.K fd N [])(hx:Passes CX X E)(ho:PE X o<|S7 i)(hz:PX X Uf e G<|fC<|p6 0)(he2:PX X Uf e2 Y i6)(hdb:autoParam (jj x) B7)(bm:autoParam (Gj X o "pop" z e [] g) qI)(hs1:autoParam (fS X (L8 (Q0 o "pop" z) [e] [] g) [e2]) B7)(hs2:autoParam (fS X e2 []) B7)(hpl:autoParam (lF X pc [e2]) B7)(fv:autoParam (∀a,isTrue (L8 (G9 x p) [L8 (Q0 o "pop" z) [e] [] g,e2] [] pc) X.env a=(do let v <- a;wx pc;holding [v] (truthy v))) tM):
  gR X (L8 (G9 x p) [L8 (Q0 o "pop" z) [e] [] g,e2] [] pc) (tB<|nK (vK X.K f') [] E<|fj (Bw X.K "list" yP (S7 i)<|fj G pA)<|fj Y pA) (Dy i f' i6):=⟨JD (Gx j hr hg hm hk hb P1 hx (bg (AQ uA XC XB JZ ho (bg hz.p jt bm.s) bm) (bg he2.p jt hs2) hs1) hdb hs1 hpl) fv,by
 intro O D8 as σ H ds b ds' Q S h q;obtain⟨⟨d,d1⟩,h1,h⟩:=A9 h;obtain⟨v2,h2,h⟩:=A9 h;obtain⟨r,h3,h⟩:=A9 h;obtain⟨c,h4,h⟩:=A9 h;cases h;obtain⟨l,hd,rfl⟩:=JG h1;refine Sm hz S hd λv H2 S2 dv=>?_;refine he2.t O D8 as σ H2 _ v2 _ S2 h2 λw H3 s3 r3=>?_;have S3:=S2.grow s3;have D3:=S3.dm (fr:=Uf);have hh:∀H,K1 H (bU Uf as) O=K1 H [] (O++(bU Uf as).filterMap id):=λH=>tm (bs:=[]);refine⟨O++(bU Uf as).filterMap id,[d,v2.d],r,λa ha'=>?_,by rw[<-hh];exact .cons (dv.same<|Z1 s3)<|.cons (r3.dt S2.dm) .nil,h3,λy H4 s4 r4=>?_⟩
 . rcases List.mem_append.mp ha' with m|m
   exact D3.o a m;obtain⟨x',hx',k⟩:=List.mem_filterMap.mp m;subst k;exact D3.a a hx'
 . cases r with
   |dat d5=>
    cases d5 with
    |bool c'=>cases h4;cases r4;exact⟨_,rfl,q _ _<|S3.grow s4⟩
    |_=>cases h4
   |own l'=>cases h4
   |ob w o=>exact(obB h4).elim⟩
noncomputable def KA(k:Str):A1->Bool
 |eZ b _=>b==k
 |_=>U'
def HL(L:List<|Str×Tok)(j:Nat)(h:j<(lI L).toArray.size)(h':j<(L.map (·.1)).length):KA x (lI L).toArray[j]=((L.map (·.1))[j]==x):=by simp[lI,KA]
theorem Kc{k:Str}:∀{l:List Str}{j:Nat},j<l.idxOf k->∀h:j<l.length,(l[j]==k)=U'
 |a::r,0,h,_=>by
  rw[Md]at h;cases e:a==k with
  |true=>rw[e]at h;cases h
  |false=>exact e
 |a::r,j+1,h,g=>by
  rw[Md]at h;cases e:a==k with
  |true=>rw[e]at h;cases h
  |false=>rw[e]at h;exact Kc (XM h)<|XM g
def Og(K:D4):V->List V->Hp->VK->Prop:=λx vs H Q=>∃(p:Addr) (ns:List Str) (k:Str),x=.ref p/\vs=[.str k]/\X6 K H p (ns.map V.str)/\k∈ns/\ns.length<=1000000/\Q (.int (ns.idxOf k:Nat)) H
def Uu:BS X "list.index"<|Og X.K:=by
 intro m s P H x M v O Q I z e h;obtain⟨p,l,k,rfl,rfl,hq,G,N,q⟩:=h;cases z;obtain⟨u,rfl,E⟩:=vals1 e;obtain⟨t,rfl⟩:=E;obtain⟨a,e,D,_⟩:=I.list hq;obtain⟨L,rfl,rfl⟩:=Hd e;obtain⟨⟨B,A,o,w⟩,i,C,n,W⟩:=id D.isList;subst C W;have d:=(XZ).2 G;have hs:(lI L).toArray.size=(L.map (·.1)).length:=by simp[lI]
 refine lK XS ⟨_,i,rfl⟩ PySem.F.entry_list_index (PySem.F.args_list_index_2 _ _)
  (PySem.SeqAt.list_indexAt p (lI L).toArray n A w (eZ k t) (KA k) ((L.map (·.1)).idxOf k) (by rw[hs];exact d) (by lia) ?_ ?_) ⟨i,λy r=>?_,?_⟩
 . rw[HL L _ (by rw[hs];exact d) d];simp
 . intro j g f;rw[HL L j g (by rw[<-hs];exact g)];exact Kc f _
 . have r':y∈lI L:=by simpa using r
   obtain⟨b,_,rfl⟩:=mem_map.mp r';exact PySem.SeqAt.EqAt.str_str _ _ _ _
 exact⟨.int _,H,I.tok _,⟨_,rfl⟩,q⟩
def vY:f9->FV
 |B8 l,[f6 k]=>(strsOf l).bind λns=>if k∈ns/\ns.length<=1000000 then U (.dat<|p6 (ns.idxOf k:Nat))else J
 |_,_=>J
set_option tactic.hygienic true in
def Ti{r:DV}(w:PX X b o G r)(C:hV X b [e] t j5)(bm:autoParam (Gj X o "index" g e [] p) qI):
  PX X b (L8 (Q0 o "index" g) [e] [] p) (Bw X.K "list" (Og X.K) G t) (U6 vY r j5):=
 ⟨AQ uA XS PySem.F.type_list_index Uu w.p C.p bm,by
 intro O f D A H n pv Q S s q;obtain⟨x,h1,s⟩:=A9 s;obtain⟨l,h2,s⟩:=A9 s;refine w.t O f D A H n x _ S h1 λv W u V=>?_;have B:=V.dt S.dm;generalize x.d=Z at s B;unfold vY at s;split at s
 . rename_i P k;cases B with
   |lst j N=>
    rename_i a xs;obtain⟨M,h3,s⟩:=A9 s;obtain⟨E,s⟩:=P8 s;cases s;have R:=N.strs h3;subst R;refine⟨B3 ⟨rfl,_,L1.seq j⟩,?_⟩;refine C.t O f D A W n _ _ (S.grow u) h2 λY T z L=>?_;obtain⟨y,rfl,I⟩:=L.inv1;cases I;exact⟨a,M,k,rfl,rfl,z.seq<|L1.seq j,E.1,E.2,q _ T (u.trans z)<|Dt.int _⟩
 . exact nE s⟩
noncomputable def a8K:Option A1->V
 |some (A5 a)=>.ref a
 |_=>.non
def IsE(K:D4)(mg:Str->Option A1)(C:Addr)(s:Str)(b:Bool):Prop:=∃D,mg s=U (A5 D)/\cY K (A5 C) (A5 D)=U b/\cY K (E8 "NoneType") (A5 D)=U U'
inductive Ke(K:D4)(C:Addr):List (Str×Bool)->Prop
 |n:Ke K C []
 |c {s:Str}{b:Bool}{l:List (Str×Bool)}{D:Addr} (a:Z8 K U0 s=U (U<|A5 D)) (h:cY K (A5 C) (A5 D)=U b) (o:cY K (E8 "NoneType") (A5 D)=U U') (r:Ke K C l):Ke K C ((s,b)::l)
theorem Ke.at{K:D4}{h:Heap}{mg:Str->Option A1}(X:K.In h)(G:h.Ns U0 mg){C:Addr}{l:List (Str×Bool)}{s:Str}{b:Bool}(k:Ke K C l)(m:l.lookup s=U b):IsE K mg C s b:=by
 induction k with
 |n=>exact nE m
 | @c x y l D a h o _ j=>
  rw[qU]at m;cases e:s==x with
  |true=>rw[e]at m;cases m;exact⟨D,(Es e).symm▸tZ X G a,h,o⟩
  |false=>rw[e]at m;exact j m
def a3L{fr:Bool}(I:IsE X.K X.mg f m b)(hg:Gl X x)(hm:X.mg x=J)(hv:jO x=U (P5 "isinstance"))(h:PX X fr e G i6)(hc:Gl X m)(hn:autoParam (x ≠ "__name__") iJ)(hdb:autoParam (jj x) B7)(hdc:autoParam (jj m) B7)(hs1:autoParam (fS X e [G9 m g]) B7)(hs2:autoParam (fS X (G9 m g) []) B7)(hpl:autoParam (lF X z [G9 m g]) B7):
  PX X fr (L8 (G9 x p) [e,G9 m g] [] z) (Jf (Zx X.K f (a8K<|X.mg m) b)<|fj G<|fj (tC<|a8K<|X.mg m) pA) (kQ f b i6):=by obtain⟨D,C,h1,h0⟩:=I;rw[C];exact Th (λ_ h=>h) h1 h0 hg hm hv h (Gv hc C rfl hdc) hn hdb hs1 hs2 hpl
section
def Je(i:Nat)(f:Addr)(u:TE):TE:=λσ H Q=>σ[i]?=U (U<|.ref f)/\u σ H Q
def a0j{CX:vi}{fd:W4}{sp:Sp}(hv:PE X (G9 x p)<|S7 i)(F:Y6 X.prog X.w X.K X.mg X.base CX n f fd N sp)(hr:aG n X.A)(hk:dC X.K (A5 f)=Uf)(hb:Binds X.K fd N [])(hx:Passes CX X E)(ha:PA X (e::q) t)(he:autoParam (O7 (e::q) X.env=(U',eval e X.env)::O7 q X.env) B7)(hpl:autoParam ((bP g<|O7 q X.env).any (·.1)=U') B7):
  PE X (L8 (G9 x p) (e::q) [] g) (Je i f<|nK sp [] E t):=by
 intro pins s σ H Q I h;obtain⟨hs,h⟩:=h;refine uq<|M8 (hv pins s σ H (λv H'=>v=.ref f/\nK sp [] E t σ H' Q) I ⟨_,hs,rfl,h⟩) λu s1 ⟨v,H1,I1,r,ev,k⟩=>?_;subst ev;cases r;refine uo I1.ok.mod.yZ hk (M8 (ha g pins s1 σ H1 _ I1 k) λus s2 ⟨vs,H2,I2,r,k⟩=>⟨I2.bI,?_⟩) he hpl;exact Jt F hr hb P1 hx I2 r k
noncomputable def lC(i:Nat)(nm:Str)(f:List f9->Option PV)(Fl:Ds->Option (List f9)):Ds->Option PV:=λds=>match ds[i]? with
 |some (U<|.dat<|iN [(f6 n,F3)])=>if n=nm then(Fl ds).bind f else J
 |_=>J
def Dt.fnOf(h:Dt K a b8<|iN [(f6 x,F3)])(hn:Z8 K U0 x=U (U<|A5 f))(hne:x≠RC):b8=.ref f:=by
 generalize hd:PyData.dict [(f6 x,F3)]=d at h;cases h with
 |fn h=>
  injection hd with hd
  injection hd with h1 _
  injection h1 with h1 _
  injection h1 with h1
  subst h1;replace h:=h.resolve_right hne;rw[hn]at h;injection h with h
  injection h with h
  injection h with h
  rw[h]
 |exc _ _ _ _ _=>unfold dH at hd;injection hd with hd;injection hd with h1 _;injection h1 with h1 _;cases h1
 |_=>cases hd
set_option tactic.hygienic true in
def ZF{CX:vi}{fd:W4}{f':List f9->Option PV}(eK:X.K=K)(hn:Z8 K U0 m=U (U<|A5 f))(hv:PE X (G9 x p)<|S7 i)(G:Y6 X.prog X.w K X.mg X.base CX n f fd N<|vK K f')(hr:aG n X.A)(hk:dC K (A5 f)=Uf)(hb:Binds K fd N [])(hx:Passes CX X E)(ha:hV X b (e::q) t k7)(he:autoParam (O7 (e::q) X.env=(U',eval e X.env)::O7 q X.env) B7)(hpl:autoParam ((bP g<|O7 q X.env).any (·.1)=U') B7)(hne:autoParam (m≠RC) iJ):
  PX X b (L8 (G9 x p) (e::q) [] g) (Je i f<|nK (vK K f') [] E t) (lC i m f' k7):=by
 subst eK;refine⟨a0j hv G hr hk hb hx ha.p he hpl,?_⟩;intro O D8 as σ H ds pv Q S hf a;unfold lC at hf;split at hf
 . rename_i k hd;split at hf;rename_i en;subst en;obtain⟨v,e1,h⟩:=S.slot i _ hd;have:=h.fnOf hn hne;subst this;exact⟨e1,NN ha O D8 as σ H ds pv Q S hf a⟩;cases hf
 cases hf
noncomputable def vw(F1 F2:Ds->Option PV):Ds->Option PV:=λds=>match F1 ds with
 |some pv=>U pv
 |none=>F2 ds
set_option tactic.hygienic true in
def a6W{F2:Ds->Option PV}(h1:PX X b e G b6)(h2:PX X b e Y F2):PX X b e (λσ H Q=>G σ H Q\/Y σ H Q)<|vw b6 F2:=⟨by
 intro pins s σ H Q I h;rcases h with h|h
 exact h1.p pins s σ H Q I h
 . exact h2.p pins s σ H Q I h,by
 intro O D8 as σ H ds pv Q S hf q;unfold vw at hf;split at hf;rename_i pv' a;cases hf;exact B3<|h1.t O D8 as σ H ds _ Q S a q
 . exact B6<|h2.t O D8 as σ H ds _ Q S hf q⟩
end
noncomputable def pK:A1->Bool
 |F0=>Uf
 |_=>U'
noncomputable def sR:f9->Bool
 |F3=>Uf
 |E5 _=>Uf
 |p6 _=>Uf
 |f6 _=>Uf
 |B4 _=>Uf
 |_=>U'
def Up(I:Inv X l d a s)(hu:A.units<aQ)(h:Dt X.K a b8 b5)(r:RelV b8 u)(hp:sR b5=Uf):Ez A s u F0 (pK u)/\pK u=K7 b5:=by
 cases h with
 |non=>cases r;exact⟨Wi _,rfl⟩
 |bl b=>cases r;exact⟨Xz b,rfl⟩
 |int i=>obtain⟨t,rfl⟩:=r;exact⟨Xo i t,rfl⟩
 |str y=>obtain⟨t,rfl⟩:=r;exact⟨Xn y t,rfl⟩
 |tup h t=>
  cases r;obtain⟨its,rv,pl,_⟩:=I.tuple h;exact⟨SeqAt.EqAt.tuple_none pl hu,rfl⟩
 |_=>cases hp
theorem JU{X:Cx}{pins:List (Addr×Obj)}{σ:St}{H:Hp}{s:C5}{A:X1}(I:Inv X pins σ H s)(hu:A.units<aQ):∀{xs:List V}{us:List A1}{l:List f9},N2 X.K H xs l->Vals xs us->l.all sR=Uf->(∀u∈us,Ez A s u F0<|pK u)/\us.any pK=l.any K7
 |_,_,_,.nil,P1,_=>⟨λu hu=>(by cases hu),rfl⟩
 |_,_,_,.cons h t,N8 r rr,g=>by
  rw[fZ,fu]at g;obtain⟨a1,a2⟩:=Up I hu h r g.1;obtain⟨b1,b2⟩:=JU I hu t rr g.2;refine⟨λu' hu'=>?_,by rw[oA,oA,a2,b2]⟩
  rcases List.mem_cons.mp hu' with rfl|z
  exact a1;exact b1 u' z
def Of(K:D4):R2:=λx y H Q=>∃p xs l,x=.non/\y=.ref p/\X6 K H p xs/\N2 K H xs l/\l.all sR=Uf/\Q (.bl<|l.any K7) H
def Ub(hu:X.A.in1.units<aQ):X4 X (V9 wJ)<|Of X.K:=by
 intro pins s σ H x y v u Q I rx ry h;obtain⟨p,xs,l,rfl,rfl,hq,hd,hp,q⟩:=h;cases rx;cases ry;obtain⟨its,r,pl,hz⟩:=I.list hq;obtain⟨a1,a2⟩:=JU I hu hd r hp;refine Wh pK pl.isList (λw hw=>a1 w<|by simpa using hw) ⟨.bl _,H,I,rfl,?_⟩;rw[show its.toArray.any pK=its.any pK by simp,a2];exact q
def vQ:f9->f9->Option PV
 |F3,B8 l=>if l.all sR=Uf then U (.dat<|E5<|l.any K7)else J
 |_,_=>J
set_option tactic.hygienic true in
def YC:aZ K (Of K) vQ:=by
 intro O va H x y d e pv Q D hx hy hf q;cases hx with
 |non=>
  cases hy with
  |lst hs ht=>
   rename_i a xs l;have hf':(if l.all sR=Uf then U (PV.dat<|E5<|l.any K7)else J)=U pv:=hf;split at hf';rename_i hc;cases hf';exact⟨a,xs,l,rfl,rfl,L1.seq hs,ht.same L1,hc,q _ H (C8.refl H)<|Dt.bl _⟩;cases hf'
  |_=>cases hf
 |_=>cases hf
def a0R(h:A.units+64<aQ):A.in1.units<aQ:=by lia
abbrev rJoin(K:D4):V->List V->Hp->VK->Prop:=λx xs H Q=>∃z a ts,x=.str z/\xs=[.ref a]/\X6 K H a (ts.map V.str)/\jF z ts=Uf/\Q (.str<|aR z ts) H
section
variable{r:V->List V->Hp->VK->Prop}
def yR{name:Str}{id:String}{f:f9->List f9->Option PV}(eK:X.K=K)(slot:Slot "str" name id)(hty:typeOf (P5 id)=pure (E8 "method_descriptor"))(hm:BS X id r)(hr:LB K r f)(hs0:∀d l pv,f d l=U pv->∃z,d=f6 z)(ho:PX X b o G b6)(ha:hV X b (e::q) t k7)(bm:autoParam (Gj X o name p e q g) qI):
  PX X b (L8 (Q0 o name p) (e::q) [] g) (Bw K "str" r G t) (U6 f b6 k7):=by subst eK;exact a9S slot hty hm hr hs0 ho ha bm
end
end L2
namespace Law
open PySem L2
structure hW where
 t:Addr
 l:Addr
 k:Addr
noncomputable section
noncomputable abbrev zC:f9:=f6 "0123456789"
noncomputable abbrev pQ:f9:=p6 60
noncomputable abbrev az:f9:=B4 [(p6 0),(p6 1)]
noncomputable abbrev O5:f9:=B4 [(p6 0),(p6 1)]
noncomputable abbrev zz:f9:=B4 [(p6 0),(p6 0),(p6 0),(p6 0)]
noncomputable abbrev zx:f9:=B4 [(B4 []),(f6 "sun"),(f6 "need"),(f6 "wait")]
noncomputable abbrev zB:f9:=p6 24
noncomputable abbrev zA:f9:=p6 6
noncomputable abbrev gM:f9:=p6 1000000
noncomputable abbrev yo:f9:=p6 1000
noncomputable abbrev gp:f9:=p6 8
noncomputable abbrev kR:f9:=f6 "abcdefghijklmnopqrstuvwxyz"
abbrev ro:f9:=B4 [(ej "read_amount"),(ej "read_amount"),(ej "read_amount"),(ej "read_amount"),(ej "read_share"),(ej "read_share"),(ej "read_amount")]
abbrev jB:f9:=B4 [(ej "read_amount"),(ej "read_amount")]
abbrev tI:f9:=B4 [(ej "read_price"),(ej "read_amount"),(ej "read_price"),(ej "read_amount")]
abbrev tG:f9:=B4 [(ej "read_name"),(ej "read_amount"),(ej "read_amount"),(ej "read_amount"),(ej "read_amount")]
noncomputable abbrev tH:f9:=p6 20
noncomputable abbrev jA:f9:=p6 6
noncomputable abbrev iZ:f9:=p6 1000000
noncomputable abbrev gN:f9:=B4 [(f6 "dark"),(f6 "sunny")]
noncomputable abbrev gO:f9:=B4 [(f6 "from"),(f6 "till"),(f6 "over"),(f6 "under")]
noncomputable abbrev iI:f9:=B4 [(f6 "dear"),(f6 "cheap")]
noncomputable abbrev nZ:f9:=B4 [(f6 "none"),(f6 "sun"),(f6 "line")]
noncomputable abbrev nY:f9:=B4 [(f6 "none"),(f6 "need"),(f6 "give")]
noncomputable abbrev nX:f9:=B4 [(f6 "now"),(f6 "wait")]
noncomputable abbrev oa:f9:=p6 6
noncomputable abbrev Em:f9:=p6 1000000
noncomputable abbrev ft:f9:=p6 8
noncomputable abbrev wc:f9:=f6 "abcdefghijklmnopqrstuvwxyz"
noncomputable abbrev cK:f9:=B4 [(f6 "keeper"),(f6 "drop"),(f6 "day"),(f6 "costs")]
abbrev C7:=C4 0
abbrev E3:=C4 1
abbrev F8:=C4 2
abbrev L4:=C4 3
abbrev T5:=C4 4
abbrev ja:=C4 5
abbrev sN:=C4 6
abbrev sM:=C4 7
abbrev sJ:=C4 8
abbrev NW:=C4 9
abbrev vp:=C4 10
abbrev Cb:=C4 12
abbrev J9:=fC<|p6 0
abbrev F7:=fC<|p6 1
abbrev W3:=fC<|p6 2
abbrev gw:=fC<|p6 3
abbrev lg:=fC<|p6 4
abbrev BB:=fC<|p6 5
abbrev sW:=fC<|p6 6
abbrev nu7:=fC<|p6 7
abbrev nu9:=fC<|p6 9
abbrev a0s:=fC<|p6 13
abbrev a0r:=fC<|p6 27
abbrev a0q:=fC<|p6 60
abbrev GA:=fC<|p6 65497
abbrev V0:=fC F3
abbrev E9(a:Ds->Option PV):=A7 a D0
abbrev E7(a b:Ds->Option PV):=A7 a<|A7 b D0
abbrev hU(a b c:Ds->Option PV):=A7 a<|A7 b<|A7 c D0
abbrev yq(a b c d:Ds->Option PV):=A7 a<|A7 b<|A7 c<|A7 d D0
abbrev Pt(a b c d e:Ds->Option PV):=A7 a<|A7 b<|A7 c<|A7 d<|A7 e D0
abbrev Ie(a b c d e f:Ds->Option PV):=A7 a<|A7 b<|A7 c<|A7 d<|A7 e<|A7 f D0
abbrev A8:=A2 J2
abbrev aP:=A2 sY
def df:=B5<|A2 V6 E3 J9
def gj:=A4 (B0 2<|A2 Q1 C7 E3)<|A4 (B0 0 E3)<|B0 1 F8
def au:=N1 2 3<|A4 (lu (xK 1) df gj)<|bK 0
def iv:=N1 2 3<|A4 (J4 (B5<|A2 J5 E3 J9) fP D9)<|A4 (B0 2<|A0 au<|E7 (A0 vy<|E9 C7)<|A0 vy<|E9 E3)<|A4 (J4 (B5<|A2 jd E3 J9) (B0 2<|qF kO F8) D9)<|D7<|M4<|E7 (A2 cv C7 F8)<|A2 cv E3 F8
def Y4:=J4 (B5<|A2 (O2 U5 R8) E3<|fC zC) (D7 V0) D9
def eI:=N1 1 2<|A4 (J4 (V1 (B5<|A2 J5 C7<|fC<|f6 "")<|B5<|A2 lq (A0 N5<|E9 C7)<|fC pQ) (D7 V0) D9)<|A4 (bc (bW C7) (K5 1) Y4)<|D7<|A0 (qD intD jf)<|E9 C7
def mD:=N1 1 2<|A4 (J4 (ip<|B5<|U6 pB C7<|E9<|fC<|f6 "-") (D7<|A0 eI<|E9 C7) D9)<|A4 (B0 1<|A0 eI<|E9<|ai K6 C7 (L5 F7) Q6)<|A4 (J4 (B5<|A2 cS E3 V0) (D7 V0) D9)<|D7<|qF kO E3
def kC:=B5<|A2 HQ L4 E3
def xo:=A4 (ij 2<|U6 vC (A0 kN<|E9<|A2 Q1 L4 E3)<|E9 a0q)<|B0 3<|A2 cv L4 E3
def jX:=N1 1 4<|A4 (B0 1<|A2 QC (fC<|p6 10) a0q)<|A4 (fB 2<|G4 D0)<|A4 (B0 3 C7)<|A4 (lu (xK 3) kC xo)<|A4 (ij 2<|A0 kN<|E9 L4)<|A4 (rJ 2 List.reverse)<|D7<|ay<|U6 bx (fC<|f6 "")<|E9 F8
def cZ:=N1 1 2<|A4 (B0 1<|A0 jX<|E9<|A0 vy<|E9<|A8 C7 J9)<|A4 (J4 (B5<|A2 jd (A8 C7 J9) J9) (B0 1<|A2 D5 (fC<|f6 "-") E3) D9)<|A4 (J4 (B5<|A2 V6 (A8 C7 F7) F7) (B0 1<|A2 D5 (A2 D5 E3<|fC<|f6 "/")<|A0 jX<|E9<|A8 C7 F7) D9)<|bK 1
def bS:=N1 1 5<|A4 (B0 1<|U6 xG C7<|E9<|fC<|f6 "/")<|A4 (B0 2<|A0 mD<|E9<|A8 E3 J9)<|A4 (B0 3 F7)<|A4 (J4 (B5<|A2 J5 (A8 E3 F7)<|fC<|f6 "/") (B0 3<|A0 eI<|E9<|A8 E3 W3) D9)<|A4 (J4 (V1 (B5<|A2 cS F8 V0)<|V1 (B5<|A2 cS L4 V0)<|B5<|A2 J5 L4 J9) (D7 V0) D9)<|A4 (B0 4<|A0 iv<|E7 F8 L4)<|A4 (J4 (B5<|A2 V6 (A0 cZ<|E9 T5) C7) (D7 V0) D9)<|bK 4
def gY:=N1 2 3<|A4 (B0 2<|A0 bS<|E9 C7)<|A4 (J4 (V1 (B5<|A2 cS F8 V0)<|V1 (B5<|A2 V6 (A8 F8 F7) F7)<|V1 (B5<|A2 jd (A8 F8 J9) E3)<|B5<|A2 lq (A8 F8 J9)<|fC gM) (D7 V0) D9)<|D7<|A8 F8 J9
def fG:=N1 1 1<|D7<|A0 gY<|E7 C7 J9
def fJ:=J4 (B5<|A2 (O2 U5 R8) E3<|fC kR) (D7 V0) D9
def qk:=N1 1 2<|A4 (J4 (V1 (B5<|A2 J5 C7<|fC<|f6 "")<|B5<|A2 lq (A0 N5<|E9 C7)<|fC gp) (D7 V0) D9)<|A4 (bc (bW C7) (K5 1) fJ)<|bK 0
def oR:=N1 1 1<|D7<|A0 gY<|E7 C7<|qF kO<|fC gM
def oQ:=N1 1 2<|A4 (B0 1<|A0 bS<|E9 C7)<|A4 (J4 (V1 (B5<|A2 cS E3 V0)<|V1 (B5<|A2 pq (A8 E3 J9) J9)<|V1 (B5<|A2 lq (A8 E3 J9)<|A8 E3 F7)<|B5<|A2 lq (A8 E3 F7)<|fC yo) (D7 V0) D9)<|bK 1
def bw:=vw (lC 0 "read_amount" fG<|E9 E3)<|vw (lC 0 "read_name" qk<|E9 E3)<|vw (lC 0 "read_price" oR<|E9 E3)<|lC 0 "read_share" oQ<|E9 E3
def aq:=N1 2 3<|A4 (J4 (B5<|A2 V6 (A0 N5<|E9 C7)<|A0 N5<|E9 E3) (D7 V0) D9)<|A4 (B0 2<|Y8 (jg nH<|E7 E3 C7) (ke 2) M3 bw)<|A4 (J4 (B5<|A2 vQ V0 F8) (D7 V0) D9)<|D7<|A0 iX<|E9 F8
def bE:=N1 1 3<|A4 (B0 1<|A0 aq<|E7 (ai K6 C7 (L5 F7)<|L5 gw)<|fC jB)<|A4 (J4 (V1 (B5<|A2 V6 (A8 C7 J9)<|fC<|f6 "hour")<|B5<|A2 cS E3 V0) (D7 V0) D9)<|A4 (J4 (B5<|A2 J5 (ai K6 C7 (L5 gw) Q6)<|G4<|E9<|fC<|f6 "dark") (D7<|A2 D5 E3<|M4<|E9 V0) D9)<|A4 (B0 2<|A0 aq<|E7 (ai K6 C7 (L5 lg) Q6)<|fC tI)<|A4 (J4 (V1 (B5<|A2 V6 (ai K6 C7 (L5 gw)<|L5 lg)<|G4<|E9<|fC<|f6 "line")<|B5<|A2 cS F8 V0) (D7 V0) D9)<|D7<|A2 D5 E3<|M4<|E9 F8
def aA:=A4 (B0 3<|A0 bE<|E9 F8)<|A4 (J4 (B5<|A2 cS L4 V0) (bK 1) D9)<|ij 1 L4
def oU:=N1 1 4<|A4 (fB 1<|G4 D0)<|A4 (bc (bW<|ai K6 C7 Q6<|L5<|fC zB) (K5 2) aA)<|bK 1
def oP:=N1 1 2<|A4 (B0 1<|A0 aq<|E7 (ai K6 C7 (L5 F7) Q6)<|fC ro)<|A4 (J4 (V1 (B5<|A2 V6 (A8 C7 J9)<|fC<|f6 "store")<|V1 (B5<|A2 cS E3 V0)<|B5<|A2 lq (A8 E3 F7)<|A8 E3 J9) (D7 V0) D9)<|bK 1
def qj:=N1 2 3<|A4 (B0 2<|A0 aq<|E7 (ai K6 C7 (L5 F7) Q6)<|fC tG)<|A4 (J4 (V1 (B5<|A2 V6 (A8 C7 J9)<|fC<|f6 "work")<|B5<|A2 cS F8 V0) (D7 V0) D9)<|A4 (J4 (V1 (B5<|A2 lq (A8 F8 W3)<|A8 F8 gw)<|B5<|A2 HQ (A8 F8 gw) E3) (D7 V0) D9)<|bK 2
def hJ:=A4 (B0 5<|A0 qj<|E7 T5 E3)<|A4 (J4 (V1 (B5<|A2 cS ja V0)<|B5<|A2 (O2 inD U3) (ay<|A8 ja J9)<|ay L4) (bK 2) D9)<|A4 (ij 2 ja)<|ij 3<|A8 ja J9
def oO:=N1 2 6<|A4 (fB 2<|G4 D0)<|A4 (fB 3<|G4 D0)<|A4 (bc (bW<|ai K6 C7 Q6<|L5<|fC zA) (K5 4) hJ)<|bK 2
def yj:=U6 dJ C7<|E9<|fC<|f6 " "
def AD:=N1 1 6<|A4 (B0 1<|Y8 (bW C7) M0 M3 yj)<|A4 (B0 2<|BL (B5<|A2 J5 E3<|G4 D0) V0<|A0 oP<|E9<|A8 E3 J9)<|A4 (J4 (B5<|A2 cS F8 V0) fP D9)<|A4 (B0 3<|A0 oU<|E9<|ai K6 E3 (L5 F7) Q6)<|A4 (J4 (B5<|A2 J5 L4<|G4 D0) fP D9)<|A4 (B0 4<|A0 oO<|E7 (ai K6 E3 (L5<|A2 D5 F7<|A0 N5<|E9 L4) Q6)<|A0 N5<|E9 L4)<|A4 (B0 5<|A2 D5 (A2 D5 F7<|A0 N5<|E9 L4)<|A0 N5<|E9 T5)<|A4 (J4 (B5<|A2 jd ja<|A0 N5<|E9 E3) fP D9)<|D7<|M4<|hU (A0 iX<|E9 L4) F8<|A0 iX<|E9 T5
def fH:List PV->Option (PV×Ds):=BK 2 2<|A4 (Ea "Desk" 0 "house" a1o<|A0 AD<|E9 E3)<|Ea "Desk" 0 "keepers" IE Eg
def cG:=N1 2 5<|A4 (B0 2<|A0 au<|E7 (A8 C7 F7)<|A8 E3 F7)<|A4 (B0 3<|A2 D5 (aP (A8 C7 J9)<|A2 cv (A8 E3 F7) F8)<|aP (A8 E3 J9)<|A2 cv (A8 C7 F7) F8)<|A4 (B0 4<|A0 au<|E7 (A0 vy<|E9 L4) F8)<|D7<|M4<|E7 (A2 cv L4 T5)<|aP (A2 cv (A8 C7 F7) F8)<|A2 cv (A8 E3 F7) T5
def Bo:=N1 2 2<|D7<|M4<|hU (A0 cG<|E7 (A8 C7 J9)<|A8 E3 J9) (A0 cG<|E7 (A8 C7 F7)<|A8 E3 F7)<|A0 cG<|E7 (A8 C7 W3)<|A8 E3 W3
def X8:=N1 2 2<|D7<|A0 cG<|E7 C7<|M4<|E7 (qF kO<|A8 E3 J9)<|A8 E3 F7
def cL:=N1 2 5<|A4 (B0 2<|A0 au<|E7 (A0 vy<|E9<|A8 C7 J9)<|A8 E3 F7)<|A4 (B0 3<|A0 au<|E7 (A0 vy<|E9<|A8 E3 J9)<|A8 C7 F7)<|A4 (B0 4<|aP (A2 cv (A8 C7 J9) F8)<|A2 cv (A8 E3 J9) L4)<|D7<|M4<|E7 T5<|aP (A2 cv (A8 C7 F7) L4)<|A2 cv (A8 E3 F7) F8
def rR:=N1 2 2<|A4 (J4 (B5<|A2 cS C7 V0) (D7<|fC az) D9)<|D7<|A0 X8<|E7 (A0 cL<|E7 (M4<|E7 (A8 C7 J9) F7)<|A8 E3 J9)<|A0 cL<|E7 (M4<|E7 (A8 C7 W3) F7)<|A8 E3 F7
def kE:=B0 2<|A0 cG<|E7 F8 L4
def oW:=N1 2 4<|A4 (B0 2<|fC az)<|A4 (bc (bW<|A8 E3 BB) (K5 3) kE)<|D7<|M4<|hU (A8 E3 lg) (A0 X8<|E7 (fC az) F8)<|A0 rR<|E7 (A8 C7 W3) E3
def uZ:=N1 3 5<|A4 (B0 3<|A0 X8<|E7 (A8 C7 W3)<|A0 cL<|E7 E3<|A8 C7 W3)<|A4 (B0 4<|A0 X8<|E7 (A8 C7 gw)<|A0 cL<|E7 F8<|A8 C7 gw)<|D7<|A0 cG<|E7 L4 T5
def pe:=B0 3<|A0 cG<|E7 L4 T5
def pa:=B0 3<|A0 X8<|E7 L4 T5
def rO:=N1 3 5<|A4 (B0 3<|M4<|E7 (A2 kM (A8 C7 J9)<|A8 C7 F7) F7)<|A4 (bc (bW<|M4<|hU (A8 E3 J9) (A8 E3 lg)<|A0 cL<|E7 F8<|A8 E3 gw) (K5 4) pe)<|A4 (bc (bW<|A2 D5 (M4<|E7 (A8 E3 F7)<|A8 E3 W3)<|A8 E3 BB) (K5 4) pa)<|bK 3
def rW:=A4 (B0 5<|A0 X8<|E7 (A0 cG<|E7 ja<|A0 cL<|E7 L4<|A8 sJ W3)<|A8 sJ gw)<|ij 6<|M4<|hU (A0 rO<|hU sM sJ T5) (A0 uZ<|hU sJ L4 T5) ja
def ye:=N1 2 9<|A4 (B0 2<|A8 C7 F7)<|A4 (B0 3<|A8 F8 lg)<|A4 (B0 4<|A8 F8 BB)<|A4 (B0 5<|M4<|E7 (A8 F8 F7) F7)<|A4 (fB 6<|G4 D0)<|A4 (bc (jg nH<|E7 (A8 C7 J9) E3) (mJ 2<|aw 7<|aw 8 mK) rW)<|bK 6
def rk:=B0 3<|A8 T5 W3
def vh:=A8 C7 F7
def vm:=B0 6<|A0 Bo<|E7 sN<|A0 oW<|E7 sM sJ
def pZ:=N1 2 9<|A4 (B0 2<|A8 C7 F7)<|A4 (B0 3<|M4<|E7 (A8 F8 F7) F7)<|A4 (bc (bW<|A0 ye<|E7 C7 E3) (K5 4) rk)<|A4 (B0 5<|A0 Qb<|E9<|Y8 (bW<|A8 C7 W3) M0 M3 vh)<|A4 (B0 6<|M4<|hU (fC az) (M4<|E7 ja F7)<|A0 X8<|E7 (fC az)<|A0 cL<|E7 (M4<|E7 (A8 F8 sW) F7) L4)<|A4 (bc (jg nH<|E7 (A8 C7 J9) E3) (mJ 2<|aw 7<|aw 8 mK) vm)<|bK 6
def ku:=N1 2 2<|D7<|A2 jd (aP (A8 C7 J9)<|A8 E3 F7)<|aP (A8 E3 J9)<|A8 C7 F7
def iQ:=N1 1 1<|D7<|BL (B5<|A0 ku<|E7 C7<|fC O5) (fC O5) C7
def gq:=N1 2 2<|D7<|BL (B5<|A0 ku<|E7 C7 E3) C7 E3
def AE:=N1 2 2<|A4 (J4 (B5<|A2 J5 (A8 E3 J9) J9) fP D9)<|D7<|A0 cL<|E7 C7<|A0 iv<|E7 (A8 E3 F7)<|A8 E3 J9
def ql:=N1 4 5<|A4 (J4 (V1 (B5<|A2 J5 F8<|fC<|f6 "none")<|B5<|A2 V6 L4<|fC O5) (D7<|fC O5) D9)<|A4 (B0 4<|A0 iQ<|E9<|A0 X8<|E7 (M4<|E7 (A8 C7 J9) F7) E3)<|D7<|A0 gq<|E7 (M4<|E7 (A8 C7 W3) F7)<|A0 AE<|E7 T5<|A8 C7 lg
def rP:=N1 3 3<|A4 (J4 (B5<|A2 J5 F8<|fC<|f6 "none") (D7<|fC O5) D9)<|D7<|A0 cL<|E7 (A8 C7 BB)<|A0 gq<|E7 (M4<|E7 (A8 C7 gw) F7) E3
def kD:=A4 (B0 5<|A0 gq<|E7 T5 L4)<|A4 (ij 2 ja)<|B0 3<|A0 X8<|E7 L4 ja
def bR:=N1 2 6<|A4 (fB 2<|G4 D0)<|A4 (B0 3 E3)<|A4 (bc (bW C7) (K5 4) kD)<|bK 2
def vj:=B0 1<|A0 cG<|E7 E3 F8
def sA:=N1 1 3<|A4 (B0 1<|fC O5)<|A4 (bc (bW C7) (K5 2) vj)<|bK 1
def oX:=N1 5 20<|A4 (B0 5<|BL (B5<|A2 cS (A8 C7 W3) V0) (fC zz)<|A8 C7 W3)<|A4 (B0 6<|M4<|E7 (A8 C7 J9) F7)<|A4 (B0 7<|M4<|E7 (A8 C7 F7) F7)<|A4 (B0 8<|M4<|E7 (A8 ja F7) F7)<|A4 (B0 9<|M4<|E7 (A8 ja gw) F7)<|A4 (B0 10<|A0 rP<|hU E3 F8<|A8 L4 W3)<|A4 (B0 11<|A0 bR<|E7 (A2 D5 (G4<|E9 sM) T5)<|A0 sA<|E9<|G4<|hU sN sJ vp)<|A4 (B0 12<|A0 bR<|E7 (G4<|hU sN vp sJ)<|A0 sA<|E9<|C4 11)<|A4 (B0 13<|BL (B5<|A2 J5 (A8 L4 W3)<|fC<|f6 "give") (A0 gq<|E7 (A0 X8<|E7 vp<|A8 Cb F7) NW)<|fC O5)<|A4 (B0 14<|A0 AE<|E7 (A0 cG<|E7 (A8 Cb F7)<|C4 13)<|A8 E3 BB)<|A4 (B0 15<|A0 X8<|E7 sN<|A8 Cb J9)<|A4 (B0 16<|BL (B5<|A2 J5 (A8 L4 F7)<|fC<|f6 "line") (A0 X8<|E7 sJ<|A8 Cb W3)<|fC O5)<|A4 (B0 17<|A0 bR<|E7 (G4<|E7 (C4 15)<|C4 16)<|A0 ql<|yq E3 F8 (A8 L4 F7)<|C4 14)<|A4 (B0 18<|A0 gq<|E7 (A0 X8<|E7 (C4 15)<|A8 (C4 17) J9)<|A0 X8<|E7 NW<|C4 13)<|A4 (B0 19<|M4<|E7 (A0 cG<|E7 (A8 Cb W3)<|A8 (C4 17) F7)<|A0 cG<|E7 (C4 13)<|C4 18)<|D7<|A2 D5 (C4 19)<|M4<|yq (A0 sA<|E9<|C4 17) (C4 14) (A0 X8<|E7 sM<|A8 (C4 11) J9)<|A0 iX<|E9<|ai K6 (C4 11) (L5 F7) Q6
def oV:=N1 2 2<|A4 (J4 (B5<|A2 cS E3 V0) (D7<|fC<|E5 U') D9)<|D7<|BL (B5<|A2 J5 (A8 C7 J9)<|fC<|f6 "dear") (A2 HQ (A8 E3 J9)<|A8 C7 F7)<|A2 pq (A8 E3 J9)<|A8 C7 F7
def hI:=N1 4 5<|A4 (B0 4<|A8 C7 J9)<|A4 (J4 (B5<|A2 J5 T5<|fC<|f6 "dark") (D7<|A2 cS (A8 F8 W3) V0) D9)<|A4 (J4 (B5<|A2 J5 T5<|fC<|f6 "sunny") (D7<|A2 HQ (A8 F8 J9)<|A8 F8 F7) D9)<|A4 (J4 (B5<|A2 J5 T5<|fC<|f6 "from") (D7<|A2 HQ E3<|A8 C7 F7) D9)<|A4 (J4 (B5<|A2 J5 T5<|fC<|f6 "till") (D7<|A2 pq E3<|A8 C7 F7) D9)<|A4 (J4 (B5<|A2 J5 T5<|fC<|f6 "over") (D7<|A0 ku<|E7 (M4<|E7 (A8 C7 F7) F7) L4) D9)<|A4 (J4 (B5<|A2 J5 T5<|fC<|f6 "under") (D7<|A0 ku<|E7 L4<|M4<|E7 (A8 C7 F7) F7) D9)<|D7<|A0 oV<|E7 C7<|A8 F8 W3
def oY:=A0 hI<|yq C7 F8 L4 T5
def pf:=J4 (B5<|A0 yb<|E9<|Y8 (bW<|A8 T5 J9) M0 M3 oY) (bK 4) D9
def oN:=N1 4 5<|A4 (bc (bW C7) (K5 4) pf)<|D7<|fC zx
def uY:=N1 4 6<|A4 (J4 (V1 (B5<|A2 jd E3<|A8 C7 W3)<|B5<|A2 lq E3<|A8 C7 gw) (D7<|fC O5) D9)<|A4 (B0 4 F8)<|A4 (J4 (B5<|A2 J5 L4<|fC<|f6 "wait") (A4 (B0 5<|aP (A8 C7 lg)<|A2 kM (A8 C7 gw) E3)<|B0 4<|A0 iQ<|E9<|A0 X8<|E7 F8<|M4<|E7 ja F7) D9)<|D7<|A0 gq<|E7 T5<|M4<|E7 (A8 C7 lg) F7
def rV:=M4<|E7 (A8 C7 F7) F7
def rT:=A0 uY<|yq C7 sJ E3<|A8 vp gw
def rS:=A0 X8<|E7 C7 E3
def rY:=A4 (B0 8<|A0 oN<|yq E3 sN sM L4)<|A4 (B0 9<|Y8 (jg nH<|E7 (A8 C7 W3) T5) (ke 2) M3 rT)<|A4 (B0 10<|A0 oX<|Pt sM F8 L4 sJ NW)<|A4 (ij 5 vp)<|A4 (B0 3<|A0 X8<|E7 (A0 cG<|E7 L4<|A0 cL<|E7 (A8 F8 lg)<|A8 vp W3)<|A8 vp gw)<|B0 4<|Y8 (jg nH<|E7 T5<|A8 vp BB) (ke 2) M3 rS
def uE:=N1 2 11<|A4 (B0 2<|A8 C7 F7)<|A4 (B0 3<|M4<|E7 (A8 F8 F7) F7)<|A4 (B0 4<|Y8 (bW<|A8 C7 W3) M0 M3 rV)<|A4 (fB 5<|G4 D0)<|A4 (bc (jg xS<|E9<|A8 C7 J9) (mJ 2<|aw 6<|aw 7 mK) rY)<|D7<|ay<|A0 iX<|E9 ja
def gh:=A0 cZ<|E9 C7
def ar:=N1 1 1<|D7<|U6 bx (fC<|f6 " ")<|E9<|Y8 (bW C7) M0 M3 gh
def fI:=A0 cZ<|E9<|M4<|E7 C7 F7
def bY:=A4 (ij 1<|A8 F8 J9)<|GS 1<|Y8 (bW<|ai K6 F8 (L5 F7) Q6) M0 M3 fI
def qi:=N1 1 3<|A4 (fB 1<|G4<|E9<|fC<|f6 "when")<|A4 (bc (bW<|A8 C7 J9) (K5 2) bY)<|D7<|ay<|U6 bx (fC<|f6 " ")<|E9<|A2 D5 E3<|G4<|Ie (fC<|f6 "fill") (A8 C7 F7) (fC<|f6 "take") (A8 C7 W3) (fC<|f6 "works")<|A8 C7 gw
def iw:=A0 qi<|E9 C7
def eG:=N1 1 1<|D7<|Y8 (bW C7) M0 M3 iw
def aH(E:hW):px:=tA 3 5<|A4 (B0 3<|Eh 0 (CJ "Desk" "keepers") F8)<|A4 (J4 (B5<|A2 cS L4 V0) (mz cD E.k "name"<|A7 F8 D0) D9)<|A4 (J4 (B5<|A2 J5 E3<|fC<|f6 "drop") (A4 fP fP) D9)<|A4 (J4 (B5<|A2 J5 E3<|fC<|f6 "keeper") (kg<|A0 eG<|A7 L4 D0) D9)<|A4 (B0 4<|A0 uE<|A7 (xP "Desk" 0 "house")<|A7 L4 D0)<|A4 (J4 (B5<|A2 J5 E3<|fC<|f6 "day") fP D9)<|kg<|G4<|A7 (A0 ar<|A7 (A0 pZ<|A7 (xP "Desk" 0 "house")<|A7 T5 D0) D0) D0
def iy:=A0 cZ<|E9<|M4<|E7 C7 F7
def pW:=N1 2 7<|A4 (B0 3<|Y8 (jg rm<|E9<|A0 N5<|E9<|A8 C7 J9) M0 M3 iy)<|A4 (B0 4<|A0 bS<|E9<|A8 E3 F7)<|A4 (J4 (V1 (B5<|A2 (O2 U5 R8) (A8 E3 J9) L4)<|V1 (B5<|A2 cS T5 V0)<|V1 (B5<|A2 V6 (A8 T5 F7) F7)<|B5<|A2 jd (A8 T5 J9) J9) (D7 V0) D9)<|A4 (B0 2<|U6 vY L4<|E9<|A8 E3 J9)<|A4 (B0 5<|A8 (A8 C7 J9) F8)<|A4 (B0 6<|A2 D5 (A8 ja J9)<|A8 T5 J9)<|A4 (J4 (B5<|A2 lq sN<|fC Em) (D7 V0) D9)<|D7<|A2 D5 (M4<|E9<|A2 D5 (A2 D5 (ai K6 (A8 C7 J9) Q6<|L5 F8)<|M4<|E9<|A2 D5 (M4<|E9 sN)<|ai K6 ja (L5 F7) Q6)<|ai K6 (A8 C7 J9) (L5<|A2 D5 F8 F7) Q6)<|ai K6 C7 (L5 F7) Q6
def kU(E:hW):px:=tA 3 4<|A4 (B0 3<|A0 pW<|A7 (xP "Desk" 0 "house")<|A7 F8 D0)<|A4 (J4 (B5<|A2 cS L4 V0) (mz cD E.l "line"<|A7 E3 D0) D9) fP
def gZ:=N1 1 2<|A4 (J4 (B5<|A2 V6 (zj yK C7 (L5 J9) Q6<|L5 W3)<|G4<|hU (fC<|f6 "fill") (fC<|f6 "take")<|fC<|f6 "works") (D7 V0) D9)<|A4 (B0 1<|A0 iX<|E9<|zj yK C7 (L5 F7) Q6<|L5 W3)<|A4 (J4 (V1 (B5<|A2 (O2 U5 R8) (A8 E3 J9)<|fC nZ)<|V1 (B5<|A2 (O2 U5 R8) (A8 E3 F7)<|fC nY)<|B5<|A2 (O2 U5 R8) (A8 E3 W3)<|fC nX) (D7 V0) D9)<|bK 1
def da:=N1 2 3<|A4 (B0 2<|A0 bS<|E9 C7)<|A4 (J4 (V1 (B5<|A2 cS F8 V0)<|V1 (B5<|A2 V6 (A8 F8 F7) F7)<|V1 (B5<|A2 jd (A8 F8 J9) E3)<|B5<|A2 lq (A8 F8 J9)<|fC iZ) (D7 V0) D9)<|D7<|A8 F8 J9
def Z0:=N1 1 2<|A4 (J4 (B5<|A2 (O2 inD U3) (A8 C7 J9)<|fC gN) (D7<|M4<|E9<|A8 C7 J9) D9)<|A4 (B0 1 V0)<|A4 (J4 (dV (B5<|A2 (O2 inD U3) (A8 C7 J9)<|fC gO)<|B5<|A2 lq (A0 N5<|E9 C7) F7) (B0 1<|A0 da<|E7 (A8 C7 F7) J9) D9)<|A4 (J4 (dV (B5<|A2 (O2 inD U3) (A8 C7 J9)<|fC iI)<|B5<|A2 lq (A0 N5<|E9 C7) F7) (B0 1<|A0 da<|E7 (A8 C7 F7)<|qF kO<|fC iZ) D9)<|A4 (J4 (B5<|A2 cS E3 V0) (D7 V0) D9)<|D7<|M4<|E7 (A8 C7 J9) E3
def N3:=B5<|A2 jd F8<|A0 N5<|E9 C7
def O8:=A4 (B0 3<|A0 Z0<|E9<|ai K6 C7 (L5 F8) Q6)<|A4 (J4 (V1 (B5<|A2 cS L4 V0)<|B5<|A2 J5 (ay<|A0 N5<|E9 E3)<|ay<|fC jA) (D7 V0) D9)<|A4 (ij 1 L4)<|B0 2<|A2 D5 F8<|A0 N5<|E9 L4
def jW:=N1 1 4<|A4 (fB 1<|G4 D0)<|A4 (B0 2 J9)<|A4 (lu (QO 0) N3 O8)<|D7<|ay<|A0 iX<|E9 E3
def bD:=N1 1 4<|A4 (B0 1<|U6 dJ C7<|E9<|fC<|f6 " ")<|A4 (J4 (V1 (B5<|A2 V6 (A8 E3 J9)<|fC<|f6 "when")<|B5<|A2 pq (A0 N5<|E9 E3)<|fC oa) (D7 V0) D9)<|A4 (B0 2<|A0 jW<|E9<|ai K6 E3 (L5 F7)<|L5<|qF kO<|fC oa)<|A4 (B0 3<|A0 gZ<|E9<|ai K6 E3 (L5<|qF kO<|fC oa) Q6)<|A4 (J4 (V1 (B5<|A2 cS F8 V0)<|B5<|A2 cS L4 V0) (D7 V0) D9)<|D7<|A2 D5 (M4<|E9 F8) L4
def vk:=A4 (B0 4<|A0 bD<|E9 L4)<|A4 (J4 (V1 (B5<|A2 cS T5 V0)<|B5<|A2 J5 F8<|fC tH) fP D9)<|ij 1 T5
def Ip:=N1 1 5<|A4 (fB 1<|G4 D0)<|A4 (bc (jg xS<|E9 C7) (mJ 2<|aw 2<|aw 3 mK) vk)<|D7<|ay<|A0 iX<|E9 E3
def T8(E:hW):=A4 (B0 4<|A0 bD<|A7 L4 D0)<|A4 (J4 (V1 (B5<|A2 cS T5 V0)<|B5<|A2 J5 F8<|fC tH) (KN yJ E.t "place"<|A7 F8 D0) D9)<|ij 1 T5
def V2(E:hW):List f9->Option (PV ⊕ f9):=fnX 1 5<|A4 (fB 1<|G4 D0)<|A4 (bc (jg xS<|A7 C7 D0) (mJ 2<|aw 2<|aw 3 mK)<|T8 E)<|D7<|ay<|A0 iX<|A7 E3 D0
def dF(E:hW):px:=tA 4 6<|A4 (B0 4<|A0 eG<|A7 (Bh 0 (CJ "Desk" "keepers") F8<|M4 D0) D0)<|A4 (DX cD E.t E.l "line" 5 (V2 E) (A7 (A2 D5 T5<|G4<|A7 L4 D0) D0)<|A7 E3 D0)<|A4 (DZ 0 (CJ "Desk" "keepers") (Lf "keepers") F8 ja)<|kg<|G4<|A7 (fC<|f6 "ok") D0
def mr:=A2 (O2 inD U3) C7<|fC wc
def gg:=N1 1 1<|D7<|pO (lB jd pq J9 (A0 N5<|E9 C7)<|fC ft)<|A0 yb<|E9<|Y8 (bW C7) M0 M3 mr
def Z5:=N1 1 1<|D7<|A0 cZ<|E9<|M4<|E7 C7 F7
def mG:=A0 Z5<|E9 C7
def mq:=N1 1 2<|A4 (B0 1<|G4<|hU (fC<|f6 "hour") (A0 Z5<|E9<|A8 C7 J9)<|A0 Z5<|E9<|A8 C7 F7)<|A4 (J4 (B5<|A2 cS (A8 C7 W3) V0) (D7<|U6 bx (fC<|f6 " ")<|E9<|A2 D5 E3<|G4<|E9<|fC<|f6 "dark") D9)<|D7<|U6 bx (fC<|f6 " ")<|E9<|A2 D5 (A2 D5 E3<|G4<|E9<|fC<|f6 "line")<|Y8 (bW<|A8 C7 W3) M0 M3 mG
def kB:=A0 Z5<|E9 C7
def kx:=A0 cZ<|E9 C7
def oM:=N1 1 3<|A4 (B0 1<|Y8 (bW<|ai K6 C7 Q6<|L5 lg) M0 M3 kB)<|A4 (B0 2<|Y8 (bW<|ai K6 C7 (L5 lg)<|L5 sW) M0 M3 kx)<|D7<|U6 bx (fC<|f6 " ")<|E9<|A2 D5 (A2 D5 (A2 D5 (G4<|E9<|fC<|f6 "store") E3) F8)<|G4<|E9<|A0 Z5<|E9<|A8 C7 sW
def mF:=A0 Z5<|E9 C7
def qh:=N1 1 1<|D7<|U6 bx (fC<|f6 " ")<|E9<|A2 D5 (G4<|E7 (fC<|f6 "work")<|A8 C7 J9)<|Y8 (bW<|ai K6 C7 (L5 F7) Q6) M0 M3 mF
def vg:=A0 mq<|E9 C7
def vf:=A0 qh<|E9 C7
def xm:=N1 1 3<|A4 (B0 1<|Y8 (bW<|A8 C7 J9) M0 M3 vg)<|A4 (B0 2<|Y8 (bW<|A8 C7 W3) M0 M3 vf)<|D7<|A2 D5 (A2 D5 (G4<|E9<|A0 oM<|E9<|A8 C7 F7) E3) F8
def L9(E:hW):px:=tA 2 3<|A4 (B0 2<|U6 dJ E3<|A7 (fC<|f6 " ") D0)<|A4 (J4 (B5<|A2 J5 E3<|fC<|f6 "show") (kg<|A0 xm<|A7 (xP "Desk" 0 "house") D0) D9)<|A4 (J4 (B5<|A2 J5 E3<|fC<|f6 "best") fP D9)<|A4 (J4 (B5<|A2 J5 E3<|fC<|f6 "ranks") fP D9)<|A4 (J4 (dV (B5<|A2 J5 (A2 J2 F8 J9)<|fC<|f6 "raised")<|B5<|A2 J5 (A0 N5<|A7 F8 D0) gw) (lx "Desk" "say_raised" 0 (kU E)<|X9 E3<|X9 (ai K6 F8 (L5 F7) Q6) gm) D9)<|A4 (J4 (V1 (B5<|A2 J5 (A0 N5<|A7 F8 D0) F7)<|ip<|B5<|A0 gg<|A7 (A2 J2 F8 F7) D0) (mz cD E.l "line"<|A7 E3 D0) D9)<|A4 (J4 (B5<|A2 J5 (A2 J2 F8 J9)<|fC<|f6 "rule") (lx "Desk" "say_rule" 0 (dF E)<|X9 E3<|X9 (A2 J2 F8 F7)<|X9 (U6 bx (fC<|f6 " ")<|A7 (ai K6 F8 (L5 W3) Q6) D0) gm) D9)<|A4 (J4 (dV (B5<|A2 (O2 inD U3) (A2 J2 F8 J9)<|fC cK)<|B5<|A2 J5 (A0 N5<|A7 F8 D0) W3) (lx "Desk" "say_keeper" 0 (aH E)<|X9 (A2 J2 F8 J9)<|X9 (A2 J2 F8 F7) gm) D9)<|mz cD E.l "line"<|A7 E3 D0
def uD:=N1 3 5<|A4 (B0 3<|fC<|f6 " !\"#$&'()*+,-./0123456789:;<=>?@ABCDEFGHIJKLMNOPQRSTUVWXYZ[\\]^_`")<|A4 (B0 3<|A2 D5 L4<|fC<|f6 "abcdefghijklmnopqrstuvwxyz{|}~ 00--/")<|A4 (B0 4<|A2 Q1 E3<|A2 D5 (A0 N5<|A7 C7 D0) F7)<|A4 (J4 (dV (B5<|A2 J5 (A2 Q1 F8 gw) J9)<|B5<|A2 jd T5<|A0 N5<|A7 C7 D0) (D7<|A2 D5 (ai K6 C7 Q6<|L5 T5)<|ai K6 C7 (L5<|A2 D5 T5 F7) Q6) D9)<|D7<|A2 D5 (A2 D5 (ai K6 C7 Q6<|L5 T5)<|A2 J2 L4<|A2 Q1 (A2 cv F8 gw)<|A0 N5<|A7 L4 D0)<|ai K6 C7 (L5 T5) Q6
def qp:=B0 2<|A2 cv F8 GA
def K2:=N1 2 5<|A4 (B0 2 J9)<|A4 (J4 (B5<|A2 lq (A0 N5<|E9 C7) J9) (A4 (B0 2<|A8 C7<|A2 Q1 E3<|A0 N5<|E9 C7)<|J4 (B5<|A2 J5 (A2 Q1 (A8 C7 J9) W3) F7) (A4 (bc (jg rm<|E9<|A2 Q1 (A2 cv E3<|A0 N5<|E9 C7) a0q) (K5 3) qp)<|D7<|A2 Q1 F8 GA) D9) D9)<|A4 (B0 4<|A2 Q1 (A2 D5 (A2 D5 (aP (A2 Q1 F8<|fC<|p6 1000003)<|fC<|p6 48271)<|aP (aP E3 E3)<|fC<|p6 7919) F7)<|fC<|p6 65521)<|A4 (B0 4<|A2 Q1 (A2 D5 (aP T5 T5) E3)<|fC<|p6 65519)<|D7<|A2 Q1 (A2 D5 (aP (aP T5 T5)<|fC<|p6 31) T5) GA
def yg:=N1 3 4<|A4 (B0 3<|G4<|A7 (fC<|f6 "show")<|A7 (fC<|f6 "best")<|A7 (fC<|f6 "ranks")<|Ie (fC<|f6 "keeper a") (fC<|f6 "drop a") (fC<|f6 "day a") (fC<|f6 "costs a") (A2 D5 (fC<|f6 "rule a ") F8)<|fC<|f6 "raised 0 3")<|D7<|A8 L4<|A2 Q1 (A0 K2<|E7 C7 E3) nu9
def vd:=N1 1 1<|D7<|A8 (G4<|Pt F7 F7 F7 (fC<|p6 1000)<|fC<|p6 40000)<|A2 Q1 (A0 K2<|E7 C7<|fC<|p6 100) BB
def Y3:=N1 2 2<|D7<|aP (A2 Q1 (A0 K2<|E7 C7 E3) a0s)<|A0 vd<|E9 C7
def yf:=N1 2 4<|A4 (J4 (B5<|A2 J5 (A2 Q1 (A0 K2<|E7 C7 E3) lg) J9) (D7 V0) D9)<|A4 (B0 2<|A2 kM (A2 Q1 (A0 K2<|E7 C7<|A2 D5 E3 F7) a0r) sW)<|A4 (B0 3<|A2 kM (A2 Q1 (A0 K2<|E7 C7<|A2 D5 E3 W3) a0r) sW)<|A4 (J4 (B5<|A2 J5 (A2 Q1 (A0 K2<|E7 C7 E3) nu9) J9) (B0 2<|A2 kM (aP F8<|fC<|p6 50000)<|fC<|p6 300000) D9)<|D7<|M4<|yq F8 (A0 Y3<|E7 C7<|A2 D5 E3 gw) L4<|A0 Y3<|E7 C7<|A2 D5 E3 lg
def oZ:=B5<|A2 lq L4 J9
def rX:=A4 (B0 4<|A2 Q1 F8 L4)<|A4 (B0 2 L4)<|B0 3 T5
def yh:=N1 2 5<|A4 (B0 2<|A0 vy<|E9 C7)<|A4 (B0 3 E3)<|A4 (lu (xK 3) oZ rX)<|D7<|M4<|E7 (A2 cv C7 F8)<|A2 cv E3 F8
def ri:=N1 2 4<|A4 (B0 2<|A2 D5 F7<|A2 Q1 (A0 K2<|E7 C7 E3)<|fC<|p6 12)<|A4 (B0 3<|G4<|yq (M4<|E7 F7 F7) (M4<|E7 F7 W3) (M4<|E7 nu9<|fC<|p6 10)<|A0 yh<|E7 (A2 D5 F7<|A2 Q1 (A0 K2<|E7 C7<|A2 D5 E3 F7) F8) F8)<|D7<|A8 L4<|A2 Q1 (A0 K2<|E7 C7<|A2 D5 E3 W3) lg
def pX:=N1 4 6<|A4 (B0 4<|A2 Q1 (A0 K2<|E7 C7 E3) L4)<|A4 (B0 5<|A2 D5 T5<|A2 Q1 (A0 K2<|E7 C7<|A2 D5 E3 F7)<|A2 kM L4 T5)<|D7<|M4<|Pt F8 (A2 D5 (A0 Y3<|E7 C7<|A2 D5 E3 W3)<|A0 Y3<|E7 C7<|A2 D5 E3 gw) T5 ja<|A0 Y3<|E7 C7<|A2 D5 E3 lg
def mv:=A4 (B0 5<|A2 D5 (fC<|p6 200)<|aP nu9 T5)<|ij 3<|M4<|hU (A0 Y3<|E7 C7 ja) (A0 Y3<|E7 C7<|A2 D5 ja F7)<|A0 yf<|E7 C7<|A2 D5 ja W3
def vA:=A0 pX<|yq E3 (A2 D5 (fC<|p6 130)<|aP nu7 C7) (A8 Cb C7) F8
def ve:=N1 3 13<|A4 (fB 3<|G4 D0)<|A4 (bc (jg rm<|E9 E3) (K5 4) mv)<|A4 (B0 6<|A2 D5 (A0 Y3<|E7 C7<|fC<|p6 110)<|A0 Y3<|E7 C7<|fC<|p6 111)<|A4 (B0 7<|A2 Q1 (aP (A0 K2<|E7 C7<|fC<|p6 112)<|fC<|p6 991)<|A2 D5 sN F7)<|A4 (B0 8<|M4<|E7 (A0 Y3<|E7 C7<|fC<|p6 113)<|A0 Y3<|E7 C7<|fC<|p6 114)<|A4 (B0 9<|M4<|E7 (A0 ri<|E7 C7<|fC<|p6 115)<|A0 ri<|E7 C7<|fC<|p6 118)<|A4 (B0 10<|A2 D5 (A2 D5 (A2 D5 (M4<|E7 sN sM) sJ) NW)<|M4<|E9<|A2 Q1 (A0 K2<|E7 C7<|fC<|p6 121) a0s)<|A4 (B0 11<|A8 (G4<|E7 (G4<|Ie (fC<|f6 "w") (fC<|f6 "wa") (fC<|f6 "wab") (fC<|f6 "a") (fC<|f6 "ab")<|fC<|f6 "b")<|G4<|Ie (fC<|f6 "ab") (fC<|f6 "a") (fC<|f6 "b") (fC<|f6 "abb") (fC<|f6 "c")<|fC<|f6 "ca")<|A2 Q1 (A0 K2<|E7 C7<|fC<|p6 122) W3)<|A4 (B0 12<|Y8 (jg rm<|E9 F8) M0 M3 vA)<|D7<|ay<|M4<|hU (A0 iX<|E9 L4) vp<|A0 iX<|E9 Cb
def qm:=A0 (qD kN AL)<|E9 C7
def eD:=N1 1 1<|D7<|U6 bx (fC<|f6 " ")<|E9<|Y8 (bW C7) M0 M3 qm
def mj:=N1 1 1<|A4 (J4 (B5<|A2 J5 (A8 C7 F7) F7) (D7<|A0 kN<|E9<|A8 C7 J9) D9)<|D7<|A2 D5 (A2 D5 (A0 kN<|E9<|A8 C7 J9)<|fC<|f6 "/")<|A0 kN<|E9<|A8 C7 F7
def gE:=A4 (B0 5<|G4<|E9<|fC<|f6 "dark")<|A4 (J4 (B5<|A2 DI (A8 T5 W3) V0) (B0 5<|A2 D5 (G4<|E9<|fC<|f6 "line")<|A0 qe<|E9<|A8 T5 W3) D9)<|ij 3<|A0 eD<|E9<|A2 D5 (G4<|hU (fC<|f6 "hour") (A8 T5 J9)<|A8 T5 F7) ja
def kX:=A0 eD<|E9<|A2 D5 (G4<|E9<|fC<|f6 "work")<|A0 qe<|E9 C7
def V5:=N1 1 6<|A4 (B0 1<|A8 C7 F7)<|A4 (B0 2<|G4<|E7 (A0 mj<|E9<|A8 E3 lg)<|A0 mj<|E9<|A8 E3 BB)<|A4 (fB 3<|G4<|E9<|A0 eD<|E9<|A2 D5 (A2 D5 (A2 D5 (G4<|E9<|fC<|f6 "store")<|A0 qe<|E9<|ai K6 E3 Q6<|L5 lg) F8)<|G4<|E9<|A8 E3 sW)<|A4 (bc (bW<|A8 C7 J9) (K5 4) gE)<|D7<|ay<|A2 D5 L4<|Y8 (bW<|A8 C7 W3) M0 M3 kX
def av:=J4 (B5<|A2 (O2 U5 R8) E3<|fC<|f6 "abcdefghijklmnopqrstuvwxyz") (D7<|fC<|E5 U') D9
def gr:=N1 1 2<|A4 (bc (bW C7) (K5 1) av)<|D7<|lB pq pq F7 (A0 N5<|E9 C7)<|fC<|p6 8
def Z6:=J4 (B5<|A2 (O2 U5 R8) L4<|fC<|f6 "0123456789") (D7<|fC<|E5 U') D9
def W9:=N1 2 4<|A4 (B0 2 C7)<|A4 (J4 (dV (B5 E3)<|B5<|A2 J5 (ai K6 C7 Q6<|L5 F7)<|fC<|f6 "-") (B0 2<|ai K6 C7 (L5 F7) Q6) D9)<|A4 (bc (bW F8) (K5 3) Z6)<|A4 (J4 (V1 (B5<|A2 J5 F8<|fC<|f6 "")<|V1 (B5<|A2 lq (A0 N5<|E9 F8) nu7)<|dV (B5<|A2 J5 (A8 F8 J9)<|fC<|f6 "0")<|B5<|A2 V6 C7<|fC<|f6 "0") (D7<|fC<|E5 U') D9)<|D7<|A2 pq (A0 (qD intD jf)<|E9 F8)<|fC<|p6 1000000
def Q9:=B5<|A2 lq (ay<|A0 N5<|E9 F8)<|ay J9
def T3:=A4 (a0Y 2 4)<|A4 (B0 3<|A2 D5 L4 F7)<|J4 (B5<|A2 (O2 inD U3) T5<|G4<|Ie (fC<|f6 "from") (fC<|f6 "till") (fC<|f6 "over") (fC<|f6 "under") (fC<|f6 "dear")<|fC<|f6 "cheap") (tq (Ow (AS<|B5<|A2 J5 (ay<|A0 N5<|E9 F8)<|ay J9)<|xI<|Dy 2 W9<|A2 (O2 inD U3) T5<|G4<|E7 (fC<|f6 "dear")<|fC<|f6 "cheap") (D7<|fC<|E5 U') D9)<|J4 (B5<|A2 (O2 U5 R8) T5<|G4<|E7 (fC<|f6 "dark")<|fC<|f6 "sunny") (D7<|fC<|E5 U') D9
def iW:=N1 1 5<|A4 (B0 1<|U6 dJ C7<|E9<|fC<|f6 " ")<|A4 (J4 (V1 (B5<|A2 jd (A0 N5<|E9 E3) nu7)<|V1 (B5<|A2 V6 (A8 E3 J9)<|fC<|f6 "when")<|B5<|A2 V6 (G4<|hU (A8 E3<|qF kO sW) (A8 E3<|qF kO lg)<|A8 E3<|qF kO W3)<|G4<|hU (fC<|f6 "fill") (fC<|f6 "take")<|fC<|f6 "works") (D7<|fC<|E5 U') D9)<|A4 (J4 (V1 (B5<|A2 (O2 U5 R8) (A8 E3<|qF kO BB)<|G4<|hU (fC<|f6 "none") (fC<|f6 "sun")<|fC<|f6 "line")<|B5<|A2 (O2 U5 R8) (A8 E3<|qF kO gw)<|G4<|hU (fC<|f6 "none") (fC<|f6 "need")<|fC<|f6 "give") (D7<|fC<|E5 U') D9)<|A4 (fB 2<|ai K6 E3 (L5 F7)<|L5<|qF kO sW)<|A4 (B0 3 J9)<|A4 (lu (QN 2) Q9 T3)<|D7<|pO (A2 pq L4 sW)<|A2 (O2 inD U3) (A8 E3<|qF kO F7)<|G4<|E7 (fC<|f6 "now")<|fC<|f6 "wait"
def mm:=N1 2 4<|A4 (B0 2<|U6 dJ E3<|E9<|fC<|f6 " ")<|A4 (J4 (B5<|A2 (O2 inD U3) E3<|G4<|hU (fC<|f6 "show") (fC<|f6 "best")<|fC<|f6 "ranks") (D7<|fC<|E5 Uf) D9)<|A4 (J4 (dV (B5<|A2 J5 (A8 F8 J9)<|fC<|f6 "raised")<|B5<|A2 J5 (A0 N5<|E9 F8) gw) (A4 (J4 (V1 (ip<|B5<|A0 W9<|E7 (A8 F8 F7)<|fC<|E5 U')<|ip<|B5<|A0 W9<|E7 (A8 F8 W3)<|fC<|E5 U') (D7<|fC<|E5 U') D9)<|A4 (B0 3<|A0 (qD intD jf)<|E9<|A8 F8 F7)<|D7<|pO (A2 jd L4<|A0 N5<|E9<|A8 C7 J9)<|A2 pq (A2 D5 (A8 (A8 (A8 C7 J9) L4) J9)<|A0 (qD intD jf)<|E9<|A8 F8 W3)<|fC<|p6 1000000) D9)<|A4 (J4 (V1 (B5<|A2 jd (A0 N5<|E9 F8) W3)<|ip<|B5<|A0 gr<|E9<|A8 F8 F7) (D7<|fC<|E5 U') D9)<|A4 (J4 (B5<|A2 J5 (A8 F8 J9)<|fC<|f6 "rule") (D7<|A0 iW<|E9<|U6 bx (fC<|f6 " ")<|E9<|ai K6 F8 (L5 W3) Q6) D9)<|D7<|pO (A2 (O2 inD U3) (A8 F8 J9)<|G4<|yq (fC<|f6 "keeper") (fC<|f6 "drop") (fC<|f6 "day")<|fC<|f6 "costs")<|A2 J5 (A0 N5<|E9 F8) W3
def pY:=N1 3 4<|A4 (B0 3<|A2 Q1 (A0 K2<|E7 C7 E3)<|fC<|p6 8)<|A4 (J4 (B5<|A2 jd L4 W3) (D7<|M4<|E7 (A8 (G4<|E7 (fC<|f6 "from")<|fC<|f6 "till") L4)<|A2 Q1 (A0 K2<|E7 C7<|A2 D5 E3 F7)<|A2 D5 F8 F7) D9)<|A4 (J4 (B5<|A2 jd L4 lg) (D7<|M4<|E7 (A8 (G4<|E7 (fC<|f6 "over")<|fC<|f6 "under")<|A2 kM L4 W3)<|A0 Y3<|E7 C7<|A2 D5 E3 F7) D9)<|A4 (J4 (B5<|A2 jd L4 sW) (D7<|M4<|E7 (A8 (G4<|E7 (fC<|f6 "dear")<|fC<|f6 "cheap")<|A2 kM L4 lg)<|A2 kM (A2 Q1 (A0 K2<|E7 C7<|A2 D5 E3 F7) a0r) sW) D9)<|D7<|M4<|E9<|A8 (G4<|E7 (fC<|f6 "dark")<|fC<|f6 "sunny")<|A2 kM L4 sW
def uG:=A0 pY<|hU E3 (A2 D5 sM<|aP W3 C7) L4
def ph:=A4 (B0 6<|A2 D5 E3<|aP (fC<|p6 31) ja)<|A4 (B0 7<|A0 K2<|E7 C7<|A2 D5 sN a0s)<|A4 (B0 8<|Y8 (jg rm<|E9<|A8 (G4<|E7 (A2 Q1 (A2 cv sM<|fC<|p6 11) gw) sW)<|A0 (qD intD jf)<|E9<|A2 J5 (A2 Q1 sM<|fC<|p6 11) BB) M0 M3 uG)<|A4 (B0 9<|A8 (G4<|hU (fC<|f6 "none") (fC<|f6 "sun")<|fC<|f6 "line")<|A2 Q1 (A0 K2<|E7 C7<|A2 D5 sN<|fC<|p6 14) gw)<|A4 (B0 10<|A8 (G4<|hU (fC<|f6 "none") (fC<|f6 "need")<|fC<|f6 "give")<|A2 Q1 (A0 K2<|E7 C7<|A2 D5 sN<|fC<|p6 15) gw)<|ij 4<|M4<|yq (A0 iX<|E9 sJ) NW vp<|A8 (G4<|E7 (fC<|f6 "now")<|fC<|f6 "wait")<|A2 Q1 (A0 K2<|E7 C7<|A2 D5 sN<|fC<|p6 16) W3
def rQ:=N1 4 11<|A4 (fB 4<|G4 D0)<|A4 (bc (jg rm<|E9 L4) (K5 5) ph)<|D7<|ay<|A0 iX<|E9 T5
def CN(E:hW):List PV->Option (PV×Ds):=BK 2 4<|A4 (B0 2 V0)<|A4 (rH "Desk" "say" E.k 3 0 (L9 E) (X9 (A2 D5 (fC<|f6 "keeper ") E3) gm)<|B0 2<|xR "name" L4)<|kg<|A2 J5 F8 E3
def GY:=N1 1 4<|A4 (B0 1<|A0 N5<|E9<|A8 C7 J9)<|A4 (B0 2<|fC<|f6 " when fill sun take need works now")<|A4 (B0 3<|G4<|A7 (fC<|f6 "")<|A7 (fC<|f6 " ")<|A7 (fC<|f6 "Show")<|A7 (fC<|f6 "show ")<|A7 (fC<|f6 " show")<|A7 (fC<|f6 "show 1")<|Ie (fC<|f6 "best 1") (fC<|f6 "bests") (fC<|f6 "ranks a") (fC<|f6 "rank") (fC<|f6 "rule")<|fC<|f6 "rule a")<|A4 (B0 3<|A2 D5 L4<|G4<|E9<|fC<|f6 "rule a ")<|A4 (B0 3<|A2 D5 L4<|G4<|Pt (A2 D5 (fC<|f6 "rule") F8) (A2 D5 (fC<|f6 "rule A") F8) (A2 D5 (fC<|f6 "rule abcdefghi") F8) (A2 D5 (fC<|f6 "rule a1") F8)<|A2 D5 (A2 D5 (fC<|f6 "rule a ")<|ai K6 F8 (L5 F7) Q6)<|fC<|f6 " ")<|A4 (B0 3<|A2 D5 L4<|G4<|E7 (fC<|f6 "rule a  when fill sun take need works now")<|fC<|f6 "rule a fill sun take need works now")<|A4 (B0 3<|A2 D5 L4<|G4<|E9<|A2 D5 (fC<|f6 "rule a a") F8)<|A4 (B0 3<|A2 D5 L4<|G4<|yq (fC<|f6 "rule a when from -1 fill sun take need works now") (fC<|f6 "keeper") (fC<|f6 "keeper A")<|fC<|f6 "keeper a a")<|A4 (B0 3<|A2 D5 L4<|G4<|E7 (fC<|f6 "drop")<|fC<|f6 "drop 1")<|A4 (B0 3<|A2 D5 L4<|G4<|A7 (fC<|f6 "day")<|A7 (fC<|f6 "day a 1")<|A7 (fC<|f6 "day ")<|Ie (fC<|f6 "costs") (fC<|f6 "costs a b") (fC<|f6 "costs A") (fC<|f6 "raised") (fC<|f6 "raised 0")<|fC<|f6 "raised 0 -1")<|A4 (B0 3<|A2 D5 L4<|G4<|Pt (fC<|f6 "raised 0 01") (fC<|f6 "raised 0 1/2") (A2 D5 (A2 D5 (fC<|f6 "raised ")<|A0 kN<|E9 E3)<|fC<|f6 " 1") (fC<|f6 "raised -1 1")<|fC<|f6 "raised 0 1 1")<|A4 (B0 3<|A2 D5 L4<|G4<|yq (fC<|f6 "rule b when fill sun take need works") (fC<|f6 "rule ab when dark") (A2 D5 (fC<|f6 "rule abc ")<|ai K6 F8 (L5 F7)<|L5 sW)<|fC<|f6 "day abcdefghi")<|A4 (B0 3<|A2 D5 L4<|G4<|hU (A2 D5 (fC<|f6 "raised 0 ")<|A0 kN<|E9<|A2 kM (fC<|p6 1000001)<|A8 (A8 (A8 C7 J9) J9) J9) (fC<|f6 "raised 00 1")<|fC<|f6 "raised 0 00")<|A4 (B0 3<|A2 D5 L4<|G4<|Pt (fC<|f6 "day b 1") (fC<|f6 "costs b b") (fC<|f6 "keeper b 1") (fC<|f6 "drop b a")<|fC<|f6 "keeper b when")<|D7<|A2 D5 L4<|G4<|hU (fC<|f6 "raised 0 1000001") (fC<|f6 "raised a 1")<|fC<|f6 "house"
def ml(E:hW):List PV->Option (PV×Ds):=BK 2 4<|A4 (B0 2 V0)<|A4 (rH "Desk" "say" E.l 3 0 (L9 E) (X9 E3 gm)<|B0 2 L4)<|A4 (J4 (V1 (ip<|B5<|kQ E.l Uf F8)<|V1 (ip<|B5<|kQ E.l Uf F8)<|B5<|A2 V6 (xR "line" F8) E3) (kg<|fC<|E5 U') D9)<|A4 (J4 (V1 (B5<|kQ E.l U' F8)<|B5<|kQ E.l U' F8) (kg<|fC<|E5 U') D9)<|kg<|pO (xQ<|kQ E.l U' F8)<|xQ<|kQ E.l U' F8
def jn:=GS 1<|A0 qe<|E9 F8
def mE:=N1 1 3<|A4 (fB 1<|G4<|E9<|fC<|f6 "when")<|A4 (bc (bW<|A8 C7 J9) (K5 2) jn)<|D7<|ay<|A0 eD<|E9<|A2 D5 E3<|G4<|Ie (fC<|f6 "fill") (A8 C7 F7) (fC<|f6 "take") (A8 C7 W3) (fC<|f6 "works")<|A8 C7 gw
def Bp(E:hW):=A4 (B0 8<|A2 J2 sN<|A2 Q1 (A0 K2<|A7 C7<|A7 (A2 D5 (fC<|p6 1500) sM) D0)<|A0 N5<|A7 sN D0)<|A4 (J4 (B5<|A2 J5 (A2 Q1 (A0 K2<|A7 C7<|A7 (A2 D5 (fC<|p6 1600) sM) D0) W3) J9) (A4 (B0 8<|A0 yg<|A7 C7<|A7 (A2 D5 (fC<|p6 1700) sM)<|A7 T5 D0)<|B0 8<|A0 uD<|A7 sJ<|A7 (A0 K2<|A7 C7<|A7 (A2 D5 (fC<|p6 1800) sM) D0)<|A7 (A0 K2<|A7 C7<|A7 (A2 D5 (fC<|p6 1900) sM) D0) D0) D9)<|tq (JS (AS<|ip<|B5<|A0 mm<|A7 F8<|A7 sJ D0)<|xI<|yV<|lD (ml E)<|ic 3<|X9 sJ gm) (D7<|fC<|E5 U') D9
def xn(E:hW):=tq (xI<|yV<|lD (CN E)<|ic 3<|X9 NW gm) (D7<|fC<|E5 U') D9
def Gg(E:hW):=N1 1 10<|A4 (B0 1<|A2 D5 F7<|A2 Q1 (A0 K2<|A7 C7<|A7 J9 D0) lg)<|A4 (B0 2<|A0 ve<|A7 C7<|A7 E3<|A7 (A2 Q1 (A0 K2<|A7 C7<|A7 F7 D0) gw) D0)<|A4 (fB 3<|Ei "Desk" fH<|A7 (A0 V5<|A7 F8 D0) D0)<|A4 (B0 4<|A0 mE<|A7 (A2 J2 (A0 rQ<|A7 C7<|A7 (fC<|p6 600)<|A7 E3<|A7 F7 D0) J9) D0)<|A4 (Eb<|gJ "Desk" "say" 3 (rn<|L9 E)<|X9 (A2 D5 (fC<|f6 "rule a ") T5) gm)<|A4 (DY 5<|gJ "Desk" "say" 3 (rn<|L9 E)<|X9 (fC<|f6 "costs a") gm)<|A4 (B0 6<|A0 GY<|A7 F8 D0)<|A4 (bc (jg rm<|A7 (A2 D5 sW<|A2 Q1 (A0 K2<|A7 C7<|A7 W3 D0)<|fC<|p6 19) D0) (K5 7)<|Bp E)<|A4 (tq (Ow (sU V6 (gJ "Desk" "say" 3 (rn<|L9 E)<|X9 (fC<|f6 "keeper a") gm)<|G4<|A7 T5 D0)<|sU V6 (gJ "Desk" "say" 3 (rn<|L9 E)<|X9 (fC<|f6 "costs a") gm) ja) (D7<|fC<|E5 U') D9)<|A4 (bc (bW<|G4<|A7 (fC<|f6 "b")<|A7 (fC<|f6 "ab")<|A7 (fC<|f6 "abc")<|A7 (fC<|f6 "when") D0) (K5 9)<|xn E)<|IJ J5 (gJ "Desk" "say" 3 (rn<|L9 E)<|X9 (fC<|f6 "show") gm)<|A0 V5<|A7 F8 D0
end
theorem R4{p:Prop}(h:p:=by simp_all):p:=h
noncomputable abbrev sS(z:Str):Option PV:=U<|.dat<|f6 z
noncomputable abbrev sL(l:List f9):Option PV:=U<|.dat<|B8 l
noncomputable abbrev sB(b:Bool):Option PV:=U<|.dat<|E5 b
theorem RW(l:List f9):yD (B8 l)=U l:=rfl
theorem YD(l:List f9):yD (B4 l)=U l:=rfl
theorem Za(l:List f9)(a b:Option Int):K6 (B8 l) a b=NU (B8 l) a b:=rfl
theorem a3y(l:List f9)(a b:Option Int):K6 (B4 l) a b=NU (B4 l) a b:=rfl
end Law
local macro_rules|`(tactic|right)=>`(tactic|simp only[L2.N1,L2.Be,L2.mW,L2.Jp,L2.Jq,L2.Hn,L2.GR,L2.uO,L2.KQ,L2.uP,L2.J4,L2.D7,L2.bK,L2.a2D,L2.D9,L2.a2E,L2.Vp,L2.a2H,L2.a2G,L2.a8p,L2.sx,L2.bc,L2.lu,L2.a2F,L2.a0Z,L2.C4,L2.fC,L2.A2,L2.qF,L2.A0,L2.M4,L2.G4,L2.ai,L2.BL,L2.pO,L2.fOr,L2.xQ,L2.lB,L2.a2J,L2.a2K,L2.Flat,L2.ay,L2.iF,L2.Y8,L2.Q6,L2.L5,L2.GX,L2.jC,L2.A7,L2.D0,L2.B5,L2.ip,L2.dV,L2.V1,L2.M3,L2.jg,L2.iSq,L2.bW,Law.RW,Law.YD,Law.Za,Law.a3y,L2.Di,L2.Hk,L2.JN,L2.Hz,L2.tF,L2.qH,L2.K5,L2.mJ,L2.aw,L2.mK,L2.M0,L2.ke,L2.PV.du,L2.PV.Bi,L2.xK,
 L2.Lr,L2.Jh,L2.GF,L2.OI,L2.Bd,L2.OW,L2.CG,L2.JW,L2.CF,L2.Cn,L2.vV,L2.cI,L2.Lu,L2.JV,L2.nj,L2.Kk,L2.Hf,L2.Jb,L2.DA,L2.HG,L2.NT,L2.Jk,L2.tj,L2.BH,L2.Li,L2.KG,L2.HM,L2.Hi,L2.HU,L2.a8t,L2.Vs,L2.rJ,L2.K7,L2.ji,L2.RB,L2.a2T,L2.a2S,L2.a2R,L2.a2Q,L2.a2P,L2.isI,L2.PM,String.reduceBEq,
 P0,Wo,lU,VZ,K3,fX,L3,EY,S9,lW,iM,bA,An,Am,fx,gC,Nat.reduceAdd,Nat.reduceSub,Nat.reduceEqDiff,Nat.reduceLeDiff,Nat.reduceLT,Int.reduceToNat,WN,eq_self,
 if_true,if_false,reduceIte,gX,decide_true,decide_false,Ao,lZ,uB,zW,wH,Ah,oH,LN,LS,tW,LV,wF,lR,oE,oF,reduceCtorEq,and_self])
namespace Law
open PySem L2
variable{y t:Int}{m:Nat}{q:Int×Int}
noncomputable abbrev gc(a b:Int):Int:=(J6 a b:Nat)
theorem KL(x y:Int):J6 y (x.fmod y)=J6 x y:=by
 rw[Int.fmod_def];apply Wn
 . apply ED
   . have h1:((J6 y<|x-y*x.fdiv y):Int)∣y:=jT ..;have h2:((J6 y<|x-y*x.fdiv y):Int)∣x-y*x.fdiv y:=gd ..;have h3:=Int.dvd_add h2 (XR (c:=x.fdiv y) h1)
     rwa [Int.sub_add_cancel]at h3
   exact jT ..
 . apply ED;exact gd ..;exact Int.dvd_sub (jT ..) (XR (gd ..))
theorem vR(x:Int)(h:y≠0):(x.fmod y).natAbs<y.natAbs:=by
 rcases Int.lt_or_gt_of_ne h with hy|hy
 . have e:Int.fmod x y=x % y+if 0<=y\/y∣x then 0 else y:=Int.fmod_eq_emod
   have:=Int.emod_lt x h;split at e<;>omega
 have:=U9 x hy;have:=W8 x hy;omega
def N9(t b:Int):Int×Int:=(t.fdiv<|if b<0 then -gc t b else gc t b,b.fdiv<|if b<0 then -gc t b else gc t b)
structure iu(m:Nat)(q:Int×Int):Prop where
 pos:0<q.2
 low:J6 q.1 q.2=1
 bt:Bt m q.1
 bb:Bt m q.2
theorem iu.mono{n:Nat}(h:iu m q)(hl:m<=n):iu n q:=⟨h.pos,h.low,h.bt.mono hl,h.bb.mono hl⟩
theorem a1a{n:Nat}{p:Int×Int}(hp:iu m p)(hq:iu n q)(h:p.1*q.2-q.1*p.2=0):p=q:=by
 obtain⟨a,b⟩:=p;obtain⟨c,d⟩:=q;have pb:=hp.pos;have e:a*d=c*b:=by have:=h;lia
 have k1:b∣d:=by
  have z:b∣a*d:=⟨c,by rw[e,Y9]⟩
  have z':b.natAbs∣a.natAbs*d.natAbs:=by rw[<-jQ];exact Int.natAbs_dvd_natAbs.mpr z
  have cp:EC b.natAbs a.natAbs:=by rw[Fq];exact hp.low
  exact Int.natAbs_dvd_natAbs.mp<|cp.dvd_of_dvd_mul_left z'
 have k2:d∣b:=by
  have z:d∣c*b:=⟨a,by rw[<-e,Y9]⟩
  have z':d.natAbs∣c.natAbs*b.natAbs:=by rw[<-jQ];exact Int.natAbs_dvd_natAbs.mpr z
  have cp:EC d.natAbs c.natAbs:=by rw[Fq];exact hq.low
  exact Int.natAbs_dvd_natAbs.mp<|cp.dvd_of_dvd_mul_left z'
 have ebd:b=d:=by
  have:=wD hq.pos k1;have:=wD pb k2;lia
 subst ebd;have:=MV (ei) e;rw[this]
theorem DW(hb:y≠0)(h:Bt m y):Bt m<|gc t y:=h.of_le (by
 have:=Int.gcd_le_natAbs_right t hb
 simp_all)
theorem a2C(hb:y≠0):gc t y≠0:=by simp[*]
theorem a8o(t b:Int):gc (if t<0 then -t else t) (if b<0 then -b else b)=gc t b:=by
 show((J6 _ _):Int)=(J6 t b)
 have e1:∀x y:Int,J6 (if x<0 then -x else x) y=J6 x y:=λx y=>by split<;>simp
 have e2:∀x y:Int,J6 x (if y<0 then -y else y)=J6 x y:=λx y=>by split<;>simp
 rw[e1,e2]
noncomputable abbrev fr(q:Int×Int):f9:=B4 [p6 q.1,p6 q.2]
def xE(p q:Int×Int):Int×Int:=N9 (p.1*q.2+q.1*p.2)<|p.2*q.2
def sE(p q:Int×Int):Int×Int:=N9 (p.1*q.1)<|p.2*q.2
noncomputable def CT(p q:Int×Int):Bool:=decide (p.1*q.2<q.1*p.2)
theorem Nc(x y:Int)(z:Option PV):df [iD x,iD y,z]=U (!decide (y=0)):=by unfold df;right
theorem a1M(x:Int)(z:Option PV)(h:y≠0):gj [iD x,iD y,z]=U (.next [iD y,iD<|x.fmod y,iD<|x.fmod y]):=by unfold gj;right;rw[K4 h];right
theorem ny(hx:0<=t)(hy:0<=y):au [p6 t,p6 y]=iD (gc t y):=by
 unfold au;right;obtain⟨ds',h1,⟨x',y',z',rfl,hg,hx',hy'⟩,h3⟩:=Ha (Fc:=df) (λds=>∃x' y' z',ds=[iD x',iD y',z']/\gc x' y'=gc t y/\0<=x'/\0<=y') (λds=>xK 1 ds-1) (by
  rintro ds ⟨x',y',z',rfl,hg,hx',hy'⟩;rw[Nc];by_cases h:y'=0;left;simp[h]
  . refine .inr ⟨by simp[h],_,a1M x' z' h,⟨y',x'.fmod y',_,rfl,?_,hy',U9 x' A3⟩,?_⟩
    . rw[<-hg];show((J6 y'<|x'.fmod y'):Int)=(J6 x' y');rw[KL]
    . have:=vR x' h;right
      simp_all) (y.natAbs+1) [iD t,iD y,J] ⟨t,y,J,rfl,rfl,hx,hy⟩ (by right;simp_all)
 rw[Nc]at h3;have hz:y'=0:=by simpa using h3
 subst hz;have e:gc x' 0=x':=by show((J6 x' 0))=x';rw[WM];lia
 rw[h1,<-hg,e];right
theorem NC{b:Int}(hb:b≠0)(hbb:Bt 8000 b):iv [p6 t,p6 b]=sd (fr<|N9 t b):=by
 unfold iv;right;rw[B2 hb];right;rw[ny (by split<;>omega) (by split<;>omega),a8o];right;have hg:=a2C (t:=t) hb;have hgb:=DW (t:=t) hb hbb;unfold N9;by_cases h0:b<0;simp only[A6 h0];right;rw[U2 G0 hgb.neg,U2 G0 hgb.neg];rfl;simp only[B2 h0];right;rw[U2 hg hgb,U2 hg hgb];rfl
theorem a5w(h0:autoParam (0<=y) aj)(h1:autoParam (y<=1000000) aj):CP 10 y:=⟨h0,h1,f7⟩
end Law
local macro_rules|`(tactic|left)=>`(tactic|simp only[L2.N1,L2.vw,L2.a2y,L2.U6,L2.G4,L2.bW,L2.yD,L2.pB,L2.findD,L2.Be,L2.mW,L2.Jp,L2.Jq,L2.Hn,L2.GR,L2.uO,L2.KQ,L2.uP,L2.J4,L2.D7,L2.bK,L2.a2D,L2.D9,L2.a2E,L2.Vp,L2.a2H,L2.a2G,L2.a8p,L2.sx,L2.bc,L2.lu,L2.a2F,L2.a0Z,L2.C4,L2.fC,L2.A2,L2.qF,L2.A0,L2.M4,L2.G4,L2.ai,L2.BL,L2.pO,L2.fOr,L2.xQ,L2.lB,L2.a2J,L2.a2K,L2.Flat,L2.ay,L2.iF,L2.Y8,L2.Q6,L2.L5,L2.GX,L2.jC,L2.A7,L2.D0,L2.B5,L2.ip,L2.dV,L2.V1,L2.M3,L2.jg,L2.iSq,L2.Di,L2.Hk,L2.JN,L2.Hz,L2.tF,L2.qH,L2.K5,L2.mJ,L2.aw,L2.mK,L2.M0,L2.ke,L2.PV.du,L2.PV.Bi,L2.xK,
 L2.Lr,L2.Jh,L2.GF,L2.OI,L2.Bd,L2.OW,L2.CG,L2.JW,L2.CF,L2.Cn,L2.vV,L2.cI,L2.Lu,L2.JV,L2.nj,L2.Kk,L2.Hf,L2.Jb,L2.DA,L2.HG,L2.NT,L2.Jk,L2.tj,L2.BH,L2.Li,L2.KG,L2.HM,L2.Hi,L2.HU,L2.a8t,L2.Vs,L2.rJ,L2.Rb,L2.Rh,L2.DJ,L2.Rg,L2.Rc,L2.ji,L2.RB,L2.a2T,L2.a2S,L2.a2R,L2.a2Q,L2.a2P,L2.isI,L2.PM,String.reduceBEq,
 P0,Wo,lU,VZ,K3,fX,L3,EY,S9,lW,iM,bA,An,Am,fx,gC,Nat.reduceAdd,Nat.reduceSub,Nat.reduceEqDiff,Nat.reduceLeDiff,Nat.reduceLT,Int.reduceToNat,WN,eq_self,
 if_true,if_false,reduceIte,gX,decide_true,decide_false,Ao,lZ,uB,zW,wH,Ah,oH,LN,LS,tW,LV,wF,lR,oE,oF,reduceCtorEq,and_self])
namespace Law
open PySem L2 PySem.NumText PySem.StrLaws
variable{i:Int}{z:Str}{n:Nat}{Z:List Nat}
noncomputable abbrev F5(i:Int):Str:=p7<|jI i
theorem a0D(h:n<10^60):n.log2<1920:=by
 by_cases h0:n=0;subst h0;decide;exact(Nat.log2_lt h0).mpr (Q8 (LM h (f7:10^60<2^200))<|uw f7 f7)
theorem sF(h:i.natAbs<10^60):kN [p6 i]=sS (F5 i):=by
 show(if i.natAbs.log2<1920 then sS (F5 i)else J)=_;rw[A6<|a0D h]
theorem UR(z:Str)(h:z.length<=1000):bx (f6 "") [B8 [f6 z]]=sS z:=by
 have e:strsOf [f6 z]=U [z]:=rfl;unfold bx;simp only[e,P0];have hj:jF "" [z]=Uf:=by
  show(!decide (0+z.length+0>G7))=Uf;have:1000<=G7:=f7;have:¬(0+z.length+0>G7):=A3;rw[J8 this];rfl
 rw[A6 hj];rfl
theorem dq(h:i.natAbs<10^60):(F5 i).length<=61:=by
 rw[M6,eM];have:=(pI f7).mpr h;unfold ax;split
 . rw[L3];simp_all
 exact D6 B1 f7
theorem Ef(h0:0<=i)(h:i.natAbs<10^60):jX [p6 i]=sS (F5 i):=by
 have hC:kC [iD i,iD<|10^60,U<|.own [],iD i]=U U':=by
  unfold kC;left
  congr 1
  exact J8 A3
 unfold jX;left;rw[ZW a5w];left;rw[gF hC];left;rw[sF h,aI _ rfl f7];left;show((bx (f6 "") [B8 [f6<|F5 i]]).bind _).bind _=_;rw[UR _<|D6 (dq h) f7];rfl
theorem eQ{y:Str}(h:z.length+y.length<=1000000):D5 (f6 z) (f6 y)=sS (z++y):=by
 show(if z.length+y.length<=1000000 then sS (z++y)else J)=_;rw[A6 h]
theorem UH:lz (p7 "-")=[45]:=B9
theorem ju:lz (p7 "/")=[47]:=B9
theorem Uy(h:i<0):(p7 "-"++F5 (-i))=F5 i:=by apply bT;rw[cR,UH,eM,eM];unfold ax;rw[B2 A3,A6 h,wG];rfl
def T4(p:Int×Int):Str:=if p.2=1 then F5 p.1 else F5 p.1++p7 "/"++F5 p.2
structure Small(p:Int×Int):Prop where
 top:p.1.natAbs<10^60
 bot:p.2.natAbs<10^60
 pos:0<p.2
theorem nI{p:Int×Int}(h:Small p):cZ [fr p]=sS (T4 p):=by
 have hb0:0<=p.2:=by have:=h.pos;omega
 have:=dq h.top;have:=dq h.bot;have:(p7 "/").length=1:=B9;have:(p7 "-").length=1:=B9;have ha:0<=(if p.1<0 then -p.1 else p.1):=by split<;>omega
 have han:(if p.1<0 then -p.1 else p.1).natAbs<10^60:=by
  split;rw[wG];exact h.top;exact h.top
 unfold cZ T4;left;rw[Ef ha han];left;have hs:(if p.1<0 then a0G (D5 (f6<|p7 "-")<|f6<|F5<|if p.1<0 then -p.1 else p.1) 1 [sd<|fr p,sS<|F5<|if p.1<0 then -p.1 else p.1]else U<|Out.next [sd<|fr p,sS<|F5<|if p.1<0 then -p.1 else p.1])=U (Out.next [sd<|fr p,sS<|F5 p.1]):=by
  by_cases hn:p.1<0
  . have:=dq (by rw[wG];exact h.top);rw[A6 hn,A6 hn,eQ G0,Uy hn];rfl
  rw[B2 hn,B2 hn]
 rw[hs];left;by_cases h1:p.2=1
 . rw[B2 (by simpa using h1),A6 h1];left
 . rw[A6 (by simpa using h1),B2 h1,eQ G0];left;rw[Ef hb0 h.bot];left;rw[eQ (by rw[M6,cR,R5,<-M6,<-M6];omega)];left
noncomputable def dig(c:Nat):Bool:=decide (48<=c/\c<=57)
theorem sy:Z.all dig=Uf↔AllDigits Z:=by rw[wN];exact⟨λh c hc=>ff<|h c hc,λh c hc=>L7<|h c hc⟩
theorem a4X:lz (p7 "0123456789")=[48,49,50,51,52,53,54,55,56,57]:=B9
theorem a5l(c:Nat):decide (c∈lz (p7 "0123456789"))=dig c:=by rw[a4X];unfold dig;rw[Ab,gX,gX];simp only[Q7,U1,V4];omega
theorem HF(c:Nat):(O2 U5 R8) (f6 ⟨#[c]⟩) (f6<|p7 "0123456789")=sB (!dig c):=by
 show sB (!Txt.contains (p7 "0123456789") ⟨#[c]⟩)=_;rw[jz,a5l]
def di(cs:List Nat):Option Nat:=if cs≠[]/\cs.length<=60/\cs.all dig=Uf then U (digitsVal cs)else J
noncomputable def JX:Option Nat->f9
 |none=>F3
 |some n=>p6 (n:Nat)
noncomputable def GJ:Option Int->f9
 |none=>F3
 |some n=>p6 n
theorem Yu(z:Str)(c:Nat):Y4 [sS z,sS ⟨#[c]⟩]=if dig c=Uf then U (.next [sS z,sS ⟨#[c]⟩])else U<|.ret<|.dat F3:=by
 unfold Y4;left;rw[show zC=f6 (p7 "0123456789")from rfl,HF]
 left;cases dig c<;>rfl
theorem ND(z:Str):∀(l:List Nat) (y:Option PV),(l.all dig=Uf->∃y',O9 (K5 1) Y4 (l.map λc=>f6 ⟨#[c]⟩) [sS z,y]=U (.next [sS z,y']))/\(l.all dig=U'->O9 (K5 1) Y4 (l.map λc=>f6 ⟨#[c]⟩) [sS z,y]=U (.ret<|.dat F3)):=by
 intro l_;induction l_ with
 |nil=>
  intro y;exact⟨λ_=>⟨y,rfl⟩,λh=>by cases h⟩
 |cons c r ih_=>
  intro y;obtain⟨h1,h2⟩:=ih_<|sS ⟨#[c]⟩;have hb:=Yu z c;rw[fZ,K3];cases hc:dig c with
  |true=>
   rw[hc,A6 rfl]at hb;rw[(bp (gt:=K5 1) (r:=r.map λc=>f6 ⟨#[c]⟩) (ds:=[sS z,y]) rfl hb),lR];exact⟨h1,h2⟩
  |false=>
   rw[hc,B2 f7]at hb;refine⟨λh=>(by cases h),λ_=>?_⟩;show(Y4 [sS z,sS ⟨#[c]⟩]).bind _=_;rw[hb];rfl
theorem eq_empty(z:Str):(z=p7 "")↔lz z=[]:=⟨λh=>by rw[h];decide +kernel,λh=>bT (by rw[h];decide +kernel)⟩
theorem jv(h:z.length<=1000000):N5 [f6 z]=iD (z.length:Nat):=by
 show(if z.length<=1000000 then sd (p6 z.length)else J)=_;rw[A6 h]
theorem Cz(h1:AllDigits<|lz z)(h2:lz z≠[])(h3:(lz z).length<=60):(qD intD jf) [f6 z]=iD (digitsVal (lz z):Nat):=by
 show(if z.length<=640 then(ET z).bind λn=>sd (p6 n)else J)=_;rw[A6<|D6 B1 f7,intText_digits h1 h2<|D6 B1 f7];rfl
theorem xB(hz:z.length<=1000):eI [f6 z]=sd (JX<|di<|lz z):=by
 have:=M6 z;unfold eI di;left;rw[jv<|D6 B1 f7,show pQ=p6 60 from rfl];left;by_cases h1:lz z=[]
 . rw[A6<|(eq_empty z).mpr h1,B2<|show ¬(lz z≠[]/\(lz z).length<=60/\(lz z).all dig=Uf)from λhh=>hh.1 h1];rfl
 . rw[B2<|λe=>h1<|(eq_empty z).mp e];by_cases h2:(lz z).length<=60
   . have:¬(z.length>60):=A3;left;rw[B2 (A3:¬((60:Int)<z.length))];left;obtain⟨f1,f2⟩:=ND z (lz z) J;cases h3:(lz z).all dig with
     |true=>
      obtain⟨y',f1⟩:=f1 h3;rw[A6 ⟨h1,h2,rfl⟩];show(bZ (O9 (K5 1) Y4 ((lz z).map λc=>f6 ⟨#[c]⟩) [sS z,J]) _).bind _=_;rw[f1];left;rw[Cz (sy.mp h3) h1 h2];rfl
     |false=>
      rw[B2<|show ¬(lz z≠[]/\(lz z).length<=60/\U'=Uf)from λhh=>by cases hh.2.2];show(bZ (O9 (K5 1) Y4 ((lz z).map λc=>f6 ⟨#[c]⟩) [sS z,J]) _).bind _=_;rw[f2 h3];rfl
   . have:(z.length>60):=A3;rw[B2<|show ¬(lz z≠[]/\(lz z).length<=60/\(lz z).all dig=Uf)from λhh=>h2 hh.2.1];left;rw[A6 (A3:(60:Int)<z.length)];rfl
theorem Ui:p7 "-" = ⟨#[45]⟩:=bT B9
theorem Uh:p7 "/" = ⟨#[47]⟩:=bT B9
def jb(cs:List Nat):Option Int:=if cs.head? = U 45 then(di<|cs.drop 1).map λn=>-((n:Nat):Int)else(di cs).map λn=>((n:Nat):Int)
theorem a0w(o:Option Nat):JX o=GJ (o.map λn=>((n:Nat):Int)):=by cases o<;>rfl
theorem qz(h:z.length<=1000000)(i:Nat):K6 (f6 z) (U (i:Int)) J=sS (aE z (U (i:Int)) J):=by
 show(if z.length<=1000000 then sS (aE z (U i) J)else J)=_;rw[A6 h]
theorem NV(h:z.length<=1000000)(i:Nat):K6 (f6 z) J (U (i:Int))=sS (aE z J<|U (i:Int)):=by
 show(if z.length<=1000000 then sS (aE z J<|U i)else J)=_;rw[A6 h]
theorem Qm(hz:z.length<=1000):mD [f6 z]=sd (GJ<|jb<|lz z):=by
 unfold mD jb;left;rw[Ui,Qc];left;by_cases h:(lz z).head? = U 45
 . rw[A6 h];simp only[h];left;rw[show(1:Int)=((1:Nat))from rfl,qz<|D6 B1 f7];left;rw[xB<|D6 (Txt.slice_le z _ _) hz,show lz (aE z (U 1) J)=(lz z).drop 1 from mZ z 1]
   left;cases di ((lz z).drop 1)with
   |none=>rfl
   |some n=>rfl
 rw[B2 h];simp only[h];rw[xB hz,a0w];rfl
theorem a5Y(h:AllDigits Z):digitsVal Z<10^Z.length:=by
 have key:∀l a,AllDigits l->l.foldl (λacc c=>acc*10+(c-48)) a<(a+1)*10^l.length:=by
  intro l;induction l with
  |nil=>intro a _;simp
  |cons d l ih=>
   intro a hl;have:=hl.head;have:=ih (a*10+(d-48)) hl.tail;refine Q8 this ?_;rw[L3,Nat.pow_succ,Nat.mul_comm (10^l.length) 10,<-Nat.mul_assoc];exact Xv _ A3
 have:=key Z 0 h;simpa [digitsVal]using this
theorem Cd(h:di Z=U n):n<10^60:=by
 unfold di at h;split at h;rename_i hh;cases h;exact Q8 (a5Y<|sy.mp hh.2.2)<|uw f7 hh.2.1;cases h
theorem Zr(h:jb Z=U i):i.natAbs<10^60:=by
 unfold jb at h;split at h
 . cases e:di (Z.drop 1)with
   |none=>rw[e]at h;cases h
   |some m=>
    rw[e]at h;cases h;have:=Cd e;rw[wG];exact this
 . cases e:di Z with
   |none=>rw[e]at h;cases h
   |some m=>
    rw[e]at h;cases h;exact Cd e
noncomputable def mS(cs:List Nat):List Nat:=if 47∈cs then cs.take (cs.idxOf 47)else cs
noncomputable def nV(cs:List Nat):List Nat:=if 47∈cs then cs.drop (cs.idxOf 47+1)else[]
def BJ:Option (Int×Int)->f9
 |none=>F3
 |some q=>fr q
def judge(cs:List Nat):Option Int->Option Nat->Option (Int×Int)
 |some t,U b=>if b=0 then J else if lz (T4<|N9 t b)=cs then U (N9 t b)else J
 |_,_=>J
def W2(cs:List Nat):Option<|Int×Int:=judge cs (jb<|mS cs)<|if 47∈cs then di (nV cs)else U 1
theorem VB(z:Str):∃a b c,nW z ⟨#[47]⟩=[a,b,c]/\lz a=mS (lz z)/\lz b=(if 47∈lz z then[47]else[])/\lz c=nV (lz z):=by
 have h:=a5u z 47;unfold mS nV;have three:∀{l:List Str}{p q r:List Nat},l.map lz=[p,q,r]->∃a b c,l=[a,b,c]/\lz a=p/\lz b=q/\lz c=r:=λ{l p q r} h=>by have hl:=J3 EF h;rw[F4]at hl;obtain⟨a,b,c,rfl⟩:=b1K hl;simp only[K3,fX,List.cons.injEq,and_true]at h;exact⟨a,b,c,rfl,h.1,h.2.1,h.2.2⟩
 by_cases hm:47∈lz z;rw[A6 hm]at h;simp only[A6 hm];exact three h;rw[B2 hm]at h;simp only[B2 hm];exact three h
theorem Nt(h:z.length<=1000):xG (f6 z) [f6<|p7 "/"]=sd (B4<|(nW z ⟨#[47]⟩).map f6):=by
 show(if ((p7 "/").length==0)=U'/\z.length<=1000000 then sd (B4<|(nW z<|p7 "/").map f6)else J)=_;rw[A6 ⟨B9,D6 B1 f7⟩,Uh]
theorem a1u(cs:List Nat):(mS cs).length<=cs.length:=by
 unfold mS;split;rw[lX];lia;exact N7 _
theorem a1t(cs:List Nat):(nV cs).length<=cs.length:=by
 unfold nV;split
 . rw[gU];simp_all
 exact lP _
theorem Pe(t:Int):(t/i).natAbs<=t.natAbs:=Int.natAbs_ediv_le_natAbs t i
theorem UD{b:Int}(hb:0<b)(h1:i.natAbs<10^60)(h2:b.natAbs<10^60):Small<|N9 i b:=by
 have e:N9 i b=(i/gc i b,b/gc i b):=by unfold N9;rw[B2 A3,gD _ (by simp_all),gD _<|by simp_all]
 have d2:gc i b∣b:=gd ..;rw[e];exact⟨bO (Pe i) h1,bO (Pe b) h2,MU hb (by simp_all) d2⟩
theorem a8N(h:i.natAbs<10^60):Bt 8000 i:=⟨Q8 (LM h (f7:10^60<2^200))<|uw f7 f7⟩
theorem iT(hz:z.length<=1000):bS [f6 z]=sd (BJ<|W2<|lz z):=by
 obtain⟨a,b,c,ec,la,lb,lc⟩:=VB z;have za:a.length<=1000:=by rw[M6,la];exact D6 (a1u _) B1
 have zc:c.length<=1000:=by rw[M6,lc];exact D6 (a1t _) B1
 have eb:(b=p7 "/")↔47∈lz z:=by
  constructor
  . intro e;rw[e,ju]at lb;by_cases hm:47∈lz z;exact hm;rw[B2 hm]at lb;cases lb
  intro hm;rw[A6 hm]at lb;exact bT (by rw[lb,ju])
 unfold bS W2;left;rw[Nt hz,ec];left;rw[Qm za,la];left;rw[xB zc,lc];left;have hs:(if b=p7 "/" then U (Out.next [sd<|E6 z,sd<|bM [f6 a,f6 b,f6 c],sd<|GJ<|jb<|mS<|lz z,sd<|JX<|di<|nV<|lz z,J])else U<|Out.next [sd<|E6 z,sd<|bM [f6 a,f6 b,f6 c],sd<|GJ<|jb<|mS<|lz z,sd<|jL 1,J])
   = U (Out.next [sd<|E6 z,sd<|bM [f6 a,f6 b,f6 c],sd<|GJ<|jb<|mS<|lz z,sd<|JX<|if 47∈lz z then di (nV<|lz z)else U 1,J]):=by
  by_cases hm:47∈lz z;rw[A6<|eb.mpr hm,A6 hm]
  . rw[B2<|λe=>hm<|eb.mp e,B2 hm];rfl
 rw[hs];have hbig:∀n,(if 47∈lz z then di (nV<|lz z)else U 1)=U n->n<10^60:=λn h=>by
  split at h;exact Cd h;cases h;decide
 generalize hB:(if 47∈lz z then di (nV<|lz z)else U 1)=B at hbig
 generalize hA:jb (mS<|lz z)=A;cases A with
 |none=>rfl
 |some t=>
  cases B with
  |none=>rfl
  |some n=>
   have hn:=hbig n rfl;left;rw[show GJ (U t)=p6 t from rfl,show JX (U n)=p6 n from rfl];left;rw[show judge (lz z) (U t) (U n)=(if n=0 then J else if lz (T4<|N9 t n)=lz z then U (N9 t n)else J)from rfl];by_cases h0:n=0;rw[A6 (R4:(n:Int)=0),A6 h0];rfl
   . rw[B2 (show ¬((n:Int)=0) by simp_all),B2 h0];left;rw[NC (b:=n) R4<|a8N hn];left;rw[nI<|UD (b:=n) A3 (Zr hA) hn];left;have ez:(T4 (N9 t n)=z)↔lz (T4<|N9 t n)=lz z:=⟨λe=>by rw[e],bT⟩;by_cases he:T4 (N9 t n)=z
     . rw[A6<|ez.mp he,B2<|by simpa using he];rfl
     . rw[B2<|λe=>he<|ez.mpr e,A6<|by simpa using he];rfl
theorem Cy{n:Int}(h:0<=n):ax n=bB n.natAbs:=by unfold ax;rw[B2<|by simp_all]
theorem HC{c:Nat}(h:(bB n).head? = U c):48<=c/\c<=57:=bC n c (List.mem_of_mem_head? (by rw[h];rfl))
theorem yO(h:n<10^60):di (bB n)=U n:=by have hp:=Dz n;unfold di;rw[A6 ⟨hp.2.1,((pI f7).mpr h),sy.mpr hp.1⟩,sV]
theorem Hu(h:i.natAbs<10^60):jb (ax i)=U i:=by
 unfold jb ax;split
 . rename_i h0;rw[A6<|show(45::bB i.natAbs).head? = U 45 from rfl,show(45::bB i.natAbs).drop 1=bB i.natAbs from rfl,yO h];show U (-(i.natAbs:Int))=_
   congr 1
   omega
 . rename_i h0;rw[B2 (λq=>by have:=HC q;simp_all),yO h];show U (i.natAbs:Int)=_
   congr 1
   lia
theorem yW(n:Nat):47∉bB n:=λh=>by
 have:=bC n 47 h
 simp_all
theorem yX(n:Int):47∉ax n:=by
 unfold ax;split
 . intro h;rcases List.mem_cons.mp h with h|h
   cases h;exact yW _ h
 exact yW _
variable{Z:List Str}
theorem R6{a b:String}:(p7 a=p7 b)=(a=b):=by
 refine propext ⟨λh=>?_,λh=>by rw[h]⟩
 rw[XJ,XJ]at h;injection h with h
 injection h with h
 have:=WL (λx y e=>Char.toNat_inj.mp e) |>.mp h
 exact String.toList_inj.mp this
theorem sj(s:Str):∀(ws:List Str),lz (oo s ws)=(match ws with | []=>[]|w::r=>lz w++(r.map λx=>lz s++lz x).flatten)
 | []=>rfl
 | [w]=>by simp[oo]
 |w::x::r=>by
  show lz (w++s++oo s (x::r))=_;rw[cR,cR,(sj s (x::r))];simp[gb]
theorem HI{c:Nat}:∀(a b:List<|List Nat) (x y:List Nat),(∀l∈x::a,c∉l)->(∀l∈y::b,c∉l)->x++(a.map λz=>c::z).flatten=y++(b.map λz=>c::z).flatten->x=y/\a=b
 |a,b,x,y,ha,hb,e=>by
  have key:∀(x y) (p q),c∉x->c∉y->(p=[]\/p.head? = U c)->(q=[]\/q.head? = U c)->x++p=y++q->x=y/\p=q:=by
   intro x;induction x with
   |nil=>
    intro y p q hx hy hp hq e;cases y with
    |nil=>exact⟨rfl,e⟩
    |cons d y=>
     rw[iM]at e;rcases hp with rfl|hp
     simp at e;rw[e]at hp;simp at hp;exact absurd (by simp[hp]) hy
   |cons d x ih=>
    intro y p q hx hy hp hq e;cases y with
    |nil=>
     rw[iM]at e;rcases hq with rfl|hq
     simp at e;rw[<-e]at hq;simp at hq;exact absurd (by simp[hq]) hx
    |cons d' y=>
     injection e with e1 e2
     obtain⟨h1,h2⟩:=ih y p q (λz=>hx<|G6 _ z) (λz=>hy<|G6 _ z) hp hq e2;exact⟨by rw[e1,h1],h2⟩
  have hd:∀l:List<|List Nat,(l.map λz=>c::z).flatten=[]\/((l.map λz=>c::z).flatten).head? = U c:=λl=>by
   cases l with
   |nil=>exact B3 rfl
   |cons z l=>exact B6 rfl
  obtain⟨h1,h2⟩:=key x y _ _ (ha x C9) (hb y C9) (hd a) (hd b) e;refine⟨h1,?_⟩;cases a with
  |nil=>
   cases b with
   |nil=>rfl
   |cons z b=>simp at h2
  |cons z a=>
   cases b with
   |nil=>simp at h2
   |cons z' b=>
    have h2':c::(z++(a.map λz=>c::z).flatten)=c::(z'++(b.map λz=>c::z).flatten):=by simpa using h2
    injection h2' with _ h3
    obtain⟨h4,h5⟩:=HI a b z z' (λl hl=>ha l<|G6 _ hl) (λl hl=>hb l<|G6 _ hl) h3;rw[h4,h5]
termination_by a=>a.length
theorem Qe{c:Nat}(hn:Z≠[])(hf:∀w∈Z,c∉lz w):jJ (aR ⟨#[c]⟩ Z) ⟨#[c]⟩=Z:=by
 have hj:=join_split (aR ⟨#[c]⟩ Z) ⟨#[c]⟩;have hs:=split_free (aR ⟨#[c]⟩ Z) c;have hp:=XI (aR ⟨#[c]⟩ Z) ⟨#[c]⟩;rw[show aR ⟨#[c]⟩ Z=oo ⟨#[c]⟩ Z from glued_eq_join _ _]at *
 generalize jJ (oo ⟨#[c]⟩ Z) ⟨#[c]⟩=S at *;cases S with
 |nil=>simp at hp
 |cons y b=>
  cases Z with
  |nil=>exact absurd rfl hn
  |cons x a=>
   have e:=J3 lz hj;rw[sj,sj]at e;have e':lz y++((b.map lz).map λz=>c::z).flatten=lz x++((a.map lz).map λz=>c::z).flatten:=by rw[cX,cX];exact e
   obtain⟨h1,h2⟩:=HI (b.map lz) (a.map lz) (lz y) (lz x) (λl hl=>by
    rcases List.mem_cons.mp hl with rfl|hl
    exact hs y C9
    . obtain⟨w,hw,rfl⟩:=mem_map.mp hl;exact hs w<|by simp[hw]) (λl hl=>by
    rcases List.mem_cons.mp hl with rfl|hl
    exact hf x C9
    . obtain⟨w,hw,rfl⟩:=mem_map.mp hl;exact hf w<|by simp[hw]) e'
   rw[bT h1,WL (λx y e=>bT e) |>.mp h2]
theorem KY(k:Nat):∀(ts:List Str) (n:Nat),(∀t∈ts,t.length<=130)->ts.foldl (λa t=>a+t.length+k) n<=n+ts.length*(130+k)
 | [],n,_=>by simp
 |t::ts,n,h=>by
  have:=h t C9;have:=KY k ts (n+t.length+k) λx hx=>h x (by simp[hx]);rw[VY,L3,Nat.add_mul];omega
theorem xw:∀l:List Str,strsOf (l.map f6)=U l
 | []=>rfl
 |a::l=>by rw[K3];unfold strsOf;rw[xw l];rfl
theorem Dc:p7 " " = ⟨#[32]⟩:=bT B9
theorem Cq(hl:Z.length<=700)(h:∀w∈Z,w.length<=130):bx (f6<|p7 " ") [B8<|Z.map f6]=sS (aR ⟨#[32]⟩ Z):=by
 show((strsOf<|Z.map f6).bind λts=>if jF (p7 " ") ts=Uf then sd (E6<|aR (p7 " ") ts)else J)=_
 rw[xw,Dc];have hj:jF ⟨#[32]⟩ Z=Uf:=by
  have:=KY 1 Z 0 h;unfold jF;rw[WK];show(!decide (Z.foldl (λa t=>a+t.length+1) 0>G7))=Uf;have:92000<=G7:=f7;rw[J8 A3];rfl
 simp only[P0,hj,if_true]
theorem a0K(hl:Z.length<=700)(h:∀w∈Z,w.length<=130):(aR ⟨#[32]⟩ Z).length<=92000:=by
 have e:=size_glued ⟨#[32]⟩ Z;have:(Z.map (·.length)).sum<=Z.length*130:=by
  clear hl e;induction Z with
  |nil=>simp
  |cons w r ih=>
   have:=h w C9;have:=ih λx hx=>h x (by simp[hx]);simp only[K3,EM,L3];lia
 have:(aR ⟨#[32]⟩ Z).length=(Z.map (·.length)).sum+(Z.length-1)*1:=e;lia
theorem uL(hn:Z≠[])(hl:Z.length<=700)(h:∀w∈Z,w.length<=130)(hf:∀w∈Z,32∉lz w):dJ (f6<|aR ⟨#[32]⟩ Z) [f6<|p7 " "]=U (.own<|Z.map f6):=by have:=a0K hl h;unfold dJ;rw[Dc];simp only;rw[A6 ⟨by rfl,D6 B1 f7⟩,Qe hn hf]
theorem a4S(n:Int):N9 n 1=(n,1):=by
 have h1:gc n 1=1:=by show((J6 n 1):Int)=1;simp
 unfold N9;rw[B2 f7,h1];simp
theorem ka{n:Int}(h:n.natAbs<10^60):W2 (ax n)=U (n,1):=by
 have hs:=yX n;unfold W2 mS;rw[B2 hs,B2 hs,Hu h];show(if 1=0 then J else if lz (T4<|N9 n<|(1:Nat))=ax n then U (N9 n 1)else J)=U (n,1);rw[B2 f7,show(((1:Nat):Int))=1 from rfl,a4S]
 have e:lz (T4 (n,1))=ax n:=by exact eM n
 rw[A6 e]
variable{n:Int}{q:Int×Int}
theorem a5v{A B:List Nat}(h:47∉A):mS (A++47::B)=A/\nV (A++47::B)=B:=by
 have hm:47∈A++47::B:=S5 _ K9;have hi:(A++47::B).idxOf 47=A.length:=by rw[List.idxOf_append,B2 h,List.idxOf_cons_self,zU]
 unfold mS nV;rw[A6 hm,A6 hm,hi,List.take_left,<-Ma,List.drop_left];exact⟨rfl,rfl⟩
theorem sf(hq:0<q.2):lz (T4 q)=if q.2=1 then ax q.1 else ax q.1++47::bB q.2.natAbs:=by
 unfold T4;split;rw[eM];rw[cR,cR,ju,eM,eM,Cy (n:=q.2)<|bu B1,gb];rfl
theorem UE{b:Int}(hb:0<b)(h:J6 n b=1):N9 n b=(n,b):=by
 unfold N9;rw[B2 A3];have e:gc n b=1:=by show((J6 n b):Int)=1;rw[h];rfl
 rw[e,EH,EH]
theorem Qn(h0:0<q.2)(h1:J6 q.1 q.2=1)(hs:Small q)(hn:q.1.natAbs<10^60)(hd:q.2.natAbs<10^60):W2 (lz<|T4 q)=U q:=by
 by_cases c:q.2=1
 . have e:lz (T4 q)=ax q.1:=by rw[sf h0,A6 c]
   rw[e,ka hn];exact J3 U<|Prod.ext rfl c.symm
 . have e:lz (T4 q)=ax q.1++47::bB q.2.natAbs:=by rw[sf h0,B2 c]
   have hm:47∈lz (T4 q):=by rw[e];exact S5 _ K9
   obtain⟨c1,c2⟩:=a5v<|yX q.1;unfold W2;rw[A6 hm];rw[show mS (lz<|T4 q)=ax q.1 by rw[e];exact c1,show nV (lz<|T4 q)=bB q.2.natAbs by rw[e];exact c2,Hu hn,yO hd];have eb:q.2.natAbs=q.2:=A3;show(if q.2.natAbs=0 then J else if lz (T4<|N9 q.1 q.2.natAbs)=lz (T4 q)then U (N9 q.1 q.2.natAbs)else J)=U q;rw[B2 A3,eb,UE h0 h1,A6 rfl]
theorem AX(h : -1000000<=n/\n<=1000000):n.natAbs<10^60:=bO (G0:n.natAbs<=1000000) f7
theorem Ho{least:Int}(h0:least<=n)(h1:n<=1000000)(hl : -1000000<=least):gY [f6<|F5 n,p6 least]=iD n:=by
 have hn:=AX ⟨O0 B1 B1,h1⟩;have rf:=iT<|D6 (dq hn) f7;rw[eM,ka hn]at rf;unfold gY;left;rw[rf];left;unfold BJ;left;rw[B2 (by simp_all),J8<|show ¬1000000<n by simp_all];left
theorem Qp(h0:0<=n)(h1:n<=1000000):fG [f6<|F5 n]=iD n:=by unfold fG;left;rw[Ho h0 h1 f7];left
theorem SU(h0 : -1000000<=n)(h1:n<=1000000):oR [f6<|F5 n]=iD n:=by unfold oR;left;rw[Ho h0 h1 f7];left
structure rB(q:Int×Int):Prop where
 pos:0<q.1
 le:q.1<=q.2
 most:q.2<=1000
 low:J6 q.1 q.2=1
variable{q:Int×Int}
theorem rB.small(h:rB q):Small q:=by have:=h.pos;have:=h.le;have:=h.most;exact⟨AX ⟨A3,A3⟩,AX ⟨A3,O0 B1 f7⟩,O0 B1 B1⟩
theorem rB.len(h:rB q):(T4 q).length<=130:=by
 have s:=h.small;have:=dq s.top;have:=dq s.bot;unfold T4;split;exact D6 B1 f7
 . rw[M6,cR,cR,R5,R5,ju,<-M6,<-M6];show _+1+_<=130;lia
theorem SS(h:rB q):oQ [f6<|T4 q]=sd (fr q):=by
 have:=h.pos;have p1:=h.le;have p2:=h.most;have s:=h.small;have rf:=iT<|D6 h.len f7;rw[Qn s.pos h.low s s.top s.bot]at rf;unfold oQ;left;rw[rf];left;unfold BJ;left;rw[B2 (by simp_all),B2 (by simp_all),J8<|show ¬1000<q.2 by simp_all];left
noncomputable def jc(c:Nat):Bool:=decide (97<=c/\c<=122)
structure Nm(z:Str):Prop where
 ne:lz z≠[]
 len:(lz z).length<=8
 all:(lz z).all jc=Uf
theorem OH:lz (p7 "abcdefghijklmnopqrstuvwxyz")=[97,98,99,100,101,102,103,104,105,106,107,108,109,110,111,112,113,114,115,116,117,118,119,120,121,122]:=B9
theorem GD{c:Nat}(h:jc c=Uf):c∈lz (p7 "abcdefghijklmnopqrstuvwxyz"):=by
 rw[OH];have:=ff h;simp only[Q7];lia
variable{r:Ds}{a:String}{f:List f9->Option PV}{Z:Ds->Option (List f9)}{Y:Ds->Option PV}
theorem a5H(z:Str){c:Nat}(h:jc c=Uf):fJ [sS z,sS ⟨#[c]⟩]=U (.next [sS z,sS ⟨#[c]⟩]):=by
 have e:(O2 U5 R8) (f6 ⟨#[c]⟩) (f6<|p7 "abcdefghijklmnopqrstuvwxyz")=sB U':=by
  show sB (!Txt.contains (p7 "abcdefghijklmnopqrstuvwxyz") ⟨#[c]⟩)=_;rw[jz,L7<|GD h];rfl
 unfold fJ;left;rw[show kR=f6 (p7 "abcdefghijklmnopqrstuvwxyz")from rfl,e];left
theorem HR(z:Str):∀(l:List Nat) (y:Option PV),l.all jc=Uf->∃y',O9 (K5 1) fJ (l.map λc=>f6 ⟨#[c]⟩) [sS z,y]=U (.next [sS z,y'])
 | [],y,_=>⟨y,rfl⟩
 |c::r,y,h=>by rw[fZ,fu]at h;obtain⟨y',e⟩:=HR z r (sS ⟨#[c]⟩) h.2;refine⟨y',?_⟩;rw[K3,bp rfl<|a5H z h.1];exact e
theorem Zp{z:Str}(h:Nm z):qk [f6 z]=sS z:=by
 have:=M6 z;have:=h.len;unfold qk;left;rw[jv<|D6 B1 f7,show gp=p6 8 from rfl];left;rw[B2<|λe=>h.ne<|(eq_empty z).mp e,J8 (A3:¬((8:Int)<z.length))];left;obtain⟨y',f1⟩:=HR z (lz z) J h.all;show(bZ (O9 (K5 1) fJ ((lz z).map λc=>f6 ⟨#[c]⟩) [sS z,J]) _).bind _=_;rw[f1];left
inductive dw where
 |am (n:Int)
 |pr (n:Int)
 |sh (q:Int×Int)
 |nm (z:Str)
def dw.rd:dw->f9
 | .am _=>ej "read_amount"
 | .pr _=>ej "read_price"
 | .sh _=>ej "read_share"
 | .nm _=>ej "read_name"
def dw.w:dw->Str
 | .am n=>F5 n
 | .pr n=>F5 n
 | .sh q=>T4 q
 | .nm z=>z
def dw.v:dw->f9
 | .am n=>p6 n
 | .pr n=>p6 n
 | .sh q=>fr q
 | .nm z=>f6 z
def dw.ok:dw->Prop
 | .am n=>0<=n/\n<=1000000
 | .pr n=>-1000000<=n/\n<=1000000
 | .sh q=>rB q
 | .nm z=>Nm z
theorem Bg{b:String}(h:a≠b):lC 0 (p7 b) f Z (sd (ej<|p7 a)::r)=J:=by
 show(if p7 a=p7 b then _ else J)=J;rw[B2 (by rw[R6];exact h)]
theorem Ec:lC 0 (p7 a) f Z (sd (ej<|p7 a)::r)=(Z (sd (ej<|p7 a)::r)).bind f:=by
 show(if p7 a=p7 a then _ else J)=_;rw[A6 rfl]
theorem pS{F2:Ds->Option PV}(h:Y r=J):vw Y F2 r=F2 r:=by unfold vw;rw[h]
theorem xZ{F2:Ds->Option PV}{pv:PV}(h:Y r=U pv):vw Y F2 r=U pv:=by unfold vw;rw[h]
theorem Py{x:dw}(h:x.ok)(r:Ds):bw (sd x.rd::sS x.w::r)=sd x.v:=by
 cases x with
 |am n=>exact xZ<|Ec.trans<|Qp h.1 h.2
 |nm z=>exact(pS<|Bg f7).trans<|xZ<|Ec.trans<|Zp h
 |pr n=>exact(pS<|Bg f7).trans<|(pS<|Bg f7).trans<|xZ<|Ec.trans<|SU h.1 h.2
 |sh q=>exact(pS<|Bg f7).trans<|(pS<|Bg f7).trans<|(pS<|Bg f7).trans<|Ec.trans<|SS h
theorem Du{ds:Ds}:∀l:List dw,(∀x∈l,x.ok)->U7 (ke 2) M3 bw ds (bQ (λx y=>B4 [x,y]) (l.map dw.rd)<|l.map λx=>f6 x.w)=U (l.map dw.v)
 | [],_=>rfl
 |x::l,h=>by
  show(bw (sd x.rd::sS x.w::ds)).bind (λy=>(U7 (ke 2) M3 bw ds<|bQ (λx y=>B4 [x,y]) (l.map dw.rd)<|l.map λx=>f6 x.w).bind λl=>U (y.d::l))=_;rw[Py<|h x K9,(Du (ds:=ds) l λy hy=>h y<|G6 _ hy)];rfl
theorem NM(x:dw):sR x.v=Uf/\K7 x.v=U':=by cases x<;>exact⟨rfl,rfl⟩
theorem xF{l:List dw}(h:∀x∈l,x.ok)(hl:l.length<=100):aq [B8<|l.map λx=>f6 x.w,B4<|l.map dw.rd]=sd (B4<|l.map dw.v):=by
 have e1:vQ F3 (B8<|l.map dw.v)=sB U':=by
  show(if (l.map dw.v).all sR=Uf then sB ((l.map dw.v).any K7)else J)=_;rw[A6 (by rw[wN];intro d hd;obtain⟨x,_,rfl⟩:=mem_map.mp hd;exact(NM x).1)]
  congr 3
  rw[FI];intro d hd;obtain⟨x,_,rfl⟩:=mem_map.mp hd;rw[(NM x).2];decide
 unfold aq;left;rw[F4,F4];left;rw[show nH [B4<|l.map dw.rd,B8<|l.map λx=>f6 x.w]=U (bQ (λx y=>B4 [x,y]) (l.map dw.rd)<|l.map λx=>f6 x.w)from rfl];left;rw[A6 (by rw[iP,F4,F4];lia),Du l h];left;rw[e1];left
variable{l:List Str}{Z:Type}
abbrev Q2:=Int×Int
structure Hr where
 W0:Int
 need:Int
 line:Option<|Int×Int×Int×Int
noncomputable def ig:Option (Int×Int×Int×Int)->f9
 |none=>F3
 |some (a,b,c,d)=>B4 [p6 a,p6 b,p6 c,p6 d]
def G3(h:Hr):f9:=B4 [p6 h.W0,p6 h.need,ig h.line]
structure Wk where
 name:Str
 N0:Int
 first:Int
 last:Int
 most:Int
noncomputable def P6(w:Wk):f9:=B4 [f6 w.name,p6 w.N0,p6 w.first,p6 w.last,p6 w.most]
structure P2 where
 hs:List Hr
 size:Int
 start:Int
 fill:Int
 take:Int
 kept:Q2
 left:Q2
 rest:Int
 ws:List Wk
def bH(h:P2):f9:=B4 [p6 h.size,p6 h.start,p6 h.fill,p6 h.take,fr h.kept,fr h.left,p6 h.rest]
def O1(h:P2):f9:=B4 [B4<|h.hs.map G3,bH h,B4<|h.ws.map P6]
theorem uQ(h:P2):J2 (O1 h) (p6 0)=sd (B4<|h.hs.map G3):=rfl
theorem UX(h:P2):J2 (O1 h) (p6 1)=sd (bH h):=rfl
theorem HJ(h:P2):J2 (O1 h) (p6 2)=sd (B4<|h.ws.map P6):=rfl
theorem UU(h:P2):J2 (bH h) (p6 4)=sd (fr h.kept):=rfl
theorem UT(h:P2):J2 (bH h) (p6 5)=sd (fr h.left):=rfl
theorem US(h:P2):J2 (bH h) (p6 6)=iD h.rest:=rfl
theorem Cu(h:Hr):J2 (G3 h) (p6 0)=iD h.W0:=rfl
theorem Ct(h:Hr):J2 (G3 h) (p6 1)=iD h.need:=rfl
theorem Cr(h:Hr):J2 (G3 h) (p6 2)=sd (ig h.line):=rfl
theorem Ko(w:Wk):J2 (P6 w) (p6 1)=iD w.N0:=rfl
theorem a0N(w:Wk):J2 (P6 w) (p6 2)=iD w.first:=rfl
theorem a0M(w:Wk):J2 (P6 w) (p6 3)=iD w.last:=rfl
theorem a0L(w:Wk):J2 (P6 w) (p6 4)=iD w.most:=rfl
theorem Lp{l:List Z}(f:Z->f9){i:Int}(h0:0<=i)(h:i<l.length):Y5 (l.map f) i=U (f<|l[i.toNat]'(by simp_all)):=by
 rw[a8R h0<|by simpa using h];simp
theorem jy(l:List Z)(k:Nat):cutD l (U (k:Int)) J=l.drop k:=by
 unfold cutD HT.U4;simp only[show ¬(k:Int)<0 by simp_all,if_false,FG];by_cases h:k<=l.length;rw[EZ h];exact ko (by rw[gU];simp_all);rw[Fx A3,Ad,MN A3];simp
def rD(i:Int):Prop:=0<=i/\i<=1000000
def yw(i:Int):Prop:=-1000000<=i/\i<=1000000
structure BV(x:Hr):Prop where
 W0:rD x.W0
 need:rD x.need
 line:∀a b c d,x.line=U (a,b,c,d)->yw a/\rD b/\yw c/\rD d
structure yr(n:Int)(w:Wk):Prop where
 name:Nm w.name
 N0:rD w.N0
 first:0<=w.first
 fl:w.first<=w.last
 last:w.last<n
 most:rD w.most
structure H5(h:P2):Prop where
 hs:∀x∈h.hs,BV x
 h1:1<=h.hs.length
 hl:h.hs.length<=24
 size:rD h.size
 start:rD h.start
 full:h.start<=h.size
 fill:rD h.fill
 take:rD h.take
 kept:rB h.kept
 left:rB h.left
 rest:rD h.rest
 ws:∀w∈h.ws,yr h.hs.length w
 wl:h.ws.length<=6
 nd:(h.ws.map Wk.name).Nodup
noncomputable def jr(h:P2):List dw:=[.am h.size,.am h.start,.am h.fill,.am h.take,.sh h.kept,.sh h.left,.am h.rest]
def bf(h:P2):List Str:=p7 "store"::(jr h).map dw.w
noncomputable def vT:Int×Int×Int×Int->List dw:=λl=>[.pr l.1,.am l.2.1,.pr l.2.2.1,.am l.2.2.2]
def bJ(x:Hr):List Str:=match x.line with
 |none=>[p7 "hour",F5 x.W0,F5 x.need,p7 "dark"]
 |some l=>[p7 "hour",F5 x.W0,F5 x.need,p7 "line"]++(vT l).map dw.w
noncomputable def nJ(w:Wk):List dw:=[.nm w.name,.am w.N0,.am w.first,.am w.last,.am w.most]
def fg(w:Wk):List Str:=p7 "work"::(nJ w).map dw.w
theorem SR{h:P2}(H:H5 h):oP [B8<|(bf h).map f6]=sd (bH h):=by
 have:=H.size;have a2:=H.start;have a3:=H.fill;have a4:=H.take;have a5:=H.kept;have a6:=H.left;have a7:=H.rest;have a8:=H.full;have p:=xF (l:=jr h) (by intro x hx;simp only[jr,Q7,U1,V4]at hx;rcases hx with rfl|rfl|rfl|rfl|rfl|rfl|rfl<;>assumption) (by simp[jr])
 have e1:(B8 ((bf h).map f6):f9)=B8 (f6 (p7 "store")::(jr h).map λx=>f6 x.w):=by simp[bf]
 have e2:bM ((jr h).map dw.v)=bH h:=rfl;have e3:ro=B4 ((jr h).map dw.rd):=rfl;rw[e2]at p;rw[e1];unfold oP;left;rw[show K6 (B8 (f6 (p7 "store")::(jr h).map λx=>f6 x.w)) (U 1) J=U (.own<|(jr h).map λx=>f6 x.w)from rfl,e3];left;rw[p];left;unfold bH;left;rw[B2<|show ¬h.size<h.start by simp_all];left
theorem Zk{n:Int}{w:Wk}(H:yr n w)(hn:n<=24):qj [B8<|(fg w).map f6,p6 n]=sd (P6 w):=by
 have a1:=H.name;have a2:=H.N0;have a3:=H.first;have a4:=H.fl;have a5:=H.last;have a6:=H.most;have p:=xF (l:=nJ w) (by
  intro x hx;simp only[nJ,Q7,U1,V4]at hx;rcases hx with rfl|rfl|rfl|rfl|rfl
  exact a1;exact a2;exact⟨a3,A3⟩;exact⟨O0 B1 B1,A3⟩
  . exact a6) (by simp[nJ])
 have e1:(B8 ((fg w).map f6):f9)=B8 (f6 (p7 "work")::(nJ w).map λx=>f6 x.w):=by simp[fg]
 have e2:bM ((nJ w).map dw.v)=P6 w:=rfl;have e3:tG=B4 ((nJ w).map dw.rd):=rfl;rw[e2]at p;rw[e1];unfold qj;left;rw[show K6 (B8 (f6 (p7 "work")::(nJ w).map λx=>f6 x.w)) (U 1) J=U (.own<|(nJ w).map λx=>f6 x.w)from rfl,e3];left;rw[p];left;unfold P6;left;rw[B2 (show ¬w.last<w.first by simp_all),J8<|show ¬n<=w.last by simp_all];left
def nB(w:Str):Prop:=zS w=Uf
theorem qy{w:Str}(h:∀c∈lz w,c<1114112):nB w:=by
 unfold nB zS;rw[WJ];intro c hc;have:c∈lz w:=by unfold lz;simpa using hc
 have:=h c this;simp;omega
theorem Gq:∀l:List Str,(∀w∈l,nB w)->cP (l.map f6)=Uf/\dO (l.map f6)<=1
 | [],_=>⟨by simp[cP],by simp[dO]⟩
 |a::l,h=>by
  obtain⟨h1,h2⟩:=Gq l λw hw=>h w<|G6 _ hw;have h0:zS a=Uf:=h a K9;exact⟨by simp[cP,dW,h1,h0],by simp[dO];exact h2⟩
theorem xA(h:∀w∈l,nB w):cE (B8<|l.map f6)=Uf:=by obtain⟨h1,h2⟩:=Gq l h;simp[cE,dW,oy,h1];exact D6 B1 f7
theorem CC:∀l m:List Str,oz (l.map f6) (m.map f6)=decide (l=m)
 | [],[]=>by simp[oz]
 | [],b::m=>by simp[oz]
 |a::l,[]=>by simp[oz]
 |a::l,b::m=>by
  simp only[K3,oz,(CC l m),cW];by_cases c:a=b;subst c;simp;simp[c]
theorem CD{m:List Str}(hl:∀w∈l,nB w)(hm:∀w∈m,nB w):J5 (B8<|l.map f6) (B8<|m.map f6)=sB (decide (l=m)):=by
 unfold J5;split;rename_i h _;cases h;rw[A6 ⟨xA hl,xA hm⟩];simp only[cW,CC]
theorem sX{m:List Str}(hl:∀w∈l,nB w)(hm:∀w∈m,nB w):V6 (B8<|l.map f6) (B8<|m.map f6)=sB (!decide (l=m)):=by
 unfold V6;split;rename_i h _;cases h;rw[A6 ⟨xA hl,xA hm⟩];simp only[cW,CC]
theorem pL(n:Int):∀c∈ax n,c=45\/(48<=c/\c<=57):=by
 intro c hc;unfold ax at hc;split at hc
 . rcases List.mem_cons.mp hc with h|h
   exact B3 h;exact B6<|bC _ c h
 exact B6<|bC _ c hc
theorem vL(n:Int):nB<|F5 n:=qy λc hc=>by
 rw[eM]at hc;have:=pL n c hc;lia
theorem NR{s:String}(h:(lz<|p7 s).all (λc=>decide (c<1114112))=Uf):nB<|p7 s:=qy λc hc=>by have:=List.all_eq_true.mp h c hc;exact ff this
theorem Zq{x:Hr}(H:BV x):bE [B8<|(bJ x).map f6]=sd (G3 x):=by
 have:=H.W0;have a2:=H.need;have a3:=H.line;have p:=xF (l:=[dw.am x.W0,.am x.need]) (by intro y hy;simp only[Q7,U1,V4]at hy;rcases hy with rfl|rfl<;>assumption) C9
 have p':aq [B8 [f6<|F5 x.W0,f6<|F5 x.need],jB]=sd (B4 [p6 x.W0,p6 x.need]):=p;obtain⟨su,ne,ln⟩:=x;have hd:nB<|p7 "dark":=NR B9;have hli:nB<|p7 "line":=NR B9;cases ln with
 |none=>
  have e:J5 (B8 [f6<|p7 "dark"]) (B8 [f6<|p7 "dark"])=sB Uf:=by
   have:=CD (l:=[p7 "dark"]) (m:=[p7 "dark"]) (by simpa using hd) (by simpa using hd);exact this
  show bE [B8 [f6<|p7 "hour",f6<|F5 su,f6<|F5 ne,f6<|p7 "dark"]]=sd (B4 [p6 su,p6 ne,F3]);unfold bE;left;rw[show K6 (B8 [f6<|p7 "hour",f6<|F5 su,f6<|F5 ne,f6<|p7 "dark"]) (U 1) (U 3)=U (.own [f6<|F5 su,f6<|F5 ne])from rfl];left;rw[p'];left;rw[show K6 (B8 [f6<|p7 "hour",f6<|F5 su,f6<|F5 ne,f6<|p7 "dark"]) (U 3) J=U (.own [f6<|p7 "dark"])from rfl];left;rw[e];left;rw[show D5 (B4 [p6 su,p6 ne]) (B4 [F3])=sd (B4 [p6 su,p6 ne,F3])from rfl];left
 |some l=>
  obtain⟨a,b,c,d⟩:=l;obtain⟨b1,b2,b3,b4⟩:=a3 a b c d rfl;have q:=xF (l:=vT (a,b,c,d)) (by
   intro y hy;simp only[vT,Q7,U1,V4]at hy;rcases hy with rfl|rfl|rfl|rfl
   exact b1;exact b2;exact b3
   . exact b4) (by simp[vT])
  have q':aq [B8 [f6<|F5 a,f6<|F5 b,f6<|F5 c,f6<|F5 d],tI]=sd (B4 [p6 a,p6 b,p6 c,p6 d]):=q;have e:J5 (B8 [f6<|p7 "line",f6<|F5 a,f6<|F5 b,f6<|F5 c,f6<|F5 d]) (B8 [f6<|p7 "dark"])=sB U':=by
   have:=CD (l:=[p7 "line",F5 a,F5 b,F5 c,F5 d]) (m:=[p7 "dark"]) (by
    intro w hw;simp only[Q7,U1,V4]at hw;rcases hw with rfl|rfl|rfl|rfl|rfl
    exact hli;exact vL _;exact vL _;exact vL _
    . exact vL _) (by simpa using hd)
   exact this
  have e2:V6 (B8 [f6<|p7 "line"]) (B8 [f6<|p7 "line"])=sB U':=by
   have:=sX (l:=[p7 "line"]) (m:=[p7 "line"]) (by simpa using hli) (by simpa using hli);exact this
  show bE [B8 [f6<|p7 "hour",f6<|F5 su,f6<|F5 ne,f6<|p7 "line",f6<|F5 a,f6<|F5 b,f6<|F5 c,f6<|F5 d]]=sd (B4 [p6 su,p6 ne,B4 [p6 a,p6 b,p6 c,p6 d]])
  generalize eL:[E6<|p7 "hour",f6<|F5 su,f6<|F5 ne,f6<|p7 "line",f6<|F5 a,f6<|F5 b,f6<|F5 c,f6<|F5 d]=L;have s13:K6 (B8 L) (U 1) (U 3)=U (.own [f6<|F5 su,f6<|F5 ne]):=by rw[<-eL];rfl
  have s3:K6 (B8 L) (U 3) J=U (.own [f6<|p7 "line",f6<|F5 a,f6<|F5 b,f6<|F5 c,f6<|F5 d]):=by rw[<-eL];rfl
  have s4:K6 (B8 L) (U 4) J=U (.own [f6<|F5 a,f6<|F5 b,f6<|F5 c,f6<|F5 d]):=by rw[<-eL];rfl
  have s34:K6 (B8 L) (U 3) (U 4)=U (.own [f6<|p7 "line"]):=by rw[<-eL];rfl
  unfold bE;left;rw[s13];left;rw[p'];left;rw[show Y5 L 0=U (f6<|p7 "hour")from by rw[<-eL];rfl];left;rw[s3];left;rw[e];left;rw[s4];left;rw[q'];left;rw[s34];left;rw[e2];left;rw[show D5 (B4 [p6 su,p6 ne]) (B4 [B4 [p6 a,p6 b,p6 c,p6 d]])=sd (B4 [p6 su,p6 ne,B4 [p6 a,p6 b,p6 c,p6 d]])from rfl];left
abbrev mL(x:Hr):f9:=B8<|(bJ x).map f6
abbrev cH(w:Wk):f9:=B8<|(fg w).map f6
theorem Nl{z:Str}(h:Nm z):W2 (lz z)=J:=by
 have nm:=λc hc=>ff<|List.all_eq_true.mp h.all c hc
 have h47:47∉lz z:=λhc=>by have:=nm 47 hc;lia
 have hs:jb (lz z)=J:=by
  unfold jb;cases e:lz z with
  |nil=>exact absurd e h.ne
  |cons c r=>
   have:=nm c (by rw[e];exact K9);rw[B2 (by simp;lia)]
   have:di (c::r)=J:=by
    unfold di;rw[B2];rintro⟨_,_,ha⟩;rw[fZ,fu]at ha;have:=ff ha.1;lia
   rw[this];rfl
 unfold W2 mS;rw[B2 h47,hs];rfl
theorem Jx{z:Str}(h:Nm z):fG [f6 z]=sd F3:=by have:=h.len;have rf:=iT<|D6 B1 f7;rw[Nl h]at rf;unfold fG gY;left;rw[rf];left;unfold BJ;left
theorem Qj{n:Int}{w:Wk}(H:yr n w)(hn:n<=24):bE [cH w]=sd F3:=by
 have E1:∀r:Ds,bw (sd (ej "read_amount")::sS w.name::r)=sd F3:=λr=>by exact xZ<|Ec.trans<|Jx H.name
 have E2:∀r:Ds,bw (sd (ej "read_amount")::sS (F5 w.N0)::r)=iD w.N0:=λr=>Py (x:=.am w.N0) H.N0 r
 have p:aq [B8 [f6 w.name,f6<|F5 w.N0],jB]=sd F3:=by
  unfold aq;left;rw[show nH [jB,B8 [f6 w.name,f6<|F5 w.N0]]=U [B4 [ej "read_amount",f6 w.name],B4 [ej "read_amount",f6<|F5 w.N0]]from rfl];left;simp only[U7];left;rw[E1];left;rw[E2];left;rw[show vQ F3 (B8 [F3,p6 w.N0])=sB Uf from rfl];left
 show bE [B8 [f6<|p7 "work",f6 w.name,f6<|F5 w.N0,f6<|F5 w.first,f6<|F5 w.last,f6<|F5 w.most]]=_;unfold bE;left;rw[show K6 (B8 [f6<|p7 "work",f6 w.name,f6<|F5 w.N0,f6<|F5 w.first,f6<|F5 w.last,f6<|F5 w.most]) (U 1) (U 3)=U (.own [f6 w.name,f6<|F5 w.N0])from rfl]
 left;rw[p];left;try simp
 try left
theorem Vj{r:Option PV}{rest:List f9}:∀(hs:List Hr) (done:List f9) (y2 y3:Option PV),(∀x∈hs,BV x)->done.length+hs.length<=1000 ->
  ∃z2 z3,O9 (K5 2) aA (hs.map mL++rest) [r,U<|.own done,y2,y3]=O9 (K5 2) aA rest [r,U<|.own<|done++hs.map G3,z2,z3]:=by
 intro l_;induction l_ with
 |nil=>
  intro done y2 y3 _ _;exact⟨y2,y3,by simp⟩
 |cons x hs ih_=>
  intro done y2 y3 h hl;rw[L3]at hl;obtain⟨z2,z3,e⟩:=ih_ (done++[G3 x]) (sd<|mL x) (sd<|G3 x) (λy hy=>h y<|G6 _ hy) (by rw[R5,rh];lia)
  refine⟨z2,z3,?_⟩;have B:aA [r,U<|.own done,sd<|mL x,y3]=U (.next [r,U<|.own<|done++[G3 x],sd<|mL x,sd<|G3 x]):=by have nn:K7 (G3 x)=U':=rfl;unfold aA;left;rw[(Zq<|h x K9)];left;rw[nn];left;rw[aI _ rfl A3];rfl
  rw[K3,lW,bp rfl B,e,K3,gb];rfl
theorem C3{G1 G2:Ds->Option Out}{ds ds':Ds}(h:G1 ds=U (.next ds')):A4 G1 G2 ds=G2 ds':=by unfold A4;rw[h];rfl
theorem N4{j:Nat}{F:Ds->Option PV}{ds:Ds}{pv:PV}(h:F ds=U pv):B0 j F ds=U (.next<|ds.set j<|sd pv.d):=by unfold B0;rw[h];rfl
theorem VA{α:Type}(l:List α)(k:Nat):cutD l J (U (k:Int))=l.take k:=by
 unfold cutD HT.U4;simp only[show ¬(k:Int)<0 by simp_all];by_cases c:k<=l.length;simp[EZ c];simp[Fx (by lia:l.length<=k),ko (by lia:l.length<=k)]
theorem SV{hs:List Hr}{ws:List Wk}{n:Int}(h:∀x∈hs,BV x)(hl:hs.length<=24)(hw:∀w∈ws,yr n w)(hn:n<=24):oU [B8<|hs.map mL++ws.map cH]=U (.own<|hs.map G3):=by
 have ht:(hs.map mL++ws.map cH).take 24=hs.map mL++(ws.map cH).take (24-hs.length):=by rw[List.take_append,F4,ko (by rw[F4];omega)]
 generalize eL:hs.map mL++ws.map cH=L;have hc:K6 (B8 L) J (U 24)=U (.own<|hs.map mL++(ws.map cH).take (24-hs.length)):=by rw[<-eL,<-ht,<-VA];rfl
 obtain⟨z2,z3,e⟩:=Vj hs [] J J h (by simp;exact D6 B1 f7)
 unfold oU;left;rw[hc];left;rw[e];cases er:(ws.map cH).take (24-hs.length)with
 |nil=>
  rw[KU];left
 |cons d r=>
  obtain⟨w,hw1,rfl⟩:=mem_map.mp (Xr (by rw[er];exact K9))
  have B:aA [sL L,U<|.own<|hs.map G3,sd<|cH w,z3]=U (.ret<|.own<|hs.map G3):=by unfold aA;left;rw[(Qj (hw w hw1) hn)];left
  show(bZ ((aA [sL L,U<|.own<|hs.map G3,sd<|cH w,z3]).bind _) _).bind _=_;rw[B];left
theorem a0Q{z:Str}{l:List Str}(h:z∉l):(O2 inD U3) (f6 z) (B8<|l.map f6)=sB U':=by
 have h1:(l.map E6).all Flat=Uf:=by rw[wN];intro d hd;obtain⟨x,_,rfl⟩:=mem_map.mp hd;rfl
 have h2:((l.map E6).any λy=>qG y<|f6 z)=U':=by
  rw[FI];intro d hd;obtain⟨x,hx,rfl⟩:=mem_map.mp hd;show ¬((x==z)=Uf);rw[beq_iff_eq];intro e;subst e;exact h hx
 have e:inD (f6 z) (B8<|l.map f6)=sB U':=by
  show(if Flat (f6 z)=Uf/\(l.map E6).all Flat=Uf then sB ((l.map E6).any λy=>qG y<|f6 z)else J)=_;rw[A6 ⟨rfl,h1⟩,h2]
 unfold O2;rw[e]
theorem RS{n:Int}{r:Option PV}(hn:n<=24):∀(ws done:List Wk) (y4 y5:Option PV),(∀w∈ws,yr n w)->((done++ws).map Wk.name).Nodup->done.length+ws.length<=1000 ->
  ∃z4 z5,O9 (K5 4) hJ (ws.map cH) [r,iD n,U<|.own<|done.map P6,U<|.own<|(done.map Wk.name).map f6,y4,y5]=U (.next [r,iD n,U<|.own<|(done++ws).map P6,U<|.own<|((done++ws).map Wk.name).map f6,z4,z5]):=by
 intro l_;induction l_ with
 |nil=>
  intro done y4 y5 _ _ _;exact⟨y4,y5,by rw[bA];rfl⟩
 |cons w ws ih_=>
  intro done y4 y5 h nd hl;rw[L3]at hl;have yl:(((done++[w])++ws).map Wk.name).Nodup:=by rw[gb];exact nd
  obtain⟨z4,z5,e⟩:=ih_ (done++[w]) (sd<|cH w) (sd<|P6 w) (λy hy=>h y<|G6 _ hy) yl (by rw[R5,rh];lia)
  refine⟨z4,z5,?_⟩;have hni:w.name∉done.map Wk.name:=by rw[bN,K3]at nd;have:=(List.nodup_append.mp nd).2.2;exact λhm=>this _ hm _ K9 rfl
  have B:hJ [r,iD n,U<|.own<|done.map P6,U<|.own<|(done.map Wk.name).map f6,sd<|cH w,y5]=U (.next [r,iD n,U<|.own<|(done++[w]).map P6,U<|.own<|((done++[w]).map Wk.name).map f6,sd<|cH w,sd<|P6 w]):=by
   have nn:K7 (P6 w)=U':=rfl;have i0:J2 (P6 w) (p6 0)=sS w.name:=rfl;have ni:=a0Q hni;rw[bN,bN,bN];have ln1:(done.map P6).length<1000000:=by rw[F4];lia
   have ln2:((done.map Wk.name).map E6).length<1000000:=by rw[F4,F4];simp_all
   generalize done.map P6=D1 at *;generalize (done.map Wk.name).map E6=D2 at *;unfold hJ;rw[C3<|N4 (by left;exact(Zk (h w K9) hn))];simp only[An,Am];rw[C3 (ds':=[r,iD n,U<|.own D1,U<|.own D2,sd<|cH w,sd<|P6 w]) (by simp only[J4,V1,B5,A2,C4,fC,fx,gC,P0,PV.du,tj];rw[nn];left;rw[i0];left;rw[ni];left)];rw[C3 (by rw[sx];exact aI (.dat<|P6 w) rfl ln1)];rw[sx];exact aI (.dat<|f6 w.name) rfl ln2
  rw[K3,bp rfl B,e,gb];rfl
theorem SN{ws:List Wk}{n:Int}(hw:∀w∈ws,yr n w)(hn:n<=24)(wl:ws.length<=6)(nd:(ws.map Wk.name).Nodup):oO [B8<|ws.map cH,p6 n]=U (.own<|ws.map P6):=by
 obtain⟨z4,z5,e⟩:=RS hn ws [] J J hw (by simpa using nd) (by simp;exact D6 B1 f7)
 have hc:K6 (B8<|ws.map cH) J (U 6)=U (.own<|ws.map cH):=by
  have:cutD (ws.map cH) J (U<|(6:Nat))=ws.map cH:=by rw[VA,ko (by rw[F4];omega)]
  exact J3 (λl=>U<|PV.own l) this
 simp only[fX]at e;unfold oO;left;rw[hc];left;rw[e];left
structure W5(w:Str):Prop where
 len:w.length<=130
 no:32∉lz w
 ok:nB w
theorem iA{n:Int}(h:yw n):W5<|F5 n:=by
 refine⟨D6 (dq<|AX h) f7,λhc=>?_,vL n⟩;rw[eM]at hc;have:=pL n 32 hc
 simp_all
theorem YE{q:Int×Int}(h:rB q):W5<|T4 q:=by
 have key:∀c∈lz (T4 q),c=45\/c=47\/(48<=c/\c<=57):=by
  intro c hc;rw[sf h.small.pos]at hc;split at hc
  . rcases pL _ c hc with z|z
    exact B3 z;exact B6<|B6 z
  . rcases List.mem_append.mp hc with z|z
    . rcases pL _ c z with z|z
      exact B3 z;exact B6<|B6 z
    . rcases List.mem_cons.mp z with z|z
      exact B6<|B3 z;exact B6<|B6<|bC _ c z
 refine⟨h.len,λhc=>?_,qy λc hc=>?_⟩
 . have:=key 32 hc;simp_all
 have:=key c hc;lia
theorem Gn{z:Str}(h:Nm z):W5 z:=by
 have nm:=λc hc=>ff<|List.all_eq_true.mp h.all c hc;have:=h.len;refine⟨D6 B1 f7,λhc=>?_,qy λc hc=>?_⟩;have:=nm 32 hc;lia;have:=nm c hc;lia
theorem bF{s:String}(h:((lz<|p7 s).all λc=>decide (c<1114112/\c≠32))=Uf)(hl:(lz<|p7 s).length<=130):W5<|p7 s:=by
 have k:=λc hc=>ff<|List.all_eq_true.mp h c hc;exact⟨by rw[M6];exact hl,λhc=>(k 32 hc).2 rfl,qy λc hc=>(k c hc).1⟩
theorem RY{x:dw}(h:x.ok):W5 x.w:=by
 cases x with
 |am n=>exact iA ⟨by have:=h.1;lia,h.2⟩
 |pr n=>exact iA h
 |sh q=>exact YE h
 |nm z=>exact Gn h
variable{h:P2}
def ya(h:P2):List<|List Str:=bf h::(h.hs.map bJ++h.ws.map fg)
noncomputable def T6(l:List Str):Str:=aR ⟨#[32]⟩ l
def ah(h:P2):List f9:=(ya h).map λl=>f6<|T6 l
structure Er(l:List Str):Prop where
 ne:l≠[]
 len:l.length<=700
 w:∀w∈l,W5 w
theorem Co(H:H5 h):Er<|bf h:=by
 have:=H.size;have a2:=H.start;have a3:=H.fill;have a4:=H.take;have a5:=H.kept;have a6:=H.left;have a7:=H.rest;refine⟨by simp[bf],by simp[bf,jr],λw hw=>?_⟩
 rcases List.mem_cons.mp hw with rfl|hw
 exact bF B9 B9
 . obtain⟨x,hx,rfl⟩:=mem_map.mp hw;refine RY ?_;simp only[jr,Q7,U1,V4]at hx;rcases hx with rfl|rfl|rfl|rfl|rfl|rfl|rfl<;>assumption
theorem X3{n:Int}(h:rD n):yw n:=⟨by have:=h.1;lia,h.2⟩
theorem GI{x:Hr}(H:BV x):Er<|bJ x:=by
 have a1:=H.W0;have a2:=H.need;have a3:=H.line;obtain⟨su,ne,ln⟩:=x;have wh:W5<|p7 "hour":=bF B9 B9;cases ln with
 |none=>
  refine⟨by simp[bJ],by simp[bJ],λw hw=>?_⟩
  simp only[bJ,Q7,U1,V4]at hw;rcases hw with rfl|rfl|rfl|rfl
  exact wh;exact iA<|X3 a1;exact iA<|X3 a2;exact bF B9 B9
 |some l=>
  obtain⟨a,b,c,d⟩:=l;obtain⟨b1,b2,b3,b4⟩:=a3 a b c d rfl;refine⟨by simp[bJ],by simp[bJ,vT],λw hw=>?_⟩
  simp only[bJ,vT,K3,fX,lW,iM,Q7,U1,V4]at hw;rcases hw with rfl|rfl|rfl|rfl|rfl|rfl|rfl|rfl
  exact wh;exact iA<|X3 a1;exact iA<|X3 a2;exact bF B9 B9;exact iA b1;exact iA<|X3 b2;exact iA b3;exact iA<|X3 b4
theorem GH{n:Int}{w:Wk}(H:yr n w)(hn:n<=24):Er<|fg w:=by
 have a1:=H.name;have a2:=H.N0;have a3:=H.first;have a4:=H.fl;have a5:=H.last;have a6:=H.most;refine⟨by simp[fg],by simp[fg,nJ],λz hz=>?_⟩
 rcases List.mem_cons.mp hz with rfl|hz
 exact bF B9 B9
 . obtain⟨x,hx,rfl⟩:=mem_map.mp hz;refine RY ?_;simp only[nJ,Q7,U1,V4]at hx;rcases hx with rfl|rfl|rfl|rfl|rfl
   exact a1;exact a2;exact⟨a3,A3⟩;exact⟨O0 B1 B1,A3⟩;exact a6
theorem Ki(H:H5 h):∀l∈ya h,Er l:=by
 have:=H.hl;intro l hl';rcases List.mem_cons.mp hl' with rfl|z
 exact Co H
 . rcases List.mem_append.mp z with z|z
   obtain⟨x,hx,rfl⟩:=mem_map.mp z;exact GI<|H.hs x hx;obtain⟨w,hw,rfl⟩:=mem_map.mp z;exact GH (H.ws w hw) A3
theorem NX:∀L:List<|List Str,(∀l∈L,Er l)->cP (L.map λl=>B8<|l.map f6)=Uf/\dO (L.map λl=>B8<|l.map f6)<=3
 | [],_=>⟨by simp[cP],by simp[dO]⟩
 |a::L,h=>by
  obtain⟨h1,h2⟩:=NX L λl hl=>h l<|G6 _ hl;obtain⟨g1,g2⟩:=Gq a λw hw=>((h a K9).w w hw).ok;exact⟨by simp[cP,dW,h1,g1],by simp[dO,oy];lia⟩
theorem a3C(x:Hr):dW (G3 x)=Uf/\oy (G3 x)<=3:=by
 obtain⟨s,n,l⟩:=x;cases l with
 |none=>exact⟨by simp[G3,ig,dW,cP],by simp[G3,ig,oy,dO]⟩
 |some l=>obtain⟨a,b,c,d⟩:=l;exact⟨by simp[G3,ig,dW,cP],by simp[G3,ig,oy,dO]⟩
theorem Jo:∀L:List Hr,cP (L.map G3)=Uf/\dO (L.map G3)<=3
 | []=>⟨by simp[cP],by simp[dO]⟩
 |a::L=>by obtain⟨h1,h2⟩:=Jo L;obtain⟨g1,g2⟩:=a3C a;exact⟨by simp[cP,h1,g1],by simp[dO];lia⟩
theorem eq_nil{d:f9}{r:List f9}(h1:cP (d::r)=Uf)(h2:dO (d::r)<=3):J5 (B8 (d::r)) (B8 [])=sB U':=by
 unfold J5;split;rename_i h _;cases h
 . rw[A6 ⟨by simp[cE,dW,oy,h1];exact D6 B1 f7,by simp[cE,dW,oy,cP,dO]⟩];simp[cW,oz]
theorem a3J{h:P2}(H:H5 h):AD [B8<|ah h]=sd (O1 h):=by
 have h1:=H.h1;have hl:=H.hl;have wl:=H.wl;have LA:=Ki H;have ec:U7 M0 M3 yj [sL<|ah h,J,J,J,J,J] (ah h)=U ((ya h).map λl=>B8<|l.map f6):=comp_map λl hl'=>⟨.own<|l.map f6,by have k:=LA l hl';unfold yj;left;exact(uL k.ne k.len (λw hw=>(k.w w hw).len)<|λw hw=>(k.w w hw).no),rfl⟩
 have er:((ya h).map λl=>tT<|l.map f6)=B8 ((bf h).map f6)::(h.hs.map mL++h.ws.map cH):=by simp[ya,wQ]
 obtain⟨s1,s2⟩:=NX (ya h) LA;rw[er]at ec s1 s2;have:(ah h).length<=31:=by simp[ah,ya];lia
 have d1:K6 (B8 (B8 ((bf h).map f6)::(h.hs.map mL++h.ws.map cH))) (U 1) J=U (.own<|h.hs.map mL++h.ws.map cH):=by
  show U (PV.own<|cutD _ (U<|(1:Nat)) J)=_;rw[jy];rfl
 have d2:K6 (B8 (B8 ((bf h).map f6)::(h.hs.map mL++h.ws.map cH))) (U<|1+h.hs.length) J=U (.own<|h.ws.map cH):=by
  have:cutD (B8 ((bf h).map f6)::(h.hs.map mL++h.ws.map cH)) (U<|(h.hs.length+1:Nat)) J=h.ws.map cH:=by rw[jy,oK,List.drop_append_of_le_length (by rw[F4];exact N7 _),FT (by rw[F4];exact N7 _),iM]
  show U (PV.own<|cutD _ (U<|1+h.hs.length) J)=_;rw[(A3:(1+(h.hs.length:Int))=((h.hs.length+1:Nat))),this]
 obtain⟨t1,t2⟩:=Jo h.hs;have eh:J5 (B8<|h.hs.map G3) (B8 [])=sB U':=by
  cases e:h.hs with
  |nil=>rw[e]at h1;simp at h1
  |cons a r=>rw[e]at t1 t2;exact eq_nil t1 t2
 have:(tT ((bf h).map f6)::(h.hs.map mL++h.ws.map cH)).length=1+h.hs.length+h.ws.length:=by simp;lia
 have ns:K7 (bH h)=U':=rfl;have hh:bM [B4<|h.hs.map G3,bH h,B4<|h.ws.map P6]=O1 h:=rfl;have l1:(h.hs.map G3).length=h.hs.length:=F4 ..;unfold AD;left;rw[A6<|D6 B1 f7,ec];left;rw[(eq_nil s1 s2)];left;rw[(SR H)];left;rw[ns];left;rw[d1];left;rw[(SV H.hs hl H.ws A3)];left;rw[eh];left;rw[l1,d2];left;rw[(SN H.ws A3 wl H.nd)];left;rw[B2<|by simp_all];left;rw[hh]
theorem DF{l:List Str}(h:Er l):bx (f6<|p7 " ") [B8<|l.map f6]=sS (T6 l):=Cq h.len λw hw=>(h.w w hw).len
theorem kS{l m:List f9}(h:l.length+m.length<=1000):D5 (B8 l) (B8 m)=U (.own<|l++m):=uX<|D6 B1 f7
variable{n:Int}{w:Str}{Z:List f9}{Y:Ds->Option Bool}{G:Ds->Option Out}
inductive Fi|non|W0|line
 deriving DecidableEq
inductive Ta|non|need|give
 deriving DecidableEq
noncomputable def lA:Fi->Str | .non=>"none" | .W0=>"sun" | .line=>"line"
noncomputable def kZ:Ta->Str | .non=>"none" | .need=>"need" | .give=>"give"
noncomputable def pj:Bool->Str|true=>"wait" | false=>"now"
inductive Ts|from_(n:Int)|till (n:Int)|over (n:Int)|under (n:Int)|dear (n:Int)|cheap (n:Int)|dark|sunny
noncomputable def Z7:Ts->f9
 | .from_ n=>B4 [f6 "from",p6 n]
 | .till n=>B4 [f6 "till",p6 n]
 | .over n=>B4 [f6 "over",p6 n]
 | .under n=>B4 [f6 "under",p6 n]
 | .dear n=>B4 [f6 "dear",p6 n]
 | .cheap n=>B4 [f6 "cheap",p6 n]
 | .dark=>B4 [f6 "dark"]
 | .sunny=>B4 [f6 "sunny"]
structure Rl where
 ts:List Ts
 fi:Fi
 ta:Ta
 wo:Bool
def Q5(r:Rl):f9:=B4 [B4<|r.ts.map Z7,f6<|lA r.fi,f6<|kZ r.ta,f6<|pj r.wo]
noncomputable def plain:Rl:=⟨[],.W0,.need,Uf⟩
theorem Lo{least:Int}(h0:least<=n)(h1:n<=1000000)(hl : -1000000<=least):da [f6<|F5 n,p6 least]=iD n:=by
 have hn:n.natAbs<10^60:=bO (G0:n.natAbs<=1000000) f7;have rf:=iT<|D6 (dq hn) f7;rw[eM,ka hn]at rf;unfold da;left;rw[rf];left;unfold BJ;left;rw[B2 (by simp_all),J8 (R4:¬1000000<n)];left
def O4:Ts->List Str
 | .from_ n=>[p7 "from",F5 n]
 | .till n=>[p7 "till",F5 n]
 | .over n=>[p7 "over",F5 n]
 | .under n=>[p7 "under",F5 n]
 | .dear n=>[p7 "dear",F5 n]
 | .cheap n=>[p7 "cheap",F5 n]
 | .dark=>[p7 "dark"]
 | .sunny=>[p7 "sunny"]
def P4:List Ts->List Str
 | []=>[]
 |x::l=>O4 x++P4 l
def pC(r:Rl):List Str:=[p7 "fill",lA r.fi,p7 "take",kZ r.ta,p7 "works",pj r.wo]
def gz(r:Rl):List Str:=p7 "when"::(P4 r.ts++pC r)
def tN:Ts->Prop
 | .from_ n=>0<=n/\n<=1000000
 | .till n=>0<=n/\n<=1000000
 | .over n=>0<=n/\n<=1000000
 | .under n=>0<=n/\n<=1000000
 | .dear n=>-1000000<=n/\n<=1000000
 | .cheap n=>-1000000<=n/\n<=1000000
 |_=>True
structure eB(r:Rl):Prop where
 ts:∀x∈r.ts,tN x
 tl:r.ts.length<=6
structure Wd(w:Str):Prop where
 l:w.length<=10
 b:32∉lz w
theorem IV(h0 : -1000000<=n)(h1:n<=1000000):Wd<|F5 n:=by
 have:=(pI (k:=7) f7).mpr<|bO (A3:n.natAbs<=1000000) f7;have hd:=bC n.natAbs;refine⟨?_,?_⟩
 . rw[M6,eM];unfold ax;split;rw[L3];exact bO B1 f7;exact D6 B1 f7
 . rw[eM];unfold ax;intro z;split at z
   . rcases List.mem_cons.mp z with z|z
     . simp_all
     . have:=hd 32 z;simp_all
   . have:=hd 32 z;simp_all
theorem iz{s:String}(h1:(p7 s).length<=10)(h2:(decide (32∈lz (p7 s)))=U'):Wd<|p7 s:=⟨h1,by simpa using h2⟩
theorem a3j{x:Ts}(h:tN x):∀w∈O4 x,Wd w:=by
 intro w hw;cases x with
 |dark=>simp only[O4,Q7,U1,V4]at hw;subst hw;exact iz B9 B9
 |sunny=>simp only[O4,Q7,U1,V4]at hw;subst hw;exact iz B9 B9
 |dear n=>
  have h':=h;simp only[O4,Q7,U1,V4]at hw;rcases hw with rfl|rfl
  exact iz B9 B9;exact IV h'.1 h'.2
 |cheap n=>
  have h':=h;simp only[O4,Q7,U1,V4]at hw;rcases hw with rfl|rfl
  exact iz B9 B9;exact IV h'.1 h'.2
 |_ n=>
  have h':0<=n/\n<=1000000:=h;simp only[O4,Q7,U1,V4]at hw;rcases hw with rfl|rfl
  exact iz B9 B9;exact IV A3 h'.2
theorem RV:∀(l:List Ts),(∀x∈l,tN x)->∀w∈P4 l,Wd w
 | [],_,w,hw=>by cases hw
 |x::l,h,w,hw=>by
  rcases List.mem_append.mp (show w∈O4 x++P4 l from hw)with hw|hw
  exact a3j (h x<|by simp) w hw;exact RV l (λy hy=>h y<|by simp[hy]) w hw
theorem a5X(r:Rl):∀w∈pC r,Wd w:=by
 intro w hw;simp only[pC,Q7,U1,V4]at hw;rcases hw with rfl|rfl|rfl|rfl|rfl|rfl
 exact iz B9 B9
 . cases r.fi<;>exact iz B9 B9
 exact iz B9 B9
 . cases r.ta<;>exact iz B9 B9
 exact iz B9 B9
 . cases r.wo<;>exact iz B9 B9
theorem Gm{r:Rl}(h:eB r):∀w∈gz r,Wd w:=by
 intro w hw;rcases List.mem_cons.mp hw with rfl|hw
 exact iz B9 B9
 rcases List.mem_append.mp hw with hw|hw
 exact RV r.ts h.ts w hw;exact a5X r w hw
theorem Bl:∀(l:List Ts),l.length<=(P4 l).length/\(P4 l).length<=2*l.length
 | []=>⟨N7 _,N7 _⟩
 |x::l=>by
  have:=Bl l;have:1<=(O4 x).length/\(O4 x).length<=2:=by cases x<;>exact⟨by simp[O4],by simp[O4]⟩
  show(l.length+1)<=(O4 x++P4 l).length/\(O4 x++P4 l).length<=2*(l.length+1);rw[R5];lia
theorem Pd(a b:Str):qG (f6 a) (f6 b)=(a==b):=rfl
theorem in_words(w:Str)(l:List Str):(O2 inD U3) (f6 w) (B4<|l.map f6)=sB (l.any λy=>y==w):=by
 have fl:(l.map E6).all Flat=Uf:=by simp[Flat]
 have e:inD (f6 w) (B4<|l.map f6)=sB (l.any λy=>y==w):=by
  show(if Flat (f6 w)=Uf/\(l.map E6).all Flat=Uf then sB ((l.map E6).any λy=>qG y<|f6 w)else J)=_;rw[A6 ⟨rfl,fl⟩];simp[wQ,Pd]
 unfold O2;rw[e]
theorem notin_words(w:Str)(l:List Str):(O2 U5 R8) (f6 w) (B4<|l.map f6)=sB (!l.any λy=>y==w):=by
 have fl:(l.map E6).all Flat=Uf:=by simp[Flat]
 have e:U5 (f6 w) (B4<|l.map f6)=sB (!l.any λy=>y==w):=by
  show(if Flat (f6 w)=Uf/\(l.map E6).all Flat=Uf then sB (!(l.map E6).any λy=>qG y<|f6 w)else J)=_;rw[A6 ⟨rfl,fl⟩];simp[wQ,Pd]
 unfold O2;rw[e]
theorem GV(w:Str):(O2 inD U3) (f6 w) gN=sB ([p7 "dark",p7 "sunny"].any λy=>y==w):=in_words w [p7 "dark",p7 "sunny"]
theorem Ig(w:Str):(O2 inD U3) (f6 w) gO=sB ([p7 "from",p7 "till",p7 "over",p7 "under"].any λy=>y==w):=in_words w [p7 "from",p7 "till",p7 "over",p7 "under"]
theorem JF(w:Str):(O2 inD U3) (f6 w) iI=sB ([p7 "dear",p7 "cheap"].any λy=>y==w):=in_words w [p7 "dear",p7 "cheap"]
theorem a5k(f:Fi):(O2 U5 R8) (f6<|lA f) nZ=sB U':=by refine(notin_words (lA f) [p7 "none",p7 "sun",p7 "line"]).trans ?_;cases f<;>congr 3<;>decide +kernel
theorem a3t(f:Ta):(O2 U5 R8) (f6<|kZ f) nY=sB U':=by refine(notin_words (kZ f) [p7 "none",p7 "need",p7 "give"]).trans ?_;cases f<;>congr 3<;>decide +kernel
theorem a3f(f:Bool):(O2 U5 R8) (f6<|pj f) nX=sB U':=by refine(notin_words (pj f) [p7 "now",p7 "wait"]).trans ?_;cases f<;>congr 3<;>decide +kernel
theorem qb(h0:0<=n)(h1:n<=1000000)(hb:([p7 "dark",p7 "sunny"].any λy=>y==w)=U')(ha:([p7 "from",p7 "till",p7 "over",p7 "under"].any λy=>y==w)=Uf)(hp:([p7 "dear",p7 "cheap"].any λy=>y==w)=U'):
  Z0 [B8 (f6 w::f6 (F5 n)::Z)]=sd (B4 [f6 w,p6 n]):=by unfold Z0;left;rw[GV,hb];left;rw[Ig,ha];left;rw[A6 A3,(Lo h0 h1 f7)];left;rw[JF,hp];left
theorem CV(h0 : -1000000<=n)(h1:n<=1000000)(hb:([p7 "dark",p7 "sunny"].any λy=>y==w)=U')(ha:([p7 "from",p7 "till",p7 "over",p7 "under"].any λy=>y==w)=U')(hp:([p7 "dear",p7 "cheap"].any λy=>y==w)=Uf):
  Z0 [B8 (f6 w::f6 (F5 n)::Z)]=sd (B4 [f6 w,p6 n]):=by unfold Z0;left;rw[GV,hb];left;rw[Ig,ha];left;rw[JF,hp];left;rw[A6 A3,(Lo h0 h1 f7)];left
theorem Hh(hb:([p7 "dark",p7 "sunny"].any λy=>y==w)=Uf):
  Z0 [B8 (f6 w::Z)]=sd (B4 [f6 w]):=by unfold Z0;left;rw[GV,hb];left
theorem Jw{x:Ts}(h:tN x)(more:List f9):Z0 [B8<|(O4 x).map f6++more]=sd (Z7 x):=by
 cases x with
 |from_ n=>exact qb h.1 h.2 B9 B9 B9
 |till n=>exact qb h.1 h.2 B9 B9 B9
 |over n=>exact qb h.1 h.2 B9 B9 B9
 |under n=>exact qb h.1 h.2 B9 B9 B9
 |dear n=>exact CV h.1 h.2 B9 B9 B9
 |cheap n=>exact CV h.1 h.2 B9 B9 B9
 |dark=>exact Hh B9
 |sunny=>exact Hh B9
theorem PL{m:Nat}{ds ds':Ds}(h1:Y ds=U Uf)(h2:G ds=U (.next ds')):Q4 Y G (m+1) ds=Q4 Y G m ds':=by rw[Q4,h1];rw[h2];rfl
theorem RU{m:Nat}{ds:Ds}(h1:Y ds=U U'):Q4 Y G (m+1) ds=U (.next ds):=by rw[Q4,h1];simp only[P0,Ao,if_false]
theorem CL(a b:List Ts):P4 (a++b)=P4 a++P4 b:=by
 induction a with
 |nil=>rfl
 |cons z a ih=>show O4 z++P4 (a++b)=O4 z++P4 a++P4 b;rw[ih,gb]
theorem PU(suf:List f9):∀(todo done:List Ts) (m:Nat) (y:Option PV),(∀x∈todo,tN x)->done.length+todo.length<=6 ->
  ∃y',Q4 N3 O8 (m+todo.length) [sL<|(P4<|done++todo).map f6++suf,U<|.own<|done.map Z7,iD ((P4 done).length:Int),y]=Q4 N3 O8 m [sL<|(P4<|done++todo).map f6++suf,U<|.own<|(done++todo).map Z7,iD ((P4<|done++todo).length:Int),y']:=by
 intro l_;induction l_ with
 |nil=>
  intro done m y _ _;exact⟨y,by rw[bA];rfl⟩
 |cons x todo ih_=>
  intro done m y h hl;have:done.length+(todo.length+1)<=6:=hl;have e1:done++x::todo=(done++[x])++todo:=C9;have ix:P4 [x]=O4 x:=by show O4 x++[]=_;simp
  obtain⟨y',ih⟩:=ih_ (done++[x]) m (sd<|Z7 x) (λz hz=>h z<|by simp[hz]) (by simp;lia)
  refine⟨y',?_⟩;rw[<-e1]at ih;have:1<=(O4 x).length:=by cases x<;>simp[O4]
  have tl:N5 [Z7 x]=iD ((O4 x).length):=by cases x<;>rfl
  have nn:K7 (Z7 x)=U':=by cases x<;>rfl
  have:((P4 (done++x::todo)).map E6++suf).length=(P4 done).length+((O4 x).length+(P4 todo).length)+suf.length:=by
   rw[R5,F4,CL,R5];show _+(O4 x++P4 todo).length+_=_;rw[R5]
  have al2:((P4<|done++[x]).length:Int)=(P4 done).length+(O4 x).length:=by rw[CL,R5,ix];rfl
  have dr:((P4 (done++x::todo)).map E6++suf).drop (P4 done).length=(O4 x).map f6++((P4 todo).map f6++suf):=by
   rw[CL,bN,gb,EX<|by rw[F4]];show(O4 x++P4 todo).map E6++suf=_;rw[bN,gb]
  have rt:=Jw (h x C9)<|(P4 todo).map f6++suf;generalize (P4 (done++x::todo)).map E6++suf=WW at *;refine zE (PL ?_ ?_) ih
  . unfold N3;left
    congr 1
    exact L7 A3
  . unfold O8;left;rw[show K6 (B8 WW) (U<|(P4 done).length) J=U (.own<|cutD WW (U<|(P4 done).length) J)from rfl,jy,dr];left;rw[rt];have ap:=λ(ds:Ds) (hd:ds[1]?=U (U<|.own<|done.map Z7))=>aI (.dat<|Z7 x) hd (by rw[F4];lia);rw[al2,bN];left;rw[nn];left;rw[B2 (by rw[F4];lia)];left;rw[ap _ rfl];left;rw[tl];rfl
variable{k:Nat}{d:f9}{Z:Type}
structure Sh(k:Nat)(d:f9):Prop where
 c:d.canLay0=Uf
 d:d.depth<=k
theorem Sh.shaped(h:Sh k d)(hk:k<=64):cE d=Uf:=by have:=h.d;simp only[cE,fu,gX];exact⟨h.c,D6 B1 B1⟩
theorem a6w(i:Int):Sh 0<|p6 i:=⟨by simp[dW],by simp[oy]⟩
theorem SI{k:Nat}:∀{l:List f9},(∀x∈l,Sh k x)->cP l=Uf/\dO l<=k
 | [],_=>⟨by simp[cP],by simp[dO]⟩
 |x::r,h=>by
  obtain⟨a,b⟩:=SI (l:=r) λy hy=>h y (by simp[hy]);have hx:=h x C9;refine⟨by simp[cP,hx.c,a],?_⟩;have:=hx.d;simp only[dO];lia
theorem a6v{l:List f9}(h:∀x∈l,Sh k x):Sh (k+1)<|B4 l:=by obtain⟨a,b⟩:=SI h;exact⟨by simpa [dW]using a,by simp only[oy];simp_all⟩
mutual
theorem Lc:∀d:f9,d.canLay0=Uf->cW d d=Uf
 |F3,_=>rfl
 |E5 b,_=>by simp[cW]
 |p6 i,_=>by simp[cW]
 |f6 x,_=>by simp[cW]
 |B8 xs,h=>by rw[cW];exact zp xs (by simpa [dW]using h)
 |B4 xs,h=>by rw[cW];exact zp xs (by simpa [dW]using h)
 |iN _,h=>by simp[dW]at h
theorem zp:∀l:List f9,cP l=Uf->oz l l=Uf
 | [],_=>rfl
 |x::r,h=>by
  have h':x.canLay0=Uf/\cP r=Uf:=by simpa [cP]using h
  rw[oz,Lc x h'.1,zp r h'.2];rfl
end
theorem Us{l:Nat}{e:f9}(hd:Sh k d)(he:Sh l e)(hk:autoParam (k<=64) aj)(hl:autoParam (l<=64) aj):V6 d e=sB (!PyData.eqv d e):=by
 unfold V6;split;rw[a5q];rw[A6 ⟨hd.shaped hk,he.shaped hl⟩]
theorem YR{ts:List Ts}(h:∀x∈ts,tN x)(hl:ts.length<=6):jW [B8<|(P4 ts).map f6]=sd (B4<|ts.map Z7):=by
 obtain⟨k,hk⟩:=Nat.le.dest (Bl ts).1;obtain⟨y',e⟩:=PU [] ts [] (k+1) J h (by simpa using hl)
 rw[iM,bA]at e;have mu:QO 0 [sL<|(P4 ts).map f6,U<|.own [],iD 0,J]=k+1+ts.length:=by
  show((P4 ts).map E6).length+1=_;rw[F4];lia
 have w2:Q4 N3 O8 (k+1) [sL<|(P4 ts).map f6,U<|.own<|ts.map Z7,iD<|(P4 ts).length,y']=U (.next [sL<|(P4 ts).map f6,U<|.own<|ts.map Z7,iD<|(P4 ts).length,y']):=RU (by unfold N3;left;simp);have e':Q4 N3 O8 (k+1+ts.length) [sL<|(P4 ts).map f6,U<|.own [],iD 0,J]=_:=e.trans w2;unfold jW;left;rw[mu,e'];left
theorem a1j(r:Rl):gZ [B8<|(pC r).map f6]=sd (B4 [f6<|lA r.fi,f6<|kZ r.ta,f6<|pj r.wo]):=by
 have hs:Sh 1<|B8 [f6<|p7 "fill",f6<|p7 "take",f6<|p7 "works"]:=⟨B9,B9⟩;have ne:V6 (B8 [f6<|p7 "fill",f6<|p7 "take",f6<|p7 "works"]) (B8 [f6<|p7 "fill",f6<|p7 "take",f6<|p7 "works"])=sB U':=by rw[Us hs hs,Lc _ hs.c];rfl
 have s0:yK (B8<|(pC r).map f6) (U 0) J (U 2)=U (.own [f6<|p7 "fill",f6<|p7 "take",f6<|p7 "works"]):=rfl;have s1:yK (B8<|(pC r).map f6) (U 1) J (U 2)=U (.own [f6<|lA r.fi,f6<|kZ r.ta,f6<|pj r.wo]):=rfl;unfold gZ;left;simp only[zj];left;rw[s0];left;rw[ne];left;simp only[zj];left;rw[s1];left;rw[a5k];left;rw[a3t];left;rw[a3f];left
theorem a1s(w:Z)(m s:List Z)(hs:s.length=6):cutD (w::(m++s)) (U 1) (U<|-6)=m:=by
 have e:(w::(m++s)).length=m.length+7:=by rw[L3,R5,hs]
 unfold cutD HT.U4;rw[e];simp;rw[(A3:(-6+((m.length:Int)+7)).toNat-1=m.length)];exact EW rfl
theorem VC(w:Z)(m s:List Z)(hs:s.length=6):cutD (w::(m++s)) (U<|-6) J=s:=by
 have e:(w::(m++s)).length=m.length+7:=by rw[L3,R5,hs]
 unfold cutD HT.U4;rw[e];simp;rw[(A3:(-6+((m.length:Int)+7)).toNat=m.length+1),oK,EX rfl];exact ko (by simp_all)
theorem Cp(r:Rl):gz r≠[]:=by unfold gz;simp
theorem ng{r:Rl}(h:eB r):(gz r).length<=19/\7<=(gz r).length:=by
 have:=Bl r.ts;have:=h.tl;unfold gz;rw[L3,R5];show(P4 r.ts).length+6+1<=19/\_<=(P4 r.ts).length+6+1;lia
def S8(r:Rl):Str:=aR ⟨#[32]⟩<|gz r
theorem nM{r:Rl}(h:eB r):bD [f6<|S8 r]=sd (Q5 r):=by
 have wd:=Gm h;obtain⟨l1,l2⟩:=ng h;have sp:=uL (Cp r) (D6 B1 f7) (λw hw=>D6 (wd w hw).l f7)<|λw hw=>(wd w hw).b
 have te:=YR h.ts h.tl;have de:=a1j r;have e1:(gz r).map E6=f6 (p7 "when")::((P4 r.ts).map f6++(pC r).map f6):=by unfold gz;rw[K3,bN]
 have c1:=a1s (E6<|p7 "when") ((P4 r.ts).map f6) ((pC r).map f6) rfl;have c2:=VC (E6<|p7 "when") ((P4 r.ts).map f6) ((pC r).map f6) rfl;have ln:¬((((E6 (p7 "when")::((P4 r.ts).map f6++(pC r).map f6)).length)):Int)<=6:=by rw[<-e1,F4];lia
 rw[e1]at sp;unfold bD S8;left;rw[sp];generalize (P4 r.ts).map E6=am at *;generalize (pC r).map E6=sm at *;left;rw[B2<|show ¬((((am++sm).length+1:Nat)):Int)<=6 from ln];left;rw[show K6 (B8 (E6 (p7 "when")::(am++sm))) (U 1) (U<|-6)=U (.own<|cutD (E6 (p7 "when")::(am++sm)) (U 1)<|U<|-6)from rfl,c1];left;rw[te];left;rw[show K6 (B8 (E6 (p7 "when")::(am++sm))) (U<|-6) J=U (.own<|cutD (E6 (p7 "when")::(am++sm)) (U<|-6) J)from rfl,c2];left;rw[de];left;rfl
theorem Bs{n:Int}(h0 : -1000000<=n)(h1:n<=1000000):cZ [B4 [p6 n,p6 1]]=sS (F5 n):=by
 have hn:n.natAbs<10^60:=bO (A3:n.natAbs<=1000000) f7;have:=nI (p:=(n,1)) ⟨hn,by show(1:Int).natAbs<10^60;decide,by show 0<1;decide⟩;unfold T4 at this
 rwa [A6 rfl]at this
noncomputable def IB:Ts->List f9
 | .from_ n=>[p6 n]
 | .till n=>[p6 n]
 | .over n=>[p6 n]
 | .under n=>[p6 n]
 | .dear n=>[p6 n]
 | .cheap n=>[p6 n]
 |_=>[]
noncomputable def IH:Ts->Str
 | .from_ _=>p7 "from"
 | .till _=>p7 "till"
 | .over _=>p7 "over"
 | .under _=>p7 "under"
 | .dear _=>p7 "dear"
 | .cheap _=>p7 "cheap"
 | .dark=>p7 "dark"
 | .sunny=>p7 "sunny"
theorem Sj(x:Ts):Z7 x=B4 (f6 (IH x)::IB x):=by cases x<;>rfl
theorem a1q{α:Type}(x:α)(l:List α):cutD (x::l) (U 1) J=l:=by simp[cutD,HT.U4]
theorem SW{x:Ts}(h:tN x)(ds:Ds):U7 M0 M3 fI ds (IB x)=U ((O4 x).tail.map f6):=by
 have go:∀n:Int,-1000000<=n->n<=1000000->U7 M0 M3 fI ds [p6 n]=U [f6<|F5 n]:=λn h0 h1=>by
  have e:fI (iD n::ds)=sS (F5 n):=by unfold fI;left;rw[Bs h0 h1]
  rw[U7];simp only[M0,P0,qH,tF,lW,iM];rw[e];rfl
 cases x with
 |dark=>rfl
 |sunny=>rfl
 |dear n=>exact go n h.1 h.2
 |cheap n=>exact go n h.1 h.2
 |_ n=>exact go n (by have:=h.1;lia) h.2
theorem PJ(x:Ts):O4 x=IH x::(O4 x).tail:=by cases x<;>rfl
theorem Pa{i:Nat}{F:Ds->Option PV}{ds:Ds}{l m:List f9}(h1:F ds=U (.own m))(h2:ds[i]?=U (U<|.own l))(h3:l.length+m.length<=1000000):GS i F ds=U (.next<|ds.set i<|U<|.own<|l++m):=by unfold GS;rw[h1];simp only[P0];rw[h2];simp only;rw[A6 h3]
theorem UJ:∀(ts:List Ts) (W:List Str) (a y:Option PV),(∀x∈ts,tN x)->W.length+2*ts.length<=1000 ->
  ∃y',O9 (K5 2) bY (ts.map Z7) [a,U<|.own<|W.map f6,y]=U (.next [a,U<|.own<|(W++P4 ts).map f6,y']):=by
 intro l_;induction l_ with
 |nil=>
  intro W a y _ _;exact⟨y,by unfold P4;rw[bA];rfl⟩
 |cons x ts ih_=>
  intro W a y h hl;have:W.length+2*(ts.length+1)<=1000:=hl;have:(O4 x).length<=2:=by cases x<;>simp[O4]
  obtain⟨y',ih⟩:=ih_ (W++O4 x) a (sd<|Z7 x) (λz hz=>h z<|by simp[hz]) (by rw[R5];lia)
  refine⟨y',?_⟩;have:(O4 x).tail.length<=1:=by rw[List.length_tail];simp_all
  have st:bY [a,U<|.own<|W.map f6,sd<|Z7 x]=U (.next [a,U<|.own<|(W++O4 x).map f6,sd<|Z7 x]):=by
   have rc:=SW<|h x C9;rw[(PJ x),bN,K3];generalize (O4 x).tail=tw at *;rw[(Sj x)];unfold bY;left;rw[aI _ rfl (by rw[F4];lia)];left;refine zE (Pa (m:=tw.map f6) ?_ rfl (by rw[R5,F4,F4];simp;lia)) ?_
   . unfold Y8;left;rw[show K6 (B4 (f6 (IH x)::IB x)) (U 1) J=sd (B4<|cutD (f6 (IH x)::IB x) (U 1) J)from rfl,a1q];left;rw[A6 (by cases x<;>exact Nat.le_of_ble_eq_true rfl),rc];rfl
   left;rw[gb];rfl
  show((bY [a,U<|.own<|W.map f6,sd<|Z7 x]).bind λo=>match o with
   | .next ds2=>O9 (K5 2) bY (ts.map Z7) ds2
   | .cont ds2=>O9 (K5 2) bY (ts.map Z7) ds2
   | .brk ds2=>U<|.next ds2
   | .ret pv=>U<|.ret pv
   | .up x=>U<|.up x
   | .retO pv ds2=>U<|.retO pv ds2
   | .upO t x ds2=>U<|.upO t x ds2)=_
  rw[st];refine zE ih ?_;rw[gb];rfl
theorem Ju{r:Rl}(h:eB r):qi [Q5 r]=sS (S8 r):=by
 obtain⟨l1,l2⟩:=ng h;have:=h.tl;have:=Bl r.ts;obtain⟨y,e⟩:=UJ r.ts [p7 "when"] (sd<|Q5 r) J h.ts (by simp;lia)
 have i0:J2 (Q5 r) (p6 0)=sd (B4<|r.ts.map Z7):=rfl;have i1:J2 (Q5 r) (p6 1)=sS (lA r.fi):=rfl;have i2:J2 (Q5 r) (p6 2)=sS (kZ r.ta):=rfl;have i3:J2 (Q5 r) (p6 3)=sS (pj r.wo):=rfl;have ew:([p7 "when"]++P4 r.ts).map E6++[f6<|p7 "fill",f6<|lA r.fi,f6<|p7 "take",f6<|kZ r.ta,f6<|p7 "works",f6<|pj r.wo]=(gz r).map f6:=by unfold gz pC;simp[bN]
 have:(([p7 "when"]++P4 r.ts).map E6).length<=100:=by rw[F4,R5];simp;lia
 generalize ([p7 "when"]++P4 r.ts).map E6=wm at *;unfold qi S8;left;rw[i0];left
 erw [e]
 left;rw[i1,i2,i3];left;rw[uX (by simp;exact D6 B1 f7)];left;rw[ew,(Cq (D6 B1 f7)<|λw hw=>D6 ((Gm h) w hw).l f7)];left
theorem yL{K:List Rl}(h:∀r∈K,eB r)(hl:K.length<=20):eG [B4<|K.map Q5]=U (.own<|K.map λr=>f6<|S8 r):=by
 have cm:=λds=>comp_map (Fe:=iw) (ds:=ds) (λr hr=>⟨.dat<|f6<|S8 r,by unfold iw;left;rw[Ju<|h r hr],rfl⟩);unfold eG;left;rw[A6 (by rw[F4];exact D6 B1 f7),cm];left
variable{k t:Int}{Z:List Int}
noncomputable abbrev dg(ns:List Int):f9:=B8<|ns.map p6
theorem NY(ns:List Int):(ns.map jL).length=ns.length:=C9
theorem SK(h0:0<=k)(h:k<Z.length):Y5 (Z.map jL) k=U (p6<|Z.getD k.toNat 0):=by
 rw[gP ((Aq B1).symm) (by simp;simp_all),aK,Y2<|by simp_all];simp[Y2<|show k.toNat<Z.length by simp_all]
def OC:=A4 (B0 4<|A2 Q1 (A2 D5 (A2 D5 (A2 sY (A2 Q1 (C4 2)<|fC<|p6 1000003)<|fC<|p6 48271)<|A2 sY (A2 sY (C4 1)<|C4 1)<|fC<|p6 7919)<|fC<|p6 1)<|fC<|p6 65521)<|A4 (B0 4<|A2 Q1 (A2 D5 (A2 sY (C4 4)<|C4 4)<|C4 1)<|fC<|p6 65519)<|D7<|A2 Q1 (A2 D5 (A2 sY (A2 sY (C4 4)<|C4 4)<|fC<|p6 31)<|C4 4)<|fC<|p6 65497
theorem Ka{d:f9}(y:Option PV)(h0:0<=k)(h1:k<=100000):∃r:Int,(OC [sd d,iD k,iD t,y,J]).bind dG=iD r/\0<=r/\r<65497:=by have:=U9 t (b:=1000003) f7;have:=W8 t (b:=1000003) f7;have kk:Bt 60000<|k*k:=((Bt.small A3<|ma B1 f7).mul<|Bt.small A3<|ma B1 f7).mono f7;unfold OC;right;rw[K4 f7];right;rw[Y0 (Bt.kG G0<|O0 B1 f7) Bt.lit];right;rw[Y0 (Bt.kG A3<|ma B1 f7)<|Bt.kG A3<|ma B1 f7];right;rw[Y0 kk Bt.lit];right;rw[K4 f7];right;have:=U9 (t.fmod 1000003*48271+k*k*7919+1) (b:=65521) f7;have:=W8 (t.fmod 1000003*48271+k*k*7919+1) (b:=65521) f7;generalize (t.fmod 1000003*48271+k*k*7919+1).fmod 65521=v at *;rw[Y0 (Bt.kG A3<|O0 B1 f7)<|Bt.kG A3<|O0 B1 f7];right;rw[K4 f7];right;have:=U9 (v*v+k) (b:=65519) f7;have:=W8 (v*v+k) (b:=65519) f7;generalize (v*v+k).fmod 65519=w at *;have ww:Bt 60000<|w*w:=((Bt.small A3<|O0 B1 f7).mul<|Bt.small A3<|O0 B1 f7).mono f7;rw[Y0 (Bt.kG A3<|O0 B1 f7)<|Bt.kG A3<|O0 B1 f7];right;rw[Y0 ww Bt.lit];right;exact⟨_,rfl,U9 _ f7,W8 _ f7⟩
theorem P7{ns:List Int}(hl:ns.length<=63)(h0:0<=k)(h1:k<=100000):∃r:Int,K2 [dg ns,p6 k]=iD r/\0<=r/\r<65497:=by
 unfold K2;right;rw[NY];by_cases hp:(0:Int)<ns.length
 . rw[A6 hp,K4<|ei];right;rw[SK (U9 k hp)<|W8 k hp];right;rw[SK (fV 0) hp];right;rw[K4 f7];right;by_cases h2:Int.fmod (ns.getD 0 0) 2=1
   . rw[A6 h2,NY];rw[U2 (ei)<|Bt.kG (iO _) A3];right;rw[K4 f7];have:=U9 (k.fdiv ns.length) (b:=60) f7;have:=W8 (k.fdiv ns.length) (b:=60) f7;right;rw[mM G0];right;obtain⟨ds',e1,c,y3,rfl⟩:=xM (gt:=K5 3) (G:=qp) (lo:=0)
      (λn ds=>∃c y3,ds=[sd<|dg ns,iD k,iD c,y3,J]) ⟨_,J,rfl⟩ (by rintro n ds hn ⟨c,y3,rfl⟩;refine⟨_,[sd<|dg ns,iD k,iD<|c.fdiv 65497,iD<|0+n,J],rfl,B3 ?_,_,_,rfl⟩;unfold qp;right;rw[U2 f7 Bt.lit];right)
     erw [e1]
     right;rw[K4 f7];right;exact⟨_,rfl,U9 _ f7,W8 _ f7⟩
   rw[B2 h2];simp only[mW];exact Ka J h0 h1
 rw[B2 hp];simp only[mW];exact Ka J h0 h1
theorem PB(x y:Int)(a b z:Option PV):oZ [a,b,iD x,iD y,z]=U (decide (0<y)):=by unfold oZ;right
theorem a5J(x:Int)(a b z:Option PV)(h:k≠0):rX [a,b,iD x,iD k,z]=U (.next [a,b,iD k,iD<|x.fmod k,iD<|x.fmod k]):=by unfold rX;right;rw[K4 h];right
theorem a0E(hb:0<k)(hbb:Bt 8000 k):yh [p6 t,p6 k]=sd (fr<|N9 t k):=by
 unfold yh;right;obtain⟨ds',h1,⟨x',y',z',rfl,hg,hx',hy'⟩,h3⟩:=Ha (Fc:=oZ) (λds=>∃x' y' z',ds=[iD t,iD k,iD x',iD y',z']/\gc x' y'=gc t k/\0<=x'/\0<=y') (λds=>xK 3 ds-1) (by
  rintro ds ⟨x',y',z',rfl,hg,hx',hy'⟩;rw[PB];by_cases h:y'=0;refine .inl ?_;simp[h]
  . refine .inr ⟨by simp;omega,_,a5J x' _ _ z' h,⟨y',x'.fmod y',_,rfl,?_,hy',U9 x' G0⟩,?_⟩
    . rw[<-hg];show((J6 y'<|x'.fmod y'):Int)=(J6 x' y');rw[KL]
    . have:=vR x' h;right;omega) (k.natAbs+1) [iD t,iD k,iD<|if t<0 then -t else t,iD k,J] ⟨_,k,J,rfl,by
       show((J6 (if t<0 then -t else t) k):Int)=(J6 t k)
       split<;>simp,by split<;>omega,G0⟩ (by right;omega)
 rw[PB]at h3;have hz:y'=0:=by
  have:¬0<y':=by simpa using h3
  omega
 subst hz;have e:gc x' 0=x':=by show((J6 x' 0))=x';rw[WM];omega
 rw[e]at hg;subst hg;rw[h1];right;have hg':=a2C (t:=t) (G0:k≠0);have hgb:=DW (t:=t) (G0:k≠0) hbb;rw[U2 hg' hgb,U2 hg' hgb];unfold N9;rw[B2 G0];rfl
theorem Kg(hb:0<k):0<(N9 t k).2/\J6 (N9 t k).1 (N9 t k).2=1/\(N9 t k).1*k=t*(N9 t k).2/\(N9 t k).2∣k:=by
 have e:N9 t k=(t/gc t k,k/gc t k):=by unfold N9;rw[B2 A3,gD _ (by simp_all),gD _ R4]
 have d1:gc t k∣t:=jT ..;have d2:gc t k∣k:=gd ..;have m2:=wY d2;rw[e];refine⟨MU hb R4 d2,Aw<|xi t<|ei,?_,⟨gc t k,m2.symm⟩⟩;generalize gc t k=g at *;have:t/g*k=t/g*(k/g*g):=by rw[m2]
 rw[this,Y9 (k/g) g,<-jP,(wY d1)]
theorem a4R{b:Int}(t1:1<=t)(tb:t<=b)(b1:b<=1000):rB<|N9 t b:=by
 obtain⟨h0,h1,h2,h3⟩:=Kg (show 0<b by exact O0 B1 B1)
 have:=wD A3 h3;have e1:=h2;have p1:0<(N9 t b).1:=by have:0<t*(N9 t b).2:=ao B1 h0;rw[<-e1]at this;exact Int.pos_of_mul_pos_left this A3
 refine⟨p1,?_,O0 B1 B1,h1⟩;have:t*(N9 t b).2<=b*(N9 t b).2:=rM tb<|bu B1;rw[<-e1,Y9 b]at this;exact Yj this A3
theorem Zh(hl:Z.length<=63):∃r:Int,vd [dg Z]=iD r/\0<=r/\r<=40000:=by
 obtain⟨m,e,m0,m1⟩:=P7 (k:=100) hl f7 f7;have:=U9 m (b:=5) f7;have:=W8 m (b:=5) f7;obtain⟨b,hb,b0,b1⟩:∃b:Int,Y5 [jL 1,p6 1,p6 1,p6 1000,p6 40000] (m.fmod 5)=U (p6 b)/\0<=b/\b<=40000:=by generalize m.fmod 5=z at *;have:z=0\/z=1\/z=2\/z=3\/z=4:=A3;rcases this with rfl|rfl|rfl|rfl|rfl<;>exact⟨_,rfl,f7,f7⟩
 unfold vd;right;rw[e];right;rw[K4 f7];right;rw[hb];exact⟨b,rfl,b0,b1⟩
theorem bV{ns:List Int}(hl:ns.length<=63)(h0:0<=k)(h1:k<=100000):∃r:Int,Y3 [dg ns,p6 k]=iD r/\0<=r/\r<=480000:=by
 obtain⟨m,e,m0,m1⟩:=P7 hl h0 h1;obtain⟨s,es,s0,s1⟩:=Zh hl;have c0:=U9 m (b:=13) f7;have:=W8 m (b:=13) f7;unfold Y3;right;rw[e];right;rw[K4 f7,es];right;rw[Y0 (Bt.kG G0<|O0 B1 f7)<|Bt.kG A3<|ma B1 f7];refine⟨_,rfl,zX c0 s0,?_⟩;have:m.fmod 13*s<=12*40000:=LY G0 s1 s0 f7
 simp_all
variable{i:Nat}{Z:List Int}{k:Int}{l:List Str}
structure Ly(l:List Str):Prop where
 len:l.length=6
 nm:∀z∈l,Nm z
 nd:l.Nodup
theorem Uq{f:Nat->Str}(h:∀n j,n<i->j<i->f n=f j->n=j):((Z4 i).map f).Nodup:=by rw[List.nodup_iff_pairwise_ne,List.pairwise_map];refine List.Pairwise.imp_of_mem ?_<|List.nodup_range;intro a b ha hb hne he;exact hne<|h a b (mem_range.mp ha) (mem_range.mp hb) he
theorem Ly.at(h:Ly l)(hi:i<6):Nm<|l.getD i "":=by
 have e:i<l.length:=by rw[h.len];exact hi
 rw[mi,Y2 e];exact h.nm _<|jS e
theorem Ly.inj(h:Ly l){j:Nat}(hi:i<6)(hj:j<6)(e:l.getD i "" = l.getD j ""):i=j:=by
 have a:i<l.length:=by rw[h.len];exact hi
 have b:j<l.length:=by rw[h.len];exact hj
 rw[mi,Y2 a,mi,Y2 b]at e;exact(Wx h.nd).mp e
theorem map_getD{α:Type}{f:α->f9}{l:List α}(a:α)(h:i<l.length):Y5 (l.map f) (0+(i:Int))=U (f<|l.getD i a):=by
 rw[LJ,gP rfl (by simpa using h),aK,Y2 h];simp[h]
theorem a4N:Ly [p7 "w",p7 "wa",p7 "wab",p7 "a",p7 "ab",p7 "b"]:=by
 refine⟨rfl,λz hz=>?_,?_⟩
 . simp only[Q7,U1,V4]at hz;rcases hz with rfl|rfl|rfl|rfl|rfl|rfl<;>exact⟨B9,B9,B9⟩
 simp only[Ff];decide
theorem a4M:Ly [p7 "ab",p7 "a",p7 "b",p7 "abb",p7 "c",p7 "ca"]:=by
 refine⟨rfl,λz hz=>?_,?_⟩
 . simp only[Q7,U1,V4]at hz;rcases hz with rfl|rfl|rfl|rfl|rfl|rfl<;>exact⟨B9,B9,B9⟩
 simp only[Ff];decide
theorem a4Y{ns:List Int}(hl:ns.length<=63)(h0:0<=k)(h1:k<=10000):∃l:Option<|Int×Int×Int×Int,yf [dg ns,p6 k]=sd (ig l)/\∀a b c d,l=U (a,b,c,d)->yw a/\rD b/\yw c/\rD d:=by
 obtain⟨m,e,m0,m1⟩:=P7 (ns:=ns) (k:=k) hl h0 (by exact O0 B1 f7);obtain⟨a,ea,a0,a1⟩:=P7 (ns:=ns) (k:=k+1) hl A3 (by exact ma B1 f7);obtain⟨b,eb,b0,b1⟩:=P7 (k:=k+2) hl A3 A3;obtain⟨x,ex,x0,x1⟩:=bV (k:=k+3) hl A3 A3;obtain⟨y,ey,y0,y1⟩:=bV (k:=k+4) hl A3 A3;have:=U9 a (b:=27) f7;have:=W8 a (b:=27) f7;have:=U9 b (b:=27) f7;unfold yf;right;rw[e];right;rw[K4 f7];right;by_cases c:m.fmod 4=0;rw[A6 c];exact⟨J,rfl,λ_ _ _ _ h=>by cases h⟩
 . rw[B2 c];right;rw[ea];right;rw[K4 f7];right;rw[eb];right;rw[K4 f7];right;rw[e];right;rw[K4 f7];right;by_cases d:m.fmod 9=0;rw[A6 d,Y0 (Bt.kG G0 G0) Bt.lit];right;rw[ex,ey];right;exact⟨U ((a.fmod 27-6)*50000-300000,x,b.fmod 27-6,y),rfl,λ_ _ _ _ h=>by cases h;exact⟨⟨A3,A3⟩,⟨x0,O0 B1 f7⟩,⟨G0,A3⟩,⟨y0,O0 B1 f7⟩⟩⟩;rw[B2 d];right;rw[ex,ey];right;exact⟨U (a.fmod 27-6,x,b.fmod 27-6,y),rfl,λ_ _ _ _ h=>by cases h;exact⟨⟨G0,A3⟩,⟨x0,O0 B1 f7⟩,⟨G0,A3⟩,⟨y0,O0 B1 f7⟩⟩⟩
theorem a3g{n:Int}{nm:Str}(hl:Z.length<=63)(h0:0<=k)(h1:k<=10000)(n1:1<=n)(N:Nm nm):∃w:Wk,pX [dg Z,p6 k,f6 nm,p6 n]=sd (P6 w)/\yr n w/\w.name=nm:=by obtain⟨a,ea,a0,a1⟩:=P7 hl h0<|O0 B1 f7;obtain⟨b,eb,b0,b1⟩:=P7 (k:=k+1) hl A3<|ma B1 f7;obtain⟨x,ex,x0,x1⟩:=bV (k:=k+2) hl A3 A3;obtain⟨y,ey,y0,y1⟩:=bV (k:=k+3) hl A3 A3;obtain⟨z,ez,z0,z1⟩:=bV (k:=k+4) hl A3 A3;have:=W8 a B1;have:=U9 b (b:=n-a.fmod n) R4;have:=W8 b (b:=n-a.fmod n) R4;unfold pX;right;rw[ea];right;rw[K4<|ei];right;rw[eb];right;rw[K4 G0];right;rw[ex,ey,ez];right;exact⟨⟨nm,x+y,a.fmod n,a.fmod n+b.fmod (n-a.fmod n),z⟩,rfl,⟨N,⟨by show 0<=x+y;exact Int.add_nonneg B1 B1,by show x+y<=1000000;lia⟩,(U9 a B1),by show a.fmod n<=a.fmod n+_;omega,by show a.fmod n+_<n;omega,⟨z0,by show z<=1000000;exact O0 B1 f7⟩⟩,rfl⟩
theorem Rj{t:Int}(hl:Z.length<=63)(t0:0<=t)(t1:t<24)(x1 x2:Option PV)(L:List f9)(hL:L.length<1000)(x5:Option PV)(r:Ds):
  ∃h:Hr,BV h/\∃y5,mv (sd (dg Z)::x1::x2::U (.own L)::iD t::x5::r)=U (.next (sd (dg Z)::x1::x2::U (.own<|L++[G3 h])::iD t::y5::r)):=by obtain⟨x,ex,x0,x1'⟩:=bV (k:=200+9*t) hl A3 A3;obtain⟨y,ey,y0,y1⟩:=bV (k:=200+9*t+1) hl A3 A3;obtain⟨l,el,hll⟩:=a4Y (k:=200+9*t+2) hl A3 A3;unfold mv;right;rw[Y0 Bt.lit<|Bt.kG A3<|O0 B1 f7];right;rw[ex,ey,el];right;rw[aI _ rfl<|D6 B1 f7];exact⟨⟨x,y,l⟩,⟨⟨x0,by show x<=1000000;exact O0 B1 f7⟩,⟨y0,by show y<=1000000;exact O0 B1 f7⟩,hll⟩,_,rfl⟩
theorem a4y(b:Bool):(qD intD jf) [E5 b]=iD (if b=Uf then 1 else 0):=by cases b<;>rfl
theorem a3s{ns:List Int}{k n:Int}(hl:ns.length<=63)(h0:0<=k)(h1:k<=10000)(n1:1<=n)(n2:n<=24):∃x:Ts,pY [dg ns,p6 k,p6 n]=sd (Z7 x)/\tN x:=by
 obtain⟨a,ea,a0,a1⟩:=P7 hl h0<|O0 B1 f7;obtain⟨b,eb,b0,b1⟩:=P7 (k:=k+1) hl A3<|ma B1 f7;obtain⟨x,ex,x0,x1⟩:=bV (k:=k+1) hl A3<|ma B1 f7;have:=U9 a (b:=8) f7;have:=W8 a (b:=8) f7;have q0:=U9 b (b:=n+1) A3;have:=W8 b (b:=n+1) A3;have:=U9 b (b:=27) f7;have:=W8 b (b:=27) f7;unfold pY;right;rw[ea];right;rw[K4 f7];right;generalize a.fmod 8=z at *;by_cases c2:z<2
 . rw[A6 c2,eb];right;rw[K4 A3];have:z=0\/z=1:=A3;rcases this with rfl|rfl
   exact⟨.from_<|b.fmod<|n+1,rfl,q0,by show b.fmod (n+1)<=1000000;omega⟩;exact⟨.till<|b.fmod<|n+1,rfl,q0,by show b.fmod (n+1)<=1000000;omega⟩
 rw[B2 c2];right;by_cases c4:z<4
 . rw[A6 c4,ex];have:z=2\/z=3:=A3;rcases this with rfl|rfl
   exact⟨.over x,rfl,x0,by show x<=1000000;exact O0 B1 f7⟩;exact⟨.under x,rfl,x0,by show x<=1000000;exact O0 B1 f7⟩
 rw[B2 c4];right;by_cases c6:z<6
 . rw[A6 c6,eb];right;have:z=4\/z=5:=A3;rcases this with rfl|rfl
   exact⟨.dear<|b.fmod 27-6,rfl,by show -1000000<=b.fmod 27-6;omega,by show b.fmod 27-6<=1000000;omega⟩;exact⟨.cheap<|b.fmod 27-6,rfl,by show -1000000<=b.fmod 27-6;omega,by show b.fmod 27-6<=1000000;omega⟩
 have:z=6\/z=7:=A3;rcases this with rfl|rfl
 exact⟨.dark,rfl,trivial⟩;exact⟨.sunny,rfl,trivial⟩
variable{h:P2}
inductive Tw where
 |n (i:Int)
 |s (z:Str)
noncomputable def Tw.aD:Tw->f9
 | .n i=>p6 i
 | .s z=>f6 z
def Tw.aW:Tw->Str
 | .n i=>F5 i
 | .s z=>z
def Tw.ok:Tw->Prop
 | .n i=>yw i
 | .s _=>True
theorem a6o{x:Tw}(h:x.ok):(qD kN AL) [x.aD]=sS x.aW:=by
 cases x with
 |n i=>
  show(match kN [p6 i]with|some v=>U v|none=>AL [p6 i])=_;rw[(sF<|AX h)];rfl
 |s z=>rfl
def CZ(h:P2):List Tw:=[.s<|p7 "store",.n h.size,.n h.start,.n h.fill,.n h.take,.s<|T4 h.kept,.s<|T4 h.left,.n h.rest]
noncomputable def DP(x:Hr):List Tw:=match x.line with
 |none=>[.s<|p7 "hour",.n x.W0,.n x.need,.s<|p7 "dark"]
 |some l=>[.s<|p7 "hour",.n x.W0,.n x.need,.s<|p7 "line",.n l.1,.n l.2.1,.n l.2.2.1,.n l.2.2.2]
noncomputable def Iq(w:Wk):List Tw:=[.s<|p7 "work",.s w.name,.n w.N0,.n w.first,.n w.last,.n w.most]
theorem sC{l:List Tw}(h:∀x∈l,x.ok)(k:Er<|l.map Tw.aW)(hl:l.length<=100):eD [B8<|l.map Tw.aD]=sS (T6<|l.map Tw.aW):=by
 have ec:∀ds:Ds,U7 M0 M3 qm ds (l.map Tw.aD)=U (l.map λx=>f6 x.aW):=λds=>comp_map λx hx=>⟨.dat<|f6 x.aW,by unfold qm;left;exact a6o<|h x hx,rfl⟩
 have j:=DF k;rw[cX]at j;have:(l.map Tw.aD).length<=100:=by rw[F4];exact hl
 unfold eD;left;rw[A6<|D6 B1 f7,ec];left;rw[show(l.map λx=>E6 x.aW)=l.map (E6∘Tw.aW)from rfl,j];left
theorem BD{q:Int×Int}(h:rB q):mj [fr q]=sS (T4 q):=by
 have s:=h.small;have e1:=sF s.top;have:=dq s.top;have:=dq s.bot;unfold mj T4;left;by_cases c:q.2=1;rw[A6 c,A6 c,e1];left
 . rw[B2 c,B2 c];left;rw[e1];left;rw[eQ (by rw[M6<|p7 "/",ju];simp;exact D6 B1 f7)];left;rw[(sF s.bot)];left;rw[eQ (by rw[M6,cR,R5,<-M6,ju];simp;lia)];left
theorem QW(H:H5 h):eD [B8<|(CZ h).map Tw.aD]=sS (T6<|bf h):=by
 have a1:=H.size;have a2:=H.start;have a3:=H.fill;have a4:=H.take;have a7:=H.rest;have e:(CZ h).map Tw.aW=bf h:=rfl;refine sC (λx hx=>?_) (by rw[e];exact Co H) (by simp[CZ])
 simp only[CZ,Q7,U1,V4]at hx;rcases hx with rfl|rfl|rfl|rfl|rfl|rfl|rfl|rfl
 . trivial
 exact X3 a1;exact X3 a2;exact X3 a3;exact X3 a4
 . trivial
 . trivial
 exact X3 a7
theorem UI{n:Int}{w:Wk}(H:yr n w)(hn:n<=24):eD [B8<|(Iq w).map Tw.aD]=sS (T6<|fg w):=by
 have a2:=H.N0;have a3:=H.first;have a4:=H.fl;have a5:=H.last;have a6:=H.most;have e:(Iq w).map Tw.aW=fg w:=rfl;refine sC (λx hx=>?_) (by rw[e];exact GH H hn) (by simp[Iq])
 simp only[Iq,Q7,U1,V4]at hx;rcases hx with rfl|rfl|rfl|rfl|rfl|rfl
 . trivial
 . trivial
 exact X3 a2;exact⟨A3,A3⟩;exact⟨A3,A3⟩;exact X3 a6
theorem UK{x:Hr}(H:BV x):eD [B8<|(DP x).map Tw.aD]=sS (T6<|bJ x):=by
 have a1:=H.W0;have a2:=H.need;have a3:=H.line;have k:=GI H;obtain⟨su,ne,ln⟩:=x;cases ln with
 |none=>
  refine sC (λx hx=>?_) k (by simp[DP])
  simp only[DP,Q7,U1,V4]at hx;rcases hx with rfl|rfl|rfl|rfl
  . trivial
  exact X3 a1;exact X3 a2
  . trivial
 |some l=>
  obtain⟨a,b,c,d⟩:=l;obtain⟨b1,b2,b3,b4⟩:=a3 a b c d rfl;refine sC (λx hx=>?_) k (by simp[DP])
  simp only[DP,Q7,U1,V4]at hx;rcases hx with rfl|rfl|rfl|rfl|rfl|rfl|rfl|rfl
  . trivial
  exact X3 a1;exact X3 a2
  . trivial
  exact b1;exact X3 b2;exact b3;exact X3 b4
theorem Rk{r0 r1 r2:Option PV}:∀(hs:List Hr) (acc:List f9) (y4 y5:Option PV),(∀x∈hs,BV x)->acc.length+hs.length<=1000 ->
  ∃z4 z5,O9 (K5 4) gE (hs.map G3) [r0,r1,r2,U<|.own acc,y4,y5]=U (.next [r0,r1,r2,U<|.own<|acc++hs.map λx=>f6<|T6<|bJ x,z4,z5]):=by
 intro l_;induction l_ with
 |nil=>
  intro acc y4 y5 _ _;exact⟨y4,y5,by rw[fX,KU];simp⟩
 |cons x hs ih_=>
  intro acc y4 y5 h hl;rw[L3]at hl;have B:∃z5,gE [r0,r1,r2,U<|.own acc,sd<|G3 x,y5]=U (.next [r0,r1,r2,U<|.own<|acc++[f6<|T6<|bJ x],sd<|G3 x,z5]):=by
   have lh:=UK<|h x K9;have fin:∀F z5,F [r0,r1,r2,U<|.own acc,sd<|G3 x,z5]=sS (T6<|bJ x)->ij 3 F [r0,r1,r2,U<|.own acc,sd<|G3 x,z5]=U (.next [r0,r1,r2,U<|.own<|acc++[f6<|T6<|bJ x],sd<|G3 x,z5]):=λF z5 hF=>by rw[sx,hF];exact aI _ rfl A3
   obtain⟨su,ne,ln⟩:=x;cases ln with
   |none=>
    exact⟨_,fin _ _ lh⟩
   |some l=>
    obtain⟨a,b,c,d⟩:=l;exact⟨_,fin _ _ lh⟩
  obtain⟨z5,B⟩:=B;obtain⟨z4,z5',e⟩:=ih_ (acc++[f6<|T6<|bJ x]) (sd<|G3 x) z5 (λy hy=>h y<|G6 _ hy) (by rw[R5,rh];lia);refine⟨z4,z5',?_⟩;rw[K3,bp rfl B,e,gb];rfl
theorem HN(H:H5 h):V5 [O1 h]=U (.own<|ah h):=by
 have hl:=H.hl;have wl:=H.wl;have t1:=BD H.kept;have t2:=BD H.left;have ls:=QW H;have ed:∀ds:Ds,U7 M0 M3 kX ds (h.ws.map P6)=U (h.ws.map λw=>f6<|T6<|fg w):=λds=>comp_map λw hw=>⟨.dat<|f6<|T6<|fg w,UI (H.ws w hw) A3,rfl⟩
 have el:ah h=[E6<|T6<|bf h]++(h.hs.map λx=>f6<|T6<|bJ x)++(h.ws.map λw=>f6<|T6<|fg w):=by simp[ah,ya,wQ]
 have:(h.ws.map P6).length<=6:=by rw[F4];exact wl
 obtain⟨z4,z5,er⟩:=Rk h.hs [f6<|T6<|bf h] J J H.hs (by simp;lia);rw[el];unfold V5;simp only[N1];rw[C3 rfl];rw[C3 (ds':=[sd<|O1 h,sd<|bH h,sL [f6<|T4 h.kept,f6<|T4 h.left],J,J,J]) (by left;rw[UU];left;rw[t1];left;rw[UT];left;rw[t2];left)]
 rw[C3 (ds':=[sd<|O1 h,sd<|bH h,sL [f6<|T4 h.kept,f6<|T4 h.left],U<|.own [f6<|T6<|bf h],J,J]) (by
  left;rw[show K6 (bH h) J (U 4)=sd (B4 [p6 h.size,p6 h.start,p6 h.fill,p6 h.take])from rfl];left;rw[kS C9];left;rw[kS C9];left;rw[US];left;rw[kS C9];left
  erw [ls]
  left)]
 rw[C3 (by left;exact er)];left;rw[HJ];left;rw[A6<|D6 B1 f7,ed];left;rw[kS (by simp;lia)];left
variable{r:Rl}
noncomputable def Hg:Ts->List Tw
 | .from_ n=>[.s<|p7 "from",.n n]
 | .till n=>[.s<|p7 "till",.n n]
 | .over n=>[.s<|p7 "over",.n n]
 | .under n=>[.s<|p7 "under",.n n]
 | .dear n=>[.s<|p7 "dear",.n n]
 | .cheap n=>[.s<|p7 "cheap",.n n]
 | .dark=>[.s<|p7 "dark"]
 | .sunny=>[.s<|p7 "sunny"]
theorem a9G(x:Ts):Z7 x=B4 ((Hg x).map Tw.aD):=by cases x<;>rfl
def tK:List Ts->List Tw
 | []=>[]
 |x::l=>Hg x++tK l
theorem VP:∀l:List Ts,(tK l).map Tw.aW=P4 l
 | []=>rfl
 |x::l=>by
  show(Hg x++tK l).map Tw.aW=O4 x++P4 l
  rw[bN,VP l];cases x<;>rfl
theorem Uo{n:Int}(h:0<=n/\n<=1000000):yw n:=⟨A3,h.2⟩
theorem a5E:∀l:List Ts,(∀x∈l,tN x)->∀y∈tK l,y.ok:=by
 intro l_;induction l_ with
 |nil=>
  intro _ y hy;exact nomatch hy
 |cons x l ih_=>
  intro h y hy;rcases List.mem_append.mp (show y∈Hg x++tK l from hy)with hy|hy
  . have hx:=h x K9;cases x with
    |dark=>cases hy with
     |head=>trivial
     |tail _ e=>cases e
    |sunny=>cases hy with
     |head=>trivial
     |tail _ e=>cases e
    |_ n=>cases hy with
     |head=>trivial
     |tail _ e=>cases e with
      |head=>first|exact Uo hx|exact hx
      |tail _ e=>cases e
  exact ih_ (λz hz=>h z<|G6 _ hz) y hy
theorem a3l{x:Ts}(h:tN x):∀w∈O4 x,W5 w:=by
 intro w hw;cases x with
 |dark=>cases hw with
  |head=>exact bF B9 B9
  |tail _ e=>cases e
 |sunny=>cases hw with
  |head=>exact bF B9 B9
  |tail _ e=>cases e
 |_ n=>cases hw with
  |head=>exact bF B9 B9
  |tail _ e=>cases e with
   |head=>first|exact iA (Uo h)|exact iA h
   |tail _ e=>cases e
theorem RZ:∀(l:List Ts),(∀x∈l,tN x)->∀w∈P4 l,W5 w
 | [],_,w,hw=>nomatch hw
 |x::l,h,w,hw=>by
  rcases List.mem_append.mp (show w∈O4 x++P4 l from hw)with hw|hw
  exact a3l (h x K9) w hw;exact RZ l (λz hz=>h z<|G6 _ hz) w hw
theorem a9E(f:Fi):W5<|lA f:=by cases f<;>exact bF B9 B9
theorem a9D(f:Ta):W5<|kZ f:=by cases f<;>exact bF B9 B9
theorem a9C(f:Bool):W5<|pj f:=by cases f<;>exact bF B9 B9
theorem vD(h:eB r):∀w∈gz r,W5 w:=by
 intro w hw;rcases List.mem_cons.mp hw with rfl|hw
 exact bF B9 B9
 rcases List.mem_append.mp hw with hw|hw
 exact RZ _ h.ts w hw
 . simp only[pC,Q7,U1,V4]at hw;rcases hw with rfl|rfl|rfl|rfl|rfl|rfl
   exact bF B9 B9;exact a9E _;exact bF B9 B9;exact a9D _;exact bF B9 B9;exact a9C _
theorem a4W(h:eB r):Er<|gz r:=⟨Cp r,by have:=(ng h).1;exact D6 B1 f7,vD h⟩
theorem a3I:∀(ts:List Ts) (W:List Tw) (a y:Option PV),W.length+2*ts.length<=1000 ->
  ∃y',O9 (K5 2) jn (ts.map Z7) [a,U<|.own<|W.map Tw.aD,y]=U (.next [a,U<|.own<|(W++tK ts).map Tw.aD,y']):=by
 intro l_;induction l_ with
 |nil=>
  intro W a y _;exact⟨y,by unfold tK;rw[bA];rfl⟩
 |cons x ts ih_=>
  intro W a y hl;have:W.length+2*(ts.length+1)<=1000:=hl;have:(Hg x).length<=2:=by cases x<;>simp[Hg]
  obtain⟨y',ih⟩:=ih_ (W++Hg x) a (sd<|Z7 x) (by rw[R5];lia)
  refine⟨y',?_⟩;have st:jn [a,U<|.own<|W.map Tw.aD,sd<|Z7 x]=U (.next [a,U<|.own<|(W++Hg x).map Tw.aD,sd<|Z7 x]):=by rw[bN,a9G];exact Pa rfl rfl (by rw[F4,F4];lia)
  rw[K3,bp rfl st,ih,gb];rfl
def Dj(r:Rl):List Tw:=.s (p7 "when")::(tK r.ts++[.s<|p7 "fill",.s<|lA r.fi,.s<|p7 "take",.s<|kZ r.ta,.s<|p7 "works",.s<|pj r.wo])
theorem Oa(r:Rl):(Dj r).map Tw.aW=gz r:=by unfold Dj gz;rw[K3,bN,VP];rfl
theorem Ik(h:eB r):mE [Q5 r]=sS (S8 r):=by
 have ln:=a4W h;have l1:=ng h;rw[<-Oa]at ln l1;rw[F4]at l1;have we:=sC (λx hx=>by
  rcases List.mem_cons.mp hx with rfl|hx
  . trivial
  rcases List.mem_append.mp hx with hx|hx
  exact a5E _ h.ts x hx
  . simp only[Q7,U1,V4]at hx;rcases hx with rfl|rfl|rfl|rfl|rfl|rfl<;>trivial) ln A3
 rw[Oa]at we;have:=h.tl;obtain⟨y,e⟩:=a3I r.ts [.s<|p7 "when"] (sd<|Q5 r) J (by simp;lia)
 have i0:J2 (Q5 r) (p6 0)=sd (B4<|r.ts.map Z7):=rfl;have i1:J2 (Q5 r) (p6 1)=sS (lA r.fi):=rfl;have i2:J2 (Q5 r) (p6 2)=sS (kZ r.ta):=rfl;have i3:J2 (Q5 r) (p6 3)=sS (pj r.wo):=rfl;have ew:([Tw.s<|p7 "when"]++tK r.ts).map Tw.aD++[f6<|p7 "fill",f6<|lA r.fi,f6<|p7 "take",f6<|kZ r.ta,f6<|p7 "works",f6<|pj r.wo]=(Dj r).map Tw.aD:=by unfold Dj;rw[List.singleton_append,K3,K3,bN];rfl
 have:(([Tw.s<|p7 "when"]++tK r.ts).map Tw.aD).length<=100:=by
  have:=J3 EF ew;rw[R5,F4 (as:=Dj r)]at this;lia
 generalize ([Tw.s<|p7 "when"]++tK r.ts).map Tw.aD=wm at *;unfold mE;left;rw[i0];left
 erw [e]
 left;rw[i1,i2,i3];left;rw[kS (by simp;exact D6 B1 f7)];left;rw[ew,we];left;rfl
variable{a:Type}{k:Str}{n:Nat}{Z:Ds->Option (List AV)}{Y:Ds}{l:List f9}{w:Option Addr}{K:List Rl}
noncomputable def gy(k:Str)(A:List<|Str×a):Option a:=(A.find? λe=>decide (e.1=k)).map (·.2)
noncomputable def vq(A:List<|Str×a)(k:Str)(v:a):List<|Str×a:=if (A.any λe=>decide (e.1=k))=Uf then A.map (λe=>if e.1=k then(e.1,v)else e)else A++[(k,v)]
noncomputable def mapA(f:a->f9)(A:List<|Str×a):List<|Str×f9:=A.map λe=>(e.1,f e.2)
theorem Kh(f:a->f9)(k:Str)(A:List<|Str×a):mx k (mapA f A)=(gy k A).map f:=by unfold mx gy mapA;rw[List.find?_map,Mb,Mb];rfl
theorem a3T(f:a->f9)(k:Str)(v:a)(A:List<|Str×a):Gs (mapA f A) k (f v)=mapA f (vq A k v):=by
 unfold Gs vq mapA;rw[List.any_map];show(if (A.any λe=>decide (e.1=k))=Uf then _ else _)=_;split
 . rw[cX,cX];refine Xg λe _=>?_;show(if e.1=k then(e.1,f v)else(e.1,f e.2))=_;by_cases c:e.1=k;rw[A6 c,Xd,A6 c];rw[B2 c,Xd,B2 c]
 rw[bN];rfl
theorem a0B{A:List (Str×a)}{v:a}(h:gy k A=U v):∃e∈A,e.2=v:=by obtain⟨e,h1,h2⟩:=Option.map_eq_some_iff.mp h;exact⟨e,Yd h1,h2⟩
theorem a3S{A:List (Str×a)}{v:a}{e:Str×a}(h:e∈vq A k v):e∈A\/e.2=v:=by
 unfold vq at h;split at h
 . obtain⟨x,hx,rfl⟩:=mem_map.mp h;split;exact B6 rfl;exact B3 hx
 . rcases List.mem_append.mp h with h|h
   exact B3 h;rw[mem_singleton.mp h];exact B6 rfl
theorem a3U{A:List (Str×a)}{v:a}:(vq A k v).length<=A.length+1:=by
 unfold vq;split
 . rw[F4];simp_all
 rw[R5];exact N7 _
abbrev je(K:List Rl):f9:=B4<|K.map Q5
abbrev Ks:=List<|Str×List Rl
variable{A:Ks}
def Rt(h:P2)(A:Ks):List<|Str×PF:=[(p7 "house",.dat<|O1 h),(p7 "keepers",.dct<|mapA je A)]
def G5(h:P2)(A:Ks):OD:=.ins (p7 "Desk")<|Rt h A
structure Kp(n:Nat)(A:Ks):Prop where
 ok:∀e∈A,(∀r∈e.2,eB r)/\e.2.length<=20
 len:A.length<=n
theorem Kp.look(h:Kp n A)(e:gy k A=U K):(∀r∈K,eB r)/\K.length<=20:=by obtain⟨x,hx,rfl⟩:=a0B e;exact h.ok x hx
theorem Kp.put(h:Kp n A)(k:Str)(h1:∀r∈K,eB r)(h2:K.length<=20):Kp (n+1)<|vq A k K:=⟨λe he=>by
 rcases a3S he with he|he
 exact h.ok e he
 . rw[he];exact⟨h1,h2⟩,by have:=a3U (k:=k) (A:=A) (v:=K);have:=h.len;lia⟩
theorem a5r(h:P2)(A B:Ks):Lf (p7 "keepers") (G5 h A) (mapA je B)=G5 h B:=by rfl
theorem a1E(ds:Ds):∀l:List f9,pR ds (l.map AV.d)=U (l.map .dat)
 | []=>rfl
 |d::l=>by
  show(pR ds<|l.map AV.d).bind _=_;rw[a1E ds l];rfl
theorem Zb:∀l:List f9,aB (l.map AV.d)=[]
 | []=>rfl
 |d::l=>Zb l
theorem Qy(ds:Ds):∀(l:List f9) (ns:Ds),mO (l.map AV.d) ns ds=ds
 | [],ns=>by cases ns<;>rfl
 |d::l,[]=>rfl
 |d::l,x::ns=>Qy ds l ns
section
variable{r:PV ⊕ f9}
theorem a1C{f:px}{c c2:OD}{ns:Ds}(h0:Y[n]?=U (U<|.ob w c))(hl:Z Y=U (l.map AV.d))(hf:f (.ob J c::l.map .dat)=U (r,U (.ob J c2)::ns)):vZ f (ic n Z) Y=U (r,Y.set n<|U<|.ob w c2):=by
 unfold vZ ic;rw[h0];rw[hl];show(if (n::aB (l.map AV.d)).Nodup then(pR Y (AV.s n::l.map AV.d)).bind _ else J)=_;rw[Zb,A6 C9];unfold pR;rw[h0];rw[a1E];show(f (.ob J c::l.map .dat)).bind _=_;rw[hf];show U (r,mO (l.map AV.d) ns<|Y.set n<|Dx (U<|.ob J c2) Y[n]?)=_;rw[Qy,h0];rfl
theorem call_of{fo:List PV->Option (PV×Ds)}{c c2:OD}{pv:PV}{ns:Ds}(h0:Y[n]?=U (U<|.ob w c))(hl:Z Y=U (l.map AV.d))(hf:fo (.ob J c::l.map .dat)=U (pv,U (.ob J c2)::ns)):lD fo (ic n Z) Y=U (pv,Y.set n<|U<|.ob w c2):=by
 unfold lD ic;rw[h0];rw[hl];show(if (n::aB (l.map AV.d)).Nodup then(pR Y (AV.s n::l.map AV.d)).bind _ else J)=_;rw[Zb,A6 C9];unfold pR;rw[h0];rw[a1E];show(fo (.ob J c::l.map .dat)).bind _=_;rw[hf];show U (pv,mO (l.map AV.d) ns<|Y.set n<|Dx (U<|.ob J c2) Y[n]?)=_;rw[Qy,h0];rfl
end
theorem pJ{f:px}{h:P2}{B:Ks}{r:PV ⊕ f9}{ns:Ds}(h0:Y[0]?=U (U<|.ob w<|G5 h A))(hl:Z Y=U (l.map AV.d))(hm:¬p7 "house" = k/\¬p7 "keepers" = k)(hf:f (.ob J (G5 h A)::l.map .dat)=U (r,U (.ob J<|G5 h B)::ns)):nu (p7 "Desk") k 0 f Z Y=U (r,Y.set 0<|U<|.ob w<|G5 h B):=by
 unfold nu yU;rw[h0];have e:dS k (Rt h A)=J:=by unfold Rt dS;rw[B2 hm.1];unfold dS;rw[B2 hm.2];rfl
 show(match dS k (Rt h A)with|none=>vZ f (ic 0 Z) Y|some _=>J)=_;rw[e];exact a1C h0 hl hf
variable{M t b N:Int}{y u:Rat}{m i:Nat}{c:List Rl}{q p:Q2}{d:Hr}{l:List Rat}{w:Str}{Z:Rl}{Y:f9}{X:Bool}{T:Type}{R:List Str}{Q:Wk}{s:Rat×List Rat}
theorem NB(h:jc m=Uf)(ds:Ds):mr (sS ⟨#[m]⟩::ds)=sB Uf:=by
 have e:(O2 inD U3) (f6 ⟨#[m]⟩) (f6<|p7 "abcdefghijklmnopqrstuvwxyz")=sB Uf:=by
  show sB (zT (p7 "abcdefghijklmnopqrstuvwxyz") ⟨#[m]⟩)=_;rw[jz,L7<|GD h]
 exact e
theorem qg:∀l:List Bool,boolsOf (l.map E5)=U l
 | []=>rfl
 |b::l=>by
  show(boolsOf<|l.map E5).bind _=_;rw[qg l];rfl
theorem VO(l:List Nat):yb [B8<|l.map λ_=>E5 Uf]=sB Uf:=by
 have e:(l.map λ_=>zO Uf)=(l.map λ_=>Uf).map E5:=by rw[cX];rfl
 show(boolsOf<|l.map λ_=>zO Uf).bind _=_;rw[e,qg];simp
theorem Vc(N:Nm w):gg [f6 w]=sB Uf:=by
 have:=M6 w;have:=N.len;have:=List.length_pos_iff.mpr N.ne;unfold gg;left;rw[jv<|D6 B1 f7,show ft=p6 8 from rfl];left;rw[A6 (A3:(0:Int)<w.length/\(w.length:Int)<=8),show signs w=(lz w).map λc=>f6 ⟨#[c]⟩from rfl,A6 (by rw[F4];exact D6 B1 f7),(λds=>comp_map λc hc=>⟨.dat<|E5 Uf,NB (List.all_eq_true.mp N.all c hc) ds,rfl⟩)];left;rw[VO];left
theorem qE(ws:List Str):lz (T6 ws)=(match ws with | []=>[]|w::r=>lz w++(r.map λx=>32::lz x).flatten):=by
 unfold T6;rw[show aR ⟨#[32]⟩ ws=oo ⟨#[32]⟩ ws from glued_eq_join _ _,sj];rfl
theorem b0u{a b:Str}{r:List Str}{s:String}(h:(decide (32∈lz (p7 s)))=U'):¬T6 (a::b::r)=p7 s:=λe=>by
 have:32∈lz (T6 (a::b::r)):=by rw[qE];simp
 rw[e]at this;exact absurd this<|of_decide_eq_false h
theorem Df(h:nB w):∀c∈lz w,c<1114112:=by
 unfold nB zS at h;rw[WJ]at h;intro c hc;have:=h c (by unfold lz at hc;simpa using hc);simp at this;omega
theorem yI(h:∀w∈R,W5 w):nB<|T6 R:=qy λc hc=>by
 rw[qE]at hc;cases R with
 |nil=>cases hc
 |cons w r=>
  rcases List.mem_append.mp hc with hc|hc
  exact Df (h w K9).ok c hc
  . obtain⟨l,hl,hc⟩:=List.mem_flatten.mp hc;obtain⟨x,hx,rfl⟩:=mem_map.mp hl;rcases List.mem_cons.mp hc with rfl|hc
    decide;exact Df (h x<|G6 _ hx).ok c hc
theorem OG(h:R≠[]):(w++p7 " ")++T6 R=T6 (w::R):=bT (by
 rw[cR,cR,qE,qE,Dc];cases R with
 |nil=>exact absurd rfl h
 |cons a r=>simp[lz])
noncomputable def val(q:Q2):Rat:=(q.1:Rat)/(q.2:Rat)
theorem wb(h:b≠0):(b:Rat)≠0:=by exact_mod_cast h
theorem NL(hb:0<b):val (N9 t b)=(t:Rat)/(b:Rat):=by
 have:=xi t<|ei;have:0<gc t b:=by show(0:Int)<((J6 t b));simp[*]
 have e:N9 t b=(t/gc t b,b/gc t b):=by unfold N9;rw[B2 A3,gD _ R4,gD _ R4]
 have d1:t/gc t b*gc t b=t:=wY (jT ..);have d2:b/gc t b*gc t b=b:=wY (gd ..);rw[e];show((t/gc t b:Int):Rat)/((b/gc t b:Int))=_;have:=wb (show gc t b≠0 by exact ei)
 generalize gc t b=g at *;have:((t/g:Int):Rat)*g=t:=by exact_mod_cast d1
 have:((b/g:Int):Rat)*g=b:=by exact_mod_cast d2
 grind
theorem YG(hp:0<p.2)(hq:0<q.2):val (xE p q)=val p+val q:=by
 unfold xE;rw[NL<|ao hp hq];have:=wb (show p.2≠0 by exact ei);have:=wb (show q.2≠0 by exact ei);unfold val
 push_cast
 grind
theorem Sb(hp:0<p.2)(hq:0<q.2):val (sE p q)=val p*val q:=by
 unfold sE;rw[NL<|ao hp hq];unfold val
 push_cast
 grind
theorem val_inj(hp:iu m p)(hq:iu i q)(h:val p=val q):p=q:=by
 refine a1a hp hq ?_;have:=wb (show p.2≠0 by have:=hp.pos;exact ei);have:=wb (show q.2≠0 by have:=hq.pos;exact ei)
 have:(p.1:Rat)/p.2=q.1/q.2:=h;have e:(p.1:Rat)*q.2-q.1*p.2=0:=by grind
 exact_mod_cast e
theorem a0o(h:Bt m M)(hm:1<=m):iu m (M,1):=⟨by show 0<1;decide,by show J6 M 1=1;simp,h,Bt.mono ⟨by show(1:Int).natAbs<2^1;decide⟩ hm⟩
theorem Kf(hb:0<b)(hy:0<N)(hc:J6 M N=1)(he:t*N=M*b):N9 t b=(M,N):=by
 have k1:N∣b:=by
  have z:N∣M*b:=⟨t,by rw[<-he,Y9]⟩
  have z':N.natAbs∣M.natAbs*b.natAbs:=by rw[<-jQ];exact Int.natAbs_dvd_natAbs.mpr z
  have cp:EC N.natAbs M.natAbs:=by rw[Fq];exact hc
  exact Int.natAbs_dvd_natAbs.mp<|cp.dvd_of_dvd_mul_left z'
 obtain⟨k,rfl⟩:=k1;have:0<k:=by
  rcases tV 0 k with h|h
  exact h;have:=AA (bu hy) h;lia
 have ht:t=M*k:=by
  have:t*N=(M*k)*N:=by rw[he,jP,Y9 N k]
  exact MV (ei) this
 subst ht;have e:J6 (M*k) (N*k)=k.natAbs:=by rw[Int.gcd_mul_right,hc,Nat.one_mul]
 have eg:gc (M*k) (N*k)=k:=by show((J6 _ _))=k;rw[e];lia
 unfold N9;rw[B2 A3,eg,gD _<|bu B1,gD _<|bu B1,Xb _<|ei,Xb _<|ei]
theorem pP(h1:J6 M t=1)(h2:J6 M b=1):J6 M (t*b)=1:=by
 show Nat.gcd M.natAbs (t*b).natAbs=1;rw[jQ];exact Nat.Coprime.mul_right h1 h2
theorem fQ(h1:J6 M t=1)(h2:b∣t):J6 M b=1:=
 Nat.Coprime.coprime_dvd_right (Int.natAbs_dvd_natAbs.mpr h2) h1
theorem aF(h:J6 M t=1):J6 t M=1:=by rw[zR];exact h
theorem Pn(h:J6 M t=1):J6 (M+N*t) t=1:=by
 rw[<-h];apply Wn
 . apply ED
   . have h1:((J6 (M+N*t) t):Int)∣t:=gd ..;have h2:((J6 (M+N*t) t):Int)∣M+N*t:=jT ..;have h3:=Int.dvd_sub h2 (XY (b:=N) h1)
     rwa [Int.add_sub_cancel]at h3
   exact gd ..
 . apply ED;exact Int.dvd_add (jT ..) (XY (gd ..));exact gd ..
theorem ZX(hb:0<b)(hd:0<N)(h1:J6 M b=1)(h2:J6 t N=1):
  let s:=gc b N
  let a:=M*N.fdiv s+t*b.fdiv s
  let e:=gc a s
  0<s/\0<e/\N9 (M*N+t*b) (b*N)=(a.fdiv e,b.fdiv s*N.fdiv e):=by
 have hg:0<J6 b N:=xi b (by exact ei)
 have hs:(0:Int)<gc b N:=by show(0:Int)<((J6 b N:Nat):Int);simp[*]
 obtain⟨b',hb'⟩:gc b N∣b:=jT ..;obtain⟨d',hd'⟩:gc b N∣N:=gd ..;have co:J6 b' d'=1:=by
  have:=Aw (i:=b) (j:=N) hg;have q1:b/((J6 b N:Nat):Int)=b':=by
   show b/gc b N=b'
   conv=>lhs;lhs;rw[hb']
   rw[mh _<|by exact ei]
  have q2:N/((J6 b N):Int)=d':=by
   conv=>lhs;lhs;rw[hd']
   rw[mh _<|ei]
  rwa [q1,q2]at this
 intro s a e;have es:gc b N=s:=rfl;have f1:b.fdiv s=b':=by rw[gD _<|by exact iO _];rw[es]at hb';rw[hb',mh _<|ei]
 have f2:N.fdiv s=d':=by rw[gD _<|by exact iO _];rw[es]at hd';rw[hd',mh _<|ei]
 have et:a=M*d'+t*b':=by show M*N.fdiv s+t*b.fdiv s=_;rw[f1,f2]
 have hge:0<J6 a s:=xi a<|ei;have he:0<e:=by show(0:Int)<((J6 a s));omega
 refine⟨hs,he,?_⟩;rw[es]at hb' hd'
 clear_value s
 obtain⟨t',ht'⟩:e∣a:=jT ..;obtain⟨s',hs'⟩:e∣s:=gd ..;have co2:J6 t' s'=1:=by
  have:=Aw hge;have q1:a/((J6 a s))=t':=by
   show a/e=t';rw[ht',mh _<|ei]
  have q2:s/((J6 a s))=s':=by
   show s/e=s';rw[hs',mh _<|ei]
  rwa [q1,q2]at this
 clear_value e
 have pb':0<b':=by
  rcases tV 0 b' with h|h
  exact h;have:=AA (bu (A3:(0:Int)<s)) h;lia
 have pd':0<d':=by
  rcases tV 0 d' with h|h
  exact h;have:=AA (bu (A3:(0:Int)<s)) h;lia
 have ps':0<s':=by
  rcases tV 0 s' with h|h
  exact h;have:=AA (bu he) h;lia
 have tb:J6 a b'=1:=by
  rw[et];have:=aF (pP (aF<|fQ h1 ⟨s,by rw[hb',Y9]⟩) co);exact Pn this
 have td:J6 a d'=1:=by
  rw[et,Int.add_comm];have:=aF (pP (aF<|fQ h2 ⟨s,by rw[hd',Y9]⟩)<|aF co);exact Pn this
 have dt:t'∣a:=⟨e,by rw[ht',Y9]⟩
 have f3:N.fdiv e=s'*d':=by rw[gD _<|bu B1,hd',hs',jP,mh _<|ei]
 have f4:a.fdiv e=t':=by rw[gD _<|bu B1,ht',mh _<|ei]
 rw[f1,f3,f4];apply Kf (ao hb hd)<|ao pb'<|ao ps' pd';exact pP (aF<|fQ (aF tb) dt)<|pP co2<|aF<|fQ (aF td) dt
 . have e1 : M * N + t * b = s * a := by rw [et, Int.mul_add]; conv => lhs; rw [hb', hd']
                                         simp only[gW]
   rw[e1,ht']
   conv=>rhs;rw[hb',hd']
   rw[hs'];simp only[gW,Y9]
theorem Sk(hb:0<b)(hd:0<N)(h1:J6 M b=1)(h2:J6 t N=1):
  let e:=gc M N
  let f:=gc t b
  0<e/\0<f/\N9 (M*t) (b*N)=(M.fdiv e*t.fdiv f,b.fdiv f*N.fdiv e):=by
 have key:∀{x y:Int},0<y->∃x' y',0<gc x y/\x=gc x y*x'/\y=gc x y*y'/\0<y'/\J6 x' y'=1/\x.fdiv (gc x y)=x'/\y.fdiv (gc x y)=y':=by
  intro x y hy;have hg:=xi x<|ei;have hs:0<gc x y:=by show(0:Int)<((J6 x y));simp[*]
  obtain⟨x',hx'⟩:gc x y∣x:=jT ..;obtain⟨y',hy'⟩:gc x y∣y:=gd ..
  have q1 : x / gc x y = x' := by conv => lhs; lhs; rw [hx']
                                  rw[mh _<|ei]
  have q2 : y / gc x y = y' := by conv => lhs; lhs; rw [hy']
                                  rw[mh _<|ei]
  refine⟨x',y',hs,hx',hy',?_,?_,?_,?_⟩
  . rcases tV 0 y' with h|h
    exact h;have:=AA (bu hs) h;lia
  . have:=Aw hg
    rwa [q1,q2]at this
  rw[gD _<|iO _,q1];rw[gD _<|iO _,q2]
 obtain⟨a',d',he,ea,ed,pd,ce,fa,fd⟩:=key hd;obtain⟨c',b',hf,ec,eb,pb,cf,fc,fb⟩:=key hb;intro e f;have ee:gc M N=e:=rfl;have ef:gc t b=f:=rfl;rw[ee]at he ea ed fa fd;rw[ef]at hf ec eb fc fb;refine⟨he,hf,?_⟩
 clear_value e f
 rw[fa,fd,fc,fb];apply Kf (ao hb hd)<|ao pb pd
 . have c1:=aF (fQ (aF<|fQ h1 ⟨f,by rw[eb,Y9]⟩) ⟨e,by rw[ea,Y9]⟩);exact aF (pP (aF<|pP c1 ce)<|aF<|pP cf<|aF<|fQ (aF<|fQ h2 ⟨e,by rw[ed,Y9]⟩) ⟨f,by rw[ec,Y9]⟩)
 . conv=>lhs;rw[ea,ec]
   conv=>rhs;rw[eb,ed]
   simp only[gW,Y9]
theorem GQ(t b:Int):gc (if t<0 then -t else t) b=gc t b:=by
 show((J6 _ _):Int)=(J6 t b)
 split<;>simp
theorem a8n(hb:0<b)(h:Bt m b):Bt m<|gc b t:=h.of_le (by
 have:=Int.gcd_le_natAbs_left t<|ei
 simp_all)
theorem a9Y(hp:iu m p)(hq:iu i q)(h:m+i<=7998):cG [fr p,fr q]=sd (fr<|xE p q):=by
 have c1:Bt 60000 p.1:=hp.bt.mono G0;have c2:Bt 60000 p.2:=hp.bb.mono G0;have c3:Bt 60000 q.1:=hq.bt.mono G0;have c4:Bt 60000 q.2:=hq.bb.mono G0;obtain⟨s0,e0,el⟩:=ZX hp.pos hq.pos hp.low hq.low;have bs:Bt 8000<|gc p.2 q.2:=(a8n hp.pos hp.bb).mono G0;have be:∀t,Bt 8000<|gc t<|gc p.2 q.2:=λt=>DW G0 bs;unfold cG;right;rw[ny (bu hp.pos)<|bu hq.pos];right;simp only[U2 (G0:gc p.2 q.2≠0) bs];right;simp only[Y0,c1,c2.fdiv,c3,c4.fdiv];right;rw[ny (by split<;>omega) G0,GQ];right;simp only[U2 (G0:gc (p.1*q.2.fdiv (gc p.2 q.2)+q.1*p.2.fdiv (gc p.2 q.2)) (gc p.2 q.2)≠0)<|be _,U2 (G0:gc p.2 q.2≠0) bs];right;rw[Y0 c2.fdiv c4.fdiv];unfold xE;rw[el];rfl
theorem a6f(hp:iu m p)(hq:iu i q)(h:m+i<=7998):cL [fr p,fr q]=sd (fr<|sE p q):=by
 have c1:Bt 60000 p.1:=hp.bt.mono G0;have c2:Bt 60000 p.2:=hp.bb.mono G0;have c3:Bt 60000 q.1:=hq.bt.mono G0;have c4:Bt 60000 q.2:=hq.bb.mono G0;obtain⟨s0,e0,el⟩:=Sk hp.pos hq.pos hp.low hq.low;have b1:Bt 8000<|gc p.1 q.2:=(DW (by have:=hq.pos;omega) hq.bb).mono G0;have b2:Bt 8000<|gc q.1 p.2:=(DW (by have:=hp.pos;omega) hp.bb).mono G0;have:=hp.pos;have:=hq.pos;unfold cL;right;rw[ny (by split<;>omega) G0,GQ];right;rw[ny (by split<;>omega) G0,GQ];right;simp only[U2 (G0:gc p.1 q.2≠0) b1,U2 (G0:gc q.1 p.2≠0) b2];right;rw[Y0 c1.fdiv c3.fdiv];right;simp only[U2 (G0:gc p.1 q.2≠0) b1,U2 (G0:gc q.1 p.2≠0) b2];right;rw[Y0 c2.fdiv c4.fdiv];unfold sE;rw[el];rfl
theorem a6a(hp:iu m p)(hq:iu i q)(h:m+i<=59999):ku [fr p,fr q]=sB (CT p q):=by have c1:Bt 60000 p.1:=hp.bt.mono A3;have c2:Bt 60000 p.2:=hp.bb.mono A3;have c3:Bt 60000 q.1:=hq.bt.mono A3;have c4:Bt 60000 q.2:=hq.bb.mono A3;unfold ku;right;simp only[Y0,c1,c2,c3,c4];right;rfl
structure FD(D M:Int)(q:Q2):Prop where
 pos:0<q.2
 low:J6 q.1 q.2=1
 dvd:q.2∣D
 BC:(q.1.natAbs:Int)<=M*q.2
theorem FD.mono(h:FD t M q)(hd:t∣b)(hm:M<=N):FD b N q:=
 ⟨h.pos,h.low,wC h.dvd hd,O0 h.BC<|rM hm<|bu h.pos⟩
theorem FD.b1N(h:FD t M q)(hD:0<t)(h1:Bt m t)(h2:Bt m<|M*t):iu m q:=by
 have l:=wD hD h.dvd;have p:=h.pos;have:=h.BC;have hM:0<=M:=by
  rcases tV M 0 with c|c
  have:=Yc c p;lia;exact c
 have:=Yp l hM;exact⟨p,h.low,h2.of_le A3,h1.of_le A3⟩
theorem sk(hb:0<b):0<(N9 t b).2/\J6 (N9 t b).1 (N9 t b).2=1/\(N9 t b).1*b=t*(N9 t b).2/\(N9 t b).2∣b:=by
 have e:N9 t b=(t/gc t b,b/gc t b):=by unfold N9;rw[B2 A3,gD _ R4,gD _ R4]
 have d1:gc t b∣t:=jT ..;have d2:gc t b∣b:=gd ..;have m2:=wY d2;rw[e];refine⟨MU hb R4 d2,Aw<|xi t<|ei,?_,⟨gc t b,m2.symm⟩⟩;generalize gc t b=g at *;have:t/g*b=t/g*(b/g*g):=by rw[m2]
 rw[this,Y9 (b/g) g,<-jP,(wY d1)]
theorem a4T{c:Int}(hb:0<b)(h:t*M=c*b):(N9 t b).2∣M:=by
 obtain⟨p,l,e,_⟩:=sk hb;generalize (N9 t b).1=x at *;generalize (N9 t b).2=y at *;have k:x*M=c*y:=by
  apply MV (show b≠0 by exact ei)
  calc x*M*b=(x*b)*M:=by simp only[gW,Y9]
   _=(t*M)*y:=by rw[e];simp only[gW,Y9]
   _=c*y*b:=by rw[h];simp only[gW,Y9]
 have z:y∣x*M:=⟨c,by rw[k,Y9]⟩
 have z':y.natAbs∣x.natAbs*M.natAbs:=by rw[<-jQ];exact Int.natAbs_dvd_natAbs.mpr z
 have cp:EC y.natAbs x.natAbs:=by rw[Fq];exact l
 exact Int.natAbs_dvd_natAbs.mp<|cp.dvd_of_dvd_mul_left z'
theorem OF(hb:0<b)(h:(t.natAbs:Int)<=M*b):(((N9 t b).1).natAbs:Int)<=M*(N9 t b).2:=by
 obtain⟨p,l,e,_⟩:=sk hb;generalize (N9 t b).1=x at *;generalize (N9 t b).2=y at *;have e':x.natAbs*b=t.natAbs*y:=by
  have:=J3 Int.natAbs e;rw[jQ,jQ]at this;have hb':b.natAbs=b:=A3;have hy':y.natAbs=y:=A3;rw[<-hb',<-hy']
  exact_mod_cast this
 apply Yj _ hb;rw[e'];have:=rM h<|bu p
 calc t.natAbs*y<=M*b*y:=this
  _=M*y*b:=by simp only[gW,Y9]
theorem FD.plus(hp:FD t M p)(hq:FD t N q):FD t (M+N)<|xE p q:=by
 have hb:=ao hp.pos hq.pos;obtain⟨a,l,_,_⟩:=sk hb;obtain⟨u,hu⟩:=hp.dvd;obtain⟨v,hv⟩:=hq.dvd;refine⟨a,l,a4T (c:=p.1*u+q.1*v) hb ?_,OF hb ?_⟩
 . have e1:p.1*q.2*t=p.1*u*(p.2*q.2):=by rw[hu];simp only[gW,Y9]
   have e2:q.1*p.2*t=q.1*v*(p.2*q.2):=by rw[hv];simp only[gW,Y9]
   rw[EB,EB,e1,e2]
 . have:=rM hp.BC<|bu hq.pos;have:=rM hq.BC<|bu hp.pos;have:((p.1*q.2).natAbs)=p.1.natAbs*q.2:=by
    rw[jQ];have:q.2.natAbs=q.2:=by have:=hq.pos;lia
    push_cast;rw[this]
   have:((q.1*p.2).natAbs)=q.1.natAbs*p.2:=by
    rw[jQ];have:p.2.natAbs=p.2:=by have:=hp.pos;lia
    push_cast;rw[this]
   lia
theorem FD.times(hp:FD t M p)(hq:FD b N q):FD (t*b) (M*N)<|sE p q:=by
 have hb:=ao hp.pos hq.pos;obtain⟨a,l,_,d⟩:=sk hb;refine⟨a,l,wC d<|Int.mul_dvd_mul hp.dvd hq.dvd,OF hb ?_⟩;have:((p.1*q.1).natAbs:Int)=p.1.natAbs*q.1.natAbs:=by rw[jQ];push_cast;rfl
 rw[this];have h0:0<=M*p.2:=by have:=hp.BC;lia
 calc p.1.natAbs*q.1.natAbs<=(M*p.2)*(N*q.2):=LY hp.BC hq.BC R4 h0
  _=M*N*(p.2*q.2):=by simp only[gW,Y9]
theorem a8D(hb:0<b)(hd:0<N):((M:Rat)/(b:Rat)<(t:Rat)/(N:Rat))↔M*N<t*b:=by
 have hb':(0:Rat)<b:=by exact_mod_cast hb
 have hd':(0:Rat)<N:=by exact_mod_cast hd
 have e1:(M:Rat)/b*(b*N)=M*N:=by grind
 have e2:(t:Rat)/N*(b*N)=t*b:=by grind
 constructor
 . intro h;have:=Rat.mul_lt_mul_of_pos_right h<|Rat.mul_pos hb' hd';rw[e1,e2]at this
   exact_mod_cast this
 . intro h;have h':(M:Rat)*N<t*b:=by exact_mod_cast h
   refine Rat.lt_of_mul_lt_mul_right ?_<|zQ<|Rat.mul_pos hb' hd';rw[e1,e2];exact h'
theorem Sd(hp:0<p.2)(hq:0<q.2):CT p q=decide (val p<val q):=by unfold CT val;rw[uj];exact(a8D hp hq).symm
noncomputable def q2(x:Rat):Q2:=(x.num,(x.den:Int))
def qd(x:Rat):f9:=fr<|q2 x
theorem gH(x:Rat):0<(q2 x).2:=by have:=x.den_pos;show(0:Int)<x.den;simp_all
theorem Dn(x:Rat):J6 (q2 x).1 (q2 x).2=1:=x.reduced
theorem qq(x:Rat):val (q2 x)=x:=by
 show x.num/((x.den:Int))=x;rw[<-Rat.divInt_eq_div,Rat.num_divInt_den]
theorem pH(h:0<y):0<y.num:=by have:=(Rat.lt_iff 0 y).mp h;simpa using this
theorem VL(i:Int)(h:i.natAbs<=m):Bt m i:=⟨Q8 Nat.lt_two_pow_self<|uw f7 h⟩
theorem KS(h0:0<q.2)(h1:J6 q.1 q.2=1):iu (q.1.natAbs+q.2.natAbs) q:=⟨h0,h1,VL _ R4,VL _ R4⟩
theorem Dl(h0:0<q.2)(h1:J6 q.1 q.2=1):q=q2 (val q):=val_inj (KS h0 h1) (KS (gH _)<|Dn _) (qq _).symm
theorem Oj(x y:Rat):xE (q2 x) (q2 y)=q2 (x+y):=by
 obtain⟨h0,h1,_,_⟩:=sk<|ao (gH x)<|gH y;have:=Dl (q:=xE (q2 x)<|q2 y) h0 h1
 rwa [YG (gH x)<|gH y,qq,qq]at this
theorem JA(x y:Rat):sE (q2 x) (q2 y)=q2 (x*y):=by
 obtain⟨h0,h1,_,_⟩:=sk<|ao (gH x)<|gH y;have:=Dl (q:=sE (q2 x)<|q2 y) h0 h1
 rwa [Sb (gH x)<|gH y,qq,qq]at this
theorem Dm(x:Rat):(-(q2 x).1,(q2 x).2)=q2 (-x):=rfl
theorem fL(n:Int):bM [p6 n,p6 1]=qd (n:Rat):=rfl
theorem vO:bM [p6 0,p6 1]=qd 0:=rfl
theorem Ku(x:Rat):J2 (qd x) (p6 0)=iD x.num:=rfl
theorem UW(x:Rat):J2 (qd x) (p6 1)=iD x.den:=rfl
structure RO(x:Rat):Prop where
 f:iu 3000<|q2 x
structure jZ(D:Int):Prop where
 pos:0<D
 bt:Bt 1000 D
structure Sz(D M:Int)(x:Rat):Prop where
 f:FD D M<|q2 x
theorem Sz.m0(h:Sz t M y):0<=M:=by
 have:=h.f.BC;rcases tV M 0 with c|c
 have:=Yc c h.f.pos;lia;exact c
theorem Sz.ok(h:Sz t M y)(hD:jZ t)(hM:M<=2^200):RO y:=by
 have:=h.m0;have b:Bt 201 M:=by have z:Bt 201<|2^200:=⟨f7⟩;exact z.of_le A3
 exact⟨h.f.b1N hD.pos (hD.bt.mono f7)<|(b.mul hD.bt).mono f7⟩
theorem Sz.mono(h:Sz t M y)(hd:t∣b)(hm:M<=N):Sz b N y:=⟨h.f.mono hd hm⟩
theorem Sz.add(hx:Sz t M u)(hy:Sz t N y):Sz t (M+N)<|u+y:=⟨by rw[<-Oj];exact hx.f.plus hy.f⟩
theorem Sz.neg(hx:Sz t M y):Sz t M<|-y:=by
 refine⟨hx.f.pos,?_,hx.f.dvd,?_⟩;have:=hx.f.low;rw[<-Dm];rw[Int.neg_gcd];exact this;have:=hx.f.BC;rw[<-Dm];rw[wG];exact this
theorem Sz.sub(hx:Sz t M u)(hy:Sz t N y):Sz t (M+N)<|u-y:=by rw[WI];exact hx.add hy.neg
theorem Sz.mul(hx:Sz t M u)(hy:Sz b N y):Sz (t*b) (M*N)<|u*y:=⟨by rw[<-JA];exact hx.f.times hy.f⟩
noncomputable def mn(x y:Rat):Rat:=if x<y then x else y
theorem Sz.mn(hx:Sz t M u)(hy:Sz t N y):Sz t (M+N)<|Law.mn u y:=by
 have:=hx.m0;have:=hy.m0;unfold Law.mn;split;exact hx.mono (W6 _) A3;exact hy.mono (W6 _) A3
theorem Sz.int{n:Int}(h:(n.natAbs:Int)<=M):Sz t M (n:Rat):=by
 refine⟨by show 0<1;decide,by show J6 n 1=1;simp,by show 1∣t;exact⟨t,C9⟩,?_⟩;show n.natAbs<=M*1
 simp_all
theorem Sz.zero(h:0<=M):Sz t M 0:=Sz.int (by simpa using h)
theorem gI(hx:RO u)(hy:RO y):cG [qd u,qd y]=sd (qd<|u+y):=by
 show cG [fr<|q2 u,fr<|q2 y]=_;rw[a9Y hx.f hy.f f7,Oj];rfl
theorem RO.neg(h:RO y):RO<|-y:=⟨h.f.pos,by have:=h.f.low;rw[<-Dm];rw[Int.neg_gcd];exact this,by rw[<-Dm];exact h.f.bt.neg,h.f.bb⟩
theorem aL(hx:RO u)(hy:RO y):X8 [qd u,qd y]=sd (qd<|u-y):=by
 have h:=gI hx hy.neg;rw[<-WI]at h;unfold X8;right;rw[Ku,UW];right;rw[show(bM [p6<|-y.num,p6 y.den])=qd (-y)from rfl,h];rfl
theorem iU(hx:RO u)(hy:RO y):cL [qd u,qd y]=sd (qd<|u*y):=by
 show cL [fr<|q2 u,fr<|q2 y]=_;rw[a6f hx.f hy.f f7,JA];rfl
theorem Se(x y:Rat):CT (q2 x) (q2 y)=decide (x<y):=by rw[Sd (gH x)<|gH y,qq,qq]
theorem AR(hx:RO u)(hy:RO y):ku [qd u,qd y]=sB (decide (u<y)):=by
 show ku [fr<|q2 u,fr<|q2 y]=_;rw[a6a hx.f hy.f f7,Se]
theorem vP:RO 0:=⟨iu.mono (m:=2) ⟨f7,by rfl,⟨f7⟩,⟨f7⟩⟩ f7⟩
theorem mP(hx:RO u)(hy:RO y):gq [qd u,qd y]=sd (qd<|mn u y):=by unfold gq mn;right;rw[AR hx hy];right;split<;>rfl
noncomputable def hZ(x:Rat):Rat:=if x<0 then 0 else x
theorem TY(hx:RO y):iQ [qd y]=sd (qd<|hZ y):=by unfold iQ hZ O5;rw[vO];right;rw[AR hx vP];right;split<;>rfl
theorem KC(h:0<y):q2 y⁻¹=((q2 y).2,(q2 y).1):=by
 have hc:J6 y.den y.num=1:=by rw[zR];exact y.reduced
 have:=Dl (q:=(y.den,y.num)) (pH h) hc;have e:val (y.den,y.num)=y⁻¹:=by
  have:=qq y;have:val (q2 y)=y.num/((y.den:Int)):=rfl;show((y.den:Int))/y.num=y⁻¹;grind
 rw[e]at this;exact this.symm
theorem a7D(h:0<y)(hx:RO y):RO y⁻¹:=by refine⟨?_⟩;rw[KC h];exact⟨(pH h),by rw[zR];exact hx.f.low,hx.f.bb,hx.f.bt⟩
theorem TV(hx:RO u)(hy:RO y)(h:0<y):AE [qd u,qd y]=sd (qd<|u*y⁻¹):=by
 have:=pH h;have ef:iv [p6 y.den,p6 y.num]=sd (qd y⁻¹):=by
  have g:gc y.den y.num=1:=by
   show((J6 y.den y.num):Int)=1;rw[zR,show J6 y.num y.den=1 from y.reduced];rfl
  unfold iv;right;rw[B2<|ei];right;rw[B2 R4,B2 A3,ny R4<|bu B1,g];right;rw[B2 A3];right;rw[U2 f7 Bt.lit,U2 f7 Bt.lit];right;rw[EH,EH];show sd (fr ((q2 y).2,(q2 y).1))=_;rw[<-KC h];rfl
 unfold AE;right;rw[Ku];right;rw[B2<|ei];right;rw[Ku,UW];right;rw[ef];right;rw[iU hx<|a7D h hy];rfl
theorem IW{l:List f9}(h:gx Y=U l):yD Y=U l:=by
 cases Y with
 |str z=>exact nE h
 |_=>exact h
noncomputable def aN:List Rat->Rat->Rat
 | [],z=>z
 |x::l,z=>aN l<|z+x
def shr:List Rat->Rat->List Rat
 | [],_=>[]
 |x::l,r=>mn x r::shr l (r-mn x r)
def rL:List Rat->Rat->Prop
 | [],z=>RO z
 |x::l,z=>RO z/\RO x/\rL l (z+x)
def IQ:List Rat->Rat->Prop
 | [],r=>RO r
 |x::l,r=>RO x/\RO r/\RO (mn x r)/\IQ l (r-mn x r)
theorem PR:∀(l:List Rat) (z:Rat) (d y:Option PV),rL l z->∃y',O9 (K5 2) vj (l.map qd) [d,sd<|qd z,y]=U (.next [d,sd<|qd<|aN l z,y']):=by
 intro l_;induction l_ with
 |nil=>
  intro z d y _;exact⟨y,rfl⟩
 |cons x l ih_=>
  intro z d y h;obtain⟨h1,h2,h3⟩:=h;obtain⟨y',e⟩:=ih_ (z+x) d (sd<|qd x) h3;refine⟨y',?_⟩;unfold O9 vj;right;rw[gI h1 h2];right;exact e
theorem BY{d:f9}(hd:gx d=U (l.map qd))(h:rL l 0):sA [d]=sd (qd<|aN l 0):=by obtain⟨y',e⟩:=PR l 0 (sd d) J h;unfold sA;unfold O5;rw[vO];right;rw[IW hd];right;rw[e];rfl
theorem Ze:∀(l:List Rat) (r:Rat) (L:List f9) (d e y z:Option PV),L.length+l.length<=1000->IQ l r->∃r' y' z',O9 (K5 4) kD (l.map qd) [d,e,U<|.own L,sd<|qd r,y,z]=U (.next [d,e,U<|.own<|L++(shr l r).map qd,r',y',z']):=by
 intro l_;induction l_ with
 |nil=>
  intro r L d e y z _ _;exact⟨_,y,z,by rw[fX];unfold O9 shr;rw[fX,bA]⟩
 |cons x l ih_=>
  intro r L d e y z hl h;obtain⟨h1,h2,h3,h4⟩:=h;have:L.length+(l.length+1)<=1000:=hl;obtain⟨r',y',z',f⟩:=ih_ (r-mn x r) (L++[qd<|mn x r]) d e (sd<|qd x) (sd<|qd<|mn x r) (by simp;lia) h4;refine⟨r',y',z',?_⟩;unfold O9 kD;right;rw[mP h1 h2];right;rw[aI _ rfl A3];right;rw[aL h2 h3];right;refine zE f ?_;rw[show shr (x::l) r=mn x r::shr l (r-mn x r)from rfl,K3,gb];rfl
theorem yM{d:f9}{r:Rat}(hd:gx d=U (l.map qd))(hl:l.length<=1000)(h:IQ l r):bR [d,qd r]=U (.own<|(shr l r).map qd):=by
 obtain⟨r',y',z',e⟩:=Ze l r [] (sd d) (sd<|qd r) J J (by simpa using hl) h;unfold bR;right;rw[IW hd];right;rw[e];rfl
noncomputable def jw(x:Ts)(t:Int)(h:Hr)(lv:Rat):Bool:=match x with
 | .from_ n=>decide (n<=t)
 | .till n=>decide (t<=n)
 | .over n=>decide ((n:Rat)<lv)
 | .under n=>decide (lv<(n:Rat))
 | .dear n=>match h.line with|none=>U'|some (a,_,_,_)=>decide (n<=a)
 | .cheap n=>match h.line with|none=>U'|some (a,_,_,_)=>decide (a<=n)
 | .dark=>match h.line with|none=>Uf|some _=>U'
 | .sunny=>decide (h.need<=h.W0)
noncomputable def tsN:Ts->Int
 | .from_ n=>n
 | .till n=>n
 | .over n=>n
 | .under n=>n
 | .dear n=>n
 | .cheap n=>n
 |_=>0
structure a8U(x:Ts):Prop where
 b:(tsN x).natAbs<=1000000
theorem Dv(h:M.natAbs<=1000000000):RO (M:Rat):=⟨a0o (Bt.mono (m:=62) ⟨bO B1 f7⟩ f7) f7⟩
theorem a5m(f:Fi):(lA f=p7 "none")=(f=.non):=by cases f<;>simp[lA,R6]
theorem a5n(f:Fi):(lA f=p7 "line")=(f=.line):=by cases f<;>simp[lA,R6]
theorem a3v(f:Ta):(kZ f=p7 "none")=(f=.non):=by cases f<;>simp[kZ,R6]
theorem a3w(f:Ta):(kZ f=p7 "give")=(f=.give):=by cases f<;>simp[kZ,R6]
theorem a3h(f:Bool):(pj f=p7 "wait")=(f=Uf):=by cases f<;>simp[pj,R6]
theorem DQ(hx:Y=B4 [f6 w,p6 M])(hb:(if w = "dear" then(match d.line with|none=>U'|some (a,_,_,_)=>decide (M<=a))else(match d.line with|none=>U'|some (a,_,_,_)=>decide (a<=M)))=X):
  oV [Y,ig d.line]=sB X:=by
 subst hx hb;unfold oV;cases d.line with
 |none=>
  unfold ig;right;split<;>rfl
 |some l=>
  obtain⟨a,c,x,e⟩:=l;unfold ig;right;split;right;right
theorem a0S{x:Ts}(hx:a8U x)(hl:RO y):hI [Z7 x,p6 t,G3 d,qd y]=sB (jw x t d y):=by
 have:=hx.b;have ih2:=Cr d;cases x with
 |from_ n=>
  unfold hI Z7 jw;right;repeat (simp only[R6,String.reduceEq];right)
 |till n=>
  unfold hI Z7 jw;right;repeat (simp only[R6,String.reduceEq];right)
 |over n=>
  unfold hI Z7 jw;right;repeat (simp only[R6,String.reduceEq];right)
  rw[fL,AR (Dv (by have:(tsN<|.over n)=n:=rfl;exact D6 B1 f7)) hl];rfl
 |under n=>
  unfold hI Z7 jw;right;repeat (simp only[R6,String.reduceEq];right)
  rw[fL,AR hl<|Dv (by have:(tsN<|.under n)=n:=rfl;exact D6 B1 f7)];rfl
 |dear n=>
  unfold hI Z7 jw;right;repeat (simp only[R6,String.reduceEq];right)
  rw[ih2];right;rw[DQ rfl<|A6 rfl];rfl
 |cheap n=>
  unfold hI Z7 jw;right;repeat (simp only[R6,String.reduceEq];right)
  rw[ih2];right;rw[DQ rfl<|B2<|by simp only[R6,String.reduceEq,oH]];rfl
 |dark=>
  unfold hI Z7 jw;right;rw[ih2];cases d.line<;>rfl
 |sunny=>
  unfold hI Z7 jw;right;repeat (simp only[R6,String.reduceEq];right)
  rw[(Cu d),(Ct d)];right
def Qi(k:List Rl)(t:Int)(h:Hr)(lv:Rat):Rl:=(k.find? λr=>r.ts.all λx=>jw x t h lv).getD plain
theorem BN{Fe:Ds->Option PV}{ds:Ds}{f:Ts->Bool}:∀(l:List Ts),(∀x∈l,Fe (sd (Z7 x)::ds)=sB (f x))->U7 M0 M3 Fe ds (l.map Z7)=U ((l.map f).map E5)
 | [],_=>rfl
 |x::l,h=>by
  show(((Fe (sd (Z7 x)::ds)).bind λy=>(U7 M0 M3 Fe ds<|l.map Z7).bind λl=>U (y.d::l)))=_;rw[(h x<|by simp),(BN l λy hy=>h y<|by simp[hy])];rfl
theorem all_eq{l:List Ts}{f:Ts->Bool}:yb [B8<|(l.map f).map E5]=sB (l.all f):=by
 show((boolsOf<|(l.map f).map E5).bind λbs=>sd<|zO<|bs.all id)=_;rw[qg];simp[List.all_map]
structure a9b(r:Rl):Prop where
 ts:∀x∈r.ts,a8U x
 tl:r.ts.length<=6
theorem Rq{G:Ds->Option Out}{p:Rl->Bool}{a b c e:Option PV}:∀(k:List Rl),(∀r∈k,G [a,b,c,e,sd<|Q5 r]=if p r then U (.ret<|.dat<|Q5 r)else U<|.next [a,b,c,e,sd<|Q5 r])->∀y,
  (∃y',O9 (K5 4) G (k.map Q5) [a,b,c,e,y]=U (.next [a,b,c,e,y'])/\k.find? p=J)\/(∃r,O9 (K5 4) G (k.map Q5) [a,b,c,e,y]=U (.ret<|.dat<|Q5 r)/\k.find? p=U r):=by
 intro l_;induction l_ with
 |nil=>
  intro _ y;exact B3 ⟨y,rfl,rfl⟩
 |cons r k ih_=>
  intro h y;have e1:O9 (K5 4) G ((r::k).map Q5) [a,b,c,e,y]=(G [a,b,c,e,sd<|Q5 r]).bind λo=>match o with
   | .next ds2=>O9 (K5 4) G (k.map Q5) ds2
   | .cont ds2=>O9 (K5 4) G (k.map Q5) ds2
   | .brk ds2=>U<|.next ds2
   | .ret pv=>U<|.ret pv
   | .up x=>U<|.up x
   | .retO pv ds2=>U<|.retO pv ds2
   | .upO t x ds2=>U<|.upO t x ds2:=rfl
  rw[e1,(h r C9),Me];cases p r with
  |true=>exact B6 ⟨r,rfl,rfl⟩
  |false=>exact(ih_ (λx hx=>h x<|by simp[hx])<|sd<|Q5 r)
theorem a3H{h:Hr}(hl:RO y)(hk:∀r∈c,a9b r):oN [B4<|c.map Q5,p6 t,G3 h,qd y]=sd (Q5<|Qi c t h y):=by
 have st:∀r∈c,pf [sd<|B4<|c.map Q5,iD t,sd<|G3 h,sd<|qd y,sd<|Q5 r]=if r.ts.all (λx=>jw x t h y)then U (.ret<|.dat<|Q5 r)else U (.next [sd<|B4<|c.map Q5,iD t,sd<|G3 h,sd<|qd y,sd<|Q5 r]):=λr hr=>by
  have hr:=hk r hr;have cp:=BN (Fe:=oY) (ds:=[sd<|B4<|c.map Q5,iD t,sd<|G3 h,sd<|qd y,sd<|Q5 r]) r.ts (λx hx=>by unfold oY;right;rw[a0S (hr.ts x hx) hl]);have:=hr.tl;unfold pf;right;rw[show J2 (Q5 r) (p6 0)=sd (B4<|r.ts.map Z7)from rfl];right;rw[A6 (by rw[F4];exact D6 B1 f7),cp];right;rw[all_eq];right
 unfold oN Qi;right;rcases Rq c st J with ⟨k,e1,e2⟩|⟨r,e1,e2⟩
 rw[e1,e2];rfl;rw[e1,e2];rfl
abbrev yy(i:Int):Prop:=0<=i/\i<=1000000
abbrev Eo(i:Int):Prop:=-1000000<=i/\i<=1000000
structure AB(h:Hr):Prop where
 W0:yy h.W0
 need:yy h.need
 line:∀a b c d,h.line=U (a,b,c,d)->Eo a/\yy b/\Eo c/\yy d
structure RE(n:Int)(w:Wk):Prop where
 N0:yy w.N0
 first:0<=w.first
 fl:w.first<=w.last
 last:w.last<n
 most:yy w.most
structure Hs where
 hs:List Hr
 size:Int
 start:Int
 fill:Int
 take:Int
 kept:Rat
 left:Rat
 rest:Int
 ws:List Wk
variable{a:Hs}
def mV(h:Hs):f9:=B4 [p6 h.size,p6 h.start,p6 h.fill,p6 h.take,qd h.kept,qd h.left,p6 h.rest]
def uR(h:Hs):f9:=B4 [B4<|h.hs.map G3,mV h,B4<|h.ws.map P6]
theorem Kx(h:Hs):J2 (uR h) (p6 0)=sd (B4<|h.hs.map G3):=rfl
theorem Kw(h:Hs):J2 (uR h) (p6 1)=sd (mV h):=rfl
theorem Kv(h:Hs):J2 (uR h) (p6 2)=sd (B4<|h.ws.map P6):=rfl
theorem a8d(h:Hs):J2 (mV h) (p6 0)=iD h.size:=rfl
theorem Kt(h:Hs):J2 (mV h) (p6 1)=iD h.start:=rfl
theorem a8c(h:Hs):J2 (mV h) (p6 2)=iD h.fill:=rfl
theorem a8b(h:Hs):J2 (mV h) (p6 3)=iD h.take:=rfl
theorem Kr(h:Hs):J2 (mV h) (p6 4)=sd (qd h.kept):=rfl
theorem Kq(h:Hs):J2 (mV h) (p6 5)=sd (qd h.left):=rfl
theorem a8h(r:Rl):J2 (Q5 r) (p6 1)=sS (lA r.fi):=rfl
theorem a8g(r:Rl):J2 (Q5 r) (p6 2)=sS (kZ r.ta):=rfl
theorem a8f(r:Rl):J2 (Q5 r) (p6 3)=sS (pj r.wo):=rfl
structure pU(x:Rat):Prop where
 pos:0<x
 one:x<=1
 den:x.den<=12
structure cj(h:Hs):Prop where
 hs:∀x∈h.hs,AB x
 h1:1<=h.hs.length
 hl:h.hs.length<=24
 size:yy h.size
 start:yy h.start
 full:h.start<=h.size
 fill:yy h.fill
 take:yy h.take
 kept:pU h.kept
 left:pU h.left
 ws:∀w∈h.ws,RE h.hs.length w
 wl:h.ws.length<=6
theorem pU.le(h:pU y):y.num<=y.den:=by have:=(Ey y 1).mp h.one;simpa using this
theorem pU.sz(h:pU y):Sz y.den 1 y:=by have:=pH h.pos;have:=h.le;exact⟨gH y,Dn y,W6 _,by show(y.num.natAbs:Int)<=1*y.den;lia⟩
theorem pU.szI(h:pU y):Sz y.num 12 y⁻¹:=by
 have h1:=pH h.pos;have:=h.den;refine⟨?_⟩;rw[KC h.pos];refine⟨h1,by rw[zR];exact Dn y,W6 _,?_⟩;show((y.den:Int).natAbs)<=12*y.num;lia
theorem pU.ok(h:pU y):RO y:=by have:=pH h.pos;have:=h.le;have:=h.den;exact⟨iu.mono (m:=4) ⟨gH y,Dn y,⟨by show y.num.natAbs<16;lia⟩,⟨by show((y.den:Int)).natAbs<16;exact bO B1 f7⟩⟩ f7⟩
theorem a8v(a b c d:Int):cW (B4 [p6 a,p6 b]) (B4 [p6 c,p6 d])=(decide (a=c)&&decide (b=d)):=by simp only[cW,oz,wF];rfl
theorem b0o(x:Rat):V6 (qd x) (qd 0)=sB (!decide (x=0)):=by
 have s:∀y:Rat,Sh 1<|qd y:=λy=>a6v λz hz=>by simp at hz;rcases hz with rfl|rfl<;>exact a6w _
 rw[Us (s x)<|s 0]
 congr 4
 show cW (B4 [p6 x.num,p6 x.den]) (B4 [p6 0,p6 1])=_;rw[a8v];by_cases c:x=0;subst c;rfl
 . have:=λe=>c<|Rat.num_eq_zero.mp e;simp[c]
def mw(w:Wk)(t:Int)(u:Rat)(wait:Bool):Rat:=if t<w.first\/w.last<t then 0 else mn (if wait then hZ (u-((w.most*(w.last-t):Int):Rat))else u) (w.most:Rat)
theorem Sz.hZ(hx:Sz t M y):Sz t M<|Law.hZ y:=by
 unfold Law.hZ;split;exact Sz.zero hx.m0;exact hx
theorem OK(hw:RE M Q)(hn:M<=24)(h1:0<=t)(h2:t<=Q.last):((Q.most*(Q.last-t)).natAbs:Int)<=100000000:=by
 have h3:=hw.most;have:=hw.last;have:Q.most*(Q.last-t)<=1000000*24:=LY h3.2 A3 R4 f7;have:=zX h3.1 (R4:0<=Q.last-t);lia
theorem a3i(hw:RE M Q)(hn:M<=24)(ht:0<=t)(hD:jZ b)(hu:Sz b 2000000 u):uY [P6 Q,p6 t,qd u,f6<|pj X]=sd (qd<|mw Q t u X):=by
 have i3:=a0M Q;have i4:=a0L Q;have:=hw.most;have om:RO Q.most:=Dv A3;have ou:=hu.ok hD f7;unfold uY mw;right;rw[(a0N Q)];right;by_cases c:t<Q.first;rw[A6 c,A6<|.inl c];rfl;rw[B2 c,i3];right;by_cases d:Q.last<t;rw[A6 d,A6<|B6 d];rfl
 rw[B2 d,B2 V8];right;simp only[a3h];cases X with
 |true=>
  right;rw[i4,i3];right;rw[Y0 (Bt.kG G0 A3)<|Bt.kG (by have:=hw.last;omega) (by have:=hw.last;lia)];right;have ol:Sz b 100000000<|((Q.most*(Q.last-t)):Int):=Sz.int<|OK hw hn ht R4;rw[fL,aL ou<|ol.ok hD f7];right;rw[TY<|(hu.sub ol).ok hD f7];right;rw[i4];right;rw[fL,mP ((hu.sub ol).hZ.ok hD f7) om];rfl
 |false=>
  right;rw[i4];right;rw[fL,mP ou om];rfl
theorem bh(x y:Rat):mn x y<=x:=by unfold mn;split<;>grind
theorem dn(x y:Rat):mn x y<=y:=by unfold mn;split<;>grind
theorem OB(h:y<=u):mn u y=y:=by unfold mn;split<;>grind
theorem dU{z:Rat}(h1:z<=u)(h2:z<=y):z<=mn u y:=by unfold mn;split<;>simp_all
theorem cT(h:0<=M):(0:Rat)<=(M:Rat):=by exact_mod_cast h
def ba(H:Hs)(lv:Rat)(ta:Ta):Rat:=if ta=.non then 0 else H.left*mn (H.take:Rat) lv
theorem a7q{ta:Ta}(hH:cj a)(hD:jZ M)(hl:Sz M 2000000 y):rP [mV a,qd y,f6<|kZ ta]=sd (qd<|ba a y ta):=by
 have:=hH.take;have ot:Sz M 1000000 a.take:=Sz.int A3;unfold rP ba;right;simp only[a3v];by_cases c:ta=.non;rw[A6 c,A6 c];rfl;rw[B2 c,B2 c];right;rw[(Kq a),(a8b a)];right;rw[fL,mP (ot.ok hD f7)<|hl.ok hD f7];right;rw[iU hH.left.ok<|(ot.mn hl).ok hD f7];rfl
def roomQ(H:Hs)(lv:Rat):Rat:=mn (H.fill:Rat)<|hZ ((H.size:Rat)-lv)*H.kept⁻¹
def Ed(H:Hs)(lv:Rat)(fi:Fi)(tk:Rat):Rat:=if fi=.non\/tk≠0 then 0 else roomQ H lv
theorem b0B{tk:Rat}{fi:Fi}(hH:cj a)(hD:jZ<|M*a.kept.num)(hD':jZ M)(hl:Sz M 2000000 y):ql [mV a,qd y,f6<|lA fi,qd tk]=sd (qd<|Ed a y fi tk):=by
 have:=hH.size;have:=hH.fill;have os:Sz M 1000000 a.size:=Sz.int A3;have of:Sz (M*a.kept.num) 1000000 a.fill:=Sz.int A3;have ok:=hH.kept;have s1:=(os.sub hl).hZ;unfold ql Ed roomQ;unfold O5;rw[vO];right;simp only[a5m];by_cases c:fi=.non;rw[A6 c,A6<|.inl c];rfl
 . rw[B2 c];rw[b0o];right;by_cases d:tk=0
   . rw[B2 (by simp[d]),B2<|by simp[c,d]];right;rw[(a8d a)];right;rw[fL,aL (os.ok hD' f7)<|hl.ok hD' f7];right;rw[TY<|(os.sub hl).ok hD' f7];right;rw[(a8c a),(Kr a)];right;rw[TV (s1.ok hD' f7) ok.ok ok.pos];right;rw[fL,mP (of.ok hD f7)<|(s1.mul ok.szI).ok hD f7];rfl
   rw[A6 (by simp[d]),A6<|.inr d];rfl
theorem vE{D X:Int}(hD:jZ D):∀(l:List Rat) (Z:Int) (z:Rat),(∀x∈l,Sz D X x)->Sz D Z z->0<=X->Z+l.length*X<=2^190->rL l z/\Sz D (Z+l.length*X) (aN l z)
 | [],Z,z,_,hz,_,hb=>⟨hz.ok hD (by simp at hb;exact O0 B1 f7),by
  have e:Z+(([]:List Rat).length)*X=Z:=by simp
  rw[e];exact hz⟩
 |x::l,Z,z,hl,hz,hX,hb=>by
  have hx:=hl x C9;have e:Z+((x::l).length)*X=Z+X+l.length*X:=by rw[L3];push_cast;rw[EB];lia
  rw[e]at hb|-;have:0<=l.length*X:=zX R4 hX;obtain⟨h1,h2⟩:=vE hD l (Z+X) (z+x) (λy hy=>hl y<|by simp[hy]) (hz.add hx) hX hb;have:=hz.m0;exact⟨⟨hz.ok hD A3,hx.ok hD A3,h1⟩,h2⟩
theorem SE(hD:jZ M):∀(l:List Rat) (R:Int) (r:Rat),(∀x∈l,Sz M t x)->Sz M R r->0<=t->2^l.length*(R+t)<=2^190->IQ l r/\∀y∈shr l r,Sz M (2^l.length*(R+t)) y:=by
 intro l_;induction l_ with
 |nil=>
  intro R r _ hr hX hb;exact⟨hr.ok hD (by simp at hb;lia),by intro y hy;cases hy⟩
 |cons x l ih_=>
  intro R r hl hr hX hb;have hx:=hl x C9;have:=hr.m0;have e:2^(x::l).length*(R+t)=2^l.length*(R+(t+R)+t):=by
   rw[L3,Int.pow_succ,jP]
   congr 1
   lia
  rw[e]at hb|-;have p1:(1:Int)<=2^l.length:=Int.le_of_lt_add_one (by have:=Int.pow_pos (n:=2) (m:=l.length) f7;lia)
  have:R+(t+R)+t<=2^l.length*(R+(t+R)+t):=by
   have:=rM p1 (A3:0<=R+(t+R)+t)
   simp_all
  have hm:=hx.mn hr;obtain⟨h1,h2⟩:=ih_ (R+(t+R)) (r-mn x r) (λy hy=>hl y<|by simp[hy]) (hr.sub hm) hX hb
  refine⟨⟨hx.ok hD A3,hr.ok hD A3,hm.ok hD A3,h1⟩,?_⟩;intro y hy;rcases List.mem_cons.mp hy with rfl|hy
  exact hm.mono (W6 _) A3;exact h2 y hy
theorem pz:∀(l:List Rat) (z:Rat),aN l z=z+aN l 0
 | [],z=>by show z=z+0;grind
 |x::l,z=>by
  show aN l (z+x)=z+aN l (0+x);rw[pz l<|z+x,pz l<|0+x];grind
theorem SG:∀(l:List Rat) (r:Rat),0<=r->(∀x∈l,0<=x)->aN (shr l r) 0<=r/\0<=aN (shr l r) 0/\∀y∈shr l r,0<=y:=by
 intro l_;induction l_ with
 |nil=>
  intro r h _;exact⟨h,by show 0<=0;rfl,by intro y hy;cases hy⟩
 |cons x l ih_=>
  intro r h hl;have:=dn x r;have m2:=dU (hl x C9) h;obtain⟨h1,h2,h3⟩:=ih_ (r-mn x r) (by grind) (λy hy=>hl y<|by simp[hy])
  have:aN (shr (x::l) r) 0=mn x r+aN (shr l<|r-mn x r) 0:=by
   show aN (shr l<|r-mn x r) (0+mn x r)=_;rw[pz];rw[Rat.zero_add]
  refine⟨by grind,by grind,?_⟩
  intro y hy;rcases List.mem_cons.mp hy with rfl|hy
  exact m2;exact h3 y hy
theorem rZ:∀(l:List Rat) (r:Rat),(shr l r).length=l.length
 | [],_=>rfl
 |x::l,r=>by show(shr l<|r-mn x r).length+1=l.length+1;rw[rZ l]
noncomputable def nR(h:Hr):Int×Int×Int×Int:=h.line.getD (0,0,0,0)
noncomputable def Qw(x:Int×Int×Int×Int):f9:=B4 [p6 x.1,p6 x.2.1,p6 x.2.2.1,p6 x.2.2.2]
noncomputable def fz(h:Hr):Rat:=(h.W0:Rat)
noncomputable def M9(h:Hr):Rat:=(h.need:Rat)
def fE(h:Hr):Rat:=((nR h).2.1:Rat)
def pN(h:Hr):Rat:=((nR h).2.2.2:Rat)
structure Dq where
 eO:Rat
 give:Rat
 fill:Rat
 take:Rat
 gn:Rat
 done:List Rat
variable{S:Dq}
def iH(d:Dq):f9:=B4 [qd d.eO,qd d.give,qd d.fill,qd d.take,qd d.gn,B4<|d.done.map qd]
section
variable(H:Hs)(h:Hr)(lv:Rat)(r:Rl)(ws:List Rat)
def M5:Rat:=0+fz h+fE h+ba H lv r.ta
def sZ:List Rat:=shr (M9 h::ws)<|M5 H h lv r
def mU:Rat:=aN (sZ H h lv r ws) 0
def kF:Rat:=mn (fz h)<|mU H h lv r ws
def iB:Rat:=mn (ba H lv r.ta)<|mU H h lv r ws-kF H h lv r ws
def sD:Rat:=mn (fE h)<|mU H h lv r ws-kF H h lv r ws-iB H h lv r ws
def iE:Rat:=if r.ta=.give then mn (ba H lv r.ta-iB H h lv r ws) (pN h)else 0
def qv:Rat:=(iB H h lv r ws+iE H h lv r ws)*H.left⁻¹
def qx:Rat:=fz h-kF H h lv r ws
def uW:Rat:=if r.fi=.line then fE h-sD H h lv r ws else 0
def nr:Rat:=Ed H lv r.fi<|qv H h lv r ws
def fy:Rat:=mn (qx H h lv r ws)<|nr H h lv r ws
def iG:Rat:=mn (uW H h lv r ws)<|nr H h lv r ws-fy H h lv r ws
def sO:Rat:=mn (qx H h lv r ws-fy H h lv r ws)<|pN h-iE H h lv r ws
def Y7:Dq:=⟨sD H h lv r ws+iG H h lv r ws,iE H h lv r ws+sO H h lv r ws,0+fy H h lv r ws+iG H h lv r ws,qv H h lv r ws,M9 h-mn (M9 h) (M5 H h lv r),shr ws<|M5 H h lv r-mn (M9 h) (M5 H h lv r)⟩
end
noncomputable def dA(H:Hs)(D:Int):Int:=H.left.den*D
def dB(H:Hs)(D:Int):Int:=dA H D*H.left.num*H.kept.num
structure MZ(H:Hs)(h:Hr)(D:Int)(lv:Rat)(r:Rl)(ws:List Rat):Prop where
 dD:jZ D
 dK:jZ<|D*H.kept.num
 iC:jZ<|dA H D
 pk:jZ<|dB H D
 zl:Sz D 2000000 lv
 W0:Sz (Law.dA H D) (2^20)<|fz h
 need:Sz (Law.dA H D) (2^20)<|M9 h
 eO:Sz (Law.dA H D) (2^20)<|fE h
 OV:Sz (Law.dA H D) (2^20)<|pN h
 out:Sz (Law.dA H D) (2^22)<|ba H lv r.ta
 reach:Sz (Law.dA H D) (2^24)<|M5 H h lv r
 zw:∀x∈ws,Sz (Law.dA H D) (2^31) x
 wl:ws.length<=6
 met:∀x∈sZ H h lv r ws,Sz (Law.dA H D) (2^40) x
 us:Sz (Law.dA H D) (2^44)<|mU H h lv r ws
 u0:Sz (Law.dA H D) (2^45)<|kF H h lv r ws
 u1:Sz (Law.dA H D) (2^47)<|iB H h lv r ws
 u2:Sz (Law.dA H D) (2^49)<|sD H h lv r ws
 gv:Sz (Law.dA H D) (2^49)<|iE H h lv r ws
 tk:Sz (Law.dB H D) (2^55)<|qv H h lv r ws
 sr:Sz (Law.dB H D) (2^46)<|qx H h lv r ws
 br:Sz (Law.dB H D) (2^50)<|uW H h lv r ws
 fq:Sz (Law.dB H D) (2^30)<|nr H h lv r ws
 f0:Sz (Law.dB H D) (2^47)<|fy H h lv r ws
 f1:Sz (Law.dB H D) (2^52)<|iG H h lv r ws
 sg:Sz (Law.dB H D) (2^53)<|sO H h lv r ws
theorem GN(hh:AB d):yy (nR d).2.1/\yy (nR d).2.2.2:=by
 unfold nR;cases e:d.line with
 |none=>exact⟨⟨f7,f7⟩,⟨f7,f7⟩⟩
 |some l=>
  obtain⟨a,b,c,h⟩:=l;obtain⟨_,h2,_,h4⟩:=hh.line a b c h e;exact⟨h2,h4⟩
theorem a5f(hH:cj a)(hh:AB d)(dD:jZ t)(dK:jZ<|t*a.kept.num)(dA':jZ<|dA a t)(dB':jZ<|dB a t)(hl:Sz t 2000000 y)(hw:∀x∈l,Sz t (2^31) x)(wl:l.length<=6):MZ a d t y Z l:=by
 obtain⟨l1,l2⟩:=GN hh;have:=hh.W0;have:=hh.need;have:=hH.take;have:=hH.fill;have:=hH.size;have dvA:t∣dA a t:=⟨a.left.den,by unfold dA;rw[Y9]⟩;have dvB:dA a t∣dB a t:=⟨a.left.num*a.kept.num,by unfold dB;rw[jP]⟩;have dvK:t*a.kept.num∣dB a t:=⟨a.left.den*a.left.num,by unfold dB dA;simp only[gW,Y9,jP]⟩
 have dvT:dA a t*a.left.num∣dB a t:=⟨a.kept.num,rfl⟩;have W0:Sz (dA a t) (2^20)<|fz d:=Sz.int A3;have need:Sz (dA a t) (2^20)<|M9 d:=Sz.int A3;have eO:Sz (dA a t) (2^20)<|fE d:=Sz.int A3;have OV:Sz (dA a t) (2^20)<|pN d:=Sz.int A3;have tak:Sz t 1000000 a.take:=Sz.int A3;have out:Sz (dA a t) (2^22)<|ba a y Z.ta:=by
  unfold ba;split;exact Sz.zero f7;exact(hH.left.sz.mul<|tak.mn hl).mono (W6 _) f7
 have reach:Sz (dA a t) (2^24)<|M5 a d y Z:=((((Sz.zero (M:=0) f7).add W0).add eO).add out).mono (W6 _) f7;have ws':=λx hx=>(hw x hx).mono dvA<|fV _
 have nw:∀x∈M9 d::l,Sz (dA a t) (2^31) x:=λx hx=>by
  rcases List.mem_cons.mp hx with rfl|hx
  exact need.mono (W6 _) f7;exact ws' x hx
 have pl:(2:Int)^(M9 d::l).length<=2^7:=by
  have:2^(M9 d::l).length<=2^7:=uw f7 (by rw[L3];simp_all)
  exact_mod_cast this
 have pb:(2:Int)^(M9 d::l).length*(2^24+2^31)<=2^40:=by
  have:=rM pl (show 0<=2^24+2^31 by decide);exact O0 this f7
 have met:=λx hx=>
  ((SE dA' (M9 d::l) (2^24) (M5 a d y Z) nw reach f7<|O0 pb f7).2 x hx).mono (W6 _) pb
 have:(sZ a d y Z l).length<=7:=by unfold sZ;rw[rZ,L3];simp_all
 have tb:(0:Int)+(sZ a d y Z l).length*2^40<=2^44:=A3;have us:=(vE dA' (sZ a d y Z l) 0 0 met (Sz.zero f7) f7<|O0 B1 f7).2.mono (W6 _) tb;have u0:Sz (dA a t) (2^45)<|kF a d y Z l:=(W0.mn us).mono (W6 _) f7;have u1:Sz (dA a t) (2^47)<|iB a d y Z l:=(out.mn<|us.sub u0).mono (W6 _) f7;have u2:Sz (dA a t) (2^49)<|sD a d y Z l:=(eO.mn<|(us.sub u0).sub u1).mono (W6 _) f7;have gv:Sz (dA a t) (2^49)<|iE a d y Z l:=by
  unfold iE;split;exact((out.sub u1).mn OV).mono (W6 _) f7;exact Sz.zero f7
 have tk:Sz (dB a t) (2^55)<|qv a d y Z l:=((u1.add gv).mul hH.left.szI).mono dvT f7;have sr:Sz (dB a t) (2^46)<|qx a d y Z l:=(W0.sub u0).mono dvB f7;have br:Sz (dB a t) (2^50)<|uW a d y Z l:=by
  unfold uW;split;exact(eO.sub u2).mono dvB f7;exact Sz.zero f7
 have size:Sz t 1000000 a.size:=Sz.int A3;have fill:Sz (t*a.kept.num) 1000000 a.fill:=Sz.int A3;have fq:Sz (dB a t) (2^30)<|nr a d y Z l:=by
  unfold nr Ed;split;exact Sz.zero f7;exact(fill.mn<|(size.sub hl).hZ.mul hH.kept.szI).mono dvK f7
 have f0:Sz (dB a t) (2^47)<|fy a d y Z l:=(sr.mn fq).mono (W6 _) f7;have f1:Sz (dB a t) (2^52)<|iG a d y Z l:=(br.mn<|fq.sub f0).mono (W6 _) f7;have sg:Sz (dB a t) (2^53)<|sO a d y Z l:=((sr.sub f0).mn<|(OV.sub gv).mono dvB<|fV _).mono (W6 _) f7;exact⟨dD,dK,dA',dB',hl,W0,need,eO,OV,out,reach,ws',wl,met,us,u0,u1,u2,gv,tk,sr,br,fq,f0,f1,sg⟩
local macro_rules|`(tactic|walk_at "n")=>`(tactic|((try simp only[P0,L2.uP,L2.uO,L2.PV.du,L2.PV.Bi,An,Am,lW,iM,L3,EY,Nat.reduceAdd,Nat.reduceLeDiff,if_true,reduceIte,Law.fL]);rw[L2.mW];rw[L2.Be];right))
theorem a1p(x:T)(l:List T):cutD (x::l) (U 1) J=l:=by simp[cutD,HT.U4]
theorem Ru{h:Hr}{r:Rl}{ws:List Rat}(hH:cj a)(Z:MZ a h t y r ws):oX [G3 h,mV a,qd y,Q5 r,B8<|ws.map qd]=sd (iH<|Y7 a h y r ws):=by
 have i0:=Cu h;have i1:=Ct h;have i2:=Cr h;have il:(if K7 (ig h.line)=Uf then sd zz else sd<|ig h.line)=sd (Qw<|nR h):=by
  unfold nR;cases h.line with
  |none=>rfl
  |some l=>rfl
 have q1:J2 (Qw<|nR h) (p6 1)=sd (p6 (nR h).2.1):=rfl;have q3:J2 (Qw<|nR h) (p6 3)=sd (p6 (nR h).2.2.2):=rfl;have r1:=a8h r;have r2:=a8g r;have s5:=Kq a;have oe:=a7q (ta:=r.ta) hH Z.dD Z.zl;have fe:=b0B (tk:=qv a h y r ws) (fi:=r.fi) hH Z.dK Z.dD Z.zl;have ok1:=Z.W0.ok Z.iC f7;have ok2:=Z.need.ok Z.iC f7;have ok3:=Z.eO.ok Z.iC f7;have ok4:=Z.OV.ok Z.iC f7;have ok5:=Z.out.ok Z.iC f7;have tt:=vE Z.iC (sZ a h y r ws) 0 0 Z.met (Sz.zero f7) f7 (by
  have:(sZ a h y r ws).length<=7:=by unfold sZ;rw[rZ,L3];have:=Z.wl;simp_all
  lia)
 have te:=BY (l:=sZ a h y r ws) (d:=B8<|(sZ a h y r ws).map qd) rfl tt.1;have te0:=BY (l:=[fz h,fE h,ba a y r.ta]) (d:=B8 [qd<|fz h,qd<|fE h,qd<|ba a y r.ta]) rfl ⟨vP,ok1,((Sz.zero (M:=0) f7).add Z.W0).ok Z.iC f7,ok3,(((Sz.zero (M:=0) f7).add Z.W0).add Z.eO).ok Z.iC f7,ok5,Z.reach.ok Z.iC f7⟩;have pl:(2:Int)^(M9 h::ws).length<=2^7:=by
  have:(2:Nat)^(M9 h::ws).length<=2^7:=uw f7 (by rw[L3];have:=Z.wl;simp_all)
  exact_mod_cast this
 have pb:(2:Int)^(M9 h::ws).length*(2^24+2^31)<=2^190:=by have:=rM pl (f7:(0:Int)<=2^24+2^31);exact O0 this f7
 have sh1:=yM (l:=M9 h::ws) (d:=B8 (qd (M9 h)::ws.map qd)) (r:=M5 a h y r) rfl (by rw[L3];have:=Z.wl;exact bO B1 f7) (SE Z.iC (M9 h::ws) (2^24) (M5 a h y r) (λx hx=>by
  rcases List.mem_cons.mp hx with rfl|hx
  exact Z.need.mono (W6 _) f7
  . exact Z.zw x hx) Z.reach f7 pb).1
 replace sh1:bR [B8 (qd (M9 h)::ws.map qd),qd<|M5 a h y r]=U (.own (qd (mn (M9 h)<|M5 a h y r)::(shr ws<|M5 a h y r-mn (M9 h) (M5 a h y r)).map qd)):=sh1;have o0:=Z.u0.ok Z.iC f7;have o1:=Z.u1.ok Z.iC f7;have o2:=Z.u2.ok Z.iC f7;have og:=Z.gv.ok Z.iC f7;have ou:=Z.us.ok Z.iC f7;have ou0:=(Z.us.sub Z.u0).ok Z.iC f7;have sh2:bR [B8 [qd<|fz h,qd<|ba a y r.ta,qd<|fE h],qd<|mU a h y r ws]=U (.own [qd<|kF a h y r ws,qd<|iB a h y r ws,qd<|sD a h y r ws]):=yM (l:=[fz h,ba a y r.ta,fE h]) rfl (f7:3<=1000)
  ⟨ok1,ou,o0,ok5,ou0,o1,ok3,(((Z.us.sub Z.u0).sub Z.u1).ok Z.iC f7),o2,(((Z.us.sub Z.u0).sub Z.u1).sub Z.u2).ok Z.iC f7⟩
 have orr:=Z.sr.ok Z.pk f7;have of0:=Z.f0.ok Z.pk f7;have of1:=Z.f1.ok Z.pk f7;have sh3:bR [B8 [qd<|qx a h y r ws,qd<|uW a h y r ws],qd<|nr a h y r ws]=U (.own [qd<|fy a h y r ws,qd<|iG a h y r ws]):=yM (l:=[qx a h y r ws,uW a h y r ws]) rfl (f7:2<=1000)
  ⟨orr,(Z.fq.ok Z.pk f7),of0,(Z.br.ok Z.pk f7),((Z.fq.sub Z.f0).ok Z.pk f7),of1,((Z.fq.sub Z.f0).sub Z.f1).ok Z.pk f7⟩
 have gve:(if r.ta=.give then gq [qd<|ba a y r.ta-iB a h y r ws,qd<|pN h]else sd<|qd 0)=sd (qd<|iE a h y r ws):=by
  unfold iE;split;exact mP ((Z.out.sub Z.u1).ok Z.iC f7) ok4;rfl
 have bre:(if r.fi=.line then X8 [qd<|fE h,qd<|sD a h y r ws]else sd<|qd 0)=sd (qd<|uW a h y r ws):=by
  unfold uW;split;exact aL ok3 o2;rfl
 have:=Z.wl;unfold oX O5;right;rw[i2];right
 erw [il]
 walk_at "n";rw[i0];walk_at "n";rw[i1];walk_at "n";rw[q1];walk_at "n";rw[q3];walk_at "n";rw[r2];right;rw[oe];walk_at "n";rw[uX (by rw[F4];simp;lia)];right
 erw [te0]
 right
 erw [sh1]
 walk_at "n"
 erw [te]
 right
 erw [sh2]
 walk_at "n";rw[aL ok5 o1,r2];right;simp only[a3w]
 erw [gve]
 walk_at "n";rw[gI o1 og,s5];right;rw[TV ((Z.u1.add Z.gv).ok Z.iC f7) hH.left.ok hH.left.pos];walk_at "n"
 erw [aL ok1 o0]
 walk_at "n";rw[r1];right;simp only[a5n]
 erw [bre]
 walk_at "n";rw[r1];right
 erw [fe]
 right
 erw [sh3]
 walk_at "n"
 erw [aL orr of0]
 right
 erw [aL ok4 og]
 right
 erw [mP ((Z.sr.sub Z.f0).ok Z.pk f7)<|(Z.OV.sub Z.gv).ok Z.iC f7]
 walk_at "n";rw[gI o2 of1];right
 erw [gI og<|Z.sg.ok Z.pk f7]
 right
 erw [(BY (l:=[fy a h y r ws,iG a h y r ws]) (d:=B8 [qd<|fy a h y r ws,qd<|iG a h y r ws]) rfl ⟨vP,of0,((Sz.zero (M:=0) f7).add Z.f0).ok Z.pk f7,of1,(((Sz.zero (M:=0) f7).add Z.f0).add Z.f1).ok Z.pk f7⟩)]
 right
 erw [aL ok2<|(Z.need.mn Z.reach).ok Z.iC f7]
 right;rw[a1p,tL C9];rfl
theorem Gp:∀(l:List Rat) (r:Rat) (j:Nat),j<l.length->(shr l r).getD j 0=mn (l.getD j 0) (r-aN ((shr l r).take j) 0)
 | [],_,_,h=>by simp at h
 |x::l,r,0,_=>by
  show mn x r=mn x (r-aN [] 0)
  rw[show aN [] 0=0 from rfl];congr 1;grind
 |x::l,r,j+1,h=>by
  show(shr l<|r-mn x r).getD j 0=mn (l.getD j 0) (r-aN ((shr l<|r-mn x r).take j) (0+mn x r));rw[Gp l (r-mn x r) j (by simpa using h),pz _<|0+mn x r]
  congr 1;grind
def M7(H:Hs)(t:Int)(und:List Rat)(wo:Bool):List Rat:=bQ (λw u=>mw w t u wo) H.ws und
noncomputable def rA:Wk:=⟨"",0,0,0,0⟩
structure Gf(H:Hs)(h:Hr)(lv:Rat)(r:Rl)(ws:List Rat):Prop where
 bo:mU H h lv r ws-kF H h lv r ws-iB H h lv r ws=sD H h lv r ws
 sr:0<=qx H h lv r ws
 br:0<=uW H h lv r ws
 lo:0<=lv+H.kept*(0+fy H h lv r ws+iG H h lv r ws)-qv H h lv r ws
 hi:lv+H.kept*(0+fy H h lv r ws+iG H h lv r ws)-qv H h lv r ws<=(H.size:Rat)
 done:∀y∈shr ws (M5 H h lv r-mn (M9 h) (M5 H h lv r)),0<=y
theorem DK(h:0<y):0<=y⁻¹/\y*y⁻¹=1:=by
 have hn:y≠0:=by grind
 refine⟨?_,Rat.mul_inv_cancel y hn⟩;exact zQ<|Rat.inv_pos.mpr h
theorem OS{r:Rl}(hH:cj a)(hh:AB d)(l0:0<=y)(l1:y<=(a.size:Rat))(w0:∀x∈l,0<=x):Gf a d y r l:=by
 obtain⟨q1,q2⟩:=GN hh;have s0:0<=fz d:=cT hh.W0.1;have n0:0<=M9 d:=cT hh.need.1;have b0:0<=fE d:=cT q1.1;have g0:0<=pN d:=cT q2.1;have t0:(0:Rat)<=((a.take:Int):Rat):=cT hH.take.1;have fi0:(0:Rat)<=((a.fill:Int):Rat):=cT hH.fill.1;obtain⟨li,lm⟩:=DK hH.left.pos;obtain⟨ki,km⟩:=DK hH.kept.pos;have lp:=zQ hH.left.pos;have kp:=zQ hH.kept.pos;have m0:0<=mn (a.take:Rat) y:=dU t0 l0;have o0:0<=ba a y r.ta:=by
  unfold ba;split;grind;exact lS lp m0
 have o1:ba a y r.ta<=a.left*y:=by
  unfold ba;split;exact lS lp l0;exact MW (dn _ _) lp
 have r0:0<=M5 a d y r:=by unfold M5;grind
 have nw:∀x∈M9 d::l,0<=x:=λx hx=>by
  rcases List.mem_cons.mp hx with rfl|hx
  exact n0;exact w0 x hx
 obtain⟨ur,u0,ud⟩:=SG (M9 d::l) (M5 a d y r) r0 nw;have ur':mU a d y r l<=0+fz d+fE d+ba a y r.ta:=ur;have u0':0<=mU a d y r l:=u0;have a1:kF a d y r l<=fz d:=bh _ _;have a2:kF a d y r l<=mU a d y r l:=dn _ _;have a3:0<=kF a d y r l:=dU s0 u0';have b1:iB a d y r l<=ba a y r.ta:=bh _ _;have b2:iB a d y r l<=mU a d y r l-kF a d y r l:=dn _ _;have b3:0<=iB a d y r l:=dU o0 (by grind)
 have ea:kF a d y r l=fz d\/kF a d y r l=mU a d y r l:=by unfold kF mn;split<;>grind
 have eb:iB a d y r l=ba a y r.ta\/iB a d y r l=mU a d y r l-kF a d y r l:=by unfold iB;unfold mn;split<;>grind
 have bo:mU a d y r l-kF a d y r l-iB a d y r l<=fE d:=by rcases ea with e|e<;>rcases eb with f|f<;>grind
 have c2:sD a d y r l=mU a d y r l-kF a d y r l-iB a d y r l:=OB bo;have sr:0<=qx a d y r l:=by unfold qx;grind
 have br:0<=uW a d y r l:=by unfold uW;split<;>grind
 have:0<=iE a d y r l:=by
  unfold iE;split;exact dU (by grind) g0;grind
 have gv1:iB a d y r l+iE a d y r l<=ba a y r.ta:=by
  unfold iE;split;have:=bh (ba a y r.ta-iB a d y r l)<|pN d;grind;grind
 have:0<=qv a d y r l:=lS (by grind) li
 have:qv a d y r l<=y:=by
  have z:=Yq (qM gv1 o1) li;have e:a.left*y*a.left⁻¹=y:=by grind
  rw[e]at z;exact z
 have sz0:0<=a.size-y:=by grind
 have p0:hZ (a.size-y)=a.size-y:=by unfold hZ;split<;>grind
 have:0<=roomQ a y:=by unfold roomQ;rw[p0];exact dU fi0<|lS sz0 ki
 have Ob:roomQ a y<=(a.size-y)*a.kept⁻¹:=by unfold roomQ;rw[p0];exact dn _ _
 have fq0:0<=nr a d y r l:=by unfold nr Ed;split<;>grind
 have:nr a d y r l<=(a.size-y)*a.kept⁻¹:=by
  unfold nr Ed;split;exact lS sz0 ki;exact Ob
 have:fy a d y r l<=nr a d y r l:=dn _ _;have:0<=fy a d y r l:=dU sr fq0;have:iG a d y r l<=nr a d y r l-fy a d y r l:=dn _ _;have:0<=iG a d y r l:=dU br (by grind);have:0<=a.kept*(0+fy a d y r l+iG a d y r l):=lS kp (by grind);have:a.kept*(0+fy a d y r l+iG a d y r l)<=a.kept*((a.size-y)*a.kept⁻¹):=MW (by grind) kp
 have:a.kept*((a.size-y)*a.kept⁻¹)=a.size-y:=by grind
 exact⟨c2.symm,sr,br,by grind,by grind,λH hy=>ud H<|G6 _ hy⟩
local macro_rules|`(tactic|walk_at "n")=>`(tactic|((try simp only[P0,L2.uP,L2.uO,L2.PV.du,L2.PV.Bi,An,Am,lW,iM,L3,EY,Nat.reduceAdd,Nat.reduceLeDiff,if_true,reduceIte,Law.fL]);rw[L2.mW];rw[L2.Be];right))
noncomputable def X0:Hr:=⟨0,0,J⟩
noncomputable def b0n(H:Hs)(d:Dq)(s:Rat×List Rat):Rat×List Rat:=(s.1+H.kept*d.fill-d.take,bQ (λu y=>u-y) s.2 d.done)
def R1(H:Hs)(k:List Rl)(n:Nat)(s:Rat×List Rat):Rl:=Qi k (n:Int) (H.hs.getD n X0) s.1
def F6(H:Hs)(k:List Rl)(n:Nat)(s:Rat×List Rat):Dq:=Y7 H (H.hs.getD n X0) s.1 (R1 H k n s)<|M7 H (n:Int) s.2 (R1 H k n s).wo
def E4(H:Hs)(k:List Rl):Nat->Rat×List Rat
 | 0=>((H.start:Rat),H.ws.map λw=>(w.N0:Rat))
 |n+1=>b0n H (F6 H k n<|E4 H k n)<|E4 H k n
def dN(H:Hs):Nat->Int
 | 0=>1
 |n+1=>H.kept.den*dB H (dN H n)
theorem Sz.a1X(h:Sz t M y)(h0:0<=y)(h1:y<=1000000):Sz t 2000000 y:=by
 have:=Rat.num_nonneg.mpr h0;have:y.num<=1000000*y.den:=by
  have:=(Ey y 1000000).mp h1
  simp_all
 exact⟨h.f.pos,h.f.low,h.f.dvd,by show(y.num.natAbs:Int)<=2000000*y.den;lia⟩
theorem pU.bt(h:pU y):Bt 4 y.num/\Bt 4 (y.den:Int)/\0<y.num/\0<(y.den:Int):=by have h1:=pH h.pos;have:=h.le;have:=h.den;have:=y.den_pos;exact⟨⟨by show y.num.natAbs<16;lia⟩,⟨by show((y.den:Int)).natAbs<16;exact bO B1 f7⟩,h1,R4⟩
theorem Bj{H:Hs}(hH:cj H):∀n,0<dN H n/\Bt (16*n+1) (dN H n)
 | 0=>⟨by show 0<1;decide,⟨by show(1:Int).natAbs<2;decide⟩⟩
 |n+1=>by obtain⟨p,b⟩:=Bj hH n;obtain⟨l1,l2,l3,l4⟩:=hH.left.bt;obtain⟨k1,k2,k3,k4⟩:=hH.kept.bt;refine⟨ao k4<|ao (ao (ao l4 p) l3) k3,?_⟩;exact(k2.mul<|((l2.mul b).mul l1).mul k1).mono A3
theorem xV(hH:cj a){n:Nat}(hn:n<=24):jZ (dN a n)/\jZ (dN a n*a.kept.num)/\jZ (dA a<|dN a n)/\jZ (dB a<|dN a n):=by obtain⟨p,b⟩:=Bj hH n;obtain⟨l1,l2,l3,l4⟩:=hH.left.bt;obtain⟨k1,k2,k3,k4⟩:=hH.kept.bt;exact⟨⟨p,b.mono A3⟩,⟨ao p k3,(b.mul k1).mono A3⟩,⟨ao l4 p,(l2.mul b).mono A3⟩,⟨ao (ao (ao l4 p) l3) k3,(((l2.mul b).mul l1).mul k1).mono A3⟩⟩
structure Lv(H:Hs)(D:Int)(s:Rat×List Rat):Prop where
 zl:Sz D 2000000 s.1
 l0:0<=s.1
 l1:s.1<=(H.size:Rat)
 ul:s.2.length=H.ws.length
 zu:∀u∈s.2,Sz D 2000000 u/\0<=u/\u<=1000000
theorem KD(h:M<=b):(M:Rat)<=(b:Rat):=by exact_mod_cast h
theorem NJ(hw:RE M Q)(hn:M<=24)(ht:0<=t)(hu:Sz b 2000000 u)(u0:0<=u):Sz b (2^31) (mw Q t u X)/\0<=mw Q t u X/\mw Q t u X<=u:=by
 have hm:=hw.most;have zm:Sz b 1000000 Q.most:=Sz.int G0;have m0:=cT hm.1;unfold mw;by_cases c:t<Q.first\/Q.last<t;rw[A6 c];exact⟨Sz.zero f7,by grind,u0⟩
 rw[B2 c];have zl:Sz b 100000000<|((Q.most*(Q.last-t)):Int):=Sz.int<|OK hw hn ht G0;have:(0:Rat)<=(((Q.most*(Q.last-t)):Int)):=cT<|zX hm.1 G0;cases X with
 |true=>
  have p0:0<=hZ (u-(((Q.most*(Q.last-t)):Int))):=by unfold hZ;split<;>grind
  have p1:hZ (u-(((Q.most*(Q.last-t)):Int)))<=u:=by unfold hZ;split<;>grind
  exact⟨((hu.sub zl).hZ.mn zm).mono (W6 _) f7,dU p0 m0,qM (bh _ _) p1⟩
 |false=>
  exact⟨(hu.mn zm).mono (W6 _) f7,dU u0 m0,bh _ _⟩
theorem vI{n:Nat}(hH:cj a)(hn:n<a.hs.length)(hs:Lv a (dN a n) s):
  (∀x∈M7 a (n:Int) s.2 (R1 a c n s).wo,0<=x)/\MZ a (a.hs.getD n X0) (dN a n) s.1 (R1 a c n s) (M7 a (n:Int) s.2 (R1 a c n s).wo)/\Gf a (a.hs.getD n X0) s.1 (R1 a c n s) (M7 a (n:Int) s.2 (R1 a c n s).wo):=by
 have:=hH.hl;obtain⟨d1,d2,d3,d4⟩:=xV hH (n:=n) A3;have hh:AB<|a.hs.getD n X0:=hH.hs _ (by rw[mi,Y2 hn];exact jS _)
 have wo:∀x∈M7 a n s.2 (R1 a c n s).wo,Sz (dN a n) (2^31) x/\0<=x:=λx hx=>by unfold M7 at hx;obtain⟨i,hi,rfl⟩:=Xa hx;rw[iP]at hi;rw[Xq];obtain⟨z1,z2,z3⟩:=hs.zu _<|jS (A3:i<s.2.length);obtain⟨H,b,_⟩:=NJ (t:=n) (hH.ws _<|jS (A3:i<a.ws.length)) A3 R4 z1 z2;exact⟨H,b⟩
 refine⟨λx hx=>(wo x hx).2,a5f hH hh d1 d2 d3 d4 hs.zl (λx hx=>(wo x hx).1) ?_,OS hH hh hs.l0 hs.l1 λx hx=>(wo x hx).2⟩;unfold M7;rw[iP];have:=hH.wl;lia
theorem xx{H:Hs}{k:List Rl}(hH:cj H):∀n,n<=H.hs.length->Lv H (dN H n) (E4 H k n)
 | 0,_=>by
  have hs:=hH.start;refine⟨Sz.int A3,cT hs.1,KD hH.full,by show(H.ws.map _).length=_;rw[F4],?_⟩;intro u hu;obtain⟨w,hw,rfl⟩:=mem_map.mp<|show u∈H.ws.map λw=>((w.N0:Int):Rat)from hu;have ha:=(hH.ws w hw).N0;exact⟨Sz.int A3,cT ha.1,qM (KD ha.2)<|by rfl⟩
 |n+1,hn=>by
  have ih:=xx (k:=k) hH n<|fY B1;obtain⟨w0,Z,N⟩:=vI hH (B1:n<H.hs.length) ih;have dvA:dA H (dN H n)∣dN H (n+1):=⟨H.kept.den*(H.left.num*H.kept.num),by show H.kept.den*(dA H (dN H n)*H.left.num*H.kept.num)=_;simp only[gW,jP]⟩;have dvB:dB H (dN H n)∣dN H (n+1):=⟨H.kept.den,by show H.kept.den*dB H (dN H n)=_;rw[Y9]⟩;have dvD:=wC ⟨H.left.den,by unfold dA;rw[Y9]⟩ dvA;have zf:Sz (dB H<|dN H n) (2^60) (F6 H k n<|E4 H k n).fill:=(((Sz.zero (M:=0) f7).add Z.f0).add Z.f1).mono (W6 _) f7;have l1:=N.hi;refine⟨Sz.a1X (M:=2^100) ?_ N.lo (qM l1<|qM (KD hH.size.2)<|by rfl),N.lo,l1,?_,?_⟩;exact(((ih.zl.mono dvD<|fV _).add<|(hH.kept.sz.mul zf).mono (W6 _)<|fV _).sub<|Z.tk.mono dvB<|fV _).mono (W6 _) f7
  . show(bQ (λu y=>u-y) (E4 H k n).2 (F6 H k n<|E4 H k n).done).length=_;rw[iP,ih.ul,show(F6 H k n<|E4 H k n).done=shr (M7 H n (E4 H k n).2 (R1 H k n<|E4 H k n).wo) _ from rfl,rZ];unfold M7;rw[iP,ih.ul]
    simp_all
  . intro u hu;obtain⟨i,hi,rfl⟩:=Xa (show u∈bQ (λu y=>u-y) (E4 H k n).2 (F6 H k n<|E4 H k n).done from hu)
    rw[iP]at hi;rw[Xq];obtain⟨z1,z2,z3⟩:=ih.zu _<|jS (A3:i<(E4 H k n).2.length);have:=ih.ul;have:=hH.hl;have ym:(F6 H k n<|E4 H k n).done[i]∈(F6 H k n<|E4 H k n).done:=jS _;have:=N.done _ ym;have wi:i<H.ws.length:=G0;have:(M7 H n (E4 H k n).2 (R1 H k n<|E4 H k n).wo).length=H.ws.length:=by unfold M7;rw[iP];simp_all
    have e1:(F6 H k n<|E4 H k n).done[i]=(F6 H k n<|E4 H k n).done.getD i 0:=by rw[mi,Y2 A3];rfl
    have e2:(M7 H n (E4 H k n).2 (R1 H k n<|E4 H k n).wo).getD i 0=mw (H.ws[i]) n ((E4 H k n).2[i]'R4) (R1 H k n<|E4 H k n).wo:=by unfold M7;simp[Au,wi,(V8:i<(E4 H k n).2.length)]
    obtain⟨_,_,w3⟩:=NJ (t:=n) (hH.ws _<|jS wi) A3 R4 z1 z2;have:(F6 H k n<|E4 H k n).done[i]<=(E4 H k n).2[i]'G0:=by
     rw[e1]
     erw [(Gp (M7 H n (E4 H k n).2 (R1 H k n<|E4 H k n).wo) (M5 H (H.hs.getD n X0) (E4 H k n).1 (R1 H k n<|E4 H k n)-mn (M9<|H.hs.getD n X0) (M5 H (H.hs.getD n X0) (E4 H k n).1<|R1 H k n<|E4 H k n)) i R4)]
     refine qM (bh _ _) ?_;rw[e2];exact w3
    refine⟨Sz.a1X (M:=2^100) (((z1.mono dvD<|fV _).sub<|(Z.met _<|G6 _ ym).mono dvA<|fV _).mono (W6 _) f7) (by grind) (by grind),by grind,by grind⟩
theorem getD_mem{l:List T}(a:T)(h:i<l.length):l.getD i a∈l:=by rw[mi,Y2 h];exact jS _
theorem Yw{β:Type}{f:T->f9}{g:β->f9}{l:List T}{m:List β}(a:T)(b:β)(hm:m.length=l.length):bQ (λx y=>bM [x,y]) (l.map f) (m.map g)=(Z4 l.length).map λi=>B4 [f<|l.getD i a,g<|m.getD i b]:=by
 apply Mi;simp[hm]
 . intro i h1 h2;have hl:i<l.length:=by simpa using h2
   simp[hl,(V8:i<m.length)]
theorem HX{β:Type}{f:T->f9}{g:β->f9}{l:List T}{m:List β}(a:T)(b:β){Fe:Ds->Option PV}{ds:Ds}{z:Nat->f9}(hm:m.length=l.length)(h:∀i,i<l.length->∃pv,Fe (sd (f<|l.getD i a)::sd (g<|m.getD i b)::ds)=U pv/\pv.d=z i):U7 (ke 2) M3 Fe ds (bQ (λx y=>bM [x,y]) (l.map f)<|m.map g)=U ((Z4 l.length).map z):=by
 rw[Yw a b hm];have key:∀r:List Nat,(∀i∈r,i<l.length)->U7 (ke 2) M3 Fe ds (r.map λi=>B4 [f<|l.getD i a,g<|m.getD i b])=U (r.map z):=by
  intro r;induction r with
  |nil=>intro _;rfl
  |cons i r ih=>
   intro hr;obtain⟨pv,e1,e2⟩:=h i<|hr i C9;show(((Fe (sd (f<|l.getD i a)::sd (g<|m.getD i b)::ds)).bind λy=>(U7 (ke 2) M3 Fe ds<|r.map λi=>B4 [f<|l.getD i a,g<|m.getD i b]).bind λl=>U (y.d::l)))=_;rw[e1,ih λj hj=>hr j<|by simp[hj]];simp only[P0,K3,e2]
 exact key _ λi hi=>mem_range.mp hi
theorem PK(h:l.length=a.ws.length):(M7 a t l X).map qd=(Z4 a.ws.length).map λi=>qd<|mw (a.ws.getD i rA) t (l.getD i 0) X:=by
 unfold M7;apply Mi;simp[h]
 . intro i h1 h2;have hl:i<a.ws.length:=by simpa using h2
   simp[hl,(V8:i<l.length)]
theorem Uz{b:List Rat}(h:b.length=l.length):(bQ (λu y=>u-y) l b).map qd=(Z4 l.length).map λi=>qd<|l.getD i 0-b.getD i 0:=by
 apply Mi;simp[h]
 . intro i h1 h2;have hl:i<l.length:=by simpa using h2
   simp[hl,(V8:i<b.length)]
def aU(H:Hs)(k:List Rl)(n:Nat):List f9:=(Z4 n).map λi=>iH<|F6 H k i<|E4 H k i
theorem xU{k:List Rl}{n:Nat}(h:s.2.length=a.ws.length):(F6 a k n s).done.length=s.2.length:=by
 show(shr (M7 a n s.2 (R1 a k n s).wo) _).length=_;rw[rZ];unfold M7
 simp_all
theorem OA{k:List Rl}{n:Nat}(hH:cj a)(hn:n<a.hs.length)(hs:Lv a (dN a n) s):
  RO s.1/\RO (F6 a k n s).fill/\RO (a.kept*(F6 a k n s).fill)/\RO (s.1+a.kept*(F6 a k n s).fill)/\RO (F6 a k n s).take/\(∀i,i<a.ws.length->RO (s.2.getD i 0)/\RO ((F6 a k n s).done.getD i 0)):=by
 obtain⟨w0,Z,N⟩:=vI hH hn hs;have:=hH.hl;obtain⟨d1,d2,d3,d4⟩:=xV hH (n:=n) A3;obtain⟨k1,k2,k3,k4⟩:=hH.kept.bt;have d5:jZ<|a.kept.den*dB a (dN a n):=⟨ao k4 d4.pos,((Bj hH<|n+1).2).mono A3⟩;have zf:Sz (dB a<|dN a n) (2^60) (F6 a k n s).fill:=(((Sz.zero (M:=0) f7).add Z.f0).add Z.f1).mono (W6 _) f7;have zk:=hH.kept.sz.mul zf;have dvD:dN a n∣a.kept.den*dB a (dN a n):=⟨a.kept.den*(a.left.den*(a.left.num*a.kept.num)),by unfold dB dA;simp only[gW,jP]⟩;refine⟨hs.zl.ok d1 f7,zf.ok d4 f7,zk.ok d5 f7,((hs.zl.mono dvD<|fV _).add zk).ok d5 f7,Z.tk.ok d4 f7,λi hi=>?_⟩;have ul:=hs.ul;have:=xU (k:=k) (n:=n) ul;exact⟨(hs.zu _<|getD_mem 0 R4).1.ok d1 f7,(Z.met _<|G6 _<|show(F6 a k n s).done.getD i 0∈(F6 a k n s).done from getD_mem 0 V8).ok Z.iC f7⟩
structure a1J(k:List Rl):Prop where
 rs:∀r∈k,a9b r
theorem TH(H:Hs)(k:List Rl)(n:Nat):aU H k (n+1)=aU H k n++[iH<|F6 H k n<|E4 H k n]:=by unfold aU;rw[VX,bN];rfl
theorem DH(d:Dq):J2 (iH d) (p6 2)=sd (qd d.fill):=rfl
theorem DG(d:Dq):J2 (iH d) (p6 3)=sd (qd d.take):=rfl
theorem Ky(d:Dq):J2 (iH d) (p6 5)=sd (B4<|d.done.map qd):=rfl
theorem a1m{k:List Rl}{n:Nat}(hH:cj a)(hk:a1J k)(hn:n<a.hs.length)(y8 y9 y10:Option PV):∃z8 z9 z10,
  rY [sd<|uR a,sd<|B4<|k.map Q5,sd<|mV a,sd<|qd (E4 a k n).1,sL<|(E4 a k n).2.map qd,U<|.own<|aU a k n,iD (n:Int),sd<|G3<|a.hs.getD n X0,y8,y9,y10] =
   U (.next [sd<|uR a,sd<|B4<|k.map Q5,sd<|mV a,sd<|qd (E4 a k<|n+1).1,sL<|(E4 a k<|n+1).2.map qd,U<|.own<|aU a k<|n+1,iD (n:Int),sd<|G3<|a.hs.getD n X0,z8,z9,z10]):=by
 have so:=xx (k:=k) hH n<|fY B1;obtain⟨w0,Z,N⟩:=vI hH hn so;obtain⟨n1,n2,n3,n4,n5,n6⟩:=OA hH hn so;have:=hH.hl;have:=hH.wl;have ul:=so.ul;have re:=a3H (t:=n) (h:=a.hs.getD n X0) n1 hk.rs;have de:=Ru hH Z;have dl:=xU (k:=k) (n:=n) ul;have:(aU a k n).length=n:=by unfold aU;rw[F4,oI]
 have cw:∀(x0 x1 x2 x3 x4 x5 x7 x9 x10),U7 (ke 2) M3 rT [x0,x1,x2,x3,x4,x5,iD n,x7,sd<|Q5<|R1 a k n<|E4 a k n,x9,x10] (bQ (λx y=>bM [x,y]) (a.ws.map P6)<|(E4 a k n).2.map qd)=U ((M7 a n (E4 a k n).2 (R1 a k n<|E4 a k n).wo).map qd):=λx0 x1 x2 x3 x4 x5 x7 x9 x10=>by
  rw[HX rA 0 ul λi hi=>?_,PK ul];refine⟨.dat<|qd<|mw (a.ws.getD i rA) n ((E4 a k n).2.getD i 0) (R1 a k n<|E4 a k n).wo,?_,rfl⟩;unfold rT;right;rw[(a8f<|R1 a k n<|E4 a k n)];right;exact a3i (hH.ws _<|getD_mem rA hi) A3 R4 Z.dD (so.zu _<|getD_mem 0 R4).1
 have cu:∀(x0 x1 x2 x3 x4 x5 x6 x7 x8 x9 x10),U7 (ke 2) M3 rS [x0,x1,x2,x3,x4,x5,x6,x7,x8,x9,x10] (bQ (λx y=>bM [x,y]) ((E4 a k n).2.map qd)<|(F6 a k n<|E4 a k n).done.map qd)=U ((E4 a k<|n+1).2.map qd):=λx0 x1 x2 x3 x4 x5 x6 x7 x8 x9 x10=>by
  rw[HX 0 0 dl λi hi=>?_,<-Uz dl];rfl;refine⟨.dat<|qd<|(E4 a k n).2.getD i 0-(F6 a k n<|E4 a k n).done.getD i 0,?_,rfl⟩;unfold rS;right;exact aL (n6 i R4).1 (n6 i R4).2
 have lv':(E4 a k<|n+1).1=(E4 a k n).1+a.kept*(F6 a k n<|E4 a k n).fill-(F6 a k n<|E4 a k n).take:=rfl;rw[TH,lv'];replace re:oN [B4<|k.map Q5,p6 n,G3<|a.hs.getD n X0,qd (E4 a k n).1]=sd (Q5<|R1 a k n<|E4 a k n):=re;replace de:oX [G3<|a.hs.getD n X0,mV a,qd (E4 a k n).1,Q5<|R1 a k n<|E4 a k n,B8<|(M7 a n (E4 a k n).2 (R1 a k n<|E4 a k n).wo).map qd]=sd (iH<|F6 a k n<|E4 a k n):=de;unfold rY;right;rw[re];right;rw[(Kv a)];right;rw[show nH [B4<|a.ws.map P6,B8<|(E4 a k n).2.map qd]=U (bQ (λx y=>bM [x,y]) (a.ws.map P6)<|(E4 a k n).2.map qd)from rfl];right;rw[A6 (by simp;lia),cw];right;rw[de];right;rw[aI _ rfl A3];right;rw[(Kr a),(DH<|F6 a k n<|E4 a k n)];right;rw[iU hH.kept.ok n2];right;rw[gI n1 n3,(DG<|F6 a k n<|E4 a k n)];right;rw[aL n4 n5];right;rw[(Ky<|F6 a k n<|E4 a k n)];right;rw[show nH [B8<|(E4 a k n).2.map qd,B4<|(F6 a k n<|E4 a k n).done.map qd]=U (bQ (λx y=>bM [x,y]) ((E4 a k n).2.map qd)<|(F6 a k n<|E4 a k n).done.map qd)from rfl];right;rw[A6 (by simp;lia),cu];exact⟨_,_,_,rfl⟩
theorem a8E(hH:cj a)(hk:a1J c):uE [uR a,B4<|c.map Q5]=sd (B4<|aU a c a.hs.length):=by
 have:=hH.wl;have c0:∀ds,U7 M0 M3 rV ds (a.ws.map P6)=U ((E4 a c 0).2.map qd):=λds=>by
  rw[comp_map (f:=λw=>qd w.N0)<|λw hw=>⟨.dat<|qd w.N0,by unfold rV;right;rw[Ko];right;rfl,rfl⟩];show _=U ((a.ws.map λw=>w.N0).map qd);rw[cX];rfl
 unfold uE;right;rw[(Kw a)];right;rw[(Kt a)];right;rw[(Kv a)];right;rw[A6 (by rw[F4];exact D6 B1 f7),c0]
 right;rw[(Kx a)];right;obtain⟨ds',e1,y6,y7,y8,y9,y10,rfl⟩:=xN (gt:=mJ 2<|aw 6<|aw 7 mK) (items:=cJ 0<|a.hs.map G3)
  (λn ds=>∃y6 y7 y8 y9 y10,ds=[sd<|uR a,sd<|B4<|c.map Q5,sd<|mV a,sd<|qd (E4 a c n).1,sL<|(E4 a c n).2.map qd,U<|.own<|aU a c n,y6,y7,y8,y9,y10])
  ⟨J,J,J,J,J,rfl⟩ (by
   rintro n d ds hd ⟨y6,y7,y8,y9,y10,rfl⟩;rw[CH,aK]at hd;have hn:n<a.hs.length:=by
    by_cases H:n<a.hs.length;exact H;rw[xc R4]at hd;cases hd
   rw[Y2 hn]at hd;have hg:a.hs.getD n X0=a.hs[n]:=by rw[mi,Y2 hn];rfl
   have hd':d=B4 [p6 n,G3<|a.hs.getD n X0]:=by rw[hg];simp only[lU,qV]at hd;rw[<-hd,LJ]
   subst hd';obtain⟨z8,z9,z10,e⟩:=a1m hH hk hn y8 y9 y10;exact⟨_,_,rfl,B3 e,_,_,_,_,_,rfl⟩)
 rw[Le,F4]at e1
 erw [e1]
 right
structure a2Y(H:Hs)(h:Hr)(lv:Rat)(r:Rl)(ws:List Rat):Prop where
 b2E:0<=(Y7 H h lv r ws).eO
 b2D:(Y7 H h lv r ws).eO<=fE h
 b2A:0<=(Y7 H h lv r ws).give
 b2z:(Y7 H h lv r ws).give<=pN h
 b2C:0<=(Y7 H h lv r ws).fill
 b2B:(Y7 H h lv r ws).fill<=(H.fill:Rat)
 b2v:0<=(Y7 H h lv r ws).take
 take1:(Y7 H h lv r ws).take<=(H.take:Rat)
 b2y:0<=(Y7 H h lv r ws).gn
 b2x:(Y7 H h lv r ws).gn<=M9 h
 both:¬(0<(Y7 H h lv r ws).fill/\0<(Y7 H h lv r ws).take)
 a9K:fz h-M9 h+(Y7 H h lv r ws).eO+(Y7 H h lv r ws).gn+H.left*(Y7 H h lv r ws).take-(Y7 H h lv r ws).give-(Y7 H h lv r ws).fill-aN (Y7 H h lv r ws).done 0=qx H h lv r ws-fy H h lv r ws-sO H h lv r ws
 lt:H.left*(Y7 H h lv r ws).take=iB H h lv r ws+iE H h lv r ws
 sp0:0<=qx H h lv r ws-fy H h lv r ws-sO H h lv r ws
 b2w:(Y7 H h lv r ws).gn≠0->(Y7 H h lv r ws).eO=fE h/\qx H h lv r ws-fy H h lv r ws-sO H h lv r ws=0/\(Y7 H h lv r ws).give=0/\(Y7 H h lv r ws).fill=0/\∀y∈(Y7 H h lv r ws).done,y=0
theorem Jm:∀(l:List Rat),(∀x∈l,0<=x)->∀y∈shr l 0,y=0
 | [],_,y,hy=>by cases hy
 |x::l,h,y,hy=>by
  have s:shr (x::l) 0=0::shr l 0:=by
   show mn x 0::shr l (0-mn x 0)=_;rw[(OB<|h x C9),show(0:Rat)-0=0 by grind]
  rw[s]at hy;rcases List.mem_cons.mp hy with rfl|hy
  rfl;exact Jm l (λz hz=>h z<|by simp[hz]) y hy
theorem Jc:∀(l:List Rat),(∀x∈l,x=0)->aN l 0=0
 | [],_=>rfl
 |x::l,h=>by
  show aN l (0+x)=0;rw[(h x<|by simp),show(0:Rat)+0=0 by grind];exact Jc l λy hy=>h y (by simp[hy])
theorem a8m{r:Rl}(hH:cj a)(hh:AB d)(l0:0<=y)(l1:y<=(a.size:Rat))(w0:∀x∈l,0<=x):a2Y a d y r l:=by
 obtain⟨q1,q2⟩:=GN hh;have N:=OS (r:=r) hH hh l0 l1 w0;have s0:0<=fz d:=cT hh.W0.1;have n0:0<=M9 d:=cT hh.need.1;have b0:0<=fE d:=cT q1.1;have g0:0<=pN d:=cT q2.1;have t0:(0:Rat)<=((a.take:Int):Rat):=cT hH.take.1;have fi0:(0:Rat)<=((a.fill:Int):Rat):=cT hH.fill.1;obtain⟨li,lm⟩:=DK hH.left.pos;obtain⟨ki,km⟩:=DK hH.kept.pos;have lp:=zQ hH.left.pos;have m0:0<=mn (a.take:Rat) y:=dU t0 l0;have o0:0<=ba a y r.ta:=by
  unfold ba;split;grind;exact lS lp m0
 have o1:ba a y r.ta<=a.left*(a.take:Rat):=by
  unfold ba;split;exact lS lp t0;exact MW (bh _ _) lp
 have r0:0<=M5 a d y r:=by unfold M5;grind
 have nw:∀x∈M9 d::l,0<=x:=λx hx=>by
  rcases List.mem_cons.mp hx with rfl|hx
  exact n0;exact w0 x hx
 obtain⟨ur,u0,ud⟩:=SG (M9 d::l) (M5 a d y r) r0 nw;have ur':mU a d y r l<=0+fz d+fE d+ba a y r.ta:=ur;have u0':0<=mU a d y r l:=u0;have a1:kF a d y r l<=fz d:=bh _ _;have a2:kF a d y r l<=mU a d y r l:=dn _ _;have a3:0<=kF a d y r l:=dU s0 u0';have b1:iB a d y r l<=ba a y r.ta:=bh _ _;have b2:iB a d y r l<=mU a d y r l-kF a d y r l:=dn _ _;have b3:0<=iB a d y r l:=dU o0 (by grind)
 have c2:=N.bo;have c3:sD a d y r l<=fE d:=bh _ _;have c4:0<=sD a d y r l:=by grind
 have sr:=N.sr;have br:=N.br;have br1:uW a d y r l<=fE d-sD a d y r l:=by unfold uW;split<;>grind
 have gv0:0<=iE a d y r l:=by
  unfold iE;split;exact dU (by grind) g0;grind
 have gv1:iB a d y r l+iE a d y r l<=ba a y r.ta:=by
  unfold iE;split;have:=bh (ba a y r.ta-iB a d y r l)<|pN d;grind;grind
 have gv2:iE a d y r l<=pN d:=by
  unfold iE;split;exact dn _ _;exact g0
 have tk0:0<=qv a d y r l:=lS (by grind) li
 have tk1:qv a d y r l<=(a.take:Rat):=by
  have z:qv a d y r l<=a.left*(a.take:Rat)*a.left⁻¹:=Yq (qM gv1 o1) li;have e:a.left*(a.take:Rat)*a.left⁻¹=(a.take:Rat):=by grind
  rw[e]at z;exact z
 have lt:a.left*qv a d y r l=iB a d y r l+iE a d y r l:=by unfold qv;grind
 have p0:hZ ((a.size:Rat)-y)=(a.size:Rat)-y:=by unfold hZ;split<;>grind
 have rm0:0<=roomQ a y:=by unfold roomQ;rw[p0];exact dU fi0 (lS (by grind) ki)
 have Ob:roomQ a y<=(a.fill:Rat):=by unfold roomQ;exact bh _ _
 have fq0:0<=nr a d y r l:=by unfold nr Ed;split<;>grind
 have fq1:nr a d y r l<=(a.fill:Rat):=by unfold nr Ed;split<;>grind
 have fq2:qv a d y r l≠0->nr a d y r l=0:=λz=>by unfold nr Ed;rw[A6<|.inr z]
 have d0:fy a d y r l<=qx a d y r l:=bh _ _;have d1:fy a d y r l<=nr a d y r l:=dn _ _;have d2:0<=fy a d y r l:=dU sr fq0;have d3:iG a d y r l<=nr a d y r l-fy a d y r l:=dn _ _;have:0<=iG a d y r l:=dU br (by grind);have:iG a d y r l<=uW a d y r l:=bh _ _;have:0<=sO a d y r l:=dU (by grind) (by grind)
 have:sO a d y r l<=qx a d y r l-fy a d y r l:=bh _ _;have:sO a d y r l<=pN d-iE a d y r l:=dn _ _;have:mn (M9 d) (M5 a d y r)<=M9 d:=bh _ _;have:=dU n0 r0;have us:mU a d y r l=mn (M9 d) (M5 a d y r)+aN (shr l<|M5 a d y r-mn (M9 d) (M5 a d y r)) 0:=by
  show aN (shr l<|M5 a d y r-mn (M9 d) (M5 a d y r)) (0+mn (M9 d) (M5 a d y r))=_;rw[pz];grind
 have:qx a d y r l=fz d-kF a d y r l:=rfl;refine⟨?_,?_,?_,?_,?_,?_,tk0,tk1,?_,?_,?_,?_,lt,by grind,?_⟩;show 0<=sD a d y r l+iG a d y r l;grind;show sD a d y r l+iG a d y r l<=fE d;grind;show 0<=iE a d y r l+sO a d y r l;grind;show iE a d y r l+sO a d y r l<=pN d;grind;show 0<=0+fy a d y r l+iG a d y r l;grind;show 0+fy a d y r l+iG a d y r l<=a.fill;grind;show 0<=M9 d-mn (M9 d) (M5 a d y r);grind;show M9 d-mn (M9 d) (M5 a d y r)<=M9 d;grind
 . show ¬(0<0+fy a d y r l+iG a d y r l/\0<qv a d y r l);rintro⟨z1,z2⟩;grind
 . show fz d-M9 d+(sD a d y r l+iG a d y r l)+(M9 d-mn (M9 d) (M5 a d y r))+a.left*qv a d y r l-(iE a d y r l+sO a d y r l)-(0+fy a d y r l+iG a d y r l)-aN (shr l<|M5 a d y r-mn (M9 d) (M5 a d y r)) 0=_;rw[lt];grind
 . intro hl;have hl':M9 d-mn (M9 d) (M5 a d y r)≠0:=hl;have me:mn (M9 d) (M5 a d y r)=M5 a d y r:=by
    unfold mn at hl' |-;split at hl';exact absurd (by grind) hl';rename_i c;rw[B2 c]
   have rz:M5 a d y r-mn (M9 d) (M5 a d y r)=0:=by rw[me];grind
   have dz:∀H∈shr l (M5 a d y r-mn (M9 d) (M5 a d y r)),H=0:=by rw[rz];exact Jm l w0
   have:mU a d y r l=0+fz d+fE d+ba a y r.ta:=by rw[us,Jc _ dz,me];show M5 a d y r+0=M5 a d y r;grind
   refine⟨?_,by grind,?_,?_,dz⟩;show sD a d y r l+iG a d y r l=fE d;grind;show iE a d y r l+sO a d y r l=0;grind;show 0+fy a d y r l+iG a d y r l=0;grind
theorem a8B{und:List Rat}(hH:cj a)(hu:und.length=a.ws.length)(N:Gf a d y Z<|M7 a t und Z.wo)(hj:m<a.ws.length)(u0:∀u∈und,0<=u):
  0<=(Y7 a d y Z<|M7 a t und Z.wo).done.getD m 0/\(Y7 a d y Z<|M7 a t und Z.wo).done.getD m 0<=(if (a.ws.getD m rA).first<=t/\t<=(a.ws.getD m rA).last then((a.ws.getD m rA).most:Rat)else 0):=by
 have wl:(M7 a t und Z.wo).length=a.ws.length:=by unfold M7;simp[hu]
 have:(Y7 a d y Z<|M7 a t und Z.wo).done.length=a.ws.length:=by
  show(shr (M7 a t und Z.wo) _).length=_;rw[rZ,wl]
 refine⟨N.done _<|getD_mem (l:=(Y7 a d y Z<|M7 a t und Z.wo).done) 0 R4,?_⟩
 erw [(Gp (M7 a t und Z.wo) (M5 a d y Z-mn (M9 d) (M5 a d y Z)) m R4)]
 refine qM (bh _ _) ?_;have e2:(M7 a t und Z.wo).getD m 0=mw (a.ws.getD m rA) t (und.getD m 0) Z.wo:=by unfold M7;simp[Au,hj,(V8:m<und.length)]
 rw[e2];unfold mw;by_cases c:t<(a.ws.getD m rA).first\/(a.ws.getD m rA).last<t
 . rw[A6 c];split;exact(cT (hH.ws _<|getD_mem rA hj).most.1);rfl
 . rw[B2 c,A6<|show(a.ws.getD m rA).first<=t/\t<=(a.ws.getD m rA).last from⟨R4,R4⟩];exact dn _ _
noncomputable def GC:List Rat->Rat->Rat
 | [],z=>z
 |x::l,z=>GC l<|z-x
theorem JY:∀(l:List Rat) (z:Rat),GC l z=z-aN l 0
 | [],z=>by show z=z-0;grind
 |x::l,z=>by
  show GC l (z-x)=z-aN l (0+x);rw[JY l<|z-x,pz l<|0+x];grind
def Lz:List Rat->Rat->Prop
 | [],z=>RO z
 |x::l,z=>RO z/\RO x/\Lz l (z-x)
theorem a2u(hD:jZ M):∀(l:List Rat) (Z:Int) (z:Rat),(∀x∈l,Sz M t x)->Sz M Z z->0<=t->Z+l.length*t<=2^190->Lz l z/\Sz M (Z+l.length*t) (GC l z):=by
 intro l_;induction l_ with
 |nil=>
  intro Z z _ hz _ hb;exact⟨hz.ok hD (by simp at hb;exact O0 B1 f7),by
  have e:Z+(([]:List Rat).length)*t=Z:=by simp
  rw[e];exact hz⟩
 |cons x l ih_=>
  intro Z z hl hz hX hb;have hx:=hl x C9;have e:Z+((x::l).length)*t=Z+t+l.length*t:=by rw[L3];push_cast;rw[EB];lia
  rw[e]at hb|-;have:0<=l.length*t:=zX R4 hX;obtain⟨h1,h2⟩:=ih_ (Z+t) (z-x) (λy hy=>hl y<|by simp[hy]) (hz.sub hx) hX hb;have:=hz.m0;exact⟨⟨hz.ok hD A3,hx.ok hD A3,h1⟩,h2⟩
theorem Hy:∀(l:List Rat) (z:Rat) (a b c y:Option PV),rL l z->∃y',O9 (K5 4) pe (l.map qd) [a,b,c,sd<|qd z,y]=U (.next [a,b,c,sd<|qd<|aN l z,y'])
 | [],z,a,b,c,y,_=>⟨y,rfl⟩
 |x::l,z,a,b,c,y,h=>by obtain⟨h1,h2,h3⟩:=h;obtain⟨y',e⟩:=Hy l (z+x) a b c (sd<|qd x) h3;refine⟨y',?_⟩;unfold O9 pe;right;rw[gI h1 h2];right;exact e
theorem QR:∀(l:List Rat) (z:Rat) (a b c y:Option PV),Lz l z->∃y',O9 (K5 4) pa (l.map qd) [a,b,c,sd<|qd z,y]=U (.next [a,b,c,sd<|qd<|GC l z,y']):=by
 intro l_;induction l_ with
 |nil=>
  intro z a b c y _;exact⟨y,rfl⟩
 |cons x l ih_=>
  intro z a b c y h;obtain⟨h1,h2,h3⟩:=h;obtain⟨y',e⟩:=ih_ (z-x) a b c (sd<|qd x) h3;refine⟨y',?_⟩;unfold O9 pa;right;rw[aL h1 h2];right;exact e
def vJ(H:Hs)(h:Hr)(d:Dq):Rat:=GC (d.give::d.fill::d.done)<|aN [d.eO,d.gn,H.left*d.take] (((h.W0-h.need:Int)):Rat)
noncomputable def QV(H:Hs)(d:Dq):Rat:=(d.fill-H.kept*d.fill)+(d.take-H.left*d.take)
structure a8Z(H:Hs)(h:Hr)(d:Dq):Prop where
 lf:RO H.left
 tk:RO d.take
 t:rL [d.eO,d.gn,H.left*d.take] (((h.W0-h.need:Int)):Rat)
 m:Lz (d.give::d.fill::d.done)<|aN [d.eO,d.gn,H.left*d.take] (((h.W0-h.need:Int)):Rat)
 dl:d.done.length<=6
theorem Va(d:Dq):J2 (iH d) (p6 0)=sd (qd d.eO):=rfl
theorem UZ(d:Dq):J2 (iH d) (p6 1)=sd (qd d.give):=rfl
theorem UY(d:Dq):J2 (iH d) (p6 4)=sd (qd d.gn):=rfl
theorem YX(H:a8Z a d S):rO [G3 d,iH S,qd a.left]=sd (qd<|vJ a d S):=by
 have:=H.dl;unfold rO;right;rw[(Cu d),(Ct d)];right;rw[(Va S),(UY S),(DG S)];right;rw[iU H.lf H.tk];right;obtain⟨y,e⟩:=Hy [S.eO,S.gn,a.left*S.take] (((d.W0-d.need:Int))) (sd<|G3 d) (sd<|iH S) (sd<|qd a.left) J H.t
 erw [e]
 right;rw[(UZ S),(DH S),(Ky S)];right;rw[tL (by simp;lia)];right;obtain⟨y',e'⟩:=QR (S.give::S.fill::S.done) (aN [S.eO,S.gn,a.left*S.take]<|((d.W0-d.need:Int))) (sd<|G3 d) (sd<|iH S) (sd<|qd a.left) y H.m
 erw [e']
 right;rfl
structure a9k(H:Hs)(k:List Rl)(n:Nat):Prop where
 so:Lv H (dN H n)<|E4 H k n
 so':Lv H (dN H<|n+1)<|E4 H k<|n+1
 N:Gf H (H.hs.getD n X0) (E4 H k n).1 (R1 H k n<|E4 H k n)<|M7 H (n:Int) (E4 H k n).2 (R1 H k n<|E4 H k n).wo
 B:a2Y H (H.hs.getD n X0) (E4 H k n).1 (R1 H k n<|E4 H k n)<|M7 H (n:Int) (E4 H k n).2 (R1 H k n<|E4 H k n).wo
 sp:a8Z H (H.hs.getD n X0)<|F6 H k n<|E4 H k n
 se:vJ H (H.hs.getD n X0) (F6 H k n<|E4 H k n)=qx H (H.hs.getD n X0) (E4 H k n).1 (R1 H k n<|E4 H k n) (M7 H (n:Int) (E4 H k n).2 (R1 H k n<|E4 H k n).wo)-fy H (H.hs.getD n X0) (E4 H k n).1 (R1 H k n<|E4 H k n) (M7 H (n:Int) (E4 H k n).2 (R1 H k n<|E4 H k n).wo)-sO H (H.hs.getD n X0) (E4 H k n).1 (R1 H k n<|E4 H k n) (M7 H (n:Int) (E4 H k n).2 (R1 H k n<|E4 H k n).wo)
 oks:RO<|vJ H (H.hs.getD n X0)<|F6 H k n<|E4 H k n
 okb:RO (F6 H k n<|E4 H k n).eO
 okg:RO (F6 H k n<|E4 H k n).give
 okf:RO (F6 H k n<|E4 H k n).fill
 okt:RO (F6 H k n<|E4 H k n).take
 okl:RO (F6 H k n<|E4 H k n).gn
 okv:RO (E4 H k<|n+1).1
 kf:RO<|H.kept*(F6 H k n<|E4 H k n).fill
 lk:RO (E4 H k n).1
 lkf:RO<|(E4 H k n).1+H.kept*(F6 H k n<|E4 H k n).fill
 lt:RO<|H.left*(F6 H k n<|E4 H k n).take
 l1:RO<|(F6 H k n<|E4 H k n).fill-H.kept*(F6 H k n<|E4 H k n).fill
 l2:RO<|(F6 H k n<|E4 H k n).take-H.left*(F6 H k n<|E4 H k n).take
 okd:∀j,j<H.ws.length->RO ((E4 H k n).2.getD j 0)/\RO ((F6 H k n<|E4 H k n).done.getD j 0)
 db:∀j,j<H.ws.length->0<=(F6 H k n<|E4 H k n).done.getD j 0/\(F6 H k n<|E4 H k n).done.getD j 0<=(if (H.ws.getD j rA).first<=(n:Int)/\(n:Int)<=(H.ws.getD j rA).last then((H.ws.getD j rA).most:Rat)else 0)
 dl:(F6 H k n<|E4 H k n).done.length=H.ws.length
theorem b0E{k:List Rl}{n:Nat}(hH:cj a)(hn:n<a.hs.length):a9k a k n:=by
 have so:=xx (k:=k) hH n<|fY B1;have so':=xx (k:=k) hH (n+1) B1;obtain⟨w0,Z,N⟩:=vI hH hn so;obtain⟨n1,n2,n3,n4,n5,n6⟩:=OA hH hn so;have:=hH.hl;have:=hH.wl;have hh:=hH.hs _<|getD_mem X0 hn;have B:=a8m (r:=R1 a k n<|E4 a k n) hH hh so.l0 so.l1 w0;have dl:(F6 a k n<|E4 a k n).done.length=a.ws.length:=by rw[xU so.ul,so.ul]
 obtain⟨d1,d2,d3,d4⟩:=xV hH (n:=n) A3;obtain⟨k1,k2,k3,k4⟩:=hH.kept.bt;have d5:jZ<|a.kept.den*dB a (dN a n):=⟨ao k4 d4.pos,((Bj hH<|n+1).2).mono A3⟩;have dvB:dA a (dN a n)∣dB a (dN a n):=⟨a.left.num*a.kept.num,by unfold dB;rw[jP]⟩;have dvC:dB a (dN a n)∣a.kept.den*dB a (dN a n):=⟨a.kept.den,by rw[Y9]⟩
 have zb:Sz (dB a<|dN a n) (2^60) (F6 a k n<|E4 a k n).eO:=((Z.u2.mono dvB<|fV _).add Z.f1).mono (W6 _) f7;have zg:Sz (dB a<|dN a n) (2^60) (F6 a k n<|E4 a k n).give:=((Z.gv.mono dvB<|fV _).add Z.sg).mono (W6 _) f7;have zf:Sz (dB a<|dN a n) (2^60) (F6 a k n<|E4 a k n).fill:=(((Sz.zero (M:=0) f7).add Z.f0).add Z.f1).mono (W6 _) f7;have zt:Sz (dB a<|dN a n) (2^60) (F6 a k n<|E4 a k n).take:=Z.tk.mono (W6 _) f7;have zl:Sz (dB a<|dN a n) (2^60) (F6 a k n<|E4 a k n).gn:=(Z.need.sub<|Z.need.mn Z.reach).mono dvB f7;have zlt:Sz (dB a<|dN a n) (2^60)<|a.left*(F6 a k n<|E4 a k n).take:=by have e:a.left*(F6 a k n<|E4 a k n).take=_:=B.lt;rw[e];exact(Z.u1.add Z.gv).mono dvB f7
 have:=hh.W0;have:=hh.need;have z0:Sz (dB a<|dN a n) (2^60)<|(((a.hs.getD n X0).W0-(a.hs.getD n X0).need:Int)):=Sz.int (by lia)
 have tt:=vE d4 [(F6 a k n<|E4 a k n).eO,(F6 a k n<|E4 a k n).gn,a.left*(F6 a k n<|E4 a k n).take] (2^60) ((((a.hs.getD n X0).W0-(a.hs.getD n X0).need:Int))) (λx hx=>by
  simp only[Q7,U1,V4]at hx;rcases hx with rfl|rfl|rfl
  exact zb;exact zl
  . exact zlt) z0 f7 (by show 2^60+3*2^60<=2^190;decide)
 have:((F6 a k n<|E4 a k n).give::(F6 a k n<|E4 a k n).fill::(F6 a k n<|E4 a k n).done).length<=8:=by rw[L3,L3];simp_all
 have mt:=a2u d4 ((F6 a k n<|E4 a k n).give::(F6 a k n<|E4 a k n).fill::(F6 a k n<|E4 a k n).done) (2^62) _ (λx hx=>by
  rcases List.mem_cons.mp hx with rfl|hx
  exact zg
  rcases List.mem_cons.mp hx with rfl|hx
  exact zf
  . exact(Z.met _<|G6 _ hx).mono dvB f7) (tt.2.mono (W6 _) (by show 2^60+3*2^60<=2^62;decide)) f7 (by lia)
 have se:vJ a (a.hs.getD n X0) (F6 a k n<|E4 a k n)=qx a (a.hs.getD n X0) (E4 a k n).1 (R1 a k n<|E4 a k n) (M7 a n (E4 a k n).2 (R1 a k n<|E4 a k n).wo)-fy a (a.hs.getD n X0) (E4 a k n).1 (R1 a k n<|E4 a k n) (M7 a n (E4 a k n).2 (R1 a k n<|E4 a k n).wo)-sO a (a.hs.getD n X0) (E4 a k n).1 (R1 a k n<|E4 a k n) (M7 a n (E4 a k n).2 (R1 a k n<|E4 a k n).wo):=by
  unfold vJ;rw[JY];refine zE ?_ B.a9K;show((((a.hs.getD n X0).W0-(a.hs.getD n X0).need:Int)))+(F6 a k n<|E4 a k n).eO+(F6 a k n<|E4 a k n).gn+a.left*(F6 a k n<|E4 a k n).take-aN (F6 a k n<|E4 a k n).done (0+(F6 a k n<|E4 a k n).give+(F6 a k n<|E4 a k n).fill)=fz (a.hs.getD n X0)-M9 (a.hs.getD n X0)+(F6 a k n<|E4 a k n).eO+(F6 a k n<|E4 a k n).gn+a.left*(F6 a k n<|E4 a k n).take-(F6 a k n<|E4 a k n).give-(F6 a k n<|E4 a k n).fill-aN (F6 a k n<|E4 a k n).done 0;rw[pz,Rat.intCast_sub];unfold fz M9;grind
 exact⟨so,so',N,B,⟨hH.left.ok,zt.ok d4 f7,tt.1,mt.1,R4⟩,se,(by rw[se];exact((Z.sr.sub Z.f0).sub Z.sg).ok d4 f7),zb.ok d4 f7,zg.ok d4 f7,zf.ok d4 f7,zt.ok d4 f7,zl.ok d4 f7,so'.zl.ok (xV hH<|D6 B1 B1).1 f7,n3,n1,n4,zlt.ok d4 f7,
  ((zf.mono dvC<|fV _).sub<|hH.kept.sz.mul zf).ok d5 f7,(zt.sub zlt).ok d4 f7,n6,λj hj=>a8B hH so.ul N hj<|λu hu=>(so.zu u hu).2.1,dl⟩
def GU(H:Hs)(k:List Rl)(n:Nat):f9:=B4 [qd<|vJ H (H.hs.getD n X0)<|F6 H k n<|E4 H k n,qd<|QV H<|F6 H k n<|E4 H k n,qd (E4 H k<|n+1).1]
def jh(H:Hs)(k:List Rl)(n:Nat):List f9:=(Z4 n).map<|GU H k
theorem Vw(H:Hs)(k:List Rl)(n:Nat):jh H k (n+1)=jh H k n++[GU H k n]:=by unfold jh;rw[VX,bN];rfl
theorem JI(h:i<m):(aU a c m)[i]?=U (iH<|F6 a c i<|E4 a c i):=by unfold aU;rw[aK,Mz h];rfl
theorem JH(H:Hs)(k:List Rl)(m:Nat):(aU H k m).length=m:=by unfold aU;rw[F4,oI]
theorem a4U(hH:cj a)(D:a9k a c m):uZ [iH<|F6 a c m<|E4 a c m,qd a.kept,qd a.left]=sd (qd<|QV a<|F6 a c m<|E4 a c m):=by unfold uZ QV;right;rw[(DH<|F6 a c m<|E4 a c m)];right;rw[iU hH.kept.ok D.okf];right;rw[aL D.okf D.kf];right;rw[(DG<|F6 a c m<|E4 a c m)];right;rw[iU hH.left.ok D.okt];right;rw[aL D.okt D.lt];right;rw[gI D.l1 D.l2];rfl
theorem Ny{k:List Rl}(hH:cj a)(hn:m<a.hs.length)(x0 x1 x2:Option PV):
  rW [x0,x1,x2,sd<|qd a.kept,sd<|qd a.left,sd<|qd (E4 a k m).1,U<|.own<|jh a k m,sd<|G3<|a.hs.getD m X0,sd<|iH<|F6 a k m<|E4 a k m] =
   U (.next [x0,x1,x2,sd<|qd a.kept,sd<|qd a.left,sd<|qd (E4 a k<|m+1).1,U<|.own<|jh a k<|m+1,sd<|G3<|a.hs.getD m X0,sd<|iH<|F6 a k m<|E4 a k m]):=by
 have D:=b0E (k:=k) hH hn;have:=hH.hl;have:(jh a k m).length=m:=by unfold jh;rw[F4,oI]
 have lv':(E4 a k<|m+1).1=(E4 a k m).1+a.kept*(F6 a k m<|E4 a k m).fill-(F6 a k m<|E4 a k m).take:=rfl;rw[Vw,GU,lv'];unfold rW;right;rw[(DH<|F6 a k m<|E4 a k m)];right;rw[iU hH.kept.ok D.okf];right;rw[gI D.lk D.kf,(DG<|F6 a k m<|E4 a k m)];right;rw[aL D.lkf D.okt];right;rw[(YX D.sp),(a4U hH D)];right;rw[aI _ rfl A3];rfl
theorem UL{k:List Rl}(hH:cj a):ye [uR a,B4<|aU a k a.hs.length]=U (.own<|jh a k a.hs.length):=by
 unfold ye;right;rw[(Kw a)];right;rw[(Kr a)];right;rw[(Kq a)];right;rw[(Kt a)];right;rw[(Kx a)];right;rw[show nH [B4<|a.hs.map G3,B4<|aU a k a.hs.length]=U (bQ (λx y=>bM [x,y]) (a.hs.map G3)<|aU a k a.hs.length)from rfl]
 right;obtain⟨ds',e1,y7,y8,rfl⟩:=xN (gt:=mJ 2<|aw 7<|aw 8 mK) (items:=bQ (λx y=>bM [x,y]) (a.hs.map G3)<|aU a k a.hs.length)
  (λn ds=>∃y7 y8,ds=[sd<|uR a,sd<|B4<|aU a k a.hs.length,sd<|mV a,sd<|qd a.kept,sd<|qd a.left,sd<|qd (E4 a k n).1,U<|.own<|jh a k n,y7,y8])
  ⟨J,J,rfl⟩ (by
   rintro n d ds hd ⟨y7,y8,rfl⟩;have hn:n<a.hs.length:=by
    by_cases c:n<a.hs.length;exact c;rw[xc (by rw[iP,F4];lia)]at hd;cases hd
   rw[Au,aK,Y2 hn,JI hn]at hd;have hg:a.hs.getD n X0=a.hs[n]:=by rw[mi,Y2 hn];rfl
   have hd':d=B4 [G3<|a.hs.getD n X0,iH<|F6 a k n<|E4 a k n]:=by rw[hg];simp only[lU,qV]at hd;exact hd.symm
   subst hd';exact⟨_,_,rfl,B3<|Ny hH hn _ _ _,_,_,rfl⟩)
 rw[iP,F4,JH,Nat.min_self]at e1
 erw [e1]
 right
theorem a5t(H:Hs)(n:Nat):dN H n∣dN H (n+1):=⟨H.kept.den*H.left.den*H.left.num*H.kept.num,by
 show H.kept.den*(H.left.den*dN H n*H.left.num*H.kept.num)=_
 grind⟩
theorem a8I(H:Hs)(h:i<=m):dN H i∣dN H m:=by
 induction h with
 |refl=>exact W6 _
 |step _ ih=>exact wC ih<|a5t H _
abbrev cU(H:Hs)(k:List Rl)(n:Nat):Dq:=F6 H k n<|E4 H k n
structure b1S(H:Hs)(k:List Rl)(n:Nat)(D:Int):Prop where
 b:Sz D (2^60) (cU H k n).eO
 g:Sz D (2^60) (cU H k n).give
 l:Sz D (2^60) (cU H k n).gn
 f:Sz D (2^60) (cU H k n).fill
 t:Sz D (2^60) (cU H k n).take
 d:∀x∈(cU H k n).done,Sz D (2^60) x
 dl:(cU H k n).done.length=H.ws.length
theorem a2L{k:List Rl}(hH:cj a)(hn:i<a.hs.length)(hm:i<m):b1S a k i<|dN a m:=by
 have so:=xx (k:=k) hH i<|fY B1;obtain⟨w0,Z,N⟩:=vI hH hn so;have dvB:dA a (dN a i)∣dB a (dN a i):=⟨a.left.num*a.kept.num,by unfold dB;rw[jP]⟩;have dvC:=wC ⟨a.kept.den,by rw[Y9];rfl⟩<|a8I a<|show i+1<=m from hm;have dvA:=wC dvB dvC;exact⟨((Z.u2.mono dvB<|fV _).add Z.f1).mono dvC f7,((Z.gv.mono dvB<|fV _).add Z.sg).mono dvC f7,(Z.need.sub<|Z.need.mn Z.reach).mono dvA f7,(((Sz.zero (M:=0) f7).add Z.f0).add Z.f1).mono dvC f7,Z.tk.mono dvC f7,λx hx=>(Z.met x<|G6 _ hx).mono dvA f7,by rw[xU so.ul,so.ul]⟩
noncomputable def BO(h:Hr)(d:Dq):Rat:=match h.line with
 |none=>0
 |some l=>(l.1:Rat)*d.eO-(l.2.2.1:Rat)*d.give
def OJ(H:Hs)(k:List Rl):Nat->Rat
 | 0=>0
 |n+1=>OJ H k n+(cU H k n).gn
noncomputable def VN(H:Hs):Int:=(H.ws.map λw=>w.N0).sum
def Bv(H:Hs)(k:List Rl):Nat->Rat
 | 0=>(VN H:Rat)
 |n+1=>Bv H k n-aN (cU H k n).done 0
def uU(H:Hs)(k:List Rl):Nat->Rat
 | 0=>0
 |n+1=>uU H k n+BO (H.hs.getD n X0) (cU H k n)
theorem AO(h:Eo b)(z:Sz t M y):Sz t (1000000*M)<|(b:Rat)*y:=by
 have a:Sz 1 1000000 b:=Sz.int G0;have D:=a.mul z
 rwa [Int.one_mul]at D
theorem a2M(hh:AB d)(b:Sz M (2^60) S.eO)(g:Sz M (2^60) S.give):Sz M (2^85)<|BO d S:=by
 unfold BO;cases e:d.line with
 |none=>exact Sz.zero f7
 |some l=>
  obtain⟨a1,a2,a3,a4⟩:=l;have L:=hh.line a1 a2 a3 a4 e;exact((AO L.1 b).sub<|AO L.2.2.1 g).mono (W6 _) f7
structure b1Q(H:Hs)(k:List Rl)(n:Nat)(D:Int):Prop where
 l:Sz D (((n:Int)+1)*1237940039285380274899124224)<|OJ H k n
 u:Sz D (((n:Int)+1)*1237940039285380274899124224)<|Bv H k n
 c:Sz D (((n:Int)+1)*1237940039285380274899124224)<|uU H k n
theorem a6n{l:List Int}(h:∀x∈l,0<=x/\x<=M):0<=l.sum/\l.sum<=l.length*M:=by
 induction l with
 |nil=>simp
 |cons x l ih=>
  have:=h x C9;have:=ih λy hy=>h y (by simp[hy]);rw[EM,L3];refine⟨A3,?_⟩;lia
theorem b0O(hH:cj a):0<=VN a/\VN a<=6000000:=by
 have:=a6n λx hx=>by obtain⟨w,hw,rfl⟩:=mem_map.mp hx;exact(hH.ws w hw).N0
 have wl:=hH.wl;rw[F4]at this;exact⟨this.1,by unfold VN;lia⟩
theorem AY(h:Sz t M y)(hm:M<=N):Sz t N y:=h.mono (W6 _) hm
theorem Iz{H:Hs}{k:List Rl}{m:Nat}(hH:cj H)(hm:m<=H.hs.length):∀n,n<=m->b1Q H k n (dN H m)
 | 0,_=>by have:=b0O hH;exact⟨Sz.zero f7,Sz.int (by show((VN H).natAbs:Int)<=_;lia),Sz.zero f7⟩
 |n+1,h=>by
  have ih:=Iz hH hm n (fY B1) (k:=k);have:=hH.hl;have:=hH.wl;have Z:=a2L (k:=k) hH (show n<H.hs.length by exact D6 B1 B1) B1
  have t:=(vE ((xV hH (n:=m)<|D6 B1 B1).1) (cU H k n).done 0 0 Z.d (Sz.zero f7) f7 (by
   rw[Z.dl]
   lia)).2
  have t':Sz (dN H m) 1237940039285380274899124224<|aN (cU H k n).done 0:=AY t (by
   rw[Z.dl]
   lia)
  have e:(((n+1:Nat):Int)+1)*1237940039285380274899124224=(n+1)*1237940039285380274899124224+1237940039285380274899124224:=A3;refine⟨?_,?_,?_⟩<;>rw[e]
  exact ih.l.add<|AY Z.l f7;exact ih.u.sub t';exact ih.c.add<|AY (a2M (hH.hs _<|getD_mem X0<|D6 B1 B1) Z.b Z.g) f7
theorem QJ(h:Eo M):RO (M:Rat):=Dv G0
structure a1K(h:Hr)(d:Dq):Prop where
 o:AB h
 b:RO d.eO
 g:RO d.give
 p:∀l,h.line=U l->RO ((l.1:Rat)*d.eO)/\RO ((l.2.2.1:Rat)*d.give)
theorem a1x(C:a1K d S):rR [ig d.line,iH S]=sd (qd<|BO d S):=by
 unfold rR BO az;cases e:d.line with
 |none=>
  right;rfl
 |some l=>
  obtain⟨a1,a2,a3,a4⟩:=l;have L:=C.o.line a1 a2 a3 a4 e;obtain⟨p1,p2⟩:=C.p _ e;show N1 2 2 _ [B4 [p6 a1,p6 a2,p6 a3,p6 a4],iH S]=_;right;rw[fL,fL,(Va S),(UZ S)];right;rw[iU (QJ L.1) C.b,iU (QJ L.2.2.1) C.g];right;rw[aL p1 p2];rfl
theorem Nh:∀(l:List Rat) (z:Rat) (d e y:Option PV),rL l z->∃y',O9 (K5 3) kE (l.map qd) [d,e,sd<|qd z,y]=U (.next [d,e,sd<|qd<|aN l z,y']):=by
 intro l_;induction l_ with
 |nil=>
  intro z d e y _;exact⟨y,rfl⟩
 |cons x l ih_=>
  intro z d e y h;obtain⟨h1,h2,h3⟩:=h;obtain⟨y',e'⟩:=ih_ (z+x) d e (sd<|qd x) h3;refine⟨y',?_⟩;unfold O9 kE;right;rw[gI h1 h2];right;exact e'
theorem Vm(C:a1K d S)(T:rL S.done 0)(o:RO<|aN S.done 0):oW [G3 d,iH S]=sd (B4 [qd S.gn,qd<|0-aN S.done 0,qd<|BO d S]):=by obtain⟨y',e⟩:=Nh S.done 0 (sd<|G3 d) (sd<|iH S) J T;unfold oW az;rw[vO];right;rw[(Ky S)];right;rw[e];right;rw[(UY S),(Cr d)];right;rw[aL vP o,a1x C];rfl
theorem a1G{b c x z:Rat}(ha:RO u)(hb:RO b)(hc:RO c)(hx:RO x)(hy:RO y)(hz:RO z):Bo [B4 [qd u,qd b,qd c],B4 [qd x,qd y,qd z]]=sd (B4 [qd<|u+x,qd<|b+y,qd<|c+z]):=by unfold Bo;right;rw[gI ha hx,gI hb hy,gI hc hz];rfl
theorem Jg(h:Sz M (((m:Int)+1)*1237940039285380274899124224) y)(dD:jZ M)(hn:m<=24):RO y:=h.ok dD (by have p:(30*1237940039285380274899124224:Int)<=2^200:=f7;exact O0 A3 p)
structure b1R(H:Hs)(k:List Rl)(n:Nat):Prop where
 C:a1K (H.hs.getD n X0)<|cU H k n
 T:rL (cU H k n).done 0
 M:Lz (cU H k n).done<|Bv H k n
 t:RO<|aN (cU H k n).done 0
 nt:RO<|0-aN (cU H k n).done 0
 l:RO (cU H k n).gn
 c:RO<|BO (H.hs.getD n X0)<|cU H k n
 sl:RO<|OJ H k n
 su:RO<|Bv H k n
 sc:RO<|uU H k n
 sb:∀l,(H.hs.getD n X0).line=U l->RO (uU H k n+(l.1:Rat)*(cU H k n).eO)
theorem b0A{k:List Rl}(hH:cj a)(hn:m<a.hs.length):b1R a k m:=by
 have hl:=hH.hl;have:=hH.wl;have Z:=a2L (k:=k) hH hn hn;have S:=Iz (k:=k) hH (N7 _) m<|fY B1;have dD:=(xV hH hl).1;have hh:=hH.hs _<|getD_mem X0 hn;have p60:((2:Int)^60)=1152921504606846976:=by rfl
 have T:=vE dD (cU a k m).done 0 0 Z.d (Sz.zero f7) f7 (by
  rw[Z.dl,p60]
  lia)
 have t60:Sz (dN a a.hs.length) (2^70)<|aN (cU a k m).done 0:=AY T.2 (by
  rw[Z.dl,p60]
  lia)
 have M:=a2u dD (cU a k m).done _ _ Z.d S.u f7 (by
  rw[Z.dl,p60]
  lia)
 have p:∀l,(a.hs.getD m X0).line=U l->Sz (dN a a.hs.length) (1000000*2^60) (l.1*(cU a k m).eO)/\Sz (dN a a.hs.length) (1000000*2^60) (l.2.2.1*(cU a k m).give):=λl e=>by obtain⟨a1,a2,a3,a4⟩:=l;have L:=hh.line a1 a2 a3 a4 e;exact⟨AO L.1 Z.b,AO L.2.2.1 Z.g⟩
 refine⟨⟨hh,Z.b.ok dD f7,Z.g.ok dD f7,λl e=>⟨(p l e).1.ok dD f7,(p l e).2.ok dD f7⟩⟩,T.1,M.1,t60.ok dD f7,((Sz.zero (M:=0) f7).sub t60).ok dD f7,Z.l.ok dD f7,(a2M hh Z.b Z.g).ok dD f7,Jg S.l dD A3,Jg S.u dD A3,Jg S.c dD A3,λl e=>?_⟩;refine(S.c.add (p l e).1).ok dD ?_;have p200:(30*1237940039285380274899124224+1000000*1152921504606846976:Int)<=2^200:=f7;exact O0 A3 p200
abbrev kP(H:Hs)(k:List Rl):Rat:=(E4 H k H.hs.length).1
theorem Od{k:List Rl}(hH:cj a)(hr:Eo a.rest):RO (kP a k)/\RO ((a.rest:Rat)*kP a k)/\RO (0-(a.rest:Rat)*kP a k)/\∀n,n<=a.hs.length->RO (0-(a.rest:Rat)*kP a k+uU a k n):=by
 have hl:=hH.hl;have so:=xx (k:=k) hH a.hs.length<|N7 _;have dD:=(xV hH hl).1;have z:=AO hr so.zl;have z0:=(Sz.zero (M:=0) f7).sub z;refine⟨so.zl.ok dD f7,z.ok dD f7,z0.ok dD f7,λn hn=>?_⟩;refine(z0.add (Iz (k:=k) hH (N7 _) n hn).c).ok dD ?_;have p200:(30*1237940039285380274899124224+1000000*2000000:Int)<=2^200:=f7;exact O0 A3 p200
def yE(H:Hs)(k:List Rl)(n:Nat):f9:=B4 [qd<|OJ H k n,qd<|Bv H k n,qd<|0-(H.rest:Rat)*kP H k+uU H k n]
theorem Rx{k:List Rl}(hH:cj a)(hr:Eo a.rest)(hn:m<a.hs.length)(x0 x1 x2 x3 x4 x5:Option PV):
  vm [x0,x1,x2,x3,x4,x5,sd<|yE a k m,sd<|G3<|a.hs.getD m X0,sd<|iH<|cU a k m] =
   U (.next [x0,x1,x2,x3,x4,x5,sd<|yE a k<|m+1,sd<|G3<|a.hs.getD m X0,sd<|iH<|cU a k m]):=by
 have Q:=b0A (k:=k) hH hn;have e:yE a k (m+1)=B4 [qd<|OJ a k m+(cU a k m).gn,qd<|Bv a k m+(0-aN (cU a k m).done 0),qd<|0-a.rest*kP a k+uU a k m+BO (a.hs.getD m X0) (cU a k m)]:=by
  have H:Bv a k m+(0-aN (cU a k m).done 0)=Bv a k (m+1):=by show _=Bv a k m-aN (cU a k m).done 0;grind
  have b:0-a.rest*kP a k+uU a k m+BO (a.hs.getD m X0) (cU a k m)=0-a.rest*kP a k+uU a k (m+1):=by show _=0-a.rest*kP a k+(uU a k m+BO (a.hs.getD m X0) (cU a k m));rw[Rat.add_assoc]
  rw[H,b];rfl
 rw[e];unfold vm yE;right;rw[(Vm Q.C Q.T Q.t)];right;rw[(a1G Q.sl Q.su ((Od (k:=k) hH hr).2.2.2 m<|fY B1) Q.l Q.nt Q.c)];right
theorem a8a(h:Hs):J2 (mV h) (p6 6)=iD h.rest:=rfl
theorem a5c(H:Hs)(k:List Rl)(n:Nat):J2 (GU H k n) (p6 2)=sd (qd (E4 H k<|n+1).1):=rfl
theorem ints_map(l:List Wk):intsOf ((l.map λw=>w.N0).map p6)=U (l.map λw=>w.N0):=by
 induction l with
 |nil=>rfl
 |cons x l ih=>
  show(intsOf<|(l.map λw=>w.N0).map p6).bind _=_;rw[ih];rfl
theorem a0F(x0 x1 x2 y4 x5 x6 x7 x8:Option PV):∀n,∃y,O9 (K5 4) rk (jh a c n) [x0,x1,x2,sd<|qd (E4 a c 0).1,y4,x5,x6,x7,x8]=U (.next [x0,x1,x2,sd<|qd (E4 a c n).1,y,x5,x6,x7,x8]):=λn=>by
 obtain⟨ds',e1,y,rfl⟩:=xN (gt:=K5 4) (G:=rk) (items:=jh a c n)
  (λm ds=>∃y,ds=[x0,x1,x2,sd<|qd (E4 a c m).1,y,x5,x6,x7,x8]) ⟨y4,rfl⟩ (by
   rintro m d ds hd ⟨y,rfl⟩;have hm:d=GU a c m:=by
    unfold jh at hd;by_cases H:m<n;rw[aK,Mz H]at hd;exact(dY hd).symm;rw[xc (by rw[F4,oI];simp_all)]at hd;cases hd
   subst hm;refine⟨_,_,rfl,B3 ?_,sd<|GU a c m,rfl⟩;unfold rk;right;rw[(a5c a c m)];right)
 have el:(jh a c n).length=n:=by unfold jh;rw[F4,oI]
 rw[el]at e1;exact⟨y,e1⟩
def mT(H:Hs)(k:List Rl):List Rat:=[OJ H k H.hs.length,Bv H k H.hs.length,uU H k H.hs.length-(H.rest:Rat)*kP H k]
theorem a1v{k:List Rl}(hH:cj a)(hr:Eo a.rest):pZ [uR a,B4<|aU a k a.hs.length]=sd (B4<|(mT a k).map qd):=by
 have:=hH.wl;obtain⟨r1,r2,r3,r4⟩:=Od hH hr;have c0:∀ds,U7 M0 M3 vh ds (a.ws.map P6)=U ((a.ws.map λw=>w.N0).map p6):=λds=>by
  rw[comp_map (f:=λw=>p6 w.N0)<|λw hw=>⟨.dat<|p6 w.N0,by unfold vh;right;rw[Ko],rfl⟩];rw[cX];rfl
 unfold pZ az;rw[vO];right;rw[(Kw a)];right;rw[(Kt a)];right;rw[(UL (k:=k) hH)];right;obtain⟨y,e⟩:=a0F (sd<|uR a) (sd<|B4<|aU a k a.hs.length) (sd<|mV a) J J J J J a.hs.length
 erw [e]
 right;rw[(Kv a)];right;rw[A6 (by rw[F4];exact D6 B1 f7),c0];right;rw[ints_map];right;rw[(a8a a)];right;rw[fL,fL,iU (QJ hr) r1];right;rw[aL vP r2];right;rw[(Kx a)];right;rw[show nH [B4<|a.hs.map G3,B4<|aU a k a.hs.length]=U (bQ (λx y=>bM [x,y]) (a.hs.map G3)<|aU a k a.hs.length)from rfl]
 right;have t0:bM [qd 0,qd (((a.ws.map λw=>w.N0).sum:Int):Rat),qd<|0-a.rest*kP a k]=yE a k 0:=by
  have H:0-a.rest*kP a k=0-a.rest*kP a k+uU a k 0:=by show _=_+0;rw[Rat.add_zero]
  unfold yE;rw[<-H];rfl
 rw[t0];obtain⟨ds',e1,y7,y8,rfl⟩:=xN (gt:=mJ 2<|aw 7<|aw 8 mK) (items:=bQ (λx y=>bM [x,y]) (a.hs.map G3)<|aU a k a.hs.length)
  (λn ds=>∃y7 y8,ds=[sd<|uR a,sd<|B4<|aU a k a.hs.length,sd<|mV a,sd<|qd<|kP a k,y,iD (a.ws.map λw=>w.N0).sum,sd<|yE a k n,y7,y8])
  ⟨J,J,rfl⟩ (by
   rintro n d ds hd ⟨y7,y8,rfl⟩;have hn:n<a.hs.length:=by
    by_cases c:n<a.hs.length;exact c;rw[xc (by rw[iP,F4];lia)]at hd;cases hd
   rw[Au,aK,Y2 hn,JI hn]at hd;have hg:a.hs.getD n X0=a.hs[n]:=by rw[mi,Y2 hn];rfl
   have hd':d=B4 [G3<|a.hs.getD n X0,iH<|cU a k n]:=by rw[hg];simp only[lU,qV]at hd;exact hd.symm
   subst hd';exact⟨_,_,rfl,B3<|Rx hH hr hn _ _ _ _ _ _,_,_,rfl⟩)
 rw[iP,F4,JH,Nat.min_self]at e1
 erw [e1]
 right;have b:0-a.rest*kP a k+uU a k a.hs.length=uU a k a.hs.length-a.rest*kP a k:=by grind
 unfold yE;rw[b];rfl
variable{q:Int×Int}{l:List Rat}
theorem Sy(s:Small q):(T4 q).length<=130:=by
 have:=dq s.top;have:=dq s.bot;unfold T4;split;exact D6 B1 f7
 . rw[M6,cR,cR,R5,R5,ju,<-M6,<-M6];show _+1+_<=130;lia
theorem a3m(s:Small q):W5<|T4 q:=by
 have key:∀c∈lz (T4 q),c=45\/c=47\/(48<=c/\c<=57):=by
  intro c hc;rw[sf s.pos]at hc;split at hc
  . rcases pL _ c hc with z|z
    exact B3 z;exact B6<|B6 z
  . rcases List.mem_append.mp hc with z|z
    . rcases pL _ c z with z|z
      exact B3 z;exact B6<|B6 z
    . rcases List.mem_cons.mp z with z|z
      exact B6<|B3 z;exact B6<|B6<|bC _ c z
 refine⟨Sy s,λhc=>?_,qy λc hc=>?_⟩
 . have:=key 32 hc;simp_all
 have:=key c hc;lia
theorem Ca{D M:Int}{x:Rat}(h:Sz D M x)(p:0<D)(b:Bt 97 D)(hM:M<=2^100):Small<|q2 x:=by
 have f:=h.f;have:=wD p f.dvd;have:D<2^97:=by
  have:=b.lt;lia
 have e60:10^60=1000000000000000000000000000000000000000000000000000000000000:=by rfl
 have:=f.BC;have pp:=f.pos;have:M*(q2 x).2<=1267650600228229401496703205376*158456325028528675187087900672:=by exact O0 (rM hM<|bu B1)<|Yp A3 f7
 exact⟨by rw[e60];omega,by rw[e60];omega,pp⟩
abbrev qT(x:Rat):Str:=T4<|q2 x
theorem b1D{x:Rat}(h:Small<|q2 x):cZ [qd x]=sS (qT x):=nI h
abbrev OZ(l:List Rat):Str:=T6<|l.map qT
theorem a2v(hl:l.length<=100)(ne:l≠[])(h:∀x∈l,Small<|q2 x):Er<|l.map qT:=⟨by simpa using ne,by rw[F4];exact D6 B1 f7,λw hw=>by obtain⟨x,hx,rfl⟩:=mem_map.mp hw;exact a3m<|h x hx⟩
theorem a5j(hl:l.length<=100)(ne:l≠[])(h:∀x∈l,Small<|q2 x):ar [B4<|l.map qd]=sS (OZ l):=by
 have ec:∀ds:Ds,U7 M0 M3 gh ds (l.map qd)=U ((l.map qT).map f6):=λds=>by
  rw[comp_map (f:=λx=>f6<|qT x) λx hx=>⟨.dat<|f6<|qT x,by unfold gh;left;exact b1D<|h x hx,rfl⟩,cX];rfl
 have:(l.map qd).length<=100:=by rw[F4];exact hl
 unfold ar;left;rw[A6<|D6 B1 f7,ec];left;rw[(DF<|a2v hl ne h)];left
theorem b0F{H:Hs}(hH:cj H){n:Nat}(h:n<=6):0<dN H n/\Bt 97 (dN H n):=⟨(Bj hH n).1,(Bj hH n).2.mono A3⟩
theorem HW{H:Hs}{k:List Rl}(hH:cj H)(hr:Eo H.rest)(h6:H.hs.length<=6):∀x∈mT H k,Small<|q2 x:=by
 have S:=Iz (k:=k) hH (N7 _) H.hs.length<|N7 _;obtain⟨p,b⟩:=b0F hH h6;have e100:(8*1237940039285380274899124224:Int)<=2^100:=f7;intro x hx;simp only[mT,Q7,U1,V4]at hx;rcases hx with rfl|rfl|rfl
 exact Ca S.l p b<|O0 A3 e100;exact Ca S.u p b<|O0 G0 e100;exact Ca (S.c.sub<|AO hr (xx (k:=k) hH H.hs.length<|N7 _).zl) p b<|O0 G0 e100
variable{t:Int}{h:P2}{Z:List Int}{q:Int×Int}
theorem a7N{b:Int}(h:0<b):(N9 t b).2<=b:=wD h (Kg h).2.2.2
theorem SH{ns:List Int}{k:Int}(hl:ns.length<=63)(h0:0<=k)(h1:k<=10000):∃q:Int×Int,ri [dg ns,p6 k]=sd (fr q)/\rB q/\q.2<=12:=by
 obtain⟨m,e,m0,m1⟩:=P7 (ns:=ns) (k:=k) hl h0 (by exact O0 B1 f7)
 obtain⟨m',e',m0',m1'⟩:=P7 (k:=k+1) hl A3<|ma B1 f7;obtain⟨v,ev,v0,v1⟩:=P7 (k:=k+2) hl A3 A3;have:=U9 m (b:=12) f7;have:=W8 m (b:=12) f7;have:=U9 m' (b:=1+m.fmod 12) G0;have:=W8 m' (b:=1+m.fmod 12) G0;have:=U9 v (b:=4) f7;have:=W8 v (b:=4) f7;obtain⟨q,hq,sq⟩:∃q:Int×Int,Y5 [B4 [p6 1,p6 1],B4 [p6 1,p6 2],B4 [p6 9,p6 10],fr<|N9 (1+m'.fmod (1+m.fmod 12))<|1+m.fmod 12] (v.fmod 4)=U (fr q)/\rB q/\q.2<=12:=by
  generalize v.fmod 4=z at *;have:z=0\/z=1\/z=2\/z=3:=A3;rcases this with rfl|rfl|rfl|rfl
  exact⟨(1,1),rfl,⟨f7,f7,f7,by rfl⟩,f7⟩;exact⟨(1,2),rfl,⟨f7,f7,f7,by rfl⟩,f7⟩;exact⟨(9,10),rfl,⟨f7,f7,f7,by rfl⟩,f7⟩;exact⟨_,rfl,(a4R (t:=1+m'.fmod (1+m.fmod 12)) (b:=1+m.fmod 12) G0 G0 G0),O0 (a7N G0) G0⟩
 unfold ri;right;rw[e];right;rw[K4 f7];right;rw[e'];right;rw[K4 G0];right;rw[a0E G0<|Bt.kG G0 G0];right;rw[ev];right;rw[K4 f7];right;rw[hq];exact⟨q,rfl,sq⟩
theorem a8l{ns:List Int}{n m:Int}(hl:ns.length<=63)(n1:1<=n)(n2:n<=24)(m0:0<=m)(m1:m<=6):∃H:P2,ve [dg ns,p6 n,p6 m]=sd (O1 H)/\H5 H/\(H.kept.2<=12/\H.left.2<=12)/\n=(H.hs.length:Int):=by
 obtain⟨a,ea,a0,a1⟩:=bV (ns:=ns) (k:=110) hl f7 f7;obtain⟨b,eb,b0,b1⟩:=bV (ns:=ns) (k:=111) hl f7 f7;obtain⟨c,ec,c0,c1⟩:=P7 (ns:=ns) (k:=112) hl f7 f7;obtain⟨f,ef,f0,f1⟩:=bV (ns:=ns) (k:=113) hl f7 f7;obtain⟨g,eg,g0,g1⟩:=bV (ns:=ns) (k:=114) hl f7 f7;obtain⟨kp,ekp,hkp,kp12⟩:=SH (ns:=ns) (k:=115) hl f7 f7;obtain⟨lf,elf,hlf,lf12⟩:=SH (ns:=ns) (k:=118) hl f7 f7;obtain⟨r,er,r0,r1⟩:=P7 (ns:=ns) (k:=121) hl f7 f7;obtain⟨v,ev,v0,v1⟩:=P7 (ns:=ns) (k:=122) hl f7 f7;have s0:=U9 (c*991) (b:=a+b+1) A3;have s1:=W8 (c*991) (b:=a+b+1) A3;have w0:=U9 v (b:=2) f7;have w1:=W8 v (b:=2) f7;obtain⟨nl,hn,nn⟩:∃nl:List Str,Y5 [tT [f6 "w",f6 "wa",f6 "wab",f6 "a",f6 "ab",f6 "b"],B8 [f6 "ab",f6 "a",f6 "b",f6 "abb",f6 "c",f6 "ca"]] (v.fmod 2)=U (B8<|nl.map f6)/\Ly nl:=by
  generalize v.fmod 2=z at *;have:z=0\/z=1:=A3;rcases this with rfl|rfl
  exact⟨[p7 "w",p7 "wa",p7 "wab",p7 "a",p7 "ab",p7 "b"],rfl,a4N⟩;exact⟨[p7 "ab",p7 "a",p7 "b",p7 "abb",p7 "c",p7 "ca"],rfl,a4M⟩
 have nl6:=nn.len;unfold ve;right;rw[mM A3];right;obtain⟨ds',h1,⟨hs',hlen,H9,y4,y5,rfl⟩⟩:=xM (gt:=K5 4) (G:=mv) (lo:=0) (n:=n.toNat) (ds:=[sd<|dg ns,iD n,iD m,U<|.own [],J,J,J,J,J,J,J,J,J])
  (λi ds=>∃hs:List Hr,hs.length=i/\(∀x∈hs,BV x)/\∃y4 y5,ds=[sd<|dg ns,iD n,iD m,U<|.own<|hs.map G3,y4,y5,J,J,J,J,J,J,J])
  ⟨[],rfl,C9,J,J,rfl⟩ (by
   rintro i ds hi ⟨hs,hlen,H9,y4,y5,rfl⟩;obtain⟨h,hh,z5,e⟩:=Rj (t:=0+(i:Int)) hl R4 A3 (iD n) (iD m) (hs.map G3) (by simp;lia) y5 [J,J,J,J,J,J,J];refine⟨_,_,rfl,B3 e,hs++[h],by simp[hlen],?_,iD<|0+(i:Int),z5,by rw[bN];rfl⟩
   intro x hx;rcases List.mem_append.mp hx with hx|hx
   exact H9 x hx
   . simp at hx;subst hx;exact hh)
 rw[h1];right;rw[ea,eb];right;rw[ec];right;rw[Y0 (Bt.kG A3<|O0 B1 f7) Bt.lit];right;rw[K4 A3];right;rw[ef,eg];right;rw[ekp,elf];right;rw[er];right;rw[K4 f7];right;rw[tL C9];right;rw[tL C9];right;rw[tL C9];right;rw[ev];right;rw[K4 f7];right;rw[hn];right;rw[mM A3];right;rw[A6 (by simp[pE];exact O0 B1 f7)];have wk:∀i:Nat,i<m.toNat->∃w:Wk,pX [dg ns,p6<|130+7*(0+i),f6<|nl.getD i "",p6 n]=sd (P6 w)/\yr n w/\w.name=nl.getD i "":=λi hi=>a3g hl (iO _) A3 n1<|nn.at A3
 obtain⟨wf,hwf⟩:∃wf:Nat->Wk,∀i,i<m.toNat->pX [dg ns,p6<|130+7*(0+i),f6<|nl.getD i "",p6 n]=sd (P6<|wf i)/\yr n (wf i)/\(wf i).name=nl.getD i "":=by
  refine⟨λi=>if h:i<m.toNat then(wk i h).choose else⟨"",0,0,0,0⟩,λi hi=>?_⟩;simp only[hi];exact(wk i hi).choose_spec
 rw[CK (f:=λi=>P6<|wf i) λi hi=>?_]
 . right;refine⟨⟨hs',a+b,(c*991).fmod<|a+b+1,f,g,kp,lf,r.fmod 13,(Z4 m.toNat).map wf⟩,?_,?_,⟨kp12,lf12⟩,by show n=hs'.length;lia⟩;unfold O1 bH;rw[cX];rfl
   . have e:n=hs'.length:=A3;refine⟨H9,by show 1<=hs'.length;lia,by show hs'.length<=24;lia,⟨by show 0<=a+b;exact Int.add_nonneg B1 B1,by show a+b<=1000000;omega⟩,⟨s0,by show(c*991).fmod (a+b+1)<=1000000;omega⟩,by show(c*991).fmod (a+b+1)<=a+b;omega,⟨f0,by show f<=1000000;omega⟩,⟨g0,by show g<=1000000;omega⟩,hkp,hlf,⟨U9 r f7,O0 (bu<|W8 r f7) f7⟩,?_,by show((Z4 m.toNat).map wf).length<=6;rw[F4,oI];omega,?_⟩
     rotate_left
     . show(((Z4 m.toNat).map wf).map Wk.name).Nodup
       rw[cX];exact Uq λi j hi hj e=>by have e:(wf i).name=(wf j).name:=e;rw[(hwf i hi).2.2,(hwf j hj).2.2]at e;exact nn.inj G0 G0 e
     intro w hw;obtain⟨i,hi,rfl⟩:=mem_map.mp hw;rw[<-e];exact(hwf i<|mem_range.mp hi).2.1
 refine⟨.dat<|P6<|wf i,?_,rfl⟩;unfold vA;right;rw[Y0 Bt.lit<|Bt.kG G0 G0];right;rw[map_getD (f:=E6) "" G0];right;exact(hwf i hi).1
def pM(h:P2):Hs:=⟨h.hs,h.size,h.start,h.fill,h.take,val h.kept,val h.left,h.rest,h.ws⟩
theorem Jn(h:rB q):q=q2 (val q):=Dl (by have:=h.pos;have:=h.le;exact O0 B1 B1) h.low
theorem SD(h:rB q)(m:q.2<=12):pU<|val q:=by
 have e:=Jn h;have:=h.pos;have:=h.le;have:(val q).num=q.1:=by rw[show(val q).num=(q2<|val q).1 from rfl,<-e]
 have:((val q).den)=q.2:=by rw[show((val q).den)=(q2<|val q).2 from rfl,<-e]
 refine⟨?_,?_,A3⟩
 . have:¬(val q<=0):=λz=>by
     rw[Ey]at z;have z:(val q).num*1<=0*((val q).den):=z;lia
   grind
 . rw[Ey];show(val q).num*1<=1*((val q).den);lia
theorem OR(H:H5 h):uR (pM h)=O1 h:=by unfold uR mV O1 bH pM qd;rw[<-Jn H.kept,<-Jn H.left]
theorem IG(H:H5 h)(m:h.kept.2<=12/\h.left.2<=12):cj<|pM h:=⟨λx hx=>⟨(H.hs x hx).W0,(H.hs x hx).need,(H.hs x hx).line⟩,H.h1,H.hl,H.size,H.start,H.full,H.fill,H.take,SD H.kept m.1,SD H.left m.2,λw hw=>⟨(H.ws w hw).N0,(H.ws w hw).first,(H.ws w hw).fl,(H.ws w hw).last,(H.ws w hw).most⟩,H.wl⟩
theorem GL(H:H5 h):Eo (pM h).rest:=⟨by have:=H.rest.1;show -1000000<=h.rest;lia,H.rest.2⟩
variable{K:List Rl}{h:P2}
theorem a9M(h:∀r∈K,eB r):a1J K:=⟨λr hr=>⟨λx hx=>⟨by
 have:=(h r hr).ts x hx;cases x<;>simp only[tN,tsN]at * <;> omega⟩,(h r hr).tl⟩⟩
structure Hl(h:P2):Prop where
 H:H5 h
 m:h.kept.2<=12/\h.left.2<=12
 l:h.hs.length<=6
abbrev pT(h:P2)(K:List Rl):f9:=B4<|aU (pM h) K h.hs.length
theorem a1l(L:Hl h)(hK:∀r∈K,eB r):uE [O1 h,je K]=sd (pT h K):=by have e:=a8E (IG L.H L.m)<|a9M hK;rw[OR L.H]at e;exact e
theorem a8J(L:Hl h):pZ [O1 h,pT h K]=sd (B4<|(mT (pM h) K).map qd):=by have e:=a1v (k:=K) (IG L.H L.m)<|GL L.H;rw[OR L.H]at e;exact e
abbrev gL(h:P2)(K:List Rl):List f9:=[f6<|OZ<|mT (pM h) K]
theorem a8L(L:Hl h):ar [B4<|(mT (pM h) K).map qd]=sS (OZ<|mT (pM h) K):=a5j (by simp[mT]) (by simp[mT])<|HW (IG L.H L.m) (GL L.H) L.l
variable{Z:List Int}
theorem Km{ns:List Int}{k n i:Int}(hl:ns.length<=63)(h0:0<=k)(h1:k<=2000)(n1:1<=n)(n2:n<=24)(i0:0<=i)(i1:i<21)(x3:Option PV)(L:List f9)(hL:L.length<1000)(x6 x7 x8 x9 x10:Option PV):
  ∃r:Rl,eB r/\∃y6 y7 y8 y9 y10,ph [sd<|dg ns,iD k,iD n,x3,U<|.own L,iD i,x6,x7,x8,x9,x10]=U (.next [sd<|dg ns,iD k,iD n,x3,U<|.own<|L++[Q5 r],iD i,y6,y7,y8,y9,y10]):=by
 obtain⟨a,ea,a0,a1⟩:=P7 (ns:=ns) (k:=k+31*i+13) hl A3 A3;obtain⟨b,eb,b0,b1⟩:=P7 (ns:=ns) (k:=k+31*i+14) hl A3 A3;obtain⟨c,ec,c0,c1⟩:=P7 (ns:=ns) (k:=k+31*i+15) hl A3 A3;obtain⟨d,ed,d0,d1⟩:=P7 (ns:=ns) (k:=k+31*i+16) hl A3 A3;have p0:=U9 (a.fdiv 11) (b:=3) f7;have p1:=W8 (a.fdiv 11) (b:=3) f7;have:=U9 b (b:=3) f7;have:=W8 b (b:=3) f7;have:=U9 c (b:=3) f7;have:=W8 c (b:=3) f7;have:=U9 d (b:=2) f7;have:=W8 d (b:=2) f7;obtain⟨m,em,m0,m1⟩:∃m:Int,Y5 [jL<|(a.fdiv 11).fmod 3,p6 6] (if a.fmod 11=5 then 1 else 0)=U (p6 m)/\0<=m/\m<=6:=by
  split;exact⟨6,rfl,f7,f7⟩;exact⟨_,rfl,p0,A3⟩
 obtain⟨fi,efi⟩:∃fi:Fi,Y5 [E6 "none",f6 "sun",f6 "line"] (b.fmod 3)=U (f6<|lA fi):=by
  generalize b.fmod 3=z at *;have:z=0\/z=1\/z=2:=A3;rcases this with rfl|rfl|rfl
  exact⟨.non,rfl⟩;exact⟨.W0,rfl⟩;exact⟨.line,rfl⟩
 obtain⟨ta,eta⟩:∃ta:Ta,Y5 [E6 "none",f6 "need",f6 "give"] (c.fmod 3)=U (f6<|kZ ta):=by
  generalize c.fmod 3=z at *;have:z=0\/z=1\/z=2:=A3;rcases this with rfl|rfl|rfl
  exact⟨.non,rfl⟩;exact⟨.need,rfl⟩;exact⟨.give,rfl⟩
 obtain⟨wo,ewo⟩:∃wo:Bool,Y5 [E6 "now",f6 "wait"] (d.fmod 2)=U (f6<|pj wo):=by
  generalize d.fmod 2=z at *;have:z=0\/z=1:=A3;rcases this with rfl|rfl
  exact⟨U',rfl⟩;exact⟨Uf,rfl⟩
 have tk:∀j:Nat,j<m.toNat->∃x:Ts,pY [dg ns,p6<|k+31*i+2*(0+j),p6 n]=sd (Z7 x)/\tN x:=λj hj=>a3s hl A3 A3 n1 n2
 obtain⟨tf,htf⟩:∃tf:Nat->Ts,∀j,j<m.toNat->pY [dg ns,p6<|k+31*i+2*(0+j),p6 n]=sd (Z7<|tf j)/\tN (tf j):=by
  refine⟨λj=>if h:j<m.toNat then(tk j h).choose else .dark,λj hj=>?_⟩;simp only[hj];exact(tk j hj).choose_spec
 unfold ph;right;rw[Y0 Bt.lit<|Bt.kG A3<|O0 B1 f7];right;rw[ea];right;rw[U2 f7 Bt.lit];right;rw[K4 f7];right;rw[K4 f7];right;rw[a4y];right;rw[em];right;rw[mM A3];right;rw[A6 (by simp[pE];exact O0 B1 f7),CK (f:=λj=>Z7<|tf j) λj hj=>?_]
 . right;rw[eb];right;rw[K4 f7];right;rw[efi];right;rw[ec];right;rw[K4 f7];right;rw[eta];right;rw[ed];right;rw[K4 f7];right;rw[ewo];right;rw[aI _ rfl<|D6 B1 f7];have er:bM [B4<|(Z4 m.toNat).map λj=>Z7<|tf j,f6<|lA fi,f6<|kZ ta,f6<|pj wo]=Q5 ⟨(Z4 m.toNat).map tf,fi,ta,wo⟩:=by unfold Q5;rw[cX];rfl
   simp only[er];refine⟨⟨(Z4 m.toNat).map tf,fi,ta,wo⟩,⟨λx hx=>?_,by show((Z4 m.toNat).map tf).length<=6;rw[F4,oI];simp_all⟩,iD<|k+31*i,iD a,sL<|(Z4 m.toNat).map λj=>Z7<|tf j,sS<|lA fi,sS<|kZ ta,rfl⟩;obtain⟨j,hj,rfl⟩:=mem_map.mp hx;exact(htf j<|mem_range.mp hj).2
 refine⟨.dat<|Z7<|tf j,?_,rfl⟩;unfold uG;right;rw[Y0 Bt.lit<|Bt.kG (iO _) A3];right;exact(htf j hj).1
theorem a4Z{ns:List Int}{k n m:Int}(hl:ns.length<=63)(h0:0<=k)(h1:k<=2000)(n1:1<=n)(n2:n<=24)(m0:0<=m)(m1:m<21):∃K:List Rl,rQ [dg ns,p6 k,p6 n,p6 m]=sd (B4<|K.map Q5)/\(∀r∈K,eB r)/\(K.length:Int)=m:=by
 unfold rQ;right;rw[mM A3];right;obtain⟨ds',e1,⟨K,hK,H9,y5,y6,y7,y8,y9,y10,rfl⟩⟩:=xM (gt:=K5 5) (n:=m.toNat) (ds:=[sd<|dg ns,iD k,iD n,iD m,U<|.own [],J,J,J,J,J,J])
  (λi ds=>∃K:List Rl,K.length=i/\(∀r∈K,eB r)/\∃y5 y6 y7 y8 y9 y10,ds=[sd<|dg ns,iD k,iD n,iD m,U<|.own<|K.map Q5,y5,y6,y7,y8,y9,y10])
  ⟨[],rfl,C9,J,J,J,J,J,J,rfl⟩ (by
   rintro i ds hi ⟨K,hK,H9,y5,y6,y7,y8,y9,y10,rfl⟩;obtain⟨r,hr,z6,z7,z8,z9,z10,e⟩:=Km (i:=0+i) hl h0 h1 n1 n2 R4 A3 (iD m) (K.map Q5) (by simp;lia) y6 y7 y8 y9 y10;refine⟨_,_,rfl,B3 e,K++[r],by simp[hK],?_,iD<|0+i,z6,z7,z8,z9,z10,by rw[bN];rfl⟩
   intro x hx;rcases List.mem_append.mp hx with hx|hx
   exact H9 x hx
   . simp at hx;subst hx;exact hr)
 rw[e1];right;exact⟨K,rfl,H9,A3⟩
variable{Z:List Nat}{b:Bool}
noncomputable def dI(least:Int):Option (Int×Int)->f9
 |none=>F3
 |some q=>if q.2=1/\least<=q.1/\q.1<=1000000 then p6 q.1 else F3
noncomputable def jx(cs:List Nat)(b:Bool):List Nat:=if b=Uf/\cs.head? = U 45 then cs.drop 1 else cs
def fA(cs:List Nat)(b:Bool):Bool:=(jx cs b).all dig&&decide (jx cs b≠[])&&decide ((jx cs b).length<=7)&&!(decide ((jx cs b).head? = U 48)&&decide (cs≠[48]))&&decide (digitsVal (jx cs b)<=1000000)
noncomputable def fN(b:Bool):Int:=if b=Uf then -1000000 else 0
theorem Oe{q:Int×Int}(h:W2 Z=U q):lz (T4 q)=Z:=by
 unfold W2 at h;cases e1:jb (mS Z)with
 |none=>rw[e1]at h;cases(if 47∈Z then di (nV Z)else U 1)<;>cases h
 |some t=>
  cases e2:(if 47∈Z then di (nV Z)else U 1)with
  |none=>rw[e1,e2]at h;cases h
  |some b=>
   rw[e1,e2]at h;have h':(if b=0 then J else if lz (T4<|N9 t b)=Z then U (N9 t b)else J)=U q:=h;split at h';cases h'
   . split at h';rename_i e;cases h';exact e;cases h'
theorem Gy(h:fA Z b=Uf):∃n:Int,Z=ax n/\fN b<=n/\n<=1000000/\n.natAbs<=1000000:=by
 unfold fA at h;simp only[fu,gX,lZ,XA,uB,Wz]at h;obtain⟨⟨⟨⟨h1,h2⟩,h3⟩,h4⟩,h5⟩:=h;have hd:=sy.mp h1;by_cases c:b=Uf/\Z.head? = U 45
 . have ef:jx Z b=Z.drop 1:=by unfold jx;rw[A6 c]
   rw[ef]at h2 h3 h4 h5 hd;cases Z with
   |nil=>cases c.2
   |cons d r=>
    have e45:d=45:=by simpa using c.2
    subst e45;rw[show(45::r).drop 1=r from rfl]at h2 h3 h4 h5 hd
    have h48:r.head?≠U 48:=λz=>by
     rcases h4 with h4|h4
     exact h4 z;simp at h4
    have hp:Plain r:=⟨hd,h2,B3 h48⟩;have e:=Ox hp;have:digitsVal r≠0:=λz=>by rw[z]at e;rw[<-e]at h48;exact h48 f7
    refine⟨-((digitsVal r)),?_,?_,V8,V8⟩;unfold ax;rw[A6 A3,wG,Ms,e]
    . unfold fN;rw[A6 c.1];lia
 . have ef:jx Z b=Z:=by unfold jx;rw[B2 c]
   rw[ef]at h2 h3 h4 h5 hd;have hp:Plain Z:=⟨hd,h2,h4⟩;refine⟨((digitsVal Z)),?_,?_,A3,V8⟩;unfold ax;rw[B2 V8,Ms,(Ox hp)]
   . unfold fN;split<;>simp_all
theorem JT{n:Int}(e:Z=ax n)(h0:fN b<=n)(h1:n<=1000000):fA Z b=Uf:=by
 have hn:n.natAbs<=1000000:=by unfold fN at h0;split at h0<;>lia
 have hl:(bB n.natAbs).length<=7:=(pI f7).mpr<|bO hn f7;have hp:=Dz n.natAbs;have hv:=sV n.natAbs;have fin:∀fs:List Nat,jx Z b=fs->fs=bB n.natAbs->(fs.head? = U 48->Z=[48])->fA Z b=Uf:=λfs ef e2 e3=>by
  unfold fA;rw[ef,e2];rw[e2]at e3;simp only[fu,gX,lZ,XA,uB,Wz];refine⟨⟨⟨⟨sy.mpr hp.1,hp.2.1⟩,hl⟩,?_⟩,by rw[hv];exact hn⟩;by_cases c:(bB n.natAbs).head? = U 48;exact B6<|e3 c;exact B3 c
 by_cases c:n<0
 . have hb:b=Uf:=by
     cases b with
     |true=>rfl
     |false=>exact absurd h0 (by show ¬0<=n;simp_all)
   have e':Z=45::bB n.natAbs:=by rw[e];unfold ax;rw[A6 c]
   refine fin (bB n.natAbs) ?_ rfl λz=>?_
   . unfold jx;rw[A6 ⟨hb,by rw[e'];rfl⟩,e'];rfl
   . rcases hp.2.2 with z'|z'
     exact absurd z z'
     . have:n.natAbs=0:=by rw[<-hv,z'];rfl
       simp_all
 . have e':Z=bB n.natAbs:=by rw[e];exact Cy A3
   refine fin Z ?_ e' λz=>?_
   . unfold jx;rw[B2];rintro⟨_,z⟩;rw[e']at z;have:=HC z
     simp_all
   . rw[e']at z|-;rcases hp.2.2 with z'|z'
     exact absurd z z';exact z'
theorem a0p(cs:List Nat)(b:Bool):K7 (dI (fN b)<|W2 cs) = !fA cs b:=by
 cases hb:fA cs b with
 |true=>
  obtain⟨n,e,h0,h1,h2⟩:=Gy hb;have hr:W2 cs=U (n,1):=by rw[e];exact ka<|bO h2 f7
  rw[hr];show K7 (if 1=1/\fN b<=n/\n<=1000000 then p6 n else F3)=U';rw[A6 ⟨rfl,h0,h1⟩];rfl
 |false=>
  cases hr:W2 cs with
  |none=>rfl
  |some q=>
   show K7 (if q.2=1/\fN b<=q.1/\q.1<=1000000 then p6 q.1 else F3)=Uf;by_cases c:q.2=1/\fN b<=q.1/\q.1<=1000000
   . exfalso;have e:=Oe hr;rw[sf (by rw[c.1];decide),A6 c.1]at e;rw[JT e.symm c.2.1 c.2.2]at hb;cases hb
   rw[B2 c];rfl
variable{z:Str}{Z:Option PV}
theorem Qo{least:Int}(hz:z.length<=1000):da [f6 z,p6 least]=sd (dI least<|W2<|lz z):=by
 unfold da;left;rw[(iT hz)];left;cases e:W2 (lz z)with
 |none=>
  unfold BJ dI;left
 |some q=>
  obtain⟨a,b⟩:=q;unfold BJ dI;left;by_cases c1:b=1
  . subst c1;by_cases c2:a<least;have c2':¬least<=a:=V8;simp[c2,c2'];rfl
    . have c2':least<=a:=A3;by_cases c3:1000000<a;have c3':¬a<=1000000:=V8;simp[c3,c3'];rfl;have c3':a<=1000000:=A3;simp[c2,c2',c3,c3'];rfl
  simp[c1];rfl
theorem a5K{y0 y1 y2:Option PV}(c:Nat):Z6 [y0,y1,y2,sS ⟨#[c]⟩]=if dig c=Uf then U (.next [y0,y1,y2,sS ⟨#[c]⟩])else U<|.ret<|.dat<|E5 U':=by unfold Z6;simp only[J4,B5,A2,C4,fC,fx,gC,P0,PV.du];rw[HF];cases dig c<;>rfl
theorem Vr{y0 y1 y2:Option PV}:∀(l:List Nat) (y:Option PV),(l.all dig=Uf->∃y',O9 (K5 3) Z6 (l.map λc=>f6 ⟨#[c]⟩) [y0,y1,y2,y]=U (.next [y0,y1,y2,y']))/\(l.all dig=U'->O9 (K5 3) Z6 (l.map λc=>f6 ⟨#[c]⟩) [y0,y1,y2,y]=U (.ret<|.dat<|E5 U')):=by
 intro l_;induction l_ with
 |nil=>
  intro y;exact⟨λ_=>⟨y,rfl⟩,λh=>by cases h⟩
 |cons c r ih_=>
  intro y;obtain⟨h1,h2⟩:=ih_<|sS ⟨#[c]⟩;have hb:=a5K (y0:=y0) (y1:=y1) (y2:=y2) c;rw[fZ,K3];cases hc:dig c with
  |true=>
   rw[hc,A6 rfl]at hb;rw[(bp (gt:=K5 3) (r:=r.map λc=>f6 ⟨#[c]⟩) (ds:=[y0,y1,y2,y]) rfl hb),lR];exact⟨h1,h2⟩
  |false=>
   rw[hc,B2 f7]at hb;refine⟨λh=>(by cases h),λ_=>?_⟩;show(Z6 [y0,y1,y2,sS ⟨#[c]⟩]).bind _=_;rw[hb];rfl
theorem Kb:(aE z J (U ((1:Nat):Int))=p7 "-")↔(lz z).head? = U 45:=by
 have e:lz (p7 "-")=[45]:=B9;constructor
 . intro h;have:=J3 lz h;rw[ID,e]at this;cases hz:lz z with
   |nil=>rw[hz]at this;cases this
   |cons c r=>rw[hz]at this;simpa using this
 . intro h;refine bT ?_;rw[ID,e];cases hz:lz z with
   |nil=>rw[hz]at h;cases h
   |cons c r=>
    rw[hz]at h;have:c=45:=by simpa using h
    rw[this];rfl
theorem a5C{c:Nat}{r:List Nat}(hz:z.length<=1000000)(h:lz z=c::r):J2 (f6 z) (p6 0)=sS ⟨#[c]⟩:=by
 show(if z.length<=1000000 then(Y5 z.cps.toList 0).bind λc=>sS ⟨#[c]⟩else J)=_;have h':z.cps.toList=c::r:=h;rw[A6 hz,h',ji];rfl
theorem Cv{b:Bool}(hz:z.length<=900):W9 [f6 z,E5 b]=sB (fA (lz z) b):=by
 have hl:=M6 z;have s1:=NV (z:=z) (D6 B1 f7) 1;have s2:=qz (z:=z) (D6 B1 f7) 1;obtain⟨f,ef,hf⟩:∃f:Str,lz f=jx (lz z) b/\(J4 (dV (B5<|C4 1)<|B5<|A2 J5 (ai K6 (C4 0) Q6<|L5<|fC<|p6 1)<|fC<|f6 "-") (B0 2<|ai K6 (C4 0) (L5<|fC<|p6 1) Q6) D9) [sS z,sB b,sS z,J]=U (.next [sS z,sB b,sS f,J]):=by
  cases b with
  |false=>
   refine⟨z,by unfold jx;rw[B2 C9],?_⟩;left
  |true=>
   by_cases c:(lz z).head? = U 45
   . refine⟨aE z (U ((1:Nat):Int)) J,by unfold jx;rw[A6 ⟨rfl,c⟩,mZ],?_⟩;left;rw[show K6 (f6 z) J (U 1)=_ from s1];left;rw[A6<|show aE z J (U 1)=p7 "-" from Kb.mpr c]
     try left
     rw[show K6 (f6 z) (U 1) J=_ from s2];rfl
   . refine⟨z,by unfold jx;rw[B2<|λh=>c h.2],?_⟩;left;rw[show K6 (f6 z) J (U 1)=_ from s1];left;rw[B2<|show ¬aE z J (U 1)=p7 "-" from λh=>c<|Kb.mp h]
 have lf:f.length<=900:=by
  rw[M6,ef];unfold jx;split;rw[gU];omega;assumption
 have kf:=M6 f;have e0:(z=p7 "0")↔lz z=[48]:=⟨λh=>by rw[h];decide +kernel,λh=>bT (by rw[h];decide +kernel)⟩;obtain⟨g1,g2⟩:=Vr (y0:=sS z) (y1:=sB b) (y2:=sS f) (lz f) J;have fo:∀o,O9 (K5 3) Z6 ((lz f).map λc=>f6 ⟨#[c]⟩) [sS z,sB b,sS f,J]=o->(bc (bW<|C4 2) (K5 3) Z6) [sS z,sB b,sS f,J]=o:=λo h=>h
 have hN:fA (lz z) b=((lz f).all dig&&decide (lz f≠[])&&decide ((lz f).length<=7)&&!(decide ((lz f).head? = U 48)&&decide (lz z≠[48]))&&decide (digitsVal (lz f)<=1000000)):=by unfold fA;rw[<-ef]
 generalize fA (lz z) b=N at *;unfold W9;change (A4 _ _ [sS z,sB b,J,J]).bind dG=_;rw[C3 (ds':=[sS z,sB b,sS z,J]) rfl,C3 hf];cases hd:(lz f).all dig with
 |false=>
  have e:=fo _<|g2 hd;rw[hd]at hN;have hN':N=U':=by rw[hN];rfl
  unfold A4;rw[e,hN'];rfl
 |true=>
  obtain⟨y',g1⟩:=g1 hd;rw[C3<|fo _ g1];have eL:=jv (z:=f)<|D6 B1 f7;by_cases hc0:lz f=[]
  . have hN':N=U':=by rw[hN];simp only[hc0,ne_eq,oH,Ah,decide_true,decide_false,wF,lR,oE,oF,wH,zW,qV]
    rw[hN'];left;rw[A6<|(eq_empty f).mpr hc0];try left
  . obtain⟨c,r,hc⟩:∃c r,lz f=c::r:=by
      cases e:lz f with
      |nil=>exact absurd e hc0
      |cons c r=>exact⟨c,r,rfl⟩
    have a0:=a5C (z:=f) (D6 B1 f7) hc;have hh:(lz f).head? = U c:=by rw[hc];rfl
    have z0:(⟨#[c]⟩:Str)=p7 "0" ↔ c=48:=by
     have e:p7 "0" = ⟨#[48]⟩:=bT B9;rw[e];constructor
     . intro h;have:lz (⟨#[c]⟩:Str)=lz (⟨#[48]⟩:Str):=by rw[h]
       simpa using this
     intro h;rw[h]
    left;rw[B2<|λe=>hc0<|(eq_empty f).mp e,eL];left;by_cases c7:(7:Int)<(f.length:Nat)
    . have hN':N=U':=by have:¬(lz f).length<=7:=A3;rw[hN];simp only[this,ne_eq,oH,Ah,decide_true,decide_false,wF,lR,oE,oF,wH,zW,qV]
      rw[A6 c7,hN'];try left
    . rw[B2 c7];try left
      have l7:(lz f).length<=7:=A3;have it:=Cz (z:=f) (sy.mp hd) hc0<|D6 B1 f7;rw[show J2 (f6 f) (p6 0)=_ from a0];left;by_cases c48:c=48
      . rw[A6<|z0.mpr c48];try left
        by_cases cz:lz z=[48]
        . have e1:=e0.mpr cz;have hN':N=decide (digitsVal (lz f)<=1000000):=by rw[hN,hd,hh];simp only[hc0,l7,cz,ne_eq,oH,Ah,decide_true,decide_false,lR,oE,wH]
          simp only[e1];try left
          rw[it];left;rw[hN']
          congr 3
          rw[uj];omega
        . have e1:¬z=p7 "0":=λh=>cz (e0.mp h)
          have hN':N=U':=by rw[hN,hh,c48];simp only[cz,ne_eq,oH,decide_true,wF,oE,oF,zW]
          simp only[e1];try left
          rw[hN']
      . have hN':N=decide (digitsVal (lz f)<=1000000):=by rw[hN,hd,hh];simp only[hc0,l7,c48,ne_eq,oH,decide_true,decide_false,lR,oF,wH,qV]
        rw[B2<|λh=>c48<|z0.mp h]
        try left
        rw[it];left;rw[hN']
        congr 3
        rw[uj];omega
variable{w:Str}{l:List Str}
noncomputable def qJ:List Str:=[p7 "from",p7 "till",p7 "over",p7 "under",p7 "dear",p7 "cheap"]
noncomputable def Gk:List Str:=[p7 "from",p7 "till",p7 "over",p7 "under"]
noncomputable def iK:List Str:=[p7 "dear",p7 "cheap"]
noncomputable def dZ:List Str:=[p7 "dark",p7 "sunny"]
def R9:List Str->Option Nat
 | []=>U 0
 | [w]=>if w∈qJ then J else if w∈dZ then U 1 else J
 |w::x::r=>if w∈qJ then(if fA (lz x) (decide (w∈iK))=Uf then(R9 r).map (· + 1)else J)else if w∈dZ then(R9 (x::r)).map (· + 1)else J
theorem AZ:((l.map E6).any λy=>qG y<|f6 w)=decide (w∈l):=by
 by_cases c:w∈l
 . rw[L7 c,List.any_eq_true];refine⟨f6 w,List.mem_map_of_mem c,?_⟩;show(w==w)=Uf;rw[beq_iff_eq]
 . rw[J8 c,FI];intro d hd;obtain⟨x,hx,rfl⟩:=mem_map.mp hd;show ¬((x==w)=Uf);rw[beq_iff_eq];intro e;subst e;exact c hx
theorem uT(l:List Str):(l.map E6).all Flat=Uf:=by rw[wN];intro d hd;obtain⟨x,_,rfl⟩:=mem_map.mp hd;rfl
theorem KH:(O2 inD U3) (f6 w) (B8<|l.map f6)=sB (decide (w∈l)):=by
 have e:inD (f6 w) (B8<|l.map f6)=sB (decide (w∈l)):=by
  show(if Flat (f6 w)=Uf/\(l.map E6).all Flat=Uf then sB ((l.map E6).any λy=>qG y<|f6 w)else J)=_;rw[A6 ⟨rfl,uT l⟩,AZ]
 unfold O2;rw[e]
theorem Ri:(O2 inD U3) (f6 w) (B4<|l.map f6)=sB (decide (w∈l)):=by
 have e:inD (f6 w) (B4<|l.map f6)=sB (decide (w∈l)):=by
  show(if Flat (f6 w)=Uf/\(l.map E6).all Flat=Uf then sB ((l.map E6).any λy=>qG y<|f6 w)else J)=_;rw[A6 ⟨rfl,uT l⟩,AZ]
 unfold O2;rw[e]
theorem AU:(O2 U5 R8) (f6 w) (B8<|l.map f6)=sB (!decide (w∈l)):=by
 have e:U5 (f6 w) (B8<|l.map f6)=sB (!decide (w∈l)):=by
  show(if Flat (f6 w)=Uf/\(l.map E6).all Flat=Uf then sB (!((l.map E6).any λy=>qG y<|f6 w))else J)=_;rw[A6 ⟨rfl,uT l⟩,AZ]
 unfold O2;rw[e]
theorem GB:(O2 U5 R8) (f6 w) (B4<|l.map f6)=sB (!decide (w∈l)):=by
 have e:U5 (f6 w) (B4<|l.map f6)=sB (!decide (w∈l)):=by
  show(if Flat (f6 w)=Uf/\(l.map E6).all Flat=Uf then sB (!((l.map E6).any λy=>qG y<|f6 w))else J)=_;rw[A6 ⟨rfl,uT l⟩,AZ]
 unfold O2;rw[e]
noncomputable abbrev oS(l:List f9):Option PV:=U<|.own l
theorem kh{Ft:Ds->Option Bool}{G1 G2:Ds->Option Out}{ds:Ds}{b:Bool}(h:Ft ds=U b):J4 Ft G1 G2 ds=if b=Uf then G1 ds else G2 ds:=by unfold J4;rw[h];cases b<;>rfl
theorem a9l(y0 y1 y4:Option PV)(t:Int)(w:Str)(r:List Str)(hl:r.length<=1000)(hw:∀x∈r,x.length<=900):T3 [y0,y1,oS<|(w::r).map f6,iD t,y4] =
  if w∈qJ then(match r with
   | []=>U<|.ret<|.dat<|E5 U'
   |x::r'=>if fA (lz x) (decide (w∈iK))=Uf then U (.next [y0,y1,oS<|r'.map f6,iD<|t+1,sS w])else U<|.ret<|.dat<|E5 U')
  else if w∈dZ then U (.next [y0,y1,oS<|r.map f6,iD<|t+1,sS w])else U<|.ret<|.dat<|E5 U':=by
 unfold T3;rw[C3 rfl];rw[C3 (ds':=[y0,y1,oS<|r.map f6,iD<|t+1,sS w]) rfl];have t1:(B5<|A2 (O2 inD U3) (C4 4)<|G4<|A7 (fC<|f6 "from")<|A7 (fC<|f6 "till")<|A7 (fC<|f6 "over")<|A7 (fC<|f6 "under")<|A7 (fC<|f6 "dear")<|A7 (fC<|f6 "cheap") D0) [y0,y1,oS<|r.map f6,iD<|t+1,sS w]=U (decide (w∈qJ)):=by
  show((O2 inD U3 (f6 w)<|B8<|qJ.map f6).bind λx=>fR x.d)=_;rw[(KH (w:=w) (l:=qJ))];rfl
 have t2:(B5<|A2 (O2 U5 R8) (C4 4)<|G4<|A7 (fC<|f6 "dark")<|A7 (fC<|f6 "sunny") D0) [y0,y1,oS<|r.map f6,iD<|t+1,sS w]=U (!decide (w∈dZ)):=by
  show((O2 U5 R8 (f6 w)<|B8<|dZ.map f6).bind λx=>fR x.d)=_;rw[(AU (w:=w) (l:=dZ))];rfl
 rw[kh t1];by_cases c:w∈qJ
 . rw[L7 c,A6 rfl,A6 c];cases r with
   |nil=>
    rfl
   |cons x r'=>
    have e2:(A2 (O2 inD U3) (C4 4)<|G4<|A7 (fC<|f6 "dear")<|A7 (fC<|f6 "cheap") D0) [y0,y1,oS<|r'.map f6,iD<|t+1,sS w]=sB (decide (w∈iK)):=by exact(KH (w:=w) (l:=iK))
    have e4:Ow (AS<|B5<|A2 J5 (ay<|A0 N5<|A7 (C4 2) D0)<|ay<|fC<|p6 0) (xI<|Dy 2 W9<|A2 (O2 inD U3) (C4 4)<|G4<|A7 (fC<|f6 "dear")<|A7 (fC<|f6 "cheap") D0) [y0,y1,oS<|(x::r').map f6,iD<|t+1,sS w]=U (!fA (lz x) (decide (w∈iK)),[y0,y1,oS<|r'.map f6,iD<|t+1,sS w]):=by
     show((((A2 (O2 inD U3) (C4 4)<|G4<|A7 (fC<|f6 "dear")<|A7 (fC<|f6 "cheap") D0) [y0,y1,oS<|r'.map f6,iD<|t+1,sS w]).bind λv=>(W9 [f6 x,v.d]).bind λu=>(fR u.d).bind λb=>U (b,[y0,y1,oS<|r'.map f6,iD<|t+1,sS w])).bind λu=>U (!u.1,u.2))=_;rw[e2];show(((W9 [f6 x,E5<|decide (w∈iK)]).bind _).bind _)=_;rw[(Cv (b:=decide (w∈iK))<|hw x K9)];rfl
    unfold tq;rw[e4];show _=if fA (lz x) (decide (w∈iK))=Uf then U (Out.next [y0,y1,oS<|r'.map f6,iD<|t+1,sS w])else U<|Out.ret<|.dat<|E5 U'
    cases fA (lz x) (decide (w∈iK))<;>rfl
 . rw[J8 c,B2 f7,B2 c,kh t2];by_cases c2:w∈dZ;rw[L7 c2,A6 c2];rfl;rw[J8 c2,B2 c2];rfl
theorem Nb(y0 y1 y3 y4:Option PV)(L:List f9):Q9 [y0,y1,oS L,y3,y4]=U (decide (L≠[])):=by
 unfold Q9;simp only[B5,A2,ay,iF,A0,A7,D0,C4,fC,K3,lU,fx,gC,P0,PV.du,PV.Bi,nj,Bd,jC]
 congr 1
 cases L<;>simp
theorem yB{Fc:Ds->Option Bool}{G:Ds->Option Out}{n:Nat}{ds:Ds}{pv:PV}(h:Fc ds=U Uf)(k:G ds=U (.ret pv)):Q4 Fc G (n+1) ds=U (.ret pv):=by unfold Q4;rw[h];rw[k];rfl
theorem UM(y0 y1:Option PV):∀(n:Nat) (ws:List Str) (t:Int) (y4:Option PV) (fuel:Nat),ws.length<=n->ws.length<fuel->ws.length<=1000->(∀w∈ws,w.length<=900) ->
  (∀k,R9 ws=U k->∃y4',Q4 Q9 T3 fuel [y0,y1,oS<|ws.map f6,iD t,y4]=U (.next [y0,y1,oS [],iD<|t+(k:Nat),y4'])) /\
  (R9 ws=J->Q4 Q9 T3 fuel [y0,y1,oS<|ws.map f6,iD t,y4]=U (.ret<|.dat<|E5 U')):=by
 intro n;induction n with
 |zero=>
  intro ws t y4 fuel hn hf hl hw;have:ws=[]:=List.length_eq_zero_iff.mp A3;subst this;obtain⟨m,rfl⟩:∃m,fuel=m+1:=⟨fuel-1,by simp at hf;lia⟩;have e:Q9 [y0,y1,oS [],iD t,y4]=U U':=Nb _ _ _ _ [];refine⟨λk hk=>⟨y4,?_⟩,λz=>by unfold R9 at z;cases z⟩;cases hk;rw[fX,gF e];simp
 |succ n ih=>
  intro ws t y4 fuel hn hf hl hw;obtain⟨m,rfl⟩:∃m,fuel=m+1:=⟨fuel-1,A3⟩;cases ws with
  |nil=>
   have e:Q9 [y0,y1,oS [],iD t,y4]=U U':=Nb _ _ _ _ [];refine⟨λk hk=>⟨y4,?_⟩,λz=>by unfold R9 at z;cases z⟩;cases hk;rw[fX,gF e];simp
  |cons w r=>
   rw[L3]at hn hf hl;have hc:Q9 [y0,y1,oS<|(w::r).map f6,iD t,y4]=U Uf:=Nb _ _ _ _ _;have hb:=a9l y0 y1 y4 t w r (fY B1) λx hx=>hw x<|G6 _ hx
   have step:∀ws',ws'.length<=n->ws'.length<=r.length->(∀x∈ws',x.length<=900)->T3 [y0,y1,oS<|(w::r).map f6,iD t,y4]=U (.next [y0,y1,oS<|ws'.map f6,iD<|t+1,sS w])->R9 (w::r)=(R9 ws').map (· + 1) ->
     (∀k,R9 (w::r)=U k->∃y4',Q4 Q9 T3 (m+1) [y0,y1,oS<|(w::r).map f6,iD t,y4]=U (.next [y0,y1,oS [],iD<|t+k,y4'])) /\
     (R9 (w::r)=J->Q4 Q9 T3 (m+1) [y0,y1,oS<|(w::r).map f6,iD t,y4]=U (.ret<|.dat<|E5 U')):=by
    intro ws' h1 h2 h3 hB hk;obtain⟨i1,i2⟩:=ih ws' (t+1) (sS w) m h1 A3 A3 h3;rw[vo hc hB,hk];refine⟨λk e=>?_,λe=>?_⟩
    . cases e':R9 ws' with
      |none=>rw[e']at e;cases e
      |some k'=>
       rw[e']at e;obtain⟨y4',q⟩:=i1 k' e';have:k=k'+1:=by simpa using e.symm
       subst this;refine⟨y4',?_⟩;rw[q,(A3:t+1+k'=t+((k'+1:Nat)))]
    . cases e':R9 ws' with
      |none=>exact i2 e'
      |some k'=>rw[e']at e;cases e
   have no:T3 [y0,y1,oS<|(w::r).map f6,iD t,y4]=U (.ret<|.dat<|E5 U')->R9 (w::r)=J ->
     (∀k,R9 (w::r)=U k->∃y4',Q4 Q9 T3 (m+1) [y0,y1,oS<|(w::r).map f6,iD t,y4]=U (.next [y0,y1,oS [],iD<|t+k,y4'])) /\
     (R9 (w::r)=J->Q4 Q9 T3 (m+1) [y0,y1,oS<|(w::r).map f6,iD t,y4]=U (.ret<|.dat<|E5 U')):=λhB hk=>
    ⟨(λk e=>by rw[hk]at e;cases e),λ_=>yB hc hB⟩
   have hwr:=λx hx=>hw x<|G6 _ hx;by_cases c:w∈qJ
   . rw[A6 c]at hb;cases r with
     |nil=>exact no hb (by unfold R9;rw[A6 c])
     |cons x r'=>
      simp only at hb;by_cases cn:fA (lz x) (decide (w∈iK))=Uf;rw[A6 cn]at hb;exact step r' (by simp at hn;exact fY B1) C9 (λy hy=>hwr y<|G6 _ hy) hb (by conv=>lhs;unfold R9;rw[A6 c,A6 cn]);rw[B2 cn]at hb;exact no hb (by unfold R9;rw[A6 c,B2 cn])
   . rw[B2 c]at hb;by_cases c2:w∈dZ
     . rw[A6 c2]at hb;refine step r A3 (N7 _) hwr hb ?_;cases r with
       |nil=>unfold R9;rw[B2 c,A6 c2];rfl
       |cons x r'=>conv=>lhs;unfold R9;rw[B2 c,A6 c2]
     . rw[B2 c2]at hb;refine no hb ?_;cases r with
       |nil=>unfold R9;rw[B2 c,B2 c2]
       |cons x r'=>unfold R9;rw[B2 c,B2 c2]
variable{w:Str}{r:List Str}
def fh:List Str->f9
 | []=>F3
 |w::r=>if w∈dZ then B4 [f6 w]else match r with
  | []=>F3
  |x::_=>if w∈qJ then(if K7 (dI (fN<|decide (w∈iK))<|W2<|lz x)=Uf then F3 else B4 [f6 w,dI (fN<|decide (w∈iK))<|W2<|lz x])else F3
theorem rE(h:w∈dZ):fh (w::r)=B4 [f6 w]:=by
 show(if w∈dZ then _ else _)=_;rw[A6 h]
theorem uJ(h:w∉dZ):fh [w]=F3:=by
 show(if w∈dZ then _ else _)=_;rw[B2 h]
theorem qw{x:Str}(h:w∉dZ):fh (w::x::r)=(if w∈qJ then(if K7 (dI (fN<|decide (w∈iK))<|W2<|lz x)=Uf then F3 else B4 [f6 w,dI (fN<|decide (w∈iK))<|W2<|lz x])else F3):=by
 show(if w∈dZ then _ else _)=_;rw[B2 h]
theorem Jl:w∈qJ↔(w∈Gk\/w∈iK):=by
 simp only[qJ,Gk,iK,Q7,U1,V4];constructor
 . rintro(h|h|h|h|h|h);exact B3<|B3 h;exact B3<|B6<|B3 h;exact B3<|B6<|B6<|B3 h;exact B3<|B6<|B6<|B6 h;exact B6<|B3 h;exact B6<|B6 h
 . rintro((h|h|h|h)|h|h);exact B3 h;exact B6<|B3 h;exact B6<|B6<|B3 h;exact B6<|B6<|B6<|B3 h;exact B6<|B6<|B6<|B6<|B3 h;exact B6<|B6<|B6<|B6<|B6 h
theorem a5D(h:w∈Gk):w∉iK:=by have key:∀a∈Gk,a∉iK:=B9;exact key w h
theorem Zc(h:w∈qJ):w∉dZ:=by have key:∀a∈qJ,a∉dZ:=B9;exact key w h
theorem Bu(l:Int)(o:Option<|Int×Int):dI l o=F3\/∃n,dI l o=p6 n:=by
 cases o with
 |none=>exact B3 rfl
 |some q=>
  unfold dI;simp only;split;exact B6 ⟨_,rfl⟩;exact B3 rfl
theorem Zn(hl:r.length<=1000)(hw:∀x∈w::r,x.length<=900):Z0 [B8<|(w::r).map f6]=sd (fh (w::r)):=by
 have tb:∀y1:Option PV,(B5<|A2 (O2 inD U3) (A2 J2 (C4 0)<|fC<|p6 0)<|fC gN) [sL<|(w::r).map f6,y1]=U (decide (w∈dZ)):=λy1=>by
  have e:=Ri (w:=w) (l:=dZ);simp only[B5,A2,C4,fC,fx,P0,PV.du,K3,cI,ji];rw[show(gN:f9)=B4 (dZ.map f6)from rfl,e];rfl
 have ta:∀y1:Option PV,(B5<|A2 (O2 inD U3) (A2 J2 (C4 0)<|fC<|p6 0)<|fC gO) [sL<|(w::r).map f6,y1]=U (decide (w∈Gk)):=λy1=>by
  have e:=Ri (w:=w) (l:=Gk);simp only[B5,A2,C4,fC,fx,P0,PV.du,K3,cI,ji];rw[show(gO:f9)=B4 (Gk.map f6)from rfl,e];rfl
 have tp:∀y1:Option PV,(B5<|A2 (O2 inD U3) (A2 J2 (C4 0)<|fC<|p6 0)<|fC iI) [sL<|(w::r).map f6,y1]=U (decide (w∈iK)):=λy1=>by
  have e:=Ri (w:=w) (l:=iK);simp only[B5,A2,C4,fC,fx,P0,PV.du,K3,cI,ji];rw[show(iI:f9)=B4 (iK.map f6)from rfl,e];rfl
 have tl:∀y1:Option PV,(B5<|A2 lq (A0 N5<|A7 (C4 0) D0)<|fC<|p6 1) [sL<|(w::r).map f6,y1]=U (decide (r≠[])):=λy1=>by
  simp only[B5,A2,C4,fC,A0,A7,D0,fx,P0,PV.du,nj,Bd,jC]
  congr 1
  rw[uj,F4,L3];cases r with
  |nil=>simp
  |cons x r'=>simp only[L3,ne_eq,reduceCtorEq,oH,iff_true];lia
 have and2:∀(Ft Fu:Ds->Option Bool) (ds:Ds) (p q:Bool),Ft ds=U p->Fu ds=U q->dV Ft Fu ds=U (p&&q):=λFt Fu ds p q h1 h2=>by unfold dV;rw[h1,h2];cases p<;>rfl
 have i0:(A2 J2 (C4 0)<|fC<|p6 0) [sL<|(w::r).map f6,J]=sS w:=by simp only[A2,C4,fC,fx,P0,PV.du,K3,cI,ji]
 unfold Z0;change (A4 _ _ [sL<|(w::r).map f6,J]).bind dG=_;by_cases cb:w∈dZ
 . have e:(J4 (B5<|A2 (O2 inD U3) (A2 J2 (C4 0)<|fC<|p6 0)<|fC gN) (D7<|M4<|A7 (A2 J2 (C4 0)<|fC<|p6 0) D0) D9) [sL<|(w::r).map f6,J]=U (.ret<|.dat<|B4 [f6 w]):=by rw[kh<|tb _,L7 cb,A6 rfl];simp only[D7,M4,A7,D0];rw[i0];rfl
   unfold A4;rw[e,rE cb];rfl
 . rw[C3 (by rw[kh<|tb _,J8 cb];rfl)]
   rw[C3 (ds':=[sL<|(w::r).map f6,sd F3]) rfl];have fin:∀d,(d=F3\/∃n,d=p6 n)->fh (w::r)=(if K7 d=Uf then F3 else B4 [f6 w,d]) ->
     ((A4 (J4 (B5<|A2 cS (C4 1)<|fC F3) (D7<|fC F3) D9)<|D7<|M4<|A7 (A2 J2 (C4 0)<|fC<|p6 0)<|A7 (C4 1) D0) [sL<|(w::r).map f6,sd d]).bind dG=sd (fh (w::r)):=λd hd ht=>by
    rw[ht];rcases hd with rfl|⟨n,rfl⟩
    rfl;simp only[A4,J4,B5,A2,C4,fC,M4,D7,A7,fx,gC,P0,PV.du,tj,DJ,jC,D9,K3,cI,ji,Ao,if_false];rfl
   cases r with
   |nil=>
    rw[C3 (by rw[kh<|and2 _ _ _ _ _ (ta _)<|tl _];cases decide (w∈Gk)<;>rfl)];rw[C3 (by rw[kh<|and2 _ _ _ _ _ (tp _)<|tl _];cases decide (w∈iK)<;>rfl)];exact fin F3 (B3 rfl) (by rw[uJ cb];rfl)
   |cons x r'=>
    have:=hw x<|G6 _ K9;have rb:∀least:Int,da [f6 x,p6 least]=sd (dI least<|W2<|lz x):=λleast=>Qo<|D6 B1 f7
    have i1:∀y1:Option PV,(A8 C7 F7) [sL<|(w::x::r').map f6,y1]=sS x:=λy1=>by simp only[A2,C4,fC,fx,P0,PV.du,K3,cI,RB]
    have tl':∀y1:Option PV,(B5<|A2 lq (A0 N5<|A7 (C4 0) D0)<|fC<|p6 1) [sL<|(w::x::r').map f6,y1]=U Uf:=λy1=>by rw[tl,L7 C9]
    by_cases ca:w∈Gk
    . have cp:=a5D ca;rw[C3 (ds':=[sL<|(w::x::r').map f6,sd<|dI 0<|W2<|lz x]) (by
       rw[kh<|and2 _ _ _ _ _ (ta _)<|tl' _,L7 ca,A6<|by rfl]
       refine N4 (pv:=.dat<|dI 0<|W2<|lz x) ?_;simp only[A0,A7];rw[i1];exact rb 0)]
      rw[C3 (by rw[kh<|and2 _ _ _ _ _ (tp _)<|tl' _,J8 cp];rfl)];refine fin _ (Bu _ _) ?_;rw[qw cb,A6<|Jl.mpr<|.inl ca,J8 cp];rfl
    . rw[C3 (by rw[kh<|and2 _ _ _ _ _ (ta _)<|tl' _,J8 ca];rfl)];by_cases cp:w∈iK
      . rw[C3 (by
          rw[kh<|and2 _ _ _ _ _ (tp _)<|tl' _,L7 cp,A6<|by rfl]
          refine N4 (pv:=.dat<|dI (-1000000)<|W2<|lz x) ?_;simp only[A0,A7];rw[i1];exact rb<|-1000000)]
        refine fin _ (Bu _ _) ?_;rw[qw cb,A6<|Jl.mpr<|.inr cp,L7 cp];rfl
      . rw[C3 (by rw[kh<|and2 _ _ _ _ _ (tp _)<|tl' _,J8 cp];rfl)];refine fin F3 (B3 rfl) ?_;rw[qw cb,B2<|λh=>(Jl.mp h).elim ca cp];rfl
variable{u:List Str}
theorem GZ(L:List f9)(y1 y3:Option PV)(p:Nat):N3 [sL L,y1,iD p,y3]=U (decide (p<L.length)):=by
 unfold N3;simp only[B5,A2,A0,A7,D0,C4,fx,gC,P0,PV.du,nj,GF,jC]
 congr 1
 rw[uj]
 simp_all
theorem YS(h:K7 (fh u)=U'):∃l,fh u=B4 l/\(l.length=1\/l.length=2):=by
 cases u with
 |nil=>cases h
 |cons w r=>
  by_cases cb:w∈dZ;rw[rE cb];exact⟨_,rfl,B3 rfl⟩
  . cases r with
    |nil=>rw[uJ cb]at h;cases h
    |cons x r'=>
     rw[qw cb]at h|-;by_cases c:w∈qJ
     . rw[A6 c]at h|-;by_cases c2:K7 (dI (fN<|decide (w∈iK))<|W2<|lz x)=Uf;rw[A6 c2]at h;cases h;rw[B2 c2];exact⟨_,rfl,B6 rfl⟩
     rw[B2 c]at h;cases h
theorem a5G{p:Nat}(T:List f9)(y3:Option PV)(hp:p<u.length)(hl:u.length<=1000)(hw:∀x∈u,x.length<=900)(hT:T.length<=6):
  (K7 (fh<|u.drop p)=Uf\/T.length=6->O8 [sL<|u.map f6,oS T,iD p,y3]=U (.ret<|.dat F3)) /\
  (∀l,fh (u.drop p)=B4 l->T.length<6->O8 [sL<|u.map f6,oS T,iD p,y3]=U (.next [sL<|u.map f6,oS<|T++[B4 l],iD ((p+l.length:Nat):Int),sd<|B4 l])):=by
 have ed:u.drop p=u[p]::u.drop (p+1):=Ax hp;have rt:Z0 [B8<|(u.drop p).map f6]=sd (fh<|u.drop p):=by rw[ed];exact Zn (by rw[gU];omega) λx hx=>hw x (by rw[<-ed]at hx;exact FQ hx)
 have sl:K6 (B8<|u.map f6) (U (p:Int)) J=U (.own<|(u.drop p).map f6):=by
  show U (PV.own<|cutD (u.map E6) (U (p:Int)) J)=_;rw[jy,EL]
 have q1:(B0 3<|A0 Z0<|A7 (ai K6 (C4 0) (L5<|C4 2) Q6) D0) [sL<|u.map f6,oS T,iD p,y3]=U (.next [sL<|u.map f6,oS T,iD p,sd<|fh<|u.drop p]):=by refine N4 (pv:=.dat<|fh<|u.drop p) ?_;simp only[A0,A7,D0,ai,L5,Q6,C4,fx,gC,P0,PV.du,GX];rw[sl];exact rt
 have t6:∀d:f9,(B5<|A2 J5 (ay<|A0 N5<|A7 (C4 1) D0)<|ay<|fC jA) [sL<|u.map f6,oS T,iD p,sd d]=U (decide (T.length=6)):=λd=>by
  simp only[B5,A2,ay,iF,A0,A7,D0,C4,fC,K3,lU,fx,gC,P0,PV.du,PV.Bi,nj];rw[show jA=p6 6 from rfl,CG];simp only[P0,PV.du,jC]
  congr 1
  rw[uj];lia
 have tn:∀d:f9,(B5<|A2 cS (C4 3)<|fC F3) [sL<|u.map f6,oS T,iD p,sd d]=U (K7 d):=λd=>by simp only[B5,A2,C4,fC,fx,gC,P0,PV.du,tj,jC]
 have O2:∀(Ft Fu) ds (p q),Ft ds=U p->Fu ds=U q->V1 Ft Fu ds=U (p||q):=λFt Fu ds p q h1 h2=>by unfold V1;rw[h1,h2];cases p<;>rfl
 constructor
 . intro h;have e:(J4 (V1 (B5<|A2 cS (C4 3)<|fC F3)<|B5<|A2 J5 (ay<|A0 N5<|A7 (C4 1) D0)<|ay<|fC jA) (D7<|fC F3) D9) [sL<|u.map f6,oS T,iD p,sd<|fh<|u.drop p]=U (.ret<|.dat F3):=by
    rw[kh<|O2 _ _ _ _ _ (tn _)<|t6 _];have:(K7 (fh<|u.drop p)||decide (T.length=6))=Uf:=by
     rcases h with h|h
     rw[h];rfl;rw[L7 h,tW]
    rw[this];rfl
   unfold O8;rw[C3 q1];unfold A4;rw[e];rfl
 . intro l hl' h6;unfold O8;rw[C3 q1,hl'];rw[C3 (by rw[kh<|O2 _ _ _ _ _ (tn _)<|t6 _,J8 G0];rfl)];rw[C3 (by rw[sx];exact aI (.dat<|B4 l) rfl<|D6 B1 f7)];refine(N4 (pv:=.dat<|p6<|(p+l.length)) ?_).trans rfl;rfl
variable{r:List Str}
theorem a1y{w:Str}:(K7 (fh (w::r))=Uf->R9 (w::r)=J)/\(∀l,fh (w::r)=B4 l->R9 (w::r)=(R9<|(w::r).drop l.length).map (· + 1)):=by
 by_cases cb:w∈dZ
 . have cs:=λh=>Zc h cb;rw[rE cb];refine⟨(λh=>by cases h),λl h=>?_⟩;cases h;show R9 (w::r)=(R9 r).map (· + 1)
   cases r with
   |nil=>unfold R9;rw[B2 cs,A6 cb];rfl
   |cons x r'=>conv=>lhs;unfold R9;rw[B2 cs,A6 cb]
 . cases r with
   |nil=>
    rw[uJ cb];refine⟨λ_=>?_,λl h=>by cases h⟩;unfold R9;by_cases cs:w∈qJ;rw[A6 cs];rw[B2 cs,B2 cb]
   |cons x r'=>
    rw[qw cb];by_cases cs:w∈qJ
    . rw[A6 cs,a0p];cases hn:fA (lz x) (decide (w∈iK))with
      |true=>
       refine⟨(λh=>by cases h),λl h=>?_⟩;cases h
       conv=>lhs;unfold R9
       rw[A6 cs,hn];rfl
      |false=>
       refine⟨λ_=>?_,λl h=>by cases h⟩;unfold R9;rw[A6 cs,hn];rfl
    . rw[B2 cs];refine⟨λ_=>?_,λl h=>by cases h⟩;unfold R9;rw[B2 cs,B2 cb]
theorem QB(hl:r.length<=1000)(hw:∀x∈r,x.length<=900):∀(n p:Nat) (T:List f9) (y3:Option PV) (fuel:Nat),r.length-p<=n->p<=r.length->r.length-p<fuel->T.length<=6 ->
  (∀k,R9 (r.drop p)=U k->T.length+k<=6->∃T' y3',Q4 N3 O8 fuel [sL<|r.map f6,oS T,iD p,y3]=U (.next [sL<|r.map f6,oS T',iD r.length,y3'])/\T'.length=T.length+k) /\
  ((R9 (r.drop p)=J\/∃k,R9 (r.drop p)=U k/\6<T.length+k)->Q4 N3 O8 fuel [sL<|r.map f6,oS T,iD p,y3]=U (.ret<|.dat F3)):=by
 intro n;induction n with
 |zero=>
  intro p T y3 fuel hn hp hf hT;have:p=r.length:=A3;subst this;obtain⟨m,rfl⟩:∃m,fuel=m+1:=⟨fuel-1,A3⟩;have hc:N3 [sL<|r.map f6,oS T,iD r.length,y3]=U U':=by rw[GZ,F4,J8 G0]
  rw[Ad,gF hc];refine⟨λk hk h6=>⟨T,y3,rfl,?_⟩,λh=>?_⟩;unfold R9 at hk;cases hk;rfl
  . rcases h with h|⟨k,h,h6⟩
    unfold R9 at h;cases h;unfold R9 at h;cases h;lia
 |succ n ih=>
  intro p T y3 fuel hn hp hf hT;obtain⟨m,rfl⟩:∃m,fuel=m+1:=⟨fuel-1,A3⟩;by_cases c:p=r.length
  . subst c;have hc:N3 [sL<|r.map f6,oS T,iD r.length,y3]=U U':=by rw[GZ,F4,J8 G0]
    rw[Ad,gF hc];refine⟨λk hk h6=>⟨T,y3,rfl,?_⟩,λh=>?_⟩;unfold R9 at hk;cases hk;rfl
    . rcases h with h|⟨k,h,h6⟩
      unfold R9 at h;cases h;unfold R9 at h;cases h;lia
  . have hlt:p<r.length:=A3;have hc:N3 [sL<|r.map f6,oS T,iD p,y3]=U Uf:=by rw[GZ,F4,L7 hlt]
    obtain⟨b1,b2⟩:=a5G T y3 hlt hl hw hT;have ed:=Ax hlt;obtain⟨s1,s2⟩:=a1y;rw[<-ed]at s1 s2;cases ht:K7 (fh<|r.drop p)with
    |true=>
     have hk:=s1 ht;refine⟨(λk e=>by rw[hk]at e;cases e),λ_=>yB hc<|b1<|B3 ht⟩
    |false=>
     obtain⟨l,el,l12⟩:=YS ht;have hk:=s2 l el;rw[Ma]at hk;by_cases h6:T.length=6
     . refine⟨λk e h=>?_,λ_=>yB hc<|b1<|B6 h6⟩
       rw[hk]at e;cases e':R9 (r.drop<|p+l.length)with
       |none=>rw[e']at e;cases e
       |some k'=>
        rw[e']at e;have:k=k'+1:=by simpa using e.symm
        lia
     . have pl:p+l.length<=r.length:=by
         rcases Nat.lt_or_ge r.length (p+l.length)with z|z
         . exfalso;have l2:l.length=2:=A3;have e1:r.drop (p+1)=[]:=MN A3;rw[ed,e1]at el;by_cases cb:r[p]∈dZ;rw[rE cb]at el;cases el;cases l2;rw[uJ cb]at el;cases el
         exact z
       obtain⟨i1,i2⟩:=ih (p+l.length) (T++[B4 l]) (sd<|B4 l) m (by have:=l12;lia) pl (by have:=l12;omega) (by simp;omega);rw[vo hc<|b2 l el G0,hk];have:(T++[bM l]).length=T.length+1:=C9;refine⟨λk e h=>?_,λh=>?_⟩
       . cases e':R9 (r.drop<|p+l.length)with
         |none=>rw[e']at e;cases e
         |some k'=>
          rw[e']at e;have:k=k'+1:=by simpa using e.symm
          obtain⟨T',y',q,qt⟩:=i1 k' e' G0;exact⟨T',y',q,G0⟩
       . refine i2 ?_;rcases h with h|⟨k,h,h7⟩
         . cases e':R9 (r.drop<|p+l.length)with
           |none=>exact B3 rfl
           |some k'=>rw[e']at h;cases h
         . cases e':R9 (r.drop<|p+l.length)with
           |none=>rw[e']at h;cases h
           |some k'=>
            rw[e']at h;have:k=k'+1:=by simpa using h.symm
            exact B6 ⟨k',rfl,G0⟩
def kY(ws:List Str):Bool:=match R9 ws with
 |some k=>decide (k<=6)
 |none=>U'
theorem SQ(hl:r.length<=1000)(hw:∀x∈r,x.length<=900):∃d,jW [B8<|r.map f6]=sd d/\K7 d = !kY r/\(kY r=Uf->∃l,d=B4 l):=by
 obtain⟨p1,p2⟩:=QB hl hw r.length 0 [] J (r.length+1) V8 V8 V8 C9;have hg:∀o,Q4 N3 O8 (r.length+1) [sL<|r.map f6,oS [],iD<|(0:Nat),J]=o->(lu (QO 0) N3 O8) [sL<|r.map f6,oS [],iD 0,J]=o:=λo h=>by
  rw[<-h];show Q4 N3 O8 ((r.map E6).length+1) _=_;rw[F4];rfl
 change ∃d,(A4 _ _ [sL<|r.map f6,J,J,J]).bind dG=_/\_;rw[C3 rfl,C3 (ds':=[sL<|r.map f6,oS [],iD 0,J]) rfl];unfold kY;cases hc:R9 r with
 |none=>
  have e:=hg _<|p2<|B3 hc;unfold A4;rw[e];exact⟨F3,rfl,rfl,λh=>by cases h⟩
 |some k=>
  by_cases h6:k<=6
  . obtain⟨T',y',q,qt⟩:=p1 k hc (by simpa using h6);rw[C3<|hg _ q];refine⟨B4 T',?_,by simp only[L7 h6];rfl,λ_=>⟨T',rfl⟩⟩;left
  . have e:=hg _ (p2<|B6 ⟨k,hc,by simp;simp_all⟩);unfold A4;rw[e];exact⟨F3,rfl,by simp only[J8 h6];rfl,λh=>by simp[h6]at h⟩
noncomputable def yi:List Str:=[p7 "none",p7 "sun",p7 "line"]
noncomputable def yc:List Str:=[p7 "none",p7 "need",p7 "give"]
noncomputable def Bm:List Str:=[p7 "now",p7 "wait"]
noncomputable def qo:List Str:=[p7 "fill",p7 "take",p7 "works"]
def wa(a b c d e f:Str):Bool:=decide ([a,c,e]=qo)&&decide (b∈yi)&&decide (d∈yc)&&decide (f∈Bm)
theorem Lh:∀w∈qo,nB w:=by
 have h:(qo.all λw=>zS w)=Uf:=B9;exact λw hw=>List.all_eq_true.mp h w hw
theorem SX{a b c d e f:Str}(ok:∀w∈[a,b,c,d,e,f],nB w):gZ [B8<|[a,b,c,d,e,f].map f6]=sd (if wa a b c d e f=Uf then B4 [f6 b,f6 d,f6 f]else F3):=by
 have s0:yK (B8<|[a,b,c,d,e,f].map f6) (U 0) J (U 2)=U (.own<|[a,c,e].map f6):=rfl;have s1:yK (B8<|[a,b,c,d,e,f].map f6) (U 1) J (U 2)=U (.own [f6 b,f6 d,f6 f]):=rfl;have ne:V6 (B8<|[a,c,e].map f6) (B8<|qo.map f6)=sB (!decide ([a,c,e]=qo)):=sX (λw hw=>ok w (by
  simp only[Q7,U1,V4]at hw|-;rcases hw with h|h|h
  exact B3 h;exact B6<|B6<|B3 h
  . exact B6<|B6<|B6<|B6<|B3 h)) Lh
 unfold wa;generalize [a,b,c,d,e,f].map E6=L at *;unfold gZ;left;simp only[zj];left;rw[s0];left;rw[show[E6<|p7 "fill",f6<|p7 "take",f6<|p7 "works"]=qo.map f6 from rfl,show V6 (B8 [f6 a,f6 c,f6 e]) (B8<|qo.map f6)=_ from ne];by_cases c1:[a,c,e]=qo
 . rw[L7 c1];left;simp only[zj];left;rw[s1];left;rw[show nZ=B4 (yi.map f6)from rfl,(GB (w:=b) (l:=yi))];by_cases c2:b∈yi
   . rw[L7 c2];left;rw[show nY=B4 (yc.map f6)from rfl,(GB (w:=d) (l:=yc))];by_cases c3:d∈yc
     . rw[L7 c3];left;rw[show nX=B4 (Bm.map f6)from rfl,(GB (w:=f) (l:=Bm))];by_cases c4:f∈Bm;rw[L7 c4];left;rw[A6 c4];rw[J8 c4];left;rw[B2 c4]
     rw[J8 c3];left
   rw[J8 c2];left
 rw[J8 c1];left
variable{m:List Str}
def qc(ws:List Str):Bool:=decide (7<=ws.length)&&decide (ws.head? = U (p7 "when"))&&kY ((ws.drop 1).take<|ws.length-7)&&(match ws.drop (ws.length-6)with
 | [a,b,c,d,e,f]=>wa a b c d e f
 |_=>U')
theorem SA(h:7<=m.length):∃w g a b c d e f,m=w::(g++[a,b,c,d,e,f]):=by
 have h6:(m.drop<|m.length-6).length=6:=by rw[gU];lia
 obtain⟨a,b,c,d,e,f,e6⟩:∃a b c d e f,m.drop (m.length-6)=[a,b,c,d,e,f]:=by
  generalize m.drop (m.length-6)=l at h6
  match l,h6 with
  | [a,b,c,d,e,f],_=>exact⟨a,b,c,d,e,f,rfl⟩
 cases m with
 |nil=>simp at h
 |cons w r=>
  refine⟨w,r.take<|r.length-6,a,b,c,d,e,f,?_⟩;have e7:(w::r).drop ((w::r).length-6)=r.drop (r.length-6):=by rw[L3]at h|-;rw[(A3:r.length+1-6=(r.length-6)+1),oK]
  rw[e7]at e6;rw[<-e6,List.take_append_drop]
theorem Hq{w a b c d e f:Str}:qc (w::(m++[a,b,c,d,e,f]))=(decide (w=p7 "when")&&kY m&&wa a b c d e f):=by
 have hl:(w::(m++[a,b,c,d,e,f])).length=m.length+7:=C9;unfold qc;rw[hl];have e1:((w::(m++[a,b,c,d,e,f])).drop 1).take (m.length+7-7)=m:=by
  rw[oK,ug,((by rfl):m.length+7-7=m.length),EW];rfl
 have e2:(w::(m++[a,b,c,d,e,f])).drop (m.length+7-6)=[a,b,c,d,e,f]:=by
  rw[((by rfl):m.length+7-6=m.length+1),oK,EX];rfl
 rw[e1,e2,L7 V8,lR]
 congr 2
 simp
noncomputable abbrev gu(z:Str):List Str:=jJ z ⟨#[32]⟩
theorem yC(z:Str):gu z≠[]:=λh=>by
 have:=XI z ⟨#[32]⟩;rw[show jJ z ⟨#[32]⟩=[]from h]at this;simp at this
theorem a1b{α:Type}{l:List (List α)}{x:List α}(h:x∈l):x.length<=l.flatten.length/\∀c∈x,c∈l.flatten:=by
 induction l with
 |nil=>cases h
 |cons a l ih=>
  rw[Wy,R5];rcases List.mem_cons.mp h with rfl|h
  exact⟨V8,λc hc=>fw _ hc⟩;obtain⟨h1,h2⟩:=ih h;exact⟨A3,λc hc=>S5 _<|h2 c hc⟩
theorem Lb{α:Type}:∀{l:List (List α)},(∀x∈l,1<=x.length)->l.length<=l.flatten.length
 | [],_=>by simp
 |a::l,h=>by
  have:=h a K9;have:=Lb λx hx=>h x<|G6 _ hx;rw[Wy,R5,L3];lia
theorem a5W(z:Str):(gu z).length<=z.length+1/\∀w∈gu z,w.length<=z.length/\∀c∈lz w,c∈lz z:=by
 have hne:=yC z;have hj':oo ⟨#[32]⟩ (gu z)=z:=(join_split z ⟨#[32]⟩);generalize gu z=ws at *;cases ws with
 |nil=>exact absurd rfl hne
 |cons w r=>
  have e:=J3 lz hj';rw[sj]at e;have e':lz w++(r.map λx=>32::lz x).flatten=lz z:=e
  have:z.length=(lz w).length+((r.map λx=>32::lz x).flatten).length:=by rw[M6,<-e',R5]
  have hc:=Lb (l:=r.map λx=>32::lz x) (λx hx=>by obtain⟨y,_,rfl⟩:=mem_map.mp hx;simp);rw[F4]at hc;refine⟨by rw[L3];lia,λx hx=>?_⟩
  rcases List.mem_cons.mp hx with rfl|hx
  . refine⟨by rw[M6 x];simp[*],λc h=>?_⟩;rw[<-e'];exact fw _ h
  . obtain⟨h1,h2⟩:=a1b (l:=r.map λx=>32::lz x)<|mem_map.mpr ⟨x,hx,rfl⟩;refine⟨by rw[M6 x];rw[L3]at h1;lia,λc h=>?_⟩;rw[<-e'];exact S5 _<|h2 c<|G6 _ h
structure wj(z:Str):Prop where
 len:z.length<=800
 ok:∀c∈lz z,c<1114112
theorem wj.wz{z:Str}(h:wj z):(gu z).length<=1000/\∀w∈gu z,w.length<=900/\nB w:=by obtain⟨h1,h2⟩:=a5W z;have:=h.len;exact⟨A3,λw hw=>⟨by have:=(h2 w hw).1;lia,qy λc hc=>h.ok c<|(h2 w hw).2 c hc⟩⟩
theorem xy{z:Str}(h:wj z):dJ (f6 z) [f6<|p7 " "]=U (.own<|(gu z).map f6):=by
 show(if ((⟨#[32]⟩:Str).length==0)=U'/\z.length<=100000 then U (PV.own<|(jJ z ⟨#[32]⟩).map f6)else J)=_;rw[A6 ⟨rfl,by have:=h.len;exact D6 B1 f7⟩]
variable{Z:Type}
theorem a1r(l:List Z)(h:6<=l.length):cutD l (U<|-6) J=l.drop (l.length-6):=by unfold cutD HT.U4;simp only[(f7:(-6)<0)];rw[(A3:((-6:Int)+l.length).toNat=l.length-6)];exact ko (by rw[gU];exact N7 _)
theorem HV(l:List Z)(h:7<=l.length):cutD l (U 1) (U<|-6)=(l.drop 1).take (l.length-7):=by unfold cutD HT.U4;simp only[(f7:(-6)<0),(f7:¬(1:Int)<0),if_true,if_false];rw[(A3:((-6:Int)+l.length).toNat=l.length-6),show min (1:Int).toNat l.length=1 by show min 1 l.length=1;lia,((by rfl):l.length-6-1=l.length-7)]
theorem Zo{z:Str}(h:wj z):∃d,bD [f6 z]=sd d/\K7 d = !qc (gu z):=by
 obtain⟨kl,kw⟩:=h.wz;have hne:=yC z;have sp:=xy h;generalize gu z=ws at *;have q1:(B0 1<|U6 dJ (C4 0)<|A7 (fC<|f6 " ") D0) [sS z,J,J,J]=U (.next [sS z,sL<|ws.map f6,J,J]):=by refine N4 (pv:=.own<|ws.map f6) ?_;simp only[U6,A7,D0,fC,C4,fx];exact sp
 change ∃d,(A4 _ _ [sS z,J,J,J]).bind dG=_/\_;rw[C3 q1];by_cases h7:7<=ws.length
 . obtain⟨w,m,a,b,c,d,e,f,rfl⟩:=SA h7;have lm:m.length<=1000:=by simp at kl;exact D6 B1 f7
   obtain⟨td,et,ht,htt⟩:=SQ lm<|λx hx=>(kw x<|G6 _<|fw _ hx).1;have ed:=SX<|λx hx=>(kw x<|G6 _<|S5 _ hx).2
   have ll:(w::(m++[a,b,c,d,e,f])).length=m.length+7:=C9;have s1:K6 (B8<|(w::(m++[a,b,c,d,e,f])).map f6) (U 1) (U<|-6)=U (.own<|m.map f6):=by
    show U (PV.own<|cutD ((w::(m++[a,b,c,d,e,f])).map E6) (U 1)<|U<|-6)=_;rw[HV _ (by rw[F4,ll];simp_all),F4,ll,<-EL,<-List.map_take]
    congr 3
    rw[oK,ug,((by rfl):m.length+7-7=m.length),EW];rfl
   have s2:K6 (B8<|(w::(m++[a,b,c,d,e,f])).map f6) (U<|-6) J=U (.own<|[a,b,c,d,e,f].map f6):=by
    show U (PV.own<|cutD ((w::(m++[a,b,c,d,e,f])).map E6) (U<|-6) J)=_;rw[a1r _ (by rw[F4,ll];simp_all),F4,ll,<-EL]
    congr 3
    rw[((by rfl):m.length+7-6=m.length+1),oK,EX];rfl
   have i0:J2 (B8<|(w::(m++[a,b,c,d,e,f])).map f6) (p6 0)=sS w:=by rw[K3,cI,ji];rfl
   have:((w::(m++[a,b,c,d,e,f])).map E6).length=m.length+7:=by rw[F4,ll]
   rw[Hq];rw[cI]at i0;generalize (w::(m++[a,b,c,d,e,f])).map E6=L at *;generalize [a,b,c,d,e,f].map E6=SL at *;left;rw[i0];left;by_cases cw:w=p7 "when"
   . simp only[cw];left;rw[B2 G0];left;rw[s1];left;rw[et];left;rw[s2];left;rw[ed];left;cases hT:kY m with
     |false=>
      rw[hT]at ht;refine⟨F3,?_,rfl⟩;rw[ht];left
     |true=>
      obtain⟨l,rfl⟩:=htt hT;cases hD:wa a b c d e f with
      |false=>
       refine⟨F3,?_,rfl⟩;left
      |true=>
       refine⟨B4 [B4 l,f6 b,f6 d,f6 f],?_,rfl⟩;left;rfl
   . refine⟨F3,?_,by rw[J8 cw];rfl⟩;simp only[cw];left
 . have hB:qc ws=U':=by unfold qc;rw[J8 h7];rfl
   rw[hB];cases ws with
   |nil=>exact absurd rfl hne
   |cons w r=>
    refine⟨F3,?_,rfl⟩;have i0:Y5 ((w::r).map E6) 0=U (f6 w):=by rw[K3,ji]
    have:((w::r).map E6).length<=6:=by rw[F4];lia
    generalize (w::r).map E6=L at *;left;rw[i0];left;by_cases cw:w=p7 "when"
    . simp only[cw];left;rw[A6 G0];try left
    simp only[cw];left
theorem at_neg{α:Type}{l:List α}{k:Nat}(hk:1<=k)(h:k<=l.length):Y5 l (-(k:Int))=l[l.length-k]?:=by
 unfold Y5 Kz;rw[B2 A3,A6 G0];show l[(-(k:Int)+l.length).toNat]?=_;rw[(A3:(-(k:Int)+l.length).toNat=l.length-k)]
theorem Vb{z:Str}(h:wj z):iW [f6 z]=sB (qc<|gu z):=by
 obtain⟨kl,kw⟩:=h.wz;have hne:=yC z;have sp:=xy h;generalize gu z=ws at *;have q1:(B0 1<|U6 dJ (C4 0)<|A7 (fC<|f6 " ") D0) [sS z,J,J,J,J]=U (.next [sS z,sL<|ws.map f6,J,J,J]):=by refine N4 (pv:=.own<|ws.map f6) ?_;simp only[U6,A7,D0,fC,C4,fx,P0,PV.du];exact sp
 unfold iW;change (A4 _ _ [sS z,J,J,J,J]).bind dG=_;rw[C3 q1];by_cases h7:7<=ws.length
 . obtain⟨w,m,a,b,c,d,e,f,rfl⟩:=SA h7;have hm:∀x∈m,x.length<=900:=λx hx=>(kw x<|G6 _<|fw _ hx).1
   have lm:m.length<=1000:=by simp at kl;exact D6 B1 f7
   have ll:(w::(m++[a,b,c,d,e,f])).length=m.length+7:=C9;have s1:K6 (B8<|(w::(m++[a,b,c,d,e,f])).map f6) (U 1) (U<|-6)=U (.own<|m.map f6):=by
    show U (PV.own<|cutD ((w::(m++[a,b,c,d,e,f])).map E6) (U 1)<|U<|-6)=_;rw[HV _ (by rw[F4,ll];simp_all),F4,ll,<-EL,<-List.map_take]
    congr 3
    rw[oK,ug,((by rfl):m.length+7-7=m.length),EW];rfl
   have i0:Y5 ((w::(m++[a,b,c,d,e,f])).map E6) 0=U (f6 w):=by rw[K3,ji]
   have lL:((w::(m++[a,b,c,d,e,f])).map E6).length=m.length+7:=by rw[F4,ll]
   have neg:∀(k:Nat) x,1<=k->k<=6->[a,b,c,d,e,f][6-k]?=U x->Y5 ((w::(m++[a,b,c,d,e,f])).map E6) (-k)=U (f6 x):=λk x k1 k6 hx=>by
    rw[at_neg k1 (by rw[lL];lia),lL,aK,(A3:m.length+7-k=(m.length+(6-k))+1),gC,Az V8,(V8:m.length+(6-k)-m.length=6-k),hx];rfl
   have n6:Y5 ((w::(m++[a,b,c,d,e,f])).map E6) (-6)=U (f6 a):=neg 6 a f7 f7 rfl;have n5:Y5 ((w::(m++[a,b,c,d,e,f])).map E6) (-5)=U (f6 b):=neg 5 b f7 f7 rfl;have n4:Y5 ((w::(m++[a,b,c,d,e,f])).map E6) (-4)=U (f6 c):=neg 4 c f7 f7 rfl;have n3:Y5 ((w::(m++[a,b,c,d,e,f])).map E6) (-3)=U (f6 d):=neg 3 d f7 f7 rfl;have n2:Y5 ((w::(m++[a,b,c,d,e,f])).map E6) (-2)=U (f6 e):=neg 2 e f7 f7 rfl;have n1:Y5 ((w::(m++[a,b,c,d,e,f])).map E6) (-1)=U (f6 f):=neg 1 f f7 f7 rfl;have nd:V6 (B8 [f6 a,f6 c,f6 e]) (B8 [f6<|p7 "fill",f6<|p7 "take",f6<|p7 "works"])=sB (!decide ([a,c,e]=qo)):=sX (l:=[a,c,e]) (λw hw=>(λx hx=>(kw x<|G6 _<|S5 _ hx).2) w (by
    simp only[Q7,U1,V4]at hw|-;rcases hw with h|h|h
    exact B3 h;exact B6<|B6<|B3 h
    . exact B6<|B6<|B6<|B6<|B3 h)) Lh
   have f1:(O2 U5 R8) (f6 b) (B8 [f6<|p7 "none",f6<|p7 "sun",f6<|p7 "line"])=sB (!decide (b∈yi)):=AU (l:=yi);have f2:(O2 U5 R8) (f6 d) (B8 [f6<|p7 "none",f6<|p7 "need",f6<|p7 "give"])=sB (!decide (d∈yc)):=AU (l:=yc);have f3:(O2 inD U3) (f6 f) (B8 [f6<|p7 "now",f6<|p7 "wait"])=sB (decide (f∈Bm)):=KH (l:=Bm);rw[Hq];unfold wa;generalize (w::(m++[a,b,c,d,e,f])).map E6=L at *;have lt:=UM (sS z) (sL L) m.length m 0 J (m.length+1) (N7 _) V8 lm hm;have mu:QN 2 [sS z,sL L,oS<|m.map f6,iD 0,J]=m.length+1:=by
    show(m.map E6).length+1=_;rw[F4]
   left;rw[B2 A3,i0];left;by_cases cw:w=p7 "when"
   . simp only[cw];left;rw[n6];left;rw[n4];left;rw[n2];left;rw[nd];by_cases cd:[a,c,e]=qo
     . rw[L7 cd];left;rw[n5];left;rw[f1];by_cases cf:b∈yi
       . rw[L7 cf];left;rw[n3];left;rw[f2];by_cases ct:d∈yc
         . rw[L7 ct];left;rw[s1];left;rw[show QN 2 [sd<|E6 z,sd<|tT L,U<|PV.own<|m.map f6,sd<|jL 0,J]=_ from mu]
           cases hc:R9 m with
           |none=>
            have e2:kY m=U':=by unfold kY;rw[hc]
            rw[show Q4 Q9 T3 (m.length+1) [sd<|E6 z,sd<|tT L,U<|PV.own<|m.map f6,sd<|jL 0,J]=_ from lt.2 hc,e2];left
           |some k=>
            have e2:kY m=decide (k<=6):=by unfold kY;rw[hc]
            obtain⟨y4',e1⟩:=lt.1 k hc;rw[show Q4 Q9 T3 (m.length+1) [sd<|E6 z,sd<|tT L,U<|PV.own<|m.map f6,sd<|jL 0,J]=_ from e1,e2];left;by_cases c6:k<=6;rw[A6 A3,n1];left;rw[f3,L7 c6];left;rw[B2 A3,J8 c6];left
         rw[J8 ct];left
       rw[J8 cf];left
     rw[J8 cd];left
   simp only[cw];left
 . have hB:qc ws=U':=by unfold qc;rw[J8 h7];rfl
   rw[hB];have:(ws.map E6).length<7:=by rw[F4];simp_all
   left;rw[A6 G0];try left
structure Zs(z:Str)(n:Nat):Prop where
 len:z.length<=n
 ok:∀c∈lz z,c<1114112
theorem vB{x y:Str}{n m:Nat}(hx:Zs x n)(hy:Zs y m):Zs (x++y)<|n+m:=by
 have:=hx.len;have h2:=hy.len;refine⟨by rw[M6,cR,R5,<-M6,<-M6];lia,λc hc=>?_⟩
 rw[cR]at hc;rcases List.mem_append.mp hc with z|z
 exact hx.ok c z;exact hy.ok c z
noncomputable def gG:Str:=p7 " !\"#$&'()*+,-./0123456789:;<=>?@ABCDEFGHIJKLMNOPQRSTUVWXYZ[\\]^_`"++p7 "abcdefghijklmnopqrstuvwxyz{|}~ 00--/"
theorem uM:gG.length=100:=B9
theorem Zd:∀c∈lz gG,c<1114112:=B9
theorem a5B{z:Str}{n:Nat}(h:Zs z n)(hn:n<=700){p q:Int}(p0:0<=p)(q0:0<=q):∃z',uD [f6 z,p6 p,p6 q]=sS z'/\Zs z' (n+1):=by
 have hl:=h.len;have kz:=M6 z;obtain⟨a,ea,a0,a1⟩:∃a:Nat,p.fmod ((z.length:Nat)+1)=(a:Int)/\0<=a/\a<=z.length:=by have h1:=U9 p (C9:(0:Int)<(z.length:Nat)+1);have h2:=W8 p (C9:(0:Int)<(z.length:Nat)+1);exact⟨(p.fmod<|(z.length:Nat)+1).toNat,((Aq B1).symm),C9,G0⟩
 obtain⟨b,eb,b1⟩:∃b:Nat,(q.fdiv 3).fmod 100=(b:Int)/\b<100:=by have h1:=U9 (q.fdiv 3) (f7:(0:Int)<100);have h2:=W8 (q.fdiv 3) (f7:(0:Int)<100);exact⟨((q.fdiv 3).fmod 100).toNat,((Aq B1).symm),V8⟩
 have hb:b<(lz gG).length:=by rw[<-M6,uM];exact b1
 have ib:J2 (f6 gG) (p6 (b:Int))=sS ⟨#[(lz gG)[b]]⟩:=by
  show(if gG.length<=1000000 then(Y5 gG.cps.toList (b:Int)).bind λc=>sS ⟨#[c]⟩else J)=_;rw[A6 (by rw[uM];decide),gP (n:=b) rfl hb];have h':gG.cps.toList[b]?=U (lz gG)[b]:=Y2 hb;rw[h'];rfl
 have s1:=NV (z:=z) A3 a;have s2:=qz (z:=z) A3 a;have z1:Zs (aE z J<|U a) a:=⟨by rw[M6,ID];exact List.length_take_le _ _,λc hc=>h.ok c (by rw[ID]at hc;exact Xr hc)⟩;have z2:Zs (aE z (U a) J)<|n-a:=⟨by rw[M6,mZ,gU];lia,λc hc=>h.ok c (by rw[mZ]at hc;exact FQ hc)⟩;have z3:Zs (aE z (U<|(a+1:Nat)) J)<|n-a:=⟨by rw[M6,mZ,gU];omega,λc hc=>h.ok c (by rw[mZ]at hc;exact FQ hc)⟩
 have z4:Zs (⟨#[(lz gG)[b]]⟩) 1:=⟨N7 1,λc hc=>by
  have:c=(lz gG)[b]:=by simpa using hc
  rw[this];exact Zd _<|jS hb⟩
 have w1:=vB z1 z3;have w2:=vB (vB z1 z4) z2;have add:∀{x y:Str}{n m:Nat},Zs x n->Zs y m->n+m<=5000->D5 (f6 x) (f6 y)=sS (x++y):=λhx hy h=>eQ (by have:=hx.len;have:=hy.len;lia)
 have q1:D5 (f6<|p7 " !\"#$&'()*+,-./0123456789:;<=>?@ABCDEFGHIJKLMNOPQRSTUVWXYZ[\\]^_`") (f6<|p7 "abcdefghijklmnopqrstuvwxyz{|}~ 00--/")=sS gG:=eQ B9;have eL:=jv (z:=z) A3;have eS:N5 [f6 gG]=iD 100:=by rw[jv (by rw[uM];decide),uM];rfl
 have md:Q1 (p6 p) (p6<|z.length+1)=iD a:=by rw[K4 A3,ea]
 have L4:K6 (f6 z) (U<|a+1) J=sS (aE z (U<|(a+1:Nat)) J):=(qz (z:=z) A3<|a+1);unfold uD;left;rw[q1];left;rw[eL];left;rw[md];left;rw[K4 f7];left;by_cases c1:q.fmod 3=0
 . rw[A6 c1];by_cases c2:(a:Int)<z.length;refine⟨_,?_,⟨D6 w1.len A3,w1.ok⟩⟩;rw[eL];left;rw[A6 c2,s1];left;rw[L4];left;rw[add z1 z3 G0];left;refine⟨_,?_,⟨D6 w2.len A3,w2.ok⟩⟩;rw[eL];left;rw[B2 c2];left;rw[s1];left;rw[U2 f7<|Bt.kG V8 V8,eS];left;rw[K4 f7,eb];left;rw[ib];left;rw[add z1 z4 G0];left;rw[s2];left;rw[add (vB z1 z4) z2 G0];left
 refine⟨_,?_,⟨D6 w2.len A3,w2.ok⟩⟩;rw[B2 c1];left;rw[s1];left;rw[U2 f7<|Bt.kG V8 V8,eS];left;rw[K4 f7,eb];left;rw[ib];left;rw[add z1 z4 G0];left;rw[s2];left;rw[add (vB z1 z4) z2 G0];left
variable{E:hW}{n:Nat}{z:Str}{K:List Rl}{Z:List f9}{Y:Option PV}{d:f9}
abbrev kJ(K:List Rl):List f9:=K.map λr=>f6<|S8 r
theorem Bq{r:Rl}{done:List f9}{r0 y4:Option PV}(rr:bD [f6 z]=sd (Q5 r))(hn:n<20)(hd:done.length<=100):T8 E [r0,U<|.own done,iD (n:Int),sS z,y4]=U (.next [r0,U<|.own<|done++[Q5 r],iD (n:Int),sS z,sd<|Q5 r]):=by have nn:K7 (Q5 r)=U':=rfl;unfold T8;left;rw[rr];left;rw[nn];left;rw[B2 G0];left;rw[aI _ rfl G0];rfl
theorem YY(h:n<=20):yJ (p6 (n:Int))=Uf:=L7 (by
 have:=Nat.log2_le_self n;rw[Ms]
 lia)
theorem b0Q{y4:Option PV}(rr:bD [f6 z]=sd d)(hn:n<=20)(hb:K7 d=Uf\/n=20):T8 E [Y,U<|.own Z,iD (n:Int),sS z,y4]=U (.up<|dH E.t (p7 "place")<|p6 (n:Int)):=by
 have up:∀y,KN yJ E.t (p7 "place") (A7 (C4 2) D0) [Y,U<|.own Z,iD n,sS z,y]=U (.up<|dH E.t (p7 "place")<|p6 n):=λy=>by
  show(if yJ (p6 n)=Uf then _ else _)=_;rw[A6<|YY hn];rfl
 unfold T8;left;rw[rr];left;by_cases c:K7 d=Uf;rw[c];left;rw[up];rfl
 . rw[Bool.eq_false_iff.mpr c];left;rw[A6 (by rcases hb with h|h;exact absurd h c;simp_all),up];rfl
theorem a6B(rest:List f9)(r0:Option PV):∀(todo done:List Rl) (y2 y3 y4:Option PV),(∀r∈todo,eB r)->done.length+todo.length<=20 ->
  ∃z2 z3 z4,O9 (mJ 2<|aw 2<|aw 3 mK) (T8 E) (cJ (done.length:Int)<|kJ todo++rest) [r0,U<|.own<|done.map Q5,y2,y3,y4]=O9 (mJ 2<|aw 2<|aw 3 mK) (T8 E) (cJ ((done++todo).length:Int) rest) [r0,U<|.own<|(done++todo).map Q5,z2,z3,z4]:=by
 intro l_;induction l_ with
 |nil=>
  intro done y2 y3 y4 _ _;exact⟨y2,y3,y4,by rw[bA];rfl⟩
 |cons r todo ih_=>
  intro done y2 y3 y4 h hl;rw[L3]at hl;obtain⟨z2,z3,z4,e⟩:=ih_ (done++[r]) (iD done.length) (sS<|S8 r) (sd<|Q5 r) (λx hx=>h x<|G6 _ hx) (by rw[R5,rh];lia);refine⟨z2,z3,z4,?_⟩;rw[show cJ done.length (kJ (r::todo)++rest)=B4 [p6 done.length,f6<|S8 r]::cJ (done.length+1) (kJ todo++rest)from rfl,bp rfl<|Bq (E:=E) (n:=done.length) (done:=done.map Q5) (r0:=r0) (y4:=y4) (nM<|h r K9) A3 (by rw[F4];lia)];rw[gb]at e;rw[<-show(done++r::todo)=done++([r]++todo)from rfl]at e;rw[<-e,bN,R5];rfl
theorem a2i(h:∀r∈K,eB r)(hl:K.length<=20)(z:Str){o:Option Out}(ho:∀y2 y3 y4,O9 (mJ 2<|aw 2<|aw 3 mK) (T8 E) [B4 [p6 (K.length:Int),f6 z]] [sL<|kJ K++[f6 z],U<|.own<|K.map Q5,y2,y3,y4]=o):
  V2 E [B8<|kJ K++[f6 z]]=(bZ o<|D7<|ay<|A0 iX<|A7 (C4 1) D0).bind a7r:=by
 obtain⟨z2,z3,z4,e⟩:=a6B [f6 z] (sL<|kJ K++[f6 z]) K [] J J J h (by simpa using hl);rw[<-(e.trans<|ho z2 z3 z4)];rfl
theorem a9O{r:Rl}(h:∀r∈K,eB r)(hl:K.length<20)(hr:eB r):V2 E [B8<|kJ K++[f6<|S8 r]]=U (S0<|.dat<|je<|K++[r]):=by
 rw[a2i h (fY B1) (S8 r) (o:=O9 (mJ 2<|aw 2<|aw 3 mK) (T8 E) [B4 [p6 K.length,f6<|S8 r]] [sL<|kJ K++[f6<|S8 r],U<|.own<|K.map Q5,J,J,J]) λy2 y3 y4=>?_]
 . rw[bp rfl<|Bq (nM hr) hl (by rw[F4];lia)];show U (S0<|PV.dat<|B4<|K.map Q5++[Q5 r])=_;rw[show je (K++[r])=B4 (K.map Q5++[Q5 r]) by rw[je,bN];rfl]
 . rw[bp rfl (Bq (nM hr) hl (by rw[F4];lia)),
     bp rfl (Bq (nM hr) hl (by rw[F4];lia))]
theorem a9N(h:∀r∈K,eB r)(hl:K.length<=20)(rr:bD [f6 z]=sd d)(hb:K7 d=Uf\/K.length=20):V2 E [B8<|kJ K++[f6 z]]=U (O6<|dH E.t (p7 "place")<|p6 (K.length:Int)):=by
 rw[a2i h hl z (o:=U<|.up<|dH E.t (p7 "place")<|p6 K.length) λy2 y3 y4=>?_];rfl
 . show((T8 E [sL<|kJ K++[f6 z],U<|.own<|K.map Q5,iD K.length,sS z,y4]).bind _)=_;rw[b0Q rr hl hb];rfl
variable{L x:Str}{r:Ds}{h:P2}{A:Ks}{a:Option PV}{Z Y:Ds->Option Out}{E:hW}{w:Option Addr}{n:Nat}{K:List Rl}{X:Ds->Option Bool}{d:f9}
noncomputable abbrev okL:List f9:=[f6<|p7 "ok"]
abbrev dR(A:Ks)(nm:Str):List Rl:=(gy nm A).getD []
theorem KJ:Bh 0 (CJ (p7 "Desk")<|p7 "keepers") (C4 2) (M4 D0) (U (.ob w<|G5 h A)::a::sS L::r)=sd (je<|dR A L):=by
 show sd ((mx L<|mapA je A).getD<|B4 [])=_
 rw[Kh];unfold dR;cases gy L A<;>rfl
theorem GP:Eh 0 (CJ (p7 "Desk")<|p7 "keepers") (C4 2) (U (.ob w<|G5 h A)::a::sS L::r)=sd (((gy L A).map je).getD F3):=by
 show sd ((mx L<|mapA je A).getD F3)=_;rw[Kh]
theorem a3V{b c:Option PV}(hl:A.length<100000):DZ 0 (CJ (p7 "Desk")<|p7 "keepers") (Lf<|p7 "keepers") (C4 2) (C4 5) [U<|.ob w<|G5 h A,a,sS L,b,c,sd<|je K]=U (.next [U<|.ob w<|G5 h<|vq A L K,a,sS L,b,c,sd<|je K]):=by
 show(if (mapA je A).length<100000 then U (Out.next [U<|.ob w<|Lf (p7 "keepers") (G5 h A)<|Gs (mapA je A) L<|je K,a,sS L,b,c,sd<|je K])else J)=_;rw[A6 (by unfold mapA;rw[F4];exact hl),a3T,a5r]
theorem nU{t:Nat->Addr}{c c2:OD}{l:List f9}(hd:l.length<=r.length):T7 t 0 (.ob J c::l.map .dat) (U (.ob (U<|t 0) c2)::r)=U (.ob J c2)::l.map λ_=>J:=by
 show(if U (t 0)=U (t 0)then U (PV.ob J c2)else J)::T7 t 1 (l.map .dat) r=_;rw[A6 rfl]
 congr 1
 generalize 1=n;induction l generalizing r n with
 |nil=>rfl
 |cons d l ih=>cases r with
  |nil=>cases hd
  |cons x r=>exact J3 (J::·) (ih (by simpa using hd)<|n+1)
theorem qf(h:X r=U Uf):J4 X Z Y r=Z r:=by unfold J4;rw[h];rfl
theorem cq(h:X r=U U'):J4 X Z Y r=Y r:=by unfold J4;rw[h];rfl
theorem NQ{ds':Ds}{pv:PV}(h:Z r=U (.retO pv ds')):A4 Z Y r=U (.retO pv ds'):=by unfold A4;rw[h];rfl
theorem yH{ds':Ds}{b:Bool}(h:Z r=U (.upO b d ds')):A4 Z Y r=U (.upO b d ds'):=by unfold A4;rw[h];rfl
theorem eq_1:B5 (A2 J5 (C4 1)<|fC<|f6 L) (a::sS x::r)=U (decide (x=L)):=rfl
theorem a3G{r:Rl}(HA:Kp n A)(hn:n<100000)(hl:(dR A x).length<20)(hr:eB r):
  dF E [.ob J<|G5 h A,.dat<|f6 L,.dat<|f6 x,.dat<|f6<|S8 r]=U (S0<|.own okL,[U<|.ob J<|G5 h<|vq A x<|dR A x++[r],J,J,J]):=by
 have hK:∀r∈dR A x,eB r:=by
  unfold dR;cases e:gy x A with
  |none=>exact λr hr=>nomatch hr
  |some K=>exact(HA.look e).1
 refine kj rfl λt=>?_;show(A4 _ _ [U<|.ob (U<|t 0)<|G5 h A,sS L,sS x,sS<|S8 r,J,J]).bind _=_;rw[C3<|N4 (pv:=.own<|kJ<|dR A x) (by unfold A0 A7;rw[KJ];exact(yL hK<|fY B1))]
 rw[C3 (ds':=[U<|.ob (U<|t 0)<|G5 h A,sS L,sS x,sS<|S8 r,sL<|kJ<|dR A x,sd<|je<|dR A x++[r]]) (by
  show((((D5 (B8<|kJ<|dR A x)<|B8 [f6<|S8 r]).bind λa=>U [a.d]).bind λl=>(V2 E l).bind _))=_;rw[kS (by rw[F4,rh];exact D6 B1 f7)];show(V2 E [B8<|kJ (dR A x)++[f6<|S8 r]]).bind _=_
  rw[(a9O (E:=E) hK hl hr)];rfl)]
 rw[C3<|a3V (by have:=HA.len;exact bO B1 B1)];show U (S0 _,T7 t 0 (.ob J (G5 h A)::[E6 L,f6 x,f6<|S8 r].map .dat) _)=_;rw[nU C9];rfl
theorem a3F{nm:Str}(HA:Kp n A)(hL:L.length<=100000)(rr:bD [f6 x]=sd d)(hb:K7 d=Uf\/(dR A nm).length=20):
  dF E [.ob J<|G5 h A,.dat<|f6 L,.dat<|f6 nm,.dat<|f6 x]=U (O6<|dH E.l (p7 "line")<|f6 L,[U<|.ob J<|G5 h A,J,J,J]):=by
 have hK:(∀r∈dR A nm,eB r)/\(dR A nm).length<=20:=by
  unfold dR;cases e:gy nm A with
  |none=>exact And.intro (λr hr=>nomatch hr)<|lP _
  |some K=>exact HA.look e
 have sd:cD (f6 L)=Uf:=L7 hL;refine kj rfl λt=>?_;show(A4 _ _ [U<|.ob (U<|t 0)<|G5 h A,sS L,sS nm,sS x,J,J]).bind _=_;rw[C3 (ds':=[U<|.ob (U<|t 0)<|G5 h A,sS L,sS nm,sS x,sL<|kJ<|dR A nm,J])<|N4 (pv:=.own<|kJ<|dR A nm) (by unfold A0 A7;rw[KJ];exact(yL hK.1 hK.2))]
 have tr:DX cD E.t E.l (p7 "line") 5 (V2 E) (A7 (A2 D5 (C4 4)<|G4<|A7 (C4 3) D0) D0) (A7 (C4 1) D0) [U<|.ob (U<|t 0)<|G5 h A,sS L,sS nm,sS x,sL<|kJ<|dR A nm,J]=U (.upO Uf (dH E.l (p7 "line")<|f6 L) [U<|.ob (U<|t 0)<|G5 h A,sS L,sS nm,sS x,sL<|kJ<|dR A nm,J]):=by
  show((((D5 (B8<|kJ<|dR A nm)<|B8 [f6 x]).bind λz=>U [z.d]).bind λl=>(V2 E l).bind _))=_;rw[kS (by rw[F4,rh];lia)];show(V2 E [B8<|kJ (dR A nm)++[f6 x]]).bind _=_;rw[(a9N (E:=E) hK.1 hK.2 rr hb)];have ie:isExc E.t (dH E.t (p7 "place")<|p6<|(dR A nm).length)=Uf:=wO _;show(if isExc E.t (dH E.t (p7 "place")<|p6<|(dR A nm).length)=Uf then(if cD (f6 L)=Uf then U (Out.upO Uf (dH E.l (p7 "line")<|f6 L) _)else J)else J)=_;rw[A6 ie,A6 sd]
 rw[yH tr];show U (O6 _,T7 t 0 (.ob J (G5 h A)::[E6 L,f6 nm,f6 x].map .dat) _)=_;rw[nU C9];rfl
theorem UP(hm:x.length<=100000)(hk:gy x A=J):
  aH E [.ob J<|G5 h A,.dat<|f6 L,.dat<|f6 x]=U (O6<|dH E.k (p7 "name")<|f6 x,[U<|.ob J<|G5 h A,J,J]):=by
 have sd:cD (f6 x)=Uf:=L7 hm;refine kj rfl λt=>?_;show(A4 _ _ [U<|.ob (U<|t 0)<|G5 h A,U<|.dat<|f6 L,U<|.dat<|f6 x,J,J]).bind _=_;rw[C3 (ds':=[U<|.ob (U<|t 0)<|G5 h A,U<|.dat<|f6 L,U<|.dat<|f6 x,U<|.dat F3,J])<|N4 (pv:=.dat F3) (by rw[GP,hk];rfl)]
 have up:mz cD E.k (p7 "name") (A7 (C4 2) D0) [U<|.ob (U<|t 0)<|G5 h A,U<|.dat<|f6 L,U<|.dat<|f6 x,U<|.dat F3,J]=U (.upO U' (dH E.k (p7 "name")<|f6 x) [U<|.ob (U<|t 0)<|G5 h A,U<|.dat<|f6 L,U<|.dat<|f6 x,U<|.dat F3,J]):=by
  show(if cD (f6 x)=Uf then U (Out.upO U' (dH E.k (p7 "name")<|f6 x) _)else J)=_;rw[A6 sd]
 have gi:J4 (B5<|A2 cS (C4 3)<|fC F3) (mz cD E.k (p7 "name")<|A7 (C4 2) D0) D9 [U<|.ob (U<|t 0)<|G5 h A,U<|.dat<|f6 L,U<|.dat<|f6 x,U<|.dat F3,J]=_:=up;rw[yH gi];show U (O6 _,T7 t 0 (.ob J (G5 h A)::[E6 L,f6 x].map .dat) _)=_;rw[nU C9];rfl
theorem NA(HA:Kp n A)(hk:gy L A=U K):
  aH E [.ob J<|G5 h A,.dat<|f6<|p7 "keeper",.dat<|f6 L]=U (S0<|.own<|kJ K,[U<|.ob J<|G5 h A,J,J]):=by
 refine kj rfl λt=>?_;show(A4 _ _ [U<|.ob (U<|t 0)<|G5 h A,sS<|p7 "keeper",sS L,J,J]).bind _=_;rw[C3 (ds':=[U<|.ob (U<|t 0)<|G5 h A,sS<|p7 "keeper",sS L,sd<|je K,J]) (N4 (pv:=.dat<|je K) (by rw[GP,hk];rfl)),C3 rfl];rw[C3<|by rfl]
 rw[NQ (by
  show((eG [je K]).bind λpv=>U<|Out.retO pv _)=_
  rw[(yL (HA.look hk).1 (HA.look hk).2)];rfl)]
 show U (S0 _,T7 t 0 (.ob J (G5 h A)::[E6<|p7 "keeper",f6 L].map .dat) _)=_;rw[nU C9];rfl
variable{r:Ds}{w y:Str}{Z:PV ⊕ f9}{Y:Ds->Option Bool}{E:hW}{h:P2}{A:Ks}{b:Bool}{X:List Str}
theorem En{F2:Ds->Option Bool}(h:Y r=U U'):dV Y F2 r=U U':=by unfold dV;rw[h];rfl
theorem zD{F2:Ds->Option Bool}(h:Y r=U Uf)(k:F2 r=U b):dV Y F2 r=U b:=by unfold dV;rw[h];exact k
theorem Bk{F2:Ds->Option Bool}(h:Y r=U U')(k:F2 r=U b):V1 Y F2 r=U b:=by unfold V1;rw[h];exact k
theorem my{a b:Option PV}{l:List f9}:B5 (A2 J5 (A2 J2 (C4 2)<|fC<|p6 0)<|fC<|f6 y) (a::b::sL (f6 w::l)::r)=U (decide (w=y)):=by
 show(((J2 (B8 (f6 w::l))<|p6 0).bind λx=>J5 x.d<|f6 y).bind λx=>fR x.d)=_;rw[cI,ji];rfl
def a6z(E:hW):=A4 (J4 (B5<|A2 J5 (A2 J2 (C4 2)<|fC<|p6 0)<|fC<|f6 "rule") (lx "Desk" "say_rule" 0 (dF E)<|X9 (C4 1)<|X9 (A2 J2 (C4 2)<|fC<|p6 1)<|X9 (U6 bx (fC<|f6 " ")<|A7 (ai K6 (C4 2) (L5<|fC<|p6 2) Q6) D0) gm) D9)<|A4 (J4 (dV (B5<|A2 (O2 inD U3) (A2 J2 (C4 2)<|fC<|p6 0)<|fC cK)<|B5<|A2 J5 (A0 N5<|A7 (C4 2) D0)<|fC<|p6 2) (lx "Desk" "say_keeper" 0 (aH E)<|X9 (A2 J2 (C4 2)<|fC<|p6 0)<|X9 (A2 J2 (C4 2)<|fC<|p6 1) gm) D9)<|mz cD E.l "line"<|A7 (C4 1) D0
theorem SM{B:Ks}{r:PV ⊕ f9}(hw:∀x∈w::y::X,W5 x)(hl:X.length<=600)(N:Nm y)(hr:¬w=p7 "raised")(hs:∀t:Nat->Addr,(a6z E [U<|.ob (U<|t 0)<|G5 h A,sS<|T6 (w::y::X),sL<|(w::y::X).map f6]).bind (xH [.ob J<|G5 h A,.dat<|f6<|T6 (w::y::X)] t)=U (r,[U<|.ob J<|G5 h B,J])):
  L9 E [.ob J<|G5 h A,.dat<|f6<|T6 (w::y::X)]=U (r,[U<|.ob J<|G5 h B,J]):=by
 have nq:=λs hs=>b0u (a:=w) (b:=y) (r:=X) (s:=s) hs;refine kj rfl λt=>?_;rw[C3<|N4 (pv:=.own<|(w::y::X).map f6)<|uL C9 (by simp;exact D6 B1 f7) (λx hx=>(hw x hx).len)<|λx hx=>(hw x hx).no]
 rw[C3<|cq<|eq_1.trans<|J3 U<|J8<|nq "show" B9,C3<|cq<|eq_1.trans<|J3 U<|J8<|nq "best" B9,C3<|cq<|eq_1.trans<|J3 U<|J8<|nq "ranks" B9];rw[C3<|cq<|En<|my.trans<|J3 U<|J8 hr];rw[C3<|cq<|Bk (by
  left;rw[J8 (by simp;lia)]) (by left;rw[(Vc N)];left)]
 exact hs t
theorem IA{nm:Str}{i:Nat}{f:px}{Fl:Ds->Option (List AV)}{G1 G2:Ds->Option Out}{ds':Ds}{args:List PV}{t:Nat->Addr}(h:nu nm w i f Fl r=U (Z,ds'))(hG:G1 r=lx nm w i f Fl r):(A4 G1 G2 r).bind (xH args t)=U (Z,T7 t 0 args ds'):=by unfold A4;rw[hG];unfold lx;rw[h];cases Z<;>rfl
theorem Nj{B:Ks}{ns:Ds}(hw:∀x∈w::X,W5 x)(hl:X.length<=600)(N:Nm w)(hf:dF E [.ob J<|G5 h A,.dat<|f6<|T6 (p7 "rule"::w::X),.dat<|f6 w,.dat<|f6<|T6 X]=U (Z,U (.ob J<|G5 h B)::ns)):
  L9 E [.ob J<|G5 h A,.dat<|f6<|T6 (p7 "rule"::w::X)]=U (Z,[U<|.ob J<|G5 h B,J]):=by
 have hw3:∀x∈p7 "rule"::w::X,W5 x:=λx hx=>by
  rcases List.mem_cons.mp hx with rfl|hx
  exact bF B9 B9;exact hw x hx
 refine SM hw3 hl N (by rw[R6];decide) λt=>?_;generalize T6 (p7 "rule"::w::X)=L at *;refine(IA (ds':=[U<|.ob (U<|t 0)<|G5 h B,sS L,sL<|(p7 "rule"::w::X).map f6]) (pJ (l:=[f6 L,f6 w,f6<|T6 X]) rfl ?_ ⟨by rw[R6];decide,by rw[R6];decide⟩ hf)<|qf<|my.trans<|J3 U<|L7 rfl).trans ?_
 . have cf:=jy (E6 (p7 "rule")::f6 w::X.map f6) 2;simp only[X9];left;rw[show K6 (B8 (f6 (p7 "rule")::f6 w::X.map f6)) (U 2) J=U (.own<|cutD (f6 (p7 "rule")::f6 w::X.map f6) (U<|(2:Nat)) J)from rfl,cf];left;rw[show(E6 (p7 "rule")::f6 w::X.map f6).drop 2=X.map f6 from rfl,(Cq (D6 B1 f7)<|λx hx=>(hw x<|G6 _ hx).len)];rfl
 . show U (Z,T7 t 0 (.ob J (G5 h A)::[E6 L].map .dat) _)=_;rw[nU C9];rfl
theorem rl{B:Ks}{ns:Ds}(W:W5 w)(N:Nm y)(hr:¬w=p7 "raised")(hu:¬w=p7 "rule")(hk:([p7 "keeper",p7 "drop",p7 "day",p7 "costs"].any λr=>r==w)=Uf)(hf:aH E [.ob J<|G5 h A,.dat<|f6 w,.dat<|f6 y]=U (Z,U (.ob J<|G5 h B)::ns)):
  L9 E [.ob J<|G5 h A,.dat<|f6<|T6 [w,y]]=U (Z,[U<|.ob J<|G5 h B,J]):=by
 have hw:∀x∈[w,y],W5 x:=λx hx=>by
  simp only[Q7,U1,V4]at hx;rcases hx with rfl|rfl
  exact W;exact Gn N
 refine SM hw f7 N hr λt=>?_;generalize T6 [w,y]=L at *;unfold a6z;rw[C3<|cq<|my.trans<|J3 U<|J8 hu];have kw:=in_words w [p7 "keeper",p7 "drop",p7 "day",p7 "costs"];rw[hk]at kw;refine(IA (ds':=[U<|.ob (U<|t 0)<|G5 h B,sS L,sL<|[w,y].map f6]) (pJ (l:=[f6 w,f6 y]) rfl rfl ⟨by rw[R6];decide,by rw[R6];decide⟩ hf)<|qf<|zD ?_ rfl).trans ?_
 . show(((J2 (B8 [f6 w,f6 y])<|p6 0).bind λx=>(O2 inD U3) x.d cK).bind λx=>fR x.d)=_;show((O2 inD U3 (f6 w) cK).bind λx=>fR x.d)=_
   erw [kw]
   rfl
 . show U (Z,T7 t 0 (.ob J (G5 h A)::[E6 L].map .dat) _)=_;rw[nU C9];rfl
variable{z:Str}
theorem Kn{E:hW}{h:P2}{A:Ks}{K:List Rl}(hk:gy z A=U K)(L:Hl h)(hK:∀r∈K,eB r):
  aH E [.ob J<|G5 h A,.dat<|f6<|p7 "costs",.dat<|f6 z]=U (S0<|.own<|gL h K,[U<|.ob J<|G5 h A,J,J]):=by
 refine kj rfl λt=>?_;show(A4 _ _ [U<|.ob (U<|t 0)<|G5 h A,sS<|p7 "costs",sS z,J,J]).bind _=_;rw[C3 (N4 (pv:=.dat<|je K) (by rw[GP,hk];rfl)),C3 rfl];rw[C3<|by rfl];rw[C3<|by rfl];rw[C3 (ds':=[U<|.ob (U<|t 0)<|G5 h A,sS<|p7 "costs",sS z,sd<|je K,sd<|pT h K])<|N4 (pv:=.dat<|pT h K)<|by exact a1l L hK];rw[C3<|by rfl]
 have fin:kg (G4<|A7 (A0 ar<|A7 (A0 pZ<|A7 (xP (p7 "Desk") 0<|p7 "house")<|A7 (C4 4) D0) D0) D0) [U<|.ob (U<|t 0)<|G5 h A,sS<|p7 "costs",sS z,sd<|je K,sd<|pT h K]=U (.retO (.own<|gL h K) [U<|.ob (U<|t 0)<|G5 h A,sS<|p7 "costs",sS z,sd<|je K,sd<|pT h K]):=by
  show((((((pZ [O1 h,pT h K]).bind λx=>U [x.d]).bind ar).bind λx=>U [x.d]).bind _)).bind _=_;rw[a8J L];show((((ar [B4<|(mT (pM h) K).map qd]).bind λx=>U [x.d]).bind _)).bind _=_;rw[a8L L];rfl
 rw[fin];show U (S0 _,T7 t 0 (.ob J (G5 h A)::[E6<|p7 "costs",f6 z].map .dat) _)=_;rw[nU C9];rfl
def yk(z:Str):Bool:=decide (0<(lz z).length/\(lz z).length<=8)&&(lz z).all jc
theorem a2t(h:yk z=Uf):Nm z:=by unfold yk at h;rw[fu,gX]at h;exact⟨List.length_pos_iff.mp h.1.1,h.1.2,h.2⟩
theorem UC{c:Nat}:decide (c∈lz (p7 "abcdefghijklmnopqrstuvwxyz"))=jc c:=by
 cases e:jc c with
 |true=>exact L7<|GD e
 |false=>
  refine J8 λh=>?_
  rw[OH]at h;simp only[Q7,U1,V4]at h;rcases h with rfl|rfl|rfl|rfl|rfl|rfl|rfl|rfl|rfl|rfl|rfl|rfl|rfl|rfl|rfl|rfl|rfl|rfl|rfl|rfl|rfl|rfl|rfl|rfl|rfl|rfl<;>exact absurd e f7
theorem Ra(hz:z.length<=900):gg [f6 z]=sB (yk z):=by
 have hl:=M6 z;have si:∀c ds,mr (sS ⟨#[c]⟩::ds)=sB (jc c):=λc ds=>by
  have e:(O2 inD U3) (f6 ⟨#[c]⟩) (f6<|p7 "abcdefghijklmnopqrstuvwxyz")=sB (jc c):=by
   show sB (zT (p7 "abcdefghijklmnopqrstuvwxyz") ⟨#[c]⟩)=_;rw[jz,UC]
  exact e
 have cm:∀ds:Ds,U7 M0 M3 mr ds ((lz z).map λc=>f6 ⟨#[c]⟩)=U ((lz z).map λc=>E5<|jc c):=λds=>comp_map λc _=>⟨.dat<|E5<|jc c,si c ds,rfl⟩
 have al:yb [B8<|(lz z).map λc=>E5<|jc c]=sB ((lz z).all jc):=by
  have e:((lz z).map λc=>zO<|jc c)=((lz z).map jc).map E5:=by rw[cX];rfl
  show(boolsOf<|(lz z).map λc=>zO<|jc c).bind _=_;rw[e,qg];simp
 unfold yk gg;left;rw[jv<|D6 B1 f7,show ft=p6 8 from rfl];left;rw[<-hl];by_cases c:0<z.length/\z.length<=8
 . rw[A6 (A3:(0:Int)<z.length/\(z.length:Int)<=8),show signs z=(lz z).map λc=>f6 ⟨#[c]⟩from rfl,A6 (by rw[F4];exact D6 (hl▸hz) f7),cm];left;rw[al,L7 c];left
 rw[B2 (A3:¬((0:Int)<z.length/\(z.length:Int)<=8)),J8 c];rfl
theorem a5I{y0:Option PV}(c:Nat):av [y0,sS ⟨#[c]⟩]=if jc c=Uf then U (.next [y0,sS ⟨#[c]⟩])else U<|.ret<|.dat<|E5 U':=by
 have e:(O2 U5 R8) (f6 ⟨#[c]⟩) (f6<|p7 "abcdefghijklmnopqrstuvwxyz")=sB (!jc c):=by
  show sB (!Txt.contains (p7 "abcdefghijklmnopqrstuvwxyz") ⟨#[c]⟩)=_;rw[jz,UC]
 unfold av;left;rw[e];cases jc c<;>rfl
theorem HS{y0:Option PV}:∀(l:List Nat) (y:Option PV),(l.all jc=Uf->∃y',O9 (K5 1) av (l.map λc=>f6 ⟨#[c]⟩) [y0,y]=U (.next [y0,y']))/\(l.all jc=U'->O9 (K5 1) av (l.map λc=>f6 ⟨#[c]⟩) [y0,y]=U (.ret<|.dat<|E5 U'))
 | [],y=>⟨λ_=>⟨y,rfl⟩,λh=>by cases h⟩
 |c::l,y=>by
  have st:av [y0,sS ⟨#[c]⟩]=_:=a5I c;cases e:jc c with
  |true=>
   rw[e,A6 rfl]at st;have f:O9 (K5 1) av ((c::l).map λc=>f6 ⟨#[c]⟩) [y0,y]=O9 (K5 1) av (l.map λc=>f6 ⟨#[c]⟩) [y0,sS ⟨#[c]⟩]:=bp rfl st;rw[f,fZ,e,lR];exact(HS (y0:=y0) l<|sS ⟨#[c]⟩)
  |false=>
   rw[e,B2 f7]at st;rw[fZ,e,oF];refine⟨λh=>(by cases h),λ_=>?_⟩;show((av [y0,sS ⟨#[c]⟩]).bind _)=_;rw[st];rfl
theorem Nx(hz:z.length<=900):gr [f6 z]=sB (yk z):=by
 have:=M6 z;have fr:=HS (y0:=sS z) (lz z) J;unfold yk gr;left;rw[show signs z=(lz z).map λc=>f6 ⟨#[c]⟩from rfl]
 cases e:(lz z).all jc with
 |false=>
  rw[fr.2 e,oE];rfl
 |true=>
  obtain⟨y',e'⟩:=fr.1 e;rw[e'];left;rw[jv<|D6 B1 f7];left;exact J3 (λb=>sB b)<|decide_eq_decide.mpr G0
variable{a:Str}{h:P2}
def Bn(h:P2)(a b:Str):Prop:=∃(i:Nat) (hi:i<h.hs.length) (m:Int),lz a=ax (i:Int)/\lz b=ax m/\0<=m/\m<=1000000/\h.hs[i].W0+m<=1000000
abbrev yn(n:Nat):List Str:=(Z4 n).map λi=>F5 (0+(i:Nat):Int)
theorem a5e(H:H5 h){x1 x2 x3 x4 x5 x6:Option PV}:(Y8 (jg rm<|A7 (A0 N5<|A7 (A2 J2 (C4 0)<|fC<|.int 0) D0) D0) M0 M3 iy) [sd<|O1 h,x1,x2,x3,x4,x5,x6]=U (.own<|(yn h.hs.length).map .str):=by
 have:=H.hl;have cm:∀ds,U7 M0 M3 iy ds (pE 0 h.hs.length)=U ((Z4 h.hs.length).map λi=>.str<|F5<|0+i):=λds=>CK λi hi=>⟨.dat<|.str<|F5<|0+i,Bs V8 A3,rfl⟩;left;rw[uQ];left;rw[F4,mM A3,FG];left;rw[A6 (by simp[pE];exact D6 B1 f7),cm,cX];rfl
theorem b0z{n:Nat}(h:a∈yn n):(yn n).idxOf a<n/\lz a=ax (((yn n).idxOf a:Nat):Int):=by have d:=(XZ).2 h;have e:=List.getElem_idxOf d;generalize (yn n).idxOf a=k at *;rw[F4,oI]at d;refine⟨d,?_⟩;rw[<-e];simp only[List.getElem_map,List.getElem_range,LJ];exact eM _
theorem Vq:W2 (lz a)=J\/∃q,W2 (lz a)=U q/\(q.2=1->lz a=ax q.1):=by
 cases e:W2 (lz a)with
 |none=>exact B3 rfl
 |some q=>
  refine B6 ⟨q,rfl,λh=>?_⟩;rw[<-Oe e,sf (by rw[h];decide),A6 h]
theorem Np(H:H5 h){b:Str}(hb:b.length<=900)(no:¬Bn h a b):pW [O1 h,B8 [f6 a,f6 b]]=sd F3:=by
 have:=H.hl;show(A4 _ _ [sd<|O1 h,sL [f6 a,f6 b],J,J,J,J,J]).bind dG=_
 rw[C3<|N4<|a5e H];rw[C3<|N4 (pv:=.dat<|BJ<|W2<|lz b)<|iT (z:=b)<|D6 B1 f7];have ni:=AU (w:=a) (l:=yn h.hs.length);have hi:a∈yn h.hs.length->vY (B8<|(yn h.hs.length).map f6) [f6 a]=iD ((yn h.hs.length).idxOf a):=λm=>by
  have so:∀l:List Str,strsOf (l.map f6)=U l:=λl=>by
   induction l with
   |nil=>rfl
   |cons x r ih=>show((strsOf<|r.map f6).bind _)=_;rw[ih];rfl
  show((strsOf<|(yn h.hs.length).map f6).bind _)=_;rw[so];show(if _ then _ else _)=_;rw[A6 ⟨m,by simp;exact D6 B1 f7⟩]
 have ix:a∈yn h.hs.length->_:=λm=>b0z m
 generalize yn h.hs.length=L at *;have stop:∀{T:Ds->Option Bool}{G:Ds->Option Out}{ds:Ds},T ds=U Uf->(A4 (J4 T (D7<|fC F3) D9) G ds).bind dG=sd F3:=λh=>by unfold A4;rw[qf h];rfl
 by_cases m:a∈L
 . rw[L7 m]at ni;obtain⟨k0,k1⟩:=ix m;generalize L.idxOf a=k at *;rcases Vq with e|⟨⟨t,u⟩,e,hq⟩
   rw[e];refine stop ?_;unfold BJ;left;rw[ni];left
   . rw[e];unfold BJ;by_cases c1:u=1
     . subst c1;by_cases c2:t<0;refine stop ?_;left;rw[ni];left;simp[c2]
       . have:=(H.hs _<|jS k0).W0.1;have far:1000000<h.hs[k].W0+t:=by
          by_cases c3:t<=1000000;exact Int.not_le.mp λz=>no ⟨k,k0,t,k1,(hq rfl),A3,c3,z⟩;lia
         rw[C3 (by
          rw[cq (by left;rw[ni];left;simp[c2])]
          rfl)]
         rw[C3<|N4 (pv:=.dat<|p6 k)<|hi m];rw[C3<|N4 (pv:=.dat<|G3 h.hs[k]) (by
          show J2 (B4<|h.hs.map G3) (p6 k)=_
          rw[vV,Lp G3 V8 G0];rfl)]
         refine stop ?_;show U (decide (1000000<h.hs[k].W0+t))=_;rw[L7 far]
     refine stop ?_;left;rw[ni];left;simp[c1]
 rw[J8 m]at ni;refine stop ?_;left;rw[ni];left
variable{z:Str}{Z:List Str}{Y:Ds->Option PV}{b:Bool}
theorem KW:∀(ts:List Str) (n:Nat),ts.foldl (λa t=>a+t.length+1) n=n+(ts.map (·.length)).sum+ts.length
 | [],n=>by rfl
 |t::ts,n=>by
  rw[VY,KW ts,K3,EM,L3];lia
theorem OO{ws:List Str}(h:(T6 ws).length<=900):bx (f6<|p7 " ") [B8<|ws.map f6]=sS (T6 ws):=by
 show((strsOf<|ws.map f6).bind λts=>if jF (p7 " ") ts=Uf then sd (E6<|aR (p7 " ") ts)else J)=_
 rw[xw,Dc];have:(T6 ws).length=(ws.map (·.length)).sum+(ws.length-1)*1:=size_glued ⟨#[32]⟩ ws;have hj:jF ⟨#[32]⟩ ws=Uf:=by
  have:=KW ws 0;unfold jF;rw[WK];show(!decide (ws.foldl (λa t=>a+t.length+1) 0>G7))=Uf;have:92000<=G7:=f7;rw[J8 A3];rfl
 simp only[P0,hj];rfl
theorem a7O(z:Str):T6 (gu z)=z:=(show T6 (gu z)=oo ⟨#[32]⟩ (gu z)from glued_eq_join _ _).trans<|join_split z ⟨#[32]⟩
theorem a3u{nm:Str}:∃p,lz (T6 (z::nm::Z))=p++lz (T6 Z):=by
 rw[qE,qE];cases Z with
 |nil=>exact⟨_,(bA _).symm⟩
 |cons v r=>exact⟨lz z++(32::lz nm++[32]),C9⟩
theorem wj.tail{w nm:Str}(h:wj z)(e:gu z=w::nm::Z):wj<|T6 Z:=by obtain⟨p,t⟩:=a3u;rw[<-e,a7O]at t;have l:=J3 EF t;rw[R5,<-M6,<-M6]at l;exact⟨by have:=h.len;lia,λc hc=>h.ok c (by rw[t];exact S5 _ hc)⟩
noncomputable def kq:List Str:=[p7 "keeper",p7 "drop",p7 "day",p7 "costs"]
noncomputable def Ng:List Str:=[p7 "show",p7 "best",p7 "ranks"]
structure a9e(h:P2)(z:Str):Prop where
 b1I:z∉Ng
 b0q:∀a b,gu z=[p7 "raised",a,b]->¬Bn h a b
 b0r:∀w nm ws,gu z=w::nm::ws->¬(w=p7 "raised"/\ws.length=1)->yk nm=Uf->(w=p7 "rule"->qc (gu<|T6 ws)=U')/\(w∈kq->ws≠[])
theorem Vh{n:Int}(h0:0<=n)(h1:n<=1000000)(e:lz z=ax n):(qD intD jf) [f6 z]=iD n:=by
 have ez:lz z=bB n.natAbs:=by rw[e,Cy h0]
 have:(bB n.natAbs).length<=7:=(pI f7).mpr<|bO (A3:n.natAbs<=1000000) f7;rw[Cz (by rw[ez];exact bC _) (by rw[ez];exact Gz _) (by rw[ez];exact D6 B1 f7),ez,sV];rw[(A3:n.natAbs=n)]
theorem Cw{n m:Int}(hn:n.natAbs<10^60)(hm:m.natAbs<10^60)(e:ax n=ax m):n=m:=by have a:=ka hn;rw[e,ka hm]at a;cases a;rfl
abbrev DC(h:P2)(z:Str)(ws:List Str)(x:Option PV):Ds:=[sd<|O1 h,sS z,sL<|ws.map f6,x]
theorem Qk{ds:Ds}(e:Y ds=sB b):(D7 Y ds).bind dG=sB b:=by unfold D7;rw[e];rfl
theorem vG{T:Ds->Option Bool}{G:Ds->Option Out}{ds:Ds}(t:T ds=U Uf)(e:Y ds=sB b):(A4 (J4 T (D7 Y) D9) G ds).bind dG=sB b:=by unfold A4;rw[qf t];unfold D7;rw[e];rfl
theorem Nq{h:P2}(H:H5 h)(Z:wj z){a b:Str}(e:gu z=[p7 "raised",a,b]):
  ∃o,((A4 (J4 (V1 (ip<|B5<|A0 W9<|A7 (A2 J2 (C4 2)<|fC<|p6 1)<|A7 (fC<|E5 U') D0)<|ip<|B5<|A0 W9<|A7 (A2 J2 (C4 2)<|fC<|p6 2)<|A7 (fC<|E5 U') D0) (D7<|fC<|E5 U') D9)<|A4 (B0 3<|A0 (qD intD jf)<|A7 (A2 J2 (C4 2)<|fC<|p6 1) D0)<|D7<|pO (A2 jd (C4 3)<|A0 N5<|A7 (A2 J2 (C4 0)<|fC<|p6 0) D0)<|A2 pq (A2 D5 (A2 J2 (A2 J2 (A2 J2 (C4 0)<|fC<|p6 0)<|C4 3)<|fC<|p6 0)<|A0 (qD intD jf)<|A7 (A2 J2 (C4 2)<|fC<|p6 2) D0)<|fC<|p6 1000000)<|DC h z (gu z) J).bind dG=sB o/\(o=U'->¬Bn h a b):=by
 obtain⟨kl,kw⟩:=Z.wz;rw[e]at kw|-;have na:=Cv (z:=a) (b:=U') (kw a C9).1;have nb:=Cv (z:=b) (b:=U') (kw b C9).1;have yes:Bn h a b->fA (lz a) U'=Uf/\fA (lz b) U'=Uf:=λ⟨i,hi,m,ea,eb,h0,h1,_⟩=>⟨JT ea (by show(0:Int)<=i;simp_all) (by have:=H.hl;lia),JT eb h0 h1⟩
 cases ca:fA (lz a) U' with
 |false=>
  refine⟨U',vG ?_ rfl,λ_ g=>by have:=(yes g).1;rw[ca]at this;cases this⟩;rw[ca]at na;left;rw[na];left
 |true=>
  cases cb:fA (lz b) U' with
  |false=>
   refine⟨U',vG ?_ rfl,λ_ g=>by have:=(yes g).2;rw[cb]at this;cases this⟩;rw[ca]at na;rw[cb]at nb;left;rw[na];left;rw[nb];left
  |true=>
   obtain⟨n,en,n0,n1,_⟩:=Gy ca;obtain⟨m,em,m0,m1,_⟩:=Gy cb;have n0:0<=n:=n0;rw[ca]at na;rw[cb]at nb;rw[C3 (by
    rw[cq (by left;rw[na];left;rw[nb];left)]
    rfl),C3 (ds':=DC h z [p7 "raised",a,b]<|iD n)<|N4 (pv:=.dat<|p6 n)<|Vh n0 n1 en]
   have lt:A2 jd (C4 3) (A0 N5<|A7 (A2 J2 (C4 0)<|fC<|p6 0) D0) (DC h z [p7 "raised",a,b]<|iD n)=sB (decide (n<h.hs.length)):=by left;rw[uQ];left;rw[F4]
   by_cases c:n<h.hs.length
   . obtain⟨k,rfl⟩:∃k:Nat,n=k:=⟨n.toNat,((Aq B1).symm)⟩;refine⟨decide (h.hs[k].W0+m<=1000000),Qk ?_,λq g=>?_⟩
     . unfold pO B5;rw[lt,L7 c];have s0:((J2 (O1 h)<|p6 0).bind λx=>J2 x.d<|p6 k)=sd (G3 h.hs[k]):=by
        show J2 (B4<|h.hs.map G3) (p6 k)=_;rw[vV,Lp G3 G0 G0];rfl
       show((((((J2 (O1 h)<|p6 0).bind λx=>J2 x.d<|p6 k).bind λx=>J2 x.d<|p6 0).bind λx=>(((qD intD jf) [f6 b]).bind λy=>D5 x.d y.d))).bind λx=>pq x.d<|p6 1000000)=_;rw[s0,(Vh m0 m1 em)];rfl
     . obtain⟨i,hi,m',ea,eb,h0,h1,s⟩:=g;rw[en]at ea;rw[em]at eb;have e1:=Cw (by have:=H.hl;exact bO (A3:_<=24) f7) (by have:=H.hl;exact bO (A3:_<=24) f7) ea;have e2:=Cw (bO (G0:_<=1000000) f7) (bO (A3:_<=1000000) f7) eb;have e1:k=i:=A3;subst e1 e2;exact absurd s<|of_decide_eq_false q
   . refine⟨U',Qk ?_,λ_ ⟨i,hi,m',ea,eb,h0,h1,s⟩=>?_⟩;unfold pO B5;rw[lt,J8 c];rfl
     . rw[en]at ea;have:=Cw (bO (G0:_<=1000000) f7) (by have:=H.hl;exact bO (A3:_<=24) f7) ea
       simp_all
variable{w:Str}{l:List f9}
theorem QX{ws:List Str}{r:Ds}{a b:Option PV}:A0 N5 (A7 (C4 2) D0) (a::b::sL (ws.map f6)::r)=iD (ws.length:Nat):=by left;rw[F4]
theorem a2x:J2 (B8 (f6 w::l)) (p6 0)=sS w:=by rw[cI,ji];rfl
theorem a2w{v:Str}:J2 (B8 (f6 w::f6 v::l)) (p6 1)=sS v:=by
 rw[cI,show(1:Int)=((1:Nat))from rfl,gP rfl C9];rfl
theorem a3E{T:Ds->Option Bool}{A G:Ds->Option Out}{ds:Ds}{b:Bool}(t:T ds=U Uf)(e:(A ds).bind dG=sB b):(A4 (J4 T A D9) G ds).bind dG=sB b:=by
 unfold A4;rw[qf t];cases q:A ds with
 |none=>rw[q]at e;cases e
 |some o=>
  rw[q]at e;cases o with
  |ret pv=>exact e
  |_=>cases e
theorem Vd{h:P2}{z:Str}(H:H5 h)(Z:wj z):∃o,mm [O1 h,f6 z]=sB o/\(o=U'->a9e h z):=by
 obtain⟨kl,kw⟩:=Z.wz;have hne:=yC z;show ∃o,(A4 _ _ [sd<|O1 h,sS z,J,J]).bind dG=_/\_
 rw[C3<|N4 (pv:=.own<|(gu z).map f6)<|xy Z];have t1:(B5<|A2 (O2 inD U3) (C4 1)<|G4<|A7 (fC<|f6 "show")<|A7 (fC<|f6 "best")<|A7 (fC<|f6 "ranks") D0) (DC h z (gu z) J)=U (decide (z∈Ng)):=by
  show(((O2 inD U3) (f6 z)<|B8<|Ng.map f6).bind λx=>fR x.d)=_;rw[(KH (w:=z) (l:=Ng))];rfl
 by_cases ca:z∈Ng;exact⟨Uf,vG (t1.trans<|J3 U<|L7 ca) rfl,λq=>by cases q⟩
 rw[C3<|cq<|t1.trans<|J3 U<|J8 ca];cases hw:gu z with
 |nil=>exact absurd hw hne
 |cons w r=>
 have l3:∀{x:Option PV},(B5<|A2 J5 (A0 N5<|A7 (C4 2) D0)<|fC<|p6 3) (DC h z (w::r) x)=U (decide (((w::r).length:Int)=3)):=by intro x;unfold B5 A2;rw[QX];rfl
 have t2:(dV (B5<|A2 J5 (A2 J2 (C4 2)<|fC<|p6 0)<|fC<|f6 "raised")<|B5<|A2 J5 (A0 N5<|A7 (C4 2) D0)<|fC<|p6 3) (DC h z (w::r) J)=U (decide (w=p7 "raised"/\r.length=2)):=by
  by_cases c:w=p7 "raised";exact(zD (b:=decide (r.length=2)) (my.trans<|J3 U<|L7 c)<|l3.trans<|J3 U<|decide_eq_decide.mpr (by rw[L3];lia)).trans (by simp[c]);exact(En<|my.trans<|J3 U<|J8 c).trans (by simp[c])
 by_cases c2:w=p7 "raised"/\r.length=2
 . obtain⟨rfl,c3⟩:=c2;obtain⟨a,b,rfl⟩:∃a b,r=[a,b]:=by
    match r,c3 with
    | [a,b],_=>exact⟨a,b,rfl⟩
   obtain⟨o,e,no⟩:=Nq H Z hw;refine⟨o,?_,λq=>⟨ca,λa' b' e'=>?_,λw' nm ws e' n=>?_⟩⟩;rw[hw]at e;exact a3E (t2.trans<|J3 U<|L7 ⟨rfl,rfl⟩) e
   . rw[hw]at e';injection e' with _ e'
     injection e' with e1 e'
     injection e' with e2 e'
     subst e1 e2;exact no q
   . rw[hw]at e';injection e' with e1 e'
     injection e' with e2 e'
     subst e1 e2 e';exact absurd ⟨rfl,rfl⟩ n
 rw[C3<|cq<|t2.trans<|J3 U<|J8 c2];have n3:∀a b,gu z=[p7 "raised",a,b]->¬Bn h a b:=λa b e=>by
  rw[hw]at e;injection e with e1 e2
  exact absurd ⟨e1,by rw[e2];rfl⟩ c2
 cases r with
 |nil=>
  refine⟨U',vG ?_ rfl,λ_=>⟨ca,n3,λw' nm ws e'=>?_⟩⟩;unfold V1 B5 A2;rfl
  . rw[hw]at e';injection e' with _ e'
    cases e'
 |cons nm ws=>
 have t3:(V1 (B5<|A2 jd (A0 N5<|A7 (C4 2) D0)<|fC<|p6 2)<|ip<|B5<|A0 gr<|A7 (A2 J2 (C4 2)<|fC<|p6 1) D0) (DC h z (w::nm::ws) J)=U (!yk nm):=by
  refine Bk ?_ ?_
  . unfold B5 A2;show U (decide (((w::nm::ws).length)<2))=_;rw[J8 (by rw[L3,L3];simp_all)]
  . show(((((J2 (B8 (f6 w::f6 nm::ws.map f6))<|p6 1).bind λx=>U [x.d]).bind gr).bind λx=>fR x.d).bind λb=>U<|!b)=_;rw[a2w];show(((gr [f6 nm]).bind λx=>fR x.d).bind λb=>U<|!b)=_;rw[(Nx<|(kw nm (by rw[hw];simp)).1)];rfl
 cases cn:yk nm with
 |false=>
  rw[cn]at t3;refine⟨U',vG t3 rfl,λ_=>⟨ca,n3,λw' nm' ws' e' _ n=>?_⟩⟩
  rw[hw]at e';injection e' with e1 e'
  injection e' with e2 e'
  rw[<-e2,cn]at n;cases n
 |true=>
 rw[cn]at t3;rw[C3<|cq t3];have zt:=Z.tail hw;by_cases cr:w=p7 "rule"
 . refine⟨qc<|gu<|T6 ws,vG (my.trans<|J3 U<|L7 cr) ?_,λq=>⟨ca,n3,λw' nm' ws' e' _ n=>?_⟩⟩
   . have cf:=jy (E6 w::f6 nm::ws.map f6) 2;show((((K6 (B8 (f6 w::f6 nm::ws.map f6)) (U 2) J).bind λx=>U [x.d]).bind λl=>bx (f6<|p7 " ") l).bind λx=>U [x.d]).bind iW=_;rw[show K6 (B8 (f6 w::f6 nm::ws.map f6)) (U 2) J=U (.own<|cutD (f6 w::f6 nm::ws.map f6) (U<|(2:Nat)) J)from rfl,cf];show(((bx (f6<|p7 " ") [B8<|ws.map f6]).bind λx=>U [x.d]).bind iW)=_;rw[(OO (ws:=ws) (by have:=zt.len;exact D6 B1 f7))];exact(Vb zt)
   . rw[hw]at e';injection e' with e1 e'
     injection e' with e2 e'
     subst e1 e2 e';refine⟨λ_=>q,λk=>?_⟩;rw[cr]at k;exact absurd k B9
 rw[C3<|cq<|my.trans<|J3 U<|J8 cr];refine⟨decide (w∈kq)&&decide (ws=[]),Qk ?_,λq=>⟨ca,n3,λw' nm' ws' e' _ n=>?_⟩⟩
 . have k1:B5 (A2 (O2 inD U3) (A2 J2 (C4 2)<|fC<|p6 0)<|G4<|A7 (fC<|f6 "keeper")<|A7 (fC<|f6 "drop")<|A7 (fC<|f6 "day")<|A7 (fC<|f6 "costs") D0) (DC h z (w::nm::ws) J)=U (decide (w∈kq)):=by
     show(((J2 (B8 (f6 w::(nm::ws).map f6))<|p6 0).bind λx=>(O2 inD U3) x.d<|B8<|kq.map f6).bind λx=>fR x.d)=_;rw[a2x];show(((O2 inD U3) (f6 w)<|B8<|kq.map f6).bind λx=>fR x.d)=_;rw[(KH (w:=w) (l:=kq))];rfl
   refine(J3 (λo=>Option.bind o _) k1).trans ?_;show(if decide (w∈kq)=Uf then A2 J5 (A0 N5<|A7 (C4 2) D0) (fC<|p6 2) (DC h z (w::nm::ws) J)else sB U')=_
   cases decide (w∈kq)with
   |false=>rfl
   |true=>
    unfold A2;rw[QX];show sB (decide (((w::nm::ws).length:Int)=2))=_;rw[decide_eq_decide.mpr (show((w::nm::ws).length:Int)=2↔ws=[] by rw[L3,L3,<-List.length_eq_zero_iff];lia)];rfl
 . rw[hw]at e';injection e' with e1 e'
   injection e' with e2 e'
   subst e1 e2 e';refine⟨λk=>absurd k cr,λk e=>?_⟩;rw[L7 k,L7 e]at q;cases q
variable{E:hW}{z:Str}{r:Ds}{h:P2}{A:Ks}
abbrev nQ(E:hW)(z:Str):f9:=dH E.l (p7 "line")<|f6 z
theorem AG{a:Option PV}(hz:z.length<=100000):mz cD E.l (p7 "line") (A7 (C4 1) D0) (a::sS z::r)=U (.upO U' (nQ E z) (a::sS z::r)):=by
 have sd:cD (f6 z)=Uf:=L7 hz;show(if cD (f6 z)=Uf then U (Out.upO U' (nQ E z) _)else J)=_;rw[A6 sd]
theorem Ee{t:Nat->Addr}{l:List f9}{b:Bool}{x:f9}(hl:l.length<=r.length):(U<|Out.upO b x (U (.ob (U<|t 0)<|G5 h A)::r)).bind (xH (.ob J (G5 h A)::l.map .dat) t)=U (O6 x,U (.ob J<|G5 h A)::l.map λ_=>J):=by
 show U (O6 _,T7 t 0 (.ob J (G5 h A)::l.map .dat) _)=_;rw[nU hl]
theorem SY(H:H5 h){a b:Str}(hz:z.length<=100000)(hb:b.length<=900)(no:¬Bn h a b):kU E [.ob J<|G5 h A,.dat<|f6 z,.dat<|B8 [f6 a,f6 b]]=U (O6<|nQ E z,[U<|.ob J<|G5 h A,J,J]):=by
 refine kj rfl λt=>?_;rw[C3 (ds':=[U<|.ob (U<|t 0)<|G5 h A,sS z,sL [f6 a,f6 b],sd F3])<|N4 (pv:=.dat F3)<|by exact Np H hb no];rw[yH<|show J4 (B5<|A2 cS (C4 3)<|fC F3) (mz cD E.l (p7 "line")<|A7 (C4 1) D0) D9 [U<|.ob (U<|t 0)<|G5 h A,sS z,sL [f6 a,f6 b],sd F3]=_ from AG hz];exact Ee (l:=[f6 z,B8 [f6 a,f6 b]])<|EV _ _
theorem b0N{F1 F2:Ds->Option Bool}(h:F1 r=U Uf):V1 F1 F2 r=U Uf:=by unfold V1;rw[h];rfl
theorem Zj{n:Nat}(HA:Kp n A)(H:H5 h)(Z:wj z)(N:a9e h z):L9 E [.ob J<|G5 h A,.dat<|f6 z]=U (O6<|nQ E z,[U<|.ob J<|G5 h A,J]):=by
 obtain⟨kl,kw⟩:=Z.wz;have hz:z.length<=100000:=by have:=Z.len;exact D6 B1 f7
 have na:=N.b1I;refine kj rfl λt=>?_;rw[C3<|N4 (pv:=.own<|(gu z).map f6)<|xy Z];rw[C3 (cq<|eq_1.trans<|J3 U<|J8 λe=>na (by rw[e];exact K9)),C3 (cq<|eq_1.trans<|J3 U<|J8 λe=>na (by rw[e];exact G6 _ K9)),C3<|cq<|eq_1.trans<|J3 U<|J8 λe=>na (by rw[e];exact G6 _<|G6 _ K9)]
 cases hw:gu z with
 |nil=>exact absurd hw<|yC z
 |cons w r=>
 have ln:∀{ws:List Str}{a b:Option PV}{k:Int},(B5<|A2 J5 (A0 N5<|A7 (C4 2) D0)<|fC<|p6 k) [a,b,sL<|ws.map f6]=U (decide (ws.length=k)):=by intro ws a b k;unfold B5 A2;rw[QX];rfl
 by_cases c2:w=p7 "raised"/\r.length=2
 . obtain⟨rfl,c3⟩:=c2;obtain⟨a,b,rfl⟩:∃a b,r=[a,b]:=by
    match r,c3 with
    | [a,b],_=>exact⟨a,b,rfl⟩
   refine(IA (ds':=[U<|.ob (U<|t 0)<|G5 h A,sS z,sL<|[p7 "raised",a,b].map f6]) (pJ (l:=[f6 z,B8 [f6 a,f6 b]]) rfl ?_ ⟨by rw[R6];decide,by rw[R6];decide⟩<|SY H hz (kw b (by rw[hw];simp)).1<|N.b0q a b hw)<|qf<|zD (my.trans<|J3 U<|L7 rfl)<|(ln (ws:=[p7 "raised",a,b])).trans<|J3 U<|L7 rfl).trans ?_;have cf:=jy [E6<|p7 "raised",f6 a,f6 b] 1;left;rfl
   . show U (O6<|nQ E z,T7 t 0 (.ob J (G5 h A)::[E6 z].map .dat) _)=_;rw[nU C9];rfl
 have t2:(dV (B5<|A2 J5 (A2 J2 (C4 2)<|fC<|p6 0)<|fC<|f6 "raised")<|B5<|A2 J5 (A0 N5<|A7 (C4 2) D0)<|fC<|p6 3) [U<|.ob (U<|t 0)<|G5 h A,sS z,sL<|(w::r).map f6]=U U':=by
  by_cases c:w=p7 "raised";exact zD (my.trans<|J3 U<|L7 c) (ln.trans<|J3 U<|J8 (by rw[L3];exact λe=>c2 ⟨c,A3⟩));exact En<|my.trans<|J3 U<|J8 c
 rw[C3<|cq t2];cases r with
 |nil=>
  rw[yH<|(qf<|b0N<|(ln (k:=1)).trans<|J3 U<|L7 rfl).trans<|AG hz];exact Ee (l:=[f6 z])<|EV _ _
 |cons nm ws=>
 have t3:(V1 (B5<|A2 J5 (A0 N5<|A7 (C4 2) D0)<|fC<|p6 1)<|ip<|B5<|A0 gg<|A7 (A2 J2 (C4 2)<|fC<|p6 1) D0) [U<|.ob (U<|t 0)<|G5 h A,sS z,sL<|(w::nm::ws).map f6]=U (!yk nm):=by
  refine Bk (ln.trans<|J3 U<|J8 (by rw[L3,L3];lia)) ?_;show(((((J2 (B8 (f6 w::f6 nm::ws.map f6))<|p6 1).bind λx=>U [x.d]).bind gg).bind λx=>fR x.d).bind λb=>U<|!b)=_;rw[a2w];show(((gg [f6 nm]).bind λx=>fR x.d).bind λb=>U<|!b)=_;rw[(Ra (kw nm (by rw[hw];simp)).1)];rfl
 cases cn:yk nm with
 |false=>
  rw[cn]at t3;rw[yH<|(qf t3).trans<|AG hz];exact Ee (l:=[f6 z])<|EV _ _
 |true=>
 rw[cn]at t3;rw[C3<|cq t3];obtain⟨kr,kk⟩:=N.b0r w nm ws hw (λe=>c2 ⟨e.1,by rw[L3,e.2]⟩) cn;by_cases cr:w=p7 "rule"
 . have zt:=Z.tail hw;obtain⟨d,rr,hd⟩:=Zo zt;rw[kr cr]at hd;subst cr;refine(IA (ds':=[U<|.ob (U<|t 0)<|G5 h A,sS z,sL<|(p7 "rule"::nm::ws).map f6]) (pJ (l:=[f6 z,f6 nm,f6<|T6 ws]) rfl ?_ ⟨by rw[R6];decide,by rw[R6];decide⟩<|a3F (E:=E) (h:=h) (nm:=nm) HA hz rr<|B3 hd)<|qf<|my.trans<|J3 U<|L7 rfl).trans ?_
   . have cf:=jy (E6 (p7 "rule")::f6 nm::ws.map f6) 2;simp only[X9];left;rw[show K6 (B8 (f6 (p7 "rule")::f6 nm::ws.map f6)) (U 2) J=U (.own<|cutD (f6 (p7 "rule")::f6 nm::ws.map f6) (U<|(2:Nat)) J)from rfl,cf];left;rw[show(E6 (p7 "rule")::f6 nm::ws.map f6).drop 2=ws.map f6 from rfl,(OO (ws:=ws) (by have:=zt.len;exact D6 B1 f7))];rfl
   . show U (O6<|nQ E z,T7 t 0 (.ob J (G5 h A)::[E6 z].map .dat) _)=_;rw[nU C9];rfl
 rw[C3<|cq<|my.trans<|J3 U<|J8 cr];have k1:(B5<|A2 (O2 inD U3) (A2 J2 (C4 2)<|fC<|p6 0)<|fC cK) [U<|.ob (U<|t 0)<|G5 h A,sS z,sL<|(w::nm::ws).map f6]=U (decide (w∈kq)):=by
  show(((J2 (B8 (f6 w::(nm::ws).map f6))<|p6 0).bind λx=>(O2 inD U3) x.d<|B4<|kq.map f6).bind λx=>fR x.d)=_;rw[a2x];show(((O2 inD U3) (f6 w)<|B4<|kq.map f6).bind λx=>fR x.d)=_;rw[(Ri (w:=w) (l:=kq))];rfl
 have k2:(dV (B5<|A2 (O2 inD U3) (A2 J2 (C4 2)<|fC<|p6 0)<|fC cK)<|B5<|A2 J5 (A0 N5<|A7 (C4 2) D0)<|fC<|p6 2) [U<|.ob (U<|t 0)<|G5 h A,sS z,sL<|(w::nm::ws).map f6]=U U':=by
  by_cases c:w∈kq;have:=kk c;exact zD (k1.trans<|J3 U<|L7 c) (ln.trans<|J3 U<|J8 (by rw[L3,L3];exact λe=>this<|List.length_eq_zero_iff.mp A3));exact En<|k1.trans<|J3 U<|J8 c
 rw[C3<|cq k2,AG hz];exact Ee (l:=[f6 z])<|EV _ _
theorem jo{n:Int}(h:yw n):Z5 [p6 n]=sS (F5 n):=by
 have w:=nI (p:=(n,1)) ⟨(AX h),(f7:(1:Int).natAbs<10^60),show 0<1 by decide⟩
 have e:T4 (n,1)=F5 n:=by unfold T4;rw[A6 rfl]
 rw[e]at w;unfold Z5;left;rw[show bM [p6 n,p6 1]=fr (n,1)from rfl,w];left
theorem IU{n:Int}{w:Wk}(H:yr n w)(hn:n<=24):qh [P6 w]=sS (T6<|fg w):=by
 have a2:=H.N0;have a3:=H.first;have a4:=H.fl;have a5:=H.last;have a6:=H.most;have ec:U7 M0 M3 mF [sd<|P6 w] ([w.N0,w.first,w.last,w.most].map p6)=U ([w.N0,w.first,w.last,w.most].map λn=>f6<|F5 n):=comp_map λn hn'=>⟨.dat<|f6<|F5 n,by
  have:yw n:=by
   simp only[Q7,U1,V4]at hn';rcases hn' with rfl|rfl|rfl|rfl
   exact X3 a2;exact⟨A3,A3⟩;exact⟨A3,A3⟩;exact X3 a6
  unfold mF;left;exact jo this,rfl⟩
 unfold qh;left;rw[show J2 (P6 w) (p6 0)=sS w.name from rfl,show K6 (P6 w) (U 1) J=sd (B4<|[w.N0,w.first,w.last,w.most].map p6)from rfl];left;simp only[K3,fX]at ec;rw[ec];left;rw[kS C9];left;rw[show[E6<|p7 "work",f6 w.name,f6<|F5 w.N0,f6<|F5 w.first,f6<|F5 w.last,f6<|F5 w.most]=(fg w).map f6 from rfl,(DF<|GH H hn)];left
theorem KI{x:Hr}(H:BV x):mq [G3 x]=sS (T6<|bJ x):=by
 have a1:=H.W0;have a2:=H.need;have a3:=H.line;have j:=DF<|GI H;obtain⟨su,ne,ln⟩:=x;cases ln with
 |none=>
  unfold mq G3 ig;left;rw[jo<|X3 a1];left;rw[jo<|X3 a2];left;rw[kS C9];left;rw[show[E6<|p7 "hour",f6<|F5 su,f6<|F5 ne,f6<|p7 "dark"]=(bJ ⟨su,ne,J⟩).map f6 from rfl,j];left
 |some l=>
  obtain⟨a,b,c,d⟩:=l;obtain⟨b1,b2,b3,b4⟩:=a3 a b c d rfl;have ec:∀x1:Option PV,U7 M0 M3 mG [sd<|B4 [p6 su,p6 ne,B4 [p6 a,p6 b,p6 c,p6 d]],x1] ([a,b,c,d].map p6)=U ([a,b,c,d].map λn=>f6<|F5 n):=λx1=>comp_map λn hn'=>⟨.dat<|f6<|F5 n,by
   have:yw n:=by
    simp only[Q7,U1,V4]at hn';rcases hn' with rfl|rfl|rfl|rfl
    exact b1;exact X3 b2;exact b3;exact X3 b4
   unfold mG;left;exact jo this,rfl⟩
  simp only[K3,fX]at ec;unfold mq G3 ig;left;rw[jo<|X3 a1];left;rw[jo<|X3 a2];left;rw[kS C9];left;rw[ec];left;rw[kS C9];left;rw[show[E6<|p7 "hour",f6<|F5 su,f6<|F5 ne,f6<|p7 "line",f6<|F5 a,f6<|F5 b,f6<|F5 c,f6<|F5 d]=(bJ ⟨su,ne,U (a,b,c,d)⟩).map f6 from rfl,j];left
variable{h:P2}
theorem Ii(H:H5 h):oM [bH h]=sS (T6<|bf h):=by
 have a1:=H.size;have a2:=H.start;have a3:=H.fill;have a4:=H.take;have a5:=H.kept;have a6:=H.left;have a7:=H.rest;have ec:∀ds:Ds,U7 M0 M3 kB ds ([h.size,h.start,h.fill,h.take].map p6)=U ([h.size,h.start,h.fill,h.take].map λn=>f6<|F5 n):=λds=>comp_map λn hn'=>⟨.dat<|f6<|F5 n,by
  have:yw n:=by
   simp only[Q7,U1,V4]at hn';rcases hn' with rfl|rfl|rfl|rfl
   exact X3 a1;exact X3 a2;exact X3 a3;exact X3 a4
  unfold kB;left;exact jo this,rfl⟩
 have ed:∀ds:Ds,U7 M0 M3 kx ds ([h.kept,h.left].map fr)=U ([h.kept,h.left].map λq=>f6<|T4 q):=λds=>comp_map λq hq=>⟨.dat<|f6<|T4 q,by
  have:rB q:=by
   simp only[Q7,U1,V4]at hq;rcases hq with rfl|rfl
   exact a5;exact a6
  unfold kx;left;exact nI this.small,rfl⟩
 simp only[K3,fX]at ec ed;have e1:K6 (bH h) J (U 4)=sd (B4 [p6 h.size,p6 h.start,p6 h.fill,p6 h.take]):=rfl;have e2:K6 (bH h) (U 4) (U 6)=sd (B4 [fr h.kept,fr h.left]):=rfl;have e3:J2 (bH h) (p6 6)=iD h.rest:=rfl;unfold oM;left;rw[e1];left;rw[ec];left;rw[e2];left;rw[ed];left;rw[kS C9];left;rw[kS C9];left;rw[e3];left;rw[jo<|X3 a7];left;rw[kS C9];left;rw[show[E6<|p7 "store",f6<|F5 h.size,f6<|F5 h.start,f6<|F5 h.fill,f6<|F5 h.take,f6<|T4 h.kept,f6<|T4 h.left,f6<|F5 h.rest]=(bf h).map f6 from rfl,(DF<|Co H)];left
theorem Zf(H:H5 h):xm [O1 h]=U (.own<|ah h):=by
 have hl:=H.hl;have wl:=H.wl;have ec:∀ds:Ds,U7 M0 M3 vg ds (h.hs.map G3)=U (h.hs.map λx=>f6<|T6<|bJ x):=λds=>comp_map λx hx=>⟨.dat<|f6<|T6<|bJ x,by unfold vg;left;exact KI<|H.hs x hx,rfl⟩;have ed:∀ds:Ds,U7 M0 M3 vf ds (h.ws.map P6)=U (h.ws.map λw=>f6<|T6<|fg w):=λds=>comp_map λw hw=>⟨.dat<|f6<|T6<|fg w,by unfold vf;left;exact IU (H.ws w hw) A3,rfl⟩
 have el:ah h=[E6<|T6<|bf h]++(h.hs.map λx=>f6<|T6<|bJ x)++(h.ws.map λw=>f6<|T6<|fg w):=by simp[ah,ya,wQ]
 have:(h.hs.map G3).length<=24:=by rw[F4];exact hl
 have:(h.ws.map P6).length<=6:=by rw[F4];exact wl
 rw[el];unfold xm;left;rw[uQ];left;rw[A6<|D6 B1 f7,ec];left;rw[HJ];left;rw[A6<|D6 B1 f7,ed];left;rw[UX];left;rw[(Ii H)];left;rw[kS (by simp;lia)];left;rw[kS (by simp;lia)];left
variable{E:hW}{h:P2}{A:Ks}
theorem Zi(H:H5 h):L9 E [.ob J<|G5 h A,.dat<|f6<|p7 "show"]=U (S0<|.own<|ah h,[U<|.ob J<|G5 h A,J]):=by
 have sp:dJ (f6<|T6 [p7 "show"]) [f6<|p7 " "]=_:=uL C9 f7 (λx hx=>by rw[mem_singleton.mp hx];decide +kernel) (λx hx=>by rw[mem_singleton.mp hx];decide +kernel);refine kj rfl λt=>?_
 rw[C3 (ds':=[U<|.ob (U<|t 0)<|G5 h A,sS<|p7 "show",sL [f6<|p7 "show"]])<|N4 (pv:=.own [f6<|p7 "show"]) sp];rw[NQ (by
  show(xm [O1 h]).bind _=_
  rw[(Zf H)];rfl)]
 show U (S0 _,T7 t 0 (.ob J (G5 h A)::[E6<|p7 "show"].map .dat) _)=_;rw[nU C9];rfl
theorem Ql{z:Str}(hs:L9 E [.ob J<|G5 h A,.dat<|f6 z]=U (O6<|nQ E z,[U<|.ob J<|G5 h A,J])):ml E [.ob J<|G5 h A,.dat<|f6 z]=U (.dat<|E5 Uf,[U<|.ob J<|G5 h A,J]):=by
 have ie:isExc E.l (nQ E z)=Uf:=wO _;refine KZ rfl λt=>?_
 have tr:rH (p7 "Desk") (p7 "say") E.l 3 0 (L9 E) (X9 (C4 1) gm) (B0 2<|C4 3) [U<|.ob (U<|t 0)<|G5 h A,sS z,sd F3,J]=U (.next [U<|.ob (U<|t 0)<|G5 h A,sS z,sd<|nQ E z,J]):=by
  unfold rH;rw[pJ (l:=[f6 z]) rfl rfl ⟨by rw[R6];decide,by rw[R6];decide⟩ hs];show(if isExc E.l (nQ E z)=Uf then(B0 2 (C4 3) [U<|.ob (U<|t 0)<|G5 h A,sS z,sd F3,sd<|nQ E z]).bind (Ir 3)else J)=_;rw[A6 ie];rfl
 rw[C3 (ds':=[U<|.ob (U<|t 0)<|G5 h A,sS z,sd F3,J]) rfl,C3 tr];have is_:∀b:Bool,kQ E.l b (C4 2) [U<|.ob (U<|t 0)<|G5 h A,sS z,sd<|nQ E z,J]=sB b:=λb=>by
  show(if isExc E.l (nQ E z)=Uf then _ else _)=_;rw[A6 ie]
 have b1:∀b:Bool,B5 (kQ E.l b<|C4 2) [U<|.ob (U<|t 0)<|G5 h A,sS z,sd<|nQ E z,J]=U b:=λb=>by unfold B5;rw[is_];rfl
 have n1:ip (B5<|kQ E.l Uf<|C4 2) [U<|.ob (U<|t 0)<|G5 h A,sS z,sd<|nQ E z,J]=U U':=by unfold ip;rw[b1];rfl
 have ne:B5 (A2 V6 (xR (p7 "line")<|C4 2)<|C4 1) [U<|.ob (U<|t 0)<|G5 h A,sS z,sd<|nQ E z,J]=U U':=by
  show((V6 (f6 z)<|f6 z).bind λx=>fR x.d)=_;rw[Cn,L7 rfl];rfl
 rw[C3<|cq<|Bk n1<|Bk n1 ne,C3<|cq<|Bk (b1 U')<|b1 U'];have fn:xQ (kQ E.l U'<|C4 2) [U<|.ob (U<|t 0)<|G5 h A,sS z,sd<|nQ E z,J]=sB Uf:=by unfold xQ;rw[b1];rfl
 have fa:pO (xQ<|kQ E.l U'<|C4 2) (xQ<|kQ E.l U'<|C4 2) [U<|.ob (U<|t 0)<|G5 h A,sS z,sd<|nQ E z,J]=sB Uf:=by unfold pO B5;rw[fn];rfl
 unfold kg;rw[fa];show U (PV.dat<|E5 Uf,T7 t 0 (.ob J (G5 h A)::[E6 z].map .dat) [U<|.ob (U<|t 0)<|G5 h A,sS z,sd<|nQ E z,J])=_;rw[nU C9];rfl
theorem a4L{nm:Str}(N:Nm nm)(hs:L9 E [.ob J<|G5 h A,.dat<|f6<|p7 "keeper "++nm]=U (O6<|dH E.k (p7 "name")<|f6 nm,[U<|.ob J<|G5 h A,J])):CN E [.ob J<|G5 h A,.dat<|f6 nm]=U (.dat<|E5 Uf,[U<|.ob J<|G5 h A,J]):=by
 have ie:isExc E.k (dH E.k (p7 "name")<|f6 nm)=Uf:=wO _;have:nm.length<=8:=by rw[M6];exact N.len
 have ad:D5 (f6<|p7 "keeper ") (f6 nm)=sS (p7 "keeper "++nm):=eQ (by rw[(B9:(p7 "keeper ").length=7)];lia);refine KZ rfl λt=>?_
 have tr:rH (p7 "Desk") (p7 "say") E.k 3 0 (L9 E) (X9 (A2 D5 (fC<|f6<|p7 "keeper ")<|C4 1) gm) (B0 2<|xR (p7 "name")<|C4 3) [U<|.ob (U<|t 0)<|G5 h A,sS nm,sd F3,J]=U (.next [U<|.ob (U<|t 0)<|G5 h A,sS nm,sS nm,J]):=by
  unfold rH;rw[pJ (l:=[f6<|p7 "keeper "++nm]) rfl (by
   show((D5 (f6<|p7 "keeper ")<|f6 nm).bind _)=_
   rw[ad];rfl) ⟨by rw[R6];decide,by rw[R6];decide⟩ hs]
  show(if isExc E.k (dH E.k (p7 "name")<|f6 nm)=Uf then(B0 2 (xR (p7 "name")<|C4 3) [U<|.ob (U<|t 0)<|G5 h A,sS nm,sd F3,sd<|dH E.k (p7 "name")<|f6 nm]).bind (Ir 3)else J)=_;rw[A6 ie];rfl
 rw[C3 (ds':=[U<|.ob (U<|t 0)<|G5 h A,sS nm,sd F3,J]) rfl,C3 tr];have eq:A2 J5 (C4 2) (C4 1) [U<|.ob (U<|t 0)<|G5 h A,sS nm,sS nm,J]=sB Uf:=by
  show J5 (f6 nm) (f6 nm)=_;rw[CF,L7 rfl]
 unfold kg;rw[eq];show U (PV.dat<|E5 Uf,T7 t 0 (.ob J (G5 h A)::[E6 nm].map .dat) [U<|.ob (U<|t 0)<|G5 h A,sS nm,sS nm,J])=_;rw[nU C9];rfl
theorem QZ{ws:List Str}(h:∀w∈ws,Wd w)(g:∀w∈ws,W5 w):Zs (aR ⟨#[32]⟩ ws)<|ws.length*11:=by
 have e:=size_glued ⟨#[32]⟩ ws;have:(ws.map (·.length)).sum<=ws.length*10:=by
  clear e g;induction ws with
  |nil=>simp
  |cons w r ih=>
   have:=(h w C9).l;have:=ih λx hx=>h x (by simp[hx]);simp only[K3,EM,L3];lia
 have:(aR ⟨#[32]⟩ ws).length=(ws.map (·.length)).sum+(ws.length-1)*1:=e;refine⟨G0,?_⟩;rw[show aR ⟨#[32]⟩ ws=oo ⟨#[32]⟩ ws from glued_eq_join _ _,sj]
 intro c hc;cases ws with
 |nil=>cases hc
 |cons w r=>
  rcases List.mem_append.mp hc with hc|hc
  exact Df (g w C9).ok c hc
  . obtain⟨l,hl,hc⟩:=List.mem_flatten.mp hc;obtain⟨x,hx,rfl⟩:=mem_map.mp hl;rcases List.mem_append.mp hc with hc|hc
    . have:c=32:=by simpa using hc
      simp_all
    exact Df (g x<|by simp[hx]).ok c hc
theorem line_short{r:Rl}(h:eB r):Zs (S8 r) 300:=by have w:=QZ (Gm h)<|vD h;have:=(ng h).1;exact⟨D6 w.len A3,w.ok⟩
variable{h:P2}{Z:Ds}{n m:Nat}{G:DV}{A:Ds->Option (List f9)}{x:Option PV}{s:String}{Y:List Str}
def OL(F:Ds->Option (List f9))(ds:Ds)(n:Nat):Prop:=∃zs:List Str,F ds=U (zs.map f6)/\(∀z∈zs,Zs z 400)/\zs.length=n
def OE(F:DV)(ds:Ds)(m:Nat):Prop:=∃z,F ds=sS z/\Zs z m
theorem fM:OL D0 Z 0:=⟨[],rfl,(λz h=>by cases h),rfl⟩
theorem ia(h1:OE G Z m)(h:OL A Z n)(hm:autoParam (m<=400) aj):OL (A7 G A) Z<|n+1:=by
 obtain⟨zs,e,hs,hl⟩:=h;obtain⟨z,h1,hz⟩:=h1;refine⟨z::zs,?_,λy hy=>?_,by rw[L3,hl]⟩;unfold A7;rw[h1];rw[e];rfl
 . rcases List.mem_cons.mp hy with rfl|hy
   exact⟨D6 hz.len hm,hz.ok⟩;exact hs y hy
theorem RM(h1:(p7 s).length<=n)(h2:(lz<|p7 s).all (λc=>decide (c<1114112))=Uf):Zs (p7 s) n:=⟨h1,λc hc=>ff<|List.all_eq_true.mp h2 c hc⟩
theorem aO(h1:autoParam ((p7 s).length<=50) iJ)(h2:autoParam ((lz<|p7 s).all (λc=>decide (c<1114112))=Uf) iJ):OE (fC<|f6<|p7 s) Z 50:=⟨_,rfl,RM h1 h2⟩
theorem nP{F:DV}(h:OE F Z n)(k:OE G Z m)(a:autoParam (n+m<=1000) aj):OE (A2 D5 F G) Z<|n+m:=by obtain⟨y,h,hy⟩:=h;obtain⟨z,k,hz⟩:=k;refine⟨y++z,?_,vB hy hz⟩;unfold A2;rw[h,k];exact eQ (by have:=hy.len;have:=hz.len;lia)
noncomputable def xT:Str:=p7 " when fill sun take need works now"
theorem yA:Zs xT 35:=RM B9 B9
abbrev oD(h:P2)(x:Option PV):Ds:=[sd<|O1 h,iD (h.hs.length:Nat),sS xT,x]
theorem Ul:OE (C4 2) (oD h x) 35:=⟨xT,rfl,yA⟩
theorem a7E:OE (ai K6 (C4 2) (L5<|fC<|p6 1) Q6) (oD h x) 35:=⟨aE xT (U<|(1:Nat)) J,qz (z:=xT) (by have:=yA.len;decide) 1,by have:=yA.len;rw[M6,mZ,gU,<-M6];decide,λc hc=>yA.ok c (by rw[mZ]at hc;exact FQ hc)⟩
theorem a4I:OE (ai K6 (C4 2) (L5<|fC<|p6 1)<|L5<|fC<|p6 6) (oD h x) 35:=by
 refine⟨aE xT (U 1)<|U 6,?_,?_,?_⟩
 . show(if xT.length<=1000000 then sS (aE xT (U 1)<|U 6)else J)=_;rw[A6 (by have:=yA.len;decide)]
 decide +kernel;decide +kernel
theorem Uk{n:Int}(e:G Z=iD n)(h0 : -2000000<=n)(h1:n<=2000000):OE (A0 kN<|A7 G D0) Z 70:=by
 have hn:n.natAbs<10^60:=bO (G0:n.natAbs<=2000000) f7;refine⟨F5 n,?_,D6 (dq hn) f7,λc hc=>?_⟩;unfold A0 A7;rw[e];exact sF hn
 . rw[eM]at hc;rcases pL n c hc with r|r<;>omega
abbrev a2W(o:Option PV):Prop:=∃zs:List Str,o=U (.own<|zs.map f6)/\(∀z∈zs,Zs z 400)/\0<zs.length/\zs.length<=100
theorem JQ(hz:∀z∈Y,Zs z 400)(hl:Y.length=m)(hA:∀x,OL A (oD h x) n)(hm:m+n<=100):
  ∃zs':List Str,(∀z∈zs',Zs z 400)/\zs'.length=m+n/\A2 D5 (C4 3) (G4 A) (oD h<|sL<|Y.map f6)=U (.own<|zs'.map f6):=by
 obtain⟨ys,e,hy,ly⟩:=hA<|sL<|Y.map f6;refine⟨Y++ys,λz hzz=>?_,by rw[R5];simp_all,?_⟩
 . rcases List.mem_append.mp hzz with q|q
   exact hz z q;exact hy z q
 . unfold A2 G4;rw[e];simp only[P0];rw[A6 (by rw[F4];lia)];show D5 (B8<|Y.map f6) (B8<|ys.map f6)=_;rw[uX (by rw[F4,F4];lia),bN]
theorem eJ{G:Ds->Option Out}(hz:∀z∈Y,Zs z 400)(hl:Y.length=m)(hA:∀x,OL A (oD h x) n)(hm:m+n<=100)(k:∀zs':List Str,(∀z∈zs',Zs z 400)->zs'.length=m+n->a2W ((G<|oD h<|sL<|zs'.map f6).bind dG)):a2W<|(A4 (B0 3<|A2 D5 (C4 3)<|G4 A) G<|oD h<|sL<|Y.map f6).bind dG:=by obtain⟨zs',hz',hl',st⟩:=JQ hz hl hA hm;rw[C3<|N4 st];exact k zs' hz' hl'
theorem a7F(H:H5 h):∃zs:List Str,GY [O1 h]=U (.own<|zs.map f6)/\(∀z∈zs,Zs z 400)/\0<zs.length/\zs.length<=100:=by
 have hl:=H.hl;obtain⟨h0,W0⟩:∃x r,h.hs=x::r:=by
  cases e:h.hs with
  |nil=>have:=H.h1;rw[e]at this;cases this
  |cons x r=>exact⟨x,r,rfl⟩
 obtain⟨r,W0⟩:=W0;have hs0:=(H.hs h0 (by rw[W0];exact K9)).W0
 have ln:A0 N5 (A7 (A2 J2 (C4 0)<|fC<|p6 0) D0) [sd<|O1 h,J,J,J]=iD h.hs.length:=by left;rw[uQ];left;rw[F4]
 have sv:∀x,A2 kM (fC<|p6 1000001) (A2 J2 (A2 J2 (A2 J2 (C4 0)<|fC<|p6 0)<|fC<|p6 0)<|fC<|p6 0) (oD h x)=iD (1000001-h0.W0):=λx=>by
  have e0:J2 (B4<|h.hs.map G3) (p6 0)=sd (G3 h0):=by rw[W0,K3,vV,ji];rfl
  show(((J2 (B4<|h.hs.map G3)<|p6 0).bind λx=>J2 x.d<|p6 0).bind λy=>kM (p6 1000001) y.d)=_;rw[e0];rfl
 show ∃zs:List Str,(A4 _ _ [sd<|O1 h,J,J,J]).bind dG=_/\_;rw[C3<|N4 ln,C3 (ds':=oD h J) (by unfold oD xT;rfl)]
 obtain⟨zs,e,hz,hl1⟩:OL (A7 (fC<|f6 "")<|A7 (fC<|f6 " ")<|A7 (fC<|f6 "Show")<|A7 (fC<|f6 "show ")<|A7 (fC<|f6 " show")<|A7 (fC<|f6 "show 1")<|A7 (fC<|f6 "best 1")<|A7 (fC<|f6 "bests")<|A7 (fC<|f6 "ranks a")<|A7 (fC<|f6 "rank")<|A7 (fC<|f6 "rule")<|A7 (fC<|f6 "rule a") D0) (oD h J) 12:=by repeat (first|exact fM|refine ia aO ?_)
 rw[C3<|N4 (pv:=.own<|zs.map f6) (by unfold G4;rw[e];simp only[P0];rw[A6 (by rw[F4];simp_all)])];refine eJ hz hl1 (n:=1) (λx=>by repeat (first|exact fM|refine ia aO ?_)) f7 λzs hz hl1=>?_;refine eJ hz hl1 (n:=5) (λx=>by repeat (first|exact fM|refine ia (nP (nP aO a7E) aO) ?_|refine ia (nP aO Ul) ?_)) f7 λzs hz hl1=>?_;refine eJ hz hl1 (n:=2) (λx=>by repeat (first|exact fM|refine ia aO ?_)) f7 λzs hz hl1=>?_;refine eJ hz hl1 (n:=1) (λx=>by repeat (first|exact fM|refine ia (nP aO Ul) ?_)) f7 λzs hz hl1=>?_;refine eJ hz hl1 (n:=4) (λx=>by repeat (first|exact fM|refine ia aO ?_)) f7 λzs hz hl1=>?_;refine eJ hz hl1 (n:=2) (λx=>by repeat (first|exact fM|refine ia aO ?_)) f7 λzs hz hl1=>?_;refine eJ hz hl1 (n:=9) (λx=>by repeat (first|exact fM|refine ia aO ?_)) f7 λzs hz hl1=>?_;refine eJ hz hl1 (n:=5) (λx=>by repeat (first|exact fM|refine ia aO ?_|refine ia (nP (nP aO<|Uk rfl C9 A3) aO f7) ?_ f7)) f7 λzs hz hl1=>?_;refine eJ hz hl1 (n:=4) (λx=>by repeat (first|exact fM|refine ia aO ?_|refine ia (nP aO a4I) ?_)) f7 λzs hz hl1=>?_;refine eJ hz hl1 (n:=3) (λx=>by repeat (first|exact fM|refine ia aO ?_|refine ia (nP aO<|Uk (sv _) (by unfold rD at hs0;lia) (by unfold rD at hs0;lia)) ?_)) f7 λzs hz hl1=>?_;refine eJ hz hl1 (n:=5) (λx=>by repeat (first|exact fM|refine ia aO ?_)) f7 λzs hz hl1=>?_;obtain⟨zs',hz',hl',st⟩:=JQ hz hl1 (n:=3) (A:=A7 (fC<|f6 "raised 0 1000001")<|A7 (fC<|f6 "raised a 1")<|A7 (fC<|f6 "house") D0) (λx=>by repeat (first|exact fM|refine ia aO ?_)) f7;refine⟨zs',?_,hz',V8,V8⟩;unfold D7;rw[st];rfl
variable{i:Int}{r:Rl}{a:Option PV}{Z:List Int}
theorem Pr{α:Type}{l:List α}(f:α->f9)(h0:0<=i)(h:i<l.length):∃x∈l,Y5 (l.map f) i=U (f x):=⟨_,jS _,Lp f h0 h⟩
theorem a4H(hr:eB r){b c:Option PV}:OE (C4 2) [a,b,sS<|S8 r,c] 300:=⟨_,rfl,line_short hr⟩
theorem a5h{k:Int}(hl:Z.length<=63)(hr:eB r)(k0:0<=k)(k1:k<=100000):∃z,yg [dg Z,p6 k,f6<|S8 r]=sS z/\Zs z 400:=by
 obtain⟨v,ev,v0,v1⟩:=P7 hl k0 k1;have:=W8 v (b:=9) f7;obtain⟨zs,e,hz,hl1⟩:OL (A7 (fC<|f6 "show")<|A7 (fC<|f6 "best")<|A7 (fC<|f6 "ranks")<|A7 (fC<|f6 "keeper a")<|A7 (fC<|f6 "drop a")<|A7 (fC<|f6 "day a")<|A7 (fC<|f6 "costs a")<|A7 (A2 D5 (fC<|f6 "rule a ")<|C4 2)<|A7 (fC<|f6 "raised 0 3") D0) [sd<|dg Z,iD k,sS<|S8 r,J] 9:=by repeat (first|exact fM|refine ia aO ?_|refine ia (nP aO<|a4H hr) ?_)
 obtain⟨z,hm,ez⟩:=Pr E6 (l:=zs) (U9 v (b:=9) f7) V8;refine⟨z,?_,hz z hm⟩;show(A4 _ _ [sd<|dg Z,iD k,sS<|S8 r,J]).bind dG=_;rw[C3<|N4 (pv:=.own<|zs.map f6) (by unfold G4;rw[e];simp only[P0];rw[A6 (by rw[F4];simp_all)])];left;rw[ev];left;rw[K4 f7];left;rw[ez];left
abbrev lw(ns:List Int)(n:Int)(h:P2)(A:Ks)(r:Rl)(cs:List f9)(zs:List Str)(x7 x8 x9:Option PV):Ds:=[sd<|dg ns,iD n,sd<|O1 h,U<|.ob J<|G5 h A,sS<|S8 r,sL cs,sL<|zs.map f6,x7,x8,x9]
theorem Zs.ok9{z:Str}{n:Nat}(h:Zs z n)(hn:n<=800):wj z:=⟨D6 h.len hn,h.ok⟩
theorem YK{E:hW}{h:P2}{A:Ks}{n:Nat}{ns:List Int}{j:Nat}{m:Int}{cs:List f9}{zs:List Str}{x8 x9:Option PV}(hl:ns.length<=63)(H:H5 h)(HA:Kp n A)(hr:eB r)(hz:∀z∈zs,Zs z 400)(z0:0<zs.length)(z1:zs.length<=100)(hj:j<=30):
  ∃y8,Bp E (lw ns m h A r cs zs (iD<|0+(j:Int)) x8 x9)=U (.next<|lw ns m h A r cs zs (iD<|0+(j:Int)) y8 x9):=by
 obtain⟨a,ea,a0,a1⟩:=P7 (ns:=ns) (k:=1500+(0+j)) hl (iO _) A3;obtain⟨b,eb,b0,b1⟩:=P7 (k:=1600+(0+j)) hl (iO _) A3;obtain⟨c,ec,c0,c1⟩:=P7 (k:=1800+(0+j)) hl (iO _) A3;obtain⟨d,ed,d0,d1⟩:=P7 (k:=1900+(0+j)) hl (iO _) A3;obtain⟨g,eg,hg⟩:=a5h (k:=1700+(0+j)) hl hr (iO _) A3;obtain⟨q,eq,hq⟩:=a5B hg f7 c0 d0;obtain⟨z,hm,ez⟩:=Pr E6 (U9 a (b:=zs.length) V8)<|W8 a (b:=zs.length) V8;generalize (0+(j:Int))=Jff at *;obtain⟨y,zy,st⟩:∃y,wj y/\∀G,A4 (B0 8<|A2 J2 (C4 6)<|A2 Q1 (A0 K2<|A7 (C4 0)<|A7 (A2 D5 (fC<|p6 1500)<|C4 7) D0)<|A0 N5<|A7 (C4 6) D0) (A4 (J4 (B5<|A2 J5 (A2 Q1 (A0 K2<|A7 (C4 0)<|A7 (A2 D5 (fC<|p6 1600)<|C4 7) D0)<|fC<|p6 2)<|fC<|p6 0) (A4 (B0 8<|A0 yg<|A7 (C4 0)<|A7 (A2 D5 (fC<|p6 1700)<|C4 7)<|A7 (C4 4) D0)<|B0 8<|A0 uD<|A7 (C4 8)<|A7 (A0 K2<|A7 (C4 0)<|A7 (A2 D5 (fC<|p6 1800)<|C4 7) D0)<|A7 (A0 K2<|A7 (C4 0)<|A7 (A2 D5 (fC<|p6 1900)<|C4 7) D0) D0) D9) G) (lw ns m h A r cs zs (iD Jff) x8 x9)=G (lw ns m h A r cs zs (iD Jff) (sS y) x9):=by
  have s1:B0 8 (A2 J2 (C4 6)<|A2 Q1 (A0 K2<|A7 (C4 0)<|A7 (A2 D5 (fC<|p6 1500)<|C4 7) D0)<|A0 N5<|A7 (C4 6) D0) (lw ns m h A r cs zs (iD Jff) x8 x9)=U (.next<|lw ns m h A r cs zs (iD Jff) (sS z) x9):=by refine N4 (pv:=.dat<|f6 z) ?_;left;rw[ea];left;rw[F4,K4 G0];left;rw[ez];left
  by_cases cb:b.fmod 2=0
  . refine⟨q,hq.ok9 f7,λG=>?_⟩;rw[C3 s1,C3];rw[qf (by left;rw[eb];left;rw[K4 f7];left;rw[L7 cb])];rw[C3<|N4 (pv:=.dat<|f6 g) (by left;exact eg)];refine N4 (pv:=.dat<|f6 q) ?_;left;rw[ec];left;rw[ed];left;exact eq
  . refine⟨z,(hz z hm).ok9 f7,λG=>?_⟩;rw[C3 s1,C3];rw[cq (by left;rw[eb];left;rw[K4 f7];left;rw[J8 cb])];rfl
 refine⟨sS y,?_⟩;obtain⟨o,il,no⟩:=Vd H zy;have bl:AS (ip<|B5<|A0 mm<|A7 (C4 2)<|A7 (C4 8) D0) (lw ns m h A r cs zs (iD Jff) (sS y) x9)=U (!o,lw ns m h A r cs zs (iD Jff) (sS y) x9):=by
  show(((((mm [O1 h,f6 y]).bind λx=>fR x.d).bind λb=>U<|!b).bind _))=_;rw[il];rfl
 refine(st _).trans ?_;cases o with
 |true=>
  unfold tq JS;rw[bl];rfl
 |false=>
  have ca:yV (lD (ml E)<|ic 3<|X9 (C4 8) gm) (lw ns m h A r cs zs (iD Jff) (sS y) x9)=U (Uf,lw ns m h A r cs zs (iD Jff) (sS y) x9):=by unfold yV;rw[call_of (l:=[f6 y]) rfl rfl<|Ql<|Zj (E:=E) HA H zy<|no rfl];rfl
  unfold tq JS;rw[bl];show((xI (yV<|lD (ml E)<|ic 3<|X9 (C4 8) gm)<|lw ns m h A r cs zs (iD Jff) (sS y) x9).bind _)=_;unfold xI;rw[ca];rfl
variable{h:P2}{r:Rl}{E:hW}{Z:Ds}{z:Str}
theorem a4Q(H:H5 h):fH [.ob J<|.ins (p7 "Desk") [],.dat<|B8<|ah h]=U (.dat F3,[U<|.ob J<|G5 h [],J]):=by
 have rd:=a3J H;generalize ah h=LD at *;refine KZ rfl λt=>?_
 rw[C3 (ds':=[U<|.ob (U<|t 0)<|.ins (p7 "Desk") [(p7 "house",.dat<|O1 h)],sL LD]) (by
  show((AD [B8 LD]).bind _)=_
  rw[rd];rfl)]
 have e:Ea (p7 "Desk") 0 (p7 "keepers") IE Eg [U<|.ob (U<|t 0)<|.ins (p7 "Desk") [(p7 "house",.dat<|O1 h)],sL LD]=U (.next [U<|.ob (U<|t 0)<|G5 h [],sL LD]):=by rfl
 rw[e];show U (PV.dat F3,T7 t 0 (.ob J _::[tT LD].map .dat) _)=_;rw[nU C9];rfl
theorem a0v(H:H5 h)(h2:Z[2]?=U (sd<|O1 h)):Ei (p7 "Desk") fH (A7 (A0 V5<|A7 (C4 2) D0) D0) Z=U (.ob J<|G5 h []):=by
 have v:C4 2 Z=sd (O1 h):=by unfold C4;rw[h2]
 have v2:A0 V5 (A7 (C4 2) D0) Z=U (.own<|ah h):=by unfold A0 A7;rw[v];exact(HN H)
 have v3:A7 (A0 V5<|A7 (C4 2) D0) D0 Z=U [B8<|ah h]:=by
  show((A0 V5 (A7 (C4 2) D0) Z).bind _)=_;rw[v2];rfl
 unfold Ei;rw[v3];show(fH [.ob J<|.ins (p7 "Desk") [],.dat<|B8<|ah h]).bind _=_;rw[(a4Q H)];rfl
noncomputable abbrev nA:Str:=p7 "a"
theorem QL:Nm nA:=a2t B9
theorem a7P:p7 "rule a "++S8 r=T6 (p7 "rule"::nA::gz r):=by rw[<-OG C9,<-OG (Cp r)];refine bT ?_;simp only[cR];rfl
abbrev kA(r:Rl):Ks:=vq [] nA<|dR [] nA++[r]
theorem b0x:kA r=[(nA,[r])]:=rfl
theorem ON:gy nA (kA r)=U [r]:=by rfl
theorem b0w(h:¬nA=z):gy z (kA r)=J:=by
 rw[b0x];unfold gy;rw[List.find?_cons_of_neg<|by simpa using h];rfl
theorem vS{A B:Ks}{f:List PV->Option (PV×Ds)}{Fl:Ds->Option (List AV)}{l:List f9}{w:Option Addr}{pv:PV}{ns:Ds}(h0:Z[3]?=U (U<|.ob w<|G5 h A))(hl:Fl Z=U (l.map AV.d))(hf:f (.ob J (G5 h A)::l.map .dat)=U (pv,U (.ob J<|G5 h B)::ns)):gJ (p7 "Desk") (p7 "say") 3 f Fl Z=U (pv,Z.set 3<|U<|.ob w<|G5 h B):=by unfold gJ yU;rw[h0];exact call_of h0 hl hf
theorem vX{A B:Ks}{pv:PV}(hs:L9 E [.ob J<|G5 h A,.dat<|f6 z]=U (S0 pv,U (.ob J<|G5 h B)::Z)):rn (L9 E) (.ob J (G5 h A)::[E6 z].map .dat)=U (pv,U (.ob J<|G5 h B)::Z):=by
 show(L9 E [.ob J<|G5 h A,.dat<|f6 z]).bind _=_;rw[hs];rfl
theorem Qh(hr:eB r):L9 E [.ob J<|G5 h [],.dat<|f6<|p7 "rule a "++S8 r]=U (S0<|.own okL,[U<|.ob J<|G5 h<|kA r,J]):=by
 rw[a7P];have KP:Kp 0 []:=⟨λe he=>absurd he U1,N7 _⟩
 exact Nj (λx hx=>by
  rcases List.mem_cons.mp hx with rfl|hx
  exact Gn QL
  . exact vD hr x hx) (by have:=(ng hr).1;exact D6 B1 f7) QL<|a3G KP f7 f7 hr
theorem a1U{w:String}(e:decide (lz (p7<|w++" a")=lz (p7 w)++[32,97])=Uf):p7 (w++" a")=T6 [p7 w,nA]:=bT (by rw[ff e,qE];have:lz nA=[97]:=B9;simp[this])
theorem By(L:Hl h)(hr:eB r):L9 E [.ob J<|G5 h<|kA r,.dat<|f6<|p7 "costs a"]=U (S0<|.own<|gL h [r],[U<|.ob J<|G5 h<|kA r,J]):=by
 rw[show p7 "costs a" = T6 [p7 "costs",nA]from a1U (w:="costs") B9];exact rl (bF B9 B9) QL (by rw[R6];decide) (by rw[R6];decide) B9 (Kn ON L λx hx=>by rw[mem_singleton.mp hx];exact hr)
theorem Js{n:Nat}(HA:Kp n<|kA r):L9 E [.ob J<|G5 h<|kA r,.dat<|f6<|p7 "keeper a"]=U (S0<|.own<|kJ [r],[U<|.ob J<|G5 h<|kA r,J]):=by
 rw[show p7 "keeper a" = T6 [p7 "keeper",nA]from a1U (w:="keeper") B9];exact rl (bF B9 B9) QL (by rw[R6];decide) (by rw[R6];decide) B9<|NA HA ON
theorem a6y(N:Nm z)(ne:gy z (kA r)=J):L9 E [.ob J<|G5 h<|kA r,.dat<|f6<|p7 "keeper "++z]=U (O6<|dH E.k (p7 "name")<|f6 z,[U<|.ob J<|G5 h<|kA r,J]):=by
 have e:p7 "keeper "++z=T6 [p7 "keeper",z]:=bT (by have:lz (p7 "keeper ")=lz (p7 "keeper")++[32]:=B9;rw[cR,qE,this];simp);rw[e];exact rl (bF B9 B9) N (by rw[R6];decide) (by rw[R6];decide) B9 (UP (by rw[M6];have:=N.len;exact D6 B1 f7) ne)
theorem a0H(E:hW)(_:E.l≠E.k)(ns:List Int)(hl:ns.length<=63):Gg E [B8<|ns.map p6]=sB Uf:=by
 obtain⟨a,ea,a0,a1⟩:=P7 (ns:=ns) (k:=0) hl f7 f7;obtain⟨b,eb,b0,b1⟩:=P7 (ns:=ns) (k:=1) hl f7 f7;obtain⟨d,ed,d0,d1⟩:=P7 (ns:=ns) (k:=2) hl f7 f7;have p0:=U9 a (b:=4) f7;have p1:=W8 a (b:=4) f7;have q0:=U9 b (b:=3) f7;have q1:=W8 b (b:=3) f7;have s0:=U9 d (b:=19) f7;have s1:=W8 d (b:=19) f7;obtain⟨h,eh,H,hm,hn⟩:=a8l (ns:=ns) (n:=1+a.fmod 4) (m:=b.fmod 3) hl G0 G0 q0 G0;have L:Hl h:=⟨H,hm,G0⟩;obtain⟨R,eR,hR,r1⟩:=a4Z (ns:=ns) (k:=600) (n:=1+a.fmod 4) (m:=1) hl f7 f7 G0 A3 f7 f7;obtain⟨r,rfl⟩:∃r,R=[r]:=by
  match R,r1 with
  | [r],_=>exact⟨r,rfl⟩
 have hr:eB r:=hR r K9;have lr:=Ik hr;have sl:=line_short hr;obtain⟨zs,eo,hz,z0,z1⟩:=a7F H;have KP:Kp 0 []:=⟨λe he=>absurd he U1,N7 _⟩;have HA:Kp 1<|kA r:=KP.put nA (K:=[r]) (λx hx=>by rw[mem_singleton.mp hx];exact hr) C9;show(A4 _ _ [sd<|dg ns,J,J,J,J,J,J,J,J,J]).bind dG=_;rw[C3 (ds':=[sd<|dg ns,iD<|1+a.fmod 4,J,J,J,J,J,J,J,J]) (by left;rw[ea];left;rw[K4 f7];left)];rw[C3 (ds':=[sd<|dg ns,iD<|1+a.fmod 4,sd<|O1 h,J,J,J,J,J,J,J]) (by left;rw[eb];left;rw[K4 f7];left;rw[eh];left)];generalize 1+a.fmod 4=N at *;rw[C3 (ds':=[sd<|dg ns,iD N,sd<|O1 h,U<|.ob J<|G5 h [],J,J,J,J,J,J]) (by rw[GR,a0v H rfl];rfl)];rw[C3 (ds':=[sd<|dg ns,iD N,sd<|O1 h,U<|.ob J<|G5 h [],sS<|S8 r,J,J,J,J,J])<|N4 (pv:=.dat<|f6<|S8 r) (by left;rw[eR];left;exact lr)]
 rw[C3 (ds':=[sd<|dg ns,iD N,sd<|O1 h,U<|.ob J<|G5 h<|kA r,sS<|S8 r,J,J,J,J,J]) (by
  unfold Eb;rw[vS (B:=kA r) (l:=[f6<|p7 "rule a "++S8 r]) (w:=J) rfl (by
   show((D5 (f6<|p7 "rule a ")<|f6<|S8 r).bind _)=_;rw[eQ (by rw[(B9:(p7 "rule a ").length=7)];have:=sl.len;lia)]
   rfl)<|vX<|Qh (E:=E) hr]
  rfl)]
 rw[C3 (ds':=[sd<|dg ns,iD N,sd<|O1 h,U<|.ob J<|G5 h<|kA r,sS<|S8 r,sL<|gL h [r],J,J,J,J]) (by unfold DY;rw[vS (B:=kA r) (l:=[f6<|p7 "costs a"]) (w:=J) rfl rfl<|vX<|By (E:=E) L hr];rfl)];rw[C3 (ds':=lw ns N h (kA r) r (gL h [r]) zs J J J)<|N4 (pv:=.own<|zs.map f6) (by left;exact eo)]
 obtain⟨ds1,f1,y7,y8,rfl⟩:=xM (gt:=K5 7) (G:=Bp E) (lo:=0) (n:=(6+d.fmod 19).toNat) (ds:=lw ns N h (kA r) r (gL h [r]) zs J J J)
  (λi ds=>∃y7 y8,ds=lw ns N h (kA r) r (gL h [r]) zs y7 y8 J) ⟨J,J,rfl⟩ (by rintro i ds hi ⟨y7,y8,rfl⟩;obtain⟨y,e⟩:=YK (E:=E) (ns:=ns) (j:=i) (m:=N) (r:=r) (cs:=gL h [r]) (zs:=zs) (x8:=y8) (x9:=J) hl H HA hr hz z0 z1 A3;exact⟨_,_,rfl,B3 e,_,_,rfl⟩)
 rw[C3 (ds':=lw ns N h (kA r) r (gL h [r]) zs y7 y8 J) (by left;rw[ed];left;rw[K4 f7];left;rw[mM G0];left;exact f1)]
 have c1:sU V6 (gJ (p7 "Desk") (p7 "say") 3 (rn<|L9 E)<|X9 (fC<|f6<|p7 "keeper a") gm) (G4<|A7 (C4 4) D0) (lw ns N h (kA r) r (gL h [r]) zs y7 y8 J)=U (U',lw ns N h (kA r) r (gL h [r]) zs y7 y8 J):=by
  unfold sU;rw[vS (A:=kA r) (B:=kA r) (l:=[f6<|p7 "keeper a"]) (w:=J) rfl rfl<|vX<|Js (E:=E) HA];have ne:=sX (l:=[S8 r]) (m:=[S8 r]) (λw hw=>by rw[mem_singleton.mp hw];exact yI<|vD hr) (λw hw=>by rw[mem_singleton.mp hw];exact yI<|vD hr);rw[L7 rfl]at ne;show(((V6 (B8<|[S8 r].map f6)<|B8<|[S8 r].map f6).bind λz=>(fR z.d).bind _))=_;rw[ne];rfl
 have c2:sU V6 (gJ (p7 "Desk") (p7 "say") 3 (rn<|L9 E)<|X9 (fC<|f6<|p7 "costs a") gm) (C4 5) (lw ns N h (kA r) r (gL h [r]) zs y7 y8 J)=U (U',lw ns N h (kA r) r (gL h [r]) zs y7 y8 J):=by
  unfold sU;rw[vS (A:=kA r) (B:=kA r) (l:=[f6<|p7 "costs a"]) (w:=J) rfl rfl<|vX<|By (E:=E) L hr];have ok:∀w∈[OZ<|mT (pM h) [r]],nB w:=λw hw=>by rw[mem_singleton.mp hw];exact yI (a2v (by simp[mT]) (by simp[mT])<|HW (IG L.H L.m) (GL L.H) L.l).w
  have ne:=sX ok ok;rw[L7 rfl]at ne;show(((V6 (B8<|[OZ<|mT (pM h) [r]].map f6)<|B8<|[OZ<|mT (pM h) [r]].map f6).bind λz=>(fR z.d).bind _))=_;rw[ne];rfl
 rw[C3 (by
  unfold tq Ow;rw[c1];show((sU V6 _ (C4 5)<|lw ns N h (kA r) r (gL h [r]) zs y7 y8 J).bind _)=_
  rw[c2];rfl)]
 have one:∀nm:Str,Nm nm->¬nA=nm->xn E (lw ns N h (kA r) r (gL h [r]) zs y7 y8<|sS nm)=U (.next<|lw ns N h (kA r) r (gL h [r]) zs y7 y8<|sS nm):=λnm Nn ne=>by unfold xn tq xI yV;rw[call_of (l:=[f6 nm]) rfl rfl<|a4L Nn<|a6y (E:=E) (h:=h) (r:=r) Nn<|b0w ne];rfl
 have four:∀nm∈[p7 "b",p7 "ab",p7 "abc",p7 "when"],Nm nm/\¬nA=nm:=λnm hm=>by have k:∀x∈[p7 "b",p7 "ab",p7 "abc",p7 "when"],(yk x&&!decide (nA=x))=Uf:=B9;have:=k nm hm;rw[fu,lZ,uB]at this;exact⟨a2t this.1,this.2⟩
 have run:∀(l:List Str) y,(∀nm∈l,Nm nm/\¬nA=nm)->∃y9,O9 (K5 9) (xn E) (l.map f6) (lw ns N h (kA r) r (gL h [r]) zs y7 y8 y)=U (.next<|lw ns N h (kA r) r (gL h [r]) zs y7 y8 y9):=by
  intro l;induction l with
  |nil=>exact λy _=>⟨y,rfl⟩
  |cons x l ih=>
   intro y hx;obtain⟨h1,h2⟩:=hx x K9;obtain⟨y9,e⟩:=ih (sS x) λz hz=>hx z<|G6 _ hz;refine⟨y9,?_⟩;rw[K3,bp rfl<|one x h1 h2];exact e
 obtain⟨y9,f2⟩:=run _ J four;rw[C3 (by left;exact f2)]
 have eq:=CD (λw hw=>by
  obtain⟨l,hl,rfl⟩:=mem_map.mp hw;exact yI (Ki H l hl).w) (λw hw=>by obtain⟨l,hl,rfl⟩:=mem_map.mp hw;exact yI (Ki H l hl).w)
 rw[L7 rfl,cX]at eq;have eq':J5 (B8<|ah h) (B8<|ah h)=sB Uf:=eq;have hh:A0 V5 (A7 (C4 2) D0) (lw ns N h (kA r) r (gL h [r]) zs y7 y8 y9)=U (.own<|ah h):=(HN H);unfold IJ sU;rw[vS rfl rfl<|vX<|Zi (E:=E) (A:=kA r) H];show((((A0 V5 (A7 (C4 2) D0)<|lw ns N h (kA r) r (gL h [r]) zs y7 y8 y9).bind λy=>(J5 (B8<|ah h) y.d).bind λz=>(fR z.d).bind _).bind _).bind dG)=_;rw[hh];show((((J5 (B8<|ah h)<|B8<|ah h).bind λz=>(fR z.d).bind _).bind _).bind dG)=_;rw[eq'];rfl
end Law
namespace L2
open PySem PySem.Spec PyProof.Rows
variable{v:Expr}
theorem a4t{X:Cx}{a b:Str}{j j2:Nat}{p1 p2 p3 pos:Pos}(i:Nat)(hv:PE X v<|S7 i)(ha:a.length<=1000)(hb:b.length<=1000):PE X (Xu [jk (Ac a) j p1,Ye v (-1) J p2,jk (Ac b) j2 p3] pos)<|b1B i:=by
 intro pins s σ H Q I h;obtain⟨n,hn,hs,q⟩:=h;refine JoinedStr_many<|zY ?_;refine FN ⟨?_,zY ?_⟩
 . show(ow++a).length<=G7;rw[ua,eX];show 0+a.length<=_;lia
 . refine Xs (M8 (hv pins _ σ H (λx H1=>x=.int n/\H1=H) (I.tok _) ⟨_,hn,rfl,rfl⟩) λu s1 ⟨x,H1,I1,r1,q1⟩=>?_)
   obtain⟨rfl,rfl⟩:=q1;obtain⟨t,rfl⟩:=r1;have:(ow++a++p7 (jI n)).length<=10000:=by
    have:=int_text_length_le (by decide) hs;rw[ua,ua,PySem.ofString_length];have:Str.empty.length=0:=rfl;lia
   have L2:(ow++a++p7 (jI n)++b).length<=G7:=by
    rw[ua,eX];lia
   refine formatField_int_small hs ⟨by rw[eX];exact D6 B1 f7,zY ?_⟩;exact FN ⟨L2,joinParts_nil ⟨.str _,H1,((I1.tok _).tok _).tok _,⟨_,rfl⟩,q _⟩ L2⟩
theorem a3M{X:Cx}{K':D4}{fr:Bool}{te:TE}{F:Ds->Option PV}{fld:Str}{pos:Pos}(eK:X.K=K')(he:PX X fr v te F)(hb:autoParam (uf v fld X.env (eval v X.env)=eval v X.env) B7):PX X fr (Q0 v fld pos) (YV K' fld te)<|xR fld F:=by subst eK;exact a6T he hb
end L2
local macro_rules|`(tactic|walk_at "c")=>`(tactic|exact⟨xY,xY,xY,B9,xY,B9,B9⟩)
namespace Law
open PySem L2
variable{x r:Str}{a:D4}{i d:Nat}{S:Addr}{c:Str->Option A1}{p Y:Pos}{e M:Expr}{g:W4}{N:List Str}{Z:List Expr}{base:Heap}{T:Stmt}{R:Bool}{Q:TA}{P:S6}{w:N6}{G:DO}{L I:TE}{H:DV}{D:FV}{B:Ds->Option (List AV)}{A:CmpOp}{z:R2}{y:f9->f9->Option PV}{v:List A1->Prop}{j:Sem Bool}{a9:List (A1×V)}{b5:Mf}
noncomputable def top(i:Nat):Stmt:=PySem.Challenge.pw_sunstore_k83_desk_lines_that_are_none.main.body.getD i<|.Pass ⟨0,0,0,0⟩
inductive Rw(K:D4)(m n:Str)(s:Stmt)(f:Addr):W4->Prop
 |mk {oc kV dc pm cd ct:A1}{od an:Option Addr}{sl:Array (Option A1)} (l:K.lookup f=U ⟨oc,od,.func<|jN m n (iV s) (aM s) (K0 s) .none kV dc pm an cd ct,sl⟩) (c:Aa K cd n=Uf) (k:dC K (.ref f)=Uf):Rw K m n s f<|jN m n (iV s) (aM s) (K0 s) .none kV dc pm an cd ct
theorem SO(K:Rw a x r T S g):gf a x r T S g:=by obtain⟨l,c,k⟩:=K;exact KR l c k
theorem b00(h:v []):∀us,us.length=0->v us:=λus e=>by
 cases us with
 |nil=>exact h
 |cons _ _=>cases e
theorem b01(h:∀x,∀us,us.length=i->v (x::us)):∀us,us.length=i+1->v us:=λus e=>by
 cases us with
 |nil=>cases e
 |cons x t=>exact h x t<|Nat.succ.inj e
local macro_rules|`(tactic|walk_at "b")=>`(tactic|(intro _ _ _ _ _ _;repeat first|exact b00 xY|refine b01 λ_=>?_))
abbrev zq(s:Stmt):List Str:=((K0 s).names.filter λp=>p.2==.local||p.2==.cell).map (·.1)
abbrev dP(s:Stmt):List Str:=(zq s).take (iV s).args.length
abbrev Pp(n q:Str)(s:Stmt)(P:List Str)(k:Nat):Prop:=∀(kV doc pm:A1) (an:Option Addr) (cdv ct:A1) (us:List A1),us.length=k->bindArgs (jN n q (iV s) (aM s) (K0 s) .none kV doc pm an cdv ct) ⟨us,[]⟩=pure (P.zip us)
def OY(s:Stmt)(a b:Nat):Bool:=
 decide ((K0 s).kind=.function)&&!(K0 s).isCoroutine&&!(K0 s).isGenerator&&decide (zq s).Nodup&&decide ((dP s).length=a)&&decide ((zq s).length=b)&&(dP s).all (λx=>a0C<|(K0 s).names.lookup x)&&(K0 s).names.all λy=>!decide (y.2=.free)
theorem fnk(h:OY T i d=Uf):fF (zq T) (dP T) (K0 T)/\(dP T).length=i/\(zq T).length=d:=by
 unfold OY at h;simp only[fu,gX,lZ,wN,uB]at h;obtain⟨⟨⟨⟨⟨⟨⟨i,d⟩,c⟩,a⟩,e⟩,s⟩,f⟩,g⟩:=h;have z:(dP T).length<=(zq T).length:=by rw[lX];exact oG _ _
 exact⟨⟨i,d,c,a,by show LC (dP T).length (zq T)=_;rw[lX,Nat.min_def];split;rfl;show LC _ _=LC _ _;rw[Wq,ko<|by omega],λx hx=>lc<|f x hx,g⟩,e,s⟩
inductive Sn:List Str->List Str->Prop
 |n:Sn [] []
 |c {x:Str}{l r:List Str}:Sn l r->Sn (x::l) (x::r)
theorem Sn.eq{l r:List Str}(h:Sn l r):l=r:=by
 induction h with
 |n=>rfl
 |c _ i=>rw[i]
inductive Pl where
 |f (n:Str) (t:Nat)
 |a (x n:Str) (t:Nat)
 |m (n q:Str) (t j:Nat)
 |i (q:Str) (t j:Nat)
variable{O:Pl}
inductive Sc where
 |F (F:FV)
 |O (g:List PV->Option (PV×Ds))
 |X (h:px)
 |N (h:List f9->Option (PV ⊕ f9))
abbrev De:=Pl×Sc
variable{h:List De}
noncomputable abbrev ef(n:Str)(t:Nat)(F:FV):De:=(.f n t,.F F)
def Pl.s:Pl->Stmt
 | .f _ t | .a _ _ t=>top t
 | .m _ _ t j | .i _ t j=>inClass (top t) j
noncomputable def Pl.q:Pl->Str
 | .f n _ | .a _ n _=>n
 | .m _ q _ _ | .i q _ _=>q
noncomputable def Pl.n:Pl->Str
 | .f n _ | .a _ n _ | .m n _ _ _=>n
 | .i _ _ _=>"__init__"
def Pl.J(K:D4)(mg:Str->Option A1)(C f:Addr):Pl->Prop
 | .f n _ | .a n _ _=>mg n=U (.ref f)/\Z8 K U0 n=U (U<|.ref f)
 | .m n _ _ _=>Meth K C n f
 | .i _ _ _=>Mk K C f
noncomputable def Pl.ky:Pl->Str
 | .f n _ | .a n _ _=>n
 | .m n _ _ _=>n
 | .i q _ _=>q
noncomputable def Pl.b:Pl->Nat
 | .f .. | .a ..=>0
 | .m ..=>1
 | .i ..=>2
noncomputable def Sc.k:Sc->Nat
 | .F _=>0
 | .O _=>1
 | .X _=>2
 | .N _=>3
def Sc.sp(K:D4):Sc->Sp
 | .F a=>vK K a
 | .O g=>Dd K g
 | .X h=>nL K h
 | .N h=>Hj K h
def Sc.cx(P:S6)(w:N6):Sc->vi
 | .F _ | .O _=>jm
 | .X _=>iR P w
 | .N _=>uI P w
noncomputable def lk(l:List De)(n b:Nat)(x:Str)(k:Nat):Option Sc:=((l.take n).find? λe=>e.2.k==k&&(e.1.b==b&&e.1.ky==x)).map (·.2)
inductive Nd(K:D4)(C:Addr):Pl->Prop
 |f {n:Str}{t:Nat}{f:Addr}{d:W4} (a:Z8 K U0 n=U (U<|.ref f)) (r:Rw K n n (top t) f d):Nd K C<|.f n t
 |a {x n:Str}{t:Nat}{f:Addr}{d:W4} (a:Z8 K U0 x=U (U<|.ref f)) (r:Rw K n n (top t) f d):Nd K C<|.a x n t
 |m {n q:Str}{t j:Nat}{f:Addr}{d:W4} (a:bz K (.ref C) n=U (U<|.ref f)) (b:zV K (.ref f)=Uf) (r:Rw K n q (inClass (top t) j) f d):Nd K C<|.m n q t j
 |i {q:Str}{t j:Nat}{f:Addr}{d:W4} (a:bz K (.ref C) "__init__" = U (U<|.ref f)) (b:zV K (.ref f)=Uf) (r:Rw K "__init__" q (inClass (top t) j) f d):Nd K C<|.i q t j
inductive Ns(K:D4)(C:Addr):List De->Prop
 |n:Ns K C []
 |c {p:Pl}{s:Sc}{l:List De}:Nd K C p->Ns K C l->Ns K C ((p,s)::l)
theorem Ns.at{K:D4}{C:Addr}{p:Pl}{s:Sc}:∀{l:List De}{i:Nat},Ns K C l->l[i]?=U (p,s)->Nd K C p
 |_,0,.c h _,m=>by cases m;exact h
 |_,_+1,.c _ t,m=>t.at m
theorem Nd.dd{K:D4}{C:Addr}{p:Pl}{h:Heap}{mg:Str->Option A1}(X:K.In h)(G:h.Ns U0 mg)(mc:Fn K C=Uf)(kc:dC K (.ref C)=Uf)(a:Nd K C p):∃f d,gf K p.n p.q p.s f d/\p.J K mg C f:=by
 cases a with
 |f a r=>exact⟨_,_,SO r,tZ X G a,a⟩
 |a a r=>exact⟨_,_,SO r,tZ X G a,a⟩
 |m a b r=>exact⟨_,_,SO r,a,b,(SO r).kp⟩
 |i a b r=>exact⟨_,_,SO r,mc,a,b,kc⟩
theorem a8q(F:gf a x r T S g)(b:Pp x r T (dP T) i)(s:C5)(us:List A1)(l:us.length=i):tP s g ⟨us,[]⟩<|(dP T).zip us:=by obtain⟨_,_,_,_,_,_,_,_,_,rfl,_,_⟩:=F.ex;exact .of_eq<|b _ _ _ _ _ _ us l
theorem a5i{q m:Str}{u:Stmt}{e:W4}(F:gf a x q T S g)(G:gf a m r u S e):g=e:=by obtain⟨_,_,_,_,_,_,_,_,_,_,h,_⟩:=F.ex;obtain⟨_,_,_,_,_,_,_,_,_,_,K,_⟩:=G.ex;cases h.symm.trans K;rfl
theorem yl(h:autoParam (decide N.Nodup=Uf) B7):N.Nodup:=ff h
section
variable{K:D4}{mg:Str->Option A1}{m:Str}{s:Stmt}{l:Nat}{f C:Addr}{P:S6}{w:N6}{base:Heap}
inductive OkD(P:S6)(w:N6)(K:D4)(mg:Str->Option A1)(base:Heap)(C:Addr)(p:Pl)(s:Sc)(l:Nat):Prop
 |mk {f:Addr}{d:W4} (F:gf K p.n p.q p.s f d) (m:p.J K mg C f) (h:Y6 P w K mg base (s.cx P w) l f d (dP p.s)<|s.sp K) (b:Binds K d (dP p.s) [])
abbrev Pre(P:S6)(w:N6)(K:D4)(mg:Str->Option A1)(base:Heap)(C:Addr)(tb:List De)(n:Nat):Prop:=∀e∈tb.take n,OkD P w K mg base C e.1 e.2<|2*n
theorem st{s:Sc}{n:Nat}(p:Pre P w K mg base C h n)(A:∀{i:Nat}{O:Pl}{s:Sc},h[i]?=U (O,s)->∃f d,gf K O.n O.q O.s f d/\O.J K mg C f)(g:h[n]?=U (O,s))(o:Pre P w K mg base C h n->∀f d,gf K O.n O.q O.s f d->Y6 P w K mg base (s.cx P w) (2*n+1+1) f d (dP O.s) (s.sp K)/\Binds K d (dP O.s) []):Pre P w K mg base C h<|n+1:=λe k=>by
 rw[List.take_add_one,g]at k;rcases List.mem_append.1 k with k|k
 obtain⟨F,m,x,y⟩:=p e k;exact⟨F,m,x.mono (by omega),y⟩;cases mem_singleton.1 k;obtain⟨f,d,F,Jff⟩:=A g;obtain⟨x,y⟩:=o p f d F;exact⟨F,Jff,x,y⟩
theorem look{s:Sc}{k:Nat}(O:Pre P w K mg base C h i)(z:lk h i d x k=U s):∃p:Pl,(p.b=d/\p.ky=x)/\OkD P w K mg base C p s (2*i):=by obtain⟨⟨p,s⟩,n,rfl⟩:=Option.map_eq_some_iff.1 z;have q:=List.find?_some n;simp only[fu,beq_iff_eq]at q;exact⟨p,q.2,O _<|Yd n⟩
theorem Pl.j0(e:O.b=0/\O.ky=x)(j:O.J K mg C f):mg x=U (.ref f)/\Z8 K U0 x=U (U<|.ref f):=by obtain⟨e,rfl⟩:=e;cases O<;>first|exact j|cases e
theorem Pl.j1(e:O.b=1/\O.ky=x)(j:O.J K mg C f):Meth K C x f:=by obtain⟨e,rfl⟩:=e;cases O<;>first|exact j|cases e
theorem Pl.j2(e:O.b=2/\O.ky=x)(j:O.J K mg C f):Mk K C f:=by cases O<;>first|exact j|cases e.1
abbrev okT(P:S6)(w:N6)(K:D4)(mg:Str->Option A1)(base:Heap)(N:List Str)(q:Str)(s:Stmt)(f:Addr)(l:Nat)(G:DO):Prop:=∀(cdv:A1) (A:X1) (outer:List Env) (s':C5) (H:Hp) (E:XK),N.Nodup->aG l (A.deeper<|Mx q (K0 s) s'.heap.objs.size f cdv)->∃t,iq (fD jm P w K mg base N q (K0 s) f cdv A outer s' H E).HD (aM s) t G
theorem iC{F:_}(D:gf K m x s f g)(hF:F=N1 i d G)(b:okT P w K mg base N x s f l G)(S:autoParam (OY s i d=Uf) B7)(z:Pp m x s (dP s) i:=by walk_at "b")(q:Sn (zq s) N:=by repeat first|exact .n|apply Sn.c):Y6 P w K mg base jm (l+1) f g (dP s) (vK K F)/\Binds K g (dP s) []:=by obtain⟨Y,rfl,rfl⟩:=fnk S;cases q.eq;exact⟨hF▸D.okF Y (by rw[lX];exact oG _ _) λ_ _ _ _ _ _ hr=>b _ _ _ _ _ _ Y.nd hr,D.binds z⟩
theorem pk{F:_}(D:gf K m x s f g)(hF:F=BK i d G)(b:okT P w K mg base N x s f l G)(S:autoParam (OY s i d=Uf) B7)(z:Pp m x s (dP s) i:=by walk_at "b")(q:Sn (zq s) N:=by repeat first|exact .n|apply Sn.c):Y6 P w K mg base jm (l+1) f g (dP s) (Dd K F)/\Binds K g (dP s) []:=by obtain⟨Y,rfl,rfl⟩:=fnk S;cases q.eq;exact⟨hF▸D.okO Y (by rw[lX];exact oG _ _) λ_ _ _ _ _ _ hr=>b _ _ _ _ _ _ Y.nd hr,D.binds z⟩
abbrev okV(P:S6)(w:N6)(K:D4)(mg:Str->Option A1)(base:Heap)(N:List Str)(q:Str)(s:Stmt)(f:Addr)(l:Nat)(G:DO):Prop:=∀(cdv:A1) (A:X1) (outer:List Env) (s':C5) (H:Hp) (E:XK),N.Nodup->aG l (A.deeper<|Mx q (K0 s) s'.heap.objs.size f cdv)->∃t,iq (fD (iR P w) P w K mg base N q (K0 s) f cdv A outer s' H E) (aM s) t G
abbrev okW(P:S6)(w:N6)(K:D4)(mg:Str->Option A1)(base:Heap)(N:List Str)(q:Str)(s:Stmt)(f:Addr)(l:Nat)(G:DO):Prop:=∀(cdv:A1) (A:X1) (outer:List Env) (s':C5) (H:Hp) (E:XK),N.Nodup->aG l (A.deeper<|Mx q (K0 s) s'.heap.objs.size f cdv)->∃t,iq (fD (uI P w) P w K mg base N q (K0 s) f cdv A outer s' H E) (aM s) t G
theorem okC{F:_}(D:gf K m x s f g)(hF:F=tA i d G)(b:okV P w K mg base N x s f l G)(S:autoParam (OY s i d=Uf) B7)(z:Pp m x s (dP s) i:=by walk_at "b")(q:Sn (zq s) N:=by repeat first|exact .n|apply Sn.c):Y6 P w K mg base (iR P w) (l+1) f g (dP s) (nL K F)/\Binds K g (dP s) []:=by obtain⟨Y,rfl,rfl⟩:=fnk S;cases q.eq;exact⟨hF▸D.b1G Y (by rw[lX];exact oG _ _) λ_ _ _ _ _ _ hr=>b _ _ _ _ _ _ Y.nd hr,D.binds z⟩
theorem Dw{F:_}(D:gf K m x s f g)(hF:F=fnX i d G)(b:okW P w K mg base N x s f l G)(S:autoParam (OY s i d=Uf) B7)(z:Pp m x s (dP s) i:=by walk_at "b")(q:Sn (zq s) N:=by repeat first|exact .n|apply Sn.c):Y6 P w K mg base (uI P w) (l+1) f g (dP s) (Hj K F)/\Binds K g (dP s) []:=by obtain⟨Y,rfl,rfl⟩:=fnk S;cases q.eq;exact⟨hF▸D.b1F Y (by rw[lX];exact oG _ _) λ_ _ _ _ _ _ hr=>b _ _ _ _ _ _ Y.nd hr,D.binds z⟩
end
inductive Al(p:Str->Prop):List Str->Prop
 |n:Al p []
 |c {s:Str}{r:List Str}:p s->Al p r->Al p (s::r)
theorem Al.at{p:Str->Prop}{s:Str}:∀{l:List Str},Al p l->s∈l->p s
 |_::_,.c h t,m=>by
  cases m with
  |head=>exact h
  |tail _ m=>exact t.at m
section
variable{X:Cx}{o:Expr}
def pvB(N:List Str)(sc:cV)(i:Nat)(x:Str):Bool:=decide (N[i]?=U x)&&YF (sc.names.lookup x)&&!(x==("__debug__" : Str))&&!(x==("__classdict__" : Str))
theorem kH(h:autoParam (pvB X.N X.env.scope i x=Uf) B7):PE X (.Name x p)<|S7 i:=by unfold pvB at h;simp only[fu,lZ,gX]at h;exact pv i h.1.1.1 (vs h.1.1.2) h.1.2 h.2
noncomputable def isS:Expr->Bool
 | .Starred ..=>Uf
 |_=>U'
def caB(X:Cx)(x:Str)(es:List Expr):Bool:=decide (X.env.kindOf x=U .globalImplicit)&&!(x==("__debug__" : Str))&&es.all λe=>!isS e
theorem caT{pos:Pos}{es:List Expr}(h:caB X x (e::es)=Uf):Gl X x/\jj x/\fS X e es/\lF X pos es:=by
 unfold caB at h;simp only[fu,lZ,gX,fZ]at h;obtain⟨⟨a,b⟩,c,d⟩:=h;have st:∀{f es},isS f=U'->fS X f es:=λ{f es} h=>by cases f<;>first|rfl|cases h
 refine⟨a,b,st c,?_⟩;clear c;induction es with
 |nil=>rfl
 |cons f es ih=>
  obtain⟨a,b⟩:=Bool.and_eq_true_iff.mp d;have:=st (es:=es)<|lZ _▸a;show(bP pos<|O7 (f::es) X.env).any _=_;rw[this];exact ih b
theorem pcD{Fl:DL}{pos:Pos}(O:Pre X.prog X.w a c X.base S h i)(hr:aG (2*i+1) X.A)(ha:hV X R (e::Z) Q Fl)(eK:autoParam (X.K=a) bL)(em:autoParam (X.mg=c) bL)(z:autoParam (lk h i 0 x 0=U (.F D)) B7)(t:autoParam (caB X x (e::Z)=Uf) B7):PX X R (.Call (.Name x p) (e::Z) [] pos) (nK (vK a D) [] E0 Q)<|A0 D Fl:=by subst eK em;obtain⟨hg,hdb,he,hpl⟩:=caT (pos:=pos) t;obtain⟨p,n,F,m,h0,b⟩:=look O z;exact⟨Gx h0 (hr.mono<|lO _) hg (Pl.j0 n m).1 F.kp b .nil Dr ha.p hdb he hpl,NN ha⟩
theorem pcO{pos:Pos}{g':List PV->Option (PV×Ds)}(O:Pre X.prog X.w a c X.base S h i)(hr:aG (2*i+1) X.A)(ha:tO X (e::Z) Q B)(eK:autoParam (X.K=a) bL)(em:autoParam (X.mg=c) bL)(z:autoParam (lk h i 0 x 1=U (.O g')) B7)(t:autoParam (caB X x (e::Z)=Uf) B7):BQ X (.Call (.Name x p) (e::Z) [] pos) (nK (Dd a g') [] E0 Q)<|lD g' B:=by subst eK em;obtain⟨hg,hdb,he,hpl⟩:=caT (pos:=pos) t;obtain⟨p,n,F,m,h0,b⟩:=look O z;exact⟨Gx h0 (hr.mono<|lO _) hg (Pl.j0 n m).1 F.kp b .nil Dr ha.p hdb he hpl,YH ha⟩
theorem pmX{pl:Sem Bool}{h':px}(O:Pre X.prog X.w a c X.base S h d)(T:qa a r S)(hr:aG (2*d+1) X.A)(C:PE X o<|S7 i)(ha:tO X (e::Z) Q B)(eK:autoParam (X.K=a) bL)(em:autoParam (X.mg=c) bL)(z:autoParam (lk h d 1 x 2=U (.X h')) B7)(he:autoParam (fS X e Z) B7)(hpl:autoParam (lF X p Z) B7)(hq:autoParam (Px X o x Y (e::Z) p pl) bL):BQ X (.Call (.Attribute o x Y) (e::Z) [] p) (uK S x (nL a h') [] (λ_ _ _=>False) (S7 i) Q)<|gJ r x i (rn h') B:=by subst eK em;obtain⟨n,t,F,m,h0,b⟩:=look O z;exact Te T C (Pl.j1 t m) h0 (hr.mono<|lO _) b ha he hpl hq
theorem pmR{pl:Sem Bool}{h':px}{rpos:Pos}(O:Pre X.prog X.w a c X.base S h d)(P:Passes (iR X.prog X.w) X X.ek)(T:qa a r S)(hr:aG (2*d+1) X.A)(C:PE X o<|S7 i)(ha:tO X (e::Z) Q B)(eK:autoParam (X.K=a) bL)(em:autoParam (X.mg=c) bL)(z:autoParam (lk h d 1 x 2=U (.X h')) B7)(he:autoParam (fS X e Z) B7)(hpl:autoParam (lF X p Z) B7)(hq:autoParam (Px X o x Y (e::Z) p pl) bL):V3 X (.Return (U<|.Call (.Attribute o x Y) (e::Z) [] p) rpos) (BZ<|uK S x (nL a h') [] X.ek (S7 i) Q)<|lx r x i h' B:=by subst eK em;obtain⟨n,t,F,m,h0,b⟩:=look O z;exact Tt P T C (Pl.j1 t m) h0 (hr.mono<|lO _) b ha he hpl hq
theorem fO{p:Prop}(h:autoParam (p) B7):p:=h
structure Cm(X:Cx)(op:CmpOp)(b:Expr)(r:R2)(f:f9->f9->Option PV):Prop where
 o:X4 X (V9 op) r
 h:aZ X.K r f
 m:oB op b=U'
theorem a9W{Fb:DV}{r:R2}(a:Cm X A M r y)(d:PX X R e L H)(c:PX X R M I Fb):PX X R (.Compare e [A] [M] p) (vF r L I)<|A2 y H Fb:=a6U a.o a.h a.m d c
theorem Tj{fr:Bool}{Fb:DV}(a:Cm X A M z y)(d:PX X fr e L H)(c:PX X fr M I Fb):lE X (.Compare e [A] [M] p) (Iy<|vF z L I)<|B5<|A2 y H Fb:=a3X a.o a.h a.m d c
theorem Ce{c:Expr}{tc:TE}{Fb Fc:DV}{g:CmpOp}{B:R2}{g':f9->f9->Option PV}(ho:X4 X (V9 A) z)(hp:X4 X (V9 g) B)(a:aZ X.K z y)(s:aZ X.K B g')(N:PX X R e L H)(hb:PX X R M I Fb)(P:PX X R c tc Fc)(E:autoParam (lastMarks [A,g] [M,c]=U') B7):PX X R (.Compare e [A,g] [M,c] p) (CY z B L I tc)<|lB y g' H Fb Fc:=⟨JJ ho hp N.p hb.p P.p E,Ja a s N hb P⟩
noncomputable def adr(K:D4)(x:Str):Addr:=match Z8 K U0 x with
 |some (U<|.ref f)=>f
 |_=>0
theorem a8S(h:Z8 a U0 x=U (U<|.ref S)):adr a x=S:=by unfold adr;rw[h]
theorem pcV{Fl:DL}(O:Pre X.prog X.w a c X.base S h d)(hr:aG (2*d+1) X.A)(hv:PE X (.Name x p)<|S7 i)(ha:hV X R (e::Z) Q Fl)(eK:autoParam (X.K=a) bL)(em:autoParam (X.mg=c) bL)(z:autoParam (lk h d 0 r 0=U (.F D)) B7)(he:autoParam (O7 (e::Z) X.env=(U',eval e X.env)::O7 Z X.env) B7)(hpl:autoParam ((bP Y<|O7 Z X.env).any (·.1)=U') B7)(hne:autoParam (r≠RC) iJ):PX X R (.Call (.Name x p) (e::Z) [] Y) (Je i (adr a r)<|nK (vK a D) [] E0 Q)<|lC i r D Fl:=by subst eK em;obtain⟨p,t,F,m,h0,b⟩:=look O z;have q:=(Pl.j0 t m).2;rw[a8S q];exact ZF rfl q hv h0 (hr.mono<|lO _) F.kp b Dr ha he hpl hne
theorem Ob{A:X1}(r:aG i A):A.units+1<aQ:=by have:=r.un;omega
theorem QA{l:List Stmt}:iq X l CW fP:=⟨TB,(Hw (st:=.Pass ⟨0,0,0,0⟩)).2⟩
theorem pcP{apos pc:Pos}(O:Pre X.prog X.w a c X.base S h d)(hr:aG (2*d+1) X.A)(ho:PE X e<|S7 i){k9:Expr}(hz:PX X Uf k9 L<|fC<|.int 0)(he2:PX X Uf M I H)(eK:autoParam (X.K=a) bL)(em:autoParam (X.mg=c) bL)(z:autoParam (lk h d 0 x 0=U (.F D)) B7)(hg:autoParam (Gl X x) B7)(hdb:autoParam (jj x) B7)(bm:autoParam (Gj X e "pop" apos k9 [] Y) qI)(hs1:autoParam (fS X (.Call (.Attribute e "pop" apos) [k9] [] Y) [M]) B7)(hs2:autoParam (fS X M []) B7)(hpl:autoParam (lF X pc [M]) B7):gR X (.Call (.Name x p) [.Call (.Attribute e "pop" apos) [k9] [] Y,M] [] pc) (tB<|nK (vK a D) [] E0<|fj (Bw X.K "list" yP (S7 i)<|fj L pA)<|fj I pA)<|Dy i D H:=by subst eK em;obtain⟨n,C,F,m,h0,b⟩:=look O z;exact ZJ h0 (hr.mono<|lO _) hg (Pl.j0 C m).1 F.kp b Dr ho hz he2 hdb bm hs1 hs2 hpl
theorem bkN{sc:cV}(h:tJ X.N X.N X.env.scope sc=Uf):tJ X.N X.N X.env.scope sc=Uf:=h
theorem bkL{sc:cV}(nb:List Str)(h:tJ X.N nb X.env.scope sc=Uf):tJ X.N nb X.env.scope sc=Uf:=h
end
mutual
inductive Cs(K:D4):A1->V->f9->Prop
 |i {n:Int}{t:Tok}:Cs K (.int n t) (.int n)<|.int n
 |s {x:Str}{t:Tok}:Cs K (.str x t) (.str x)<|.str x
 |f {f:Addr}{nm:Str} (h:Z8 K U0 nm=U (U<|.ref f)):Cs K (.ref f) (.ref f)<|ej nm
 |t {a:Addr}{d:Option Addr}{n:Nat}{s:Array (Option A1)}{us:List A1}{vs:List V}{ds:List f9} (l:K.lookup a=U ⟨.type "tuple",d,.seq us.toArray n,s⟩) (z:us.toArray.size<=1000) (h:Cl K us vs ds):Cs K (.ref a) (.ref a)<|.tuple ds
inductive Cl(K:D4):List A1->List V->List f9->Prop
 |n:Cl K [] [] []
 |c {u:A1}{us:List A1}{v:V}{vs:List V}{d:f9}{ds:List f9} (a:Cs K u v d) (b:Cl K us vs ds):Cl K (u::us) (v::vs) (d::ds)
end
mutual
theorem Cs.to{K:D4}{u:A1}{v:V}{d:f9}(h:Cs K u v d):RelV v u/\∀H,Dt K H v d:=by
 cases h with
 |i=>exact⟨⟨_,rfl⟩,λ_=>.int _⟩
 |s=>exact⟨⟨_,rfl⟩,λ_=>.str _⟩
 |f h=>exact⟨rfl,λ_=>.fn<|.inl h⟩
 |t l z h=>exact⟨rfl,a1w l z h.to.1 h.to.2⟩
theorem Cl.to{K:D4}{us:List A1}{vs:List V}{ds:List f9}(h:Cl K us vs ds):Vals vs us/\∀H,N2 K H vs ds:=by
 cases h with
 |n=>exact⟨.nil,λ_=>.nil⟩
 |c a b=>exact⟨.cons a.to.1 b.to.1,λH=>.cons (a.to.2 H)<|b.to.2 H⟩
end
inductive Ck(K:D4):List (Str×f9)->List (A1×V)->Prop
 |n:Ck K [] []
 |c {s:Str}{d:f9}{l:List (Str×f9)}{u:A1}{v:V}{as:List (A1×V)} (e:Z8 K U0 s=U (U u)) (h:Cs K u v d) (r:Ck K l as):Ck K ((s,d)::l) ((u,v)::as)
theorem Ck.at{K:D4}{s:Str}{d:f9}{l:List (Str×f9)}{as:List (A1×V)}(h:Ck K l as)(m:l.lookup s=U d):∃u:A1×V,Z8 K U0 s=U (U u.1)/\Cs K u.1 u.2 d:=by
 induction h with
 |n=>exact nE m
 | @c x y l u v as a b _ j=>
  rw[qU]at m;cases e:s==x with
  |true=>rw[e]at m;cases m;exact⟨(u,v),(Es e).symm▸a,b⟩
  |false=>rw[e]at m;exact j m
def Pm:List<|Str×f9:=[("FIGURES",zC),("MOST_FIGURES",pQ),("NOUGHT_costs",az),("NOUGHT_keepers",O5),("NO_LINE",zz),("PLAIN_RULE",zx),("MOST_HOURS",zB),("MOST_WORKS",zA),("MOST_NUMBER_reading",gM),("MOST_BOTTOM",yo),("MOST_LETTERS_reading",gp),("LETTERS_reading",kR),("STORE_PARTS",ro),("HOUR_PARTS",jB),("LINE_PARTS",tI),("WORK_PARTS",tG),("MOST_RULES",tH),("MOST_TESTS",jA),("MOST_NUMBER_rules",iZ),("BARE_WORDS",gN),("AMOUNT_WORDS",gO),("PRICE_WORDS",iI),("FILL_WORDS",nZ),("TAKE_WORDS",nY),("WORK_WORDS",nX),("DEED_WORDS",oa),("MOST_SUN",Em),("MOST_LETTERS_desk",ft),("LETTERS_desk",wc),("KEEPER_WORDS",cK)]
noncomputable def kts:List<|Str×Bool:=[("NoLine",Uf),("NoFraction",U'),("NoKeeper",U'),("NoPrices",U'),("NoText",U')]
structure Xc(K:D4)(mg:Str->Option A1)(C CS fi:Addr)(fd:W4)(c fld prm qn:Str)(st:Stmt):Prop where
 h:jY K C CS fi fld
 e:kW K C
 k:dC K (.ref C)=Uf
 F:gf K "__init__" qn st fi fd
 b:Binds K fd ["self",prm] []
 m:mg c=U (.ref C)
inductive Xf(K:D4)(CS:Addr)(c fld q:Str)(st:Stmt):Addr->Addr->W4->Prop
 |mk {C f N:Addr}{nm qn:Str}{bs:List A1}{sn:List Str}{sub:List A1}{ab:Bool}{col:Option Bool}{dd:Option Addr}{k0 k1 k2 k3 k5:Option A1}{od an:Option Addr}{sl:Array (Option A1)}{kV dc pm cd ct:A1} (a:Z8 K U0 c=U (U<|.ref C)) (l:K.lookup C=U (lN nm qn C N bs (.ref CS::bG) Uf sn sub ab col dd k0 k1 k2 k3 k5 "ValueError.__new__")) (x1:PySem.W.nsOkIn K N=Uf) (x2:Z8 K N "__init__" = U (U<|.ref f)) (xt:PySem.W.tailIn K bG (.ref CS::bG)=Uf) (li:K.lookup f=U ⟨.type "function",od,.func<|jN "__init__" q (iV st) (aM st) (K0 st) .none kV dc pm an cd ct,sl⟩) (ci:Aa K cd q=Uf) (ki:dC K (.ref f)=Uf) (y:(bz K (.ref C) "__setattr__" = U (U<|.builtin "object.__setattr__")/\bz K (.ref C) fld=U J)/\Wc K CS (.type "type")=Uf/\Mo K (.ref CS) "__getattribute__" = U (U<|.builtin "type.__getattribute__")/\Wb K (.ref CS) (.type "type") "__init__" = U (.val<|.builtin "ValueError.__init__")) (e:kW K C) (k:dC K (.ref C)=Uf):Xf K CS c fld q st C f<|jN "__init__" q (iV st) (aM st) (K0 st) .none kV dc pm an cd ct
theorem Xf.to{K:D4}{C f:Addr}{q prm:Str}(X:K.In base)(G:base.Ns U0 c)(h:Xf K S x r q T C f g)(b:Pp "__init__" q T ["self",prm] 2):Xc K c C S f g x r prm q T:=by
 cases h with
 |mk a l x1 x2 xt li ci ki y e k=>exact⟨⟨⟨_,_,_,_,_,_,_,_,_,_,_,_,_,_,l,x1,x2⟩,xt,⟨_,li,rfl⟩,y.1.1,y.1.2,y.2.1,y.2.2.1,y.2.2.2⟩,e,k,KR li ci ki,(KR (K:=K) li ci ki).binds b,tZ X G a⟩
noncomputable def uAt(K:D4)(s:Str):A1×V:=@Classical.epsilon _ ⟨(.none,.non)⟩ λu=>Z8 K U0 s=U (U u.1)/\∀d,Pm.lookup s=U d->Cs K u.1 u.2 d
theorem Ck.u{d:f9}(h:Ck a Pm a9)(m:Pm.lookup x=U d):Z8 a U0 x=U (U (uAt a x).1)/\Cs a (uAt a x).1 (uAt a x).2 d:=by
 obtain⟨u,K,b⟩:=h.at m;have E:=@Classical.epsilon_spec _ (λu:A1×V=>Z8 a U0 x=U (U u.1)/\∀d,Pm.lookup x=U d->Cs a u.1 u.2 d) ⟨u,K,λd' e=>by cases m.symm.trans e;exact b⟩;exact⟨E.1,E.2 d m⟩
structure Ads where
 u:Str->A1×V
 C:Addr
 E:hW
 S:Addr
 fit:Addr
 fdt:W4
 fik:Addr
 fdk:W4
 fil:Addr
 fdl:W4
variable{E:Ads}
def tb(E:hW):List De:=[ef "common_divisor" 10 au,
 ef "fraction" 11 iv,
 ef "read_figures" 19 eI,
 ef "read_signed" 20 mD,
 ef "figures_of" 17 jX,
 ef "written" 18 cZ,
 ef "read_fraction" 21 bS,
 ef "read_whole" 102 gY,
 ef "read_amount" 103 fG,
 ef "read_name" 106 qk,
 ef "read_price" 104 oR,
 ef "read_share" 105 oQ,
 ef "read_parts" 111 aq,
 ef "read_hour" 113 bE,
 ef "read_hours" 115 oU,
 ef "read_store" 112 oP,
 ef "read_work" 114 qj,
 ef "read_works" 116 oO,
 ef "read" 117 AD,
 (.i "Desk.__init__" 155 0,.O fH),
 ef "plus" 12 cG,
 ef "added" 46 Bo,
 ef "minus" 13 X8,
 ef "times" 14 cL,
 ef "coins_of" 74 rR,
 ef "hour_costs" 75 oW,
 ef "lost_in" 70 uZ,
 ef "spilt_in" 69 rO,
 ef "ledger" 71 ye,
 ef "costs" 76 pZ,
 ef "under" 16 ku,
 ef "from_nought" 82 iQ,
 ef "lesser" 81 gq,
 ef "over" 15 AE,
 ef "fill_most" 90 ql,
 ef "out_most" 89 rP,
 ef "shared_out" 84 bR,
 ef "total" 83 sA,
 ef "deeds_of" 91 oX,
 ef "line_holds" 85 oV,
 ef "holds" 86 hI,
 ef "rule_for" 87 oN,
 ef "wish_of" 88 uY,
 ef "day_of" 92 uE,
 ef "fractions_line" 150 ar,
 ef "rule_line" 135 qi,
 ef "shown_keeper" 136 eG,
 (.m "say_keeper" "Desk.say_keeper" 155 4,.X<|aH E),
 ef "raised_house" 154 pW,
 (.m "say_raised" "Desk.say_raised" 155 2,.X<|kU E),
 ef "read_deeds" 132 gZ,
 ef "read_bound" 129 da,
 ef "read_test" 130 Z0,
 ef "read_tests" 131 jW,
 ef "read_rule" 133 bD,
 ef "read_keeper" 134 Ip,
 (.f "read_keeper" 134,.N<|V2 E),
 (.m "say_rule" "Desk.say_rule" 155 3,.X<|dF E),
 ef "is_name" 149 gg,
 (.a "whole_showing" "whole" 138,.F Z5),
 ef "hour_line" 141 mq,
 ef "store_line" 140 oM,
 ef "work_line" 142 qh,
 ef "shown" 143 xm,
 (.m "say" "Desk.say" 155 1,.X<|L9 E),
 ef "_law_bent" 173 uD,
 ef "_law_mixed" 157 K2,
 ef "_law_good" 175 yg,
 ef "_law_scale" 159 vd,
 ef "_law_number" 160 Y3,
 ef "_law_line" 162 yf,
 ef "_law_frac" 158 yh,
 ef "_law_share" 161 ri,
 ef "_law_work" 163 pX,
 ef "_law_house" 164 ve,
 ef "_law_words" 168 eD,
 ef "_law_written" 167 mj,
 ef "_law_house_lines" 169 V5,
 ef "_law_is_name" 176 gr,
 ef "_law_is_number" 171 W9,
 ef "_law_is_rule" 172 iW,
 ef "_law_is_line" 177 mm,
 ef "_law_test" 165 pY,
 ef "_law_keeper" 166 rQ,
 (.f "_law_none" 179,.O<|CN E),
 ef "_law_odd" 174 GY,
 (.f "_law_refused" 178,.O<|ml E),
 ef "_law_rule_line" 170 mE,
 ef "law" 180 (Gg E)]
structure Txt(K:D4)(mg:Str->Option A1)(a:Ads):Prop where
 A:∀{i:Nat}{p:Pl}{s:Sc},(tb a.E)[i]?=U (p,s)->∃f d,gf K p.n p.q p.s f d/\p.J K mg a.C f
 cn:qa K "Desk" a.C
 mc:mg "Desk" = U (.ref a.C)
 na:∀s∈(["house","keepers"]:List Str),jE K a.C s
 n:∀s∈(["ValueError","abs","all","enumerate","int","isinstance","len","list","range","str","sum","tuple","zip"]:List Str),mg s=J
 v:∀{s:Str}{d:f9},Pm.lookup s=U d->mg s=U (a.u s).1/\RelV (a.u s).2 (a.u s).1/\∀H,Dt K H (a.u s).2 d
 xs:mg "StoreError" = U (.ref a.S)
 xt:Xc K mg a.E.t a.S a.fit a.fdt "NoText" "place" "place" "NoText.__init__"<|inClass (top 3) 0
 xk:Xc K mg a.E.k a.S a.fik a.fdk "NoKeeper" "name" "name" "NoKeeper.__init__"<|inClass (top 5) 0
 xl:Xc K mg a.E.l a.S a.fil a.fdl "NoLine" "line" "line" "NoLine.__init__"<|inClass (top 6) 0
 ks:∀{s:Str}{b:Bool},kts.lookup s=U b->IsE K mg a.E.l s b
 kv:cY K (.ref a.E.l) (.type "ValueError")=U Uf/\cY K (.type "NoneType") (.type "ValueError")=U U'
 xb:RL K a.S
theorem b0k(T:Txt a c E)(K:Bool):rN K P w a c base jm 1 E.fit E.fdt ["self","place"]<|iS VR E.E.t "place":=by
 refine T.xt.F.pk (k:=0) (by walk_at "c" : fF ["self","place"] ["self","place"] (K0<|inClass (top 3) 0)) (λus H Q b h=>?_) λcdv A outer s H us Q b hr h=>⟨_,xD (mY<|vr T.xt.h rfl T.xs (bg (pv 0)<|bg (a4t 1 (pv 1) (by decide +kernel)<|by decide +kernel) jt) (pl:=_))<|AN<|Gu T.xt.h (pv 0)<|pv 1,?_⟩;obtain⟨ea,v,rfl,_⟩:=h;rfl;obtain⟨ea,v,rfl,⟨i,rfl,hi⟩,hH,q⟩:=h;exact⟨.ref ea,rfl,i,rfl,hi,λx=>⟨ea,_,J,rfl,hH,.int i,rfl,.ref ea,rfl,ea,rfl,hH,q⟩⟩
theorem b0l(T:Txt a c E)(K:Bool):rN K P w a c base jm 1 E.fik E.fdk ["self","name"]<|iS Lw E.E.k "name":=by
 refine T.xk.F.pk (k:=0) (by walk_at "c" : fF ["self","name"] ["self","name"] (K0<|inClass (top 5) 0)) (λus H Q b h=>?_) λcdv A outer s H us Q b hr h=>⟨_,xD (mY<|vr T.xk.h rfl T.xs (bg (pv 0)<|bg (Ou 1 (pv 1)<|by decide +kernel) jt) (pl:=_))<|AN<|Gu T.xk.h (pv 0)<|pv 1,?_⟩;obtain⟨ea,v,rfl,_⟩:=h;rfl;obtain⟨ea,v,rfl,⟨i,rfl,hi⟩,hH,q⟩:=h;exact⟨.ref ea,rfl,i,rfl,hi,λx=>⟨ea,_,J,rfl,hH,.str i,rfl,.ref ea,rfl,ea,rfl,hH,q⟩⟩
theorem a2q(T:Txt a c E)(K:Bool):rN K P w a c base jm 1 E.fil E.fdl ["self","line"]<|iS Lw E.E.l "line":=by
 refine T.xl.F.pk (k:=0) (by walk_at "c" : fF ["self","line"] ["self","line"] (K0<|inClass (top 6) 0)) (λus H Q b h=>?_) λcdv A outer s H us Q b hr h=>⟨_,xD (mY<|vr T.xl.h rfl T.xs (bg (pv 0)<|bg (Ou 1 (pv 1)<|by decide +kernel) jt) (pl:=_))<|AN<|Gu T.xl.h (pv 0)<|pv 1,?_⟩;obtain⟨ea,v,rfl,_⟩:=h;rfl;obtain⟨ea,v,rfl,⟨i,rfl,hi⟩,hH,q⟩:=h;exact⟨.ref ea,rfl,i,rfl,hi,λx=>⟨ea,_,J,rfl,hH,.str i,rfl,.ref ea,rfl,ea,rfl,hH,q⟩⟩
theorem oks(T:Txt a c E):Pre P w a c base E.C (tb E.E) 89:=by
 repeat refine st ?_ T.A rfl λO _ _ D=>?_
 exact λ_ h=>nomatch h
 all_goals
  first|refine iC D rfl ?_|refine pk D rfl ?_|refine okC D rfl ?_|refine Dw D rfl ?_
  intro _ _ _ _ _ _ nd hr;try delta df gj Y4 kC xo fJ bw aA hJ yj kE pe pa rW rk vh vm kD vj pf oY rV rY rT rS gh bY fI iw iy N3 O8 vk V2 T8 mr mG kB kx mF vg vf qp oZ rX mv vA qm gE kX av Z6 Q9 T3 ph uG jn Bp xn
  apply Exists.intro
 repeat' (guard_target=(_:Prop);first|((guard_target=PX _ _ _ _ _);first|((guard_target=PX _ _ _ _ (ay _));apply a6S)|apply a6O|((guard_target=PX _ _ _ _ (C4 _));exact a6L _ kH)|((guard_target=PX _ _ _ _ (fC _));first|exact JB|exact a9X|exact a6N|exact a6Q|exact ZE fO<|T.v fO)|((guard_target=PX _ _ _ _ (A2 _ _ _));first|((guard_target=PX _ _ (.Compare _ _ _ _) _ _);refine' a9W ?_ ?_ ?_)|((guard_target=PX _ _ _ _ (A2 J2 _ _));refine' a9U (r:=rIx a) a8e b1w ?_ ?_<|λ_ _=>rfl)|((guard_target=PX _ _ _ _ (A2 sY _ _));apply AM a4A a9t)|((guard_target=PX _ _ _ _ (A2 D5 _ _));apply AM (r:=Qv a) a4F a9A)|((guard_target=PX _ _ _ _ (A2 cv _ _));apply AM a0n a5T)|((guard_target=PX _ _ _ _ (A2 Q1 _ _));apply AM a4B a9u)|((guard_target=PX _ _ _ _ (A2 kM _ _));apply AM a7s a9o)|((guard_target=PX _ _ _ _ (A2 QC _ _));apply AM a7t a9r))|((guard_target=PX _ _ _ _ (lB pq pq _ _ _));refine' Ce IC IC PH PH ?_ ?_ ?_)|((guard_target=PX _ _ _ _ (kQ _ _ _));first|refine' a3L (T.ks rfl) fO (T.n _ B9) B9 ?_ rfl|refine' Th (vc:=.ty "ValueError") (uc:=.type "ValueError") (λ_ h=>h) T.kv.1 T.kv.2 fO (T.n _ B9) B9 ?_<|a4v fO (T.n _ B9) B9 rfl)|((guard_target=PX _ _ _ _ (U6 _ _ _));first|((guard_target=PX _ _ _ _ (U6 vY _ _));refine' Ti ?_ ?_)|((guard_target=PX _ _ _ _ (U6 bx _ _));refine' yR (name:="join") (id:="str.join") (r:=rJoin a) rfl F.slot_str_join F.type_str_join a4P a5R (λ_ _ _ h=>UQ h) ?_ ?_)|((guard_target=PX _ _ _ _ (U6 dJ _ _));refine' yR (name:="split") (id:="str.split") rfl Fw F.type_str_split a0y a3b (λ_ _ _ h=>Qf h) ?_ ?_)|((guard_target=PX _ _ _ _ (U6 pB _ _));refine' yR (name:="startswith") (id:="str.startswith") rfl F.slot_str_startswith F.type_str_startswith Ut Yz (λ_ _ _ h=>Ni h) ?_ ?_)|((guard_target=PX _ _ _ _ (U6 vC _ _));refine' yR (name:="zfill") (id:="str.zfill") rfl F.slot_str_zfill F.type_str_zfill a0x a2Z (λ_ _ _ h=>PC h) ?_ ?_)|((guard_target=PX _ _ _ _ (U6 xG _ _));refine' yR (name:="partition") (id:="str.partition") rfl Xw F.type_str_partition a4O a5N (λ_ _ _ h=>TU h) ?_ ?_))|((guard_target=PX _ _ _ _ (lB jd pq _ _ _));refine' Ce a2o IC a5P PH ?_ ?_ ?_)|apply a9R a6b a9s|apply a6M|apply a6R|apply a9V|apply a6V|apply a9T|apply a6P|((guard_target=PX _ _ _ _ (Eg));exact ZC)|((guard_target=PX _ _ _ _ (Eh _ _ _));refine' ZD (Ob hr) (by first|exact JM T.cn (T.na _ B9) kH|exact JL kH) ?_ (by refine⟨?_,?_,?_,?_⟩<;>kernel_rfl))|((guard_target=PX _ _ _ _ (Bh _ _ _ _));refine' Tg (Ob hr) (by first|exact JM T.cn (T.na _ B9) kH|exact JL kH) ?_ ?_ (by refine⟨?_,?_,?_,?_⟩<;>kernel_rfl))|((guard_target=PX _ _ _ _ (xR _ _));refine' a3M (K':=a) rfl ?_)|((guard_target=PX _ _ _ _ (xP _ _ _));exact Zz rfl T.cn (T.na _ B9) kH)|((guard_target=PX _ _ _ _ (A0 _ _));first|((guard_target=PX _ _ _ _ (A0 Qb _));refine' xC (r:=Qr a) (VE<|hr.hd rfl) a5L fO (T.n _ B9) B9 ?_)|((guard_target=PX _ _ _ _ (A0 N5 _));refine' xC (r:=Zw a) VF a9v fO (T.n _ B9) B9 ?_)|((guard_target=PX _ _ _ _ (A0 vy _));refine' xC a1B a9B fO (T.n _ B9) B9 ?_)|((guard_target=PX _ _ _ _ (A0 yb _));refine' xC (r:=Qu a) (VJ<|hr.hd rfl) a5V fO (T.n _ B9) B9 ?_)|((guard_target=PX _ _ _ _ (A0 iX _));refine' qB (r:=a9P a) Io a3a fO (T.n _ B9) B9 ?_)|((guard_target=PX _ _ _ _ (A0 qe _));refine' qB (r:=a6G a) Ll a5Q fO (T.n _ B9) B9 ?_)|((guard_target=PX _ _ _ _ (A0 kN _));refine' qB zv a1R fO (T.n _ B9) B9 ?_)|((guard_target=PX _ _ _ _ (A0 (qD intD jf) _));refine' qB (VH.or VG) (a9w.or a5S) fO (T.n _ B9) B9 ?_)|((guard_target=PX _ _ _ _ (A0 (qD kN AL) _));refine' qB (zv.or Lk) (a1R.or a5M) fO (T.n _ B9) B9 ?_)|refine' pcD O hr ?_)|((guard_target=PX _ _ _ _ (Y8 _ _ _ _));refine' VS.p ?_)|apply Zy (r:=Zu a) a6u a9p|apply Tf|((guard_target=PX _ _ _ _ (Ei _ _ _));obtain⟨p,e,F,m,h0,b⟩:=look O (s:=.O fH) (by kernel_rfl:lk _ _ 2 "Desk.__init__" 1=_);refine' a3K T.cn (Pl.j2 e m) h0 hr rfl T.mc b Dr ?_)|apply a6W|((guard_target=PX _ _ _ _ (lC _ _ _ _));refine' pcV O hr kH ?_))|((guard_target=hV _ _ _ _ (A7 _ _));refine' a0k ?_ ?_)|exact a4w|((guard_target=V3 _ _ _ _);first|((guard_target=V3 _ _ _ (B0 _<|Y8 _ _ _ _));refine' Tr yl fO lc ?_)|((guard_target=V3 _ _ _ (fB _<|Y8 _ _ _ _));refine' Tq yl fO lc ?_)|((guard_target=V3 _ _ _ (rJ _ _));exact Tx _ kH)|((guard_target=V3 _ _ _ (rJ _ _));exact a4c _ kH)|((guard_target=V3 _ _ _ (B0 _ _));refine' ZL yl fO lc ?_)|((guard_target=V3 _ _ _ (D7<|ay _));refine' Oo (fr:=U') ?_)|((guard_target=V3 _ _ _ (D7 _));refine' Oo (fr:=Uf) ?_)|((guard_target=V3 _ _ _ (bK _));exact ZM _ kH)|((guard_target=V3 _ _ _ (kg _));refine' ZN ?_)|apply a6Z|((guard_target=V3 _ _ _ (bc _ _ _));refine' a4f (by first|exact VW|exact PassesOwn.leaving) rfl ?_ ?_ ?_ ?_)|((guard_target=V3 _ _ _ (fB _ _));refine' a4b yl fO lc ?_)|exact Hw|((guard_target=V3 _ _ _ (ij _ _));refine' a4h _ kH ?_)|((guard_target=V3 _ _ _ (GS _ _));refine' a4g _ kH ?_)|((guard_target=V3 _ _ _ (lu _ _ _));refine' To _ VW ?_ ?_)|((guard_target=V3 _ _ _ (Ea _ _ _ _ _));refine' ZP T.cn (T.na _ B9) kH (by first|exact λ_ _ h=>.inr h|exact λ_ _ h=>.inl h) ?_)|((guard_target=V3 _ _ _ (DZ _ _ _ _ _));refine' Tu (Ob hr) (by first|exact JM T.cn (T.na _ B9) kH|exact JL kH) ?_ ?_)|((guard_target=V3 _ _ _ (DY _ _));refine' Tp yl fO lc ?_)|((guard_target=V3 _ _ _ (Eb _));refine' Tv ?_)|((guard_target=V3 _ _ _ (tq _ _ _));refine' a4e ?_ ?_ ?_)|((guard_target=V3 _ _ _ (IJ J5 _ _));refine' ZO (r:=Qt a) a5U ?_ ?_ (Ug hr.units)<|lj _)|((guard_target=V3 _ _ _ (a0Y _ _));exact a4d yl fO lc kH JB)|((guard_target=V3 _ _ _ (lx _ _ _ _ _));refine' pmR O b0f T.cn hr kH ?_ (pl:=_))|((guard_target=V3 _ _ _ (mz _ E.E.k _ _));refine' BA Cc T.xk.h T.xk.e (b0l T _) (hr.mono<|by omega) T.xk.b T.xk.k (hr.hd rfl) rfl T.xk.m ?_)|((guard_target=V3 _ _ _ (mz _ E.E.l _ _));refine' BA Cc T.xl.h T.xl.e (a2q T _) (hr.mono<|by omega) T.xl.b T.xl.k (hr.hd rfl) rfl T.xl.m ?_)|((guard_target=V3 _ _ _ (KN _ E.E.t _ _));refine' Qz (fr:=Uf) YZ T.xt.h T.xt.e (b0k T _) (hr.mono<|by omega) T.xt.b T.xt.k (hr.hd rfl) rfl T.xt.m ?_)|((guard_target=V3 _ _ _ (DX _ _ _ _ _ _ _ _));obtain⟨p,e,F,m,h0,b⟩:=look O (s:=.N<|V2 E.E) (by kernel_rfl:lk _ _ 0 "read_keeper" 3=_);refine' ZK Cc rfl h0 (hr.mono<|by omega) rfl (Pl.j0 e m).1 F.kp b ?_ T.xt.h T.xl.h T.xl.e rfl T.xt.m yl fO lc (a2q T _) ⟨nofun,(hr.mono (j:=2)<|by omega).dp,(hr.mono (j:=2)<|by omega).un⟩ T.xl.b T.xl.k rfl T.xl.m<|λ_=>?_)|((guard_target=V3 _ _ _ (rH _ _ E.E.l _ _ _ _ _));obtain⟨p,e,F,m,h0,b⟩:=look O (s:=.X<|L9 E.E) (by kernel_rfl:lk _ _ 1 "say" 2=_);refine' JE ⟨rfl,rfl⟩ (λ_ _ z=>z) T.cn kH (Pl.j1 e m) h0 (hr.mono<|by omega) b ?_ ⟨_,_,_,T.xl.h,.inr ⟨rfl,T.xb⟩⟩ rfl T.xs yl rfl rfl (λ_=>?_) (pl:=_))|((guard_target=V3 _ _ _ (rH _ _ E.E.k _ _ _ _ _));obtain⟨p,e,F,m,h0,b⟩:=look O (s:=.X<|L9 E.E) (by kernel_rfl:lk _ _ 1 "say" 2=_);refine' JE ⟨rfl,rfl⟩ (λ_ _ z=>z) T.cn kH (Pl.j1 e m) h0 (hr.mono<|by omega) b ?_ ⟨_,_,_,T.xk.h,.inl rfl⟩ rfl T.xk.m yl rfl rfl (λ_=>?_) (pl:=_)))|apply ZQ|apply Tz|((guard_target=Cm _ _ _ _ _);first|((guard_target=Cm _ _ _ _ J5);exact .mk (r:=Qt a) (Ug hr.units) a5U<|lj _)|((guard_target=Cm _ _ _ _ V6);exact .mk (r:=Qs a) (Uc hr.units) a5O<|lj _)|((guard_target=Cm _ _ _ _ lq);exact⟨b0h,b1z,(lj _)⟩)|((guard_target=Cm _ _ _ _ jd);exact⟨a2o,a5P,(lj _)⟩)|((guard_target=Cm _ _ _ _ HQ);exact⟨b0i,b1A,(lj _)⟩)|((guard_target=Cm _ _ _ _ pq);exact⟨IC,PH,(lj _)⟩)|((guard_target=Cm _ _ _ _ cS);exact⟨a7v,b1x,(lj _)⟩)|((guard_target=Cm _ _ _ _ DI);exact⟨a4z,a3d,(lj _)⟩)|((guard_target=Cm _ _ _ _ (O2 inD U3));exact .mk (r:=Gr a U') a7x a9y fO)|((guard_target=Cm _ _ _ _ (O2 U5 R8));exact .mk (r:=Gr a Uf) Ua YB fO)|((guard_target=Cm _ _ _ _ vQ);exact⟨(Ub<|a0R hr.units),YC,fO⟩))|exact ZR|exact QA|((guard_target=lE _ _ _ _);first|((guard_target=lE _ _ _ (dV _ _));refine' BR.pt ?_)|((guard_target=lE _ _ _ (V1 _ _));refine' BR.pt ?_)|apply a3W|((guard_target=lE _ (.Compare _ _ _ _) _ (B5<|A2 _ (ay _) _));refine' Tj (fr:=U') ?_ ?_ ?_)|((guard_target=lE _ (.Compare _ _ _ _) _ (B5<|A2 _ _ _));refine' Tj (fr:=Uf) ?_ ?_ ?_)|((guard_target=lE _ _ _ (B5<|ay _));refine' Ol (fr:=U') ?_)|apply Ol (fr:=Uf))|apply ZG|apply a3O|apply a3P|apply a6X|((guard_target=gR _ _ _ (xI _));refine' a3Z ?_)|((guard_target=gR _ _ _ (JS _ _));refine' vz.pt ?_)|((guard_target=gR _ _ _ (Ow _ _));refine' vz.pt ?_)|((guard_target=gR _ _ _ (yV _));refine' a3Y ?_)|((guard_target=gR _ _ _ (AS _));refine' ZI ?_)|((guard_target=gR _ _ _ (sU V6 _ _));refine' a4a (r:=Qs a) a5O ?_ ?_ (Uc hr.units)<|lj _)|((guard_target=gR _ _ _ (Dy _ W9 _));refine' pcP O hr kH JB ?_)|apply ZH|apply a3Q|apply a3R|apply a6Y|((guard_target=Ep _ _ _ _ _ (jg rm _));refine' QF fO (T.n _ B9) ?_)|((guard_target=Ep _ _ _ _ _ (jg nH _));refine' a4o fO (T.n _ B9) ?_)|((guard_target=Ep _ _ _ _ _ (jg xS _));refine' ZY fO (T.n _ B9) ?_)|apply a4p|((guard_target=PG _ _ (fk _));exact Oq yl fO lc)|((guard_target=PG _ _ (KO _ _ _));refine' a7f rfl ?_)|((guard_target=VT _ _ (Bf _ _));refine' a0d ?_ ?_)|exact a4r|exact TK|apply TJ|exact ZV|apply ZU (fr:=Uf)|((guard_target=tO _ _ _ (ic _ _));refine' a0l _ kH ?_)|((guard_target=tO _ _ _ (X9 _ _));refine' a0m ?_ ?_)|exact a4x|((guard_target=BQ _ _ _ (gJ _ _ _ (rn _) _));refine' pmX O T.cn hr kH ?_ (pl:=_))|((guard_target=BQ _ _ _ (lD _ _));refine' pcO O hr ?_)|refine' a3N rfl (by first|exact bkL ["house","words","'number","hours","more","hour","sun"] (by rfl)|exact bkN fO) (by first|exact(rfl:_=[_])|exact(rfl:_=[_,_])) ?_ ?_ ?_ (λ_ _ _ _ _ _=>?_) (λ_ _ _ _ _ _=>?_) (λ_ _ _ _ _ _=>?_)|exact YQ|exact YO|exact YM|refine' a3r ?_|exact YN|apply Sl|exact Vo f7|exact a0W<|DT (DT Vn f7) f7)
abbrev spL(K:D4):Sp:=λvs H Q E'=>∀E:hW,E.l≠E.k->vK K (Gg E) vs H Q E'
theorem all_mk{h:Heap}{mg:Str->Option A1}{fa:Addr}(X:a.In h)(G:h.Ns U0 mg)(hfa:mg "law" = U (.ref fa)){C Xt it Xk ik Xl il:Addr}{dk dl:W4}(aC:Z8 a U0 "Desk" = U (U<|.ref C))(A:Ns a C<|tb ⟨Xt,Xl,Xk⟩)(hc:(Ae a C ow=Uf/\Ai a C=Uf)/\Mq a C=Uf/\bz a (.ref C) "__setattr__" = U (U<|.builtin "object.__setattr__"))(mc:Fn a C=Uf)(kc:dC a (.ref C)=Uf)(na:Al (jE a C) ["house","keepers"])(z:Al (λs=>Z8 a U0 s=U J) ["ValueError","abs","all","enumerate","int","isinstance","len","list","range","str","sum","tuple","zip"])(cc:Ck a Pm a9)(aS:Z8 a U0 "StoreError" = U (U<|.ref S))(xt:Xf a S "NoText" "place" "NoText.__init__" (inClass (top 3) 0) Xt it g)(xk:Xf a S "NoKeeper" "name" "NoKeeper.__init__" (inClass (top 5) 0) Xk ik dk)(xl:Xf a S "NoLine" "line" "NoLine.__init__" (inClass (top 6) 0) Xl il dl)(ne:Xl≠Xk/\S≠Xk)(ks:Ke a Xl kts)(kv:cY a (.ref Xl) (.type "ValueError")=U Uf/\cY a (.type "NoneType") (.type "ValueError")=U U')(xb:RL a S):
  ∃fd:W4,(∀(s:C5) (v:A1),tP s fd ⟨[v],[]⟩ [("_law_script",v)])/\∀base:Heap,a.In base->base.Ns U0 mg->Y6 b5.prog w a mg base jm 178 fa fd ["_law_script"] (spL a):=by
 let ad:Ads:=⟨uAt a,C,⟨Xt,Xl,Xk⟩,S,it,g,ik,dk,il,dl⟩
 have T:Txt a mg ad:=⟨λm=>(A.at m).dd X G mc kc,⟨aC,⟨hc.1.1,hc.1.2,hc.2.1,hc.2.2⟩⟩,tZ X G aC,λ_ m=>na.at m,λ_ m=>PySem.W.mg_none_of X G<|z.at m,λm=>⟨tZ X G (cc.u m).1,(cc.u m).2.to⟩,tZ X G aS,xt.to X G (by walk_at "b"),xk.to X G (by walk_at "b"),xl.to X G (by walk_at "b"),ks.at X G,kv,xb⟩;obtain⟨f,d,F,m⟩:=T.A (i:=88) rfl;cases m.1.symm.trans hfa;exact⟨d,λs v=>a8q F (by walk_at "b") s [v] rfl,λbase _ _=>by obtain⟨F',m',h,_⟩:=oks T (P:=b5.prog) (w:=w) (base:=base) (ef "law" 180<|Gg ad.E)<|wZ (i:=88) rfl;cases m'.1.symm.trans m.1;cases a5i F' F;exact Y6.imp (c:=spL a) h λvs H Q E h=>h ad.E ne.1⟩
theorem walk{l:Mf}{XP:(Str->Option A1)->Heap->Prop}{YP:N6->Heap->Prop}{d:DefRec}{K:Params->D4} (hL:∀E:hW,E.l ≠ E.k->∀ns:List Int,ns.length<=63->Gg E [.list<|ns.map .int]=U (.dat<|.bool Uf)) (hn:l.most=U 63) (hdf:d.params.defaults=[]) (hY:∀(w:N6) (h:Heap),YP w h->(K w.params).In h) (F:∀(w:N6) (mg:Str->Option A1) (fa:Addr) (h:Heap),(K w.params).In h->h.Ns U0 mg->mg d.name=U (.ref fa) ->
   ∃fd:W4,(∀(s:C5) (u:A1),tP s fd ⟨[u],[]⟩ [("_law_script",u)])/\∀base:Heap,(K w.params).In base->base.Ns U0 mg->Y6 l.prog w (K w.params) mg base jm 178 fa fd ["_law_script"] (spL<|K w.params)) :
  PySem.W.WalkO P N XP YP l.row.toRowW d [] (λf vs=>LH f vs):=
 L2.a3k (n:=63) (k:=178) (x:="_law_script") (CX:=λ_=>jm) (sp:=λw=>spL<|K w.params) hn f7 hdf ⟨λ_=>rfl,by decide,by decide⟩ hY F (λ_ _ a ns hl _ hS E he=>⟨[],[.list<|ns.map .int],_,λa h=>absurd h C9,.cons (.lst (a3x hS)<|a1g ns) .nil,hL E he ns hl,λv H' _ r=>a5s r⟩) λ_ _ _ _ _ z=>z
end Law
theorem kI{p:Prop}(h:p:=by k_is):p:=h
theorem kT{p:Prop}(h:p:=by kit_is):p:=h
theorem krl{p:Prop}(h:autoParam (p) B7):p:=h
local macro_rules|`(tactic|walk_at "k")=>`(tactic|(refine' Law.Rw.mk ?l ?c ?k;(case l=>k_is);(case c=>k_is);(case k=>k_is)))
local macro_rules|`(tactic|walk_at "p")=>`(tactic|first|exact .n|exact .c (.f kI<|by walk_at "k") (by walk_at "p")|exact .c (.a kI<|by walk_at "k") (by walk_at "p")|exact .c (.m kI kI<|by walk_at "k") (by walk_at "p")|exact .c (.i kI kI<|by walk_at "k")<|by walk_at "p")
local macro_rules|`(tactic|walk_at "e")=>`(tactic|first|exact .n|exact .i|exact .s|exact .c kI (by walk_at "e") (by walk_at "e")|exact .c (by walk_at "e") (by walk_at "e")|exact .t kI C9 (by walk_at "e")|exact .f kI)
local macro_rules|`(tactic|walk_at "a")=>`(tactic|repeat first|exact .n|refine .c (by show _ = _;k_is) ?_)
local macro_rules|`(tactic|walk_at "x")=>`(tactic|exact .mk kI kI krl kI krl kI kI kI ⟨⟨kI,kI⟩,kI,kI,kI⟩ ⟨kI,kI,kI,kI,kI,kI,kI,kI,kT,kT,kT,kT,kT⟩ kI)
open PySem PySem.W PyProof.Rows
set_option maxRecDepth 100000 in
set_option maxHeartbeats 0 in
theorem PySem.Challenge.cw_sunstore_k83_desk_lines_that_are_none_holds : PySem.Challenge.rw_sunstore_k83_desk_lines_that_are_none.Holds := by
 refine Z.topHd ?_
 k_fill
 refine Law.walk (l:=PySem.Challenge.rw_sunstore_k83_desk_lines_that_are_none) Law.a0H rfl rfl (λw h Y=>PySem.W.kIn_of Y) ?F
 case F=>
  intro w mg fa h KX G hmg;exact Law.all_mk KX G hmg kI (by walk_at "p") ⟨⟨kI,kI⟩,kI,kI⟩ kI kI (by walk_at "a") (by walk_at "a") (by walk_at "e") kI (by walk_at "x") (by walk_at "x") (by walk_at "x") (by decide) (by repeat first|exact .n|refine .c kI kT kT ?_) ⟨kT,kT⟩ ⟨_,_,_,_,_,_,_,_,_,_,_,_,_,_,_,_,_,kI,krl⟩
