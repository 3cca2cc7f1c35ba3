import PyProof.Rows.All
import KE.KFromBytes
import KE.KSortTup
import KE.RegKIsAll
import KE.KIntText
import KE.KRevIter
import KE.KDictOf
import Wide.FinOn
import PySem.Challenge.RW_sunstore_k81_desk_days_and_costs
set_option compiler.extract_closed false
set_option linter.all false
structure PySem.W.Fast:Prop where
 (tw1600630396933182259 tw5919569251154258848 tw4573214889635455752 tw17170082875543407487 tw4629108649532943092 tw9152829339831385691 tw17497788323019966355 tw9452618656627334373 tw2771860244176671664 tw14602515303942251938 tw83166057719591336 tw3964523688282163086 tw1964280880649227487 tw17278868897991084163 tw3983639503608672836 tw10834302992588595290 tw12974014874312387646 tw3923187681244239825 tw18045669952156806006 tw9625569078244743603 tw2196490793398549198 tw11327517558984693620 tw13057079182700416736 tw16095496336378360082 tw8249416529613917530 tw9906725885952905085 tw16166799984510263356 tw5087882385967512266 tw4729049613565976795 tw16526763038266908558 tw13064181575327155372 tw9900367503352313512 tw8280695874528521636 tw13669035359886875237 tw7698033718916679394 tw9125049252680906693 tw2369103925947172669 tw12632702324465377281 tw7765465515574686005 tw16709596088257336234 tw8343864700881565618 tw1724441649265792217 tw12955718123619767569 tw10306455720450717917 tw10294656072954929551 tw17531318899654566995 tw8456028965969216946 tw10364376241791723489 tw1369405501895869722 tw14209956465418832621 tw8371259868507825068 tw12811036859635413475 tw7083269511043534870 tw3827604162312054863 tw13756632203659816300 tw9607310368069223668 tw15033891951275437787 tw15192819567294164468 tw11083011966854503968 tw7902491348898817558 tw14012498331792469906 tw12020434338609923247 tw7359287173340026235 tw11452983647205396197 tw5465802016884346148 tw547036052058504820 tw6871948309413732341 tw8115144510560850844 tw9995396241205222426 tw151907094443860142 tw8158900102028266644 tw9663035719366446419 tw5788086505587492416 tw16362930897340862263 tw5606761626973671854 tw2850292937164591074 tw567955342211696533 tw6837906005809094112 tw10953938328772074962 tw11594724150215395379 tw155663027043070351 tw884670685769846223 tw15745809109297787764 tw14763308331659424620 tw12924929163793274331 tw2487334311326596389 tw7546469535244417940 tw18283156993547343790 tw13778264548632008974 tw165122515394914639 tw5811154939659838918 tw2051024761507822418 tw15272572638221774345 tw145212741721985917 tw11925735383336207863 tw16725665138748206104 tw4388556031470374781 tw17431142513493573030 tw12274119323865296025 tw2103784731569831919 tw5214753353117213460 tw10166631855039323534 tw17726721011834224026 tw16534719083814180405 tw17756794144995258906 tw10684469648900578306 tw12007872001190068084 tw3211266740851245649 tw8846350889148487850 tw14085055299189913200 tw11730908901661614126 tw10977829638479854805 tw10700574403920470019 tw16408735369245669833 tw3113597327023120258 tw8727791288524007314 tw236576902587129956 tw2991743856943425193 tw14910860110757001828 tw16139561160168928419 tw16270224845770833773 tw14489214164835100283 tw7804491529935823890 tw5213516830939124275 tw5287749526155904715 tw9576284625177018160 tw3582498465908376409 tw13675350193550316174 tw8605471155582568021 tw4301924571610235023 tw9195440970447094715 tw15170741578141553781 tw11936684148224074654 tw2677934490744880653 tw14486724389626616661 tw17350814968640118176 tw10566796416111704314 tw8727111601711210318 tw6276039405254533120 tw2335822186006559449 tw274711751820356480 tw9376721897286726307 tw9412800922202092128 tw111035605864865530 tw10305945317215401841 tw4259741699213796416 tw7377506989898331925 tw6492504659981090759 tw3475485794801692050 tw4352317168537625384 tw4484509095893740592 tw17124588332624455678 tw2175011448694298029 tw14520413215169344137 tw5888997423856052785 tw9733947540075689820 tw12860546269322036590 tw6304944207634676338 tw603924247377390139 tw4641657366564383273 tw10169940321595114564 tw7920418998329611582 tw11551283139592213456 tw1580182833540297437 tw6017082215066721882 tw16130159025492053956 tw14736259314851623887 tw11233225008637419397 tw6430916476193122995 tw3448704587346401205 tw8352245925624923187 tw531385640942255900 tw7841031576156703930 tw9224697254143219089 tw4188201165363680005 tw6442788095723013116 tw12119784394268765119 tw16109799609522998551 tw9634676827477233120 tw12635515346549565866 tw2409310716750053229 tw9418291713702175152 tw17707443288848660744 tw16494753516040534788 tw1835902529664641599 tw7781487808928366156 tw6665581117382085172 tw4049288752384891817 tw3261009816539112674 tw14793508054831161345 tw7441229459963184596 tw4373222808963657625 tw5027364173686087467 tw14697695343934983639 tw9155812854770602999 tw6902660581405347073 tw2437357523173118067 tw995892808226990559 tw1573980481436350126 tw9102141628317442569 tw17278103947663010009 tw12915577008166916775 tw15730399843112898758 tw15275002351714289203 tw2720946284055923196 tw15072504478507207584 tw17739263909046604580 tw6257868001131540244 tw6415920283556352214 tw1061338070058931395 tw4623045030435703386 tw2859270497437497641 tw6894827563278579030 tw16929002769159445957 tw10316299676849672226 tw8415992567120656778 tw8830677428435774844 tw5395293053889662996 tw8649125001720058313 tw12186594566338391668 tw11754221354874336372 tw14938229086199351712 tw957988105951928213 tw13974940112866707125 tw920384222789550568 tw1786629676176647219 tw17635332391942934601 tw18213393653148106266 tw16758375566636785184 tw13517440363387930730 tw10757041173265605155 tw9113057256281987541 tw11616782737166618388 tw1980398275611127164 tw4436883296046587039 tw15515153855195827819 tw4487998538118266804 tw18320085775064059691 tw10940133350113511251 tw9337888049633223823 tw3526455236449778462 tw16766441208054921908 tw10520494906595824713 tw4072984202803124283 tw3077169802567655335 tw11385156147766679515 tw13833647128537703077 tw12292752617903455415 tw10223305806257728763 tw15695922036343457259 tw11267607798684560522 tw6776867184756838029 tw6008090891142813440 tw5527695877959064259 tw10624322569505650300 tw2556163045355514396 tw7985286971797531438 tw10117726063439700021 tw7102136327469078559 tw15595661493635461370 tw8015852184896825979 tw5316119501452540328 tw7560643837130094308 tw6940202779046640979 tw6338283930733236494 tw3174430941112967591 tw11064523237247843524 tw3465123395684623139 tw2019568919267897176 tw9960672355330223807 tw468323176791889845 tw2407469566847313717 tw8020158515247920145 tw11737406999852351921 tw17566439691163439136 tw2617517662808800615 tw17351901564804486459 tw17738716147205051585 tw17183206287950074140 tw9877322851125546654 tw9782946729504290076 tw15963069983684502734 tw1210057801967590244 tw2431190230997635962 tw6116080324643683644 tw7226688278866674820 tw1740821367703045550 tw356178726635027807 tw12521831591614654889 tw18180751979037414608 tw16545582311852528812 tw9852644176120816737 tw3662384526070672801 tw9178694470160545435 tw3228343830240846738 tw3159968894403612974 tw12041061186832978989 tw3226708273971977688 tw18321177491048866370 tw17628135087837617010 tw7826746878847376023 tw18043115730335767515 tw9850184661444813660 tw2735830612894141116 tw12855715303245803956 tw16983857315456327150 tw8807942668926318887 tw6768304752521095630 tw5802504878582097327 tw8216208594761827063 tw10290811722237560653 tw1700247724781022301 tw16511692422510862608 tw11944024729574110013 tw4576243686682685823 tw1541263395787351041 tw13048975411474539856 tw11349303554684220784 tw622040534507282017 tw4497848274948866572 tw16576470385978405332 tw4623967332247780909 tw2784109803781181004 tw6495115871848184738 tw14698730453409860723 tw10262535350671639647 tw13917165052806466442 tw7683442211618186373 tw5271901876317524021 tw8161744418141182752 tw1366539957350335181 tw4316247522982013584 tw17220057912777021417 tw7715494478119633176 tw8595712547091665720 tw15772023817484698092 tw13895401320616013356 tw9856555346661522272 tw4770269876706742413 tw13647541824166646272 tw10926859743669159690 tw7379990975002045984 tw9585996353972132139 tw6019968120145267191 tw11103976289168542486 tw11989486957581462786 tw7445600547119041872 tw10997094150304608235 tw6211942591750447115 tw712392845821582292 tw16313453571693095755 tw4732694841173916724 tw4138513253610184796 tw3088597264600797172 tw18230557435434571606 tw6574944842636610958 tw18128854905339735760 tw11579960968875581097 tw3132186386105814266 tw17416610315469243805 tw769472686934992629 tw15459493759056979847 tw13964242472343296669 tw3974514318013002221 tw6238564561753671784 tw15220505038949094348 tw11393758017760597533 tw9644085548610874419 tw701256738400296024 tw2390626088603749251 tw12308018839479320718 tw8901380346160293543 tw16574135895724145038 tw17241123856133492256 tw14282661153998699230 tw7168482414018550697 tw6596803520255340415 tw7505407776388018978 tw8853708147421159585 tw2832650306049330295 tw8775488359335946697 tw16311550549840450932 tw14425459337180877123 tw1201659930202302739 tw1935614680938347504 tw17535175076970874752 tw15123026791786720245 tw12857661768154186177 tw13651997777934814749 tw10126242177324444340 tw2161271889228061323 tw1385645100804800814 tw8104893027225878389 tw4182165499701745899 tw15738169940110711514 tw9001422325812508164 tw1345230049067477481 tw4259486743166416115 tw2258761153221729925 tw8265596887121730131 tw8998907658370257959 tw6356720541355209944 tw15541106755502043632 tw9051247713966611759 tw882533129570354154 tw8210550680035893359 tw3985964934168433372 tw17343119939111798145 tw17150550646392719369 tw14530201213639553678 tw13272691315954581762 tw13168838432850401673 tw12508646477923099189 tw10893859040924422131 tw3312569159782968567 tw17472652204861257216 tw6767759884938036176 tw4764069416498412063 tw10195678164280594795 tw8001770648433930995 tw3418425819380943671 tw12275583262615906835 tw17193211295752862263 tw15488148662998213673 tw3278208470164894517 tw11625113133990566000 tw1270128360339935894 tw11595285085541881739 tw17830392397918485251 tw3739898084698347558 tw904136639541957927 tw8489064386730524177 tw8177500401642699740 tw7179892777119885502 tw7130724176424481014 tw4821805517843468462 tw3841603822262525937 tw17745788144783410751 tw14767320489937437590 tw14173019716488897427 tw13445065844234503385 tw1109703411944905405 tw11079114739722671782 tw105448959364645888 tw10152479998081777914 tw7600061007357057063 tw13995008969196841312 tw7742484989039384031 tw16850356841921340983 tw1622104682939722589 tw11449915532444107156 tw5854172106186289639 tw13452006498948977783 tw422145612886426613 tw17244127068636380736 tw4775874360061819529 tw5977429925909098307 tw10524206889603290199 tw3497897507032800112 tw2164698036712023447 tw8725518498458761919 tw7077631503880784849 tw6228020075011918242 tw5694635671711024452 tw5663821858077345407 tw5316228537728222634 tw3476303318486340993 tw2063857369382660861 tw16582376511012674937 tw14896715420063899938 tw14046172370987185404 tw13453187027738521147 tw12833643332661261146 tw12706891769408743250 tw11685119550277262971 tw7037021475591574276 tw2610967696508220162 tw11169351987424949324 tw15445856477195770391 tw9432583388472712994 tw5956564930219454726 tw4847255950888758330 tw4457276114659334783 tw2621534754298782788 tw18277462732252783136 tw17092361932699866665 tw16438609385042023809 tw16322207460388233027 tw12654560529280391376 tw1177485288284080135 tw102536954603585682 tw4075546346026432490 tw16773528997372227843 tw10299803546983294597 tw9785768462637935964 tw8283696934869305829 tw8206856012973362330 tw6622333231460066711 tw18250801518920804185 tw15690178088817181106 tw12499339999404445535 tw11873136581740254827 tw10278587711753640854 tw10212950819994183485 tw1020167683361654116 tw2644081710634295098 tw3705518384180873314 tw3296823414388078035 tw13792842578036779071 tw11489691388035277007 tw11470539426202398991 tw8266181378945469233 tw3790359930242095275 tw9706454007125999271 tw954354173874759693 tw9193787371621561010 tw9168203596110847044 tw8935717405914146204 tw8889631327691424778 tw8634586897212366271 tw8450589012954937459 tw8446345524516187515 tw8228970804360671917 tw8160810338044149664 tw7859083333589321776 tw7821257680222380869 tw7658915705369432910 tw7571928556585554630 tw7349539368622148480 tw703359408640482584 tw6782642685583147798 tw6628185735052944673 tw6388778412403993639 tw5794197886208337211 tw5779191023163330683 tw5702148584533666952 tw4823696629533026955 tw4678323196053255956 tw4674229865148435717 tw4440771992440764026 tw4261561302803328356 tw4201926453904308293 tw4117131910281163358 tw4031456139482733869 tw3934224967713473237 tw3758733926170963798 tw3518258033295663558 tw3456896050337251401 tw324030178830458289 tw2971125421895572937 tw2942088950121661055 tw2838998922611752882 tw2633909035538580211 tw2461461526477047105 tw2209542332232708531 tw2148389269273834560 tw211748668507136384 tw18348089387687250500 tw18238722395437439092 tw17975773453496993788 tw17857967086186229240 tw17651902422646759839 tw17493521350938094658 tw17240941919056426774 tw16895405310232371429 tw1688067939419017663 tw16709939176217725870 tw16674337437392583395 tw16622023065026369028 tw16558136417682678901 tw16516021199131494077 tw1648790056929104307 tw1607176108456213122 tw15947693502792327774 tw15943969020439707437 tw15511057014595368541 tw15457235858132020713 tw14990148539369676352 tw14481493254314142070 tw14251456001461106004 tw14217627389698317271 tw14140695160145827000 tw1409626307377277664 tw14077016518402741165 tw14034755224320264898 tw13856725524434073112 tw13549825637564955790 tw13479067150020570456 tw13359550622490857526 tw13190927776210297825 tw12959541579745628177 tw12802637695443211761 tw12137101528902041150 tw12128221278984899931 tw11613415801045246340 tw11458029583207345459 tw1140300467059702245 tw11178025693940596150 tw11044388248974602187 tw11005968809613992346 tw10914099496949357619 tw10736602225960618540 tw10696369920334862110 tw10648013576581566879 tw10561148941752544725 tw10510692262103680007 tw10432738495523075069 tw10398519258839059649 tw10227654929636563525 tw10188587326220445661 tw10145051445118369203 tw12836325440627830364 tw2731413266338349057 tw1874558501983286310 tw7511808530162858898 tw5974142280222149024 tw1905101547516063041 tw17867264849884258912 tw9771815720495237222 tw8801025668492375603 tw8785270803557516328 tw8765745055501807073 tw862387744318635980 tw8610826245755269651 tw8431827015519437886 tw7738712899190015290 tw7658345191054845401 tw762939640659652342 tw760543481663726005 tw7308453200903327048 tw6769757277921117822 tw6634657469111711740 tw6317346884016834531 tw3139877280391234083 tw2255920708454640498 tw18259617592805243791 tw17354396109745559848 tw16247980972073130334 tw14238360265939147356 tw12893575680751541743 tw12126294885471778196 tw1179318656750430209 tw11767927917483449653 tw11685187991663225620 tw11377377055802312170 tw10176188281556902323 tw9784331020414557124 tw704715419519828061 tw13439484269728278988 tw17028675175932837754 tw12220769895098966962 tw17979519969153455506 tw12887688603483164122 tw6036917153914943910 tw4717786076551261406 tw18445463592452657881 tw17384071797514019045 tw15772294868810751390 tw9998734682751052233 tw9995656716825605490 tw9983512109170218558 tw847222563620769744 tw7550752997042487782 tw7219141745385388439 tw4976837315430010539 tw4386835558332373953 tw4088552333499237101 tw2642367615259124600 tw16300768411779868473 tw13514931991709079555 tw13315684644135255570 tw1307058893641730787 tw12856962173616014818 tw12575632204970341045 tw12081889353848083576 tw10005233261518185407 tw6513274107905040296 tw15444305899946164754 tw14985017767933643891 tw8173662309289446851 tw10071757901225113874 tw17291907861286587756:True)
namespace Z
open PySem PySem.W PySem.Calls PyProof.Rows
noncomputable def sm(p:Program)(n:Str):Program:={p with main:={p.main with body:=p.main.body.filter fun s=>match s with|.FunctionDef m ..=>m==n|_=>false}}
noncomputable def lo(p:Program)(n:Str):List Str:=p.boundNames.filter (·!=n)
variable{r:OpenRow}{Xt:Shared->Bool}{XP:(Str->Option Value)->Heap->Prop}{α:Type}{Yf:Shared->α}{Ya:World->α}{YP:World->Heap->Prop}{d:DefRec}{kwd:List (Str×Expr)}{N:Nat}
theorem PySem.W.holds_open{q:Program}{loose:List Str}(left:LeftO r.prog (sm r.prog r.name) (lo r.prog r.name) Xt Yf Ya N)(a:∀w s,Yf s=Ya w->YP w s.heap)(b:∀w h k,YP w h->(∀c o,h.get? c=some o->k.get? c=some o)->YP w k)(c:∀s,Xt s=true->XP (s.heap.nsMap mainGlobals) s.heap)(e:∀m h k,XP m h->(∀c o,h.get? c=some o->k.get? c=some o)->XP m k)(f:defOf (sm r.prog r.name) r.name=some (d,kwd))(g:r.prog.theDef r.name=some (d.params,d.body,d.scope))(h:kwWritten? d.params.kwonlyargs d.params.kw_defaults=some kwd)(i:∀s,Xt s=true->RecFacts r.records s.heap)(j:(!r.writes||r.records.isEmpty)=true)(k:r.wellSaid=true)(l:(chainsOk (sm r.prog r.name)&&opensWell r.prog&&(frees r.toRowW&&r.within.isEmpty))=true)(m:r.prog.bare)(n:r.toRowW.promised)(o:WalkO (sm r.prog r.name) (lo r.prog r.name) XP YP r.toRowW d kwd λf v=>PySem.call f v):r.Holds:=_root_.PySem.W.holds_open left a b c e f g h i j k l m n o
set_option Elab.async false
set_option maxRecDepth 100000 in
set_option maxHeartbeats 0 in
open_top topHd for PySem.Challenge.rw_sunstore_k81_desk_days_and_costs
end Z
theorem a4K{p:Prop}(h:p:=by rfl):p:=h
def aM:=a4K._auto_1
theorem a4L{p:Prop}(h:p:=by intro _;rfl):p:=h
def qL:=a4L._auto_1
theorem a3m{p:Prop}(h:p:=by intro _ _;rfl):p:=h
def By:=a3m._auto_1
theorem a4M{p:Prop}(h:p:=by first|exact .inl rfl|exact .inr rfl|assumption):p:=h
def hW:=a4M._auto_1
theorem a4N{p:Prop}(h:p:=by refine⟨?_,?_,?_,?_,?_⟩<;>kernel_rfl):p:=h
def qM:=a4N._auto_1
theorem N1{p:Prop}(h:p:=by kernel_rfl):p:=h
def B0:=N1._auto_1
theorem A9{p:Prop}(h:p:=by decide):p:=h
def cK:=A9._auto_1
theorem dC{p:Prop}(h:p:=by lia):p:=h
theorem M4{p:Prop}(h:p:=by decide +kernel):p:=h
def lO:=M4._auto_1
theorem G9{p:Prop}(h:p:=by simp):p:=h
theorem A2{p:Prop}(h:p:=by assumption):p:=h
def FN:=A2._auto_1
theorem p7{p:Prop}(h:p:=by omega):p:=h
theorem qc{p:Prop}(h:p:=by simp[*]):p:=h
theorem a4O{p:Prop}(h:p:=by contradiction):p:=h
theorem K0{p:Prop}(h:p:=by repeat constructor):p:=h
theorem nE{α:Type u}{x:α}{p:Prop}(h:none=some x):p:=nomatch h
theorem nS{α:Type u}{x:α}{p:Prop}(h:some x=none):p:=nomatch h
theorem nT{p:Prop}(h:false=true):p:=nomatch h
theorem nF{p:Prop}(h:true=false):p:=nomatch h
theorem A1{d c:Type}{o:Option d}{f:d->Option c}{b:c}(h:o.bind f=some b):∃a,o=some a/\f a=some b:=Option.bind_eq_some_iff.1 h
theorem K8{p:Prop}[Decidable p]{d:Type}{o:Option d}{b:d}(h:(if p then o else none)=some b):p/\o=some b:=by
 split at h;exact⟨‹_›,h⟩;exact nE h
theorem X8{a b:Int}(h:autoParam (b<a) FN):a≠b:=Int.ne_of_gt h
theorem nAl{a b c:Nat}(h:autoParam (a<=b) FN):a<=c+b:=Nat.le_add_left_of_le h
theorem nTr{a b c:Nat}(h:autoParam (a+b<=c) FN):a<=c:=Nat.le_trans (Nat.le_add_right _ _) h
set_option Elab.async false
set_option maxRecDepth 100000
set_option maxHeartbeats 4000000
noncomputable section
open PySem.Str renaming ofString->p5,empty->X2,join->qS,ofString_eq_toList->Qu
open PySem renaming PyData->l5,Value->w9,wpAny_bind->B4,Shared->A6,wpAny_pure->E6,sizeLine->D6,mainGlobals->T1,compareOp->P6,FuncData->V2,starEach->W2,strIterType->cN,World->M5,Program->V1,swapsWith->bc,wpAny_field->dE,wpAny_callSpecial?_slot->pa,mem_of_lookup->mi,Around->T8,sizeLine_eq->fw,wpAny_mono->dW,bootBuiltins->ig,binaryOp->bQ,wpAny_truthy_bool->oY,wpAny_newObj_type->oX,wpAny_call_entry->oW,wpAny_seqItems->lZ,cLine->U5,wpAny_setField_rec->rq,wpAny_passesOwn->oU,sysModules->ib,behindInMarks->oP,wpAny_Call_Name_kw->vq,cellsFrom->ia,IsPart->cQ,assignEach->lX,NameKind->hZ,call_meets->lW,sliceBounds->oK,wpAny_execs_nil->vk,wpAny_getItem_list_slice->Ho,Scope->cP,typeIs_str->oJ,backTo->gi,strLen_append->vf,tupleKind->oI,notedBy->ju,letOwnedTupleGo->Ag,wpAny_rule->qW,wpAny_updateSeq_pair->He,call_meetsIn->vd,getItem->lR,callerA->lQ,intText?->zW,pushCells->qU,IsPair->jt,tupleKind_room_in1->GW,JoinOk->jr,attributeBase->zT,wpAny_attempt->zS,wpAny_onRaise->zR,wpAny_pyIter_list->GQ,wpAny_Call_method->GP,BindsTo->oG,codeAny_mono->zM,concat_meets->zL,noFill_tuple_add->GN,keywordEach->zF,Keyword->qR,valueAt->qP,compEnvC->uV,compPost->uU,swapsWithSole->Gs,swappedStores->Gr,seq_tuple_add->Gq,wpAny_holding->Gp,Within->Gk,PassesOwn->zv,wpAny_typeOf->Gi,slicePick->zp,call->FX
open PySem.W renaming Frag->B1,findIn->cO,nsIn->bW,emptyDict->md,keepIn->jz,instObj->ma,fnOf->ie,kia_one->oT,kitOne->oQ,hasDictIn->vp,plainGet->vn,callWith_K->Av,any_some->Am,isFn->ve,looks_findIn->Hf,plainGet_of->GZ,lookIn->Aa,InstAt->zZ,codeIn->zY,mg_of->zN,plainOver->GS,takerIn->GG,makesIn->GF,OpenLaw->GC,findObj->GB,cellsFrom_some->Qx,handedIn->Pw
open List renaming length_map->C8,mem_cons_of_mem->F8,mem_cons_self->F5,getElem?_eq_getElem->M6,map_cons->D8,getD_eq_getElem?_getD->Q4,length_cons->J4,length_append->L6,mem_append_right->Q3,mem_cons->K6,not_mem_nil->P7,getElem?_map->R9,replicate->N8,map_append->T2,size_toArray->Z0,map_map->V3,range->R8,append_nil->bZ,nil_append->bY,append_assoc->eT,length_zipWith->gE,take_of_length_le->jq,mem_append_left->iA,getElem?_set_ne->iz,zipWith->bD,cons_append->fO,length_range->iy,getElem_mem->iw,length_singleton->mL,getElem?_cons_succ->pL,all_cons->fN,getElem?_eq_none->oZ,map_nil->fx,set_cons_zero->mh,set_cons_succ->mf,any_cons->gn,getElem?_zipWith->rD,getElem?_append_left->vC,lookup->gk,mem_of_getElem?->rC,getElem?_cons_zero->vA,lookup_cons->oV,getElem?_set_self->vz,length_replicate->vx,mem_append->oS,length_nil->oR,getElem?_append_right->AF,length_take->rn,length_drop->rm,getElem?_range->vt,getElem?_replicate->AA,find?_cons->rj,drop_of_length_le->Ax,getElem?_set->vo,all_eq_true->vm,drop_eq_getElem_cons->Ht,mem_filterMap->Au,zip_cons_cons->Ar,reverse_cons->Ao,range'->qZ,forIn_cons->Af,nodup_cons->Ad,mem_filter->Ac,filterMap_cons->Hd,drop_succ_cons->GY,any_eq_false->GU,drop_length->GK,range'_succ->GJ,ext_getElem->GH,filter_cons_of_neg->QA,filter_cons_of_pos->Qz,of_mem_zip->GD,foldl_cons->GA,range_succ->Gy,drop_eq_nil_of_le->Qv,drop_zero->Gw,getElem?_append->Qn,mem_of_mem_take->Qj,getElem_zipWith->Qi,take_succ_cons->Qe,getElem_of_mem->Qa,all_map->Gh,mem_replicate->PM,map_inj_right->PH,any_map->Ge,length->Gd,getElem_inj->Px,filter_cons->Pr,mem_flatMap->Pq,length_set->Pl,drop_left'->Pj
open Nat renaming le_trans->C3,lt_of_lt_of_le->L9,le_refl->K5,ne_of_lt->X3,lt_of_le_of_lt->dH,lt_irrefl->bf,pow_le_pow_right->mj,le_of_lt->fy,zero_le->jx,le_add_right->vw,ne_of_gt->oN,lt_succ_self->Ak,le_of_not_lt->Aj,coprime_comm->Ah,min_le_right->GL,zero_add->zK,min_eq_right->GI,min_eq_left->Gz,Coprime->zC,sub_succ_lt_self->Qo,mul_le_mul_right->Ql,add_le_add_left->PZ,lt_trans->Gf,add_right_comm->PL,le_succ_of_le->Pz,lt_succ_of_lt->Py,log2_lt->Gb,succ_lt_succ->Pt,dvd_antisymm->Po
open PySem.Heap renaming get?_push_of_some->I0,lt_size->K2,get?_push_size->W3,size_push->gq,SameBut->oO
open Int renaming fmod_nonneg_of_pos->N9,gcd->B9,le_trans->H9,fmod_lt_of_pos->O9,fdiv_eq_ediv_of_nonneg->dI,mul_comm->O4,dvd_refl->O3,mul_pos->S9,mul_le_mul_of_nonneg_right->mN,le_of_lt->ab,gcd_pos_of_ne_zero_right->mM,mul_ediv_cancel_left->kT,gcd_dvd_right->fQ,mul_left_comm->fP,natCast_nonneg->gD,lt_of_le_of_lt->kS,gcd_dvd_left->jm,mul_nonpos_of_nonneg_of_nonpos->zo,natAbs_mul->gp,le_refl->cR,mul_assoc->gm,gcd_ediv_gcd_ediv_gcd->vB,ediv_mul_cancel->rB,lt_or_le->oM,le_of_dvd->ri,eq_of_mul_eq_mul_right->Hw,ediv_pos_of_pos_of_dvd->Hu,dvd_trans->rb,zero_add->ra,natAbs_neg->vh,mul_nonneg->vg,toNat_natCast->An,add_mul->qX,gcd_comm->vc,mul_le_mul_of_nonneg_left->QO,le_of_mul_le_mul_right->QJ,mul_neg_of_neg_of_pos->QH,fdiv_one->zI,dvd_mul_of_dvd_right->QE,dvd_mul_of_dvd_left->Qy,negSucc->zE,dvd_gcd->zD,mul_le_mul->Gu,mul_ediv_cancel->Qb,cast_ofNat_Int->PK,gcd_zero_right->PJ
open PySem.PyData renaming str->E7,canLayAll0->aI,canLay0->bE,tuple->af,depthAll->dF,eqv->cM,depth->ic,eqvAll->jy,int->lV,list->qY,bool->uY,strOk->zH
open Option renaming some->U,none->J,bind_some->S7,map_some->jA,map_eq_some_iff->Hg,map_map->Gx,isSome_some->PQ,getD_none->Pu,bind_none->Pp,map_none->Pk
open Nat.le renaming refl->O8
open Bool renaming true->Uf,false->U',false_ne_true->bg,and_eq_true->dG,false_eq_true->rA,eq_iff_iff->vj,false_and->Ab,and_false->zX,false_or->zQ,and_true->zP,true_and->zO,not_eq_true'->GR,not_false->Gv,or_false->Gn,not_true->Gm,true_or->Gg
open Option.some renaming inj->Y9,injEq->ro
open PySem.NameKind renaming cell->bX,free->fz
open PySem.SeqAt renaming shaped->bV,canLay_of_shaped->Az,EqAt->zA,in_listAt->Pm
open PySem.Builtin.Str renaming occurrences->sU,strSub->Aq,partsBetween->QF,strKind->Qd
open ForInStep renaming yield->ik
open Rat renaming mul_nonneg->ij,le_trans->lY,mul_le_mul_of_nonneg_left->Hx,le_of_lt->uZ,mul_le_mul_of_nonneg_right->QP,lt_iff->zz,le_iff->zx,sub_eq_add_neg->PB
open PySem.F renaming plainAttrs_list->rF,slot_dict_get->rE,slot_tuple_iterator_next->AE,entry_dict_get->Ay,args_tuple_add_2->Hq,slot_list_append->Hn,type_list_append->Hk,entry_tuple_add->Hj,plainAttrs_dict->Hi,slot_tuple_add->Hh,slot_str_split->Ai,slot_zip_next->Ae,args_tuple_iterator_next_1->QN,entry_tuple_iterator_next->QM,args_str_split_2->GV,entry_str_split->GO,args_dict_get_2->QD,args_dict_get_3->QC,slot_dict_pop->Qt,type_dict_get->Qs,slot_enumerate_next->Qr,slot_str_partition->Qm
open ToString renaming toString->aO
open PySem.Txt renaming join->aN,slice->lU,split->lT,startswith->vi,contains->zJ
open False renaming elim->dV
open PyProof.Rows renaming slot_tuple_getitem->AH,callWith_type1->AG,envOfC->ft,AllBare->jv,joinParts_cons->zV,subscriptTail_builtinR->Qw,IntsAre->qQ,FormattedValue_plain->Qk
open True renaming intro->gj
open PySem.Calls renaming callWith_builtin->vy,spliced_cons->vr,evalArgs_plain->Aw,spliced_nil->Ap,Constant_str->GX,Name_function_global->QL
open PySem.Value renaming ref->fu,str->qV,int->uX,bool->zB,none->FZ,type->FY
open Function renaming comp_def->rp,comp_apply->Qc
open PySem.Builtin.Slice renaming slicePlaces->AD,sliceAdjust->QI
open PySem.Builtin.SmallTypes renaming nextOf->AB
open Sum renaming inr->jw,inl->oH
open Array renaming length_toList->Ha,all_eq_true'->PC
open Ne renaming symm->lS
open PySem.Paired renaming length->zU,snoc->Ga
open PySem.Builtin.Tuple renaming tupleItemsOf->QK
open PySem.Builtin.List renaming listTooLong->QG
open Classical renaming propDecidable->QB
open PyProof.Rows.IsTup renaming new->uW
open Sum.inr renaming inj->zG
open PySem.StrLaws renaming occ_length_le->Qq
open PySem.SeqAt.EqAt renaming bool_none->Qp,int_none->Qh,str_none->Qg,int_str->PY,str_int->PU,same->Pn
open Eq renaming trans->uT
open PySem.Heap.SameBut renaming update->Qf
open PySem.Around renaming under->Gj
open PySem.Heap.IsSliceOf renaming new->PR
open PySem.Obj renaming data_mapFields->PN
open PySem.PassesOwn renaming never->Ph
abbrev A3:=@if_pos
abbrev A4:=@if_neg
abbrev L5:=@decide_eq_false
abbrev S6:=@decide_eq_true
abbrev H0:=@congrArg
abbrev P5:=@or_false
abbrev jo:=@decide_eq_true_eq
abbrev jn:=@of_decide_eq_true
open List (mem_range mem_map mem_singleton)
namespace L2
open PySem PySem.Spec PyProof.Rows
variable{a:A6}{c:List (Addr×Obj)}{e y:Addr}{Z L:Expr}{p:Pos}{m:Str}{k:Nat}{g:Heap}{A:T8}{o:V1}{q:M5}{u:w9->A6->Prop}{D:w9}{B:List Expr}{G:List w9}{N:List Addr}{O:B1}{R:Bool}{S:List Str}{b6:Str->Option w9}{b7:List Stmt}{b9:Obj}{c7:V2}{d6:Unit->A6->Prop}{d8:w9->w9->Sem w9}{e8:Model}{g6:CmpOp}{h7:Type}{i6:Stmt}{i7:Sem Bool}{i8:List (Str×w9)}{i9:cP}{j0:Array GenState}{j1:Int->Int->Int}{j3:w9×List w9->A6->Prop}{j4:Option w9}{j5:List Env}
set_option tactic.hygienic false
noncomputable abbrev hz(s:A6):Nat:=s.heap.objs.size
noncomputable abbrev Key:=Sum Int Str
def wb:Key->w9->Bool
 | .inl k,v=>Value.isInt k v
 | .inr x,v=>Value.isStrOf x v
def a5v(w:M5):Key->Int
 | .inl k=>hashInt k
 | .inr x=>hashStr w x
def aF:∀{k:Key}{v:w9},wb k v=Uf->(∃i t,k=oH i/\v=uX i t)\/(∃x t,k=jw x/\v=qV x t)
 | .inl i,v,h=>by obtain⟨t,e⟩:=Value.isInt_shape h;exact .inl ⟨i,t,rfl,e⟩
 | .inr x,v,h=>by obtain⟨t,e⟩:=Value.isStrOf_shape h;exact .inr ⟨x,t,rfl,e⟩
def NU(i:Int)(t:Tok):wb (.inl i) (.int i t)=Uf:=by simp[wb,Value.isInt]
def NT(x:Str)(t:Tok):wb (.inr x) (.str x t)=Uf:=by simp[wb,Value.isStrOf]
def a2I(a b:Int):decide ((oH a:Key)=oH b)=(a==b):=by
 by_cases e:a=b;subst e;simp
 . have h:¬(oH a:Key)=oH b:=λq=>e (Sum.inl.inj q);rw[L5 h];exact(beq_eq_false_iff_ne.mpr e).symm
def a2F(a b:Str):decide ((jw a:Key)=jw b)=decide (a=b):=by
 by_cases e:a=b;subst e;simp
 . have h:¬(jw a:Key)=jw b:=λq=>e (zG q);rw[L5 h,L5 e]
def a2H(a:Int)(b:Str):decide ((oH a:Key)=jw b)=U':=L5 (λq=>nomatch q)
def a2G(a:Str)(b:Int):decide ((jw a:Key)=oH b)=U':=L5 (λq=>nomatch q)
def V7(prog:V1)(w:M5):PySem.KeyKind prog w Key where
 is:=wb
 hash:=a5v w
 inj:=λv a b ha hb=>by
  rcases aF ha with ⟨i,t,rfl,rfl⟩|⟨x,t,rfl,rfl⟩
  . rcases aF hb with ⟨j,u,rfl,e⟩|⟨y,u,rfl,e⟩
    . injection e with e1 _;rw[e1]
    exact nomatch e
  . rcases aF hb with ⟨j,u,rfl,e⟩|⟨y,u,rfl,e⟩
    exact nomatch e
    . injection e with e1 _;rw[e1]
 byValue:=λk v h=>by rcases aF h with ⟨i,t,rfl,rfl⟩|⟨x,t,rfl,rfl⟩<;>rfl
 pyHash:=λhv h=>by
  rcases aF hv with ⟨i,t,rfl,rfl⟩|⟨x,t,rfl,rfl⟩
  exact wpAny_pyHash_int h;exact wpAny_pyHash_str h
 eqBool:=λhu hv h=>by
  rcases aF hu with ⟨i,t,rfl,rfl⟩|⟨x,t,rfl,rfl⟩
  . rcases aF hv with ⟨j,u,rfl,rfl⟩|⟨y,u,rfl,rfl⟩
    rw[a2I]at h;exact wpAny_eqBool_int h;rw[a2H]at h;exact PY i t y u _ _ _ _ h
  . rcases aF hv with ⟨j,u,rfl,rfl⟩|⟨y,u,rfl,rfl⟩
    rw[a2G]at h;exact PU x t j u _ _ _ _ h;rw[a2F]at h;exact wpAny_eqBool_str h
 «strs»:=λk x t v h=>by
  rcases aF h with ⟨i,u,rfl,e⟩|⟨y,u,rfl,e⟩
  exact nomatch e
  . injection e with e1 _
    subst e1;cases v<;>rfl
def HL(prog:V1)(w:M5)(i:Int)(t:Tok):(V7 prog w).is (.inl i) (.int i t)=Uf:=NU i t
def HK(prog:V1)(w:M5)(x:Str)(t:Tok):(V7 prog w).is (.inr x) (.str x t)=Uf:=NT x t
inductive V where
 |non|bl (b:Bool)|int (i:Int)|str (x:Str)|byt (b:Array UInt8)|flt (b:UInt64)|ref (a:Addr)|ty (n:String)
 deriving DecidableEq
variable{l:List (Option V)}{z:List V}{M:V}{g8:List (Str×V)}
noncomputable def RelV:V->w9->Prop
 | .non,u=>u=FZ
 | .bl b,u=>u=zB b
 | .int i,u=>∃t,u=uX i t
 | .str x,u=>∃t,u=qV x t
 | .byt b,u=>∃t,u=Value.bytes b t
 | .flt b,u=>∃t,u=Value.float b t
 | .ref a,u=>u=fu a
 | .ty n,u=>u=FY n
abbrev Vals:List V->List w9->Prop:=Paired RelV
theorem Vals.length(r:Vals z G):z.length=G.length:=zU r
theorem Vals.get:∀{xs:List V}{us:List w9}{i:Nat}{x:V},Vals xs us->xs[i]?=U x->∃u,us[i]?=U u/\RelV x u
 |_,_,_,_,.nil,e=>by simp at e
 |_,_,0,_,.cons r _,e=>by simp at e;subst e;exact⟨_,rfl,r⟩
 |_,_,i+1,x,.cons _ t,e=>by
  obtain⟨u,b,a⟩:=Vals.get t (by simpa using e);exact⟨u,by simpa using b,a⟩
def Vals.append{ys:List V}{ws:List w9}(h:Vals z G)(s:Vals ys ws):Vals (z++ys) (G++ws):=by
 induction h with
 |nil=>exact s
 |cons r t i=>exact .cons r i
theorem Vals.take:∀{xs:List V}{us:List w9} (n:Nat),Vals xs us->Vals (xs.take n) (us.take n)
 |_,_,0,_=>.nil
 |_,_,_+1,.nil=>.nil
 |_,_,n+1,.cons r t=>.cons r (Vals.take n t)
theorem Vals.drop:∀{xs:List V}{us:List w9} (n:Nat),Vals xs us->Vals (xs.drop n) (us.drop n)
 |_,_,0,r=>r
 |_,_,_+1,.nil=>.nil
 |_,_,n+1,.cons _ t=>Vals.drop n t
def gg:Option V->Option w9->Prop
 |some v,U u=>RelV v u
 |none,J=>True
 |_,_=>False
def KV:List (h7×V)->List (h7×w9)->Prop:=Paired λ(p:h7×V) (q:h7×w9)=>p.1=q.1/\RelV p.2 q.2
def kV:Key->V
 | .inl i=>.int i
 | .inr x=>.str x
inductive HO where
 |lst (xs:List V)
 |tup (xs:List V)
 |dK (kvs:List (Key×V))|dT (kvs:List (List Key×V))
 |set (S:Int->Bool) (n:Nat)
 |ins (C dx:Addr) (fs:List (Str×V))
 |own (x:Addr)
 |xd (fs:List (Str×V))
 |met (f x:Addr)
 |rng (lo hi:Int)
 |gM (o:Obj) (u:HO)
 |tbl (ps:Array w9)
 |ext (φ:Heap->Prop)
variable{I:HO}
noncomputable abbrev Hp:=Addr->Option HO
variable{d:Hp}
noncomputable def upd(H:Hp)(a:Addr)(o:HO):Hp:=λb=>if b=a then U o else H b
def Q0:upd d e I e=U I:=by delta upd;rw[A3 rfl]
def K1(h:y≠e):upd d e I y=d y:=by delta upd;rw[A4 h]
def a4w{u:HO}(h:d e=U I)(h':d y=U u)(H:I≠u):e≠y:=by intro a;subst a;rw[h]at h';exact H (Y9 h')
def bB(h:d e=U I)(h':d y=J):e≠y:=by intro H;subst H;rw[h]at h';exact nS h'
section
variable(P:V1)(w:M5)
def Y8(H:Hp)(h:Heap)(a:Addr):HO->Prop
 | .lst xs=>xs.length<=D6/\∃(its:List w9) (n:Nat),Vals xs its/\h.get? a=U {cls:=.type "list",data:=.seq its.toArray n}
 | .tup xs=>xs.length<=D6/\∃its:List w9,Vals xs its/\IsTup h a its.toArray
 | .dK kvs=>kvs.length<=D6/\(a==ib)=U'/\∃vs,KV kvs vs/\h.DictOf (V7 P w) a vs
 | .dT kvs=>kvs.length<=D6/\(a==ib)=U'/\∃xs:List (List Key×Addr×w9),
   Paired (λ(p:List Key×V) (q:List Key×Addr×w9)=>p.1=q.1/\H q.2.1=U (.tup (p.1.map kV))/\RelV p.2 q.2.2) kvs xs /\
   ∃o es ep,h.get? a=U o/\o.ExactDict/\o.data=.dict es ep/\es.toList=xs.map (entryOfKey (oI (V7 P w)))/\(xs.map (·.1)).Nodup
 | .set S n=>h.SetOf (intKind P w) a S n
 | .ins C dx fs=>H dx=U (.own a)/\fs.length<=1000/\dx≠a/\h.get? a=U (ma C dx) /\
   ∃mA,h.Ns1 dx mA/\(∀f,gg (fs.lookup f) (mA f))/\Gk mA (fs.map (·.1))
 | .own _=>∃o,h.get? a=U o
 | .xd fs=>∃mA,h.Ns1 a mA/\∀f,gg (fs.lookup f) (mA f)
 | .rng lo hi=>∃t u v,h.get? a=U {cls:=.type "range",data:=.fields #[.int lo t,.int hi u,.int 1 v]}
 | .gM o u=>h.get? a=U o/\Y8 H h a u
 | .tbl ps=>h.get? a=U {cls:=.none,data:=.fields ps}
 | .met f x=>h.get? a=U (PySem.W.methodObj (.ref f) (.ref x))
 | .ext φ=>φ h/\(∃o,h.get? a=U o)/\∀h1 h2:Heap,φ h1->(∀o,h1.get? a=U o->h2.get? a=U o)->φ h2
def bR(H:Hp)(h:Heap):Prop:=∀a o,H a=U o->Y8 P w H h a o
end
section
variable{H:Hp}{h:Heap}
theorem Y8.lt{P:V1}{w:M5}{a:Addr}{o:HO}(x:Y8 P w H h a o):a<h.objs.size:=by
 cases o with
 |lst c=>obtain⟨_,_,_,_,e⟩:=x;exact K2 e
 |tup c=>obtain⟨_,_,_,p⟩:=x;exact p.lt
 |dK b=>obtain⟨_,_,_,_,o,_,_,e,_⟩:=x;exact K2 e
 |dT b=>obtain⟨_,_,_,_,o,_,_,e,_⟩:=x;exact K2 e
 |set S n=>obtain⟨o,_,_,_,e,_⟩:=x;exact K2 e
 |ins C k fs=>obtain⟨_,_,_,e,_⟩:=x;exact K2 e
 |own y=>obtain⟨_,e⟩:=x;exact K2 e
 |xd fs=>obtain⟨_,⟨_,_,_,e,_⟩,_⟩:=x;exact K2 e
 |rng j d=>obtain⟨_,_,_,e⟩:=x;exact K2 e
 |gM i u=>obtain⟨e,_⟩:=x;exact K2 e
 |tbl g=>exact K2 (show h.get? a=U _ from x)
 |met f y=>exact K2 (show h.get? a=U _ from x)
 |ext φ=>obtain⟨_,⟨_,e⟩,_⟩:=x;exact K2 e
def Paired.a2u{e:Type}{F G:h7->e->Prop}{c:List h7}{l:List e}(h:Paired F c l)(f:∀a b,F a b->G a b):Paired G c l:=by
 induction h with
 |nil=>exact .nil
 |cons r t i=>exact .cons (f _ _ r) i
def Y8.xm(x:Y8 o q H h e I)(k:∀b u,(b=e\/H b=U (.own e))->h.get? b=U u->g.get? b=U u)(F:∀b,H b=U (.own e)->d b=U (.own e))(E:∀b xs,H b=U (.tup xs)->d b=U (.tup xs)):Y8 o q d g e I:=by
 induction I with
 |lst xs=>obtain⟨z,l,n,r,O⟩:=x;exact⟨z,l,n,r,k _ _ (.inl rfl) O⟩
 |tup xs=>obtain⟨z,l,r,a,O,c⟩:=x;exact⟨z,l,r,a,k _ _ (.inl rfl) O,c⟩
 |dK A=>obtain⟨z,y,G,r,a,i,j,O,c⟩:=x;exact⟨z,y,G,r,a,i,j,k _ _ (.inl rfl) O,c⟩
 |dT A=>
  obtain⟨z,y,xs,r,a,i,j,O,c⟩:=x;exact⟨z,y,xs,Paired.a2u r λp P z=>⟨z.1,E _ _ z.2.1,z.2.2⟩,a,i,j,k _ _ (.inl rfl) O,c⟩
 |set S n=>obtain⟨a,i,j,t,O,c⟩:=x;exact⟨a,i,j,t,k _ _ (.inl rfl) O,c⟩
 |ins C N fs=>
  obtain⟨w,z,ne,O,m,⟨s,i,j,Q,c⟩,r⟩:=x;exact⟨F _ w,z,ne,k _ _ (.inl rfl) O,m,⟨s,i,j,k _ _ (.inr w) Q,c⟩,r⟩
 |own y=>obtain⟨a,O⟩:=x;exact⟨a,k _ _ (.inl rfl) O⟩
 |xd fs=>obtain⟨m,⟨s,i,j,O,c⟩,r⟩:=x;exact⟨m,⟨s,i,j,k _ _ (.inl rfl) O,c⟩,r⟩
 |rng M K=>obtain⟨t,u,v,O⟩:=x;exact⟨t,u,v,k _ _ (.inl rfl) O⟩
 |gM a u D=>obtain⟨O,P⟩:=x;exact⟨k _ _ (.inl rfl) O,D P⟩
 |tbl L=>
  have O:=x;exact k e _ (.inl rfl) O
 |met f y=>
  have O:=x;exact k e _ (.inl rfl) O
 |ext φ=>obtain⟨p,⟨I,O⟩,B⟩:=x;exact⟨B _ _ p λI P=>k _ _ (.inl rfl) P,⟨I,k _ _ (.inl rfl) O⟩,B⟩
theorem bR.lt(x:bR o q H h)(P:H e=U I):e<h.objs.size:=(x e I P).lt
def bR.fresh(x:bR o q H h)(w:h.objs.size<=e):H e=J:=by
 cases P:H e with
 |none=>rfl
 |some u=>exact absurd (L9 (x.lt P) w) (bf _)
def bR.kept(x:bR o q H h)(k:∀b u,h.get? b=U u->g.get? b=U u):bR o q H g:=λa P e=>
 (x a P e).xm (λb u _ w=>k b u w) (λ_ w=>w) λ_ _ w=>w
def bR.laid{P:V1}{o:HO}(x:bR P q H h)(k:∀b u,h.get? b=U u->g.get? b=U u)(a:h.objs.size<=e)(new:Y8 P q (upd H e o) g e o):bR P q (upd H e o) g:=λb u j=>by
 have d:=x.fresh a;by_cases f:b=e;subst f;rw[Q0]at j;cases j;exact new
 . rw[K1 f]at j;exact(x b u j).xm (λc v _ w=>k c v w) (λc w=>by rw[K1 (bB w d)];exact w) λc i w=>by rw[K1 (bB w d)];exact w
end
noncomputable def Rd(H:Hp)(a:Addr)(u:HO):Prop:=H a=U u\/∃o,H a=U (.gM o u)
def Rd.ok(r:Rd d e I)(x:bR o q d g):Y8 o q d g e I:=by
 rcases r with r|⟨P,r⟩
 exact x e I r;obtain⟨_,w⟩:=x e _ r;exact w
noncomputable def Pg:Option HO->Prop
 |some (.lst _)=>True
 |some (.dK _)=>True
 |some (.dT _)=>True
 |some (.set _ _)=>True
 |some (.ins _ _ _)=>True
 |some (.ext _)=>True
 |_=>False
section
variable{H:Hp}{h:Heap}
def bR.write(ok:bR o q H h)(mu:Pg (H y))(m:e=y\/H e=U (.own y))(k:∀b u,b≠e->h.get? b=U u->g.get? b=U u)(l:∃u,g.get? e=U u)(new:Y8 o q (upd H y I) g y I):bR o q (upd H y I) g:=λb u w=>by
 have d:∀c p,H c=U (.own p)->c≠y:=λc p r z=>by subst z;rw[r]at mu;exact mu
 have f:∀c x,H c=U (.tup x)->c≠y:=λc x r z=>by subst z;rw[r]at mu;exact mu
 by_cases j:b=y;subst j;rw[Q0]at w;cases w;exact new
 . rw[K1 j]at w;by_cases a:b=e
   . have n:H b=U (.own y):=by
       rcases m with z|z
       exact absurd (a.trans z) j;rw[a];exact z
     rw[w]at n;cases n;obtain⟨v,P⟩:=l;exact⟨v,by rw[a];exact P⟩
   . refine(ok b u w).xm (λc v i r=>k c v ?_ r) (λc r=>by rw[K1 (d c b r)];exact r) λc x r=>by rw[K1 (f c x r)];exact r
     rcases i with rfl|i
     exact a
     . rintro rfl;rcases m with z|z
       exact d c b i z;rw[i]at z;cases z;exact j rfl
end
structure Un(fs ex:List Addr)(H H':Hp)(h h':Heap):Prop where
 keep:∀b o,h.get? b=U o->H b=J->b∉fs->b∉ex->h'.get? b=U o
 slot:∀b o,h.get? b=U o->H b=J->b∈fs->b∉ex->∃sl,h'.get? b=U {o with slots:=sl}
 free:∀b o,h.get? b=U o->H b=J->b∉ex->H' b=J
 there:∀b o,h.get? b=U o->b∉ex->∃o',h'.get? b=U o'
 tO:∀b xs,H b=U (.tup xs)->H' b=U (.tup xs)
 sI:∀b o u,H b=U (.gM o u)->H' b=U (.gM o u)
 tQ:∀b ps,H b=U (.tbl ps)->∃more,H' b=U (.tbl (ps++more))
section
variable{H:Hp}{h:Heap}
def Un.any{ex:List Addr}(u:Un N ex H d h g)(q:h.get? e=U b9)(n:H e=J)(c:e∉ex):∃b,g.get? e=U {b9 with slots:=b}:=by
 by_cases a:e∈N;exact u.slot e b9 q n a c;exact⟨b9.slots,u.keep e b9 q n a c⟩
def Un.kept{ex:List Addr}(k:∀b u,h.get? b=U u->g.get? b=U u):Un N ex H H h g:=
 ⟨λb a q _ _ _=>k b a q,λb a q _ _ _=>⟨a.slots,k b a q⟩,λ_ _ _ n _=>n,λb a q _=>⟨a,k b a q⟩,λ_ _ q=>q,λ_ _ _ q=>q,λ_ c q=>⟨#[],by rw[q];simp⟩⟩
def Un.refl{ex:List Addr}:Un N ex H H h h:=Un.kept λ_ _ q=>q
def Un.laid{ex:List Addr}{o:HO}(k:∀b u,h.get? b=U u->g.get? b=U u)(a:h.objs.size<=e)(c:H e=J):Un N ex H (upd H e o) h g where
 keep:=λb u q _ _ _=>k b u q
 slot:=λb u q _ _ _=>⟨u.slots,k b u q⟩
 free:=λb u q n _=>by rw[K1 (X3 (L9 (K2 q) a))];exact n
 there:=λb u q _=>⟨u,k b u q⟩
 tO:=λb d q=>by rw[K1 (bB q c)];exact q
 sI:=λb u d q=>by rw[K1 (bB q c)];exact q
 tQ:=λb f q=>⟨#[],by rw[K1 (bB q c),q];simp⟩
def Un.write{ex:List Addr}(mu:Pg (H y))(i:e=y\/H e=U (.own y))(k:∀b u,b≠e->h.get? b=U u->g.get? b=U u)(d:∃u,g.get? e=U u):Un N ex H (upd H y I) h g:=by
 have f:∀b,H b=J->b≠y:=λb n z=>by subst z;rw[n]at mu;exact mu
 have x:∀b,H b=J->b≠e:=λb n z=>by
  subst z;rcases i with r|r
  exact f b n r;rw[n]at r;exact nE r
 have c:∀b u,H b=U u->¬Pg (U u)->b≠y:=λb u q j z=>by subst z;rw[q]at mu;exact j mu
 refine⟨λb u q n _ _=>k b u (x b n) q,λb u q n _ _=>⟨u.slots,k b u (x b n) q⟩,λb u q n _=>by rw[K1 (f b n)];exact n,λb u q _=>?_,
  λb l q=>by rw[K1 (c b _ q λz=>z)];exact q,λb u l q=>by rw[K1 (c b _ q λz=>z)];exact q,λb m q=>⟨#[],by rw[K1 (c b _ q λz=>z),q];simp⟩⟩
 by_cases a:b=e;subst a;exact d;exact⟨u,k b u a q⟩
end
noncomputable def Vi(h:Heap)(H:Hp):List Addr:=(R8 h.objs.size).filter λa=>(H a).isSome
def uC(h:Heap)(H:Hp):Heap:=PySem.W.hideAll h (Vi h H)
def Ot(h:Heap)(H:Hp):(uC h H).objs.size=h.objs.size:=PySem.W.hideAll_size _ _
def Ud(h:g.get? e=U b9)(n:d e=J):(uC g d).get? e=U b9:=
 PySem.W.hideAll_get _ h λa=>by have q:=(List.mem_filter.mp a).2;rw[n]at q;simp at q
def Zz(h:(uC g d).get? e=U b9):g.get? e=U b9/\d e=J:=by
 have a:=PySem.W.of_hideAll (Vi g d) h;refine⟨a,?_⟩;cases q:d e with
 |none=>rfl
 |some x=>
  have c:e∈Vi g d:=List.mem_filter.mpr ⟨mem_range.mpr (K2 a),by simp[q]⟩;have z:(uC g d).get? e=J:=PySem.W.hideAll_none (Vi g d) c;rw[z]at h;exact nE h
noncomputable def a0A(g h:Heap)(L:Addr):List (Addr×Obj):=(R8 h.objs.size).filterMap λa=>if a=L\/(g.get? a).isSome=Uf then J else(h.get? a).map λo=>(a,o)
def rest(g h:Heap)(L d:Addr):List (Addr×Obj):=(a0A g h L).filter λp=>decide (p.1≠d)
structure Mod(K:B1)(mg:Str->Option w9)(base:Heap):Prop where
 Ey:K.In base
 glob:base.Ns T1 mg
 blt:∃mb,base.Ns builtinsNs mb/\∀x:Str,x ≠ "__name__"->mb x=ig x
 nolimit:base.NoLimit
structure Cx where
 prog:V1
 w:M5
 K:B1
 mg:Str->Option w9
 base:Heap
 A:T8
 N:List Str
 X4:A6
 B6:Hp
 env:Env
 outer:List Env
 stack:List Env
 ex:List Addr
 fn:Str->Bool
 calm:Bool
 pn:List (Addr×Obj)
 xe:w9->A6->Prop
 ek:w9->Option Addr->Hp->Prop:=λ_ _ _=>False
variable{X:Cx}
noncomputable abbrev gN(X:Cx)(e:Expr)(es:List Expr):Prop:=W2 (e::es) X.env=(U',eval e X.env)::W2 es X.env
noncomputable abbrev pJ(X:Cx)(p:Pos)(es:List Expr):Prop:=(gi p (W2 es X.env)).any (·.1)=U'
noncomputable abbrev jY(x:Str):Prop:=(x==("__debug__" : Str))=U'
noncomputable abbrev xh(X:Cx)(x:Str):Prop:=X.fn x=Uf\/X.env.scope.names.lookup x=U .local
noncomputable abbrev Fsi(X:Cx)(e:Expr):Prop:=∀x,foldedSetIterable e X.env x=pure x
noncomputable abbrev HC(X:Cx)(o:Expr)(m:Str):Prop:=zT o m X.env (eval o X.env)=eval o X.env
noncomputable abbrev MCl(X:Cx)(o:Expr)(m:Str)(a:Pos)(es:List Expr)(p:Pos)(pl:Sem Bool):Prop:=eval (.Call (.Attribute o m a) es [] p) X.env=(do
 let ov <- eval o X.env
 standAt a.atName
 let (f,first) <- holding [ov] (getMethod ov m pl)
 callWith p f first (gi p (W2 es X.env)) (backToKw p (zF [] X.env)))
noncomputable def tE(l:List Env):List Addr:=l.filterMap (·.frame)
abbrev Cx.fs(X:Cx):List Addr:=tE X.outer
noncomputable def JC(sc:cP)(x:Str):Prop:=sc.names.lookup x=U .local\/sc.names.lookup x=U .cell\/sc.names.lookup x=U .free
noncomputable def Loc(sc:cP)(x:Str):Prop:=sc.names.lookup x=U .local\/sc.names.lookup x=U .cell
noncomputable def Look(env:Env)(h:Heap)(m:Str->Option w9)(x:Str)(u:w9):Prop:=
 (env.kindOf x=U .local/\m x=U u)\/((env.kindOf x=U .cell\/env.kindOf x=U .free)/\∃c,env.cells.lookup x=U c/\h.IsCell c (U u))
structure Cx.Ok(X:Cx):Prop where
 mod:Mod X.K X.mg X.base
 kind:X.env.scope.kind=.function
 glob:X.env.globals=T1
 blt:X.env.builtins=builtinsNs
 above:X.X4.heap.objs.size<=X.env.locals
 inj:∀x y c,X.env.cells.lookup x=U c->X.env.cells.lookup y=U c->x=y
 has:∀x,(X.env.kindOf x=U .cell\/X.env.kindOf x=U .free)->∃c,X.env.cells.lookup x=U c
 Jx:∀x c,X.fn x=Uf->X.env.cells.lookup x=U c->X.X4.heap.objs.size<=c
 hd:X.calm=Uf->X.A.handled=J
 frames:X.A.frames=U X.stack
 Ma:X.stack=X.outer\/(X.stack=X.env::X.outer/\X.env.frame=U X.env.locals)
 XC:∀b∈X.ex,b≠X.env.locals/\∀x c,X.env.cells.lookup x=U c->c≠b
 bs:∀b o,X.base.get? b=U o->X.X4.heap.get? b=U o/\X.B6 b=J
 tH:X.base.objs.size<=X.X4.heap.objs.size
 xv:∀b o,X.base.get? b=U o->b∉X.ex
 Bq:∀b∈X.ex,b∉X.fs
 kz:X.X4.heap.FunFrames X.base X.outer
 Ci:∀b∈X.fs,X.B6 b=J
structure Inv(X:Cx)(pins:List (Addr×Obj))(σ:List (Option V))(H:Hp)(s:A6):Prop where
 ok:X.Ok
 os:s.os=X.X4.os
 bare:jv s.gens
 base:Un X.fs X.ex X.B6 H X.X4.heap s.heap
 loc:∃m,s.heap.Ns X.env.locals m/\∀(i:Nat) (x:Str) (v:V),X.N[i]?=U x->σ[i]?=U (U v)->JC X.env.scope x->∃u,RelV v u/\Look X.env s.heap m x u
 cell:∀x c,X.env.cells.lookup x=U c->∃v,s.heap.IsCell c v
 free:H X.env.locals=J
 jb:∀x c,X.env.cells.lookup x=U c->H c=J
 pin:∀p∈X.pn++pins,s.heap.get? p.1=U p.2/\H p.1=J/\p.1≠X.env.locals/\p.1∉X.fs/\∀v,p.2.data≠.cell v
 G8:bR X.prog X.w H s.heap
 len:σ.length=X.N.length
section
variable{H:Hp}
def Cx.Ok.a5q(ok:X.Ok)(b:X.base.get? e=U b9):e∉X.fs:=λa=>by have:=(ok.kz.mem a).1;rw[b]at this;exact nS this
theorem Inv.bs(I:Inv X c l H a):∀b o,X.base.get? b=U o->a.heap.get? b=U o/\H b=J:=λb o e=>
 ⟨I.base.keep b o (I.ok.bs b o e).1 (I.ok.bs b o e).2 (I.ok.a5q e) (I.ok.xv b o e),I.base.free b o (I.ok.bs b o e).1 (I.ok.bs b o e).2 (I.ok.xv b o e)⟩
def Inv.bk(I:Inv X c l H a):∀b o,X.base.get? b=U o->a.heap.get? b=U o:=λb o e=>(I.bs b o e).1
theorem Inv.mod(I:Inv X c l H a):Mod X.K X.mg X.base:=I.ok.mod
def Inv.hI(I:Inv X c l H a):X.K.In a.heap:=I.ok.mod.Ey.keeps I.bk
def Inv.fr(I:Inv X c l H a):∃m,Fr X.base X.env.locals a.heap m:=
 let ⟨m,σ,_⟩:=I.loc
 ⟨m,σ,I.bk,C3 I.ok.tH I.ok.above⟩
theorem Inv.lt(I:Inv X c l H a):X.env.locals<(hz a):=let ⟨_,σ,_⟩:=I.loc;σ.lt
def Inv.sz(I:Inv X c l H a):X.X4.heap.objs.size<=(hz a):=C3 I.ok.above (fy I.lt)
def Inv.Tj(I:Inv X c l H a)(h:(hz a)<=e):e∉X.fs:=λb=>by obtain⟨_,o,σ,_⟩:=I.ok.kz.mem b;exact absurd (L9 (K2 σ) (C3 I.sz h)) (bf _)
def Inv.Fx(I:Inv X c l H a):∀x σ,X.env.cells.lookup x=U σ->σ≠X.env.locals:=λx σ e z=>by obtain⟨v,o,f,d⟩:=I.cell x σ e;obtain⟨m,⟨i,g,h,s,b,_⟩,_⟩:=I.loc;rw[z,s]at f;cases f;rw[b]at d;cases d
theorem Inv.kz{X:Cx}{pins:List (Addr×Obj)}{σ:List (Option V)}{s:A6}(I:Inv X pins σ H s):s.heap.FunFrames X.base X.outer:=by
 have all:∀l,(∀b∈tE l,b∈X.fs)->X.X4.heap.FunFrames X.base l->s.heap.FunFrames X.base l:=by
  intro l;induction l with
  |nil=>intro _ _;trivial
  |cons j r i=>
   intro f n;obtain⟨p,⟨L,o,d,h,k,g⟩,m⟩:=n;have a:=f L (by delta tE;rw[Hd,d];exact F5);obtain⟨q,e⟩:=I.base.slot L o k (I.ok.Ci L a) a λz=>I.ok.Bq L z a;exact⟨p,⟨L,_,d,h,e,g⟩,i (λb c=>f b (by delta tE;rw[Hd,d];exact F8 _ c)) m⟩
 exact all X.outer (λ_ c=>c) I.ok.kz
theorem Inv.stack(I:Inv X c l H a):a.heap.FunFrames X.base X.stack:=by
 rcases I.ok.Ma with e|⟨e,σ⟩
 rw[e];exact I.kz
 . rw[e];obtain⟨m,b,_⟩:=I.loc;refine .cons (by rw[I.ok.kind];decide) σ b ?_ I.kz;exact Heap.get?_none_of_le (C3 I.ok.tH I.ok.above)
def Inv.tR(I:Inv X c l H a):∀b∈tE X.stack,b∈X.env.locals::X.fs:=λb s=>by
 rcases I.ok.Ma with e|⟨e,σ⟩
 rw[e]at s;exact F8 _ s;rw[e]at s;unfold tE at s;rw[Hd,σ]at s;exact s
def Inv.Ik(I:Inv X c l H a):∀b∈tE X.stack,H b=J:=λb s=>by
 rcases List.mem_cons.mp (I.tR b s)with e|s
 rw[e];exact I.free;obtain⟨_,o,σ,_⟩:=I.ok.kz.mem s;exact I.base.free b o σ (I.ok.Ci b s) λz=>I.ok.Bq b z s
def Inv.step{t':Nat}{d':Drawn}{ch:List Addr}(I:Inv X c l H a)(Y:∀b∈ch,(b∈X.ex\/X.X4.heap.objs.size<=b)/\b≠X.env.locals/\(∀x σ,X.env.cells.lookup x=U σ->σ≠b)/\∀p∈X.pn++c,p.1≠b)(keep:∀b o,b≠X.env.locals->b∉X.fs->b∉ch->a.heap.get? b=U o->H b=J->g.get? b=U o)(slot:∀b o,b≠X.env.locals->b∈X.fs->b∉ch->a.heap.get? b=U o->H b=J->∃L,g.get? b=U {o with slots:=L})(free:∀b o,b∉ch->a.heap.get? b=U o->H b=J->d b=J)(there:∀b o,b∉ch->a.heap.get? b=U o->∃D,g.get? b=U D)(tO:∀b xs,H b=U (.tup xs)->d b=U (.tup xs))(sI:∀b o u,H b=U (.gM o u)->d b=U (.gM o u))(tQ:∀b E,H b=U (.tbl E)->∃more,d b=U (.tbl (E++more)))(ns:∀m,a.heap.Ns X.env.locals m->g.Ns X.env.locals m)(K:bR X.prog X.w d g)(Q:jv j0):
  Inv X c l d {a with heap:=g,gens:=j0,drawn:=d',toks:=t'}:=by
 have B:∀b o,X.X4.heap.get? b=U o->b≠X.env.locals:=λb o e=>X3 (L9 (K2 e) I.ok.above)
 have j:∀b o,X.X4.heap.get? b=U o->b∉X.ex->b∉ch:=λb o e W y=>by
  rcases(Y b y).1 with z|z
  exact W z;exact absurd (L9 (K2 e) z) (bf _)
 have h:∀x σ,X.env.cells.lookup x=U σ->∀v,a.heap.IsCell σ v->g.IsCell σ v:=λx σ e v ⟨o,A,F⟩=>by
  have f:=λz=>(Y σ z).2.2.1 x σ e rfl;by_cases O:σ∈X.fs;obtain⟨L,q⟩:=slot σ o (I.Fx x σ e) O f A (I.jb x σ e);exact⟨_,q,F⟩;exact⟨o,keep σ o (I.Fx x σ e) O f A (I.jb x σ e),F⟩
 refine⟨I.ok,I.os,Q,⟨λb o e n y W=>?_,λb o e n y W=>?_,λb o e n W=>?_,λb o e W=>?_,λb xs e=>tO b xs (I.base.tO b xs e),λb o xs e=>sI b o xs (I.base.sI b o xs e),λb E e=>?_⟩,?_,λx σ e=>?_,?_,λx σ e=>?_,λp N=>?_,K,I.len⟩;exact keep b o (B b o e) y (j b o e W) (I.base.keep b o e n y W) (I.base.free b o e n W);obtain⟨L,t⟩:=I.base.slot b o e n y W;obtain⟨G,C⟩:=slot b _ (B b o e) y (j b o e W) t (I.base.free b o e n W);exact⟨G,C⟩;obtain⟨D,t⟩:=I.base.there b o e W;exact free b D (j b o e W) t (I.base.free b o e n W);obtain⟨D,t⟩:=I.base.there b o e W;exact there b D (j b o e W) t;obtain⟨m1,t⟩:=I.base.tQ b E e;obtain⟨T,C⟩:=tQ b _ t;exact⟨m1++T,by rw[C,Array.append_assoc]⟩
 . obtain⟨m,S,P⟩:=I.loc;refine⟨m,ns m S,λi x v t C R=>?_⟩
   obtain⟨u,r,s⟩:=P i x v t C R;refine⟨u,r,?_⟩;rcases s with s|⟨k,σ,e,z⟩
   exact .inl s;exact .inr ⟨k,σ,e,h x σ e _ z⟩
 obtain⟨v,z⟩:=I.cell x σ e;exact⟨v,h x σ e v z⟩;obtain⟨m,⟨o,_,_,A,_⟩,_⟩:=I.loc;exact free _ o (λz=>(Y _ z).2.1 rfl) A I.free;obtain⟨v,o,A,F⟩:=I.cell x σ e;exact free σ o (λz=>(Y σ z).2.2.1 x σ e rfl) A (I.jb x σ e)
 . obtain⟨e,n,ne,M,w⟩:=I.pin p N;have f:=λz=>(Y p.1 z).2.2.2 p N rfl;exact⟨keep p.1 p.2 ne M f e n,free p.1 p.2 f e n,ne,M,w⟩
def Inv.un(I:Inv X c l H a)(u:Un X.fs [] H d a.heap g)(σ:bR X.prog X.w d g):Inv X c l d {a with heap:=g,toks:=k}:=by
 obtain⟨m,⟨o,s,t,h,r⟩,_⟩:=id I.loc;obtain⟨p,A⟩:=u.any h I.free G9;exact I.step (ch:=[]) (λ_ z=>nomatch z) (λb o _ y _ e n=>u.keep b o e n y G9) (λb o _ y _ e n=>u.slot b o e n y G9) (λb o _ e n=>u.free b o e n G9) (λb o _ e=>u.there b o e G9) u.tO u.sI u.tQ (λq i=>by obtain⟨v,w,f,x,j⟩:=i;rw[h]at x;cases x;exact⟨_,w,f,A,j⟩) σ I.bare
def Inv.call{d':Drawn}(I:Inv X c l H a)(u:Un (tE X.stack) N H d a.heap g)(h:bR X.prog X.w d g)(v:jv j0)(f:∀b∈N,(b∈X.ex\/X.X4.heap.objs.size<=b)/\b≠X.env.locals/\(∀x σ,X.env.cells.lookup x=U σ->σ≠b)/\∀p∈X.pn++c,p.1≠b):
  Inv X c l d {a with heap:=g,gens:=j0,drawn:=d',toks:=k}:=by
 obtain⟨m,⟨o,y,B,G,r⟩,_⟩:=id I.loc;obtain⟨A,F⟩:=u.any G I.free λz=>(f _ z).2.1 rfl;exact I.step f (λb o F s E e n=>u.keep b o e n (λz=>(List.mem_cons.mp (I.tR b z)).elim F s) E) (λb o _ _ E e n=>u.any e n E) (λb o E e n=>u.free b o e n E) (λb o E e=>u.there b o e E) u.tO u.sI u.tQ (λC q=>by obtain⟨D,j,i,w,t⟩:=q;rw[G]at w;cases w;exact⟨_,j,i,F,t⟩) h v
def Inv.turned{s:A6}{t':Nat}(I:Inv X c l H s)(k:∀b o,b≠e->s.heap.get? b=U o->g.get? b=U o)(D:H e=J)(f:e≠X.env.locals)(y:e∈X.ex\/X.X4.heap.objs.size<=e)(j:∀x σ,X.env.cells.lookup x=U σ->σ≠e)(C:∀p∈X.pn++c,p.1≠e):Inv X c l H {s with heap:=g,toks:=t'}:=by
 have d:∀b u,H b=U u->b≠e:=λb u E z=>by rw[z,D]at E;exact nE E
 refine I.step (ch:=[e]) (λb A=>?_) (λb o _ _ a E _=>k b o (λz=>a (by simp[z])) E) (λb o _ _ a E _=>⟨o.slots,k b o (λz=>a (by simp[z])) E⟩) (λ_ _ _ _ n=>n)
  (λb o a E=>⟨o,k b o (λz=>a (by simp[z])) E⟩) (λ_ _ E=>E) (λ_ _ _ E=>E) (λb B E=>⟨#[],by rw[E];simp⟩) (λm w=>?_) (λb u E=>?_) I.bare
 . have E:b=e:=by simpa using A
   subst E;exact⟨y,f,j,C⟩
 obtain⟨o,h,t,i,r⟩:=w;exact⟨o,h,t,k _ o (lS f) i,r⟩
 . refine(I.G8 b u E).xm (λσ v a q=>k σ v ?_ q) (λ_ q=>q) λ_ _ q=>q
   rcases a with z|z
   rw[z];exact d b u E;exact d σ _ z
def Inv.tok(I:Inv X c l H a)(t:Nat):Inv X c l H {a with toks:=t}:=I.un Un.refl I.G8
theorem Inv.kept{t':Nat}(I:Inv X c l H a)(k:∀b u,a.heap.get? b=U u->g.get? b=U u):Inv X c l H {a with heap:=g,toks:=t'}:=I.un (Un.kept k) (I.G8.kept k)
theorem Inv.laid{o:HO}{t':Nat}(I:Inv X c l H a)(k:∀b u,a.heap.get? b=U u->g.get? b=U u)(σ:(hz a)<=e)(new:Y8 X.prog X.w (upd H e o) g e o):
  Inv X c l (upd H e o) {a with heap:=g,toks:=t'}:=I.un (Un.laid k σ (I.G8.fresh σ)) (I.G8.laid k σ new)
theorem Inv.write(x:Inv X c l H a)(mu:Pg (H y))(σ:e=y\/H e=U (.own y))(o:∀b u,b≠e->a.heap.get? b=U u->g.get? b=U u)(s:∃u,g.get? e=U u)(new:Y8 X.prog X.w (upd H y I) g y I):Inv X c l (upd H y I) {a with heap:=g,toks:=k}:=x.un (Un.write mu σ o s) (x.G8.write mu σ o s new)
def Inv.weak{s:List (Option V)}(I:Inv X c l H a)(g:s.length=l.length)(w:∀(i:Nat) v,s[i]?=U (U v)->l[i]?=U (U v)):Inv X c s H a:=
 ⟨I.ok,I.os,I.bare,I.base,let ⟨m,σ,b⟩:=I.loc;⟨m,σ,λi x v e f d=>b i x v e (w i v f) d⟩,I.cell,I.free,I.jb,I.pin,I.G8,g.trans I.len⟩
def Inv.kn{σ:List (Addr×Obj)}(I:Inv X c l H a)(h:∀p∈σ,a.heap.get? p.1=U p.2/\H p.1=J/\p.1≠X.env.locals/\p.1∉X.fs/\∀v,p.2.data≠.cell v):Inv X σ l H a:=
 ⟨I.ok,I.os,I.bare,I.base,I.loc,I.cell,I.free,I.jb,λp b=>(List.mem_append.mp b).elim (λz=>I.pin p (iA _ z)) (h p),I.G8,I.len⟩
def Ee(d:S.Nodup){j:Nat}(a:S[k]?=U m)(b:S[j]?=U m):k=j:=by obtain⟨g,c⟩:=List.getElem?_eq_some_iff.mp a;obtain⟨f,e⟩:=List.getElem?_eq_some_iff.mp b;exact(Px d).mp (c.trans e.symm)
def LZ{v:V}(I:Inv X c l H a)(hN:X.N.Nodup)(hi:X.N[k]?=U m)(hx:Loc X.env.scope m)(r:RelV v D)(h:∀s',Inv X c (l.set k (U v)) H s'->(∃s,oO s a.heap s'.heap/\(s=X.env.locals\/X.env.cells.lookup m=U s))->d6 () s')(hf:autoParam (xh X m) hW):wpAny e8 A (storeName X.env m D) d6 u a:=by
 obtain⟨E,hn,hl⟩:=id I.loc;have hcls:(X.env.scope.kind==.class||(X.env.scope.kind==.module&&X.env.locals != X.env.globals))=U':=by rw[I.ok.kind];rfl
 have hiσ:k<l.length:=by rw[I.len];exact(List.getElem?_eq_some_iff.mp hi).1
 have Fx:=I.Fx;have tracked:∀{s:Addr}{h':Heap},(∃o,a.heap.get? s=U o/\H s=J)->oO s a.heap h'->bR X.prog X.w H h':=λ{s h'} ha hs b ob e=>by
  obtain⟨_,_,hfree⟩:=ha;refine(I.G8 b ob e).xm (λσ w' hc q=>(hs.2 σ ?_).trans q) (λ_ q=>q) λ_ _ q=>q
  rintro rfl;rcases hc with rfl|hc
  rw[hfree]at e;exact nE e;rw[hfree]at hc;exact nE hc
 rcases hx with hk|hk
 . refine wpAny_storeName_local hk hn (λh' hn' hs=>?_) hcls;obtain⟨oL,_,_,hoL,_⟩:=id hn;refine h _ ⟨I.ok,I.os,I.bare,⟨λb o e n hb hx=>?_,λb o e n hb hx=>?_,I.base.free,λb o e hx=>?_,I.base.tO,I.base.sI,I.base.tQ⟩,⟨_,hn',λj y v' e1 e2 e3=>?_⟩,λy σ e=>?_,I.free,I.jb,λp hp=>?_,tracked ⟨oL,hoL,I.free⟩ hs,by simpa using I.len⟩ ⟨_,hs,.inl rfl⟩;exact(hs.2 b (X3 (L9 (K2 e) I.ok.above))).trans (I.base.keep b o e n hb hx);obtain⟨sl,e1⟩:=I.base.slot b o e n hb hx;exact⟨sl,(hs.2 b (X3 (L9 (K2 e) I.ok.above))).trans e1⟩;obtain⟨o',e1⟩:=I.base.there b o e hx;exact⟨o',(hs.2 b (X3 (L9 (K2 e) I.ok.above))).trans e1⟩
   . by_cases hj:j=k;subst hj;rw[hi]at e1;cases e1;rw[vz hiσ]at e2;cases e2;exact⟨D,r,.inl ⟨hk,by simp⟩⟩
     . rw[iz (lS hj)]at e2;obtain⟨u',r',q⟩:=hl j y v' e1 e2 e3;refine⟨u',r',?_⟩;rcases q with ⟨M,e⟩|⟨M,σ,e,z⟩
       . refine .inl ⟨M,?_⟩;have:y≠m:=λe=>hj (Ee hN e1 (e▸hi));simp[this,e]
       exact .inr ⟨M,σ,e,z.sameBut hs (Fx y σ e)⟩
   obtain⟨w',z⟩:=I.cell y σ e;exact⟨w',z.sameBut hs (Fx y σ e)⟩;obtain⟨e,n,ne,nf,d⟩:=I.pin p hp;exact⟨(hs.2 p.1 ne).trans e,n,ne,nf,d⟩
 . have hfn:X.fn m=Uf:=by
     rcases hf with z|z
     exact z;rw[z]at hk;cases hk
   obtain⟨σ,hc⟩:=I.ok.has m (.inl hk);obtain⟨w',z⟩:=I.cell m σ hc;refine wpAny_storeName_cell I.ok.kind hk hc z (λh' hc' hs=>?_);obtain⟨oc,hoc,hocd⟩:=id z;refine h {a with heap:=h'} ⟨I.ok,I.os,I.bare,⟨λb o e n hb hx=>?_,λb o e n hb hx=>?_,I.base.free,λb o e hx=>?_,I.base.tO,I.base.sI,I.base.tQ⟩,⟨E,hn.sameBut hs (lS (Fx m σ hc)),λj y v' e1 e2 e3=>?_⟩,λy c' e=>?_,I.free,I.jb,λp hp=>?_,tracked ⟨oc,hoc,I.jb m σ hc⟩ hs,by simpa using I.len⟩ ⟨σ,hs,.inr hc⟩;exact(hs.2 b (X3 (L9 (K2 e) (I.ok.Jx m σ hfn hc)))).trans (I.base.keep b o e n hb hx);obtain⟨sl,e1⟩:=I.base.slot b o e n hb hx;exact⟨sl,(hs.2 b (X3 (L9 (K2 e) (I.ok.Jx m σ hfn hc)))).trans e1⟩;obtain⟨o',e1⟩:=I.base.there b o e hx;exact⟨o',(hs.2 b (X3 (L9 (K2 e) (I.ok.Jx m σ hfn hc)))).trans e1⟩
   . by_cases hj:j=k;subst hj;rw[hi]at e1;cases e1;rw[vz hiσ]at e2;cases e2;exact⟨D,r,.inr ⟨.inl hk,σ,hc,hc'⟩⟩
     . rw[iz (lS hj)]at e2;obtain⟨u',r',q⟩:=hl j y v' e1 e2 e3;refine⟨u',r',?_⟩;rcases q with q|⟨M,c',e,z'⟩
       exact .inl q;refine .inr ⟨M,c',e,z'.sameBut hs ?_⟩;rintro rfl;exact hj (Ee hN e1 (I.ok.inj _ _ _ e hc▸hi))
   . by_cases hcc:c'=σ;subst hcc;exact⟨_,hc'⟩;obtain⟨w2,z2⟩:=I.cell y c' e;exact⟨w2,z2.sameBut hs hcc⟩
   obtain⟨e,n,ne,nf,d⟩:=I.pin p hp;refine⟨(hs.2 p.1 ?_).trans e,n,ne,nf,d⟩;intro q;rw[q,hoc]at e;exact d w' (by rw[<-(Y9 e)];exact hocd)
def Dm{v:V}(I:Inv X c l H a)(σ:X.N.Nodup)(s:X.N[k]?=U m)(b:Loc X.env.scope m)(r:RelV v D)(h:∀s',Inv X c (l.set k (U v)) H s'->d6 () s')(e:autoParam (xh X m) hW):wpAny e8 A (storeName X.env m D) d6 u a:=
 LZ I σ s b r (λs' d _=>h s' d) e
def Inv.a4I{s':A6}(I:Inv X c l H a)(f:s'.os=a.os)(u:Un (tE X.stack) N H d a.heap s'.heap)(s:bR X.prog X.w d s'.heap)(e:jv s'.gens)(m:∀b∈N,(b∈X.ex\/X.X4.heap.objs.size<=b)/\b≠X.env.locals/\(∀x σ,X.env.cells.lookup x=U σ->σ≠b)/\∀p∈X.pn++c,p.1≠b):Inv X c l d s':=by obtain⟨j,h,i,g,k⟩:=s';subst f;exact I.call u s e m
end
abbrev XK:=w9->Option Addr->Hp->Prop
variable{c9:XK}
noncomputable abbrev St:=List (Option V)
variable{n:St}
abbrev VK:=V->Hp->Prop
variable{e9:VK}
abbrev TE:=St->Hp->VK->Prop
variable{t a9:TE}
abbrev TT:=St->Hp->(Bool->Hp->Prop)->Prop
variable{Y:TT}
abbrev TA:=St->Hp->(List V->Hp->Prop)->Prop
variable{b5:TA}
structure Ends where
 nx:St->Hp->Prop
 rt:VK
 bk:St->Hp->Prop:=λ_ _=>False
 ct:St->Hp->Prop:=λ_ _=>False
abbrev TS:=Ends->St->Hp->Prop
variable{c5:TS}
def EP(X:Cx)(pins:List (Addr×Obj))(σ:St)(Q:VK)(u:w9)(s':A6):Prop:=∃v H',Inv X pins σ H' s'/\RelV v u/\Q v H'
noncomputable def TP(X:Cx)(pins:List (Addr×Obj))(σ:St)(Q:Bool->Hp->Prop)(b:Bool)(s':A6):Prop:=∃H',Inv X pins σ H' s'/\Q b H'
def AP(X:Cx)(pins:List (Addr×Obj))(σ:St)(Q:List V->Hp->Prop)(us:List w9)(s':A6):Prop:=∃vs H',Inv X pins σ H' s'/\Vals vs us/\Q vs H'
def SP(X:Cx)(pins:List (Addr×Obj))(D:Ends)(f:Flow)(s':A6):Prop:=
 match f with
 | .next=>∃σ' H',Inv X pins σ' H' s'/\D.nx σ' H'
 | .brk=>∃σ' H',Inv X pins σ' H' s'/\D.bk σ' H'
 | .cont=>∃σ' H',Inv X pins σ' H' s'/\D.ct σ' H'
 | .ret u=>∃v σ' H',Inv X pins σ' H' s'/\RelV v u/\D.rt v H'
def PE(X:Cx)(e:Expr)(t:TE):Prop:=
 ∀(pins:List (Addr×Obj)) (s:A6) (σ:St) (H:Hp) (Q:VK),Inv X pins σ H s->t σ H Q->wpAny (model X.prog X.w) X.A (eval e X.env) (EP X pins σ Q) X.xe s
def PT(X:Cx)(e:Expr)(t:TT):Prop:=
 ∀(pins:List (Addr×Obj)) (s:A6) (σ:St) (H:Hp) (Q:Bool->Hp->Prop),Inv X pins σ H s->t σ H Q->wpAny (model X.prog X.w) X.A (isTrue e X.env (eval e X.env)) (TP X pins σ Q) X.xe s
def PW(X:Cx)(e:Expr)(t:TT):Prop:=
 ∀(whole:Sem w9) (pins:List (Addr×Obj)) (s:A6) (σ:St) (H:Hp) (Q:Bool->Hp->Prop),Inv X pins σ H s->t σ H Q->wpAny (model X.prog X.w) X.A (isTrue e X.env whole) (TP X pins σ Q) X.xe s
def PW.pt(h:PW X Z Y):PT X Z Y:=h _
def PA(X:Cx)(es:List Expr)(t:TA):Prop:=
 ∀(pos:Pos) (pins:List (Addr×Obj)) (s:A6) (σ:St) (H:Hp) (Q:List V->Hp->Prop),Inv X pins σ H s->t σ H Q->wpAny (model X.prog X.w) X.A (spliced (gi pos (W2 es X.env))) (AP X pins σ Q) X.xe s
def PS(X:Cx)(st:Stmt)(t:TS):Prop:=
 ∀(pins:List (Addr×Obj)) (s:A6) (σ:St) (H:Hp) (D:Ends),Inv X pins σ H s->t D σ H->wpAny (model X.prog X.w) X.A (exec st X.env) (SP X pins D) X.xe s
def lP(X:Cx)(st:List Stmt)(t:TS):Prop:=
 ∀(pins:List (Addr×Obj)) (s:A6) (σ:St) (H:Hp) (D:Ends),Inv X pins σ H s->t D σ H->wpAny (model X.prog X.w) X.A (execs st X.env) (SP X pins D) X.xe s
def G5{t:Sem h7}{Q c:h7->A6->Prop}(h:wpAny e8 A t Q u a)(d:∀b a,Q b a->c b a):wpAny e8 A t c u a:=dW h d λ_ _ x=>x
noncomputable def O0(i:Nat):TE:=λσ H Q=>∃v,σ[i]?=U (U v)/\Q v H
noncomputable def tC(v:V):TE:=λ_ H Q=>Q v H
def a1X(w:X.N[k]?=U m)(o:JC X.env.scope m)(hd:autoParam (jY m) B0)(g:autoParam ((m==("__classdict__" : Str))=U') B0):PE X (.Name m p) (O0 k):=by
 intro f s t H Q I h;obtain⟨v,e,h⟩:=h;obtain⟨x,i,q⟩:=I.loc;obtain⟨u,r,l⟩:=q k m v w e o;have d:EP X f t Q u s:=⟨v,H,I,r,h⟩;rcases l with ⟨b,n⟩|⟨b,c,j,a⟩
 exact wpAny_Name (wpAny_loadName_local I.ok.kind b i n d) hd
 . rcases b with b|b
   exact wpAny_Name (wpAny_loadName_cell I.ok.kind b j a d) hd;exact wpAny_Name (wpAny_loadName_free I.ok.kind b j a d g) hd
def a2d{i j pos}:PE X (.Constant (.int i) j pos) (tC (.int i)):=λ_ _ _ H _ I h=>wpAny_Constant_int ⟨.int i,H,I.tok _,⟨_,rfl⟩,h⟩
def a4q{b j pos}:PE X (.Constant (.bool b) j pos) (tC (.bl b)):=λ_ _ _ H _ I h=>Constant_bool ⟨.bl b,H,I,rfl,h⟩
def a2c{j pos}:PE X (.Constant .none j pos) (tC .non):=λ_ _ _ H _ I h=>Constant_none ⟨.non,H,I,rfl,h⟩
def a1Z{x j pos}:PE X (.Constant (.str x) j pos) (tC (.str x)):=λ_ _ _ H _ I h=>GX ⟨.str x,H,I.tok _,⟨_,rfl⟩,h⟩
noncomputable abbrev Gl(X:Cx)(x:Str):Prop:=X.env.kindOf x=U .globalImplicit
def Bd{Q:w9->A6->Prop}(I:Inv X c n d a)(E:Gl X m)(b:X.mg m=U D)(h:Q D a)(hd:autoParam (jY m) B0):wpAny (model X.prog X.w) X.A (eval (.Name m p) X.env) Q u a:=
 QL I.ok.kind E (Calls.loadGlobal_global (by rw[I.ok.glob];exact I.mod.glob.keeps I.bk) b h) hd
def qw{H:Hp}{Q:w9->A6->Prop}(I:Inv X c n H a)(f:Gl X m)(s:X.mg m=J)(E:ig m=U D)(h:Q D a)(b:autoParam (m ≠ "__name__") lO)(hd:autoParam (jY m) B0):wpAny (model X.prog X.w) X.A (eval (.Name m p) X.env) Q u a:=by obtain⟨i,g,e⟩:=I.mod.blt;exact QL I.ok.kind f (Calls.loadGlobal_builtin (by rw[I.ok.glob];exact I.mod.glob.keeps I.bk) s (by rw[I.ok.blt];exact g.keeps I.bk) ((e m b).trans E) h) hd
def Zl(b:Gl X m)(a:X.mg m=U D)(r:RelV M D)(hd:autoParam (jY m) B0):PE X (.Name m p) (tC M):=
 λ_ _ _ H _ I h=>Bd I b a ⟨M,H,I,r,h⟩ hd
def Zo(c:Gl X m)(a:X.mg m=J)(d:ig m=U D)(r:RelV M D)(b:autoParam (m ≠ "__name__") lO)(hd:autoParam (jY m) B0):PE X (.Name m p) (tC M):=
 λ_ _ _ H _ I h=>qw I c a d ⟨M,H,I,r,h⟩ b hd
noncomputable def tB(t:TE):TT:=λσ H Q=>t σ H λx H1=>∃c,x=.bl c/\Q c H1
def MD(h:PE X Z t)(f:autoParam (∀a,isTrue Z X.env a=(do let v <- a;standAt Z.pos;holding [v] (truthy v))) qL):PT X Z (tB t):=by
 intro b s i H Q I c;refine isTrue_plain (G5 (h b s i H _ I c) λv m ⟨x,j,k,g,l⟩=>?_) (f _);obtain⟨d,rfl,q⟩:=l;cases g;exact oY ⟨j,k,q⟩
noncomputable def Rx(t u:TT):TT:=λσ H Q=>t σ H λc H1=>if c=Uf then u σ H1 Q else Q U' H1
noncomputable def tOr(t u:TT):TT:=λσ H Q=>t σ H λc H1=>if c=Uf then Q Uf H1 else u σ H1 Q
noncomputable def JQ(t:TT):TT:=λσ H Q=>t σ H λc H1=>Q (!c) H1
def pw_and1(f:PT X Z Y):PW X (.BoolOp .And [Z] p) Y:=by
 intro wh b s d H Q I h;refine isTrue_and (G5 (f b s d H Q I h) λc g e=>?_)
 cases c with
 |true=>exact isTrue_and_nil e
 |false=>exact e
def pw_or1(f:PT X Z Y):PW X (.BoolOp .Or [Z] p) Y:=by
 intro wh b s d H Q I h;refine isTrue_or (G5 (f b s d H Q I h) λc g e=>?_)
 cases c with
 |false=>exact isTrue_or_nil e
 |true=>exact e
def pw_and{tB':TT}(l:PT X Z Y)(k:PW X (.BoolOp .And (L::B) p) tB'):PW X (.BoolOp .And (Z::L::B) p) (Rx Y tB'):=by
 intro wh d s e H Q I h;refine isTrue_and (G5 (l d s e H _ I h) λc j ⟨f,g,i⟩=>?_)
 cases c with
 |true=>exact k wh d j e f Q g i
 |false=>exact⟨f,g,i⟩
def pw_or{tB':TT}(l:PT X Z Y)(k:PW X (.BoolOp .Or (L::B) p) tB'):PW X (.BoolOp .Or (Z::L::B) p) (tOr Y tB'):=by
 intro wh d s e H Q I h;refine isTrue_or (G5 (l d s e H _ I h) λc j ⟨f,g,i⟩=>?_)
 cases c with
 |true=>exact⟨f,g,i⟩
 |false=>exact k wh d j e f Q g i
def ME(f:PT X Z Y):PT X (.UnaryOp .Not Z p) (JQ Y):=by exact λb s d H Q I h=>isTrue_not (f b s d H (λc e=>Q (!c) e) I h)
noncomputable def Vq(ta tb:TE):TE:=λσ H Q=>ta σ H λx H1=>∃c,x=.bl c/\if c=Uf then tb σ H1 Q else Q (.bl U') H1
noncomputable def a1e(ta tb:TE):TE:=λσ H Q=>ta σ H λx H1=>∃c,x=.bl c/\if c=Uf then Q (.bl Uf) H1 else tb σ H1 Q
noncomputable def Vm(ta:TE):TE:=λσ H Q=>ta σ H λx H1=>∃c,x=.bl c/\Q (.bl (!c)) H1
def a2a{op}(h:PE X Z t):PE X (.BoolOp op [Z] p) t:=λb s c H Q I d=>BoolOp_one (h b s c H Q I d)
def a2e(m:PE X Z t)(l:PE X (.BoolOp .And (L::B) p) a9):PE X (.BoolOp .And (Z::L::B) p) (Vq t a9):=by
 intro d s f H Q I h;refine BoolOp_and (G5 (m d s f H _ I h) λv k ⟨x,g,i,j,e⟩=>?_)
 obtain⟨c,rfl,e⟩:=e;cases j;refine oY ?_;cases c with
 |true=>exact l d k f g Q i e
 |false=>exact⟨.bl U',g,i,rfl,e⟩
def a4o(m:PE X Z t)(l:PE X (.BoolOp .Or (L::B) p) a9):PE X (.BoolOp .Or (Z::L::B) p) (a1e t a9):=by
 intro d s f H Q I h;refine BoolOp_or (G5 (m d s f H _ I h) λv k ⟨x,g,i,j,e⟩=>?_)
 obtain⟨c,rfl,e⟩:=e;cases j;refine oY ?_;cases c with
 |false=>exact l d k f g Q i e
 |true=>exact⟨.bl Uf,g,i,rfl,e⟩
def a2b(j:PE X Z t):PE X (.UnaryOp .Not Z p) (Vm t):=by
 intro b s f H Q I h;refine UnaryOp_ (G5 (j b s f H _ I h) λv k ⟨x,g,i,e,d⟩=>?_);obtain⟨c,rfl,d⟩:=d;cases e;exact not_of (oY ⟨.bl (!c),g,i,rfl,d⟩)
noncomputable def tIf(t:TT)(ta tb:TE):TE:=λσ H Q=>t σ H λc H1=>if c=Uf then ta σ H1 Q else tb σ H1 Q
def SO{c:Expr}(l:PT X c Y)(n:PE X Z t)(m:PE X L a9):PE X (.IfExp c Z L p) (tIf Y t a9):=by
 intro e s f H Q I h;refine wpAny_IfExp (G5 (l e s f H _ I h) λd g ⟨i,j,k⟩=>?_)
 cases d with
 |true=>exact n e g f i Q j k
 |false=>exact m e g f i Q j k
def N6(K:B1)(H:Hp)(a:Addr)(xs:List V):Prop:=
 Rd H a (.lst xs) \/
  ∃(o:Obj) (its:Array w9) (n:Nat),K.lookup a=U o/\o.cls=.type "list"/\o.dict=J/\o.data=.seq its n/\its.size<=D6/\Vals xs its.toList
def Y7(K:B1)(H:Hp)(a:Addr)(xs:List V):Prop:=
 Rd H a (.tup xs) \/
  ∃(o:Obj) (its:Array w9) (n:Nat),K.lookup a=U o/\o.cls=.type "tuple"/\o.data=.seq its n/\its.size<=D6/\Vals xs its.toList
noncomputable def a5z:w9->Option V
 | .none=>U .non
 | .bool b=>U (.bl b)
 | .int i _=>U (.int i)
 | .str x _=>U (.str x)
 | .bytes b _=>U (.byt b)
 | .float b _=>U (.flt b)
 | .ref a=>U (.ref a)
 | .type n=>U (.ty n)
 |_=>J
def RelV.abs(r:RelV M D):a5z D=U M:=by
 cases M with
 |non=>cases r;rfl
 |bl _=>cases r;rfl
 |int _=>obtain⟨t,rfl⟩:=r;rfl
 |str _=>obtain⟨t,rfl⟩:=r;rfl
 |byt _=>obtain⟨t,rfl⟩:=r;rfl
 |flt _=>obtain⟨t,rfl⟩:=r;rfl
 |ref _=>cases r;rfl
 |ty _=>cases r;rfl
def RelV.inj{y:V}(r:RelV M D)(q:RelV y D):M=y:=Y9 (r.abs.symm.trans q.abs)
theorem Vals.inj{xs ys:List V}{us:List w9}(h:Vals xs us):Vals ys us->xs=ys:=by
 induction h generalizing ys with
 |nil=>intro k;cases k;rfl
 |cons r t i=>intro k;cases k with
  |cons q s=>rw[r.inj q,i s]
section
variable{H:Hp}
def N6.of(h:H e=U (.lst z)):N6 O H e z:=.inl (.inl h)
def Y7.of(h:H e=U (.tup z)):Y7 O H e z:=.inl (.inl h)
def Inv.list(I:Inv X c n H a)(h:N6 X.K H e z):∃b:List w9,Vals z b/\PlainL a.heap e b.toArray/\z.length<=D6:=by
 rcases h with h|⟨o,b,s,g,f,σ,d,i,r⟩
 obtain⟨k,b,s,r,j⟩:=h.ok I.G8;exact⟨b,r,⟨_,s,j,rfl,rfl,rfl⟩,k⟩
 . refine⟨b.toList,r,⟨o,s,I.hI e o g,f,σ,by simpa using d⟩,?_⟩;have j:=r.length;simp only[Ha]at j;simp[*]
def Inv.tuple(I:Inv X c n H a)(h:Y7 X.K H e z):∃b:List w9,Vals z b/\IsTup a.heap e b.toArray/\z.length<=D6:=by
 rcases h with h|⟨o,b,s,f,d,σ,g,r⟩
 obtain⟨j,b,r,p⟩:=h.ok I.G8;exact⟨b,r,p,j⟩
 . refine⟨b.toList,r,⟨o,I.hI e o f,d,s,by simpa using σ⟩,?_⟩;have i:=r.length;simp only[Ha]at i;simp[*]
def Inv.Eu{ys:List V}(I:Inv X c n H a)(h:N6 X.K H e z)(h':N6 X.K H e ys):z=ys:=by
 obtain⟨σ,r,⟨o,s,l,_,_,d⟩,_⟩:=I.list h;obtain⟨b,i,⟨k,j,g,_,_,f⟩,_⟩:=I.list h';rw[l]at g;cases g;rw[d]at f;injection f with d1 _
 have:σ=b:=by simpa using H0 Array.toList d1
 subst this;exact r.inj i
def Inv.BF{ys:List V}(I:Inv X c n H a)(h:Y7 X.K H e z)(h':Y7 X.K H e ys):z=ys:=by
 obtain⟨σ,r,⟨o,l,_,s,d⟩,_⟩:=I.tuple h;obtain⟨b,i,⟨k,g,_,j,f⟩,_⟩:=I.tuple h';rw[l]at g;cases g;rw[d]at f;injection f with d1 _
 have:σ=b:=by simpa using H0 Array.toList d1
 subst this;exact r.inj i
end
noncomputable abbrev Cx.pY(X:Cx)(E:w9->A6->Prop):Cx:={X with xe:=E}
noncomputable abbrev Cx.pB(X:Cx):Cx:=X.pY λ_ _=>False
theorem Cx.Ok.pY(ok:X.Ok)(E:w9->A6->Prop):(X.pY E).Ok:=
 ⟨ok.mod,ok.kind,ok.glob,ok.blt,ok.above,ok.inj,ok.has,ok.Jx,ok.hd,ok.frames,ok.Ma,ok.XC,ok.bs,ok.tH,ok.xv,ok.Bq,ok.kz,ok.Ci⟩
def Cx.Ok.lA(ok:(X.pY u).Ok):X.Ok:=
 ⟨ok.mod,ok.kind,ok.glob,ok.blt,ok.above,ok.inj,ok.has,ok.Jx,ok.hd,ok.frames,ok.Ma,ok.XC,ok.bs,ok.tH,ok.xv,ok.Bq,ok.kz,ok.Ci⟩
section
variable{H:Hp}
theorem Inv.pY(I:Inv X c n H a)(E:w9->A6->Prop):Inv (X.pY E) c n H a:=⟨I.ok.pY E,I.os,I.bare,I.base,I.loc,I.cell,I.free,I.jb,I.pin,I.G8,I.len⟩
theorem Inv.lA(I:Inv (X.pY u) c n H a):Inv X c n H a:=⟨I.ok.lA,I.os,I.bare,I.base,I.loc,I.cell,I.free,I.jb,I.pin,I.G8,I.len⟩
theorem SP.lA{X:Cx}{pins:List (Addr×Obj)}{E:w9->A6->Prop}{D:Ends}{f:Flow}{s':A6}(h:SP (X.pY E) pins D f s'):SP X pins D f s':=by
 cases f with
 |next=>obtain⟨a,b,I,q⟩:=h;exact⟨a,b,I.lA,q⟩
 |brk=>obtain⟨a,b,I,q⟩:=h;exact⟨a,b,I.lA,q⟩
 |cont=>obtain⟨a,b,I,q⟩:=h;exact⟨a,b,I.lA,q⟩
 |ret u=>obtain⟨v,a,b,I,r,q⟩:=h;exact⟨v,a,b,I.lA,r,q⟩
theorem lP.pB(h:lP X.pB b7 c5):lP X b7 c5:=λa s c H D I d=>
 dW (h a s c H D (I.pY _) d) (λ_ _ q=>q.lA) λ_ _ z=>dV z
end
noncomputable def JR:TS:=λD σ H=>D.nx σ H
noncomputable def a1d(t u:TS):TS:=λD σ H=>t {D with nx:=u D} σ H
def IC:lP X [] JR:=λ_ _ a H _ I h=>vk ⟨a,H,I,h⟩
def Su{u:TS}(i:PS X i6 c5)(d:lP X b7 u):lP X (i6::b7) (a1d c5 u):=by
 intro a s c H D I h;refine wpAny_execs_cons (G5 (i a s c H {D with nx:=u D} I h) λf g q=>?_)
 cases f with
 |next=>
  obtain⟨b,j,e,q⟩:=q;exact d a g b j D e q
 |ret v=>exact q
 |brk=>exact q
 |cont=>exact q
def YY(c:PS X i6 c5):lP X [i6] c5:=by
 intro a s b H D I h;refine wpAny_execs_cons (G5 (c a s b H D I h) λf d q=>?_)
 cases f with
 |next=>exact vk q
 |ret v=>exact q
 |brk=>exact q
 |cont=>exact q
def Inv.quiet{s:A6}(I:Inv X c n d s):interactive X.env=U':=by simp[interactive,I.ok.kind]
noncomputable def pw(te:TE):TS:=λD σ H=>te σ H λ_ H1=>D.nx σ H1
def kh(c:PE X Z t)(hs:autoParam (bc Z J p.line X.env=pure U') B0):PS X (.Expr Z p) (pw t):=by exact λa s b H D I h=>wpAny_Expr_any (G5 (c a s b H _ I h) λv j ⟨x,d,f,i,g⟩=>⟨b,d,f,g⟩) I.quiet hs
noncomputable def AO(te:TE):TS:=λD σ H=>te σ H D.rt
def tZ(f:PE X Z t):PS X (.Return (U Z) p) (AO t):=by exact λa s b H D I h=>wpAny_Return_some (G5 (f a s b H _ I h) λv j ⟨x,c,d,i,g⟩=>⟨x,b,c,d,i,g⟩)
noncomputable def Rt(c:TT)(t u:TS):TS:=λD σ H=>c σ H λb H1=>if b=Uf then t D σ H1 else u D σ H1
def Vz{u:TS}{b:List Stmt}(m:PT X Z Y)(o:lP X b7 c5)(n:lP X b u):PS X (.If Z b7 b p) (Rt Y c5 u):=by
 intro e s f H D I h;refine wpAny_If (G5 (m e s f H _ I h) λd g ⟨i,j,k⟩=>?_)
 cases d with
 |true=>exact o e g f i D j k
 |false=>exact n e g f i D j k
noncomputable def ye:TS:=λ_ _ _=>False
def Sw:PS X i6 ye:=λ_ _ _ _ _ _ h=>h.elim
def MM:lP X b7 ye:=λ_ _ _ _ _ _ h=>h.elim
abbrev TG:=V->St->Hp->(St->Hp->Prop)->Prop
abbrev wX:=List V->St->Hp->(St->Hp->Prop)->Prop
def PG(X:Cx)(target:Expr)(t:TG):Prop:=
 ∀(pins:List (Addr×Obj)) (s:A6) (σ:St) (H:Hp) (v:V) (u:w9) (Q:St->Hp->Prop),Inv X pins σ H s->RelV v u->t v σ H Q ->
  wpAny (model X.prog X.w) X.A (assign target X.env u) (λ_ s'=>∃σ' H',Inv X pins σ' H' s'/\Q σ' H') X.xe s
def Pf(X:Cx)(ts:List Expr)(t:wX):Prop:=
 ∀(pins:List (Addr×Obj)) (s:A6) (σ:St) (H:Hp) (vs:List V) (us:List w9) (Q:St->Hp->Prop),Inv X pins σ H s->Vals vs us->t vs σ H Q ->
  wpAny (model X.prog X.w) X.A (assignInOrder ((lX ts X.env).map (·.2)) us) (λ_ s'=>∃σ' H',Inv X pins σ' H' s'/\Q σ' H') X.xe s
noncomputable def cI(i:Nat):TG:=λv σ H Q=>Q (σ.set i (U v)) H
def ID(d:X.N.Nodup)(b:X.N[k]?=U m)(c:Loc X.env.scope m)(f:autoParam (xh X m) hW):PG X (.Name m p) (cI k):=by exact λa s g H v u Q I r h=>wpAny_assign_Name (Dm I d b c r (λj e=>⟨_,H,e,h⟩) f)
noncomputable def La:wX:=λvs σ H Q=>vs=[]/\Q σ H
noncomputable def wu(t:TG)(u:wX):wX:=λvs σ H Q=>∃v r,vs=v::r/\t v σ H λσ' H'=>u r σ' H' Q
def Zi:Pf X [] La:=by intro a s b H d c Q I r h;obtain⟨e,h⟩:=h;subst e;cases r;exact assignInOrder_nil ⟨b,H,I,h⟩
def SM{t:TG}{u:wX}(i:PG X Z t)(d:Pf X B u)(hs:autoParam ((lX (Z::B) X.env).map (·.2)=assign Z X.env::(lX B X.env).map (·.2)) B0):Pf X (Z::B) (wu t u):=by
 intro a s f H o p Q I r h;obtain⟨v,n,j,h⟩:=h;subst j;cases r with
 |cons r c=>
  rw[hs];refine assignInOrder_cons (G5 (i a s f H _ _ _ I r h) λ_ g ⟨b,k,l,m⟩=>?_);exact d a g b k _ _ Q l c m
def ET(K:B1)(n:Nat)(t:wX):TG:=λv σ H Q=>∃a xs,v=.ref a/\Y7 K H a xs/\xs.length=n/\t xs σ H Q
def a1W{t:wX}{n:Nat}(z:X.calm=Uf)(h:Pf X B t)(j:autoParam ((lX B X.env).length=n) B0)(d:autoParam ((lX B X.env).findIdx? (·.1)=J) B0):PG X (.Tuple B k p) (ET X.K n t):=by
 intro c s g H v u Q I r f;obtain⟨a,x,y,hq,C,f⟩:=f;subst y;cases r;obtain⟨A,i,l,D⟩:=I.tuple hq;refine assign_Tuple_tuple (I.ok.hd z) l (by simp[j,<-C,i.length]) d λw m=>?_;have q:Inv X c g H {s with heap:=w}:=I.kept λb o e=>m b o (X3 (K2 e)) e;exact h c _ g H x _ Q q (by simpa using i) f
noncomputable def nI(te:TE)(g:TG):TS:=λD σ H=>te σ H λx H1=>g x σ H1 D.nx
def a1S{g:TG}(f:PE X L t)(j:PG X Z g)(hs:autoParam (Gs [Z] L p.line X.env=pure U') B0)(d:autoParam (Gr [Z] L X.env=pure J) B0)(l:autoParam ((lX [Z] X.env).map (·.2)=[assign Z X.env]) B0):PS X (.Assign [Z] L p) (nI t g):=by
 intro a s c H D I h;refine wpAny_Assign_stores (G5 (f a s c H _ I h) λv k ⟨x,m,n,i,o⟩=>?_) hs d;rw[l];exact G5 (j a k c m x v _ n i o) λ_ b q=>q
def DQ{a:Pos}(g:X.N.Nodup)(c:X.N[k]?=U m)(f:Loc X.env.scope m)(d:PE X Z t)(hs:autoParam (bc Z (U (.Name m a)) p.line X.env=pure U') B0)(n:autoParam (xh X m) hW):
  PS X (.Assign [.Name m a] Z p) (nI t (cI k)):=by
 intro b s l H D I h;refine wpAny_Assign_Name (G5 (d b s l H _ I h) λv r ⟨y,e,o,x,i⟩=>?_) hs;exact Dm o g c f x (λq j=>⟨_,e,j,i⟩) n
def LR(c:TT)(tb:TS):TS:=λD σ H=>∃W:Nat->St->Hp->Prop,(∃m,W m σ H)/\∀m σ H,W m σ H ->
 c σ H λb H1=>if b=Uf then ∃N:St->Hp->Prop,(∀σ' H',N σ' H'->∃m',m'<m/\W m' σ' H')/\tb {D with nx:=N,ct:=N,bk:=D.nx} σ H1 else D.nx σ H1
def Sv(t:zv (model X.prog X.w) X.A X.env X.xe)(P:PT X Z Y)(Q:lP X b7 c5):PS X (.While Z b7 [] p) (LR Y c5):=by
 intro d s E H D I h;obtain⟨W,⟨m0,F⟩,turn⟩:=h;refine wpAny_While (codeAny_whileLoop (λn O=>∃i C,Inv X d i C O/\W n i C) ?_ m0 ⟨E,H,I,F⟩);rintro n G ⟨e,z,K,L⟩;refine oU t (G5 (P d G e z _ K (turn n e z L)) λb M ⟨u,r,q2⟩=>?_)
 cases b with
 |true=>
  obtain⟨N,y,q2⟩:=q2;refine oU t (G5 (Q d M e u _ r q2) λf R k=>?_)
  cases f with
  |next=>
   obtain⟨a,j,q,l⟩:=k;obtain⟨c,o,m⟩:=y a j l;exact⟨c,o,a,j,q,m⟩
  |cont=>
   obtain⟨a,j,q,l⟩:=k;obtain⟨c,o,m⟩:=y a j l;exact⟨c,o,a,j,q,m⟩
  |brk=>exact k
  |ret v=>exact k
 |false=>
  exact vk ⟨e,u,r,q2⟩
structure It where
 go:Nat->Hp->Prop
 Lv:Nat->Hp->V->Hp->Prop
 stop:Nat->Hp->Prop
noncomputable def mD(X:Cx)(pins:List (Addr×Obj))(H:Hp)(b:Addr):Prop:=
 H b=J/\b≠X.env.locals/\b∉X.fs/\(b∈X.ex\/X.X4.heap.objs.size<=b)/\(∀x c,X.env.cells.lookup x=U c->c≠b)/\∀p∈X.pn++pins,p.1≠b
def Inv.xH{H H':Hp}(I:Inv X c n H a)(s:(hz a)<=e)(f:H' e=J):mD X c H' e:=by
 refine⟨f,oN (L9 I.lt s),I.Tj s,.inr (C3 I.sz s),λx d b z=>?_,λp g z=>?_⟩;obtain⟨v,q⟩:=I.cell x d b;exact absurd (L9 q.lt (by rw[z];exact s)) (bf _);exact absurd (L9 (K2 (I.pin p g).1) (by rw[z];exact s)) (bf _)
structure Turn(P:V1)(w:M5)(K:B1)(tg:Expr)(Jff:It)(fp:List Addr)(it:Addr)(tn:Nat->Heap->Prop):Prop where
 mem:it∈fp
 obj:∀i h,tn i h->∀b∈fp,∃o,h.get? b=U o/\∀v,o.data≠.cell v
 keep:∀i h h',tn i h->(∀b∈fp,∀o,h.get? b=U o->h'.get? b=U o)->tn i h'
 item:∀(X:Cx),X.prog=P->X.w=w->X.K=K->X.calm=Uf->∀(i:Nat) (pins:List (Addr×Obj)) (s:A6) (σ:St) (H:Hp) (E:w9->A6->Prop),Inv X pins σ H s->(∀b∈fp,mD X pins H b)->tn i s.heap->Jff.go i H ->
  wpAny (model P w) X.A (pyNext (.ref it)) (λr s1=>∃u,r=U u /\
   wpAny (model P w) X.A (Ag tg (.ref it) u) (λ_ s2=>∃x H',Inv X pins σ H' s2/\RelV x u/\Jff.Lv i H x H'/\tn (i+1) s2.heap/\∀b∈fp,H' b=J) E s1) E s
 done:∀(X:Cx),X.prog=P->X.w=w->X.K=K->X.calm=Uf->∀(i:Nat) (pins:List (Addr×Obj)) (s:A6) (σ:St) (H:Hp) (E:w9->A6->Prop),Inv X pins σ H s->(∀b∈fp,mD X pins H b)->tn i s.heap->Jff.stop i H ->
  wpAny (model P w) X.A (pyNext (.ref it)) (λr s1=>r=J/\Inv X pins σ H s1) E s
 self:∀(A:T8) (i:Nat) (s:A6) (Q:w9->A6->Prop) (E:w9->A6->Prop),tn i s.heap->Q (.ref it) s->wpAny (model P w) A (pyIter (.ref it)) Q E s
abbrev TI:=St->Hp->(It->Hp->Prop)->Prop
def PIE(X:Cx)(pins:List (Addr×Obj))(σ:St)(tg:Expr)(R:It->Hp->Prop)(itv:w9)(s2:A6):Prop:=
 ∃(it:Addr) (fp:List Addr) (tn:Nat->Heap->Prop) (Jff:It) (H':Hp),itv=.ref it/\Inv X pins σ H' s2/\Turn X.prog X.w X.K tg Jff fp it tn/\tn 0 s2.heap/\(∀b∈fp,mD X pins H' b)/\R Jff H'
def PI(X:Cx)(tg iter:Expr)(wi:TI):Prop:=
 ∀(pins:List (Addr×Obj)) (s:A6) (σ:St) (H:Hp) (R:It->Hp->Prop),Inv X pins σ H s->wi σ H R ->
  wpAny (model X.prog X.w) X.A (eval iter X.env) (λv s1=>wpAny (model X.prog X.w) X.A (pyIter v) (PIE X pins σ tg R) X.xe s1) X.xe s
def CH{s:A6}{n:String}{vs:Array w9}(d:s.heap.get? e=U b9)(M:b9.cls=.type n)(hd:b9.data=.fields vs)(c:["enumerate","zip","dict_itemiterator","dict_reverseitemiterator","odict_iterator","itertools.zip_longest","itertools.pairwise"].contains n=U')(a:d6 () s):wpAny e8 A (Ag Z (.ref e) D) d6 u s:=by
 cases Z<;>first
  |exact E6 a
  |(cases D<;>first
    |exact E6 a
    | (refine B4 (wpAny_load d ?_)
       rw[M,hd];show wpAny e8 A (if (["enumerate","zip","dict_itemiterator","dict_reverseitemiterator","odict_iterator","itertools.zip_longest","itertools.pairwise"].contains n&&vs[0]?==U (rawInt _))=Uf then _ else _) d6 u s;rw[A4 (by intro h;rw[c,Ab]at h;exact nT h)]
       exact E6 a))
def Itl(K:B1)(a:Addr):It:=
 ⟨λi H=>∃xs x,N6 K H a xs/\xs[i]?=U x,λi H x H'=>H'=H/\∀xs,N6 K H a xs->xs[i]?=U x,λi H=>∃xs,N6 K H a xs/\xs.length<=i⟩
def Itt(K:B1)(a:Addr):It:=
 ⟨λi H=>∃xs x,Y7 K H a xs/\xs[i]?=U x,λi H x H'=>H'=H/\∀xs,Y7 K H a xs->xs[i]?=U x,λi H=>∃xs,Y7 K H a xs/\xs.length<=i⟩
noncomputable def XX(lo:Int)(n:Nat):It:=⟨λi _=>i<n,λi H x H'=>H'=H/\x=.int (lo+i),λi _=>n<=i⟩
def LM(a it:Addr):Turn o q O Z (Itl O a) [it] it (λi h=>h.IsListIter it a i) where
 mem:=K0
 obj:=λi h f b j=>by
  have e:b=it:=by simpa using j
  subst e;obtain⟨P,e,c,d⟩:=f;exact⟨P,e,λv z=>by rw[d]at z;cases z⟩
 keep:=λi h C f k=>f.at λP e=>k it K0 P e
 item:=by
  intro X n B t K i g s N H E I m f G;subst n B t;obtain⟨xs,x,hq,w⟩:=G;obtain⟨L,F,p,Q⟩:=I.list hq;obtain⟨u,Y,T⟩:=F.get w;obtain⟨y,M,f2,D,r,A⟩:=m it K0;refine wpAny_pyNext_list_item f p.isList (by simpa using Y) λC l R=>?_;have S:Inv X g N H {s with heap:=C}:=I.turned (λb P j e=>(R.2 b j).trans e) y M D r A;obtain⟨P,e,c,d⟩:=id l;exact⟨u,rfl,CH e c d A9 ⟨x,H,S,T,⟨rfl,λys hy=>by rw[I.Eu hy hq];exact w⟩,l,λb j=>(m b j).1⟩⟩
 done:=by intro X n B t K i g s N H E I m f G;subst n B t;obtain⟨xs,hq,w⟩:=G;obtain⟨L,F,p,Q⟩:=I.list hq;obtain⟨y,M,f2,D,r,A⟩:=m it K0;have:=F.length;exact wpAny_pyNext_list_end (I.ok.hd K) f p.isList (by simp;simp_all) λC V=>⟨rfl,I.turned (λb P j e=>V b P j e) y M D r A⟩
 self:=λ_ _ _ _ _ f h=>wpAny_pyIter_listiter f h
def JN(a it:Addr):Turn o q O Z (Itt O a) [it] it (λi h=>h.IsTupleIter it a i) where
 mem:=K0
 obj:=λi h f b j=>by
  have e:b=it:=by simpa using j
  subst e;obtain⟨P,e,c,d⟩:=f;exact⟨P,e,λv z=>by rw[d]at z;cases z⟩
 keep:=λi h D f k=>f.at λP e=>k it K0 P e
 item:=by
  intro X w C y K i g s N H E I n f L;subst w C y;obtain⟨xs,x,hq,r⟩:=L;obtain⟨l,G,p,Q⟩:=I.tuple hq;obtain⟨u,Y,T⟩:=G.get r;obtain⟨A,M,f2,F,t,B⟩:=n it K0;refine wpAny_pyNext_tuple_item f (show s.heap.IsTuple a l.toArray from p) (by simpa using Y) λD m R=>?_;have S:Inv X g N H {s with heap:=D}:=I.turned (λb P j e=>(R.2 b j).trans e) A M F t B;obtain⟨P,e,c,d⟩:=id m;exact⟨u,rfl,CH e c d A9 ⟨x,H,S,T,⟨rfl,λys hy=>by rw[I.BF hy hq];exact r⟩,m,λb j=>(n b j).1⟩⟩
 done:=by intro X w C y K i g s N H E I n f L;subst w C y;obtain⟨xs,hq,r⟩:=L;obtain⟨l,G,p,Q⟩:=I.tuple hq;obtain⟨A,M,f2,F,t,B⟩:=n it K0;have:=G.length;exact wpAny_pyNext_tuple_end (I.ok.hd K) f (show s.heap.IsTuple a l.toArray from p) (by simp;simp_all) λD V=>⟨rfl,I.turned (λb P j e=>V b P j e) A M F t B⟩
 self:=λ_ _ _ _ _ f h=>wpAny_pyIter_tupleiter f h
def JO(it:Addr)(lo:Int)(n:Nat):Turn o q O L (XX lo n) [it] it (λi h=>IsRangeIter h it (lo+(i:Nat)*1) ((n:Int)-(i:Nat)) 1) where
 mem:=K0
 obj:=λi h a b d=>by
  have e:b=it:=by simpa using d
  subst e;exact⟨_,a,λv z=>by cases z⟩
 keep:=λi h w a k=>k it K0 _ a
 item:=by
  intro X y C A x i c s B H E I g a u;obtain⟨l,p,K,r,j,m⟩:=g it K0;refine(Walks.range (I.ok.hd x) it lo 1 n).item i s _ _ u a λv w D M f N=>?_;obtain⟨t,rfl⟩:=M;have F:Inv X c B H {s with heap:=w,toks:=D}:=I.turned (λb P d e=>N b P (by simpa using d) e) l p r j m;refine⟨_,rfl,CH f rfl rfl A9 ⟨.int (lo+i),H,F,⟨t,?_⟩,⟨rfl,rfl⟩,f,λb d=>(g b d).1⟩⟩;rw[Int.mul_one]
 done:=by intro X y C A x i c s B H E I g a u;obtain⟨l,p,K,r,j,m⟩:=g it K0;exact wpAny_pyNext_range_end (I.ok.hd x) a (by have:n<=i:=u;lia) λw G=>⟨rfl,I.turned (λb P d e=>G b P d e) l p r j m⟩
 self:=λ_ _ _ _ _ a h=>wpAny_pyIter_rangeiter a h
def RJ{R:It->Hp->Prop}{lo s:Int}{t E v:Tok}(I:Inv X c n d a)(f : -(2^62)<=lo)(i:lo<2^62)(j : -(2^62)<=s)(g:s<2^62)(q:R (XX lo (s-lo).toNat) d):wpAny (model X.prog X.w) X.A (pyIter (.ref (hz a))) (PIE X c n Z R) u {a with heap:=a.heap.push {cls:=.type "range",data:=.fields #[.int lo t,.int s E,.int 1 v]},toks:=k}:=by
 refine wpAny_pyIter_range (IsRange.new ..) (small_one f i j g) ?_;have H:Inv X c n d {a with heap:=a.heap.push {cls:=.type "range",data:=.fields #[.int lo t,.int s E,.int 1 v]},toks:=k}:=I.kept λb o e=>I0 _ e
 refine⟨(a.heap.push {cls:=.type "range",data:=.fields #[.int lo t,.int s E,.int 1 v]}).objs.size,[(a.heap.push {cls:=.type "range",data:=.fields #[.int lo t,.int s E,.int 1 v]}).objs.size],_,_,d,rfl,
  H.kept λb o e=>I0 _ e,JO _ lo (s-lo).toNat,?_,λb m=>?_,q⟩
 . have l:lo+((0:Nat))*1=lo:=by simp
   have h:(((s-lo).toNat))-((0:Nat))=Builtin.Range.rangeSize lo s 1:=by rw[rangeSize_one];split<;>lia
   rw[l,h];exact W3 _ rfl
 . have e:b=(a.heap.push {cls:=.type "range",data:=.fields #[.int lo t,.int s E,.int 1 v]}).objs.size:=by simpa using m
   subst e;exact H.xH O8 (H.G8.fresh O8)
def Xs(ta:TA):TI:=λσ H R=>ta σ H λvs H1=>∃j:Int,vs=[.int j]/\-(2^62)<=j/\j<2^62/\R (XX 0 j.toNat) H1
def MQ{pos:Pos}(l:Gl X "range")(f:X.mg "range" = J)(n:PA X [L] b5)(hs:autoParam (W2 [L] X.env=[(U',eval L X.env)]) B0):PI X Z (.Call (.Name "range" p) [L] [] pos) (Xs b5):=by
 intro b s k H R I h;refine Call_ (qw I l f boot_range (AG (G5 (n pos b s k H _ I h) λv u ⟨o,w,m,i,c⟩=>?_) hs rfl))
 obtain⟨j,e,c,q2,q⟩:=c;subst e;cases i with
 |cons r g=>
  cases g;obtain⟨t,rfl⟩:=r;exact call_range_1 (RJ m qc qc c q2 (by simpa using q))
def a1g(wi:TI)(g:TG)(tb:TS):TS:=λD σ H=>wi σ H λJff H1=>∃W:Nat->Nat->St->Hp->Prop,(∃m,W 0 m σ H1)/\∀i m σ H,W i m σ H ->
 (Jff.stop i H/\D.nx σ H)\/(Jff.go i H/\∃N:St->Hp->Prop,(∀σ' H',N σ' H'->∃m',m'<m/\W (i+1) m' σ' H')/\∀x H',Jff.Lv i H x H'->g x σ H' λσ2 H2=>tb {D with nx:=N,ct:=N,bk:=D.nx} σ2 H2)
noncomputable def ua(fp:List Addr)(h:Heap):List (Addr×Obj):=fp.filterMap λb=>(h.get? b).map λo=>(b,o)
def mJ(a:e∈N)(h:g.get? e=U b9):(e,b9)∈ua N g:=List.mem_filterMap.mpr ⟨e,a,by rw[h];rfl⟩
def Nh{p:Addr×Obj}(a:p∈ua N g):p.1∈N/\g.get? p.1=U p.2:=by
 obtain⟨b,d,e⟩:=List.mem_filterMap.mp a;cases q:g.get? b with
 |none=>rw[q]at e;exact nE e
 |some o=>
  rw[q]at e;have c:=Y9 e;subst c;exact⟨d,q⟩
def Inv.pinned{s:A6}(I:Inv X c n d s)(h:∀b∈N,mD X c d b)(g:∀b∈N,∃o,s.heap.get? b=U o/\∀v,o.data≠.cell v):Inv X (c++ua N s.heap) n d s:=
 I.kn λp i=>(List.mem_append.mp i).elim (λz=>I.pin p (Q3 _ z)) λz=>by obtain⟨f,e⟩:=Nh z;obtain⟨j,l,k,_⟩:=h p.1 f;obtain⟨o,a,H⟩:=g p.1 f;rw[e]at a;cases a;exact⟨e,j,l,k,H⟩
def Inv.xk{pl:List (Addr×Obj)}{s:A6}(I:Inv X (c++pl) n d s):Inv X c n d s:=I.kn λp b=>I.pin p (Q3 _ (iA _ b))
def a1Q{wi:TI}{g:TG}(hp:zv (model X.prog X.w) X.A X.env X.xe)(hc:X.calm=Uf)(hi:PI X Z L wi)(hg:PG X Z g)(hb:lP X b7 c5)(hs:autoParam (Fsi X L) qL):PS X (.For Z L b7 [] p) (a1g wi g c5):=by
 intro pins s σ H D I h;refine wpAny_For (G5 (hi pins s σ H _ I h) λv s1 h1=>G5 h1 λitv s2 h2=>?_) hs;obtain⟨it,fp,tn,Jff,H2,e,I2,T,st2,f2,W,⟨m0,w0⟩,turn⟩:=h2;subst e;have stat:∀{H':Hp},(∀b∈fp,H' b=J)->∀b∈fp,mD X pins H' b:=λhn b hb=>⟨hn b hb,(f2 b hb).2⟩;refine codeAny_forLoop_any (λn s'=>∃i σ' H',Inv X pins σ' H' s'/\tn i s'.heap/\(∀b∈fp,H' b=J)/\W i n σ' H') ?_ m0 ⟨0,σ,H2,I2,st2,λb hb=>(f2 b hb).1,w0⟩
 rintro n s3 ⟨i,σ3,H3,I3,st3,fr3,w3⟩;rcases turn i n σ3 H3 w3 with ⟨stop,qn⟩|⟨go,N,hN,step⟩
 . refine oU hp (G5 (T.done X rfl rfl rfl hc i pins s3 σ3 H3 X.xe I3 (stat fr3) st3 stop) λr s4 ⟨hr,I4⟩=>?_);subst hr;exact vk ⟨σ3,H3,I4,qn⟩
 . refine oU hp (G5 (T.item X rfl rfl rfl hc i pins s3 σ3 H3 X.xe I3 (stat fr3) st3 go) λr s4 ⟨u,hr,h4⟩=>?_);subst hr;refine oU hp (G5 h4 λ_ s5 ⟨x,H5,I5,r5,y5,st5,fr5⟩=>?_);have I5':=I5.pinned (stat fr5) (T.obj _ _ st5);refine oU hp (G5 (hg _ s5 σ3 H5 x u _ I5' r5 (step x H5 y5)) λ_ s6 ⟨σ6,H6,I6,q6⟩=>?_);refine oU hp (G5 (hb _ s6 σ6 H6 _ I6 q6) λf s7 q7=>?_)
   have again:∀{σ7:St}{H7:Hp},Inv X (pins++ua fp s5.heap) σ7 H7 s7->N σ7 H7->∃m,m<n/\∃i σ' H',Inv X pins σ' H' s7/\tn i s7.heap/\(∀b∈fp,H' b=J)/\W i m σ' H':=λ{σ7 H7} I7 n7=>by
    obtain⟨m',hm,w7⟩:=hN σ7 H7 n7;refine⟨m',hm,i+1,σ7,H7,I7.xk,T.keep _ _ _ st5 λb hb o e=>(I7.pin (b,o) (Q3 _ (Q3 _ (mJ hb e)))).1,λb hb=>?_,w7⟩;obtain⟨o,e,d⟩:=T.obj _ _ st5 b hb;exact(I7.pin (b,o) (Q3 _ (Q3 _ (mJ hb e)))).2.1
   cases f with
   |next=>obtain⟨σ7,H7,I7,n7⟩:=q7;exact again I7 n7
   |cont=>obtain⟨σ7,H7,I7,n7⟩:=q7;exact again I7 n7
   |brk=>obtain⟨σ7,H7,I7,q7⟩:=q7;exact⟨σ7,H7,I7.xk,q7⟩
   |ret v=>obtain⟨x7,σ7,H7,I7,r7,q7⟩:=q7;exact⟨x7,σ7,H7,I7.xk,r7,q7⟩
abbrev R2:=V->V->Hp->VK->Prop
variable{d9:R2}
def Q7(X:Cx)(f:w9->w9->Sem w9)(r:R2):Prop:=
 ∀(pins:List (Addr×Obj)) (s:A6) (σ:St) (H:Hp) (x y:V) (v u:w9) (Q:VK),Inv X pins σ H s->RelV x v->RelV y u->r x y H Q ->
  wpAny (model X.prog X.w) X.A (f v u) (EP X pins σ Q) X.xe s
def XT(X:Cx)(f:w9->Sem w9)(r:V->Hp->VK->Prop):Prop:=
 ∀(pins:List (Addr×Obj)) (s:A6) (σ:St) (H:Hp) (x:V) (v:w9) (Q:VK),Inv X pins σ H s->RelV x v->r x H Q ->
  wpAny (model X.prog X.w) X.A (f v) (EP X pins σ Q) X.xe s
def ag(X:Cx)(f:w9)(r:List V->Hp->VK->Prop):Prop:=
 ∀(pins:List (Addr×Obj)) (s:A6) (σ:St) (H:Hp) (xs:List V) (us:List w9) (Q:VK),Inv X pins σ H s->Vals xs us->r xs H Q ->
  wpAny (model X.prog X.w) X.A (call f us) (EP X pins σ Q) X.xe s
noncomputable def qi(r:R2)(ta tb:TE):TE:=λσ H Q=>ta σ H λx H1=>tb σ H1 λy H2=>r x y H2 Q
noncomputable def tUn(r:V->Hp->VK->Prop)(ta:TE):TE:=λσ H Q=>ta σ H λx H1=>r x H1 Q
noncomputable def rI(C:Int->Int->Prop)(g:Int->Int->V):R2:=λx y H Q=>∃i j,x=.int i/\y=.int j/\C i j/\Q (g i j) H
noncomputable def nN(g:Int->Int->V):R2:=λx y H Q=>∃i j,x=.int i/\y=.int j/\Q (g i j) H
noncomputable def rU(g:Int->V):V->Hp->VK->Prop:=λx H Q=>∃i,x=.int i/\Q (g i) H
def UL(o:PE X Z t)(a:PE X L a9){s:A6}{R:V->V->Hp->Prop}(I:Inv X c n d s)(h:t n d λx b=>a9 n b λy H2=>R x y H2)(k:∀v H s2 x y H2,Inv X c n H2 s2->RelV x v->RelV y H->R x y H2->wpAny (model X.prog X.w) X.A (d8 v H) u X.xe s2):
  wpAny (model X.prog X.w) X.A (eval Z X.env) (λv s₁=>wpAny (model X.prog X.w) X.A (eval L X.env) (λH s₂=>wpAny (model X.prog X.w) X.A (d8 v H) u X.xe s₂) X.xe s₁) X.xe s:=by
 refine G5 (o c s n d _ I h) λv j ⟨x,b,l,i,m⟩=>?_;refine G5 (a c j n b _ l m) λH s2 ⟨y,H2,g,e,q2⟩=>?_;exact k v H s2 x y H2 g i e q2
def a4p{op:Operator}(e:Q7 X (bQ op) d9)(m:PE X Z t)(l:PE X L a9):PE X (.BinOp Z op L p) (qi d9 t a9):=by exact λc s j H Q I h=>wpAny_BinOp (UL m l I h λv u f x y d g k i q=>e c f j d x y v u Q g k i q)
def a4n{op:UnaryOp}{r:V->Hp->VK->Prop}(d:XT X (unaryOp op) r)(k:PE X Z t):PE X (.UnaryOp op Z p) (tUn r t):=by exact λb s c H Q I h=>UnaryOp_ (G5 (k b s c H _ I h) λv f ⟨x,g,i,e,j⟩=>d b f c g x v Q i e j)
def VC{C:Int->Int->Prop}(a:∀(i j:Int) (t u:Tok) (s:A6) (Q:w9->A6->Prop) (E:w9->A6->Prop),C i j->Q (.int (j1 i j) s.toks) {s with toks:=s.toks+1}->wpAny (model X.prog X.w) X.A (d8 (.int i t) (.int j u)) Q E s):
  Q7 X d8 (rI C λi j=>.int (j1 i j)):=by intro b s l H x y v u Q I e c h;obtain⟨i,j,rfl,rfl,k,q⟩:=h;obtain⟨t,rfl⟩:=e;obtain⟨d,rfl⟩:=c;exact a i j t d s _ _ k ⟨.int (j1 i j),H,I.tok _,⟨_,rfl⟩,q⟩
def a2n(a:∀(i j:Int) (t u:Tok) (s:A6) (Q:w9->A6->Prop) (E:w9->A6->Prop),Q (.int (j1 i j) s.toks) {s with toks:=s.toks+1}->wpAny (model X.prog X.w) X.A (d8 (.int i t) (.int j u)) Q E s):
  Q7 X d8 (nN λi j=>.int (j1 i j)):=by intro b s k H x y v u Q I e c h;obtain⟨i,j,rfl,rfl,q⟩:=h;obtain⟨t,rfl⟩:=e;obtain⟨d,rfl⟩:=c;exact a i j t d s _ _ ⟨.int (j1 i j),H,I.tok _,⟨_,rfl⟩,q⟩
def Kt{g:Int->Int->Bool}(a:∀(i j:Int) (t u:Tok) (s:A6) (Q:w9->A6->Prop) (E:w9->A6->Prop),Q (.bool (g i j)) s->wpAny (model X.prog X.w) X.A (d8 (.int i t) (.int j u)) Q E s):
  Q7 X d8 (nN λi j=>.bl (g i j)):=by intro b s k H x y v u Q I e c h;obtain⟨i,j,rfl,rfl,q⟩:=h;obtain⟨t,rfl⟩:=e;obtain⟨d,rfl⟩:=c;exact a i j t d s _ _ ⟨.bl (g i j),H,I,rfl,q⟩
noncomputable def xV(i j:Int):Prop:=0<=j/\j<=1000000/\i.natAbs<2^64
def a2m:Q7 X (bQ .Add) (nN λi j=>.int (i+j)):=a2n λ_ _ _ _ _ _ _ q=>add_int q
def a2h:Q7 X (bQ .Sub) (nN λi j=>.int (i-j)):=a2n λ_ _ _ _ _ _ _ q=>sub_int q
def Zu:Q7 X (bQ .Mod) (rI (λ_ j=>j≠0) λi j=>.int (i.fmod j)):=VC λ_ _ _ _ _ _ _ a q=>mod_int' a q
def a2i:Q7 X (bQ .Pow) (rI xV λi j=>.int (i^j.toNat)):=VC λ_ _ _ _ _ _ _ a q=>pow_int_small a.1 a.2.1 a.2.2 q
def unI{f:w9->Sem w9}{g:Int->Int}(a:∀(i:Int) (t:Tok) (s:A6) (Q:w9->A6->Prop) (E:w9->A6->Prop),Q (.int (g i) s.toks) {s with toks:=s.toks+1}->wpAny (model X.prog X.w) X.A (f (.int i t)) Q E s):
  XT X f (rU λi=>.int (g i)):=by intro b s d H x v Q I c h;obtain⟨i,rfl,q⟩:=h;obtain⟨t,rfl⟩:=c;exact a i t s _ _ ⟨.int (g i),H,I.tok _,⟨_,rfl⟩,q⟩
def a0U:XT X (unaryOp .USub) (rU λi=>.int (-i)):=unI λ_ _ _ _ _ q=>neg_int q
noncomputable def a1s:V->V->Bool
 | .non,.non=>Uf | .non,.int _=>Uf | .int _,.non=>Uf | .non,.bl _=>Uf | .bl _,.non=>Uf | .non,.str _=>Uf | .str _,.non=>Uf
 | .int _,.int _=>Uf | .bl _,.bl _=>Uf | .str _,.str _=>Uf | .byt _,.byt _=>Uf
 | .int _,.str _=>Uf | .str _,.int _=>Uf | .bl _,.str _=>Uf | .str _,.bl _=>Uf
 |_,_=>U'
def rEq:R2:=λx y H Q=>a1s x y=Uf/\Q (.bl (decide (x=y))) H
def rNe:R2:=λx y H Q=>a1s x y=Uf/\Q (.bl (!decide (x=y))) H
def Jr{i j:Int}:decide (V.int i=V.int j)=(i==j):=by rw[vj];simp
def OL{j:Bool}:decide (V.bl R=V.bl j)=(R==j):=by rw[vj];simp
def Jq{j:Str}:decide (V.str m=V.str j)=(m==j):=by rw[vj];simp
def Js{i j:Array UInt8}:decide (V.byt i=V.byt j)=(i.toList==j.toList):=by rw[vj];cases i;cases j;simp
def K9{s:A6}{k':Bool}(I:Inv X c n d s)(q:e9 (.bl R) d)(e:R=k'):EP X c n e9 (.bool k') s:=by subst e;exact⟨.bl R,d,I,rfl,q⟩
def a4s:Q7 X (P6 .Eq) rEq:=by
 intro e s f H x y v u Q I d a h;obtain⟨c,q⟩:=h;cases x with
 |non=>
  cases d;cases y with
  |non=>cases a;exact PySem.EqNone.eq_none_none (K9 I q rfl)
  |bl j=>cases a;exact PySem.EqNone.eq_none_bool (K9 I q rfl)
  |int j=>obtain⟨b,rfl⟩:=a;exact PySem.EqNone.eq_none_int (K9 I q rfl)
  |str j=>obtain⟨b,rfl⟩:=a;exact PySem.EqNone.eq_none_str (K9 I q rfl)
  |_=>exact absurd (show U'=Uf from c) bg
 |bl i=>
  cases d;cases y with
  |non=>cases a;exact PySem.EqNone.eq_bool_none (K9 I q rfl)
  |bl j=>cases a;exact eq_bool (K9 I q OL)
  |str j=>obtain⟨b,rfl⟩:=a;exact PySem.EqMixed.eq_bool_str (K9 I q rfl)
  |_=>exact absurd (show U'=Uf from c) bg
 |int i=>
  obtain⟨t,rfl⟩:=d;cases y with
  |non=>cases a;exact PySem.EqNone.eq_int_none (K9 I q rfl)
  |int j=>obtain⟨b,rfl⟩:=a;exact eq_int (K9 I q Jr)
  |str j=>obtain⟨b,rfl⟩:=a;exact PySem.EqMixed.eq_int_str (K9 I q rfl)
  |_=>exact absurd (show U'=Uf from c) bg
 |str i=>
  obtain⟨t,rfl⟩:=d;cases y with
  |non=>cases a;exact PySem.EqNone.eq_str_none (K9 I q rfl)
  |bl j=>cases a;exact PySem.EqMixed.eq_str_bool (K9 I q rfl)
  |int j=>obtain⟨b,rfl⟩:=a;exact PySem.EqMixed.eq_str_int (K9 I q rfl)
  |str j=>obtain⟨b,rfl⟩:=a;exact eq_str (K9 I q Jq)
  |_=>exact absurd (show U'=Uf from c) bg
 |byt i=>
  obtain⟨t,rfl⟩:=d;cases y with
  |byt j=>obtain⟨b,rfl⟩:=a;exact PySem.W.eq_bytes (K9 I q Js)
  |_=>exact absurd (show U'=Uf from c) bg
 |_=>cases y<;>exact absurd (show U'=Uf from c) bg
def a4r:Q7 X (P6 .NotEq) rNe:=by
 intro e s f H x y v u Q I d a h;obtain⟨c,q⟩:=h;cases x with
 |non=>
  cases d;cases y with
  |non=>cases a;exact PySem.EqNone.ne_none_none (K9 I q rfl)
  |bl j=>cases a;exact PySem.EqNone.ne_none_bool (K9 I q rfl)
  |int j=>obtain⟨b,rfl⟩:=a;exact PySem.EqNone.ne_none_int (K9 I q rfl)
  |str j=>obtain⟨b,rfl⟩:=a;exact PySem.EqNone.ne_none_str (K9 I q rfl)
  |_=>exact absurd (show U'=Uf from c) bg
 |bl i=>
  cases d;cases y with
  |non=>cases a;exact PySem.EqNone.ne_bool_none (K9 I q rfl)
  |bl j=>cases a;exact ne_bool (K9 I q (H0 not OL))
  |str j=>obtain⟨b,rfl⟩:=a;exact PySem.EqMixed.ne_bool_str (K9 I q rfl)
  |_=>exact absurd (show U'=Uf from c) bg
 |int i=>
  obtain⟨t,rfl⟩:=d;cases y with
  |non=>cases a;exact PySem.EqNone.ne_int_none (K9 I q rfl)
  |int j=>obtain⟨b,rfl⟩:=a;exact ne_int (K9 I q (H0 not Jr))
  |str j=>obtain⟨b,rfl⟩:=a;exact PySem.EqMixed.ne_int_str (K9 I q rfl)
  |_=>exact absurd (show U'=Uf from c) bg
 |str i=>
  obtain⟨t,rfl⟩:=d;cases y with
  |non=>cases a;exact PySem.EqNone.ne_str_none (K9 I q rfl)
  |bl j=>cases a;exact PySem.EqMixed.ne_str_bool (K9 I q rfl)
  |int j=>obtain⟨b,rfl⟩:=a;exact PySem.EqMixed.ne_str_int (K9 I q rfl)
  |str j=>obtain⟨b,rfl⟩:=a;exact ne_str (K9 I q (H0 not Jq))
  |_=>exact absurd (show U'=Uf from c) bg
 |byt i=>
  obtain⟨t,rfl⟩:=d;cases y with
  |byt j=>obtain⟨b,rfl⟩:=a;exact PySem.W.ne_bytes (K9 I q (H0 not Js))
  |_=>exact absurd (show U'=Uf from c) bg
 |_=>cases y<;>exact absurd (show U'=Uf from c) bg
def Ko:Q7 X (P6 .Lt) (nN λi j=>.bl (decide (i<j))):=Kt λ_ _ _ _ _ _ _ q=>lt_int q
def Kq:Q7 X (P6 .LtE) (nN λi j=>.bl (decide (i<=j))):=Kt λ_ _ _ _ _ _ _ q=>le_int q
def VA:Q7 X (P6 .Gt) (nN λi j=>.bl (decide (j<i))):=Kt λ_ _ _ _ _ _ _ q=>gt_int q
def VB:Q7 X (P6 .GtE) (nN λi j=>.bl (decide (j<=i))):=Kt λ_ _ _ _ _ _ _ q=>ge_int q
def Nb:Q7 X (P6 .In) (λx y H Q=>∃i j,x=.str i/\y=.str j/\Q (.bl (!(sU j i 0 j.length 1).isEmpty)) H):=by intro a s d H x y v u Q I c b h;obtain⟨i,j,rfl,rfl,q⟩:=h;obtain⟨t,rfl⟩:=c;obtain⟨e,rfl⟩:=b;exact in_str (K9 I q rfl)
def Na:Q7 X (P6 .Is) (λx y H Q=>y=.non/\Q (.bl (decide (x=.non))) H):=by
 intro b s d H x y v u Q I a c h;obtain⟨rfl,q⟩:=h;cases c;refine is_none_gen (K9 I q ?_);cases x<;>first
  |(cases a;rfl)
  |(obtain⟨t,rfl⟩:=a;rfl)
def IG:Q7 X (P6 .IsNot) (λx y H Q=>y=.non/\Q (.bl (!decide (x=.non))) H):=by
 intro b s d H x y v u Q I a c h;obtain⟨rfl,q⟩:=h;cases c;refine isnot_none_gen (K9 I q ?_);cases x<;>first
  |(cases a;rfl)
  |(obtain⟨t,rfl⟩:=a;rfl)
def Q7.or{b:R2}(h:Q7 X d8 d9)(h':Q7 X d8 b):Q7 X d8 (λx y H Q=>d9 x y H Q\/b x y H Q):=by
 intro a s d H x y v u Q I e c q;rcases q with q|q
 exact h a s d H x y v u Q I e c q;exact h' a s d H x y v u Q I e c q
def Y3(b:Expr)(h:autoParam (g6≠.In) cK)(a:autoParam (g6≠.NotIn) cK):oP g6 b=U':=by
 have d:(g6==CmpOp.In)=U':=by cases g6<;>first|rfl|exact absurd rfl h
 have c:(g6==CmpOp.NotIn)=U':=by cases g6<;>first|rfl|exact absurd rfl a
 cases b<;>simp[oP,d,c]
def IE(f:Q7 X (P6 g6) d9)(n:PE X Z t)(m:PE X L a9)(d:oP g6 L=U'):PE X (.Compare Z [g6] [L] p) (qi d9 t a9):=by exact λc s k H Q I h=>wpAny_Compare1 (UL n m I h λv u g x y e i l j q=>f c g k e x y v u Q i l j q) d
noncomputable def Vk(t:TE):TT:=λσ H Q=>t σ H λx H'=>∃k,x=.bl k/\Q k H'
def YR(g:Q7 X (P6 g6) d9)(E:PE X Z t)(D:PE X L a9)(o:oP g6 L=U'):PT X (.Compare Z [g6] [L] p) (Vk (qi d9 t a9)):=by
 intro d s f H Q I h;refine wpAny_isTrue_Compare1 (G5 (E d s f H _ I h) λv l ⟨x,B,m,a,C⟩=>G5 (D d l f B _ m C) λu q ⟨y,b,j,n,q2⟩=>
  G5 (g d q f b x y v u _ j a n q2) λc G ⟨z,w,F,A,k,e,i⟩=>?_) o
 subst e;cases A;exact oY ⟨w,F,i⟩
noncomputable def yf(r r':R2)(ta tb tc:TE):TE:=λσ H Q=>ta σ H λx H1=>tb σ H1 λy H2=>r x y H2 λz H3=>∃k,z=.bl k /\
 (if k=Uf then tc σ H3 λw' H4=>r' y w' H4 Q else Q (.bl U') H3)
def DT{c:Expr}{tc:TE}{g:CmpOp}{n:R2}(b:Q7 X (P6 g6) d9)(j:Q7 X (P6 g) n)(Y:PE X Z t)(W:PE X L a9)(V:PE X c tc)(E:lastMarks [g6,g] [L,c]=U':=by with_unfolding_all rfl):PE X (.Compare Z [g6,g] [L,c] p) (yf d9 n t a9 tc):=by
 intro f s i H Q I h;refine Compare_chain (G5 (Y f s i H _ I h) λv B ⟨x,S,C,N,T⟩=>chain_link (G5 (W f B i S _ C T) λu M ⟨y,F,w,m,q2⟩=>
  G5 (b f M i F x y v u _ w N m q2) λd q ⟨z,o,r,P,k,e,l⟩=>?_)) E
 subst e;cases P;refine oY ?_;cases k with
 |false=>exact ite_ff ⟨.bl U',o,r,rfl,l⟩
 |true=>exact ite_tt (chain_last (G5 (V f q i o _ r l) λA R ⟨K,D,G,O,a⟩=>j f R i D y K u A Q G m O a))
def qv:(D6:Nat)<2^63:=by rw[fw];decide
def Kr:Q7 X (bQ .Add) (λx y H Q=>∃i j,x=.str i/\y=.str j/\i.length+j.length<=D6/\Q (.str (i++j)) H):=by intro a s g H x y v u Q I e c h;obtain⟨i,j,rfl,rfl,b,q⟩:=h;obtain⟨t,rfl⟩:=e;obtain⟨d,rfl⟩:=c;exact add_str (λd f=>⟨.str (i++j),H,I.tok _,⟨_,rfl⟩,q⟩) b
def vals1(r:Vals [M] G):∃u,G=[u]/\RelV M u:=by
 cases r with
 |cons b a=>cases a;exact⟨_,rfl,b⟩
def vals2{y:V}(r:Vals [M,y] G):∃u w',G=[u,w']/\RelV M u/\RelV y w':=by
 cases r with
 |cons c a=>
  cases a with
  |cons b d=>cases d;exact⟨_,_,rfl,c,b⟩
def UJ:ag X (.builtin "abs") (λxs H Q=>∃i,xs=[.int i]/\Q (.int (if i<0 then -i else i)) H):=by intro a s c H xs d Q I r h;obtain⟨i,rfl,q⟩:=h;obtain⟨u,rfl,t,rfl⟩:=vals1 r;exact call_abs_int λu b=>⟨.int (if i<0 then -i else i),H,I.tok _,⟨_,rfl⟩,q⟩
def OU:ag X (.type "int") (λxs H Q=>(∃i,xs=[.int i]/\Q (.int i) H)\/∃k,xs=[.bl k]/\Q (.int (if k then 1 else 0)) H):=by
 intro a s c H xs d Q I r h;rcases h with ⟨i,rfl,q⟩|⟨k,rfl,q⟩
 obtain⟨u,rfl,t,rfl⟩:=vals1 r;exact call_int_int ⟨.int i,H,I,⟨_,rfl⟩,q⟩;obtain⟨u,rfl,b⟩:=vals1 r;cases b;exact call_int_bool ⟨.int (if k then 1 else 0),H,I.tok _,⟨_,rfl⟩,q⟩
def uG:ag X (.type "str") (λxs H Q=>∃i,xs=[.int i]/\i.natAbs.log2<1920/\Q (.str (aO i)) H):=by intro a s c H xs d Q I r h;obtain⟨i,rfl,b,q⟩:=h;obtain⟨u,rfl,t,rfl⟩:=vals1 r;exact PySem.P.str_of_int b ⟨.str _,H,I.tok _,⟨_,rfl⟩,q⟩
structure xT(h:Heap)(x dx C:Addr)(mA:Str->Option w9):Prop where
 obj:h.get? x=U (ma C dx)
 ns:h.Ns1 dx mA
 ne:dx≠x
set_option tactic.hygienic true in
def NH(n:g.Ns1 e b6):∃od,g.get? e=U od/\∀name,Aa name od=U (b6 name):=by
 obtain⟨o,c,p,j,h,m,_,i⟩:=n;refine⟨o,j,λname=>?_⟩;have f:=i name;unfold nsFind findBy at f;rw[<-Array.find?_toList]at f;delta Aa;rw[h];dsimp only;split;rename_i y q;rw[q]at f;exact H0 U f
 . rename_i q;rw[q]at f;have a:c.toList.any (·.refKey)=U':=by rw[GU];intro y k;obtain⟨z,t,b⟩:=m y (Array.mem_toList_iff.mp k);simp[DictEntry.refKey,b]
   have l:¬c.toList.any (·.refKey)=Uf:=by rw[a];exact bg
   rw[A4 l];exact H0 U f
def xT.look{C:Addr}(I:xT g e y C b6):∃od,zZ g e (ma C y) C (U od)/\∀name,Aa name od=U (b6 name):=
 let ⟨od,c,d⟩:=NH I.ns
 ⟨od,⟨I.obj,rfl,rfl,c⟩,d⟩
section
variable{K:B1}
def get_map{C:Addr}{Q:w9->A6->Prop}(X:K.In a.heap)(I:xT a.heap e y C b6)(d:vn K C m=Uf)(c:vp K C=Uf)(g:cO K (.ref C) m=U J)(f:b6 m=U D)(b:Pw D=Uf)(h:Q D {a with toks:=a.toks+1}):
  wpAny (model o q) A (getAttr (.ref e) m R) Q u a:=by obtain⟨i,Jff,w⟩:=I.look;exact PySem.W.get_value X Jff (GZ d).1 (PySem.W.findObj_own c g rfl (by rw[w,f])) b h
def Ug{C f:Addr}(X:K.In a.heap)(I:xT a.heap e y C b6)(w:vn K C m=Uf)(d:cO K (.ref C) m=U (U (.ref f)))(b:ve K (.ref f)=Uf)(c:b6 m=J)(h:j3 (.ref f,[.ref e]) a):
  wpAny (model o q) A (getMethod (.ref e) m i7) j3 u a:=by obtain⟨E,Jff,g⟩:=I.look;exact PySem.W.method_fn X Jff (GZ w).1 (GZ w).2 d (beq_iff_eq.mp b) (by show(Aa m E).map (·.isSome)=U U';rw[g,c];rfl) h
def Yz{C:Addr}(X:K.In a.heap)(I:xT a.heap e y C b6)(hs:cO K (.ref C) "__setattr__" = U (U (.builtin "object.__setattr__")))(p:GS K C=Uf)(j:GG K C m=U J)(w:vp K C=Uf)(l:Gk b6 S)(hsz:S.length<=D6)(h:∀h',xT h' e y C (λv=>if v=m then U D else b6 v)->oO y a.heap h'->d6 () {a with heap:=h',toks:=a.toks+2}):
  wpAny (model o q) A (setAttr (.ref e) m D) d6 u a:=by
 obtain⟨t,Jff,s⟩:=I.look;refine PySem.W.set_plain X Jff hs (PySem.W.osa_open X Jff p j λb=>?_);obtain⟨B,E,x⟩:=Am w;refine B4 (E6 (B4 (B4 (wpAny_loadPart I.obj (B4 (PySem.W.Looks.here (PySem.W.looks_clsIn X E) ?_))))));rw[x];refine E6 (B4 (E6 (B4 ?_)));refine wpAny_nsSet1 I.ns λh' d c=>?_;obtain⟨z,n,k,g,i,f⟩:=d.count (PySem.Within.cons m D l);refine B4 (wpAny_lookBehind g (by rw[i];exact pastItsLine_dict (C3 f (by rw[J4];simp[*]))) ?_);exact E6 (h _ ⟨(c.2 _ (lS I.ne)).trans I.obj,d,I.ne⟩ c)
def Tt{R:Result->A6->Prop} (X:K.In a.heap) (c:GF K e=Uf) (s:cO K (.ref e) "__init__" = U (U (.ref y))) (i:PySem.W.typeIn K (.ref y)=U (.type "function")) (h:codeAny (model o q) (A.under (.builtin "type.__call__" ⟨.ref e::G,i8⟩)) (.call (.ref y) ⟨.ref ((hz a) + 1)::G,i8⟩) (PySem.W.InitBack ((hz a) + 1) R)
   {a with heap:=(a.heap.push md).push (ma e (hz a))}) :
  codeAny (model o q) A (.call (.ref e) ⟨G,i8⟩) R a:=by obtain⟨j,g,d,t,k⟩:=a;exact PySem.W.make_core (PySem.W.makes_of X c) (Hf X s) (λw=>PySem.W.bind_fn X w i) (.inl rfl) h
end
noncomputable def cW(f:Str)(v:V):List (Str×V)->List (Str×V)
 | []=>[(f,v)]
 |(g,x)::r=>if g=f then(g,v)::r else(g,x)::cW f v r
theorem wJ(f g:Str)(v:V):∀fs:List (Str×V),(cW f v fs).lookup g=if g=f then U v else fs.lookup g
 | []=>by
  show gk g [(f,v)]=_;by_cases h:g=f;have a:=beq_iff_eq.mpr h;simp only[gk,a,A3 h];have a:=beq_eq_false_iff_ne.mpr h;simp only[gk,a,A4 h]
 |(k,x)::r=>by
  rw[show cW f v ((k,x)::r)=(if k=f then(k,v)::r else(k,x)::cW f v r)from rfl];by_cases b:k=f
  . rw[A3 b];by_cases h:g=k;have a:=beq_iff_eq.mpr h;simp only[gk,a,A3 (h.trans b)];have a:=beq_eq_false_iff_ne.mpr h;simp only[gk,a,A4 (λe:g=f=>h (e.trans b.symm))]
  . rw[A4 b];by_cases h:g=k;have a:=beq_iff_eq.mpr h;simp only[gk,a,A4 (λe:g=f=>b (h.symm.trans e))];have a:=beq_eq_false_iff_ne.mpr h;simp only[gk,a];exact(wJ f g v r)
theorem uu(f:Str)(v:V):∀fs:List (Str×V),f∈(cW f v fs).map (·.1)/\∀g,g∈fs.map (·.1)->g∈(cW f v fs).map (·.1)
 | []=>⟨by simp[cW],λg h=>by simp at h⟩
 |(k,x)::r=>by
  obtain⟨b,c⟩:=uu f v r;rw[show cW f v ((k,x)::r)=(if k=f then(k,v)::r else(k,x)::cW f v r)from rfl];by_cases a:k=f;rw[A3 a];subst a;exact⟨K0,λg h=>by simpa using h⟩
  . rw[A4 a];refine⟨?_,λg h=>?_⟩;rw[D8];exact F8 _ b
    . rw[D8]at h⊢;rcases List.mem_cons.mp h with e|e
      exact List.mem_cons.mpr (.inl e);exact F8 _ (c g e)
theorem wL(f:Str)(v:V):∀fs:List (Str×V),(cW f v fs).length<=fs.length+1
 | []=>by simp[cW]
 |(k,x)::r=>by
  have:=wL f v r;rw[show cW f v ((k,x)::r)=(if k=f then(k,v)::r else(k,x)::cW f v r)from rfl];by_cases a:k=f;rw[A3 a,J4,J4];simp[*];rw[A4 a,J4,J4];simp[*]
def gg.some_of(r:gg (U M) j4):∃u,j4=U u/\RelV M u:=by
 cases j4 with
 |none=>exact(show False from r).elim
 |some u=>exact⟨u,rfl,r⟩
def gg.none_of(r:gg J j4):j4=J:=by
 cases j4 with
 |none=>rfl
 |some u=>exact(show False from r).elim
def Ov(r:RelV M D):Pw D=Uf:=by
 cases M with
 |non=>cases(show D=FZ from r);rfl
 |bl b=>cases(show D=zB b from r);rfl
 |int i=>obtain⟨t,e⟩:=(show ∃t,D=uX i t from r);cases e;rfl
 |str x=>obtain⟨t,e⟩:=(show ∃t,D=qV x t from r);cases e;rfl
 |byt b=>obtain⟨t,e⟩:=(show ∃t,D=Value.bytes b t from r);cases e;rfl
 |flt b=>obtain⟨t,e⟩:=(show ∃t,D=Value.float b t from r);cases e;rfl
 |ref a=>cases(show D=fu a from r);rfl
 |ty n=>cases(show D=FY n from r);rfl
section
variable{H:Hp}{h:Heap}
def Bh{dx:Addr}(c:bR o q H h)(w:H e=U (.ins y dx g8)):∃b,xT h e dx y b/\(∀f,gg (g8.lookup f) (b f))/\Gk b (g8.map (·.1))/\g8.length<=1000/\H dx=U (.own e):=by
 obtain⟨d,z,ne,g,b,n,r,P⟩:=(show Y8 o q H h e (.ins y dx g8)from c e _ w);exact⟨b,⟨g,n,ne⟩,r,P,z,d⟩
end
structure AK(K:B1)(C:Addr):Prop where
 pg:vn K C X2=Uf
 hd:vp K C=Uf
 po:GS K C=Uf
 sa:cO K (.ref C) "__setattr__" = U (U (.builtin "object.__setattr__"))
def AK.get(c:AK O e)(f:Str):vn O e f=Uf:=c.pg
noncomputable def gh(K:B1)(C:Addr)(f:Str):Prop:=cO K (.ref C) f=U J
def gh.a3Z(n:gh O e m):GG O e m=U J:=by
 delta GG;rw[show cO O (.ref e) m=U J from n];rfl
structure Meth(K:B1)(C:Addr)(m:Str)(f:Addr):Prop where
 at_:cO K (.ref C) m=U (U (.ref f))
 fn:ve K (.ref f)=Uf
 kp:jz K (.ref f)=Uf
section
variable{H:Hp}
def KY{dx:Addr}{Q:w9->A6->Prop}(I:Inv X c n H a)(C:H e=U (.ins y dx g8))(σ:AK X.K y)(s:gh X.K y m)(l:g8.lookup m=U M)(h:∀f s',Inv X c n H s'->RelV M f->Q f s'):wpAny (model X.prog X.w) A (getAttr (.ref e) m R) Q u a:=by
 obtain⟨i,O,r,_,_,_⟩:=Bh I.G8 C;obtain⟨f,g,d⟩:=gg.some_of (by rw[<-l];exact r m);exact get_map I.hI O (σ.get m) σ.hd s g (Ov d) (h f _ (I.tok _) d)
def KW{dx:Addr}{g:Addr}(I:Inv X c n H a)(s:H e=U (.ins y dx g8))(σ:AK X.K y)(k:Meth X.K y m g)(l:g8.lookup m=J)(h:j3 (.ref g,[.ref e]) a):wpAny (model X.prog X.w) A (getMethod (.ref e) m i7) j3 u a:=by
 obtain⟨mA,O,r,_,_,_⟩:=Bh I.G8 s;have hn:mA m=J:=gg.none_of (by rw[<-l];exact r m);exact Ug I.hI O (σ.get m) k.at_ k.fn hn h
def JY{dx:Addr}(I:Inv X c n H a)(C:H e=U (.ins y dx g8))(σ:AK X.K y)(s:gh X.K y m)(G:g8.length<1000)(t:RelV M D)(h:∀s',Inv X c n (upd H e (.ins y dx (cW m M g8))) s'->d6 () s'):wpAny (model X.prog X.w) A (setAttr (.ref e) m D) d6 u a:=by
 obtain⟨i,O,r,k,_,j⟩:=Bh I.G8 C;have p:(g8.map (·.1)).length<=D6:=by rw[C8,fw];exact nAl
 refine Yz I.hI O σ.sa σ.po s.a3Z σ.hd k p λf d B=>h _ ?_
 have l:∃o,f.get? dx=U o:=let ⟨o,_,_,E,_⟩:=d.ns;⟨o,E⟩;refine I.write (by rw[C];exact gj) (.inr j) (λb q F z=>(B.2 b F).trans z) l ?_
 refine⟨by rw[K1 O.ne];exact j,?_,O.ne,d.obj,_,d.ns,λg=>?_,λg v=>?_⟩;have:=wL m M g8;exact C3 A2 A2
 . show gg ((cW m M g8).lookup g) (if g=m then U D else i g);rw[wJ];by_cases q:g=m;rw[A3 q,A3 q];exact t;rw[A4 q,A4 q];exact r g
 . by_cases q:g=m;rw[q];exact(uu m M g8).1
   . refine(uu m M g8).2 g (k g λz=>v ?_);show(if g=m then U D else i g)=J;rw[A4 q];exact z
def Inv.made{C:Addr}(I:Inv X c n H a):Inv X c n (upd (upd H (hz a) (.own ((hz a)+1))) ((hz a)+1) (.ins C (hz a) []))
  {a with heap:=(a.heap.push md).push (ma C (hz a))}:=by
 have s:(a.heap.push md).get? (hz a)=U md:=W3 a.heap rfl;have g:((a.heap.push md).push (ma C (hz a))).get? ((hz a)+1)=U (ma C (hz a)):=by
  have:=W3 (a.heap.push md) (o:=ma C (hz a)) rfl
  rwa [gq]at this
 have σ:(a.heap.push md).Ns (hz a) (λ_=>J):=⟨md,#[],_,s,rfl,(λe f=>absurd f (λh=>nomatch h)),λ_=>rfl⟩;have d:=I.laid (o:=.own ((hz a)+1)) (t':=a.toks) (λb u q=>I0 _ q) O8 ⟨_,s⟩;refine d.laid (λb u q=>I0 _ q) (Nat.le_of_eq (gq _ _)) ?_;have ne:(hz a)≠(hz a)+1:=X3 (Ak _);refine⟨by rw[K1 ne,Q0],jx _,ne,g,λ_=>J,(Heap.Ns1.of_empty σ).at λo q=>I0 _ q,λ_=>gj,λy h=>absurd rfl h⟩
def a0z{env:Env}{Q:w9->A6->Prop}(w:zT Z m env (eval Z env)=eval Z env)(h:wpAny (model o q) A (eval Z env) (λE s₁=>wpAny (model o q) A (getAttr E m Uf) Q u s₁) u a):wpAny (model o q) A (eval (.Attribute Z m p) env) Q u a:=
 Attribute_any_ h (by rw[arm_eval_Attribute,w])
end
def Ru(K:B1)(ta:TE)(f:Str):TE:=λσ H Q=>ta σ H λx H1=>∃a C dx fs v,x=.ref a/\H1 a=U (.ins C dx fs)/\AK K C/\gh K C f/\fs.lookup f=U v/\Q v H1
def a1u(K:B1)(ta tv:TE)(f:Str):TS:=λD σ H=>tv σ H λy H1=>ta σ H1 λx H2=>∃a C dx fs,x=.ref a/\H2 a=U (.ins C dx fs)/\AK K C/\gh K C f/\fs.length<1000 /\
 D.nx σ (upd H2 a (.ins C dx (cW f y fs)))
def MT(g:PE X Z t)(r:HC X Z m):PE X (.Attribute Z m p) (Ru X.K t m):=by
 intro b s j H Q I h;refine a0z r (G5 (g b s j H _ I h) λu y ⟨x,e,o,k,a,C,z,fs,v,B,d,c,n,l,q⟩=>?_);subst B;obtain rfl:=k;exact KY o d c n l λA w i f=>⟨v,e,i,f,q⟩
def a1R{pos':Pos}(w:PE X Z t)(r:PE X L a9)(hs:bc L (U (.Attribute Z m pos')) p.line X.env=pure U'):PS X (.Assign [.Attribute Z m pos'] L p) (a1u X.K t a9 m):=by
 intro b s d H D I h;refine plainObj_wpAny_Assign_Attribute (G5 (r b s d H _ I h) λu j ⟨y,v,o,G,q⟩=>G5 (w b j d v _ o q) λk E ⟨x,B,g,i,a,C,F,fs,f,e,c,n,l,q2⟩=>?_) hs;subst f;obtain rfl:=i;exact JY g e c n l G λA z=>⟨d,_,z,q2⟩
section
variable{H:Hp}
end
structure cL(c:Bool)(k:Nat)(A:T8):Prop where
 hd:c=Uf->A.handled=J
 dp:A.depth+3*k+5<recursionLimit
 un:A.units+16*k+200<U5
noncomputable abbrev eS:=cL Uf
def cL.mono{j:Nat}(r:cL R k A)(h:j<=k):cL R j A:=⟨r.hd,by have:=r.dp;lia,by have:=r.un;lia⟩
theorem cL.deeper(r:cL R (k+1) A)(env:Env):cL R k (A.deeper env):=
 ⟨r.hd,by have:=r.dp;show A.depth+1+3*k+5<_;lia,by have:=r.un;show A.units+3+16*k+200<_;lia⟩
def KC:(A.under (.builtin "type.__call__" ⟨.ref e::G,i8⟩)).depth=A.depth+1:=by first|rfl|simp[Gj]
def KA:(A.under (.builtin "type.__call__" ⟨.ref e::G,i8⟩)).units=A.units+1:=by first|rfl|simp[Gj]
def cL.make(r:cL R (k+1) A)(C:Addr)(us:List w9)(a:List (Str×w9)):cL R k (A.under (.builtin "type.__call__" ⟨.ref C::us,a⟩)):=
 ⟨r.hd,by have:=r.dp;rw[KC];lia,by have:=r.un;rw[KA];lia⟩
theorem cL.depth(r:cL R k A):A.depth<recursionLimit:=by have:=r.dp;lia
theorem cL.units(r:cL R k A):A.units+64<U5:=by have:=r.un;lia
noncomputable def rP:TA:=λ_ H Q=>Q [] H
noncomputable def gw(ta:TE)(tr:TA):TA:=λσ H Q=>ta σ H λx H1=>tr σ H1 λxs H2=>Q (x::xs) H2
def lG:PA X [] rP:=λ_ _ _ _ H Q I h=>Ap ⟨[],H,I,.nil,h⟩
def cx(o:PE X Z t)(f:PA X B b5)(hs:autoParam (gN X Z B) B0):PA X (Z::B) (gw t b5):=by
 intro pos a s b H Q I h;rw[hs];refine vr (G5 (o a s b H _ I h) λu k ⟨x,l,m,i,n⟩=>?_);exact G5 (f pos a k b l _ m n) λq p ⟨j,d,g,c,q2⟩=>⟨x::j,d,g,.cons i c,q2⟩
def a1b(t:TA):TE:=λσ H Q=>t σ H λxs H1=>xs.length<=D6/\∀p,H1 p=J->Q (.ref p) (upd H1 p (.tup xs))
def Rr(t:TA):TE:=λσ H Q=>t σ H λxs H1=>xs.length<=D6/\∀p,H1 p=J->Q (.ref p) (upd H1 p (.lst xs))
def a1Y{x1}(h:PA X B b5):PE X (.Tuple B x1 p) (a1b b5):=by
 intro pins s σ H Q I hq;refine wpAny_Tuple_spliced (G5 (h p pins s σ H _ I hq) λus s1 ⟨xs,H1,I1,r,z,q⟩=>⟨by rw[<-r.length];exact z,?_⟩);have hf:H1 s1.heap.objs.size=J:=I1.G8.fresh O8;refine⟨.ref s1.heap.objs.size,upd H1 s1.heap.objs.size (.tup xs),I1.laid (t':=s1.toks) (λb u e=>I0 _ e) O8 ?_,rfl,q _ hf⟩;exact⟨z,us,r,⟨_,W3 _ rfl,rfl,_,rfl⟩⟩
def MS(h:PA X B b5):PE X (.List B p) (Rr b5):=by
 intro pins s σ H Q I hq;refine wpAny_List_spliced (G5 (h p pins s σ H _ I hq) λus s1 ⟨xs,H1,I1,r,z,q⟩=>⟨by rw[<-r.length];exact z,?_⟩);have hf:H1 s1.heap.objs.size=J:=I1.G8.fresh O8;refine⟨.ref s1.heap.objs.size,upd H1 s1.heap.objs.size (.lst xs),I1.laid (t':=s1.toks) (λb u e=>I0 _ e) O8 ?_,rfl,q _ hf⟩;exact⟨z,us,0,r,W3 _ rfl⟩
abbrev Sp:=List V->Hp->VK->XK->Prop
variable{c8:Sp}
abbrev rH:=List Env->Hp->A6->XK->w9->A6->Prop
variable{b8:rH}
structure xU(P:V1)(w:M5)(K:B1)(mg:Str->Option w9)(base:Heap)(A:T8)(outer:List Env)(s:A6)(H:Hp):Prop where
 frames:A.frames=U outer
 mod:Mod K mg base
 bs:∀b o,base.get? b=U o->s.heap.get? b=U o/\H b=J
 tH:base.objs.size<=s.heap.objs.size
 kz:s.heap.FunFrames base outer
 Ci:∀b∈tE outer,H b=J
 G8:bR P w H s.heap
 bare:jv s.gens
def CE(outer:List Env)(P:V1)(w:M5)(H:Hp)(s:A6)(Q:VK)(u:w9)(s':A6):Prop:=
 ∃v H',s'.os=s.os/\jv s'.gens/\Un (tE outer) [] H H' s.heap s'.heap/\bR P w H' s'.heap/\RelV v u/\Q v H'
def CR(CX:rH)(outer:List Env)(P:V1)(w:M5)(H:Hp)(s:A6)(Q:VK)(E:XK)(r:Result)(s':A6):Prop:=
 match r with
 | .ok (.ret u)=>CE outer P w H s Q u s'
 | .ok _=>False
 | .error e=>CX outer H s E e s'
structure Ls(c:Bool)(P:V1)(w:M5)(K:B1)(mg:Str->Option w9)(base:Heap)(CX:rH)(k:Nat)(f:Addr)(fd:V2)(ps:List Str)(sp:Sp):Prop where
 len:∀vs H Q E,sp vs H Q E->vs.length=ps.length
 run:∀(A:T8) (outer:List Env) (s:A6) (H:Hp) (args:Args) (us:List w9) (vs:List V) (Q:VK) (E:XK),cL c k A->xU P w K mg base A outer s H->oG s fd args (ps.zip us)->Vals vs us->sp vs H Q E ->
  codeAny (model P w) A (.call (.ref f) args) (CR CX outer P w H s Q E) s
noncomputable abbrev gU:=Ls Uf
def xU.make(e:xU o q O b6 g A j5 a d)(C:Addr)(us:List w9)(P:List (Str×w9)):
  xU o q O b6 g (A.under (.builtin "type.__call__" ⟨.ref C::us,P⟩)) j5 a d:=⟨by first|exact e.frames|(simpa [Gj,Code.envs,Code.isFrame,pushEnvs]using e.frames),e.mod,e.bs,e.tH,e.kz,e.Ci,e.G8,e.bare⟩
section
variable{H:Hp}
def Inv.a3a(I:Inv X c n H a):xU X.prog X.w X.K X.mg X.base X.A X.stack a H:=
 ⟨I.ok.frames,I.ok.mod,I.bs,C3 I.ok.tH I.sz,I.stack,I.Ik,I.G8,I.bare⟩
def Inv.after{s':A6}(I:Inv X c n H a)(h:CE X.stack X.prog X.w H a e9 D s'):EP X c n e9 D s':=by obtain⟨v,i,f,s,un,σ,r,q⟩:=h;obtain⟨j,g,d,t,e⟩:=s';obtain rfl:=f;exact⟨v,i,I.call un σ s (λb z=>absurd z G9),r,q⟩
end
noncomputable def kM(sp:Sp)(dvs:List V)(E:XK)(t:TA):TE:=λσ H Q=>t σ H λvs H1=>sp (vs++dvs) H1 Q E
noncomputable def JS(C:Addr)(m:Str)(sp:Sp)(dvs:List V)(E:XK)(ta:TE)(t:TA):TE:=λσ H Q=>ta σ H λx H1=>∃a dx fs,x=.ref a/\H1 a=U (.ins C dx fs)/\fs.lookup m=J /\
 t σ H1 λvs H2=>sp (x::(vs++dvs)) H2 Q E
def Vn(C:Addr)(sp:Sp)(dvs:List V)(E:XK)(t:TA):TE:=λσ H Q=>t σ H λvs H1=>∀x dx,H1 x=J->H1 dx=J->dx≠x ->
 sp (.ref x::(vs++dvs)) (upd (upd H1 dx (.own x)) x (.ins C dx [])) (λv H2=>v=.non/\Q (.ref x) H2) E
noncomputable def Binds(K:B1)(fd:V2)(ps:List Str)(ds:List w9):Prop:=
 ∀(s:A6) (us:List w9),K.In s.heap->(us++ds).length=ps.length->oG s fd ⟨us,[]⟩ (ps.zip (us++ds))
def Binds.all(h:∀us:List w9,us.length=S.length->bindArgs c7 ⟨us,[]⟩=pure (S.zip us)):Binds O c7 S []:=λs us _ b=>by rw[bZ]at b⊢;exact .of_eq (h us b)
def Passes(CX:rH)(X:Cx)(E:XK):Prop:=∀(pins:List (Addr×Obj)) (σ:St) (H:Hp) (s:A6) (e:w9) (s':A6),Inv X pins σ H s->CX X.stack H s E e s'->X.xe e s'
section
variable{f C:Addr}
def DE{s:A6}{us:List w9}{vs:List V}(F:gU X.prog X.w X.K X.mg X.base b8 k f c7 S c8)(g:eS k X.A)(l:Binds X.K c7 S G)(hd:Vals z G)(a:Passes b8 X c9)(I:Inv X c n d s)(r:Vals vs us)(h:c8 (vs++z) d e9 c9):wpAny (model X.prog X.w) X.A (call (.ref f) us) (EP X c n e9) X.xe s:=by
 have b:=r.append hd;have i:(us++G).length=S.length:=by rw[<-b.length];exact F.len _ _ _ _ h
 refine wpAny_call (zM (F.run X.A X.stack s d ⟨us,[]⟩ (us++G) (vs++z) e9 c9 g I.a3a (l s us I.hI i) b h) λr j hq=>?_)
 cases r with
 |error e=>exact a c n d s e j I hq
 |ok E=>
  cases E with
  |ret u=>exact I.after hq
  |next=>exact dV hq
  |brk=>exact dV hq
  |cont=>exact dV hq
def Ba{pos:Pos}(F:gU X.prog X.w X.K X.mg X.base b8 k f c7 S c8)(l:eS k X.A)(n:Gl X m)(g:X.mg m=U (.ref f))(u:jz X.K (.ref f)=Uf)(o:Binds X.K c7 S G)(hd:Vals z G)(j:Passes b8 X c9)(v:PA X (Z::B) b5)(b:autoParam (jY m) B0)(i:autoParam (gN X Z B) B0)(c:autoParam (pJ X pos B) B0):
  PE X (.Call (.Name m p) (Z::B) [] pos) (kM c8 z c9 b5):=by
 intro a s x H Q I h;refine vq (Bd I n g ?_ b);refine Av I.ok.mod.Ey u (G5 (v pos a s x H _ I h) λe E ⟨y,C,d,r,q⟩=>⟨d.hI,?_⟩) i c;exact DE F l o hd j d r q
def Zj{apos:Pos}(M:PE X L t)(c:AK X.K C)(v:Meth X.K C m f)(F:gU X.prog X.w X.K X.mg X.base b8 k f c7 S c8)(N:eS k X.A)(P:Binds X.K c7 S G)(hd:Vals z G)(K:Passes b8 X c9)(R:PA X (Z::B) b5)(d:autoParam (gN X Z B) B0)(g:autoParam (pJ X p B) B0)(e:autoParam (MCl X L m apos (Z::B) p i7) B0):
  PE X (.Call (.Attribute L m apos) (Z::B) [] p) (JS C m c8 z c9 t b5):=by
 intro b s n H Q I h;refine PySem.W.methodCall_KW (G5 (M b s n H _ I h) λu o ⟨x,O,w,D,a,Y,fs,A,y,l,q⟩=>?_) e;subst A;obtain rfl:=D;refine KW w y c v l ?_;refine Av I.ok.mod.Ey v.kp (G5 (R p b o n O _ w q) λE V ⟨j,T,i,r,q2⟩=>⟨i.hI,?_⟩) d g;exact DE (vs:=.ref a::j) F N P hd K i (.cons rfl r) q2
structure Mk(K:B1)(C f:Addr):Prop where
 makes:GF K C=Uf
 init:cO K (.ref C) "__init__" = U (U (.ref f))
 fn:ve K (.ref f)=Uf
 kp:jz K (.ref C)=Uf
def RE{H:Hp}{us:List w9}{vs:List V}(M:Mk X.K C f)(F:gU X.prog X.w X.K X.mg X.base b8 k f c7 S c8)(s:eS (k+1) X.A)(E:Binds X.K c7 S G)(hd:Vals z G)(l:Passes b8 X c9)(I:Inv X c n H a)(r:Vals vs us)(h:∀x d,H x=J->H d=J->d≠x->c8 (.ref x::(vs++z)) (upd (upd H d (.own x)) x (.ins C d [])) (λv H2=>v=.non/\e9 (.ref x) H2) c9):
  wpAny (model X.prog X.w) X.A (call (.ref C) us) (EP X c n e9) X.xe a:=by
 have hq:=h ((hz a)+1) (hz a) (I.G8.fresh (Nat.le_succ _)) (I.G8.fresh O8) (X3 (Ak _));have b:=Inv.made (C:=C) I;have g:Vals (V.ref ((hz a)+1)::(vs++z)) (fu ((hz a)+1)::(us++G)):=.cons rfl (r.append hd);have p:(fu ((hz a)+1)::us++G).length=S.length:=by have e:=g.length;rw[F.len _ _ _ _ hq]at e;exact e.symm
 refine wpAny_call (Tt I.hI M.makes M.init (beq_iff_eq.mp M.fn) (zM (F.run _ X.stack _ _ ⟨fu ((hz a)+1)::us,[]⟩ (fu ((hz a)+1)::(us++G)) _ _ c9 (s.make C us [])
  (b.a3a.make C us []) (E _ (fu ((hz a)+1)::us) b.hI p) g hq) λr q Q=>?_))
 cases r with
 |error e=>exact l c n _ _ e q b Q
 |ok i=>
  cases i with
  |ret u=>
   obtain⟨v,y,j,o,t,m⟩:=b.after Q;subst t;exact⟨o,⟨V.ref ((hz a)+1),y,j,rfl,m⟩⟩
  |next=>exact dV Q
  |brk=>exact dV Q
  |cont=>exact dV Q
def Zk{pos:Pos}(M:Mk X.K C f)(F:gU X.prog X.w X.K X.mg X.base b8 k f c7 S c8)(l:eS (k+1) X.A)(n:Gl X m)(g:X.mg m=U (.ref C))(o:Binds X.K c7 S G)(hd:Vals z G)(j:Passes b8 X c9)(u:PA X (Z::B) b5)(b:autoParam (jY m) B0)(i:autoParam (gN X Z B) B0)(c:autoParam (pJ X pos B) B0):
  PE X (.Call (.Name m p) (Z::B) [] pos) (Vn C c8 z c9 b5):=by
 intro a s x H Q I h;refine vq (Bd I n g ?_ b);refine Av I.ok.mod.Ey M.kp (G5 (u pos a s x H _ I h) λE y ⟨v,e,d,r,q⟩=>⟨d.hI,?_⟩) i c;exact RE M F l o hd j d r q
end
structure iT(N P:List Str)(sc:cP):Prop where
 kind:sc.kind=.function
 co:sc.isCoroutine=U'
 gen:sc.isGenerator=U'
 nd:N.Nodup
 pre:N.take P.length=P
 par:∀x∈P,sc.names.lookup x=U .local\/sc.names.lookup x=U .cell
 a2r:∀y∈sc.names,y.2≠.free
theorem Co{a:Str->Option hZ}{x:Str}:∀{binds:List (Str×w9)}{m:Str->Option w9},(∀v,(x,v)∉binds)->bindL a binds m x=m x
 | [],_,_=>rfl
 |(n,v)::r,m,h=>by
  unfold bindL;rw[Co λw b=>h w (F8 _ b)];split
  . have:x≠n:=by rintro rfl;exact h v F5
    simp[this]
  rfl
theorem Cq{a:Str->Option hZ}{x:Str}:∀{binds:List (Str×w9)}{m:Str->Option w9},(∀v,(x,v)∉binds)->bindC a binds m x=m x
 | [],_,_=>rfl
 |(n,v)::r,m,h=>by
  unfold bindC;rw[Cq λw b=>h w (F8 _ b)];split;rfl
  . have:x≠n:=by rintro rfl;exact h v F5
    simp[this]
theorem Cp{a:Str->Option hZ}{x:Str}{v:w9}:∀{P:List Str}{vs:List w9}{i:Nat}{m:Str->Option w9},P.Nodup->P[i]?=U x->vs[i]?=U v->a x=U .local ->
  bindL a (P.zip vs) m x=U v
 | [],_,_,_,_,h,_,_=>by simp at h
 |_::_,[],_,_,_,_,h,_=>by simp at h
 |p::P,w::vs,0,m,nd,h1,h2,hk=>by
  simp at h1 h2;subst h1;subst h2;show bindL a ((p,w)::P.zip vs) m p=_;unfold bindL;rw[Co λv b=>(List.nodup_cons.mp nd).1 (GD b).1,A3 hk];simp
 |p::P,w::vs,i+1,m,nd,h1,h2,hk=>by
  show bindL a ((p,w)::P.zip vs) m x=_;exact Cp (List.nodup_cons.mp nd).2 (by simpa using h1) (by simpa using h2) hk
theorem Cr{a:Str->Option hZ}{x:Str}{v:w9}:∀{P:List Str}{vs:List w9}{i:Nat}{m:Str->Option w9},P.Nodup->P[i]?=U x->vs[i]?=U v->a x≠U .local ->
  bindC a (P.zip vs) m x=U v
 | [],_,_,_,_,h,_,_=>by simp at h
 |_::_,[],_,_,_,_,h,_=>by simp at h
 |p::P,w::vs,0,m,nd,h1,h2,hk=>by
  simp at h1 h2;subst h1;subst h2;show bindC a ((p,w)::P.zip vs) m p=_;unfold bindC;rw[Cq λv b=>(List.nodup_cons.mp nd).1 (GD b).1,A4 hk];simp
 |p::P,w::vs,i+1,m,nd,h1,h2,hk=>by
  show bindC a ((p,w)::P.zip vs) m x=_;exact Cr (List.nodup_cons.mp nd).2 (by simpa using h1) (by simpa using h2) hk
noncomputable def start(N:List Str)(vs:List V):St:=vs.map U++N8 (N.length-vs.length) J
noncomputable def oi(CX:rH)(P:V1)(w:M5)(K:B1)(mg:Str->Option w9)(base:Heap)(N:List Str)(qual:Str)(scope:cP)(f:Addr)(cd:w9)(A:T8)(outer:List Env)(s:A6)(H:Hp)(E:XK):Cx where
 prog:=P
 ek:=E
 w:=w
 K:=K
 mg:=mg
 base:=base
 A:=A.deeper (ft qual scope s.heap.objs.size f cd)
 N:=N
 X4:=s
 B6:=H
 env:=ft qual scope s.heap.objs.size f cd
 outer:=outer
 stack:=ft qual scope s.heap.objs.size f cd::outer
 ex:=[]
 calm:=Uf
 fn:=λ_=>Uf
 pn:=[]
 xe:=λe s'=>wpAny (model P w) (A.deeper (ft qual scope s.heap.objs.size f cd)) (leaving (ft qual scope s.heap.objs.size f cd) e) (λ_ s''=>CX outer H s E e s'') (λe' s''=>CX outer H s E e' s'') s'
def Fz(h:i9.names.lookup m=U .cell):∃c,(ia k i9.names []).lookup m=U c:=by exact Option.isSome_iff_exists.mp (Qx i9.names k [] (.inl h))
def Jt(c:Bool)(CX:rH)(P:V1)(w:M5)(K:B1)(mg:Str->Option w9)(base:Heap)(N:List Str)(qual:Str)(scope:cP)(f:Addr)(cd:w9)(A:T8)(outer:List Env)(s:A6)(H:Hp)(E:XK):Cx:={oi CX P w K mg base N qual scope f cd A outer s H E with calm:=c}
def Ol{d:List Str}{s1:A6}{H:Hp}(N:iT S d i9)(hd:R=Uf->A.handled=J)(j:xU o q O b6 g A j5 a H)(Q:z.length=d.length)(r:Vals z G)(x:InCallC a (hz a) (bindL (ft m i9 (hz a) e D).kindOf (d.zip G) λ_=>J) (ia ((hz a)+1) i9.names []) (bindC (ft m i9 (hz a) e D).kindOf (d.zip G) λ_=>J) s1):
  Inv (Jt R b8 o q O b6 g S m i9 e D A j5 a H c9) [] (start S z) H s1:=by
 have:d.length<=S.length:=by have:=H0 Gd N.pre;rw[rn]at this;lia
 obtain⟨F,c,rfl,E⟩:=x.done;have l:∀b:Addr,b∉(Jt R b8 o q O b6 g S m i9 e D A j5 a H c9).ex:=λb n=>absurd (show b∈([])from n) G9
 refine⟨⟨j.mod,N.kind,rfl,rfl,K5 _,λy n R F K=>?_,λy P=>?_,λy R _ h=>?_,hd,Around.frames_deeper j.frames,.inr ⟨rfl,rfl⟩,λb n=>absurd n (l b),j.bs,j.tH,λb _ _=>l b,λb n=>absurd n (l b),j.kz,j.Ci⟩,
  rfl,j.bare,Un.kept E,⟨_,x.toInCall.ns,λi y v F K T=>?_⟩,λy R h=>⟨_,x.cell y R h⟩,j.G8.fresh O8,λy R h=>?_,λp t=>absurd (show p∈([])from t) G9,j.G8.kept E,?_⟩
 exact name_of_addr x.apart (mi F) (mi K)
 . have P:=P;rcases P with P|P
   exact Fz P;exact absurd rfl (N.a2r _ (mi P))
 exact fy (x.above y R (mi h))
 . have C:i<z.length:=by
     unfold start at K;by_cases C:i<z.length;exact C
     . rw[AF (by simpa using C)]at K
       rw[AA]at K;split at K<;>cases K
   have M:z[i]?=U v:=by
    unfold start at K;rw[vC (by simpa using C),R9]at K
    cases f:z[i]? with
    |none=>rw[f]at K;exact nE K
    |some s=>rw[f]at K;cases K;rfl
   obtain⟨u,I,L⟩:=r.get M;have t:d[i]?=U y:=by rw[<-N.pre,List.getElem?_take_of_lt (Nat.lt_of_lt_of_eq A2 A2)];exact F
   have B:d.Nodup:=by rw[<-N.pre];exact N.nd.sublist (List.take_sublist _ _)
   refine⟨u,L,?_⟩;rcases N.par y (rC t)with k|k
   exact .inl ⟨k,Cp B t I k⟩
   . obtain⟨R,f⟩:=Fz k;refine .inr ⟨.inl k,R,f,?_⟩;have w:=x.cell y R f;rw[Cr B t I (by show i9.names.lookup y≠_;rw[k];decide)]at w;exact w
 exact j.G8.fresh (fy (x.above y R (mi h)))
 . delta start;show _=S.length;rw[L6,C8,vx];simp[*]
def a4B{qual:Str}{params:Arguments}{kV doc pm cdv ct oc:w9}{an od:Option Addr}{osl:Array (Option w9)}{ps:List Str} (lk:O.lookup e=U ⟨oc,od,.func (ie m qual params b7 i9 D kV doc pm an cdv ct),osl⟩) (hcd:zY O cdv qual=Uf) (K:iT S ps i9) (len:∀vs H Q E,c8 vs H Q E->vs.length=ps.length) (hbody:∀(A:T8) (outer:List Env) (s:A6) (H:Hp) (vs:List V) (Q:VK) (E:XK),cL R k (A.deeper (ft qual i9 s.heap.objs.size e cdv))->c8 vs H Q E ->
   ∃t,lP (Jt R b8 o q O b6 g S qual i9 e cdv A outer s H E) b7 t/\t {nx:=λ_ H'=>Q .non H',rt:=Q} (start S vs) H) :
  Ls R o q O b6 g b8 (k+1) e (ie m qual params b7 i9 D kV doc pm an cdv ct) ps c8:=by
 refine⟨len,λA outer s H args us vs Q E hr e0 hb r hsp=>?_⟩;have hl:=len _ _ _ _ hsp;have KX:O.In s.heap:=e0.mod.Ey.keeps λb c w=>(e0.bs b c w).1;have lim:s.heap.NoLimit:=e0.mod.nolimit.keeps λb c w=>(e0.bs b c w).1
 have hkind:∀y∈ps.zip us,i9.names.lookup y.1=U .local\/(i9.names.lookup y.1=U .cell/\((ia (s.heap.objs.size+1) i9.names []).lookup y.1).isSome=Uf):=λ⟨n,v⟩ hy=>by
  rcases K.par n (GD hy).1 with P|P
  exact .inl P;exact .inr ⟨P,Qx _ _ _ (.inl P)⟩
 refine codeAny_call_function hr.depth (KX _ _ lk) rfl K.co K.gen rfl (PySem.W.codeRec_of KX hcd) (hb _ _ _ _ ?_);refine wpAny_newFunctionEnv_cells K.kind hkind λenv he s1 x=>?_;subst he;refine⟨lim.keeps x.toInCall.keep,codeAny_func ?_⟩;obtain⟨t,ht,hq⟩:=hbody A outer s H vs Q E (hr.deeper _) hsp;have I:Inv (Jt R b8 o q O b6 g S qual i9 e cdv A outer s H E) [] (start S vs) H s1:=Ol K hr.hd e0 hl r x;refine dW (ht [] s1 (start S vs) H _ I hq) (λfl s' hs=>?_) λw s' hs=>hs
 have fin:∀{σ':St}{H':Hp}{v:V}{u:w9},Inv (Jt R b8 o q O b6 g S qual i9 e cdv A outer s H E) [] σ' H' s'->RelV v u->Q v H'->CE outer o q H s Q u s':=
  λ{σ' H' v u} Jff rv P=>⟨v,H',Jff.os,Jff.bare,Jff.base,Jff.G8,rv,P⟩
 cases fl with
 |ret u=>
  obtain⟨v,σ',H',Jff,rv,P⟩:=hs;exact fin Jff rv P
 |next=>
  obtain⟨σ',H',Jff,P⟩:=hs;exact fin (v:=V.non) (u:=FZ) Jff rfl P
 |brk=>
  obtain⟨_,_,_,P⟩:=hs;exact dV P
 |cont=>
  obtain⟨_,_,_,P⟩:=hs;exact dV P
section
variable{T:String}{r:List V->Hp->VK->Prop}
noncomputable def Ij(r:List V->Hp->VK->Prop)(t:TA):TE:=λσ H Q=>t σ H λvs H1=>r vs H1 Q
def DU{pos:Pos}{id:String}(w:ag X (.builtin id) r)(x:Gl X m)(f:X.mg m=J)(i:ig m=U (.builtin id))(y:PA X (Z::B) b5)(g:autoParam (m ≠ "__name__") lO)(b:autoParam (jY m) B0)(j:autoParam (gN X Z B) B0)(c:autoParam (pJ X pos B) B0):PE X (.Call (.Name m p) (Z::B) [] pos) (Ij r b5):=by intro a s d H Q I h;refine vq (qw I x f i ?_ g b);exact PyProof.Rows.callWith_builtin1 (G5 (y pos a s d H _ I h) λo n ⟨l,q,u,k,v⟩=>w a n d q l o Q u k v) j c
def MU{pos:Pos}(w:ag X (.type T) r)(x:Gl X m)(f:X.mg m=J)(i:ig m=U (.type T))(y:PA X (Z::B) b5)(g:autoParam (m ≠ "__name__") lO)(b:autoParam (jY m) B0)(j:autoParam (gN X Z B) B0)(c:autoParam (pJ X pos B) B0):PE X (.Call (.Name m p) (Z::B) [] pos) (Ij r b5):=by intro a s d H Q I h;refine vq (qw I x f i ?_ g b);exact AG (G5 (y pos a s d H _ I h) λo n ⟨l,q,u,k,v⟩=>w a n d q l o Q u k v) j c
end
end L2
namespace HT
open PySem PyProof.Rows
variable{Z:V1}{w:M5}{A:T8}{E:w9->A6->Prop}{s:A6}{t:Addr}{v:w9}{o:Option Int}
section
open PySem.SeqAt
open PySem.AutoSeq1 (wpAny_loadPart')
open PySem.MeetsSeq PySem.MeetsSeq2 PySem.MeetsSeq3
end
def a0w{b:Addr}{vs ws:List w9}{Q:w9->A6->Prop}(x:IsTup s.heap t vs.toArray)(B:IsTup s.heap b ws.toArray)(p:vs≠[])(z:ws=[]->Q (.ref t) s)(y:ws≠[]->Q (.ref s.heap.objs.size) {s with heap:=s.heap.push {cls:=.type "tuple",data:=.seq (vs++ws).toArray}})(hsz:vs.length+ws.length<=D6):wpAny (model Z w) A (bQ .Add (.ref t) (.ref b)) Q E s:=by
 obtain⟨⟨l,v,g,q⟩,i,u,n,m⟩:=id x;obtain⟨⟨o,c,k,f⟩,a,d,r,h⟩:=id B;subst u m d h;have e:vs.toArray++ws.toArray=(vs++ws).toArray:=by simp
 by_cases j:ws=[]
 . exact zL ⟨_,i,rfl⟩ ⟨_,a,rfl⟩ GN Gq Hh Hj (Hq _ _)
     (tuple_addW1 t b vs.toArray ws.toArray n r v c q f (by simpa using p) (by simp[j])) ⟨i,a,z j⟩
 . refine zL ⟨_,i,rfl⟩ ⟨_,a,rfl⟩ GN Gq Hh Hj (Hq _ _)
     (tuple_addW2 t b vs.toArray ws.toArray n r v c q f (by simpa using p) (by simpa using j) (by rw[Z0,Z0];exact hsz)) ⟨i,a,?_⟩
   rw[e];exact y j
noncomputable def N4(n d:Nat):Option Int->Nat
 |none=>d
 |some v=>if v<0 then(v+(n:Int)).toNat else min v.toNat n
def Jw(v:Int)(n d:Nat):(if v<0 then max (v+(n:Int)) 0 else min v (n:Int))=((N4 n d (U v):Nat):Int):=by
 show(if v<0 then max (v+n) 0 else min v n)=(((if v<0 then(v+n).toNat else min v.toNat n)));by_cases a:v<0;simp only[A3 a];simp[*];simp only[A4 a];lia
def Lm(lo a:Option Int)(n:Nat):QI lo a 1 (n:Int)=(((N4 n 0 lo:Nat):Int),((N4 n n a:Nat):Int)):=by
 refine Prod.ext ?_ ?_
 . cases lo with
   |none=>rfl
   |some v=>exact Jw v n 0
 . cases a with
   |none=>rfl
   |some v=>exact Jw v n n
def Km(i j:Nat):AD (i:Int) (j:Int) 1=j-i:=by delta AD;split<;>lia
def yk{Q:Option Int->A6->Prop}(p:cQ v o)(h:Q o s):wpAny (model Z w) A (Builtin.Slice.slicePartIndex v) Q E s:=by
 cases p with
 |none=>exact slicePart_none h
 |int i t=>exact slicePart_int h
def nK{e:w9}{c:Option Int}{n:Nat}{Q:Int×Int×Nat->A6->Prop}(hs:s.heap.IsSliceOf t v e .none)(pl:cQ v o)(i:cQ e c)(h:Q (((N4 n 0 o:Nat):Int),1,N4 n n c-N4 n 0 o) s):wpAny (model Z w) A (Builtin.Slice.sliceApplied (.ref t) (pure (n:Int))) Q E s:=by
 obtain⟨j,a,g,b⟩:=id hs;refine B4 (B4 (dE a b rfl (B4 (dE a b rfl (B4 (dE a b rfl (E6 ?_)))))));refine B4 (slicePart_none ?_);refine B4 (yk pl (B4 (yk i (B4 (E6 ?_)))));show wpAny _ _ (match QI o c 1 n with|(o,c)=>pure (o,(1:Int),AD o c 1)) _ _ s;rw[Lm o c n];show wpAny _ _ (pure (((N4 n 0 o):Int),1,AD ((N4 n 0 o)) ((N4 n n c)) 1)) _ _ s;rw[Km];exact E6 h
def SJ(xs:Array w9)(i k:Nat):((R8 k).filterMap λ(m:Nat)=>xs[((i:Int)+(m:Int)*1).toNat]?).toArray=((xs.toList.drop i).take k).toArray:=by
 have e:(λ(m:Nat)=>xs[((i:Int)+m*1).toNat]?)=λm=>xs[i+m]?:=by
  funext m
  have:((i:Int)+m*1).toNat=i+m:=by lia
  rw[this]
 rw[e];have:=pick_run xs i k;rw[List.filterMap_map]at this;have a:((λx=>xs[x]?)∘λx=>i+x)=λm=>xs[i+m]?:=rfl;rw[a]at this;rw[this]
def wD{i:Addr}{items:Array w9}{j:w9}{b:Option Int}{Q:w9->A6->Prop}(c:IsTup s.heap t items)(hs:s.heap.IsSliceOf i v j .none)(pl:cQ v o)(p:cQ j b)(l:¬(N4 items.size 0 o=0/\N4 items.size items.size b=items.size))(h:Q (.ref s.heap.objs.size) {s with heap:=s.heap.push {cls:=.type "tuple",data:=.seq ((items.toList.drop (N4 items.size 0 o)).take (N4 items.size items.size b-N4 items.size 0 o)).toArray}})(hsz:items.size<=D6):wpAny (model Z w) A (lR (.ref t) (.ref i)) Q E s:=by
 have a:sizeOk (.seq ((items.toList.drop (N4 items.size 0 o)).take (N4 items.size items.size b-N4 items.size 0 o)).toArray):=by
  show((items.toList.drop (N4 items.size 0 o)).take (N4 items.size items.size b-N4 items.size 0 o)).toArray.size<=D6;rw[Z0,rn,rm,Ha];exact C3 (GL _ _) (C3 (Nat.sub_le _ _) A2)
 obtain⟨k,g,d,n⟩:=id hs;have e:s.TypeIs (.ref i) "slice":=⟨k,g,d⟩;delta lR;try with_reducible refine Gp ?_
 first|refine B4 (E6 ?_)|skip
 refine B4 (wpAny_sequenceKey c.typeIs A9 ?_);refine B4 (pa c.typeIs AH
  (oW AH c.typeIs entry_tuple_getitem ?_ (args_tuple_getitem _ _)))
 show wpAny _ _ (QK (.ref t) >>= _) _ _ s
 refine B4 (tupleItemsOf_ c ?_);refine B4 (Gi e ?_);refine B4 (nK hs pl p ?_);have f:¬((((N4 items.size 0 o):Int)==0&&(1:Int)==1&&(N4 items.size items.size b-N4 items.size 0 o)==items.size)=Uf):=by exact λq=>l ⟨by simp_all,by lia⟩
 show wpAny _ _ (if (((N4 items.size 0 o):Int)==0&&1==1&&(N4 items.size items.size b-N4 items.size 0 o)==items.size)=Uf then _ else _) _ _ s
 rw[A4 f,SJ];first
  |exact B4 (oX (E6 ⟨_,rfl,E6 h⟩) a)
  |exact B4 (oX (B4 (E6 (E6 ⟨_,rfl,E6 h⟩))) a)
  |exact B4 (B4 (oX (E6 (E6 ⟨_,rfl,E6 h⟩)) a))
  |exact B4 (B4 (oX (E6 ⟨_,rfl,E6 h⟩) a))
end HT
namespace L2
open PySem PySem.Spec PyProof.Rows
variable{X:Cx}{s:A6}{e:Expr}{Z:TE}{Y:List (Addr×Obj)}{k:St}{S:Pos}{R:List V}{a:List w9}{n:Nat}{x:V}{u:w9}{Q:String}{c:V->Option Int->Option Int->Hp->VK->Prop}{P:Type}{l:Addr}
abbrev TO:=St->Hp->(Option Int->Hp->Prop)->Prop
def PO(X:Cx)(e:Option Expr)(t:TO):Prop:=
 ∀(pins:List (Addr×Obj)) (s:A6) (σ:St) (H:Hp) (Q:Option Int->Hp->Prop),Inv X pins σ H s->t σ H Q ->
  wpAny (model X.prog X.w) X.A (evalPart e X.env) (λu s'=>∃o H',Inv X pins σ H' s'/\cQ u o/\Q o H') X.xe s
noncomputable def Ii:TO:=λ_ H Q=>Q J H
noncomputable def Vl(t:TE):TO:=λσ H Q=>t σ H λx H1=>∃i,x=.int i/\Q (U i) H1
def Zd:PO X J Ii:=by exact λa s b H Q I h=>E6 ⟨J,H,I,.none,h⟩
def Zc(h:PE X e Z):PO X (U e) (Vl Z):=by
 intro a s d H Q I b;refine G5 (h a s d H _ I b) λu k ⟨x,f,g,c,j⟩=>?_;obtain⟨i,rfl,q⟩:=j;obtain⟨t,rfl⟩:=c;exact⟨U i,f,g,.int i t,q⟩
def tJ(X:Cx)(r:V->Option Int->Option Int->Hp->VK->Prop):Prop:=
 ∀(pins:List (Addr×Obj)) (s:A6) (σ:St) (H:Hp) (x:V) (v vl vu:w9) (lo hi:Option Int) (sl:Addr) (Q:VK),Inv X pins σ H s->RelV x v->s.heap.IsSliceOf sl vl vu .none->cQ vl lo->cQ vu hi->r x lo hi H Q ->
  ∃T id,typeLookup (.type T) "__getitem__" = pure (U (.builtin id))/\s.TypeIs v T/\wpAny (model X.prog X.w) X.A (lR v (.ref sl)) (EP X pins σ Q) X.xe s
def tJ.or{r:V->Option Int->Option Int->Hp->VK->Prop}(h:tJ X r)(h':tJ X c):tJ X (λx lo b H Q=>r x lo b H Q\/c x lo b H Q):=by
 intro a s f H x v i e lo b k Q I g j d l q;rcases q with q|q
 exact h a s f H x v i e lo b k Q I g j d l q;exact h' a s f H x v i e lo b k Q I g j d l q
noncomputable def tSl(r:V->Option Int->Option Int->Hp->VK->Prop)(te:TE)(tl th:TO):TE:=λσ H Q=>te σ H λx H1=>tl σ H1 λl H2=>th σ H2 λu H3=>r x l u H3 Q
def SN{lo hi:Option Expr}{tl th:TO}{p2:Pos}(F:tJ X c)(D:PE X e Z)(n:PO X lo tl)(y:PO X hi th):PE X (.Subscript e (.Slice lo hi J p2) S) (tSl c Z tl th):=by
 intro a s d H Q I h;refine Subscript_ (G5 (D a s d H _ I h) λv o ⟨x,L,t,G,M⟩=>?_);refine wpAny_Slice (G5 (n a o d L _ t M) λg E ⟨l,z,m,B,q2⟩=>G5 (y a E d z _ m q2) λf r ⟨u,i,O,N,k⟩=>?_);refine E6 ?_;have C:Inv X a d i {r with heap:=r.heap.push {cls:=.type "slice",data:=.fields #[g,f,.none]}}:=O.kept λb P q=>I0 _ q;obtain⟨T,R,p,j,K⟩:=F a {r with heap:=r.heap.push {cls:=.type "slice",data:=.fields #[g,f,.none]}} d i x v g f l u (hz r) Q C G (PR ..) B N k;exact tail_any j p K (by with_unfolding_all rfl)
noncomputable def sR(xs:List V)(lo hi:Option Int):List V:=(xs.drop (HT.N4 xs.length 0 lo)).take (HT.N4 xs.length xs.length hi-HT.N4 xs.length 0 lo)
def wW(xs:List V)(lo a:Option Int):(sR xs lo a).length<=xs.length:=by delta sR;rw[rn,rm];exact C3 (GL _ _) (Nat.sub_le _ _)
def a5o(K:B1):V->Option Int->Option Int->Hp->VK->Prop:=λx lo hi H Q=>∃a xs,x=.ref a/\Y7 K H a xs /\
 ¬(HT.N4 xs.length 0 lo=0/\HT.N4 xs.length xs.length hi=xs.length)/\∀p,H p=J->Q (.ref p) (upd H p (.tup (sR xs lo hi)))
def a1l:tJ X (a5o X.K):=by
 intro k s y H x v A w e f B Q I p t l u h;obtain⟨a,d,rfl,n,m,q⟩:=h;cases p;obtain⟨g,r,i,j⟩:=I.tuple n;have c:g.toArray.size=d.length:=by rw[Z0];exact r.length.symm
 refine⟨"tuple",_,PyProof.Rows.slot_tuple_getitem.lookup,i.typeIs,?_⟩;refine HT.wD i t l u (by rw[c];exact m) ?_ (by rw[c];exact j);rw[c];refine⟨.ref s.heap.objs.size,_,I.laid (λb z q=>I0 _ q) O8 ?_,rfl,q _ (I.G8.fresh O8)⟩;exact⟨C3 (wW d e f) j,_,(r.drop (HT.N4 d.length 0 e)).take (HT.N4 d.length d.length f-HT.N4 d.length 0 e),uW _ _⟩
def a4f(K:B1):R2:=λx y H Q=>∃a b xs ys,x=.ref a/\y=.ref b/\Y7 K H a xs/\Y7 K H b ys/\xs≠[]/\xs.length+ys.length<=D6 /\
 (ys=[]->Q (.ref a) H)/\(ys≠[]->∀p,H p=J->Q (.ref p) (upd H p (.tup (xs++ys))))
def Vals.vW(r:Vals R a):a=[]↔R=[]:=by
 cases r with
 |nil=>simp
 |cons _ _=>simp
def Zw:Q7 X (bQ .Add) (a4f X.K):=by
 intro g s t H x y v u Q I k m h;obtain⟨a,b,B,C,rfl,rfl,r,o,j,f,n,q2⟩:=h;cases k;cases m;obtain⟨p,d,i,_⟩:=I.tuple r;obtain⟨e,c,l,_⟩:=I.tuple o;refine HT.a0w i l (λz=>j (d.vW.mp z)) (λz=>⟨.ref a,H,I,rfl,n (c.vW.mp z)⟩) (λz=>?_) (by rw[<-d.length,<-c.length];exact f);refine⟨.ref s.heap.objs.size,_,I.laid (λb A q=>I0 _ q) O8 ?_,rfl,q2 (λw=>z (c.vW.mpr w)) _ (I.G8.fresh O8)⟩;exact⟨by rw[L6];exact f,_,d.append c,uW _ _⟩
noncomputable def uA(n:Nat)(i:Int):Option Nat:=if 0<=i then(if i<n then U i.toNat else J)else if -(n:Int)<=i then U (i+n).toNat else J
def T7(xs:List P)(i:Int):Option P:=(uA xs.length i).bind λj=>xs[j]?
def a0c{i:Int}{j:Nat}(h:uA n i=U j):seqIndex? i n=U j/\j<n/\-(n:Int)<=i/\i<n:=by
 unfold uA at h;by_cases b:0<=i
 . rw[A3 b]at h;by_cases a:i<n;rw[A3 a]at h;exact⟨by rw[seqIndex_of b a,(Y9 h)],by lia,by lia,a⟩;rw[A4 a]at h;exact nE h
 . rw[A4 b]at h;by_cases a : -n<=i;rw[A3 a]at h;exact⟨by rw[seqIndex_neg (Int.not_le.1 A2) a,(Y9 h)],by lia,a,by lia⟩;rw[A4 a]at h;exact nE h
def Bw{xs:List P}{i:Int}{v:P}(h:T7 xs i=U v):∃j,seqIndex? i xs.length=U j/\xs[j]?=U v/\j<xs.length/\-(xs.length:Int)<=i/\i<xs.length:=by obtain⟨j,e,h⟩:=A1 h;obtain⟨d,b,c,f⟩:=a0c e;exact⟨j,d,h,b,c,f⟩
noncomputable def qN(b:Expr):Prop:=∀o i,subscripted b U' o i=operate [o,i] (lR o i)
def xg(X:Cx)(r:R2):Prop:=
 ∀(value slice:Expr) (pins:List (Addr×Obj)) (s:A6) (σ:St) (H:Hp) (x y:V) (v u:w9) (Q:VK),Inv X pins σ H s->RelV x v->RelV y u->r x y H Q ->
  subscripted slice U' v u=operate [v,u] (lR v u)->wpAny (model X.prog X.w) X.A (subscriptTail value slice v u) (EP X pins σ Q) X.xe s
def zj(X:Cx)(id:String)(r:V->List V->Hp->VK->Prop):Prop:=
 ∀(pins:List (Addr×Obj)) (s:A6) (σ:St) (H:Hp) (x:V) (xs:List V) (v:w9) (us:List w9) (Q:VK),Inv X pins σ H s->RelV x v->Vals xs us->r x xs H Q ->
  wpAny (model X.prog X.w) X.A (call (.builtin id) (v::us)) (EP X pins σ Q) X.xe s
structure HB(X:Cx)(o:Expr)(m:Str)(a:Pos)(e:Expr)(es:List Expr)(c:Pos):Prop where
 b:HC X o m
 f:((gi c (W2 (e::es) X.env)).all (λx=>!x.1)&&(backToKw c (zF [] X.env)).all (λx=>x.1.isSome)
   && decide ((e::es).length+([]:List qR).length+(if ([]:List qR).isEmpty then 0 else 1)<30))=Uf
 l:(a.endLine==c.line)=Uf
 s:gN X e es
 p:pJ X c es
section
def xg.or{r d:R2}(h:xg X r)(h':xg X d):xg X (λx y H Q=>r x y H Q\/d x y H Q):=by
 intro b a c s f H x y v u Q I g e q i;rcases q with q|q
 exact h b a c s f H x y v u Q I g e q i;exact h' b a c s f H x y v u Q I g e q i
def CF{b:Expr}{tb:TE}{r:R2}(f:xg X r)(m:PE X e Z)(l:PE X b tb)(hs:qN b):PE X (.Subscript e b S) (qi r Z tb):=by exact λc s j H Q I h=>Subscript_ (UL m l I h λv u a x y d g k i q=>f e b c a j d x y v u Q g k i q (hs _ _))
def a1C(K:B1):R2:=λx y H Q=>∃p xs i v,x=.ref p/\y=.int i/\N6 K H p xs/\T7 xs i=U v/\Q v H
def a1A(K:B1):R2:=λx y H Q=>∃p xs i v,x=.ref p/\y=.int i/\Y7 K H p xs/\T7 xs i=U v/\Q v H
def a1B:R2:=λx y H Q=>∃z i c,x=.str z/\y=.int i/\z.length<=D6/\T7 z.cps.toList i=U c/\Q (.str ⟨#[c]⟩) H
def a0a:xg X (a1C X.K):=by
 intro e k a s n H x y v u Q I D L h o;obtain⟨p,R,i,z,rfl,rfl,hq,F,q⟩:=h;cases D;obtain⟨t,rfl⟩:=L;obtain⟨l,r,f,O⟩:=I.list hq;obtain⟨j,c,C,P,G,E⟩:=Bw F;obtain⟨w,A,g⟩:=r.get C;have B:=r.length;have:=qv;have b:EP X a n Q w s:=⟨z,H,I,g,q⟩;by_cases m:0<=i
 . have d:i.toNat=j:=by rw[seqIndex_of m E]at c;exact Y9 c
   exact item_listR f.isList m dC (by rw[d];simpa using A) b o
 . have d:(i+l.toArray.size).toNat=j:=by rw[seqIndex_neg (Int.not_le.1 A2) G]at c;rw[Z0,<-B];exact Y9 c
   exact Qw f.isList.typeIs slot_list_getitem.lookup
    (wpAny_getItem_list_neg f.isList (Int.not_le.1 A2) (by rw[Z0]<;>simp_all) dC (by rw[d];simpa using A) ⟨rfl,b⟩) o
def a2L:xg X (a1A X.K):=by
 intro a c d s C H x y v u Q I g l h n;obtain⟨p,G,i,z,rfl,rfl,hq,k,q⟩:=h;cases g;obtain⟨t,rfl⟩:=l;obtain⟨o,r,e,B⟩:=I.tuple hq;obtain⟨j,m,f,D,F,E⟩:=Bw k;obtain⟨w,A,b⟩:=r.get f;have:=qv;exact Qw e.typeIs slot_tuple_getitem.lookup
  (getItem_tuple e dC dC (by rw[Z0,<-r.length];exact m) (by simpa using A) ⟨rfl,(⟨z,H,I,b,q⟩)⟩) n
def a2M:xg X a1B:=by
 intro a b d s C H x y v u Q I k p h w;obtain⟨z,i,c,rfl,rfl,B,n,q⟩:=h;obtain⟨t,rfl⟩:=k;obtain⟨D,rfl⟩:=p;obtain⟨j,e,g,E,o,l⟩:=Bw n;have f:z.cps.toList.length=z.length:=by simp[Str.length]
 rw[f]at e o l;have:=qv;exact tail_any (oJ s z t) slot_str_getitem.lookup (getItem_str (by have r:decide (i < -(2^63))=U':=L5 dC;have m:decide (i>=2^63)=U':=L5 dC;rw[r,m,Gn]) (by rw[e];simpa using g) ⟨.str ⟨#[c]⟩,H,I.tok _,⟨_,rfl⟩,q⟩) w
def Iy(K:B1):R2:=λx y H Q=>a1C K x y H Q\/a1A K x y H Q\/a1B x y H Q
def yH:xg X (Iy X.K):=a0a.or (a2L.or a2M)
def Dp(lo a:Option Int)(n:Nat):(oK lo a J n).1=((HT.N4 n 0 lo:Nat):Int)/\(oK lo a J n).2.1=((HT.N4 n n a:Nat):Int)/\(oK lo a J n).2.2=1:=by
 refine⟨?_,?_,rfl⟩
 . cases lo with
   |none=>simp[oK,HT.N4]
   |some i=>
    simp only[oK,HT.N4,Pu];by_cases h:i<0
    . simp only[h]<;>lia
    . simp only[h]<;>lia
 . cases a with
   |none=>simp[oK,HT.N4]
   |some i=>
    simp only[oK,HT.N4,Pu];by_cases h:i<0
    . simp only[h]<;>lia
    . simp only[h]<;>lia
def Cw(a:List w9)(lo b:Option Int):zp a.toArray lo b J=((a.drop (HT.N4 a.length 0 lo)).take (HT.N4 a.length a.length b-HT.N4 a.length 0 lo)).toArray:=by obtain⟨e,c,d⟩:=Dp lo b a.toArray.size;delta zp;rw[e,c,d];simp only[sliceRange_one,pick_run]<;>rfl
def a1x(K:B1):V->Option Int->Option Int->Hp->VK->Prop:=λx lo hi H Q=>∃a xs,x=.ref a/\N6 K H a xs/\∀p,H p=J->Q (.ref p) (upd H p (.lst (sR xs lo hi)))
def Yw:tJ X (a1x X.K):=by
 intro i s w H x v z u e f A Q I n p j t h;obtain⟨a,c,rfl,k,q⟩:=h;cases n;obtain⟨l,r,g,m⟩:=I.list k;have d:=r.length;refine⟨"list",_,slot_list_getitem.lookup,g.isList.typeIs,?_⟩;refine Ho g.isList p j t .none G9 ?_ (by rw[Z0]<;>simp_all);rw[Cw,<-d];refine⟨.ref s.heap.objs.size,_,I.laid (λb y q=>I0 _ q) O8 ?_,rfl,q _ (I.G8.fresh O8)⟩;exact⟨C3 (wW c e f) m,_,0,(r.drop (HT.N4 c.length 0 e)).take (HT.N4 c.length c.length f-HT.N4 c.length 0 e),W3 _ rfl⟩
noncomputable def dw:V->Bool
 | .non=>Uf
 | .bl _=>Uf
 | .int _=>Uf
 | .str _=>Uf
 |_=>U'
noncomputable def zd:V->V->Bool
 | .non,.non=>Uf
 | .bl a,.bl b=>a==b
 | .bl a,.int b=>(if a then 1 else 0)==b
 | .int a,.bl b=>a==(if b then 1 else 0)
 | .int a,.int b=>a==b
 | .str a,.str b=>a==b
 |_,_=>U'
def a2Z{A:T8}{y:V}{v:w9}(f:RelV y u)(c:RelV x v)(g:dw y=Uf)(e:dw x=Uf):zA A s u v (zd y x):=by
 cases y with
 |non=>
  cases f;cases x with
  |non=>cases c;exact Pn _
  |bl b=>cases c;exact SeqAt.EqAt.none_bool b
  |int b=>obtain⟨t,rfl⟩:=c;exact SeqAt.EqAt.none_int b t
  |str b=>obtain⟨t,rfl⟩:=c;exact SeqAt.EqAt.none_str b t
  |_=>exact absurd (show U'=Uf from e) bg
 |bl a=>
  cases f;cases x with
  |non=>cases c;exact Qp a
  |bl b=>cases c;exact SeqAt.EqAt.bool_bool a b
  |int b=>obtain⟨t,rfl⟩:=c;exact SeqAt.EqAt.bool_int a b t
  |str b=>obtain⟨t,rfl⟩:=c;exact SeqAt.EqAt.bool_str a b t
  |_=>exact absurd (show U'=Uf from e) bg
 |int a=>
  obtain⟨d,rfl⟩:=f;cases x with
  |non=>cases c;exact Qh a d
  |bl b=>cases c;exact SeqAt.EqAt.int_bool a d b
  |int b=>obtain⟨t,rfl⟩:=c;exact SeqAt.EqAt.int_int a d b t
  |str b=>obtain⟨t,rfl⟩:=c;exact PY a d b t
  |_=>exact absurd (show U'=Uf from e) bg
 |str a=>
  obtain⟨d,rfl⟩:=f;cases x with
  |non=>cases c;exact Qg a d
  |bl b=>cases c;exact SeqAt.EqAt.str_bool a d b
  |int b=>obtain⟨t,rfl⟩:=c;exact PU a d b t
  |str b=>obtain⟨t,rfl⟩:=c;exact SeqAt.EqAt.str_str a d b t
  |_=>exact absurd (show U'=Uf from e) bg
 |_=>exact absurd (show U'=Uf from g) bg
def nZ(x:V)(u:w9):Bool:=match u with
 | .none=>zd .non x
 | .bool b=>zd (.bl b) x
 | .int i _=>zd (.int i) x
 | .str z _=>zd (.str z) x
 |_=>U'
def OG{y:V}(r:RelV y u)(f:dw y=Uf):nZ x u=zd y x:=by
 cases y with
 |non=>cases r;rfl
 |bl b=>cases r;rfl
 |int i=>obtain⟨t,rfl⟩:=r;rfl
 |str z=>obtain⟨t,rfl⟩:=r;rfl
 |_=>exact absurd (show U'=Uf from f) bg
theorem qJ{x:V}:∀{xs:List V}{us:List w9},Vals xs us->xs.all dw=Uf->us.any (nZ x)=xs.any λy=>zd y x
 |_,_,.nil,_=>rfl
 |y::xs,u::us,.cons r t,f=>by rw[fN,dG]at f;rw[gn,gn,OG r f.1,qJ t f.2]
theorem nR{A:T8}{s:A6}{x:V}{v:w9}(c:RelV x v)(b:dw x=Uf):∀{xs:List V}{us:List w9},Vals xs us->xs.all dw=Uf->∀u∈us,zA A s u v (nZ x u)
 |_,_,.nil,_=>λu a=>by cases a
 |y::xs,u::us,.cons r t,f=>λd a=>by
  rw[fN,dG]at f;rcases List.mem_cons.mp a with rfl|a
  rw[OG r f.1];exact a2Z r c f.1 b;exact nR c b t f.2 d a
def yL(x:V)(xs:List V):Bool:=xs.any λy=>zd y x
def My(K:B1)(neg:Bool):R2:=λx y H Q=>∃p xs,y=.ref p/\(N6 K H p xs\/Y7 K H p xs)/\dw x=Uf/\xs.all dw=Uf/\Q (.bl (if neg then !yL x xs else yL x xs)) H
def Nc:Q7 X (P6 .In) (My X.K U'):=by
 intro f s j H x y v u Q I e i h;obtain⟨p,k,rfl,hq,d,fs,q⟩:=h;cases i;rcases hq with hq|hq
 . obtain⟨a,r,b,g⟩:=I.list hq;refine Pm (nZ x) b.isList (λw c=>nR e d r fs w (by simpa using c)) ⟨.bl _,H,I,rfl,?_⟩;rw[show a.toArray.any (nZ x)=a.any (nZ x) by simp,qJ r fs];exact q
 . obtain⟨a,r,b,g⟩:=I.tuple hq;refine SeqAt.in_tupleAt (nZ x) b (λw c=>nR e d r fs w (by simpa using c)) ⟨.bl _,H,I,rfl,?_⟩;rw[show a.toArray.any (nZ x)=a.any (nZ x) by simp,qJ r fs];exact q
def DZ:Q7 X (P6 .NotIn) (My X.K Uf):=by
 intro f s j H x y v u Q I e i h;obtain⟨p,k,rfl,hq,d,fs,q⟩:=h;cases i;rcases hq with hq|hq
 . obtain⟨a,r,b,g⟩:=I.list hq;refine SeqAt.notIn_listAt (nZ x) b.isList (λw c=>nR e d r fs w (by simpa using c)) ⟨.bl _,H,I,rfl,?_⟩;rw[show a.toArray.any (nZ x)=a.any (nZ x) by simp,qJ r fs];exact q
 . obtain⟨a,r,b,g⟩:=I.tuple hq;refine SeqAt.notIn_tupleAt (nZ x) b (λw c=>nR e d r fs w (by simpa using c)) ⟨.bl _,H,I,rfl,?_⟩;rw[show a.toArray.any (nZ x)=a.any (nZ x) by simp,qJ r fs];exact q
def DY:Q7 X (P6 .NotIn) (λx y H Q=>∃i j,x=.str i/\y=.str j/\Q (.bl (!(!(sU j i 0 j.length 1).isEmpty))) H):=by intro a s d H x y v u Q I c b h;obtain⟨i,j,rfl,rfl,q⟩:=h;obtain⟨t,rfl⟩:=c;obtain⟨e,rfl⟩:=b;exact notIn_str ⟨.bl _,H,I,rfl,q⟩
def FF:ag X (.builtin "len") (λxs H Q=>∃p ys,xs=[.ref p]/\(N6 X.K H p ys\/Y7 X.K H p ys)/\Q (.int ys.length) H):=by
 intro e s j H xs k Q I r h;obtain⟨p,ys,rfl,hq,q⟩:=h;obtain⟨u,rfl,g⟩:=vals1 r;cases g;have:=qv;rcases hq with hq|hq
 obtain⟨d,b,c,f⟩:=I.list hq;have a:=b.length;exact Calls.call_len_list c.isList (by simp only[Z0]<;>lia) ⟨.int ys.length,H,I.tok _,⟨s.toks+1,by rw[Z0,a]⟩,q⟩;obtain⟨d,b,c,f⟩:=I.tuple hq;have a:=b.length;exact len_tuple c (by simp only[Z0]<;>lia) ⟨.int ys.length,H,I.tok _,⟨s.toks+1,by rw[Z0,a]⟩,q⟩
def FE:ag X (.builtin "len") (λxs H Q=>∃z,xs=[.str z]/\z.length<=D6/\Q (.int z.length) H):=by intro a s d H xs e Q I r h;obtain⟨z,rfl,c,q⟩:=h;obtain⟨u,rfl,t,rfl⟩:=vals1 r;have:=qv;exact len_str dC ⟨.int z.length,H,I.tok _,⟨_,rfl⟩,q⟩
def ag.or{r c:List V->Hp->VK->Prop}(h:ag X u r)(h':ag X u c):ag X u (λxs H Q=>r xs H Q\/c xs H Q):=by
 intro a s b H xs e Q I d q;rcases q with q|q
 exact h a s b H xs e Q I d q;exact h' a s b H xs e Q I d q
def FC:ag X (.type "list") (λxs H Q=>∃p ys,xs=[.ref p]/\(N6 X.K H p ys\/Y7 X.K H p ys)/\∀l,H l=J->Q (.ref l) (upd H l (.lst ys))):=by
 intro k s A H xs C Q I r h;obtain⟨p,ys,rfl,hq,q⟩:=h;obtain⟨u,rfl,B⟩:=vals1 r;cases B;have m:∀a,Vals ys a->ys.length<=D6->∀c d,(∀b z,s.heap.get? b=U z->c.get? b=U z) ->
   c.get? s.heap.objs.size=U {cls:=.type "list",dict:=J,data:=.seq a.toArray d,slots:=#[]}->EP X k A Q (.ref s.heap.objs.size) {s with heap:=c}:=λa f i c d j e=>
  ⟨.ref s.heap.objs.size,_,I.laid j O8 (show Y8 X.prog X.w _ c _ (.lst ys)from⟨i,a,d,f,e⟩),rfl,q _ (I.G8.fresh O8)⟩
 rcases hq with hq|hq
 obtain⟨a,f,x,i⟩:=I.list hq;have:=f.length;obtain⟨o,v,y,n,t⟩:=x.isList;exact call_list_seq p (.inl rfl) v y t (λc d j e=>m a f i c d j e) (by simp only[Z0]<;>simp_all);obtain⟨a,f,x,i⟩:=I.tuple hq;have:=f.length;obtain⟨o,v,y,n,t⟩:=x;exact call_list_seq p (.inr rfl) v y t (λc d j e=>m a f i c d j e) (by simp only[Z0]<;>simp_all)
def CA:ag X (.type "tuple") (λxs H Q=>∃p ys,xs=[.ref p]/\((N6 X.K H p ys/\∀l,H l=J->Q (.ref l) (upd H l (.tup ys)))\/(Y7 X.K H p ys/\Q (.ref p) H))):=by
 intro a s k H xs x Q I r h;obtain⟨p,ys,rfl,h⟩:=h;obtain⟨u,rfl,t⟩:=vals1 r;cases t;rcases h with ⟨hq,q⟩|⟨hq,q⟩
 . obtain⟨c,f,g,j⟩:=I.list hq;have:=f.length;refine call_tuple_list g.isList (λd v=>?_) (by simp only[Z0]<;>simp_all);have m:Inv X a k H {s with heap:=d}:=I.kept v
   have n:Inv X a k (upd H d.objs.size (.tup ys)) {s with heap:=d.push {cls:=.type "tuple",data:=.seq c.toArray}}:=
    m.laid (λb o e=>I0 _ e) O8 (show Y8 X.prog X.w _ _ _ (.tup ys)from⟨j,c,f,uW _ _⟩)
   exact⟨.ref d.objs.size,_,n,rfl,q _ (m.G8.fresh O8)⟩
 obtain⟨c,f,g,j⟩:=I.tuple hq;exact call_tuple_same g ⟨.ref p,H,I,rfl,q⟩
def tyV(K:B1)(T:String)(x:V)(H:Hp):Prop:=match x with
 | .str _=>T = "str"
 | .int _=>T = "int"
 | .ref p=>(T = "list"/\∃xs,N6 K H p xs)\/(T = "tuple"/\∃o,K.lookup p=U o/\o.cls=.type "tuple"/\o.dict=J) \/
   (T = "dict"/\((∃kvs,H p=U (.dK kvs))\/∃kvs,H p=U (.dT kvs)))\/(T = "set"/\∃S n,H p=U (.set S n))
 |_=>False
def LL{H:Hp}(I:Inv X Y k H s)(r:RelV x u)(ty:tyV X.K Q x H):
  s.TypeIs u Q/\∀a,u=.ref a->∃ob,s.heap.get? a=U ob/\ob.dict=J:=by
 cases x with
 |str z=>
  obtain⟨t,rfl⟩:=r;cases(show Q = "str" from ty);exact⟨oJ s z t,λ_ e=>nomatch e⟩
 |int i=>
  obtain⟨t,rfl⟩:=r;cases(show Q = "int" from ty);exact⟨typeIs_int s i t,λ_ e=>nomatch e⟩
 |ref p=>
  cases r;rcases ty with ⟨rfl,q,hq⟩|⟨rfl,o,b,l,f⟩|⟨rfl,b⟩|⟨rfl,S,n,b⟩
  . obtain⟨m,_,j,_⟩:=I.list hq;refine⟨j.isList.typeIs,λa e=>?_⟩;cases e;obtain⟨o,n,e,c,f,_⟩:=j;exact⟨o,e,f⟩
  . refine⟨⟨o,I.hI p o b,l⟩,λa e=>?_⟩;cases e;exact⟨o,I.hI _ o b,f⟩
  . have z:∃o,s.heap.get? p=U o/\o.ExactDict:=by
      rcases b with ⟨g,b⟩|⟨g,b⟩
      obtain⟨_,_,_,_,o,_,_,e,d,_⟩:=I.G8 p _ b;exact⟨o,e,d⟩;obtain⟨_,_,_,_,o,_,_,e,d,_⟩:=I.G8 p _ b;exact⟨o,e,d⟩
    obtain⟨o,e,d⟩:=z;refine⟨⟨o,e,d.1⟩,λa h=>?_⟩;cases h;exact⟨o,e,d.2.1⟩
  . obtain⟨o,_,_,_,e,d,_⟩:=I.G8 p _ b;refine⟨⟨o,e,d.1⟩,λa h=>?_⟩;cases h;exact⟨o,e,d.2.1⟩
 |_=>exact dV ty
def Rv(K:B1)(T:String)(r:V->List V->Hp->VK->Prop)(to:TE):TE:=λσ H Q=>to σ H λx H1=>tyV K T x H1/\r x [] H1 Q
def Di(K:B1)(T:String)(r:V->List V->Hp->VK->Prop)(to:TE)(t:TA):TE:=λσ H Q=>to σ H λx H1=>tyV K T x H1/\t σ H1 λxs H2=>r x xs H2 Q
variable{T:String}{r:V->List V->Hp->VK->Prop}
def MV{name:Str}{cpos:Pos}(k:PlainAttrs T)(slot:Slot T name Q)(d:typeOf (.builtin Q)=pure (.type "method_descriptor"))(i:zj X Q r)(j:PE X e Z)(b:autoParam (HC X e name) B0)(c:autoParam ((S.endLine==cpos.line)=Uf) B0):PE X (.Call (.Attribute e name S) [] [] cpos) (Rv X.K T r Z):=by
 intro a s f H u I h;refine wpAny_Call_method0_late b c (G5 (j a s f H _ I h) λv m ⟨x,p,g,o,t,q⟩=>?_);obtain⟨n,l⟩:=LL g o t;exact⟨T,Q,k,slot,d,n,l,vy rfl (PySem.evalArgs_none (i a m f p x [] v [] u g o .nil q))⟩
def yt{o:Expr}{es:List Expr}{t:TA}{name:Str}{cpos:Pos}(u:PlainAttrs T)(slot:Slot T name Q)(i:typeOf (.builtin Q)=pure (.type "method_descriptor"))(C:zj X Q r)(n:PE X o Z)(M:PA X (e::es) t)(bm:HB X o name S e es cpos):
  PE X (.Call (.Attribute o name S) (e::es) [] cpos) (Di X.K T r Z t):=by
 obtain⟨f,g,d,hs,c⟩:=bm;intro b s j H a I h;refine wpAny_Call_method_late f g d rfl (G5 (n b s j H _ I h) λv y ⟨x,G,k,m,A,L⟩=>?_);obtain⟨F,w⟩:=LL k m A;refine⟨T,Q,u,slot,i,F,w,?_⟩;have l:=M cpos b y j G _ k L;rw[hs]at l⊢;refine vy (by show(U'||(gi cpos (W2 es X.env)).any (·.1))=U';rw[c]<;>rfl) (Aw ?_);exact G5 l λz E ⟨q,D,p,B,q2⟩=>C b E j D x q v z a p m B q2
end
def XW(X:Cx)(id:String)(r:V->List V->Hp->VK->Prop):Prop:=
 ∀(pins:List (Addr×Obj)) (s:A6) (σ:St) (H:Hp) (x:V) (xs:List V) (v:w9) (us:List w9) (Q:VK),Inv X pins σ H s->RelV x v->Vals xs us->r x xs H Q ->
  wpAny (model X.prog X.w) X.A (call (.builtin id) (v::us)) (EP X pins σ Q) X.xe s
def Vals.one(h:Vals [x] a):∃u,a=[u]/\RelV x u:=by
 cases h with
 |cons r t=>cases t;exact⟨_,rfl,r⟩
def Vals.zero:∀{us:List w9},Vals [] us->us=[]
 |_,.nil=>rfl
theorem Vals.reverse{xs:List V}{us:List w9}(h:Vals xs us):Vals xs.reverse us.reverse:=by
 induction h with
 |nil=>exact .nil
 |cons r t a=>rw[Ao,Ao];exact Vals.append a (.cons r .nil)
section
variable{H:Hp}
def Inv.KD{ys:List V}{its':List w9}{f:Array w9->Array w9}{t':Nat}(I:Inv X Y k H s)(d:H l=U (.lst R))(e:s.heap.get? l=U {cls:=.type "list",data:=.seq a.toArray n})(g:f a.toArray=its'.toArray)(c:Vals ys its')(hz:ys.length<=D6):
  Inv X Y k (upd H l (.lst ys)) {s with heap:=s.heap.update l (Obj.mapSeq f),toks:=t'}:=by
 have q:=PySem.IsL.update e f;rw[g]at q;refine I.write (by rw[d];exact trivial) (.inl rfl) (λi u h b=>(Heap.get?_update_other s.heap (Obj.mapSeq f) (lS h)).trans b) ⟨_,q⟩ ?_;exact⟨hz,its',_,c,q⟩
def Inv.a5s(I:Inv X Y k H s)(b:Vals R a)(hz:R.length<=D6):
  Inv X Y k (upd H s.heap.objs.size (.lst R)) {s with heap:=s.heap.push {cls:=.type "list",data:=.seq a.toArray},toks:=n}:=
 I.laid (λ_ _ q=>I0 _ q) O8 ⟨hz,a,0,b,W3 _ rfl⟩
theorem Inv.fresh(I:Inv X Y k H s):H (hz s)=J:=I.G8.fresh O8
def Inv.Eo(I:Inv X Y k H s)(b:H l=U (.lst R)):R.length<=D6/\∃(a:List w9) (n:Nat),Vals R a/\R.length=a.length/\s.heap.get? l=U {cls:=.type "list",data:=.seq a.toArray n}:=by obtain⟨z,a,n,r,e⟩:=I.G8 l _ b;exact⟨z,a,n,r,r.length,e⟩
def Ti(h:n<=D6):QG n=U':=by exact L5 qc
end
def vR:V->List V->Hp->VK->Prop:=λx vs H Q=>∃l xs y,x=.ref l/\vs=[y]/\H l=U (.lst xs)/\xs.length<D6/\Q .non (upd H l (.lst (xs++[y])))
def uj:XW X "list.append" vR:=by
 intro c s k H x j v p Q I f d h;obtain⟨l,o,y,rfl,rfl,b,i,q⟩:=h;cases f;obtain⟨u,rfl,g⟩:=d.one;obtain⟨z,a,n,r,m,e⟩:=I.Eo b;refine lW F.slot_list_append ⟨_,e,rfl⟩ F.entry_list_append (F.args_list_append_2 _ _) (PySem.list_append l a.toArray n u (by rw[Z0];simp_all)) ⟨e,?_⟩;refine⟨.non,_,I.KD b e G9 (r.append (.cons g .nil)) ?_,rfl,q⟩;rw[L6,mL];exact A2
def Iz:V->List V->Hp->VK->Prop:=λx vs H Q=>∃l b xs zs,x=.ref l/\vs=[.ref b]/\H l=U (.lst xs)/\H b=U (.lst zs)/\xs.length+zs.length<=D6/\Q .non (upd H l (.lst (xs++zs)))
def Nw:XW X "list.extend" Iz:=by
 intro g s E H x C v G Q I k w h;obtain⟨l,b,L,A,rfl,rfl,i,j,B,q⟩:=h;cases k;obtain⟨u,rfl,o⟩:=w.one;cases o;obtain⟨z,c,n,r,D,e⟩:=I.Eo i;obtain⟨K,a,m,t,y,p⟩:=I.Eo j;have f:c.toArray.size+a.toArray.size<=D6:=by rw[Z0,Z0];simp_all
 have d:¬(!c.toArray.isEmpty&&QG (c.toArray.size+a.toArray.size))=Uf:=by rw[Ti f,zX];exact bg
 refine lW F.slot_list_extend ⟨_,e,rfl⟩ F.entry_list_extend (F.args_list_extend_2 _ _)
  (AutoSeq1.list_extend_list_list_0 l c.toArray n b a.toArray m d (by rw[Z0];exact nTr) (Pz A2)) ⟨e,p,?_⟩
 refine⟨.non,_,I.KD i e G9 (r.append t) ?_,rfl,q⟩;rw[L6];omega
def DJ:V->List V->Hp->VK->Prop:=λx vs H Q=>∃l xs,x=.ref l/\vs=[]/\H l=U (.lst xs)/\Q .non (upd H l (.lst xs.reverse))
def Kw:XW X "list.reverse" DJ:=by
 intro d s k H x j v o Q I g f h;obtain⟨l,m,rfl,rfl,c,q⟩:=h;cases g;have b:=f.zero;subst b;obtain⟨z,a,n,r,i,e⟩:=I.Eo c;refine lW F.slot_list_reverse ⟨_,e,rfl⟩ F.entry_list_reverse (F.args_list_reverse_1 _) (AutoSeq1.list_reverse_list_0 l a.toArray n (by rw[Z0];simp_all)) ⟨e,?_⟩;refine⟨.non,_,I.KD c e G9 r.reverse ?_,rfl,q⟩;rw[List.length_reverse];omega
def Mz:V->List V->Hp->VK->Prop:=λx vs H Q=>∃l xs,x=.ref l/\vs=[]/\H l=U (.lst xs)/\Q .non (upd H l (.lst []))
def Tr:XW X "list.clear" Mz:=by
 intro d s k H x j v o Q I g f h;obtain⟨l,m,rfl,rfl,c,q⟩:=h;cases g;have a:=f.zero;subst a;obtain⟨z,b,n,r,i,e⟩:=I.Eo c;refine lW F.slot_list_clear ⟨_,e,rfl⟩ F.entry_list_clear (F.args_list_clear_1 _) (AutoSeq1.list_clear_list_0 l b.toArray n (by rw[Z0];simp_all)) ⟨e,?_⟩;exact⟨.non,_,I.KD c e rfl .nil (jx _),rfl,q⟩
end L2
namespace Att
open PySem PySem.W PySem.Calls PyProof.Rows
variable{P:Params}{h:Heap}{l:OpenLaw}
def yK:∀(ns:List Int) (vs:List w9),WellAll P h vs (ns.map WData.int)->qQ vs ns:=by
 intro ns;induction ns with
 |nil=>
  intro vs w;cases w;exact .nil
 |cons n ns c=>
  intro vs w;cases w with
  |cons a b=>
   cases a;exact .cons _ _ (c _ b)
def Ml{n:Nat}(o:l.most=U n){args:List WData}{b:List w9}(c:l.row.toRowW.claim.pre args=Uf)(j:WellAll P h b args):
  ∃a vs ns,b=[fu a]/\args=[WData.list (ns.map WData.int)]/\h.get? a=U {cls:=.type "list",data:=.seq vs.toArray}/\qQ vs ns/\ns.length<=n:=by
 obtain⟨d,r,rfl,x,s⟩:=hasAllW_cons ((pre_splitW c).1);obtain rfl:=hasAllW_nil s;obtain⟨y,rfl,u⟩:=hasW_list x;obtain⟨ns,rfl⟩:=items_int u;have e:ns.length<=n:=by
  have i:(WTm.not (.lt (.lit (.int n)) (.len (.arg 0)))).holds [] {args:=[.list (ns.map .int)]}=Uf:=by have i:=(holds_andW ((pre_splitW c).2)).1;rw[o]at i;exact i
  have g:=condW_of i (w_not (w_lt w_lit (w_len_list (w_arg rfl))));refine Aj λq=>?_
  first
   |(rw[S6 t]at g;exact absurd g A9)
   |(simp at g;lia)
 cases j with
 |cons v w=>
  cases w;cases v with
  |list p f=>exact⟨_,_,ns,rfl,rfl,p,yK ns _ f,e⟩
def MN(l:OpenLaw)(args:List WData):l.row.toRowW.claim.post args (.bool Uf) args=Uf:=
 postW_of
  (show WShape.has [] (.bool Uf) .bool=Uf by first|rfl|decide|simp[WShape.has])
  (show(WTm.eq .res (.lit (.bool Uf))).value [] {args:=args,res:=U (.bool Uf),after:=args}=U (.bool (Uf==Uf))from w_eq_bool (w_res rfl) w_lit) rfl
def HU{n:Nat}{q:V1}{b:List Str}{z:(Str->Option w9)->Heap->Prop}{A:M5->Heap->Prop}{d:DefRec} (K:l.most=U n) (p:d.params.defaults=[]) (call:∀(w:M5) (X4 s₁:A6) (mg k:Str->Option w9) (fa:Addr) (o:Obj) (u j e:w9) (a:Addr) (vs:List w9) (ns:List Int),
   Ground q b [] z w X4 mg k s₁.heap->A w s₁.heap ->
   s₁.heap.get? fa=U o->o.data=.func (docDef d.name d.params d.body d.scope u j e)->s₁.heap.CodeRec j d.name->mg d.name=U (.ref fa) ->
   s₁.heap.get? a=U {cls:=.type "list",data:=.seq vs.toArray}->qQ vs ns->ns.length<=n->s₁.gens = #[] ->
   codeAny (model l.prog w) lQ (.call (.ref fa) ⟨[.ref a],[]⟩) (λr s'=>r=.ok (.ret (.bool Uf))/\OldK s₁.heap s'.heap/\s'.os=s₁.os/\jv s'.gens) s₁) :
  WalkO q b z A l.row.toRowW d [] (λf vs=>FX f vs):=by
 intro w X4 s₁ mg k G Y fa o u j e O kV B I s hD m F y x N g v M t H;obtain rfl:=Dflts.none hD p;obtain rfl:=Dflts.noKw hD;obtain⟨a,vs,ns,rfl,rfl,h,c,i⟩:=Ml K g t;refine enter_call (zM (call w X4 s₁ mg k fa o u j e a vs ns G Y B (fd_plain I) s m h c i F) λr s' hq=>?_);obtain⟨rfl,C,D,L⟩:=hq;exact⟨.inl ⟨.bool Uf,.bool Uf,[],rfl,λ_=>rfl,.bool Uf,MN l _,λ_=>⟨List.Pairwise.nil,λ_ E=>(nomatch E)⟩⟩,C,D,L⟩
section
variable{K:Frag}
noncomputable def ledger(h:Heap)(L d:Addr):List (Addr×Obj):=(R8 h.objs.size).filterMap λa=>if a=L\/a=d then J else(h.get? a).map λo=>(a,o)
end
end Att
namespace L2
open PySem PySem.Spec PyProof.Rows
variable{c:Cx}{m y:Hp}{t S:Addr}{e:B1}{N i9:Nat}{o E j0:Expr}{p Q j4:Pos}{I:Bool}{O j5:List Addr}{g e9:TE}{u i6:Str}{B:St}{P:V1}{z:M5}{A:A6}{Z:List Expr}{L:V}{M:List V}{T:List l5}{Y:T8}{a9:Int}{b5:w9}{b6:TT}{b7 g8:w9->A6->Prop}{b8:TA}{b9 i7:List Str}{c7:List (Addr×Obj)}{c8:Type}{d6:l5}{d9:Heap}{e8:Array w9}{g6:cP}{j1:Stmt}{j6:List (Str×V)}{j7:R2}{j9:V2}{k6:TG}{k7:List (Key×V)}{k9:Option Addr}{l8:TI}{l9:List (List Key×V)}{m4:TS}{m5:List w9}{m6:HO}{m7:String}{m8:List V->Hp->VK->Prop}{n9:wX}{p8:Key}{p9:List (List Key×Addr×w9)}{q9:XK}{r9:List Stmt}{t4:List (Str×Addr)}{t5:Option w9->A6->Prop}{t6:Option V}{t7:CmpOp}{t8:List Int}{t9:Str->Option w9}{u4:Array (Option w9)}{u5:Result->A6->Prop}{u6:Option Obj}{u7:Option Int}{u8:List (Str×l5)}{u9:Option (Option V)}{v7:Int->Int->V}{v8:Int->Int->l5}
def LG(h:qQ m5 t8):Vals (t8.map V.int) m5:=by
 induction h with
 |nil=>exact .nil
 |cons n t _ i=>exact .cons ⟨t,rfl⟩ i
noncomputable def UW(H:Hp):Prop:=∀b,H b=J\/∃o xs,H b=U (.gM o (.lst xs))
def TU{mb:Str->Option w9}{CX:rH}{sp:Sp}(KX:e.In A.heap)(hns:A.heap.Ns T1 t9)(hb:A.heap.Ns builtinsNs mb)(hbb:∀u:Str,u ≠ "__name__"->mb u=ig u)(hlim:A.heap.NoLimit)(hg:A.gens = #[])(ha:A.heap.get? S=U {cls:=.type "list",data:=.seq m5.toArray})(hi:qQ m5 t8)(hl:t8.length<=D6)(hr:eS N lQ)(F:∀base:Heap,e.In base->base.Ns T1 t9->gU P z e t9 base CX N t j9 [u] sp)(hbind:∀(s:A6) (k:w9),oG s j9 ⟨[k],[]⟩ [(u,k)])(hsp:∀H:Hp,UW H->N6 e H S (t8.map V.int)->sp [.ref S] H (λv _=>v=.bl Uf) λ_ _ _=>False)(hCX:∀H K s',CX [] H A (λ_ _ _=>False) K s'->False):
  codeAny (model P z) lQ (.call (.ref t) ⟨[.ref S],[]⟩) (λr s'=>r=.ok (.ret (.bool Uf))/\OldK A.heap s'.heap/\s'.os=A.os/\jv s'.gens) A:=by
 have rv:=LG hi;have core:∀H:Hp,UW H->N6 e H S (t8.map V.int)->bR P z H A.heap->(∀b,H b≠J->b=S)->(H S≠J->e.lookup S=J) ->
   codeAny (model P z) lQ (.call (.ref t) ⟨[.ref S],[]⟩) (λr s'=>r=.ok (.ret (.bool Uf))/\OldK A.heap s'.heap/\s'.os=A.os/\jv s'.gens) A:=by
  intro H hO hS G8 hA hK;have base_of:∀{b:Addr}{o:Obj},A.heap.get? b=U o->H b=J->(uC A.heap H).get? b=U o:=λK n=>Ud K n
  have noA:∀{b:Addr}{o:Obj}{es:Array DictEntry}{ep:Nat},A.heap.get? b=U o->o.data=.dict es ep->H b=J:=λ{b o es ep} K d=>by
   cases q:H b with
   |none=>rfl
   |some k=>
    have e':=hA b (by rw[q];simp);subst e';rw[ha]at K;cases K;cases d
  have nsK:∀{b:Addr}{m:Str->Option w9},A.heap.Ns b m->(uC A.heap H).Ns b m:=λ{b m} ⟨o,es,ep,K,d,r⟩=>⟨o,es,ep,base_of K (noA K d),d,r⟩
  have hKb:=λb o K=>base_of (KX b o K) (by
   cases q:H b with
   |none=>rfl
   |some k=>
    have e':=hA b (by rw[q];simp)
    subst e';rw[hK (by rw[q];simp)]at K;exact nE K)
  have hM:Mod e t9 (uC A.heap H):=⟨hKb,nsK hns,⟨mb,nsK hb,hbb⟩,let ⟨mc,h1,h2⟩:=hlim;⟨mc,nsK h1,h2⟩⟩;have e0:xU P z e t9 (uC A.heap H) lQ [] A H:=⟨rfl,hM,λb o K=>Zz K,Nat.le_of_eq (Ot _ _),trivial,λb hb=>absurd (show b∈([])from hb) G9,G8,.of_eq hg⟩;refine zM ((F _ hKb (nsK hns)).run lQ [] A H ⟨[.ref S],[]⟩ [.ref S] [.ref S] _ _ hr e0 (hbind A (.ref S)) (.cons rfl .nil) (hsp H hO hS)) λr s' h=>?_
  cases r with
  |error K=>exact(hCX H K s' h).elim
  |ok fl=>
   cases fl with
   |next=>exact dV h
   |brk=>exact dV h
   |cont=>exact dV h
   |ret k=>
    obtain⟨v,H',os,bare,un,hok',r',q⟩:=h;subst q;obtain rfl:=r';refine⟨rfl,OldK.of_keep λb o K=>?_,os,bare⟩
    cases q:H b with
    |none=>exact un.keep b o K q (by intro w;exact absurd (show b∈([])from w) G9) G9
    |some k=>
     rcases hO b with w|⟨ob,xs,w⟩
     rw[q]at w;exact nS w;have z2:=un.sI b ob _ w;obtain⟨e1,_⟩:=G8 b _ w;obtain⟨e2,_⟩:=hok' b _ z2;rw[K]at e1;cases e1;exact e2
 cases hk:e.lookup S with
 |some o=>
  have K:=KX S o hk;rw[ha]at K;cases K;refine core (λ_=>J) (λ_=>.inl rfl) (.inr ⟨_,m5.toArray,_,hk,rfl,rfl,rfl,by rw[Z0,hi.length];exact hl,by simpa using rv⟩) (λb k w=>by have z':=w;exact nE z') (λb w=>absurd rfl w) λw=>absurd rfl w
 |none=>
  refine core (λb=>if b=S then U (.gM {cls:=.type "list",data:=.seq m5.toArray} (.lst (t8.map V.int)))else J) (λb=>?_) (.inl (.inr ⟨{cls:=.type "list",data:=.seq m5.toArray},A3 rfl⟩)) (λb k w=>?_) (λb w=>?_) λ_=>hk
  . by_cases hb:b=S;exact .inr ⟨_,_,A3 hb⟩;exact .inl (A4 hb)
  . by_cases hb:b=S;have z':=(A3 hb).symm.trans w;cases z';subst hb;exact⟨ha,by rw[C8];exact hl,m5,_,rv,ha⟩;have z':=(A4 hb).symm.trans w;exact nE z'
  . by_cases hb:b=S;exact hb;exact absurd (A4 hb) w
def Yj{l:GC}{n k:Nat}{R:(Str->Option w9)->Heap->Prop}{D:M5->Heap->Prop}{d:DefRec}{K:Params->B1}{CX:M5->rH}{sp:M5->Sp}{x:Str} (E:l.most=U n) (z:n<=D6) (y:d.params.defaults=[]) (N:eS k lQ) (O:∀(w:M5) (h:Heap),D w h->(K w.params).In h) (F:∀(w:M5) (mg:Str->Option w9) (fa:Addr) (h:Heap),(K w.params).In h->h.Ns T1 mg->mg d.name=U (.ref fa) ->
   ∃fd:V2,(∀(s:A6) (u:w9),oG s fd ⟨[u],[]⟩ [(x,u)]) /\
    ∀base:Heap,(K w.params).In base->base.Ns T1 mg->gU l.prog w (K w.params) mg base (CX w) k fa fd [x] (sp w))
  (r:∀(w:M5) (H:Hp) (a:Addr) (ns:List Int),ns.length<=n->UW H->N6 (K w.params) H a (ns.map V.int)->sp w [.ref a] H (λv _=>v=.bl Uf) λ_ _ _=>False)
  (A:∀(w:M5) (H:Hp) (s:A6) (e:w9) (s':A6),CX w [] H s (λ_ _ _=>False) e s'->False) :
  PySem.W.WalkO P b9 R D l.row.toRowW d [] (λf vs=>FX f vs):=by
 refine Att.HU E y λw B p mg mb fa o pm cd Q a vs ns G Y ho Z S t m i c q=>?_;have C:=O w _ Y;obtain⟨fd,X,I⟩:=F w mg fa _ C G.T.g t;exact TU C G.T.g G.T.b G.T.builtins G.T.nolimit q m i (C3 c z) N I X (λH L M=>r w H a ns c L M) λH e s'=>A w H p e s'
noncomputable def inClass(s:Stmt)(j:Nat):Stmt:=match s with
 | .ClassDef _ _ _ body _ _ _ _ _ _ _=>body.getD j (.Pass ⟨0,0,0,0⟩)
 |_=>.Pass ⟨0,0,0,0⟩
noncomputable def iP(s:Stmt):Arguments:=match s with
 | .FunctionDef _ a _ _ _ _ _ _ _ _=>a
 |_=>{posonlyargs:=[],args:=[],vararg:=J,kwonlyargs:=[],kw_defaults:=[],kwarg:=J,defaults:=[]}
noncomputable def bF(s:Stmt):List Stmt:=match s with
 | .FunctionDef _ _ b _ _ _ _ _ _ _=>b
 |_=>[]
noncomputable def L4(s:Stmt):cP:=match s with
 | .FunctionDef _ _ _ _ _ _ sc _ _ _=>sc
 |_=>{kind:=.function,names:=[],isGenerator:=U',isCoroutine:=U'}
noncomputable abbrev D7:rH:=λ_ _ _ _ _ _=>False
noncomputable abbrev E0:XK:=λ_ _ _=>False
def mH:Passes D7 c E0:=λ_ _ _ _ _ _ _ h=>h.elim
structure rG(K:B1)(x qual:Str)(st:Stmt)(f:Addr)(fd:V2):Prop where
 ex:∃(oc:w9) (od:Option Addr) (kV doc pm:w9) (an:Option Addr) (cdv ct:w9) (osl:Array (Option w9)),
  fd=ie x qual (iP st) (bF st) (L4 st) .none kV doc pm an cdv ct/\K.lookup f=U ⟨oc,od,.func fd,osl⟩/\zY K cdv qual=Uf
 kp:jz K (.ref f)=Uf
section
variable{K:B1}{mg:Str->Option w9}
def rG.gL{sp:Sp} (F:rG K u i6 j1 t j9) (S:iT b9 i7 (L4 j1)) (len:∀vs H Q E,sp vs H Q E->vs.length=i7.length) (g₀:∀(b:w9) (A:T8) (outer:List Env) (s:A6) (H:Hp) (vs:List V) (Q:VK) (E:XK),cL I i9 (A.deeper (ft i6 (L4 j1) (hz s) t b))->sp vs H Q E ->
   ∃c,lP (Jt I D7 P z K mg d9 b9 i6 (L4 j1) t b A outer s H E).pB (bF j1) c/\c {nx:=λ_ H'=>Q .non H',rt:=Q} (start b9 vs) H):Ls I P z K mg d9 D7 (i9+1) t j9 i7 sp:=by
 obtain⟨w,p,kV,n,v,o,b,r,j,rfl,l,i⟩:=F.ex;refine a4B l i S len λA outer s H vs Q E m g=>?_;obtain⟨c,h,q⟩:=g₀ b A outer s H vs Q E m g;exact⟨c,h.pB,q⟩
def rG.ok{sp:Sp} (F:rG K u i6 j1 t j9) (S:iT b9 i7 (L4 j1)) (len:∀vs H Q E,sp vs H Q E->vs.length=i7.length) (c:∀(b:w9) (A:T8) (outer:List Env) (s:A6) (H:Hp) (vs:List V) (Q:VK) (E:XK),eS i9 (A.deeper (ft i6 (L4 j1) (hz s) t b))->sp vs H Q E ->
   ∃w,lP (oi D7 P z K mg d9 b9 i6 (L4 j1) t b A outer s H E).pB (bF j1) w/\w {nx:=λ_ H'=>Q .non H',rt:=Q} (start b9 vs) H):gU P z K mg d9 D7 (i9+1) t j9 i7 sp:=F.gL S len c
def rG.binds(F:rG K u i6 j1 t j9)(h:∀(kV b i:w9) (e:Option Addr) (c ct:w9) (us:List w9),us.length=b9.length->bindArgs (ie u i6 (iP j1) (bF j1) (L4 j1) .none kV b i e c ct) ⟨us,[]⟩=pure (b9.zip us)):Binds K j9 b9 []:=by obtain⟨l,m,kV,b,i,e,c,ct,j,rfl,n,k⟩:=F.ex;exact .all (h kV b i e c ct)
def a2U{h:Option Addr}{kV d i b ct:w9}(l:K.lookup t=U ⟨b5,k9,.func (ie u i6 (iP j1) (bF j1) (L4 j1) .none kV d i h b ct),u4⟩)(c:zY K b i6=Uf)(k:jz K (.ref t)=Uf):rG K u i6 j1 t (ie u i6 (iP j1) (bF j1) (L4 j1) .none kV d i h b ct):=⟨⟨b5,k9,kV,d,i,h,b,ct,u4,rfl,l,c⟩,k⟩
end
noncomputable def a0R:Option hZ->Bool
 |some .local|some .cell|some .free=>Uf
 |_=>U'
noncomputable def a2z:Option hZ->Bool
 |some .local|some .cell=>Uf
 |_=>U'
def vs(h:autoParam (a0R (g6.names.lookup u)=Uf) B0):JC g6 u:=by
 unfold JC;revert h;cases g6.names.lookup u with
 |none=>exact nofun
 |some k=>cases k<;>simp[a0R]
def lc(h:autoParam (a2z (g6.names.lookup u)=Uf) B0):Loc g6 u:=by
 unfold Loc;revert h;cases g6.names.lookup u with
 |none=>exact nofun
 |some k=>cases k<;>simp[a2z]
def pv(i:Nat)(b:autoParam (c.N[i]?=U u) B0)(X:JC c.env.scope u:=by exact vs)(hd:autoParam (jY u) B0)(a:autoParam ((u==("__classdict__" : Str))=U') B0):PE c (.Name u p) (O0 i):=a1X b X hd a
noncomputable def A5(H H':Hp):Prop:=∀b o,H b=U o->H' b=U o
def A5.refl(H:Hp):A5 H H:=λ_ _ h=>h
def A5.trans{H2:Hp}(a:A5 m y)(b:A5 y H2):A5 m H2:=λc o h=>b c o (a c o h)
def A5.free(e:A5 m y)(h:y t=Option.none):m t=Option.none:=by
 cases q:m t with
 |none=>rfl
 |some o=>
  rw[e t o q]at h;exact nS h
def A5.seq(K:A5 m y)(h:N6 e m t M):N6 e y t M:=by
 rcases h with (h|⟨o,h⟩)|h
 exact .inl (.inl (K _ _ h));exact .inl (.inr ⟨o,K _ _ h⟩);exact .inr h
def Lk(env:Env):∀(names:List (Str×hZ)) (a:List (Str×Addr)),(∀y∈names,y.2=.free->∃c,env.cells.lookup y.1=U c)->(∀x c,a.lookup x=U c->env.cells.lookup x=U c) ->
  ∃cl,(forIn names a λy (cs:List (Str×Addr))=>if (y.2==.free)=Uf then(do let c <- cellOf env y.1;pure (ik ((y.1,c)::cs)))else pure (ik cs):Sem (List (Str×Addr)))=pure cl /\
   (∀x c,cl.lookup x=U c->env.cells.lookup x=U c)/\(∀y∈names,y.2=.free->(cl.lookup y.1).isSome=Uf)/\(∀x,(a.lookup x).isSome=Uf->(cl.lookup x).isSome=Uf):=by
 intro l_;induction l_ with
 |nil=>
  intro a _ ha;exact⟨a,by simp only[List.forIn_nil],ha,(λ_ h=>nomatch h),(λ_ h=>h)⟩
 |cons a_ r ih_=>
  obtain⟨n,k⟩:=a_;intro a h ha;have s:=λy b=>h y (F8 _ b);by_cases o:k=.free
  . subst o;obtain⟨c,q⟩:=h (n,.free) F5 rfl;have i:∀x c',((n,c)::a).lookup x=U c'->env.cells.lookup x=U c':=λx c' e=>by
     rw[oV]at e;cases d:x==n with
     |true=>
      rw[d]at e;cases e;rw[eq_of_beq d];exact q
     |false=>
      rw[d]at e;exact ha x c' e
    obtain⟨cl,l,p,j,m⟩:=ih_ ((n,c)::a) s i;have t:=m;refine⟨cl,?_,p,λy b f=>?_,λx d=>t x ?_⟩
    . rw[Af];have v:cellOf env n=pure c:=by delta cellOf;rw[q]
      simp only[v];exact l
    . rcases List.mem_cons.mp b with rfl|b
      exact t n G9;exact j y b f
    . rw[oV];cases x==n<;>simp[d]
  . obtain⟨cl,l,p,j,m⟩:=ih_ a s ha;refine⟨cl,?_,p,λy b f=>?_,m⟩
    . rw[Af];have u:(k==fz)=U':=by simpa using o
      simp only[u];exact l
    . rcases List.mem_cons.mp b with rfl|b
      exact absurd f o;exact j y b f
def Lj{env:Env}(h:∀y∈g6.names,y.2=.free->∃c,env.cells.lookup y.1=U c):
  ∃cl,closureFor g6 env=pure cl/\(∀x c,cl.lookup x=U c->env.cells.lookup x=U c)/\(∀y∈g6.names,y.2=.free->(cl.lookup y.1).isSome=Uf):=by
 obtain⟨cl,d,f,b,_⟩:=Lk env g6.names [] h (λx c e=>by simp at e);refine⟨cl,?_,f,b⟩;show((forIn g6.names [] λy a=>if (y.2==.free)=Uf then(do let c <- cellOf env y.1;pure (ik ((y.1,c)::a)))else pure (ik a):Sem (List (Str×Addr))) >>= pure)=_;rw[d];rfl
theorem nM{env:Env}:∀{names:List (Str×hZ)}{x:Str},
  ((names.map λ(n,k)=>if (k==fz&&env.scope.kind==.function&&env.kindOf n==U .cell)then(n,bX)else(n,k)).lookup x=U .cell \/
   (names.map λ(n,k)=>if (k==fz&&env.scope.kind==.function&&env.kindOf n==U .cell)then(n,bX)else(n,k)).lookup x=U .free) ->
  (x,fz)∈names\/(x,bX)∈names
 | [],_,h=>by simp at h
 |(n,k)::r,x,h=>by
  by_cases f:(x==n)=Uf
  . have e:=eq_of_beq f;subst e;by_cases b:k=.free;subst b;exact .inl F5
    . right;have i:(k==fz)=U':=by simpa using b
      simp only[D8,i,Ab,rA,if_false,oV,beq_self_eq_true]at h
      simp_all
  . have c:(x==n)=U':=by simpa using f
    refine((@nM env r x) ?_).imp (F8 _) (F8 _);rw[D8]at h;have d:∀(g:hZ) l,gk x ((n,g)::l)=gk x l:=λg l=>by rw[oV,c]
    by_cases a:(k==fz&&env.scope.kind==.function&&env.kindOf n==U .cell)=Uf
    . have e:(if (k==fz&&env.scope.kind==.function&&env.kindOf n==U .cell)=Uf then(n,bX)else(n,k))=(n,bX):=A3 a;simp only[e,d]at h;exact h
    . have e:(if (k==fz&&env.scope.kind==.function&&env.kindOf n==U .cell)=Uf then(n,bX)else(n,k))=(n,k):=A4 a;simp only[e,d]at h;exact h
noncomputable def jV(X:Cx)(bs nb:List Str)(scope:cP)(cl:List (Str×Addr))(C:Addr)(fp:List Addr)(s:A6)(H:Hp)(pins:List (Addr×Obj)):Cx where
 prog:=X.prog
 w:=X.w
 K:=X.K
 mg:=X.mg
 base:=X.base
 A:=X.A
 N:=bs++nb
 X4:=s
 B6:=H
 env:=uV scope cl C X.env
 outer:=X.stack
 stack:=X.stack
 ex:=fp
 fn:=λy=>decide (scope.names.lookup y=U .cell)
 calm:=X.calm
 pn:=X.pn++pins
 xe:=λ_ _=>False
structure CQ(X:Cx)(bs nb:List Str)(scope:cP):Prop where
 kind:scope.kind=.function
 names:∀y∈scope.names,y.2=.local->scope.names.lookup y.1=U .local
 cD:∀y∈scope.names,y.2=.free->X.env.scope.names.lookup y.1=U .cell\/X.env.scope.names.lookup y.1=U .free
 apart:∀x∈nb,∀y∈scope.names,y.1=x->y.2≠.local/\y.2≠.cell
 len:nb.length=X.N.length
 nms:∀(j:Nat) (x:Str),nb[j]?=U x->X.N[j]?=U x\/∀y∈scope.names,y.1≠x
noncomputable def uO(N nb:List Str)(fsc sc:cP):Bool:=
 (decide (nb.length=N.length)&&(nb.zip N).all λp=>decide (p.1=p.2)||sc.names.all λy=>!decide (y.1=p.1))&&(decide (sc.kind=.function)&&(sc.names.all λy=>!decide (y.2=.local)||decide (sc.names.lookup y.1=U .local)) &&
  (sc.names.all λy=>!decide (y.2=.free)||(decide (fsc.names.lookup y.1=U .cell)||decide (fsc.names.lookup y.1=U .free)))&&nb.all λx=>sc.names.all λy=>!decide (y.1=x)||!decide (y.2=.local\/y.2=.cell))
def a3p(h:uO c.N i7 c.env.scope g6=Uf):CQ c b9 i7 g6:=by
 unfold uO at h;simp only[dG,vm,Bool.or_eq_true,GR,jo,decide_eq_false_iff_not]at h;obtain⟨⟨g,m⟩,⟨⟨o,n⟩,l⟩,i⟩:=h;refine⟨o,λy a e=>?_,λy a e=>?_,λx d y a f=>?_,g,λj x b=>?_⟩
 . rcases n y a with q|q
   exact absurd e q;exact q
 . rcases l y a with q|q
   exact absurd e q;exact q
 . rcases i x d y a with q|q
   exact absurd f q;exact⟨λz=>q (.inl z),λz=>q (.inr z)⟩
 . have:=(List.getElem?_eq_some_iff.mp b).1;have X:c.N[j]?=U (c.N[j]'dC):=M6 _;have k:(i7.zip c.N)[j]?=U (x,c.N[j]'dC):=List.getElem?_zip_eq_some.mpr ⟨b,X⟩;rcases m _ (rC k)with q|q
   left;rw[X];exact H0 U q.symm;right;exact q
set_option tactic.hygienic true in
def a4G(lo:Nat)(P:Str->Addr->Prop):∀(names:List (Str×hZ)) (h:Heap) (d:List (Str×Addr)) (D:Str->Prop),lo<=h.objs.size ->
  (∀x c,d.lookup x=U c->c<h.objs.size/\((P x c/\¬D x)\/(D x/\lo<=c/\h.IsCell c J)))->(∀x y c,d.lookup x=U c->d.lookup y=U c->x=y)->(∀x,D x->(d.lookup x).isSome=Uf) ->
  (∀x c,(ia h.objs.size names d).lookup x=U c->(P x c/\¬(D x\/(x,bX)∈names))\/((D x\/(x,bX)∈names)/\lo<=c/\(qU h names).IsCell c J)) /\
  (∀x y c,(ia h.objs.size names d).lookup x=U c->(ia h.objs.size names d).lookup y=U c->x=y)/\(∀x,(D x\/(x,bX)∈names)\/(d.lookup x).isSome=Uf->((ia h.objs.size names d).lookup x).isSome=Uf):=by
 intro l_;induction l_ with
 |nil=>
  intro h d D hlo h1 h2 h3;refine⟨λx c e=>?_,h2,λx f=>?_⟩
  . rcases(h1 x c e).2 with ⟨u,v⟩|⟨u,v,B⟩
    exact .inl ⟨u,λz=>z.elim v G9⟩;exact .inr ⟨.inl u,v,B⟩
  . rcases f with (f|f)|f
    exact h3 x f;simp at f;exact f
 |cons a_ r ih_=>
  obtain⟨n,k⟩:=a_;intro h d D hlo h1 h2 h3;unfold qU ia;by_cases w:k=.cell
  . subst w;have l:∀x,((n,h.objs.size)::d).lookup x=if x=n then U h.objs.size else d.lookup x:=λx=>by
     rw[oV];by_cases c:x=n;subst c;simp
     . have:(x==n)=U':=by simpa using c
       rw[this,A4 c]
    have sz:(h.push {cls:=.type "cell",data:=.cell J}).objs.size=h.objs.size+1:=gq ..;obtain⟨s,m,p⟩:=ih_ (h.push {cls:=.type "cell",data:=.cell J}) ((n,h.objs.size)::d) (λx=>D x\/x=n) (by omega) (λx c e=>by
      rw[l]at e;split at e;rename_i f;cases e;exact⟨by simp,.inr ⟨.inr f,hlo,_,W3 _ rfl,rfl⟩⟩
      . rename_i f;obtain⟨z,q⟩:=h1 x c e;refine⟨by rw[sz];exact Py z,?_⟩
        rcases q with ⟨t,q2⟩|⟨t,q2,E⟩
        exact .inl ⟨t,λy=>y.elim q2 f⟩
        . exact .inr ⟨.inl t,q2,E.keeps λb o e=>I0 _ e⟩) (λx y c i g=>by
      rw[l]at i g;split at i
      . split at g;rename_i a b;rw[a,b];cases i;exact absurd (h1 y _ g).1 (bf _)
      . split at g;cases g;exact absurd (h1 x _ i).1 (bf _)
        . exact h2 x y c i g) (λx f=>by
      rw[l];split;rfl
      . rename_i C;exact h3 x (f.resolve_right C))
    rw[sz]at s m p;have j:∀x,((D x\/x=n)\/(x,bX)∈r)↔(D x\/(x,bX)∈(n,bX)::r):=λx=>by
     rw[K6];constructor
     . rintro((z|z)|z);exact .inl z;exact .inr (.inl (by rw[z]));exact .inr (.inr z)
     . rintro(z|z|z);exact .inl (.inl z);exact .inl (.inr (H0 Prod.fst z));exact .inr z
    refine⟨λx c e=>?_,m,λx f=>p x ?_⟩;rw[<-j];exact s x c e
    . rw[<-j]at f;refine f.imp id λz=>?_;rw[l];split;rfl;exact z
  . have A:(k==bX)=U':=by simpa using w
    simp only[A];obtain⟨s,m,p⟩:=ih_ h d D hlo h1 h2 h3;have j:∀x,(x,bX)∈r↔(x,bX)∈(n,k)::r:=λx=>by rw[K6];exact⟨.inr,λz=>z.resolve_left λy=>w (H0 Prod.snd y).symm⟩
    refine⟨λx c e=>?_,m,λx f=>p x ?_⟩;rw[<-j];exact s x c e;rw[<-j]at f;exact f
structure UZ(X:Cx)(scope:cP)(cl:List (Str×Addr))(n:Nat):Prop where
 c1:∀x c,cl.lookup x=U c->(X.env.cells.lookup x=U c/\¬(x,bX)∈scope.names)\/((x,bX)∈scope.names/\n<=c)
 c2:∀x,(x,fz)∈scope.names\/(x,bX)∈scope.names->(cl.lookup x).isSome=Uf
 c3:∀x y c,cl.lookup x=U c->cl.lookup y=U c->x=y
section
variable{H:Hp}
def a3o(I:Inv c c7 B H A)(C:CQ c b9 i7 g6)(L:UZ c g6 t4 (hz A))(g:(hz A)<=t)(f:∀b∈O,mD c c7 H b)(d:∀b∈O,b<(hz A)):(jV c b9 i7 g6 t4 t O A H c7).Ok where
 mod:=I.ok.mod
 kind:=C.kind
 glob:=I.ok.glob
 blt:=I.ok.blt
 above:=g
 inj:=L.c3
 has:=λx j=>by exact Option.isSome_iff_exists.mp (L.c2 x (nM j))
 Jx:=λx X h e=>by
  rcases L.c1 x X e with z|z
  exact absurd (mi (jn h)) z.2;exact z.2
 hd:=I.ok.hd
 frames:=I.ok.frames
 Ma:=.inl rfl
 XC:=λb a=>⟨X3 (L9 (d b a) g),λx X e=>(L.c1 x X e).elim (λz=>(f b a).2.2.2.2.1 x X z.1) λz=>oN (L9 (d b a) z.2)⟩
 bs:=I.bs
 tH:=C3 I.ok.tH I.sz
 xv:=λb o e a=>by
  rcases(f b a).2.2.2.1 with z|z
  exact I.ok.xv b o e z;exact absurd (L9 (K2 e) (C3 I.ok.tH z)) (bf _)
 Bq:=λb a i=>by
  rcases List.mem_cons.mp (I.tR b i)with z|z
  exact(f b a).2.1 z;exact(f b a).2.2.1 z
 kz:=I.stack
 Ci:=I.Ik
noncomputable def gB(bs:List Str)(σ:St):St:=N8 bs.length J++σ
def a0y{t':Nat}(I:Inv c c7 B H A)(s:CQ c b9 i7 g6)(L:UZ c g6 t4 (hz A))(E:∀x X,t4.lookup x=U X->(hz A)<=X->d9.IsCell X J)(Q:(hz A)<=t)(hf:∀b∈O,mD c c7 H b)(P:∀b∈O,b<(hz A))(k:∀b u,A.heap.get? b=U u->d9.get? b=U u)(hn:d9.Ns t t9):Inv (jV c b9 i7 g6 t4 t O A H c7) [] (gB b9 B) H {A with heap:=d9,toks:=t'}:=by
 refine⟨a3o I s L Q hf P,rfl,I.bare,Un.kept k,⟨t9,hn,λi x v S y f=>?_⟩,λx X e=>?_,I.G8.fresh Q,λx X e=>(L.c1 x X e).elim (λz=>I.jb x X z.1) λz=>I.G8.fresh z.2,λp Z=>?_,I.G8.kept k,?_⟩
 . have q:(b9++i7)[i]?=U x:=S;unfold gB at y;by_cases m:i<b9.length
   . rw[vC (by simpa using m),AA,A3 m]at y;cases y
   . rw[AF (by simpa using m),vx]at y;rw[AF (by simpa using m)]at q
     have h:=rC q;have D:(x,fz)∈g6.names:=by
      rcases f with f|f
      . exfalso;obtain⟨⟨n,F⟩,G,j⟩:=mem_map.mp (mi f);by_cases a:(F==fz&&c.env.scope.kind==.function&&c.env.kindOf n==U .cell)=Uf;simp only[a]at j;cases j;simp only[a]at j;cases j;exact(s.apart x h (x,.local) G rfl).1 rfl
      exact(nM f).resolve_right λz=>(s.apart x h _ z rfl).2 rfl
     have W:JC c.env.scope x:=.inr (s.cD _ D rfl);obtain⟨m0,_,Y⟩:=I.loc;obtain⟨u,r,l⟩:=Y _ x v ((s.nms _ x q).resolve_right λz=>z _ D rfl) y W
     refine⟨u,r,?_⟩;have N:(jV c b9 i7 g6 t4 t O A H c7).env.kindOf x=U .cell\/(jV c b9 i7 g6 t4 t O A H c7).env.kindOf x=U .free:=by
      rcases f with f|f
      . exfalso;obtain⟨⟨n,F⟩,G,j⟩:=mem_map.mp (mi f);by_cases a:(F==fz&&c.env.scope.kind==.function&&c.env.kindOf n==U .cell)=Uf;simp only[a]at j;cases j;simp only[a]at j;cases j;exact(s.apart x h (x,.local) G rfl).1 rfl
      exact f
     rcases l with ⟨hk,_⟩|⟨_,X,T,C⟩
     . exfalso;have g:c.env.scope.names.lookup x=U .local:=hk;rcases s.cD _ D rfl with z|z
       rw[show c.env.scope.names.lookup x=U .cell from z]at g;cases g;rw[show c.env.scope.names.lookup x=U .free from z]at g;cases g
     . obtain⟨R,w⟩:=Option.isSome_iff_exists.mp (L.c2 _ (.inl D));have:R=X:=by
        rcases L.c1 _ _ w with z|z
        exact Y9 (z.1.symm.trans T);exact absurd rfl (s.apart x h _ z.1 rfl).2
       subst this;obtain⟨o,M,σ⟩:=C;exact .inr ⟨N,R,w,o,k _ _ M,σ⟩
 . rcases L.c1 x X e with z|z
   obtain⟨v,o,M,σ⟩:=I.cell x X z.1;exact⟨v,o,k _ _ M,σ⟩;exact⟨_,E x X e z.2⟩
 . have K:p∈c.pn++c7:=by simpa [jV]using Z
   obtain⟨e,n,ne,V,d⟩:=I.pin p K;refine⟨k _ _ e,n,X3 (L9 (K2 e) Q),λz=>?_,d⟩
   rcases List.mem_cons.mp (I.tR _ z)with z|z
   exact ne z;exact V z
 . delta gB;show _=(b9++i7).length;rw[L6,L6,vx,I.len,s.len]
def Inv.JP{o:HO}(I:Inv c c7 B H A)(i:H t=J)(g:t≠c.env.locals)(σ:t∈c.ex\/c.X4.heap.objs.size<=t)(j:∀x X,c.env.cells.lookup x=U X->X≠t)(r:∀p∈c.pn++c7,p.1≠t)(new:Y8 c.prog c.w (upd H t o) A.heap t o):Inv c c7 B (upd H t o) A:=by
 have a:∀b u,H b=U u->upd H t o b=U u:=λb u e=>by rw[K1 (bB e i)];exact e
 have:=I.step (d':=A.drawn) (t':=A.toks) (ch:=[t]) (λb f=>?_) (λb d _ _ _ e _=>e) (λb d _ _ _ e _=>⟨d.slots,e⟩) (λb d l e n=>?_) (λb d _ e=>⟨d,e⟩)
  (λb h e=>a b _ e) (λb d u e=>a b _ e) (λb v e=>⟨#[],by rw[a b _ e];simp⟩) (λm k=>k) (λb u e=>?_) I.bare
 exact this
 . have e:b=t:=by simpa using f
   subst e;exact⟨σ,g,j,r⟩
 rw[K1 (by simpa using l)];exact n
 . by_cases f:b=t;subst f;rw[Q0]at e;cases e;exact new;rw[K1 f]at e;exact(I.G8 b u e).xm (λ_ _ _ q=>q) (λX q=>a X _ q) λX h q=>a X _ q
end
def Lq(X:Cx)(ifs:List Expr)(t:TT):Prop:=
 ∀(pins:List (Addr×Obj)) (s:A6) (σ:St) (H:Hp) (Q:Bool->Hp->Prop) (E:w9->A6->Prop),(∀e s',X.xe e s'->E e s')->Inv X pins σ H s->t σ H Q ->
  wpAny (model X.prog X.w) X.A (forIn ifs Uf λc r=>if r=Uf then do let ok <- isTrue c X.env (eval c X.env);pure (ik ok)else pure (ik r)) (TP X pins σ Q) E s
noncomputable def Vo:TT:=λ_ H Q=>Q Uf H
def SI:Lq c [] Vo:=λ_ _ _ H _ _ _ I h=>wpAny_tests_nil ⟨H,I,h⟩
def SH(h:PT c o b6):Lq c [o] b6:=λa s b H Q E d I q=>wpAny_tests_one (dW (h a s b H Q I q) (λ_ _ z=>z) d)
def HS{s:A6}{k:w9}{env:Env} (I:Nat->A6->Prop) (turn:∀n s,I n s->wpAny (model P z) Y (pyNext b5) (λr s₁=>match r with
   |none=>u5 (.ok .next) s₁
   |some v=>wpAny (model P z) Y (Ag j0 b5 v) (λ_ X4=>wpAny (model P z) Y (assign j0 env v) (λ_ s₂=>
     wpAny (model P z) Y (forIn Z Uf λc r=>if r=Uf then do let ok <- isTrue c env (eval c env);pure (ik ok)else pure (ik r)) (λok s₃=>
      if ok=Uf then wpAny (model P z) Y (eval E env) (λx i=>
       wpAny (model P z) Y (call (.builtin "list.append") [k,x]) (λ_ f=>∃m,m<n/\I m f) (ju (model P z) Y env λe s'=>u5 (.error e) s') i) (ju (model P z) Y env λe s'=>u5 (.error e) s') s₃
      else ∃m,m<n/\I m s₃) (ju (model P z) Y env λe s'=>u5 (.error e) s') s₂) (ju (model P z) Y env λe s'=>u5 (.error e) s') X4) (ju (model P z) Y env λe s'=>u5 (.error e) s') s₁) (ju (model P z) Y env λe s'=>u5 (.error e) s') s)
  (n:Nat) (h:I n s) :
  codeAny (model P z) Y (.compLoop (.ListComp E [⟨j0,o,Z,0⟩] g6 Q) 0 b5 k env) u5 s:=by
 refine codeAny_loop rfl I (λn s y=>?_) n h;refine wpAny_noted ?_;refine B4 (wpAny_standAt (B4 (dW (turn n s y) (λr s₁ d=>?_) λ_ _ b=>b)))
 cases r with
 |none=>exact E6 d
 |some v=>
  refine B4 (dW d (λ_ X4 j=>?_) λ_ _ b=>b);refine B4 (dW j (λ_ s₂ q=>B4 (dW q (λok s₃ g=>?_) λ_ _ b=>b)) λ_ _ b=>b)
  cases ok with
  |false=>exact E6 ⟨rfl,g⟩
  |true=>
   exact B4 (B4 (dW g (λx i l=>B4 (dW l (λ_ f u=>E6 (E6 ⟨rfl,u⟩)) λ_ _ b=>b)) λ_ _ b=>b))
noncomputable def Lr(n:Nat)(g:TG):Prop:=∀x σ H Q,g x σ H Q->g x σ H λσ2 H2=>Q σ2 H2/\σ2.length=σ.length/\∀j,n<=j->σ2[j]?=σ[j]?
noncomputable def CP(n:Nat)(g:wX):Prop:=∀x σ H Q,g x σ H Q->g x σ H λσ2 H2=>Q σ2 H2/\σ2.length=σ.length/\∀j,n<=j->σ2[j]?=σ[j]?
def Ox(h:autoParam (i9<N) cK):Lr N (cI i9):=λx b H Q q=>⟨q,by simp,λj a=>by rw[iz (X3 (L9 A2 A2))]⟩
def Ow:CP N La:=λx a H Q q=>⟨q.1,q.2,rfl,λ_ _=>rfl⟩
def yQ(o:CP N n9)(h:autoParam (i9<N) cK):CP N (wu (cI i9) n9):=λx f H Q q=>by
 obtain⟨v,r,e,q⟩:=q;refine⟨v,r,e,?_⟩;have m:∀d:St,(d.length=(f.set i9 (U v)).length/\∀j,N<=j->d[j]?=(f.set i9 (U v))[j]?)->d.length=f.length/\∀j,N<=j->d[j]?=f[j]?:=λd ⟨a,b⟩=>by
  refine⟨by simpa using a,λj k=>?_⟩;have:=b j k
  rwa [iz (X3 (L9 A2 A2))]at this
 have l:(λd g=>Q d g/\d.length=(f.set i9 (U v)).length/\∀j,N<=j->d[j]?=(f.set i9 (U v))[j]?)=λd g=>Q d g/\d.length=f.length/\∀j,N<=j->d[j]?=f[j]?:=by
  funext d g
  apply propext;constructor;rintro⟨a,b⟩;exact⟨a,m d b⟩
  . rintro⟨a,b,c⟩;refine⟨a,by simpa using b,λj k=>?_⟩;rw[iz (X3 (L9 A2 A2))];exact c j k
 rw[<-l];exact(o r (f.set i9 (U v)) H Q q)
def Ue(h:CP N n9):Lr N (ET e i9 n9):=λx d H Q q=>by obtain⟨a,b,n,c,f,q⟩:=q;exact⟨a,b,n,c,f,h b d H Q q⟩
def a4J(Jff:It)(bs:List Str)(g:TG)(tt:TT)(te:TE)(σ:St)(Q:VK)(H1:Hp):Prop:=∃(n:Nat) (W:Nat->List V->Hp->Prop),n<=D6/\W 0 [] H1/\∀i ys H,W i ys H ->
 ((Jff.stop i H/\∀p,H p=J->Q (.ref p) (upd H p (.lst ys)))\/(Jff.go i H/\i<n/\∀x H',Jff.Lv i H x H'->g x (gB bs σ) H' λσ2 H2=>tt σ2 H2 λb H3=>if b=Uf then te σ2 H3 (λy H4=>W (i+1) (ys++[y]) H4)else W (i+1) ys H3))
def vM(bs:List Str)(wi:TI)(g:TG)(tt:TT)(te:TE):TE:=λσ H Q=>wi σ H λJff H1=>a4J Jff bs g tt te σ Q H1
def Vals.snoc(r:Vals M m5)(h:RelV L b5):Vals (M++[L]) (m5++[b5]):=r.append (.cons h .nil)
def Ye{M:Model}{s:A6}{env:Env}{Q:Env->A6->Prop}(g:Q (newEnv g6 (hz s) t (ia ((hz s)+1) g6.names t4) u J .none (U env) S) {s with heap:=qU (s.heap.push {cls:=.type "dict",data:=.dict #[]}) g6.names}):
  wpAny M Y (newFunctionEnv g6 t t4 [] u J .none (U env) S) Q b7 s:=by
 simp only[newFunctionEnv,PQ,if_true];refine B4 (wpAny_alloc ?_);refine B4 (wpAny_layCells _ (λe c d=>by rfl) _ _ _ _ ?_);rw[show({s with heap:=s.heap.push {cls:=.type "dict",data:=.dict #[]}}:A6).heap.objs.size=(hz s)+1 from gq ..];refine B4 ?_;exact E6 (E6 g)
structure JE(X:Cx)(bs nb:List Str)(scope:cP)(tg F:Expr)(Z:List Expr)(elt:Expr)(wi:TI)(g:TG)(tt:TT)(te:TE):Prop where
 c:X.calm=Uf
 b:CQ X bs nb scope
 i:PI X tg F wi
 o:Lr bs.length g
 g:∀cl C fp s H pins,PG (jV X bs nb scope cl C fp s H pins) tg g
 t:∀cl C fp s H pins,Lq (jV X bs nb scope cl C fp s H pins) Z tt
 e:∀cl C fp s H pins,PE (jV X bs nb scope cl C fp s H pins) elt te
 s:∀x,foldedSetIterable F X.env x=pure x
def HX{F:Expr}{use:Option (w9->Sem Unit)}(M:JE c b9 i7 g6 j0 F Z E l8 k6 b6 e9)(pins:List (Addr×Obj))(s:A6)(σ:St)(H:Hp)(Q:VK)(I:Inv c pins σ H s)(h:vM b9 l8 k6 b6 e9 σ H Q)(hfin:∀(D C:Addr) (s':A6) (H':Hp) (f:Flow),Inv c pins σ H' s'->Q (.ref D) H'->mD c pins H' C->(∃m,s'.heap.Ns C m)->uU (model c.prog c.w) c.A c.xe use b7 (.ref D) C (.ok f) s'):
  wpAny (model c.prog c.w) c.A (comprehension (.ListComp E [⟨j0,F,Z,0⟩] g6 p) g6 c.env (firstIterPos [⟨j0,F,Z,0⟩] p) (newList []) (firstAsync [⟨j0,F,Z,0⟩]) (firstIter [⟨j0,F,Z,0⟩] c.env) use) b7 c.xe s:=by
 obtain⟨hc,B,hi,go,hg,ht,he,hs⟩:=M;obtain⟨cl0,hcl,c1,c2⟩:=Lj (λy hy hf=>I.ok.has y.1 (B.cD y hy hf));refine wpAny_comprehension_free rfl hs hcl B.kind B.names (G5 (hi pins s σ H _ I h) λv s1 h1=>G5 h1 λitv a h2=>?_)
 obtain⟨it,fp,tn,Jff,H2,e,M,T,st2,f2,n,W,hn,w0,turn⟩:=h2;subst e;have hlt:∀b∈fp,b<a.heap.objs.size:=λb l=>by obtain⟨o,e,_⟩:=T.obj _ _ st2 b l;exact K2 e
 refine oX (Ye ?_);generalize hH2:a.heap.push {cls:=.type "list",dict:=J,data:=.seq ([]).toArray}=g;have hCs:g.objs.size=a.heap.objs.size+1:=by rw[<-hH2,gq]
 have hDC:a.heap.objs.size≠g.objs.size:=by rw[hCs];exact X3 (Ak _)
 have t:a.heap.objs.size<=g.objs.size:=by rw[hCs];exact Nat.le_succ _
 have sz3:(g.push {cls:=.type "dict",data:=.dict #[]}).objs.size=g.objs.size+1:=gq ..;obtain⟨f1,f3,f4⟩:=a4G a.heap.objs.size (λx X=>c.env.cells.lookup x=U X) g6.names (g.push {cls:=.type "dict",data:=.dict #[]}) cl0 (λ_=>False) dC
  (λx X e=>⟨by obtain⟨v,q⟩:=M.cell x X (c1 x X e);rw[sz3];exact Py (L9 q.lt t),.inl ⟨c1 x X e,λz=>z⟩⟩) (λx y X e1 e2=>M.ok.inj x y X (c1 x X e1) (c1 y X e2)) λx z=>z.elim
 rw[sz3]at f1 f3 f4;generalize hcl':ia (g.objs.size+1) g6.names cl0=cl at f1 f3 f4⊢;have P:(qU (g.push {cls:=.type "dict",data:=.dict #[]}) g6.names).Ns g.objs.size (λ_=>J):=(Heap.Ns.new g (.type "dict")).keeps (pushCells_keeps _ _);have old0:∀b o,g.get? b=U o->(qU (g.push {cls:=.type "dict",data:=.dict #[]}) g6.names).get? b=U o:=λb o e=>pushCells_keeps _ _ b o (I0 _ e);generalize qU (g.push {cls:=.type "dict",data:=.dict #[]}) g6.names=h₁ at f1 P old0⊢;have old:=λb o e=>old0 b o (hH2▸I0 _ e);have hacc:=old0 _ _ (hH2▸W3 _ rfl);have hDn:=λb l=>X3 (hlt b l);have L:UZ c g6 cl a.heap.objs.size:=⟨λx X e=>(f1 x X e).imp (λz=>⟨z.1,λy=>z.2 (.inr y)⟩) λz=>⟨z.1.resolve_left λy=>y,z.2.1⟩,λx z=>f4 x (z.elim (λz=>.inr (c2 _ z rfl)) λz=>.inl (.inr z)),f3⟩
 have nD:∀x X,cl.lookup x=U X->X≠a.heap.objs.size:=λx X e z=>by
  rcases f1 x X e with ⟨y,_⟩|⟨_,_,o,y,yd⟩
  obtain⟨v,q⟩:=M.cell x X y;exact absurd q.lt (by rw[z];exact bf _);rw[z,hacc]at y;cases y;cases yd
 have J0:=a0y (t':=a.toks) M B L (λx X e z=>(f1 x X e).elim (λy=>by obtain⟨v,q⟩:=M.cell x X y.1;exact absurd q.lt (Nat.not_lt.mpr z)) λy=>y.2.2) t f2 hlt old P
 generalize G:jV c b9 i7 g6 cl g.objs.size fp a H2 pins=O at J0;have fpB:∀{H':Hp}{pl:List (Addr×Obj)},(∀b∈fp,H' b=J)->(∀R∈pl,R.1∉fp)->∀b∈fp,mD O pl H' b:=λ{H' pl} hz N b l=>by
  subst G;refine⟨hz b l,X3 (L9 (hlt b l) t),J0.ok.Bq b l,.inl l,J0.ok.XC b l |>.2,λR hq=>?_⟩
  rcases List.mem_append.mp hq with z|z
  exact(f2 b l).2.2.2.2.2 R z;intro e;exact N R z (e▸l)
 have Dfs:a.heap.objs.size∉O.fs:=λl=>by
  subst G;rcases List.mem_cons.mp (M.tR _ l)with z|z
  exact absurd M.lt (by rw[<-z];exact bf _);exact M.Tj O8 z
 have Dcell:∀x X,c.env.cells.lookup x=U X->X≠a.heap.objs.size:=λx X e z=>by obtain⟨v,q⟩:=M.cell x X e;exact absurd q.lt (by rw[z];exact bf _)
 have Dpin:=λR N=>X3 (K2 (M.pin R N).1);have Dloc:a.heap.objs.size≠O.env.locals:=λz=>hDC (z.trans (H0 (·.env.locals) G).symm)
 have pinD:∀{σ':St}{H':Hp}{s':A6}{o:Obj},Inv O [] σ' H' s'->s'.heap.get? a.heap.objs.size=U o->H' a.heap.objs.size=J->(∀v,o.data≠.cell v)->Inv O [(a.heap.objs.size,o)] σ' H' s':=λ{σ' H' s' o} I' e hz hd=>
  I'.kn λR N=>by
   have ep:R=(a.heap.objs.size,o):=by simpa using N
   subst ep;exact⟨e,hz,Dloc,Dfs,hd⟩
 have loop:∀s₃:A6,s₃={a with heap:=h₁,toks:=a.toks} ->
   codeAny (model c.prog c.w) c.A (.compLoop (.ListComp E [⟨j0,F,Z,0⟩] g6 p) 0 (.ref it) (.ref a.heap.objs.size) (uV g6 cl g.objs.size c.env))
    (uU (model c.prog c.w) c.A c.xe use b7 (.ref a.heap.objs.size) g.objs.size) s₃:=by
  rintro s₃ rfl;refine HS (λk s'=>∃(i:Nat) (ys:List V) (S:List w9) (z:Nat) (H':Hp),k=n-i+1/\i<=n/\S.length<=i/\Vals ys S/\Inv O [(a.heap.objs.size,{cls:=.type "list",data:=.seq S.toArray z})] (gB b9 σ) H' s'/\tn i s'.heap/\(∀b∈fp,H' b=J)/\W i ys H') ?_ (n-0+1)
   ⟨0,[],[],0,H2,rfl,jx _,K5 _,.nil,pinD J0 hacc (M.G8.fresh O8) (λv z=>by cases z),T.keep _ _ _ st2 λb _ o e=>old b o e,λb l=>(f2 b l).1,w0⟩
  rintro k s3 ⟨i,ys,S,z,H3,rfl,hin,hul,rv,I3,st3,fr3,w3⟩;have npl:∀R∈([(a.heap.objs.size,{cls:=.type "list",data:=.seq S.toArray z})]:List (Addr×Obj)),R.1∉fp:=λR N hm=>by
   have ep:R=(a.heap.objs.size,{cls:=.type "list",data:=.seq S.toArray z}):=by simpa using N
   subst ep;exact hDn _ hm rfl
  have eP:=(H0 (·.prog) G).symm;have eW:=(H0 (·.w) G).symm;have eK:=(H0 (·.K) G).symm;have eA:=(H0 (·.A) G).symm;have eC:=(H0 (·.calm) G).symm.trans hc;rcases turn i ys H3 w3 with ⟨stop,fin⟩|⟨gon,hlt',step⟩
  . have hd:=T.done O eP eW eK eC i _ s3 (gB b9 σ) H3 (ju (model c.prog c.w) c.A (uV g6 cl g.objs.size c.env) λe s'=>uU (model c.prog c.w) c.A c.xe use b7 (.ref a.heap.objs.size) g.objs.size (.error e) s') I3 (fpB fr3 npl) st3 stop;rw[eA]at hd;refine G5 hd λr s4 ⟨hr,I4⟩=>?_
    subst hr;obtain⟨m,hm,_⟩:=I4.loc;have pD:=I4.pin (a.heap.objs.size,{cls:=.type "list",data:=.seq S.toArray z}) (Q3 _ (mem_singleton.mpr rfl));have hCl:O.env.locals=g.objs.size:=(H0 (·.env.locals) G).symm;have I5:Inv c pins σ H3 s4:=by
     have hun:Un (tE c.stack) fp H2 H3 a.heap s4.heap:=by have z:=I4.base;rw[<-G]at z;exact z
     exact M.a4I (I4.os.trans (H0 (·.X4.os) G).symm) hun ((H0 (λY:Cx=>bR Y.prog Y.w H3 s4.heap) G).mpr I4.G8) I4.bare λb l=>⟨(f2 b l).2.2.2.1,(f2 b l).2.1,(f2 b l).2.2.2.2.1,(f2 b l).2.2.2.2.2⟩
    have hys:ys.length<=D6:=by rw[rv.length];lia
    refine hfin a.heap.objs.size g.objs.size s4 _ _ (I5.JP (o:=.lst ys) pD.2.1 (oN M.lt) (.inr M.sz) Dcell Dpin ⟨hys,S,z,rv,pD.1⟩) (fin _ pD.2.1) ⟨?_,oN (L9 M.lt t),M.Tj t,.inr (C3 M.sz t),λx X e q=>?_,λR N q=>?_⟩ ⟨m,(hCl▸hm)⟩;rw[K1 (lS hDC)];exact(hCl▸I4.free);obtain⟨v,q2⟩:=M.cell x X e;exact absurd (L9 q2.lt (by rw[q];exact t)) (bf _);exact absurd (L9 (K2 (M.pin R N).1) (by rw[q];exact t)) (bf _)
  . have hd:=T.item O eP eW eK eC i _ s3 (gB b9 σ) H3 (ju (model c.prog c.w) c.A (uV g6 cl g.objs.size c.env) λe s'=>uU (model c.prog c.w) c.A c.xe use b7 (.ref a.heap.objs.size) g.objs.size (.error e) s') I3 (fpB fr3 npl) st3 gon;rw[eA]at hd;refine G5 hd λr s4 ⟨u,hr,h4⟩=>?_;subst hr;refine G5 h4 λ_ s5 ⟨x,H5,I5,r5,y5,st5,fr5⟩=>?_;have hxe:=λe s' q=>(congrFun (congrFun (H0 (·.xe) G) e) s').mpr q;have eE:=(H0 (·.env) G).symm;have w6:=(G▸hg _ _ _ _ _ _) _ s5 (gB b9 σ) H5 x u _ (I5.pinned (fpB fr5 npl) (T.obj _ _ st5)) r5 (go x (gB b9 σ) H5 _ (step x H5 y5));rw[eP,eW,eA,eE]at w6;refine dW w6 (λ_ s6 ⟨σ6,H6,I6,q6,l6,e6⟩=>?_) λ_ _ q=>(hxe _ _ q).elim;have w7:=(G▸ht _ _ _ _ _ _) _ s6 σ6 H6 _ (ju (model c.prog c.w) c.A (uV g6 cl g.objs.size c.env) λe s'=>uU (model c.prog c.w) c.A c.xe use b7 (.ref a.heap.objs.size) g.objs.size (.error e) s') (λ_ _ q=>(hxe _ _ q).elim) I6 q6;rw[eP,eW,eA,eE]at w7;refine G5 w7 λok s7 ⟨H7,I7,q7⟩=>?_
    have weak:∀{pl:List (Addr×Obj)}{H':Hp}{s':A6},Inv O pl σ6 H' s'->Inv O pl (gB b9 σ) H' s':=λ{pl H' s'} I'=>I'.weak l6.symm λj v hj=>by
     by_cases hjn:j<b9.length
     . unfold gB at hj;rw[vC (by simpa using hjn),AA,A3 hjn]at hj;cases hj
     rw[e6 j (Aj hjn)];exact hj
    have unp:∀{σ':St}{H':Hp}{s':A6},Inv O ([(a.heap.objs.size,({cls:=.type "list",data:=.seq S.toArray z}))]++ua fp s5.heap) σ' H' s' ->
      (∀b∈fp,∀o,s5.heap.get? b=U o->s'.heap.get? b=U o)/\(∀b∈fp,H' b=J)/\s'.heap.get? a.heap.objs.size=U {cls:=.type "list",data:=.seq S.toArray z}/\H' a.heap.objs.size=J:=λ{σ' H' s'} I'=>by
     refine⟨λb l o e=>(I'.pin (b,o) (Q3 _ (Q3 _ (mJ l e)))).1,λb l=>?_,?_,?_⟩;obtain⟨o,e,d⟩:=T.obj _ _ st5 b l;exact(I'.pin (b,o) (Q3 _ (Q3 _ (mJ l e)))).2.1;exact(I'.pin (a.heap.objs.size,{cls:=.type "list",data:=.seq S.toArray z}) (Q3 _ (iA _ (mem_singleton.mpr rfl)))).1;exact(I'.pin (a.heap.objs.size,{cls:=.type "list",data:=.seq S.toArray z}) (Q3 _ (iA _ (mem_singleton.mpr rfl)))).2.1
    cases ok with
    |false=>
     obtain⟨k1,k2,k3,k4⟩:=unp I7;refine⟨n-(i+1)+1,Pt (Qo _ _ hlt'),i+1,ys,S,z,H7,rfl,hlt',Pz A2,rv,pinD (weak (I7.kn λR N=>nomatch N)) k3 k4 (λv q=>by cases q),T.keep _ _ _ st5 k1,k2,?_⟩;simpa using q7
    |true=>
     have q7':e9 σ6 H7 λy H4=>W (i+1) (ys++[y]) H4:=by simpa using q7
     have w8:=(G▸he _ _ _ _ _ _) _ s7 σ6 H7 _ I7 q7';rw[eP,eW,eA,eE]at w8;refine dW w8 (λuy s8 ⟨y,H8,I8,r8,q8⟩=>?_) λ_ _ q=>(hxe _ _ q).elim;obtain⟨k1,k2,k3,k4⟩:=unp I8;refine append_at k3 λh9 sb9 g9=>?_;have I8':Inv O [] (gB b9 σ) H8 s8:=weak (I8.kn λR N=>nomatch N)
     have ePn:O.pn=c.pn++pins:=(H0 (·.pn) G).symm;have eCl:O.env.cells=cl:=(H0 (·.env.cells) G).symm;have I9:Inv O [] (gB b9 σ) H8 {s8 with heap:=h9}:=I8'.turned (λb o l e=>sb9.extBut b o l e) k4 Dloc (.inr (by rw[((H0 (·.X4) G).symm)];exact K5 _))
      (λx X e=>nD x X (by rw[<-eCl];exact e)) (λR N=>Dpin R (by rw[ePn]at N;simpa using N))
     refine⟨n-(i+1)+1,Pt (Qo _ _ hlt'),i+1,ys++[y],S++[uy],z+1,H8,rfl,hlt',by rw[L6,mL];simp[*],rv.snoc r8,pinD I9 ?_ k4 (λv q=>by cases q),T.keep _ _ _ st5 λb l o e=>?_,k2,q8⟩;rw[g9,List.push_toArray];exact sb9.extBut b o (hDn b l) (k1 b l o e)
 exact codeAny_compStart_list (loop _ rfl) (T.self _ 0 _ _ _ (T.keep _ _ _ st2 λb _ o e=>old b o e) (loop _ rfl))
def Zn(M:JE c b9 i7 g6 E j0 Z o l8 k6 b6 e9):PE c (.ListComp o [⟨E,j0,Z,0⟩] g6 p) (vM b9 l8 k6 b6 e9):=by
 intro pins s l H Q I h;refine HX M pins s l H Q I h λD C G j f u q X ⟨m,z⟩=>⟨m,z,λw t=>?_⟩;exact⟨.ref D,j,u.turned (λb d a e=>t.extBut b d a e) X.1 X.2.1 X.2.2.2.1 X.2.2.2.2.1 X.2.2.2.2.2,rfl,q⟩
def Za(hN:c.N.Nodup)(A:c.N[N]?=U u)(hx:Loc c.env.scope u)(M:JE c b9 i7 g6 E j0 Z o l8 k6 b6 e9)(G:autoParam (bc (.ListComp o [⟨E,j0,Z,0⟩] g6 p) (U (.Name u j4)) Q.line c.env=pure Uf) aM)(hf:autoParam (xh c u) hW):PS c (.Assign [.Name u j4] (.ListComp o [⟨E,j0,Z,0⟩] g6 p) Q) (nI (vM b9 l8 k6 b6 e9) (cI N)):=by
 intro pins s L H D I h;rw[exec_Assign_Name_used _ _ _ _ G];refine B4 (wpAny_standAt ?_);refine B4 (B4 (G5 (HX M pins s L H _ I h λK C s' k f O q d ⟨m,r⟩=>?_) λ_ s' t=>E6 (E6 t)))
 obtain⟨n,es,ep,Y,P,hr⟩:=id r;have R:Inv c ((C,n)::pins) L k s':=O.kn λa l=>by
  rcases List.mem_cons.mp l with rfl|l
  exact⟨Y,d.1,d.2.1,d.2.2.1,λv z=>by rw[P]at z;cases z⟩;exact O.pin a (Q3 _ l)
 refine G5 (ID hN A hx hf ((C,n)::pins) s' L k (.ref K) (.ref K) D.nx R rfl q) λ_ V ⟨y,j,F,q3⟩=>?_;have M:=F.pin (C,n) (Q3 _ F5);refine⟨m,⟨n,es,ep,M.1,P,hr⟩,λh'' sb=>⟨y,j,?_,q3⟩⟩;exact(F.kn λa l=>F.pin a (Q3 _ (F8 _ l))).turned (λb X T e=>sb.extBut b X T e) M.2.1 d.2.1 d.2.2.2.1 d.2.2.2.2.1 d.2.2.2.2.2
noncomputable def mF(kd:Bool)(h:Heap)(i l:Addr)(k:Nat):Prop:=match kd with
 |true=>h.IsTupleIter i l k
 |false=>h.IsListIter i l k
noncomputable def tL(kd:Bool)(h:Heap)(i l:Addr)(k:Nat)(xs:Array w9):Prop:=match kd with
 |true=>h.IsTupleIter i l k/\h.IsTuple l xs
 |false=>h.IsListIter i l k/\h.IsList l xs
theorem mF.at{h':Heap}{i:Addr}(x:mF I d9 i t N)(e:∀o,d9.get? i=U o->h'.get? i=U o):mF I h' i t N:=by
 cases I;exact Heap.IsListIter.at (show d9.IsListIter i t N from x) e;exact Heap.IsTupleIter.at (show d9.IsTupleIter i t N from x) e
def mF.obj(x:mF I d9 t S N):∃o,d9.get? t=U o/\∀v,o.data≠.cell v:=by
 cases I
 . obtain⟨o,e,_,d⟩:=(show d9.IsListIter t S N from x);exact⟨o,e,λv z=>by rw[d]at z;cases z⟩
 . obtain⟨o,e,_,d⟩:=(show d9.IsTupleIter t S N from x);exact⟨o,e,λv z=>by rw[d]at z;cases z⟩
def tL.kept{h':Heap}(x:tL I d9 t S N e8)(e:∀b o,b=t\/b=S->d9.get? b=U o->h'.get? b=U o):tL I h' t S N e8:=by
 cases I
 . obtain⟨x,⟨o,c,r⟩⟩:=(show d9.IsListIter t S N/\d9.IsList S e8 from x);exact⟨x.at λo q=>e t o (.inl rfl) q,⟨o,e S o (.inr rfl) c,r⟩⟩
 . obtain⟨x,⟨o,c,r⟩⟩:=(show d9.IsTupleIter t S N/\d9.IsTuple S e8 from x);exact⟨x.at λo q=>e t o (.inl rfl) q,⟨o,e S o (.inr rfl) c,r⟩⟩
def Kv{s:A6}(a:s.heap.IsTupleIter S t N)(e:s.heap.IsTuple t e8)(h:e8[N]?=U b5)(f:∀h',h'.IsTupleIter S t (N+1)->oO S s.heap h'->g8 b5 {s with heap:=h'}):wpAny (model P z) Y (AB (.ref S)) g8 b7 s:=by
 obtain⟨j,c,g,b⟩:=id a;obtain⟨k,d,_,n,dt⟩:=e;refine B4 (pa a.typeIs AE
  (oW AE a.typeIs QM ?_ (QN _)))
 show wpAny _ _ (field (.ref S) 0 >>= _) _ _ s;refine B4 (dE c b rfl ?_);refine B4 (dE c b rfl ?_);refine B4 (lZ d dt ?_);simp only[An,h];refine B4 (wpAny_setField c b K0 (E6 ⟨b5,rfl,E6 (f _ ?_ (Qf ..))⟩));refine⟨_,Heap.get?_update_self _ c (Obj.isFreed_of_fields (PN b _)),(Obj.cls_mapFields ..).trans g,?_⟩;rw[PN b];rfl
def Nt{s:A6}(j:Y.handled=J)(a:s.heap.IsTupleIter S t N)(h:s.heap.IsTuple t e8)(l:e8[N]?=J)(k:∀h' e,Heap.ExtBut S s.heap h'->(∃o,h'.get? e=U o/\o.cls=.type "StopIteration")->b7 (.ref e) {s with heap:=h'}):wpAny (model P z) Y (AB (.ref S)) g8 b7 s:=by
 obtain⟨m,d,p,c⟩:=id a;obtain⟨q,g,_,n,dt⟩:=h;refine B4 (pa a.typeIs AE
  (oW AE a.typeIs QM ?_ (QN _)))
 show wpAny _ _ (field (.ref S) 0 >>= _) _ _ s;refine B4 (dE d c rfl ?_);refine B4 (dE d c rfl ?_);refine B4 (lZ g dt ?_);simp only[An,l];refine B4 (qW (B4 (wpAny_setField d c K0 ?_)));refine B4 ?_;refine B4 (oX ?_ (by size_fits));refine B4 (wpAny_of_eq (by rfl) ?_);refine oX ?_ (by size_fits);refine B4 (wpAny_handled ?_);rw[j];refine wpAny_throw (k _ _ (λb o f e=>?_) ⟨_,W3 _ rfl,rfl⟩);exact I0 _ (I0 _ ((Qf ..).extBut b o f e))
def mI{s:A6}{x:w9}(h:tL I s.heap t S N e8)(f:S≠t)(e:e8[N]?=U x)(d:∀h',mF I h' t S (N+1)->oO t s.heap h'->g8 x {s with heap:=h'}):wpAny (model P z) Y (AB (.ref t)) g8 b7 s:=by
 cases I;exact wpAny_nextOf_list_item h.1 h.2 e λh' b a=>d h' b a;exact Kv h.1 h.2 e λh' b a=>d h' b a
def pC{s:A6}(b:Y.handled=J)(h:tL I s.heap t S N e8)(d:e8[N]?=J)(c:∀h' e,Heap.ExtBut t s.heap h'->(∃o,h'.get? e=U o/\o.cls=.type "StopIteration")->b7 (.ref e) {s with heap:=h'}):wpAny (model P z) Y (AB (.ref t)) g8 b7 s:=by
 cases I;exact wpAny_nextOf_list_end b h.1 h.2 d c;exact Nt b h.1 h.2 d c
def Lu{s:A6}{k2:Bool}{TO i1 i2 B C:Addr}{ys:Array w9}{y a b:w9} (D:ZipApart t S TO i1 i2 B C) (hz:IsZip s.heap t S TO .none) (r:jt s.heap S (.ref i1) (.ref i2)) (v:jt s.heap TO a b) (h1:tL I s.heap i1 B N e8) (V:tL k2 s.heap i2 C N ys) (hx:e8[N]?=U b5) (X:ys[N]?=U y) (hQ:∀h',IsZip h' t S TO (rawInt s.heap.objs.size)->jt h' TO b5 y->mF I h' i1 B (N + 1)->mF k2 h' i2 C (N + 1)->jt h' s.heap.objs.size b5 y ->
   (∀c o,c≠t->c≠TO->c≠i1->c≠i2->s.heap.get? c=U o->h'.get? c=U o)->t5 (U (.ref s.heap.objs.size)) {s with heap:=h'}) :
  wpAny (model P z) Y (pyNext (.ref t)) t5 b7 s:=by
 have O:s.TypeIs (.ref t) "zip":=⟨_,hz,rfl⟩;refine B4 (zS (pa O Ae (oW Ae O F.entry_zip_next ?_ (F.args_zip_next_1 _))));show wpAny _ _ (field (.ref t) 2 >>= _) _ _ _;refine B4 (dE hz rfl rfl ?_);refine B4 (dE hz rfl rfl (B4 (lZ r rfl ?_)));refine B4 ?_;refine B4 (dE hz rfl rfl (E6 ?_));refine B4 (qW (B4 (dE hz rfl rfl (B4 (rq hz K0 λg1 z1 i=>?_)))));refine B4 ?_;refine B4 (B4 (zR ?_));refine B4 (mI (h1.kept λc o l e=>i.extBut c o (by rcases l with rfl|rfl;exact D.i1z;exact D.l1z) e) D.l1i1 hx λg2 p1 m=>E6 ?_);have G:=m.extBut _ _ D.TOi1 (i.extBut _ _ D.TOz v);refine B4 (lZ G rfl (B4 (He G λg3 t3 g=>?_)))
 refine B4 (wpAny_letGo (E6 ?_));refine B4 (B4 (zR ?_));have q2:=V.kept λc o l e=>by
  have Z:c≠t:=by rcases l with rfl|rfl;exact D.i2z;exact D.l2z
  have n2:c≠i1:=by rcases l with rfl|rfl;exact D.i12.symm;exact D.l2i1
  have W:c≠TO:=by rcases l with rfl|rfl;exact D.TOi2.symm;exact D.l2TO
  exact g.extBut c o W (m.extBut c o n2 (i.extBut c o Z e))
 refine B4 (mI q2 D.l2i2 X λg4 A h=>E6 ?_);have x:=h.extBut _ _ D.TOi2 t3;refine B4 (lZ x rfl (B4 (He x λf q j=>?_)))
 replace q:jt f TO b5 y:=q;refine B4 (wpAny_letGo (E6 (E6 (B4 (lZ q rfl (B4 (wpAny_newTuple ?_)))))));have sz:f.objs.size=s.heap.objs.size:=by rw[j.1,h.1,g.1,m.1,i.1]
 have M:=j.extBut _ _ D.TOz.symm (h.extBut _ _ D.i2z.symm (g.extBut _ _ D.TOz.symm (m.extBut _ _ D.i1z.symm z1)));have k5:∀c o,c≠t->c≠TO->c≠i1->c≠i2->s.heap.get? c=U o->f.get? c=U o:=λc o d n u E e=>
  j.extBut _ _ n (h.extBut _ _ E (g.extBut _ _ n (m.extBut _ _ u (i.extBut _ _ d e))))
 refine B4 ?_;have T:IsZip (f.push {cls:=.type "tuple",data:=.seq #[b5,y]}) t S TO .ellipsis:=I0 _ M;refine B4 (rq T K0 λg7 z7 w=>?_);refine rq z7 K0 λK R k=>?_;have p:∀c o,c≠t->f.get? c=U o->K.get? c=U o:=λc o d e=>k.extBut _ _ d (w.extBut _ _ d (I0 _ e));have L:=oN (K2 M);have H:=k.extBut _ _ L (w.extBut _ _ L (W3 _ rfl));rw[sz]at R H;refine E6 ⟨_,rfl,E6 ?_⟩;rw[sz];exact hQ K R (p _ _ D.TOz q) ((p1.at λo e=>j.extBut _ _ D.TOi1.symm (h.extBut _ _ D.i12 (g.extBut _ _ D.TOi1.symm e))).at λo e=>p _ o D.i1z e) ((A.at λo e=>j.extBut _ _ D.TOi2.symm e).at λo e=>p _ o D.i2z e) H λc o d n u E e=>p c o d (k5 c o d n u E e)
def QR{s:A6}{k2:Bool}{TI TO i1 i2 w:Addr}{ys:Array w9}{b:w9}(L:Y.handled=J)(D:ZipApart t TI TO i1 i2 w S)(hz:IsZip s.heap t TI TO .none)(u:jt s.heap TI (.ref i1) (.ref i2))(B:jt s.heap TO b5 b)(h1:tL I s.heap i1 w N e8)(V:tL k2 s.heap i2 S N ys)(n:e8[N]?=J\/ys[N]?=J)(hQ:∀h',(∀c o,c≠t->c≠TO->c≠i1->c≠i2->s.heap.get? c=U o->h'.get? c=U o)->t5 J {s with heap:=h'}):
  wpAny (model P z) Y (pyNext (.ref t)) t5 b7 s:=by
 have k:s.TypeIs (.ref t) "zip":=⟨_,hz,rfl⟩;refine B4 (zS (pa k Ae (oW Ae k F.entry_zip_next ?_ (F.args_zip_next_1 _))));have p:∀g e,(∀c o,c≠t->c≠TO->c≠i1->c≠i2->s.heap.get? c=U o->g.get? c=U o)->(∃o,g.get? e=U o/\o.cls=.type "StopIteration") ->
   wpAny (model P z) Y (do if <- isInstance (.ref e) (.type "StopIteration")then pure J else throw (.ref e)) t5 b7 {s with heap:=g}:=λg e hk ⟨o,ho,f⟩=>
  B4 (wpAny_isInstance ⟨o,ho,f⟩ isSubtype_stop (E6 (hQ _ hk)))
 show wpAny _ _ (field (.ref t) 2 >>= _) _ _ _;refine B4 (dE hz rfl rfl ?_);refine B4 (dE hz rfl rfl (B4 (lZ u rfl ?_)));refine B4 ?_;refine B4 (dE hz rfl rfl (E6 ?_));refine B4 (qW (B4 (dE hz rfl rfl (B4 (rq hz K0 λg1 H r=>?_)))));refine B4 ?_;refine B4 (B4 (zR ?_));have M:=h1.kept λc o f e=>r.extBut c o (by rcases f with rfl|rfl;exact D.i1z;exact D.l1z) e
 cases hx:e8[N]? with
 |none=>
  refine B4 (pC L M hx λZ e i v=>?_)
  obtain⟨T,d,l⟩:=v;have O:=i _ _ D.i1z.symm H;have ne:e≠t:=λq=>by subst q;rw[O]at d;lia
  refine rq O K0 λE _ j=>p E e (λc o m _ y _ q=>j.extBut _ _ m (i _ _ y (r.extBut _ _ m q))) ⟨T,j.extBut _ _ ne d,l⟩
 |some x=>
  have hy:ys[N]?=J:=by
   rcases n with h|h
   rw[hx]at h;exact nS h;exact h
  refine B4 (mI M D.l1i1 hx λZ p1 i=>E6 ?_);have C:=i.extBut _ _ D.TOi1 (r.extBut _ _ D.TOz B);refine B4 (lZ C rfl (B4 (He C λE t3 j=>?_)))
  refine B4 (wpAny_letGo (E6 ?_));refine B4 (B4 (zR ?_));have q2:=V.kept λc o f e=>by
   have n1:c≠t:=by rcases f with rfl|rfl;exact D.i2z;exact D.l2z
   have n2:c≠i1:=by rcases f with rfl|rfl;exact D.i12.symm;exact D.l2i1
   have A:c≠TO:=by rcases f with rfl|rfl;exact D.TOi2.symm;exact D.l2TO
   exact j.extBut c o A (i.extBut c o n2 (r.extBut c o n1 e))
  refine B4 (pC L q2 hy λg4 e K v=>?_)
  obtain⟨T,d,l⟩:=v;have G:=K _ _ D.i2z.symm (j.extBut _ _ D.TOz.symm (i.extBut _ _ D.i1z.symm H));have ne:e≠t:=λq=>by subst q;rw[G]at d;cases d;simp at l
  refine rq G K0 λW _ R=>p W e (λc o m X y c4 q=>R.extBut _ _ m (K _ _ c4 (j.extBut _ _ X (i.extBut _ _ y (r.extBut _ _ m q))))) ⟨T,R.extBut _ _ ne d,l⟩
def Pd(K:B1)(H:Hp)(a:Addr)(xs:List V):Prop:=N6 K H a xs\/Y7 K H a xs
def Pd.ne(I:Inv c c7 B m A)(h:Pd c.K m t M)(f:mD c c7 m S):t≠S:=by
 have d:∀{u:HO},Rd m t u->t≠S:=λ{u} r=>by
  rcases r with r|⟨o,r⟩
  exact bB r f.1;exact bB r f.1
 have X:∀{o:Obj},c.K.lookup t=U o->t≠S:=λ{o} e z=>by
  have g:=I.ok.mod.Ey t o e;rcases f.2.2.2.1 with q|q
  exact I.ok.xv t o g (z▸q);exact absurd (L9 (K2 g) (C3 I.ok.tH (by simp_all))) (bf _)
 rcases h with (r|⟨o,_,_,e,_⟩)|(r|⟨o,_,_,e,_⟩)
 exact d r;exact X e;exact d r;exact X e
def IL{ys:Array w9}(f:d9.IsList t e8)(g:d9.IsTuple t ys):False:=by
 obtain⟨o,e,c,_⟩:=f;obtain⟨i,b,d,_⟩:=g;lia
def Inv.RA{ys:List V}(I:Inv c c7 B m A)(h:Pd c.K m t M)(h':Pd c.K m t ys):M=ys:=by
 rcases h with h|h<;>rcases h' with h'|h'
 exact I.Eu h h';obtain⟨_,_,p,_⟩:=I.list h;obtain⟨_,_,q,_⟩:=I.tuple h';exact(IL p.isList q).elim;obtain⟨_,_,p,_⟩:=I.list h';obtain⟨_,_,q,_⟩:=I.tuple h;exact(IL p.isList q).elim;exact I.BF h h'
def Inv.vK{ch:List Addr}(I:Inv c c7 B m A)(k:∀b o,b∉ch->A.heap.get? b=U o->d9.get? b=U o)(f:∀b∈ch,mD c c7 m b):Inv c c7 B m {A with heap:=d9,toks:=N}:=by
 have d:∀b u,m b=U u->b∉ch:=λb u e z=>by rw[(f b z).1]at e;exact nE e
 refine I.step (λb j=>?_) (λb o _ _ a e _=>k b o a e) (λb o _ _ a e _=>⟨o.slots,k b o a e⟩) (λ_ _ _ _ n=>n)
  (λb o a e=>⟨o,k b o a e⟩) (λ_ _ e=>e) (λ_ _ _ e=>e) (λb H e=>⟨#[],by rw[e];simp⟩) (λg i=>?_) (λb u e=>?_) I.bare
 obtain⟨_,x,_,p,l,h⟩:=f b j;exact⟨p,x,l,h⟩;obtain⟨o,y,w,t,r⟩:=i;exact⟨o,y,w,k _ o (λz=>(f _ z).2.1 rfl) t,r⟩
 . refine(I.G8 b u e).xm (λX v a q=>k X v ?_ q) (λ_ q=>q) λ_ _ q=>q
   rcases a with z|z
   rw[z];exact d b u e;exact d X _ z
def gO(kd:Bool)(K:B1)(H:Hp)(a:Addr)(xs:List V):Prop:=match kd with
 |true=>Y7 K H a xs
 |false=>N6 K H a xs
def gO.x{b:Bool}(h:gO b e m t M):Pd e m t M:=by
 cases b;exact .inl h;exact .inr h
def Inv.Il(X:Inv c c7 B m A)(h:gO I c.K m S M)(it:mF I A.heap t S N):∃b:List w9,Vals M b/\tL I A.heap t S N b.toArray:=by
 cases I;obtain⟨b,d,p,e⟩:=X.list h;exact⟨b,d,it,p.isList⟩;obtain⟨b,d,p,e⟩:=X.tuple h;exact⟨b,d,it,p⟩
def Itz(k1 k2:Bool)(K:B1)(a b:Addr):It:=
 ⟨λi H=>∃xs ys x y,gO k1 K H a xs/\gO k2 K H b ys/\xs[i]?=U x/\ys[i]?=U y,
  λi H v H'=>∃p,v=.ref p/\H p=J/\∃x y,H'=upd H p (.tup [x,y])/\∀xs ys,gO k1 K H a xs->gO k2 K H b ys->xs[i]?=U x/\ys[i]?=U y,
  λi H=>∃xs ys,gO k1 K H a xs/\gO k2 K H b ys/\(xs.length<=i\/ys.length<=i)⟩
structure XS(k1 k2:Bool)(z TI TO i1 i2 a b:Addr)(i:Nat)(h:Heap):Prop where
 hz:IsZip h z TI TO .none
 Jf:jt h TI (.ref i1) (.ref i2)
 Xu:∃x y,jt h TO x y
 h1:mF k1 h i1 a i
 h2:mF k2 h i2 b i
structure a3u(z TI TO i1 i2:Addr):Prop where
 TIz:TI≠z
 TOz:TO≠z
 i1z:i1≠z
 i2z:i2≠z
 TITO:TI≠TO
 TIi1:TI≠i1
 TIi2:TI≠i2
 TOi1:TO≠i1
 TOi2:TO≠i2
 i12:i1≠i2
def gO.inj{ys:List V}(X:Inv c c7 B m A)(h:gO I c.K m t M)(h':gO I c.K m t ys):M=ys:=X.RA h.x h'.x
def Rj{k2:Bool}{TO i1 i2 a b:Addr}(D:a3u t S TO i1 i2):
  Turn P z e (.Tuple Z N p) (Itz I k2 e a b) [t,S,TO,i1,i2] t (λi h=>XS I k2 t S TO i1 i2 a b i h) where
 mem:=K0
 obj:=λi h d c f=>by
  have g:c=t\/c=S\/c=TO\/c=i1\/c=i2:=by simpa using f
  rcases g with rfl|rfl|rfl|rfl|rfl
  exact⟨_,d.hz,λv q=>by cases q⟩;exact⟨_,d.Jf,λv q=>by cases q⟩;obtain⟨x,y,w⟩:=d.Xu;exact⟨_,w,λv q=>by cases q⟩;exact d.h1.obj;exact d.h2.obj
 keep:=λi h L d C=>by obtain⟨x,y,w⟩:=d.Xu;exact⟨C t K0 _ d.hz,C S K0 _ d.Jf,⟨x,y,C TO K0 _ w⟩,d.h1.at λo q=>C i1 K0 o q,d.h2.at λo q=>C i2 K0 o q⟩
 item:=by
  intro X k1 V hK f i j s Q H E es l d R;subst k1 V hK;obtain⟨xs,ys,x,y,r,m,ex,ey⟩:=R;obtain⟨us,rx,ox⟩:=es.Il r d.h1;obtain⟨vs,K,Y⟩:=es.Il m d.h2;obtain⟨u,hu,ru⟩:=rx.get ex;obtain⟨v,hv,rvv⟩:=K.get ey;obtain⟨x0,y0,B⟩:=d.Xu;have A:=l t K0;have pos:=l TO K0;have G:=l i1 K0;have M:=l i2 K0;have ZA:ZipApart t S TO i1 i2 a b:=⟨D.TIz,D.TOz,D.i1z,D.i2z,D.TITO,D.TIi1,D.TIi2,D.TOi1,D.TOi2,D.i12,r.x.ne es A,r.x.ne es pos,r.x.ne es G,r.x.ne es M,m.x.ne es A,m.x.ne es pos,m.x.ne es G,m.x.ne es M⟩;refine Lu ZA d.hz d.Jf B ox Y (by simpa using hu) (by simpa using hv) λL g1 g2 g3 g4 g5 O=>?_
  have hT:=es.G8.fresh O8;have I1:Inv X j Q H {s with heap:=L}:=es.vK (ch:=[t,TO,i1,i2]) (λc o f w=>O c o (λq=>f (by simp[q])) (λq=>f (by simp[q])) (λq=>f (by simp[q])) (λq=>f (by simp[q])) w)
   (λc f=>l c (by
    have g:c=t\/c=TO\/c=i1\/c=i2:=by simpa using f
    rcases g with rfl|rfl|rfl|rfl<;>simp))
  have I2:Inv X j Q (upd H s.heap.objs.size (.tup [x,y])) {s with heap:=L}:=I1.JP hT (oN es.lt) (.inr es.sz)
   (λn c w q=>by obtain⟨vv,q2⟩:=es.cell n c w;exact absurd q2.lt (by rw[q];exact bf _))
   (λW hp q=>absurd (K2 (es.pin W hp).1) (by rw[q];exact bf _))
   ⟨by show 2<=D6;rw[fw];decide,[u,v],.cons ru (.cons rvv .nil),⟨_,g5,rfl,_,rfl⟩⟩
  refine⟨_,rfl,wpAny_letOwnedTupleGo_zip g1 λh2 z2 k=>?_⟩
  have uz:∀c,c∈[t,S,TO,i1,i2]->(upd H s.heap.objs.size (.tup [x,y])) c=J:=λc f=>by
   have hlt:c<s.heap.objs.size:=by
    have g:c=t\/c=S\/c=TO\/c=i1\/c=i2:=by simpa using f
    rcases g with rfl|rfl|rfl|rfl|rfl
    exact(K2 d.hz);exact K2 d.Jf;exact K2 B;obtain⟨o,w,_⟩:=d.h1.obj;exact K2 w;obtain⟨o,w,_⟩:=d.h2.obj;exact K2 w
   rw[K1 (X3 hlt)];exact(l c f).1
  have I3:Inv X j Q (upd H s.heap.objs.size (.tup [x,y])) {s with heap:=h2}:=Inv.turned (s:={s with heap:=L}) I2 (λc o f w=>k.extBut c o f w) (uz t K0) A.2.1 A.2.2.2.1 A.2.2.2.2.1 A.2.2.2.2.2;refine⟨.ref s.heap.objs.size,_,I3,rfl,⟨_,rfl,hT,x,y,rfl,λxs' ys' T hy'=>?_⟩,⟨z2,k.extBut _ _ D.TIz (O _ _ D.TIz D.TITO D.TIi1 D.TIi2 d.Jf),⟨_,_,k.extBut _ _ D.TOz g2⟩,?_,?_⟩,uz⟩;rw[T.inj es r,hy'.inj es m];exact⟨ex,ey⟩;exact g3.at λo q=>k.extBut _ _ D.i1z q;exact g4.at λo q=>k.extBut _ _ D.i2z q
 done:=by
  intro X k1 V hK f i j s Q H E es l d R;subst k1 V hK;obtain⟨xs,ys,r,m,F⟩:=R;obtain⟨us,rx,ox⟩:=es.Il r d.h1;obtain⟨vs,K,Y⟩:=es.Il m d.h2;obtain⟨x0,y0,B⟩:=d.Xu;have A:=l t K0;have pos:=l TO K0;have G:=l i1 K0;have M:=l i2 K0;have ZA:ZipApart t S TO i1 i2 a b:=⟨D.TIz,D.TOz,D.i1z,D.i2z,D.TITO,D.TIi1,D.TIi2,D.TOi1,D.TOi2,D.i12,r.x.ne es A,r.x.ne es pos,r.x.ne es G,r.x.ne es M,m.x.ne es A,m.x.ne es pos,m.x.ne es G,m.x.ne es M⟩;have:=rx.length;have:=K.length;refine QR (es.ok.hd f) ZA d.hz d.Jf B ox Y ?_ λL O=>⟨rfl,?_⟩
  . rcases F with q|q
    exact .inl (by simp;simp_all);exact .inr (by simp;simp_all)
  . exact es.vK (ch:=[t,TO,i1,i2]) (λc o f w=>O c o (λq=>f (by simp[q])) (λq=>f (by simp[q])) (λq=>f (by simp[q])) (λq=>f (by simp[q])) w)
      (λc f=>l c (by
       have g:c=t\/c=TO\/c=i1\/c=i2:=by simpa using f
       rcases g with rfl|rfl|rfl|rfl<;>simp))
 self:=λ_ _ _ _ _ d h=>wpAny_pyIter_zip d.hz h
set_option tactic.hygienic true
set_option tactic.hygienic false
noncomputable def ExcAt(e C dx:Addr)(h:Heap):Prop:=∃vs,h.get? e=U {cls:=.ref C,dict:=U dx,data:=.fields vs}
noncomputable def a4T(e C:Addr)(dx:Option Addr)(h:Heap):Prop:=∃t,h.get? e=U {cls:=.ref C,dict:=dx,data:=.fields #[.ref t,.none,.none,.none,.bool U',.none]}
noncomputable def Ff(C:Addr)(fld:Str)(d:l5):l5:=.dict [(.tuple [.int (C:Nat),.str fld],d)]
structure vH(K:B1)(C:Addr):Prop where
 ga:cO K (.ref C) "__getattribute__" = U (U (.builtin "BaseException.__getattribute__"))
 gt:cO K (.ref C) "__getattr__" = U J
 hd:vp K C=Uf
 be:PySem.W.mroIn K C (.type "BaseException")=U Uf
 cl:cO K (.ref C) "__class__" = U (U (.builtin "object.__class__"))
 cg:PySem.W.specialIn K (.builtin "object.__class__") "__get__" = U (U (.builtin "getset_descriptor.__get__"))
 ct:PySem.W.takesIn K (.builtin "object.__class__")=U Uf
 ob:PySem.W.mroIn K C (.type "object")=U Uf
 n1:oQ K (.ref C) (.type "tuple")=U U'
 n2:oQ K (.ref C) (.type "list")=U U'
 n3:oQ K (.ref C) (.type "bool")=U U'
 n4:oQ K (.ref C) (.type "int")=U U'
 n5:oQ K (.ref C) (.type "str")=U U'
noncomputable abbrev xI(n:String):Prop:=n = "tuple"\/n = "list"\/n = "bool"\/n = "int"\/n = "str"
theorem vH.xI(T:vH e t)(h:L2.xI m7):oQ e (.ref t) (.type m7)=U U':=by
 rcases h with rfl|rfl|rfl|rfl|rfl
 exact T.n1;exact T.n2;exact T.n3;exact T.n4;exact T.n5
section
variable{K:B1}
def OF{s:A6}{ox:Obj}{a:Tok}(T:vH K S)(X:K.In s.heap)(I:zZ s.heap t ox S u6)(b:GB K S u6 "__class__" = U (.bind (.builtin "getset_descriptor.__get__") (.builtin "object.__class__")))(h:u5 (.ok (.ret (.ref S))) s):
  codeAny (model P z) Y (.call (.builtin "BaseException.__getattribute__") ⟨[.ref t,.str "__class__" a],[]⟩) u5 s:=by
 obtain⟨c,g,d,w,e⟩:=s;refine codeAny_call_builtin F.excAttr_ValueError.ga.plain F.entry_bexc_ga ?_;refine B4 ?_;refine B4 ((I.type (M:=model P z)).at ((PySem.W.looks_mroIn (M:=model P z) X T.be).at ?_));repeat (first|wp_step)
 refine wpAny_loadPart_at I.at_ ?_;rw[I.cls];refine E6 (B4 ((PySem.W.looks_find (M:=model P z) X I b).at ?_));repeat (any_goals (first|assumption|wp_step))
 refine PySem.W.class_get X I T.ob ?_;repeat (any_goals (first|assumption|wp_step))
def a0j{s:A6}{ox:Obj}{c:Tok}{a:Bool}(T:vH K S)(X:K.In s.heap)(A:zZ s.heap t ox S u6)(e:GB K S u6 "__class__" = U (.bind (.builtin "getset_descriptor.__get__") (.builtin "object.__class__")))(h:g8 (.ref S) s):
  wpAny (model P z) Y (getAttrBy (.ref t) (.str "__class__" c) I a) g8 b7 s:=by
 obtain⟨i,g,d,w,f⟩:=s;have:=F.excAttr_ValueError.ga.bind (.ref t);have:(a&&onTheHeap (Value.builtin "BaseException.__getattribute__"))=U':=by cases a<;>rfl
 refine Gp (B4 ((A.type (M:=model P z)).at (B4 ((Hf (M:=model P z) X T.ga).at ?_))));repeat (any_goals (first|assumption|(with_reducible refine(Hf (M:=model P z) X T.gt).at ?_)|wp_step))
 refine OF T X A e ?_;exact E6 h
def OE{s:A6}{ox:Obj}{o:Obj}(T:vH K S)(X:K.In s.heap)(I:zZ s.heap t ox S (U o))(h:t5 (U (.ref S)) {s with toks:=s.toks+1}):wpAny (model P z) Y (getAttr? (.ref t) "__class__") t5 b7 s:=by
 have a:GB K S (U o) "__class__" = U (.bind (.builtin "getset_descriptor.__get__") (.builtin "object.__class__")):=PySem.W.findObj_data (by obtain⟨c,b,_⟩:=Am T.hd;rw[b];rfl) T.cl T.cg T.ct;refine B4 (wpAny_mkText (B4 (zS (a0j T X I a ?_))));exact E6 h
set_option tactic.hygienic true in
def TV{j:Addr}(T:vH K S):PySem.W.KitX K (.ref t) (.ref S) (λh=>ExcAt t S j h/\∃o,h.get? j=U o) where
 ty:=λ_ _ _ I=>by obtain⟨⟨r,d⟩,_⟩:=I;exact(PySem.W.Looks.ld d).andThen .now
 it:=λ_ _ X _=>by
  obtain⟨i,a,_⟩:=Am T.hd;unfold PySem.W.clsIn at a;split at a;rename_i p l c b f;exact λy A z x k q=>B4 (wpAny_loadPart (k _ _ (X _ _ f)) (E6 q));exact nE a
 ne:=λh v u s n w X g=>by
  obtain⟨i,a,_⟩:=Am T.hd;refine Bool.eq_false_iff.mpr λq=>?_;have e:=Value.ref.inj (beq_iff_eq.mp q);subst e;unfold PySem.W.clsIn at a;split at a;rename_i p l c b f;cases((X _ _ f).symm.trans g);exact nE a
 ca:=λX I k=>by obtain⟨⟨r,d⟩,o,m⟩:=I;exact OE T X ⟨d,rfl,rfl,m⟩ k
end
set_option tactic.hygienic true
noncomputable def qB(kd:Bool)(l:Addr):Obj:=match kd with
 |true=>{cls:=.type "tuple_iterator",data:=.fields #[.ref l,.int 0 0]}
 |false=>{cls:=.type "list_iterator",data:=.fields #[.ref l,.int 0 0]}
noncomputable def kH(kd:Bool)(h:Heap)(l:Addr)(xs:Array w9):Prop:=match kd with
 |true=>h.IsTuple l xs
 |false=>h.IsList l xs
theorem kH.push(x:kH I d9 t e8)(o:Obj):kH I (d9.push o) t e8:=by
 cases I;exact Heap.IsList.push (show d9.IsList t e8 from x) o;exact Heap.IsTuple.push (show d9.IsTuple t e8 from x) o
def mF.new(e:d9.get? t=U (qB I S)):mF I d9 t S 0:=by
 cases I;exact⟨_,e,rfl,rfl⟩;exact⟨_,e,rfl,rfl⟩
def wc{s:A6}(x:kH I s.heap t e8)(b:g8 (.ref (hz s)) {s with heap:=s.heap.push (qB I t)}):wpAny (model P z) Y (pyIter (.ref t)) g8 b7 s:=by
 cases I;exact GQ (show s.heap.IsList t e8 from x) b;exact wpAny_pyIter_tuple (show s.heap.IsTuple t e8 from x) b
abbrev Ve(k1:Bool)(h:Heap)(a:Addr):Heap:=h.push (qB k1 a)
abbrev Vd(k1 k2:Bool)(h:Heap)(a b:Addr):Heap:=(Ve k1 h a).push (qB k2 b)
abbrev Vc(k1 k2:Bool)(h:Heap)(a b:Addr):Heap:=(Vd k1 k2 h a b).push {cls:=.type "tuple",data:=.seq #[.ref h.objs.size,.ref (Ve k1 h a).objs.size]}
abbrev Vb(k1 k2:Bool)(h:Heap)(a b:Addr):Heap:=(Vc k1 k2 h a b).push {cls:=.type "tuple",data:=.seq #[.none,.none]}
abbrev HV(k1 k2:Bool)(h:Heap)(a b:Addr):Heap:=(Vb k1 k2 h a b).push {cls:=.type "zip",data:=.fields #[.none,.bool U',.bool U',.ref (Vd k1 k2 h a b).objs.size,.ref (Vc k1 k2 h a b).objs.size]}
def Kz(c k2:Bool)(a b:Addr)(xs ys:Array w9):
  Meets (Builtin.«zip.__new__» ⟨[.type "zip",.ref a,.ref b],[]⟩) (λ_ R s=>kH c s.heap a xs/\kH k2 s.heap b ys /\
   R (.ok (.ret (.ref (Vb c k2 s.heap a b).objs.size))) {s with heap:=HV c k2 s.heap a b}):=
 .of_wp λe w A R s h=>by
  obtain⟨m,g,d,k,j⟩:=s;obtain⟨f,i,h⟩:=h;have:=sub_zip;have l:kH k2 (Shared.heap ⟨m.push (qB c a),g,d,k,j⟩) b ys:=kH.push i _
  wp_walk using wc f,wc l
  exact⟨_,rfl,h⟩
def OQ{s:A6}{k2:Bool}{ys:Array w9} (p:kH I s.heap t e8) (q:kH k2 s.heap S ys) (h:∀h',XS I k2 ((hz s) + 4) ((hz s) + 2) ((hz s) + 3) (hz s) ((hz s) + 1) t S 0 h' ->
   (∀c o,s.heap.get? c=U o->h'.get? c=U o)->g8 (.ref ((hz s)+4)) {s with heap:=h'}) :
  wpAny (model P z) Y (call (.type "zip") [.ref t,.ref S]) g8 b7 s:=by
 refine callType_new F.called_zip A9 (F.typeCall_zip_2 _ _) (F.newCall_zip_2 _ _) (λobj=>F.args_object_init_3 obj _ _) F.entry_zip_new (Kz I k2 t S e8 ys) ⟨p,q,?_⟩
 have g:(Ve I s.heap t).objs.size=(hz s)+1:=gq ..;have f:(Vd I k2 s.heap t S).objs.size=(hz s)+2:=by rw[gq,g]
 have i:(Vc I k2 s.heap t S).objs.size=(hz s)+3:=by rw[gq,f]
 have j:(Vb I k2 s.heap t S).objs.size=(hz s)+4:=by rw[gq,i]
 have e:(HV I k2 s.heap t S).get? (Vb I k2 s.heap t S).objs.size=U _:=W3 _ rfl;have l:(HV I k2 s.heap t S).get? (Vc I k2 s.heap t S).objs.size=U _:=I0 _ (W3 _ rfl);have k:(HV I k2 s.heap t S).get? (Vd I k2 s.heap t S).objs.size=U _:=I0 _ (I0 _ (W3 _ rfl));have n:(qB k2 S).isFreed=U':=by cases k2<;>rfl
 have w:(qB I t).isFreed=U':=by cases I<;>rfl
 have m:(HV I k2 s.heap t S).get? (Ve I s.heap t).objs.size=U _:=I0 _ (I0 _ (I0 _ (W3 _ n)));have r:(HV I k2 s.heap t S).get? (hz s)=U _:=I0 _ (I0 _ (I0 _ (I0 _ (W3 _ w))));rw[f,i,j]at e;rw[g,f]at k;rw[i]at l;rw[g]at m;rw[j];exact⟨⟨_,e,rfl⟩,h _ ⟨e,k,⟨_,_,l⟩,.new r,.new m⟩ λc o x=>
  I0 _ (I0 _ (I0 _ (I0 _ (I0 _ x))))⟩
def QT(n:Nat):a3u (n+4) (n+2) (n+3) n (n+1):=by constructor<;>(show @Ne Nat _ _)<;>simp[*]
def Inv.Z9(X:Inv c c7 B m A)(h:gO I c.K m t M):∃b:List w9,kH I A.heap t b.toArray:=by
 cases I;obtain⟨b,_,p,_⟩:=X.list h;exact⟨b,p.isList⟩;obtain⟨b,_,p,_⟩:=X.tuple h;exact⟨b,p⟩
section
variable{H:Hp}
end
theorem CW:∀{bs:List Bool}{us:List w9},Vals (bs.map V.bl) us->us=bs.map zB
 | [],_,.nil=>rfl
 |b::r,_,.cons h t=>by rw[CW t];cases h;rfl
theorem qo:∀(bs:List Bool) (d:Bool),(R8 bs.length).all (λi=>bs.getD i d)=bs.all id
 | [],_=>rfl
 |b::r,d=>by rw[J4,List.range_succ_eq_map,fN,Gh,fN];have:=qo r d;simp only[List.getD_cons_zero,rp,List.getD_cons_succ,id];rw[this]
def UI:ag c (.builtin "all") (λxs H Q=>∃(p:Addr) (bs:List Bool),xs=[.ref p]/\N6 c.K H p (bs.map V.bl)/\c.A.handled=J/\Q (.bl (bs.all id)) H):=by
 intro X s w H xs M Q I r h;obtain⟨p,bs,rfl,hq,C,q⟩:=h;obtain⟨u,rfl,t⟩:=vals1 r;cases t;obtain⟨a,D,j,L⟩:=I.list hq;have k:=CW D;refine call_all_walk (GQ j.isList ?_);have lt:p<s.heap.objs.size:=by obtain⟨o,e,_⟩:=j.isList;exact K2 e
 refine⟨s.heap.objs.size,_,_,_,_,_,λi=>bs.getD i U',rfl,Walks.list (A:=c.A.in1) C s.heap.objs.size p (X3 lt) a.toArray,⟨⟨_,W3 _ rfl,rfl,rfl⟩,j.isList.push _⟩,?_,λF G B=>?_⟩
 . intro i v s' l E x d;have e:(bs.map zB)[i]?=U v:=by rw[<-k];simpa using x
   rw[R9]at e;cases eb:bs[i]? with
   |none=>rw[eb]at e;exact nE e
   |some b=>
    rw[eb]at e;cases e;have:bs.getD i U'=b:=by rw[Q4,eb];rfl
    have g:l b s':=by rw[<-this];exact d
    exact oY g
 . have m:a.toArray.size=bs.length:=by rw[k];simp
   rw[m,qo];refine⟨.bl (bs.all id),H,?_,rfl,q⟩;have y:Inv c X w H {s with heap:=s.heap.push {cls:=.type "list_iterator",data:=.fields #[.ref p,.int 0 0]}}:=I.kept λb o e=>I0 _ e;have f:=I.xH O8 (I.G8.fresh (K5 s.heap.objs.size));exact Inv.turned y (λb o z e=>B b o (by simpa using z) e) f.1 f.2.1 f.2.2.2.1 f.2.2.2.2.1 f.2.2.2.2.2
structure Bt(m:Nat)(i:Int):Prop where
 lt:i.natAbs<2^m
def Bt.mono{m:Nat}(h:Bt m a9)(a:m<=N):Bt N a9:=⟨L9 h.lt (mj A9 a)⟩
def Bt.of_le{j:Int}(h:Bt N j)(a:a9.natAbs<=j.natAbs):Bt N a9:=⟨dH a h.lt⟩
def Bt.neg(h:Bt N a9):Bt N (-a9):=h.of_le qc
def Bt.mul{i:Int}(h:Bt N i)(h':Bt i9 a9):Bt (N+i9) (i*a9):=⟨by
 rw[gp,Nat.pow_add];exact Nat.mul_lt_mul'' h.lt h'.lt⟩
theorem Bt.fdiv{j:Int}(h:Bt N a9):Bt N (a9.fdiv j):=h.of_le (PySem.natAbs_fdiv_le a9 j)
def Bt.small{i:Int}(b : -(2^62)<i)(a:i<2^62):Bt 62 i:=⟨by omega⟩
def Bt.a4x{j:Int}(h:Bt N a9)(h':Bt i9 j)(a:N+i9<=134217728):IntMulOk a9 j:=IntMulOk.of_le (intBits_le_iff.mpr h.lt) (intBits_le_iff.mpr h'.lt) a
section
variable{X:Cx}
def Zt:Q7 X (bQ .Mult) (rI (λi j=>Bt 60000 i/\Bt 60000 j) λi j=>.int (i*j)):=VC λi j _ _ _ _ _ a q=>mul_int q (a.1.a4x a.2 A9)
def Tg:Q7 X (bQ .FloorDiv) (rI (λ_ j=>j≠0/\Bt 8000 j) λi j=>.int (i.fdiv j)):=VC λi j _ _ _ _ _ a q=>floordiv_int a.1 q (.inl (PyProof.noPylong_of_log2 (by
 have b:j.natAbs≠0:=by have:=a.1;simp[*]
 have:=(Gb b).mpr a.2.lt;exact nAl)))
noncomputable def bx(nm:Str):l5:=.dict [(.str nm,.none)]
noncomputable def UR:Str:=⟨#[0]⟩
noncomputable def CG:l5->Bool
 | .dict [(.str _,.none)]=>Uf
 | .dict [(.tuple [.str _,.list _],.tuple _)]=>Uf
 | .dict [(.list _,_)]=>Uf
 |_=>U'
noncomputable def Ua(nm:Str)(ns:List Str)(l:List l5):l5:=.dict [(.tuple [.str nm,.list (ns.map .str)],.tuple l)]
noncomputable def Lg(ks:List Str)(l:List l5):l5:=.dict [(.list (ks.map .str),.tuple l)]
def a2J:Key->l5
 | .inl i=>.int i
 | .inr x=>.str x
def a2K(k:List Key):l5:=.dict [(.list (k.map a2J),.none)]
def a3b(ks:List (List Key))(l:List l5):l5:=.dict [(.list (ks.map λk=>.tuple (k.map a2J)),.list l)]
mutual
inductive Dt(K:B1)(H:Hp):V->l5->Prop
 |non:Dt K H .non .none
 |bl (b):Dt K H (.bl b) (.bool b)
 |int (i):Dt K H (.int i) (.int i)
 |str (x):Dt K H (.str x) (.str x)
 |tup {a xs ds}:Y7 K H a xs->E8 K H xs ds->Dt K H (.ref a) (.tuple ds)
 |lst {a xs ds}:N6 K H a xs->E8 K H xs ds->Dt K H (.ref a) (.list ds)
 |exc {ea C dx fld v d}:vH K C->cO K (.ref C) fld=U J->H ea=U (.ext (ExcAt ea C dx))->H dx=U (.xd [(fld,v)])->Dt K H v d->Dt K H (.ref ea) (Ff C fld d)
 |fn {f nm}:(bW K T1 nm=U (U (.ref f))\/nm=UR)->Dt K H (.ref f) (bx nm)
 |ins {a C dx fv nm ns vs l}:bW K T1 nm=U (U (.ref C))->H a=U (.ins C dx fv)->fv=ns.zip vs->E8 K H vs l->Dt K H (.ref a) (Ua nm ns l)
 |key {a k}:H a=U (.tup (k.map kV))->Dt K H (.ref a) (a2K k)
 |dtt {a kvs ks vs l}:H a=U (.dT kvs)->ks.length=vs.length->kvs=ks.zip vs->E8 K H vs l->Dt K H (.ref a) (a3b ks l)
 |dct {a kvs ks vs l}:H a=U (.dK kvs)->kvs=(ks.map jw).zip vs->E8 K H vs l->Dt K H (.ref a) (Lg ks l)
inductive E8(K:B1)(H:Hp):List V->List l5->Prop
 |nil:E8 K H [] []
 |cons {x xs d ds}:Dt K H x d->E8 K H xs ds->E8 K H (x::xs) (d::ds)
end
def A5.iF(K:A5 m y)(h:Y7 e m t M):Y7 e y t M:=by
 rcases h with (h|⟨o,h⟩)|h
 exact .inl (.inl (K _ _ h));exact .inl (.inr ⟨o,K _ _ h⟩);exact .inr h
def A5.new(h:m t=J):A5 m (upd m t m6):=λb u e=>by rw[K1 (bB e h)];exact e
mutual
theorem Dt.same{K:B1}{H H':Hp}(e:A5 H H'){x:V}{d:l5}(h:Dt K H x d):Dt K H' x d:=by
 cases h with
 |non=>exact .non
 |bl b=>exact .bl b
 |int i=>exact .int i
 |str x=>exact .str x
 |tup h t=>exact .tup (e.iF h) (E8.same e t)
 |lst h t=>exact .lst (e.seq h) (E8.same e t)
 |exc c n a f t=>exact .exc c n (e _ _ a) (e _ _ f) (Dt.same e t)
 |fn h=>exact .fn h
 |ins a f g t=>exact .ins a (e _ _ f) g (E8.same e t)
 |dct a f t=>exact .dct (e _ _ a) f (E8.same e t)
 |key h=>exact .key (e _ _ h)
 |dtt a f g t=>exact .dtt (e _ _ a) f g (E8.same e t)
theorem E8.same{K:B1}{H H':Hp}(e:A5 H H'){xs:List V}{ds:List l5}(h:E8 K H xs ds):E8 K H' xs ds:=by
 cases h with
 |nil=>exact .nil
 |cons h t=>exact .cons (Dt.same e h) (E8.same e t)
end
theorem E8.length{K:B1}{H:Hp}{xs:List V}{ds:List l5}(h:E8 K H xs ds):xs.length=ds.length:=by
 induction ds generalizing xs with
 |nil=>cases h;rfl
 |cons _ _ i=>cases h with
  |cons _ t=>exact H0 (· + 1) (i t)
def E8.get{i:Nat}(h:E8 e m M T)(K:T[i]?=U d6):∃x,M[i]?=U x/\Dt e m x d6:=by
 induction T generalizing M i with
 |nil=>exact nE K
 |cons _ _ j=>cases h with
  |cons a t=>cases i with
   |zero=>cases K;exact⟨_,rfl,a⟩
   |succ i=>exact(j (i:=i) t K :)
mutual
theorem Inv.reads{pins:List (Addr×Obj)}{m:St}{H:Hp}{s:A6}(I:Inv X pins m H s){x:V}{u:w9}{d:l5}(h:Dt X.K H x d)(r:RelV x u)(a:d.canLay0=Uf):∃as,Reads s.heap u d as:=by
 cases h with
 |non=>cases r;exact⟨_,.none⟩
 |bl b=>cases r;exact⟨_,.bool b⟩
 |int i=>obtain⟨t,rfl⟩:=r;exact⟨_,.int i t⟩
 |str y=>obtain⟨t,rfl⟩:=r;exact⟨_,.str y t⟩
 |tup h t=>
  cases r;obtain⟨g,k,⟨o,e,c,n,f⟩,_⟩:=I.tuple h;obtain⟨as,j⟩:=Inv.readsAll I t k (by assumption);exact⟨_,.tuple e c f (by omega)⟩
 |lst h t=>
  cases r;obtain⟨g,k,l,_⟩:=I.list h;obtain⟨o,e,c,n,f⟩:=l.isList;obtain⟨as,j⟩:=Inv.readsAll I t k (by assumption);exact⟨_,.list e c f (by omega)⟩
 |exc _ _ _ _ _=>rw[Ff,bE]at a;exact nT a
 |fn _=>rw[bx,bE]at a;exact nT a
 |ins _ _ _ _=>rw[Ua,bE]at a;exact nT a
 |dct _ _ _=>rw[Lg,bE]at a;exact nT a
 |key _=>rw[a2K,bE]at a;exact nT a
 |dtt _ _ _ _=>rw[a3b,bE]at a;exact nT a
theorem Inv.readsAll{pins:List (Addr×Obj)}{d:St}{H:Hp}{s:A6}(I:Inv X pins d H s){xs:List V}{us:List w9}{ds:List l5}(h:E8 X.K H xs ds)(r:Vals xs us)(a:aI ds=Uf):∃as,ReadsAll s.heap us ds as:=by
 cases h with
 |nil=>cases r;exact⟨_,.nil⟩
 |cons h t=>
  cases r with
  |cons r e=>
   rw[aI,dG]at a;obtain⟨as,b⟩:=Inv.reads I h r a.1;obtain⟨bs,c⟩:=Inv.readsAll I t e a.2;exact⟨_,.cons b c⟩
end
def a2l(g:X.A.units+64<U5):Q7 X (P6 .Eq) (λx y H Q=>∃d e,Dt X.K H x d/\Dt X.K H y e/\bV d=Uf/\bV e=Uf/\Q (.bl (cM d e)) H):=by intro b s o H x y v u Q I j i h;obtain⟨d,e,l,m,c,a,q⟩:=h;obtain⟨n,f⟩:=I.reads l j (Az c);obtain⟨bs,k⟩:=I.reads m i (Az a);exact eq_dataH f k c a g ⟨.bl _,H,I,rfl,q⟩
def a2j(g:X.A.units+64<U5):Q7 X (P6 .NotEq) (λx y H Q=>∃d e,Dt X.K H x d/\Dt X.K H y e/\bV d=Uf/\bV e=Uf/\Q (.bl (!PyData.eqv d e)) H):=by intro b s o H x y v u Q I j i h;obtain⟨d,e,l,m,c,a,q⟩:=h;obtain⟨n,f⟩:=I.reads l j (Az c);obtain⟨bs,k⟩:=I.reads m i (Az a);exact ne_dataH f k c a g ⟨.bl _,H,I,rfl,q⟩
end
noncomputable def JM:l5->String
 | .none=>"NoneType"
 | .bool _=>"bool"
 | .int _=>"int"
 | .str _=>"str"
 | .tuple _=>"tuple"
 | .list _=>"list"
 |_=>"dict"
def EI(d:l5)(n:String):Bool:=JM d==n||(JM d=="bool"&&n=="int")
def kr:∀{t n:String},(t = "NoneType"\/t = "bool"\/t = "int"\/t = "str"\/t = "tuple"\/t = "list")->xI n->oQ e (.type t) (.type n)=U (t==n||(t=="bool"&&n=="int")):=by intro t n b a;rcases b with rfl|rfl|rfl|rfl|rfl|rfl<;>rcases a with rfl|rfl|rfl|rfl|rfl<;>first|rfl|decide +kernel
section
set_option tactic.hygienic true in
def UH:ag c (.builtin "isinstance") (λxs H Q=>∃x n d,xs=[x,.ty n]/\Dt c.K H x d/\CG d=U'/\xI n/\Q (.bl (EI d n)) H):=by
 intro k s G H xs S Q I r h;obtain⟨x,n,d,rfl,L,f,g,q⟩:=h;obtain⟨u,X,rfl,j,B⟩:=vals2 r;cases B;have a:∀l,EP c k G Q (.bool (EI d n)) {s with toks:=l}:=λl=>⟨.bl _,H,I.tok l,rfl,q⟩
 cases L with
 |non=>cases j;exact oT PySem.W.kitx_none I.hI gj (kr K0 g) (λz=>nomatch z) a
 |bl b=>cases j;exact oT PySem.W.kitx_bool I.hI gj (kr (.inr (.inl rfl)) g) (λz=>nomatch z) a
 |int i=>obtain⟨t,rfl⟩:=j;exact oT PySem.W.kitx_int I.hI gj (kr A9 g) (λz=>nomatch z) a
 |str y=>obtain⟨t,rfl⟩:=j;exact oT PySem.W.kitx_str I.hI gj (kr A9 g) (λz=>nomatch z) a
 |tup h t=>
  cases j;obtain⟨p,D,⟨o,e,X,n,N⟩,_⟩:=I.tuple h;exact oT PySem.W.kitx_tuple I.hI ⟨o,e,X⟩ (kr A9 g) (λz=>nomatch z) a
 |lst h t=>
  cases j;obtain⟨p,D,F,_⟩:=I.list h;obtain⟨o,e,X,n,N⟩:=F.isList;exact oT PySem.W.kitx_list I.hI ⟨o,e,X⟩ (kr A9 g) (λz=>nomatch z) a
 |exc X R w A t=>
  rename_i Z C V m v d;cases j;obtain⟨P,⟨E,T,Y,O,_⟩,_⟩:=I.G8 _ _ A;have M:EI (Ff C m d) n=U':=by rcases g with rfl|rfl|rfl|rfl|rfl<;>rfl
  rw[M]at a;exact oT (TV X) I.hI ⟨(I.G8 _ _ w).1,E,O⟩ (X.xI g) (λz=>nomatch z) a
 |fn _=>exact nF f
 |ins _ _ _ _=>exact nF f
 |dct _ _ _=>exact nF f
 |key _=>exact nF f
 |dtt _ _ _ _=>exact nF f
end
def Cz{s:A6}{f:w9}{i:Option Int}(a:IsTup s.heap t e8)(hs:s.heap.IsSliceOf S b5 f .none)(pl:cQ b5 u7)(k:cQ f i)(j:HT.N4 e8.size 0 u7=0/\HT.N4 e8.size e8.size i=e8.size)(h:g8 (.ref t) s):wpAny (model P z) Y (lR (.ref t) (.ref S)) g8 b7 s:=by
 obtain⟨l,d,c,m⟩:=id hs;have b:s.TypeIs (.ref S) "slice":=⟨l,d,c⟩;delta lR;try with_reducible refine Gp ?_
 first|refine B4 (E6 ?_)|skip
 refine B4 (wpAny_sequenceKey a.typeIs A9 ?_);refine B4 (pa a.typeIs AH (oW AH a.typeIs entry_tuple_getitem ?_ (args_tuple_getitem _ _)));show wpAny _ _ (QK (.ref t) >>= _) _ _ s;refine B4 (tupleItemsOf_ a (B4 (Gi b ?_)));refine B4 (HT.nK hs pl k ?_);rw[j.1,j.2];show wpAny _ _ (if ((0)==0&&1==1&&(e8.size-0)==e8.size)=Uf then _ else _) _ _ s
 rw[A3 G9];refine B4 (B4 (Gi a.typeIs (E6 ?_)));first
  |exact B4 (qW (B4 (E6 ⟨_,rfl,E6 h⟩)))
  |exact B4 (qW (E6 ⟨_,rfl,E6 h⟩))
  |exact B4 (qW (B4 (E6 (E6 ⟨_,rfl,E6 h⟩))))
def a0x{s:A6}{ws:List w9}(x:IsTup s.heap t m5.toArray)(u:IsTup s.heap S ws.toArray)(m:m5=[])(h:g8 (.ref S) s):wpAny (model P z) Y (bQ .Add (.ref t) (.ref S)) g8 b7 s:=by
 obtain⟨⟨v,q,k,r⟩,i,l,n,o⟩:=id x;obtain⟨⟨j,e,g,c⟩,a,f,p,d⟩:=id u;subst l o f d;exact zL ⟨_,i,rfl⟩ ⟨_,a,rfl⟩ GN Gq Hh Hj (Hq _ _)
  (tuple_addW0 t S m5.toArray ws.toArray n p q e r c (by simp[m])) ⟨i,a,h⟩
section
variable{κ:Type}[DecidableEq κ]
noncomputable def fS(kvs:List (κ×V))(k:κ):Option V:=(kvs.find? λkv=>decide (kv.1=k)).map (·.2)
noncomputable def putK(kvs:List (κ×V))(k:κ)(v:V):List (κ×V):=
 if (kvs.any λkv=>decide (kv.1=k))=Uf then kvs.map (λkv=>if kv.1=k then(kv.1,v)else kv)else kvs++[(k,v)]
noncomputable def sP(kvs:List (κ×V))(k:κ):List (κ×V):=kvs.filter λkv=>decide (kv.1≠k)
def rM{p:κ×V}{r:List (κ×V)}{k:κ}(e:p.1=k):fS (p::r) k=U p.2:=by simp[fS,e]
def rN{p:κ×V}{r:List (κ×V)}{k:κ}(e:¬p.1=k):fS (p::r) k=fS r k:=by simp[fS,e]
theorem CY(k:κ):∀a:List (κ×V),(a.any λkv=>decide (kv.1=k))=(fS a k).isSome
 | []=>rfl
 |p::r=>by
  rw[gn];by_cases e:p.1=k;simp only[rM e,S6 e,Gg,PQ];rw[rN e,L5 e,zQ];exact CY k r
def wK(a:List (κ×V))(k:κ)(v:V):(putK a k v).length<=a.length+1:=by
 delta putK;split;rw[C8];simp[*];simp
def gg.Oj{u:Option w9}(r:gg t6 u):t6.isSome=u.isSome:=by
 cases t6 with
 |none=>cases u with
  |none=>rfl
  |some _=>exact(show False from r).elim
 |some _=>cases u with
  |none=>exact(show False from r).elim
  |some _=>rfl
theorem gg.getD{o:Option V}{u:Option w9}{d:V}{d':w9}(r:gg o u)(a:RelV d d'):RelV (o.getD d) (u.getD d'):=by
 cases o with
 |none=>cases u with
  |none=>exact a
  |some _=>exact(show False from r).elim
 |some _=>cases u with
  |none=>exact(show False from r).elim
  |some _=>exact r
def KV.val{a:List (κ×V)}{vs:List (κ×w9)}(r:KV a vs)(k:κ):gg (fS a k) (qP vs k):=by
 induction r with
 |nil=>exact gj
 | @cons p q j d h t i=>
  obtain⟨f,g⟩:=h;by_cases e:p.1=k
  . have c:=f.symm.trans e;have b:qP (q::d) k=U q.2:=by simp[qP,c]
    rw[rM e,b];exact g
  . have c:¬q.1=k:=λz=>e (f.trans z)
    have b:qP (q::d) k=qP d k:=by simp[qP,c]
    rw[rN e,b];exact i
theorem KV.any{a:List (κ×V)}{vs:List (κ×w9)}(r:KV a vs)(k:κ):(a.any λkv=>decide (kv.1=k))=vs.any λkv=>decide (kv.1=k):=by
 induction r with
 |nil=>rfl
 |cons h t b=>simp_all
def KV.DG{a:List (κ×V)}{vs:List (κ×w9)}(r:KV a vs)(k:κ)(c:RelV L b5):
  KV (a.map λkv=>if kv.1=k then(kv.1,L)else kv) (vs.map λkv=>if kv.1=k then(kv.1,b5)else kv):=by
 induction r with
 |nil=>exact .nil
 | @cons p q i g h t f=>
  rw[D8,D8];refine .cons ?_ f;obtain⟨b,d⟩:=h;by_cases e:p.1=k;rw[A3 e,A3 (b.symm.trans e)];exact⟨b,c⟩;rw[A4 e,A4 (λz=>e (b.trans z))];exact⟨b,d⟩
def KV.put{a:List (κ×V)}{vs:List (κ×w9)}(r:KV a vs)(k:κ)(b:RelV L b5):KV (putK a k L) (stored vs k b5):=by
 delta putK stored;rw[r.any k];by_cases e:(vs.any λkv=>decide (kv.1=k))=Uf;rw[A3 e,A3 e];exact r.DG k b;rw[A4 e,A4 e];exact Ga r ⟨rfl,b⟩
def KV.drop{c:List (κ×V)}{vs:List (κ×w9)}(r:KV c vs)(k:κ):KV (sP c k) (without vs k):=by
 delta sP without;induction r with
 |nil=>exact .nil
 | @cons p q l j h t f=>
  obtain⟨d,i⟩:=h;rw[Pr,Pr];by_cases e:p.1=k
  . have a:¬decide (p.1≠k)=Uf:=by simp[e]
    have b:¬decide (q.1≠k)=Uf:=by simp_all
    rw[A4 a,A4 b];exact f
  . have g:¬q.1=k:=λz=>e (d.trans z)
    have a:decide (p.1≠k)=Uf:=by simp[e]
    have b:decide (q.1≠k)=Uf:=by simp[g]
    rw[A3 a,A3 b];exact .cons ⟨d,i⟩ f
theorem KV.length{a:List (κ×V)}{vs:List (κ×w9)}(r:KV a vs):a.length=vs.length:=zU r
def Ul(a:List (κ×V))(k:κ):(sP a k).length<=a.length:=List.length_filter_le _ _
end
def yF(r:RelV (kV p8) b5):(V7 P z).is p8 b5=Uf:=by
 cases p8 with
 |inl i=>obtain⟨t,e⟩:=(show ∃t,b5=uX i t from r);subst e;exact HL P z i t
 |inr x=>obtain⟨t,e⟩:=(show ∃t,b5=qV x t from r);subst e;exact HK P z x t
theorem Cd{P:V1}{w:M5}:∀{ks:List Key}{us:List w9},Vals (ks.map kV) us->ItemsAre (V7 P w) ks us
 | [],_,r=>by rw[fx]at r;cases r;exact .nil
 |k::ks,_,r=>by
  cases r with
  |cons h t=>exact .cons (yF h) (Cd t)
abbrev KT(H:Hp):List (List Key×V)->List (List Key×Addr×w9)->Prop:=Paired λp q=>p.1=q.1/\H q.2.1=U (.tup (p.1.map kV))/\RelV p.2 q.2.2
def KT.val(r:KT m l9 p9)(k:List Key):gg (fS l9 k) ((atKey p9 k).map (·.2)):=by
 induction r with
 |nil=>exact gj
 | @cons p q j d h t i=>
  obtain⟨f,_,g⟩:=h;by_cases e:p.1=k
  . have c:=f.symm.trans e;have b:atKey (q::d) k=U q.2:=by simp[atKey,c]
    rw[rM e,b];exact g
  . have c:¬q.1=k:=λz=>e (f.trans z)
    have b:atKey (q::d) k=atKey d k:=by simp[atKey,c]
    rw[rN e,b];exact i
def KT.DG(r:KT m l9 p9)(k:List Key)(d:RelV L b5):
  KT m (l9.map λkv=>if kv.1=k then(kv.1,L)else kv) (p9.map (putAt k b5)):=by
 induction r with
 |nil=>exact .nil
 | @cons p q j i h t g=>
  rw[D8,D8];refine .cons ?_ g;obtain⟨b,c,f⟩:=h;delta putAt;by_cases e:p.1=k;rw[A3 e,A3 (b.symm.trans e)];exact⟨b,c,d⟩;rw[A4 e,A4 (λz=>e (b.trans z))];exact⟨b,c,f⟩
def KT.put(r:KT m l9 p9)(k:List Key)(d:m t=U (.tup (k.map kV)))(c:RelV L b5):
  KT m (putK l9 k L) (storedH p9 k t b5):=by
 have e:(l9.any λkv=>decide (kv.1=k))=(atKey p9 k).isSome:=by rw[CY,(r.val k).Oj,Option.isSome_map]
 delta putK storedH;rw[e];by_cases q:(atKey p9 k).isSome=Uf;rw[A3 q,A3 q];exact r.DG k c;rw[A4 q,A4 q];exact Ga r ⟨rfl,d,c⟩
def KT.keeps(r:KT m l9 p9)(c:∀b ys,m b=U (.tup ys)->y b=U (.tup ys)):KT y l9 p9:=
 Paired.a2u r λ_ _ z=>⟨z.1,c _ _ z.2.1,z.2.2⟩
section
variable{H:Hp}{h:Heap}
def Vv(ok:bR P z H h)(e:Rd H t m6):Y8 P z H h t m6:=e.ok ok
def CM(ok:bR P z H h)(e:Rd H t (.dK k7)):k7.length<=D6/\(t==ib)=U'/\∃vs,KV k7 vs/\h.DictOf (V7 P z) t vs:=
 show Y8 P z H h t (.dK k7)from Vv ok e
def XD(ok:bR P z H h)(e:H t=U (.dK k7)):k7.length<=D6/\(t==ib)=U'/\∃vs,KV k7 vs/\h.DictOf (V7 P z) t vs:=CM ok (.inl e)
def yD{ks:List Key}(ok:bR P z H h)(e:H t=U (.tup (ks.map kV))):(oI (V7 P z)).is h ks t:=by
 obtain⟨_,b,r,o,c,f,n,d⟩:=(show Y8 P z H h t (.tup (ks.map kV))from ok t _ e);exact⟨o,b.toArray,n,c,f,d,by simpa using Cd r⟩
def CL(ok:bR P z H h)(e:Rd H t (.dT l9)):l9.length<=D6/\(t==ib)=U' /\
  ∃xs,KT H l9 xs/\h.DictOfH (oI (V7 P z)) t xs:=by
 obtain⟨w,y,xs,r,o,g,f,d,j,k,i,n⟩:=(show Y8 P z H h t (.dT l9)from Vv ok e);refine⟨w,y,xs,r,o,g,f,d,j,k,i,λx c=>?_,n⟩
 have all:∀{l:List (List Key×V)}{m:List (List Key×Addr×w9)},KT H l m->∀x∈m,(oI (V7 P z)).is h x.1 x.2.1:=by
  intro l m q;induction q with
  |nil=>intro x c;exact nomatch c
  | @cons p q v u hq a s=>
   intro x c;rcases List.mem_cons.mp c with e|c
   subst e;exact yD ok (by rw[<-hq.1];exact hq.2.1);exact s x c
 exact all r x c
def a4E(ok:bR P z H h)(e:H t=U (.dT l9)):l9.length<=D6/\(t==ib)=U' /\
  ∃xs,KT H l9 xs/\h.DictOfH (oI (V7 P z)) t xs:=CL ok (.inl e)
end
def vI(H:Hp)(a:Addr)(y:V)(r:Option V):Prop:=
 (∃kvs k,Rd H a (.dK kvs)/\y=kV k/\r=fS kvs k)\/∃kvs k b,Rd H a (.dT kvs)/\y=.ref b/\H b=U (.tup (k.map kV))/\r=fS kvs k
def Hy(H:Hp)(a:Addr)(y v:V)(H':Hp):Prop:=
 (∃kvs k,H a=U (.dK kvs)/\y=kV k/\kvs.length<D6/\H'=upd H a (.dK (putK kvs k v))) \/
 ∃kvs k b,H a=U (.dT kvs)/\y=.ref b/\H b=U (.tup (k.map kV))/\kvs.length<D6/\H'=upd H a (.dT (putK kvs k v))
theorem vI.k{b:List (Key×V)}{k:Key}(e:m t=U (.dK b)):vI m t (kV k) (fS b k):=.inl ⟨b,k,.inl e,rfl,rfl⟩
theorem Hy.k{b:List (Key×V)}{k:Key}{v:V}(e:m t=U (.dK b))(c:b.length<D6):Hy m t (kV k) v (upd m t (.dK (putK b k v))):=.inl ⟨b,k,e,rfl,c,rfl⟩
section
variable{H:Hp}{r:w9}
def Inv.big(I:Inv c c7 B H A):ib<(hz A):=by exact Gf A9 ((I.mod.glob.keeps I.bk).lt)
def Bu(I:Inv c c7 B H A)(mu:Pg (H t))(hs:oO t A.heap d9)(d:∃q,d9.get? t=U q)(new:Y8 c.prog c.w (upd H t m6) d9 t m6):
  Inv c c7 B (upd H t m6) {A with heap:=d9,toks:=N}:=
 I.write mu (.inl rfl) (λb q X z=>(hs.2 b X).trans z) d new
def OK{vs:List (Key×w9)}(a:k7.length<=D6)(hd:(t==ib)=U')(c:KV k7 vs)(d:d9.DictOf (V7 P z) t vs):
  Y8 P z m d9 t (.dK k7):=⟨a,hd,vs,c,d⟩
def OM{v:V}{Q:Unit->A6->Prop}(G:Y.units+1<U5)(I:Inv c c7 B H A)(g:Hy H t L v m)(x:RelV L b5)(F:RelV v r)(h:∀s',Inv c c7 B m s'->Q () s'):
  wpAny (model c.prog c.w) Y (setItem (.ref t) b5 r) Q b7 A:=by
 rcases g with ⟨d,k,e,p,l,s⟩|⟨d,k,b,e,p,σ,l,s⟩
 . subst p s;obtain⟨z,n,O,f,y⟩:=XD I.G8 e;have:O.length<=D6:=by rw[<-f.length];exact z
   have j:(putK d k v).length<=D6:=by have:=wK d k v;exact C3 A2 A2
   refine wpAny_setItem_pairs (yF x) y λD i o=>h _ ?_
   have a:∃q,D.get? t=U q:=let ⟨q,_,_,hq,_⟩:=i;⟨q,hq⟩;exact Bu I (by rw[e];exact gj) o a (OK j n (f.put k F) i)
 . subst p s;cases(show b5=fu b from x)
   obtain⟨z,n,S,f,y⟩:=a4E I.G8 e;have:S.length<=D6:=by rw[<-zU f];exact z
   have j:(putK d k v).length<=D6:=by have:=wK d k v;exact C3 A2 A2
   refine wpAny_setItem_heap (GW G) (yD I.G8 σ) y λD i o=>h _ ?_;obtain⟨q,P,N,hq,R,T,K,_,M⟩:=i;refine Bu I (by rw[e];exact gj) o ⟨q,hq⟩ ⟨j,n,_,(f.put k σ F).keeps λX V C=>?_,q,P,N,hq,R,T,K,M⟩;rw[K1 (a4w C e (λz=>nomatch z))];exact C
end
section
variable{H:Hp}
def a4F(I:Inv c c7 B H A)(e:H t=U (.dK k7))(d:RelV (kV p8) b5)(l:fS k7 p8=U L)(j:m5=[]\/∃x,m5=[x])(h:∀w' s',Inv c c7 B (upd H t (.dK (sP k7 p8))) s'->RelV L w'->g8 w' s'):wpAny (model c.prog c.w) Y (call (.builtin "dict.pop") (.ref t::b5::m5)) g8 b7 A:=by
 obtain⟨z,y,r,b,g⟩:=XD I.G8 e;obtain⟨w',m,f⟩:=gg.some_of (by rw[<-l];exact b.val p8)
 have o:(keyPart b5).isSome=Uf:=by
  cases p8 with
  |inl i=>obtain⟨s,q⟩:=(show ∃s,b5=uX i s from d);subst q;rfl
  |inr x=>obtain⟨s,q⟩:=(show ∃s,b5=qV x s from d);subst q;rfl
 have C:argsOk "dict.pop" ⟨.ref t::b5::m5,[]⟩:=by
  rcases j with q|⟨x,q⟩
  subst q;exact PySem.F.args_dict_pop_2 _ _;subst q;exact PySem.F.args_dict_pop_3 _ _ _
 refine vd Qt g.typeIs PySem.F.entry_dict_pop C (meets_dict_pop_there (V7 c.prog c.w) t (yF d) m5 j o)
  ⟨r,w',g,by rw[<-b.length];exact z,m,λp X σ=>h w' _ ?_ f⟩
 have n:∃q,p.get? t=U q:=let ⟨q,_,_,hq,_⟩:=X;⟨q,hq⟩;exact Bu I (by rw[e];exact gj) σ n (OK (C3 (Ul k7 p8) z) y (b.drop p8) X)
end
def Vt(td ty tv:TE):TS:=λD σ H=>tv σ H λv H1=>td σ H1 λx H2=>ty σ H2 λy H3=>∃a H4,x=.ref a/\Hy H3 a y v H4/\D.nx σ H4
def Zb{tv:TE}(n:c.A.units+1<U5)(t:PE c o g)(e:PE c E e9)(d:PE c j0 tv)(hs:bc j0 (U (.Subscript o E Q)) p.line c.env=pure U'):
  PS c (.Assign [.Subscript o E Q] j0 p) (Vt g e9 tv):=by
 intro b s X H D I h;refine wpAny_Assign_Subscript (G5 (d b s X H _ I h) λr q ⟨v,F,G,B,i⟩=>G5 (t b q X F _ G i) λu z ⟨x,k,j,w,q2⟩=>G5 (e b z X k _ j q2) λN O ⟨y,L,A,m,a,f,K,P,l⟩=>?_) hs;subst K;obtain rfl:=w;exact OM n A P m B λM C=>⟨X,f,C,l⟩
def Um(h:Heap)(a:ib<h.objs.size):Y8 P z m (h.push {cls:=.type "dict",data:=.dict #[]}) h.objs.size (.dK []):=
 ⟨jx _,beq_eq_false_iff_ne.mpr (lS (X3 a)),[],.nil,Heap.DictOf.new h⟩
def LU:TE:=λ_ H Q=>∀p,H p=J->Q (.ref p) (upd H p (.dK []))
def SR:PE c (.Dict [] [] p) LU:=λa s b H Q I h=>
 wpAny_Dict_empty ⟨.ref (hz s),_,I.laid (λ_ _ q=>I0 _ q) O8 (Um s.heap I.big),rfl,h _ (I.G8.fresh O8)⟩
structure M1(X:Cx)(o:Expr)(m:Str)(apos:Pos)(e:Expr)(cpos:Pos):Prop where
 base:zT o m X.env (eval o X.env)=eval o X.env
 XA:((gi cpos (W2 [e] X.env)).all (λx=>!x.1)&&(backToKw cpos (zF [] X.env)).all (λx=>x.1.isSome)
  && decide (([e]:List Expr).length+([]:List qR).length+(if ([]:List qR).isEmpty then 0 else 1)<30))=Uf
 line:(apos.endLine==cpos.line)=Uf
 trees:gi cpos (W2 [e] X.env)=[(U',eval e X.env)]
structure M2(X:Cx)(o:Expr)(m:Str)(apos:Pos)(e f:Expr)(cpos:Pos):Prop where
 base:zT o m X.env (eval o X.env)=eval o X.env
 XA:((gi cpos (W2 [e,f] X.env)).all (λx=>!x.1)&&(backToKw cpos (zF [] X.env)).all (λx=>x.1.isSome)
  && decide (([e,f]:List Expr).length+([]:List qR).length+(if ([]:List qR).isEmpty then 0 else 1)<30))=Uf
 line:(apos.endLine==cpos.line)=Uf
 trees:gi cpos (W2 [e,f] X.env)=[(U',eval e X.env),(U',eval f X.env)]
def XY(H:Hp)(a:Addr):Prop:=(∃kvs,Rd H a (.dK kvs))\/∃kvs,Rd H a (.dT kvs)
def EJ(I:Inv c c7 B m A)(d:XY m t):
  A.TypeIs (.ref t) "dict"/\(∀b,fu t=.ref b->∃ob,A.heap.get? b=U ob/\ob.dict=J)/\(t==ib)=U':=by
 rcases d with ⟨i,e⟩|⟨i,e⟩
 . obtain⟨_,g,k,_,X⟩:=CM I.G8 e;refine⟨X.typeIs,λb q=>?_,g⟩;cases q;obtain⟨ob,_,_,f,h,_⟩:=X;exact⟨ob,f,h.2.1⟩
 . obtain⟨_,g,l,_,X⟩:=CL I.G8 e;refine⟨X.typeIs,λb q=>?_,g⟩;cases q;obtain⟨ob,_,_,f,h,_⟩:=X;exact⟨ob,f,h.2.1⟩
section
variable{H:Hp}{r:w9}
def a3i(p:Y.units+1<U5)(I:Inv c c7 B H A)(g:vI H t L t6)(m:RelV L b5)(h:∀w' s',Inv c c7 B H s'->RelV (t6.getD .non) w'->g8 w' s'):
  wpAny (model c.prog c.w) Y (call (.builtin "dict.get") [.ref t,b5]) g8 b7 A:=by
 rcases g with ⟨i,k,e,j,l⟩|⟨i,k,b,e,j,n,l⟩
 subst j;obtain⟨z,f,r,X,d⟩:=CM I.G8 e;refine vd rE d.typeIs Ay (QD _ _) (meets_dict_get (V7 c.prog c.w) t (yF m) f) ⟨_,d.mapOf,h _ _ (I.tok _) ?_⟩;rw[l];exact(X.val k).getD rfl
 . subst j;cases(show b5=fu b from m);obtain⟨z,f,q,X,d⟩:=CL I.G8 e;refine vd rE d.typeIs Ay (QD _ _) (meetsH_dict_get (oI (V7 c.prog c.w)) t b f) ⟨GW p,k,q,yD I.G8 n,d,h _ _ (I.tok _) ?_⟩;rw[l];exact(X.val k).getD rfl
def a3h{d:V}(σ:Y.units+1<U5)(I:Inv c c7 B H A)(g:vI H t L t6)(p:RelV L b5)(n:RelV d r)(h:∀w' s',Inv c c7 B H s'->RelV (t6.getD d) w'->g8 w' s'):
  wpAny (model c.prog c.w) Y (call (.builtin "dict.get") [.ref t,b5,r]) g8 b7 A:=by
 rcases g with ⟨j,k,e,m,l⟩|⟨j,k,b,e,m,q,l⟩
 subst m;obtain⟨z,i,x,X,f⟩:=CM I.G8 e;refine vd rE f.typeIs Ay (QC _ _ _) (meets_dict_get_default (V7 c.prog c.w) t (yF p) i r) ⟨_,f.mapOf,h _ _ (I.tok _) ?_⟩;rw[l];exact(X.val k).getD n
 . subst m;cases(show b5=fu b from p);obtain⟨z,i,v,X,f⟩:=CL I.G8 e;refine vd rE f.typeIs Ay (QC _ _ _) (meetsH_dict_get_default (oI (V7 c.prog c.w)) t b i r) ⟨GW σ,k,v,yD I.G8 q,f,h _ _ (I.tok _) ?_⟩;rw[l];exact(X.val k).getD n
end
def LW(td ty:TE):TE:=λσ H Q=>td σ H λx H1=>∃a,x=.ref a/\XY H1 a/\ty σ H1 λy H2=>∃o,vI H2 a y o/\Q (o.getD .non) H2
def LV(td ty tx:TE):TE:=λσ H Q=>td σ H λx H1=>∃a,x=.ref a/\XY H1 a/\ty σ H1 λy H2=>tx σ H2 λz H3=>∃o,vI H3 a y o/\Q (o.getD z) H3
def LS(td ty:TE):TE:=λσ H Q=>td σ H λx H1=>∃a,x=.ref a/\XY H1 a/\ty σ H1 λy H2=>∃kvs k v,H2 a=U (.dK kvs)/\y=kV k/\fS kvs k=U v/\Q v (upd H2 a (.dK (sP kvs k)))
def SU(A:c.A.units+1<U5)(w:PE c o g)(v:PE c E e9)(m:M1 c o "get" p E Q):PE c (.Call (.Attribute o "get" p) [E] [] Q) (LW g e9):=by
 intro b s f H F I h;refine GP m.base m.XA m.line Hi rE Qs (G5 (w b s f H _ I h) λu r ⟨x,C,i,z,a,D,d,B⟩=>?_);subst D;obtain rfl:=z;obtain⟨j,t,_⟩:=EJ i d;refine⟨j,t,?_⟩;rw[m.trees];refine vy rfl (Aw (vr (G5 (v b r f C _ i B) λe K ⟨y,l,k,n,L,N,q2⟩=>Ap ?_)));exact a3i A k N n λM G q X=>⟨_,l,q,X,q2⟩
def SS{tx:TE}(r:c.A.units+1<U5)(G:PE c o g)(e:PE c E e9)(C:PE c j0 tx)(m:M2 c o "get" p E j0 Q):PE c (.Call (.Attribute o "get" p) [E,j0] [] Q) (LV g e9 tx):=by
 intro b s X H A I h;refine GP m.base m.XA m.line Hi rE Qs (G5 (G b s X H _ I h) λu v ⟨x,O,j,K,a,P,d,N⟩=>?_)
 subst P;obtain rfl:=K;obtain⟨k,D,_⟩:=EJ j d;refine⟨k,D,?_⟩;rw[m.trees];refine vy rfl (Aw (vr (G5 (e b v X O _ j N) λS L ⟨y,n,l,f,q2⟩=>
  vr (G5 (C b L X n _ l q2) λV T ⟨z,w,t,B,W,F,q⟩=>Ap ?_))))
 exact a3h r t F f B λY R M i=>⟨_,w,M,i,q⟩
def SQ(B:PE c o g)(A:PE c E e9)(m:M1 c o "pop" p E Q):PE c (.Call (.Attribute o "pop" p) [E] [] Q) (LS g e9):=by
 intro b s f H P I h;refine GP m.base m.XA m.line Hi Qt PySem.F.type_dict_pop (G5 (B b s f H _ I h) λu r ⟨x,e,R,C,a,G,d,D⟩=>?_);subst G;obtain rfl:=C;obtain⟨j,w,_⟩:=EJ R d;refine⟨j,w,?_⟩;rw[m.trees];refine vy rfl (Aw (vr (G5 (A b r f e _ R D) λL N ⟨y,K,n,F,t,k,v,i,z,l,q2⟩=>Ap ?_)));subst z;exact a4F n i F l (.inl rfl) λO M q X=>⟨v,_,q,X,q2⟩
section
variable{H:Hp}
end
section
variable{H:Hp}
end
inductive PF where
 |dat (d:l5)
 |own (l:List l5)
 |dct (es:List (Str×l5))
variable{i8:List (Str×PF)}{k8:PF}
inductive OD where
 |dct (es:List (Str×l5))
 |ins (nm:Str) (fs:List (Str×PF))
 |seq (b:Bool) (fs:List (Str×PF))
inductive PV where
 |dat (d:l5)
 |own (l:List l5)
 |ob (w:Option Addr) (c:OD)
variable{d8:PV}{j8:l5->l5->Option PV}{n8:List PV}{v5:l5->Option PV}
noncomputable abbrev sd(d:l5):Option PV:=U (.dat d)
def PF.d:PF->l5
 | .dat d=>d
 | .own l=>.list l
 | .dct es=>Lg (es.map (·.1)) (es.map (·.2))
def OD.d:OD->l5
 | .dct es=>Lg (es.map (·.1)) (es.map (·.2))
 | .ins nm fs=>Ua nm (fs.map (·.1)) (fs.map λf=>f.2.d)
 | .seq Uf fs=>.list (fs.map λf=>f.2.d)
 | .seq U' fs=>.tuple (fs.map λf=>f.2.d)
noncomputable def PV.d:PV->l5
 | .dat d=>d
 | .own l=>.list l
 | .ob _ c=>c.d
@[simp] theorem PV.eR(d:l5):(PV.dat d).d=d:=rfl
@[simp] theorem PV.zh(l:List l5):(PV.own l).d=.list l:=rfl
noncomputable abbrev Ds:=List (Option PV)
variable{G:Ds}{v9:Ds->Option PV}
abbrev DV:=Ds->Option PV
variable{D j3:DV}
abbrev DB:=Ds->Option Bool
variable{c5:DB}
abbrev DL:=Ds->Option (List l5)
variable{h7:DL}
abbrev DD:=Ds->Option Ds
variable{m9:l5->DD}{v6:List l5->DD}
noncomputable abbrev FV:=List l5->Option PV
variable{q5:FV}
noncomputable abbrev As:=List (Option Addr)
variable{q:As}
noncomputable def C9(H:Hp)(as:As)(O:List Addr):Hp:=λb=>if b∈O\/U b∈as then J else H b
set_option tactic.hygienic true in
def P0:C9 m q O t=U m6↔(t∉O/\U t∉q/\m t=U m6):=by
 delta C9;split
 . rename_i h;constructor;intro z;exact nE z;rintro⟨a,c,_⟩;exact(h.elim a c).elim
 . rename_i h;constructor;intro z;exact⟨λH=>h (.inl H),λH=>h (.inr H),z⟩;rintro⟨_,_,z⟩;exact z
def fj{a:As}(e:∀b o,b∉O->U b∉q->m b=U o->b∉j5/\U b∉a/\y b=U o):A5 (C9 m q O) (C9 y a j5):=λb o h=>by obtain⟨d,f,g⟩:=P0.mp h;exact P0.mpr (e b o d f g)
def S3(e:A5 m y):A5 (C9 m q O) (C9 y q O):=fj λb o a c d=>⟨a,c,e b o d⟩
def Z3{a:As}(e:A5 m y)(h:∀b,U b∈a->U b∈q):A5 (C9 m q O) (C9 y a O):=fj λb o c d f=>⟨c,λz=>d (h b z),e b o f⟩
def G3:A5 (C9 m q O) m:=λb o h=>(P0.mp h).2.2
def EO{bs:As}:C9 m (bs++q) O=C9 m bs (O++q.filterMap id):=by
 funext b
 delta C9;have:(b∈O\/U b∈bs++q)↔(b∈O++q.filterMap id\/U b∈bs):=by
  simp only[oS,Au];constructor
  . rintro(h|h|h);exact .inl (.inl h);exact .inr h;exact .inl (.inr ⟨_,h,rfl⟩)
  . rintro((h|⟨x,h,e⟩)|h);exact .inl h;subst e;exact .inr (.inr h);exact .inr (.inl h)
 by_cases c:b∈O\/U b∈bs++q;rw[A3 c,A3 (this.mp c)];rw[A4 c,A4 (λz=>c (this.mpr z))]
noncomputable def Cell(u:HO):Prop:=(∃xs,u=.lst xs)\/(∃kvs,u=.dK kvs)\/∃C dx fv,u=.ins C dx fv
abbrev Cl:={u:HO // Cell u}
noncomputable def Cl.l(xs:List V):Cl:=⟨.lst xs,.inl ⟨xs,rfl⟩⟩
noncomputable def Cl.d(kvs:List (Key×V)):Cl:=⟨.dK kvs,.inr (.inl ⟨kvs,rfl⟩)⟩
noncomputable def Cl.i(C dx:Addr)(fv:List (Str×V)):Cl:=⟨.ins C dx fv,.inr (.inr ⟨C,dx,fv,rfl⟩)⟩
def aP(K:B1)(Hv:Hp):List (Key×V)->List (Str×l5)->Prop:=Paired λ(p:Key×V) (q:Str×l5)=>p.1=.inr q.1/\Dt K Hv p.2 q.2
theorem aP.same{K:B1}{H H':Hp}{a:List (Key×V)}{es:List (Str×l5)}(e:A5 H H')(h:aP K H a es):aP K H' a es:=by
 induction h with
 |nil=>exact .nil
 |cons h t b=>exact .cons ⟨h.1,h.2.same e⟩ b
inductive R5(K:B1)(Hv H:Hp):List (Str×V)->List (Str×PF)->List Addr->Prop
 |nil:R5 K Hv H [] [] []
 |dat {n x d fv fs R}:Dt K Hv x d->R5 K Hv H fv fs R->R5 K Hv H ((n,x)::fv) ((n,.dat d)::fs) R
 |own {n a xs l fv fs R}:H a=U (.lst xs)->E8 K Hv xs l->a∉R->R5 K Hv H fv fs R->R5 K Hv H ((n,.ref a)::fv) ((n,.own l)::fs) (a::R)
 |dct {n a kvs es fv fs R}:H a=U (.dK kvs)->aP K Hv kvs es->a∉R->R5 K Hv H fv fs R->R5 K Hv H ((n,.ref a)::fv) ((n,.dct es)::fs) (a::R)
def mC(K:B1)(Hv H:Hp)(v:Addr)(R:List Addr):OD->Prop
 | .dct es=>∃kvs,R=[v]/\H v=U (.dK kvs)/\aP K Hv kvs es
 | .ins nm fs=>∃C dx fv R',R=v::R'/\bW K T1 nm=U (U (.ref C))/\H v=U (.ins C dx fv)/\R5 K Hv H fv fs R'
 | .seq Uf fs=>∃fv R',R=v::R'/\v∉R'/\H v=U (.lst (fv.map (·.2)))/\R5 K Hv H fv fs R'
 | .seq U' fs=>∃fv,Hv v=U (.tup (fv.map (·.2)))/\R5 K Hv H fv fs R
section
variable{K:B1}{H:Hp}
theorem R5.same{Hv:Hp}{Hv':Hp}{H':Hp}{R:List Addr}{fv:List (Str×V)}{fs:List (Str×PF)}(e:A5 Hv Hv')(h:R5 K Hv H fv fs R):(∀b∈R,∀o,H b=U o->H' b=U o)->R5 K Hv' H' fv fs R:=by
 induction h with
 |nil=>exact λ_=>.nil
 |dat j t c=>exact λa=>.dat (j.same e) (c a)
 |own f g i t c=>exact λa=>.own (a _ F5 _ f) (g.same e) i (c λb d=>a b (F8 _ d))
 |dct f g i t c=>exact λa=>.dct (a _ F5 _ f) (g.same e) i (c λb d=>a b (F8 _ d))
def R5.at(h:R5 K m H j6 i8 O):∀b∈O,∃u:HO,((∃xs,u=.lst xs)\/∃e,u=.dK e)/\H b=U u:=by
 induction h with
 |nil=>exact λb a=>absurd a G9
 |dat i t c=>exact c
 |own d f g t c=>
  intro b a;rcases List.mem_cons.mp a with rfl|a
  exact⟨_,.inl ⟨_,rfl⟩,d⟩;exact c b a
 |dct d f g t c=>
  intro b a;rcases List.mem_cons.mp a with rfl|a
  exact⟨_,.inr ⟨_,rfl⟩,d⟩;exact c b a
theorem mC.same{Hv:Hp}{Hv':Hp}{H':Hp}{v:Addr}{R:List Addr}{c:OD}(e:A5 Hv Hv')(f:∀b∈R,∀o,H b=U o->H' b=U o)(h:mC K Hv H v R c):mC K Hv' H' v R c:=by
 cases c with
 |dct n=>obtain⟨k,rfl,a,d⟩:=h;exact⟨k,rfl,f _ F5 _ a,d.same e⟩
 |ins p fs=>
  obtain⟨C,m,g,l,rfl,j,a,d⟩:=h;exact⟨C,m,g,l,rfl,j,f _ F5 _ a,d.same e λb i=>f b (F8 _ i)⟩
 |seq b fs=>
  cases b with
  |true=>
   obtain⟨g,l,rfl,j,a,d⟩:=h;exact⟨g,l,rfl,j,f _ F5 _ a,d.same e λb i=>f b (F8 _ i)⟩
  |false=>obtain⟨g,a,d⟩:=h;exact⟨g,e _ _ a,d.same e f⟩
theorem mC.at{Hv:Hp}{v:Addr}{R:List Addr}{c:OD}(h:mC K Hv H v R c):∀b∈R,∃u:Cl,H b=U u.1:=by
 cases c with
 |dct q=>
  obtain⟨n,rfl,j,f⟩:=h;intro b a;rw[mem_singleton.mp a];exact⟨Cl.d n,j⟩
 |ins r fs=>
  obtain⟨C,o,k,m,rfl,p,j,f⟩:=h;intro b a;rcases List.mem_cons.mp a with rfl|a
  exact⟨Cl.i C o k,j⟩
  . obtain⟨u,h|h,e⟩:=f.at b a;exact⟨⟨u,.inl h⟩,e⟩;exact⟨⟨u,.inr (.inl h)⟩,e⟩
 |seq t fs=>
  have g:∀{k m},R5 K Hv H k fs m->∀b∈m,∃u:Cl,H b=U u.1:=λf b a=>by
   obtain⟨u,h|h,e⟩:=f.at b a;exact⟨⟨u,.inl h⟩,e⟩;exact⟨⟨u,.inr (.inl h)⟩,e⟩
  cases t with
  |true=>
   obtain⟨k,m,rfl,p,j,f⟩:=h;intro b a;rcases List.mem_cons.mp a with rfl|a
   exact⟨Cl.l _,j⟩;exact g f b a
  |false=>obtain⟨k,j,f⟩:=h;exact g f
def IZ(h:aP K m k7 u8):k7=((u8.map (·.1)).map jw).zip (k7.map (·.2))/\E8 K m (k7.map (·.2)) (u8.map (·.2)):=by
 induction h with
 |nil=>exact⟨rfl,.nil⟩
 | @cons p q c d h t b=>
  refine⟨?_,.cons h.2 b.2⟩;rw[D8,D8,D8,Ar,<-b.1,<-h.1]
def R5.dts(h:R5 K m H j6 i8 O)(e:A5 m y)(a:∀b∈O,∀o,H b=U o->y b=U o):j6=(i8.map (·.1)).zip (j6.map (·.2))/\E8 K y (j6.map (·.2)) (i8.map λf=>f.2.d):=by
 induction h with
 |nil=>exact⟨rfl,.nil⟩
 |dat p t c=>
  obtain⟨g,i⟩:=c a;refine⟨?_,.cons (p.same e) i⟩;rw[D8,D8,Ar,<-g]
 |own l j n t c=>
  obtain⟨g,i⟩:=c λb k=>a b (F8 _ k);refine⟨?_,.cons (.lst (N6.of (a _ F5 _ l)) (j.same e)) i⟩;rw[D8,D8,Ar,<-g]
 |dct l j n t c=>
  obtain⟨g,i⟩:=c λb k=>a b (F8 _ k);obtain⟨R,k2⟩:=IZ j;refine⟨?_,.cons (.dct (a _ F5 _ l) R (k2.same e)) i⟩;rw[D8,D8,Ar,<-g]
def mC.dt{c:OD}(h:mC K m H t O c)(e:A5 m y)(g:∀b∈O,∀o,H b=U o->y b=U o):Dt K y (.ref t) c.d:=by
 cases c with
 |dct q=>
  obtain⟨v,rfl,a,f⟩:=h;obtain⟨i,k2⟩:=IZ f;exact .dct (g _ F5 _ a) i (k2.same e)
 |ins r fs=>
  obtain⟨C,p,k,n,rfl,l,a,f⟩:=h;obtain⟨i,k2⟩:=f.dts e λb j=>g b (F8 _ j);exact .ins l (g _ F5 _ a) i k2
 |seq b fs=>
  cases b with
  |true=>
   obtain⟨k,n,rfl,l,a,f⟩:=h;obtain⟨i,k2⟩:=f.dts e λb j=>g b (F8 _ j);exact .lst (N6.of (g _ F5 _ a)) k2
  |false=>
   obtain⟨k,a,f⟩:=h;obtain⟨i,k2⟩:=f.dts e g;exact .tup (Y7.of (e _ _ a)) k2
end
def bO(K:B1)(O:List Addr)(as:As)(H:Hp)(si:Option (Option V))(rg:List Addr):PV->Prop
 | .dat d=>∃v,si=U (U v)/\Dt K (C9 H as O) v d
 | .own l=>∃a xs,si=U (U (.ref a))/\a∈rg/\H a=U (.lst xs)/\E8 K (C9 H as O) xs l
 | .ob w c=>∃v R,si=U (U (.ref v))/\(w=J\/w=U v)/\(∀b∈R,b∈rg)/\mC K (C9 H as O) H v R c
structure DS(K:B1)(O:List Addr)(B6:Hp)(as:As)(σ:St)(H:Hp)(ds:Ds):Prop where
 ls:σ.length=ds.length
 same:A5 B6 H
 new:∀a,U a∈as->B6 a=J/\∃u:Cl,H a=U u.1
 eD:∀a∈O,∃o,B6 a=U o
 fg:∃rg:Nat->List Addr,(∀i b,b∈rg i->U b∈as)/\(∀i j b,b∈rg i->b∈rg j->i=j)/\∀(i:Nat) (pv:PV),ds[i]?=U (U pv)->bO K O as H σ[i]? (rg i) pv
def Lo(K:B1)(O:List Addr)(as:As)(H:Hp)(si:Option (Option V)):PV->Prop
 | .dat d=>∃v,si=U (U v)/\Dt K (C9 H as O) v d
 | .own l=>∃a xs,si=U (U (.ref a))/\U a∈as/\H a=U (.lst xs)/\E8 K (C9 H as O) xs l
 | .ob w c=>∃v R,si=U (U (.ref v))/\(w=J\/w=U v)/\(∀b∈R,U b∈as)/\mC K (C9 H as O) H v R c
def DS.slot(S:DS e O m q B y G)(i:Nat)(pv:PV)(h:G[i]?=U (U pv)):Lo e O q y B[i]? pv:=by
 obtain⟨r,j,k,n⟩:=S.fg;have z:=n i pv h;cases pv with
 |dat d=>exact z
 |own l=>obtain⟨a,H,K,g,f⟩:=z;exact⟨a,H,K,j i a g,f⟩
 |ob w c=>obtain⟨v,R,K,g,f,p⟩:=z;exact⟨v,R,K,g,λb o=>j i b (f b o),p⟩
def bO.yn{bs:As}{g:List Addr}(h:bO e O q m u9 j5 d8)(K:A5 (C9 m q O) (C9 y bs O))(n:∀b∈j5,∀o,m b=U o->y b=U o)(H:∀b∈j5,b∈g):bO e O bs y u9 g d8:=by
 cases d8 with
 |dat d=>obtain⟨v,f,z⟩:=h;exact⟨v,f,z.same K⟩
 |own l=>obtain⟨a,r,f,j,i,z⟩:=h;exact⟨a,r,f,H a j,n a j _ i,z.same K⟩
 |ob w c=>obtain⟨v,R,f,j,i,z⟩:=h;exact⟨v,R,f,j,λb p=>H b (i b p),z.same K λb p=>n b (i b p)⟩
noncomputable def cD(fr:Bool)(as:As):As:=if fr=Uf then as else[]
def Ib(h:U t∈cD I q):U t∈q:=by
 unfold cD at h
 simp_all
def RX(K:B1)(O:List Addr)(va:As)(H H':Hp)(v:V):PV->Prop
 | .dat d=>Dt K (C9 H' va O) v d
 | .own l=>∃a xs,v=.ref a/\H a=J/\H' a=U (.lst xs)/\E8 K (C9 H' (U a::va) O) xs l
 | .ob w c=>∃o R,v=.ref o/\(w=J\/w=U o)/\(∀b∈R,H b=J)/\mC K (C9 H' (R.map U++va) O) H' o R c
structure pq(H:Hp)(va:As)(O:List Addr):Prop where
 o:∀a∈O,∃u,H a=U u
 a:∀a,U a∈va->∃u,H a=U u
section
variable{K:B1}{H:Hp}
def pq.same(D:pq H q O)(e:A5 H m):pq m q O:=⟨λa h=>let ⟨u,z⟩:=D.o a h;⟨u,e _ _ z⟩,λa h=>let ⟨u,z⟩:=D.a a h;⟨u,e _ _ z⟩⟩
def DS.dm{fr:Bool}(S:DS K O m q B H G):pq H (cD fr q) O:=⟨λa h=>let ⟨u,z⟩:=S.eD a h;⟨u,S.same _ _ z⟩,λa h=>let ⟨_,z⟩:=(S.new a (Ib h)).2;⟨_,z⟩⟩
def DS.nO(S:DS K O m q B H G)(h:U t∈q):t∉O:=λz=>by obtain⟨o,e⟩:=S.eD t z;rw[(S.new t h).1]at e;exact nE e
def DS.grow(S:DS K O m q B H G)(e:A5 H y):DS K O m q B y G:=
 ⟨S.ls,S.same.trans e,λa h=>⟨(S.new a h).1,let ⟨o,z⟩:=(S.new a h).2;⟨o,e _ _ z⟩⟩,S.eD,let ⟨d,g,c,f⟩:=S.fg;⟨d,g,c,λi pv h=>(f i pv h).yn (S3 e) (λb _ o z=>e _ _ z) λ_ z=>z⟩⟩
def RX.grow(h:RX K O q H m L d8)(e:A5 m y):RX K O q H y L d8:=by
 cases d8 with
 |dat d=>exact Dt.same (S3 e) h
 |own l=>obtain⟨a,j,g,f,i,h⟩:=h;exact⟨a,j,g,f,e _ _ i,h.same (S3 e)⟩
 |ob w c=>obtain⟨o,R,g,f,i,h⟩:=h;exact⟨o,R,g,f,i,h.same (S3 e) λb _ u z=>e _ _ z⟩
def RX.back(h:RX K O q H m L d8)(e:A5 y H):RX K O q y m L d8:=by
 cases d8 with
 |dat d=>exact h
 |own l=>obtain⟨a,j,g,f,i,h⟩:=h;exact⟨a,j,g,e.free f,i,h⟩
 |ob w c=>obtain⟨o,R,g,f,i,h⟩:=h;exact⟨o,R,g,f,λb k=>e.free (i b k),h⟩
def mC.cD{c:OD}(h:mC K (C9 m (j5.map U++q) O) m t j5 c)(n:∀b∈j5,b∉O/\U b∉q):Dt K (C9 m q O) (.ref t) c.d:=
 h.dt (Z3 (A5.refl _) λb z=>Q3 _ z) λb a u z=>P0.mpr ⟨(n b a).1,(n b a).2,z⟩
def RX.dt(h:RX K O q H m L d8)(D:pq H q O):Dt K (C9 m q O) L d8.d:=by
 have f:∀a,H a=J->a∉O/\U a∉q:=λa e=>by
  refine⟨λz=>?_,λz=>?_⟩
  . obtain⟨u,z⟩:=D.o a z;lia
  . obtain⟨u,z⟩:=D.a a z;lia
 cases d8 with
 |dat d=>exact h
 |ob w c=>obtain⟨o,R,rfl,_,g,h⟩:=h;exact h.cD λb i=>f b (g b i)
 |own l=>
  obtain⟨a,j,rfl,e,g,h⟩:=h;exact .lst (N6.of (P0.mpr ⟨(f a e).1,(f a e).2,g⟩)) (h.same (Z3 (A5.refl _) λb z=>F8 _ z))
def RX.less{g:As}(h:RX K O q H m L d8)(s:∀b,U b∈g->U b∈q):RX K O g H m L d8:=by
 cases d8 with
 |dat d=>exact Dt.same (Z3 (A5.refl _) s) h
 |ob w c=>
  obtain⟨o,R,rfl,e,f,h⟩:=h;refine⟨o,R,rfl,e,f,h.same (Z3 (A5.refl _) λb z=>?_) (λ_ _ _ z=>z)⟩
  rcases List.mem_append.mp z with z|z
  exact iA _ z;exact Q3 _ (s b z)
 |own l=>
  obtain⟨a,i,rfl,e,f,h⟩:=h;refine⟨a,i,rfl,e,f,h.same (Z3 (A5.refl _) λb z=>?_)⟩
  rcases List.mem_cons.mp z with z|z
  rw[z];exact F5;exact F8 _ (s b z)
def nk:A5 (C9 H q O) (C9 H (cD I q) O):=Z3 (A5.refl _) λ_ h=>Ib h
noncomputable def Flat:l5->Bool
 | .none=>Uf
 | .bool _=>Uf
 | .int _=>Uf
 | .str _=>Uf
 |_=>U'
def E8.append{ys:List V}{es:List l5}(h:E8 K H M T)(k:E8 K H ys es):E8 K H (M++ys) (T++es):=by
 induction T generalizing M with
 |nil=>cases h;exact k
 |cons _ _ i=>cases h with
  |cons a t=>exact .cons a (i t)
def E8.get'(h:E8 K H M T)(e:M[N]?=U L):∃d,T[N]?=U d/\Dt K H L d:=by
 induction T generalizing M N with
 |nil=>cases h;exact nE e
 |cons _ _ j=>cases h with
  |cons a t=>cases N with
   |zero=>cases e;exact⟨_,rfl,a⟩
   |succ N=>exact j t e
theorem E8.take:∀{xs:List V}{ds:List l5} (n:Nat),E8 K H xs ds->E8 K H (xs.take n) (ds.take n)
 |_,_,0,_=>by simp;exact .nil
 |_,_,_+1,.nil=>by simp;exact .nil
 |_,_,n+1,.cons h t=>by simp only[Qe];exact .cons h (E8.take n t)
theorem E8.drop:∀{xs:List V}{ds:List l5} (n:Nat),E8 K H xs ds->E8 K H (xs.drop n) (ds.drop n)
 |_,_,0,h=>by simpa using h
 |_,_,_+1,.nil=>by simp;exact .nil
 |_,_,n+1,.cons h t=>by simp only[GY];exact E8.drop n t
theorem E8.reverse{xs:List V}{ds:List l5}(h:E8 K H xs ds):E8 K H xs.reverse ds.reverse:=by
 induction ds generalizing xs with
 |nil=>cases h;exact .nil
 |cons _ _ i=>cases h with
  |cons a t=>
   rw[Ao,Ao];exact(i t).append (.cons a .nil)
end
def TX(K:B1)(fr:Bool)(te:TE)(F:DV):Prop:=
 ∀(O:List Addr) (B6:Hp) (as:As) (σ:St) (H:Hp) (ds:Ds) (pv:PV) (Q:VK),DS K O B6 as σ H ds->F ds=U pv->(∀v H',A5 H H'->RX K O (cD fr as) H H' v pv->Q v H')->te σ H Q
structure PX(X:Cx)(fr:Bool)(e:Expr)(te:TE)(F:DV):Prop where
 p:PE X e te
 t:TX X.K fr te F
def tI(K:B1)(tt:TT)(F:DB):Prop:=
 ∀(O:List Addr) (B6:Hp) (as:As) (σ:St) (H:Hp) (ds:Ds) (b:Bool) (Q:Bool->Hp->Prop),DS K O B6 as σ H ds->F ds=U b->(∀H',A5 H H'->Q b H')->tt σ H Q
structure bP(X:Cx)(e:Expr)(tt:TT)(F:DB):Prop where
 p:PT X e tt
 t:tI X.K tt F
structure xb(X:Cx)(e:Expr)(tt:TT)(F:DB):Prop where
 p:PW X e tt
 t:tI X.K tt F
def TAX(K:B1)(fr:Bool)(t:TA)(F:DL):Prop:=
 ∀(O:List Addr) (B6:Hp) (as:As) (σ:St) (H:Hp) (ds:Ds) (l:List l5) (Q:List V->Hp->Prop),DS K O B6 as σ H ds->F ds=U l->(∀vs H',A5 H H'->E8 K (C9 H' (cD fr as) O) vs l->Q vs H')->t σ H Q
structure jX(X:Cx)(fr:Bool)(es:List Expr)(t:TA)(F:DL):Prop where
 p:PA X es t
 t:TAX X.K fr t F
def Y0(K:B1)(r:R2)(f:l5->l5->Option PV):Prop:=
 ∀(O:List Addr) (va:As) (H:Hp) (x y:V) (d e:l5) (pv:PV) (Q:VK),pq H va O->Dt K (C9 H va O) x d->Dt K (C9 H va O) y e->f d e=U pv->(∀v H',A5 H H'->RX K O va H H' v pv->Q v H')->r x y H Q
def R1X(K:B1)(r:V->Hp->VK->Prop)(f:l5->Option PV):Prop:=
 ∀(O:List Addr) (va:As) (H:Hp) (x:V) (d:l5) (pv:PV) (Q:VK),pq H va O->Dt K (C9 H va O) x d->f d=U pv->(∀v H',A5 H H'->RX K O va H H' v pv->Q v H')->r x H Q
def iS(K:B1)(r:List V->Hp->VK->Prop)(f:FV):Prop:=
 ∀(O:List Addr) (va:As) (H:Hp) (xs:List V) (ds:List l5) (pv:PV) (Q:VK),pq H va O->E8 K (C9 H va O) xs ds->f ds=U pv->(∀v H',A5 H H'->RX K O va H H' v pv->Q v H')->r xs H Q
noncomputable def f7(i:Nat):DV:=λds=>match ds[i]? with
 |some (U (.dat d))=>U (.dat d)
 |_=>J
noncomputable def fC(d:l5):DV:=λ_=>U (.dat d)
section
set_option tactic.hygienic true in
def a1D(i:Nat)(h:PE c o (O0 i)):PX c I o (O0 i) (f7 i):=⟨h,by
 intro O b k j H g pv Q S a q;unfold f7 at a;split at a;rename_i d f;cases a;obtain⟨v,X,h⟩:=S.slot i _ f;exact⟨v,X,q v H (A5.refl H) (h.same nk)⟩
 . exact nE a⟩
def DP(h:PE c o (tC L))(hd:∀H,Dt c.K H L d6):PX c I o (tC L) (fC d6):=⟨h,by intro O a g f H X pv Q S b q;cases b;exact q L H (A5.refl H) (hd _)⟩
def a1K{j}:PX c I (.Constant (.int a9) j p) (tC (.int a9)) (fC (.int a9)):=DP a2d λ_=>.int a9
def a4l{i:Bool}{j}:PX c I (.Constant (.bool i) j p) (tC (.bl i)) (fC (.bool i)):=DP a4q λ_=>.bl i
def a1F{j}:PX c I (.Constant (.str u) j p) (tC (.str u)) (fC (.str u)):=DP a1Z λ_=>.str u
def a1I{j}:PX c I (.Constant .none j p) (tC .non) (fC .none):=DP a2c λ_=>.non
def XB(F:DV):DV:=λds=>(F ds).bind λpv=>if Flat pv.d=Uf then U (.dat pv.d)else J
noncomputable def f9(f:l5->l5->Option PV)(Fa Fb:DV):DV:=λds=>(Fa ds).bind λx=>(Fb ds).bind λy=>f x.d y.d
def CC(p:Y0 c.K j7 j8)(s:PX c I o g D)(z:PX c I E e9 j3):TX c.K I (qi j7 g e9) (f9 j8 D j3):=by
 intro O X j k H i pv Q S e q;obtain⟨x,h1,e⟩:=A1 e;obtain⟨y,h2,e⟩:=A1 e;refine s.t O X j k H i x _ S h1 λv B b m=>?_;refine z.t O X j k B i y _ (S.grow b) h2 λu n h l=>?_;refine p O (cD I j) n v u x.d y.d pv Q ((S.grow b).grow h).dm ((m.grow h).dt S.dm) (l.dt (S.grow b).dm) e λw C A a=>?_;exact q w C ((b.trans h).trans A) (a.back (b.trans h))
def vS{op:Operator}{r:R2}(a:Q7 c (bQ op) r)(e:Y0 c.K r j8)(d:PX c I o g D)(X:PX c I E e9 j3):PX c I (.BinOp o op E p) (qi r g e9) (f9 j8 D j3):=
 ⟨a4p a d.p X.p,CC e d X⟩
def fW{r:R2}(e:Q7 c (P6 t7) r)(h:Y0 c.K r j8)(a:oP t7 E=U')(d:PX c I o g D)(X:PX c I E e9 j3):PX c I (.Compare o [t7] [E] p) (qi r g e9) (f9 j8 D j3):=
 ⟨IE e d.p X.p a,CC h d X⟩
def a4j{r:R2}(a:xg c r)(e:Y0 c.K r j8)(d:PX c I o g D)(X:PX c I E e9 j3)(hs:qN E):PX c I (.Subscript o E p) (qi r g e9) (f9 j8 D j3):=
 ⟨CF a d.p X.p hs,CC e d X⟩
noncomputable def wU(f:l5->Option PV)(Fa:DV):DV:=λds=>(Fa ds).bind λx=>f x.d
def a4g{op:UnaryOp}{r:V->Hp->VK->Prop}(n:XT c (unaryOp op) r)(l:R1X c.K r v5)(f:PX c I o g D):PX c I (.UnaryOp op o p) (tUn r g) (wU v5 D):=⟨a4n n f.p,by
 intro O b i s H h pv Q S X q;obtain⟨x,h1,X⟩:=A1 X;refine f.t O b i s H h x _ S h1 λv a e j=>?_;refine l O (cD I i) a v x.d pv Q (S.grow e).dm (j.dt S.dm) X λw u m k=>?_
 exact q w u (e.trans m) (k.back e)⟩
noncomputable def FJ:l5->Option Bool
 | .bool b=>U b
 |_=>J
def A8(F:DV):DB:=λds=>(F ds).bind λx=>FJ x.d
def xY(h:TX c.K I g D):tI c.K (tB g) (A8 D):=by
 intro O e j k H f b Q S a q;obtain⟨x,h1,a⟩:=A1 a;refine h O e j k H f x _ S h1 λv i F l=>?_
 have d:=l.dt S.dm;generalize x.d=z at d a;cases z with
 |bool X=>cases a;cases d;exact⟨_,rfl,q i F⟩
 |_=>exact nE a
def IA{fr:Bool}(h:PX c fr o g D)(b:autoParam (∀a,isTrue o c.env a=(do let v <- a;standAt o.pos;holding [v] (truthy v))) qL):bP c o (tB g) (A8 D):=⟨MD h.p b,xY h.t⟩
def aU{fr:Bool}{r:R2}(e:Q7 c (P6 t7) r)(h:Y0 c.K r j8)(a:oP t7 E=U')(d:PX c fr o g D)(X:PX c fr E e9 j3):bP c (.Compare o [t7] [E] p) (Vk (qi r g e9)) (A8 (f9 j8 D j3)):=
 ⟨YR e d.p X.p a,xY (CC h d X)⟩
noncomputable def xQ(F:DB):DB:=λds=>(F ds).bind λb=>U (!b)
noncomputable def jk(F G:DB):DB:=λds=>(F ds).bind λb=>if b=Uf then G ds else U U'
noncomputable def W9(F G:DB):DB:=λds=>(F ds).bind λb=>if b=Uf then U Uf else G ds
def Yn(h:tI c.K b6 c5):tI c.K (JQ b6) (xQ c5):=by intro O a f e H d b Q S X q;obtain⟨x,h1,X⟩:=A1 X;cases X;exact h O a f e H d x _ S h1 q
def Yo{tu:TT}{Fu:DB}(h:tI c.K b6 c5)(k:tI c.K tu Fu):tI c.K (Rx b6 tu) (jk c5 Fu):=by
 intro O a i g H e b Q S X q;obtain⟨x,h1,X⟩:=A1 X;refine h O a i g H e x _ S h1 λf d=>?_
 cases x with
 |true=>exact k O a i g f e b Q (S.grow d) X λl j=>q l (d.trans j)
 |false=>cases X;exact q f d
def a0W{tu:TT}{Fu:DB}(h:tI c.K b6 c5)(k:tI c.K tu Fu):tI c.K (tOr b6 tu) (W9 c5 Fu):=by
 intro O a i g H e b Q S X q;obtain⟨x,h1,X⟩:=A1 X;refine h O a i g H e x _ S h1 λf d=>?_
 cases x with
 |false=>exact k O a i g f e b Q (S.grow d) X λl j=>q l (d.trans j)
 |true=>cases X;exact q f d
def YQ(h:bP c o b6 c5):bP c (.UnaryOp .Not o p) (JQ b6) (xQ c5):=⟨ME h.p,Yn h.t⟩
def Sa(h:bP c o b6 c5):xb c (.BoolOp .And [o] p) b6 c5:=⟨pw_and1 h.p,h.t⟩
def YJ(h:bP c o b6 c5):xb c (.BoolOp .Or [o] p) b6 c5:=⟨pw_or1 h.p,h.t⟩
def YK{tu:TT}{Fu:DB}(h:bP c o b6 c5)(k:xb c (.BoolOp .And (E::Z) p) tu Fu):xb c (.BoolOp .And (o::E::Z) p) (Rx b6 tu) (jk c5 Fu):=⟨pw_and h.p k.p,Yo h.t k.t⟩
def a1O{tu:TT}{Fu:DB}(h:bP c o b6 c5)(k:xb c (.BoolOp .Or (E::Z) p) tu Fu):xb c (.BoolOp .Or (o::E::Z) p) (tOr b6 tu) (W9 c5 Fu):=⟨pw_or h.p k.p,a0W h.t k.t⟩
theorem xb.pt(h:xb c o b6 c5):bP c o b6 c5:=⟨PW.pt h.p,h.t⟩
def EZ(Fa Fb:DV):DV:=λds=>(A8 Fa ds).bind λb=>if b=Uf then Fb ds else U (.dat (.bool U'))
def OB(Fa Fb:DV):DV:=λds=>(A8 Fa ds).bind λb=>if b=Uf then U (.dat (.bool Uf))else Fb ds
def Uj(Fa:DV):DV:=λds=>(A8 Fa ds).bind λb=>U (.dat (.bool !b))
def a1G{op}(h:PX c I o g D):PX c I (.BoolOp op [o] p) g D:=⟨a2a h.p,h.t⟩
def a1M(h:PX c I o g D)(k:PX c I (.BoolOp .And (E::Z) p) e9 j3):PX c I (.BoolOp .And (o::E::Z) p) (Vq g e9) (EZ D j3):=⟨a2e h.p k.p,by
 intro O X j i H f pv Q S d q;obtain⟨x,h1,d⟩:=A1 d;refine xY h.t O X j i H f x _ S h1 λa e=>?_
 cases x with
 |true=>exact k.t O X j i a f pv Q (S.grow e) d λv m l r=>q v m (e.trans l) (r.back e)
 |false=>cases d;exact q _ a e (Dt.bl _)⟩
def a4i(h:PX c I o g D)(k:PX c I (.BoolOp .Or (E::Z) p) e9 j3):PX c I (.BoolOp .Or (o::E::Z) p) (a1e g e9) (OB D j3):=⟨a4o h.p k.p,by
 intro O X j i H f pv Q S d q;obtain⟨x,h1,d⟩:=A1 d;refine xY h.t O X j i H f x _ S h1 λa e=>?_
 cases x with
 |false=>exact k.t O X j i a f pv Q (S.grow e) d λv m l r=>q v m (e.trans l) (r.back e)
 |true=>cases d;exact q _ a e (Dt.bl _)⟩
def a1H(h:PX c I o g D):PX c I (.UnaryOp .Not o p) (Vm g) (Uj D):=⟨a2b h.p,by intro O b i a H d pv Q S X q;obtain⟨x,h1,X⟩:=A1 X;cases X;exact xY h.t O b i a H d x _ S h1 λe f=>q _ e f (Dt.bl _)⟩
noncomputable def wV(Ft:DB)(Fa Fb:DV):DV:=λds=>(Ft ds).bind λb=>if b=Uf then Fa ds else Fb ds
def a4k(n:bP c j0 b6 c5)(h:PX c I o g D)(k:PX c I E e9 j3):PX c I (.IfExp j0 o E p) (tIf b6 g e9) (wV c5 D j3):=⟨SO n.p h.p k.p,by
 intro O d m l H a pv Q S f q;obtain⟨x,h1,f⟩:=A1 f;refine n.t O d m l H a x _ S h1 λX e=>?_
 cases x with
 |true=>exact h.t O d m l X a pv Q (S.grow e) f λv j i r=>q v j (e.trans i) (r.back e)
 |false=>exact k.t O d m l X a pv Q (S.grow e) f λv j i r=>q v j (e.trans i) (r.back e)⟩
def lL(f g:l5->l5->Option PV)(Fa Fb Fc:DV):DV:=λds=>(Fa ds).bind λx=>(Fb ds).bind λy=>(f x.d y.d).bind λr=>(FJ r.d).bind λk=>
 if k=Uf then(Fc ds).bind λz=>g y.d z.d else U (.dat (.bool U'))
def CZ{tc:TE}{Fc:DV}{B:R2}{r:l5->l5->Option PV}(M:Y0 c.K j7 j8)(s:Y0 c.K B r)(N:PX c I o g D)(hb:PX c I E e9 j3)(P:PX c I j0 tc Fc):TX c.K I (yf j7 B g e9 tc) (lL j8 r D j3 Fc):=by
 intro O h a A H j pv Q S e q;unfold lL at e;cases h1:D j with
 |none=>simp_all
 |some x=>
  cases h2:j3 j with
  |none=>rw[h1,h2]at e;exact nE e
  |some y=>
   rw[h1,h2]at e;simp only[S7]at e;refine N.t O h a A H j x _ S h1 λv H1 l Y=>?_;refine hb.t O h a A H1 j y _ (S.grow l) h2 λu Z m G=>?_;have n:=(S.grow l).grow m;have F:=G.dt (S.grow l).dm;obtain⟨w,h3,e⟩:=A1 e;refine M O (cD I a) Z v u x.d y.d w _ n.dm ((Y.grow m).dt S.dm) F h3 λz C i X=>?_
   have f:=X.dt n.dm;obtain⟨k,h4,e⟩:=A1 e;have hk:z=.bl k:=by
    generalize w.d=ww at f h4;cases ww with
    |bool j0=>cases h4;cases f;rfl
    |_=>exact nE h4
   refine⟨k,hk,?_⟩;cases k with
   |false=>
    cases e;exact q _ C ((l.trans m).trans i) (Dt.bl _)
   |true=>
    obtain⟨b,h5,e⟩:=A1 e;refine P.t O h a A C j b _ (n.grow i) h5 λV W p L=>?_;refine s O (cD I a) W u V y.d b.d pv Q ((n.grow i).grow p).dm (F.same (S3 (i.trans p))) (L.dt (n.grow i).dm) e λT H5 e5 R=>?_;exact q T H5 ((((l.trans m).trans i).trans p).trans e5) (R.back (((l.trans m).trans i).trans p))
def DN{tc:TE}{Fc:DV}{d:CmpOp}{h:R2}{a:l5->l5->Option PV}(m:Q7 c (P6 t7) j7)(X:Y0 c.K j7 j8)(i:Q7 c (P6 d) h)(e:Y0 c.K h a)(k:PX c I o g D)(j:PX c I E e9 j3)(l:PX c I j0 tc Fc)(n:lastMarks [t7,d] [E,j0]=U':=by with_unfolding_all rfl):PX c I (.Compare o [t7,d] [E,j0] p) (yf j7 h g e9 tc) (lL j8 a D j3 Fc):=⟨DT m i k.p j.p l.p n,CZ X e k j l⟩
noncomputable def j2:DL:=λ_=>U []
noncomputable def f6(F:DV)(G:DL):DL:=λds=>(F ds).bind λx=>(G ds).bind λl=>U (x.d::l)
def Zp:jX c I [] rP j2:=⟨lG,by intro O a d e H X l Q S b q;cases b;exact q [] H (A5.refl H) .nil⟩
def SW(h:PX c I o g D)(k:jX c I Z b8 h7)(hs:autoParam (gN c o Z) B0):jX c I (o::Z) (gw g b8) (f6 D h7):=⟨cx h.p k.p hs,by
 intro O a i t H X l Q S b q;unfold f6 at b;cases h1:D X with
 |none=>simp_all
 |some x=>
  cases h2:h7 X with
  |none=>rw[h1,h2]at b;exact nE b
  |some m=>
   rw[h1,h2]at b;cases b;refine h.t O a i t H X x _ S h1 λv s f n=>?_;refine k.t O a i t s X m _ (S.grow f) h2 λr e d j=>?_
   exact q (v::r) e (f.trans d) (.cons ((n.grow d).dt S.dm) j)⟩
def pq.fresh(D:pq m q O)(h:m t=J):t∉O/\U t∉q:=by
 refine⟨λz=>?_,λz=>?_⟩
 . obtain⟨u,z⟩:=D.o t z;lia
 . obtain⟨u,z⟩:=D.a t z;lia
def tU(D:pq m q O)(h:m t=J)(hd:E8 e (C9 m q O) M T):RX e O q m (upd m t (.tup M)) (.ref t) (.dat (.tuple T)):=by obtain⟨a,b⟩:=D.fresh h;exact Dt.tup (Y7.of (P0.mpr ⟨a,b,Q0⟩)) (hd.same (S3 (A5.new h)))
def lD(h:m t=J)(hd:E8 e (C9 m q O) M T):RX e O q m (upd m t (.lst M)) (.ref t) (.own T):=by
 refine⟨t,M,rfl,h,Q0,hd.same (fj λb o c d a=>⟨c,λz=>?_,?_⟩)⟩
 . simp_all
 exact A5.new h _ _ a
noncomputable def C4(Fl:DL):DV:=λds=>(Fl ds).bind λl=>if l.length<=1000000 then U (.dat (.tuple l))else J
noncomputable def E9(Fl:DL):DV:=λds=>(Fl ds).bind λl=>if l.length<=1000000 then U (.own l)else J
def qj(h:N<=1000000):N<=D6:=C3 h (by rw[fw];decide)
def a1E{x1}(h:jX c I Z b8 h7):PX c I (.Tuple Z x1 p) (a1b b8) (C4 h7):=⟨a1Y h.p,by
 intro O b j i H f pv Q S a q;obtain⟨l,h1,a⟩:=A1 a;obtain⟨g,a⟩:=K8 a;cases a;refine h.t O b j i H f l _ S h1 λk m X d=>⟨by rw[d.length];exact qj g,λt e=>?_⟩
 exact q _ _ (X.trans (A5.new e)) (RX.back (tU (S.grow X).dm e d) X)⟩
def a1J(h:jX c I Z b8 h7):PX c I (.List Z p) (Rr b8) (E9 h7):=⟨MS h.p,by
 intro O b j i H f pv Q S a q;obtain⟨l,h1,a⟩:=A1 a;obtain⟨g,a⟩:=K8 a;cases a;refine h.t O b j i H f l _ S h1 λk m e X=>⟨by rw[X.length];exact qj g,λt d=>?_⟩
 exact q _ _ (e.trans (A5.new d)) (RX.back (lD d X) e)⟩
noncomputable def p6(F:FV)(Fl:DL):DV:=λds=>(Fl ds).bind F
def Vh(j:iS c.K m8 q5)(h:jX c I Z b8 h7):TX c.K I (Ij m8 b8) (p6 q5 h7):=by
 intro O a e o H d pv Q S b q;obtain⟨l,h1,b⟩:=A1 b;refine h.t O a e o H d l _ S h1 λk n X g=>?_;refine j O (cD I e) n k l pv Q (S.grow X).dm g b λw p m i=>?_;exact q w p (X.trans m) (i.back X)
def rX{r:List V->Hp->VK->Prop}(l:ag c (.builtin m7) r)(k:iS c.K r q5)(g:Gl c u)(h:c.mg u=J)(i:ig u=U (.builtin m7))(X:jX c I (o::Z) b8 h7)(d:autoParam (u ≠ "__name__") lO)(b:autoParam (jY u) B0)(j:autoParam (gN c o Z) B0)(a:autoParam (pJ c Q Z) B0):PX c I (.Call (.Name u p) (o::Z) [] Q) (Ij r b8) (p6 q5 h7):=⟨DU l g h i X.p d b j a,Vh k X⟩
def lF{r:List V->Hp->VK->Prop}(l:ag c (.type m7) r)(k:iS c.K r q5)(g:Gl c u)(h:c.mg u=J)(i:ig u=U (.type m7))(X:jX c I (o::Z) b8 h7)(d:autoParam (u ≠ "__name__") lO)(b:autoParam (jY u) B0)(j:autoParam (gN c o Z) B0)(a:autoParam (pJ c Q Z) B0):PX c I (.Call (.Name u p) (o::Z) [] Q) (Ij r b8) (p6 q5 h7):=⟨MU l g h i X.p d b j a,Vh k X⟩
def F0(K:B1)(F:FV):Sp:=λvs H Q _=>∃(O:List Addr) (ds:List l5) (pv:PV),(∀a∈O,∃u,H a=U u)/\E8 K (C9 H [] O) vs ds/\F ds=U pv/\∀v H',A5 H H'->RX K O [] H H' v pv->Q v H'
def Ie{fr:Bool}{E:XK}{f:FV}(h:jX c fr Z b8 h7):TX c.K fr (kM (F0 c.K f) [] E b8) (p6 f h7):=by
 intro O k g M H A pv Q S m q;obtain⟨l,h1,m⟩:=A1 m;refine h.t O k g M H A l _ S h1 λN P p I=>?_;have D:=(S.grow p).dm (fr:=fr);rw[bZ];have z:∀H,C9 H (cD fr g) O=C9 H [] (O++(cD fr g).filterMap id):=λH=>EO (bs:=[]);refine⟨O++(cD fr g).filterMap id,l,pv,λa i=>?_,by rw[<-z];exact I,m,λv B C r=>q v B (p.trans C) ?_⟩
 . rcases List.mem_append.mp i with i|i
   exact D.o a i;obtain⟨x,G,e⟩:=List.mem_filterMap.mp i;subst e;exact D.a a G
 . cases pv with
   |dat d=>
    have j:Dt c.K (C9 B [] (O++(cD fr g).filterMap id)) v d:=r;rw[<-z]at j;exact j
   |own l=>
    obtain⟨a,F,u,y,s,n⟩:=r;refine⟨a,F,u,p.free y,s,?_⟩;rw[show(U a::cD fr g)=[U a]++cD fr g from rfl,EO];exact n
   |ob w X=>
    obtain⟨o,R,u,y,s,n⟩:=r;refine⟨o,R,u,y,λb L=>p.free (s b L),?_⟩;rw[EO];rw[bZ]at n;exact n
end
noncomputable def gM(ds:Ds):Ds:=ds.map (Option.map λpv=>.dat pv.d)
def qm:U t∉(N8 N J:As):=λz=>by simp_all
def a0e:C9 m (N8 N J) O=C9 m [] O:=by
 funext b
 delta C9;simp
section
variable{K:B1}{H:Hp}
def Lo.gM{bs:As}(S:DS K O m q B H G)(h:Lo K O q H u9 d8)(e:∀b,U b∈bs->U b∈q)(j:∀b,(match d8 with | .own _=>u9=U (U (.ref b)) | .ob _ _=>U b∈q|_=>False)->U b∉bs):bO K O bs H u9 j5 (.dat d8.d):=by
 cases d8 with
 |dat d=>obtain⟨v,f,h⟩:=h;exact⟨v,f,h.same (Z3 (A5.refl _) e)⟩
 |own l=>
  obtain⟨a,n,f,g,σ,h⟩:=h;exact⟨_,f,.lst (N6.of (P0.mpr ⟨S.nO g,j a f,σ⟩)) (h.same (Z3 (A5.refl _) e))⟩
 |ob w c=>obtain⟨v,R,f,_,g,h⟩:=h;exact⟨_,f,h.dt (Z3 (A5.refl _) e) λb e u z=>P0.mpr ⟨S.nO (g b e),j b (g b e),z⟩⟩
theorem DS.gM{O:List Addr}{B6:Hp}{as:As}{σ:St}{ds:Ds}(S:DS K O B6 as σ H ds):DS K O B6 (N8 ds.length J) σ H (gM ds) where
 ls:=by simp[L2.gM,S.ls]
 same:=S.same
 new:=λa h=>absurd h qm
 eD:=S.eD
 fg:=⟨λ_=>[],λi b z=>absurd z G9,λi j b z=>absurd z G9,λi pv h=>by
  unfold L2.gM at h;rw[R9]at h;cases hd:ds[i]? with
  |none=>simp_all
  |some x=>
   cases x with
   |none=>simp_all
   |some w=>
    rw[hd]at h;cases h;exact(S.slot i w hd).gM S (λb z=>absurd z qm) (λa _=>qm)⟩
noncomputable def xF(i:Nat)(ds:Ds):Ds:=match ds[i]? with
 |some (U (.own l))=>ds.set i (U (.dat (.list l)))
 |_=>ds
set_option tactic.hygienic true in
theorem DS.xF(S:DS K O m q B H G)(i:Nat):∃n,DS K O m n B H (xF i G):=by
 delta L2.xF;split
 . rename_i l A;obtain⟨f,t,s,p⟩:=S.fg;refine⟨q.filter λx=>decide (∀b∈f i,x≠U b),?_⟩
   have sub:∀b,U b∈q.filter (λx=>decide (∀b∈f i,x≠U b))->U b∈q/\b∉f i:=λb z=>by obtain⟨y,u⟩:=List.mem_filter.mp z;exact⟨y,λE=>jn u b E rfl⟩
   have sm:A5 (C9 H q O) (C9 H (q.filter λx=>decide (∀b∈f i,x≠U b)) O):=Z3 (A5.refl _) λb z=>(sub b z).1;refine⟨by simp[S.ls],S.same,λa h=>S.new a (sub a h).1,S.eD,λj=>if j=i then[]else f j,λj b d=>?_,λj k b σ g=>?_,λj pv h=>?_⟩
   . dsimp only at d;split at d;simp at d;rename_i v;exact List.mem_filter.mpr ⟨t j b d,S6 λC E e=>v (s j i b d (by cases e;exact E))⟩
   . dsimp only at σ g;split at σ;simp at σ
     . split at g;simp at g;exact s j k b σ g
   . rw[vo]at h;by_cases c:i=j;subst c;rw[A3 rfl]at h;obtain⟨_,h⟩:=K8 h;cases h;obtain⟨a,D,w,r,F,h⟩:=p i _ A;exact⟨_,w,.lst (N6.of (P0.mpr ⟨S.nO (t i a r),λz=>(sub a z).2 r,F⟩)) (h.same sm)⟩
     . rw[A4 c]at h;dsimp only;rw[A4 (λz=>c z.symm)];exact(p j pv h).yn sm (λb _ o z=>z) λb z=>z
 exact⟨q,S⟩
end
def Y5(F:DV):DV:=λds=>F (gM ds)
def a1L(h:PX c Uf o g D):PX c U' o g (Y5 D):=⟨h.p,by
 intro O a e d H i pv Q S f q;refine h.t O a _ d H _ pv Q S.gM f λv X o r=>q v X o ?_
 exact r.less λb z=>by simp[cD]at z⟩
def a3C(K:B1)(O:List Addr)(Hb:Hp)(Jff:It)(items:List l5):Prop:=
 ∀H',A5 Hb H'->∀i,(i<items.length->Jff.go i H')/\(items.length<=i->Jff.stop i H') /\
  ∀x H'',Jff.Lv i H' x H''->i<items.length->A5 H' H''/\∃d,items[i]?=U d/\∀vb:As,(∀b,U b∈vb->Hb b=J/\∃o,H' b=U o)->(∀b∈O,∃o,Hb b=U o)->Dt K (C9 H'' vb O) x d
def TIX(K:B1)(fr:Bool)(wi:TI)(Fi:DL):Prop:=
 ∀(O:List Addr) (B6:Hp) (as:As) (σ:St) (H:Hp) (ds:Ds) (items:List l5) (R:It->Hp->Prop),DS K O B6 as σ H ds->Fi ds=U items->(∀Jff H1,A5 H H1->a3C K O (C9 H1 (cD fr as) []) Jff items->R Jff H1)->wi σ H R
structure zi(X:Cx)(fr:Bool)(tg e:Expr)(wi:TI)(Fi:DL):Prop where
 p:PI X tg e wi
 t:TIX X.K fr wi Fi
noncomputable def dq:l5->Option (List l5)
 | .list l=>U l
 | .tuple l=>U l
 |_=>J
def iSq(F:DV):DL:=λds=>(F ds).bind λpv=>dq pv.d
def uB{a:Hp}{g:As}(h:Dt e (C9 m q O) L d6)(K:A5 (C9 m q []) y)(k:A5 y a)(j:∀b,U b∈g->C9 m q [] b=J/\∃o,y b=U o):Dt e (C9 a g O) L d6:=
 h.same (fj λb o c l i=>by
  have f:C9 m q [] b=U o:=P0.mpr ⟨by simp,l,i⟩;refine⟨c,λz=>?_,k _ _ (K _ _ f)⟩
  simp_all)
def yO:A5 (C9 m q O) (C9 m q []):=fj λb o _ d c=>⟨by simp,d,c⟩
section
noncomputable def fV(lo:Int)(n:Nat):List l5:=(R8 n).map λk=>.int (lo+(k:Nat))
def a2N:a3C e O m (XX a9 N) (fV a9 N):=by
 intro g K i;have b:(fV a9 N).length=N:=by simp[fV]
 refine⟨λa=>(by rw[b]at a;exact a),λa=>(by rw[b]at a;exact a),λx d y a=>?_⟩;obtain⟨f,c⟩:=y;subst f;subst c;rw[b]at a;refine⟨A5.refl _,.int (a9+i),?_,λh _ _=>.int _⟩;simp[fV,vt a]
def aq:List l5->Option (List l5)
 | [.int j]=>@ite _ (-(4611686018427387904)<=j/\j<4611686018427387904) (QB _) (U (fV 0 j.toNat)) J
 |_=>J
noncomputable def Y4(f:List l5->Option (List l5))(Fl:DL):DL:=λds=>(Fl ds).bind f
set_option tactic.hygienic true in
def Kn(i:Gl c "range")(n:c.mg "range" = J)(e:jX c I [E] b8 h7)(hs:autoParam (W2 [E] c.env=[(U',eval E c.env)]) B0):zi c I o (.Call (.Name "range" p) [E] [] Q) (Xs b8) (Y4 aq h7):=⟨MQ i n e.p hs,by
 intro O X k m H f d R S b q;obtain⟨l,h1,b⟩:=A1 b;refine e.t O X k m H f l _ S h1 λv h s u=>?_;unfold aq at b;split at b
 . rename_i j;split at b
   . rename_i g;cases b;cases u with
     |cons r a=>
      cases r;cases a;exact⟨j,rfl,g.1,g.2,q _ h s a2N⟩
   exact nE b
 . exact nE b⟩
def Xr(K:B1)(ta:TA):TI:=λσ H R=>ta σ H λvs H1=>∃a b k1 k2,vs=[.ref a,.ref b]/\(∃xs,gO k1 K H1 a xs)/\(∃ys,gO k2 K H1 b ys)/\R (Itz k1 k2 K a b) H1
def Zh(D:Gl c "zip")(F:c.mg "zip" = J)(t:PA c [o,E] b8)(hs:autoParam (W2 [o,E] c.env=[(U',eval o c.env),(U',eval E c.env)]) B0)(i:autoParam (W2 [E] c.env=[(U',eval E c.env)]) B0):
  PI c (.Tuple Z N j4) (.Call (.Name "zip" p) [o,E] [] Q) (Xr c.K b8):=by
 intro d s m H R I h;refine Call_ (qw I D F boot_zip (AG (G5 (t Q d s m H _ I h) λz X ⟨L,l,g,O,b⟩=>?_) (by rw[hs,i]) (by rw[i];rfl)));obtain⟨x,y,k,k2,e,⟨S,T⟩,⟨P,C⟩,q⟩:=b;subst e;obtain⟨u,v,e,G,B⟩:=vals2 O;subst e;cases G;cases B;obtain⟨z,A⟩:=g.Z9 T;obtain⟨L,w⟩:=g.Z9 C;refine OQ A w λM K n=>?_;refine wpAny_pyIter_zip K.hz ?_;have r:Inv c d m l {X with heap:=M}:=g.kept n;refine⟨(hz X)+4,_,_,_,l,rfl,r,Rj (QT _),K,λE a=>?_,q⟩
 have j:E=(hz X)+4\/E=(hz X)+2\/E=(hz X)+3\/E=(hz X)\/E=(hz X)+1:=by simpa using a
 have f:(hz X)<=E:=by
  rcases j with e|e|e|e|e<;>rw[e]
  exact vw _ _;exact vw _ _;exact vw _ _;exact K5 _;exact vw _ _
 exact g.xH f (g.G8.fresh f)
def A5.Z9(b:A5 m y)(h:gO I e m t M):gO I e y t M:=by
 cases I;exact b.seq h;exact b.iF h
def Dt.Z9(h:Dt e m L d6)(hd:dq d6=U T):∃a K xs,L=.ref a/\gO K e m a xs/\E8 e m xs T:=by
 cases h with
 |lst b c=>cases hd;exact⟨_,U',_,rfl,b,c⟩
 |tup b c=>cases hd;exact⟨_,Uf,_,rfl,b,c⟩
 |_=>exact nE hd
def iU:List l5->Option (List l5)
 | [d,e]=>(dq d).bind λl=>(dq e).bind λm=>U (bD (λx y=>.tuple [x,y]) l m)
 |_=>J
set_option tactic.hygienic true in
theorem Zf(hg:Gl c "zip")(W:c.mg "zip" = J)(w:jX c I [o,E] b8 h7)(hs:autoParam (W2 [o,E] c.env=[(U',eval o c.env),(U',eval E c.env)]) B0)(v:autoParam (W2 [E] c.env=[(U',eval E c.env)]) B0):
  zi c I (.Tuple Z N j4) (.Call (.Name "zip" p) [o,E] [] Q) (Xr c.K b8) (Y4 iU h7):=⟨Zh hg W w.p hs v,by
 intro O j as V H D u R S X q;obtain⟨l,h1,X⟩:=A1 X;refine w.t O j as V H D l _ S h1 λvs t fr r1=>?_;unfold iU at X;split at X
 . rename_i d1 T;obtain⟨l1,hl,X⟩:=A1 X;obtain⟨l2,hl2,X⟩:=A1 X;cases X;cases r1 with
   |cons r s=>
    cases s with
    |cons r' s=>
     cases s;obtain⟨o,k1,m,rfl,A,k⟩:=r.Z9 hl;obtain⟨E,k2,h,rfl,B,C⟩:=r'.Z9 hl2;refine⟨o,E,k1,k2,rfl,⟨m,G3.Z9 A⟩,⟨h,G3.Z9 B⟩,q _ t fr λH' g i=>?_⟩;have e:=g.Z9 (yO.Z9 A);have f:=g.Z9 (yO.Z9 B);have:=k.length;have:=C.length;rw[gE];refine⟨λF=>⟨m,h,m[i]'dC,h[i]'dC,e,f,M6 _,M6 _⟩,λF=>⟨m,h,e,f,by lia⟩,λx L y F=>?_⟩;obtain⟨pp,z1,d,x',y',z3,a⟩:=y;obtain⟨z5,G⟩:=a m h e f;subst z1;subst z3;obtain⟨dx,ex,K⟩:=k.get' z5;obtain⟨P,M,hy⟩:=C.get' G;refine⟨A5.new d,.tuple [dx,P],by rw[rD,ex,M],λvb n Y=>?_⟩;refine .tup (Y7.of (P0.mpr ⟨λz=>?_,λz=>?_,Q0⟩)) (.cons (uB K g (A5.new d) n) (.cons (uB hy g (A5.new d) n) .nil));obtain⟨b,z⟩:=Y _ z;rw[g _ _ z]at d;exact nS d;obtain⟨_,b,z⟩:=n _ z;rw[z]at d;exact nS d
 . exact nE X⟩
end
def TGB(K:B1)(n:Nat)(g:TG)(gt:l5->Option (List l5)):Prop:=
 ∀(O:List Addr) (va:As) (H:Hp) (v:V) (d:l5) (σ:St) (bs:List l5) (Q:St->Hp->Prop),Dt K (C9 H va O) v d->gt d=U bs->(∀vs,E8 K (C9 H va O) vs bs->vs.length=n->Q (vs.map U++σ) H)->g v (N8 n J++σ) H Q
noncomputable def F7:l5->Option (List l5):=λd=>U [d]
noncomputable def gA(n:Nat):l5->Option (List l5)
 | .tuple l=>if l.length=n then U l else J
 |_=>J
def Rp:TGB e 1 (cI 0) F7:=by intro O K H v d c bs Q a b q;cases b;exact q [v] (.cons a .nil) rfl
def a5u:∀{l:List c8},l.length=2->∃x y,l=[x,y]
 | [x,y],_=>⟨x,y,rfl⟩
def a5t:∀{l:List c8},l.length=3->∃x y z,l=[x,y,z]
 | [x,y,z],_=>⟨x,y,z,rfl⟩
set_option tactic.hygienic true in
def Ro:TGB e 2 (ET e 2 (wu (cI 0) (wu (cI 1) La))) (gA 2):=by
 intro O k H v d i bs Q h K q;cases h with
 |tup g c=>
  rename_i a j l;have b:=K;obtain⟨f,b⟩:=K8 b;rw[(Y9 b)]at c f;obtain⟨x,y,rfl⟩:=a5u (c.length.trans f);exact⟨a,[x,y],rfl,G3.iF g,rfl,x,[y],rfl,y,[],rfl,rfl,q [x,y] c rfl⟩
 |_=>exact nE K
noncomputable def gR(l:List l5):Ds:=l.map λd=>U (.dat d)
@[simp] theorem kB:gR []=[]:=rfl
@[simp] theorem iQ(d:l5)(l:List l5):gR (d::l)=sd d::gR l:=rfl
def E8.slots(h:E8 e m M T)(K:(gR T)[N]?=U (U d8)):∃d v,d8=.dat d/\M[N]?=U v/\Dt e m v d:=by
 unfold gR at K;rw[R9]at K;cases hd:T[N]? with
 |none=>simp_all
 |some d=>
  rw[hd]at K;cases K;obtain⟨x,b,a⟩:=h.get hd;exact⟨d,x,rfl,b,a⟩
def Bj:C9 m (N8 N J++q) O=C9 m q O:=by
 funext b
 delta C9;simp
set_option tactic.hygienic true in
def DS.pre(S:DS e O m q B y G)(h:E8 e (C9 y q O) M T):
  DS e O m (N8 T.length J++q) (M.map U++B) y (gR T++G) where
 ls:=by simp[gR,S.ls,h.length]
 same:=S.same
 new:=λa z=>S.new a ((List.mem_append.mp z).elim (λz=>absurd z qm) id)
 eD:=S.eD
 fg:=by
  obtain⟨H,s,k,p⟩:=S.fg;have n:=h.length;have r:(gR T).length=T.length:=by simp[gR]
  refine⟨λi=>if i<T.length then[]else H (i-T.length),λi b z=>?_,λi j b f c=>?_,λi pv K=>?_⟩
  . dsimp only at z;split at z;simp at z;exact Q3 _ (s _ b z)
  . dsimp only at f c;split at f;simp at f
    . split at c;simp at c
      . have:=k _ _ b f c;lia
  . rw[Qn]at K;split at K
    . rename_i g;obtain⟨d,v,rfl,f,c⟩:=h.slots K;refine⟨v,?_,by rw[Bj];exact c⟩;rw[vC (by simp;simp_all),R9,f];rfl
    . rename_i g;rw[r]at g K;dsimp only;rw[A4 g,AF (by simp;simp_all)];simp only[C8,n];exact(p _ pv K).yn (by rw[Bj];exact A5.refl _) (λb _ o z=>z) λb z=>z
def O2(gt:l5->Option (List l5))(Fc:DB)(Fe:DV)(ds:Ds):List l5->Option (List l5)
 | []=>U []
 |x::r=>(gt x).bind λbs=>(Fc (gR bs++ds)).bind λb=>if b=Uf then(Fe (gR bs++ds)).bind λy=>(O2 gt Fc Fe ds r).bind λl=>U (y.d::l)else O2 gt Fc Fe ds r
def P4(Fi:DL)(gt:l5->Option (List l5))(Fc:DB)(Fe:DV):DV:=λds=>(Fi ds).bind λitems=>if items.length<=1000000 then(O2 gt Fc Fe ds items).bind λl=>U (.own l)else J
structure Lp(X:Cx)(ifs:List Expr)(t:TT)(F:DB):Prop where
 p:Lq X ifs t
 t:tI X.K t F
noncomputable def F4:DB:=λ_=>U Uf
def MP:Lp c [] Vo F4:=⟨SI,by intro O a d e H f b Q S X q;cases X;exact q H (A5.refl H)⟩
def MO(h:bP c o b6 c5):Lp c [o] b6 c5:=⟨SH h.p,h.t⟩
noncomputable def tgN:Expr->List Str
 | .Name x _=>[x]
 | .Tuple es _ _=>es.filterMap fun | .Name x _=>U x|_=>J
 |_=>[]
structure Pe(X:Cx)(e:Expr)(te:TE)(F:DV):Prop where
 p:PX X Uf e te F
 s:∀{i:Nat}{x:Str}{p q:Pos},X.N.Nodup->X.N[i]?=U x->Loc X.env.scope x->bc e (U (.Name x p)) q.line X.env=pure Uf->X.fn x=Uf\/X.env.scope.names.lookup x=U .local->PS X (.Assign [.Name x p] e q) (nI te (cI i))
def JE.x(M:JE c b9 i7 g6 o E Z j0 l8 k6 b6 e9)(t:TX c.K Uf (vM b9 l8 k6 b6 e9) D):Pe c (.ListComp j0 [⟨o,E,Z,0⟩] g6 p) (vM b9 l8 k6 b6 e9) D:=⟨⟨Zn M,t⟩,λa b X d e=>Za a b X M d e⟩
def YI{gt:l5->Option (List l5)}(hc:c.calm=Uf)(hk:uO c.N i7 c.env.scope g6=Uf)(hb:tgN o=b9)(T:TGB c.K b9.length k6 gt)(hi:zi c Uf o j0 l8 h7)(go:Lr b9.length k6)(hg:∀cl C fp s H pins,PG (jV c b9 i7 g6 cl C fp s H pins) o k6)(ht:∀cl C fp s H pins,Lp (jV c b9 i7 g6 cl C fp s H pins) Z b6 c5)(he:∀cl C fp s H pins,PX (jV c b9 i7 g6 cl C fp s H pins) Uf E e9 D)(hs:autoParam (Fsi c j0) qL):Pe c (.ListComp E [⟨o,j0,Z,0⟩] g6 p) (vM b9 l8 k6 b6 e9) (P4 h7 gt c5 D):=JE.x ⟨hc,a3p hk,hi.p,go,hg,λ_ _ _ _ _ _=>(ht _ _ _ _ _ _).p,λ_ _ _ _ _ _=>(he _ _ _ _ _ _).p,hs⟩ (by
 intro O h v σ H n pv Q S f q;obtain⟨a,h1,f⟩:=A1 f;obtain⟨hn,f⟩:=K8 f;obtain⟨l,h2,f⟩:=A1 f;cases f;refine hi.t O h v σ H n a _ S h1 λJff H1 N it=>?_;have S1:=S.grow N;refine⟨a.length,λi ys L=>i<=a.length/\A5 H1 L/\∃F M,E8 c.K (C9 L v O) ys F/\O2 gt c5 D n (a.drop i)=U M/\F++M=l,qj hn,⟨jx _,A5.refl _,[],l,.nil,h2,rfl⟩,?_⟩;rintro i ys L ⟨hi',r,F,M,d1,X,I⟩;have S2:=S1.grow r;obtain⟨R,st',V⟩:=it L (G3.trans r) i;by_cases e:i<a.length
 . refine .inr ⟨R e,e,λx m y=>?_⟩
   obtain⟨A,d,ed,dt⟩:=V x m y e;have dx:=dt v (λb G=>⟨by delta C9;rw[A3 (.inr G)],let ⟨_,z⟩:=(S2.new b G).2;⟨_,z⟩⟩) λb G=>by
    obtain⟨Y,z⟩:=S.eD b G;refine⟨Y,P0.mpr ⟨by simp,λz2=>?_,S1.same _ _ z⟩⟩;rw[(S.new b z2).1]at z;exact nE z
   have P:a.drop i=d::a.drop (i+1):=by
    rw[Ht e];have:a[i]=d:=by have z:=M6 e;rw[ed]at z;exact(Y9 z).symm
    rw[this]
   rw[P]at X;obtain⟨k,h3,X⟩:=A1 X;obtain⟨b,h4,X⟩:=A1 X;refine T O v m x d σ k _ dx h3 λvs dv lv=>?_;have W:=(S2.grow A).pre dv;refine((ht [] 0 [] c.X4 c.B6 []).t) O h _ _ m _ b _ W h4 λH5 w=>?_
   cases b with
   |false=>
    exact⟨e,(r.trans A).trans w,F,M,d1.same (S3 (A.trans w)),X,I⟩
   |true=>
    obtain⟨yv,h5,X⟩:=A1 X;obtain⟨l3,h6,X⟩:=A1 X;cases X;refine((he [] 0 [] c.X4 c.B6 []).t) O h _ _ H5 _ yv _ (W.grow w) h5 λu H6 e6 r6=>?_
    have d7:Dt c.K (C9 H6 v O) u yv.d:=by have z:Dt c.K (C9 H6 (N8 k.length J++v) O) u yv.d:=(r6.dt (W.grow w).dm);rw[Bj]at z;exact z
    exact⟨e,((r.trans A).trans w).trans e6,F++[yv.d],l3,(d1.same (S3 ((A.trans w).trans e6))).append (.cons d7 .nil),h6,by rw[<-I];simp⟩
 . have hi2:i=a.length:=by lia
   subst hi2;rw[GK]at X;cases X;rw[bZ]at I;subst I;exact .inl ⟨st' O8,λj hp=>q _ _ ((N.trans r).trans (A5.new hp)) (RX.back (lD hp d1) (N.trans r))⟩)
inductive Out where
 |next (ds:Ds)
 |ret (pv:PV)
 |brk (ds:Ds)
 |cont (ds:Ds)
 |up (x:l5)
 |retO (pv:PV) (ds:Ds)
 |upO (th:Bool) (x:l5) (ds:Ds)
abbrev DO:=Ds->Option Out
variable{c9:DO}
def a3v(K:B1)(O:List Addr)(H:Hp)(ea:Addr)(x:l5):Prop:=∃C dx fld v d,x=Ff C fld d/\vH K C/\cO K (.ref C) fld=U J/\H ea=U (.ext (a4T ea C (U dx)))/\H dx=U (.xd [(fld,v)])/\dx∉O/\Dt K (C9 H [] (ea::O)) v d
def AJ(X:Cx)(O:List Addr)(B6:Hp)(D:Ends):Out->Prop
 | .next ds=>∀as σ H,DS X.K O B6 as σ H ds->D.nx σ H
 | .brk ds=>∀as σ H,DS X.K O B6 as σ H ds->D.bk σ H
 | .cont ds=>∀as σ H,DS X.K O B6 as σ H ds->D.ct σ H
 | .ret pv=>∀v H,A5 B6 H->RX X.K O [] B6 H v pv->D.rt v H
 | .up x=>∀ea H,A5 B6 H->B6 ea=J->a3v X.K O H ea x->∀pins σ s,Inv X pins σ H s->X.xe (.ref ea) s
 | .retO pv ds=>∀as σ Hm H v,DS X.K O B6 as σ Hm ds->A5 Hm H->RX X.K O as Hm H v pv->D.rt v H
 | .upO U' x ds=>∀as σ Hm H ea,DS X.K O B6 as σ Hm ds->A5 Hm H->Hm ea=J->a3v X.K (O++as.filterMap id) H ea x->∀pins σ s,Inv X pins σ H s->X.xe (.ref ea) s
 | .upO Uf x ds=>∀as σ Hm H ea,DS X.K O B6 as σ Hm ds->A5 Hm H->Dt X.K (C9 H as O) (.ref ea) x->X.ek (.ref ea) J H
def TSX(X:Cx)(t:TS)(G:DO):Prop:=
 ∀(O:List Addr) (B6:Hp) (as:As) (σ:St) (H:Hp) (ds:Ds) (D:Ends) (o:Out),DS X.K O B6 as σ H ds->G ds=U o->AJ X O B6 D o->t D σ H
structure N7(X:Cx)(st:Stmt)(t:TS)(G:DO):Prop where
 p:PS X st t
 t:TSX X t G
structure iI(X:Cx)(st:List Stmt)(t:TS)(G:DO):Prop where
 p:lP X st t
 t:TSX X t G
noncomputable def B7:DO:=λds=>U (.next ds)
noncomputable def w4(G1 G2:DO):DO:=λds=>(G1 ds).bind λo=>match o with
 | .next ds'=>G2 ds'
 |o=>U o
section
def Ss:iI c [] JR B7:=⟨IC,by intro O a X b H e D o S d q;cases d;exact q X b H S⟩
def Sr(h:N7 c j1 m4 c9):iI c [j1] m4 c9:=⟨YY h.p,h.t⟩
set_option tactic.hygienic true in
def ML{u:TS}{G2:DO}(g:N7 c j1 m4 c9)(h:iI c r9 u G2):iI c (j1::r9) (a1d m4 u) (w4 c9 G2):=⟨Su g.p h.p,by
 intro O X k j H i D o S a q;obtain⟨f,e1,a⟩:=A1 a;refine g.t O X k j H i {D with nx:=u D} f S e1 ?_
 cases f with
 |next b=>exact λd e l m=>h.t O X d e l b D o m a q
 |ret pv=>cases a;exact q
 |brk b=>cases a;exact q
 |cont b=>cases a;exact q
 |up x=>cases a;exact q
 |retO pv b=>cases a;exact q
 |upO m4 x b=>cases a;cases m4<;>exact q⟩
def wt(i:Nat)(G:DO):DO:=λds=>G (xF i ds)
def Sq(i:Nat)(h:N7 c j1 m4 c9):N7 c j1 m4 (wt i c9):=⟨h.p,by intro O a f X H g D o S e q;obtain⟨b,d⟩:=S.xF i;exact h.t O a b X H _ D o d e q⟩
theorem DS.set(S:DS e O m q B y G)(i:Nat)(h:Dt e (C9 y q O) L d6):DS e O m q (B.set i (U L)) y (G.set i (sd d6)):=by
 obtain⟨f,l,K,k⟩:=S.fg;refine⟨by simp[S.ls],S.same,S.new,S.eD,f,l,K,λj pv a=>?_⟩;by_cases b:i=j;subst b;rw[vo]at a;rw[A3 rfl]at a;obtain⟨g,a⟩:=K8 a;cases a;exact⟨L,by rw[vz (by rw[S.ls];exact g)],h⟩;rw[iz b]at a;rw[iz b];exact k j pv a
def lJ(h:A5 m y)(f:∀b∈j5,m b=J):A5 (C9 m q O) (C9 y (j5.map U++q) O):=fj λb o i g a=>⟨i,λz=>by
 rcases List.mem_append.mp z with z|z
 obtain⟨j,e,d⟩:=mem_map.mp z;cases d;rw[f b e]at a;exact nE a
 . exact g z,h _ _ a⟩
set_option tactic.hygienic true in
def DS.store{f:Hp}(S:DS e O m q B y G)(t:A5 y f)(i:Nat)(r:RX e O q y f L d8):∃n,DS e O m n (B.set i (U L)) f (G.set i (U d8)):=by
 have D:=S.grow t;have Z:∀R:List Addr,(∀b∈R,y b=J)->(∀b∈R,∃u:Cl,f b=U u.1)->DS e O m (R.map U++q) B f G/\∀b∈R,m b=J/\U b∉q/\∃u:Cl,f b=U u.1:=λR p B6=>by
  have X:∀b∈R,U b∉q:=λb K z=>by obtain⟨_,o,z⟩:=S.new b z;rw[p b K]at z;exact nE z
  have W:∀b∈R,m b=J/\U b∉q/\∃u:Cl,f b=U u.1:=λb K=>⟨S.same.free (p b K),X b K,B6 b K⟩;obtain⟨F,v,M,I⟩:=S.fg;refine⟨⟨S.ls,D.same,λb K=>?_,S.eD,F,λi b z=>Q3 _ (v i b z),M,λj d8 g=>(I j d8 g).yn (lJ t p) (λb _ o z=>t _ _ z) λb z=>z⟩,W⟩
  rcases List.mem_append.mp K with z|z
  obtain⟨b',A,E⟩:=mem_map.mp z;cases E;exact⟨(W b A).1,(W b A).2.2⟩;exact D.new b z
 have N:∀R:List Addr,(∀b∈R,y b=J)->(∀b∈R,∃u:Cl,f b=U u.1)->bO e O (R.map U++q) f (U (U L)) R d8->∃n,DS e O m n (B.set i (U L)) f (G.set i (U d8)):=λR p B6 Y=>by
  obtain⟨T,W⟩:=Z R p B6;obtain⟨F,v,M,I⟩:=S.fg;refine⟨_,by simp[S.ls],D.same,T.new,S.eD,λj=>if j=i then R else F j,λj b K=>?_,λj k b x s=>?_,λj d8 g=>?_⟩
  . dsimp only at K;split at K;exact iA _ (mem_map.mpr ⟨b,K,rfl⟩);exact Q3 _ (v j b K)
  . dsimp only at x s;split at x
    . split at s;rename_i A E;rw[A,E];exact absurd (v k b s) (W b x).2.1
    . split at s;exact absurd (v j b x) (W b s).2.1;exact M j k b x s
  . by_cases H:i=j
    . subst H;rw[vo]at g;rw[A3 rfl]at g;obtain⟨Q,g⟩:=K8 g;cases g;dsimp only;rw[A3 rfl,vz (by rw[S.ls];exact Q)];exact Y
    . rw[iz H]at g;dsimp only;rw[A4 (λz=>H z.symm),iz H];exact(I j d8 g).yn (lJ t p) (λb _ o z=>t _ _ z) λb z=>z
 cases d8 with
 |dat d=>exact⟨_,D.set i r⟩
 |ob w c=>
  obtain⟨o,R,rfl,as,C,h⟩:=r;exact N R C h.at ⟨o,R,rfl,as,λb z=>z,h⟩
 |own l=>
  obtain⟨a,P,rfl,as,C,h⟩:=r;refine N [a] (λb K=>?_) (λb K=>?_) ⟨a,P,rfl,F5,C,h⟩;rw[mem_singleton.mp K];exact as;rw[mem_singleton.mp K];exact⟨Cl.l P,C⟩
noncomputable def av(i:Nat)(F:DV):DO:=λds=>(F ds).bind λpv=>U (.next (ds.set i (U pv)))
noncomputable def A0(i:Nat)(F:DV):DO:=λds=>(F ds).bind λpv=>U (.next (ds.set i (U (.dat pv.d))))
def YT(r:c.N.Nodup)(l:c.N[N]?=U u)(k:Loc c.env.scope u)(d:PX c Uf o g D)(hs:autoParam (bc o (U (.Name u Q)) p.line c.env=pure U') B0)(n:autoParam (xh c u) hW):
  N7 c (.Assign [.Name u Q] o p) (nI g (cI N)) (av N D):=⟨DQ r l k d.p hs n,by
 intro O b j F H f i e S h q;obtain⟨pv,e1,h⟩:=A1 h;cases h;refine d.t O b j F H f pv _ S e1 λv w m s=>?_
 obtain⟨X,x⟩:=S.store m N s;exact q X _ _ x⟩
def Sg(n:c.N.Nodup)(k:c.N[N]?=U u)(j:Loc c.env.scope u)(X:PX c Uf o g D)(hs:autoParam (bc o (U (.Name u Q)) p.line c.env=pure U') B0)(m:autoParam (xh c u) hW):
  N7 c (.Assign [.Name u Q] o p) (nI g (cI N)) (A0 N D):=⟨DQ n k j X.p hs m,by
 intro O b F f H d i e S h q;obtain⟨pv,e1,h⟩:=A1 h;cases h;refine X.t O b F f H d pv _ S e1 λv s l r=>?_
 exact q _ _ _ ((S.grow l).set N (r.dt S.dm))⟩
noncomputable def a2T(i j:Nat)(Fl:DL):DO:=λds=>(Fl ds).bind λl=>match l with
 | [a,b]=>U (.next ((ds.set i (U (.dat a))).set j (U (.dat b))))
 |_=>J
noncomputable def B5(F:DV):DO:=λds=>(F ds).bind λpv=>U (.ret pv)
def IB{fr:Bool}(X:PX c fr o g D):N7 c (.Return (U o) p) (AO g) (B5 D):=⟨tZ X.p,by
 intro O a F f H d l e S h q;obtain⟨pv,e1,h⟩:=A1 h;cases h;refine X.t O a F f H d pv _ S e1 λv k i j=>?_
 exact q v k (S.same.trans i) ((j.back S.same).less λb z=>by simp at z)⟩
noncomputable def U2(i:Nat):DO:=λds=>match ds[i]? with
 |some (U pv)=>U (.ret pv)
 |_=>J
set_option tactic.hygienic true in
def Si(i:Nat)(h:PE c o (O0 i)):N7 c (.Return (U o) p) (AO (O0 i)) (U2 i):=⟨tZ h,by
 intro O j B A H E D e S h q;unfold U2 at h;split at h
 . rename_i pv n;cases h;have g:=S.slot i pv n;cases pv with
   |dat d=>
    obtain⟨v,f,h⟩:=g;exact⟨v,f,q v H S.same (Dt.same (Z3 (A5.refl _) λb z=>by simp at z) h)⟩
   |own l=>
    obtain⟨a,u,f,k,s,h⟩:=g;refine⟨_,f,q _ H S.same ⟨a,u,rfl,(S.new a k).1,s,h.same (Z3 (A5.refl _) λb z=>?_)⟩⟩
    simp_all
   |ob w X=>
    obtain⟨e,R,f,y,m,h⟩:=g;refine⟨_,f,q _ H S.same ⟨e,R,rfl,y,λb t=>(S.new b (m b t)).1,h.same (Z3 (A5.refl _) λb z=>?_) (λ_ _ _ z=>z)⟩⟩;rw[bZ]at z;obtain⟨C,r,x⟩:=mem_map.mp z;cases x;exact m b r
 . exact nE h⟩
noncomputable def Xw:DO:=λ_=>U (.ret (.dat .none))
noncomputable def E4(Ft:DB)(G1 G2:DO):DO:=λds=>(Ft ds).bind λb=>if b=Uf then G1 ds else G2 ds
def a1P{sb:List Stmt}{u:TS}{G2:DO}(g:bP c o b6 c5)(k:iI c r9 m4 c9)(i:iI c sb u G2):N7 c (.If o r9 sb p) (Rt b6 m4 u) (E4 c5 c9 G2):=⟨Vz g.p k.p i.p,by
 intro O a f e H d D X S h q;obtain⟨b,e1,h⟩:=A1 h;refine g.t O a f e H d b _ S e1 λl j=>?_
 cases b with
 |true=>exact k.t O a f e l d D X (S.grow j) h q
 |false=>exact i.t O a f e l d D X (S.grow j) h q⟩
noncomputable def Xx:DO:=λds=>U (.next ds)
noncomputable def Oy:DO:=λds=>U (.brk ds)
noncomputable def Xz:DO:=λds=>U (.cont ds)
noncomputable def bw:DO:=λ_=>J
def BP{st:Stmt}:N7 c st ye bw:=⟨Sw,by exact λO a X b H d D o S h q=>nE h⟩
noncomputable def Xy(F:DV):DO:=λds=>(F ds).bind λ_=>U (.next ds)
end
def DS.vL{K:PV}{u:Cl}{c:Nat->List Addr}(S:DS e O m q B y G)(hd:G[N]?=U (U d8))(H:∀N b,b∈c N->U b∈q)(n:∀N j b,b∈c N->b∈c j->N=j)(s:∀(N:Nat) (d8:PV),G[N]?=U (U d8)->bO e O q y B[N]? (c N) d8)(l:t∈c N)(r:A5 (C9 y q O) (C9 (upd y t u.1) q O)->bO e O q (upd y t u.1) B[N]? (c N) K):DS e O m q B (upd y t u.1) (G.set N (U K)):=by
 have sm:A5 (C9 y q O) (C9 (upd y t u.1) q O):=fj λb o i p v=>⟨i,p,by rw[K1 (λz=>p (by rw[z];exact H N t l))];exact v⟩;have f:=(List.getElem?_eq_some_iff.mp hd).1;refine⟨by simp[S.ls],λb o h=>?_,λb g=>⟨(S.new b g).1,?_⟩,S.eD,c,H,n,λj d8 k=>?_⟩
 . rw[K1 (λz=>?_)];exact S.same _ _ h;rw[z,(S.new t (H N t l)).1]at h;exact nE h
 . by_cases z:b=t;exact⟨u,by rw[z];exact Q0⟩;obtain⟨_,o,h⟩:=S.new b g;exact⟨o,by rw[K1 z];exact h⟩
 . by_cases d:N=j;subst d;rw[vz f]at k;cases k;exact r sm
   . rw[iz d]at k;refine(s j d8 k).yn sm (λb g o z=>?_) λb z=>z;rw[K1 (λw=>d (n N j t l (by rw[<-w];exact g)))];exact z
def DS.turn{h:List l5}(S:DS e O m q B y G)(hd:G[N]?=U (U (.own T)))(f:B[N]?=U (U (.ref t)))(k:E8 e (C9 y q O) M h):
  DS e O m q B (upd y t (.lst M)) (G.set N (U (.own h))):=by obtain⟨n,H,j,g⟩:=S.fg;obtain⟨r,p,K,d,o,c⟩:=g N _ hd;rw[f]at K;cases K;exact S.vL (u:=Cl.l M) hd H j g d λsm=>⟨t,M,f,d,Q0,k.same sm⟩
noncomputable def bK(i:Nat)(F:DV):DO:=λds=>(F ds).bind λpv=>match ds[i]? with
 |some (U (.own l))=>if l.length<1000000 then U (.next (ds.set i (U (.own (l++[pv.d])))))else J
 |_=>J
section
set_option tactic.hygienic true in
def YX(i:Nat)(C:PE c o (O0 i))(w:PX c Uf E g D)(bm:autoParam (HB c o "append" j4 E [] Q) qM)(hs:autoParam (bc (.Call (.Attribute o "append" j4) [E] [] Q) J p.line c.env=pure U') B0):
  N7 c (.Expr (.Call (.Attribute o "append" j4) [E] [] Q) p) (pw (Di c.K "list" vR (O0 i) (gw g rP))) (bK i D):=
 ⟨kh (yt rF Hn Hk uj C (cx w.p lG bm.s) bm) hs,by
 intro O e u n H z F o S h q;obtain⟨pv,e1,h⟩:=A1 h;split at h
 . rename_i l m;obtain⟨G,h⟩:=K8 h;cases h;obtain⟨a,A,r,X,s,y⟩:=S.slot i _ m;refine⟨_,r,.inl ⟨rfl,A,N6.of s⟩,?_⟩;refine w.t O e u n H z pv _ S e1 λv I k B=>?_;have:=y.length;refine⟨a,A,v,rfl,rfl,k _ _ s,L9 qc (qj O8),q u n _ ?_⟩;exact(S.grow k).turn m r ((y.same (S3 k)).append (.cons (B.dt S.dm) .nil))
 . exact nE h⟩
end
def DS.rebase(S:DS e O m q B y G):DS e O (C9 y q []) q B y G where
 ls:=S.ls
 same:=G3
 new:=λa h=>⟨by delta C9;rw[A3 (.inr h)],(S.new a h).2⟩
 eD:=λa h=>by
  obtain⟨o,z⟩:=S.eD a h;refine⟨o,P0.mpr ⟨by simp,λK=>?_,S.same _ _ z⟩⟩;rw[(S.new a K).1]at z;exact nE z
 fg:=S.fg
def DS.lB{H:Hp}(S:DS e O y q B H G)(K:A5 m y)(hd:∀a∈O,∃o,m a=U o):DS e O m q B H G:=
 ⟨S.ls,K.trans S.same,λa h=>⟨K.free (S.new a h).1,(S.new a h).2⟩,hd,S.fg⟩
def DS.a0Z(S:DS e O m q B y G):A5 m (C9 y q []):=λb o h=>by
 refine P0.mpr ⟨by simp,λK=>?_,S.same _ _ h⟩;rw[(S.new b K).1]at h;exact nE h
set_option tactic.hygienic true in
theorem AJ.lB{X:Cx}{O:List Addr}{B6 Hb:Hp}{D:Ends}{o:Out}(h:AJ X O B6 D o)(e:A5 B6 Hb)(hd:∀a∈O,∃u,B6 a=U u):AJ X O Hb D o:=by
 cases o with
 |next d=>exact λc b H S=>h c b H (S.lB e hd)
 |brk d=>exact λc b H S=>h c b H (S.lB e hd)
 |cont d=>exact λc b H S=>h c b H (S.lB e hd)
 |ret pv=>exact λv H s r=>h v H (e.trans s) (r.back e)
 |up x=>exact λf H s n u=>h f H (e.trans s) (e.free n) u
 |retO pv d=>exact λc b g H v S s r=>h c b g H v (S.lB e hd) s r
 |upO t x d=>cases t with
  |false=>exact λc b g H v S s n u=>h c b g H v (S.lB e hd) s n u
  |true=>exact λc b g H v S s u=>h c b g H v (S.lB e hd) s u
def Pc(K:B1)(g:TG)(gt:l5->DD):Prop:=
 ∀(O:List Addr) (B6:Hp) (as:As) (σ:St) (H:Hp) (ds ds':Ds) (v:V) (d:l5) (Q:St->Hp->Prop),DS K O B6 as σ H ds->Dt K (C9 H as O) v d->gt d ds=U ds'->(∀as' σ',DS K O B6 as' σ' H ds'->Q σ' H)->g v σ H Q
noncomputable def D3(i:Nat):l5->DD:=λd ds=>U (ds.set i (U (.dat d)))
def Rm:Pc e (cI N) (D3 N):=by intro O a f c H g b v d Q S h K q;cases K;exact q _ _ (S.set N h)
def Ln(K:B1)(g:wX)(gt:List l5->DD):Prop:=
 ∀(O:List Addr) (B6:Hp) (as:As) (σ:St) (H:Hp) (ds ds':Ds) (vs:List V) (l:List l5) (Q:St->Hp->Prop),DS K O B6 as σ H ds->E8 K (C9 H as O) vs l->gt l ds=U ds'->(∀as' σ',DS K O B6 as' σ' H ds'->Q σ' H)->g vs σ H Q
def eM:List l5->DD
 | [],ds=>U ds
 |_,_=>J
def N0(i:Nat)(r:List l5->DD):List l5->DD
 |d::l,ds=>r l (ds.set i (U (.dat d)))
 | [],_=>J
def eJ(n:Nat)(r:List l5->DD):l5->DD
 | .tuple l,ds=>if l.length=n then r l ds else J
 |_,_=>J
def Rn:Ln e La eM:=by
 intro O a d c H f b g l Q S h K q;cases h with
 |nil=>cases K;exact⟨rfl,q _ _ S⟩
 |cons _ _=>exact nE K
def LQ(c:Ln e n9 v6):Ln e (wu (cI N) n9) (N0 N v6):=by
 intro O a f d H j b k l Q S h K q;cases h with
 |nil=>exact nE K
 |cons h t=>
  exact⟨_,_,rfl,c O a _ _ H _ b _ _ Q (S.set N h) t K q⟩
set_option tactic.hygienic true in
def Yp(t:Ln e n9 v6):Pc e (ET e N n9) (eJ N v6):=by
 intro O b p m H k ds' v d Q S h K q;cases h with
 |tup s i=>
  rename_i a j l;have f:=K;obtain⟨o,f⟩:=K8 f;exact⟨a,j,rfl,G3.iF s,by rw[i.length];exact o,t O b p m H k ds' j l Q S i f q⟩
 |_=>exact nE K
def J9(gt:l5->DD)(G:DO):List l5->DO
 | [],ds=>U (.next ds)
 |x::r,ds=>(gt x ds).bind λds1=>(G ds1).bind λo=>match o with
  | .next ds2=>J9 gt G r ds2
  | .cont ds2=>J9 gt G r ds2
  | .brk ds2=>U (.next ds2)
  | .ret pv=>U (.ret pv)
  | .up x=>U (.up x)
  | .retO pv ds2=>U (.retO pv ds2)
  | .upO t x ds2=>U (.upO t x ds2)
def L1(Fi:DL)(gt:l5->DD)(G:DO):DO:=λds=>(Fi ds).bind λitems=>J9 gt G items ds
section
set_option tactic.hygienic true in
def YV(hp:zv (model c.prog c.w) c.A c.env c.xe)(hc:c.calm=Uf)(Z:Pc c.K k6 m9)(hi:zi c Uf o E l8 h7)(hg:PG c o k6)(C:iI c r9 m4 c9)(hs:autoParam (Fsi c E) qL):N7 c (.For o E r9 [] p) (a1g l8 k6 m4) (L1 h7 m9 c9):=⟨a1Q hp hc hi.p hg C.p hs,by
 intro O M N σ H W D g S h q;obtain⟨a,e1,h⟩:=A1 h;refine hi.t O M N σ H W a _ S e1 λJff H1 s1 it=>?_;have S1:=S.grow s1;have L:=q.lB S1.a0Z S.eD;refine⟨λi m l n=>i<=a.length/\m=a.length-i/\∃r k,DS c.K O (C9 H1 N []) r l n k/\J9 m9 c9 (a.drop i) k=U g,⟨_,jx _,rfl,N,W,S1.rebase,h⟩,?_⟩;rintro i m I H2 ⟨hi',em,s,G,B,X⟩;obtain⟨R,st',V⟩:=it H2 B.same i;by_cases e:i<a.length
 . have ed':=Ht e;rw[ed']at X;obtain⟨v,e3,X⟩:=A1 X;obtain⟨o4,e4,X⟩:=A1 X;refine .inr ⟨R e,λl n=>∃r k,DS c.K O (C9 H1 N []) r l n k/\J9 m9 c9 (a.drop (i+1)) k=U g,λl n z=>⟨a.length-(i+1),by lia,e,rfl,z⟩,λx n y=>?_⟩
   obtain⟨e5,d,ed,dt⟩:=V x n y e;have Q:a[i]=d:=by rw[M6 e]at ed;exact Y9 ed
   rw[Q]at e3;refine Z O _ s I n G v x d _ (B.grow e5) (dt s (λb C=>⟨(B.new b C).1,let ⟨_,z⟩:=(B.new b C).2;⟨_,z⟩⟩) B.eD) e3 λY σ4 S4=>?_
   refine C.t O _ Y σ4 n v _ o4 S4 e4 ?_;cases o4 with
   |next j=>exact λf u P F=>⟨f,j,F,X⟩
   |cont j=>exact λf u P F=>⟨f,j,F,X⟩
   |brk j=>cases X;assumption
   |ret pv=>cases X;exact L
   |up x=>cases X;exact L
   |retO pv j=>cases X;exact L
   |upO t x j=>cases X;cases t<;>exact L
 . have T:i=a.length:=by lia
   subst T;rw[GK]at X;cases X;exact .inl ⟨st' O8,L s I H2 B⟩⟩
def W6(Fc:DB)(G:DO):Nat->DO
 | 0,_=>J
 |n+1,ds=>(Fc ds).bind λb=>if b=Uf then(G ds).bind λo=>match o with
   | .next ds2=>W6 Fc G n ds2
   | .cont ds2=>W6 Fc G n ds2
   | .brk ds2=>U (.next ds2)
   | .ret pv=>U (.ret pv)
   | .up x=>U (.up x)
   | .retO pv ds2=>U (.retO pv ds2)
   | .upO t x ds2=>U (.upO t x ds2)
  else U (.next ds)
def lK(μ:Ds->Nat)(Fc:DB)(G:DO):DO:=λds=>W6 Fc G (μ ds) ds
set_option tactic.hygienic true in
def MF(μ:Ds->Nat)(P:zv (model c.prog c.w) c.A c.env c.xe)(C:bP c o b6 c5)(y:iI c r9 m4 c9):N7 c (.While o r9 [] p) (LR b6 m4) (lK μ c5 c9):=⟨Sv P C.p y.p,by
 intro O d M Q H N D X S h q;refine⟨λm i r=>∃k f,DS c.K O d k i r f/\W6 c5 c9 m f=U X,⟨_,M,N,S,h⟩,?_⟩
 rintro m j I ⟨l,g,s,a⟩;cases m with
 |zero=>exact nE a
 |succ m=>
  obtain⟨b,e1,a⟩:=A1 a;refine C.t O d l j I g b _ s e1 λF E=>?_
  cases b with
  |false=>
   cases a;exact q l j F (s.grow E)
  |true=>
   obtain⟨B,e4,a⟩:=A1 a;refine⟨λi r=>∃k f,DS c.K O d k i r f/\W6 c5 c9 m f=U X,λi r z=>⟨m,Ak _,z⟩,?_⟩
   refine y.t O d l j F g _ B (s.grow E) e4 ?_;cases B with
   |next e=>exact λn u L v=>⟨n,e,v,a⟩
   |cont e=>exact λn u L v=>⟨n,e,v,a⟩
   |brk e=>cases a;exact q
   |ret pv=>cases a;exact q
   |up x=>cases a;exact q
   |retO pv e=>cases a;exact q
   |upO t x e=>cases a;cases t<;>exact q⟩
end
noncomputable def Bb:Out->Option PV
 | .ret pv=>U pv
 | .next _=>U (.dat .none)
 |_=>J
def F9(n N:Nat)(G:DO):FV:=λl=>if l.length=n then(G (gR l++N8 (N-n) J)).bind Bb else J
section
variable{K:B1}{mg:Str->Option w9}
theorem DS.start(c:∀a∈O,∃u,m a=U u)(h:E8 K (C9 m [] O) M T):DS K O m (N8 (gR T++N8 (b9.length-T.length) J).length J) (start b9 M) m (gR T++N8 (b9.length-T.length) J):=by
 have d:DS K O m (N8 (b9.length-T.length) J) (N8 (b9.length-T.length) J) m (N8 (b9.length-T.length) J):=
  ⟨by simp,A5.refl m,λa z=>absurd z qm,c,λ_=>[],λi b z=>absurd z G9,λi j b z=>absurd z G9,λi pv z=>by have:=rC z;simp[PM]at this⟩
 have e:(N8 (gR T++N8 (b9.length-T.length) J).length J:As)=N8 T.length J++N8 (b9.length-T.length) J:=by
  congr 1
  simp[gR]
 rw[e];delta L2.start;rw[h.length];exact(d.pre (by rw[a0e];exact h))
set_option tactic.hygienic true in
def rG.okF(F:rG K u i6 j1 t j9) (S:iT b9 i7 (L4 j1)) (R:i7.length<=b9.length) (d:∀(c:w9) (A:T8) (outer:List Env) (s:A6) (H:Hp) (E:XK),eS i9 (A.deeper (ft i6 (L4 j1) (hz s) t c)) ->
   ∃b,iI (oi D7 P z K mg d9 b9 i6 (L4 j1) t c A outer s H E).pB (bF j1) b c9):gU P z K mg d9 D7 (i9+1) t j9 i7 (F0 K (F9 i7.length b9.length c9)):=by
 have D:∀j H Q E,F0 K (F9 i7.length b9.length c9) j H Q E->j.length=i7.length:=λj H Q E h=>by obtain⟨O,n,pv,w,x,a,q⟩:=h;obtain⟨l,a⟩:=K8 a;rw[x.length];exact l
 refine F.ok S D λc A outer s H j Q E B h=>?_
 obtain⟨O,n,pv,w,x,a,q⟩:=h;obtain⟨b,y⟩:=d c A outer s H E B;refine⟨b,y.p,?_⟩;obtain⟨l,a⟩:=K8 a;rw[<-l]at a;obtain⟨o,e1,a⟩:=A1 a;refine y.t O H _ (L2.start b9 j) H _ _ o (DS.start w x) e1 ?_;cases o with
 |next e=>cases a;exact λM L m I=>q _ m I.same Dt.non
 |ret C=>cases a;assumption
 |brk e=>exact nE a
 |cont e=>exact nE a
 |up u=>exact nE a
 |retO pv e=>exact nE a
 |upO b u e=>exact nE a
end
noncomputable instance {m:Nat}{i:Int}:Decidable (Bt m i):=decidable_of_iff (i.natAbs<2^m) ⟨λh=>⟨h⟩,λh=>h.lt⟩
noncomputable instance {i j:Int}:Decidable (xV i j):=by delta xV;infer_instance
noncomputable def Jc(g:Int->Int->l5):l5->l5->Option PV
 | .int i,.int j=>U (.dat (g i j))
 |_,_=>J
noncomputable def xD(C:Int->Int->Prop)[∀i j,Decidable (C i j)](g:Int->Int->l5):l5->l5->Option PV
 | .int i,.int j=>if C i j then U (.dat (g i j))else J
 |_,_=>J
section
variable{K:B1}
def tW(b:∀i j H,Dt K H (v7 i j) (v8 i j)):Y0 K (nN v7) (Jc v8):=by
 intro O h H x y d e pv Q D c f a q;cases c with
 |int i=>
  cases f with
  |int j=>
   cases a;exact⟨i,j,rfl,rfl,q _ H (A5.refl H) (b i j _)⟩
  |_=>exact nE a
 |_=>exact nE a
def yp{C c:Int->Int->Prop}[∀i j,Decidable (C i j)](k:∀i j,C i j->c i j)(f:∀i j H,Dt K H (v7 i j) (v8 i j)):Y0 K (rI c v7) (xD C v8):=by
 intro O n H x y d e pv Q D h l b q;cases h with
 |int i=>
  cases l with
  |int j=>
   have a:=b;obtain⟨m,a⟩:=K8 a;cases a;exact⟨i,j,rfl,rfl,k i j m,q _ H (A5.refl H) (f i j _)⟩
  |_=>exact nE b
 |_=>exact nE b
def iE:=Jc λi j=>.int (i-j)
def M9:=xD (λi j=>Bt 60000 i/\Bt 60000 j) λi j=>.int (i*j)
def aH:=xD (λ_ j=>j≠0/\Bt 8000 j) λi j=>.int (i.fdiv j)
def K7:=xD (λ_ j=>j≠0) λi j=>.int (i.fmod j)
def Kl:=xD xV λi j=>.int (i^j.toNat)
def gZ:=Jc λi j=>.bool (decide (i<j))
def wM:=Jc λi j=>.bool (decide (i<=j))
def hU:=Jc λi j=>.bool (decide (j<i))
def wQ:=Jc λi j=>.bool (decide (j<=i))
def a3G:Y0 K (nN λi j=>.int (i-j)) iE:=tW λi j H=>.int _
def a3L:Y0 K (rI (λi j=>Bt 60000 i/\Bt 60000 j) λi j=>.int (i*j)) M9:=yp (λ_ _ h=>h) λi j H=>.int _
def a0O:Y0 K (rI (λ_ j=>j≠0/\Bt 8000 j) λi j=>.int (i.fdiv j)) aH:=yp (λ_ _ h=>h) λi j H=>.int _
def a3M:Y0 K (rI (λ_ j=>j≠0) λi j=>.int (i.fmod j)) K7:=yp (λ_ _ h=>h) λi j H=>.int _
def a3J:Y0 K (rI xV λi j=>.int (i^j.toNat)) Kl:=yp (λ_ _ h=>h) λi j H=>.int _
def QX:Y0 K (nN λi j=>.bl (decide (i<j))) gZ:=tW λi j H=>.bl _
def QY:Y0 K (nN λi j=>.bl (decide (i<=j))) wM:=tW λi j H=>.bl _
def a0M:Y0 K (nN λi j=>.bl (decide (j<i))) hU:=tW λi j H=>.bl _
def a0N:Y0 K (nN λi j=>.bl (decide (j<=i))) wQ:=tW λi j H=>.bl _
noncomputable def sy:l5->Option PV
 | .int i=>U (.dat (.int (-i)))
 |_=>J
def a3K:R1X K (rU λi=>.int (-i)) sy:=by
 intro O c H x d pv Q D b a q;cases b with
 |int i=>cases a;exact⟨i,rfl,q _ H (A5.refl H) (Dt.int _)⟩
 |_=>exact nE a
noncomputable def D9:l5->l5->Option PV
 | .str i,.str j=>U (.dat (.bool (decide (i=j))))
 |d,e=>if bV d=Uf/\bV e=Uf then U (.dat (.bool (cM d e)))else J
noncomputable def X5:l5->l5->Option PV
 | .str i,.str j=>U (.dat (.bool (!decide (i=j))))
 |d,e=>if bV d=Uf/\bV e=Uf then U (.dat (.bool (!PyData.eqv d e)))else J
def AX(K:B1):R2:=λx y H Q=>rEq x y H Q\/∃d e,Dt K H x d/\Dt K H y e/\bV d=Uf/\bV e=Uf/\Q (.bl (cM d e)) H
def DK(K:B1):R2:=λx y H Q=>rNe x y H Q\/∃d e,Dt K H x d/\Dt K H y e/\bV d=Uf/\bV e=Uf/\Q (.bl (!PyData.eqv d e)) H
def yy(a:c.A.units+64<U5):Q7 c (P6 .Eq) (AX c.K):=a4s.or (a2l a)
def Ea(a:c.A.units+64<U5):Q7 c (P6 .NotEq) (DK c.K):=a4r.or (a2j a)
set_option tactic.hygienic true in
def JI:Y0 K (AX K) D9:=by
 intro O g H x y d e pv Q D b f a q;unfold D9 at a;split at a;cases a;cases b;cases f;rename_i i j;exact .inl ⟨rfl,q _ H (A5.refl H) (by rw[show decide (V.str i=V.str j)=decide (i=j) by simp];exact Dt.bl _)⟩;obtain⟨c,a⟩:=K8 a;cases a;exact .inr ⟨d,e,b.same G3,f.same G3,c.1,c.2,q _ H (A5.refl H) (Dt.bl _)⟩
set_option tactic.hygienic true in
def QW:Y0 K (DK K) X5:=by
 intro O g H x y d e pv Q D b f a q;unfold X5 at a;split at a;cases a;cases b;cases f;rename_i i j;exact .inl ⟨rfl,q _ H (A5.refl H) (by rw[show decide (V.str i=V.str j)=decide (i=j) by simp];exact Dt.bl _)⟩;obtain⟨c,a⟩:=K8 a;cases a;exact .inr ⟨d,e,b.same G3,f.same G3,c.1,c.2,q _ H (A5.refl H) (Dt.bl _)⟩
noncomputable def M8:l5->Bool
 | .none=>Uf
 |_=>U'
def Dt.IM(h:Dt K m L d6):decide (L=.non)=M8 d6:=by cases h<;>rfl
def cj:l5->l5->Option PV
 |d,.none=>U (.dat (.bool (M8 d)))
 |_,_=>J
def qC:l5->l5->Option PV
 |d,.none=>U (.dat (.bool (!M8 d)))
 |_,_=>J
def a0K:Y0 K (λx y H Q=>y=.non/\Q (.bl (decide (x=.non))) H) cj:=by
 intro O f H x y d e pv Q D b c a q;cases c with
 |non=>cases a;exact⟨rfl,q _ H (A5.refl H) (by rw[b.IM];exact Dt.bl _)⟩
 |_=>exact nE a
def HW:Y0 K (λx y H Q=>y=.non/\Q (.bl (!decide (x=.non))) H) qC:=by
 intro O f H x y d e pv Q D b c a q;cases c with
 |non=>cases a;exact⟨rfl,q _ H (A5.refl H) (by rw[b.IM];exact Dt.bl _)⟩
 |_=>exact nE a
def w5(d:l5):l5->Option PV
 | .int i=>match d with
  | .list l=>(T7 l i).bind λd=>U (.dat d)
  | .tuple l=>(T7 l i).bind λd=>U (.dat d)
  | .str z=>if z.length<=1000000 then(T7 z.cps.toList i).bind λc=>U (.dat (.str ⟨#[c]⟩))else J
  |_=>J
 |_=>J
theorem E8.T7{H:Hp}{xs:List V}{l:List l5}{i:Int}{d:l5}(h:E8 K H xs l)(e:L2.T7 l i=U d):∃x,L2.T7 xs i=U x/\Dt K H x d:=by
 unfold L2.T7 at e⊢;rw[h.length];cases hi:uA l.length i with
 |none=>simp_all
 |some j=>
  rw[hi]at e;exact h.get e
def a0J:Y0 K (Iy K) w5:=by
 intro O r H x y d e pv Q D p m f q;cases m with
 |int i=>cases p with
  |lst j n=>
   obtain⟨d,a,b⟩:=A1 f;cases b;obtain⟨v,h,k⟩:=n.T7 a;exact .inl ⟨_,_,i,v,rfl,rfl,G3.seq j,h,q v H (A5.refl H) k⟩
  |tup j n=>
   obtain⟨d,a,b⟩:=A1 f;cases b;obtain⟨v,h,k⟩:=n.T7 a;exact .inr (.inl ⟨_,_,i,v,rfl,rfl,G3.iF j,h,q v H (A5.refl H) k⟩)
  |str z=>
   obtain⟨o,b⟩:=K8 f;obtain⟨c,a,b⟩:=A1 b;cases b;exact .inr (.inr ⟨z,i,c,rfl,rfl,qj o,a,q _ H (A5.refl H) (Dt.str _)⟩)
  |_=>exact nE f
 |_=>exact nE f
end
def Vx(K:B1):R2:=λx y H Q=>∃a b xs ys,x=.ref a/\y=.ref b/\Y7 K H a xs/\Y7 K H b ys/\xs.length+ys.length<=D6 /\
 (xs=[]->Q (.ref b) H)/\(xs≠[]->ys=[]->Q (.ref a) H)/\(xs≠[]->ys≠[]->∀p,H p=J->Q (.ref p) (upd H p (.tup (xs++ys))))
def Vy(K:B1):R2:=λx y H Q=>∃a b xs ys,x=.ref a/\y=.ref b/\N6 K H a xs/\N6 K H b ys/\xs.length+ys.length<=D6/\∀p,H p=J->Q (.ref p) (upd H p (.lst (xs++ys)))
def Zv:Q7 c (bQ .Add) (Vx c.K):=by
 intro X s q H x y v u Q I f l h;obtain⟨a,b,g,w,rfl,rfl,i,j,t,n,q2,B⟩:=h;by_cases d:g=[];subst d;cases f;cases l;obtain⟨A,o,z,_⟩:=I.tuple i;obtain⟨k,C,r,_⟩:=I.tuple j;exact a0x z r (o.vW.mpr rfl) ⟨.ref b,H,I,rfl,n rfl⟩;exact Zw X s q H (.ref a) (.ref b) v u Q I f l ⟨a,b,g,w,rfl,rfl,i,j,d,t,λe=>q2 d e,λe p m=>B d e p m⟩
def Zx:Q7 c (bQ .Add) (Vy c.K):=by
 intro w s V H x y v u Q I A P h;obtain⟨l,b,R,Y,rfl,rfl,G,B,W,q⟩:=h;cases A;cases P;obtain⟨X,r,L,S⟩:=I.list G;obtain⟨a,m,E,T⟩:=I.list B;obtain⟨⟨N,M,o,C⟩,t,D,n,O⟩:=L.isList;obtain⟨⟨p,f,g,i⟩,d,k,z,j⟩:=E.isList;subst D O k j;have e:X.toArray++a.toArray=(X++a).toArray:=by simp
 have:=r.length;have:=m.length;refine zL ⟨_,t,rfl⟩ ⟨_,d,rfl⟩ noFill_list_add seq_list_add PySem.F.slot_list_add PySem.F.entry_list_add (PySem.F.args_list_add_2 _ _) (list_addW l b X.toArray a.toArray n z M f C i (by simp;simp_all)) ⟨t,d,?_⟩;rw[e];exact⟨.ref _,_,I.a5s (r.append m) (by rw[L6];subst_vars;assumption),rfl,q _ I.fresh⟩
def Kh(K:B1):R2:=λx y H Q=>(nN λi j=>.int (i+j)) x y H Q\/(∃i j,x=.str i/\y=.str j/\i.length+j.length<=D6/\Q (.str (i++j)) H)\/Vx K x y H Q\/Vy K x y H Q
def Zy:Q7 c (bQ .Add) (Kh c.K):=a2m.or (Kr.or (Zv.or Zx))
noncomputable def C2:l5->l5->Option PV
 | .int i,.int j=>U (.dat (.int (i+j)))
 | .str i,.str j=>if i.length+j.length<=1000000 then U (.dat (.str (i++j)))else J
 | .tuple l,.tuple m=>if l.length+m.length<=1000000 then U (.dat (.tuple (l++m)))else J
 | .list l,.list m=>if l.length+m.length<=1000000 then U (.own (l++m))else J
 |_,_=>J
set_option tactic.hygienic true in
def a3R:Y0 e (Kh e) C2:=by
 intro O A H x y d K pv Q D w r g q;cases w with
 |int i=>
  cases r with
  |int j=>cases g;exact .inl ⟨i,j,rfl,rfl,q _ H (A5.refl H) (Dt.int _)⟩
  |_=>exact nE g
 |str i=>
  cases r with
  |str j=>
   have c:=g;obtain⟨o,c⟩:=K8 c;cases c;exact .inr (.inl ⟨i,j,rfl,rfl,qj o,q _ H (A5.refl H) (Dt.str _)⟩)
  |_=>exact nE g
 |tup s k=>
  cases r with
  |tup h f=>
   rename_i a t l b u m;have c:=g;obtain⟨o,c⟩:=K8 c;cases c;refine .inr (.inr (.inl ⟨a,b,t,u,rfl,rfl,G3.iF s,G3.iF h,by rw[k.length,f.length];exact qj o,λK=>?_,λz v=>?_,λz v p n=>?_⟩));subst K;cases k;exact q _ H (A5.refl H) (Dt.tup h f);subst v;cases f;rw[bZ]at q;exact q _ H (A5.refl H) (Dt.tup s k);exact q _ _ (A5.new n) (tU D n (k.append f))
  |_=>exact nE g
 |lst s k=>
  cases r with
  |lst h f=>
   rename_i a t l b u m;have c:=g;obtain⟨o,c⟩:=K8 c;cases c;exact .inr (.inr (.inr ⟨a,b,t,u,rfl,rfl,G3.seq s,G3.seq h,by rw[k.length,f.length];exact qj o,λp n=>q _ _ (A5.new n) (lD n (k.append f))⟩))
  |_=>exact nE g
 |_=>exact nE g
noncomputable def cutD(xs:List c8)(lo hi:Option Int):List c8:=(xs.drop (HT.N4 xs.length 0 lo)).take (HT.N4 xs.length xs.length hi-HT.N4 xs.length 0 lo)
def E8.cut(h:E8 e m M T)(lo a:Option Int):E8 e m (sR M lo a) (cutD T lo a):=by delta sR cutD;rw[h.length];exact(h.drop _).take _
def a1v(K:B1):V->Option Int->Option Int->Hp->VK->Prop:=λx lo hi H Q=>∃a xs,x=.ref a/\Y7 K H a xs/\(sR xs lo hi=xs->Q (.ref a) H)/\∀p,H p=J->Q (.ref p) (upd H p (.tup (sR xs lo hi)))
def Yv:tJ c (a1v c.K):=by
 intro d s u H x v p q o j w Q I g m k l h;obtain⟨a,b,rfl,i,t,q2⟩:=h;by_cases e:HT.N4 b.length 0 o=0/\HT.N4 b.length b.length j=b.length
 . cases g;obtain⟨f,r,n,y⟩:=I.tuple i;have X:f.toArray.size=b.length:=by rw[Z0];exact r.length.symm
   refine⟨"tuple",_,PyProof.Rows.slot_tuple_getitem.lookup,n.typeIs,?_⟩;refine Cz n m k l (by rw[X];exact e) ⟨.ref a,H,I,rfl,t ?_⟩
   delta sR;simp_all
 exact a1l d s u H (.ref a) v p q o j w Q I g m k l ⟨a,b,rfl,i,e,q2⟩
def rSl(K:B1):V->Option Int->Option Int->Hp->VK->Prop:=λx lo hi H Q=>a1v K x lo hi H Q\/a1x K x lo hi H Q
def a1o:tJ c (rSl c.K):=Yv.or Yw
def Io:l5->Option Int->Option Int->Option PV
 | .tuple l,lo,hi=>U (.dat (.tuple (cutD l lo hi)))
 | .list l,lo,hi=>U (.own (cutD l lo hi))
 |_,_,_=>J
def R3X(K:B1)(r:V->Option Int->Option Int->Hp->VK->Prop)(f:l5->Option Int->Option Int->Option PV):Prop:=
 ∀(O:List Addr) (va:As) (H:Hp) (x:V) (lo hi:Option Int) (d:l5) (pv:PV) (Q:VK),pq H va O->Dt K (C9 H va O) x d->f d lo hi=U pv->(∀v H',A5 H H'->RX K O va H H' v pv->Q v H')->r x lo hi H Q
def a5m:R3X e (rSl e) Io:=by
 intro O k H x h f d pv Q D j g q;cases j with
 |tup b c=>
  cases g;refine .inl ⟨_,_,rfl,G3.iF b,λK=>?_,λp a=>q _ _ (A5.new a) (tU D a (c.cut h f))⟩;have i:=c.cut h f;rw[K]at i;exact q _ H (A5.refl H) (Dt.tup b i)
 |lst b c=>
  cases g;exact .inr ⟨_,_,rfl,G3.seq b,λp a=>q _ _ (A5.new a) (lD a (c.cut h f))⟩
 |_=>exact nE g
def TOX(K:B1)(to:TO)(F:Ds->Option (Option Int)):Prop:=
 ∀(O:List Addr) (B6:Hp) (as:As) (σ:St) (H:Hp) (ds:Ds) (b:Option Int) (Q:Option Int->Hp->Prop),DS K O B6 as σ H ds->F ds=U b->(∀H',A5 H H'->Q b H')->to σ H Q
structure FR(X:Cx)(e:Option Expr)(to:TO)(F:Ds->Option (Option Int)):Prop where
 p:PO X e to
 t:TOX X.K to F
noncomputable def S5:Ds->Option (Option Int):=λ_=>U J
noncomputable def asI:l5->Option Int
 | .int i=>U i
 |_=>J
def M3(F:DV):Ds->Option (Option Int):=λds=>(F ds).bind λpv=>(asI pv.d).bind λi=>U (U i)
def SA:FR c J Ii S5:=⟨Zd,by intro O a e f H d b Q S X q;cases X;exact q H (A5.refl H)⟩
def Sy{fr:Bool}(h:PX c fr o g D):FR c (U o) (Vl g) (M3 D):=⟨Zc h.p,by
 intro O X k l H f b Q S a q;obtain⟨pv,h1,a⟩:=A1 a;refine h.t O X k l H f pv _ S h1 λv e m j=>?_
 have d:=j.dt S.dm;generalize pv.d=z at d a;cases d with
 |int i=>cases a;exact⟨i,rfl,q e m⟩
 |_=>exact nE a⟩
noncomputable def bM(f:l5->Option Int->Option Int->Option PV)(F:DV)(Fl Fh:Ds->Option (Option Int)):DV:=λds=>(F ds).bind λx=>(Fl ds).bind λlo=>(Fh ds).bind λhi=>f x.d lo hi
def RP{r:V->Option Int->Option Int->Hp->VK->Prop}{f:l5->Option Int->Option Int->Option PV}{lo A:Option Expr}{z u:TO}{n F:Ds->Option (Option Int)}(N:tJ c r)(C:R3X c.K r f)(s:PX c I o g D)(y:FR c lo z n)(B:FR c A u F):
  PX c I (.Subscript o (.Slice lo A J p) Q) (tSl r g z u) (bM f D n F):=⟨SN N s.p y.p B.p,by
 intro O a k m H X pv K S b q;unfold bM at b;cases h1:D X with
 |none=>simp_all
 |some x=>
  cases h2:n X with
  |none=>rw[h1,h2]at b;exact nE b
  |some l=>
   cases h3:F X with
   |none=>rw[h1,h2,h3]at b;exact nE b
   |some h=>
    rw[h1,h2,h3]at b;refine s.t O a k m H X x _ S h1 λv L d t=>?_;refine y.t O a k m L X l _ (S.grow d) h2 λM i=>?_;refine B.t O a k m M X h _ ((S.grow d).grow i) h3 λG j=>?_;refine C O (cD I k) G v l h x.d pv K (((S.grow d).grow i).grow j).dm ((t.grow (i.trans j)).dt S.dm) b λw P E e=>?_
    exact q w P (((d.trans i).trans j).trans E) (e.back ((d.trans i).trans j))⟩
section
def d1(f:l5->Option PV):FV
 | [d]=>f d
 |_=>J
def iS.one(h:R1X e (λx=>m8 [x]) v5):iS e m8 (d1 v5):=by
 intro O c H g i pv Q D b a q;cases b with
 |nil=>exact nE a
 |cons K t=>
  cases t with
  |nil=>exact h O c H _ _ pv Q D K a q
  |cons _ _=>exact nE a
def RM(K:B1):List V->Hp->VK->Prop:=λxs H Q=>(∃p ys,xs=[.ref p]/\(N6 K H p ys\/Y7 K H p ys)/\Q (.int ys.length) H)\/(∃z,xs=[.str z]/\z.length<=D6/\Q (.int z.length) H)
def OS:ag c (.builtin "len") (RM c.K):=FF.or FE
def T6:FV:=d1 fun
 | .list l=>U (.dat (.int (l.length:Nat)))
 | .tuple l=>U (.dat (.int (l.length:Nat)))
 | .str z=>if z.length<=1000000 then U (.dat (.int (z.length:Nat)))else J
 |_=>J
def E8.inv1(h:E8 e m M [d6]):∃x,M=[x]/\Dt e m x d6:=by
 cases h with
 |cons h t=>cases t;exact⟨_,rfl,h⟩
def a3N:iS e (RM e) T6:=.one λO g H x i pv Q D b a q=>by
 cases b with
 |lst c d=>cases a;exact .inl ⟨_,_,rfl,.inl (G3.seq c),q _ H (A5.refl H) (by rw[d.length];exact Dt.int _)⟩
 |tup c d=>cases a;exact .inl ⟨_,_,rfl,.inr (G3.iF c),q _ H (A5.refl H) (by rw[d.length];exact Dt.int _)⟩
 |str=>
  obtain⟨K,a⟩:=K8 a;cases a;exact .inr ⟨_,rfl,qj K,q _ H (A5.refl H) (Dt.int _)⟩
 |_=>exact nE a
def qf:FV:=d1 fun
 | .int i=>U (.dat (.int (if i<0 then -i else i)))
 |_=>J
def a3S:iS e (λxs H Q=>∃i,xs=[.int i]/\Q (.int (if i<0 then -i else i)) H) qf:=.one λO c H x d pv Q D b a q=>by
 cases b with
 |int=>cases a;exact⟨_,rfl,q _ H (A5.refl H) (Dt.int _)⟩
 |_=>exact nE a
def cV:FV:=d1 fun
 | .list l=>U (.dat (.tuple l))
 | .tuple l=>U (.dat (.tuple l))
 |_=>J
def Yb:iS e (λxs H Q=>∃p ys,xs=[.ref p]/\((N6 e H p ys/\∀l,H l=J->Q (.ref l) (upd H l (.tup ys)))\/(Y7 e H p ys/\Q (.ref p) H))) cV:=.one λO f H x g pv Q D d a q=>by
 cases d with
 |lst b c=>cases a;exact⟨_,_,rfl,.inl ⟨G3.seq b,λp K=>q _ _ (A5.new K) (tU D K c)⟩⟩
 |tup b c=>cases a;exact⟨_,_,rfl,.inr ⟨G3.iF b,q _ H (A5.refl H) (Dt.tup b c)⟩⟩
 |_=>exact nE a
def kO:FV:=d1 fun
 | .list l=>U (.own l)
 | .tuple l=>U (.own l)
 |_=>J
def a0H:iS e (λxs H Q=>∃p ys,xs=[.ref p]/\(N6 e H p ys\/Y7 e H p ys)/\∀l,H l=J->Q (.ref l) (upd H l (.lst ys))) kO:=.one λO f H x g pv Q D K b q=>by
 cases K with
 |lst c d=>cases b;exact⟨_,_,rfl,.inl (G3.seq c),λp a=>q _ _ (A5.new a) (lD a d)⟩
 |tup c d=>cases b;exact⟨_,_,rfl,.inr (G3.iF c),λp a=>q _ _ (A5.new a) (lD a d)⟩
 |_=>exact nE b
def intD:FV
 | [.int i]=>U (.dat (.int i))
 | [.bool k]=>U (.dat (.int (if k then 1 else 0)))
 |_=>J
def a3O:iS e (λxs H Q=>(∃i,xs=[.int i]/\Q (.int i) H)\/∃k,xs=[.bl k]/\Q (.int (if k then 1 else 0)) H) intD:=by
 intro O c H xs d pv Q D b a q;unfold intD at a;split at a;cases a;obtain⟨x,rfl,h⟩:=b.inv1;cases h;exact .inl ⟨_,rfl,q _ H (A5.refl H) (Dt.int _)⟩;cases a;obtain⟨x,rfl,h⟩:=b.inv1;cases h;exact .inr ⟨_,rfl,q _ H (A5.refl H) (Dt.int _)⟩;exact nE a
def ke:FV
 | [.int i]=>if i.natAbs.log2<1920 then U (.dat (.str (aO i)))else J
 |_=>J
set_option tactic.hygienic true in
def Vf:iS e (λxs H Q=>∃i,xs=[.int i]/\i.natAbs.log2<1920/\Q (.str (aO i)) H) ke:=by
 intro O d H xs K pv Q D c a q;unfold ke at a;split at a
 . split at a;rename_i b;cases a;obtain⟨x,rfl,h⟩:=c.inv1;cases h;exact⟨_,rfl,b,q _ H (A5.refl H) (Dt.str _)⟩;exact nE a
 exact nE a
noncomputable def boolsOf:List l5->Option (List Bool)
 | []=>U []
 | .bool b::r=>(boolsOf r).bind λl=>U (b::l)
 |_=>J
def sT:FV
 | [.list l]=>(boolsOf l).bind λbs=>U (.dat (.bool (bs.all id)))
 |_=>J
theorem E8.bools{K:B1}{H:Hp}:∀{l:List l5}{xs:List V}{bs:List Bool},E8 K H xs l->boolsOf l=U bs->xs=bs.map V.bl
 | [],_,_,h,e=>by cases e;cases h;rfl
 |d::r,xs,bs,h,e=>by
  cases h with
  |cons h t=>
   cases h with
   |bl b=>
    have a:=e;obtain⟨l,h1,a⟩:=A1 a;cases a;rw[t.bools h1];rfl
   |_=>exact nE e
set_option tactic.hygienic true in
def a3Q{A:T8}(c:A.handled=J):iS e (λxs H Q=>∃(p:Addr) (bs:List Bool),xs=[.ref p]/\N6 e H p (bs.map V.bl)/\A.handled=J/\Q (.bl (bs.all id)) H) sT:=by
 intro O g H xs i pv Q D b a q;unfold sT at a;split at a
 . rename_i l;obtain⟨bs,h1,a⟩:=A1 a;cases a;obtain⟨x,rfl,h⟩:=b.inv1;cases h with
   |lst d f=>
    have K:=f.bools h1;subst K;exact⟨_,bs,rfl,G3.seq d,c,q _ H (A5.refl H) (Dt.bl _)⟩
 exact nE a
def yY(n:String)(F:DV):DV:=λds=>(F ds).bind λx=>if CG x.d=Uf then J else U (.dat (.bool (EI x.d n)))
def a4e(K:B1):List V->Hp->VK->Prop:=λxs H Q=>∃x n d,xs=[x,.ty n]/\Dt K H x d/\CG d=U'/\xI n/\Q (.bl (EI d n)) H
set_option tactic.hygienic true in
def RY(kk:c.K=e)(A:xI m7)(m:Gl c u)(C:c.mg u=J)(B:ig u=U (.builtin "isinstance"))(h:PX c I o g D)(n:PE c E (tC (.ty m7)))(x:autoParam (u ≠ "__name__") lO)(i:autoParam (jY u) B0)(f:autoParam (gN c o [E]) B0)(j:autoParam (gN c E []) B0)(F:autoParam (pJ c Q [E]) B0):
  PX c I (.Call (.Name u p) [o,E] [] Q) (Ij (a4e e) (gw g (gw (tC (.ty m7)) rP))) (yY m7 D):=by
 subst kk;exact⟨DU UH m C B (cx h.p (cx n lG j) f) x i f F,by
  intro O b z r H l pv d S a q;obtain⟨w,h1,a⟩:=A1 a;split at a;exact nE a
  . rename_i k;cases a;refine h.t O b z r H l w _ S h1 λv y s X=>?_
    exact⟨v,m7,w.d,rfl,(X.dt S.dm).same G3,by simpa using k,A,q _ y s (Dt.bl _)⟩⟩
end
abbrev a4d(K:B1):List V->Hp->VK->Prop:=λxs H Q=>∃p ys,xs=[.ref p]/\((N6 K H p ys/\∀l,H l=J->Q (.ref l) (upd H l (.tup ys)))\/(Y7 K H p ys/\Q (.ref p) H))
abbrev a1z(K:B1):List V->Hp->VK->Prop:=λxs H Q=>∃p ys,xs=[.ref p]/\(N6 K H p ys\/Y7 K H p ys)/\∀l,H l=J->Q (.ref l) (upd H l (.lst ys))
def Kg(K:B1):List V->Hp->VK->Prop:=λxs H Q=>∃(p:Addr) (bs:List Bool),xs=[.ref p]/\N6 K H p (bs.map V.bl)/\Q (.bl (bs.all id)) H
def OV(d:c.A.handled=J):ag c (.builtin "all") (Kg c.K):=λa s f H b X Q I r h=>by obtain⟨p,bs,e,g,q⟩:=h;exact UI a s f H b X Q I r ⟨p,bs,e,g,d,q⟩
def a0P:iS e (Kg e) sT:=by intro O d H b f pv Q D a c q;obtain⟨p,bs,K,g,_,z⟩:=a3Q (A:=lQ) rfl O d H b f pv Q D a c q;exact⟨p,bs,K,g,z⟩
noncomputable def sA(i:Nat)(ds:Ds):Nat:=match ds[i]? with
 |some (U (.dat (.int k)))=>k.natAbs+1
 |_=>0
def Yt(h:N6 e m t M):N6 e (C9 m [] []) t M:=by assumption
def Uk:∀ns:List Int,E8 e m (ns.map V.int) (ns.map lV):=by
 intro l_;induction l_ with
 |nil=>
  exact .nil
 |cons n r ih_=>
  exact .cons (.int n) (ih_)
def a0n(r:RX e [] [] m y L (.dat (.bool Uf))):L=.bl Uf:=by cases r;rfl
noncomputable def Z9(o:Option Out)(G:DO):Option Out:=o.bind λo=>match o with
 | .next ds'=>G ds'
 |o=>U o
def qD(a G2:DO)(ds:Ds):w4 a G2 ds=Z9 (a ds) G2:=rfl
def cF(ds:Ds)(G:DO):Z9 (U (.next ds)) G=G ds:=rfl
def DA(pv:PV)(G:DO):Z9 (U (.ret pv)) G=U (.ret pv):=rfl
def DC(ds:Ds)(G:DO):Z9 (U (.brk ds)) G=U (.brk ds):=rfl
def BL(ds:Ds)(G:DO):Z9 (U (.cont ds)) G=U (.cont ds):=rfl
def FI(b:Bool):FJ (.bool b)=U b:=rfl
def JA(i:Int):asI (.int i)=U i:=rfl
def yl(l:List l5):dq (.list l)=U l:=rfl
def BK(l:List l5):dq (.tuple l)=U l:=rfl
def DX(pv:PV):Bb (.ret pv)=U pv:=rfl
def BS(ds:Ds):Bb (.next ds)=sd .none:=rfl
noncomputable def KJ(o:Option PV)(i:Nat)(ds:Ds):Option Out:=o.bind λpv=>U (.next (ds.set i (U (.dat pv.d))))
def EU(i:Nat)(F:DV)(ds:Ds):A0 i F ds=KJ (F ds) i ds:=rfl
def fZ(pv:PV)(i:Nat)(ds:Ds):KJ (U pv) i ds=U (.next (ds.set i (sd pv.d))):=rfl
noncomputable def TN(o:Option PV)(i:Nat)(ds:Ds):Option Out:=o.bind λpv=>U (.next (ds.set i (U pv)))
def wq(i:Nat)(F:DV)(ds:Ds):av i F ds=TN (F ds) i ds:=rfl
def pE(pv:PV)(i:Nat)(ds:Ds):TN (U pv) i ds=U (.next (ds.set i (U pv))):=rfl
noncomputable def UQ(o:Option PV)(i:Nat)(ds:Ds):Option Out:=o.bind λpv=>match ds[i]? with
 |some (U (.own l))=>if l.length<1000000 then U (.next (ds.set i (U (.own (l++[pv.d])))))else J
 |_=>J
def iO(i:Nat)(F:DV)(ds:Ds):bK i F ds=UQ (F ds) i ds:=rfl
def P8{i:Nat}{ds:Ds}{l:List l5}(pv:PV)(h:ds[i]?=U (U (.own l)))(a:l.length<1000000):UQ (U pv) i ds=U (.next (ds.set i (U (.own (l++[pv.d]))))):=by
 delta UQ
 simp_all
noncomputable abbrev iD(n:Int):Option PV:=U (.dat (.int n))
def CN(x:c8)(l:List c8):T7 (x::l) 0=U x:=by delta T7 uA;rw[A3 A9,A3 G9];rfl
def gC{l:List c8}{n:Nat}(a:a9=(n:Int))(h:n<l.length):T7 l a9=l[n]?:=by subst a;delta T7 uA;rw[A3 qc,A3 qc];simp
def XR(x y:c8)(l:List c8):T7 (x::y::l) 1=U y:=gC rfl G9
def XQ(x y z:c8)(l:List c8):T7 (x::y::z::l) 2=U z:=gC rfl G9
def XO(x y z u:c8)(l:List c8):T7 (x::y::z::u::l) 3=U u:=gC rfl G9
def XN(x y z u v:c8)(l:List c8):T7 (x::y::z::u::v::l) 4=U v:=gC rfl G9
def XM(x y z u v w:c8)(l:List c8):T7 (x::y::z::u::v::w::l) 5=U w:=gC rfl G9
def XJ(x y z u v w a:c8)(l:List c8):T7 (x::y::z::u::v::w::a::l) 6=U a:=gC rfl G9
def FL(i j:Int):C2 (.int i) (.int j)=sd (.int (i+j)):=rfl
def Dl(i j:Int):iE (.int i) (.int j)=sd (.int (i-j)):=rfl
def J8{j:Int}(h:Bt 60000 a9)(k:Bt 60000 j):M9 (.int a9) (.int j)=sd (.int (a9*j)):=by
 delta M9 xD
 simp_all
def O6{j:Int}(h:j≠0)(k:Bt 8000 j):aH (.int a9) (.int j)=sd (.int (a9.fdiv j)):=by
 delta aH xD
 simp_all
def E3{j:Int}(h:j≠0):K7 (.int a9) (.int j)=sd (.int (a9.fmod j)):=A3 h
def SE{j:Int}(h:xV a9 j):Kl (.int a9) (.int j)=sd (.int (a9^j.toNat)):=A3 h
def IU(i j:Int):gZ (.int i) (.int j)=sd (.bool (decide (i<j))):=rfl
def IY(i j:Int):wM (.int i) (.int j)=sd (.bool (decide (i<=j))):=rfl
def Jg(i j:Int):hU (.int i) (.int j)=sd (.bool (decide (j<i))):=rfl
def Jh(i j:Int):wQ (.int i) (.int j)=sd (.bool (decide (j<=i))):=rfl
def a0k(i j:Str):cM (.str i) (.str j)=decide (i=j):=by rfl
def Fn(i j:Int):D9 (.int i) (.int j)=sd (.bool (decide (i=j))):=by rfl
def Ej(i j:Int):X5 (.int i) (.int j)=sd (.bool (!decide (i=j))):=by rfl
def Fm(i j:Str):D9 (.str i) (.str j)=sd (.bool (decide (i=j))):=by rfl
def Ei(i j:Str):X5 (.str i) (.str j)=sd (.bool (!decide (i=j))):=by rfl
def Bf(l:List l5)(i:Int):w5 (.tuple l) (.int i)=(T7 l i).bind λd=>sd d:=rfl
def kx(l:List l5)(i:Int):w5 (.list l) (.int i)=(T7 l i).bind λd=>sd d:=rfl
def FP(i:Int):qf [.int i]=sd (.int (if i<0 then -i else i)):=rfl
def Eg(i:Int):sy (.int i)=sd (.int (-i)):=rfl
def Cb(l:List l5):T6 [.list l]=sd (.int (l.length:Nat)):=rfl
def Ew(l:List l5):T6 [.tuple l]=sd (.int (l.length:Nat)):=rfl
def tP(l:List l5):cV [.list l]=sd (.tuple l):=rfl
def Dc(l:List l5):cV [.tuple l]=sd (.tuple l):=rfl
def yC(l:List l5):kO [.list l]=U (.own l):=rfl
def BZ(l:List l5):kO [.tuple l]=U (.own l):=rfl
def iH{m:List l5}(h:T.length+m.length<=1000000):C2 (.tuple T) (.tuple m)=sd (.tuple (T++m)):=A3 h
def uQ{m:List l5}(h:T.length+m.length<=1000000):C2 (.list T) (.list m)=U (.own (T++m)):=A3 h
def bq(h:u.length+i6.length<=1000000):C2 (.str u) (.str i6)=sd (.str (u++i6)):=A3 h
def Im(l:List l5)(lo a:Option Int):Io (.tuple l) lo a=sd (.tuple (cutD l lo a)):=rfl
def Dr(l:List l5)(lo a:Option Int):Io (.list l) lo a=U (.own (cutD l lo a)):=rfl
def xC(d:l5):cj d .none=sd (.bool (M8 d)):=rfl
def wO(d:l5):qC d .none=sd (.bool (!M8 d)):=rfl
def Y2(h : -(4611686018427387904)<=a9/\a9<4611686018427387904):aq [.int a9]=U (fV 0 a9.toNat):=@if_pos _ (QB _) h _ _ _
def xP{f:Nat->l5}(h:∀i,i<N->∃pv,D (sd (.int (a9+(i:Nat)))::G)=U pv/\pv.d=f i):O2 F7 F4 D G (fV a9 N)=U ((R8 N).map f):=by
 have a:∀(l:List Nat),(∀i∈l,i<N)->O2 F7 F4 D G (l.map λk=>lV (a9+(k:Nat)))=U (l.map f):=by
  intro l;induction l with
  |nil=>intro _;rfl
  |cons i r o=>
   intro b;obtain⟨pv,g,c⟩:=h i (b i F5);rw[D8];unfold O2;simp only[F7,S7,F4,iQ,kB,fO,bY];rw[g];rw[o (λj m=>b j (F8 _ m))];simp[c]
 exact a _ (λi e=>mem_range.mp e)
def bL{gt:l5->DD}{G:DO}{lo:Int}{n:Nat}(I:Nat->Ds->Prop){ds:Ds}(l:I 0 ds)(hs:∀i ds,i<n->I i ds->∃ds1 ds2,gt (.int (lo+(i:Nat))) ds=U ds1/\(G ds1=U (.next ds2)\/G ds1=U (.cont ds2))/\I (i+1) ds2):∃ds',J9 gt G (fV lo n) ds=U (.next ds')/\I n ds':=by
 have c:∀(k i) ds,i+k=n->I i ds->∃ds',J9 gt G ((qZ i k).map λk=>lV (lo+(k:Nat))) ds=U (.next ds')/\I n ds':=by
  intro k;induction k with
  |zero=>
   intro i ds e b;have d:i=n:=by lia
   subst d;exact⟨ds,rfl,b⟩
  |succ k o=>
   intro i ds e b;obtain⟨ds1,ds2,h,a,g⟩:=hs i ds dC b;rw[GJ,D8];unfold J9;rw[h];simp only[S7];obtain⟨ds',j,f⟩:=o (i+1) ds2 dC g;refine⟨ds',?_,f⟩;rcases a with a|a<;>rw[a]<;>exact j
 obtain⟨ds',m,d⟩:=c n 0 ds (Nat.add_comm _ _) l;refine⟨ds',?_,d⟩;unfold fV;rw[List.range_eq_range'];exact m
def nY{gt:l5->DD}{G:DO}{items:List l5}(I:Nat->Ds->Prop){ds:Ds}(m:I 0 ds)(hs:∀i d ds,items[i]?=U d->I i ds->∃ds1 ds2,gt d ds=U ds1/\(G ds1=U (.next ds2)\/G ds1=U (.cont ds2))/\I (i+1) ds2):∃ds',J9 gt G items ds=U (.next ds')/\I items.length ds':=by
 have g:∀r i ds,items.drop i=r->i<=items.length->I i ds->∃ds',J9 gt G r ds=U (.next ds')/\I items.length ds':=by
  intro r;induction r with
  |nil=>
   intro i ds e n f;have:=List.drop_eq_nil_iff.mp e;have o:i=items.length:=by lia
   subst o;exact⟨ds,rfl,f⟩
  |cons x r p=>
   intro i ds e n f;have a:i<items.length:=by
    by_cases c:i<items.length;exact c;rw[Qv (Aj A2)]at e;cases e
   rw[Ht a]at e;injection e with ea eb
   obtain⟨ds1,ds2,j,b,h⟩:=hs i x ds (by rw[M6 a,ea]) f
   unfold J9;rw[j];simp only[S7];obtain⟨ds',k,l⟩:=p (i+1) ds2 eb A2 h;refine⟨ds',?_,l⟩;rcases b with b|b<;>rw[b]<;>exact k
 exact g items 0 ds rfl (jx _) m
def tN{ds:Ds}(h:c5 ds=U U'):W6 c5 c9 (N+1) ds=U (.next ds):=by unfold W6;rw[h];rfl
def HF{ds ds2:Ds}(h:c5 ds=U Uf)(k:c9 ds=U (.next ds2)):W6 c5 c9 (N+1) ds=W6 c5 c9 N ds2:=by rw[W6,h];rw[k];rfl
def BC{Fc:DB}{G:DO}(I:Ds->Prop)(μ:Ds->Nat)(hs:∀ds,I ds->Fc ds=U U'\/(Fc ds=U Uf/\∃ds2,G ds=U (.next ds2)/\I ds2/\μ ds2<μ ds)):
  ∀(n:Nat) (ds:Ds),I ds->μ ds<n->∃ds',W6 Fc G n ds=U (.next ds')/\I ds'/\Fc ds'=U U':=by
 intro n;induction n with
 |zero=>intro ds _ h;exact a4O
 |succ n c=>
  intro ds a d;rcases hs ds a with h|⟨h,ds2,k,b,f⟩
  exact⟨ds,tN h,a,h⟩;obtain⟨ds',e,r⟩:=c ds2 b dC;exact⟨ds',by rw[HF h k];exact e,r⟩
def Bt.ej(b : -4611686018427387904<a9)(c:a9<4611686018427387904)(a:autoParam (62<=N) cK):Bt N a9:=(Bt.small qc qc).mono a
def Bt.lit(a:autoParam (-4611686018427387904<a9) cK)(c:autoParam (a9<4611686018427387904) cK)(b:autoParam (62<=N) cK):Bt N a9:=Bt.ej a c b
noncomputable def kP(i:Nat)(f:List l5->List l5):DO:=λds=>match ds[i]? with
 |some (U (.own l))=>U (.next (ds.set i (U (.own (f l)))))
 |_=>J
section
set_option tactic.hygienic true in
def MK(i:Nat)(m:PE c o (O0 i))(b:autoParam (HC c o "clear") B0)(X:autoParam ((j4.endLine==Q.line)=Uf) B0)(hs:autoParam (bc (.Call (.Attribute o "clear" j4) [] [] Q) J p.line c.env=pure U') B0):
  N7 c (.Expr (.Call (.Attribute o "clear" j4) [] [] Q) p) (pw (Rv c.K "list" Mz (O0 i))) (kP i λ_=>[]):=
 ⟨kh (MV rF PySem.F.slot_list_clear PySem.F.type_list_clear Tr m b X) hs,by
 intro O e n k H r D o S h q;unfold kP at h;split at h;rename_i l g;cases h;obtain⟨a,j,f,s,d,t⟩:=S.slot i _ g;exact⟨_,f,.inl ⟨rfl,j,N6.of d⟩,a,j,rfl,rfl,d,q n k _ (S.turn g f .nil)⟩
 . exact nE h⟩
set_option tactic.hygienic true in
def YU(i:Nat)(m:PE c o (O0 i))(b:autoParam (HC c o "reverse") B0)(X:autoParam ((j4.endLine==Q.line)=Uf) B0)(hs:autoParam (bc (.Call (.Attribute o "reverse" j4) [] [] Q) J p.line c.env=pure U') B0):
  N7 c (.Expr (.Call (.Attribute o "reverse" j4) [] [] Q) p) (pw (Rv c.K "list" DJ (O0 i))) (kP i List.reverse):=
 ⟨kh (MV rF PySem.F.slot_list_reverse PySem.F.type_list_reverse Kw m b X) hs,by
 intro O e n k H r D o S h q;unfold kP at h;split at h;rename_i l g;cases h;obtain⟨a,j,f,s,d,t⟩:=S.slot i _ g;exact⟨_,f,.inl ⟨rfl,j,N6.of d⟩,a,j,rfl,rfl,d,q n k _ (S.turn g f t.reverse)⟩
 . exact nE h⟩
noncomputable def Bl(i:Nat)(F:DV):DO:=λds=>(F ds).bind λpv=>match pv,ds[i]? with
 | .own m,U (U (.own l))=>if l.length+m.length<=1000000 then U (.next (ds.set i (U (.own (l++m)))))else J
 |_,_=>J
set_option tactic.hygienic true in
def YW(i:Nat)(L:PE c o (O0 i))(u:PX c Uf E g D)(bm:autoParam (HB c o "extend" j4 E [] Q) qM)(hs:autoParam (bc (.Call (.Attribute o "extend" j4) [E] [] Q) J p.line c.env=pure U') B0):
  N7 c (.Expr (.Call (.Attribute o "extend" j4) [E] [] Q) p) (pw (Di c.K "list" Iz (O0 i) (gw g rP))) (Bl i D):=
 ⟨kh (yt rF PySem.F.slot_list_extend PySem.F.type_list_extend Nw L (cx u.p lG bm.s) bm) hs,by
 intro O e B s H y F o S h q;obtain⟨pv,e1,h⟩:=A1 h;split at h
 . rename_i m l G;obtain⟨R,h⟩:=K8 h;cases h;obtain⟨a,A,C,T,r,w⟩:=S.slot i _ G;refine⟨_,C,.inl ⟨rfl,A,N6.of r⟩,?_⟩;refine u.t O e B s H y _ _ S e1 λv P n I=>?_;obtain⟨b,N,rfl,d,M,X⟩:=I;have:=w.length;have:=X.length;refine⟨a,b,A,N,rfl,rfl,n _ _ r,M,qj qc,q B s _ ?_⟩;exact(S.grow n).turn G C ((w.same (S3 n)).append (X.same (Z3 (A5.refl _) λb z=>F8 _ z)))
 . exact nE h⟩
noncomputable def ES(gt:l5->DD)(F:DV):DO:=λds=>(F ds).bind λpv=>(gt pv.d ds).bind λds'=>U (.next ds')
def YS(n:PX c Uf o g D)(s:PG c E k6)(k:Pc c.K k6 m9)(hs:autoParam (Gs [E] o p.line c.env=pure U') B0)(x:autoParam (Gr [E] o c.env=pure J) B0)(z:autoParam ((lX [E] c.env).map (·.2)=[assign E c.env]) B0):N7 c (.Assign [E] o p) (nI g k6) (ES m9 D):=⟨a1S n.p s hs x z,by
 intro O a r m H X F e S h q;obtain⟨pv,e1,h⟩:=A1 h;obtain⟨j,e2,h⟩:=A1 h;cases h;refine n.t O a r m H X pv _ S e1 λv l u y=>?_
 exact k O a r m l X j v pv.d _ (S.grow u) (y.dt S.dm) e2 λf i w=>q f i l w⟩
end
noncomputable def tF:l5->l5->Bool
 | .none,.none=>Uf
 | .bool a,.bool b=>a==b
 | .bool a,.int b=>(if a then 1 else 0)==b
 | .int a,.bool b=>a==(if b then 1 else 0)
 | .int a,.int b=>a==b
 | .str a,.str b=>a==b
 |_,_=>U'
theorem Dt.dw{K:B1}{H:Hp}{x:V}{d:l5}(h:Dt K H x d)(f:Flat d=Uf):L2.dw x=Uf:=by
 cases h with
 |non=>rfl
 |bl _=>rfl
 |int _=>rfl
 |str _=>rfl
 |tup _ _=>exact nT f
 |lst _ _=>exact nT f
 |exc _ _ _ _ _=>exact nT f
 |fn _=>exact nT f
 |ins _ _ _ _=>exact nT f
 |dct _ _ _=>exact nT f
 |key _=>exact nT f
 |dtt _ _ _ _=>exact nT f
theorem Dt.tF{K:B1}{H:Hp}{x y:V}{d e:l5}(h:Dt K H x d)(k:Dt K H y e)(f:Flat d=Uf)(g:Flat e=Uf):zd x y=L2.tF d e:=by
 cases h with
 |tup _ _=>exact nT f
 |lst _ _=>exact nT f
 |exc _ _ _ _ _=>exact nT f
 |fn _=>exact nT f
 |ins _ _ _ _=>exact nT f
 |dct _ _ _=>exact nT f
 |key _=>exact nT f
 |dtt _ _ _ _=>exact nT f
 |non=>cases k with
  |tup _ _=>exact nT g
  |lst _ _=>exact nT g
  |exc _ _ _ _ _=>exact nT g
  |fn _=>exact nT g
  |ins _ _ _ _=>exact nT g
  |dct _ _ _=>exact nT g
  |key _=>exact nT g
  |dtt _ _ _ _=>exact nT g
  |_=>rfl
 |bl _=>cases k with
  |tup _ _=>exact nT g
  |lst _ _=>exact nT g
  |exc _ _ _ _ _=>exact nT g
  |fn _=>exact nT g
  |ins _ _ _ _=>exact nT g
  |dct _ _ _=>exact nT g
  |key _=>exact nT g
  |dtt _ _ _ _=>exact nT g
  |_=>rfl
 |int _=>cases k with
  |tup _ _=>exact nT g
  |lst _ _=>exact nT g
  |exc _ _ _ _ _=>exact nT g
  |fn _=>exact nT g
  |ins _ _ _ _=>exact nT g
  |dct _ _ _=>exact nT g
  |key _=>exact nT g
  |dtt _ _ _ _=>exact nT g
  |_=>rfl
 |str _=>cases k with
  |tup _ _=>exact nT g
  |lst _ _=>exact nT g
  |exc _ _ _ _ _=>exact nT g
  |fn _=>exact nT g
  |ins _ _ _ _=>exact nT g
  |dct _ _ _=>exact nT g
  |key _=>exact nT g
  |dtt _ _ _ _=>exact nT g
  |_=>rfl
theorem E8.yL{K:B1}{H:Hp}{x:V}{d:l5}(h:Dt K H x d)(f:Flat d=Uf):∀{xs:List V}{l:List l5},E8 K H xs l->l.all Flat=Uf->xs.all dw=Uf/\L2.yL x xs=l.any (λy=>L2.tF y d)
 |_,_,.nil,_=>⟨rfl,rfl⟩
 |_,_,.cons k t,g=>by
  rw[fN,dG]at g;obtain⟨b,a⟩:=E8.yL h f t g.2;refine⟨by rw[fN,k.dw g.1,b];rfl,?_⟩;unfold L2.yL at a⊢;rw[gn,gn,a,k.tF h g.1 f]
def inD:l5->l5->Option PV:=λd e=>(dq e).bind λl=>if Flat d=Uf/\l.all Flat=Uf then U (.dat (.bool (l.any λy=>tF y d)))else J
def bu:l5->l5->Option PV:=λd e=>(dq e).bind λl=>if Flat d=Uf/\l.all Flat=Uf then U (.dat (.bool (!l.any λy=>tF y d)))else J
def Jb{y:V}{K:l5}(b:Dt e (C9 m q O) L d6)(j:Dt e (C9 m q O) y K)(g:dq K=U T)(a:Flat d6=Uf/\T.all Flat=Uf):
  ∃p xs,y=.ref p/\(N6 e m p xs\/Y7 e m p xs)/\dw L=Uf/\xs.all dw=Uf/\yL L xs=T.any (λy=>tF y d6):=by
 cases j with
 |lst i f=>
  cases g;obtain⟨h,c⟩:=E8.yL b a.1 f a.2;exact⟨_,_,rfl,.inl (G3.seq i),b.dw a.1,h,c⟩
 |tup i f=>
  cases g;obtain⟨h,c⟩:=E8.yL b a.1 f a.2;exact⟨_,_,rfl,.inr (G3.iF i),b.dw a.1,h,c⟩
 |_=>exact nE g
def a5n:Y0 e (My e U') inD:=by intro O n H x y d K pv Q D c h a q;obtain⟨l,hl,a⟩:=A1 a;obtain⟨k,a⟩:=K8 a;cases a;obtain⟨p,m,f,i,b,j,g⟩:=Jb c h hl k;refine⟨p,m,f,i,b,j,q _ H (A5.refl H) ?_⟩;rw[g];exact Dt.bl _
def Yd:Y0 e (My e Uf) bu:=by intro O n H x y d K pv Q D c h a q;obtain⟨l,hl,a⟩:=A1 a;obtain⟨k,a⟩:=K8 a;cases a;obtain⟨p,m,f,i,b,j,g⟩:=Jb c h hl k;refine⟨p,m,f,i,b,j,q _ H (A5.refl H) ?_⟩;rw[g];exact Dt.bl _
def Bp(i:Nat)(F:DV):DV:=λds=>match ds[i]? with
 |some (U (.dat d))=>(F ds).bind λk=>w5 d k.d
 |some (U (.own l))=>(F ds).bind λk=>w5 (.list l) k.d
 |_=>J
def OC(i:Nat):DV:=λds=>match ds[i]? with
 |some (U (.dat d))=>kO [d]
 |some (U (.own l))=>kO [.list l]
 |_=>J
noncomputable def intsOf:List l5->Option (List Int)
 | []=>U []
 | .int i::r=>(intsOf r).bind λl=>U (i::l)
 |_=>J
def Dk:FV:=d1 fun
 | .list l=>(intsOf l).bind λis=>U (.dat (.int is.sum))
 |_=>J
noncomputable def Y6:Int->List l5->List l5
 |_,[]=>[]
 |k,d::r=>.tuple [.int k,d]::Y6 (k+1) r
def sO:List l5->Option (List l5)
 | [d]=>(dq d).bind λl=>U (Y6 0 l)
 |_=>J
def Fy(a b:Prop)[Decidable a][Decidable b]:(if a then U (PV.dat (.bool (decide b)))else U (PV.dat (.bool U')))=U (PV.dat (.bool (decide (a/\b)))):=by
 by_cases h:a;rw[A3 h];simp[h];rw[A4 h];simp[h]
def EL(i:Int):intD [.int i]=sd (.int i):=rfl
def Ce(b:Bool):intD [.bool b]=sd (.int (if b=Uf then 1 else 0)):=rfl
def BI(l:List l5):Dk [.list l]=(intsOf l).bind λis=>sd (.int is.sum):=rfl
def Cm(d:l5):sO [d]=(dq d).bind λl=>U (Y6 0 l):=rfl
def EX(gt:l5->DD)(G:DO)(ds:Ds):J9 gt G [] ds=U (.next ds):=rfl
def Z7{gt:l5->DD}{G:DO}{d:l5}{r:List l5}{ds ds1 ds2:Ds}(b:gt d ds=U ds1)(a:G ds1=U (.next ds2)):J9 gt G (d::r) ds=J9 gt G r ds2:=by
 rw[J9,b]
 simp_all
def comp_map{g f:c8->l5}{Fe:DV}{ds:Ds}:∀{l:List c8},(∀x∈l,∃pv,Fe (sd (g x)::ds)=U pv/\pv.d=f x)->O2 F7 F4 Fe ds (l.map g)=U (l.map f):=by
 intro l_;induction l_ with
 |nil=>
  intro _;exact rfl
 |cons x r ih_=>
  intro h;obtain⟨pv,e,c⟩:=h x F5;rw[D8];unfold O2;simp only[F7,S7,F4,iQ,kB,fO,bY];rw[e];rw[ih_ (λy b=>h y (F8 _ b))];simp[c]
def ints_map(f:c8->Int):∀l:List c8,intsOf (l.map λx=>.int (f x))=U (l.map f):=by
 intro l_;induction l_ with
 |nil=>
  exact rfl
 |cons x r ih_=>
  rw[D8,intsOf,ih_];rfl
section
set_option tactic.hygienic true in
def YG{K':B1}(kk:c.K=K')(i:Nat)(b:PE c o (O0 i))(s:PX c I E g D)(hs:autoParam (qN E) By):PX c I (.Subscript o E p) (qi (Iy K') (O0 i) g) (Bp i D):=by
 subst kk;exact⟨CF yH b s.p hs,by
  intro O f w A H T pv Q S X q;unfold Bp at X;split at X
  . rename_i d n;obtain⟨k,z,X⟩:=A1 X;obtain⟨v,r,x⟩:=S.slot i _ n;refine⟨v,r,s.t O f w A H T k _ S z λy m e h=>?_⟩;exact a0J O (cD I w) m v y d k.d pv Q (S.grow e).dm (x.same (nk.trans (S3 e))) (h.dt S.dm) X λu t B P=>q u t (e.trans B) (P.back e)
  . rename_i l n;obtain⟨k,z,X⟩:=A1 X;obtain⟨a,M,r,B,L,x⟩:=S.slot i _ n;refine⟨_,r,s.t O f w A H T k _ S z λy m e h=>?_⟩
    have C:=h.dt S.dm;generalize k.d=R at X C;cases C with
    |int j=>
     have K:=X;obtain⟨d,F,K⟩:=A1 K;cases K;obtain⟨v,G,N⟩:=x.T7 F;exact .inl ⟨a,M,j,v,rfl,rfl,N6.of (e _ _ L),G,q v m e (Dt.same (nk.trans (S3 e)) N)⟩
    |_=>exact nE X
  . exact nE X⟩
def RZ(a:Gl c u)(h:c.mg u=U b5/\RelV L b5/\∀H,Dt c.K H L d6)(hd:autoParam (jY u) B0):PX c I (.Name u p) (tC L) (fC d6):=
 DP (Zl a h.1 h.2.1 hd) h.2.2
end
def UE(c:e.lookup t=U ⟨.type "tuple",k9,.seq e8 N,u4⟩)(hz:e8.size<=1000)(r:Vals M e8.toList)(hd:∀H,E8 e H M T)(H:Hp):Dt e H (.ref t) (.tuple T):=
 .tup (.inr ⟨_,e8,N,c,rfl,rfl,C3 hz (by rw[fw];decide),r⟩) (hd H)
theorem xW:∀{ns:List Int}{us:List w9},Vals (ns.map V.int) us->qQ us ns
 | [],_,.nil=>.nil
 |n::r,_,.cons h t=>by obtain⟨k,rfl⟩:=h;exact .cons n k (xW t)
def Kf(K:B1):List V->Hp->VK->Prop:=λxs H Q=>∃(p:Addr) (ns:List Int),xs=[.ref p]/\N6 K H p (ns.map V.int)/\Q (.int ns.sum) H
def OR(f:c.A.handled=J):ag c (.builtin "sum") (Kf c.K):=by
 intro d s t H z v Q I r h;obtain⟨p,a,rfl,hq,q⟩:=h;obtain⟨u,rfl,g⟩:=vals1 r;cases g;obtain⟨i,n,k,x⟩:=I.list hq;have X:=xW n;obtain⟨j,e⟩:=X.allInts.items;have b:=k.isList;rw[e]at b;have o:j.toList.map (·.1)=a:=by rw[<-nums_intItems,<-e];exact X.numsOf
 refine sum_intListG f b λy w l m=>?_;rw[preSum_eq,jq G9,o];exact⟨.int a.sum,H,I.kept m,⟨l,rfl⟩,q⟩
def E8.ints:∀{xs:List V}{is:List Int},E8 e m xs T->intsOf T=U is->xs=is.map V.int:=by
 induction T with
 |nil=>intro _ _ h K;cases h;cases K;rfl
 |cons d T i=>
  intro _ _ h K;cases h with
  |cons h t=>
  cases h with
  |int=>
   obtain⟨a,b,K⟩:=A1 K;cases K;rw[i t b];rfl
  |_=>exact nE K
def a0E:iS e (Kf e) Dk:=.one λO m H x k pv Q D g b q=>by
 cases g with
 |lst d h=>
  obtain⟨c,K,b⟩:=A1 b;cases b;cases h.ints K;exact⟨_,c,rfl,G3.seq d,q _ H (A5.refl H) (Dt.int _)⟩
 |_=>exact nE b
def MH(A:c.N.Nodup)(b:c.N[N]?=U u)(w:Loc c.env.scope u)(C:Pe c o g D)(X:autoParam (bc o (U (.Name u p)) Q.line c.env=pure Uf) aM)(y:autoParam (xh c u) hW):N7 c (.Assign [.Name u p] o Q) (nI g (cI N)) (A0 N D):=⟨C.s A b w X y,by intro O a E r H n F e S h q;obtain⟨pv,e1,h⟩:=A1 h;cases h;exact C.p.t O a E r H n pv _ S e1 λv D i z=>q _ _ _ ((S.grow i).set N (z.dt S.dm))⟩
def MG(A:c.N.Nodup)(b:c.N[N]?=U u)(w:Loc c.env.scope u)(C:Pe c o g D)(X:autoParam (bc o (U (.Name u p)) Q.line c.env=pure Uf) aM)(y:autoParam (xh c u) hW):N7 c (.Assign [.Name u p] o Q) (nI g (cI N)) (av N D):=⟨C.s A b w X y,by
 intro O a G r H n F e S h q;obtain⟨pv,e1,h⟩:=A1 h;cases h;refine C.p.t O a G r H n pv _ S e1 λv I w A=>?_
 obtain⟨E,i⟩:=S.store w N A;exact q _ _ _ i⟩
mutual
noncomputable def LF:l5->Bool
 | .none=>Uf
 | .bool _=>Uf
 | .int _=>Uf
 | .str _=>Uf
 | .tuple l=>pK l
 | .dict [(.list _,.none)]=>Uf
 |_=>U'
noncomputable def pK:List l5->Bool
 | []=>Uf
 |d::r=>LF d&&pK r
end
def YA(K:∀b o,m b=U o->¬Cell o->y b=U o)(h:Y7 e m t M):Y7 e y t M:=by
 rcases h with (h|⟨o,h⟩)|h
 exact .inl (.inl (K _ _ h (λz=>by rcases z with ⟨_,z⟩|⟨_,z⟩|⟨_,_,_,z⟩<;>cases z)));exact .inl (.inr ⟨o,K _ _ h (λz=>by rcases z with ⟨_,z⟩|⟨_,z⟩|⟨_,_,_,z⟩<;>cases z)⟩);exact .inr h
mutual
theorem Dt.lf{K:B1}{H H':Hp}(e:∀b o,H b=U o->¬Cell o->H' b=U o){x:V}{d:l5}(h:Dt K H x d)(f:LF d=Uf):Dt K H' x d:=by
 cases h with
 |non=>exact .non
 |bl b=>exact .bl b
 |int i=>exact .int i
 |str y=>exact .str y
 |tup a c=>exact .tup (YA e a) (E8.lf e c A2)
 |lst a c=>exact nT f
 |exc _ _ _ _ _=>exact nT f
 |fn _=>exact nT f
 |ins _ _ _ _=>exact nT f
 |dct _ _ _=>exact nT f
 |key h=>exact .key (e _ _ h (λz=>by rcases z with ⟨_,z⟩|⟨_,z⟩|⟨_,_,_,z⟩<;>cases z))
 |dtt _ _ _ _=>exact nT f
theorem E8.lf{K:B1}{H H':Hp}(e:∀b o,H b=U o->¬Cell o->H' b=U o){xs:List V}{ds:List l5}(h:E8 K H xs ds)(f:pK ds=Uf):E8 K H' xs ds:=by
 cases h with
 |nil=>exact .nil
 |cons a t=>
  rw[pK,dG]at f;exact .cons (Dt.lf e a f.1) (E8.lf e t f.2)
end
noncomputable def aa(f:l5->FV)(Fo:DV)(Fl:DL):DV:=λds=>(Fo ds).bind λo=>(Fl ds).bind λl=>f o.d l
def KO(l:List l5):M8 (.tuple l)=U':=rfl
def KR(l:List l5):M8 (.list l)=U':=rfl
def KS(i:Int):M8 (.int i)=U':=rfl
def KQ:M8 .none=Uf:=rfl
section
variable{H:Hp}
end
section
variable{H:Hp}
end
structure tq(K:B1)(nm:Str)(C:Addr):Prop where
 ns:bW K T1 nm=U (U (.ref C))
 cl:AK K C
def tq.eq(T:tq e u t)(h:bW e T1 u=U (U (.ref S))):S=t:=by
 rw[T.ns]at h;lia
noncomputable def dO(f:Str)(p:PF):List (Str×PF)->List (Str×PF)
 | []=>[(f,p)]
 |(g,x)::r=>if g=f then(g,p)::r else(g,x)::dO f p r
noncomputable def X1(f:Str):List (Str×PF)->Option PF
 | []=>J
 |(g,x)::r=>if g=f then U x else X1 f r
inductive xi(K:B1)(Hv H:Hp):V->PF->List Addr->Prop
 |dat {x d}:Dt K Hv x d->xi K Hv H x (.dat d) []
 |own {a xs l}:H a=U (.lst xs)->E8 K Hv xs l->xi K Hv H (.ref a) (.own l) [a]
 |dct {a kvs es}:H a=U (.dK kvs)->aP K Hv kvs es->xi K Hv H (.ref a) (.dct es) [a]
section
variable{K:B1}{H:Hp}
def R5.cons{Hv:Hp}{R:List Addr}{Rf:List Addr}{fv:List (Str×V)}{fs:List (Str×PF)}{y:V}{p:PF}{n:Str}(h:xi K Hv H y p Rf)(d:∀b∈Rf,b∉R)(t:R5 K Hv H fv fs R):R5 K Hv H ((n,y)::fv) ((n,p)::fs) (Rf++R):=by
 cases h with
 |dat h=>exact .dat h t
 |own c a=>exact .own c a (d _ F5) t
 |dct c a=>exact .dct c a (d _ F5) t
def R5.put{f:Str}(t:R5 K m H k i8 O)(h:xi K m H L k8 j5)(d:∀b∈j5,b∉O):∃R',R5 K m H (cW f L k) (dO f k8 i8) R'/\∀b∈R',b∈j5\/b∈O:=by
 induction t with
 |nil=>
  refine⟨j5++[],R5.cons h (λb _=>by simp) .nil,λb e=>.inl (by simpa using e)⟩
 | @dat n x v k i8 O s t j=>
  obtain⟨R',i,g⟩:=j d;rw[cW,dO];by_cases c:n=f;rw[A3 c,A3 c];exact⟨j5++O,R5.cons h d t,λb e=>List.mem_append.mp e⟩;rw[A4 c,A4 c];exact⟨R',.dat s i,g⟩
 | @own n a u l k i8 O o R q t j=>
  obtain⟨R',i,g⟩:=j λb e z=>d b e (F8 _ z);rw[cW,dO];by_cases c:n=f;rw[A3 c,A3 c];exact⟨j5++O,R5.cons h (λb e z=>d b e (F8 _ z)) t,λb e=>(List.mem_append.mp e).imp id (F8 _)⟩
  . rw[A4 c,A4 c];refine⟨a::R',.own o R (λz=>?_) i,λb e=>?_⟩
    . rcases g a z with z|z
      exact d a z F5;exact q z
    . rcases List.mem_cons.mp e with rfl|e
      exact .inr F5;exact(g b e).imp id (F8 _)
 | @dct n a r w k i8 O o R q t j=>
  obtain⟨R',i,g⟩:=j λb e z=>d b e (F8 _ z);rw[cW,dO];by_cases c:n=f;rw[A3 c,A3 c];exact⟨j5++O,R5.cons h (λb e z=>d b e (F8 _ z)) t,λb e=>(List.mem_append.mp e).imp id (F8 _)⟩
  . rw[A4 c,A4 c];refine⟨a::R',.dct o R (λz=>?_) i,λb e=>?_⟩
    . rcases g a z with z|z
      exact d a z F5;exact q z
    . rcases List.mem_cons.mp e with rfl|e
      exact .inr F5;exact(g b e).imp id (F8 _)
def T5:gk u ((i6,L)::j6)=if i6=u then U L else gk u j6:=by
 rw[oV];by_cases c:i6=u;subst c;simp
 . have a:(u==i6)=U':=by simpa using λz=>c z.symm
   rw[a,A4 c]
set_option tactic.hygienic true in
def R5.a2q(t:R5 K m H j6 i8 O)(h:X1 u i8=J):j6.lookup u=J:=by
 induction t with
 |nil=>rfl
 | dat hd t ih => rw [X1] at h; rw [T5]; split at h; · exact nS h
                  rename_i c;rw[A4 c];exact ih h
 | own h1 h2 h3 t ih => rw [X1] at h; rw [T5]; split at h; · exact nS h
                        rename_i c;rw[A4 c];exact ih h
 | dct h1 h2 h3 t ih => rw [X1] at h; rw [T5]; split at h; · exact nS h
                        rename_i c;rw[A4 c];exact ih h
def R5.look{w}(t:R5 K m H w i8 O)(h:X1 u i8=U k8):∃x Rf,w.lookup u=U x/\xi K m H x k8 Rf/\(∀b∈Rf,b∈O) /\
  ∀{Hv' H':Hp}{R:PF},A5 m Hv'->(∀b∈O,b∉Rf->∀o,H b=U o->H' b=U o)->xi K Hv' H' x R Rf->R5 K Hv' H' w (dO u R i8) O:=by
 induction t with
 |nil=>exact nE h
 | @dat n x d w i8 O C t s=>
  rw[X1]at h;rw[T5];by_cases c:n=u
  . rw[A3 c]at h⊢;cases h;refine⟨x,[],rfl,.dat C,λb g=>absurd g G9,λ{Hv' H' R} e i k=>?_⟩;rw[dO,A3 c];exact R5.cons k (λb g=>absurd g G9) (t.same e λb g=>i b g G9)
  . rw[A4 c]at h⊢;obtain⟨y,Rf,A,f,q,r⟩:=s h;refine⟨y,Rf,A,f,q,λ{Hv' H' R} e i k=>?_⟩;rw[dO,A4 c];exact .dat (C.same e) (r e i k)
 | @own n a F l w i8 O B v j t s=>
  rw[X1]at h;rw[T5];by_cases c:n=u
  . rw[A3 c]at h⊢;cases h;refine⟨_,[a],rfl,.own B v,λb g=>by rw[mem_singleton.mp g];exact F5,λ{Hv' H' R} e i k=>?_⟩;rw[dO,A3 c];refine R5.cons k (λb g=>by rw[mem_singleton.mp g];exact j) (t.same e λb g=>i b (F8 _ g) λz=>?_);rw[mem_singleton.mp z]at g;exact j g
  . rw[A4 c]at h⊢;obtain⟨y,Rf,A,f,q,r⟩:=s h;refine⟨y,Rf,A,f,λb g=>F8 _ (q b g),λ{Hv' H' R} e i k=>?_⟩;rw[dO,A4 c];exact .own (i a F5 (λz=>j (q a z)) _ B) (v.same e) j (r e (λb g=>i b (F8 _ g)) k)
 | @dct n a D E w i8 O B v j t s=>
  rw[X1]at h;rw[T5];by_cases c:n=u
  . rw[A3 c]at h⊢;cases h;refine⟨_,[a],rfl,.dct B v,λb g=>by rw[mem_singleton.mp g];exact F5,λ{Hv' H' R} e i k=>?_⟩;rw[dO,A3 c];refine R5.cons k (λb g=>by rw[mem_singleton.mp g];exact j) (t.same e λb g=>i b (F8 _ g) λz=>?_);rw[mem_singleton.mp z]at g;exact j g
  . rw[A4 c]at h⊢;obtain⟨y,Rf,A,f,q,r⟩:=s h;refine⟨y,Rf,A,f,λb g=>F8 _ (q b g),λ{Hv' H' R} e i k=>?_⟩;rw[dO,A4 c];exact .dct (i a F5 (λz=>j (q a z)) _ B) (v.same e) j (r e (λb g=>i b (F8 _ g)) k)
end
noncomputable def sk(nm:Str)(i:Nat)(ds:Ds):Option (Option Addr×List (Str×PF)):=match ds[i]? with
 |some (U (.ob w (.ins n fs)))=>if n=nm then U (w,fs)else J
 |_=>J
def nQ(h:sk u N G=U (k9,i8)):G[N]?=U (U (.ob k9 (.ins u i8))):=by
 unfold sk at h;split at h
 . simp_all
 exact nE h
noncomputable def Uv:PF->Option l5
 | .dat d=>U d
 |_=>J
noncomputable def dctP:PF->Option (List (Str×l5))
 | .dct es=>U es
 |_=>J
def Uu(h:Uv k8=U d6):k8=.dat d6:=by cases k8<;>cases h;rfl
def Uq(h:dctP k8=U u8):k8=.dct u8:=by cases k8<;>cases h;rfl
def wy(nm:Str)(i:Nat)(f:Str):DV:=λds=>(sk nm i ds).bind λx=>(X1 f x.2).bind λp=>(Uv p).bind λd=>U (.dat d)
def RQ(kk:c.K=e)(T:tq e u t)(n:gh e t i6)(h:PE c o (O0 N))(A:autoParam (HC c o i6) B0):PX c I (.Attribute o i6 p) (Ru e (O0 N) i6) (wy u N i6):=by
 subst kk;exact⟨MT h A,by
  intro O X D i H F pv Q S a q;obtain⟨⟨w,fs⟩,s,a⟩:=A1 a;obtain⟨K,l,a⟩:=A1 a;obtain⟨d,C,a⟩:=A1 a;cases a;have z:=Uu C;subst z;obtain⟨v,R,k,_,_,f,j,m,E,rfl,L,r,g⟩:=S.slot N _ (nQ s);have B:=T.eq L;subst B;obtain⟨x,G,y,b,_⟩:=g.look l;cases b with
  |dat b=>exact⟨_,k,v,f,j,m,x,rfl,r,T.cl,n,y,q x H (A5.refl H) (b.same nk)⟩⟩
section
variable{K:B1}{H:Hp}
set_option tactic.hygienic true in
def DS.adopt(S:DS K O m q B H G)(σ:A5 H y)(i:Nat)(r:∀b∈j5,H b=J)(x:∀b∈j5,∃u:Cl,y b=U u.1):
  DS K O m (j5.map U++q) B y G/\∀c:Nat->List Addr,(∀i b,b∈c i->U b∈q)->(∀i j b,b∈c i->b∈c j->i=j)->(∀(i:Nat) (pv:PV),G[i]?=U (U pv)->bO K O q H B[i]? (c i) pv) ->
   ∃a:Nat->List Addr,(∀i b,b∈a i->U b∈j5.map U++q)/\(∀i j b,b∈a i->b∈a j->i=j)/\(∀(i:Nat) (pv:PV),G[i]?=U (U pv)->bO K O (j5.map U++q) y B[i]? (a i) pv)/\(∀b∈j5,b∈a i)/\∀b∈c i,b∈a i:=by
 have s:∀b∈j5,U b∉q:=λb d z=>by obtain⟨_,o,z⟩:=S.new b z;rw[r b d]at z;exact nE z
 have l:∀c:Nat->List Addr,(∀i b,b∈c i->U b∈q)->(∀i j b,b∈c i->b∈c j->i=j)->(∀i pv,G[i]?=U (U pv)->bO K O q H B[i]? (c i) pv) ->
   ∃a:Nat->List Addr,(∀i b,b∈a i->U b∈j5.map U++q)/\(∀i j b,b∈a i->b∈a j->i=j)/\(∀i pv,G[i]?=U (U pv)->bO K O (j5.map U++q) y B[i]? (a i) pv)/\(∀b∈j5,b∈a i)/\∀b∈c i,b∈a i:=λc f h p=>by
  refine⟨λj=>if j=i then j5++c j else c j,λj b d=>?_,λj k b g e=>?_,λj pv t=>(p j pv t).yn (lJ σ r) (λb _ o z=>σ _ _ z) λb z=>?_,λb d=>by dsimp only;rw[A3 rfl];exact iA _ d,λb d=>by dsimp only;rw[A3 rfl];exact Q3 _ d⟩
  . dsimp only at d;split at d
    . rcases List.mem_append.mp d with z|z
      exact iA _ (mem_map.mpr ⟨b,z,rfl⟩);exact Q3 _ (f j b z)
    exact Q3 _ (f j b d)
  . dsimp only at g e;split at g
    . rename_i n;split at e;rename_i A;rw[n,A]
      . rcases List.mem_append.mp g with z|z
        exact absurd (f k b e) (s b z);exact h j k b z e
    . split at e
      . rcases List.mem_append.mp e with z|z
        exact absurd (f j b g) (s b z);exact h j k b g z
      exact h j k b g e
  . dsimp only;split;exact Q3 _ z;exact z
 obtain⟨c,f,h,p⟩:=S.fg;obtain⟨a,v,k2,w,_⟩:=l c f h p;refine⟨⟨S.ls,S.same.trans σ,λb d=>?_,S.eD,a,v,k2,w⟩,l⟩
 rcases List.mem_append.mp d with z|z
 obtain⟨R,n,A⟩:=mem_map.mp z;cases A;exact⟨S.same.free (r b n),x b n⟩;exact⟨(S.new b z).1,let ⟨o,z⟩:=(S.new b z).2;⟨o,σ _ _ z⟩⟩
end
noncomputable def yE:PV->Option PF
 | .dat d=>U (.dat d)
 | .own l=>U (.own l)
 | .ob _ (.dct es)=>U (.dct es)
 |_=>J
noncomputable def Uw(pv:PV):Option PF:=U (.dat pv.d)
def yS(nm:Str)(i:Nat)(f:Str)(kp:PV->Option PF)(F:DV):DO:=λds=>(F ds).bind λpv=>(kp pv).bind λp=>(sk nm i ds).bind λx=>if x.2.length<900 then U (.next (ds.set i (U (.ob x.1 (.ins nm (dO f p x.2))))))else J
def R5.len(h:R5 e m y j6 i8 O):j6.length=i8.length:=by
 induction h with
 |nil=>rfl
 |dat _ _ a=>simp_all
 |own _ _ _ _ a=>simp_all
 |dct _ _ _ _ a=>simp_all
def Ja(D:pq m q O)(r:RX e O q m y L d8)(h:yE d8=U k8\/Uw d8=U k8):∃Rf,(∀b∈Rf,m b=J)/\(∀b∈Rf,∃u:Cl,y b=U u.1)/\xi e (C9 y (Rf.map U++q) O) y L k8 Rf:=by
 rcases h with h|h
 . cases d8 with
   |dat d=>cases h;exact⟨[],λb K=>absurd K G9,λb K=>absurd K G9,.dat r⟩
   |own l=>
    cases h;obtain⟨a,k,rfl,n,g,r⟩:=r;refine⟨[a],λb K=>?_,λb K=>?_,.own g r⟩;rw[mem_singleton.mp K];exact n;rw[mem_singleton.mp K];exact⟨Cl.l k,g⟩
   |ob w c=>
    cases c with
    |dct o=>
     cases h;obtain⟨a,R,rfl,_,g,i,rfl,j,H⟩:=r;refine⟨[a],g,λb K=>?_,.dct j H⟩;rw[mem_singleton.mp K];exact⟨Cl.d i,j⟩
    |ins _ _=>exact nE h
    |seq _ _=>exact nE h
 cases h;exact⟨[],λb K=>absurd K G9,λb K=>absurd K G9,.dat (r.dt D)⟩
def Sl{f:Str}{kp:PV->Option PF}(T:tq c.K i6 t)(n:gh c.K t f)(h:PE c o (O0 N))(hk:∀pv C,kp pv=U C->yE pv=U C\/Uw pv=U C)(Y:PX c Uf E g D)(hs:autoParam (bc E (U (.Attribute o f Q)) p.line c.env=pure U') B0):N7 c (.Assign [.Attribute o f Q] E p) (a1u c.K (O0 N) g f) (yS i6 N f kp D):=⟨a1R h Y.p hs,by
 intro O e as σ H ds F r S a q;obtain⟨pv,h1,a⟩:=A1 a;obtain⟨C,h2,a⟩:=A1 a;obtain⟨⟨w,fs⟩,I,a⟩:=A1 a;obtain⟨hl,a⟩:=K8 a;cases a;refine Y.t O e as σ H ds pv _ S h1 λy H1 s r1=>?_
 obtain⟨Rf,M,k2,k3⟩:=Ja (S.dm) r1 (hk pv C h2);obtain⟨S1,ad⟩:=S.adopt s N M k2;obtain⟨rg,i,B,l⟩:=S.fg;obtain⟨rg',g1,g2,W,g4,g5⟩:=ad rg i B l;obtain⟨v,R,A,ew,hR,L,x,Z,R',rfl,V,G,c3⟩:=W N _ (nQ I);have ec:=T.eq V;subst ec;obtain⟨v0,R0,j,ew0,K,C0,dx0,fv0,R0',rfl,c10,P,d⟩:=l N _ (nQ I);rw[A]at j;cases j;have k:=s _ _ P;rw[G]at k;cases k;have dj:∀b∈Rf,b∉R0':=λb X z=>by obtain⟨u,_,z⟩:=d.at b z;rw[M b X]at z;exact nE z
 obtain⟨R2,p1,p2⟩:=(d.same (lJ s M) λb _ o z=>s _ _ z).put (f:=f) k3 dj;refine⟨_,A,v,L,x,Z,rfl,G,T.cl,n,by rw[d.len];exact nAl,q (Rf.map U++as) σ _ ?_⟩
 have nv:∀b∈R2,b≠v:=λb X z=>by subst z;obtain⟨u,m,z⟩:=p1.at b X;rw[G]at z;cases z;rcases m with ⟨_,m⟩|⟨_,m⟩<;>cases m
 have hv:=hR v F5;refine S1.vL (u:=Cl.i L x (cW f y Z)) (nQ I) g1 g2 W hv λsm=>⟨v,v::R2,A,ew,λb X=>?_,L,x,_,R2,rfl,V,Q0,p1.same sm λb X o z=>by rw[K1 (nv b X)];exact z⟩
 rcases List.mem_cons.mp X with rfl|X
 exact hv
 . rcases p2 b X with z|z
   exact g4 b z
   . exact g5 b (K b (F8 _ z))⟩
def DS.a3X{f:Str}{v:PF}{u:Cl}{w r:Addr}(W:DS e O m q B y G)(hd:G[N]?=U (U (.ob k9 (.ins i6 i8))))(I:X1 f i8=U k8)(s:B[N]?=U (U (.ref S)))(l:y S=U (.ins w r j6))(i:j6.lookup f=U (.ref t))(T:∀d,k8≠.dat d)(X:∀{Hv':Hp},A5 (C9 y q O) Hv'->xi e Hv' (upd y t u.1) (.ref t) v [t]):DS e O m q B (upd y t u.1) (G.set N (U (.ob k9 (.ins i6 (dO f v i8))))):=by
 obtain⟨rg,E,a,x⟩:=W.fg;obtain⟨v0,R0,c,H,h,Z,C,M,K,rfl,n,g,j⟩:=x N _ hd;rw[s]at c;cases c;rw[l]at g;cases g;obtain⟨x0,R,A,P,Q,F⟩:=j.look I;rw[i]at A;cases A;have L:R=[t]:=by
  cases P with
  |dat _=>exact absurd rfl (T _)
  |own _ _=>rfl
  |dct _ _=>rfl
 subst L;have p:=Q t F5;have Y:S≠t:=λz=>by subst z;obtain⟨u',k,z⟩:=j.at S p;rw[l]at z;cases z;rcases k with ⟨_,k⟩|⟨_,k⟩<;>cases k
 refine W.vL hd E a x (h t (F8 _ p)) λsm=>⟨S,S::K,s,H,h,w,r,j6,K,rfl,n,by rw[K1 Y];exact l,F sm (λb hb D o z=>?_) (X sm)⟩;rw[K1 (λz=>D (by rw[z];exact F5))];exact z
def iL(K:B1)(f:List PV->Option (PV×Ds)):Sp:=λvs H Q _=>∃(O:List Addr) (B6:Hp) (as:As) (args:List PV) (pv:PV) (ds':Ds),
 DS K O B6 as (vs.map U) H (args.map U)/\f args=U (pv,ds')/\∀as' Hm H' v,DS K O B6 as' (vs.map U) Hm ds'->A5 Hm H'->RX K O as' Hm H' v pv->Q v H'
noncomputable def ka(t:Nat->Addr):Nat->List PV->List PV
 |_,[]=>[]
 |i,.ob _ c::r=>.ob (U (t i)) c::ka t (i+1) r
 |i,x::r=>x::ka t (i+1) r
def S8(t:Nat->Addr):Nat->List PV->Ds->Ds
 |_,[],_=>[]
 |i,.ob _ _::a,U (.ob w c)::r=>(if w=U (t i)then U (.ob J c)else J)::S8 t (i+1) a r
 |i,_::a,_::r=>J::S8 t (i+1) a r
 |i,_::a,[]=>J::S8 t (i+1) a []
def ub(args:List PV)(t:Nat->Addr):Out->Option (PV×Ds)
 | .retO pv ds=>U (pv,S8 t 0 args ds)
 | .next ds=>U (.dat .none,S8 t 0 args ds)
 |_=>J
def qF(n N:Nat)(G:DO):List PV->Option (PV×Ds):=λargs=>if args.length=n then
 (open Classical in if h:∃r,∀t,(G ((ka t 0 args).map U++N8 (N-n) J)).bind (ub args t)=U r then U h.choose else J)else J
def qE{r:PV×Ds}(b:n8.length=i9)(h:∀t,(c9 ((ka t 0 n8).map U++N8 (N-i9) J)).bind (ub n8 t)=U r):qF i9 N c9 n8=U r:=by
 delta qF;rw[A3 b];have a:∃r,∀t,(c9 ((ka t 0 n8).map U++N8 (N-i9) J)).bind (ub n8 t)=U r:=⟨r,h⟩;rw[dif_pos a];have:=a.choose_spec λ_=>0;rw[h λ_=>0]at this;exact this.symm
set_option tactic.hygienic true in
def Jj{r:PV×Ds}(h:qF i9 N c9 n8=U r):n8.length=i9/\∀t,(c9 ((ka t 0 n8).map U++N8 (N-i9) J)).bind (ub n8 t)=U r:=by
 unfold qF at h;split at h
 . rename_i a;split at h;rename_i b;cases h;exact⟨a,b.choose_spec⟩;exact nE h
 exact nE h
theorem Dh(t:Nat->Addr):∀(args:List PV) (i k:Nat),(ka t i args)[k]?=(args[k]?).map λpv=>match pv with
  | .ob _ c=>.ob (U (t (i+k))) c
  |pv=>pv
 | [],i,k=>by simp[ka]
 |x::r,i,0=>by cases x<;>simp[ka]
 |x::r,i,k+1=>by
  have:=Dh t r (i+1) k;rw[show i+1+k=i+(k+1)from PL _ _ _]at this
  cases x<;>(assumption)
set_option tactic.hygienic true in
theorem xJ(t:Nat->Addr):∀(args:List PV) (i k:Nat) (ds:Ds) (pv:PV),(S8 t i args ds)[k]?=U (U pv)->∃c w b,pv=.ob J c/\args[k]?=U (.ob w b)/\ds[k]?=U (U (.ob (U (t (i+k))) c))
 | [],i,k,ds,pv,h=>by simp[S8]at h
 |x::a,i,0,[],pv,h=>by cases x<;>simp[S8]at h
 |x::a,i,k+1,[],pv,h=>by
  have d:(S8 t (i+1) a [])[k]?=U (U pv):=by cases x<;>simpa [S8]using h
  obtain⟨c,w,b,_,_,h⟩:=xJ t a (i+1) k [] pv d;simp at h
 |x::a,i,0,y::r,pv,h=>by
  cases x with
  |ob e b=>
   cases y with
   |none=>simp[S8]at h
   |some y=>
    cases y with
    |ob w c=>
     simp only[S8]at h;split at h;rename_i j;cases h;exact⟨c,e,b,rfl,rfl,by simp[j]⟩;cases h
    |dat _=>simp[S8]at h
    |own _=>simp[S8]at h
  |dat _=>simp[S8]at h
  |own _=>simp[S8]at h
 |x::a,i,k+1,y::r,pv,h=>by
  have d:(S8 t (i+1) a r)[k]?=U (U pv):=by
   cases x with
   |ob e b=>
    cases y with
    |none=>assumption
    |some y=>cases y<;>simpa [S8]using h
   |dat _=>assumption
   |own _=>assumption
  obtain⟨c,w,b,f,g,l⟩:=xJ t a (i+1) k r pv d;exact⟨c,w,b,f,by assumption,by rw[pL,l,show i+1+k=i+(k+1)from PL _ _ _]⟩
theorem kA(t:Nat->Addr):∀(args:List PV) (i:Nat) (ds:Ds),(S8 t i args ds).length=args.length
 | [],_,_=>by simp[S8]
 |x::a,i,[]=>by cases x<;>simp[S8,kA t a]
 |x::a,i,y::r=>by
  cases x with
  |ob w c=>
   cases y with
   |none=>simp[S8,kA t a]
   |some y=>cases y<;>simp[S8,kA t a]
  |dat _=>simp[S8,kA t a]
  |own _=>simp[S8,kA t a]
section
variable{K:B1}{H:Hp}
def DS.slots(S:DS K O m q B H G){b:St}{ds':Ds}(l:b.length=ds'.length)(h:∀(i:Nat) (pv:PV),ds'[i]?=U (U pv)->∃a,G[i]?=U (U a)/\∀c,bO K O q H B[i]? c a->bO K O q H b[i]? c pv):DS K O m q b H ds':=by
 obtain⟨c,j,e,k⟩:=S.fg;refine⟨l,S.same,S.new,S.eD,c,j,e,λi pv f=>?_⟩;obtain⟨a,d,g⟩:=h i pv f;exact g _ (k i a d)
end
section
variable{K:B1}{mg:Str->Option w9}
noncomputable def addrOf:Option V->Addr
 |some (.ref a)=>a
 |_=>(0:Nat)
set_option tactic.hygienic true in
def DS.a1j{N:List Str}(S:DS K O m q (M.map U) y (n8.map U)):
  DS K O m q (L2.start N M) y ((ka (λi=>addrOf M[i]?) 0 n8).map U++N8 (N.length-n8.length) J):=by
 have H:M.length=n8.length:=by have:=S.ls;simpa using this
 have lt:(ka (λi=>addrOf M[i]?) 0 n8).length=n8.length:=by
  have:∀a i t,(ka t i a).length=a.length:=by
   intro a;induction a with
   |nil=>intro i t;rfl
   |cons x r p=>intro i t;cases x<;>simp[ka,p]
  exact this _ _ _
 refine S.slots (by delta L2.start;simp[lt,H]) λi pv b=>?_;rw[Qn]at b;split at b
 . rename_i A;rw[R9,Dh,Gx]at b;have f:i<n8.length:=by simpa [lt]using A
   have e:i<M.length:=by lia
   rw[M6 f]at b;have k:(L2.start N M)[i]?=(M.map U)[i]?:=by delta L2.start;rw[vC (by simpa using e)]
   have s:(n8.map U)[i]?=U (U n8[i]):=by rw[R9,M6 f];rfl
   refine⟨n8[i],s,λz h=>?_⟩
   rw[k];simp only[jA,Function.comp,ro]at b;generalize n8[i]=x at b h;cases x with
   |dat d=>simp only at b;rw[<-b];exact h
   |own l=>simp only at b;rw[<-b];exact h
   |ob w c=>
    rw[<-b];obtain⟨v,R,g,u,o,n⟩:=h;refine⟨v,R,g,.inr ?_,o,n⟩;rw[R9]at g;rw[M6 e]at g;have j:M[i]=.ref v:=by simpa using g
    rw[zK,M6 e,j];rfl
 have:=rC b;simp[PM]at this
set_option tactic.hygienic true in
def rG.okO{N:List Str} (F:rG K u i6 j1 t j9) (S:iT N b9 (L4 j1)) (hN:b9.length<=N.length) (x:∀(m:w9) (A:T8) (outer:List Env) (s:A6) (H:Hp) (E:XK),eS i9 (A.deeper (ft i6 (L4 j1) (hz s) t m)) ->
   ∃j,iI (oi D7 P z K mg d9 N i6 (L4 j1) t m A outer s H E).pB (bF j1) j c9):gU P z K mg d9 D7 (i9+1) t j9 b9 (iL K (qF b9.length N.length c9)):=by
 have ln:∀g H Q E,iL K (qF b9.length N.length c9) g H Q E->g.length=b9.length:=λg H Q E h=>by obtain⟨O,d,as,q,pv,Z,D,I,X⟩:=h;have:=D.ls;have hl:=(Jj I).1;simp at this;simp[*]
 refine F.ok S ln λm A outer s H g Q E hr h=>?_
 obtain⟨O,d,as,q,pv,Z,D,I,X⟩:=h;obtain⟨j,ht⟩:=x m A outer s H E hr;refine⟨j,ht.p,?_⟩;obtain⟨hl,I⟩:=Jj I;have W:=I λi=>addrOf g[i]?
 obtain⟨o,W,C⟩:=A1 W;have S1:=DS.a1j (N:=N) D;rw[hl]at S1;have:g.length=b9.length:=by have:=D.ls;simp at this;simp[*]
 have L:∀a l T b,DS K O d a l T b->DS K O d a (g.map U) T (S8 (λi=>addrOf g[i]?) 0 q b):=λa l T b S2=>by
  refine S2.slots (by rw[kA,C8];simp[*]) λi pv hd=>?_;obtain⟨c,w0,c0,rfl,h4,h5⟩:=xJ _ _ _ _ _ _ hd;refine⟨_,h5,λrg hs=>?_⟩
  obtain⟨v,R,z1,z2,z3,z4⟩:=hs;refine⟨v,R,?_,.inl rfl,z3,z4⟩;have n:addrOf g[0+i]?=v:=by
   rcases z2 with w|w
   exact nS w;exact Y9 w
  rw[zK]at n;obtain⟨v',_,B,_⟩:=D.slot i (.ob w0 c0) (by rw[R9,h4];rfl)
  rw[B];rw[R9]at B;cases e:g[i]? with
  |none=>rw[e]at B;exact nE B
  |some u=>
   rw[e]at B n;have y1':u=.ref v':=by simpa using B
   rw[y1']at n;have Y:v'=v:=n;rw[Y]
 refine ht.t O d as (L2.start N g) H _ _ o S1 W ?_;cases o with
 |next b=>cases C;exact λa l V S'=>X a V V _ (L _ _ _ _ S') (A5.refl _) Dt.non
 |retO pv' b=>cases C;exact λa l T V v S' s r=>X a T V v (L _ _ _ _ S') s r
 |ret pv'=>exact nE C
 |brk b=>exact nE C
 |cont b=>exact nE C
 |up u=>exact nE C
 |upO j u b=>exact nE C
end
inductive AV where
 |d (x:l5)
 |s (i:Nat)
variable{s9:Ds->Option (List AV)}
inductive rK(K:B1)(Hv:Hp)(σ:St):List V->List AV->Prop
 |nil:rK K Hv σ [] []
 |d {v x vs l}:Dt K Hv v x->rK K Hv σ vs l->rK K Hv σ (v::vs) (.d x::l)
 |s {v i vs l}:σ[i]?=U (U v)->rK K Hv σ vs l->rK K Hv σ (v::vs) (.s i::l)
def TAO(K:B1)(t:TA)(F:Ds->Option (List AV)):Prop:=
 ∀(O:List Addr) (B6:Hp) (as:As) (σ:St) (H:Hp) (ds:Ds) (l:List AV) (Q:List V->Hp->Prop),DS K O B6 as σ H ds->F ds=U l->(∀vs H',A5 H H'->rK K (C9 H' as O) σ vs l->Q vs H')->t σ H Q
structure tK(X:Cx)(es:List Expr)(t:TA)(F:Ds->Option (List AV)):Prop where
 p:PA X es t
 t:TAO X.K t F
noncomputable def mx:Ds->Option (List AV):=λ_=>U []
noncomputable def Q1(F:DV)(G:Ds->Option (List AV)):Ds->Option (List AV):=λds=>(F ds).bind λx=>(G ds).bind λl=>U (.d x.d::l)
noncomputable def bT(i:Nat)(G:Ds->Option (List AV)):Ds->Option (List AV):=λds=>match ds[i]? with
 |some (U (.ob _ _))=>(G ds).bind λl=>U (.s i::l)
 |_=>J
theorem rK.same{K:B1}{H H':Hp}{b:St}{vs:List V}{l:List AV}(h:rK K H b vs l)(e:A5 H H'):rK K H' b vs l:=by
 induction h with
 |nil=>exact .nil
 |d h t a=>exact .d (h.same e) a
 |s h t a=>exact .s h a
section
def Zq:tK c [] rP mx:=⟨lG,by intro O a d e H X l Q S b q;cases b;exact q [] H (A5.refl H) .nil⟩
def SY(h:PX c Uf o g D)(k:tK c Z b8 s9)(hs:autoParam (gN c o Z) B0):tK c (o::Z) (gw g b8) (Q1 D s9):=⟨cx h.p k.p hs,by
 intro O a j f H i l Q S b q;obtain⟨x,s,b⟩:=A1 b;obtain⟨m,y,b⟩:=A1 b;cases b;refine h.t O a j f H i x _ S s λv n t u=>?_;refine k.t O a j f n i m _ (S.grow t) y λe w X r=>?_
 exact q (v::e) w (t.trans X) (.d ((u.grow X).dt (S.dm)) r)⟩
set_option tactic.hygienic true in
def SX(i:Nat)(h:PE c o (O0 i))(k:tK c Z b8 s9)(hs:autoParam (gN c o Z) B0):tK c (o::Z) (gw (O0 i) b8) (bT i s9):=⟨cx h k.p hs,by
 intro O b y n H u l Q S a q;unfold bT at a;split at a
 . rename_i w X f;obtain⟨m,r,a⟩:=A1 a;cases a;obtain⟨v,R,d,_⟩:=S.slot i _ f;refine⟨_,d,?_⟩;refine k.t O b y n H u m _ S r λg x j e=>?_;exact q (_::g) x j (.s d e)
 . exact nE a⟩
end
def gT(ds:Ds):List AV->Option (List PV)
 | []=>U []
 | .d x::l=>(gT ds l).bind λr=>U (.dat x::r)
 | .s i::l=>match ds[i]? with
  |some (U (.ob _ c))=>(gT ds l).bind λr=>U (.ob J c::r)
  |_=>J
noncomputable def N3:List AV->List Nat
 | []=>[]
 | .d _::l=>N3 l
 | .s i::l=>i::N3 l
noncomputable def yz:Option PV->Option (Option PV)->Option PV
 |some (.ob _ c),U (U (.ob w _))=>U (.ob w c)
 |_,_=>J
set_option tactic.hygienic true in
def Ni{x:Option PV}{o:Option (Option PV)}(h:yz x o=U d8):∃w c b a,o=U (U (.ob w a))/\x=U (.ob b c)/\d8=.ob w c:=by
 unfold yz at h;split at h;rename_i b c w a;cases h;exact⟨w,c,b,a,rfl,rfl,rfl⟩;exact nE h
def gQ:List AV->Ds->Ds->Ds
 | .s i::l,x::r,ds=>gQ l r (ds.set i (yz x ds[i]?))
 | .d _::l,_::r,ds=>gQ l r ds
 |_,_,ds=>ds
noncomputable def eN:List AV->Nat->Option Nat
 | [],_=>J
 | .d _::l,j=>(eN l j).map (· + 1)
 | .s i::l,j=>if i=j then U 0 else(eN l j).map (· + 1)
set_option tactic.hygienic true in
theorem eo:∀{l:List AV}{j k:Nat},eN l j=U k->l[k]?=U (.s j)
 | [],j,k,h=>nE h
 | .d x::l,j,k,h=>by simp only[eN,Hg]at h;obtain⟨m,a,rfl⟩:=h;rw[pL];exact eo a
 | .s i::l,j,k,h=>by
  simp only[eN]at h;split at h;rename_i e;cases h;rw[e];rfl;simp only[Hg]at h;obtain⟨m,a,rfl⟩:=h;rw[pL];exact eo a
theorem W0:∀{l:List AV}{j:Nat},j∈N3 l ↔ ∃k:Nat,l[k]?=U (AV.s j)
 | [],j=>by simp[N3]
 | .d x::l,j=>by
  rw[N3,W0];constructor;rintro⟨k,h⟩;exact⟨k+1,by assumption⟩
  . rintro⟨k,h⟩;cases k with
    |zero=>simp at h
    |succ k=>exact⟨k,by assumption⟩
 | .s i::l,j=>by
  rw[N3,K6,W0];constructor
  . rintro(h|⟨k,h⟩);exact⟨0,by rw[h];rfl⟩;exact⟨k+1,by assumption⟩
  . rintro⟨k,h⟩;cases k with
    |zero=>
     have a:i=j:=by simpa using h
     exact .inl a.symm
    |succ k=>exact .inr ⟨k,by assumption⟩
theorem cv:∀{l:List AV}{j k:Nat},(N3 l).Nodup->l[k]?=U (.s j)->eN l j=U k
 | [],j,k,_,h=>by simp at h
 | .d x::l,j,k,n,h=>by
  cases k with
  |zero=>simp at h
  |succ k=>
   simp only[eN,cv (l:=l) n h,jA]
 | .s i::l,j,k,n,h=>by
  rw[N3,Ad]at n;cases k with
  |zero=>
   have b:i=j:=by simpa using h
   simp[eN,b]
  |succ k=>
   have a:i≠j:=λz=>n.1 (W0.mpr ⟨k,by rw[z];exact h⟩);simp only[eN,A4 a,cv n.2 h,jA]
set_option tactic.hygienic true in
def OX{l:List AV}(o:rK e m B M l)(h:gT G l=U n8):M.length=l.length/\n8.length=l.length/\∀(k:Nat) (pv:PV),n8[k]?=U pv ->
  (∃x v,l[k]?=U (AV.d x)/\pv=.dat x/\M[k]?=U v/\Dt e m v x)\/∃i w c v,l[k]?=U (AV.s i)/\G[i]?=U (U (.ob w c))/\pv=.ob J c/\M[k]?=U v/\B[i]?=U (U v):=by
 induction o generalizing n8 with
 |nil=>
  cases h;exact⟨rfl,rfl,λk pv h=>nE h⟩
 |d K t i=>
  obtain⟨r,f,h⟩:=A1 h;cases h;obtain⟨b,g,a⟩:=i f;refine⟨H0 (· + 1) b,H0 (· + 1) g,λk pv h=>?_⟩
  cases k with
  |zero=>exact .inl ⟨_,_,rfl,(Y9 h).symm,rfl,K⟩
  |succ k=>exact a k pv h
 |s K t i=>
  rw[gT]at h;split at h
  . rename_i w c n;obtain⟨r,f,h⟩:=A1 h;cases h;obtain⟨b,g,a⟩:=i f;refine⟨H0 (· + 1) b,H0 (· + 1) g,λk pv h=>?_⟩
    cases k with
    |zero=>exact .inr ⟨_,w,c,_,rfl,n,(Y9 h).symm,rfl,K⟩
    |succ k=>exact a k pv h
  exact nE h
theorem rY:∀{l:List AV}{ds' ds:Ds},(gQ l ds' ds).length=ds.length
 | [],_,_=>by simp[gQ]
 | .d _::l,x::r,ds=>by rw[gQ];exact rY
 | .d _::l,[],ds=>by simp[gQ]
 | .s i::l,[],ds=>by simp[gQ]
 | .s i::l,x::r,ds=>by rw[gQ,rY,Pl]
theorem rZ:∀{l:List AV}{ds' ds:Ds}{j:Nat}{pv:PV},(N3 l).Nodup->ds'.length=l.length->(gQ l ds' ds)[j]?=U (U pv) ->
  (j∉N3 l/\ds[j]?=U (U pv))\/∃(k:Nat) (w:Option Addr) (c:OD) (f:Option Addr) (e:OD),l[k]?=U (AV.s j)/\ds[j]?=U (U (.ob w e))/\ds'[k]?=U (U (.ob f c))/\pv=.ob w c
 | [],_,ds,j,pv,_,_,h=>.inl ⟨by simp[N3],by assumption⟩
 | .d x::l,[],ds,j,pv,n,hl,h=>by simp at hl
 | .s x::l,[],ds,j,pv,n,hl,h=>by simp at hl
 | .d x::l,y::r,ds,j,pv,n,hl,h=>by
  rcases rZ (l:=l) n (by simpa using hl) h with h|⟨k,w,c,f,e,g,b,o,m⟩
  exact .inl h;exact .inr ⟨k+1,w,c,f,e,by assumption,b,by assumption,m⟩
 | .s i::l,y::r,ds,j,pv,n,hl,h=>by
  rw[N3,Ad]at n;rcases rZ n.2 (by simpa using hl) h with ⟨g,b⟩|⟨k,v,q,f,e,g,b,o,m⟩
  . by_cases a:i=j;subst a;rw[vo,A3 rfl]at b;obtain⟨_,b⟩:=K8 b;obtain⟨w,c,f,e,t,p,u⟩:=Ni (Y9 b);exact .inr ⟨0,w,c,f,e,rfl,t,by rw[p];rfl,u⟩;rw[iz a]at b;exact .inl ⟨by rw[N3,K6];exact λz=>z.elim (λz=>a z.symm) g,b⟩
  . have a:i≠j:=λz=>n.1 (W0.mpr ⟨k,by rw[z];exact g⟩);rw[iz a]at b;exact .inr ⟨k+1,v,q,f,e,by assumption,b,by assumption,m⟩
def EN{bs:As}(h:∀b,(b∈O\/U b∈q)↔(b∈j5\/U b∈bs)):C9 m q O=C9 m bs j5:=by
 funext b
 delta C9
 simp_all
section
variable{K:B1}{H:Hp}
set_option tactic.hygienic true in
def DS.XH(S:DS K O m q B H G){l:List AV}(ha:rK K (C9 H q O) B M l)(hp:gT G l=U n8)(hn:(N3 l).Nodup):
  ∃Oc Hc ac,DS K Oc Hc ac (M.map U) H (n8.map U)/\∀f X ds',DS K Oc Hc f (M.map U) X ds'->∃as2,DS K O m as2 B X (gQ l ds' G)/\∀H' v pv,A5 X H'->RX K Oc f X H' v pv->RX K O as2 X H' v pv:=by
 obtain⟨rg,r1,r2,r3⟩:=S.fg;obtain⟨l1,l2,l3⟩:=OX ha hp;have C:∀b,b∈(N3 l).flatMap rg ↔ ∃i∈N3 l,b∈rg i:=λb=>Pq;generalize hR:(N3 l).flatMap rg=RI at C;generalize hT:(q.filterMap id).filter (λb=>decide (b∉RI))=B6
 have n:∀b,b∈B6↔U b∈q/\b∉RI:=λb=>by rw[<-hT,Ac,Au,jo];simp
 have g:∀b,b∈RI->U b∈q:=λb F=>by obtain⟨i,_,h⟩:=(C b).mp F;exact r1 i b h
 have L:∀(R:List Addr) b,U b∈R.map U↔b∈R:=λR b=>by simp
 have as:∀b o,C9 H (RI.map U) [] b=U o↔b∉RI/\H b=U o:=λb o=>by rw[P0,L];simp
 have e0:∀H,C9 H (RI.map U) (O++B6)=C9 H q O:=λH=>EN λb=>by
  rw[L,oS,n];constructor
  . rintro((h|⟨h,_⟩)|h);exact .inl h;exact .inr h;exact .inr (g b h)
  . rintro(h|h);exact .inl (.inl h)
    . by_cases c:b∈RI;exact .inr c;exact .inl (.inr ⟨h,c⟩)
 refine⟨O++B6,C9 H (RI.map U) [],RI.map U,⟨?_,G3,λa h=>?_,λa h=>?_,λk=>match l[k]? with|some (.s i)=>rg i|_=>[],λk b h=>?_,λk k' b h A=>?_,λk pv h=>?_⟩,?_⟩;simp[l1,l2];rw[L]at h;exact⟨by delta C9;rw[A3 (.inr ((L _ _).mpr h))],(S.new a (g a h)).2⟩
 . rcases List.mem_append.mp h with h|h
   obtain⟨o,z⟩:=S.eD a h;exact⟨o,(as a o).mpr ⟨λI=>S.nO (g a I) h,S.same _ _ z⟩⟩;obtain⟨σ,p⟩:=(n a).mp h;obtain⟨_,u,z⟩:=S.new a σ;exact⟨_,(as a _).mpr ⟨p,z⟩⟩
 . dsimp only at h;split at h;rename_i i ds;rw[L,C];exact⟨i,W0.mpr ⟨k,ds⟩,h⟩;simp at h
 . dsimp only at h A;split at h
   . rename_i i ds;split at A;rename_i i' hi';have:=r2 i i' b h A;subst this;have q1:=cv hn ds;rw[cv hn hi']at q1;exact(Y9 q1).symm;simp at A
   simp at h
 . rw[R9]at h;cases t:n8[k]? with
   |none=>rw[t]at h;exact nE h
   |some pv0=>
    rw[t]at h;have A:pv0=pv:=by simpa using h
    subst A;rcases l3 k pv0 t with ⟨x,v,D,rfl,z3,z4⟩|⟨i,w,c,v,D,z2,rfl,z3,z4⟩
    exact⟨v,by rw[R9,z3];rfl,by rw[e0];exact z4⟩
    . dsimp only;rw[D];obtain⟨v',R,Q,y2,Y,Z⟩:=r3 i _ z2;rw[z4]at Q;have W:v=.ref v':=by simpa using Q
      subst W;exact⟨v',R,by rw[R9,z3];rfl,.inl rfl,Y,by rw[e0];exact Z⟩
 intro f X ds' P;obtain⟨rg',q1,q2,q3⟩:=P.fg;have hl':ds'.length=l.length:=by have:=P.ls;simp at this;lia
 have na:∀b,U b∈f->b∉O/\b∉B6/\m b=J:=λb F=>by
  have z:=(P.new b F).1;refine⟨λI=>?_,λI=>?_,?_⟩
  . obtain⟨o,y⟩:=S.eD b I;rw[(as b o).mpr ⟨λq'=>S.nO (g b q') I,S.same _ _ y⟩]at z;exact nS z
  obtain⟨σ,p⟩:=(n b).mp I;obtain⟨_,u,y⟩:=S.new b σ;rw[(as b _).mpr ⟨p,y⟩]at z;exact nS z
  . cases y:m b with
    |none=>rfl
    |some o=>
     rw[(as b o).mpr ⟨λq'=>?_,S.same _ _ y⟩]at z;exact nS z;rw[(S.new b (g b q')).1]at y;exact nE y
 have e1:∀H xs,C9 H (xs++f) (O++B6)=C9 H (xs++(f++B6.map U)) O:=λH xs=>EN λb=>by
  rw[oS,oS,oS,oS,L];constructor
  . rintro((h|h)|h|h);exact .inl h;exact .inr (.inr (.inr h));exact .inr (.inl h);exact .inr (.inr (.inl h))
  . rintro(h|h|h|h);exact .inl (.inl h);exact .inr (.inl h);exact .inr (.inr h);exact .inl (.inr h)
 have e2:∀H:Hp,C9 H f (O++B6)=C9 H (f++B6.map U) O:=λH=>e1 H []
 have sm:A5 (C9 H q O) (C9 X (f++B6.map U) O):=fj λb o σ p T=>by
  have F:=λz=>p (g b z);refine⟨σ,λz=>?_,P.same _ _ ((as b o).mpr ⟨F,T⟩)⟩
  rcases List.mem_append.mp z with z|z
  have:=(P.new b z).1;rw[(as b o).mpr ⟨F,T⟩]at this;exact nS this;exact p ((n b).mp ((L _ _).mp z)).1
 refine⟨f++B6.map U,⟨by rw[rY];exact S.ls,λb o h=>P.same _ _ ((as b o).mpr ⟨λq'=>?_,S.same _ _ h⟩),λb h=>?_,S.eD,λj=>match eN l j with|some k=>rg' k|none=>rg j,λj b h=>?_,λj N b h A=>?_,λj pv h=>?_⟩,λH' v pv s r=>?_⟩;rw[(S.new b (g b q')).1]at h;exact nE h
 . rcases List.mem_append.mp h with h|h
   exact⟨(na b h).2.2,(P.new b h).2⟩;obtain⟨σ,p⟩:=(n b).mp ((L _ _).mp h);obtain⟨z,u,y⟩:=S.new b σ;exact⟨z,u,P.same _ _ ((as b _).mpr ⟨p,y⟩)⟩
 . dsimp only at h;split at h;exact iA _ (q1 _ b h)
   . rename_i hj;refine Q3 _ ((L _ _).mpr ((n b).mpr ⟨r1 j b h,λz=>?_⟩));obtain⟨i,ds,z⟩:=(C b).mp z;have:=r2 i j b z h;subst this;obtain⟨k,t⟩:=W0.mp ds;rw[cv hn t]at hj;exact nS hj
 . have no:∀(j N k),eN l j=U k->eN l N=J->b∈rg' k->b∈rg N->False:=λj N k hj hj' F hb'=>by
     have z:=q1 k b F;have:b∉RI:=λz=>by obtain⟨i,ds,z⟩:=(C b).mp z;have:=r2 i N b z hb';subst this;obtain⟨k,t⟩:=W0.mp ds;rw[cv hn t]at hj';exact nS hj'
     exact(na b z).2.1 ((n b).mpr ⟨r1 N b hb',this⟩)
   dsimp only at h A;split at h
   . rename_i k t;split at A;rename_i k' E;have:=q2 k k' b h A;subst this;have D:=eo t;rw[eo E]at D;cases D;rfl;rename_i E;exact(no j N k t E h A).elim
   . rename_i t;split at A;rename_i k' E;exact(no N j k' E t A h).elim;exact r2 j N b h A
 . rcases rZ hn hl' h with ⟨σ,p⟩|⟨k,w,c,w0,c0,σ,p,T,rfl⟩
   . have:eN l j=J:=by
       cases z:eN l j with
       |none=>rfl
       |some k=>exact absurd (W0.mpr ⟨k,eo z⟩) σ
     dsimp only;rw[this];refine(r3 j pv p).yn sm (λb F o z=>P.same _ _ ((as b o).mpr ⟨λI=>?_,z⟩)) λb z=>z;obtain⟨i,ds,y⟩:=(C b).mp I;have e:=r2 i j b y F;subst e;exact σ ds
   . dsimp only;rw[cv hn σ];obtain⟨v',R,Q,y2,Y,Z⟩:=q3 k _ T;obtain⟨v0,R0,x1,x2,_⟩:=r3 j _ p;have t:k<n8.length:=by rw[l2];exact(List.getElem?_eq_some_iff.mp σ).1
     rcases l3 k _ (M6 t)with ⟨x,v,D,_⟩|⟨i,w',c',v,D,z2,z3,z4,z5⟩
     rw[σ]at D;cases D
     . rw[σ]at D;cases D;rw[R9,z4]at Q;have W:v=.ref v':=by simpa using Q
       subst W;rw[z5]at x1;have x1':v'=v0:=by simpa using x1
       subst x1';exact⟨v',R,z5,x2,Y,by rw[<-e2];exact Z⟩
 . cases pv with
   |dat d=>
    have r':Dt K (C9 H' f (O++B6)) v d:=r;rw[e2]at r';exact r'
   |own l=>
    obtain⟨a,xs,Q,y2,Y,Z⟩:=r;refine⟨a,xs,Q,y2,Y,?_⟩;have:=e1 H' [U a];rw[show(U a::(f++B6.map U))=[U a]++(f++B6.map U)from rfl,<-this];exact Z
   |ob w c=>
    obtain⟨o,R,Q,y2,Y,Z⟩:=r;refine⟨o,R,Q,y2,Y,?_⟩;rw[<-e1 H' (R.map U)];exact Z
end
def XU(K:B1)(te:TE)(F:Ds->Option (PV×Ds)):Prop:=
 ∀(O:List Addr) (B6:Hp) (as:As) (σ:St) (H:Hp) (ds:Ds) (pv:PV) (ds':Ds) (Q:VK),DS K O B6 as σ H ds->F ds=U (pv,ds')->(∀as' Hm H' v,DS K O B6 as' σ Hm ds'->A5 Hm H'->RX K O as' Hm H' v pv->Q v H')->te σ H Q
structure wZ(X:Cx)(e:Expr)(te:TE)(F:Ds->Option (PV×Ds)):Prop where
 p:PE X e te
 t:XU X.K te F
def je(f:List PV->Option (PV×Ds))(Fl:Ds->Option (List AV)):Ds->Option (PV×Ds):=λds=>(Fl ds).bind λl=>if (N3 l).Nodup then(gT ds l).bind λargs=>(f args).bind λr=>U (r.1,gQ l r.2 ds)else J
section
def Rg{f':List PV->Option (PV×Ds)}(z:tK c Z b8 s9):XU c.K (kM (iL c.K f') [] q9 b8) (je f' s9):=by
 intro O b I p H s pv o Q S a q;obtain⟨l,D,a⟩:=A1 a;obtain⟨r,a⟩:=K8 a;obtain⟨X,y,a⟩:=A1 a;obtain⟨⟨d,j⟩,w,a⟩:=A1 a;cases a;refine z.t O b I p H s l _ S D λL M m u=>?_;obtain⟨F,A,k,C,back⟩:=(S.grow m).XH u y r;rw[bZ];refine⟨F,A,k,X,d,j,C,w,λe i h v G g B=>?_⟩;obtain⟨f,n,x⟩:=back e i j G;exact q f i h v n g (x h v d g B)
def fm(nm m:Str)(i:Nat)(f:List PV->Option (PV×Ds))(Fl:Ds->Option (List AV)):Ds->Option (PV×Ds):=λds=>(sk nm i ds).bind λx=>match X1 m x.2 with
 |none=>je f (bT i Fl) ds
 |some _=>J
def Rc{f':List PV->Option (PV×Ds)}(T:tq c.K u S)(I:tK c Z b8 s9):XU c.K (JS S i6 (iL c.K f') [] q9 (O0 N) b8) (fm u i6 N f' s9):=by
 intro O X Y F H ds pv ds' Q C a q;obtain⟨⟨w,fs⟩,W,a⟩:=A1 a;have n:=nQ W;have b:=a;obtain⟨v,R,x,_,hR,C',dx,A,R',rfl,P,m,z⟩:=C.slot N _ n;have ec:=T.eq P;subst ec;cases hl:X1 i6 fs with
 |some _=>simp_all
 |none=>
  rw[hl]at b;refine⟨_,x,v,dx,A,rfl,m,z.a2q hl,?_⟩;obtain⟨l,h,a⟩:=A1 b;unfold bT at h;rw[n]at h;obtain⟨L,g,f⟩:=A1 h;cases f;obtain⟨hn,a⟩:=K8 a;obtain⟨d,h2,a⟩:=A1 a;obtain⟨⟨e,y⟩,h3,a⟩:=A1 a;cases a;refine I.t O X Y F H ds L _ C g λvs H1 D r1=>?_;obtain⟨V,Hc,B,Sc,back⟩:=(C.grow D).XH (.s x r1) h2 hn;rw[bZ];refine⟨V,Hc,B,d,e,y,Sc,h3,λj p o v S' r M=>?_⟩;obtain⟨k,t,G⟩:=back j p y S';exact q k p o v t r (G o v e r M)
noncomputable def CI(i:Nat)(F:Ds->Option (PV×Ds)):DO:=λds=>(F ds).bind λr=>U (.next (r.2.set i (U r.1)))
noncomputable def pG(F:Ds->Option (PV×Ds)):DO:=λds=>(F ds).bind λr=>U (.retO r.1 r.2)
noncomputable def eO(F:DV):DO:=λds=>(F ds).bind λpv=>U (.retO pv ds)
def Sf{FO:Ds->Option (PV×Ds)}(y:c.N.Nodup)(s:c.N[N]?=U u)(m:Loc c.env.scope u)(X:wZ c o g FO)(hs:autoParam (bc o (U (.Name u Q)) p.line c.env=pure U') B0)(f:autoParam (xh c u) hW):
  N7 c (.Assign [.Name u Q] o p) (nI g (cI N)) (CI N FO):=⟨DQ y s m X.p hs f,by
 intro O a z l H x D e S h q;obtain⟨⟨pv,i⟩,n,h⟩:=A1 h;cases h;refine X.t O a z l H x pv i _ S n λr A B v w k d=>?_
 obtain⟨b,j⟩:=w.store k N d;exact q b _ _ j⟩
def Sk{FO:Ds->Option (PV×Ds)}(d:wZ c o g FO):N7 c (.Return (U o) p) (AO g) (pG FO):=⟨tZ d.p,by intro O a r X H m D e S h q;obtain⟨⟨pv,i⟩,k,h⟩:=A1 h;cases h;exact d.t O a r X H m pv i _ S k λb f l v n j s=>q b X f l v n j s⟩
def Sj(X:PX c Uf o g D):N7 c (.Return (U o) p) (AO g) (eO D):=⟨tZ X.p,by intro O a d b H j l e S h q;obtain⟨pv,i,h⟩:=A1 h;cases h;exact X.t O a d b H j pv _ S i λv f F k=>q d b H f v S F k⟩
def Ky:PV×Ds->Option OD
 |(.dat .none,U (.ob _ c)::_)=>U c
 |_=>J
set_option tactic.hygienic true in
def Nx{r:PV×Ds}{c:OD}(h:Ky r=U c):∃w d,r=(.dat .none,U (.ob w c)::d):=by
 unfold Ky at h;split at h;rename_i w a d;cases h;exact⟨w,d,rfl⟩;exact nE h
def yX(nm:Str)(f:List PV->Option (PV×Ds))(Fl:DL):DV:=λds=>(Fl ds).bind λl=>(f (.ob J (.ins nm [])::l.map .dat)).bind λr=>(Ky r).bind λc=>U (.ob J c)
set_option tactic.hygienic true in
def YF{f':List PV->Option (PV×Ds)}{CX:rH}{C:Addr}(T:tq c.K u C)(M:Mk c.K C S)(G:gU c.prog c.w c.K c.mg c.base CX N S j9 b9 (iL c.K f'))(hr:eS (N+1) c.A)(hg:Gl c u)(hm:c.mg u=U (.ref C))(r:Binds c.K j9 b9 [])(hx:Passes CX c q9)(ha:jX c Uf (o::Z) b8 h7)(hdb:autoParam (jY u) B0)(he:autoParam (gN c o Z) B0)(hpl:autoParam (pJ c Q Z) B0):
  PX c Uf (.Call (.Name u p) (o::Z) [] Q) (Vn C (iL c.K f') [] q9 b8) (yX u f' h7):=⟨Zk M G hr hg hm r .nil hx ha.p hdb he hpl,by
 intro O D as σ H ds pv E f m q;obtain⟨l,P,m⟩:=A1 m;obtain⟨r0,h2,m⟩:=A1 m;obtain⟨X,h3,m⟩:=A1 m;cases m;obtain⟨w,dr,rfl⟩:=Nx h3;refine ha.t O D as σ H ds l _ f P λvs g Y r1=>λz j hz hdx hne=>?_
 have S1:=f.grow Y;have nas:∀b,U b∈as->∃x,g b=U x:=λb r=>let ⟨_,x,y⟩:=S1.new b r;⟨_,y⟩
 generalize hT:as.filterMap id=RT;have n:∀b,b∈RT↔U b∈as:=λb=>by rw[<-hT,Au];simp
 have I:A5 g (upd g j (.own z)):=A5.new hdx;have B:upd g j (.own z) z=J:=by rw[K1 (λy=>hne y.symm)];exact hz
 have sz:A5 (upd g j (.own z)) (upd (upd g j (.own z)) z (.ins C j [])):=A5.new B;have nz:∀b x,g b=U x->b≠z:=λb x h y=>by rw[y,hz]at h;exact nE h
 refine⟨O++RT,upd g j (.own z),[U z],_,_,_,?_,h2,λas' Hm H' v S' s' r'=>?_⟩
 . have hl:=r1.length;refine⟨by simp[hl],sz,λa h=>?_,λa h=>?_,λN=>if N=0 then[z]else[],λN b h=>?_,λN k' b h L=>?_,λN pv h=>?_⟩
   . have:a=z:=by simpa using h
     subst this;exact⟨B,Cl.i C j [],Q0⟩
   . rcases List.mem_append.mp h with h|h
     obtain⟨x,y⟩:=S1.eD a h;exact⟨x,I _ _ (S1.same _ _ y)⟩;obtain⟨x,y⟩:=nas a ((n a).mp h);exact⟨x,I _ _ y⟩
   . dsimp only at h;split at h;rw[mem_singleton.mp h];exact F5;simp at h
   . dsimp only at h L;split at h
     . split at L;rename_i s F;rw[s,F];simp at L
     simp at h
   . cases N with
     |zero=>
      have L:PV.ob J (OD.ins u [])=pv:=by simpa using h
      rw[<-L];exact⟨z,[z],rfl,.inl rfl,λb r=>r,C,j,[],[],rfl,T.ns,Q0,.nil⟩
     |succ N=>
      simp only[D8,pL,V3,R9,Hg,Function.comp,ro]at h;obtain⟨d,h3,rfl⟩:=h;obtain⟨v,y1,V⟩:=r1.get h3;refine⟨v,by simp[y1],V.same (fj λb e s F k=>⟨λy=>?_,λy=>?_,sz _ _ (I _ _ k)⟩)⟩
      . rcases List.mem_append.mp y with y|y
        exact s y;exact F ((n b).mp y)
      . have:b=z:=by simpa using y
        exact nz b e k this
 . obtain⟨v',R,y1,_,V,y3⟩:=S'.slot 0 (.ob w X) rfl;have t:z=v':=by simpa using y1
   subst t;have ev:v=.non:=by cases r';rfl
   refine⟨ev,q _ H' (Y.trans ((I.trans S'.same).trans s')) ⟨z,R,rfl,.inl rfl,λb r=>?_,y3.same (fj λb e s F k=>⟨λy=>s (iA _ y),λy=>?_,s' _ _ k⟩) λb _ e y=>s' _ _ y⟩⟩;have:=(S'.new b (V b r)).1;exact Y.free (I.free this)
   . rcases List.mem_append.mp y with y|y
     obtain⟨b',q1,q2⟩:=mem_map.mp y;cases q2;exact F (V b q1)
     . exact s (Q3 _ ((n b).mpr y))⟩
end
set_option tactic.hygienic true in
def HM(b:Bool)(l:Addr)(xs:Array w9):
  Meets (Builtin.«enumerate.__new__» ⟨[.type "enumerate",.ref l],[]⟩) (λ_ R s=>kH b s.heap l xs /\
   R (.ok (.ret (.ref (s.heap.push (qB b l)).objs.size))) {s with heap:=(s.heap.push (qB b l)).push {cls:=.type "enumerate",data:=.fields #[.none,.bool U',.ref (hz s),rawInt 0,.none,.none]}}):=
 .of_wp λe w A R s h=>by
  obtain⟨j,g,d,i,m⟩:=s;obtain⟨f,h⟩:=h;have:=sub_enumerate;have a:=f
  wp_walk using wc a
  refine wpAny_stack_any λk=>E6 ?_;split
  . rename_i c _ _ _ _ _;cases(c==FY "enumerate")
    . wp_walk using wc a
      exact⟨_,rfl,h⟩
    . wp_walk using wc a
      exact⟨_,rfl,h⟩
  . wp_walk using wc a
    exact⟨_,rfl,h⟩
def Ll{s:A6}(f:kH I s.heap t e8)(h:∀h',IsEnum h' (s.heap.objs.size+1) s.heap.objs.size 0 .none->mF I h' s.heap.objs.size t 0->(∀b o,s.heap.get? b=U o->h'.get? b=U o)->g8 (.ref (s.heap.objs.size+1)) {s with heap:=h'}):
  wpAny (model P z) Y (call (.type "enumerate") [.ref t]) g8 b7 s:=by
 refine callType_new F.called_enumerate A9 (F.typeCall_enumerate_1 _) (F.newCall_enumerate_1 _) (λobj=>F.args_object_init_2 obj _) F.entry_enumerate_new (HM I t e8) ⟨f,?_⟩
 have d:(s.heap.push (qB I t)).objs.size=s.heap.objs.size+1:=gq ..;have e:(qB I t).isFreed=U':=by cases I<;>rfl
 rw[d];have c:IsEnum ((s.heap.push (qB I t)).push {cls:=.type "enumerate",data:=.fields #[.none,.bool U',.ref s.heap.objs.size,rawInt 0,.none,.none]}) (s.heap.objs.size+1) s.heap.objs.size 0 .none:=by have:=W3 (s.heap.push (qB I t)) (o:={cls:=.type "enumerate",data:=.fields #[.none,.bool U',.ref s.heap.objs.size,rawInt 0,.none,.none]}) rfl;rw[d]at this;exact this
 exact⟨⟨_,c,rfl⟩,h _ c (.new (I0 _ (W3 _ e))) λb o x=>I0 _ (I0 _ x)⟩
def a3d{prog:V1}{w:M5}(m:Y.handled=J)(it l:Addr)(c:l≠it)(xs:Array w9):
  Draws prog w Y it [it,l] xs.size (λi v=>xs[i]?=U v) (λi h=>tL I h it l i xs) where
 live:=λi h a=>by
  cases I;exact(Draws.list (prog:=prog) (w:=w) m it l c xs).live i h a
  . obtain⟨o,y,_⟩:=(show h.IsTupleIter it l i/\h.IsTuple l xs from a).1;exact⟨o,y⟩
 frame:=λi h j a u=>a.kept λb o q e=>u b (by rcases q with rfl|rfl<;>simp) o e
 item:=λi s Q E k a p=>by
  refine mI a c (x:=xs[i]) (by simp[k]) λj d n=>?_;refine p _ j s.toks (by simp[k]) ?_ n;have k2:=λo e=>n.extBut l o c e;cases I
  . obtain⟨_,o,g,r⟩:=(show s.heap.IsListIter it l i/\s.heap.IsList l xs from a);exact⟨d,o,k2 o g,r⟩
  . obtain⟨_,o,g,r⟩:=(show s.heap.IsTupleIter it l i/\s.heap.IsTuple l xs from a);exact⟨d,o,k2 o g,r⟩
 done:=λs Q E a t=>pC m a G9 t
def Ite(kd:Bool)(K:B1)(a:Addr):It:=
 ⟨λi H=>∃xs x,gO kd K H a xs/\xs[i]?=U x,
  λi H v H'=>∃p,v=.ref p/\H p=J/\∃x,H'=upd H p (.tup [.int i,x])/\∀xs,gO kd K H a xs->xs[i]?=U x,
  λi H=>∃xs,gO kd K H a xs/\xs.length<=i⟩
def LN{a:Addr}(W:t≠S):
  Turn P z e (.Tuple Z N p) (Ite I e a) [t,S] t (λi h=>(∃d,IsEnum h t S i d)/\mF I h S a i) where
 mem:=K0
 obj:=λi h g c b=>by
  have j:c=t\/c=S:=by simpa using b
  rcases j with rfl|rfl
  obtain⟨d,q⟩:=g.1;exact⟨_,q,λv w=>by cases w⟩;exact g.2.obj
 keep:=λi h m g kk=>by obtain⟨d,q⟩:=g.1;exact⟨⟨d,kk t K0 _ q⟩,g.2.at λo w=>kk S K0 o w⟩
 item:=by
  intro X G hw hK b i f s es H E A B g hg;subst G hw hK;obtain⟨xs,x,C,ex⟩:=hg;obtain⟨l,K,ox⟩:=A.Il C g.2;obtain⟨u,hu,ru⟩:=K.get ex;obtain⟨d,M⟩:=g.1;have L:=B t K0;have r:i<l.toArray.size:=by
   have:i<l.length:=by
    by_cases c:i<l.length;exact c;rw[oZ (Aj A2)]at hu;exact nE hu
   omega
  have V:X.A.in1.handled=J:=A.ok.hd b;have D:Draws X.prog X.w X.A.in1 S [S,a] l.toArray.size (λi v=>l.toArray[i]?=U v) (λi h=>tL I h S a i l.toArray):=a3d V S a (C.x.ne A (B S K0)) l.toArray;refine wpAny_pyNext_enum_itemD D M ox r W (by simp;exact⟨W,(C.x.ne A L).symm⟩) λx' m k G ho R Y hsz hk=>?_
  have ux:x'=u:=by
   have:l.toArray[i]?=U u:=by simpa using hu
   rw[this]at G;cases G;rfl
  subst ux;have Q:=A.G8.fresh O8;have I1:Inv X f es H {s with heap:=m,toks:=k+1}:=A.vK (ch:=[t,S]) (λc o b w=>hk c o (λq=>b (by simp[q])) (λq=>b (by simp[q])) w) (λc b=>B c p7)
  have I2:Inv X f es (upd H (hz s) (.tup [.int i,x])) {s with heap:=m,toks:=k+1}:=I1.JP Q (oN A.lt) (.inr A.sz)
   (λn c w q=>by obtain⟨vv,q2⟩:=A.cell n c w;exact absurd q2.lt (by rw[q];exact bf _))
   (λO hp q=>absurd (K2 (A.pin O hp).1) (by rw[q];exact bf _))
   ⟨by show 2<=D6;rw[fw];decide,[.int i k,x'],.cons ⟨_,rfl⟩ (.cons ru .nil),⟨_,Y,rfl,_,rfl⟩⟩
  refine⟨_,rfl,wpAny_letOwnedTupleGo_enum ho λh2 z2 b2=>?_⟩
  have uz:∀c,c∈[t,S]->(upd H (hz s) (.tup [.int i,x])) c=J:=λc b=>by
   have r:c<(hz s):=by
    have j:c=t\/c=S:=by simpa using b
    rcases j with rfl|rfl
    exact(K2 M);obtain⟨o,w,_⟩:=g.2.obj;exact K2 w
   rw[K1 (X3 r)];exact(B c b).1
  have I3:Inv X f es (upd H (hz s) (.tup [.int i,x])) {s with heap:=h2,toks:=k+1}:=Inv.turned (s:={s with heap:=m,toks:=k+1}) I2 (λc o b w=>b2.extBut c o b w) (uz t K0) L.2.1 L.2.2.2.1 L.2.2.2.2.1 L.2.2.2.2.2;refine⟨.ref (hz s),_,I3,rfl,⟨_,rfl,Q,x,rfl,λxs' y=>?_⟩,⟨⟨_,z2⟩,?_⟩,uz⟩;rw[y.inj A C];exact ex
  . have it':mF I m S a (i+1):=by
      cases I;exact(show m.IsListIter S a (i+1)/\_ from R).1;exact(show m.IsTupleIter S a (i+1)/\_ from R).1
    exact it'.at λo q=>b2.extBut _ _ W.symm q
 done:=by
  intro X G hw hK b i f s es H E A B g hg;subst G hw hK;obtain⟨xs,C,hend⟩:=hg;obtain⟨l,K,ox⟩:=A.Il C g.2;obtain⟨d,M⟩:=g.1;have:=K.length;have Q:s.TypeIs (.ref t) "enumerate":=⟨_,M,rfl⟩;refine B4 (zS (pa Q Qr (oW Qr Q F.entry_enumerate_next ?_ (F.args_enumerate_next_1 _))));show wpAny _ _ (field (.ref t) 2 >>= _) _ _ _;refine B4 (dE M rfl rfl ?_);refine B4 (pC (A.ok.hd b) ox (by simp;simp_all) λm x T y=>?_)
  obtain⟨o,ho,j⟩:=y;refine B4 (wpAny_isInstance ⟨o,ho,j⟩ isSubtype_stop ?_);refine E6 ⟨rfl,?_⟩;exact A.vK (ch:=[S]) (λc o b w=>T c o (λq=>b (by simp[q])) w) (λc b=>B c (by
   have:c=S:=by simpa using b
   simp[this]))
 self:=λ_ _ _ _ _ g h=>by obtain⟨d,q⟩:=g.1;exact wpAny_pyIter_enum q h
section
def Om(K:B1)(ta:TA):TI:=λσ H R=>ta σ H λvs H1=>∃a kd,vs=[.ref a]/\(∃xs,gO kd K H1 a xs)/\R (Ite kd K a) H1
def boot_enumerate:ig "enumerate" = U (.type "enumerate"):=by decide +kernel
def SK(F:Gl c "enumerate")(a:c.mg "enumerate" = J)(v:PA c [o] b8)(hs:autoParam (W2 [o] c.env=[(U',eval o c.env)]) B0):
  PI c (.Tuple Z N j4) (.Call (.Name "enumerate" p) [o] [] Q) (Om c.K b8):=by
 intro X s m H R I h;refine Call_ (qw I F a boot_enumerate (AG (G5 (v Q X s m H _ I h) λz d ⟨G,l,g,w,n⟩=>?_) (by rw[hs];rfl) (by rfl)));obtain⟨x,L,e,⟨M,t⟩,q⟩:=n;subst e;obtain⟨u,e,y⟩:=vals1 w;subst e;cases y;obtain⟨z,D⟩:=g.Z9 t;refine Ll D λA j B C=>?_;refine wpAny_pyIter_enum j ?_;have E:Inv c X m l {d with heap:=A}:=g.kept C;refine⟨(hz d)+1,_,_,_,l,rfl,E,LN (by show @Ne Nat _ _;simp[*]),⟨⟨_,j⟩,B⟩,λb r=>?_,q⟩
 have i:b=(hz d)+1\/b=(hz d):=by simpa using r
 have f:(hz d)<=b:=by
  rcases i with e|e<;>rw[e]
  exact vw _ _;exact K5 _
 exact g.xH f (g.G8.fresh f)
theorem sN:∀(l:List l5) (k:Int) (i:Nat),(Y6 k l)[i]?=(l[i]?).map λd=>.tuple [.int (k+(i:Nat)),d]
 | [],k,i=>by rfl
 |d::r,k,0=>by simp[Y6]
 |d::r,k,i+1=>by have:=sN r (k+1) i;simp only[Y6,pL];rw[this,show k+1+i=k+((i+1:Nat)) by lia]
def xN:∀(l:List l5) (k:Int),(Y6 k l).length=l.length:=by
 intro l_;induction l_ with
 |nil=>
  intro k;exact rfl
 |cons d r ih_=>
  intro k;rw[Y6,J4,ih_,J4]
set_option tactic.hygienic true in
def SG(Y:Gl c "enumerate")(E:c.mg "enumerate" = J)(m:jX c I [o] b8 h7)(hs:autoParam (W2 [o] c.env=[(U',eval o c.env)]) B0):
  zi c I (.Tuple Z N j4) (.Call (.Name "enumerate" p) [o] [] Q) (Om c.K b8) (Y4 sO h7):=⟨SK Y E m.p hs,by
 intro O e W G H v h R S b q;obtain⟨l,h1,b⟩:=A1 b;refine m.t O e W G H v l _ S h1 λvs D w fr=>?_;unfold sO at b;split at b
 . rename_i C;obtain⟨K,hl,b⟩:=A1 b;cases b;cases fr with
   |cons r P=>
    cases P;obtain⟨o,B,f,rfl,n,u⟩:=r.Z9 hl;refine⟨o,B,rfl,⟨f,G3.Z9 n⟩,q _ D w λH' g i=>?_⟩;have X:=g.Z9 (yO.Z9 n);have:=u.length;rw[xN];refine⟨λs=>⟨f,f[i]'dC,X,M6 _⟩,λs=>⟨f,X,by simp[*]⟩,λx V y s=>?_⟩;obtain⟨pp,t,d,x',T,F⟩:=y;subst t;subst T;obtain⟨A,L,a⟩:=u.get' (F f X);refine⟨A5.new d,.tuple [.int i,A],by rw[sN,L];simp,λvb j M=>?_⟩;refine .tup (Y7.of (P0.mpr ⟨λz=>?_,λz=>?_,Q0⟩)) (.cons (.int _) (.cons (uB a g (A5.new d) j) .nil));obtain⟨k,z⟩:=M _ z;rw[g _ _ z]at d;exact nS d;obtain⟨_,k,z⟩:=j _ z;rw[z]at d;exact nS d
 . exact nE b⟩
end
noncomputable def Ef(l:List c8):List (Str×c8):=l.map λx=>(X2,x)
def a4t(l:List c8):(Ef l).map (·.2)=l:=by delta Ef;rw[V3];exact List.map_id l
def IP(l:List c8):(Ef l).length=l.length:=C8 _
def TAF(K:B1)(t:TA)(F:Ds->Option (List PF)):Prop:=
 ∀(O:List Addr) (B6:Hp) (as:As) (σ:St) (H:Hp) (ds:Ds) (fs:List PF) (Q:List V->Hp->Prop),DS K O B6 as σ H ds->F ds=U fs->(∀vs H' R,A5 H H'->(∀b∈R,H b=J)->R5 K (C9 H' (R.map U++as) O) H' (Ef vs) (Ef fs) R->Q vs H')->t σ H Q
structure PAF(X:Cx)(es:List Expr)(t:TA)(F:Ds->Option (List PF)):Prop where
 p:PA X es t
 t:TAF X.K t F
noncomputable def a2f:Ds->Option (List PF):=λ_=>U []
def Lc(Fl:Ds->Option (List PF)):DV:=λds=>(Fl ds).bind λl=>if l.length<=1000000 then U (.ob J (.seq Uf (Ef l)))else J
def Zr:PAF c [] rP a2f:=⟨lG,by intro O a e f H g l Q S d q;cases d;exact q [] H [] (A5.refl H) (λb X=>absurd X G9) .nil⟩
def YE{Fl:Ds->Option (List PF)}(h:PAF c Z b8 Fl):PX c Uf (.List Z p) (Rr b8) (Lc Fl):=⟨MS h.p,by
 intro O d s j H k pv Q S X q;obtain⟨l,n,X⟩:=A1 X;obtain⟨w,X⟩:=K8 X;cases X;refine h.t O d s j H k l _ S n λr A R i v f=>⟨?_,λt a=>?_⟩;have:=f.len;rw[IP,IP]at this;rw[this];exact qj w
 . refine q _ _ (i.trans (A5.new a)) ⟨t,t::R,rfl,.inl rfl,λb e=>?_,Ef r,R,rfl,λz=>?_,by rw[a4t];exact Q0,f.same (fj λb o m x g=>⟨m,λz=>?_,A5.new a _ _ g⟩) λb _ o z=>A5.new a _ _ z⟩
   . rcases List.mem_cons.mp e with rfl|e
     exact i.free a;exact v b e
   . obtain⟨u,_,y⟩:=f.at t z
     simp_all
   . rcases List.mem_cons.mp z with z|z
     . cases z
       simp_all
     . exact x z⟩
def R5.pos(t:R5 e m y j6 i8 O):∀{k:Nat},i8[k]?=U (u,.own T) ->
  ∃a xs,j6[k]?=U (u,.ref a)/\y a=U (.lst xs)/\a∈O/\∀{Hv' H':Hp}{C:List l5}{ys:List V},A5 m Hv'->(∀b∈O,b≠a->∀o,y b=U o->H' b=U o)->H' a=U (.lst ys)->E8 e Hv' ys C->R5 e Hv' H' j6 (i8.set k (u,.own C)) O:=by
 induction t with
 |nil=>intro k h;simp at h
 | @dat H x d j6 i8 O F t q=>
  intro k h;cases k with
  |zero=>simp at h
  |succ k=>
   obtain⟨a,xs,R,s,f,r⟩:=q (by simpa using h);exact⟨a,xs,by simpa using R,s,f,λK c j g=>.dat (F.same K) (r K c j g)⟩
 | @own H w B E j6 i8 O v A i t q=>
  intro k h;cases k with
  |zero=>
   have G:(H,PF.own E)=(u,PF.own T):=by simpa using h
   cases G;exact⟨w,B,rfl,v,F5,λK c j g=>.own j g i (t.same K λb p=>c b (F8 _ p) λz=>i (z▸p))⟩
  |succ k=>
   obtain⟨a,xs,R,s,f,r⟩:=q (by simpa using h);exact⟨a,xs,by simpa using R,s,F8 _ f,λK c j g=>.own (c w F5 (λz=>i (z▸f)) _ v) (A.same K) i (r K (λb p=>c b (F8 _ p)) j g)⟩
 | @dct H w D I j6 i8 O v A i t q=>
  intro k h;cases k with
  |zero=>simp at h
  |succ k=>
   obtain⟨a,xs,R,s,f,r⟩:=q (by simpa using h);exact⟨a,xs,by simpa using R,s,F8 _ f,λK c j g=>.dct (c w F5 (λz=>i (z▸f)) _ v) (A.same K) i (r K (λb p=>c b (F8 _ p)) j g)⟩
section
variable{j}
end
def R5.snoc{n:Str}(h:xi e m y L k8 O)(t:R5 e m y j6 i8 j5)(d:∀b∈O,b∉j5):∃R',R5 e m y (j6++[(n,L)]) (i8++[(n,k8)]) R'/\∀b,b∈R'↔b∈O\/b∈j5:=by
 induction t with
 |nil=>exact⟨O++[],R5.cons h (λb _=>by simp) .nil,λb=>by simp⟩
 |dat q t f=>
  obtain⟨R',K,c⟩:=f d;exact⟨R',.dat q K,c⟩
 | @own o a s l j6 i8 j5 i k j t f=>
  obtain⟨R',K,c⟩:=f λb g z=>d b g (F8 _ z);refine⟨a::R',.own i k (λz=>?_) K,λb=>?_⟩
  . rcases(c a).mp z with z|z
    exact d a z F5;exact j z
  . rw[K6,K6,c];constructor
    . rintro(z|z|z);exact .inr (.inl z);exact .inl z;exact .inr (.inr z)
    . rintro(z|z|z);exact .inr (.inl z);exact .inl z;exact .inr (.inr z)
 | @dct o a r u j6 i8 j5 i k j t f=>
  obtain⟨R',K,c⟩:=f λb g z=>d b g (F8 _ z);refine⟨a::R',.dct i k (λz=>?_) K,λb=>?_⟩
  . rcases(c a).mp z with z|z
    exact d a z F5;exact j z
  . rw[K6,K6,c];constructor
    . rintro(z|z|z);exact .inr (.inl z);exact .inl z;exact .inr (.inr z)
    . rintro(z|z|z);exact .inr (.inl z);exact .inl z;exact .inr (.inr z)
def DS.wr(S:DS e O m q B y G)(hd:G[N]?=U (U (.ob k9 (.seq Uf i8))))(M:i8[i9]?=U (i6,.own T)):
  ∃v vs a xs,B[N]?=U (U (.ref v))/\y v=U (.lst vs)/\vs[i9]?=U (.ref a)/\vs.length=i8.length/\y a=U (.lst xs)/\E8 e (C9 y q O) xs T/\∀{A:Hp}{ys:List V}{H:List l5},A5 y A->E8 e (C9 A q O) ys H->DS e O m q B (upd A a (.lst ys)) (G.set N (U (.ob k9 (.seq Uf (i8.set i9 (i6,.own H)))))):=by
 have c:∀{d:List (Str×V)}{a:Addr},d[i9]?=U (i6,.ref a)->(d.map (·.2))[i9]?=U (.ref a):=λ{d a} z=>by rw[R9,z];rfl
 have L:∀{w:Hp}{d:List (Str×V)}{i8:List (Str×PF)}{R:List Addr}{i9:Nat}{a:Addr}{xs:List V}{T:List l5},R5 e w y d i8 R->i8[i9]?=U (i6,.own T)->d[i9]?=U (i6,.ref a)->y a=U (.lst xs)->E8 e w xs T:=by
  intro w d i8 R i9 a xs T h;induction h generalizing i9 with
  |nil=>intro z;simp at z
  |dat hd t j=>
   intro K c f;cases i9 with
   |zero=>simp at K
   |succ i9=>exact j (by simpa using K) (by simpa using c) f
  |own X s x t j=>
   intro K c f;cases i9 with
   |zero=>
    obtain⟨_,rfl⟩:=K;obtain⟨_,rfl⟩:=c;rw[X]at f;cases f;exact s
   |succ i9=>exact j (by simpa using K) (by simpa using c) f
  |dct X s x t j=>
   intro K c f;cases i9 with
   |zero=>simp at K
   |succ i9=>exact j (by simpa using K) (by simpa using c) f
 obtain⟨v,R,n,ew,hR,d,R',rfl,nv,s,x⟩:=S.slot N _ hd;obtain⟨a,xs,I,p2,p3,_⟩:=x.pos M;refine⟨v,d.map (·.2),a,xs,n,s,c I,by rw[C8,x.len],p2,L x M I p2,λ{A ys H} P dy=>?_⟩
 have Y:=S.grow P;obtain⟨rg,r1,r2,Q⟩:=Y.fg;obtain⟨v',R2,i,E,D,k,r,rfl,g,p,F⟩:=Q N _ hd;rw[n]at i;cases i;have l:=P _ _ s;rw[p]at l;obtain⟨C,xs',q1,q2,Z,q4⟩:=F.pos M;have ea:C=a:=by have z:=c q1;rw[HO.lst.inj (Y9 l),c I]at z;cases z;rfl
 subst ea;have ne:v≠C:=λz=>g (z▸Z);exact Y.vL (u:=Cl.l ys) hd r1 r2 Q (D C (F8 _ Z)) λsm=>⟨v,v::r,n,E,D,k,r,rfl,g,by rw[K1 ne];exact p,q4 sm (λb _ nb o z=>by rw[K1 nb];exact z) Q0 (dy.same sm)⟩
def xr(i:Nat)(k:Int)(ds:Ds):Option (Option Addr×List (Str×PF)×Str×Nat×List l5):=match ds[i]? with
 |some (U (.ob w (.seq Uf fs)))=>(uA fs.length k).bind λr=>match fs[r]? with
  |some (n,.own l)=>U (w,fs,n,r,l)
  |_=>J
 |_=>J
set_option tactic.hygienic true in
def DW(h:xr N a9 G=U (k9,i8,u,i9,T)):G[N]?=U (U (.ob k9 (.seq Uf i8)))/\uA i8.length a9=U i9/\i8[i9]?=U (u,.own T):=by
 unfold xr at h;split at h
 . rename_i f c b;obtain⟨g,d,h⟩:=A1 h;split at h;rename_i e j a;cases h;exact⟨b,d,a⟩;exact nE h
 exact nE h
section
variable{r:Expr}
end
section
variable{H:Hp}
end
section
variable{H:Hp}
end
section
variable{K:B1}{mg:Str->Option w9}{H:Hp}
end
section
variable{K:B1}{mg:Str->Option w9}
end
noncomputable def Cx.marked(X:Cx)(ea:Addr):Cx:={X with A:=X.A.mark (U (.ref ea)),calm:=U',xe:=λ_ _=>False}
section
variable{H:Hp}
end
section
variable{H:Hp}
end
section
def Nv:zj c "str.startswith" (λx xs H Q=>∃z y,x=.str z/\xs=[.str y]/\Q (.bl (vi z y)) H):=by intro pins s σ H x xs v us Q I rx rxs h;obtain⟨z,y,rfl,rfl,q⟩:=h;obtain⟨t,rfl⟩:=rx;obtain⟨u,rfl,t2,rfl⟩:=vals1 rxs;exact SC.startswith ⟨.bl _,H,I,rfl,q⟩
def Tp:zj c "str.zfill" (λx xs H Q=>∃z i,x=.str z/\xs=[.int i]/\PadOk i=Uf/\Q (.str (Txt.zfill z i)) H):=by intro pins s σ H x xs v us Q I rx rxs h;obtain⟨z,i,rfl,rfl,hp,q⟩:=h;obtain⟨t,rfl⟩:=rx;obtain⟨u,rfl,t2,rfl⟩:=vals1 rxs;exact SC.zfill hp λt' k=>⟨.str _,H,I.tok k,⟨t',rfl⟩,q⟩
noncomputable def jg(x y:Str):List Str:=match sU x y 0 x.length 1 with
 |i::_=>[Aq x 0 i,y,Aq x (i+y.length) x.length]
 | []=>[x,X2,X2]
def ZF:zj c "str.partition" (λx xs H Q=>∃z y,x=.str z/\xs=[.str y]/\(y.length==0)=U'/\z.length<=D6/\∀p,H p=J->Q (.ref p) (upd H p (.tup ((jg z y).map V.str)))):=by
 intro pins s σ H x xs v us Q I rx rxs h;obtain⟨z,y,rfl,rfl,hy,hz,q⟩:=h;obtain⟨t,rfl⟩:=rx;obtain⟨u,rfl,t2,rfl⟩:=vals1 rxs;refine lW Qm (oJ _ _ _) F.entry_str_partition (F.args_str_partition_2 _ _) (meets_str_partition z y t t2 hy hz) ?_;have hf:H s.heap.objs.size=J:=I.G8.fresh (K5 _);have q':=q _ hf;unfold jg at q';cases ho:sU z y 0 z.length 1 with
 |nil=>
  rw[ho]at q';refine⟨.ref s.heap.objs.size,_,I.laid (t':=s.toks+1) (o:=.tup [.str z,.str X2,.str X2]) (λb ob q=>I0 _ q) (K5 _) ?_,rfl,q'⟩;exact⟨(show 3<=D6 by decide),_,.cons ⟨t,rfl⟩ (.cons ⟨_,rfl⟩ (.cons ⟨_,rfl⟩ .nil)),uW _ _⟩
 |cons i r=>
  rw[ho]at q';refine⟨.ref s.heap.objs.size,_,I.laid (t':=s.toks+1+1) (o:=.tup [.str (Aq z 0 i),.str y,.str (Aq z (i+y.length) z.length)]) (λb ob q=>I0 _ q) (K5 _) ?_,rfl,q'⟩;exact⟨(show 3<=D6 by decide),_,.cons ⟨_,rfl⟩ (.cons ⟨_,rfl⟩ (.cons ⟨_,rfl⟩ .nil)),uW _ _⟩
theorem BD:∀{ts:List Str}{us:List w9},Vals (ts.map V.str) us->∃l:List (Str×Tok),us=strValues l/\l.map (·.1)=ts
 | [],_,h=>by cases h;exact⟨[],rfl,rfl⟩
 |a::r,_,h=>by
  cases h with
  |cons h1 h2=>
   obtain⟨t,rfl⟩:=h1;obtain⟨l,rfl,e⟩:=BD h2;exact⟨(a,t)::l,rfl,by rw[D8,e]⟩
def ZG:zj c "str.join" (λx xs H Q=>∃z a ts,x=.str z/\xs=[.ref a]/\N6 c.K H a (ts.map V.str)/\jr z ts=Uf/\Q (.str (aN z ts)) H):=by intro pins s σ H x xs v us Q I rx rxs h;obtain⟨z,a,ts,rfl,rfl,hs,G8,q⟩:=h;obtain⟨t,rfl⟩:=rx;obtain⟨u,rfl,ru⟩:=vals1 rxs;cases ru;obtain⟨its,r',pl,hz⟩:=I.list hs;obtain⟨l,e,hl⟩:=BD r';have pl':=pl.isList;rw[e]at pl';exact SC.join (l:=l) pl' hl G8 λt' k=>⟨.str _,H,I.tok k,⟨t',rfl⟩,q⟩
def FU(K:B1)(r:V->List V->Hp->VK->Prop)(f:l5->List l5->Option PV):Prop:=
 ∀(O:List Addr) (va:As) (H:Hp) (z:Str) (xs:List V) (ds:List l5) (pv:PV) (Q:VK),pq H va O->E8 K (C9 H va O) xs ds->f (.str z) ds=U pv->(∀w H',A5 H H'->RX K O va H H' w pv->Q w H')->r (.str z) xs H Q
variable{r:V->List V->Hp->VK->Prop}
def a4h{Fl:Ds->Option (List l5)}{f:l5->List l5->Option PV}(slot:Slot "str" u m7)(hty:typeOf (.builtin m7)=pure (.type "method_descriptor"))(hm:zj c m7 r)(hr:FU c.K r f)(hs0:∀d l pv,f d l=U pv->∃z,d=.str z)(ho:PX c I o g v9)(ha:jX c I (E::Z) b8 Fl)(bm:autoParam (HB c o u p E Z Q) qM):
  PX c I (.Call (.Attribute o u p) (E::Z) [] Q) (Di c.K "str" r g b8) (aa f v9 Fl):=
 ⟨yt F.plainAttrs_str slot hty hm ho.p ha.p bm,by
 intro O B6 as σ H ds pv X S hf q;unfold aa at hf;cases h1:v9 ds with
 |none=>rw[h1]at hf;cases hf
 |some x=>
  cases h2:Fl ds with
  |none=>rw[h1,h2]at hf;cases hf
  |some l=>
   rw[h1,h2]at hf;simp only[S7]at hf;refine ho.t O B6 as σ H ds x _ S h1 λv H1 e1 r1=>?_;have d1:=r1.dt S.dm;obtain⟨z,ez⟩:=hs0 _ _ _ hf;rw[ez]at hf d1;cases d1;refine⟨rfl,ha.t O B6 as σ H1 ds l _ (S.grow e1) h2 λvs H2 e2 r2=>?_⟩
   exact hr O (cD I as) H2 z vs l pv X ((S.grow e1).grow e2).dm r2 hf λw H3 e3 r3=>q w H3 ((e1.trans e2).trans e3) (r3.back (e1.trans e2))⟩
noncomputable def kg:l5->List l5->Option PV
 | .str z,[.str y]=>U (.dat (.bool (vi z y)))
 |_,_=>J
noncomputable def findD:l5->List l5->Option PV
 | .str z,[.str y]=>U (.dat (.int (Txt.find z y)))
 |_,_=>J
noncomputable def qh:l5->List l5->Option PV
 | .str z,[.int i]=>if PadOk i=Uf then U (.dat (.str (Txt.zfill z i)))else J
 |_,_=>J
def sj:l5->List l5->Option PV
 | .str z,[.str y]=>if (y.length==0)=U'/\z.length<=1000000 then U (.dat (.tuple ((jg z y).map .str)))else J
 |_,_=>J
noncomputable def strsOf:List l5->Option (List Str)
 | []=>U []
 | .str z::r=>(strsOf r).bind λl=>U (z::l)
 |_=>J
def du:l5->List l5->Option PV
 | .str z,[.list l]=>(strsOf l).bind λts=>if jr z ts=Uf then U (.dat (.str (aN z ts)))else J
 |_,_=>J
def HG(h:kg d6 T=U d8):∃z,d6=.str z:=by
 unfold kg at h;split at h;exact⟨_,rfl⟩;cases h
def JG(h:qh d6 T=U d8):∃z,d6=.str z:=by
 unfold qh at h;split at h;exact⟨_,rfl⟩;cases h
def MW(h:sj d6 T=U d8):∃z,d6=.str z:=by
 unfold sj at h;split at h;exact⟨_,rfl⟩;cases h
def NV(h:du d6 T=U d8):∃z,d6=.str z:=by
 unfold du at h;split at h;exact⟨_,rfl⟩;cases h
def QU:FU e (λx xs H Q=>∃z y,x=.str z/\xs=[.str y]/\Q (.bl (vi z y)) H) kg:=by
 intro O va H z xs ds pv Q D hx hf q;unfold kg at hf;split at hf;rename_i z' y K;cases K;cases hf;obtain⟨x,rfl,h⟩:=hx.inv1;cases h;exact⟨z,y,rfl,rfl,q _ H (A5.refl H) (Dt.bl _)⟩;cases hf
def Ya:FU e (λx xs H Q=>∃z i,x=.str z/\xs=[.int i]/\PadOk i=Uf/\Q (.str (Txt.zfill z i)) H) qh:=by
 intro O va H z xs ds pv Q D hx hf q;unfold qh at hf;split at hf
 . rename_i z' i K;cases K;split at hf;rename_i hp;cases hf;obtain⟨x,rfl,h⟩:=hx.inv1;cases h;exact⟨z,i,rfl,rfl,hp,q _ H (A5.refl H) (Dt.str _)⟩;cases hf
 cases hf
theorem xO{K:B1}{H:Hp}:∀l:List Str,E8 K H (l.map V.str) (l.map .str)
 | []=>.nil
 |a::r=>.cons (.str a) (xO r)
def a0G:FU e (λx xs H Q=>∃z y,x=.str z/\xs=[.str y]/\(y.length==0)=U'/\z.length<=D6/\∀p,H p=J->Q (.ref p) (upd H p (.tup ((jg z y).map V.str)))) sj:=by
 intro O va H z xs ds pv Q D hx hf q;unfold sj at hf;split at hf
 . rename_i z' y K;cases K;split at hf;rename_i hp;cases hf;obtain⟨x,rfl,h⟩:=hx.inv1;cases h;exact⟨z,y,rfl,rfl,hp.1,C3 hp.2 (by decide),λp hp=>q _ _ (A5.new hp) (tU D hp (xO _))⟩;cases hf
 cases hf
theorem E8.strs{K:B1}{H:Hp}:∀{l:List l5}{xs:List V}{ts:List Str},E8 K H xs l->strsOf l=U ts->xs=ts.map V.str
 | [],_,_,.nil,e=>by cases e;rfl
 |d::r,_,ts,.cons (x:=x) h t,e=>by
  cases h with
  |str z=>
   have e':((strsOf r).bind λl=>U (z::l))=U ts:=e
   cases h2:strsOf r with
   |none=>rw[h2]at e';cases e'
   |some js=>
    rw[h2]at e';cases e';rw[t.strs h2];rfl
  |_=>cases e
def a0I:FU e (λx xs H Q=>∃z a ts,x=.str z/\xs=[.ref a]/\N6 e H a (ts.map V.str)/\jr z ts=Uf/\Q (.str (aN z ts)) H) du:=by
 intro O va H z xs ds pv Q D hx hf q;unfold du at hf;split at hf
 . rename_i z' l K;cases K;cases h1:strsOf l with
   |none=>rw[h1]at hf;cases hf
   |some ts=>
    rw[h1]at hf;simp only[S7]at hf;split at hf
    . rename_i hp;cases hf;obtain⟨x,rfl,h⟩:=hx.inv1;cases h with
      |lst hs ht=>
       have ex:=ht.strs h1;subst ex;exact⟨z,_,ts,rfl,rfl,G3.seq hs,hp,q _ H (A5.refl H) (Dt.str _)⟩
    cases hf
 cases hf
end
noncomputable def Its(x:Str):It:=⟨λi _=>i<x.cps.size,λi H v H'=>H'=H/\∃c,x.cps[i]?=U c/\v=.str ⟨#[c]⟩,λi _=>x.cps.size<=i⟩
def Rk(x:Str)(t:Tok)(it:Addr):Turn P z e o (Its x) [it] it (λi h=>h.IsStrIter it (cN x) x t i) where
 mem:=by simp
 obj:=λi h st b hb=>by
  have K:b=it:=by simpa using hb
  subst K;obtain⟨a,K,c,d⟩:=st;exact⟨a,K,λv w=>by rw[d]at w;cases w⟩
 keep:=λi h h' st k=>by obtain⟨a,K,r⟩:=st;exact⟨a,k it (by simp) a K,r⟩
 item:=by
  intro X hP hw hK hc i pins s σ H E I hf st hg;subst hP hw hK;obtain⟨f0,f1,f2,f3,f4,f5⟩:=hf it (by simp)
  have hg':i<x.cps.size:=hg;have hx:x.cps[i]?=U x.cps[i]:=Array.getElem?_eq_getElem hg';have fin:∀h',h'.IsStrIter it (cN x) x t (i+1)->oO it s.heap h'->∃u,U (qV ⟨#[x.cps[i]]⟩ s.toks)=U u/\wpAny (model X.prog X.w) X.A (Ag o (.ref it) u) (λ_ s2=>∃y H',Inv X pins σ H' s2/\RelV y u/\(Its x).Lv i H y H'/\s2.heap.IsStrIter it (cN x) x t (i+1)/\∀b∈[it],H' b=J) E {s with heap:=h',toks:=s.toks+1}:=λh' st' sb=>by
   have I1:Inv X pins σ H {s with heap:=h',toks:=s.toks+1}:=I.turned (λb a hb K=>(sb.2 b hb).trans K) f0 f1 f3 f4 f5;obtain⟨a,K,c,d⟩:=id st';refine⟨_,rfl,CH (n:=cN x) (s:={s with heap:=h',toks:=s.toks+1}) K c d (by unfold cN;split<;>decide) ⟨.str ⟨#[x.cps[i]]⟩,H,I1,⟨_,rfl⟩,⟨rfl,_,hx,rfl⟩,st',λb hb=>(hf b hb).1⟩⟩
  cases ha:x.cps.all (· < 128)with
  |true=>
   have et:cN x = "str_ascii_iterator":=by unfold cN;rw[A3 ha]
   rw[et]at st fin;exact wpAny_pyNext_ascii_item st hx λh' st' sb=>by rw[et];exact fin h' st' sb
  |false=>
   have et:cN x = "str_iterator":=by unfold cN;rw[A4 (by rw[ha];decide)]
   rw[et]at st fin;exact wpAny_pyNext_wide_item st hx λh' st' sb=>by rw[et];exact fin h' st' sb
 done:=by
  intro X hP hw hK hc i pins s σ H E I hf st hg;subst hP hw hK;obtain⟨f0,f1,f2,f3,f4,f5⟩:=hf it (by simp)
  have hx:x.cps[i]?=J:=Array.getElem?_eq_none hg;cases ha:x.cps.all (· < 128)with
  |true=>
   have et:cN x = "str_ascii_iterator":=by unfold cN;rw[A3 ha]
   rw[et]at st;exact wpAny_pyNext_ascii_end (I.ok.hd hc) st hx λh' eb=>⟨rfl,I.turned (t':=s.toks) (λb a hb K=>eb b a hb K) f0 f1 f3 f4 f5⟩
  |false=>
   have et:cN x = "str_iterator":=by unfold cN;rw[A4 (by rw[ha];decide)]
   rw[et]at st;exact wpAny_pyNext_wide_end (I.ok.hd hc) st hx λh' eb=>⟨rfl,I.turned (t':=s.toks) (λb a hb K=>eb b a hb K) f0 f1 f3 f4 f5⟩
 self:=λA i s Q E st h=>by
  cases ha:x.cps.all (· < 128)with
  |true=>
   have et:cN x = "str_ascii_iterator":=by unfold cN;rw[A3 ha]
   rw[et]at st;exact wpAny_pyIter_striter_ascii st h
  |false=>
   have et:cN x = "str_iterator":=by unfold cN;rw[A4 (by rw[ha];decide)]
   rw[et]at st;exact wpAny_pyIter_striter_wide st h
noncomputable def signs(z:Str):List l5:=z.cps.toList.map λc=>.str ⟨#[c]⟩
def part_of(h:cQ b5 u7):∃l:Option (Int×Tok),b5=partValue l/\l.map (·.1)=u7:=by
 cases h with
 |none=>exact⟨J,rfl,rfl⟩
 |int i t=>exact⟨U (i,t),rfl,rfl⟩
noncomputable def a1w:V->Option Int->Option Int->Hp->VK->Prop:=λx lo hi H Q=>∃z,x=.str z/\z.length<=D6/\Q (.str (lU z lo hi)) H
def a1m:tJ c a1w:=by intro pins s σ H x v vl vu lo hi sl Q I rx hs pl pu h;obtain⟨z,rfl,hz,q⟩:=h;obtain⟨t,rfl⟩:=rx;obtain⟨l,rfl,el⟩:=part_of pl;obtain⟨u,rfl,eu⟩:=part_of pu;refine⟨"str",_,F.slot_str_getitem.lookup,oJ _ _ _,?_⟩;subst el eu;exact wpAny_getItem_str_slice (l:=l) (u:=u) (st:=J) hs rfl (post_val_or_str ⟨C3 (Txt.slice_le z _ _) hz,λt' k=>⟨.str _,H,I.tok k,⟨t',rfl⟩,q⟩⟩)
def RK(K:B1):V->Option Int->Option Int->Hp->VK->Prop:=λx lo hi H Q=>rSl K x lo hi H Q\/a1w x lo hi H Q
def a1p:tJ c (RK c.K):=a1o.or a1m
def K4:l5->Option Int->Option Int->Option PV
 | .str z,lo,hi=>if z.length<=1000000 then U (.dat (.str (lU z lo hi)))else J
 |d,lo,hi=>Io d lo hi
def a3H:R3X e (RK e) K4:=by
 intro O va H x lo hi d pv Q D hx hf q;unfold K4 at hf;split at hf
 . split at hf;rename_i z hz;cases hf;cases hx;exact .inr ⟨z,rfl,C3 hz (by decide),q _ H (A5.refl H) (Dt.str _)⟩;cases hf
 exact .inl (a5m O va H x lo hi d pv Q D hx hf q)
noncomputable def Vw:List V->Hp->VK->Prop:=λxs H Q=>∃z n,xs=[.str z]/\zW z=U n/\z.length<=640/\Q (.int n) H
def OT:ag c (.type "int") Vw:=by intro pins s σ H xs us Q I r h;obtain⟨z,n,rfl,hn,hl,q⟩:=h;obtain⟨u,rfl,t,rfl⟩:=vals1 r;exact PySem.W.KIN.call_text hn hl ⟨.int n,H,I.tok _,⟨_,rfl⟩,q⟩
noncomputable def sG:List l5->Option PV
 | [.str z]=>if z.length<=640 then(zW z).bind λn=>U (.dat (.int n))else J
 |_=>J
def a0L:iS e Vw sG:=by
 intro O va H xs ds pv Q D hx hf q;unfold sG at hf;split at hf
 . rename_i z;split at hf
   . rename_i hl;cases hn:zW z with
     |none=>rw[hn]at hf;cases hf
     |some n=>
      rw[hn]at hf;cases hf;obtain⟨x,rfl,h⟩:=hx.inv1;cases h;exact⟨z,n,rfl,hn,hl,q _ H (A5.refl H) (Dt.int _)⟩
   cases hf
 cases hf
noncomputable def DM(neg:Bool):R2:=λx y H Q=>∃i j,x=.str i/\y=.str j/\Q (.bl (if neg then !Txt.contains j i else zJ j i)) H
def a2k:Q7 c (P6 .In) (DM U'):=λpins s σ H x y v u Q I rx ry h=>Nb pins s σ H x y v u Q I rx ry h
def MZ:Q7 c (P6 .NotIn) (DM Uf):=λpins s σ H x y v u Q I rx ry h=>DY pins s σ H x y v u Q I rx ry h
noncomputable def cY:l5->l5->Option PV
 | .str i,.str j=>U (.dat (.bool (zJ j i)))
 |_,_=>J
noncomputable def W8:l5->l5->Option PV
 | .str i,.str j=>U (.dat (.bool (!Txt.contains j i)))
 |_,_=>J
def a3P:Y0 e (DM U') cY:=by
 intro O va H x y d K pv Q D hx hy hf q;unfold cY at hf;split at hf;cases hf;cases hx;cases hy;exact⟨_,_,rfl,rfl,q _ H (A5.refl H) (Dt.bl _)⟩;cases hf
def QV:Y0 e (DM Uf) W8:=by
 intro O va H x y d K pv Q D hx hy hf q;unfold W8 at hf;split at hf;cases hf;cases hx;cases hy;exact⟨_,_,rfl,rfl,q _ H (A5.refl H) (Dt.bl _)⟩;cases hf
def KP(z:Str):M8 (.str z)=U':=rfl
noncomputable def Z5(f g:l5->l5->Option PV):l5->l5->Option PV:=λd e=>match f d e with
 |some pv=>U pv
 |none=>g d e
noncomputable def uc(f g:List l5->Option PV):List l5->Option PV:=λl=>match f l with
 |some pv=>U pv
 |none=>g l
def Y0.or{r':R2}{g:l5->l5->Option PV}(h:Y0 e j7 j8)(h':Y0 e r' g):Y0 e (λx y H Q=>j7 x y H Q\/r' x y H Q) (Z5 j8 g):=by
 intro O va H x y d K pv Q D hx hy hf q;unfold Z5 at hf;split at hf;rename_i pv' he;cases hf;exact .inl (h O va H x y d K pv Q D hx hy he q);exact .inr (h' O va H x y d K pv Q D hx hy hf q)
def iS.or{r':List V->Hp->VK->Prop}{f g:List l5->Option PV}(h:iS e m8 f)(h':iS e r' g):iS e (λxs H Q=>m8 xs H Q\/r' xs H Q) (uc f g):=by
 intro O va H xs ds pv Q D hx hf q;unfold uc at hf;split at hf;rename_i pv' he;cases hf;exact .inl (h O va H xs ds pv Q D hx he q);exact .inr (h' O va H xs ds pv Q D hx hf q)
def rV(K:B1)(neg:Bool):R2:=λx y H Q=>My K neg x y H Q\/DM neg x y H Q
def Eb:Q7 c (P6 .In) (rV c.K U'):=Nc.or a2k
def BU:Q7 c (P6 .NotIn) (rV c.K Uf):=DZ.or MZ
def JH:Y0 e (rV e U') (Z5 inD cY):=a5n.or a3P
def CS:Y0 e (rV e Uf) (Z5 bu W8):=Yd.or QV
def a2O(K:B1)(tl:TE):TI:=λσ H R=>tl σ H λx H1=>(∃a,x=.ref a/\(((∃xs,N6 K H1 a xs)/\R (Itl K a) H1)\/((∃xs,Y7 K H1 a xs)/\R (Itt K a) H1)))\/∃z,x=.str z/\R (Its z) H1
def a1V(hl:PE c E g):PI c o E (a2O c.K g):=by
 intro pins s σ H R I h;have hw:=hl pins s σ H _ I h;refine G5 hw λv s1 ⟨y,H1,I1,r1,q1⟩=>?_
 rcases q1 with q1|⟨z,rfl,q⟩
 . obtain⟨a,rfl,(⟨⟨xs,hq⟩,q⟩|⟨⟨xs,hq⟩,q⟩)⟩:=q1
   . cases r1;obtain⟨its,rv,p,hz⟩:=I1.list hq;refine GQ p.isList ?_;refine⟨s1.heap.objs.size,[s1.heap.objs.size],_,_,H1,rfl,I1.kept (t':=s1.toks) λb X E=>I0 _ E,LM a _,⟨_,W3 _ rfl,rfl,rfl⟩,λb hb=>?_,q⟩
     have E:b=s1.heap.objs.size:=by simpa using hb
     subst E;exact I1.xH (K5 _) (I1.G8.fresh (K5 _))
   . cases r1;obtain⟨its,rv,p,hz⟩:=I1.tuple hq;refine wpAny_pyIter_tuple (show s1.heap.IsTuple a its.toArray from p) ?_;refine⟨s1.heap.objs.size,[s1.heap.objs.size],_,_,H1,rfl,I1.kept (t':=s1.toks) λb X E=>I0 _ E,JN a _,⟨_,W3 _ rfl,rfl,rfl⟩,λb hb=>?_,q⟩
     have E:b=s1.heap.objs.size:=by simpa using hb
     subst E;exact I1.xH (K5 _) (I1.G8.fresh (K5 _))
 . obtain⟨t,rfl⟩:=r1;refine wpAny_pyIter_strU ?_;refine⟨s1.heap.objs.size,[s1.heap.objs.size],_,_,H1,rfl,I1.kept (t':=s1.toks) λb X E=>I0 _ E,Rk z t _,⟨_,W3 _ rfl,rfl,rfl⟩,λb hb=>?_,q⟩
   have E:b=s1.heap.objs.size:=by simpa using hb
   subst E;exact I1.xH (K5 _) (I1.G8.fresh (K5 _))
def ly:l5->Option (List l5)
 | .str z=>U (signs z)
 |d=>dq d
def X7(F:Ds->Option PV):Ds->Option (List l5):=λds=>(F ds).bind λpv=>ly pv.d
def Zg{fr:Bool}(h:PX c fr E g v9):zi c fr o E (a2O c.K g) (X7 v9):=⟨a1V h.p,by
 intro O B6 as σ H ds items R S hf q;unfold X7 at hf;cases h1:v9 ds with
 |none=>rw[h1]at hf;cases hf
 |some pv=>
  rw[h1]at hf;simp only[S7]at hf;by_cases hs:∃z,pv.d=.str z
  . obtain⟨z,ez⟩:=hs;rw[ez]at hf;cases hf;refine h.t O B6 as σ H ds pv _ S h1 λv H1 e1 r1=>?_
    have d:=r1.dt S.dm;rw[ez]at d;cases d;have hl:(signs z).length=z.cps.size:=by simp[signs]
    refine .inr ⟨z,rfl,q _ H1 e1 λH' e' i=>?_⟩;refine⟨λhi=>(show i<z.cps.size by simp_all),λhi=>(show z.cps.size<=i by simp_all),λx H'' y hi=>?_⟩;obtain⟨e3,X,hc,ev⟩:=y;subst e3 ev;refine⟨A5.refl _,.str ⟨#[X]⟩,?_,λvb hv _=>.str _⟩;unfold signs;rw[R9,Array.getElem?_toList,hc];rfl
  . have hf':dq pv.d=U items:=by revert hf hs;generalize pv.d=d;intro hf hs;cases d<;>first|exact hf|exact absurd ⟨_,rfl⟩ hs
    refine h.t O B6 as σ H ds pv _ S h1 λv H1 e1 r1=>.inl ?_
    have d:=r1.dt S.dm;generalize pv.d=z at d hf';cases d with
    |lst hs ht=>
     rename_i a xs l;cases hf';have hl:=ht.length;refine⟨a,rfl,.inl ⟨⟨xs,G3.seq hs⟩,q _ H1 e1 λH' e' i=>?_⟩⟩;have hs':N6 c.K H' a xs:=e'.seq (yO.seq hs);refine⟨λhi=>⟨xs,xs[i]'(by simp_all),hs',M6 _⟩,λhi=>⟨xs,hs',by simp_all⟩,λx H'' y hi=>?_⟩;obtain⟨e3,y⟩:=y;subst e3;obtain⟨d,ed,dd⟩:=ht.get' (y xs hs');exact⟨A5.refl _,d,ed,λvb hv _=>uB dd e' (A5.refl _) hv⟩
    |tup hs ht=>
     rename_i a xs l;cases hf';have hl:=ht.length;refine⟨a,rfl,.inr ⟨⟨xs,G3.iF hs⟩,q _ H1 e1 λH' e' i=>?_⟩⟩;have hs':Y7 c.K H' a xs:=e'.iF (yO.iF hs);refine⟨λhi=>⟨xs,xs[i]'(by simp_all),hs',M6 _⟩,λhi=>⟨xs,hs',by simp_all⟩,λx H'' y hi=>?_⟩;obtain⟨e3,y⟩:=y;subst e3;obtain⟨d,ed,dd⟩:=ht.get' (y xs hs');exact⟨A5.refl _,d,ed,λvb hv _=>uB dd e' (A5.refl _) hv⟩
    |_=>cases hf'⟩
end L2
namespace L2
open PySem PySem.Spec PyProof.Rows PySem.NumText
noncomputable abbrev lz(z:Str):List Nat:=z.cps.toList
def Z2{x y:Str}(h:lz x=lz y):x=y:=by obtain⟨a⟩:=x;obtain⟨b⟩:=y;have:a=b:=Array.toList_inj.mp h;rw[this]
def aL(x y:Str):lz (x++y)=lz x++lz y:=by
 show(x.cps++y.cps).toList=_;simp
def J3(x:Str):x.length=(lz x).length:=by simp[Str.length]
def a4y(l:List Nat):lz ⟨l.toArray⟩=l:=by simp
def a2v(c:Nat):lz ⟨#[c]⟩=[c]:=rfl
noncomputable def cX(n:Nat):List Nat:=(Nat.toDigits 10 n).map Char.toNat
def bJ(i:Int):List Nat:=if i<0 then 45::cX i.natAbs else cX i.natAbs
def a2w(n:Nat):lz (p5 (aO (n:Int)))=cX n:=PySem.W.KIN.signs_num n
def dR(i:Int):lz (p5 (aO i))=bJ i:=by
 unfold bJ;split
 . rename_i h;obtain⟨n,rfl⟩:∃n:Nat,i=zE n:=by
    cases i with
    |ofNat n=>exact absurd h (by simp)
    |negSucc n=>exact⟨n,rfl⟩
   rw[show lz (p5 (aO (zE n)))=(aO (zE n)).toList.map Char.toNat from signs_ofString _];have e:aO (zE n) = "-"++Nat.repr (n+1):=rfl;rw[e,String.toList_append,T2,Nat.toList_repr];rfl
 . rename_i h;obtain⟨n,rfl⟩:=Int.eq_ofNat_of_zero_le (show 0<=i by simp_all);exact a2w n
def Uo{c:Char}(h:c.isDigit=Uf):48<=c.toNat/\c.toNat<=57:=by unfold Char.isDigit at h;rw[dG]at h;have h1:=jn h.1;have h2:=jn h.2;exact⟨by simpa using UInt32.le_iff_toNat_le.mp h1,by simpa using UInt32.le_iff_toNat_le.mp h2⟩
def aE(n:Nat):AllDigits (cX n):=by intro c hc;obtain⟨ch,hch,e⟩:=mem_map.mp hc;rw[<-e];exact Uo (Nat.isDigit_of_mem_toDigits (by decide) (by decide) hch)
def xu(n:Nat):digitsVal (cX n)=n:=PySem.W.KIN.val_back n
def sx{n k:Nat}(hk:0<k):(cX n).length<=k↔n<10^k:=by unfold cX;rw[C8];exact Nat.length_toDigits_le_iff (by decide) hk
def IK(n:Nat):cX n≠[]:=λh=>by have h1:=xu n;rw[h]at h1;have h2:n=0:=h1.symm;subst h2;exact absurd h (by decide)
noncomputable def Plain(cs:List Nat):Prop:=AllDigits cs/\cs≠[]/\(cs.head?≠U 48\/cs=[48])
def Ku(n:Nat):Plain (cX n):=by
 refine⟨aE n,IK n,?_⟩;by_cases h0:n=0;subst h0;exact .inr rfl
 . refine .inl λhz=>?_
   cases e:cX n with
   |nil=>exact IK n e
   |cons c r=>
    rw[e]at hz;have hc:c=48:=by simpa using hz
    subst hc;have hv:=xu n;have hd:=aE n;rw[e]at hv hd;have h2:digitsVal r=n:=hv;have hl:=(sx (n:=n) (k:=r.length) (by
     cases r with
     |nil=>exact absurd h2.symm (by simpa [digitsVal]using h0)
     |cons _ _=>exact Nat.succ_pos _))
    have hlt:digitsVal r<10^r.length:=by
     have key:∀(l:List Nat) (a:Nat),AllDigits l->l.foldl (λacc c=>acc*10+(c-48)) a<(a+1)*10^l.length:=by
      intro l;induction l with
      |nil=>intro a _;simp
      |cons d l ih=>
       intro a hl;have hd:=hl.head;have:=ih (a*10+(d-48)) hl.tail;rw[GA];refine L9 this ?_;rw[J4,Nat.pow_succ,Nat.mul_comm (10^l.length) 10,<-Nat.mul_assoc];exact Ql _ (by lia)
     have:=key r 0 hd.tail;simpa [digitsVal]using this
    have h3:=hl.mpr (by rw[<-h2];exact hlt);rw[e,J4]at h3;lia
end L2
namespace L2
open PySem PySem.Spec PyProof.Rows PySem.NumText PySem.StrLaws
variable{X:Cx}{i Y:Nat}{e o:Expr}{p a Q:Pos}{b k:TE}{d:Hp}{f:Addr}{g:B1}{h:Bool}{j:Ds->Option PV}{x M:Str}{l:List Expr}{t:TA}{Z:List (Str×l5)}{T:List (Key×V)}{S:OD->Option (List (Str×l5))}{R:Ds}{P:DV}{N:l5}{v:V}{L:OD->List (Str×l5)->OD}{I:TS}{G:List Stmt}{E:As}{D:St}{C:Ds->Option (List AV)}{u:w9}{B:DO}{A:ExceptHandler}{z:List ExceptHandler}{y:List Addr}{w:XK}{s:Option Int}{m:List l5}{q:Option Expr}{n:List V}{a9:Option Addr}{b5:V2}{b6:List Str}{b7:Ds->Option (List l5)}
open Builtin.Str (occurrences strSub subAt strSliceIndices)
def JX(x:Str)(hab:i<=Y)(hb:Y<=x.length){u:Option Int}(e:strSliceIndices s u 1 x.length=strSliceIndices (U (i:Int)) (U (Y:Int)) 1 x.length):lz (lU x s u)=((lz x).drop i).take (Y-i):=by
 unfold lU;rw[e];split
 . rename_i h;have hl:(strSliceIndices (U (i:Int)) (U (Y:Int)) 1 x.length).length=x.length:=by simpa using h
   rw[strSliceIndices_plain hab hb,C8,iy]at hl;have ha:i=0:=by lia
   have hb':Y=(lz x).length:=by rw[<-J3];simp_all
   subst ha;rw[Gw,Nat.sub_zero,hb',List.take_length]
 rw[sliced_plain x hab hb,a4y]
def ZJ(x:Str)(i:Nat):lz (lU x (U (i:Int)) J)=(lz x).drop i:=by
 have e:strSliceIndices (U (i:Int)) J 1 x.length=strSliceIndices (U ((min i x.length:Nat):Int)) (U (x.length:Int)) 1 x.length:=by
  unfold strSliceIndices;have h1:¬((i:Int)<0):=by simp_all
  have h2:¬((x.length:Int)<0):=by simp_all
  have h3:¬(((min i x.length:Nat):Int)<0):=by simp_all
  simp only[h1,h2,h3,if_false,show((1:Int)>0)=True from by decide,if_true]
  congr 1
  lia
  . simp_all
 rw[JX x (GL _ _) (K5 _) e];have hl:=J3 x;rw[jq (by rw[rm];exact K5 _)];by_cases h:i<=x.length;rw[Gz h];rw[GI (by lia),Ax (by exact K5 _),Ax (by lia)]
def JT(x:Str)(c:Nat):vi x ⟨#[c]⟩=decide ((lz x).head? = U c):=by
 have h:=subAt_one x c 0;rw[<-List.head?_eq_getElem?]at h;unfold vi;by_cases hc:(lz x).head? = U c;obtain⟨h1,h2⟩:=h.mpr hc;rw[h2,S6 h1,S6 hc];rfl
 . rw[L5 hc];cases h2:subAt x ⟨#[c]⟩ 0 with
   |false=>rw[zX]
   |true=>
    have:¬(0+(⟨#[c]⟩:Str).length<=x.length):=λh1=>hc (h.mp ⟨h1,h2⟩);rw[L5 this];rfl
theorem BW(s sub:Str)(hi:Nat):∀(l:List Nat) (st:Array Nat×Nat),1<=st.fst.size->(forIn l st (occBody s sub hi 1)).run.fst=st.fst
 | [],st,h=>rfl
 |a::l,st,h=>by
  rw[Af];unfold occBody;rw[A4 (by intro z;have:=z.1.1.1;simp_all)];exact BW s sub hi l (st.fst,st.snd) h
theorem occ_first(x:Str)(c:Nat):∀(n a free:Nat),free<=a->(forIn (qZ a n) ((#[]:Array Nat),free) (occBody x ⟨#[c]⟩ x.length 1)).run.fst.toList=(((qZ a n).find? λi=>decide ((lz x)[i]?=U c)).toList)
 | 0,a,free,_=>rfl
 |n+1,a,free,hf=>by
  rw[GJ,Af,rj];have h:=subAt_one x c a;by_cases hc:(lz x)[a]?=U c
  . obtain⟨h1,h2⟩:=h.mpr hc;have e:occBody x ⟨#[c]⟩ x.length 1 a ((#[]:Array Nat),free)=pure (ik ((#[]:Array Nat).push a,a+(⟨#[c]⟩:Str).length)):=by unfold occBody;rw[A3 ⟨⟨⟨by simp,hf⟩,h1⟩,h2⟩]
    rw[e,S6 hc];have:=BW x ⟨#[c]⟩ x.length (qZ (a+1) n) ((#[]:Array Nat).push a,a+(⟨#[c]⟩:Str).length) (by simp);show(forIn (qZ (a+1) n) ((#[]:Array Nat).push a,a+(⟨#[c]⟩:Str).length) (occBody x ⟨#[c]⟩ x.length 1)).run.fst.toList=_;rw[this];rfl
  . have e:occBody x ⟨#[c]⟩ x.length 1 a ((#[]:Array Nat),free)=pure (ik ((#[]:Array Nat),free)):=by unfold occBody;rw[A4 (λz=>hc (h.mp ⟨z.1.2,z.2⟩))]
    rw[e,L5 hc];exact occ_first x c n (a+1) free (by lia)
theorem sL{cs:List Nat}{c:Nat}:∀(n a:Nat),(qZ a n).find? (λi=>decide (cs[i]?=U c))=(if c∈(cs.drop a).take n then U (a+((cs.drop a).idxOf c))else J)
 | 0,a=>by rfl
 |n+1,a=>by
  rw[GJ,rj];cases hd:cs.drop a with
  |nil=>
   have hl:cs.length<=a:=List.drop_eq_nil_iff.mp hd;have h0:cs[a]?=J:=oZ hl;rw[h0,L5 (by simp),sL n (a+1)];rw[Ax (by lia)];simp
  |cons d r=>
   have h0:cs[a]?=U d:=by have:=List.getElem?_drop (xs:=cs) (i:=a) (j:=0);rw[hd]at this;simpa using this.symm
   have hr:cs.drop (a+1)=r:=by
    have:cs.drop (a+1)=(cs.drop a).drop 1:=by rw[List.drop_drop]
    rw[this,hd];rfl
   rw[h0];by_cases hc:d=c;subst hc;rw[S6 rfl];simp
   . rw[L5 (by simpa using hc),sL n (a+1),hr]
     have e1:(c∈(d::r).take (n+1))↔c∈r.take n:=by
      rw[Qe,K6];constructor
      . rintro(z|z);exact absurd z.symm hc;exact z
      exact .inr
     by_cases hm:c∈r.take n
     . rw[A3 hm,A3 (e1.mpr hm),List.idxOf_cons,beq_eq_false_iff_ne.mpr hc,cond_false];show U _=U _
       congr 1
       lia
     rw[A4 hm,A4 (λz=>hm (e1.mp z))]
def ZC(x:Str)(c:Nat):occurrences x ⟨#[c]⟩ 0 x.length 1=if c∈lz x then[(lz x).idxOf c]else[]:=by
 rw[occ_eq,occ_first x c _ 0 0 (K5 _),sL];have hl:=J3 x;rw[Gw,jq (by simp[*]),zK]
 split<;>rfl
def Nz(x:Str)(i j:Nat):lz (strSub x i j)=((lz x).drop i).take (j-i):=by
 show(x.cps.extract i j).toList=_;rw[Array.toList_extract]
def a0r(x:Str)(c:Nat):(jg x ⟨#[c]⟩).map lz=if c∈lz x then[(lz x).take ((lz x).idxOf c),[c],(lz x).drop ((lz x).idxOf c+1)]else[lz x,[],[]]:=by
 unfold jg;rw[ZC];have hl:=J3 x;by_cases h:c∈lz x
 . rw[A3 h,A3 h];show[lz (strSub x 0 _),lz ⟨#[c]⟩,lz (strSub x (_+(⟨#[c]⟩:Str).length) x.length)]=_;rw[Nz,Nz,a2v,Gw,Nat.sub_zero];have e:(⟨#[c]⟩:Str).length=1:=rfl;rw[e,jq (l:=(lz x).drop _) (by rw[rm];exact K5 _)]
 rw[A4 h,A4 h];rfl
def oj(x:Str)(c:Nat):zJ x ⟨#[c]⟩=decide (c∈lz x):=found_one x c
theorem BN:∀l:List (Str×Tok),Vals ((l.map (·.1)).map V.str) (strValues l)
 | []=>.nil
 |(a,t)::r=>.cons ⟨t,rfl⟩ (BN r)
def JU(z y:Str)(hz:z.length<=100000):(lT z y).length<=100002:=by
 unfold lT;split;simp
 . split;simp;have e1:=Qq z y 0 z.length (z.length+1);rw[length_partsBetween];lia
def Tq:zj X "str.split" (λx xs H Q=>∃z y,x=.str z/\xs=[.str y]/\(y.length==0)=U'/\z.length<=100000/\∀p,H p=J->Q (.ref p) (upd H p (.lst ((lT z y).map V.str)))):=by
 intro pins s σ H x xs v us Q I rx rxs h;obtain⟨z,y,rfl,rfl,hy,hz,q⟩:=h;obtain⟨t,rfl⟩:=rx;obtain⟨u,rfl,t2,rfl⟩:=vals1 rxs;have hf:H s.heap.objs.size=J:=I.G8.fresh (K5 _);have q':=q _ hf;have hs:=JU z y hz;have hl:100002<=D6:=by decide
 have fin:∀(l:List (Str×Tok)) (k:Nat),l.map (·.1)=lT z y->EP X pins σ Q (.ref s.heap.objs.size) {s with toks:=k,heap:=s.heap.push {cls:=.type "list",data:=.seq (strValues l).toArray}}:=λl k e=>by
  rw[<-e]at q' hs;refine⟨.ref s.heap.objs.size,_,I.laid (t':=k) (o:=.lst ((l.map (·.1)).map V.str)) (λb ob q=>I0 _ q) (K5 _) ?_,rfl,q'⟩;exact⟨by rw[C8];exact C3 A2 A2,_,0,BN l,W3 _ rfl⟩
 have hn:(QF z (sU z y 0 z.length (z.length+1)) y.length).length<=D6:=by have e1:=Qq z y 0 z.length (z.length+1);rw[length_partsBetween];lia
 cases h1:(decide (z.length<y.length)||decide (Qd z<Qd y))
 . cases hff:(sU z y 0 z.length (z.length+1)).isEmpty
   . refine lW Ai (oJ _ _ _) GO (GV _ _) (meets_str_split_sep z y t t2 h1 hy hff (by exact C3 A2 A9) hn) ?_;show EP X pins σ Q _ {s with toks:=_,heap:=s.heap.push {cls:=.type "list",data:=.seq (strsFrom s.toks (QF z (sU z y 0 z.length (z.length+1)) y.length)).toArray}};rw[strsFrom_eq];exact fin (numbered s.toks _) _ ((numbered_texts _ _).trans ((A4 (ne_true_of_eq_false h1)).trans (A4 (ne_true_of_eq_false hff))).symm)
   exact lW Ai (oJ _ _ _) GO (GV _ _) (meets_str_split_not_found z y t t2 h1 hy hff) (fin [(z,t)] s.toks ((A4 (ne_true_of_eq_false h1)).trans (A3 hff)).symm)
 exact lW Ai (oJ _ _ _) GO (GV _ _) (meets_str_split_cannot_occur z y t t2 h1) (fin [(z,t)] s.toks (A3 h1).symm)
noncomputable def fU:l5->List l5->Option PV
 | .str z,[.str y]=>if (y.length==0)=U'/\z.length<=100000 then U (.own ((lT z y).map .str))else J
 |_,_=>J
def JW{pv:PV}(h:fU N m=U pv):∃z,N=.str z:=by
 unfold fU at h;split at h;exact⟨_,rfl⟩;cases h
def Yc:FU g (λx xs H Q=>∃z y,x=.str z/\xs=[.str y]/\(y.length==0)=U'/\z.length<=100000/\∀p,H p=J->Q (.ref p) (upd H p (.lst ((lT z y).map V.str)))) fU:=by
 intro O va H z xs ds pv Q D hx hf q;unfold fU at hf;split at hf
 . rename_i z' y e;cases e;split at hf;rename_i hp;cases hf;obtain⟨x,rfl,h⟩:=hx.inv1;cases h;exact⟨z,y,rfl,rfl,hp.1,hp.2,λp hp=>q _ _ (A5.new hp) (lD hp (xO _))⟩;cases hf
 cases hf
def FA:ag X (.type "str") (λxs H Q=>∃z,xs=[.str z]/\Q (.str z) H):=by intro pins s σ H xs us Q I r h;obtain⟨z,rfl,q⟩:=h;obtain⟨u,rfl,t,rfl⟩:=vals1 r;exact PySem.P.str_of_str ⟨.str _,H,I,⟨_,rfl⟩,q⟩
noncomputable def vN:List l5->Option PV
 | [.str z]=>U (.dat (.str z))
 |_=>J
def a0F:iS g (λxs H Q=>∃z,xs=[.str z]/\Q (.str z) H) vN:=by
 intro O va H xs ds pv Q D hx hf q;unfold vN at hf;split at hf;cases hf;obtain⟨x,rfl,h⟩:=hx.inv1;cases h;exact⟨_,rfl,q _ H (A5.refl H) (Dt.str _)⟩;cases hf
def a3y(X:Cx)(r:V->Option Int->Option Int->Option Int->Hp->VK->Prop):Prop:=
 ∀(pins:List (Addr×Obj)) (s:A6) (σ:St) (H:Hp) (x:V) (v vl vu vs:w9) (lo hi st:Option Int) (sl:Addr) (Q:VK),Inv X pins σ H s->RelV x v->s.heap.IsSliceOf sl vl vu vs->cQ vl lo->cQ vu hi->cQ vs st->r x lo hi st H Q ->
  ∃T id,typeLookup (.type T) "__getitem__" = pure (U (.builtin id))/\s.TypeIs v T/\wpAny (model X.prog X.w) X.A (lR v (.ref sl)) (EP X pins σ Q) X.xe s
noncomputable def a1c(r:V->Option Int->Option Int->Option Int->Hp->VK->Prop)(te:TE)(tl th ts:TO):TE:=λσ H Q=>te σ H λx H1=>tl σ H1 λl H2=>th σ H2 λu H3=>ts σ H3 λk H4=>r x l u k H4 Q
def MR{hi:Option Expr}{tl th ts:TO}{r:V->Option Int->Option Int->Option Int->Hp->VK->Prop}(hr:a3y X r)(he:PE X e b)(hl:PO X q tl)(hu:PO X hi th)(hst:PO X (U o) ts):PE X (.Subscript e (.Slice q hi (U o) a) p) (a1c r b tl th ts):=by
 intro pins s σ H Q I h;refine Subscript_ (G5 (he pins s σ H _ I h) λv s1 ⟨x,H1,I1,r1,q1⟩=>?_);refine wpAny_Slice (G5 (hl pins s1 σ H1 _ I1 q1) λvl s2 ⟨l,H2,I2,pl,q2⟩=>G5 (hu pins s2 σ H2 _ I2 q2) λvu s3 ⟨u,H3,I3,pu,q3⟩=>G5 (hst pins s3 σ H3 _ I3 q3) λvs s4 ⟨k,H4,I4,ps,q4⟩=>?_);have I5:Inv X pins σ H4 {s4 with heap:=s4.heap.push {cls:=.type "slice",data:=.fields #[vl,vu,vs]}}:=I4.kept (t':=s4.toks) λc ob d=>I0 _ d;obtain⟨T,id,hT,ht,hg⟩:=hr pins {s4 with heap:=s4.heap.push {cls:=.type "slice",data:=.fields #[vl,vu,vs]}} σ H4 x v vl vu vs l u k s4.heap.objs.size Q I5 r1 (PR ..) pl pu ps q4;show wpAny (model X.prog X.w) X.A (subscriptTail e (.Slice q hi (U o) a) v (.ref s4.heap.objs.size)) (EP X pins σ Q) X.xe {s4 with heap:=s4.heap.push {cls:=.type "slice",data:=.fields #[vl,vu,vs]}};exact tail_any (ops:=[v,.ref s4.heap.objs.size]) ht hT hg (by with_unfolding_all rfl)
def a1U{b c d e f:w9}:zp #[u,b,c,d,e,f] (U 0) J (U 2) = #[u,c,e]:=by with_unfolding_all rfl
def a1T{b c d e f:w9}:zp #[u,b,c,d,e,f] (U 1) J (U 2) = #[b,d,f]:=by with_unfolding_all rfl
noncomputable def six{α:Type}:List α->Option Int->Option Int->Option Int->Option (List α)
 | [a,b,c,d,e,f],U lo,J,U 2=>if lo=0 then U [a,c,e]else if lo=1 then U [b,d,f]else J
 |_,_,_,_=>J
def RL(K:B1):V->Option Int->Option Int->Option Int->Hp->VK->Prop:=λx lo hi st H Q=>∃a xs ys,x=.ref a/\N6 K H a xs/\six xs lo hi st=U ys/\∀p,H p=J->Q (.ref p) (upd H p (.lst ys))
def a1n:a3y X (RL X.K):=by
 intro pins s σ H x v vl vu vs lo hi st sl Q I rx hs pl pu ps h;obtain⟨a,xs,ys,rfl,hx,h6,q⟩:=h;cases rx;obtain⟨its,r,ht,hz⟩:=I.list hx;refine⟨"list",_,slot_list_getitem.lookup,ht.isList.typeIs,?_⟩;unfold six at h6;split at h6
 . rename_i A B C D E F lo';cases r with|cons r1 r=>cases r with|cons r2 r=>cases r with|cons r3 r=>cases r with|cons r4 r=>cases r with|cons r5 r=>cases r with|cons r6 r=>
   cases r;split at h6
   . rename_i e0;subst e0;cases h6;refine Ho ht.isList hs pl pu ps (by decide) ?_ (show 6<=D6 by decide);rw[a1U];refine⟨.ref s.heap.objs.size,_,I.laid (t':=s.toks) (o:=.lst [A,C,E]) (λb ob q=>I0 _ q) (K5 _) ?_,rfl,q _ (I.G8.fresh (K5 _))⟩;exact⟨show 3<=D6 by decide,_,0,.cons r1 (.cons r3 (.cons r5 .nil)),W3 _ rfl⟩
   . split at h6
     . rename_i e1;subst e1;cases h6;refine Ho ht.isList hs pl pu ps (by decide) ?_ (show 6<=D6 by decide);rw[a1T];refine⟨.ref s.heap.objs.size,_,I.laid (t':=s.toks) (o:=.lst [B,D,F]) (λb ob q=>I0 _ q) (K5 _) ?_,rfl,q _ (I.G8.fresh (K5 _))⟩;exact⟨show 3<=D6 by decide,_,0,.cons r2 (.cons r4 (.cons r6 .nil)),W3 _ rfl⟩
     cases h6
 cases h6
def AR:l5->Option Int->Option Int->Option Int->Option PV
 | .list l,lo,hi,st=>(six l lo hi st).bind λm=>U (.own m)
 |_,_,_,_=>J
def Yx{l:List l5}{hi st:Option Int}(h:E8 g d n l)(e:six l s hi st=U m):∃ys,six n s hi st=U ys/\E8 g d ys m:=by
 unfold six at e;split at e
 . cases h with|cons h1 h=>cases h with|cons h2 h=>cases h with|cons h3 h=>cases h with|cons h4 h=>cases h with|cons h5 h=>cases h with|cons h6 h=>
   cases h;unfold six;split at e;rename_i z;cases e;exact⟨_,A3 z,.cons h1 (.cons h3 (.cons h5 .nil))⟩
   . rename_i z;split at e;rename_i z1;cases e;exact⟨_,(A4 z).trans (A3 z1),.cons h2 (.cons h4 (.cons h6 .nil))⟩;cases e
 cases e
def R4X(K:B1)(r:V->Option Int->Option Int->Option Int->Hp->VK->Prop)(f:l5->Option Int->Option Int->Option Int->Option PV):Prop:=
 ∀(O:List Addr) (va:As) (H:Hp) (x:V) (lo hi st:Option Int) (d:l5) (pv:PV) (Q:VK),pq H va O->Dt K (C9 H va O) x d->f d lo hi st=U pv->(∀v H',A5 H H'->RX K O va H H' v pv->Q v H')->r x lo hi st H Q
def a3I:R4X g (RL g) AR:=by
 intro O va H x lo hi st d pv Q D hx hf q;cases hx with
 |lst hs ht=>
  rename_i xs l;have hf':((six l lo hi st).bind λm=>U (PV.own m))=U pv:=hf
  cases h1:six l lo hi st with
  |none=>rw[h1]at hf';cases hf'
  |some m=>
   rw[h1]at hf';cases hf';obtain⟨ys,e,hd⟩:=Yx ht h1;exact⟨_,_,ys,rfl,G3.seq hs,e,λp hp=>q _ _ (A5.new hp) (lD hp hd)⟩
 |_=>cases hf
noncomputable def Bo(f:l5->Option Int->Option Int->Option Int->Option PV)(F:Ds->Option PV)(Fl Fh Fs:Ds->Option (Option Int)):Ds->Option PV:=λds=>(F ds).bind λx=>(Fl ds).bind λlo=>(Fh ds).bind λhi=>(Fs ds).bind λst=>f x.d lo hi st
def MB{hi:Option Expr}{tl th ts:TO}{Fl Fh Fs:Ds->Option (Option Int)}(he:PX X h e b j)(hl:FR X q tl Fl)(hh:FR X hi th Fh)(hst:FR X (U o) ts Fs):
  PX X h (.Subscript e (.Slice q hi (U o) a) p) (a1c (RL X.K) b tl th ts) (Bo AR j Fl Fh Fs):=⟨MR a1n he.p hl.p hh.p hst.p,by
 intro O B6 as σ H ds pv Q S hf c;unfold Bo at hf;cases h1:j ds with
 |none=>rw[h1]at hf;cases hf
 |some x=>
  cases h2:Fl ds with
  |none=>rw[h1,h2]at hf;cases hf
  |some l=>
   cases h3:Fh ds with
   |none=>rw[h1,h2,h3]at hf;cases hf
   |some F=>
    cases h4:Fs ds with
    |none=>rw[h1,h2,h3,h4]at hf;cases hf
    |some k=>
     rw[h1,h2,h3,h4]at hf;simp only[S7]at hf;refine he.t O B6 as σ H ds x _ S h1 λv H1 e1 r1=>?_;refine hl.t O B6 as σ H1 ds l _ (S.grow e1) h2 λH2 e2=>?_;refine hh.t O B6 as σ H2 ds F _ ((S.grow e1).grow e2) h3 λH3 e3=>?_;refine hst.t O B6 as σ H3 ds k _ (((S.grow e1).grow e2).grow e3) h4 λH4 e4=>?_;refine a3I O (cD h as) H4 v l F k x.d pv Q ((((S.grow e1).grow e2).grow e3).grow e4).dm ((r1.grow ((e2.trans e3).trans e4)).dt S.dm) hf λw H5 e5 r5=>?_
     exact c w H5 ((((e1.trans e2).trans e3).trans e4).trans e5) (r5.back (((e1.trans e2).trans e3).trans e4))⟩
noncomputable def Xo(i:Nat)(ds:Ds):Nat:=match ds[i]? with
 |some (U (.dat (.list l)))=>l.length+1
 |_=>0
section
variable{K:B1}{mg:Str->Option w9}{H:Hp}
end
noncomputable def fM(k:Str)(es:List (Str×l5)):Option l5:=(es.find? λe=>decide (e.1=k)).map (·.2)
noncomputable def AZ(es:List (Str×l5))(k:Str)(d:l5):List (Str×l5):=if (es.any λe=>decide (e.1=k))=Uf then es.map (λe=>if e.1=k then(e.1,d)else e)else es++[(k,d)]
noncomputable def Ld(es:List (Str×l5))(k:Str):List (Str×l5):=es.filter λe=>decide (e.1≠k)
section
variable{K:B1}
theorem aP.length(h:aP K d T Z):T.length=Z.length:=zU h
def aP.val(h:aP K d T Z)(k:Str):(fM k Z=J/\fS T (.inr k)=J)\/∃v a,fM k Z=U a/\fS T (.inr k)=U v/\Dt K d v a:=by
 unfold aP at h;induction h with
 |nil=>exact .inl ⟨rfl,rfl⟩
 | @cons p q ps qs h t ih=>
  by_cases c:q.1=k
  . have c':p.1=.inr k:=h.1.trans (by rw[c]);exact .inr ⟨p.2,q.2,by simp[fM,rj,c],rM c',h.2⟩
  . have c':¬p.1=.inr k:=λz=>c (zG (h.1.symm.trans z))
    have e1:fM k (q::qs)=fM k qs:=by simp[fM,rj,c]
    rw[e1,rN c'];exact ih
theorem aP.any{Hv:Hp}{kvs:List (Key×V)}{es:List (Str×l5)}(h:aP K Hv kvs es)(k:Str):(kvs.any λe=>decide (e.1=.inr k))=es.any λe=>decide (e.1=k):=by
 unfold aP at h;induction h with
 |nil=>rfl
 | @cons p q ps qs h t ih=>
  rw[gn,gn,ih]
  congr 1
  rw[decide_eq_decide,h.1];exact⟨λz=>zG z,λz=>by rw[z]⟩
def aP.DG(h:aP K d T Z)(k:Str)(hv:Dt K d v N):aP K d (T.map λe=>if e.1=.inr k then(e.1,v)else e) (Z.map λe=>if e.1=k then(e.1,N)else e):=by
 unfold aP at h⊢;induction h with
 |nil=>exact .nil
 | @cons p q ps qs h t ih=>
  rw[D8,D8];refine .cons ?_ ih;by_cases c:q.1=k
  . rw[A3 c,A3 (h.1.trans (by rw[c]))];exact⟨h.1,hv⟩
  . rw[A4 c,A4 (λz=>c (zG (h.1.symm.trans z)))];exact h
def aP.put(h:aP K d T Z)(k:Str)(hv:Dt K d v N):aP K d (putK T (.inr k) v) (AZ Z k N):=by
 unfold putK AZ;rw[h.any k];split;exact h.DG k hv;exact Ga h ⟨rfl,hv⟩
def aP.drop(h:aP K d T Z)(k:Str):aP K d (sP T (.inr k)) (Ld Z k):=by
 unfold aP at h⊢;unfold sP Ld;induction h with
 |nil=>exact .nil
 | @cons p q ps qs h t ih=>
  by_cases c:q.1=k
  . rw[QA (by simp[h.1,c]),QA (by simp[c])];exact ih
  . rw[Qz (by simp[h.1,c]),Qz (by simp[c])];exact .cons h ih
end
structure PD(X:Cx)(i:Nat)(o:Expr)(td:TE)(dec:OD->Option (List (Str×l5)))(enc:OD->List (Str×l5)->OD):Prop where
 p:PE X o td
 t:∀{O:List Addr}{B6:Hp}{as:As}{σ:St}{H:Hp}{ds:Ds}{w:Option Addr}{c:OD}{es:List (Str×l5)}{Q:VK},DS X.K O B6 as σ H ds->ds[i]?=U (U (.ob w c))->dec c=U es ->
  (∀a kvs,H a=U (.dK kvs)->aP X.K (C9 H as O) kvs es ->
   (∀{H2:Hp}{kvs':List (Key×V)}{es':List (Str×l5)},DS X.K O B6 as σ H2 ds->A5 H H2->(∀{Hv':Hp},A5 (C9 H2 as O) Hv'->aP X.K Hv' kvs' es')->DS X.K O B6 as σ (upd H2 a (.dK kvs')) (ds.set i (U (.ob w (enc c es')))))->Q (.ref a) H)->td σ H Q
noncomputable def a5x:OD->Option (List (Str×l5))
 | .dct es=>U es
 |_=>J
noncomputable def encD:OD->List (Str×l5)->OD:=λ_ es=>.dct es
def yu(h:PE X o (O0 i)):PD X i o (O0 i) a5x encD:=⟨h,by
 intro O B6 as σ H ds w c es Q S hd he q;cases c with
 |dct es0=>
  cases he;obtain⟨v,R,e1,e2,e3,kvs,rfl,k1,k2⟩:=S.slot i _ hd;refine⟨_,e1,q v kvs k1 k2 λ{H2 kvs' es'} S2 s k=>?_⟩;obtain⟨rg,m,n,g⟩:=S2.fg;obtain⟨v',R',z1,z2,z3,kvs2,rfl,z4,z5⟩:=g i _ hd;rw[e1]at z1;cases z1;exact S2.vL (u:=Cl.d kvs') hd m n g (z3 _ F5) λsm=>⟨v,[v],e1,z2,z3,kvs',rfl,Q0,k sm⟩
 |ins _ _=>cases he
 |seq _ _=>cases he⟩
def oh(nm f:Str):OD->Option (List (Str×l5))
 | .ins n fs=>if n=nm then(X1 f fs).bind dctP else J
 |_=>J
def Bs(f:Str):OD->List (Str×l5)->OD
 | .ins n fs,es=>.ins n (dO f (.dct es) fs)
 |c,_=>c
def yw{C:Addr}(T:tq X.K x C)(n:gh X.K C M)(h:PE X o (O0 i))(hb:autoParam (HC X o M) B0):PD X i (.Attribute o M p) (Ru X.K (O0 i) M) (oh x M) (Bs M):=⟨MT h hb,by
 intro O B6 as σ H ds w c es Q S hd he q;cases c with
 |dct _=>cases he
 |seq _ _=>cases he
 |ins n0 fs=>
  obtain⟨rfl,he'⟩:=K8 he;obtain⟨a,he,e⟩:=A1 he';have e:=Uq e;subst e;obtain⟨v,R,e1,e2,e3,C',dx,fv,R',rfl,c1,c2,c3⟩:=S.slot i _ hd;have ec:=T.eq c1;subst ec;obtain⟨f,Rf,l1,l2,l3,l4⟩:=c3.look he;cases l2 with
  |dct k1 k2=>
   refine⟨_,e1,v,C',dx,fv,_,rfl,c2,T.cl,n,l1,q _ _ k1 k2 λ{H2 kvs' es'} S2 s k=>?_⟩
   exact S2.a3X (u:=Cl.d kvs') hd he e1 (s _ _ c2) l1 (λd z=>by cases z) λsm=>.dct Q0 (k sm)⟩
noncomputable def pZ:l5->Option Str
 | .str s=>U s
 |_=>J
theorem Dt.pZ{K:B1}{H:Hp}{y:V}{d:l5}{s:Str}(h:Dt K H y d)(e:L2.pZ d=U s):y=kV (.inr s):=by
 cases h with
 |str x=>cases e;rfl
 |_=>cases e
noncomputable def ug(i:Nat)(dec:OD->Option (List (Str×l5)))(ds:Ds):Option ((Option Addr×OD)×List (Str×l5)):=match ds[i]? with
 |some (U (.ob w c))=>(dec c).bind λes=>U ((w,c),es)
 |_=>J
def sv{c:OD}(h:ug i S R=U ((a9,c),Z)):R[i]?=U (U (.ob a9 c))/\S c=U Z:=by
 unfold ug at h;split at h;rename_i w0 c0 hd;obtain⟨es0,e,h⟩:=A1 h;cases h;exact⟨hd,e⟩;cases h
def uE(i:Nat)(dec:OD->Option (List (Str×l5)))(Fk:Ds->Option PV):Ds->Option PV:=λds=>(ug i dec ds).bind λp=>(Fk ds).bind λk=>(pZ k.d).bind λs=>U (.dat ((fM s p.2).getD .none))
def qH(i:Nat)(dec:OD->Option (List (Str×l5)))(Fk Fd:Ds->Option PV):Ds->Option PV:=λds=>(ug i dec ds).bind λp=>(Fk ds).bind λk=>(Fd ds).bind λd=>(pZ k.d).bind λs=>U (.dat ((fM s p.2).getD d.d))
def uD(i:Nat)(dec:OD->Option (List (Str×l5)))(enc:OD->List (Str×l5)->OD)(Fk Fv:Ds->Option PV):Ds->Option Out:=λds=>(ug i dec ds).bind λp=>(Fv ds).bind λv=>(Fk ds).bind λk=>(pZ k.d).bind λs=>if p.2.length<100000 then U (.next (ds.set i (U (.ob p.1.1 (enc p.1.2 (AZ p.2 s v.d))))))else J
def EV(i:Nat)(dec:OD->Option (List (Str×l5)))(enc:OD->List (Str×l5)->OD)(Fk:Ds->Option PV):Ds->Option Out:=λds=>(ug i dec ds).bind λp=>(Fk ds).bind λk=>(pZ k.d).bind λs=>(fM s p.2).bind λ_=>U (.next (ds.set i (U (.ob p.1.1 (enc p.1.2 (Ld p.2 s))))))
def RV(hu:X.A.units+1<U5)(P:PD X i o b S L)(hk:PX X h e k j)(m:M1 X o "get" p e a):PX X h (.Call (.Attribute o "get" p) [e] [] a) (LW b k) (uE i S j):=⟨SU hu P.p hk.p m,by
 intro O B6 as σ H ds pv Q g hf q;obtain⟨⟨⟨w,c⟩,es⟩,h1,hf⟩:=A1 hf;obtain⟨f,h2,hf⟩:=A1 hf;obtain⟨s,h3,hf⟩:=A1 hf;cases hf;obtain⟨hd,he⟩:=sv h1;refine P.t g hd he λl kvs k1 k2 tn=>?_;refine⟨l,rfl,.inl ⟨kvs,.inl k1⟩,hk.t O B6 as σ H ds f _ g h2 λy H1 s1 r1=>?_⟩
 have ey:=(r1.dt g.dm).pZ h3;subst ey;refine⟨fS kvs (.inr s),vI.k (s1 _ _ k1),?_⟩;rcases k2.val s with ⟨l1,l2⟩|⟨w,d,l1,l2,l3⟩
 rw[l2];rw[l1]at q;exact q _ H1 s1 .non
 . rw[l2];rw[l1]at q;exact q _ H1 s1 (l3.same (nk.trans (S3 s1)))⟩
def MC{f:Expr}{tx:TE}{Fd:Ds->Option PV}(hu:X.A.units+1<U5)(P:PD X i o b S L)(hk:PX X h e k j)(hx:PX X h f tx Fd)(m:M2 X o "get" p e f a):PX X h (.Call (.Attribute o "get" p) [e,f] [] a) (LV b k tx) (qH i S j Fd):=⟨SS hu P.p hk.p hx.p m,by
 intro O B6 as σ H ds pv Q l hf q;obtain⟨⟨⟨w,c⟩,es⟩,h1,hf⟩:=A1 hf;obtain⟨g,h2,hf⟩:=A1 hf;obtain⟨x,h4,hf⟩:=A1 hf;obtain⟨s,h3,hf⟩:=A1 hf;cases hf;obtain⟨hd,he⟩:=sv h1;refine P.t l hd he λn kvs k1 k2 tn=>?_;refine⟨n,rfl,.inl ⟨kvs,.inl k1⟩,hk.t O B6 as σ H ds g _ l h2 λy H1 s1 r1=>?_⟩;have ey:=(r1.dt l.dm).pZ h3;subst ey;refine hx.t O B6 as σ H1 ds x _ (l.grow s1) h4 λz H2 s2 r2=>?_
 refine⟨fS kvs (.inr s),vI.k (s2 _ _ (s1 _ _ k1)),?_⟩;rcases k2.val s with ⟨l1,l2⟩|⟨w,d,l1,l2,l3⟩
 rw[l2];rw[l1]at q;exact q _ H2 (s1.trans s2) (r2.dt (l.grow s1).dm)
 . rw[l2];rw[l1]at q;exact q _ H2 (s1.trans s2) (l3.same (nk.trans (S3 (s1.trans s2))))⟩
def MI{Fv:Ds->Option PV}{value:Expr}{tv:TE}(hu:X.A.units+1<U5)(P:PD X i o b S L)(hk:PX X Uf e k j)(hv:PX X Uf value tv Fv)(hs:autoParam (bc value (U (.Subscript o e a)) p.line X.env=pure U') B0):N7 X (.Assign [.Subscript o e a] value p) (Vt b k tv) (uD i S L j Fv):=⟨Zb hu P.p hk.p hv.p hs,by
 intro O B6 as σ H ds D o' f hf q;obtain⟨⟨⟨w,c⟩,es⟩,h1,hf⟩:=A1 hf;obtain⟨x,h4,hf⟩:=A1 hf;obtain⟨d,h2,hf⟩:=A1 hf;obtain⟨s,h3,hf⟩:=A1 hf;split at hf
 . rename_i hl;cases hf;obtain⟨hd,he⟩:=sv h1;refine hv.t O B6 as σ H ds x _ f h4 λz H1 s1 r1=>?_;have S1:=f.grow s1;refine P.t S1 hd he λg kvs k1 k2 tn=>?_;refine hk.t O B6 as σ H1 ds d _ S1 h2 λy H2 s2 r2=>?_
   have ey:=(r2.dt S1.dm).pZ h3;subst ey;have S2:=S1.grow s2;have hl':kvs.length<D6:=by rw[k2.length,fw];have:es.length<100000:=hl;omega
   refine⟨g,_,rfl,Hy.k (s2 _ _ k1) hl',?_⟩;refine q as σ _ (tn S2 s2 λ{Hv'} sm=>aP.put (k2.same ((S3 s2).trans sm)) s ?_);exact(r1.dt f.dm).same ((S3 s2).trans sm)
 . cases hf⟩
def MJ(P:PD X i o b S L)(hk:PX X Uf e k j)(m:M1 X o "pop" p e a)(hs:autoParam (bc (.Call (.Attribute o "pop" p) [e] [] a) J Q.line X.env=pure U') B0):N7 X (.Expr (.Call (.Attribute o "pop" p) [e] [] a) Q) (pw (LS b k)) (EV i S L j):=⟨kh (SQ P.p hk.p m) hs,by
 intro O B6 as σ H ds D o' g hf q;obtain⟨⟨⟨w,c⟩,es⟩,h1,hf⟩:=A1 hf;obtain⟨f,h2,hf⟩:=A1 hf;obtain⟨s,h3,hf⟩:=A1 hf;obtain⟨d0,h4,hf⟩:=A1 hf;cases hf;obtain⟨hd,he⟩:=sv h1;refine P.t g hd he λh kvs k1 k2 tn=>?_;refine⟨h,rfl,.inl ⟨kvs,.inl k1⟩,hk.t O B6 as σ H ds f _ g h2 λy H1 s1 r1=>?_⟩
 have ey:=(r1.dt g.dm).pZ h3;subst ey;have S1:=g.grow s1;rcases k2.val s with ⟨l1,l2⟩|⟨w,d,l1,l2,l3⟩
 have h4':fM s es=U d0:=h4;rw[l1]at h4';cases h4'
 . refine⟨kvs,.inr s,w,s1 _ _ k1,rfl,l2,?_⟩;exact q as σ _ (tn S1 s1 λ{Hv'} sm=>aP.drop (k2.same ((S3 s1).trans sm)) s)⟩
noncomputable def yW:Ds->Option PV:=λ_=>U (.ob J (.dct []))
def RU:PX X h (.Dict [] [] p) LU yW:=⟨SR,by intro O B6 as σ H ds pv Q S hf q;cases hf;intro a hp;exact q _ _ (A5.new hp) ⟨a,[a],rfl,.inl rfl,λb z=>by rw[mem_singleton.mp z];exact hp,[],rfl,Q0,.nil⟩⟩
section
variable{H:Hp}
end
section
variable{T:Addr}
end
section
variable{K:B1}{mg:Str->Option w9}{H:Hp}
end
section
variable{K:B1}{mg:Str->Option w9}
end
section
variable{H:Hp}
end
section
variable{K:B1}{mg:Str->Option w9}{H:Hp}
end
noncomputable def Cx.quiet(X:Cx):Cx:={X with xe:=λ_ _=>False}
section
variable{K:B1}{mg:Str->Option w9}{H:Hp}
end
section
variable{H:Hp}
end
abbrev OXF:=List PV->Option ((PV ⊕ l5)×Ds)
section
variable{K:B1}{mg:Str->Option w9}
end
section
variable{K:B1}{mg:Str->Option w9}{H:Hp}
end
noncomputable def kR(F:Ds->Option (PV×Ds))(G:DO):DO:=λds=>(F ds).bind λr=>match r.1 with
 | .dat (.bool b)=>if b=Uf then U (.next r.2)else G r.2
 |_=>J
def So{F:Ds->Option (PV×Ds)}{body:List Stmt}(h:wZ X e b F)(g:iI X body I B)(f:autoParam (∀c,isTrue e X.env c=(do let v <- c;standAt e.pos;holding [v] (truthy v))) qL):N7 X (.If (.UnaryOp .Not e p) body [] a) (Rt (JQ (tB b)) I JR) (kR F B):=⟨Vz (ME (MD h.p f)) g.p IC,by
 intro O B6 as σ H ds D o S hf q;obtain⟨⟨pv,ds'⟩,h1,hf⟩:=A1 hf;split at hf
 . rename_i G hb;have hb:pv=.dat (.bool G):=hb;subst hb;refine h.t O B6 as σ H ds _ ds' _ S h1 λas' Hm H' v S' s R=>?_
   have R:Dt X.K (C9 H' as' O) v (.bool G):=R;cases R;refine⟨G,rfl,?_⟩;cases G with
   |true=>cases hf;exact q _ _ _ (S'.grow s)
   |false=>exact g.t O B6 as' σ H' ds' D o (S'.grow s) hf q
 . cases hf⟩
noncomputable def Ji(f:l5->l5->Option PV)(F:Ds->Option (PV×Ds))(Fb:DV):DO:=λds=>(F ds).bind λr=>(Fb r.2).bind λy=>(f r.1.d y.d).bind λz=>U (.retO z r.2)
def Kj{tb:TE}{F:Ds->Option (PV×Ds)}{op:CmpOp}{r:R2}{f:l5->l5->Option PV}(a:Q7 X (P6 op) r)(h:Y0 X.K r f)(g:oP op o=U')(d:wZ X e k F)(c:PX X Uf o tb P):N7 X (.Return (U (.Compare e [op] [o] p)) Q) (AO (qi r k tb)) (Ji f F P):=⟨tZ (IE a d.p c.p g),by
 intro O B6 as σ H ds D b S hf q;obtain⟨⟨pv,ds'⟩,h1,hf⟩:=A1 hf;obtain⟨y,h2,hf⟩:=A1 hf;obtain⟨z,h3,hf⟩:=A1 hf;cases hf;refine d.t O B6 as σ H ds _ ds' _ S h1 λas' Hm H' v S' s R=>?_;refine c.t O B6 as' σ H' ds' y _ (S'.grow s) h2 λu H2 s2 R2=>?_;refine h O as' H2 v u pv.d y.d z _ (((S'.grow s).grow s2).dm (fr:=Uf)) ((R.grow s2).dt (S'.dm (fr:=Uf))) (R2.dt ((S'.grow s).dm (fr:=Uf))) h3 λw H3 s3 R3=>?_
 exact q as' σ H2 H3 w ((S'.grow s).grow s2) s3 R3⟩
def NN:PF->Bool
 | .dat d=>LF d
 | .own l=>pK l
 | .dct es=>es.all λe=>LF e.2
theorem aP.lf{K:B1}{c Hv':Hp}{kvs:List (Key×V)}{es:List (Str×l5)}(h:aP K c kvs es)(e:∀a u,c a=U u->¬Cell u->Hv' a=U u):(es.all λe=>LF e.2)=Uf->aP K Hv' kvs es:=by
 unfold aP at h⊢;induction h with
 |nil=>exact λ_=>.nil
 |cons j t b=>intro z;simp only[fN,dG]at z;exact .cons ⟨j.1,Dt.lf e j.2 z.1⟩ (b z.2)
theorem R5.NN{K:B1}{c Hv' H:Hp}{fv:List (Str×V)}{fs:List (Str×PF)}{R:List Addr}(h:R5 K c H fv fs R)(e:∀a u,c a=U u->¬Cell u->Hv' a=U u):(fs.all λf=>L2.NN f.2)=Uf->R5 K Hv' H fv fs R:=by
 induction h with
 |nil=>exact λ_=>.nil
 |dat j t b=>intro z;simp only[fN,dG]at z;exact .dat (Dt.lf e j z.1) (b z.2)
 |own d g i t b=>intro z;simp only[fN,dG]at z;exact .own d (E8.lf e g z.1) i (b z.2)
 |dct d g i t b=>intro z;simp only[fN,dG]at z;exact .dct d (aP.lf g e z.1) i (b z.2)
def YZ(hnx:∀e s,¬X.xe e s)(h:lP X G I):PS X (.Try G (A::z) [] [] p) I:=by
 intro pins s σ H D t q;refine wpAny_Try_except (dW (h pins s σ H D t q) (λf s1 a=>?_) λe s a=>(hnx e s a).elim)
 cases f with
 |next=>exact vk a
 |_=>exact a
def Sd(hnx:∀e s,¬X.xe e s)(h:iI X G I B):N7 X (.Try G (A::z) [] [] p) I B:=⟨YZ hnx h.p,h.t⟩
noncomputable def Vp(a b:Str)(i k:Nat):TE:=λσ H Q=>∃(n:Int) (x:Str),σ[i]?=U (U (.int n))/\n.natAbs.log2<1920/\σ[k]?=U (U (.str x))/\x.length<=100000/\Q (.str (a++p5 (aO n)++b++x)) H
def empty_app(a:Str):X2++a=a:=by
 show Str.mk (#[]++a.cps)=a;rw[Array.empty_append]
def Zm{p3 p4 pos:Pos}(b k:Nat)(hv:PE X e (O0 b))(hu:PE X o (O0 k))(ha:x.length<=1000)(hb:M.length<=1000):PE X (.JoinedStr [.Constant (.str x) i p,.FormattedValue e (-1) J Q,.Constant (.str M) Y p3,.FormattedValue o (-1) J p4] pos) (Vp x M b k):=by
 intro pins s σ H v I h;obtain⟨n,y,hn,hs,hy,hl,q⟩:=h;refine JoinedStr_many (zV ?_);refine GX ⟨?_,zV ?_⟩
 . show(X2++x).length<=D6;rw[vf,fw];show 0+x.length<=_;lia
 . refine Qk (G5 (hv pins _ σ H (λa H1=>a=.int n/\H1=H) (I.tok _) ⟨_,hn,rfl,rfl⟩) λw s1 ⟨a,H1,I1,r1,q1⟩=>?_)
   obtain⟨rfl,rfl⟩:=q1;obtain⟨t,rfl⟩:=r1;have L:(X2++x++p5 (aO n)).length<=10000:=by
    have j:=int_text_length_le (k:=1920) (by decide) hs;rw[vf,vf,PySem.ofString_length];have z:Str.empty.length=0:=rfl;lia
   have L2:(X2++x++p5 (aO n)++M).length<=20000:=by
    rw[vf];lia
   refine formatField_int_small hs ⟨by rw[fw];exact C3 A2 A9,zV ?_⟩;refine GX ⟨by rw[fw];exact C3 A2 A9,zV ?_⟩;refine Qk (G5 (hu pins _ σ H1 (λa H2=>a=.str y/\H2=H1) (((I1.tok _).tok _).tok _) ⟨_,hy,rfl,rfl⟩) λw s2 ⟨a,H2,I2,r2,q2⟩=>?_)
   obtain⟨rfl,rfl⟩:=q2;obtain⟨t,rfl⟩:=r2;have L3:(X2++x++p5 (aO n)++M++y).length<=D6:=by
    rw[vf,fw];lia
   rw[empty_app]at L3⊢;exact formatField_str (λt' tk=>⟨L3,joinParts_nil ⟨.str _,H2,(I2.tok _).tok _,⟨_,rfl⟩,q⟩ L3⟩) (by rw[fw];exact C3 A2 A9)
noncomputable def yZ(a b:Str)(i k:Nat):DV:=λds=>match ds[i]?,ds[k]? with
 |some (U (.dat (.int n))),U (U (.dat (.str x)))=>if n.natAbs.log2<1920/\x.length<=100000 then U (.dat (.str (a++p5 (aO n)++b++x)))else J
 |_,_=>J
def YH{p3 p4 pos:Pos}(b k:Nat)(hv:PE X e (O0 b))(hu:PE X o (O0 k))(ha:x.length<=1000)(hb:M.length<=1000):PX X h (.JoinedStr [.Constant (.str x) i p,.FormattedValue e (-1) J Q,.Constant (.str M) Y p3,.FormattedValue o (-1) J p4] pos) (Vp x M b k) (yZ x M b k):=⟨Zm b k hv hu ha hb,by
 intro O m a y H g pv j S f q;unfold yZ at f;split at f
 . next n z e1 e2=>
   obtain⟨⟨h1,h2⟩,f⟩:=K8 f;cases f;obtain⟨w1,s1,d1⟩:=S.slot b _ e1;obtain⟨w2,s2,d2⟩:=S.slot k _ e2;cases d1;cases d2;exact⟨n,z,s1,h1,s2,h2,q _ H (A5.refl H) (Dt.str _)⟩
 . exact nE f⟩
def CK(i:Nat)(Fk F:DV):DO:=λds=>(Fk ds).bind λk=>(F ds).bind λpv=>match k.d with
 | .int k=>(xr i k ds).bind λx=>if x.2.2.2.2.length<1000000 then U (.next (ds.set i (U (.ob x.1 (.seq Uf (x.2.1.set x.2.2.2.1 (x.2.2.1,.own (x.2.2.2.2++[pv.d]))))))))else J
 |_=>J
section
variable{r:Expr}
def Sn{F:DV}{cpos:Pos}(ho:PE X o (O0 i))(E:PX X Uf r k P)(w:PX X Uf e b F)(hx:autoParam (qN r) By)(bm:autoParam (HB X (.Subscript o r a) "append" Q e [] cpos) qM)(hs:autoParam (bc (.Call (.Attribute (.Subscript o r a) "append" Q) [e] [] cpos) J p.line X.env=pure U') B0):
  N7 X (.Expr (.Call (.Attribute (.Subscript o r a) "append" Q) [e] [] cpos) p) (pw (Di X.K "list" vR (qi (Iy X.K) (O0 i) k) (gw b rP))) (CK i P F):=
 ⟨kh (yt rF Hn Hk uj (CF yH ho E.p hx) (cx w.p lG bm.s) bm) hs,by
 intro O c s h H B D q0 S g q;obtain⟨kv,e3,g⟩:=A1 g;obtain⟨pv,e1,g⟩:=A1 g;split at g
 . rename_i kk z;obtain⟨⟨w',fs,n,r',l⟩,Y,g⟩:=A1 g;obtain⟨G,g⟩:=K8 g;cases g;obtain⟨hd,A,x⟩:=DW Y;obtain⟨f,j,m,W,z1,z2,z3,V,z5,I,_⟩:=S.wr hd x;refine⟨_,z1,?_⟩;refine E.t O c s h H B kv _ S e3 λy H2 d r2=>?_;have C:=r2.dt S.dm;rw[z]at C;cases C;refine .inl ⟨f,j,kk,.ref m,rfl,rfl,N6.of (d _ _ z2),by delta T7;rw[V,A];exact z3,.inl ⟨rfl,W,N6.of (d _ _ z5)⟩,?_⟩;have S2:=S.grow d;refine w.t O c s h H2 B pv _ S2 e1 λv H3 d3 r3=>?_;obtain⟨f',P',a',W',y1,y2,y3,V',y5,I',wr⟩:=(S2.grow d3).wr hd x;rw[z1]at y1;cases y1;have t2:=d3 _ _ (d _ _ z2);rw[y2]at t2;cases t2;rw[z3]at y3;cases y3;have:=I'.length;refine⟨m,W',v,rfl,rfl,y5,L9 (by simp[*]) (qj O8),q s h _ ?_⟩;exact wr (A5.refl _) (I'.append (.cons ((r3.grow (A5.refl _)).dt S2.dm) .nil))
 . exact nE g⟩
end
noncomputable def JZ(i:Nat)(ds:Ds):Option (Option Addr×List (Str×PF)):=match ds[i]? with
 |some (U (.ob w (.seq Uf fs)))=>U (w,fs)
 |_=>J
def Mj{fs:List (Str×PF)}(h:JZ i R=U (a9,fs)):R[i]?=U (U (.ob a9 (.seq Uf fs))):=by
 unfold JZ at h;split at h
 . next a b c=>cases h;exact c
 exact nE h
def CJ(i:Nat)(F:DV):DO:=λds=>(F ds).bind λpv=>(yE pv).bind λp=>(JZ i ds).bind λx=>if x.2.length<1000000 then U (.next (ds.set i (U (.ob x.1 (.seq Uf (x.2++[(X2,p)]))))))else J
def Sm(ho:PE X o (O0 i))(Y:PX X Uf e b P)(bm:autoParam (HB X o "append" a e [] Q) qM)(hs:autoParam (bc (.Call (.Attribute o "append" a) [e] [] Q) J p.line X.env=pure U') B0):
  N7 X (.Expr (.Call (.Attribute o "append" a) [e] [] Q) p) (pw (Di X.K "list" vR (O0 i) (gw b rP))) (CJ i P):=
 ⟨kh (yt rF Hn Hk uj ho (cx Y.p lG bm.s) bm) hs,by
 intro O g as σ H ds D r S k q;obtain⟨pv,h1,k⟩:=A1 k;obtain⟨h,h2,k⟩:=A1 k;obtain⟨⟨w,fs⟩,I,k⟩:=A1 k;obtain⟨hl,k⟩:=K8 k;cases k;have hd:=Mj I;obtain⟨v,R,A,ew,hR,d,R',rfl,V,G,x⟩:=S.slot i _ hd;refine⟨_,A,.inl ⟨rfl,_,N6.of G⟩,?_⟩;refine Y.t O g as σ H ds pv _ S h1 λy H1 s r1=>?_
 obtain⟨Rf,M,k2,k3⟩:=Ja S.dm r1 (.inl h2);obtain⟨S1,ad⟩:=S.adopt s i M k2;obtain⟨rg,N,B,l⟩:=S.fg;obtain⟨rg',g1,g2,W,g4,g5⟩:=ad rg N B l;obtain⟨v0,R0,j,ew0,m,d0,R0',rfl,V0,f,x0⟩:=l i _ hd;rw[A]at j;cases j;have em:d0.map (·.2)=d.map (·.2):=by rw[G]at f;exact(HO.lst.inj (Y9 f)).symm
 have dj:∀F∈Rf,F∉R0':=λF c z=>by obtain⟨u,_,z⟩:=x0.at F z;rw[M F c]at z;exact nE z
 obtain⟨R2,p1,p2⟩:=R5.snoc (n:=X2) k3 (x0.same (lJ s M) λF _ o z=>s _ _ z) dj
 have hv:v∈rg' i:=g5 v (m v F5);have G1:=s _ _ G;have nv:∀F∈R2,F≠v:=λF c z=>by
  subst z;rcases(p2 F).mp c with c|c
  rw[M F c]at G;exact nE G;exact V0 c
 have ln:=x0.len;refine⟨v,_,y,rfl,rfl,G1,L9 (by rw[<-em,C8,ln];exact hl) (qj O8),q (Rf.map U++as) σ _ ?_⟩;rw[<-em];refine S1.vL (u:=Cl.l (d0.map (·.2)++[y])) hd g1 g2 W hv λsm=>⟨v,v::R2,A,ew,λF c=>?_,d0++[(X2,y)],R2,rfl,λz=>nv v z rfl,by rw[Q0,T2];rfl,p1.same sm λF c o z=>by rw[K1 (nv F c)];exact z⟩
 rcases List.mem_cons.mp c with rfl|c
 exact hv
 . rcases(p2 F).mp c with c|c
   exact g4 F c
   . exact g5 F (m F (F8 _ c))⟩
def Xp:PV->Bool
 | .ob _ (.ins _ fs)=>fs.all λf=>NN f.2
 |_=>U'
def lfR(r:PV×Ds):Bool:=(match r.1 with | .dat d=>LF d|_=>U')&&r.2.all λx=>match x with|some pv=>Xp pv|none=>Uf
noncomputable abbrev less(as:As)(a:Addr):As:=as.filter λx=>decide (x≠U a)
def sE{b:Addr}:U b∈less E f↔U b∈E/\b≠f:=by rw[Ac,jo];simp
structure uS(σ:St)(H:Hp)(ds:Ds)(j:Nat)(a:Addr):Prop where
 e:∃(w:Option Addr) (fs:List (Str×PF)) (r:Nat) (n:Str) (li:List l5) (v:Addr) (ws:List V),ds[j]?=U (U (.ob w (.seq Uf fs)))/\fs[r]?=U (n,PF.own li)/\σ[j]?=U (U (V.ref v))/\H v=U (.lst ws)/\ws[r]?=U (V.ref a)
def uS.same{H':Hp}(h:uS D d R i f)(e:A5 d H'):uS D H' R i f:=by obtain⟨w,fs,r,n,li,v,ws,h1,h2,h3,h4,h5⟩:=h.e;exact⟨w,fs,r,n,li,v,ws,h1,h2,h3,e _ _ h4,h5⟩
section
variable{K:B1}{H:Hp}
theorem uS.rg{rg:Nat->List Addr}(h:uS D H R i f)(r3:∀(j:Nat) (pv:PV),R[j]?=U (U pv)->bO K y E H D[j]? (rg j) pv):f∈rg i/\∃xs,H f=U (.lst xs):=by
 obtain⟨w,fs,r,n,li,v,ws,hd,hf,h3,h4,h5⟩:=h.e;obtain⟨v',R2,q,σ,O,B,rr,rfl,g,p,F⟩:=r3 i _ hd;rw[h3]at q;cases q;rw[h4]at p;cases p;obtain⟨C,xs',q1,q2,Z,q4⟩:=F.pos hf;have:C=f:=by
  have z:(B.map (·.2))[r]?=U (.ref C):=by rw[R9,q1];rfl
  rw[h5]at z;cases z;rfl
 subst this;exact⟨O _ (F8 _ Z),_,q2⟩
def DS.a4H(S:DS K y d E D H R){l:List AV}{args:List PV}(hL:uS D H R i f)(hj:i∉N3 l)(ha:rK K (C9 H (less E f) y) D n l)(hp:gT R l=U args)(hn:(N3 l).Nodup):
  ∃Oc Hc ac,DS K Oc Hc ac (n.map U) H (args.map U)/\∀ds X ds',DS K Oc Hc ds (n.map U) X ds'->(ds'.all λx=>match x with|some pv=>Xp pv|none=>Uf)=Uf->∃as2,DS K y d as2 D X (gQ l ds' R)/\∀H' v σ,A5 X H'->LF σ=Uf->RX K Oc ds X H' v (.dat σ)->RX K y as2 X H' v (.dat σ):=by
 obtain⟨rg,r1,r2,r3⟩:=S.fg;obtain⟨l1,l2,l3⟩:=OX ha hp;obtain⟨aj,xa,hxa⟩:=hL.rg r3;have C:∀b,b∈(N3 l).flatMap rg ↔ ∃as∈N3 l,b∈rg as:=λb=>Pq;generalize hR:(N3 l).flatMap rg=RI at C;generalize hT:(E.filterMap id).filter (λb=>decide (b∉RI))=B
 have B6:∀b,b∈B↔U b∈E/\b∉RI:=λb=>by rw[<-hT,Ac,Au,jo];simp
 have g:∀b,b∈RI->U b∈E:=λb F=>by obtain⟨as,_,h⟩:=(C b).mp F;exact r1 as b h
 have aR:f∉RI:=λz=>by obtain⟨as,M,z⟩:=(C f).mp z;exact hj (r2 as i f z aj▸M)
 have aA:=r1 i f aj;generalize hT':B.filter (λb=>decide (b≠f))=B'
 have n':∀b,b∈B'↔b∈B/\b≠f:=λb=>by rw[<-hT',Ac,jo]
 have L:∀(I:List Addr) b,U b∈I.map U↔b∈I:=λI b=>by simp
 have G:∀b o,C9 H (RI.map U) [] b=U o↔b∉RI/\H b=U o:=λb o=>by rw[P0,L];simp
 have e0:∀H,C9 H (RI.map U) (y++B')=C9 H (less E f) y:=λH=>EN λb=>by
  rw[L,oS,n',B6,sE];constructor
  . rintro((h|⟨⟨h,_⟩,h'⟩)|h);exact .inl h;exact .inr ⟨h,h'⟩;exact .inr ⟨g b h,λz=>aR (z▸h)⟩
  . rintro(h|⟨h,h'⟩);exact .inl (.inl h)
    . by_cases c:b∈RI;exact .inr c;exact .inl (.inr ⟨⟨h,c⟩,h'⟩)
 have e0':A5 (C9 H E y) (C9 H (RI.map U) (y++B')):=by rw[e0];exact Z3 (A5.refl H) λb z=>(sE.mp z).1
 refine⟨y++B',C9 H (RI.map U) [],RI.map U,⟨?_,G3,λf h=>?_,λf h=>?_,λk=>match l[k]? with|some (.s as)=>rg as|_=>[],λk b h=>?_,λk k' b h A=>?_,λk pv h=>?_⟩,?_⟩;simp[l1,l2];rw[L]at h;exact⟨by delta C9;rw[A3 (.inr ((L _ _).mpr h))],(S.new f (g f h)).2⟩
 . rcases List.mem_append.mp h with h|h
   obtain⟨o,z⟩:=S.eD f h;exact⟨o,(G f o).mpr ⟨λq=>S.nO (g f q) h,S.same _ _ z⟩⟩;obtain⟨m,p⟩:=(B6 f).mp ((n' f).mp h).1;obtain⟨_,u,z⟩:=S.new f m;exact⟨_,(G f _).mpr ⟨p,z⟩⟩
 . dsimp only at h;split at h;rename_i as M;rw[L,C];exact⟨as,W0.mpr ⟨k,M⟩,h⟩;simp at h
 . dsimp only at h A;split at h
   . rename_i as M;split at A;rename_i i' hi';have:=r2 as i' b h A;subst this;have q1:=cv hn M;rw[cv hn hi']at q1;exact(Y9 q1).symm;simp at A
   simp at h
 . rw[R9]at h;cases t:args[k]? with
   |none=>rw[t]at h;exact nE h
   |some pv0=>
    rw[t]at h;have A:pv0=pv:=by simpa using h
    subst A;rcases l3 k pv0 t with ⟨x,v,a,rfl,z3,z4⟩|⟨as,w,c,v,a,z2,rfl,z3,z4⟩
    exact⟨v,by rw[R9,z3];rfl,by rw[e0];exact z4⟩
    . dsimp only;rw[a];obtain⟨v',I,Q,y2,Y,Z⟩:=r3 as _ z2;rw[z4]at Q;have W:v=.ref v':=by simpa using Q
      subst W;exact⟨v',I,by rw[R9,z3];rfl,.inl rfl,Y,Z.same e0' λ_ _ _ z=>z⟩
 intro ds X ds' P hlf;obtain⟨rg',q1,q2,q3⟩:=P.fg;have hl':ds'.length=l.length:=by have:=P.ls;simp at this;lia
 have na:∀b,U b∈ds->b∉y/\b∉B/\d b=J:=λb F=>by
  have z:=(P.new b F).1;refine⟨λq=>?_,λq=>?_,?_⟩
  . obtain⟨o,O⟩:=S.eD b q;rw[(G b o).mpr ⟨λq'=>S.nO (g b q') q,S.same _ _ O⟩]at z;exact nS z
  obtain⟨m,p⟩:=(B6 b).mp q;obtain⟨_,u,O⟩:=S.new b m;rw[(G b _).mpr ⟨p,O⟩]at z;exact nS z
  . cases O:d b with
    |none=>rfl
    |some o=>
     rw[(G b o).mpr ⟨λq'=>?_,S.same _ _ O⟩]at z;exact nS z;rw[(S.new b (g b q')).1]at O;exact nE O
 have Xa:X f=U (.lst xa):=P.same _ _ ((G f _).mpr ⟨aR,hxa⟩);have ev:∀{Y:Hp},A5 X Y->∀b o,C9 Y ds (y++B') b=U o->¬Cell o->C9 Y (ds++B.map U) y b=U o:=λ{Y} sY b o h nc=>by
  obtain⟨h1,h2,h3⟩:=P0.mp h;refine P0.mpr ⟨λz=>h1 (iA _ z),λz=>?_,h3⟩
  rcases List.mem_append.mp z with z|z
  exact h2 z
  . have zb:=(L _ _).mp z;by_cases c:b=f;subst c;rw[sY _ _ Xa]at h3;cases h3;exact nc (Cl.l xa).2;exact h1 (Q3 _ ((n' b).mpr ⟨zb,c⟩))
 have sm:A5 (C9 H E y) (C9 X (ds++B.map U) y):=fj λb o m p T=>by
  have F:=λz=>p (g b z);refine⟨m,λz=>?_,P.same _ _ ((G b o).mpr ⟨F,T⟩)⟩
  rcases List.mem_append.mp z with z|z
  have:=(P.new b z).1;rw[(G b o).mpr ⟨F,T⟩]at this;exact nS this;exact p ((B6 b).mp ((L _ _).mp z)).1
 refine⟨ds++B.map U,⟨by rw[rY];exact S.ls,λb o h=>P.same _ _ ((G b o).mpr ⟨λq'=>?_,S.same _ _ h⟩),λb h=>?_,S.eD,λi=>match eN l i with|some k=>rg' k|none=>rg i,λi b h=>?_,λi N b h A=>?_,λi pv h=>?_⟩,λH' v σ s lf r=>Dt.lf (ev s) r lf⟩;rw[(S.new b (g b q')).1]at h;exact nE h
 . rcases List.mem_append.mp h with h|h
   exact⟨(na b h).2.2,(P.new b h).2⟩;obtain⟨m,p⟩:=(B6 b).mp ((L _ _).mp h);obtain⟨z,u,O⟩:=S.new b m;exact⟨z,u,P.same _ _ ((G b _).mpr ⟨p,O⟩)⟩
 . dsimp only at h;split at h;exact iA _ (q1 _ b h)
   . rename_i hj;refine Q3 _ ((L _ _).mpr ((B6 b).mpr ⟨r1 i b h,λz=>?_⟩));obtain⟨as,M,z⟩:=(C b).mp z;have:=r2 as i b z h;subst this;obtain⟨k,t⟩:=W0.mp M;rw[cv hn t]at hj;exact nS hj
 . have no:∀(i N k),eN l i=U k->eN l N=J->b∈rg' k->b∈rg N->False:=λi N k hj hj' F hb'=>by
     have z:=q1 k b F;have:b∉RI:=λz=>by obtain⟨as,M,z⟩:=(C b).mp z;have:=r2 as N b z hb';subst this;obtain⟨k,t⟩:=W0.mp M;rw[cv hn t]at hj';exact nS hj'
     exact(na b z).2.1 ((B6 b).mpr ⟨r1 N b hb',this⟩)
   dsimp only at h A;split at h
   . rename_i k t;split at A;rename_i k' j;have:=q2 k k' b h A;subst this;have a:=eo t;rw[eo j]at a;cases a;rfl;rename_i j;exact(no i N k t j h A).elim
   . rename_i t;split at A;rename_i k' j;exact(no N i k' j t A h).elim;exact r2 i N b h A
 . rcases rZ hn hl' h with ⟨m,p⟩|⟨k,w,c,w0,c0,m,p,T,rfl⟩
   . have:eN l i=J:=by
       cases z:eN l i with
       |none=>rfl
       |some k=>exact absurd (W0.mpr ⟨k,eo z⟩) m
     dsimp only;rw[this];refine(r3 i pv p).yn sm (λb F o z=>P.same _ _ ((G b o).mpr ⟨λq=>?_,z⟩)) λb z=>z;obtain⟨as,M,O⟩:=(C b).mp q;have e:=r2 as i b O F;subst e;exact m M
   . dsimp only;rw[cv hn m];have lf:=List.all_eq_true.mp hlf _ (rC T);obtain⟨v',I,Q,y2,Y,Z⟩:=q3 k _ T;obtain⟨v0,R0,x1,x2,_⟩:=r3 i _ p;have t:k<args.length:=by rw[l2];exact(List.getElem?_eq_some_iff.mp m).1
     rcases l3 k _ (M6 t)with ⟨x,v,a,_⟩|⟨as,w',c',v,a,z2,z3,z4,z5⟩
     rw[m]at a;cases a
     . rw[m]at a;cases a;rw[R9,z4]at Q;have W:v=.ref v':=by simpa using Q
       subst W;rw[z5]at x1;have x1':v'=v0:=by simpa using x1
       subst x1';refine⟨v',I,z5,x2,Y,?_⟩;cases c with
       |ins nm fs=>
        obtain⟨C',dx,fv,R',rfl,c1,c2,c3⟩:=Z;exact⟨C',dx,fv,R',rfl,c1,c2,c3.NN (ev (A5.refl X)) lf⟩
       |dct es=>exact nT lf
       |seq b fs=>exact nT lf
end
def TAL(K:B1)(j:Nat)(t:TA)(F:Ds->Option (List AV)):Prop:=
 ∀(O:List Addr) (B6:Hp) (as:As) (σ:St) (H:Hp) (ds:Ds) (l:List AV) (Q:List V->Hp->Prop),DS K O B6 as σ H ds->F ds=U l->(∀vs H' a,A5 H H'->uS σ H' ds j a->rK K (C9 H' (less as a) O) σ vs l->Q vs H')->t σ H Q
structure xc(X:Cx)(j:Nat)(es:List Expr)(t:TA)(F:Ds->Option (List AV)):Prop where
 p:PA X es t
 t:TAL X.K j t F
def wa(j:Nat)(Fk:DV)(G:Ds->Option (List AV)):Ds->Option (List AV):=λds=>(Fk ds).bind λk=>match k.d with
 | .int k=>(xr j k ds).bind λx=>(G ds).bind λl=>U (.d (.list x.2.2.2.2)::l)
 |_=>J
def xE:A5 (C9 d E y) (C9 d (less E f) y):=Z3 (A5.refl d) λ_ z=>(sE.mp z).1
def Tc(ho:PE X o (O0 i))(E:PX X Uf e b P)(G:tK X l t C)(hx:autoParam (qN e) By)(hs:autoParam (gN X (.Subscript o e p) l) B0):xc X i (.Subscript o e p::l) (gw (qi (Iy X.K) (O0 i) b) t) (wa i P C):=⟨cx (CF yH ho E.p hx) G.p hs,by
 intro O c s h H B k Q S j q;obtain⟨kv,e3,j⟩:=A1 j;split at j
 . next kk z=>
   obtain⟨⟨w',fs,n,r',li⟩,Y,j⟩:=A1 j;obtain⟨m,y,j⟩:=A1 j;cases j;obtain⟨hd,A,x⟩:=DW Y;obtain⟨f,u,a,W,z1,z2,z3,V,z5,I,_⟩:=S.wr hd x;obtain⟨rg,r1,r2,r3⟩:=S.fg;have hL:uS h H B i a:=⟨_,_,_,_,_,_,_,hd,x,z1,z2,z3⟩;have aA:=r1 i a (hL.rg r3).1;refine⟨_,z1,?_⟩;refine E.t O c s h H B kv _ S e3 λv H2 d r2=>?_;have D:=r2.dt S.dm;rw[z]at D;cases D;refine .inl ⟨f,u,kk,.ref a,rfl,rfl,N6.of (d _ _ z2),by delta T7;rw[V,A];exact z3,?_⟩;refine G.t O c s h H2 B m _ (S.grow d) y λo w g r=>?_;have dg:=d.trans g;refine q (.ref a::o) w a dg (hL.same dg) (.d ?_ (r.same xE));refine Dt.lst (N6.of (P0.mpr ⟨S.nO aA,λz=>(sE.mp z).2 rfl,dg _ _ z5⟩)) ?_;exact(I.same (S3 dg)).same xE
 . exact nE j⟩
def Td(h:PX X Uf e b P)(k:xc X i l t C)(hs:autoParam (gN X e l) B0):xc X i (e::l) (gw b t) (Q1 P C):=⟨cx h.p k.p hs,by
 intro O a s f H d F Q S j q;obtain⟨x,y,j⟩:=A1 j;obtain⟨m,z,j⟩:=A1 j;cases j;refine h.t O a s f H d x _ S y λv n g u=>?_;refine k.t O a s f n d m _ (S.grow g) z λo w ad c L r=>?_
 exact q (v::o) w ad (g.trans c) L (.d (((u.grow c).dt S.dm).same xE) r)⟩
def Tb(p:Nat)(h:PE X e (O0 p))(k:xc X i l t C)(hs:autoParam (gN X e l) B0):xc X i (e::l) (gw (O0 p) t) (bT p C):=⟨cx h k.p hs,by
 intro O b y n H u j Q S a q;unfold bT at a;split at a
 . next w c f=>
   obtain⟨m,r,a⟩:=A1 a;cases a;obtain⟨v,R,d,_⟩:=S.slot p _ f;refine⟨_,d,?_⟩;refine k.t O b y n H u m _ S r λo w ad g L z=>?_;exact q _ w ad g L (.s d z)
 . exact nE a⟩
def lM(j:Nat)(f:List PV->Option (PV×Ds))(Fl:Ds->Option (List AV)):Ds->Option (PV×Ds):=λds=>(Fl ds).bind λl=>if (N3 l).Nodup/\j∉N3 l then(gT ds l).bind λargs=>(f args).bind λr=>if lfR r=Uf then U (r.1,gQ l r.2 ds)else J else J
def Rh{f':List PV->Option (PV×Ds)}(z:xc X i l t C):XU X.K (kM (iL X.K f') [] w t) (lM i f' C):=by
 intro O b I p H s pv o Q S a q;obtain⟨j,D,a⟩:=A1 a;obtain⟨⟨r,hj⟩,a⟩:=K8 a;obtain⟨c,y,a⟩:=A1 a;obtain⟨⟨d,jj⟩,N,a⟩:=A1 a;obtain⟨lf,a⟩:=K8 a;cases a;obtain⟨lf1,lf2⟩:=Bool.and_eq_true_iff.mp lf;refine z.t O b I p H s j _ S D λL M ad m hL u=>?_;obtain⟨F,A,k,E,back⟩:=(S.grow m).a4H hL hj u y r;rw[bZ];refine⟨F,A,k,c,d,jj,E,N,λe K h v G g B=>?_⟩
 obtain⟨f,n,x⟩:=back e K jj G lf2;cases d with
 |dat d=>exact q f K h v n g (x h v d g lf1 B)
 |own j=>exact nT lf1
 |ob N c=>exact nT lf1
noncomputable def KZ(G:DO):DO:=G
def Se(hnx:∀e s,¬X.xe e s)(h:iI X G I B):N7 X (.Try G (A::z) [] [] p) I (KZ B):=Sd hnx h
noncomputable def LX(i:Nat)(f:Addr)(u:TE):TE:=λσ H Q=>σ[i]?=U (U (.ref f))/\u σ H Q
def SV{CX:rH}{sp:Sp}(hv:PE X (.Name x p) (O0 i))(F:gU X.prog X.w X.K X.mg X.base CX Y f b5 b6 sp)(hr:eS Y X.A)(hk:jz X.K (.ref f)=Uf)(hb:Binds X.K b5 b6 [])(hx:Passes CX X w)(ha:PA X (e::l) t)(he:autoParam (W2 (e::l) X.env=(U',eval e X.env)::W2 l X.env) B0)(hpl:autoParam ((gi a (W2 l X.env)).any (·.1)=U') B0):
  PE X (.Call (.Name x p) (e::l) [] a) (LX i f (kM sp [] w t)):=by
 intro pins s σ H Q I h;obtain⟨hs,h⟩:=h;refine vq (G5 (hv pins s σ H (λv H'=>v=.ref f/\kM sp [] w t σ H' Q) I ⟨_,hs,rfl,h⟩) λu s1 ⟨v,H1,I1,r,ev,q⟩=>?_);subst ev;cases r;refine Av (h₀:=X.base) I1.ok.mod.Ey hk (G5 (ha a pins s1 σ H1 _ I1 q) λus s2 ⟨vs,H2,I2,r,q⟩=>⟨I2.hI,?_⟩) he hpl;exact DE F hr hb .nil hx I2 r q
noncomputable def jc(i:Nat)(nm:Str)(f:List l5->Option PV)(Fl:Ds->Option (List l5)):Ds->Option PV:=λds=>match ds[i]? with
 |some (U (.dat (.dict [(.str n,.none)])))=>if n=nm then(Fl ds).bind f else J
 |_=>J
def Dt.fnOf(h:Dt g d v (.dict [(.str x,.none)]))(hn:bW g T1 x=U (U (.ref f)))(hne:x≠UR):v=.ref f:=by
 generalize hd:PyData.dict [(.str x,.none)]=K at h;cases h with
 |fn h=>
  unfold bx at hd;injection hd with hd
  injection hd with h1 _
  injection h1 with h1 _
  injection h1 with h1
  subst h1;replace h:=h.resolve_right hne;rw[hn]at h;injection h with h
  injection h with h
  injection h with h
  rw[h]
 |exc _ _ _ _ _=>unfold Ff at hd;injection hd with hd;injection hd with h1 _;injection h1 with h1 _;cases h1
 |_=>cases hd
def rW{CX:rH}{E:XK}{K':B1}{f':List l5->Option PV}(eK:X.K=K')(hn:bW K' T1 M=U (U (.ref f)))(hv:PE X (.Name x p) (O0 i))(G:gU X.prog X.w K' X.mg X.base CX Y f b5 b6 (F0 K' f'))(hr:eS Y X.A)(hk:jz K' (.ref f)=Uf)(hb:Binds K' b5 b6 [])(hx:Passes CX X E)(ha:jX X h (e::l) t b7)(he:autoParam (W2 (e::l) X.env=(U',eval e X.env)::W2 l X.env) B0)(hpl:autoParam ((gi a (W2 l X.env)).any (·.1)=U') B0)(hne:autoParam (M≠UR) lO):
  PX X h (.Call (.Name x p) (e::l) [] a) (LX i f (kM (F0 K' f') [] E t)) (jc i M f' b7):=by
 subst eK;refine⟨SV hv G hr hk hb hx ha.p he hpl,?_⟩;intro O B6 as σ H ds pv Q S hf q;unfold jc at hf;split at hf
 . rename_i n hd;split at hf;rename_i en;subst en;obtain⟨v,e1,k⟩:=S.slot i _ hd;have:=k.fnOf hn hne;subst this;exact⟨e1,Ie (E:=E) (f:=f') ha O B6 as σ H ds pv Q S hf q⟩;cases hf
 cases hf
noncomputable def qa(F1 F2:Ds->Option PV):Ds->Option PV:=λds=>match F1 ds with
 |some pv=>U pv
 |none=>F2 ds
def a1N{F2:Ds->Option PV}(h1:PX X h e b j)(h2:PX X h e k F2):PX X h e (λσ H Q=>b σ H Q\/k σ H Q) (qa j F2):=⟨by
 intro pins s σ H Q I a;rcases a with a|a
 exact h1.p pins s σ H Q I a
 . exact h2.p pins s σ H Q I a,by
 intro O B6 as σ H ds pv Q S hf q;unfold qa at hf;split at hf;rename_i pv' c;cases hf;exact .inl (h1.t O B6 as σ H ds _ Q S c q)
 . exact .inr (h2.t O B6 as σ H ds _ Q S hf q)⟩
noncomputable def ky:w9->Bool
 | .none=>Uf
 |_=>U'
noncomputable def nP:l5->Bool
 | .none=>Uf
 | .bool _=>Uf
 | .int _=>Uf
 | .str _=>Uf
 | .tuple _=>Uf
 |_=>U'
def Nq{pins:List (Addr×Obj)}{s:A6}{A:T8}(I:Inv X pins D d s)(hu:A.units<U5)(h:Dt X.K d v N)(r:RelV v u)(hp:nP N=Uf):zA A s u .none (ky u)/\ky u=M8 N:=by
 cases h with
 |non=>cases r;exact⟨Pn _,rfl⟩
 |bl b=>cases r;exact⟨Qp b,rfl⟩
 |int i=>obtain⟨t,rfl⟩:=r;exact⟨Qh i t,rfl⟩
 |str y=>obtain⟨t,rfl⟩:=r;exact⟨Qg y t,rfl⟩
 |tup h t=>
  cases r;obtain⟨its,rv,pl,_⟩:=I.tuple h;exact⟨SeqAt.EqAt.tuple_none pl hu,rfl⟩
 |_=>cases hp
theorem Ed{X:Cx}{pins:List (Addr×Obj)}{σ:St}{H:Hp}{s:A6}{A:T8}(I:Inv X pins σ H s)(hu:A.units<U5):∀{xs:List V}{us:List w9}{l:List l5},E8 X.K H xs l->Vals xs us->l.all nP=Uf->(∀u∈us,zA A s u .none (ky u))/\us.any ky=l.any M8
 |_,_,_,.nil,.nil,_=>⟨λu hu=>(by cases hu),rfl⟩
 |_,_,_,.cons h t,.cons r rr,g=>by
  rw[fN,dG]at g;obtain⟨a1,a2⟩:=Nq I hu h r g.1;obtain⟨b1,b2⟩:=Ed I hu t rr g.2;refine⟨λu' hu'=>?_,by rw[gn,gn,a2,b2]⟩
  rcases List.mem_cons.mp hu' with rfl|z
  exact a1;exact b1 u' z
def Iw(K:B1):R2:=λx y H Q=>∃p xs l,x=.non/\y=.ref p/\N6 K H p xs/\E8 K H xs l/\l.all nP=Uf/\Q (.bl (l.any M8)) H
def BV(hu:X.A.in1.units<U5):Q7 X (P6 .In) (Iw X.K):=by
 intro pins s σ H x y v u Q I rx ry h;obtain⟨p,xs,l,rfl,rfl,hq,hd,hp,q⟩:=h;cases rx;cases ry;obtain⟨its,r,pl,hz⟩:=I.list hq;obtain⟨a1,a2⟩:=Ed (A:=X.A.in1) I hu hd r hp;refine Pm ky pl.isList (λw hw=>a1 w (by simpa using hw)) ⟨.bl _,H,I,rfl,?_⟩;rw[show its.toArray.any ky=its.any ky by simp,a2];exact q
def mZ:l5->l5->Option PV
 | .none,.list l=>if l.all nP=Uf then U (.dat (.bool (l.any M8)))else J
 |_,_=>J
def CT:Y0 g (Iw g) mZ:=by
 intro O va H x y d e pv Q D hx hy hf q;cases hx with
 |non=>
  cases hy with
  |lst hs ht=>
   rename_i a xs l;have hf':(if l.all nP=Uf then U (PV.dat (.bool (l.any M8)))else J)=U pv:=hf;split at hf';rename_i hc;cases hf';exact⟨a,xs,l,rfl,rfl,G3.seq hs,ht.same G3,hc,q _ H (A5.refl H) (Dt.bl _)⟩;cases hf'
  |_=>cases hf
 |_=>cases hf
def EM{A:T8}(h:A.units+64<U5):A.in1.units<U5:=by
 show A.units+1<U5;lia
abbrev rJoin(K:B1):V->List V->Hp->VK->Prop:=λx xs H Q=>∃z a ts,x=.str z/\xs=[.ref a]/\N6 K H a (ts.map V.str)/\jr z ts=Uf/\Q (.str (aN z ts)) H
section
variable{r:V->List V->Hp->VK->Prop}
def tY{name:Str}{id:String}{f:l5->List l5->Option PV}(eK:X.K=g)(slot:Slot "str" name id)(hty:typeOf (.builtin id)=pure (.type "method_descriptor"))(hm:zj X id r)(hr:FU g r f)(hs0:∀d c pv,f d c=U pv->∃z,d=.str z)(ho:PX X h o b j)(ha:jX X h (e::l) t b7)(bm:autoParam (HB X o name p e l a) qM):
  PX X h (.Call (.Attribute o name p) (e::l) [] a) (Di g "str" r b t) (aa f j b7):=by subst eK;exact a4h slot hty hm hr hs0 ho ha bm
end
end L2
namespace Law
open PySem L2
noncomputable section
noncomputable abbrev uN:l5:=(.str "0123456789")
noncomputable abbrev kD:l5:=(.int 60)
noncomputable abbrev U3:l5:=(.tuple [(.int 0),(.int 1)])
noncomputable abbrev G4:l5:=(.tuple [(.int 0),(.int 1)])
noncomputable abbrev uI:l5:=(.tuple [(.int 0),(.int 0),(.int 0),(.int 0)])
noncomputable abbrev uH:l5:=(.tuple [(.tuple []),(.str "sun"),(.str "need"),(.str "wait")])
noncomputable abbrev uM:l5:=(.int 24)
noncomputable abbrev uJ:l5:=(.int 6)
noncomputable abbrev dS:l5:=(.int 1000000)
noncomputable abbrev tG:l5:=(.int 1000)
noncomputable abbrev da:l5:=(.int 8)
noncomputable abbrev gS:l5:=(.str "abcdefghijklmnopqrstuvwxyz")
abbrev mz:l5:=(.tuple [(bx "read_amount"),(bx "read_amount"),(bx "read_amount"),(bx "read_amount"),(bx "read_share"),(bx "read_share"),(bx "read_amount")])
abbrev bN:l5:=(.tuple [(bx "read_amount"),(bx "read_amount")])
abbrev oy:l5:=(.tuple [(bx "read_price"),(bx "read_amount"),(bx "read_price"),(bx "read_amount")])
abbrev oq:l5:=(.tuple [(bx "read_name"),(bx "read_amount"),(bx "read_amount"),(bx "read_amount"),(bx "read_amount")])
noncomputable abbrev uL:l5:=(.int 20)
noncomputable abbrev uK:l5:=(.int 6)
noncomputable abbrev fI:l5:=(.int 1000000)
noncomputable abbrev oB:l5:=(.tuple [(.str "dark"),(.str "sunny")])
noncomputable abbrev kE:l5:=(.tuple [(.str "from"),(.str "till"),(.str "over"),(.str "under")])
noncomputable abbrev mB:l5:=(.tuple [(.str "dear"),(.str "cheap")])
noncomputable abbrev oA:l5:=(.tuple [(.str "none"),(.str "sun"),(.str "line")])
noncomputable abbrev ow:l5:=(.tuple [(.str "none"),(.str "need"),(.str "give")])
noncomputable abbrev oo:l5:=(.tuple [(.str "now"),(.str "wait")])
noncomputable abbrev ji:l5:=(.int 6)
noncomputable abbrev fJ:l5:=(.int 8)
noncomputable abbrev qI:l5:=(.str "abcdefghijklmnopqrstuvwxyz")
noncomputable abbrev dU:l5:=(.tuple [(.str "keeper"),(.str "drop"),(.str "day"),(.str "costs")])
def aS:Ds->Option Bool:=(A8 (f9 X5 (f7 1) (fC (.int 0))))
def aT:Ds->Option Out:=(w4 (A0 2 (f9 K7 (f7 0) (f7 1))) (w4 (A0 0 (f7 1)) (A0 1 (f7 2))))
def U0:List l5->Option PV:=F9 2 3 (w4 (lK (sA 1) aS aT) (U2 0))
def eX:List l5->Option PV:=F9 2 3 (w4 (E4 (A8 (f9 D9 (f7 1) (fC (.int 0)))) bw B7) (w4 (A0 2 (p6 U0 (f6 (p6 qf (f6 (f7 0) j2)) (f6 (p6 qf (f6 (f7 1) j2)) j2)))) (w4 (E4 (A8 (f9 gZ (f7 1) (fC (.int 0)))) (A0 2 (wU sy (f7 2))) B7) (B5 (C4 (f6 (f9 aH (f7 0) (f7 2)) (f6 (f9 aH (f7 1) (f7 2)) j2)))))))
def O1:Ds->Option Out:=(E4 (A8 (f9 (Z5 bu W8) (f7 1) (fC uN))) (B5 (fC .none)) B7)
def bH:List l5->Option PV:=F9 1 2 (w4 (E4 (W9 (A8 (f9 D9 (f7 0) (fC (.str "")))) (A8 (f9 hU (p6 T6 (f6 (f7 0) j2)) (fC kD)))) (B5 (fC .none)) B7) (w4 (L1 (X7 (f7 0)) (D3 1) O1) (B5 (p6 (uc intD sG) (f6 (f7 0) j2)))))
def iB:List l5->Option PV:=F9 1 2 (w4 (E4 (xQ (A8 (aa kg (f7 0) (f6 (fC (.str "-")) j2)))) (B5 (p6 bH (f6 (f7 0) j2))) B7) (w4 (A0 1 (p6 bH (f6 (bM K4 (f7 0) (M3 (fC (.int 1))) S5) j2))) (w4 (E4 (A8 (f9 cj (f7 1) (fC .none))) (B5 (fC .none)) B7) (B5 (wU sy (f7 1))))))
def gH:Ds->Option Bool:=(A8 (f9 wQ (f7 3) (f7 1)))
def rJ:Ds->Option Out:=(w4 (bK 2 (aa qh (p6 ke (f6 (f9 K7 (f7 3) (f7 1)) j2)) (f6 (fC (.int 60)) j2))) (A0 3 (f9 aH (f7 3) (f7 1))))
def gs:List l5->Option PV:=F9 1 4 (w4 (A0 1 (f9 Kl (fC (.int 10)) (fC (.int 60)))) (w4 (av 2 (E9 j2)) (w4 (A0 3 (f7 0)) (w4 (lK (sA 3) gH rJ) (w4 (bK 2 (p6 ke (f6 (f7 3) j2))) (w4 (kP 2 List.reverse) (B5 (Y5 (aa du (fC (.str "")) (f6 (f7 2) j2))))))))))
def eF:List l5->Option PV:=F9 1 2 (w4 (A0 1 (p6 gs (f6 (p6 qf (f6 (f9 w5 (f7 0) (fC (.int 0))) j2)) j2))) (w4 (E4 (A8 (f9 gZ (f9 w5 (f7 0) (fC (.int 0))) (fC (.int 0)))) (A0 1 (f9 C2 (fC (.str "-")) (f7 1))) B7) (w4 (E4 (A8 (f9 X5 (f9 w5 (f7 0) (fC (.int 1))) (fC (.int 1)))) (A0 1 (f9 C2 (f9 C2 (f7 1) (fC (.str "/"))) (p6 gs (f6 (f9 w5 (f7 0) (fC (.int 1))) j2)))) B7) (U2 1))))
def bh:List l5->Option PV:=F9 1 5 (w4 (A0 1 (aa sj (f7 0) (f6 (fC (.str "/")) j2))) (w4 (A0 2 (p6 iB (f6 (f9 w5 (f7 1) (fC (.int 0))) j2))) (w4 (A0 3 (fC (.int 1))) (w4 (E4 (A8 (f9 D9 (f9 w5 (f7 1) (fC (.int 1))) (fC (.str "/")))) (A0 3 (p6 bH (f6 (f9 w5 (f7 1) (fC (.int 2))) j2))) B7) (w4 (E4 (W9 (A8 (f9 cj (f7 2) (fC .none))) (W9 (A8 (f9 cj (f7 3) (fC .none))) (A8 (f9 D9 (f7 3) (fC (.int 0)))))) (B5 (fC .none)) B7) (w4 (A0 4 (p6 eX (f6 (f7 2) (f6 (f7 3) j2)))) (w4 (E4 (A8 (f9 X5 (p6 eF (f6 (f7 4) j2)) (f7 0))) (B5 (fC .none)) B7) (U2 4))))))))
def dY:List l5->Option PV:=F9 2 3 (w4 (A0 2 (p6 bh (f6 (f7 0) j2))) (w4 (E4 (W9 (A8 (f9 cj (f7 2) (fC .none))) (W9 (A8 (f9 X5 (f9 w5 (f7 2) (fC (.int 1))) (fC (.int 1)))) (W9 (A8 (f9 gZ (f9 w5 (f7 2) (fC (.int 0))) (f7 1))) (A8 (f9 hU (f9 w5 (f7 2) (fC (.int 0))) (fC dS)))))) (B5 (fC .none)) B7) (B5 (f9 w5 (f7 2) (fC (.int 0))))))
def cy:List l5->Option PV:=F9 1 1 (B5 (p6 dY (f6 (f7 0) (f6 (fC (.int 0)) j2))))
def cB:Ds->Option Out:=(E4 (A8 (f9 (Z5 bu W8) (f7 1) (fC gS))) (B5 (fC .none)) B7)
def kX:List l5->Option PV:=F9 1 2 (w4 (E4 (W9 (A8 (f9 D9 (f7 0) (fC (.str "")))) (A8 (f9 hU (p6 T6 (f6 (f7 0) j2)) (fC da)))) (B5 (fC .none)) B7) (w4 (L1 (X7 (f7 0)) (D3 1) cB) (U2 0)))
def jG:List l5->Option PV:=F9 1 1 (B5 (p6 dY (f6 (f7 0) (f6 (wU sy (fC dS)) j2))))
def jF:List l5->Option PV:=F9 1 2 (w4 (A0 1 (p6 bh (f6 (f7 0) j2))) (w4 (E4 (W9 (A8 (f9 cj (f7 1) (fC .none))) (W9 (A8 (f9 wM (f9 w5 (f7 1) (fC (.int 0))) (fC (.int 0)))) (W9 (A8 (f9 hU (f9 w5 (f7 1) (fC (.int 0))) (f9 w5 (f7 1) (fC (.int 1))))) (A8 (f9 hU (f9 w5 (f7 1) (fC (.int 1))) (fC tG)))))) (B5 (fC .none)) B7) (U2 1)))
def S0:Ds->Option PV:=(qa (jc 0 "read_amount" cy (f6 (f7 1) j2)) (qa (jc 0 "read_name" kX (f6 (f7 1) j2)) (qa (jc 0 "read_price" jG (f6 (f7 1) j2)) (jc 0 "read_share" jF (f6 (f7 1) j2)))))
def T9:List l5->Option PV:=F9 2 3 (w4 (E4 (A8 (f9 X5 (p6 T6 (f6 (f7 0) j2)) (p6 T6 (f6 (f7 1) j2)))) (B5 (fC .none)) B7) (w4 (A0 2 (P4 (Y4 iU (f6 (f7 1) (f6 (f7 0) j2))) (gA 2) F4 S0)) (w4 (E4 (A8 (f9 mZ (fC .none) (f7 2))) (B5 (fC .none)) B7) (B5 (p6 cV (f6 (f7 2) j2))))))
def Y1:List l5->Option PV:=F9 1 3 (w4 (A0 1 (p6 T9 (f6 (bM K4 (f7 0) (M3 (fC (.int 1))) (M3 (fC (.int 3)))) (f6 (fC bN) j2)))) (w4 (E4 (W9 (A8 (f9 X5 (f9 w5 (f7 0) (fC (.int 0))) (fC (.str "hour")))) (A8 (f9 cj (f7 1) (fC .none)))) (B5 (fC .none)) B7) (w4 (E4 (A8 (f9 D9 (bM K4 (f7 0) (M3 (fC (.int 3))) S5) (E9 (f6 (fC (.str "dark")) j2)))) (B5 (f9 C2 (f7 1) (C4 (f6 (fC .none) j2)))) B7) (w4 (A0 2 (p6 T9 (f6 (bM K4 (f7 0) (M3 (fC (.int 4))) S5) (f6 (fC oy) j2)))) (w4 (E4 (W9 (A8 (f9 X5 (bM K4 (f7 0) (M3 (fC (.int 3))) (M3 (fC (.int 4)))) (E9 (f6 (fC (.str "line")) j2)))) (A8 (f9 cj (f7 2) (fC .none)))) (B5 (fC .none)) B7) (B5 (f9 C2 (f7 1) (C4 (f6 (f7 2) j2)))))))))
def U4:Ds->Option Out:=(w4 (A0 3 (p6 Y1 (f6 (f7 2) j2))) (w4 (E4 (A8 (f9 cj (f7 3) (fC .none))) (U2 1) B7) (bK 1 (f7 3))))
def jH:List l5->Option PV:=F9 1 4 (w4 (av 1 (E9 j2)) (w4 (L1 (X7 (bM K4 (f7 0) S5 (M3 (fC uM)))) (D3 2) U4) (U2 1)))
def jE:List l5->Option PV:=F9 1 2 (w4 (A0 1 (p6 T9 (f6 (bM K4 (f7 0) (M3 (fC (.int 1))) S5) (f6 (fC mz) j2)))) (w4 (E4 (W9 (A8 (f9 X5 (f9 w5 (f7 0) (fC (.int 0))) (fC (.str "store")))) (W9 (A8 (f9 cj (f7 1) (fC .none))) (A8 (f9 hU (f9 w5 (f7 1) (fC (.int 1))) (f9 w5 (f7 1) (fC (.int 0))))))) (B5 (fC .none)) B7) (U2 1)))
def kW:List l5->Option PV:=F9 2 3 (w4 (A0 2 (p6 T9 (f6 (bM K4 (f7 0) (M3 (fC (.int 1))) S5) (f6 (fC oq) j2)))) (w4 (E4 (W9 (A8 (f9 X5 (f9 w5 (f7 0) (fC (.int 0))) (fC (.str "work")))) (A8 (f9 cj (f7 2) (fC .none)))) (B5 (fC .none)) B7) (w4 (E4 (W9 (A8 (f9 hU (f9 w5 (f7 2) (fC (.int 2))) (f9 w5 (f7 2) (fC (.int 3))))) (A8 (f9 wQ (f9 w5 (f7 2) (fC (.int 3))) (f7 1)))) (B5 (fC .none)) B7) (U2 2))))
def ei:Ds->Option Out:=(w4 (A0 5 (p6 kW (f6 (f7 4) (f6 (f7 1) j2)))) (w4 (E4 (W9 (A8 (f9 cj (f7 5) (fC .none))) (A8 (f9 (Z5 inD cY) (Y5 (f9 w5 (f7 5) (fC (.int 0)))) (Y5 (f7 3))))) (U2 2) B7) (w4 (bK 2 (f7 5)) (bK 3 (f9 w5 (f7 5) (fC (.int 0)))))))
def jC:List l5->Option PV:=F9 2 6 (w4 (av 2 (E9 j2)) (w4 (av 3 (E9 j2)) (w4 (L1 (X7 (bM K4 (f7 0) S5 (M3 (fC uJ)))) (D3 4) ei) (U2 2))))
def tm:Ds->Option PV:=(aa fU (f7 0) (f6 (fC (.str " ")) j2))
def vF:List l5->Option PV:=F9 1 6 (w4 (A0 1 (P4 (X7 (f7 0)) F7 F4 tm)) (w4 (A0 2 (wV (A8 (f9 D9 (f7 1) (E9 j2))) (fC .none) (p6 jE (f6 (f9 w5 (f7 1) (fC (.int 0))) j2)))) (w4 (E4 (A8 (f9 cj (f7 2) (fC .none))) bw B7) (w4 (A0 3 (p6 jH (f6 (bM K4 (f7 1) (M3 (fC (.int 1))) S5) j2))) (w4 (E4 (A8 (f9 D9 (f7 3) (E9 j2))) bw B7) (w4 (A0 4 (p6 jC (f6 (bM K4 (f7 1) (M3 (f9 C2 (fC (.int 1)) (p6 T6 (f6 (f7 3) j2)))) S5) (f6 (p6 T6 (f6 (f7 3) j2)) j2)))) (w4 (A0 5 (f9 C2 (f9 C2 (fC (.int 1)) (p6 T6 (f6 (f7 3) j2))) (p6 T6 (f6 (f7 4) j2)))) (w4 (E4 (A8 (f9 gZ (f7 5) (p6 T6 (f6 (f7 1) j2)))) bw B7) (B5 (C4 (f6 (p6 cV (f6 (f7 3) j2)) (f6 (f7 2) (f6 (p6 cV (f6 (f7 4) j2)) j2)))))))))))))
def fE:List PV->Option (PV×Ds):=qF 2 2 (w4 (yS "Desk" 0 "house" Uw (p6 vF (f6 (f7 1) j2))) (yS "Desk" 0 "keepers" yE yW))
def jN:Ds->Option Bool:=(A8 (f9 hU (f7 3) (fC (.int 0))))
def jS:Ds->Option Out:=(w4 (A0 4 (f9 K7 (f7 2) (f7 3))) (w4 (A0 2 (f7 3)) (A0 3 (f7 4))))
def iJ:List l5->Option PV:=F9 2 5 (w4 (A0 2 (p6 qf (f6 (f7 0) j2))) (w4 (A0 3 (f7 1)) (w4 (lK (sA 3) jN jS) (B5 (C4 (f6 (f9 aH (f7 0) (f7 2)) (f6 (f9 aH (f7 1) (f7 2)) j2)))))))
def bp:List l5->Option PV:=F9 2 2 (B5 (p6 iJ (f6 (f9 C2 (f9 M9 (f9 w5 (f7 0) (fC (.int 0))) (f9 w5 (f7 1) (fC (.int 1)))) (f9 M9 (f9 w5 (f7 1) (fC (.int 0))) (f9 w5 (f7 0) (fC (.int 1))))) (f6 (f9 M9 (f9 w5 (f7 0) (fC (.int 1))) (f9 w5 (f7 1) (fC (.int 1)))) j2))))
def cz:List l5->Option PV:=F9 2 2 (B5 (p6 iJ (f6 (f9 M9 (f9 w5 (f7 0) (fC (.int 0))) (f9 w5 (f7 1) (fC (.int 0)))) (f6 (f9 M9 (f9 w5 (f7 0) (fC (.int 1))) (f9 w5 (f7 1) (fC (.int 1)))) j2))))
def O5:List l5->Option PV:=F9 2 2 (B5 (p6 iJ (f6 (f9 iE (f9 M9 (f9 w5 (f7 0) (fC (.int 0))) (f9 w5 (f7 1) (fC (.int 1)))) (f9 M9 (f9 w5 (f7 1) (fC (.int 0))) (f9 w5 (f7 0) (fC (.int 1))))) (f6 (f9 M9 (f9 w5 (f7 0) (fC (.int 1))) (f9 w5 (f7 1) (fC (.int 1)))) j2))))
def lg:Ds->Option PV:=(f9 w5 (f7 0) (fC (.int 1)))
def lu:Ds->Option Out:=(A0 3 (p6 O5 (f6 (f7 3) (f6 (f7 8) j2))))
def ir:Ds->Option Out:=(w4 (A0 7 (f9 w5 (f7 1) (f7 6))) (w4 (A0 2 (p6 bp (f6 (f7 2) (f6 (f9 w5 (f7 7) (fC (.int 4))) j2)))) (w4 (L1 (X7 (f9 w5 (f7 7) (fC (.int 5)))) (D3 8) lu) (w4 (A0 5 (p6 O5 (f6 (p6 bp (f6 (f7 5) (f6 (p6 cz (f6 (f9 w5 (f9 w5 (f7 0) (fC (.int 1))) (fC (.int 4))) (f6 (f9 w5 (f7 7) (fC (.int 2))) j2))) j2))) (f6 (f9 w5 (f7 7) (fC (.int 3))) j2)))) (w4 (A0 9 (f9 w5 (f9 w5 (f9 w5 (f7 0) (fC (.int 0))) (f7 6)) (fC (.int 2)))) (E4 (A8 (f9 qC (f7 9) (fC .none))) (w4 (A0 4 (p6 bp (f6 (f7 4) (f6 (p6 cz (f6 (C4 (f6 (f9 w5 (f7 9) (fC (.int 0))) (f6 (fC (.int 1)) j2))) (f6 (f9 w5 (f7 7) (fC (.int 0))) j2))) j2)))) (A0 4 (p6 O5 (f6 (f7 4) (f6 (p6 cz (f6 (C4 (f6 (f9 w5 (f7 9) (fC (.int 2))) (f6 (fC (.int 1)) j2))) (f6 (f9 w5 (f7 7) (fC (.int 1))) j2))) j2))))) B7))))))
def eG:List l5->Option PV:=F9 2 10 (w4 (A0 2 (C4 (f6 (fC (.int 0)) (f6 (fC (.int 1)) j2)))) (w4 (A0 3 (C4 (f6 (p6 Dk (f6 (P4 (X7 (f9 w5 (f7 0) (fC (.int 2)))) F7 F4 lg) j2)) (f6 (fC (.int 1)) j2)))) (w4 (A0 4 (C4 (f6 (fC (.int 0)) (f6 (fC (.int 1)) j2)))) (w4 (A0 5 (C4 (f6 (f9 w5 (f9 w5 (f7 0) (fC (.int 1))) (fC (.int 1))) (f6 (fC (.int 1)) j2)))) (w4 (L1 (Y4 aq (f6 (p6 T6 (f6 (f7 1) j2)) j2)) (D3 6) ir) (B5 (C4 (f6 (f7 2) (f6 (f7 3) (f6 (p6 O5 (f6 (f7 4) (f6 (p6 cz (f6 (C4 (f6 (f9 w5 (f9 w5 (f7 0) (fC (.int 1))) (fC (.int 6))) (f6 (fC (.int 1)) j2))) (f6 (f7 5) j2))) j2))) j2))))))))))
def tj:List l5->Option PV:=F9 2 2 (B5 (f9 gZ (f9 M9 (f9 w5 (f7 0) (fC (.int 0))) (f9 w5 (f7 1) (fC (.int 1)))) (f9 M9 (f9 w5 (f7 1) (fC (.int 0))) (f9 w5 (f7 0) (fC (.int 1))))))
def Z4:List l5->Option PV:=F9 2 2 (w4 (E4 (A8 (p6 tj (f6 (f7 1) (f6 (f7 0) j2)))) (U2 1) B7) (U2 0))
def eV:List l5->Option PV:=F9 5 8 (w4 (E4 (A8 (f9 D9 (f9 w5 (f7 1) (fC (.int 1))) (fC (.str "none")))) (B5 (C4 (f6 (C4 (f6 (fC (.int 0)) (f6 (fC (.int 1)) j2))) (f6 (C4 (f6 (fC (.int 0)) (f6 (fC (.int 1)) j2))) j2)))) B7) (w4 (A0 5 (p6 O5 (f6 (C4 (f6 (f9 w5 (f7 0) (fC (.int 0))) (f6 (fC (.int 1)) j2))) (f6 (f7 2) j2)))) (w4 (A0 6 (p6 Z4 (f6 (C4 (f6 (f9 w5 (f7 0) (fC (.int 2))) (f6 (fC (.int 1)) j2))) (f6 (p6 cz (f6 (f7 5) (f6 (C4 (f6 (f9 w5 (f9 w5 (f7 0) (fC (.int 4))) (fC (.int 1))) (f6 (f9 w5 (f9 w5 (f7 0) (fC (.int 4))) (fC (.int 0))) j2))) j2))) j2)))) (w4 (A0 7 (p6 Z4 (f6 (f7 3) (f6 (f7 6) j2)))) (w4 (E4 (A8 (f9 D9 (f9 w5 (f7 1) (fC (.int 1))) (fC (.str "sun")))) (B5 (C4 (f6 (f7 7) (f6 (C4 (f6 (fC (.int 0)) (f6 (fC (.int 1)) j2))) j2)))) B7) (B5 (C4 (f6 (f7 7) (f6 (p6 Z4 (f6 (f7 4) (f6 (p6 O5 (f6 (f7 6) (f6 (f7 7) j2))) j2))) j2)))))))))
def sX:List l5->Option PV:=F9 4 4 (w4 (E4 (W9 (A8 (f9 gZ (f7 1) (f9 w5 (f7 0) (fC (.int 2))))) (A8 (f9 hU (f7 1) (f9 w5 (f7 0) (fC (.int 3)))))) (B5 (C4 (f6 (fC (.int 0)) (f6 (fC (.int 1)) j2)))) B7) (w4 (E4 (A8 (f9 D9 (f7 3) (fC (.str "wait")))) (A0 2 (p6 O5 (f6 (f7 2) (f6 (C4 (f6 (f9 M9 (f9 w5 (f7 0) (fC (.int 4))) (f9 iE (f9 w5 (f7 0) (fC (.int 3))) (f7 1))) (f6 (fC (.int 1)) j2))) j2)))) B7) (w4 (E4 (A8 (f9 gZ (f9 w5 (f7 2) (fC (.int 0))) (fC (.int 0)))) (B5 (C4 (f6 (fC (.int 0)) (f6 (fC (.int 1)) j2)))) B7) (B5 (p6 Z4 (f6 (f7 2) (f6 (C4 (f6 (f9 w5 (f7 0) (fC (.int 4))) (f6 (fC (.int 1)) j2))) j2)))))))
def mW:Ds->Option Out:=(w4 (A0 10 (p6 sX (f6 (f9 w5 (f9 w5 (f7 0) (fC (.int 2))) (f7 9)) (f6 (f7 1) (f6 (f9 w5 (f7 3) (f7 9)) (f6 (f9 w5 (f7 2) (fC (.int 3))) j2)))))) (w4 (bK 8 (p6 Z4 (f6 (f7 10) (f6 (p6 O5 (f6 (f7 4) (f6 (f7 7) j2))) j2)))) (A0 7 (p6 bp (f6 (f7 7) (f6 (Bp 8 (f7 9)) j2))))))
def sZ:List l5->Option PV:=F9 5 11 (w4 (A0 5 (C4 (f6 (f9 w5 (f9 w5 (f9 w5 (f7 0) (fC (.int 0))) (f7 1)) (fC (.int 1))) (f6 (fC (.int 1)) j2)))) (w4 (A0 6 (p6 Z4 (f6 (f7 5) (f6 (f7 4) j2)))) (w4 (A0 7 (f7 6)) (w4 (av 8 (E9 j2)) (w4 (L1 (Y4 aq (f6 (p6 T6 (f6 (f9 w5 (f7 0) (fC (.int 2))) j2)) j2)) (D3 9) mW) (B5 (Y5 (C4 (f6 (p6 O5 (f6 (f7 5) (f6 (f7 6) j2))) (f6 (f7 7) (f6 (p6 cV (f6 (f7 8) j2)) j2)))))))))))
def ph:List l5->Option PV:=F9 5 19 (w4 (A0 5 (f9 w5 (f7 0) (fC (.int 1)))) (w4 (A0 6 (f9 w5 (f9 w5 (f9 w5 (f7 0) (fC (.int 0))) (f7 1)) (fC (.int 2)))) (w4 (E4 (A8 (f9 cj (f7 6) (fC .none))) (A0 6 (C4 (f6 (fC (.int 0)) (f6 (fC (.int 0)) (f6 (fC (.int 0)) (f6 (fC (.int 0)) j2)))))) B7) (w4 (A0 7 (C4 (f6 (f9 w5 (f9 w5 (f9 w5 (f7 0) (fC (.int 0))) (f7 1)) (fC (.int 0))) (f6 (fC (.int 1)) j2)))) (w4 (A0 8 (p6 cz (f6 (f9 w5 (f7 5) (fC (.int 5))) (f6 (p6 Z4 (f6 (C4 (f6 (f9 w5 (f7 5) (fC (.int 3))) (f6 (fC (.int 1)) j2))) (f6 (f7 3) j2))) j2)))) (w4 (E4 (A8 (f9 D9 (f9 w5 (f7 2) (fC (.int 2))) (fC (.str "none")))) (A0 8 (C4 (f6 (fC (.int 0)) (f6 (fC (.int 1)) j2)))) B7) (w4 (A0 9 (p6 bp (f6 (p6 bp (f6 (f7 7) (f6 (C4 (f6 (f9 w5 (f7 6) (fC (.int 1))) (f6 (fC (.int 1)) j2))) j2))) (f6 (f7 8) j2)))) (w4 (ES (eJ 3 (N0 10 (N0 11 (N0 12 eM)))) (p6 sZ (f6 (f7 0) (f6 (f7 1) (f6 (f7 2) (f6 (f7 4) (f6 (f7 9) j2))))))) (w4 (A0 13 (p6 Z4 (f6 (f7 7) (f6 (f7 11) j2)))) (w4 (A0 7 (p6 O5 (f6 (f7 7) (f6 (f7 13) j2)))) (w4 (A0 14 (p6 Z4 (f6 (f7 8) (f6 (p6 O5 (f6 (f7 11) (f6 (f7 13) j2))) j2)))) (w4 (A0 15 (p6 O5 (f6 (p6 O5 (f6 (f7 11) (f6 (f7 13) j2))) (f6 (f7 14) j2)))) (w4 (A0 16 (C4 (f6 (fC (.int 0)) (f6 (fC (.int 1)) j2)))) (w4 (E4 (A8 (f9 D9 (f9 w5 (f7 2) (fC (.int 2))) (fC (.str "give")))) (A0 16 (p6 Z4 (f6 (p6 O5 (f6 (f7 8) (f6 (f7 14) j2))) (f6 (C4 (f6 (f9 w5 (f7 6) (fC (.int 3))) (f6 (fC (.int 1)) j2))) j2)))) B7) (w4 (A0 17 (p6 cz (f6 (p6 bp (f6 (f7 14) (f6 (f7 16) j2))) (f6 (C4 (f6 (f9 w5 (f9 w5 (f7 5) (fC (.int 5))) (fC (.int 1))) (f6 (f9 w5 (f9 w5 (f7 5) (fC (.int 5))) (fC (.int 0))) j2))) j2)))) (w4 (A0 18 (C4 (f6 (C4 (f6 (fC (.int 0)) (f6 (fC (.int 1)) j2))) (f6 (C4 (f6 (fC (.int 0)) (f6 (fC (.int 1)) j2))) j2)))) (w4 (E4 (A8 (f9 D9 (f9 w5 (f7 17) (fC (.int 0))) (fC (.int 0)))) (A0 18 (p6 eV (f6 (f7 5) (f6 (f7 2) (f6 (f7 3) (f6 (f7 7) (f6 (p6 O5 (f6 (C4 (f6 (f9 w5 (f7 6) (fC (.int 1))) (f6 (fC (.int 1)) j2))) (f6 (f7 15) j2))) j2))))))) B7) (w4 (A0 16 (p6 bp (f6 (f7 16) (f6 (p6 Z4 (f6 (p6 O5 (f6 (f7 7) (f6 (f9 w5 (f7 18) (fC (.int 0))) j2))) (f6 (p6 O5 (f6 (C4 (f6 (f9 w5 (f7 6) (fC (.int 3))) (f6 (fC (.int 1)) j2))) (f6 (f7 16) j2))) j2))) j2)))) (B5 (C4 (f6 (p6 bp (f6 (f7 15) (f6 (f9 w5 (f7 18) (fC (.int 1))) j2))) (f6 (f7 16) (f6 (p6 bp (f6 (f9 w5 (f7 18) (fC (.int 0))) (f6 (f9 w5 (f7 18) (fC (.int 1))) j2))) (f6 (f7 17) (f6 (f7 10) (f6 (f7 12) j2))))))))))))))))))))))))))
def aQ:List l5->Option PV:=F9 4 4 (w4 (E4 (W9 (A8 (f9 D9 (f9 w5 (f7 3) (fC (.int 0))) (fC (.str "from")))) (A8 (f9 D9 (f9 w5 (f7 3) (fC (.int 0))) (fC (.str "till"))))) (B5 (OB (f9 D9 (f7 1) (f9 w5 (f7 3) (fC (.int 1)))) (f9 D9 (f9 hU (f7 1) (f9 w5 (f7 3) (fC (.int 1)))) (f9 D9 (f9 w5 (f7 3) (fC (.int 0))) (fC (.str "from")))))) B7) (w4 (E4 (A8 (f9 D9 (f9 w5 (f7 3) (fC (.int 0))) (fC (.str "over")))) (B5 (f9 hU (f9 w5 (f7 2) (fC (.int 0))) (f9 M9 (f9 w5 (f7 3) (fC (.int 1))) (f9 w5 (f7 2) (fC (.int 1)))))) B7) (w4 (E4 (A8 (f9 D9 (f9 w5 (f7 3) (fC (.int 0))) (fC (.str "under")))) (B5 (f9 gZ (f9 w5 (f7 2) (fC (.int 0))) (f9 M9 (f9 w5 (f7 3) (fC (.int 1))) (f9 w5 (f7 2) (fC (.int 1)))))) B7) (w4 (E4 (A8 (f9 D9 (f9 w5 (f7 3) (fC (.int 0))) (fC (.str "sunny")))) (B5 (f9 wQ (f9 w5 (f7 0) (fC (.int 0))) (f9 w5 (f7 0) (fC (.int 1))))) B7) (w4 (E4 (W9 (A8 (f9 cj (f9 w5 (f7 0) (fC (.int 2))) (fC .none))) (A8 (f9 D9 (f9 w5 (f7 3) (fC (.int 0))) (fC (.str "dark"))))) (B5 (EZ (f9 cj (f9 w5 (f7 0) (fC (.int 2))) (fC .none)) (f9 D9 (f9 w5 (f7 3) (fC (.int 0))) (fC (.str "dark"))))) B7) (B5 (OB (f9 D9 (f9 w5 (f9 w5 (f7 0) (fC (.int 2))) (fC (.int 0))) (f9 w5 (f7 3) (fC (.int 1)))) (f9 D9 (f9 hU (f9 w5 (f9 w5 (f7 0) (fC (.int 2))) (fC (.int 0))) (f9 w5 (f7 3) (fC (.int 1)))) (f9 D9 (f9 w5 (f7 3) (fC (.int 0))) (fC (.str "dear")))))))))))
def mS:Ds->Option PV:=(p6 aQ (f6 (f7 2) (f6 (f7 3) (f6 (f7 4) (f6 (f7 0) j2)))))
def mX:Ds->Option Out:=(E4 (A8 (p6 sT (f6 (P4 (X7 (f9 w5 (f7 4) (fC (.int 0)))) F7 F4 mS) j2))) (U2 4) B7)
def pf:List l5->Option PV:=F9 4 5 (w4 (L1 (X7 (f7 0)) (D3 4) mX) (B5 (C4 (f6 (C4 j2) (f6 (fC (.str "sun")) (f6 (fC (.str "need")) (f6 (fC (.str "wait")) j2)))))))
def pV:Ds->Option PV:=(C4 (f6 (f9 w5 (f7 0) (fC (.int 1))) (f6 (fC (.int 1)) j2)))
def pU:Ds->Option PV:=(p6 O5 (f6 (f9 w5 (f7 4) (f7 0)) (f6 (f9 w5 (f9 w5 (f7 8) (fC (.int 5))) (f7 0)) j2)))
def mr:Ds->Option Out:=(w4 (A0 6 (p6 pf (f6 (f7 1) (f6 (f9 w5 (f9 w5 (f7 0) (fC (.int 0))) (f7 5)) (f6 (f7 5) (f6 (f7 2) j2)))))) (w4 (A0 7 (p6 ph (f6 (f7 0) (f6 (f7 5) (f6 (f7 6) (f6 (f7 2) (f6 (f7 3) j2))))))) (w4 (A0 2 (p6 O5 (f6 (p6 bp (f6 (f7 2) (f6 (p6 cz (f6 (f9 w5 (f9 w5 (f7 0) (fC (.int 1))) (fC (.int 4))) (f6 (f9 w5 (f7 7) (fC (.int 2))) j2))) j2))) (f6 (f9 w5 (f7 7) (fC (.int 3))) j2)))) (w4 (A0 3 (P4 (Y4 aq (f6 (p6 T6 (f6 (f7 3) j2)) j2)) F7 F4 pU)) (bK 4 (f7 7))))))
def ny:List l5->Option PV:=F9 2 8 (w4 (A0 2 (C4 (f6 (f9 w5 (f9 w5 (f7 0) (fC (.int 1))) (fC (.int 1))) (f6 (fC (.int 1)) j2)))) (w4 (A0 3 (P4 (X7 (f9 w5 (f7 0) (fC (.int 2)))) F7 F4 pV)) (w4 (av 4 (E9 j2)) (w4 (L1 (Y4 aq (f6 (p6 T6 (f6 (f9 w5 (f7 0) (fC (.int 0))) j2)) j2)) (D3 5) mr) (B5 (Y5 (p6 cV (f6 (f7 4) j2))))))))
def ao:List l5->Option PV:=F9 2 5 (w4 (A0 2 (p6 U0 (f6 (f9 w5 (f7 0) (fC (.int 1))) (f6 (f9 w5 (f7 1) (fC (.int 1))) j2)))) (w4 (A0 3 (f9 C2 (f9 M9 (f9 w5 (f7 0) (fC (.int 0))) (f9 aH (f9 w5 (f7 1) (fC (.int 1))) (f7 2))) (f9 M9 (f9 w5 (f7 1) (fC (.int 0))) (f9 aH (f9 w5 (f7 0) (fC (.int 1))) (f7 2))))) (w4 (A0 4 (p6 U0 (f6 (p6 qf (f6 (f7 3) j2)) (f6 (f7 2) j2)))) (B5 (C4 (f6 (f9 aH (f7 3) (f7 4)) (f6 (f9 M9 (f9 aH (f9 w5 (f7 0) (fC (.int 1))) (f7 2)) (f9 aH (f9 w5 (f7 1) (fC (.int 1))) (f7 4))) j2)))))))
def wA:List l5->Option PV:=F9 2 2 (B5 (C4 (f6 (p6 ao (f6 (f9 w5 (f7 0) (fC (.int 0))) (f6 (f9 w5 (f7 1) (fC (.int 0))) j2))) (f6 (p6 ao (f6 (f9 w5 (f7 0) (fC (.int 1))) (f6 (f9 w5 (f7 1) (fC (.int 1))) j2))) (f6 (p6 ao (f6 (f9 w5 (f7 0) (fC (.int 2))) (f6 (f9 w5 (f7 1) (fC (.int 2))) j2))) j2)))))
def P9:List l5->Option PV:=F9 2 2 (B5 (p6 ao (f6 (f7 0) (f6 (C4 (f6 (wU sy (f9 w5 (f7 1) (fC (.int 0)))) (f6 (f9 w5 (f7 1) (fC (.int 1))) j2))) j2))))
def ay:List l5->Option PV:=F9 2 5 (w4 (A0 2 (p6 U0 (f6 (p6 qf (f6 (f9 w5 (f7 0) (fC (.int 0))) j2)) (f6 (f9 w5 (f7 1) (fC (.int 1))) j2)))) (w4 (A0 3 (p6 U0 (f6 (p6 qf (f6 (f9 w5 (f7 1) (fC (.int 0))) j2)) (f6 (f9 w5 (f7 0) (fC (.int 1))) j2)))) (w4 (A0 4 (f9 M9 (f9 aH (f9 w5 (f7 0) (fC (.int 0))) (f7 2)) (f9 aH (f9 w5 (f7 1) (fC (.int 0))) (f7 3)))) (B5 (C4 (f6 (f7 4) (f6 (f9 M9 (f9 aH (f9 w5 (f7 0) (fC (.int 1))) (f7 3)) (f9 aH (f9 w5 (f7 1) (fC (.int 1))) (f7 2))) j2)))))))
def mR:List l5->Option PV:=F9 2 2 (w4 (E4 (A8 (f9 cj (f7 0) (fC .none))) (B5 (fC U3)) B7) (B5 (p6 P9 (f6 (p6 ay (f6 (C4 (f6 (f9 w5 (f7 0) (fC (.int 0))) (f6 (fC (.int 1)) j2))) (f6 (f9 w5 (f7 1) (fC (.int 0))) j2))) (f6 (p6 ay (f6 (C4 (f6 (f9 w5 (f7 0) (fC (.int 2))) (f6 (fC (.int 1)) j2))) (f6 (f9 w5 (f7 1) (fC (.int 1))) j2))) j2)))))
def gJ:Ds->Option Out:=(A0 2 (p6 ao (f6 (f7 2) (f6 (f7 3) j2))))
def jK:List l5->Option PV:=F9 2 4 (w4 (A0 2 (fC U3)) (w4 (L1 (X7 (f9 w5 (f7 1) (fC (.int 5)))) (D3 3) gJ) (B5 (C4 (f6 (f9 w5 (f7 1) (fC (.int 4))) (f6 (p6 P9 (f6 (fC U3) (f6 (f7 2) j2))) (f6 (p6 mR (f6 (f9 w5 (f7 0) (fC (.int 2))) (f6 (f7 1) j2))) j2)))))))
def pO:List l5->Option PV:=F9 3 5 (w4 (A0 3 (p6 P9 (f6 (f9 w5 (f7 0) (fC (.int 2))) (f6 (p6 ay (f6 (f7 1) (f6 (f9 w5 (f7 0) (fC (.int 2))) j2))) j2)))) (w4 (A0 4 (p6 P9 (f6 (f9 w5 (f7 0) (fC (.int 3))) (f6 (p6 ay (f6 (f7 2) (f6 (f9 w5 (f7 0) (fC (.int 3))) j2))) j2)))) (B5 (p6 ao (f6 (f7 3) (f6 (f7 4) j2))))))
def jP:Ds->Option Out:=(A0 3 (p6 ao (f6 (f7 3) (f6 (f7 4) j2))))
def jO:Ds->Option Out:=(A0 3 (p6 P9 (f6 (f7 3) (f6 (f7 4) j2))))
def mO:List l5->Option PV:=F9 3 5 (w4 (A0 3 (C4 (f6 (f9 iE (f9 w5 (f7 0) (fC (.int 0))) (f9 w5 (f7 0) (fC (.int 1)))) (f6 (fC (.int 1)) j2)))) (w4 (L1 (X7 (C4 (f6 (f9 w5 (f7 1) (fC (.int 0))) (f6 (f9 w5 (f7 1) (fC (.int 4))) (f6 (p6 ay (f6 (f7 2) (f6 (f9 w5 (f7 1) (fC (.int 3))) j2))) j2))))) (D3 4) jP) (w4 (L1 (X7 (f9 C2 (C4 (f6 (f9 w5 (f7 1) (fC (.int 1))) (f6 (f9 w5 (f7 1) (fC (.int 2))) j2))) (f9 w5 (f7 1) (fC (.int 5))))) (D3 4) jO) (U2 3))))
def jR:Ds->Option Out:=(w4 (A0 5 (p6 P9 (f6 (p6 ao (f6 (f7 5) (f6 (p6 ay (f6 (f7 3) (f6 (f9 w5 (f7 8) (fC (.int 2))) j2))) j2))) (f6 (f9 w5 (f7 8) (fC (.int 3))) j2)))) (bK 6 (C4 (f6 (p6 mO (f6 (f7 7) (f6 (f7 8) (f6 (f7 4) j2)))) (f6 (p6 pO (f6 (f7 8) (f6 (f7 3) (f6 (f7 4) j2)))) (f6 (f7 5) j2))))))
def sV:List l5->Option PV:=F9 2 9 (w4 (A0 2 (f9 w5 (f7 0) (fC (.int 1)))) (w4 (A0 3 (f9 w5 (f7 2) (fC (.int 4)))) (w4 (A0 4 (f9 w5 (f7 2) (fC (.int 5)))) (w4 (A0 5 (C4 (f6 (f9 w5 (f7 2) (fC (.int 1))) (f6 (fC (.int 1)) j2)))) (w4 (av 6 (E9 j2)) (w4 (L1 (Y4 iU (f6 (f9 w5 (f7 0) (fC (.int 0))) (f6 (f7 1) j2))) (eJ 2 (N0 7 (N0 8 eM))) jR) (U2 6)))))))
def mw:Ds->Option Out:=(A0 3 (f9 w5 (f7 4) (fC (.int 2))))
def pW:Ds->Option PV:=(f9 w5 (f7 0) (fC (.int 1)))
def mv:Ds->Option Out:=(A0 6 (p6 wA (f6 (f7 6) (f6 (p6 jK (f6 (f7 7) (f6 (f7 8) j2))) j2))))
def kK:List l5->Option PV:=F9 2 9 (w4 (A0 2 (f9 w5 (f7 0) (fC (.int 1)))) (w4 (A0 3 (C4 (f6 (f9 w5 (f7 2) (fC (.int 1))) (f6 (fC (.int 1)) j2)))) (w4 (L1 (X7 (p6 sV (f6 (f7 0) (f6 (f7 1) j2)))) (D3 4) mw) (w4 (A0 5 (p6 Dk (f6 (P4 (X7 (f9 w5 (f7 0) (fC (.int 2)))) F7 F4 pW) j2))) (w4 (A0 6 (C4 (f6 (fC U3) (f6 (C4 (f6 (f7 5) (f6 (fC (.int 1)) j2))) (f6 (p6 P9 (f6 (fC U3) (f6 (p6 ay (f6 (C4 (f6 (f9 w5 (f7 2) (fC (.int 6))) (f6 (fC (.int 1)) j2))) (f6 (f7 3) j2))) j2))) j2))))) (w4 (L1 (Y4 iU (f6 (f9 w5 (f7 0) (fC (.int 0))) (f6 (f7 1) j2))) (eJ 2 (N0 7 (N0 8 eM))) mv) (U2 6)))))))
def cU:Ds->Option PV:=(p6 eF (f6 (f7 0) j2))
def M0:List l5->Option PV:=F9 1 1 (B5 (aa du (fC (.str " ")) (f6 (P4 (X7 (f7 0)) F7 F4 cU) j2)))
def fF:Ds->Option Out:=(w4 (A0 4 (p6 M0 (f6 (f9 C2 (bM K4 (f7 3) S5 (M3 (fC (.int 5)))) (f9 w5 (f7 3) (fC (.int 5)))) j2))) (bK 1 (yZ "hour " " " 2 4)))
def di:List l5->Option PV:=F9 1 5 (w4 (av 1 (E9 j2)) (w4 (L1 (Y4 sO (f6 (f7 0) j2)) (eJ 2 (N0 2 (N0 3 eM))) fF) (U2 1)))
def gF:List l5->Option PV:=F9 2 2 (B5 (f9 gZ (f9 M9 (f9 w5 (f7 0) (fC (.int 0))) (f9 w5 (f7 1) (fC (.int 1)))) (f9 M9 (f9 w5 (f7 1) (fC (.int 0))) (f9 w5 (f7 0) (fC (.int 1))))))
def fD:List l5->Option PV:=F9 1 1 (B5 (wV (A8 (p6 gF (f6 (f7 0) (f6 (fC G4) j2)))) (fC G4) (f7 0)))
def df:List l5->Option PV:=F9 2 2 (B5 (wV (A8 (p6 gF (f6 (f7 0) (f6 (f7 1) j2)))) (f7 0) (f7 1)))
def vG:List l5->Option PV:=F9 2 2 (w4 (E4 (A8 (f9 D9 (f9 w5 (f7 1) (fC (.int 0))) (fC (.int 0)))) bw B7) (B5 (p6 ay (f6 (f7 0) (f6 (p6 eX (f6 (f9 w5 (f7 1) (fC (.int 1))) (f6 (f9 w5 (f7 1) (fC (.int 0))) j2))) j2)))))
def kY:List l5->Option PV:=F9 4 5 (w4 (E4 (W9 (A8 (f9 D9 (f7 2) (fC (.str "none")))) (A8 (f9 X5 (f7 3) (fC G4)))) (B5 (fC G4)) B7) (w4 (A0 4 (p6 fD (f6 (p6 P9 (f6 (C4 (f6 (f9 w5 (f7 0) (fC (.int 0))) (f6 (fC (.int 1)) j2))) (f6 (f7 1) j2))) j2))) (B5 (p6 df (f6 (C4 (f6 (f9 w5 (f7 0) (fC (.int 2))) (f6 (fC (.int 1)) j2))) (f6 (p6 vG (f6 (f7 4) (f6 (f9 w5 (f7 0) (fC (.int 4))) j2))) j2))))))
def mP:List l5->Option PV:=F9 3 3 (w4 (E4 (A8 (f9 D9 (f7 2) (fC (.str "none")))) (B5 (fC G4)) B7) (B5 (p6 ay (f6 (f9 w5 (f7 0) (fC (.int 5))) (f6 (p6 df (f6 (C4 (f6 (f9 w5 (f7 0) (fC (.int 3))) (f6 (fC (.int 1)) j2))) (f6 (f7 1) j2))) j2)))))
def gI:Ds->Option Out:=(w4 (A0 5 (p6 df (f6 (f7 4) (f6 (f7 3) j2)))) (w4 (bK 2 (f7 5)) (A0 3 (p6 P9 (f6 (f7 3) (f6 (f7 5) j2))))))
def Z1:List l5->Option PV:=F9 2 6 (w4 (av 2 (E9 j2)) (w4 (A0 3 (f7 1)) (w4 (L1 (X7 (f7 0)) (D3 4) gI) (U2 2))))
def pX:Ds->Option Out:=(A0 1 (p6 ao (f6 (f7 1) (f6 (f7 2) j2))))
def nr:List l5->Option PV:=F9 1 3 (w4 (A0 1 (fC G4)) (w4 (L1 (X7 (f7 0)) (D3 2) pX) (U2 1)))
def jL:List l5->Option PV:=F9 5 20 (w4 (A0 5 (wV (A8 (f9 cj (f9 w5 (f7 0) (fC (.int 2))) (fC .none))) (fC uI) (f9 w5 (f7 0) (fC (.int 2))))) (w4 (A0 6 (C4 (f6 (f9 w5 (f7 0) (fC (.int 0))) (f6 (fC (.int 1)) j2)))) (w4 (A0 7 (C4 (f6 (f9 w5 (f7 0) (fC (.int 1))) (f6 (fC (.int 1)) j2)))) (w4 (A0 8 (C4 (f6 (f9 w5 (f7 5) (fC (.int 1))) (f6 (fC (.int 1)) j2)))) (w4 (A0 9 (C4 (f6 (f9 w5 (f7 5) (fC (.int 3))) (f6 (fC (.int 1)) j2)))) (w4 (A0 10 (p6 mP (f6 (f7 1) (f6 (f7 2) (f6 (f9 w5 (f7 3) (fC (.int 2))) j2))))) (w4 (A0 11 (p6 Z1 (f6 (f9 C2 (E9 (f6 (f7 7) j2)) (f7 4)) (f6 (p6 nr (f6 (E9 (f6 (f7 6) (f6 (f7 8) (f6 (f7 10) j2)))) j2)) j2)))) (w4 (A0 12 (p6 Z1 (f6 (E9 (f6 (f7 6) (f6 (f7 10) (f6 (f7 8) j2)))) (f6 (p6 nr (f6 (f7 11) j2)) j2)))) (w4 (A0 13 (wV (A8 (f9 D9 (f9 w5 (f7 3) (fC (.int 2))) (fC (.str "give")))) (p6 df (f6 (p6 P9 (f6 (f7 10) (f6 (f9 w5 (f7 12) (fC (.int 1))) j2))) (f6 (f7 9) j2))) (fC G4))) (w4 (A0 14 (p6 vG (f6 (p6 ao (f6 (f9 w5 (f7 12) (fC (.int 1))) (f6 (f7 13) j2))) (f6 (f9 w5 (f7 1) (fC (.int 5))) j2)))) (w4 (A0 15 (p6 P9 (f6 (f7 6) (f6 (f9 w5 (f7 12) (fC (.int 0))) j2)))) (w4 (A0 16 (wV (A8 (f9 D9 (f9 w5 (f7 3) (fC (.int 1))) (fC (.str "line")))) (p6 P9 (f6 (f7 8) (f6 (f9 w5 (f7 12) (fC (.int 2))) j2))) (fC G4))) (w4 (A0 17 (p6 Z1 (f6 (E9 (f6 (f7 15) (f6 (f7 16) j2))) (f6 (p6 kY (f6 (f7 1) (f6 (f7 2) (f6 (f9 w5 (f7 3) (fC (.int 1))) (f6 (f7 14) j2))))) j2)))) (w4 (A0 18 (p6 df (f6 (p6 P9 (f6 (f7 15) (f6 (f9 w5 (f7 17) (fC (.int 0))) j2))) (f6 (p6 P9 (f6 (f7 9) (f6 (f7 13) j2))) j2)))) (w4 (A0 19 (C4 (f6 (p6 ao (f6 (f9 w5 (f7 12) (fC (.int 2))) (f6 (f9 w5 (f7 17) (fC (.int 1))) j2))) (f6 (p6 ao (f6 (f7 13) (f6 (f7 18) j2))) j2)))) (B5 (f9 C2 (f7 19) (C4 (f6 (p6 nr (f6 (f7 17) j2)) (f6 (f7 14) (f6 (p6 P9 (f6 (f7 7) (f6 (f9 w5 (f7 11) (fC (.int 0))) j2))) (f6 (p6 cV (f6 (bM K4 (f7 11) (M3 (fC (.int 1))) S5) j2)) j2))))))))))))))))))))))
def jJ:List l5->Option PV:=F9 2 2 (w4 (E4 (A8 (f9 cj (f7 1) (fC .none))) (B5 (fC (.bool U'))) B7) (B5 (wV (A8 (f9 D9 (f9 w5 (f7 0) (fC (.int 0))) (fC (.str "dear")))) (f9 wQ (f9 w5 (f7 1) (fC (.int 0))) (f9 w5 (f7 0) (fC (.int 1)))) (f9 wM (f9 w5 (f7 1) (fC (.int 0))) (f9 w5 (f7 0) (fC (.int 1)))))))
def dZ:List l5->Option PV:=F9 4 5 (w4 (A0 4 (f9 w5 (f7 0) (fC (.int 0)))) (w4 (E4 (A8 (f9 D9 (f7 4) (fC (.str "dark")))) (B5 (f9 cj (f9 w5 (f7 2) (fC (.int 2))) (fC .none))) B7) (w4 (E4 (A8 (f9 D9 (f7 4) (fC (.str "sunny")))) (B5 (f9 wQ (f9 w5 (f7 2) (fC (.int 0))) (f9 w5 (f7 2) (fC (.int 1))))) B7) (w4 (E4 (A8 (f9 D9 (f7 4) (fC (.str "from")))) (B5 (f9 wQ (f7 1) (f9 w5 (f7 0) (fC (.int 1))))) B7) (w4 (E4 (A8 (f9 D9 (f7 4) (fC (.str "till")))) (B5 (f9 wM (f7 1) (f9 w5 (f7 0) (fC (.int 1))))) B7) (w4 (E4 (A8 (f9 D9 (f7 4) (fC (.str "over")))) (B5 (p6 gF (f6 (C4 (f6 (f9 w5 (f7 0) (fC (.int 1))) (f6 (fC (.int 1)) j2))) (f6 (f7 3) j2)))) B7) (w4 (E4 (A8 (f9 D9 (f7 4) (fC (.str "under")))) (B5 (p6 gF (f6 (f7 3) (f6 (C4 (f6 (f9 w5 (f7 0) (fC (.int 1))) (f6 (fC (.int 1)) j2))) j2)))) B7) (B5 (p6 jJ (f6 (f7 0) (f6 (f9 w5 (f7 2) (fC (.int 2))) j2)))))))))))
def jM:Ds->Option PV:=(p6 dZ (f6 (f7 0) (f6 (f7 2) (f6 (f7 3) (f6 (f7 4) j2)))))
def jQ:Ds->Option Out:=(E4 (A8 (p6 sT (f6 (P4 (X7 (f9 w5 (f7 4) (fC (.int 0)))) F7 F4 jM) j2))) (U2 4) B7)
def jB:List l5->Option PV:=F9 4 5 (w4 (L1 (X7 (f7 0)) (D3 4) jQ) (B5 (fC uH)))
def pN:List l5->Option PV:=F9 4 6 (w4 (E4 (W9 (A8 (f9 gZ (f7 1) (f9 w5 (f7 0) (fC (.int 2))))) (A8 (f9 hU (f7 1) (f9 w5 (f7 0) (fC (.int 3)))))) (B5 (fC G4)) B7) (w4 (A0 4 (f7 2)) (w4 (E4 (A8 (f9 D9 (f7 3) (fC (.str "wait")))) (w4 (A0 5 (f9 M9 (f9 w5 (f7 0) (fC (.int 4))) (f9 iE (f9 w5 (f7 0) (fC (.int 3))) (f7 1)))) (A0 4 (p6 fD (f6 (p6 P9 (f6 (f7 2) (f6 (C4 (f6 (f7 5) (f6 (fC (.int 1)) j2))) j2))) j2)))) B7) (B5 (p6 df (f6 (f7 4) (f6 (C4 (f6 (f9 w5 (f7 0) (fC (.int 4))) (f6 (fC (.int 1)) j2))) j2)))))))
def mV:Ds->Option PV:=(C4 (f6 (f9 w5 (f7 0) (fC (.int 1))) (f6 (fC (.int 1)) j2)))
def mU:Ds->Option PV:=(p6 pN (f6 (f7 0) (f6 (f7 8) (f6 (f7 1) (f6 (f9 w5 (f7 10) (fC (.int 3))) j2)))))
def mT:Ds->Option PV:=(p6 P9 (f6 (f7 0) (f6 (f7 1) j2)))
def jT:Ds->Option Out:=(w4 (A0 8 (p6 jB (f6 (f7 1) (f6 (f7 6) (f6 (f7 7) (f6 (f7 3) j2)))))) (w4 (A0 9 (P4 (Y4 iU (f6 (f9 w5 (f7 0) (fC (.int 2))) (f6 (f7 4) j2))) (gA 2) F4 mU)) (w4 (A0 10 (p6 jL (f6 (f7 7) (f6 (f7 2) (f6 (f7 3) (f6 (f7 8) (f6 (f7 9) j2))))))) (w4 (bK 5 (f7 10)) (w4 (A0 3 (p6 P9 (f6 (p6 ao (f6 (f7 3) (f6 (p6 ay (f6 (f9 w5 (f7 2) (fC (.int 4))) (f6 (f9 w5 (f7 10) (fC (.int 2))) j2))) j2))) (f6 (f9 w5 (f7 10) (fC (.int 3))) j2)))) (A0 4 (P4 (Y4 iU (f6 (f7 4) (f6 (f9 w5 (f7 10) (fC (.int 5))) j2))) (gA 2) F4 mT)))))))
def pj:List l5->Option PV:=F9 2 11 (w4 (A0 2 (f9 w5 (f7 0) (fC (.int 1)))) (w4 (A0 3 (C4 (f6 (f9 w5 (f7 2) (fC (.int 1))) (f6 (fC (.int 1)) j2)))) (w4 (A0 4 (P4 (X7 (f9 w5 (f7 0) (fC (.int 2)))) F7 F4 mV)) (w4 (av 5 (E9 j2)) (w4 (L1 (Y4 sO (f6 (f9 w5 (f7 0) (fC (.int 0))) j2)) (eJ 2 (N0 6 (N0 7 eM))) jT) (B5 (Y5 (p6 cV (f6 (f7 5) j2)))))))))
def cA:Ds->Option PV:=(p6 eF (f6 (C4 (f6 (f7 0) (f6 (fC (.int 1)) j2))) j2))
def Z8:Ds->Option Out:=(w4 (bK 1 (f9 w5 (f7 2) (fC (.int 0)))) (Bl 1 (P4 (X7 (bM K4 (f7 2) (M3 (fC (.int 1))) S5)) F7 F4 cA)))
def kU:List l5->Option PV:=F9 1 3 (w4 (av 1 (E9 (f6 (fC (.str "when")) j2))) (w4 (L1 (X7 (f9 w5 (f7 0) (fC (.int 0)))) (D3 2) Z8) (B5 (Y5 (aa du (fC (.str " ")) (f6 (f9 C2 (f7 1) (E9 (f6 (fC (.str "fill")) (f6 (f9 w5 (f7 0) (fC (.int 1))) (f6 (fC (.str "take")) (f6 (f9 w5 (f7 0) (fC (.int 2))) (f6 (fC (.str "works")) (f6 (f9 w5 (f7 0) (fC (.int 3))) j2)))))))) j2))))))
def eY:Ds->Option PV:=(p6 kU (f6 (f7 0) j2))
def dX:List l5->Option PV:=F9 1 1 (B5 (P4 (X7 (f7 0)) F7 F4 eY))
def U7:List PV->Option (PV×Ds):=qF 3 5 (w4 (A0 3 (uE 0 (oh "Desk" "keepers") (f7 2))) (w4 (E4 (A8 (f9 cj (f7 3) (fC .none))) bw B7) (w4 (E4 (A8 (f9 D9 (f7 1) (fC (.str "drop")))) (w4 (EV 0 (oh "Desk" "keepers") (Bs "keepers") (f7 2)) (eO (E9 (f6 (fC (.str "ok")) j2)))) B7) (w4 (E4 (A8 (f9 D9 (f7 1) (fC (.str "keeper")))) (eO (p6 dX (f6 (f7 3) j2))) B7) (w4 (A0 4 (p6 pj (f6 (wy "Desk" 0 "house") (f6 (f7 3) j2)))) (w4 (E4 (A8 (f9 D9 (f7 1) (fC (.str "day")))) (eO (p6 di (f6 (f7 4) j2))) B7) (eO (E9 (f6 (p6 M0 (f6 (p6 kK (f6 (wy "Desk" 0 "house") (f6 (f7 4) j2))) j2)) j2)))))))))
def jI:List l5->Option PV:=F9 1 2 (w4 (E4 (A8 (f9 X5 (Bo AR (f7 0) (M3 (fC (.int 0))) S5 (M3 (fC (.int 2)))) (E9 (f6 (fC (.str "fill")) (f6 (fC (.str "take")) (f6 (fC (.str "works")) j2)))))) (B5 (fC .none)) B7) (w4 (A0 1 (p6 cV (f6 (Bo AR (f7 0) (M3 (fC (.int 1))) S5 (M3 (fC (.int 2)))) j2))) (w4 (E4 (W9 (A8 (f9 (Z5 bu W8) (f9 w5 (f7 1) (fC (.int 0))) (fC oA))) (W9 (A8 (f9 (Z5 bu W8) (f9 w5 (f7 1) (fC (.int 1))) (fC ow))) (A8 (f9 (Z5 bu W8) (f9 w5 (f7 1) (fC (.int 2))) (fC oo))))) (B5 (fC .none)) B7) (U2 1))))
def gr:List l5->Option PV:=F9 2 3 (w4 (A0 2 (p6 bh (f6 (f7 0) j2))) (w4 (E4 (W9 (A8 (f9 cj (f7 2) (fC .none))) (W9 (A8 (f9 X5 (f9 w5 (f7 2) (fC (.int 1))) (fC (.int 1)))) (W9 (A8 (f9 gZ (f9 w5 (f7 2) (fC (.int 0))) (f7 1))) (A8 (f9 hU (f9 w5 (f7 2) (fC (.int 0))) (fC fI)))))) (B5 (fC .none)) B7) (B5 (f9 w5 (f7 2) (fC (.int 0))))))
def aJ:List l5->Option PV:=F9 1 2 (w4 (E4 (A8 (f9 (Z5 inD cY) (f9 w5 (f7 0) (fC (.int 0))) (fC oB))) (B5 (C4 (f6 (f9 w5 (f7 0) (fC (.int 0))) j2))) B7) (w4 (A0 1 (fC .none)) (w4 (E4 (jk (A8 (f9 (Z5 inD cY) (f9 w5 (f7 0) (fC (.int 0))) (fC kE))) (A8 (f9 hU (p6 T6 (f6 (f7 0) j2)) (fC (.int 1))))) (A0 1 (p6 gr (f6 (f9 w5 (f7 0) (fC (.int 1))) (f6 (fC (.int 0)) j2)))) B7) (w4 (E4 (jk (A8 (f9 (Z5 inD cY) (f9 w5 (f7 0) (fC (.int 0))) (fC mB))) (A8 (f9 hU (p6 T6 (f6 (f7 0) j2)) (fC (.int 1))))) (A0 1 (p6 gr (f6 (f9 w5 (f7 0) (fC (.int 1))) (f6 (wU sy (fC fI)) j2)))) B7) (w4 (E4 (A8 (f9 cj (f7 1) (fC .none))) (B5 (fC .none)) B7) (B5 (C4 (f6 (f9 w5 (f7 0) (fC (.int 0))) (f6 (f7 1) j2)))))))))
def X0:Ds->Option Bool:=(A8 (f9 gZ (f7 2) (p6 T6 (f6 (f7 0) j2))))
def az:Ds->Option Out:=(w4 (A0 3 (p6 aJ (f6 (bM K4 (f7 0) (M3 (f7 2)) S5) j2))) (w4 (E4 (W9 (A8 (f9 cj (f7 3) (fC .none))) (A8 (f9 D9 (Y5 (p6 T6 (f6 (f7 1) j2))) (Y5 (fC uK))))) (B5 (fC .none)) B7) (w4 (bK 1 (f7 3)) (A0 2 (f9 C2 (f7 2) (p6 T6 (f6 (f7 3) j2)))))))
def jD:List l5->Option PV:=F9 1 4 (w4 (av 1 (E9 j2)) (w4 (A0 2 (fC (.int 0))) (w4 (lK (Xo 0) X0 az) (B5 (Y5 (p6 cV (f6 (f7 1) j2)))))))
def ip:List l5->Option PV:=F9 1 4 (w4 (A0 1 (aa fU (f7 0) (f6 (fC (.str " ")) j2))) (w4 (E4 (W9 (A8 (f9 X5 (f9 w5 (f7 1) (fC (.int 0))) (fC (.str "when")))) (A8 (f9 wM (p6 T6 (f6 (f7 1) j2)) (fC ji)))) (B5 (fC .none)) B7) (w4 (A0 2 (p6 jD (f6 (bM K4 (f7 1) (M3 (fC (.int 1))) (M3 (wU sy (fC ji)))) j2))) (w4 (A0 3 (p6 jI (f6 (bM K4 (f7 1) (M3 (wU sy (fC ji))) S5) j2))) (w4 (E4 (W9 (A8 (f9 cj (f7 2) (fC .none))) (A8 (f9 cj (f7 3) (fC .none)))) (B5 (fC .none)) B7) (B5 (f9 C2 (C4 (f6 (f7 2) j2)) (f7 3))))))))
def V4:Ds->Option Out:=(w4 (A0 4 (p6 ip (f6 (f7 3) j2))) (w4 (E4 (W9 (A8 (f9 cj (f7 4) (fC .none))) (A8 (f9 D9 (f7 2) (fC uL)))) bw B7) (bK 1 (f7 4))))
def fA:List l5->Option PV:=F9 1 5 (w4 (av 1 (E9 j2)) (w4 (L1 (Y4 sO (f6 (f7 0) j2)) (eJ 2 (N0 2 (N0 3 eM))) V4) (B5 (Y5 (p6 cV (f6 (f7 1) j2))))))
def cS:List PV->Option (PV×Ds):=qF 4 6 (w4 (A0 4 (p6 dX (f6 (qH 0 (oh "Desk" "keepers") (f7 2) (C4 j2)) j2))) (w4 (KZ (A0 5 (p6 fA (f6 (f9 C2 (f7 4) (E9 (f6 (f7 3) j2))) j2)))) (w4 (uD 0 (oh "Desk" "keepers") (Bs "keepers") (f7 2) (f7 5)) (eO (E9 (f6 (fC (.str "ok")) j2))))))
def lq:Ds->Option PV:=(f9 (Z5 inD cY) (f7 0) (fC qI))
def pS:List l5->Option PV:=F9 1 1 (B5 (EZ (lL gZ wM (fC (.int 0)) (p6 T6 (f6 (f7 0) j2)) (fC fJ)) (p6 sT (f6 (P4 (X7 (f7 0)) F7 F4 lq) j2))))
def gG:List PV->Option (PV×Ds):=qF 2 3 (w4 (A0 2 (aa fU (f7 1) (f6 (fC (.str " ")) j2))) (w4 (E4 (A8 (f9 D9 (f7 1) (fC (.str "show")))) bw B7) (w4 (E4 (A8 (f9 D9 (f7 1) (fC (.str "best")))) bw B7) (w4 (E4 (A8 (f9 D9 (f7 1) (fC (.str "ranks")))) bw B7) (w4 (E4 (jk (A8 (f9 D9 (f9 w5 (f7 2) (fC (.int 0))) (fC (.str "raised")))) (A8 (f9 D9 (p6 T6 (f6 (f7 2) j2)) (fC (.int 3))))) bw B7) (w4 (E4 (W9 (A8 (f9 D9 (p6 T6 (f6 (f7 2) j2)) (fC (.int 1)))) (xQ (A8 (p6 pS (f6 (f9 w5 (f7 2) (fC (.int 1))) j2))))) bw B7) (w4 (E4 (A8 (f9 D9 (f9 w5 (f7 2) (fC (.int 0))) (fC (.str "rule")))) (pG (fm "Desk" "say_rule" 0 cS (Q1 (f7 1) (Q1 (f9 w5 (f7 2) (fC (.int 1))) (Q1 (aa du (fC (.str " ")) (f6 (bM K4 (f7 2) (M3 (fC (.int 2))) S5) j2)) mx))))) B7) (w4 (E4 (jk (A8 (f9 (Z5 inD cY) (f9 w5 (f7 2) (fC (.int 0))) (fC dU))) (A8 (f9 D9 (p6 T6 (f6 (f7 2) j2)) (fC (.int 2))))) (pG (fm "Desk" "say_keeper" 0 U7 (Q1 (f9 w5 (f7 2) (fC (.int 0))) (Q1 (f9 w5 (f7 2) (fC (.int 1))) mx)))) B7) bw))))))))
def dh:List PV->Option (PV×Ds):=qF 3 4 (w4 (CI 3 (fm "Desk" "say" 0 gG (Q1 (f7 1) mx))) (w4 (E4 (W9 (xQ (A8 (Y5 (yY "list" (f7 3))))) (A8 (f9 X5 (Y5 (f7 3)) (Y5 (f7 2))))) (eO (fC (.bool U'))) B7) (w4 (kP 3 λ_=>[]) (eO (fC (.bool Uf))))))
def kZ:Ds->Option PV:=(p6 (uc ke vN) (f6 (f7 0) j2))
def O7:List l5->Option PV:=F9 1 1 (B5 (aa du (fC (.str " ")) (f6 (P4 (X7 (f7 0)) F7 F4 kZ) j2)))
def V9:List l5->Option PV:=F9 1 1 (w4 (E4 (A8 (f9 D9 (f9 w5 (f7 0) (fC (.int 1))) (fC (.int 1)))) (B5 (p6 ke (f6 (f9 w5 (f7 0) (fC (.int 0))) j2))) B7) (B5 (f9 C2 (f9 C2 (p6 ke (f6 (f9 w5 (f7 0) (fC (.int 0))) j2)) (fC (.str "/"))) (p6 ke (f6 (f9 w5 (f7 0) (fC (.int 1))) j2)))))
def xj:Ds->Option PV:=(p6 V9 (f6 (f7 0) j2))
def fH:Ds->Option Out:=(w4 (A0 8 (P4 (X7 (f9 C2 (bM K4 (f9 w5 (f7 5) (f7 7)) S5 (M3 (fC (.int 5)))) (f9 w5 (f9 w5 (f7 5) (f7 7)) (fC (.int 5))))) F7 F4 xj)) (bK 6 (p6 O7 (f6 (f9 C2 (E9 (f6 (fC (.str "hour")) (f6 (f7 7) j2))) (f7 8)) j2))))
def lj:Ds->Option PV:=(p6 V9 (f6 (f7 0) j2))
def iu:Ds->Option Out:=(kR (je dh (bT 0 (Q1 (f7 10) (Q1 (f7 11) mx)))) (eO (fC (.bool U'))))
def mq:List PV->Option (PV×Ds):=qF 5 12 (w4 (A0 5 (p6 ny (f6 (f7 1) (f6 (p6 cV (f6 (f7 3) j2)) j2)))) (w4 (av 6 (E9 j2)) (w4 (L1 (Y4 aq (f6 (p6 T6 (f6 (f7 5) j2)) j2)) (D3 7) fH) (w4 (wt 6 (av 9 (E9 (f6 (C4 (f6 (f9 C2 (fC (.str "day ")) (f7 2)) (f6 (f7 6) j2))) j2)))) (w4 (bK 9 (C4 (f6 (f9 C2 (fC (.str "costs ")) (f7 2)) (f6 (E9 (f6 (p6 O7 (f6 (P4 (X7 (p6 eG (f6 (f7 1) (f6 (f7 5) j2)))) F7 F4 lj) j2)) j2)) j2)))) (w4 (wt 9 (L1 (X7 (f9 C2 (bM K4 (f7 9) (M3 (f9 K7 (f7 4) (fC (.int 2)))) S5) (bM K4 (f7 9) S5 (M3 (f9 K7 (f7 4) (fC (.int 2))))))) (eJ 2 (N0 10 (N0 11 eM))) iu)) (eO (fC (.bool Uf)))))))))
def lr:Ds->Option Out:=(A0 2 (f9 aH (f7 2) (fC (.int 65497))))
def E5:List l5->Option PV:=F9 2 5 (w4 (A0 2 (fC (.int 0))) (w4 (E4 (A8 (f9 hU (p6 T6 (f6 (f7 0) j2)) (fC (.int 0)))) (w4 (A0 2 (f9 w5 (f7 0) (f9 K7 (f7 1) (p6 T6 (f6 (f7 0) j2))))) (E4 (A8 (f9 D9 (f9 K7 (f9 w5 (f7 0) (fC (.int 0))) (fC (.int 2))) (fC (.int 1)))) (w4 (L1 (Y4 aq (f6 (f9 K7 (f9 aH (f7 1) (p6 T6 (f6 (f7 0) j2))) (fC (.int 60))) j2)) (D3 3) lr) (B5 (f9 K7 (f7 2) (fC (.int 65497))))) B7)) B7) (w4 (A0 4 (f9 K7 (f9 C2 (f9 C2 (f9 M9 (f9 K7 (f7 2) (fC (.int 1000003))) (fC (.int 48271))) (f9 M9 (f9 M9 (f7 1) (f7 1)) (fC (.int 7919)))) (fC (.int 1))) (fC (.int 65521)))) (w4 (A0 4 (f9 K7 (f9 C2 (f9 M9 (f7 4) (f7 4)) (f7 1)) (fC (.int 65519)))) (B5 (f9 K7 (f9 C2 (f9 M9 (f9 M9 (f7 4) (f7 4)) (fC (.int 31))) (f7 4)) (fC (.int 65497))))))))
def pP:List l5->Option PV:=F9 1 1 (B5 (f9 w5 (E9 (f6 (fC (.int 1)) (f6 (fC (.int 1)) (f6 (fC (.int 1)) (f6 (fC (.int 1000)) (f6 (fC (.int 40000)) j2)))))) (f9 K7 (p6 E5 (f6 (f7 0) (f6 (fC (.int 100)) j2))) (fC (.int 5)))))
def Q5:List l5->Option PV:=F9 2 2 (B5 (f9 M9 (f9 K7 (p6 E5 (f6 (f7 0) (f6 (f7 1) j2))) (fC (.int 13))) (p6 pP (f6 (f7 0) j2))))
def ti:List l5->Option PV:=F9 2 4 (w4 (E4 (A8 (f9 D9 (f9 K7 (p6 E5 (f6 (f7 0) (f6 (f7 1) j2))) (fC (.int 4))) (fC (.int 0)))) (B5 (fC .none)) B7) (w4 (A0 2 (f9 iE (f9 K7 (p6 E5 (f6 (f7 0) (f6 (f9 C2 (f7 1) (fC (.int 1))) j2))) (fC (.int 27))) (fC (.int 6)))) (w4 (A0 3 (f9 iE (f9 K7 (p6 E5 (f6 (f7 0) (f6 (f9 C2 (f7 1) (fC (.int 2))) j2))) (fC (.int 27))) (fC (.int 6)))) (w4 (E4 (A8 (f9 D9 (f9 K7 (p6 E5 (f6 (f7 0) (f6 (f7 1) j2))) (fC (.int 9))) (fC (.int 0)))) (A0 2 (f9 iE (f9 M9 (f7 2) (fC (.int 50000))) (fC (.int 300000)))) B7) (B5 (C4 (f6 (f7 2) (f6 (p6 Q5 (f6 (f7 0) (f6 (f9 C2 (f7 1) (fC (.int 3))) j2))) (f6 (f7 3) (f6 (p6 Q5 (f6 (f7 0) (f6 (f9 C2 (f7 1) (fC (.int 4))) j2))) j2))))))))))
def mm:List l5->Option PV:=F9 2 4 (w4 (A0 2 (f9 C2 (fC (.int 1)) (f9 K7 (p6 E5 (f6 (f7 0) (f6 (f7 1) j2))) (fC (.int 12))))) (w4 (A0 3 (E9 (f6 (C4 (f6 (fC (.int 1)) (f6 (fC (.int 1)) j2))) (f6 (C4 (f6 (fC (.int 1)) (f6 (fC (.int 2)) j2))) (f6 (C4 (f6 (fC (.int 9)) (f6 (fC (.int 10)) j2))) (f6 (p6 iJ (f6 (f9 C2 (fC (.int 1)) (f9 K7 (p6 E5 (f6 (f7 0) (f6 (f9 C2 (f7 1) (fC (.int 1))) j2))) (f7 2))) (f6 (f7 2) j2))) j2)))))) (B5 (f9 w5 (f7 3) (f9 K7 (p6 E5 (f6 (f7 0) (f6 (f9 C2 (f7 1) (fC (.int 2))) j2))) (fC (.int 4)))))))
def kI:List l5->Option PV:=F9 4 6 (w4 (A0 4 (f9 K7 (p6 E5 (f6 (f7 0) (f6 (f7 1) j2))) (f7 3))) (w4 (A0 5 (f9 C2 (f7 4) (f9 K7 (p6 E5 (f6 (f7 0) (f6 (f9 C2 (f7 1) (fC (.int 1))) j2))) (f9 iE (f7 3) (f7 4))))) (B5 (C4 (f6 (f7 2) (f6 (f9 C2 (p6 Q5 (f6 (f7 0) (f6 (f9 C2 (f7 1) (fC (.int 2))) j2))) (p6 Q5 (f6 (f7 0) (f6 (f9 C2 (f7 1) (fC (.int 3))) j2)))) (f6 (f7 4) (f6 (f7 5) (f6 (p6 Q5 (f6 (f7 0) (f6 (f9 C2 (f7 1) (fC (.int 4))) j2))) j2)))))))))
def iq:Ds->Option Out:=(w4 (A0 5 (f9 C2 (fC (.int 200)) (f9 M9 (fC (.int 9)) (f7 4)))) (bK 3 (C4 (f6 (p6 Q5 (f6 (f7 0) (f6 (f7 5) j2))) (f6 (p6 Q5 (f6 (f7 0) (f6 (f9 C2 (f7 5) (fC (.int 1))) j2))) (f6 (p6 ti (f6 (f7 0) (f6 (f9 C2 (f7 5) (fC (.int 2))) j2))) j2))))))
def qg:Ds->Option PV:=(p6 kI (f6 (f7 1) (f6 (f9 C2 (fC (.int 130)) (f9 M9 (fC (.int 7)) (f7 0))) (f6 (f9 w5 (f7 12) (f7 0)) (f6 (f7 2) j2)))))
def pR:List l5->Option PV:=F9 3 13 (w4 (av 3 (E9 j2)) (w4 (L1 (Y4 aq (f6 (f7 1) j2)) (D3 4) iq) (w4 (A0 6 (f9 C2 (p6 Q5 (f6 (f7 0) (f6 (fC (.int 110)) j2))) (p6 Q5 (f6 (f7 0) (f6 (fC (.int 111)) j2))))) (w4 (A0 7 (f9 K7 (f9 M9 (p6 E5 (f6 (f7 0) (f6 (fC (.int 112)) j2))) (fC (.int 991))) (f9 C2 (f7 6) (fC (.int 1))))) (w4 (A0 8 (C4 (f6 (p6 Q5 (f6 (f7 0) (f6 (fC (.int 113)) j2))) (f6 (p6 Q5 (f6 (f7 0) (f6 (fC (.int 114)) j2))) j2)))) (w4 (A0 9 (C4 (f6 (p6 mm (f6 (f7 0) (f6 (fC (.int 115)) j2))) (f6 (p6 mm (f6 (f7 0) (f6 (fC (.int 118)) j2))) j2)))) (w4 (A0 10 (f9 C2 (f9 C2 (f9 C2 (C4 (f6 (f7 6) (f6 (f7 7) j2))) (f7 8)) (f7 9)) (C4 (f6 (f9 K7 (p6 E5 (f6 (f7 0) (f6 (fC (.int 121)) j2))) (fC (.int 13))) j2)))) (w4 (A0 11 (f9 w5 (E9 (f6 (E9 (f6 (fC (.str "w")) (f6 (fC (.str "wa")) (f6 (fC (.str "wab")) (f6 (fC (.str "a")) (f6 (fC (.str "ab")) (f6 (fC (.str "b")) j2))))))) (f6 (E9 (f6 (fC (.str "ab")) (f6 (fC (.str "a")) (f6 (fC (.str "b")) (f6 (fC (.str "abb")) (f6 (fC (.str "c")) (f6 (fC (.str "ca")) j2))))))) j2))) (f9 K7 (p6 E5 (f6 (f7 0) (f6 (fC (.int 122)) j2))) (fC (.int 2))))) (w4 (A0 12 (P4 (Y4 aq (f6 (f7 2) j2)) F7 F4 qg)) (B5 (Y5 (C4 (f6 (p6 cV (f6 (f7 3) j2)) (f6 (f7 10) (f6 (p6 cV (f6 (f7 12) j2)) j2)))))))))))))))
def bz:Ds->Option Out:=(w4 (A0 5 (E9 (f6 (fC (.str "dark")) j2))) (w4 (E4 (A8 (f9 qC (f9 w5 (f7 4) (fC (.int 2))) (fC .none))) (A0 5 (f9 C2 (E9 (f6 (fC (.str "line")) j2)) (p6 kO (f6 (f9 w5 (f7 4) (fC (.int 2))) j2)))) B7) (bK 3 (p6 O7 (f6 (f9 C2 (E9 (f6 (fC (.str "hour")) (f6 (f9 w5 (f7 4) (fC (.int 0))) (f6 (f9 w5 (f7 4) (fC (.int 1))) j2)))) (f7 5)) j2)))))
def gV:Ds->Option PV:=(p6 O7 (f6 (f9 C2 (E9 (f6 (fC (.str "work")) j2)) (p6 kO (f6 (f7 0) j2))) j2))
def bj:List l5->Option PV:=F9 1 6 (w4 (A0 1 (f9 w5 (f7 0) (fC (.int 1)))) (w4 (A0 2 (E9 (f6 (p6 V9 (f6 (f9 w5 (f7 1) (fC (.int 4))) j2)) (f6 (p6 V9 (f6 (f9 w5 (f7 1) (fC (.int 5))) j2)) j2)))) (w4 (av 3 (E9 (f6 (p6 O7 (f6 (f9 C2 (f9 C2 (f9 C2 (E9 (f6 (fC (.str "store")) j2)) (p6 kO (f6 (bM K4 (f7 1) S5 (M3 (fC (.int 4)))) j2))) (f7 2)) (E9 (f6 (f9 w5 (f7 1) (fC (.int 6))) j2))) j2)) j2))) (w4 (L1 (X7 (f9 w5 (f7 0) (fC (.int 0)))) (D3 4) bz) (B5 (Y5 (f9 C2 (f7 3) (P4 (X7 (f9 w5 (f7 0) (fC (.int 2)))) F7 F4 gV))))))))
def kJ:List l5->Option PV:=F9 3 4 (w4 (A0 3 (f9 K7 (p6 E5 (f6 (f7 0) (f6 (f7 1) j2))) (fC (.int 8)))) (w4 (E4 (A8 (f9 gZ (f7 3) (fC (.int 2)))) (B5 (C4 (f6 (f9 w5 (E9 (f6 (fC (.str "from")) (f6 (fC (.str "till")) j2))) (f7 3)) (f6 (f9 K7 (p6 E5 (f6 (f7 0) (f6 (f9 C2 (f7 1) (fC (.int 1))) j2))) (f9 C2 (f7 2) (fC (.int 1)))) j2)))) B7) (w4 (E4 (A8 (f9 gZ (f7 3) (fC (.int 4)))) (B5 (C4 (f6 (f9 w5 (E9 (f6 (fC (.str "over")) (f6 (fC (.str "under")) j2))) (f9 iE (f7 3) (fC (.int 2)))) (f6 (p6 Q5 (f6 (f7 0) (f6 (f9 C2 (f7 1) (fC (.int 1))) j2))) j2)))) B7) (w4 (E4 (A8 (f9 gZ (f7 3) (fC (.int 6)))) (B5 (C4 (f6 (f9 w5 (E9 (f6 (fC (.str "dear")) (f6 (fC (.str "cheap")) j2))) (f9 iE (f7 3) (fC (.int 4)))) (f6 (f9 iE (f9 K7 (p6 E5 (f6 (f7 0) (f6 (f9 C2 (f7 1) (fC (.int 1))) j2))) (fC (.int 27))) (fC (.int 6))) j2)))) B7) (B5 (C4 (f6 (f9 w5 (E9 (f6 (fC (.str "dark")) (f6 (fC (.str "sunny")) j2))) (f9 iE (f7 3) (fC (.int 6)))) j2)))))))
def pk:Ds->Option PV:=(p6 kJ (f6 (f7 1) (f6 (f9 C2 (f7 7) (f9 M9 (fC (.int 2)) (f7 0))) (f6 (f7 3) j2))))
def gu:Ds->Option Out:=(w4 (A0 6 (f9 C2 (f7 1) (f9 M9 (fC (.int 31)) (f7 5)))) (w4 (A0 7 (p6 E5 (f6 (f7 0) (f6 (f9 C2 (f7 6) (fC (.int 13))) j2)))) (w4 (A0 8 (P4 (Y4 aq (f6 (f9 w5 (E9 (f6 (f9 K7 (f9 aH (f7 7) (fC (.int 11))) (fC (.int 3))) (f6 (fC (.int 6)) j2))) (p6 (uc intD sG) (f6 (f9 D9 (f9 K7 (f7 7) (fC (.int 11))) (fC (.int 5))) j2))) j2)) F7 F4 pk)) (w4 (A0 9 (f9 w5 (E9 (f6 (fC (.str "none")) (f6 (fC (.str "sun")) (f6 (fC (.str "line")) j2)))) (f9 K7 (p6 E5 (f6 (f7 0) (f6 (f9 C2 (f7 6) (fC (.int 14))) j2))) (fC (.int 3))))) (w4 (A0 10 (f9 w5 (E9 (f6 (fC (.str "none")) (f6 (fC (.str "need")) (f6 (fC (.str "give")) j2)))) (f9 K7 (p6 E5 (f6 (f7 0) (f6 (f9 C2 (f7 6) (fC (.int 15))) j2))) (fC (.int 3))))) (bK 4 (C4 (f6 (p6 cV (f6 (f7 8) j2)) (f6 (f7 9) (f6 (f7 10) (f6 (f9 w5 (E9 (f6 (fC (.str "now")) (f6 (fC (.str "wait")) j2))) (f9 K7 (p6 E5 (f6 (f7 0) (f6 (f9 C2 (f7 6) (fC (.int 16))) j2))) (fC (.int 2)))) j2)))))))))))
def mQ:List l5->Option PV:=F9 4 11 (w4 (av 4 (E9 j2)) (w4 (L1 (Y4 aq (f6 (f7 3) j2)) (D3 5) gu) (B5 (Y5 (p6 cV (f6 (f7 4) j2))))))
def pQ:List l5->Option PV:=F9 1 2 (w4 (A0 1 (E9 (f6 (E9 (f6 (fC (.str "a")) (f6 (fC (.str "ab")) (f6 (fC (.str "abc")) (f6 (fC (.str "b")) j2))))) (f6 (E9 (f6 (fC (.str "show")) (f6 (fC (.str "best")) (f6 (fC (.str "rule")) (f6 (fC (.str "day")) j2))))) (f6 (E9 (f6 (fC (.str "zz")) (f6 (fC (.str "z")) (f6 (fC (.str "zzzzzzzz")) (f6 (fC (.str "zy")) j2))))) j2))))) (B5 (f9 w5 (f7 1) (f9 K7 (p6 E5 (f6 (f7 0) (f6 (fC (.int 90)) j2))) (fC (.int 3))))))
def fR:Ds->Option Out:=(Bl 1 (p6 kO (f6 (f7 2) j2)))
def fB:List l5->Option PV:=F9 1 3 (w4 (av 1 (E9 (f6 (fC (.str "when")) j2))) (w4 (L1 (X7 (f9 w5 (f7 0) (fC (.int 0)))) (D3 2) fR) (B5 (Y5 (p6 O7 (f6 (f9 C2 (f7 1) (E9 (f6 (fC (.str "fill")) (f6 (f9 w5 (f7 0) (fC (.int 1))) (f6 (fC (.str "take")) (f6 (f9 w5 (f7 0) (fC (.int 2))) (f6 (fC (.str "works")) (f6 (f9 w5 (f7 0) (fC (.int 3))) j2)))))))) j2))))))
def wB:Ds->Option Out:=(CJ 6 (E9 j2))
def nC:Ds->Option Out:=(w4 (A0 9 (f9 w5 (p6 mQ (f6 (f7 0) (f6 (f9 C2 (fC (.int 600)) (f9 M9 (fC (.int 40)) (f9 C2 (f9 M9 (fC (.int 4)) (f7 7)) (f7 8)))) (f6 (f7 1) (f6 (fC (.int 1)) j2))))) (fC (.int 0)))) (w4 (CK 6 (f7 7) (f7 9)) (kR (je dh (bT 3 (Q1 (f9 C2 (f9 C2 (f9 C2 (fC (.str "rule ")) (f9 w5 (f7 4) (f7 7))) (fC (.str " "))) (p6 fB (f6 (f7 9) j2))) (Q1 (E9 (f6 (fC (.str "ok")) j2)) mx)))) (B5 (fC (.bool U'))))))
def nB:Ds->Option Out:=(w4 (L1 (Y4 aq (f6 (f7 5) j2)) (D3 7) nC) (w4 (A0 10 (f9 K7 (p6 E5 (f6 (f7 0) (f6 (f9 C2 (fC (.int 1500)) (f7 8)) j2))) (f7 5))) (kR (lM 6 mq (bT 3 (Q1 (f7 2) (Q1 (f9 w5 (f7 4) (f7 10)) (wa 6 (f7 10) (Q1 (p6 E5 (f6 (f7 0) (f6 (f9 C2 (fC (.int 1510)) (f7 8)) j2))) mx)))))) (B5 (fC (.bool U'))))))
def nA:Ds->Option Out:=(kR (lM 6 mq (bT 3 (Q1 (f7 2) (Q1 (f9 w5 (f7 4) (f7 7)) (wa 6 (f7 7) (Q1 (p6 E5 (f6 (f7 0) (f6 (f9 C2 (fC (.int 1520)) (f7 7)) j2))) mx)))))) (B5 (fC (.bool U'))))
def sW:List l5->Option PV:=F9 1 11 (w4 (A0 1 (f9 C2 (fC (.int 1)) (f9 K7 (p6 E5 (f6 (f7 0) (f6 (fC (.int 0)) j2))) (fC (.int 6))))) (w4 (A0 2 (p6 pR (f6 (f7 0) (f6 (f7 1) (f6 (f9 K7 (p6 E5 (f6 (f7 0) (f6 (fC (.int 1)) j2))) (fC (.int 4))) j2))))) (w4 (av 3 (yX "Desk" fE (f6 (p6 bj (f6 (f7 2) j2)) j2))) (w4 (A0 4 (p6 pQ (f6 (f7 0) j2))) (w4 (A0 5 (f9 C2 (fC (.int 1)) (f9 K7 (p6 E5 (f6 (f7 0) (f6 (fC (.int 2)) j2))) (fC (.int 3))))) (w4 (av 6 (Lc a2f)) (w4 (L1 (Y4 aq (f6 (f7 5) j2)) (D3 7) wB) (w4 (L1 (Y4 aq (f6 (fC (.int 4)) j2)) (D3 8) nB) (w4 (L1 (Y4 aq (f6 (f7 5) j2)) (D3 7) nA) (B5 (fC (.bool Uf))))))))))))
end
theorem Lz(l:List l5):ly (.list l)=U l:=rfl
theorem QZ(l:List l5):ly (.tuple l)=U l:=rfl
theorem xn(l:List l5)(a b:Option Int):K4 (.list l) a b=Io (.list l) a b:=rfl
theorem Yu(l:List l5)(a b:Option Int):K4 (.tuple l) a b=Io (.tuple l) a b:=rfl
end Law
local macro_rules|`(tactic|walk_at "r")=>`(tactic|simp only[L2.F9,L2.qD,L2.cF,L2.DA,L2.DC,L2.BL,L2.wq,L2.pE,L2.EU,L2.fZ,L2.E4,L2.B5,L2.U2,L2.Xw,L2.B7,L2.Xx,L2.Oy,L2.Xz,L2.Xy,L2.a2T,L2.iO,L2.L1,L2.lK,L2.wt,L2.xF,L2.f7,L2.fC,L2.f9,L2.wU,L2.p6,L2.C4,L2.E9,L2.bM,L2.wV,L2.EZ,L2.OB,L2.Uj,L2.lL,L2.yY,L2.XB,L2.Flat,L2.Y5,L2.gM,L2.P4,L2.S5,L2.M3,L2.JA,L2.FI,L2.f6,L2.j2,L2.A8,L2.xQ,L2.jk,L2.W9,L2.F4,L2.Y4,L2.iSq,L2.X7,Law.Lz,Law.QZ,Law.xn,Law.Yu,L2.yl,L2.BK,L2.DX,L2.BS,L2.kB,L2.iQ,L2.D3,L2.eJ,L2.N0,L2.eM,L2.F7,L2.gA,L2.PV.eR,L2.PV.zh,L2.sA,
 L2.FL,L2.Dl,L2.IU,L2.IY,L2.Jg,L2.Jh,L2.Fn,L2.Ej,L2.Fm,L2.Ei,L2.Bf,L2.kx,L2.FP,L2.Eg,L2.Cb,L2.Ew,L2.tP,L2.Dc,L2.yC,L2.BZ,L2.Im,L2.Dr,L2.xC,L2.wO,L2.Fy,L2.EL,L2.Ce,L2.BI,L2.Cm,L2.Bp,L2.OC,L2.kP,L2.M8,L2.CN,L2.XR,L2.XQ,L2.XO,L2.XN,L2.XM,L2.XJ,L2.EI,L2.JM,String.reduceBEq,
 S7,Pp,jA,Pk,D8,fx,J4,oR,N8,fO,bY,bZ,mh,mf,vA,pL,Nat.reduceAdd,Nat.reduceSub,Nat.reduceEqDiff,Nat.reduceLeDiff,Nat.reduceLT,Int.reduceToNat,PK,eq_self,
 if_true,if_false,reduceIte,jo,decide_true,decide_false,rA,GR,decide_eq_false_iff_not,Gm,Gv,not_true_eq_false,not_false_eq_true,Gg,zQ,Bool.or_true,Gn,zP,zO,zX,Ab,reduceCtorEq,and_self])
namespace Law
open PySem L2
variable{y t:Int}{m:Nat}{q:Int×Int}
noncomputable abbrev gc(a b:Int):Int:=(B9 a b:Nat)
theorem ER(x y:Int):B9 y (x.fmod y)=B9 x y:=by
 rw[Int.fmod_def];apply Po
 . apply zD
   . have h1:((B9 y (x-y*x.fdiv y):Nat):Int)∣y:=jm ..;have h2:((B9 y (x-y*x.fdiv y):Nat):Int)∣x-y*x.fdiv y:=fQ ..;have h3:=Int.dvd_add h2 (Qy (c:=x.fdiv y) h1)
     rwa [Int.sub_add_cancel]at h3
   exact jm ..
 . apply zD;exact fQ ..;exact Int.dvd_sub (jm ..) (Qy (fQ ..))
theorem qq(x:Int)(h:y≠0):(x.fmod y).natAbs<y.natAbs:=by
 rcases Int.lt_or_gt_of_ne h with hy|hy
 . have e:Int.fmod x y=x % y+if 0<=y\/y∣x then 0 else y:=Int.fmod_eq_emod
   have h1:=Int.emod_nonneg x h;have h2:=Int.emod_lt x h;split at e<;>omega
 have h1:=N9 x hy;have h2:=O9 x hy;omega
def G6(t b:Int):Int×Int:=(t.fdiv (if b<0 then -gc t b else gc t b),b.fdiv (if b<0 then -gc t b else gc t b))
structure eU(m:Nat)(q:Int×Int):Prop where
 pos:0<q.2
 low:B9 q.1 q.2=1
 bt:Bt m q.1
 bb:Bt m q.2
theorem eU.mono{n:Nat}(h:eU m q)(hl:m<=n):eU n q:=⟨h.pos,h.low,h.bt.mono hl,h.bb.mono hl⟩
theorem Ui{n:Nat}{p:Int×Int}(hp:eU m p)(hq:eU n q)(h:p.1*q.2-q.1*p.2=0):p=q:=by
 obtain⟨a,b⟩:=p;obtain⟨c,d⟩:=q;have pb:0<b:=hp.pos;have pd:0<d:=hq.pos;have g1:B9 a b=1:=hp.low;have g2:B9 c d=1:=hq.low;have e:a*d=c*b:=by have:a*d-c*b=0:=h;lia
 have k1:b∣d:=by
  have z:b∣a*d:=⟨c,by rw[e,O4]⟩
  have z':b.natAbs∣a.natAbs*d.natAbs:=by rw[<-gp];exact Int.natAbs_dvd_natAbs.mpr z
  have cp:zC b.natAbs a.natAbs:=by rw[Ah];exact g1
  exact Int.natAbs_dvd_natAbs.mp (cp.dvd_of_dvd_mul_left z')
 have k2:d∣b:=by
  have z:d∣c*b:=⟨a,by rw[<-e,O4]⟩
  have z':d.natAbs∣c.natAbs*b.natAbs:=by rw[<-gp];exact Int.natAbs_dvd_natAbs.mpr z
  have cp:zC d.natAbs c.natAbs:=by rw[Ah];exact g2
  exact Int.natAbs_dvd_natAbs.mp (cp.dvd_of_dvd_mul_left z')
 have ebd:b=d:=by
  have:=ri pd k1;have:=ri pb k2;lia
 subst ebd;have:a=c:=Hw (by exact X8) e;rw[this]
theorem yR(hb:y≠0)(h:Bt m y):Bt m (gc t y):=h.of_le (by
 have h1:=Int.gcd_le_natAbs_right t hb;show((B9 t y:Nat):Int).natAbs<=_
 simp_all)
theorem Xv(hb:y≠0):gc t y≠0:=by
 have h1:=mM t hb;show((B9 t y:Nat):Int)≠0;simp[*]
theorem a2S(t b:Int):gc (if t<0 then -t else t) (if b<0 then -b else b)=gc t b:=by
 show((B9 _ _:Nat):Int)=(B9 t b:Nat)
 have e1:∀x y:Int,B9 (if x<0 then -x else x) y=B9 x y:=λx y=>by split<;>simp
 have e2:∀x y:Int,B9 x (if y<0 then -y else y)=B9 x y:=λx y=>by split<;>simp
 rw[e1,e2]
noncomputable abbrev fr(q:Int×Int):l5:=.tuple [.int q.1,.int q.2]
def pA(p q:Int×Int):Int×Int:=G6 (p.1*q.2+q.1*p.2) (p.2*q.2)
def uk(p q:Int×Int):Int×Int:=G6 (p.1*q.2-q.1*p.2) (p.2*q.2)
def lC(p q:Int×Int):Int×Int:=G6 (p.1*q.1) (p.2*q.2)
noncomputable def xX(p q:Int×Int):Bool:=decide (p.1*q.2<q.1*p.2)
theorem Hz(x y:Int)(z:Option PV):aS [iD x,iD y,z]=U (!decide (y=0)):=by unfold aS;walk_at "r"
theorem Va(x:Int)(z:Option PV)(h:y≠0):aT [iD x,iD y,z]=U (.next [iD y,iD (x.fmod y),iD (x.fmod y)]):=by unfold aT;walk_at "r";rw[E3 h];walk_at "r"
theorem iR(hx:0<=t)(hy:0<=y):U0 [.int t,.int y]=U (.dat (.int (gc t y))):=by
 unfold U0;walk_at "r";obtain⟨ds',h1,⟨x',y',z',rfl,hg,hx',hy'⟩,h3⟩:=BC (Fc:=aS) (G:=aT) (λds=>∃x' y' z',ds=[iD x',iD y',z']/\gc x' y'=gc t y/\0<=x'/\0<=y') (λds=>sA 1 ds-1) (by
  rintro ds ⟨x',y',z',rfl,hg,hx',hy'⟩;rw[Hz];by_cases h:y'=0;left;simp[h]
  . right;refine⟨by simp[h],_,Va x' z' h,⟨y',x'.fmod y',_,rfl,?_,hy',N9 x' (by lia)⟩,?_⟩
    . rw[<-hg];show((B9 y' (x'.fmod y'):Nat):Int)=(B9 x' y':Nat);rw[ER]
    . have:=qq x' h;walk_at "r"
      simp_all) (y.natAbs+1) [iD t,iD y,J] ⟨t,y,J,rfl,rfl,hx,hy⟩ (by walk_at "r";simp_all)
 rw[Hz]at h3;have hz:y'=0:=by simpa using h3
 subst hz;have e:gc x' 0=x':=by show((B9 x' 0:Nat):Int)=x';rw[PJ];lia
 rw[h1,<-hg,e];walk_at "r"
theorem HR{b:Int}(hb:b≠0)(hbb:Bt 8000 b):eX [.int t,.int b]=U (.dat (fr (G6 t b))):=by
 unfold eX;walk_at "r";rw[A4 hb];walk_at "r";rw[iR (by split<;>omega) (by split<;>omega),a2S];walk_at "r";have hg:=Xv (t:=t) hb;have hgb:=yR (t:=t) hb hbb;unfold G6;by_cases h0:b<0
 . simp only[A3 h0];walk_at "r";rw[O6 (by omega) hgb.neg,O6 (by omega) hgb.neg];rfl
 simp only[A4 h0];walk_at "r";rw[O6 hg hgb,O6 hg hgb];rfl
theorem a0t(h0:autoParam (0<=y) cK)(h1:autoParam (y<=1000000) cK):xV 10 y:=⟨h0,h1,by decide⟩
end Law
local macro_rules|`(tactic|walk_at "t")=>`(tactic|simp only[L2.F9,L2.qa,L2.CG,L2.aa,L2.E9,L2.X7,L2.ly,L2.kg,L2.findD,L2.qD,L2.cF,L2.DA,L2.DC,L2.BL,L2.wq,L2.pE,L2.EU,L2.fZ,L2.E4,L2.B5,L2.U2,L2.Xw,L2.B7,L2.Xx,L2.Oy,L2.Xz,L2.Xy,L2.a2T,L2.iO,L2.L1,L2.lK,L2.wt,L2.xF,L2.f7,L2.fC,L2.f9,L2.wU,L2.p6,L2.C4,L2.E9,L2.bM,L2.wV,L2.EZ,L2.OB,L2.Uj,L2.lL,L2.yY,L2.XB,L2.Flat,L2.Y5,L2.gM,L2.P4,L2.S5,L2.M3,L2.JA,L2.FI,L2.f6,L2.j2,L2.A8,L2.xQ,L2.jk,L2.W9,L2.F4,L2.Y4,L2.iSq,L2.yl,L2.BK,L2.DX,L2.BS,L2.kB,L2.iQ,L2.D3,L2.eJ,L2.N0,L2.eM,L2.F7,L2.gA,L2.PV.eR,L2.PV.zh,L2.sA,
 L2.FL,L2.Dl,L2.IU,L2.IY,L2.Jg,L2.Jh,L2.Fn,L2.Ej,L2.Fm,L2.Ei,L2.Bf,L2.kx,L2.FP,L2.Eg,L2.Cb,L2.Ew,L2.tP,L2.Dc,L2.yC,L2.BZ,L2.Im,L2.Dr,L2.xC,L2.wO,L2.Fy,L2.EL,L2.Ce,L2.BI,L2.Cm,L2.Bp,L2.OC,L2.kP,L2.KO,L2.KR,L2.KS,L2.KQ,L2.KP,L2.CN,L2.XR,L2.XQ,L2.XO,L2.XN,L2.XM,L2.XJ,L2.EI,L2.JM,String.reduceBEq,
 S7,Pp,jA,Pk,D8,fx,J4,oR,N8,fO,bY,bZ,mh,mf,vA,pL,Nat.reduceAdd,Nat.reduceSub,Nat.reduceEqDiff,Nat.reduceLeDiff,Nat.reduceLT,Int.reduceToNat,PK,eq_self,
 if_true,if_false,reduceIte,jo,decide_true,decide_false,rA,GR,decide_eq_false_iff_not,Gm,Gv,not_true_eq_false,not_false_eq_true,Gg,zQ,Bool.or_true,Gn,zP,zO,zX,Ab,reduceCtorEq,and_self])
namespace Law
open PySem L2 PySem.NumText PySem.StrLaws
variable{i:Int}{z:Str}{n:Nat}{Z:List Nat}
noncomputable abbrev C7(i:Int):Str:=p5 (aO i)
theorem TL(h:n<10^60):n.log2<1920:=by
 by_cases h0:n=0;subst h0;decide;exact(Gb h0).mpr (L9 (Gf h (show 10^60<2^200 by decide)) (mj (by decide) (by decide)))
theorem kb(h:i.natAbs<10^60):ke [.int i]=U (.dat (.str (C7 i))):=by
 show(if i.natAbs.log2<1920 then U (PV.dat (.str (C7 i)))else J)=_;rw[A3 (TL h)]
theorem NW(z:Str)(h:z.length<=1000):du (.str "") [.list [.str z]]=U (.dat (.str z)):=by
 have e:strsOf [.str z]=U [z]:=rfl;unfold du;simp only[e,S7];have hj:jr "" [z]=Uf:=by
  unfold jr;show(!decide (0+z.length+0>D6))=Uf
  have a:=qv;have b:(1000:Nat)<=D6:=by decide
  have:¬(0+z.length+0>D6):=by lia
  rw[L5 this];rfl
 rw[A3 hj];rfl
theorem au(h:i.natAbs<10^60):(C7 i).length<=61:=by
 rw[J3,dR];have hl:=(sx (n:=i.natAbs) (k:=60) (by decide)).mpr h;unfold bJ;split
 . rw[J4];simp_all
 exact C3 A2 A9
theorem yV(h0:0<=i)(h:i.natAbs<10^60):gs [.int i]=U (.dat (.str (C7 i))):=by
 have hC:gH [iD i,iD (10^60),U (.own []),iD i]=U U':=by
  unfold gH;walk_at "t"
  congr 1
  exact L5 (by lia)
 unfold gs;walk_at "t";rw[SE a0t];walk_at "t";rw[tN hC];walk_at "t";rw[kb h,P8 (l:=[]) _ rfl (by decide)];walk_at "t";show((du (.str "") [.list [.str (C7 i)]]).bind _).bind _=_;rw[NW _ (C3 (au h) (by decide))];rfl
theorem bq{y:Str}(h:z.length+y.length<=1000000):C2 (.str z) (.str y)=U (.dat (.str (z++y))):=by
 show(if z.length+y.length<=1000000 then U (PV.dat (.str (z++y)))else J)=_;rw[A3 h]
theorem NI:lz (p5 "-")=[45]:=by decide +kernel
theorem cG:lz (p5 "/")=[47]:=by decide +kernel
theorem Ny(h:i<0):(p5 "-"++C7 (-i))=C7 i:=by
 apply Z2;rw[aL,NI,dR,dR];unfold bJ;rw[A4 (by lia),A3 h,vh];rfl
def N2(p:Int×Int):Str:=if p.2=1 then C7 p.1 else C7 p.1++p5 "/"++C7 p.2
structure Small(p:Int×Int):Prop where
 top:p.1.natAbs<10^60
 bot:p.2.natAbs<10^60
 pos:0<p.2
theorem rL{p:Int×Int}(h:Small p):eF [fr p]=U (.dat (.str (N2 p))):=by
 have hb0:0<=p.2:=by have:=h.pos;omega
 have lt1:=au h.top;have lt2:=au h.bot;have ls:(p5 "/").length=1:=by decide +kernel
 have lm:(p5 "-").length=1:=by decide +kernel
 have ha:0<=(if p.1<0 then -p.1 else p.1):=by split<;>omega
 have han:(if p.1<0 then -p.1 else p.1).natAbs<10^60:=by
  split;rw[vh];exact h.top;exact h.top
 unfold eF N2;walk_at "t";rw[yV ha han];walk_at "t";have hs:(if p.1<0 then KJ (C2 (.str (p5 "-")) (.str (C7 (if p.1<0 then -p.1 else p.1)))) 1 [U (.dat (fr p)),U (.dat (.str (C7 (if p.1<0 then -p.1 else p.1))))]else U (Out.next [U (.dat (fr p)),U (.dat (.str (C7 (if p.1<0 then -p.1 else p.1))))]))=U (Out.next [U (.dat (fr p)),U (.dat (.str (C7 p.1)))]):=by
  by_cases hn:p.1<0
  . have l3:=au (i:=-p.1) (by rw[vh];exact h.top);rw[A3 hn,A3 hn,bq (by omega),Ny hn];rfl
  rw[A4 hn,A4 hn]
 rw[hs];walk_at "t";by_cases h1:p.2=1
 . rw[A4 (by simpa using h1),A3 h1];walk_at "t"
 . rw[A3 (by simpa using h1),A4 h1,bq (by omega)];walk_at "t";rw[yV hb0 h.bot];walk_at "t";rw[bq (by rw[J3,aL,L6,<-J3,<-J3];omega)];walk_at "t"
noncomputable def dig(c:Nat):Bool:=decide (48<=c/\c<=57)
theorem Bx:Z.all dig=Uf↔AllDigits Z:=by rw[vm];exact⟨λh c hc=>jn (h c hc),λh c hc=>S6 (h c hc)⟩
theorem ZR:lz (p5 "0123456789")=[48,49,50,51,52,53,54,55,56,57]:=by decide +kernel
theorem a0h(c:Nat):decide (c∈lz (p5 "0123456789"))=dig c:=by rw[ZR];unfold dig;rw[vj,jo,jo];simp only[K6,P7,P5];omega
theorem Np(c:Nat):(Z5 bu W8) (.str ⟨#[c]⟩) (.str (p5 "0123456789"))=U (.dat (.bool (!dig c))):=by
 show W8 (.str ⟨#[c]⟩) (.str (p5 "0123456789"))=_;show U (PV.dat (.bool (!Txt.contains (p5 "0123456789") ⟨#[c]⟩)))=_;rw[oj,a0h]
def bS(cs:List Nat):Option Nat:=if cs≠[]/\cs.length<=60/\cs.all dig=Uf then U (digitsVal cs)else J
noncomputable def Ek:Option Nat->l5
 |none=>.none
 |some n=>.int (n:Nat)
noncomputable def Bg:Option Int->l5
 |none=>.none
 |some n=>.int n
theorem QQ(z:Str)(c:Nat):O1 [U (.dat (.str z)),U (.dat (.str ⟨#[c]⟩))]=if dig c=Uf then U (.next [U (.dat (.str z)),U (.dat (.str ⟨#[c]⟩))])else U (.ret (.dat .none)):=by
 unfold O1;walk_at "t";rw[show(uN:l5)=.str (p5 "0123456789")from rfl,Np]
 walk_at "t";cases dig c<;>rfl
theorem wR(z:Str):∀(l:List Nat) (y:Option PV),(l.all dig=Uf->∃y',J9 (D3 1) O1 (l.map λc=>.str ⟨#[c]⟩) [U (.dat (.str z)),y]=U (.next [U (.dat (.str z)),y']))/\(l.all dig=U'->J9 (D3 1) O1 (l.map λc=>.str ⟨#[c]⟩) [U (.dat (.str z)),y]=U (.ret (.dat .none)))
 | [],y=>⟨λ_=>⟨y,rfl⟩,λh=>by cases h⟩
 |c::r,y=>by
  obtain⟨h1,h2⟩:=wR z r (U (.dat (.str ⟨#[c]⟩)));have hb:=QQ z c;rw[fN,D8];cases hc:dig c with
  |true=>
   rw[hc,A3 rfl]at hb;have e:=Z7 (gt:=D3 1) (G:=O1) (d:=.str ⟨#[c]⟩) (r:=r.map λc=>.str ⟨#[c]⟩) (ds:=[U (.dat (.str z)),y]) rfl hb;rw[e,zO];exact⟨h1,h2⟩
  |false=>
   rw[hc,A4 (by decide)]at hb;refine⟨λh=>(by cases h),λ_=>?_⟩;unfold J9;show(O1 [U (.dat (.str z)),U (.dat (.str ⟨#[c]⟩))]).bind _=_;rw[hb];rfl
theorem eq_empty(z:Str):(z=p5 "")↔lz z=[]:=⟨λh=>by rw[h];decide +kernel,λh=>Z2 (by rw[h];decide +kernel)⟩
theorem xy(h:z.length<=1000000):T6 [.str z]=U (.dat (.int (z.length:Nat))):=by
 show(if z.length<=1000000 then U (PV.dat (.int (z.length:Nat)))else J)=_;rw[A3 h]
theorem TZ(h1:AllDigits (lz z))(h2:lz z≠[])(h3:(lz z).length<=60):(uc intD sG) [.str z]=U (.dat (.int (digitsVal (lz z):Nat))):=by
 have hl:=J3 z;show(if z.length<=640 then(zW z).bind λn=>U (PV.dat (.int n))else J)=_;rw[A3 (by exact C3 A2 A9),intText_digits h1 h2 (by exact C3 A2 A9)];rfl
theorem rS(hz:z.length<=1000):bH [.str z]=U (.dat (Ek (bS (lz z)))):=by
 have hl:=J3 z;unfold bH bS;walk_at "t";rw[xy (by exact C3 A2 A9),show(kD:l5)=.int 60 from rfl];walk_at "t";by_cases h1:lz z=[]
 . rw[A3 ((eq_empty z).mpr h1),A4 (show ¬(lz z≠[]/\(lz z).length<=60/\(lz z).all dig=Uf)from λhh=>hh.1 h1)];rfl
 . rw[A4 (λe=>h1 ((eq_empty z).mp e))];by_cases h2:(lz z).length<=60
   . have e2:¬((z.length:Int)>60):=by lia
     walk_at "t";rw[A4 (show ¬((60:Int)<(z.length:Nat)) by omega)]
     walk_at "t";obtain⟨f1,f2⟩:=wR z (lz z) J;cases h3:(lz z).all dig with
     |true=>
      obtain⟨y',f1⟩:=f1 h3;rw[A3 ⟨h1,h2,rfl⟩];show(Z9 (J9 (D3 1) O1 ((lz z).map λc=>.str ⟨#[c]⟩) [U (.dat (.str z)),J]) _).bind _=_;rw[f1];walk_at "t";rw[TZ (Bx.mp h3) h1 h2];rfl
     |false=>
      rw[A4 (show ¬(lz z≠[]/\(lz z).length<=60/\U'=Uf)from λhh=>by cases hh.2.2)];show(Z9 (J9 (D3 1) O1 ((lz z).map λc=>.str ⟨#[c]⟩) [U (.dat (.str z)),J]) _).bind _=_;rw[f2 h3];rfl
   . have e2:((z.length:Int)>60):=by lia
     rw[A4 (show ¬(lz z≠[]/\(lz z).length<=60/\(lz z).all dig=Uf)from λhh=>h2 hh.2.1)];walk_at "t";rw[A3 (show(60:Int)<(z.length:Nat) by omega)];rfl
theorem Ng:p5 "-" = ⟨#[45]⟩:=Z2 (by decide +kernel)
theorem Nf:p5 "/" = ⟨#[47]⟩:=Z2 (by decide +kernel)
def gy(cs:List Nat):Option Int:=if cs.head? = U 45 then(bS (cs.drop 1)).map λn=>-((n:Nat):Int)else(bS cs).map λn=>((n:Nat):Int)
theorem To(o:Option Nat):Ek o=Bg (o.map λn=>((n:Nat):Int)):=by cases o<;>rfl
theorem Me(h:z.length<=1000000)(i:Nat):K4 (.str z) (U (i:Int)) J=U (.dat (.str (lU z (U (i:Int)) J))):=by
 show(if z.length<=1000000 then U (PV.dat (.str (lU z (U (i:Int)) J)))else J)=_;rw[A3 h]
theorem Kc(hz:z.length<=1000):iB [.str z]=U (.dat (Bg (gy (lz z)))):=by
 have hl:=J3 z;unfold iB gy;walk_at "t";rw[Ng,JT];walk_at "t";by_cases h:(lz z).head? = U 45
 . rw[A3 h];simp only[h,decide_true,Gm,rA,if_false];walk_at "t";rw[show(1:Int)=((1:Nat):Int)from rfl,Me (by exact C3 A2 A9)];walk_at "t";rw[rS (C3 (Txt.slice_le z _ _) hz),show lz (lU z (U 1) J)=(lz z).drop 1 from ZJ z 1]
   walk_at "t";cases bS ((lz z).drop 1)with
   |none=>rfl
   |some n=>rfl
 rw[A4 h];simp only[h,decide_false,Gv,if_true];rw[rS hz,To];rfl
theorem a0S(h:AllDigits Z):digitsVal Z<10^Z.length:=by
 have key:∀(l:List Nat) (a:Nat),AllDigits l->l.foldl (λacc c=>acc*10+(c-48)) a<(a+1)*10^l.length:=by
  intro l;induction l with
  |nil=>intro a _;simp
  |cons d l ih=>
   intro a hl;have hd:=hl.head;have:=ih (a*10+(d-48)) hl.tail;rw[GA];refine L9 this ?_;rw[J4,Nat.pow_succ,Nat.mul_comm (10^l.length) 10,<-Nat.mul_assoc];exact Ql _ (by lia)
 have:=key Z 0 h;simpa [digitsVal]using this
theorem xo(h:bS Z=U n):n<10^60:=by
 unfold bS at h;split at h;rename_i hh;cases h;exact L9 (a0S (Bx.mp hh.2.2)) (mj (by decide) hh.2.1);cases h
theorem RH(h:gy Z=U i):i.natAbs<10^60:=by
 unfold gy at h;split at h
 . cases e:bS (Z.drop 1)with
   |none=>rw[e]at h;cases h
   |some m=>
    rw[e]at h;cases h;have:=xo e;rw[vh];exact this
 . cases e:bS Z with
   |none=>rw[e]at h;cases h
   |some m=>
    rw[e]at h;cases h;exact xo e
noncomputable def jh(cs:List Nat):List Nat:=if 47∈cs then cs.take (cs.idxOf 47)else cs
noncomputable def my(cs:List Nat):List Nat:=if 47∈cs then cs.drop (cs.idxOf 47+1)else[]
def Oz:Option (Int×Int)->l5
 |none=>.none
 |some q=>fr q
def judge(cs:List Nat):Option Int->Option Nat->Option (Int×Int)
 |some t,U b=>if b=0 then J else if lz (N2 (G6 t b))=cs then U (G6 t b)else J
 |_,_=>J
def lE(cs:List Nat):Option (Int×Int):=judge cs (gy (jh cs)) (if 47∈cs then bS (my cs)else U 1)
theorem OO(z:Str):∃a b c,jg z ⟨#[47]⟩=[a,b,c]/\lz a=jh (lz z)/\lz b=(if 47∈lz z then[47]else[])/\lz c=my (lz z):=by
 have h:=a0r z 47;unfold jh my;have three:∀{l:List Str}{p q r:List Nat},l.map lz=[p,q,r]->∃a b c,l=[a,b,c]/\lz a=p/\lz b=q/\lz c=r:=λ{l p q r} h=>by have hl:=H0 Gd h;rw[C8]at hl;obtain⟨a,b,c,rfl⟩:=a5t hl;simp only[D8,fx,List.cons.injEq,and_true]at h;exact⟨a,b,c,rfl,h.1,h.2.1,h.2.2⟩
 by_cases hm:47∈lz z;rw[A3 hm]at h;simp only[A3 hm];exact three h;rw[A4 hm]at h;simp only[A4 hm];exact three h
theorem HJ(h:z.length<=1000):sj (.str z) [.str (p5 "/")]=U (.dat (.tuple ((jg z ⟨#[47]⟩).map .str))):=by
 show(if ((p5 "/").length==0)=U'/\z.length<=1000000 then U (PV.dat (.tuple ((jg z (p5 "/")).map .str)))else J)=_;rw[A3 ⟨by decide +kernel,by exact C3 A2 A9⟩,Nf]
theorem UB(cs:List Nat):(jh cs).length<=cs.length:=by
 unfold jh;split;rw[rn];lia;exact K5 _
theorem UA(cs:List Nat):(my cs).length<=cs.length:=by
 unfold my;split
 . rw[rm];simp_all
 exact jx _
theorem Jn(t:Int):(t/i).natAbs<=t.natAbs:=Int.natAbs_ediv_le_natAbs t i
theorem NA{t b:Int}(hb:0<b)(h1:t.natAbs<10^60)(h2:b.natAbs<10^60):Small (G6 t b):=by
 have hg:0<B9 t b:=mM t (by exact X8)
 have hgi:(0:Int)<gc t b:=by show(0:Int)<((B9 t b:Nat):Int);simp[*]
 have e:G6 t b=(t/gc t b,b/gc t b):=by unfold G6;rw[A4 (by lia),dI _ (by simp_all),dI _ (by simp_all)]
 have d2:gc t b∣b:=fQ ..;rw[e];exact⟨dH (Jn t) h1,dH (Jn b) h2,Hu hb (by simp_all) d2⟩
theorem a3n(h:i.natAbs<10^60):Bt 8000 i:=⟨L9 (Gf h (show 10^60<2^200 by decide)) (mj (by decide) (by decide))⟩
theorem kN(hz:z.length<=1000):bh [.str z]=U (.dat (Oz (lE (lz z)))):=by
 have hl:=J3 z;obtain⟨a,b,c,ec,la,lb,lc⟩:=OO z;have za:a.length<=1000:=by rw[J3,la];exact C3 (UB _) (by assumption)
 have zc:c.length<=1000:=by rw[J3,lc];exact C3 (UA _) (by assumption)
 have eb:(b=p5 "/")↔47∈lz z:=by
  constructor
  . intro e;rw[e,cG]at lb;by_cases hm:47∈lz z;exact hm;rw[A4 hm]at lb;cases lb
  intro hm;rw[A3 hm]at lb;exact Z2 (by rw[lb,cG])
 unfold bh lE;walk_at "t";rw[HJ hz,ec];walk_at "t";rw[Kc za,la];walk_at "t";rw[rS zc,lc];walk_at "t";have hs:(if b=p5 "/" then U (Out.next [U (PV.dat (E7 z)),U (PV.dat (af [.str a,.str b,.str c])),U (PV.dat (Bg (gy (jh (lz z))))),U (PV.dat (Ek (bS (my (lz z))))),J])else U (Out.next [U (PV.dat (E7 z)),U (PV.dat (af [.str a,.str b,.str c])),U (PV.dat (Bg (gy (jh (lz z))))),U (PV.dat (lV 1)),J]))
   = U (Out.next [U (PV.dat (E7 z)),U (PV.dat (af [.str a,.str b,.str c])),U (PV.dat (Bg (gy (jh (lz z))))),U (PV.dat (Ek (if 47∈lz z then bS (my (lz z))else U 1))),J]):=by
  by_cases hm:47∈lz z;rw[A3 (eb.mpr hm),A3 hm]
  . rw[A4 (λe=>hm (eb.mp e)),A4 hm];rfl
 rw[hs];have hbig:∀n,(if 47∈lz z then bS (my (lz z))else U 1)=U n->n<10^60:=λn h=>by
  split at h;exact xo h;cases h;decide
 generalize hB:(if 47∈lz z then bS (my (lz z))else U 1)=B at hbig
 generalize hA:gy (jh (lz z))=A;cases A with
 |none=>rfl
 |some t=>
  have ht:=RH hA;cases B with
  |none=>rfl
  |some n=>
   have hn:=hbig n rfl;walk_at "t";rw[show Bg (U t)=.int t from rfl,show Ek (U n)=.int ((n:Nat):Int)from rfl];walk_at "t";rw[show judge (lz z) (U t) (U n)=(if n=0 then J else if lz (N2 (G6 t ((n:Nat):Int)))=lz z then U (G6 t ((n:Nat):Int))else J)from rfl];by_cases h0:n=0
   . rw[A3 (show((n:Nat):Int)=0 by simp_all),A3 h0];rfl
   . rw[A4 (show ¬(((n:Nat):Int)=0) by simp_all),A4 h0];walk_at "t";have hs:=NA (t:=t) (b:=((n:Nat):Int)) (by lia) ht hn;rw[HR (b:=((n:Nat):Int)) (by simp_all) (a3n (i:=((n:Nat):Int)) hn)];walk_at "t";rw[rL hs];walk_at "t";have ez:(N2 (G6 t ((n:Nat):Int))=z)↔lz (N2 (G6 t ((n:Nat):Int)))=lz z:=⟨λe=>by rw[e],Z2⟩;by_cases he:N2 (G6 t ((n:Nat):Int))=z
     . rw[A3 (ez.mp he),A4 (by simpa using he)];rfl
     . rw[A4 (λe=>he (ez.mpr e)),A3 (by simpa using he)];rfl
theorem TY{n:Int}(h:0<=n):bJ n=cX n.natAbs:=by unfold bJ;rw[A4 (by simp_all)]
theorem Nn{c:Nat}(h:(cX n).head? = U c):48<=c/\c<=57:=aE n c (List.mem_of_mem_head? (by rw[h];rfl))
theorem tV(h:n<10^60):bS (cX n)=U n:=by
 have hp:=Ku n;have hl:=(sx (n:=n) (k:=60) (by decide)).mpr h;unfold bS;rw[A3 ⟨hp.2.1,hl,Bx.mpr hp.1⟩,xu]
theorem BO(h:i.natAbs<10^60):gy (bJ i)=U i:=by
 unfold gy bJ;split
 . rename_i h0;rw[A3 (show(45::cX i.natAbs).head? = U 45 from rfl),show(45::cX i.natAbs).drop 1=cX i.natAbs from rfl,tV h];show U (-((i.natAbs:Nat):Int))=_
   congr 1
   omega
 . rename_i h0;rw[A4 (λq=>by have:=Nn q;simp_all),tV h];show U ((i.natAbs:Nat):Int)=_
   congr 1
   lia
theorem uh(n:Nat):47∉cX n:=λh=>by
 have:=aE n 47 h
 simp_all
theorem ui(n:Int):47∉bJ n:=by
 unfold bJ;split
 . intro h;rcases List.mem_cons.mp h with h|h
   cases h;exact uh _ h
 exact uh _
variable{Z:List Str}
theorem F6{a b:String}:(p5 a=p5 b)=(a=b):=by
 refine propext ⟨λh=>?_,λh=>by rw[h]⟩
 rw[Qu,Qu]at h;injection h with h
 injection h with h
 have:a.toList=b.toList:=PH (λx y e=>Char.toNat_inj.mp e) |>.mp h
 exact String.toList_inj.mp this
theorem vZ(s:Str):∀(ws:List Str),lz (qS s ws)=(match ws with | []=>[]|w::r=>lz w++(r.map λx=>lz s++lz x).flatten)
 | []=>rfl
 | [w]=>by simp[qS]
 |w::x::r=>by
  have ih:=vZ s (x::r);show lz (w++s++qS s (x::r))=_;rw[aL,aL,ih];simp[eT]
theorem Cc{c:Nat}:∀(a b:List (List Nat)) (x y:List Nat),(∀l∈x::a,c∉l)->(∀l∈y::b,c∉l)->x++(a.map λz=>c::z).flatten=y++(b.map λz=>c::z).flatten->x=y/\a=b
 |a,b,x,y,ha,hb,e=>by
  have key:∀(x y:List Nat) (p q:List Nat),c∉x->c∉y->(p=[]\/p.head? = U c)->(q=[]\/q.head? = U c)->x++p=y++q->x=y/\p=q:=by
   intro x;induction x with
   |nil=>
    intro y p q hx hy hp hq e;cases y with
    |nil=>exact⟨rfl,e⟩
    |cons d y=>
     rw[bY]at e;rcases hp with rfl|hp
     simp at e;rw[e]at hp;simp at hp;exact absurd (by simp[hp]) hy
   |cons d x ih=>
    intro y p q hx hy hp hq e;cases y with
    |nil=>
     rw[bY]at e;rcases hq with rfl|hq
     simp at e;rw[<-e]at hq;simp at hq;exact absurd (by simp[hq]) hx
    |cons d' y=>
     rw[fO,fO]at e;injection e with e1 e2
     obtain⟨h1,h2⟩:=ih y p q (λz=>hx (F8 _ z)) (λz=>hy (F8 _ z)) hp hq e2;exact⟨by rw[e1,h1],h2⟩
  have hd:∀l:List (List Nat),(l.map λz=>c::z).flatten=[]\/((l.map λz=>c::z).flatten).head? = U c:=λl=>by
   cases l with
   |nil=>exact .inl rfl
   |cons z l=>exact .inr rfl
  obtain⟨h1,h2⟩:=key x y _ _ (ha x (by simp)) (hb y (by simp)) (hd a) (hd b) e
  refine⟨h1,?_⟩;cases a with
  |nil=>
   cases b with
   |nil=>rfl
   |cons z b=>simp at h2
  |cons z a=>
   cases b with
   |nil=>simp at h2
   |cons z' b=>
    have h2':c::(z++(a.map λz=>c::z).flatten)=c::(z'++(b.map λz=>c::z).flatten):=by simpa using h2
    injection h2' with _ h3
    obtain⟨h4,h5⟩:=Cc a b z z' (λl hl=>ha l (F8 _ hl)) (λl hl=>hb l (F8 _ hl)) h3;rw[h4,h5]
termination_by a=>a.length
theorem JV{c:Nat}(hn:Z≠[])(hf:∀w∈Z,c∉lz w):lT (aN ⟨#[c]⟩ Z) ⟨#[c]⟩=Z:=by
 have hj:=join_split (aN ⟨#[c]⟩ Z) ⟨#[c]⟩;have hs:=split_free (aN ⟨#[c]⟩ Z) c;have hp:=PyProof.Rows.split_pos (aN ⟨#[c]⟩ Z) ⟨#[c]⟩;rw[show aN ⟨#[c]⟩ Z=qS ⟨#[c]⟩ Z from glued_eq_join _ _]at *
 generalize lT (qS ⟨#[c]⟩ Z) ⟨#[c]⟩=S at *;cases S with
 |nil=>simp at hp
 |cons y b=>
  cases Z with
  |nil=>exact absurd rfl hn
  |cons x a=>
   have e:=H0 lz hj;rw[vZ,vZ]at e;have e':lz y++((b.map lz).map λz=>c::z).flatten=lz x++((a.map lz).map λz=>c::z).flatten:=by rw[V3,V3];exact e
   obtain⟨h1,h2⟩:=Cc (b.map lz) (a.map lz) (lz y) (lz x) (λl hl=>by
    rcases List.mem_cons.mp hl with rfl|hl
    exact hs y (by simp)
    . obtain⟨w,hw,rfl⟩:=mem_map.mp hl;exact hs w (by simp[hw])) (λl hl=>by
    rcases List.mem_cons.mp hl with rfl|hl
    exact hf x (by simp)
    . obtain⟨w,hw,rfl⟩:=mem_map.mp hl;exact hf w (by simp[hw])) e'
   rw[Z2 h1,PH (λx y e=>Z2 e) |>.mp h2]
theorem EY(k:Nat):∀(ts:List Str) (n:Nat),(∀t∈ts,t.length<=130)->ts.foldl (λa t=>a+t.length+k) n<=n+ts.length*(130+k)
 | [],n,_=>by simp
 |t::ts,n,h=>by
  have ht:=h t (by simp);have ih:=EY k ts (n+t.length+k) λx hx=>h x (by simp[hx]);rw[GA,J4,Nat.add_mul];omega
theorem yi:∀l:List Str,strsOf (l.map .str)=U l
 | []=>rfl
 |a::l=>by rw[D8];unfold strsOf;rw[yi l];rfl
theorem Dn:p5 " " = ⟨#[32]⟩:=Z2 (by decide +kernel)
theorem xB{ws:List Str}(hl:ws.length<=700)(h:∀w∈ws,w.length<=130):du (.str (p5 " ")) [.list (ws.map .str)]=U (.dat (.str (aN ⟨#[32]⟩ ws))):=by
 show((strsOf (ws.map .str)).bind λts=>if jr (p5 " ") ts=Uf then U (PV.dat (E7 (aN (p5 " ") ts)))else J)=_
 rw[yi,Dn];have hj:jr ⟨#[32]⟩ ws=Uf:=by
  have f:=EY 1 ws 0 h;unfold jr;rw[List.foldl_toArray];show(!decide (ws.foldl (λa t=>a+t.length+1) 0>D6))=Uf
  have s:(92000:Nat)<=D6:=by decide
  rw[L5 (by lia)];rfl
 simp only[S7,hj,if_true]
theorem xA(hl:Z.length<=700)(h:∀w∈Z,w.length<=130):(aN ⟨#[32]⟩ Z).length<=92000:=by
 have e:=size_glued ⟨#[32]⟩ Z;have s:(Z.map (·.length)).sum<=Z.length*130:=by
  clear hl e;induction Z with
  |nil=>simp
  |cons w r ih=>
   have:=h w (by simp);have:=ih λx hx=>h x (by simp[hx]);simp only[D8,List.sum_cons,J4,Nat.add_mul];lia
 have:(aN ⟨#[32]⟩ Z).length=(Z.map (·.length)).sum+(Z.length-1)*1:=e;lia
theorem tS{ws:List Str}(hn:ws≠[])(hl:ws.length<=700)(h:∀w∈ws,w.length<=130)(hf:∀w∈ws,32∉lz w):fU (.str (aN ⟨#[32]⟩ ws)) [.str (p5 " ")]=U (.own (ws.map .str)):=by have hj:=xA hl h;unfold fU;rw[Dn];simp only;rw[A3 ⟨by rfl,by exact C3 A2 A9⟩,JV hn hf]
theorem ZL(n:Int):G6 n 1=(n,1):=by
 have h1:gc n 1=1:=by show((B9 n 1:Nat):Int)=1;simp
 unfold G6;rw[A4 (by decide),h1];simp
theorem rT{n:Int}(h:n.natAbs<10^60):lE (bJ n)=U (n,1):=by
 have hs:=ui n;unfold lE jh;rw[A4 hs,A4 hs,BO h];show(if (1:Nat)=0 then J else if lz (N2 (G6 n ((1:Nat):Int)))=bJ n then U (G6 n ((1:Nat):Int))else J)=U (n,1);rw[A4 (by decide),show(((1:Nat):Int))=1 from rfl,ZL]
 have e:lz (N2 (n,1))=bJ n:=by unfold N2;rw[A3 rfl];exact dR n
 rw[A3 e]
variable{n:Int}{q:Int×Int}
theorem a0s{A B:List Nat}(h:47∉A):jh (A++47::B)=A/\my (A++47::B)=B:=by
 have hm:47∈A++47::B:=Q3 _ F5;have hi:(A++47::B).idxOf 47=A.length:=by rw[List.idxOf_append,A4 h,List.idxOf_cons_self,zK]
 unfold jh my;rw[A3 hm,A3 hm,hi,List.take_left,<-List.drop_drop,List.drop_left];exact⟨rfl,rfl⟩
theorem vY(hq:0<q.2):lz (N2 q)=if q.2=1 then bJ q.1 else bJ q.1++47::cX q.2.natAbs:=by
 unfold N2;split;rw[dR]
 . rw[aL,aL,cG,dR,dR,TY (n:=q.2) (by exact ab A2),eT];rfl
theorem NB{b:Int}(hb:0<b)(h:B9 n b=1):G6 n b=(n,b):=by
 unfold G6;rw[A4 (by lia)]
 have e:gc n b=1:=by show((B9 n b:Nat):Int)=1;rw[h];rfl
 rw[e,zI,zI]
theorem Kd(h0:0<q.2)(h1:B9 q.1 q.2=1)(hs:Small q)(hn:q.1.natAbs<10^60)(hd:q.2.natAbs<10^60):lE (lz (N2 q))=U q:=by
 by_cases c:q.2=1
 . have e:lz (N2 q)=bJ q.1:=by rw[vY h0,A3 c]
   rw[e,rT hn];exact H0 U (Prod.ext rfl c.symm)
 . have e:lz (N2 q)=bJ q.1++47::cX q.2.natAbs:=by rw[vY h0,A4 c]
   have hm:47∈lz (N2 q):=by rw[e];exact Q3 _ F5
   obtain⟨c1,c2⟩:=a0s (A:=bJ q.1) (B:=cX q.2.natAbs) (ui q.1);unfold lE;rw[A3 hm];rw[show jh (lz (N2 q))=bJ q.1 by rw[e];exact c1,show my (lz (N2 q))=cX q.2.natAbs by rw[e];exact c2,BO hn,tV hd]
   have eb:((q.2.natAbs:Nat):Int)=q.2:=by lia
   show(if q.2.natAbs=0 then J else if lz (N2 (G6 q.1 ((q.2.natAbs:Nat):Int)))=lz (N2 q)then U (G6 q.1 ((q.2.natAbs:Nat):Int))else J)=U q;rw[A4 (by lia),eb,NB h0 h1,A3 rfl]
theorem yA(h : -1000000<=n/\n<=1000000):n.natAbs<10^60:=dH (show n.natAbs<=1000000 by omega) (by decide)
theorem BM{least:Int}(h0:least<=n)(h1:n<=1000000)(hl : -1000000<=least):dY [.str (C7 n),.int least]=U (.dat (.int n)):=by
 have hn:n.natAbs<10^60:=yA ⟨by exact H9 A2 A2,h1⟩;have rf:=kN (z:=C7 n) (C3 (au hn) (by decide));rw[dR,rT hn]at rf;unfold dY;walk_at "t";rw[rf];walk_at "t";show _=_;unfold Oz;walk_at "t";rw[A4 (by simp_all),L5 (show ¬1000000<n by simp_all)];walk_at "t"
theorem Ke(h0:0<=n)(h1:n<=1000000):cy [.str (C7 n)]=U (.dat (.int n)):=by
 unfold cy;walk_at "t";rw[BM h0 h1 (by decide)];walk_at "t"
theorem Mu(h0 : -1000000<=n)(h1:n<=1000000):jG [.str (C7 n)]=U (.dat (.int n)):=by
 unfold jG;walk_at "t";rw[BM h0 h1 (by decide)];walk_at "t"
structure oF(q:Int×Int):Prop where
 pos:0<q.1
 le:q.1<=q.2
 most:q.2<=1000
 low:B9 q.1 q.2=1
variable{q:Int×Int}
theorem oF.small(h:oF q):Small q:=by have:=h.pos;have:=h.le;have:=h.most;exact⟨yA ⟨by lia,by lia⟩,yA ⟨by lia,by exact H9 A2 A9⟩,by exact H9 A2 A2⟩
theorem oF.len(h:oF q):(N2 q).length<=130:=by
 have s:=h.small;have l1:=au s.top;have l2:=au s.bot;unfold N2;split;exact C3 A2 A9
 . rw[J3,aL,aL,L6,L6,cG,<-J3,<-J3];show _+1+_<=130;lia
theorem Mt(h:oF q):jF [.str (N2 q)]=U (.dat (fr q)):=by
 have p0:=h.pos;have p1:=h.le;have p2:=h.most;have s:=h.small;have rf:=kN (z:=N2 q) (C3 h.len (by decide));rw[Kd s.pos h.low s s.top s.bot]at rf;unfold jF;walk_at "t";rw[rf];walk_at "t";show _=_;unfold Oz;walk_at "t";rw[A4 (by simp_all),A4 (by simp_all),L5 (show ¬1000<q.2 by simp_all)];walk_at "t"
noncomputable def IT(c:Nat):Bool:=decide (97<=c/\c<=122)
structure Nm(z:Str):Prop where
 ne:lz z≠[]
 len:(lz z).length<=8
 all:(lz z).all IT=Uf
theorem ZQ:lz (p5 "abcdefghijklmnopqrstuvwxyz")=[97,98,99,100,101,102,103,104,105,106,107,108,109,110,111,112,113,114,115,116,117,118,119,120,121,122]:=by decide +kernel
theorem IS{c:Nat}(h:IT c=Uf):c∈lz (p5 "abcdefghijklmnopqrstuvwxyz"):=by
 rw[ZQ];have:=jn h;simp only[K6,P7,P5];lia
variable{r:Ds}{a:String}{f:List l5->Option PV}{Z:Ds->Option (List l5)}{Y:Ds->Option PV}
theorem a0C(z:Str){c:Nat}(h:IT c=Uf):cB [U (.dat (.str z)),U (.dat (.str ⟨#[c]⟩))]=U (.next [U (.dat (.str z)),U (.dat (.str ⟨#[c]⟩))]):=by
 have e:(Z5 bu W8) (.str ⟨#[c]⟩) (.str (p5 "abcdefghijklmnopqrstuvwxyz"))=U (.dat (.bool U')):=by
  show U (PV.dat (.bool (!Txt.contains (p5 "abcdefghijklmnopqrstuvwxyz") ⟨#[c]⟩)))=_;rw[oj,S6 (IS h)];rfl
 unfold cB;walk_at "t";rw[show(gS:l5)=.str (p5 "abcdefghijklmnopqrstuvwxyz")from rfl,e];walk_at "t"
theorem Cj(z:Str):∀(l:List Nat) (y:Option PV),l.all IT=Uf->∃y',J9 (D3 1) cB (l.map λc=>.str ⟨#[c]⟩) [U (.dat (.str z)),y]=U (.next [U (.dat (.str z)),y'])
 | [],y,_=>⟨y,rfl⟩
 |c::r,y,h=>by rw[fN,dG]at h;obtain⟨y',e⟩:=Cj z r (U (.dat (.str ⟨#[c]⟩))) h.2;refine⟨y',?_⟩;rw[D8,Z7 rfl (a0C z h.1)];exact e
theorem RF{z:Str}(h:Nm z):kX [.str z]=U (.dat (.str z)):=by
 have hl:=J3 z;have h8:=h.len;unfold kX;walk_at "t";rw[xy (by exact C3 A2 A9),show(da:l5)=.int 8 from rfl];walk_at "t";rw[A4 (λe=>h.ne ((eq_empty z).mp e)),L5 (show ¬((8:Int)<(z.length:Nat)) by lia)];walk_at "t";obtain⟨y',f1⟩:=Cj z (lz z) J h.all;show(Z9 (J9 (D3 1) cB ((lz z).map λc=>.str ⟨#[c]⟩) [U (.dat (.str z)),J]) _).bind _=_;rw[f1];walk_at "t"
inductive ba where
 |am (n:Int)
 |pr (n:Int)
 |sh (q:Int×Int)
 |nm (z:Str)
def ba.rd:ba->l5
 | .am _=>bx "read_amount"
 | .pr _=>bx "read_price"
 | .sh _=>bx "read_share"
 | .nm _=>bx "read_name"
def ba.w:ba->Str
 | .am n=>C7 n
 | .pr n=>C7 n
 | .sh q=>N2 q
 | .nm z=>z
def ba.v:ba->l5
 | .am n=>.int n
 | .pr n=>.int n
 | .sh q=>fr q
 | .nm z=>.str z
noncomputable def ba.ok:ba->Prop
 | .am n=>0<=n/\n<=1000000
 | .pr n=>-1000000<=n/\n<=1000000
 | .sh q=>oF q
 | .nm z=>Nm z
theorem wx{b:String}(h:a≠b):jc 0 (p5 b) f Z (U (.dat (bx (p5 a)))::r)=J:=by
 show(if p5 a=p5 b then _ else J)=J;rw[A4 (by rw[F6];exact h)]
theorem yT:jc 0 (p5 a) f Z (U (.dat (bx (p5 a)))::r)=(Z (U (.dat (bx (p5 a)))::r)).bind f:=by
 show(if p5 a=p5 a then _ else J)=_;rw[A3 rfl]
theorem kF{F2:Ds->Option PV}(h:Y r=J):qa Y F2 r=F2 r:=by unfold qa;rw[h]
theorem sS{F2:Ds->Option PV}{pv:PV}(h:Y r=U pv):qa Y F2 r=U pv:=by unfold qa;rw[h]
theorem JD{x:ba}(h:x.ok)(r:Ds):S0 (U (.dat x.rd)::U (.dat (.str x.w))::r)=U (.dat x.v):=by
 unfold S0;cases x with
 |am n=>exact sS (yT.trans (Ke h.1 h.2))
 |nm z=>exact(kF (wx (by decide))).trans (sS (yT.trans (RF h)))
 |pr n=>exact(kF (wx (by decide))).trans ((kF (wx (by decide))).trans (sS (yT.trans (Mu h.1 h.2))))
 |sh q=>exact(kF (wx (by decide))).trans ((kF (wx (by decide))).trans ((kF (wx (by decide))).trans (yT.trans (Mt h))))
theorem yx{ds:Ds}:∀l:List ba,(∀x∈l,x.ok)->O2 (gA 2) F4 S0 ds (bD (λx y=>.tuple [x,y]) (l.map ba.rd) (l.map λx=>.str x.w))=U (l.map ba.v)
 | [],_=>rfl
 |x::l,h=>by
  have ih:=yx (ds:=ds) l λy hy=>h y (F8 _ hy);show(S0 (U (.dat x.rd)::U (.dat (.str x.w))::ds)).bind (λy=>(O2 (gA 2) F4 S0 ds (bD (λx y=>.tuple [x,y]) (l.map ba.rd) (l.map λx=>.str x.w))).bind λl=>U (y.d::l))=_;rw[JD (h x F5),ih];rfl
theorem Ic(x:ba):nP x.v=Uf/\M8 x.v=U':=by cases x<;>exact⟨rfl,rfl⟩
theorem sf{l:List ba}(h:∀x∈l,x.ok)(hl:l.length<=100):T9 [.list (l.map λx=>.str x.w),.tuple (l.map ba.rd)]=U (.dat (.tuple (l.map ba.v))):=by
 have e1:mZ .none (.list (l.map ba.v))=U (.dat (.bool U')):=by
  show(if (l.map ba.v).all nP=Uf then U (PV.dat (.bool ((l.map ba.v).any M8)))else J)=_;rw[A3 (by rw[vm];intro d hd;obtain⟨x,_,rfl⟩:=mem_map.mp hd;exact(Ic x).1)]
  congr 3
  rw[GU];intro d hd;obtain⟨x,_,rfl⟩:=mem_map.mp hd;rw[(Ic x).2];decide
 unfold T9;walk_at "t";rw[C8,C8];walk_at "t";rw[show iU [.tuple (l.map ba.rd),.list (l.map λx=>.str x.w)]=U (bD (λx y=>.tuple [x,y]) (l.map ba.rd) (l.map λx=>.str x.w))from rfl];walk_at "t";rw[A3 (by rw[gE,C8,C8];lia),yx l h]
 walk_at "t";rw[e1];walk_at "t";try rw[A3 (by rw[C8];omega)]
 try walk_at "t"
variable{l:List Str}
noncomputable abbrev Q2:=Int×Int
structure Hr where
 Q6:Int
 need:Int
 line:Option (Int×Int×Int×Int)
noncomputable def U1:Option (Int×Int×Int×Int)->l5
 |none=>.none
 |some (a,b,c,d)=>.tuple [.int a,.int b,.int c,.int d]
def C1(h:Hr):l5:=.tuple [.int h.Q6,.int h.need,U1 h.line]
structure Wk where
 name:Str
 F3:Int
 first:Int
 last:Int
 most:Int
noncomputable def G7(w:Wk):l5:=.tuple [.str w.name,.int w.F3,.int w.first,.int w.last,.int w.most]
structure J7 where
 hs:List Hr
 size:Int
 start:Int
 fill:Int
 take:Int
 kept:Q2
 left:Q2
 rest:Int
 ws:List Wk
def ai(h:J7):l5:=.tuple [.int h.size,.int h.start,.int h.fill,.int h.take,fr h.kept,fr h.left,.int h.rest]
def D5(h:J7):l5:=.tuple [.tuple (h.hs.map C1),ai h,.tuple (h.ws.map G7)]
theorem Oh(h:J7):w5 (D5 h) (.int 2)=U (.dat (.tuple (h.ws.map G7))):=rfl
theorem NZ(h:J7):w5 (ai h) (.int 4)=U (.dat (fr h.kept)):=rfl
theorem NY(h:J7):w5 (ai h) (.int 5)=U (.dat (fr h.left)):=rfl
theorem NX(h:J7):w5 (ai h) (.int 6)=U (.dat (.int h.rest)):=rfl
theorem nX(h:Hr):w5 (C1 h) (.int 0)=U (.dat (.int h.Q6)):=rfl
theorem nW(h:Hr):w5 (C1 h) (.int 1)=U (.dat (.int h.need)):=rfl
theorem ku(h:Hr):w5 (C1 h) (.int 2)=U (.dat (U1 h.line)):=rfl
theorem sF(w:Wk):w5 (G7 w) (.int 1)=U (.dat (.int w.F3)):=rfl
theorem ED(w:Wk):w5 (G7 w) (.int 2)=U (.dat (.int w.first)):=rfl
theorem EC(w:Wk):w5 (G7 w) (.int 3)=U (.dat (.int w.last)):=rfl
theorem EB(w:Wk):w5 (G7 w) (.int 4)=U (.dat (.int w.most)):=rfl
theorem sQ{α:Type}(l:List α)(k:Nat):cutD l (U (k:Int)) J=l.drop k:=by
 unfold cutD HT.N4;simp only[show ¬(k:Int)<0 by simp_all,if_false,An];by_cases h:k<=l.length;rw[Gz h];exact jq (by rw[rm];simp_all)
 . rw[GI (by lia),GK,Qv (by lia)];simp
noncomputable def pM(i:Int):Prop:=0<=i/\i<=1000000
noncomputable def Cv(i:Int):Prop:=-1000000<=i/\i<=1000000
structure AI(x:Hr):Prop where
 Q6:pM x.Q6
 need:pM x.need
 line:∀a b c d,x.line=U (a,b,c,d)->Cv a/\pM b/\Cv c/\pM d
structure uR(n:Int)(w:Wk):Prop where
 name:Nm w.name
 F3:pM w.F3
 first:0<=w.first
 fl:w.first<=w.last
 last:w.last<n
 most:pM w.most
structure H5(h:J7):Prop where
 hs:∀x∈h.hs,AI x
 h1:1<=h.hs.length
 hl:h.hs.length<=24
 size:pM h.size
 start:pM h.start
 full:h.start<=h.size
 fill:pM h.fill
 take:pM h.take
 kept:oF h.kept
 left:oF h.left
 rest:pM h.rest
 ws:∀w∈h.ws,uR h.hs.length w
 wl:h.ws.length<=6
 nd:(h.ws.map Wk.name).Nodup
noncomputable def fT(h:J7):List ba:=[.am h.size,.am h.start,.am h.fill,.am h.take,.sh h.kept,.sh h.left,.am h.rest]
def ah(h:J7):List Str:=p5 "store"::(fT h).map ba.w
noncomputable def qu:Int×Int×Int×Int->List ba:=λl=>[.pr l.1,.am l.2.1,.pr l.2.2.1,.am l.2.2.2]
def aG(x:Hr):List Str:=match x.line with
 |none=>[p5 "hour",C7 x.Q6,C7 x.need,p5 "dark"]
 |some l=>[p5 "hour",C7 x.Q6,C7 x.need,p5 "line"]++(qu l).map ba.w
noncomputable def iV(w:Wk):List ba:=[.nm w.name,.am w.F3,.am w.first,.am w.last,.am w.most]
def eI(w:Wk):List Str:=p5 "work"::(iV w).map ba.w
theorem Ms{h:J7}(H:H5 h):jE [.list ((ah h).map .str)]=U (.dat (ai h)):=by
 have a1:=H.size;have a2:=H.start;have a3:=H.fill;have a4:=H.take;have a5:=H.kept;have a6:=H.left;have a7:=H.rest;have a8:=H.full;have p:=sf (l:=fT h) (by intro x hx;simp only[fT,K6,P7,P5]at hx;rcases hx with rfl|rfl|rfl|rfl|rfl|rfl|rfl<;>assumption) (by simp[fT])
 have e1:(.list ((ah h).map .str):l5)=.list (.str (p5 "store")::(fT h).map λx=>.str x.w):=by simp[ah,V3]
 have e2:af ((fT h).map ba.v)=ai h:=rfl;have e3:(mz:l5)=.tuple ((fT h).map ba.rd):=rfl;rw[e2]at p;rw[e1];unfold jE;walk_at "t";rw[show K4 (.list (.str (p5 "store")::(fT h).map λx=>.str x.w)) (U 1) J=U (.own ((fT h).map λx=>.str x.w))from rfl,e3];walk_at "t";rw[p];walk_at "t";unfold ai;walk_at "t";rw[A4 (show ¬h.size<h.start by simp_all)];walk_at "t"
theorem RD{n:Int}{w:Wk}(H:uR n w)(hn:n<=24):kW [.list ((eI w).map .str),.int n]=U (.dat (G7 w)):=by
 have a1:=H.name;have a2:=H.F3;have a3:=H.first;have a4:=H.fl;have a5:=H.last;have a6:=H.most;have p:=sf (l:=iV w) (by
  intro x hx;simp only[iV,K6,P7,P5]at hx;rcases hx with rfl|rfl|rfl|rfl|rfl
  exact a1;exact a2;exact⟨a3,by lia⟩;exact⟨by exact H9 A2 A2,by lia⟩
  . exact a6) (by simp[iV])
 have e1:(.list ((eI w).map .str):l5)=.list (.str (p5 "work")::(iV w).map λx=>.str x.w):=by simp[eI,V3]
 have e2:af ((iV w).map ba.v)=G7 w:=rfl;have e3:(oq:l5)=.tuple ((iV w).map ba.rd):=rfl;rw[e2]at p;rw[e1];unfold kW;walk_at "t";rw[show K4 (.list (.str (p5 "work")::(iV w).map λx=>.str x.w)) (U 1) J=U (.own ((iV w).map λx=>.str x.w))from rfl,e3];walk_at "t";rw[p];walk_at "t";unfold G7;walk_at "t";rw[A4 (show ¬w.last<w.first by simp_all),L5 (show ¬n<=w.last by simp_all)];walk_at "t"
noncomputable def jW(w:Str):Prop:=zH w=Uf
theorem nJ{w:Str}(h:∀c∈lz w,c<1114112):jW w:=by
 unfold jW zH;rw[PC];intro c hc;have:c∈lz w:=by unfold lz;simpa using hc
 have:=h c this;simp;omega
theorem AS:∀l:List Str,(∀w∈l,jW w)->aI (l.map .str)=Uf/\dF (l.map .str)<=1
 | [],_=>⟨by simp[aI],by simp[dF]⟩
 |a::l,h=>by
  obtain⟨h1,h2⟩:=AS l λw hw=>h w (F8 _ hw);have h0:zH a=Uf:=h a F5;exact⟨by simp[aI,bE,h1,h0],by simp[dF,ic];exact h2⟩
theorem rR(h:∀w∈l,jW w):bV (.list (l.map .str))=Uf:=by obtain⟨h1,h2⟩:=AS l h;simp[bV,bE,ic,h1];exact C3 A2 A9
theorem xM:∀l m:List Str,jy (l.map .str) (m.map .str)=decide (l=m)
 | [],[]=>by simp[jy]
 | [],b::m=>by simp[jy]
 |a::l,[]=>by simp[jy]
 |a::l,b::m=>by
  have ih:=xM l m;simp only[D8,jy,ih,cM];by_cases c:a=b;subst c;simp;simp[c]
theorem Fj{m:List Str}(hl:∀w∈l,jW w)(hm:∀w∈m,jW w):D9 (.list (l.map .str)) (.list (m.map .str))=U (.dat (.bool (decide (l=m)))):=by
 unfold D9;split;rename_i h _;cases h;rw[A3 ⟨rR hl,rR hm⟩];simp only[cM,xM]
theorem Eh{m:List Str}(hl:∀w∈l,jW w)(hm:∀w∈m,jW w):X5 (.list (l.map .str)) (.list (m.map .str))=U (.dat (.bool (!decide (l=m)))):=by
 unfold X5;split;rename_i h _;cases h;rw[A3 ⟨rR hl,rR hm⟩];simp only[cM,xM]
theorem nh(n:Int):∀c∈bJ n,c=45\/(48<=c/\c<=57):=by
 intro c hc;unfold bJ at hc;split at hc
 . rcases List.mem_cons.mp hc with h|h
   exact .inl h;exact .inr (aE _ c h)
 exact .inr (aE _ c hc)
theorem ql(n:Int):jW (C7 n):=nJ λc hc=>by
 rw[dR]at hc;have:=nh n c hc;lia
theorem AQ{s:String}(h:(lz (p5 s)).all (λc=>decide (c<1114112))=Uf):jW (p5 s):=nJ λc hc=>by have:=List.all_eq_true.mp h c hc;exact jn this
theorem RG{x:Hr}(H:AI x):Y1 [.list ((aG x).map .str)]=U (.dat (C1 x)):=by
 have a1:=H.Q6;have a2:=H.need;have a3:=H.line;have p:=sf (l:=[ba.am x.Q6,.am x.need]) (by intro y hy;simp only[K6,P7,P5]at hy;rcases hy with rfl|rfl<;>assumption) (by simp);have p':T9 [.list [.str (C7 x.Q6),.str (C7 x.need)],bN]=U (.dat (.tuple [.int x.Q6,.int x.need])):=p;obtain⟨su,ne,ln⟩:=x;simp only at p' a3;have hd:jW (p5 "dark"):=AQ (by decide +kernel);have hli:jW (p5 "line"):=AQ (by decide +kernel)
 cases ln with
 |none=>
  have e:D9 (.list [.str (p5 "dark")]) (.list [.str (p5 "dark")])=U (.dat (.bool Uf)):=by
   have:=Fj (l:=[p5 "dark"]) (m:=[p5 "dark"]) (by simpa using hd) (by simpa using hd);rw[S6 rfl]at this;exact this
  show Y1 [.list [.str (p5 "hour"),.str (C7 su),.str (C7 ne),.str (p5 "dark")]]=U (.dat (.tuple [.int su,.int ne,.none]));unfold Y1;walk_at "t";rw[show K4 (.list [.str (p5 "hour"),.str (C7 su),.str (C7 ne),.str (p5 "dark")]) (U 1) (U 3)=U (.own [.str (C7 su),.str (C7 ne)])from rfl];walk_at "t";rw[p'];walk_at "t";rw[show K4 (.list [.str (p5 "hour"),.str (C7 su),.str (C7 ne),.str (p5 "dark")]) (U 3) J=U (.own [.str (p5 "dark")])from rfl];walk_at "t";rw[e];walk_at "t";rw[show C2 (.tuple [.int su,.int ne]) (.tuple [.none])=U (.dat (.tuple [.int su,.int ne,.none]))from rfl];walk_at "t"
 |some l=>
  obtain⟨a,b,c,d⟩:=l;obtain⟨b1,b2,b3,b4⟩:=a3 a b c d rfl;have q:=sf (l:=qu (a,b,c,d)) (by
   intro y hy;simp only[qu,K6,P7,P5]at hy;rcases hy with rfl|rfl|rfl|rfl
   exact b1;exact b2;exact b3
   . exact b4) (by simp[qu])
  have q':T9 [.list [.str (C7 a),.str (C7 b),.str (C7 c),.str (C7 d)],oy]=U (.dat (.tuple [.int a,.int b,.int c,.int d])):=q;have e:D9 (.list [.str (p5 "line"),.str (C7 a),.str (C7 b),.str (C7 c),.str (C7 d)]) (.list [.str (p5 "dark")])=U (.dat (.bool U')):=by
   have:=Fj (l:=[p5 "line",C7 a,C7 b,C7 c,C7 d]) (m:=[p5 "dark"]) (by
    intro w hw;simp only[K6,P7,P5]at hw;rcases hw with rfl|rfl|rfl|rfl|rfl
    exact hli;exact ql _;exact ql _;exact ql _
    . exact ql _) (by simpa using hd)
   rw[L5 (by simp)]at this;exact this
  have e2:X5 (.list [.str (p5 "line")]) (.list [.str (p5 "line")])=U (.dat (.bool U')):=by
   have:=Eh (l:=[p5 "line"]) (m:=[p5 "line"]) (by simpa using hli) (by simpa using hli);rw[S6 rfl]at this;exact this
  show Y1 [.list [.str (p5 "hour"),.str (C7 su),.str (C7 ne),.str (p5 "line"),.str (C7 a),.str (C7 b),.str (C7 c),.str (C7 d)]]=U (.dat (.tuple [.int su,.int ne,.tuple [.int a,.int b,.int c,.int d]]))
  generalize eL:[E7 (p5 "hour"),.str (C7 su),.str (C7 ne),.str (p5 "line"),.str (C7 a),.str (C7 b),.str (C7 c),.str (C7 d)]=L;have i0:w5 (.list L) (.int 0)=U (.dat (.str (p5 "hour"))):=by rw[<-eL];rfl
  have s13:K4 (.list L) (U 1) (U 3)=U (.own [.str (C7 su),.str (C7 ne)]):=by rw[<-eL];rfl
  have s3:K4 (.list L) (U 3) J=U (.own [.str (p5 "line"),.str (C7 a),.str (C7 b),.str (C7 c),.str (C7 d)]):=by rw[<-eL];rfl
  have s4:K4 (.list L) (U 4) J=U (.own [.str (C7 a),.str (C7 b),.str (C7 c),.str (C7 d)]):=by rw[<-eL];rfl
  have s34:K4 (.list L) (U 3) (U 4)=U (.own [.str (p5 "line")]):=by rw[<-eL];rfl
  unfold Y1;rw[show bN=bN from rfl];walk_at "t";rw[s13];walk_at "t";rw[p'];walk_at "t";rw[show T7 L 0=U (.str (p5 "hour"))from by rw[<-eL];rfl];walk_at "t";rw[s3];walk_at "t";rw[e];walk_at "t";rw[s4];walk_at "t";rw[q'];walk_at "t";rw[s34];walk_at "t";rw[e2];walk_at "t";rw[show C2 (.tuple [.int su,.int ne]) (.tuple [.tuple [.int a,.int b,.int c,.int d]])=U (.dat (.tuple [.int su,.int ne,.tuple [.int a,.int b,.int c,.int d]]))from rfl];walk_at "t"
abbrev gP(x:Hr):l5:=.list ((aG x).map .str)
abbrev T3(w:Wk):l5:=.list ((eI w).map .str)
theorem HI{z:Str}(h:Nm z):lE (lz z)=J:=by
 have nm:∀c∈lz z,97<=c/\c<=122:=λc hc=>jn (List.all_eq_true.mp h.all c hc)
 have h47:47∉lz z:=λhc=>by have:=nm 47 hc;lia
 have hs:gy (lz z)=J:=by
  unfold gy;cases e:lz z with
  |nil=>exact absurd e h.ne
  |cons c r=>
   have hc:=nm c (by rw[e];exact F5);rw[A4 (by simp;lia)]
   have:bS (c::r)=J:=by
    unfold bS;rw[A4];rintro⟨_,_,ha⟩;rw[fN,dG]at ha;have:=jn ha.1;lia
   rw[this];rfl
 unfold lE jh;rw[A4 h47,hs];rfl
theorem DI{z:Str}(h:Nm z):cy [.str z]=U (.dat .none):=by
 have hl:=J3 z;have h8:=h.len;have rf:=kN (z:=z) (by exact C3 A2 A9);rw[HI h]at rf;unfold cy dY;walk_at "t";rw[rf];walk_at "t";show _=_;unfold Oz;walk_at "t"
theorem Kb{n:Int}{w:Wk}(H:uR n w)(hn:n<=24):Y1 [T3 w]=U (.dat .none):=by
 have a2:=H.F3;have E1:∀r:Ds,S0 (U (.dat (bx "read_amount"))::U (.dat (.str w.name))::r)=U (.dat .none):=λr=>by unfold S0;exact sS (yT.trans (DI H.name))
 have E2:∀r:Ds,S0 (U (.dat (bx "read_amount"))::U (.dat (.str (C7 w.F3)))::r)=U (.dat (.int w.F3)):=λr=>JD (x:=.am w.F3) a2 r
 have p:T9 [.list [.str w.name,.str (C7 w.F3)],bN]=U (.dat .none):=by
  unfold T9;walk_at "t";rw[show iU [bN,.list [.str w.name,.str (C7 w.F3)]]=U [.tuple [bx "read_amount",.str w.name],.tuple [bx "read_amount",.str (C7 w.F3)]]from rfl];walk_at "t";simp only[O2];walk_at "t";rw[E1];walk_at "t";rw[E2];walk_at "t";rw[show mZ .none (.list [.none,.int w.F3])=U (.dat (.bool Uf))from rfl];walk_at "t"
 show Y1 [.list [.str (p5 "work"),.str w.name,.str (C7 w.F3),.str (C7 w.first),.str (C7 w.last),.str (C7 w.most)]]=_;unfold Y1;walk_at "t";rw[show K4 (.list [.str (p5 "work"),.str w.name,.str (C7 w.F3),.str (C7 w.first),.str (C7 w.last),.str (C7 w.most)]) (U 1) (U 3)=U (.own [.str w.name,.str (C7 w.F3)])from rfl]
 walk_at "t";rw[p];walk_at "t";try simp
 try walk_at "t"
 try rfl
theorem Cf{r:Option PV}{rest:List l5}:∀(hs:List Hr) (done:List l5) (y2 y3:Option PV),(∀x∈hs,AI x)->done.length+hs.length<=1000 ->
  ∃z2 z3,J9 (D3 2) U4 (hs.map gP++rest) [r,U (.own done),y2,y3]=J9 (D3 2) U4 rest [r,U (.own (done++hs.map C1)),z2,z3]
 | [],done,y2,y3,_,_=>⟨y2,y3,by simp⟩
 |x::hs,done,y2,y3,h,hl=>by
  rw[J4]at hl;obtain⟨z2,z3,e⟩:=Cf (r:=r) (rest:=rest) hs (done++[C1 x]) (U (.dat (gP x))) (U (.dat (C1 x))) (λy hy=>h y (F8 _ hy)) (by rw[L6,mL];lia)
  refine⟨z2,z3,?_⟩;have B:U4 [r,U (.own done),U (.dat (gP x)),y3]=U (.next [r,U (.own (done++[C1 x])),U (.dat (gP x)),U (.dat (C1 x))]):=by
   have rh:=RG (h x F5);have nn:M8 (C1 x)=U':=rfl;unfold U4;walk_at "t";rw[rh];walk_at "t";rw[nn];walk_at "t";rw[P8 (l:=done) _ rfl (by lia)];rfl
  rw[D8,fO,Z7 rfl B,e,D8,eT];rfl
theorem C6{G1 G2:Ds->Option Out}{ds ds':Ds}(h:G1 ds=U (.next ds')):w4 G1 G2 ds=G2 ds':=by unfold w4;rw[h];rfl
theorem W4{j:Nat}{F:Ds->Option PV}{ds:Ds}{pv:PV}(h:F ds=U pv):A0 j F ds=U (.next (ds.set j (U (.dat pv.d)))):=by unfold A0;rw[h];rfl
theorem ON{α:Type}(l:List α)(k:Nat):cutD l J (U (k:Int))=l.take k:=by
 unfold cutD HT.N4;simp only[show ¬(k:Int)<0 by simp_all,if_false,An];by_cases c:k<=l.length;simp[Gz c];simp[GI (by lia:l.length<=k),jq (by lia:l.length<=k)]
theorem Mw{hs:List Hr}{ws:List Wk}{n:Int}(h:∀x∈hs,AI x)(hl:hs.length<=24)(hw:∀w∈ws,uR n w)(hn:n<=24):jH [.list (hs.map gP++ws.map T3)]=U (.own (hs.map C1)):=by
 have ht:(hs.map gP++ws.map T3).take 24=hs.map gP++(ws.map T3).take (24-hs.length):=by rw[List.take_append,C8,jq (by rw[C8];omega)]
 generalize eL:hs.map gP++ws.map T3=L;have hc:K4 (.list L) J (U 24)=U (.own (hs.map gP++(ws.map T3).take (24-hs.length))):=by rw[<-eL,<-ht,<-ON];rfl
 obtain⟨z2,z3,e⟩:=Cf (r:=U (.dat (.list L))) (rest:=(ws.map T3).take (24-hs.length)) hs [] J J h (by simp;exact C3 A2 A9)
 rw[bY]at e;unfold jH;walk_at "t";rw[hc];walk_at "t";rw[e];cases er:(ws.map T3).take (24-hs.length)with
 |nil=>
  rw[EX];walk_at "t"
 |cons d r=>
  have hd:d∈ws.map T3:=Qj (by rw[er];exact F5)
  obtain⟨w,hw1,rfl⟩:=mem_map.mp hd;have rh:=Kb (hw w hw1) hn;have B:U4 [U (.dat (.list L)),U (.own (hs.map C1)),U (.dat (T3 w)),z3]=U (.ret (.own (hs.map C1))):=by unfold U4;walk_at "t";rw[rh];walk_at "t"
  unfold J9;show(Z9 ((U4 [U (.dat (.list L)),U (.own (hs.map C1)),U (.dat (T3 w)),z3]).bind _) _).bind _=_;rw[B];walk_at "t"
theorem Ub{z:Str}{l:List Str}(h:z∉l):(Z5 inD cY) (.str z) (.list (l.map .str))=U (.dat (.bool U')):=by
 have h1:(l.map E7).all Flat=Uf:=by rw[vm];intro d hd;obtain⟨x,_,rfl⟩:=mem_map.mp hd;rfl
 have h2:((l.map E7).any λy=>tF y (.str z))=U':=by
  rw[GU];intro d hd;obtain⟨x,hx,rfl⟩:=mem_map.mp hd;show ¬((x==z)=Uf);rw[beq_iff_eq];intro e;subst e;exact h hx
 have e:inD (.str z) (.list (l.map .str))=U (.dat (.bool U')):=by
  show(if Flat (.str z)=Uf/\(l.map E7).all Flat=Uf then U (PV.dat (.bool ((l.map E7).any λy=>tF y (.str z))))else J)=_;rw[A3 ⟨rfl,h1⟩,h2]
 unfold Z5;rw[e]
theorem BB{n:Int}{r:Option PV}(hn:n<=24):∀(ws done:List Wk) (y4 y5:Option PV),(∀w∈ws,uR n w)->((done++ws).map Wk.name).Nodup->done.length+ws.length<=1000 ->
  ∃z4 z5,J9 (D3 4) ei (ws.map T3) [r,iD n,U (.own (done.map G7)),U (.own ((done.map Wk.name).map .str)),y4,y5]=U (.next [r,iD n,U (.own ((done++ws).map G7)),U (.own (((done++ws).map Wk.name).map .str)),z4,z5])
 | [],done,y4,y5,_,_,_=>⟨y4,y5,by rw[bZ];rfl⟩
 |w::ws,done,y4,y5,h,nd,hl=>by
  rw[J4]at hl;have nd':(((done++[w])++ws).map Wk.name).Nodup:=by rw[eT];exact nd
  obtain⟨z4,z5,e⟩:=BB (r:=r) hn ws (done++[w]) (U (.dat (T3 w))) (U (.dat (G7 w))) (λy hy=>h y (F8 _ hy)) nd' (by rw[L6,mL];lia)
  refine⟨z4,z5,?_⟩;have hni:w.name∉done.map Wk.name:=by rw[T2,D8]at nd;have:=(List.nodup_append.mp nd).2.2;intro hm;exact this _ hm _ F5 rfl
  have B:ei [r,iD n,U (.own (done.map G7)),U (.own ((done.map Wk.name).map .str)),U (.dat (T3 w)),y5]=U (.next [r,iD n,U (.own ((done++[w]).map G7)),U (.own (((done++[w]).map Wk.name).map .str)),U (.dat (T3 w)),U (.dat (G7 w))]):=by
   have rw1:=RD (h w F5) hn;have nn:M8 (G7 w)=U':=rfl;have i0:w5 (G7 w) (.int 0)=U (.dat (.str w.name)):=rfl;have ni:=Ub hni;rw[T2,T2,T2];simp only[D8,fx];have ln1:(done.map G7).length<1000000:=by rw[C8];lia
   have ln2:((done.map Wk.name).map E7).length<1000000:=by rw[C8,C8];simp_all
   generalize done.map G7=D1 at *;generalize (done.map Wk.name).map E7=D2 at *;unfold ei;rw[C6 (W4 (pv:=.dat (G7 w)) (by walk_at "t";exact rw1))];simp only[mh,mf,PV.eR];rw[C6 (ds':=[r,iD n,U (.own D1),U (.own D2),U (.dat (T3 w)),U (.dat (G7 w))]) (by simp only[E4,W9,A8,f9,f7,fC,Y5,gM,D8,fx,vA,pL,S7,PV.eR,PV.zh,xC];rw[nn];walk_at "t";rw[i0];walk_at "t";rw[ni];walk_at "t")];rw[C6 (ds':=[r,iD n,U (.own (D1++[G7 w])),U (.own D2),U (.dat (T3 w)),U (.dat (G7 w))]) (by rw[iO];exact P8 (i:=2) (l:=D1) (.dat (G7 w)) rfl ln1)];rw[iO];exact P8 (i:=3) (l:=D2) (.dat (.str w.name)) rfl ln2
  rw[D8,Z7 rfl B,e,eT];rfl
theorem Mp{ws:List Wk}{n:Int}(hw:∀w∈ws,uR n w)(hn:n<=24)(wl:ws.length<=6)(nd:(ws.map Wk.name).Nodup):jC [.list (ws.map T3),.int n]=U (.own (ws.map G7)):=by
 obtain⟨z4,z5,e⟩:=BB (r:=U (.dat (.list (ws.map T3)))) hn ws [] J J hw (by simpa using nd) (by simp;exact C3 A2 A9)
 have hc:K4 (.list (ws.map T3)) J (U 6)=U (.own (ws.map T3)):=by
  have:cutD (ws.map T3) J (U ((6:Nat):Int))=ws.map T3:=by rw[ON,jq (by rw[C8];omega)]
  show U (PV.own (cutD (ws.map T3) J (U 6)))=_;exact H0 (λl=>U (PV.own l)) this
 simp only[fx,bY]at e;generalize ws.map T3=R at *;unfold jC;walk_at "t";rw[hc];walk_at "t";rw[e];walk_at "t"
structure W5(w:Str):Prop where
 len:w.length<=130
 no:32∉lz w
 ok:jW w
theorem cC{n:Int}(h:Cv n):W5 (C7 n):=by
 refine⟨C3 (au (yA h)) (by decide),λhc=>?_,ql n⟩;rw[dR]at hc;have:=nh n 32 hc
 simp_all
theorem Ra{q:Int×Int}(h:oF q):W5 (N2 q):=by
 have s:=h.small;have key:∀c∈lz (N2 q),c=45\/c=47\/(48<=c/\c<=57):=by
  intro c hc;rw[vY s.pos]at hc;split at hc
  . rcases nh _ c hc with z|z
    exact .inl z;exact .inr (.inr z)
  . rcases List.mem_append.mp hc with z|z
    . rcases nh _ c z with z|z
      exact .inl z;exact .inr (.inr z)
    . rcases List.mem_cons.mp z with z|z
      exact .inr (.inl z);exact .inr (.inr (aE _ c z))
 refine⟨h.len,λhc=>?_,nJ λc hc=>?_⟩
 . have:=key 32 hc;simp_all
 have:=key c hc;lia
theorem AL{z:Str}(h:Nm z):W5 z:=by
 have nm:∀c∈lz z,97<=c/\c<=122:=λc hc=>jn (List.all_eq_true.mp h.all c hc);have hl:=J3 z;have h8:=h.len;refine⟨by exact C3 A2 A9,λhc=>?_,nJ λc hc=>?_⟩;have:=nm 32 hc;lia;have:=nm c hc;lia
theorem W7{s:String}(h:((lz (p5 s)).all λc=>decide (c<1114112/\c≠32))=Uf)(hl:(lz (p5 s)).length<=130):W5 (p5 s):=by
 have k:∀c∈lz (p5 s),c<1114112/\c≠32:=λc hc=>jn (List.all_eq_true.mp h c hc);exact⟨by rw[J3];exact hl,λhc=>(k 32 hc).2 rfl,nJ λc hc=>(k c hc).1⟩
theorem LB{x:ba}(h:x.ok):W5 x.w:=by
 cases x with
 |am n=>exact cC ⟨by have:=h.1;lia,h.2⟩
 |pr n=>exact cC h
 |sh q=>exact Ra h
 |nm z=>exact AL h
variable{h:J7}
def uP(h:J7):List (List Str):=ah h::(h.hs.map aG++h.ws.map eI)
noncomputable def M7(l:List Str):Str:=aN ⟨#[32]⟩ l
def fh(h:J7):List l5:=(uP h).map λl=>.str (M7 l)
structure xf(l:List Str):Prop where
 ne:l≠[]
 len:l.length<=700
 w:∀w∈l,W5 w
theorem Et(H:H5 h):xf (ah h):=by
 have a1:=H.size;have a2:=H.start;have a3:=H.fill;have a4:=H.take;have a5:=H.kept;have a6:=H.left;have a7:=H.rest;refine⟨by simp[ah],by simp[ah,fT],λw hw=>?_⟩
 rcases List.mem_cons.mp hw with rfl|hw
 exact W7 (by decide +kernel) (by decide +kernel)
 . obtain⟨x,hx,rfl⟩:=mem_map.mp hw;refine LB ?_;simp only[fT,K6,P7,P5]at hx;rcases hx with rfl|rfl|rfl|rfl|rfl|rfl|rfl<;>assumption
theorem bA{n:Int}(h:pM n):Cv n:=⟨by have:=h.1;lia,h.2⟩
theorem IX{x:Hr}(H:AI x):xf (aG x):=by
 have a1:=H.Q6;have a2:=H.need;have a3:=H.line;obtain⟨su,ne,ln⟩:=x;have wh:W5 (p5 "hour"):=W7 (by decide +kernel) (by decide +kernel)
 cases ln with
 |none=>
  refine⟨by simp[aG],by simp[aG],λw hw=>?_⟩
  simp only[aG,K6,P7,P5]at hw;rcases hw with rfl|rfl|rfl|rfl
  exact wh;exact cC (bA a1);exact cC (bA a2);exact W7 (by decide +kernel) (by decide +kernel)
 |some l=>
  obtain⟨a,b,c,d⟩:=l;obtain⟨b1,b2,b3,b4⟩:=a3 a b c d rfl;refine⟨by simp[aG],by simp[aG,qu],λw hw=>?_⟩
  simp only[aG,qu,D8,fx,fO,bY,K6,P7,P5]at hw;rcases hw with rfl|rfl|rfl|rfl|rfl|rfl|rfl|rfl
  exact wh;exact cC (bA a1);exact cC (bA a2);exact W7 (by decide +kernel) (by decide +kernel);exact cC b1;exact cC (bA b2);exact cC b3;exact cC (bA b4)
theorem IW{n:Int}{w:Wk}(H:uR n w)(hn:n<=24):xf (eI w):=by
 have a1:=H.name;have a2:=H.F3;have a3:=H.first;have a4:=H.fl;have a5:=H.last;have a6:=H.most;refine⟨by simp[eI],by simp[eI,iV],λz hz=>?_⟩
 rcases List.mem_cons.mp hz with rfl|hz
 exact W7 (by decide +kernel) (by decide +kernel)
 . obtain⟨x,hx,rfl⟩:=mem_map.mp hz;refine LB ?_;simp only[iV,K6,P7,P5]at hx;rcases hx with rfl|rfl|rfl|rfl|rfl
   exact a1;exact a2;exact⟨a3,by lia⟩;exact⟨by exact H9 A2 A2,by lia⟩;exact a6
theorem a2B(H:H5 h):∀l∈uP h,xf l:=by
 have hl:=H.hl;intro l hl';rcases List.mem_cons.mp hl' with rfl|z
 exact Et H
 . rcases List.mem_append.mp z with z|z
   obtain⟨x,hx,rfl⟩:=mem_map.mp z;exact IX (H.hs x hx);obtain⟨w,hw,rfl⟩:=mem_map.mp z;exact IW (H.ws w hw) (by lia)
theorem Ip:∀L:List (List Str),(∀l∈L,xf l)->aI (L.map λl=>.list (l.map .str))=Uf/\dF (L.map λl=>.list (l.map .str))<=3
 | [],_=>⟨by simp[aI],by simp[dF]⟩
 |a::L,h=>by
  obtain⟨h1,h2⟩:=Ip L λl hl=>h l (F8 _ hl);obtain⟨g1,g2⟩:=AS a λw hw=>((h a F5).w w hw).ok;exact⟨by simp[aI,bE,h1,g1],by simp[dF,ic];lia⟩
theorem Yy(x:Hr):bE (C1 x)=Uf/\ic (C1 x)<=3:=by
 obtain⟨s,n,l⟩:=x;cases l with
 |none=>exact⟨by simp[C1,U1,bE,aI],by simp[C1,U1,ic,dF]⟩
 |some l=>obtain⟨a,b,c,d⟩:=l;exact⟨by simp[C1,U1,bE,aI],by simp[C1,U1,ic,dF]⟩
theorem Dz:∀L:List Hr,aI (L.map C1)=Uf/\dF (L.map C1)<=3
 | []=>⟨by simp[aI],by simp[dF]⟩
 |a::L=>by obtain⟨h1,h2⟩:=Dz L;obtain⟨g1,g2⟩:=Yy a;exact⟨by simp[aI,h1,g1],by simp[dF];lia⟩
theorem eq_nil{d:l5}{r:List l5}(h1:aI (d::r)=Uf)(h2:dF (d::r)<=3):D9 (.list (d::r)) (.list [])=U (.dat (.bool U')):=by
 unfold D9;split;rename_i h _;cases h
 . rw[A3 ⟨by simp[bV,bE,ic,h1];exact C3 A2 A9,by simp[bV,bE,ic,aI,dF]⟩];simp[cM,jy]
theorem YD{h:J7}(H:H5 h):vF [.list (fh h)]=U (.dat (D5 h)):=by
 have h1:=H.h1;have hl:=H.hl;have wl:=H.wl;have LA:=a2B H;have ec:O2 F7 F4 tm [U (.dat (.list (fh h))),J,J,J,J,J] (fh h)=U ((uP h).map λl=>.list (l.map .str)):=comp_map λl hl'=>⟨.own (l.map .str),by
  have k:=LA l hl';have s:=tS (ws:=l) k.ne k.len (λw hw=>(k.w w hw).len) (λw hw=>(k.w w hw).no)
  unfold tm;walk_at "t";exact s,rfl⟩
 have er:((uP h).map λl=>qY (l.map .str))=.list ((ah h).map .str)::(h.hs.map gP++h.ws.map T3):=by simp[uP,V3,rp]
 obtain⟨s1,s2⟩:=Ip (uP h) LA;rw[er]at ec s1 s2;have en:=eq_nil s1 s2;have ln:(fh h).length<=31:=by simp[fh,uP];lia
 have rs:=Ms H;have rh:=Mw (hs:=h.hs) (ws:=h.ws) (n:=h.hs.length) H.hs hl H.ws (by lia);have rwk:=Mp (ws:=h.ws) (n:=h.hs.length) H.ws (by lia) wl H.nd
 have d1:K4 (.list (.list ((ah h).map .str)::(h.hs.map gP++h.ws.map T3))) (U 1) J=U (.own (h.hs.map gP++h.ws.map T3)):=by
  show U (PV.own (cutD _ (U ((1:Nat):Int)) J))=_;rw[sQ];rfl
 have d2:K4 (.list (.list ((ah h).map .str)::(h.hs.map gP++h.ws.map T3))) (U (1+(h.hs.length:Int))) J=U (.own (h.ws.map T3)):=by
  have:cutD (.list ((ah h).map .str)::(h.hs.map gP++h.ws.map T3)) (U ((h.hs.length+1:Nat):Int)) J=h.ws.map T3:=by rw[sQ,GY,List.drop_append_of_le_length (by rw[C8];exact K5 _),Ax (by rw[C8];exact K5 _),bY]
  show U (PV.own (cutD _ (U (1+(h.hs.length:Int))) J))=_;rw[show(1+(h.hs.length:Int))=((h.hs.length+1:Nat):Int) by lia,this]
 obtain⟨t1,t2⟩:=Dz h.hs;have eh:D9 (.list (h.hs.map C1)) (.list [])=U (.dat (.bool U')):=by
  cases e:h.hs with
  |nil=>rw[e]at h1;simp at h1
  |cons a r=>rw[e]at t1 t2;exact eq_nil t1 t2
 have rl:(qY ((ah h).map .str)::(h.hs.map gP++h.ws.map T3)).length=1+h.hs.length+h.ws.length:=by simp;lia
 have ns:M8 (ai h)=U':=rfl;have hh:af [.tuple (h.hs.map C1),ai h,.tuple (h.ws.map G7)]=D5 h:=rfl;have l1:(h.hs.map C1).length=h.hs.length:=C8 ..;have l2:(h.ws.map G7).length=h.ws.length:=C8 ..;generalize ai h=SD at *;generalize h.hs.map gP++h.ws.map T3=RR at *;generalize h.ws.map T3=RW at *;generalize qY ((ah h).map .str)=RS at *;generalize h.hs.map C1=HD at *;generalize h.ws.map G7=WD at *;generalize fh h=LD at *;unfold vF;walk_at "t";rw[A3 (by exact C3 A2 A9),ec];walk_at "t";rw[en];walk_at "t";rw[rs];walk_at "t";rw[ns];walk_at "t";rw[d1];walk_at "t";rw[rh];walk_at "t";rw[eh];walk_at "t";rw[l1,d2];walk_at "t";rw[rwk];walk_at "t";rw[J4]at rl;rw[A4 (by simp_all)];walk_at "t";rw[hh]
theorem Xq{l:List Str}(h:xf l):du (.str (p5 " ")) [.list (l.map .str)]=U (.dat (.str (M7 l))):=xB h.len λw hw=>(h.w w hw).len
theorem xS{l m:List l5}(h:l.length+m.length<=1000):C2 (.list l) (.list m)=U (.own (l++m)):=uQ (by exact C3 A2 A9)
variable{n:Int}{w:Str}{Z:List l5}{Y:Ds->Option Bool}{G:Ds->Option Out}
inductive Fi|non|Q6|line
 deriving DecidableEq
inductive Ta|non|need|give
 deriving DecidableEq
noncomputable def gb:Fi->Str | .non=>"none" | .Q6=>"sun" | .line=>"line"
noncomputable def gY:Ta->Str | .non=>"none" | .need=>"need" | .give=>"give"
noncomputable def iW:Bool->Str|true=>"wait" | false=>"now"
inductive Ts|from_(n:Int)|till (n:Int)|over (n:Int)|under (n:Int)|dear (n:Int)|cheap (n:Int)|dark|sunny
noncomputable def L7:Ts->l5
 | .from_ n=>.tuple [.str "from",.int n]
 | .till n=>.tuple [.str "till",.int n]
 | .over n=>.tuple [.str "over",.int n]
 | .under n=>.tuple [.str "under",.int n]
 | .dear n=>.tuple [.str "dear",.int n]
 | .cheap n=>.tuple [.str "cheap",.int n]
 | .dark=>.tuple [.str "dark"]
 | .sunny=>.tuple [.str "sunny"]
structure Rl where
 ts:List Ts
 fi:Fi
 ta:Ta
 wo:Bool
def C5(r:Rl):l5:=.tuple [.tuple (r.ts.map L7),.str (gb r.fi),.str (gY r.ta),.str (iW r.wo)]
noncomputable def plain:Rl:=⟨[],.Q6,.need,Uf⟩
theorem FG{least:Int}(h0:least<=n)(h1:n<=1000000)(hl : -1000000<=least):gr [.str (C7 n),.int least]=U (.dat (.int n)):=by
 have hn:n.natAbs<10^60:=dH (show n.natAbs<=1000000 by omega) (by decide);have rf:=kN (z:=C7 n) (C3 (au hn) (by decide));rw[dR,rT hn]at rf;unfold gr;walk_at "t";rw[rf];walk_at "t";show _=_;unfold Oz;walk_at "t";rw[A4 (by simp_all),L5 (show ¬1000000<n by simp_all)];walk_at "t"
def J1:Ts->List Str
 | .from_ n=>[p5 "from",C7 n]
 | .till n=>[p5 "till",C7 n]
 | .over n=>[p5 "over",C7 n]
 | .under n=>[p5 "under",C7 n]
 | .dear n=>[p5 "dear",C7 n]
 | .cheap n=>[p5 "cheap",C7 n]
 | .dark=>[p5 "dark"]
 | .sunny=>[p5 "sunny"]
def J5:List Ts->List Str
 | []=>[]
 |x::l=>J1 x++J5 l
def iX(r:Rl):List Str:=[p5 "fill",gb r.fi,p5 "take",gY r.ta,p5 "works",iW r.wo]
def aV(r:Rl):List Str:=p5 "when"::(J5 r.ts++iX r)
noncomputable def oE:Ts->Prop
 | .from_ n=>0<=n/\n<=1000000
 | .till n=>0<=n/\n<=1000000
 | .over n=>0<=n/\n<=1000000
 | .under n=>0<=n/\n<=1000000
 | .dear n=>-1000000<=n/\n<=1000000
 | .cheap n=>-1000000<=n/\n<=1000000
 |_=>True
structure aB(r:Rl):Prop where
 ts:∀x∈r.ts,oE x
 tl:r.ts.length<=6
structure Wd(w:Str):Prop where
 l:w.length<=10
 b:32∉lz w
theorem CU(h0 : -1000000<=n)(h1:n<=1000000):Wd (C7 n):=by
 have hl:=(sx (n:=n.natAbs) (k:=7) (by decide)).mpr (dH (show n.natAbs<=1000000 by lia) (by decide));have hd:=aE n.natAbs;refine⟨?_,?_⟩
 . rw[J3,dR];unfold bJ;split;rw[J4];exact dH A2 A9;exact C3 A2 A9
 . rw[dR];unfold bJ;intro z;split at z
   . rcases List.mem_cons.mp z with z|z
     . simp_all
     . have:=hd 32 z;simp_all
   . have:=hd 32 z;simp_all
theorem eZ{s:String}(h1:(p5 s).length<=10)(h2:(decide (32∈lz (p5 s)))=U'):Wd (p5 s):=⟨h1,by simpa using h2⟩
theorem Yi{x:Ts}(h:oE x):∀w∈J1 x,Wd w:=by
 intro w hw;cases x with
 |dark=>simp only[J1,K6,P7,P5]at hw;subst hw;exact eZ (by decide +kernel) (by decide +kernel)
 |sunny=>simp only[J1,K6,P7,P5]at hw;subst hw;exact eZ (by decide +kernel) (by decide +kernel)
 |dear n=>
  have h' : -1000000<=n/\n<=1000000:=h;simp only[J1,K6,P7,P5]at hw;rcases hw with rfl|rfl
  exact eZ (by decide +kernel) (by decide +kernel);exact CU h'.1 h'.2
 |cheap n=>
  have h' : -1000000<=n/\n<=1000000:=h;simp only[J1,K6,P7,P5]at hw;rcases hw with rfl|rfl
  exact eZ (by decide +kernel) (by decide +kernel);exact CU h'.1 h'.2
 |_ n=>
  have h':0<=n/\n<=1000000:=h;simp only[J1,K6,P7,P5]at hw;rcases hw with rfl|rfl
  exact eZ (by decide +kernel) (by decide +kernel);exact CU (by lia) h'.2
theorem Ly:∀(l:List Ts),(∀x∈l,oE x)->∀w∈J5 l,Wd w
 | [],_,w,hw=>by cases hw
 |x::l,h,w,hw=>by
  rcases List.mem_append.mp (show w∈J1 x++J5 l from hw)with hw|hw
  exact Yi (h x (by simp)) w hw;exact Ly l (λy hy=>h y (by simp[hy])) w hw
theorem a0Q(r:Rl):∀w∈iX r,Wd w:=by
 intro w hw;simp only[iX,K6,P7,P5]at hw;rcases hw with rfl|rfl|rfl|rfl|rfl|rfl
 exact eZ (by decide +kernel) (by decide +kernel)
 . cases r.fi<;>exact eZ (by decide +kernel) (by decide +kernel)
 exact eZ (by decide +kernel) (by decide +kernel)
 . cases r.ta<;>exact eZ (by decide +kernel) (by decide +kernel)
 exact eZ (by decide +kernel) (by decide +kernel)
 . cases r.wo<;>exact eZ (by decide +kernel) (by decide +kernel)
theorem Ia{r:Rl}(h:aB r):∀w∈aV r,Wd w:=by
 intro w hw;rcases List.mem_cons.mp hw with rfl|hw
 exact eZ (by decide +kernel) (by decide +kernel)
 rcases List.mem_append.mp hw with hw|hw
 exact Ly r.ts h.ts w hw;exact a0Q r w hw
theorem qK:∀(l:List Ts),l.length<=(J5 l).length/\(J5 l).length<=2*l.length
 | []=>⟨K5 _,K5 _⟩
 |x::l=>by
  have ih:=qK l;have hx:1<=(J1 x).length/\(J1 x).length<=2:=by cases x<;>exact⟨by simp[J1],by simp[J1]⟩
  show(l.length+1)<=(J1 x++J5 l).length/\(J1 x++J5 l).length<=2*(l.length+1);rw[L6];lia
theorem Jm(a b:Str):tF (.str a) (.str b)=(a==b):=rfl
theorem in_words(w:Str)(l:List Str):(Z5 inD cY) (.str w) (.tuple (l.map .str))=U (.dat (.bool (l.any λy=>y==w))):=by
 have fl:(l.map E7).all Flat=Uf:=by simp[Flat]
 have e:inD (.str w) (.tuple (l.map .str))=U (.dat (.bool (l.any λy=>y==w))):=by
  show(if Flat (.str w)=Uf/\(l.map E7).all Flat=Uf then U (PV.dat (.bool ((l.map E7).any λy=>tF y (.str w))))else J)=_;rw[A3 ⟨rfl,fl⟩];simp[Ge,rp,Jm]
 unfold Z5;rw[e]
theorem notin_words(w:Str)(l:List Str):(Z5 bu W8) (.str w) (.tuple (l.map .str))=U (.dat (.bool (!l.any λy=>y==w))):=by
 have fl:(l.map E7).all Flat=Uf:=by simp[Flat]
 have e:bu (.str w) (.tuple (l.map .str))=U (.dat (.bool (!l.any λy=>y==w))):=by
  show(if Flat (.str w)=Uf/\(l.map E7).all Flat=Uf then U (PV.dat (.bool (!(l.map E7).any λy=>tF y (.str w))))else J)=_;rw[A3 ⟨rfl,fl⟩];simp[Ge,rp,Jm]
 unfold Z5;rw[e]
theorem Bv(w:Str):(Z5 inD cY) (.str w) oB=U (.dat (.bool ([p5 "dark",p5 "sunny"].any λy=>y==w))):=in_words w [p5 "dark",p5 "sunny"]
theorem Cu(w:Str):(Z5 inD cY) (.str w) kE=U (.dat (.bool ([p5 "from",p5 "till",p5 "over",p5 "under"].any λy=>y==w))):=in_words w [p5 "from",p5 "till",p5 "over",p5 "under"]
theorem DR(w:Str):(Z5 inD cY) (.str w) mB=U (.dat (.bool ([p5 "dear",p5 "cheap"].any λy=>y==w))):=in_words w [p5 "dear",p5 "cheap"]
theorem a0g(f:Fi):(Z5 bu W8) (.str (gb f)) oA=U (.dat (.bool U')):=by refine(notin_words (gb f) [p5 "none",p5 "sun",p5 "line"]).trans ?_;cases f<;>congr 3<;>decide +kernel
theorem Yr(f:Ta):(Z5 bu W8) (.str (gY f)) ow=U (.dat (.bool U')):=by refine(notin_words (gY f) [p5 "none",p5 "need",p5 "give"]).trans ?_;cases f<;>congr 3<;>decide +kernel
theorem Yf(f:Bool):(Z5 bu W8) (.str (iW f)) oo=U (.dat (.bool U')):=by refine(notin_words (iW f) [p5 "now",p5 "wait"]).trans ?_;cases f<;>congr 3<;>decide +kernel
theorem kL(h0:0<=n)(h1:n<=1000000)(hb:([p5 "dark",p5 "sunny"].any λy=>y==w)=U')(ha:([p5 "from",p5 "till",p5 "over",p5 "under"].any λy=>y==w)=Uf)(hp:([p5 "dear",p5 "cheap"].any λy=>y==w)=U'):
  aJ [.list (.str w::.str (C7 n)::Z)]=U (.dat (.tuple [.str w,.int n])):=by
 have be:=FG (n:=n) (least:=0) h0 h1 (by decide);unfold aJ;walk_at "t";rw[Bv,hb];walk_at "t";rw[Cu,ha];walk_at "t";rw[A3 (by lia),be];walk_at "t";rw[DR,hp];walk_at "t"
theorem yc(h0 : -1000000<=n)(h1:n<=1000000)(hb:([p5 "dark",p5 "sunny"].any λy=>y==w)=U')(ha:([p5 "from",p5 "till",p5 "over",p5 "under"].any λy=>y==w)=U')(hp:([p5 "dear",p5 "cheap"].any λy=>y==w)=Uf):
  aJ [.list (.str w::.str (C7 n)::Z)]=U (.dat (.tuple [.str w,.int n])):=by
 have be:=FG (n:=n) (least:=-1000000) h0 h1 (by decide);unfold aJ;walk_at "t";rw[Bv,hb];walk_at "t";rw[Cu,ha];walk_at "t";rw[DR,hp];walk_at "t";rw[A3 (by lia),be];walk_at "t"
theorem BH(hb:([p5 "dark",p5 "sunny"].any λy=>y==w)=Uf):
  aJ [.list (.str w::Z)]=U (.dat (.tuple [.str w])):=by unfold aJ;walk_at "t";rw[Bv,hb];walk_at "t"
theorem DH{x:Ts}(h:oE x)(more:List l5):aJ [.list ((J1 x).map .str++more)]=U (.dat (L7 x)):=by
 cases x with
 |from_ n=>exact kL h.1 h.2 (by decide +kernel) (by decide +kernel) (by decide +kernel)
 |till n=>exact kL h.1 h.2 (by decide +kernel) (by decide +kernel) (by decide +kernel)
 |over n=>exact kL h.1 h.2 (by decide +kernel) (by decide +kernel) (by decide +kernel)
 |under n=>exact kL h.1 h.2 (by decide +kernel) (by decide +kernel) (by decide +kernel)
 |dear n=>exact yc h.1 h.2 (by decide +kernel) (by decide +kernel) (by decide +kernel)
 |cheap n=>exact yc h.1 h.2 (by decide +kernel) (by decide +kernel) (by decide +kernel)
 |dark=>exact BH (by decide +kernel)
 |sunny=>exact BH (by decide +kernel)
theorem JL{m:Nat}{ds ds':Ds}(h1:Y ds=U Uf)(h2:G ds=U (.next ds')):W6 Y G (m+1) ds=W6 Y G m ds':=by rw[W6,h1];simp only[S7,if_true];rw[h2];rfl
theorem Lx{m:Nat}{ds:Ds}(h1:Y ds=U U'):W6 Y G (m+1) ds=U (.next ds):=by rw[W6,h1];simp only[S7,rA,if_false]
theorem xR(a b:List Ts):J5 (a++b)=J5 a++J5 b:=by
 induction a with
 |nil=>rfl
 |cons z a ih=>show J1 z++J5 (a++b)=J1 z++J5 a++J5 b;rw[ih,eT]
theorem yb(suf:List l5):∀(todo done:List Ts) (m:Nat) (y:Option PV),(∀x∈todo,oE x)->done.length+todo.length<=6 ->
  ∃y',W6 X0 az (m+todo.length) [U (.dat (.list ((J5 (done++todo)).map .str++suf))),U (.own (done.map L7)),iD ((J5 done).length:Int),y]=W6 X0 az m [U (.dat (.list ((J5 (done++todo)).map .str++suf))),U (.own ((done++todo).map L7)),iD ((J5 (done++todo)).length:Int),y']
 | [],done,m,y,_,_=>⟨y,by rw[bZ];rfl⟩
 |x::todo,done,m,y,h,hl=>by
  have hl':done.length+(todo.length+1)<=6:=hl;have hx:=h x (by simp)
  have e1:done++x::todo=(done++[x])++todo:=by simp
  have ix:J5 [x]=J1 x:=by show J1 x++[]=_;simp
  obtain⟨y',ih⟩:=yb suf todo (done++[x]) m (U (.dat (L7 x))) (λz hz=>h z (by simp[hz])) (by simp;lia)
  refine⟨y',?_⟩;rw[<-e1]at ih;have dl:=qK done;have wl:1<=(J1 x).length:=by cases x<;>simp[J1]
  have tl:T6 [L7 x]=U (.dat (.int ((J1 x).length:Nat))):=by cases x<;>rfl
  have nn:M8 (L7 x)=U':=by cases x<;>rfl
  have al:((J5 (done++x::todo)).map E7++suf).length=(J5 done).length+((J1 x).length+(J5 todo).length)+suf.length:=by
   rw[L6,C8,xR,L6];show _+(J1 x++J5 todo).length+_=_;rw[L6]
  have al2:((J5 (done++[x])).length:Int)=(J5 done).length+(J1 x).length:=by rw[xR,L6,ix];rfl
  have dr:((J5 (done++x::todo)).map E7++suf).drop (J5 done).length=(J1 x).map .str++((J5 todo).map .str++suf):=by
   rw[xR,T2,eT,Pj (by rw[C8])];show(J1 x++J5 todo).map E7++suf=_;rw[T2,eT]
  have rt:=DH hx ((J5 todo).map .str++suf);generalize (J5 (done++x::todo)).map E7++suf=WW at *;refine uT (JL (m:=m+todo.length) (ds':=[U (.dat (.list WW)),U (.own ((done++[x]).map L7)),iD ((J5 (done++[x])).length:Int),U (.dat (L7 x))]) ?_ ?_) ih
  . unfold X0;walk_at "t";rw[al]
    congr 1
    exact S6 (by lia)
  . unfold az;walk_at "t";rw[show K4 (.list WW) (U ((J5 done).length:Int)) J=U (.own (cutD WW (U ((J5 done).length:Int)) J))from rfl,sQ,dr]
    walk_at "t";rw[rt];have ml:((done.map L7).length:Int)=(done.length:Int):=by rw[C8]
    have ap:=λ(ds:Ds) (hd:ds[1]?=U (U (.own (done.map L7))))=>P8 (i:=1) (ds:=ds) (l:=done.map L7) (.dat (L7 x)) hd (by rw[C8];lia);rw[al2,T2];walk_at "t";rw[nn];walk_at "t";rw[A4 (by rw[C8];lia)];walk_at "t";rw[ap _ rfl];walk_at "t";rw[tl];rfl
variable{k:Nat}{d:l5}{Z:Type}
structure Sh(k:Nat)(d:l5):Prop where
 c:d.canLay0=Uf
 d:d.depth<=k
theorem Sh.shaped(h:Sh k d)(hk:k<=64):bV d=Uf:=by have:=h.c;have:=h.d;simp only[bV,dG,jo];exact⟨h.c,by exact C3 A2 A2⟩
theorem a1r(i:Int):Sh 0 (.int i):=⟨by simp[bE],by simp[ic]⟩
theorem Mi{k:Nat}:∀{l:List l5},(∀x∈l,Sh k x)->aI l=Uf/\dF l<=k
 | [],_=>⟨by simp[aI],by simp[dF]⟩
 |x::r,h=>by
  obtain⟨a,b⟩:=Mi (l:=r) λy hy=>h y (by simp[hy]);have hx:=h x (by simp);refine⟨by simp[aI,hx.c,a],?_⟩;have:=hx.d;simp only[dF];lia
theorem a1q{l:List l5}(h:∀x∈l,Sh k x):Sh (k+1) (.tuple l):=by obtain⟨a,b⟩:=Mi h;exact⟨by simpa [bE]using a,by simp only[ic];simp_all⟩
mutual
theorem Fg:∀d:l5,d.canLay0=Uf->cM d d=Uf
 | .none,_=>rfl
 | .bool b,_=>by simp[cM]
 | .int i,_=>by simp[cM]
 | .str x,_=>by simp[cM]
 | .list xs,h=>by rw[cM];exact uF xs (by simpa [bE]using h)
 | .tuple xs,h=>by rw[cM];exact uF xs (by simpa [bE]using h)
 | .dict _,h=>by simp[bE]at h
theorem uF:∀l:List l5,aI l=Uf->jy l l=Uf
 | [],_=>rfl
 |x::r,h=>by
  have h':x.canLay0=Uf/\aI r=Uf:=by simpa [aI]using h
  rw[jy,Fg x h'.1,uF r h'.2];rfl
end
theorem Nu{l:Nat}{e:l5}(hd:Sh k d)(he:Sh l e)(hk:autoParam (k<=64) cK)(hl:autoParam (l<=64) cK):X5 d e=U (.dat (.bool (!PyData.eqv d e))):=by
 unfold X5;split;rw[a0k];rw[A3 ⟨hd.shaped hk,he.shaped hl⟩]
theorem Rq{ts:List Ts}(h:∀x∈ts,oE x)(hl:ts.length<=6):jD [.list ((J5 ts).map .str)]=U (.dat (.tuple (ts.map L7))):=by
 have al:=qK ts;obtain⟨k,hk⟩:=Nat.le.dest al.1;obtain⟨y',e⟩:=yb [] ts [] (k+1) J h (by simpa using hl)
 rw[bY,bZ]at e;have mu:Xo 0 [U (.dat (.list ((J5 ts).map .str))),U (.own []),iD 0,J]=k+1+ts.length:=by
  show((J5 ts).map E7).length+1=_;rw[C8];lia
 have w2:W6 X0 az (k+1) [U (.dat (.list ((J5 ts).map .str))),U (.own (ts.map L7)),iD ((J5 ts).length:Int),y']=U (.next [U (.dat (.list ((J5 ts).map .str))),U (.own (ts.map L7)),iD ((J5 ts).length:Int),y']):=Lx (by unfold X0;walk_at "t";rw[C8];simp);have e':W6 X0 az (k+1+ts.length) [U (.dat (.list ((J5 ts).map .str))),U (.own []),iD 0,J]=_:=e.trans w2;unfold jD;walk_at "t";rw[mu,e'];walk_at "t"
theorem Up(r:Rl):jI [.list ((iX r).map .str)]=U (.dat (.tuple [.str (gb r.fi),.str (gY r.ta),.str (iW r.wo)])):=by
 have hs:Sh 1 (.list [.str (p5 "fill"),.str (p5 "take"),.str (p5 "works")]):=⟨by decide +kernel,by decide +kernel⟩
 have ne:X5 (.list [.str (p5 "fill"),.str (p5 "take"),.str (p5 "works")]) (.list [.str (p5 "fill"),.str (p5 "take"),.str (p5 "works")])=U (.dat (.bool U')):=by rw[Nu (k:=1) (l:=1) hs hs,Fg _ hs.c];rfl
 have s0:AR (.list ((iX r).map .str)) (U 0) J (U 2)=U (.own [.str (p5 "fill"),.str (p5 "take"),.str (p5 "works")]):=rfl;have s1:AR (.list ((iX r).map .str)) (U 1) J (U 2)=U (.own [.str (gb r.fi),.str (gY r.ta),.str (iW r.wo)]):=rfl;generalize (iX r).map E7=sw at *;unfold jI;walk_at "t";simp only[Bo];walk_at "t";rw[s0];walk_at "t";rw[ne];walk_at "t";simp only[Bo];walk_at "t";rw[s1];walk_at "t";rw[a0g];walk_at "t";rw[Yr];walk_at "t";rw[Yf];walk_at "t"
theorem Uz(w:Z)(m s:List Z)(hs:s.length=6):cutD (w::(m++s)) (U 1) (U (-6))=m:=by
 have e:(w::(m++s)).length=m.length+7:=by rw[J4,L6,hs]
 unfold cutD HT.N4;rw[e];simp;rw[show(-6+((m.length:Int)+7)).toNat-1=m.length by omega];exact List.take_left' rfl
theorem OP(w:Z)(m s:List Z)(hs:s.length=6):cutD (w::(m++s)) (U (-6)) J=s:=by
 have e:(w::(m++s)).length=m.length+7:=by rw[J4,L6,hs]
 unfold cutD HT.N4;rw[e];simp;rw[show(-6+((m.length:Int)+7)).toNat=m.length+1 by lia,GY,Pj rfl];exact jq (by simp_all)
theorem xx(r:Rl):aV r≠[]:=by unfold aV;simp
theorem iM{r:Rl}(h:aB r):(aV r).length<=19/\7<=(aV r).length:=by
 have al:=qK r.ts;have tl:=h.tl;unfold aV;rw[J4,L6];show(J5 r.ts).length+6+1<=19/\_<=(J5 r.ts).length+6+1;lia
def R7(r:Rl):Str:=aN ⟨#[32]⟩ (aV r)
theorem iY{r:Rl}(h:aB r):ip [.str (R7 r)]=U (.dat (C5 r)):=by
 have wd:=Ia h;obtain⟨l1,l2⟩:=iM h;have sp:=tS (xx r) (by exact C3 A2 A9) (λw hw=>C3 (wd w hw).l (by decide)) (λw hw=>(wd w hw).b)
 have te:=Rq h.ts h.tl;have de:=Up r;have e1:(aV r).map E7=.str (p5 "when")::((J5 r.ts).map .str++(iX r).map .str):=by unfold aV;rw[D8,T2]
 have c1:=Uz (E7 (p5 "when")) ((J5 r.ts).map .str) ((iX r).map .str) rfl;have c2:=OP (E7 (p5 "when")) ((J5 r.ts).map .str) ((iX r).map .str) rfl;have ln:¬((((E7 (p5 "when")::((J5 r.ts).map .str++(iX r).map .str)).length:Nat)):Int)<=6:=by rw[<-e1,C8];lia
 rw[e1]at sp;unfold ip R7;walk_at "t";rw[sp];generalize (J5 r.ts).map E7=am at *;generalize (iX r).map E7=sm at *;walk_at "t";rw[A4 (show ¬((((am++sm).length+1:Nat)):Int)<=6 from ln)];walk_at "t";rw[show K4 (.list (E7 (p5 "when")::(am++sm))) (U 1) (U (-6))=U (.own (cutD (E7 (p5 "when")::(am++sm)) (U 1) (U (-6))))from rfl,c1];walk_at "t";rw[te];walk_at "t";rw[show K4 (.list (E7 (p5 "when")::(am++sm))) (U (-6)) J=U (.own (cutD (E7 (p5 "when")::(am++sm)) (U (-6)) J))from rfl,c2];walk_at "t";rw[de];walk_at "t";rw[iH (by simp)];rfl
theorem HE{n:Int}(h0 : -1000000<=n)(h1:n<=1000000):eF [.tuple [.int n,.int 1]]=U (.dat (.str (C7 n))):=by
 have hn:n.natAbs<10^60:=dH (show n.natAbs<=1000000 by lia) (by decide);have:=rL (p:=(n,1)) ⟨hn,by show(1:Int).natAbs<10^60;decide,by show(0:Int)<1;decide⟩;unfold N2 at this
 rwa [A3 rfl]at this
noncomputable def CD:Ts->List l5
 | .from_ n=>[.int n]
 | .till n=>[.int n]
 | .over n=>[.int n]
 | .under n=>[.int n]
 | .dear n=>[.int n]
 | .cheap n=>[.int n]
 |_=>[]
noncomputable def yP:Ts->Str
 | .from_ _=>p5 "from"
 | .till _=>p5 "till"
 | .over _=>p5 "over"
 | .under _=>p5 "under"
 | .dear _=>p5 "dear"
 | .cheap _=>p5 "cheap"
 | .dark=>p5 "dark"
 | .sunny=>p5 "sunny"
theorem LO(x:Ts):L7 x=.tuple (.str (yP x)::CD x):=by cases x<;>rfl
theorem Uy{α:Type}(x:α)(l:List α):cutD (x::l) (U 1) J=l:=by simp[cutD,HT.N4]
theorem Mx{x:Ts}(h:oE x)(ds:Ds):O2 F7 F4 cA ds (CD x)=U ((J1 x).tail.map .str):=by
 have go:∀n:Int,-1000000<=n->n<=1000000->O2 F7 F4 cA ds [.int n]=U [.str (C7 n)]:=λn h0 h1=>by
  have e:cA (U (.dat (.int n))::ds)=U (.dat (.str (C7 n))):=by unfold cA;walk_at "t";rw[HE h0 h1]
  rw[O2];simp only[F7,F4,S7,iQ,kB,fO,bY,if_true];rw[e];rfl
 cases x with
 |dark=>rfl
 |sunny=>rfl
 |dear n=>exact go n h.1 h.2
 |cheap n=>exact go n h.1 h.2
 |_ n=>exact go n (by have:0<=n:=h.1;lia) h.2
theorem JJ(x:Ts):J1 x=yP x::(J1 x).tail:=by cases x<;>rfl
theorem Jl{i:Nat}{F:Ds->Option PV}{ds:Ds}{l m:List l5}(h1:F ds=U (.own m))(h2:ds[i]?=U (U (.own l)))(h3:l.length+m.length<=1000000):Bl i F ds=U (.next (ds.set i (U (.own (l++m))))):=by unfold Bl;rw[h1];simp only[S7];rw[h2];simp only;rw[A3 h3]
theorem Ca:∀(ts:List Ts) (W:List Str) (a y:Option PV),(∀x∈ts,oE x)->W.length+2*ts.length<=1000 ->
  ∃y',J9 (D3 2) Z8 (ts.map L7) [a,U (.own (W.map .str)),y]=U (.next [a,U (.own ((W++J5 ts).map .str)),y'])
 | [],W,a,y,_,_=>⟨y,by unfold J5;rw[bZ];rfl⟩
 |x::ts,W,a,y,h,hl=>by
  have hl':W.length+2*(ts.length+1)<=1000:=hl;have hx:=h x (by simp)
  have wl:(J1 x).length<=2:=by cases x<;>simp[J1]
  obtain⟨y',ih⟩:=Ca ts (W++J1 x) a (U (.dat (L7 x))) (λz hz=>h z (by simp[hz])) (by rw[L6];lia)
  refine⟨y',?_⟩;have hw:=JJ x;have tl:(J1 x).tail.length<=1:=by rw[List.length_tail];omega
  have st:Z8 [a,U (.own (W.map .str)),U (.dat (L7 x))]=U (.next [a,U (.own ((W++J1 x).map .str)),U (.dat (L7 x))]):=by
   have rc:=Mx hx;have tp:=LO x;rw[hw,T2,D8];generalize (J1 x).tail=tw at *;rw[tp];unfold Z8;walk_at "t";rw[P8 _ (l:=W.map .str) rfl (by rw[C8];lia)];walk_at "t";refine uT (Jl (l:=W.map .str++[.str (yP x)]) (m:=tw.map .str) ?_ rfl (by rw[L6,C8,C8];simp;lia)) ?_
   . unfold P4;walk_at "t";rw[show K4 (.tuple (.str (yP x)::CD x)) (U 1) J=U (.dat (.tuple (cutD (.str (yP x)::CD x) (U 1) J)))from rfl,Uy];walk_at "t";rw[A3 (by cases x<;>exact Nat.le_of_ble_eq_true rfl),rc];rfl
   walk_at "t";rw[eT];rfl
  rw[D8];show((Z8 [a,U (.own (W.map .str)),U (.dat (L7 x))]).bind λo=>match o with
   | .next ds2=>J9 (D3 2) Z8 (ts.map L7) ds2
   | .cont ds2=>J9 (D3 2) Z8 (ts.map L7) ds2
   | .brk ds2=>U (.next ds2)
   | .ret pv=>U (.ret pv)
   | .up x=>U (.up x)
   | .retO pv ds2=>U (.retO pv ds2)
   | .upO t x ds2=>U (.upO t x ds2))=_
  rw[st];refine uT ih ?_;rw[eT];rfl
theorem DF{r:Rl}(h:aB r):kU [C5 r]=U (.dat (.str (R7 r))):=by
 have wd:=Ia h;obtain⟨l1,l2⟩:=iM h;have jd:=xB (ws:=aV r) (by exact C3 A2 A9) (λw hw=>C3 (wd w hw).l (by decide));have tl:=h.tl;have al:=qK r.ts;obtain⟨y,e⟩:=Ca r.ts [p5 "when"] (U (.dat (C5 r))) J h.ts (by simp;lia)
 have i0:w5 (C5 r) (.int 0)=U (.dat (.tuple (r.ts.map L7))):=rfl;have i1:w5 (C5 r) (.int 1)=U (.dat (.str (gb r.fi))):=rfl;have i2:w5 (C5 r) (.int 2)=U (.dat (.str (gY r.ta))):=rfl;have i3:w5 (C5 r) (.int 3)=U (.dat (.str (iW r.wo))):=rfl;have ew:([p5 "when"]++J5 r.ts).map E7++[.str (p5 "fill"),.str (gb r.fi),.str (p5 "take"),.str (gY r.ta),.str (p5 "works"),.str (iW r.wo)]=(aV r).map .str:=by unfold aV iX;simp[T2]
 have wl:(([p5 "when"]++J5 r.ts).map E7).length<=100:=by rw[C8,L6];simp;lia
 generalize ([p5 "when"]++J5 r.ts).map E7=wm at *;generalize C5 r=rd at *;unfold kU R7;walk_at "t";rw[i0];walk_at "t"
 erw [e]
 walk_at "t";rw[i1,i2,i3];walk_at "t";rw[uQ (by simp;exact C3 A2 A9)];walk_at "t";rw[ew,jd];walk_at "t"
theorem Mg{K:List Rl}(h:∀r∈K,aB r)(hl:K.length<=20):dX [.tuple (K.map C5)]=U (.own (K.map λr=>.str (R7 r))):=by
 have cm:=λds=>comp_map (g:=C5) (f:=λr=>E7 (R7 r)) (Fe:=eY) (ds:=ds) (l:=K) (λr hr=>⟨.dat (.str (R7 r)),by unfold eY;walk_at "t";rw[DF (h r hr)],rfl⟩);unfold dX;walk_at "t";rw[A3 (by rw[C8];exact C3 A2 A9),cm];walk_at "t"
variable{k t:Int}{Z:List Int}
noncomputable abbrev U8(ns:List Int):l5:=.list (ns.map .int)
theorem Iq(ns:List Int):(ns.map lV).length=ns.length:=by simp
theorem Mm(h0:0<=k)(h:k<Z.length):T7 (Z.map lV) k=U (.int (Z.getD k.toNat 0)):=by
 rw[gC (n:=k.toNat) (by exact(Int.toNat_of_nonneg A2).symm) (by simp;simp_all),R9,M6 (by simp_all)];simp[Q4,M6 (show k.toNat<Z.length by simp_all)]
def IQ:Ds->Option Out:=(w4 (A0 4 (f9 K7 (f9 C2 (f9 C2 (f9 M9 (f9 K7 (f7 2) (fC (.int 1000003))) (fC (.int 48271))) (f9 M9 (f9 M9 (f7 1) (f7 1)) (fC (.int 7919)))) (fC (.int 1))) (fC (.int 65521)))) (w4 (A0 4 (f9 K7 (f9 C2 (f9 M9 (f7 4) (f7 4)) (f7 1)) (fC (.int 65519)))) (B5 (f9 K7 (f9 C2 (f9 M9 (f9 M9 (f7 4) (f7 4)) (fC (.int 31))) (f7 4)) (fC (.int 65497))))))
theorem Em{d:l5}(y:Option PV)(h0:0<=k)(h1:k<=100000):∃r:Int,(IQ [U (.dat d),iD k,iD t,y,J]).bind Bb=U (.dat (.int r))/\0<=r/\r<65497:=by
 have c0:=N9 t (b:=1000003) (by decide);have c1:=O9 t (b:=1000003) (by decide);have kk:Bt 60000 (k*k):=((Bt.small (i:=k) (by lia) (by exact kS A2 A9)).mul (Bt.small (i:=k) (by lia) (by exact kS A2 A9))).mono (by decide);unfold IQ;walk_at "r";rw[E3 (by decide)];walk_at "r";rw[J8 (Bt.ej (by omega) (by exact H9 A2 A9)) Bt.lit];walk_at "r";rw[J8 (Bt.ej (by lia) (by exact kS A2 A9)) (Bt.ej (by lia) (by exact kS A2 A9))];walk_at "r";rw[J8 kk Bt.lit];walk_at "r";rw[E3 (by decide)];walk_at "r";have v0:=N9 (t.fmod 1000003*48271+k*k*7919+1) (b:=65521) (by decide);have v1:=O9 (t.fmod 1000003*48271+k*k*7919+1) (b:=65521) (by decide);generalize (t.fmod 1000003*48271+k*k*7919+1).fmod 65521=v at *;rw[J8 (Bt.ej (by lia) (by exact H9 A2 A9)) (Bt.ej (by lia) (by exact H9 A2 A9))];walk_at "r";rw[E3 (by decide)];walk_at "r";have w0:=N9 (v*v+k) (b:=65519) (by decide);have w1:=O9 (v*v+k) (b:=65519) (by decide);generalize (v*v+k).fmod 65519=w at *;have ww:Bt 60000 (w*w):=((Bt.small (i:=w) (by lia) (by exact H9 A2 A9)).mul (Bt.small (i:=w) (by lia) (by exact H9 A2 A9))).mono (by decide);rw[J8 (Bt.ej (by lia) (by exact H9 A2 A9)) (Bt.ej (by lia) (by exact H9 A2 A9))];walk_at "r";rw[J8 ww Bt.lit];walk_at "r";rw[E3 (by decide)];exact⟨_,rfl,N9 _ (by decide),O9 _ (by decide)⟩
theorem L0{ns:List Int}(hl:ns.length<=63)(h0:0<=k)(h1:k<=100000):∃r:Int,E5 [U8 ns,.int k]=U (.dat (.int r))/\0<=r/\r<65497:=by
 unfold E5;walk_at "r";rw[Iq];by_cases hp:(0:Int)<(ns.length:Int)
 . rw[A3 hp,E3 (by exact X8)];have g1:=N9 k hp;have g2:=O9 k hp;walk_at "r";rw[Mm g1 g2];walk_at "r";rw[Mm (cR 0) hp];walk_at "r";rw[E3 (by decide)];walk_at "r";by_cases h2:Int.fmod (ns.getD 0 0) 2=1
   . rw[A3 h2,Iq];rw[O6 (by exact X8) (Bt.ej (by exact gD _) (by lia))];walk_at "r";rw[E3 (by decide)];have m0:=N9 (k.fdiv (ns.length:Int)) (b:=60) (by decide);have m1:=O9 (k.fdiv (ns.length:Int)) (b:=60) (by decide);walk_at "r";rw[Y2 (by omega)]
     walk_at "r";obtain⟨ds',e1,c,y3,rfl⟩:=bL (gt:=D3 3) (G:=lr) (lo:=0) (n:=((k.fdiv (ns.length:Int)).fmod 60).toNat) (ds:=[U (.dat (U8 ns)),iD k,iD (ns.getD (k.fmod (ns.length:Int)).toNat 0),J,J])
      (λn ds=>∃c y3,ds=[U (.dat (U8 ns)),iD k,iD c,y3,J]) ⟨_,J,rfl⟩ (by
       rintro n ds hn ⟨c,y3,rfl⟩;refine⟨_,[U (.dat (U8 ns)),iD k,iD (c.fdiv 65497),iD (0+(n:Int)),J],rfl,.inl ?_,_,_,rfl⟩;unfold lr;walk_at "r";rw[O6 (by decide) Bt.lit]
       walk_at "r")
     erw [e1]
     walk_at "r";rw[E3 (by decide)];walk_at "r";exact⟨_,rfl,N9 _ (by decide),O9 _ (by decide)⟩
   rw[A4 h2];simp only[cF];exact Em J h0 h1
 rw[A4 hp];simp only[cF];exact Em J h0 h1
theorem JF(x y:Int)(a b z:Option PV):jN [a,b,iD x,iD y,z]=U (decide (0<y)):=by unfold jN;walk_at "r"
theorem a0D(x:Int)(a b z:Option PV)(h:k≠0):jS [a,b,iD x,iD k,z]=U (.next [a,b,iD k,iD (x.fmod k),iD (x.fmod k)]):=by unfold jS;walk_at "r";rw[E3 h];walk_at "r"
theorem sD{b:Int}(hb:0<b)(hbb:Bt 8000 b):iJ [.int t,.int b]=U (.dat (fr (G6 t b))):=by
 unfold iJ;walk_at "r";obtain⟨ds',h1,⟨x',y',z',rfl,hg,hx',hy'⟩,h3⟩:=BC (Fc:=jN) (G:=jS) (λds=>∃x' y' z',ds=[iD t,iD b,iD x',iD y',z']/\gc x' y'=gc t b/\0<=x'/\0<=y') (λds=>sA 3 ds-1) (by
  rintro ds ⟨x',y',z',rfl,hg,hx',hy'⟩;rw[JF];by_cases h:y'=0;left;simp[h]
  . right;refine⟨by simp;omega,_,a0D x' _ _ z' h,⟨y',x'.fmod y',_,rfl,?_,hy',N9 x' (by omega)⟩,?_⟩
    . rw[<-hg];show((B9 y' (x'.fmod y'):Nat):Int)=(B9 x' y':Nat);rw[ER]
    . have:=qq x' h;walk_at "r";omega) (b.natAbs+1) [iD t,iD b,iD (if t<0 then -t else t),iD b,J] ⟨_,b,J,rfl,by
       show((B9 (if t<0 then -t else t) b:Nat):Int)=(B9 t b:Nat)
       split<;>simp,by split<;>omega,by omega⟩ (by walk_at "r";omega)
 rw[JF]at h3;have hz:y'=0:=by
  have:¬0<y':=by simpa using h3
  omega
 subst hz;have e:gc x' 0=x':=by show((B9 x' 0:Nat):Int)=x';rw[PJ];omega
 rw[e]at hg;subst hg;rw[h1];walk_at "r";have hg':=Xv (t:=t) (show b≠0 by omega);have hgb:=yR (t:=t) (show b≠0 by omega) hbb;rw[O6 hg' hgb,O6 hg' hgb];unfold G6;rw[A4 (by omega)];rfl
theorem Er(hb:0<k):0<(G6 t k).2/\B9 (G6 t k).1 (G6 t k).2=1/\(G6 t k).1*k=t*(G6 t k).2/\(G6 t k).2∣k:=by
 have hg:0<B9 t k:=mM t (by exact X8)
 have hgi:(0:Int)<gc t k:=by show(0:Int)<((B9 t k:Nat):Int);simp[*]
 have e:G6 t k=(t/gc t k,k/gc t k):=by unfold G6;rw[A4 (by lia),dI _ (by simp_all),dI _ (by simp_all)]
 have d1:gc t k∣t:=jm ..;have d2:gc t k∣k:=fQ ..;have m1:t/gc t k*gc t k=t:=rB d1;have m2:k/gc t k*gc t k=k:=rB d2;rw[e];refine⟨Hu hb (by simp_all) d2,vB hg,?_,⟨gc t k,m2.symm⟩⟩;show t/gc t k*k=t*(k/gc t k)
 generalize gc t k=g at *;have:t/g*k=t/g*(k/g*g):=by rw[m2]
 rw[this,O4 (k/g) g,<-gm,m1]
theorem ZK{b:Int}(t1:1<=t)(tb:t<=b)(b1:b<=1000):oF (G6 t b):=by
 obtain⟨h0,h1,h2,h3⟩:=Er (t:=t) (show 0<b by exact H9 A2 A2);have le:(G6 t b).2<=b:=ri (by lia) h3
 have e1:(G6 t b).1*b=t*(G6 t b).2:=h2;have p1:0<(G6 t b).1:=by
  have:0<t*(G6 t b).2:=S9 (by assumption) h0;rw[<-e1]at this;exact Int.pos_of_mul_pos_left this (by lia)
 refine⟨p1,?_,by exact H9 A2 A2,h1⟩;have:t*(G6 t b).2<=b*(G6 t b).2:=mN tb (by exact ab A2);rw[<-e1,O4 b]at this;exact QJ this (by lia)
theorem RB{ns:List Int}(hl:ns.length<=63):∃r:Int,pP [U8 ns]=U (.dat (.int r))/\0<=r/\r<=40000:=by
 obtain⟨m,e,m0,m1⟩:=L0 (ns:=ns) (k:=100) hl (by decide) (by decide);have c0:=N9 m (b:=5) (by decide);have c1:=O9 m (b:=5) (by decide)
 obtain⟨b,hb,b0,b1⟩:∃b:Int,T7 [lV 1,.int 1,.int 1,.int 1000,.int 40000] (m.fmod 5)=U (.int b)/\0<=b/\b<=40000:=by
  generalize m.fmod 5=z at *;have:z=0\/z=1\/z=2\/z=3\/z=4:=by lia
  rcases this with rfl|rfl|rfl|rfl|rfl<;>exact⟨_,rfl,by decide,by decide⟩
 unfold pP;walk_at "r";rw[e];walk_at "r";rw[E3 (by decide)];walk_at "r";rw[hb];exact⟨b,rfl,b0,b1⟩
theorem Z6{ns:List Int}(hl:ns.length<=63)(h0:0<=k)(h1:k<=100000):∃r:Int,Q5 [U8 ns,.int k]=U (.dat (.int r))/\0<=r/\r<=480000:=by
 obtain⟨m,e,m0,m1⟩:=L0 (ns:=ns) (k:=k) hl h0 h1;obtain⟨s,es,s0,s1⟩:=RB (ns:=ns) hl;have c0:=N9 m (b:=13) (by decide);have c1:=O9 m (b:=13) (by decide);unfold Q5;walk_at "r";rw[e];walk_at "r";rw[E3 (by decide),es];walk_at "r";rw[J8 (Bt.ej (by omega) (by exact H9 A2 A9)) (Bt.ej (by lia) (by exact kS A2 A9))];refine⟨_,rfl,vg c0 s0,?_⟩;have:m.fmod 13*s<=12*40000:=Gu (by omega) s1 s0 (by decide)
 simp_all
variable{i:Nat}{Z:List Int}{k:Int}{l:List Str}
structure FT(l:List Str):Prop where
 len:l.length=6
 nm:∀z∈l,Nm z
 nd:l.Nodup
theorem Nr{f:Nat->Str}{n:Nat}(h:∀i j,i<n->j<n->f i=f j->i=j):((R8 n).map f).Nodup:=by rw[List.nodup_iff_pairwise_ne,List.pairwise_map];refine List.Pairwise.imp_of_mem ?_ (List.nodup_range (n:=n));intro a b ha hb hne he;exact hne (h a b (mem_range.mp ha) (mem_range.mp hb) he)
theorem FT.at(h:FT l)(hi:i<6):Nm (l.getD i ""):=by
 have e:i<l.length:=by rw[h.len];exact hi
 rw[Q4,M6 e];exact h.nm _ (iw e)
theorem FT.inj(h:FT l){j:Nat}(hi:i<6)(hj:j<6)(e:l.getD i "" = l.getD j ""):i=j:=by
 have a:i<l.length:=by rw[h.len];exact hi
 have b:j<l.length:=by rw[h.len];exact hj
 rw[Q4,M6 a,Q4,M6 b]at e;exact(Px h.nd).mp e
theorem map_getD{α:Type}{f:α->l5}{l:List α}(a:α)(h:i<l.length):T7 (l.map f) (0+(i:Int))=U (f (l.getD i a)):=by
 rw[ra,gC (n:=i) rfl (by simpa using h),R9,M6 h];simp[Q4,h]
theorem ZE:FT [p5 "w",p5 "wa",p5 "wab",p5 "a",p5 "ab",p5 "b"]:=by
 refine⟨rfl,λz hz=>?_,?_⟩
 . simp only[K6,P7,P5]at hz;rcases hz with rfl|rfl|rfl|rfl|rfl|rfl<;>exact⟨by decide +kernel,by decide +kernel,by decide +kernel⟩
 simp only[Ad,K6,P7,P5,F6,not_or];decide
theorem ZD:FT [p5 "ab",p5 "a",p5 "b",p5 "abb",p5 "c",p5 "ca"]:=by
 refine⟨rfl,λz hz=>?_,?_⟩
 . simp only[K6,P7,P5]at hz;rcases hz with rfl|rfl|rfl|rfl|rfl|rfl<;>exact⟨by decide +kernel,by decide +kernel,by decide +kernel⟩
 simp only[Ad,K6,P7,P5,F6,not_or];decide
theorem ZU{ns:List Int}(hl:ns.length<=63)(h0:0<=k)(h1:k<=10000):∃l:Option (Int×Int×Int×Int),ti [U8 ns,.int k]=U (.dat (U1 l))/\∀a b c d,l=U (a,b,c,d)->Cv a/\pM b/\Cv c/\pM d:=by
 obtain⟨m,e,m0,m1⟩:=L0 (ns:=ns) (k:=k) hl h0 (by exact H9 A2 A9);obtain⟨a,ea,a0,a1⟩:=L0 (ns:=ns) (k:=k+1) hl (by lia) (by exact kS A2 A9);obtain⟨b,eb,b0,b1⟩:=L0 (ns:=ns) (k:=k+2) hl (by lia) (by lia);obtain⟨x,ex,x0,x1⟩:=Z6 (ns:=ns) (k:=k+3) hl (by lia) (by lia);obtain⟨y,ey,y0,y1⟩:=Z6 (ns:=ns) (k:=k+4) hl (by lia) (by lia);have p0:=N9 a (b:=27) (by decide);have p1:=O9 a (b:=27) (by decide);have q0:=N9 b (b:=27) (by decide);have q1:=O9 b (b:=27) (by decide);unfold ti;walk_at "r";rw[e];walk_at "r";rw[E3 (by decide)];walk_at "r";by_cases c:m.fmod 4=0;rw[A3 c];exact⟨J,rfl,λ_ _ _ _ h=>by cases h⟩
 . rw[A4 c];walk_at "r";rw[ea];walk_at "r";rw[E3 (by decide)];walk_at "r";rw[eb];walk_at "r";rw[E3 (by decide)];walk_at "r";rw[e];walk_at "r";rw[E3 (by decide)];walk_at "r";by_cases d:m.fmod 9=0
   . rw[A3 d,J8 (Bt.ej (by omega) (by omega)) Bt.lit];walk_at "r";rw[ex,ey];walk_at "r";exact⟨U ((a.fmod 27-6)*50000-300000,x,b.fmod 27-6,y),rfl,λ_ _ _ _ h=>by cases h;exact⟨⟨by lia,by lia⟩,⟨x0,by exact H9 A2 A9⟩,⟨by omega,by lia⟩,⟨y0,by exact H9 A2 A9⟩⟩⟩
   rw[A4 d];walk_at "r";rw[ex,ey];walk_at "r";exact⟨U (a.fmod 27-6,x,b.fmod 27-6,y),rfl,λ_ _ _ _ h=>by cases h;exact⟨⟨by omega,by omega⟩,⟨x0,by exact H9 A2 A9⟩,⟨by omega,by lia⟩,⟨y0,by exact H9 A2 A9⟩⟩⟩
theorem Yg{ns:List Int}{n:Int}{nm:Str}(hl:ns.length<=63)(h0:0<=k)(h1:k<=10000)(n1:1<=n)(N:Nm nm):∃w:Wk,kI [U8 ns,.int k,.str nm,.int n]=U (.dat (G7 w))/\uR n w/\w.name=nm:=by
 obtain⟨a,ea,a0,a1⟩:=L0 (ns:=ns) (k:=k) hl h0 (by exact H9 A2 A9);obtain⟨b,eb,b0,b1⟩:=L0 (ns:=ns) (k:=k+1) hl (by lia) (by exact kS A2 A9);obtain⟨x,ex,x0,x1⟩:=Z6 (ns:=ns) (k:=k+2) hl (by lia) (by lia);obtain⟨y,ey,y0,y1⟩:=Z6 (ns:=ns) (k:=k+3) hl (by lia) (by lia);obtain⟨z,ez,z0,z1⟩:=Z6 (ns:=ns) (k:=k+4) hl (by lia) (by lia);have p0:=N9 a (b:=n) (by assumption);have p1:=O9 a (b:=n) (by assumption);have q0:=N9 b (b:=n-a.fmod n) (by simp_all);have q1:=O9 b (b:=n-a.fmod n) (by simp_all);unfold kI;walk_at "r";rw[ea];walk_at "r";rw[E3 (by exact X8)];walk_at "r";rw[eb];walk_at "r";rw[E3 (by omega)];walk_at "r";rw[ex,ey,ez];walk_at "r";exact⟨⟨nm,x+y,a.fmod n,a.fmod n+b.fmod (n-a.fmod n),z⟩,rfl,⟨N,⟨by show 0<=x+y;exact Int.add_nonneg A2 A2,by show x+y<=1000000;lia⟩,p0,by show a.fmod n<=a.fmod n+_;omega,by show a.fmod n+_<n;omega,⟨z0,by show z<=1000000;exact H9 A2 A9⟩⟩,rfl⟩
theorem KU{ns:List Int}{t:Int}(hl:ns.length<=63)(t0:0<=t)(t1:t<24)(x1 x2:Option PV)(L:List l5)(hL:L.length<1000)(x5:Option PV)(r:Ds):
  ∃h:Hr,AI h/\∃y5,iq (U (.dat (U8 ns))::x1::x2::U (.own L)::iD t::x5::r)=U (.next (U (.dat (U8 ns))::x1::x2::U (.own (L++[C1 h]))::iD t::y5::r)):=by
 obtain⟨x,ex,x0,x1'⟩:=Z6 (ns:=ns) (k:=200+9*t) hl (by lia) (by lia);obtain⟨y,ey,y0,y1⟩:=Z6 (ns:=ns) (k:=200+9*t+1) hl (by lia) (by lia);obtain⟨l,el,hll⟩:=ZU (ns:=ns) (k:=200+9*t+2) hl (by lia) (by lia);unfold iq;walk_at "r";rw[J8 Bt.lit (Bt.ej (by lia) (by exact H9 A2 A9))];walk_at "r";rw[ex,ey,el];walk_at "r";rw[P8 _ (l:=L) rfl (by exact C3 A2 A9)];exact⟨⟨x,y,l⟩,⟨⟨x0,by show x<=1000000;exact H9 A2 A9⟩,⟨y0,by show y<=1000000;exact H9 A2 A9⟩,hll⟩,_,rfl⟩
theorem Zs(b:Bool):(uc intD sG) [.bool b]=U (.dat (.int (if b=Uf then 1 else 0))):=by cases b<;>rfl
theorem Yq{ns:List Int}{k n:Int}(hl:ns.length<=63)(h0:0<=k)(h1:k<=10000)(n1:1<=n)(n2:n<=24):∃x:Ts,kJ [U8 ns,.int k,.int n]=U (.dat (L7 x))/\oE x:=by
 obtain⟨a,ea,a0,a1⟩:=L0 (ns:=ns) (k:=k) hl h0 (by exact H9 A2 A9);obtain⟨b,eb,b0,b1⟩:=L0 (ns:=ns) (k:=k+1) hl (by lia) (by exact kS A2 A9);obtain⟨x,ex,x0,x1⟩:=Z6 (ns:=ns) (k:=k+1) hl (by lia) (by exact kS A2 A9);have p0:=N9 a (b:=8) (by decide);have p1:=O9 a (b:=8) (by decide);have q0:=N9 b (b:=n+1) (by lia);have q1:=O9 b (b:=n+1) (by lia);have r0:=N9 b (b:=27) (by decide);have r1:=O9 b (b:=27) (by decide);unfold kJ;walk_at "r";rw[ea];walk_at "r";rw[E3 (by decide)];walk_at "r";generalize a.fmod 8=z at *;by_cases c2:z<2
 . rw[A3 c2,eb];walk_at "r";rw[E3 (by lia)]
   have:z=0\/z=1:=by lia
   rcases this with rfl|rfl
   exact⟨.from_ (b.fmod (n+1)),rfl,q0,by show b.fmod (n+1)<=1000000;omega⟩;exact⟨.till (b.fmod (n+1)),rfl,q0,by show b.fmod (n+1)<=1000000;omega⟩
 rw[A4 c2];walk_at "r";by_cases c4:z<4
 . rw[A3 c4,ex];have:z=2\/z=3:=by lia
   rcases this with rfl|rfl
   exact⟨.over x,rfl,x0,by show x<=1000000;exact H9 A2 A9⟩;exact⟨.under x,rfl,x0,by show x<=1000000;exact H9 A2 A9⟩
 rw[A4 c4];walk_at "r";by_cases c6:z<6
 . rw[A3 c6,eb];walk_at "r";rw[E3 (by decide)]
   have:z=4\/z=5:=by lia
   rcases this with rfl|rfl
   exact⟨.dear (b.fmod 27-6),rfl,by show -1000000<=b.fmod 27-6;omega,by show b.fmod 27-6<=1000000;omega⟩;exact⟨.cheap (b.fmod 27-6),rfl,by show -1000000<=b.fmod 27-6;omega,by show b.fmod 27-6<=1000000;omega⟩
 rw[A4 c6];have:z=6\/z=7:=by lia
 rcases this with rfl|rfl
 exact⟨.dark,rfl,trivial⟩;exact⟨.sunny,rfl,trivial⟩
variable{h:J7}
inductive Tw where
 |n (i:Int)
 |s (z:Str)
noncomputable def Tw.aD:Tw->l5
 | .n i=>.int i
 | .s z=>.str z
def Tw.aW:Tw->Str
 | .n i=>C7 i
 | .s z=>z
def Tw.ok:Tw->Prop
 | .n i=>Cv i
 | .s _=>True
theorem a1i{x:Tw}(h:x.ok):(uc ke vN) [x.aD]=U (.dat (.str x.aW)):=by
 cases x with
 |n i=>
  have e:=kb (yA h);unfold uc;show(match ke [.int i]with|some v=>U v|none=>vN [.int i])=_;rw[e];rfl
 |s z=>rfl
def yj(h:J7):List Tw:=[.s (p5 "store"),.n h.size,.n h.start,.n h.fill,.n h.take,.s (N2 h.kept),.s (N2 h.left),.n h.rest]
noncomputable def sH(x:Hr):List Tw:=match x.line with
 |none=>[.s (p5 "hour"),.n x.Q6,.n x.need,.s (p5 "dark")]
 |some l=>[.s (p5 "hour"),.n x.Q6,.n x.need,.s (p5 "line"),.n l.1,.n l.2.1,.n l.2.2.1,.n l.2.2.2]
noncomputable def CB(w:Wk):List Tw:=[.s (p5 "work"),.s w.name,.n w.F3,.n w.first,.n w.last,.n w.most]
theorem iC{l:List Tw}(h:∀x∈l,x.ok)(k:xf (l.map Tw.aW))(hl:l.length<=100):O7 [.list (l.map Tw.aD)]=U (.dat (.str (M7 (l.map Tw.aW)))):=by
 have ec:∀ds:Ds,O2 F7 F4 kZ ds (l.map Tw.aD)=U (l.map λx=>.str x.aW):=λds=>comp_map λx hx=>⟨.dat (.str x.aW),by unfold kZ;walk_at "t";exact a1i (h x hx),rfl⟩
 have j:=Xq k;rw[V3]at j;have l1:(l.map Tw.aD).length<=100:=by rw[C8];exact hl
 generalize l.map Tw.aD=D at *;unfold O7;walk_at "t";rw[A3 (by exact C3 A2 A9),ec];walk_at "t";rw[show(l.map λx=>E7 x.aW)=l.map (E7∘Tw.aW)from rfl,j];walk_at "t"
theorem wI{q:Int×Int}(h:oF q):V9 [fr q]=U (.dat (.str (N2 q))):=by
 have s:=h.small;have e1:=kb s.top;have e2:=kb s.bot;have l1:=au s.top;have l2:=au s.bot;unfold V9 N2;walk_at "t";by_cases c:q.2=1;rw[A3 c,A3 c,e1];walk_at "t"
 . rw[A4 c,A4 c];walk_at "t";rw[e1];walk_at "t";rw[bq (by rw[J3 (p5 "/"),cG];simp;exact C3 A2 A9)];walk_at "t";rw[e2];walk_at "t";rw[bq (by rw[J3,aL,L6,<-J3,cG];simp;lia)];walk_at "t"
theorem KI(H:H5 h):O7 [.list ((yj h).map Tw.aD)]=U (.dat (.str (M7 (ah h)))):=by
 have a1:=H.size;have a2:=H.start;have a3:=H.fill;have a4:=H.take;have a7:=H.rest;have e:(yj h).map Tw.aW=ah h:=rfl;rw[<-e];refine iC (λx hx=>?_) (by rw[e];exact Et H) (by simp[yj])
 simp only[yj,K6,P7,P5]at hx;rcases hx with rfl|rfl|rfl|rfl|rfl|rfl|rfl|rfl
 . trivial
 exact bA a1;exact bA a2;exact bA a3;exact bA a4
 . trivial
 . trivial
 exact bA a7
theorem NK{n:Int}{w:Wk}(H:uR n w)(hn:n<=24):O7 [.list ((CB w).map Tw.aD)]=U (.dat (.str (M7 (eI w)))):=by
 have a2:=H.F3;have a3:=H.first;have a4:=H.fl;have a5:=H.last;have a6:=H.most;have e:(CB w).map Tw.aW=eI w:=rfl;rw[<-e];refine iC (λx hx=>?_) (by rw[e];exact IW H hn) (by simp[CB])
 simp only[CB,K6,P7,P5]at hx;rcases hx with rfl|rfl|rfl|rfl|rfl|rfl
 . trivial
 . trivial
 exact bA a2;exact⟨by lia,by lia⟩;exact⟨by lia,by lia⟩;exact bA a6
theorem NL{x:Hr}(H:AI x):O7 [.list ((sH x).map Tw.aD)]=U (.dat (.str (M7 (aG x)))):=by
 have a1:=H.Q6;have a2:=H.need;have a3:=H.line;have k:=IX H;obtain⟨su,ne,ln⟩:=x;cases ln with
 |none=>
  have e:(sH ⟨su,ne,J⟩).map Tw.aW=aG ⟨su,ne,J⟩:=rfl;rw[<-e]at k⊢;refine iC (λx hx=>?_) k (by simp[sH])
  simp only[sH,K6,P7,P5]at hx;rcases hx with rfl|rfl|rfl|rfl
  . trivial
  exact bA a1;exact bA a2
  . trivial
 |some l=>
  obtain⟨a,b,c,d⟩:=l;obtain⟨b1,b2,b3,b4⟩:=a3 a b c d rfl;have e:(sH ⟨su,ne,U (a,b,c,d)⟩).map Tw.aW=aG ⟨su,ne,U (a,b,c,d)⟩:=rfl;rw[<-e]at k⊢;refine iC (λx hx=>?_) k (by simp[sH])
  simp only[sH,K6,P7,P5]at hx;rcases hx with rfl|rfl|rfl|rfl|rfl|rfl|rfl|rfl
  . trivial
  exact bA a1;exact bA a2
  . trivial
  exact b1;exact bA b2;exact b3;exact bA b4
theorem yN{r0 r1 r2:Option PV}:∀(hs:List Hr) (acc:List l5) (y4 y5:Option PV),(∀x∈hs,AI x)->acc.length+hs.length<=1000 ->
  ∃z4 z5,J9 (D3 4) bz (hs.map C1) [r0,r1,r2,U (.own acc),y4,y5]=U (.next [r0,r1,r2,U (.own (acc++hs.map λx=>.str (M7 (aG x)))),z4,z5])
 | [],acc,y4,y5,_,_=>⟨y4,y5,by rw[fx,EX];simp⟩
 |x::hs,acc,y4,y5,h,hl=>by
  rw[J4]at hl;have B:∃z5,bz [r0,r1,r2,U (.own acc),U (.dat (C1 x)),y5]=U (.next [r0,r1,r2,U (.own (acc++[.str (M7 (aG x))])),U (.dat (C1 x)),z5]):=by
   have lh:=NL (h x F5);have fin:∀(F:Ds->Option PV) (z5:Option PV),F [r0,r1,r2,U (.own acc),U (.dat (C1 x)),z5]=U (.dat (.str (M7 (aG x))))->bK 3 F [r0,r1,r2,U (.own acc),U (.dat (C1 x)),z5]=U (.next [r0,r1,r2,U (.own (acc++[.str (M7 (aG x))])),U (.dat (C1 x)),z5]):=λF z5 hF=>by rw[iO,hF];exact P8 (i:=3) (l:=acc) _ rfl (by lia)
   obtain⟨su,ne,ln⟩:=x;unfold bz;cases ln with
   |none=>
    rw[C6 (ds':=[r0,r1,r2,U (.own acc),U (.dat (C1 ⟨su,ne,J⟩)),U (.dat (.list [.str (p5 "dark")]))]) rfl,C6 (ds':=[r0,r1,r2,U (.own acc),U (.dat (C1 ⟨su,ne,J⟩)),U (.dat (.list [.str (p5 "dark")]))]) rfl];exact⟨_,fin _ _ lh⟩
   |some l=>
    obtain⟨a,b,c,d⟩:=l;rw[C6 (ds':=[r0,r1,r2,U (.own acc),U (.dat (C1 ⟨su,ne,U (a,b,c,d)⟩)),U (.dat (.list [.str (p5 "dark")]))]) rfl,C6 (ds':=[r0,r1,r2,U (.own acc),U (.dat (C1 ⟨su,ne,U (a,b,c,d)⟩)),U (.dat (.list [.str (p5 "line"),.int a,.int b,.int c,.int d]))]) rfl];exact⟨_,fin _ _ lh⟩
  obtain⟨z5,B⟩:=B;obtain⟨z4,z5',e⟩:=yN (r0:=r0) (r1:=r1) (r2:=r2) hs (acc++[.str (M7 (aG x))]) (U (.dat (C1 x))) z5 (λy hy=>h y (F8 _ hy)) (by rw[L6,mL];lia);refine⟨z4,z5',?_⟩;rw[D8,Z7 (ds1:=[r0,r1,r2,U (.own acc),U (.dat (C1 x)),y5]) rfl B,e,eT];rfl
theorem Oq(H:H5 h):bj [D5 h]=U (.own (fh h)):=by
 have hl:=H.hl;have wl:=H.wl;have t1:=wI H.kept;have t2:=wI H.left;have ls:=KI H;have ed:∀ds:Ds,O2 F7 F4 gV ds (h.ws.map G7)=U (h.ws.map λw=>.str (M7 (eI w))):=λds=>comp_map λw hw=>⟨.dat (.str (M7 (eI w))),NK (H.ws w hw) (by lia),rfl⟩
 have el:fh h=[E7 (M7 (ah h))]++(h.hs.map λx=>.str (M7 (aG x)))++(h.ws.map λw=>.str (M7 (eI w))):=by simp[fh,uP,V3,rp]
 have l2:(h.ws.map G7).length<=6:=by rw[C8];exact wl
 have l3:(h.hs.map λx=>E7 (M7 (aG x))).length<=24:=by rw[C8];exact hl
 have l4:(h.ws.map λw=>E7 (M7 (eI w))).length<=6:=by rw[C8];exact wl
 obtain⟨z4,z5,er⟩:=yN (r0:=U (.dat (D5 h))) (r1:=U (.dat (ai h))) (r2:=U (.dat (.list [.str (N2 h.kept),.str (N2 h.left)]))) h.hs [.str (M7 (ah h))] J J H.hs (by simp;lia);rw[el];unfold bj;simp only[F9,J4,oR,Nat.reduceAdd,reduceIte,iQ,kB,Nat.reduceSub,N8,fO,bY];rw[C6 (ds':=[U (.dat (D5 h)),U (.dat (ai h)),J,J,J,J]) rfl];rw[C6 (ds':=[U (.dat (D5 h)),U (.dat (ai h)),U (.dat (.list [.str (N2 h.kept),.str (N2 h.left)])),J,J,J]) (by walk_at "t";rw[NZ];walk_at "t";rw[t1];walk_at "t";rw[NY];walk_at "t";rw[t2];walk_at "t")]
 rw[C6 (ds':=[U (.dat (D5 h)),U (.dat (ai h)),U (.dat (.list [.str (N2 h.kept),.str (N2 h.left)])),U (.own [.str (M7 (ah h))]),J,J]) (by
  walk_at "t";rw[show K4 (ai h) J (U 4)=U (.dat (.tuple [.int h.size,.int h.start,.int h.fill,.int h.take]))from rfl];walk_at "t";rw[xS (by simp)];walk_at "t";rw[xS (by simp)];walk_at "t";rw[NX];walk_at "t";rw[xS (by simp)];walk_at "t"
  erw [ls]
  walk_at "t")]
 rw[C6 (by walk_at "t";exact er)]
 generalize (h.hs.map λx=>E7 (M7 (aG x)))=A at *
 generalize (h.ws.map λw=>E7 (M7 (eI w)))=B at *
 walk_at "t";rw[Oh];generalize h.ws.map G7=WD at *;walk_at "t";rw[A3 (by exact C3 A2 A9),ed];walk_at "t";rw[xS (by simp;lia)];walk_at "t"
variable{r:Rl}
noncomputable def xZ:Ts->List Tw
 | .from_ n=>[.s (p5 "from"),.n n]
 | .till n=>[.s (p5 "till"),.n n]
 | .over n=>[.s (p5 "over"),.n n]
 | .under n=>[.s (p5 "under"),.n n]
 | .dear n=>[.s (p5 "dear"),.n n]
 | .cheap n=>[.s (p5 "cheap"),.n n]
 | .dark=>[.s (p5 "dark")]
 | .sunny=>[.s (p5 "sunny")]
theorem a3Y(x:Ts):L7 x=.tuple ((xZ x).map Tw.aD):=by cases x<;>rfl
def oD:List Ts->List Tw
 | []=>[]
 |x::l=>xZ x++oD l
theorem Pb:∀l:List Ts,(oD l).map Tw.aW=J5 l
 | []=>rfl
 |x::l=>by
  show(xZ x++oD l).map Tw.aW=J1 x++J5 l
  rw[T2,Pb l];cases x<;>rfl
theorem Nl{n:Int}(h:0<=n/\n<=1000000):Cv n:=⟨by lia,h.2⟩
theorem JB:∀l:List Ts,(∀x∈l,oE x)->∀y∈oD l,y.ok
 | [],_,y,hy=>nomatch hy
 |x::l,h,y,hy=>by
  rcases List.mem_append.mp (show y∈xZ x++oD l from hy)with hy|hy
  . have hx:=h x F5;cases x with
    |dark=>cases hy with
     |head=>trivial
     |tail _ e=>cases e
    |sunny=>cases hy with
     |head=>trivial
     |tail _ e=>cases e
    |_ n=>cases hy with
     |head=>trivial
     |tail _ e=>cases e with
      |head=>first|exact Nl hx|exact hx
      |tail _ e=>cases e
  exact JB l (λz hz=>h z (F8 _ hz)) y hy
theorem Yl{x:Ts}(h:oE x):∀w∈J1 x,W5 w:=by
 intro w hw;cases x with
 |dark=>cases hw with
  |head=>exact W7 (by decide +kernel) (by decide +kernel)
  |tail _ e=>cases e
 |sunny=>cases hw with
  |head=>exact W7 (by decide +kernel) (by decide +kernel)
  |tail _ e=>cases e
 |_ n=>cases hw with
  |head=>exact W7 (by decide +kernel) (by decide +kernel)
  |tail _ e=>cases e with
   |head=>first|exact cC (Nl h)|exact cC h
   |tail _ e=>cases e
theorem LC:∀(l:List Ts),(∀x∈l,oE x)->∀w∈J5 l,W5 w
 | [],_,w,hw=>nomatch hw
 |x::l,h,w,hw=>by
  rcases List.mem_append.mp (show w∈J1 x++J5 l from hw)with hw|hw
  exact Yl (h x F5) w hw;exact LC l (λz hz=>h z (F8 _ hz)) w hw
theorem a3W(f:Fi):W5 (gb f):=by cases f<;>exact W7 (by decide +kernel) (by decide +kernel)
theorem a3V(f:Ta):W5 (gY f):=by cases f<;>exact W7 (by decide +kernel) (by decide +kernel)
theorem a3U(f:Bool):W5 (iW f):=by cases f<;>exact W7 (by decide +kernel) (by decide +kernel)
theorem AM(h:aB r):∀w∈aV r,W5 w:=by
 intro w hw;rcases List.mem_cons.mp hw with rfl|hw
 exact W7 (by decide +kernel) (by decide +kernel)
 rcases List.mem_append.mp hw with hw|hw
 exact LC _ h.ts w hw
 . simp only[iX,K6,P7,P5]at hw;rcases hw with rfl|rfl|rfl|rfl|rfl|rfl
   exact W7 (by decide +kernel) (by decide +kernel);exact a3W _;exact W7 (by decide +kernel) (by decide +kernel);exact a3V _;exact W7 (by decide +kernel) (by decide +kernel);exact a3U _
theorem ZP(h:aB r):xf (aV r):=⟨xx r,by have:=(iM h).1;exact C3 A2 A9,AM h⟩
theorem Iv:∀(ts:List Ts) (W:List Tw) (a y:Option PV),W.length+2*ts.length<=1000 ->
  ∃y',J9 (D3 2) fR (ts.map L7) [a,U (.own (W.map Tw.aD)),y]=U (.next [a,U (.own ((W++oD ts).map Tw.aD)),y'])
 | [],W,a,y,_=>⟨y,by unfold oD;rw[bZ];rfl⟩
 |x::ts,W,a,y,hl=>by
  have hl':W.length+2*(ts.length+1)<=1000:=hl;have wl:(xZ x).length<=2:=by cases x<;>simp[xZ]
  obtain⟨y',ih⟩:=Iv ts (W++xZ x) a (U (.dat (L7 x))) (by rw[L6];lia)
  refine⟨y',?_⟩;have st:fR [a,U (.own (W.map Tw.aD)),U (.dat (L7 x))]=U (.next [a,U (.own ((W++xZ x).map Tw.aD)),U (.dat (L7 x))]):=by rw[T2,a3Y];exact Jl (l:=W.map Tw.aD) (m:=(xZ x).map Tw.aD) rfl rfl (by rw[C8,C8];lia)
  rw[D8,Z7 (ds1:=[a,U (.own (W.map Tw.aD)),U (.dat (L7 x))]) rfl st,ih,eT];rfl
def vQ(r:Rl):List Tw:=.s (p5 "when")::(oD r.ts++[.s (p5 "fill"),.s (gb r.fi),.s (p5 "take"),.s (gY r.ta),.s (p5 "works"),.s (iW r.wo)])
theorem Ir(r:Rl):(vQ r).map Tw.aW=aV r:=by unfold vQ aV;rw[D8,T2,Pb];rfl
theorem Cy(h:aB r):fB [C5 r]=U (.dat (.str (R7 r))):=by
 have ln:=ZP h;have l1:=iM h;rw[<-Ir]at ln l1;rw[C8]at l1;have we:=iC (l:=vQ r) (λx hx=>by
  rcases List.mem_cons.mp hx with rfl|hx
  . trivial
  rcases List.mem_append.mp hx with hx|hx
  exact JB _ h.ts x hx
  . simp only[K6,P7,P5]at hx;rcases hx with rfl|rfl|rfl|rfl|rfl|rfl<;>trivial) ln (by lia)
 rw[Ir]at we;have tl:=h.tl;obtain⟨y,e⟩:=Iv r.ts [.s (p5 "when")] (U (.dat (C5 r))) J (by simp;lia)
 have i0:w5 (C5 r) (.int 0)=U (.dat (.tuple (r.ts.map L7))):=rfl;have i1:w5 (C5 r) (.int 1)=U (.dat (.str (gb r.fi))):=rfl;have i2:w5 (C5 r) (.int 2)=U (.dat (.str (gY r.ta))):=rfl;have i3:w5 (C5 r) (.int 3)=U (.dat (.str (iW r.wo))):=rfl;have ew:([Tw.s (p5 "when")]++oD r.ts).map Tw.aD++[.str (p5 "fill"),.str (gb r.fi),.str (p5 "take"),.str (gY r.ta),.str (p5 "works"),.str (iW r.wo)]=(vQ r).map Tw.aD:=by unfold vQ;rw[List.singleton_append,D8,D8,T2];rfl
 have wl:(([Tw.s (p5 "when")]++oD r.ts).map Tw.aD).length<=100:=by
  have:=H0 Gd ew;rw[L6,C8 (as:=vQ r)]at this;lia
 generalize ([Tw.s (p5 "when")]++oD r.ts).map Tw.aD=wm at *;generalize C5 r=rd at *;unfold fB;walk_at "t";rw[i0];walk_at "t"
 erw [e]
 walk_at "t";rw[i1,i2,i3];walk_at "t";rw[xS (by simp;exact C3 A2 A9)];walk_at "t";rw[ew,we];walk_at "t";rfl
variable{a:Type}{k:Str}{n:Nat}{K:List Rl}
noncomputable def R6(k:Str)(A:List (Str×a)):Option a:=(A.find? λe=>decide (e.1=k)).map (·.2)
noncomputable def fX(A:List (Str×a))(k:Str)(v:a):List (Str×a):=if (A.any λe=>decide (e.1=k))=Uf then A.map (λe=>if e.1=k then(e.1,v)else e)else A++[(k,v)]
noncomputable def mapA(f:a->l5)(A:List (Str×a)):List (Str×l5):=A.map λe=>(e.1,f e.2)
theorem Es(f:a->l5)(k:Str)(A:List (Str×a)):fM k (mapA f A)=(R6 k A).map f:=by unfold fM R6 mapA;rw[List.find?_map,Gx,Gx];rfl
theorem YM(f:a->l5)(k:Str)(v:a)(A:List (Str×a)):AZ (mapA f A) k (f v)=mapA f (fX A k v):=by
 unfold AZ fX mapA;rw[Ge];show(if (A.any λe=>decide (e.1=k))=Uf then _ else _)=_;split
 . rw[V3,V3];refine List.map_congr_left λe _=>?_;show(if e.1=k then(e.1,f v)else(e.1,f e.2))=_;by_cases c:e.1=k;rw[A3 c,Qc,A3 c];rw[A4 c,Qc,A4 c]
 rw[T2];rfl
theorem TB{A:List (Str×a)}{v:a}(h:R6 k A=U v):∃e∈A,e.2=v:=by unfold R6 at h;obtain⟨e,h1,h2⟩:=Option.map_eq_some_iff.mp h;exact⟨e,List.mem_of_find?_eq_some h1,h2⟩
theorem YL{A:List (Str×a)}{v:a}{e:Str×a}(h:e∈fX A k v):e∈A\/e.2=v:=by
 unfold fX at h;split at h
 . obtain⟨x,hx,rfl⟩:=mem_map.mp h;split;exact .inr rfl;exact .inl hx
 . rcases List.mem_append.mp h with h|h
   exact .inl h;rw[mem_singleton.mp h];exact .inr rfl
theorem YN{A:List (Str×a)}{v:a}:(fX A k v).length<=A.length+1:=by
 unfold fX;split
 . rw[C8];simp_all
 rw[L6];exact K5 _
abbrev aY(K:List Rl):l5:=.tuple (K.map C5)
noncomputable abbrev Ks:=List (Str×List Rl)
variable{A:Ks}
def jf(h:J7)(A:Ks):List (Str×PF):=[(p5 "house",.dat (D5 h)),(p5 "keepers",.dct (mapA aY A))]
def D0(h:J7)(A:Ks):OD:=.ins (p5 "Desk") (jf h A)
structure Kp(n:Nat)(A:Ks):Prop where
 ok:∀e∈A,(∀r∈e.2,aB r)/\e.2.length<=20
 len:A.length<=n
theorem Kp.look(h:Kp n A)(e:R6 k A=U K):(∀r∈K,aB r)/\K.length<=20:=by obtain⟨x,hx,rfl⟩:=TB e;exact h.ok x hx
theorem Kp.put(h:Kp n A)(k:Str)(h1:∀r∈K,aB r)(h2:K.length<=20):Kp (n+1) (fX A k K):=⟨λe he=>by
 rcases YL he with he|he
 exact h.ok e he
 . rw[he];exact⟨h1,h2⟩,by have:=YN (k:=k) (A:=A) (v:=K);have:=h.len;lia⟩
theorem Kp.mono{m:Nat}(h:Kp n A)(l:n<=m):Kp m A:=⟨h.ok,C3 h.len l⟩
theorem a0p(h:J7)(A:Ks):oh (p5 "Desk") (p5 "keepers") (D0 h A)=U (mapA aY A):=by
 show(if p5 "Desk" = p5 "Desk" then(X1 (p5 "keepers") (jf h A)).bind dctP else J)=_;rw[A3 rfl];unfold jf X1;rw[A4 (by rw[F6];decide)];unfold X1;rw[A3 rfl];rfl
theorem Oo(h:J7)(A:Ks):X1 (p5 "house") (jf h A)=U (.dat (D5 h)):=by unfold jf X1;rw[A3 rfl]
theorem a0l(h:J7)(A B:Ks):Bs (p5 "keepers") (D0 h A) (mapA aY B)=D0 h B:=by
 show OD.ins _ (dO (p5 "keepers") (.dct (mapA aY B)) (jf h A))=_;unfold jf dO;rw[A4 (by rw[F6];decide)];unfold dO;rw[A3 rfl];rfl
theorem xt(w:Option Addr)(h:J7)(A:Ks)(r:Ds):ug 0 (oh (p5 "Desk") (p5 "keepers")) (U (.ob w (D0 h A))::r)=U ((w,D0 h A),mapA aY A):=by
 unfold ug;rw[vA];show(oh (p5 "Desk") (p5 "keepers") (D0 h A)).bind (λes=>U ((w,D0 h A),es))=_;rw[a0p];rfl
theorem UM(ds:Ds):∀l:List l5,gT ds (l.map AV.d)=U (l.map .dat)
 | []=>rfl
 |d::l=>by
  show(gT ds (l.map AV.d)).bind _=_;rw[UM ds l];rfl
theorem Rz:∀l:List l5,N3 (l.map AV.d)=[]
 | []=>rfl
 |d::l=>Rz l
theorem Ki(ds:Ds):∀(l:List l5) (ns:Ds),gQ (l.map AV.d) ns ds=ds
 | [],ns=>by cases ns<;>rfl
 |d::l,[]=>rfl
 |d::l,x::ns=>Ki ds l ns
section
variable{r:PV ⊕ l5}
theorem call_of{fo:List PV->Option (PV×Ds)}{Fl:Ds->Option (List AV)}{ds ns:Ds}{l:List l5}{w:Option Addr}{c c2:OD}{pv:PV}(h0:ds[n]?=U (U (.ob w c)))(hl:Fl ds=U (l.map AV.d))(hf:fo (.ob J c::l.map .dat)=U (pv,U (.ob J c2)::ns)):je fo (bT n Fl) ds=U (pv,ds.set n (U (.ob w c2))):=by
 unfold je bT;rw[h0];show((Fl ds).bind λl=>U (AV.s n::l)).bind _=_;rw[hl];show(if (n::N3 (l.map AV.d)).Nodup then(gT ds (AV.s n::l.map AV.d)).bind _ else J)=_;rw[Rz,A3 (by simp)];unfold gT;rw[h0];show((gT ds (l.map AV.d)).bind _).bind _=_;rw[UM];show(fo (.ob J c::l.map .dat)).bind _=_;rw[hf];show U (pv,gQ (l.map AV.d) ns (ds.set n (yz (U (.ob J c2)) ds[n]?)))=_;rw[Ki,h0];rfl
end
variable{y u:Rat}{M t b N:Int}{m i:Nat}{c:List Rl}{d:Hr}{q p:Q2}{l:List Rat}{e:Rl}{w:Str}{Y:l5}{X:Bool}{T:Type}{S:Wk}{R:List Str}{s:Rat×List Rat}
theorem HQ(h:IT m=Uf)(ds:Ds):lq (U (.dat (.str ⟨#[m]⟩))::ds)=U (.dat (.bool Uf)):=by
 have e:(Z5 inD cY) (.str ⟨#[m]⟩) (.str (p5 "abcdefghijklmnopqrstuvwxyz"))=U (.dat (.bool Uf)):=by
  show U (PV.dat (.bool (zJ (p5 "abcdefghijklmnopqrstuvwxyz") ⟨#[m]⟩)))=_;rw[oj,S6 (IS h)]
 exact e
theorem qe:∀l:List Bool,boolsOf (l.map .bool)=U l
 | []=>rfl
 |b::l=>by
  show(boolsOf (l.map .bool)).bind _=_;rw[qe l];rfl
theorem Pa(l:List Nat):sT [.list (l.map λ_=>.bool Uf)]=U (.dat (.bool Uf)):=by
 have e:(l.map λ_=>uY Uf)=(l.map λ_=>Uf).map .bool:=by rw[V3];rfl
 show(boolsOf (l.map λ_=>uY Uf)).bind _=_;rw[e,qe];simp
theorem Oi(N:Nm w):pS [.str w]=U (.dat (.bool Uf)):=by
 have hl:=J3 w;have h8:=N.len;have h0:0<(lz w).length:=List.length_pos_iff.mpr N.ne;have cm:∀ds:Ds,O2 F7 F4 lq ds ((lz w).map λc=>.str ⟨#[c]⟩)=U ((lz w).map λ_=>.bool Uf):=λds=>comp_map λc hc=>⟨.dat (.bool Uf),HQ (List.all_eq_true.mp N.all c hc) ds,rfl⟩;unfold pS;walk_at "t";rw[xy (by exact C3 A2 A9),show(fJ:l5)=.int 8 from rfl];walk_at "t";rw[A3 (show(0:Int)<(w.length:Nat)/\((w.length:Nat):Int)<=8 by lia),show signs w=(lz w).map λc=>.str ⟨#[c]⟩from rfl,A3 (by rw[C8];exact C3 A2 A9),cm];walk_at "t";rw[Pa];walk_at "t"
theorem uo(ws:List Str):lz (M7 ws)=(match ws with | []=>[]|w::r=>lz w++(r.map λx=>32::lz x).flatten):=by
 unfold M7;rw[show aN ⟨#[32]⟩ ws=qS ⟨#[32]⟩ ws from glued_eq_join _ _,vZ];rfl
theorem a4z{a b:Str}{r:List Str}{s:String}(h:(decide (32∈lz (p5 s)))=U'):¬M7 (a::b::r)=p5 s:=λe=>by
 have:32∈lz (M7 (a::b::r)):=by rw[uo];simp
 rw[e]at this;exact absurd this (of_decide_eq_false h)
theorem Mb(h:jW w):∀c∈lz w,c<1114112:=by
 unfold jW zH at h;rw[PC]at h;intro c hc;have:=h c (by unfold lz at hc;simpa using hc);simp at this;omega
theorem Mc(h:∀w∈R,W5 w):jW (M7 R):=nJ λc hc=>by
 rw[uo]at hc;cases R with
 |nil=>cases hc
 |cons w r=>
  rcases List.mem_append.mp hc with hc|hc
  exact Mb (h w F5).ok c hc
  . obtain⟨l,hl,hc⟩:=List.mem_flatten.mp hc;obtain⟨x,hx,rfl⟩:=mem_map.mp hl;rcases List.mem_cons.mp hc with rfl|hc
    decide;exact Mb (h x (F8 _ hx)).ok c hc
theorem qt{a:Str}(h:R≠[]):(a++p5 " ")++M7 R=M7 (a::R):=Z2 (by
 rw[aL,aL,uo,uo,Dn];cases R with
 |nil=>exact absurd rfl h
 |cons w r=>simp[lz])
theorem a2A(a:Str):M7 [a]=a:=Z2 (by rw[uo];simp)
theorem lN(a b c:Str):a++b++c=a++(b++c):=Z2 (by simp only[aL,eT])
noncomputable def val(q:Q2):Rat:=(q.1:Rat)/(q.2:Rat)
theorem bG(h:b≠0):(b:Rat)≠0:=by exact_mod_cast h
theorem AN(hb:0<b):val (G6 t b)=(t:Rat)/(b:Rat):=by
 have hg:0<B9 t b:=mM t (by exact X8)
 have hgi:(0:Int)<gc t b:=by show(0:Int)<((B9 t b:Nat):Int);simp[*]
 have e:G6 t b=(t/gc t b,b/gc t b):=by unfold G6;rw[A4 (by lia),dI _ (by simp_all),dI _ (by simp_all)]
 have d1:t/gc t b*gc t b=t:=rB (jm ..);have d2:b/gc t b*gc t b=b:=rB (fQ ..);rw[e];show((t/gc t b:Int):Rat)/((b/gc t b:Int):Rat)=_
 have hb2:b/gc t b≠0:=λz=>by rw[z]at d2;simp_all
 have r1:=bG hb2;have r2:=bG (show gc t b≠0 by exact X8);have r3:=bG (show b≠0 by exact X8)
 generalize gc t b=g at *;have c1:((t/g:Int):Rat)*(g:Rat)=(t:Rat):=by exact_mod_cast d1
 have c2:((b/g:Int):Rat)*(g:Rat)=(b:Rat):=by exact_mod_cast d2
 generalize ((t/g:Int):Rat)=x at *;generalize ((b/g:Int):Rat)=y at *;generalize (g:Rat)=z at *;rw[<-c1,<-c2];grind
theorem Rb(hp:0<p.2)(hq:0<q.2):val (pA p q)=val p+val q:=by
 unfold pA;rw[AN (S9 hp hq)];have r1:=bG (show p.2≠0 by exact X8);have r2:=bG (show q.2≠0 by exact X8);unfold val
 push_cast
 grind
theorem LI(hp:0<p.2)(hq:0<q.2):val (uk p q)=val p-val q:=by
 unfold uk;rw[AN (S9 hp hq)];have r1:=bG (show p.2≠0 by exact X8);have r2:=bG (show q.2≠0 by exact X8);unfold val
 push_cast
 grind
theorem LH(hp:0<p.2)(hq:0<q.2):val (lC p q)=val p*val q:=by
 unfold lC;rw[AN (S9 hp hq)];have r1:=bG (show p.2≠0 by exact X8);have r2:=bG (show q.2≠0 by exact X8);unfold val
 push_cast
 grind
theorem val_inj(hp:eU m p)(hq:eU i q)(h:val p=val q):p=q:=by
 refine Ui hp hq ?_;have r1:=bG (show p.2≠0 by have:=hp.pos;exact X8);have r2:=bG (show q.2≠0 by have:=hq.pos;exact X8)
 have h':(p.1:Rat)/(p.2:Rat)=(q.1:Rat)/(q.2:Rat):=h;have e:(p.1:Rat)*(q.2:Rat)-(q.1:Rat)*(p.2:Rat)=0:=by grind
 exact_mod_cast e
theorem Th{n:Int}(h:Bt m n)(hm:1<=m):eU m (n,1):=⟨by show(0:Int)<1;decide,by show B9 n 1=1;simp,h,Bt.mono (m:=1) ⟨by show(1:Int).natAbs<2^1;decide⟩ hm⟩
theorem Ep(hb:0<b)(hy:0<N)(hc:B9 M N=1)(he:t*N=M*b):G6 t b=(M,N):=by
 have hg:0<B9 t b:=mM t (by exact X8)
 have hgi:(0:Int)<gc t b:=by show(0:Int)<((B9 t b:Nat):Int);simp[*]
 have k1:N∣b:=by
  have z:N∣M*b:=⟨t,by rw[<-he,O4]⟩
  have z':N.natAbs∣M.natAbs*b.natAbs:=by rw[<-gp];exact Int.natAbs_dvd_natAbs.mpr z
  have cp:zC N.natAbs M.natAbs:=by rw[Ah];exact hc
  exact Int.natAbs_dvd_natAbs.mp (cp.dvd_of_dvd_mul_left z')
 obtain⟨k,rfl⟩:=k1;have hk:0<k:=by
  rcases oM 0 k with h|h
  exact h;have:=zo (ab hy) h;lia
 have ht:t=M*k:=by
  have:t*N=(M*k)*N:=by rw[he,gm,O4 N k]
  exact Hw (by exact X8) this
 subst ht;have e:B9 (M*k) (N*k)=k.natAbs:=by rw[Int.gcd_mul_right,hc,Nat.one_mul]
 have eg:gc (M*k) (N*k)=k:=by show((B9 _ _:Nat):Int)=k;rw[e];lia
 unfold G6;rw[A4 (by lia),eg,dI _ (by exact ab A2),dI _ (by exact ab A2),Qb _ (by exact X8),Qb _ (by exact X8)]
theorem kC(h1:B9 M t=1)(h2:B9 M b=1):B9 M (t*b)=1:=by
 show Nat.gcd M.natAbs (t*b).natAbs=1;rw[gp];exact Nat.Coprime.mul_right h1 h2
theorem cJ(h1:B9 M t=1)(h2:b∣t):B9 M b=1:=
 Nat.Coprime.coprime_dvd_right (Int.natAbs_dvd_natAbs.mpr h2) h1
theorem U6(h:B9 M t=1):B9 t M=1:=by rw[vc];exact h
theorem Jv(h:B9 M t=1):B9 (M+N*t) t=1:=by
 rw[<-h];apply Po
 . apply zD
   . have h1:((B9 (M+N*t) t:Nat):Int)∣t:=fQ ..;have h2:((B9 (M+N*t) t:Nat):Int)∣M+N*t:=jm ..;have h3:=Int.dvd_sub h2 (QE (b:=N) h1)
     rwa [Int.add_sub_cancel]at h3
   exact fQ ..
 . apply zD;exact Int.dvd_add (jm ..) (QE (b:=N) (fQ ..));exact fQ ..
theorem SF(hb:0<b)(hd:0<N)(h1:B9 M b=1)(h2:B9 t N=1):
  let s:=gc b N
  let a:=M*N.fdiv s+t*b.fdiv s
  let e:=gc a s
  0<s/\0<e/\G6 (M*N+t*b) (b*N)=(a.fdiv e,b.fdiv s*N.fdiv e):=by
 have hg:0<B9 b N:=mM b (by exact X8)
 have hs:(0:Int)<gc b N:=by show(0:Int)<((B9 b N:Nat):Int);simp[*]
 obtain⟨b',hb'⟩:gc b N∣b:=jm ..;obtain⟨d',hd'⟩:gc b N∣N:=fQ ..;have co:B9 b' d'=1:=by
  have:=vB (i:=b) (j:=N) hg;have q1:b/((B9 b N:Nat):Int)=b':=by
   show b/gc b N=b'
   conv=>lhs;lhs;rw[hb']
   rw[kT _ (by exact X8)]
  have q2:N/((B9 b N:Nat):Int)=d':=by
   show N/gc b N=d'
   conv=>lhs;lhs;rw[hd']
   rw[kT _ (by exact X8)]
  rwa [q1,q2]at this
 intro s a e;have es:gc b N=s:=rfl;have f1:b.fdiv s=b':=by rw[dI _ (by exact gD _)];rw[es]at hb';rw[hb',kT _ (by exact X8)]
 have f2:N.fdiv s=d':=by rw[dI _ (by exact gD _)];rw[es]at hd';rw[hd',kT _ (by exact X8)]
 have et:a=M*d'+t*b':=by show M*N.fdiv s+t*b.fdiv s=_;rw[f1,f2]
 have hge:0<B9 a s:=mM a (by exact X8)
 have he:(0:Int)<e:=by show(0:Int)<((B9 a s:Nat):Int);omega
 refine⟨hs,he,?_⟩;rw[es]at hb' hd'
 clear_value s
 obtain⟨t',ht'⟩:e∣a:=jm ..;obtain⟨s',hs'⟩:e∣s:=fQ ..;have co2:B9 t' s'=1:=by
  have:=vB (i:=a) (j:=s) hge;have q1:a/((B9 a s:Nat):Int)=t':=by
   show a/e=t';rw[ht',kT _ (by exact X8)]
  have q2:s/((B9 a s:Nat):Int)=s':=by
   show s/e=s';rw[hs',kT _ (by exact X8)]
  rwa [q1,q2]at this
 clear_value e
 have pb':0<b':=by
  rcases oM 0 b' with h|h
  exact h;have:=zo (ab (show(0:Int)<s by lia)) h;lia
 have pd':0<d':=by
  rcases oM 0 d' with h|h
  exact h;have:=zo (ab (show(0:Int)<s by lia)) h;lia
 have ps':0<s':=by
  rcases oM 0 s' with h|h
  exact h;have:=zo (ab he) h;lia
 have tb:B9 a b'=1:=by
  rw[et];have:B9 (M*d') b'=1:=U6 (kC (U6 (cJ h1 ⟨s,by rw[hb',O4]⟩)) co);exact Jv this
 have td:B9 a d'=1:=by
  rw[et,Int.add_comm];have:B9 (t*b') d'=1:=U6 (kC (U6 (cJ h2 ⟨s,by rw[hd',O4]⟩)) (U6 co));exact Jv this
 have dt:t'∣a:=⟨e,by rw[ht',O4]⟩
 have f3:N.fdiv e=s'*d':=by rw[dI _ (by exact ab A2),hd',hs',gm,kT _ (by exact X8)]
 have f4:a.fdiv e=t':=by rw[dI _ (by exact ab A2),ht',kT _ (by exact X8)]
 rw[f1,f3,f4];apply Ep (S9 hb hd) (S9 pb' (S9 ps' pd'));exact kC (U6 (cJ (U6 tb) dt)) (kC co2 (U6 (cJ (U6 td) dt)))
 . have e1 : M * N + t * b = s * a := by rw [et, Int.mul_add]; conv => lhs; rw [hb', hd']
                                         simp only[fP,O4]
   rw[e1,ht']
   conv=>rhs;rw[hb',hd']
   rw[hs'];simp only[fP,O4]
theorem LP(hb:0<b)(hd:0<N)(h1:B9 M b=1)(h2:B9 t N=1):
  let e:=gc M N
  let f:=gc t b
  0<e/\0<f/\G6 (M*t) (b*N)=(M.fdiv e*t.fdiv f,b.fdiv f*N.fdiv e):=by
 have key:∀{x y:Int},0<y->∃x' y',0<gc x y/\x=gc x y*x'/\y=gc x y*y'/\0<y'/\B9 x' y'=1/\x.fdiv (gc x y)=x'/\y.fdiv (gc x y)=y':=by
  intro x y hy;have hg:0<B9 x y:=mM x (by exact X8)
  have hs:(0:Int)<gc x y:=by show(0:Int)<((B9 x y:Nat):Int);simp[*]
  obtain⟨x',hx'⟩:gc x y∣x:=jm ..;obtain⟨y',hy'⟩:gc x y∣y:=fQ ..
  have q1 : x / gc x y = x' := by conv => lhs; lhs; rw [hx']
                                  rw[kT _ (by exact X8)]
  have q2 : y / gc x y = y' := by conv => lhs; lhs; rw [hy']
                                  rw[kT _ (by exact X8)]
  refine⟨x',y',hs,hx',hy',?_,?_,?_,?_⟩
  . rcases oM 0 y' with h|h
    exact h;have:=zo (ab hs) h;lia
  . have:=vB (i:=x) (j:=y) hg;have q1':x/((B9 x y:Nat):Int)=x':=q1;have q2':y/((B9 x y:Nat):Int)=y':=q2
    rwa [q1',q2']at this
  rw[dI _ (by exact gD _),q1];rw[dI _ (by exact gD _),q2]
 obtain⟨a',d',he,ea,ed,pd,ce,fa,fd⟩:=key (x:=M) hd;obtain⟨c',b',hf,ec,eb,pb,cf,fc,fb⟩:=key (x:=t) hb;intro e f;have ee:gc M N=e:=rfl;have ef:gc t b=f:=rfl;rw[ee]at he ea ed fa fd;rw[ef]at hf ec eb fc fb;refine⟨he,hf,?_⟩
 clear_value e f
 rw[fa,fd,fc,fb];apply Ep (S9 hb hd) (S9 pb pd)
 . have c1:B9 a' b'=1:=U6 (cJ (U6 (cJ h1 ⟨f,by rw[eb,O4]⟩)) ⟨e,by rw[ea,O4]⟩);have c2:B9 c' d'=1:=U6 (cJ (U6 (cJ h2 ⟨e,by rw[ed,O4]⟩)) ⟨f,by rw[ec,O4]⟩);exact U6 (kC (U6 (kC c1 ce)) (U6 (kC cf c2)))
 . conv=>lhs;rw[ea,ec]
   conv=>rhs;rw[eb,ed]
   simp only[fP,O4]
theorem Bk(t b:Int):gc (if t<0 then -t else t) b=gc t b:=by
 show((B9 _ _:Nat):Int)=(B9 t b:Nat)
 split<;>simp
theorem a2R(hb:0<b)(h:Bt m b):Bt m (gc b t):=h.of_le (by
 have h1:=Int.gcd_le_natAbs_left (a:=b) t (by exact X8);show((B9 b t:Nat):Int).natAbs<=_
 simp_all)
theorem a4m(hp:eU m p)(hq:eU i q)(h:m+i<=7998):ao [fr p,fr q]=U (.dat (fr (pA p q))):=by
 have c1:Bt 60000 p.1:=hp.bt.mono (by omega);have c2:Bt 60000 p.2:=hp.bb.mono (by omega);have c3:Bt 60000 q.1:=hq.bt.mono (by omega);have c4:Bt 60000 q.2:=hq.bb.mono (by omega);obtain⟨s0,e0,el⟩:=SF hp.pos hq.pos hp.low hq.low;have bs:Bt 8000 (gc p.2 q.2):=(a2R hp.pos hp.bb).mono (by omega);have be:∀t,Bt 8000 (gc t (gc p.2 q.2)):=λt=>yR (by omega) bs;unfold ao;walk_at "r";rw[iR (ab hp.pos) (ab hq.pos)];walk_at "r";simp only[O6 (show gc p.2 q.2≠0 by omega) bs];walk_at "r";simp only[J8,c1,c2.fdiv,c3,c4.fdiv];walk_at "r";rw[iR (by split<;>omega) (by omega),Bk];walk_at "r";simp only[O6 (show gc (p.1*q.2.fdiv (gc p.2 q.2)+q.1*p.2.fdiv (gc p.2 q.2)) (gc p.2 q.2)≠0 by omega) (be _),O6 (show gc p.2 q.2≠0 by omega) bs];walk_at "r";rw[J8 c2.fdiv c4.fdiv];unfold pA;rw[el];rfl
theorem a1a(hp:eU m p)(hq:eU i q)(h:m+i<=7998):ay [fr p,fr q]=U (.dat (fr (lC p q))):=by
 have c1:Bt 60000 p.1:=hp.bt.mono (by omega);have c2:Bt 60000 p.2:=hp.bb.mono (by omega);have c3:Bt 60000 q.1:=hq.bt.mono (by omega);have c4:Bt 60000 q.2:=hq.bb.mono (by omega);obtain⟨s0,e0,el⟩:=LP hp.pos hq.pos hp.low hq.low;have b1:Bt 8000 (gc p.1 q.2):=(yR (by have:=hq.pos;omega) hq.bb).mono (by omega);have b2:Bt 8000 (gc q.1 p.2):=(yR (by have:=hp.pos;omega) hp.bb).mono (by omega);have n1:=hp.pos;have n2:=hq.pos;unfold ay;walk_at "r";rw[iR (by split<;>omega) (by omega),Bk];walk_at "r";rw[iR (by split<;>omega) (by omega),Bk];walk_at "r";simp only[O6 (show gc p.1 q.2≠0 by omega) b1,O6 (show gc q.1 p.2≠0 by omega) b2];walk_at "r";rw[J8 c1.fdiv c3.fdiv];walk_at "r";simp only[O6 (show gc p.1 q.2≠0 by omega) b1,O6 (show gc q.1 p.2≠0 by omega) b2];walk_at "r";rw[J8 c2.fdiv c4.fdiv];unfold lC;rw[el];rfl
theorem a0T(hp:eU m p)(hq:eU i q)(h:m+i<=59999):gF [fr p,fr q]=U (.dat (.bool (xX p q))):=by
 have c1:Bt 60000 p.1:=hp.bt.mono (by lia);have c2:Bt 60000 p.2:=hp.bb.mono (by lia);have c3:Bt 60000 q.1:=hq.bt.mono (by lia);have c4:Bt 60000 q.2:=hq.bb.mono (by lia);unfold gF;walk_at "r";simp only[J8,c1,c2,c3,c4];walk_at "r";rfl
structure FD(D M:Int)(q:Q2):Prop where
 pos:0<q.2
 low:B9 q.1 q.2=1
 dvd:q.2∣D
 wH:(q.1.natAbs:Int)<=M*q.2
theorem FD.mono(h:FD t M q)(hd:t∣b)(hm:M<=N):FD b N q:=
 ⟨h.pos,h.low,rb h.dvd hd,H9 h.wH (mN hm (ab h.pos))⟩
theorem FD.a5w(h:FD t M q)(hD:0<t)(h1:Bt m t)(h2:Bt m (M*t)):eU m q:=by
 have l:=ri hD h.dvd;have p:=h.pos;have D:=h.wH;have hM:0<=M:=by
  rcases oM M 0 with c|c
  have:=QH c p;lia;exact c
 have l2:M*q.2<=M*t:=QO l hM;exact⟨p,h.low,h2.of_le (by lia),h1.of_le (by lia)⟩
theorem kq(hb:0<b):0<(G6 t b).2/\B9 (G6 t b).1 (G6 t b).2=1/\(G6 t b).1*b=t*(G6 t b).2/\(G6 t b).2∣b:=by
 have hg:0<B9 t b:=mM t (by exact X8)
 have hgi:(0:Int)<gc t b:=by show(0:Int)<((B9 t b:Nat):Int);simp[*]
 have e:G6 t b=(t/gc t b,b/gc t b):=by unfold G6;rw[A4 (by lia),dI _ (by simp_all),dI _ (by simp_all)]
 have d1:gc t b∣t:=jm ..;have d2:gc t b∣b:=fQ ..;have m1:t/gc t b*gc t b=t:=rB d1;have m2:b/gc t b*gc t b=b:=rB d2;rw[e];refine⟨Hu hb (by simp_all) d2,vB hg,?_,⟨gc t b,m2.symm⟩⟩;show t/gc t b*b=t*(b/gc t b)
 generalize gc t b=g at *;have:t/g*b=t/g*(b/g*g):=by rw[m2]
 rw[this,O4 (b/g) g,<-gm,m1]
theorem ZM{c:Int}(hb:0<b)(h:t*M=c*b):(G6 t b).2∣M:=by
 obtain⟨p,l,e,_⟩:=kq (t:=t) hb;generalize (G6 t b).1=x at *;generalize (G6 t b).2=y at *;have k:x*M=c*y:=by
  apply Hw (show b≠0 by exact X8)
  calc x*M*b=(x*b)*M:=by simp only[fP,O4]
   _=(t*M)*y:=by rw[e];simp only[fP,O4]
   _=c*y*b:=by rw[h];simp only[fP,O4]
 have z:y∣x*M:=⟨c,by rw[k,O4]⟩
 have z':y.natAbs∣x.natAbs*M.natAbs:=by rw[<-gp];exact Int.natAbs_dvd_natAbs.mpr z
 have cp:zC y.natAbs x.natAbs:=by rw[Ah];exact l
 exact Int.natAbs_dvd_natAbs.mp (cp.dvd_of_dvd_mul_left z')
theorem IV(hb:0<b)(h:(t.natAbs:Int)<=M*b):(((G6 t b).1).natAbs:Int)<=M*(G6 t b).2:=by
 obtain⟨p,l,e,_⟩:=kq (t:=t) hb;generalize (G6 t b).1=x at *;generalize (G6 t b).2=y at *;have e':(x.natAbs:Int)*b=(t.natAbs:Int)*y:=by
  have:=H0 Int.natAbs e;rw[gp,gp]at this;have hb':(b.natAbs:Int)=b:=by lia
  have hy':(y.natAbs:Int)=y:=by lia
  rw[<-hb',<-hy']
  exact_mod_cast this
 apply QJ (a:=b) _ hb;rw[e'];have:=mN h (ab p)
 calc (t.natAbs:Int)*y<=M*b*y:=this
  _=M*y*b:=by simp only[fP,O4]
theorem FD.plus(hp:FD b M p)(hq:FD b N q):FD b (M+N) (pA p q):=by
 have hb:=S9 hp.pos hq.pos;obtain⟨a,l,_,_⟩:=kq (t:=p.1*q.2+q.1*p.2) hb;obtain⟨u,hu⟩:=hp.dvd;obtain⟨v,hv⟩:=hq.dvd;refine⟨a,l,ZM (c:=p.1*u+q.1*v) hb ?_,IV hb ?_⟩
 . have e1:p.1*q.2*b=p.1*u*(p.2*q.2):=by rw[hu];simp only[fP,O4]
   have e2:q.1*p.2*b=q.1*v*(p.2*q.2):=by rw[hv];simp only[fP,O4]
   rw[qX,qX,e1,e2]
 . have h1:=mN hp.wH (ab hq.pos);have h2:=mN hq.wH (ab hp.pos);have a1:((p.1*q.2).natAbs:Int)=(p.1.natAbs:Int)*q.2:=by
    rw[gp];have:(q.2.natAbs:Int)=q.2:=by have:=hq.pos;lia
    push_cast;rw[this]
   have a2:((q.1*p.2).natAbs:Int)=(q.1.natAbs:Int)*p.2:=by
    rw[gp];have:(p.2.natAbs:Int)=p.2:=by have:=hp.pos;lia
    push_cast;rw[this]
   have a3:=Int.natAbs_add_le (p.1*q.2) (q.1*p.2);have e1:(M+N)*(p.2*q.2)=M*p.2*q.2+N*q.2*p.2:=by rw[qX];simp only[fP,O4]
   lia
theorem FD.times{E:Int}(hp:FD b M p)(hq:FD E N q):FD (b*E) (M*N) (lC p q):=by
 have hb:=S9 hp.pos hq.pos;obtain⟨a,l,_,d⟩:=kq (t:=p.1*q.1) hb;refine⟨a,l,rb d (Int.mul_dvd_mul hp.dvd hq.dvd),IV hb ?_⟩;have:((p.1*q.1).natAbs:Int)=(p.1.natAbs:Int)*(q.1.natAbs:Int):=by rw[gp];push_cast;rfl
 rw[this];have h0:0<=M*p.2:=by have:=hp.wH;lia
 calc (p.1.natAbs:Int)*(q.1.natAbs:Int)<=(M*p.2)*(N*q.2):=Gu hp.wH hq.wH (by simp_all) h0
  _=M*N*(p.2*q.2):=by simp only[fP,O4]
theorem a3f{c:Int}(hb:0<b)(hd:0<t):((M:Rat)/(b:Rat)<(c:Rat)/(t:Rat))↔M*t<c*b:=by
 have hb':(0:Rat)<(b:Rat):=by exact_mod_cast hb
 have hd':(0:Rat)<(t:Rat):=by exact_mod_cast hd
 have e1:(M:Rat)/(b:Rat)*((b:Rat)*(t:Rat))=(M:Rat)*(t:Rat):=by grind
 have e2:(c:Rat)/(t:Rat)*((b:Rat)*(t:Rat))=(c:Rat)*(b:Rat):=by grind
 constructor
 . intro h;have:=Rat.mul_lt_mul_of_pos_right h (Rat.mul_pos hb' hd');rw[e1,e2]at this
   exact_mod_cast this
 . intro h;have h':(M:Rat)*(t:Rat)<(c:Rat)*(b:Rat):=by exact_mod_cast h
   refine Rat.lt_of_mul_lt_mul_right (c:=(b:Rat)*(t:Rat)) ?_ (uZ (Rat.mul_pos hb' hd'));rw[e1,e2];exact h'
theorem LJ(hp:0<p.2)(hq:0<q.2):xX p q=decide (val p<val q):=by unfold xX val;rw[decide_eq_decide];exact(a3f hp hq).symm
noncomputable def q2(x:Rat):Q2:=(x.num,(x.den:Int))
def qd(x:Rat):l5:=fr (q2 x)
theorem T4(x:Rat):0<(q2 x).2:=by have:=x.den_pos;show(0:Int)<(x.den:Int);simp_all
theorem yr(x:Rat):B9 (q2 x).1 (q2 x).2=1:=x.reduced
theorem gX(x:Rat):val (q2 x)=x:=by
 show(x.num:Rat)/((x.den:Int):Rat)=x;rw[<-Rat.divInt_eq_div,Rat.num_divInt_den]
theorem ko(h:0<y):0<y.num:=by have:=(zz 0 y).mp h;simpa using this
theorem OW(i:Int)(h:i.natAbs<=m):Bt m i:=⟨L9 Nat.lt_two_pow_self (mj (by decide) h)⟩
theorem EW(h0:0<q.2)(h1:B9 q.1 q.2=1):eU (q.1.natAbs+q.2.natAbs) q:=⟨h0,h1,OW _ (by simp_all),OW _ (by simp_all)⟩
theorem tX(h0:0<q.2)(h1:B9 q.1 q.2=1):q=q2 (val q):=val_inj (EW h0 h1) (EW (T4 _) (yr _)) (gX _).symm
theorem AY(x y:Rat):pA (q2 x) (q2 y)=q2 (x+y):=by
 obtain⟨h0,h1,_,_⟩:=kq (t:=(q2 x).1*(q2 y).2+(q2 y).1*(q2 x).2) (S9 (T4 x) (T4 y));have:=tX (q:=pA (q2 x) (q2 y)) h0 h1
 rwa [Rb (T4 x) (T4 y),gX,gX]at this
theorem RN(x y:Rat):uk (q2 x) (q2 y)=q2 (x-y):=by
 obtain⟨h0,h1,_,_⟩:=kq (t:=(q2 x).1*(q2 y).2-(q2 y).1*(q2 x).2) (S9 (T4 x) (T4 y));have:=tX (q:=uk (q2 x) (q2 y)) h0 h1
 rwa [LI (T4 x) (T4 y),gX,gX]at this
theorem xp(x y:Rat):lC (q2 x) (q2 y)=q2 (x*y):=by
 obtain⟨h0,h1,_,_⟩:=kq (t:=(q2 x).1*(q2 y).1) (S9 (T4 x) (T4 y));have:=tX (q:=lC (q2 x) (q2 y)) h0 h1
 rwa [LH (T4 x) (T4 y),gX,gX]at this
theorem yq(x:Rat):(-(q2 x).1,(q2 x).2)=q2 (-x):=rfl
theorem N5(n:Int):af [.int n,.int 1]=qd (n:Rat):=rfl
theorem dM:af [.int 0,.int 1]=qd 0:=rfl
theorem cH(x:Rat):w5 (qd x) (.int 0)=U (.dat (.int x.num)):=rfl
theorem hJ(x:Rat):w5 (qd x) (.int 1)=U (.dat (.int x.den)):=rfl
structure RO(x:Rat):Prop where
 f:eU 3000 (q2 x)
structure eH(D:Int):Prop where
 pos:0<D
 bt:Bt 1000 D
structure Sz(D M:Int)(x:Rat):Prop where
 f:FD D M (q2 x)
theorem Sz.m0(h:Sz t M y):0<=M:=by
 have h1:=h.f.wH;have h2:=h.f.pos;rcases oM M 0 with c|c
 have:=QH c h2;lia;exact c
theorem Sz.ok(h:Sz t M y)(hD:eH t)(hM:M<=2^200):RO y:=by
 have h0:=h.m0;have b:Bt 201 M:=by
  have z:Bt 201 ((2:Int)^200):=⟨by decide⟩;exact z.of_le (by lia)
 exact⟨h.f.a5w hD.pos (hD.bt.mono (by decide)) ((b.mul hD.bt).mono (by decide))⟩
theorem Sz.mono(h:Sz t M y)(hd:t∣b)(hm:M<=N):Sz b N y:=⟨h.f.mono hd hm⟩
theorem Sz.add(hx:Sz t M u)(hy:Sz t N y):Sz t (M+N) (u+y):=⟨by rw[<-AY];exact hx.f.plus hy.f⟩
theorem Sz.neg(hx:Sz t M y):Sz t M (-y):=by
 refine⟨hx.f.pos,?_,hx.f.dvd,?_⟩
 . have:=hx.f.low;rw[<-yq];show B9 (-(q2 y).1) (q2 y).2=1;rw[Int.neg_gcd];exact this
 . have:=hx.f.wH;rw[<-yq];show((-(q2 y).1).natAbs:Int)<=_;rw[vh];exact this
theorem Sz.sub(hx:Sz t M u)(hy:Sz t N y):Sz t (M+N) (u-y):=by rw[PB];exact hx.add hy.neg
theorem Sz.mul(hx:Sz t M u)(hy:Sz b N y):Sz (t*b) (M*N) (u*y):=⟨by rw[<-xp];exact hx.f.times hy.f⟩
noncomputable def mn(x y:Rat):Rat:=if x<y then x else y
theorem Sz.mn(hx:Sz t M u)(hy:Sz t N y):Sz t (M+N) (Law.mn u y):=by
 have:=hx.m0;have:=hy.m0;unfold Law.mn;split;exact hx.mono (O3 _) (by lia);exact hy.mono (O3 _) (by lia)
theorem Sz.int{n:Int}(h:(n.natAbs:Int)<=M):Sz t M (n:Rat):=by
 refine⟨by show(0:Int)<1;decide,by show B9 n 1=1;simp,by show(1:Int)∣t;exact⟨t,by simp⟩,?_⟩;show(n.natAbs:Int)<=M*1
 simp_all
theorem Sz.zero{D:Int}(h:0<=M):Sz D M 0:=Sz.int (n:=0) (by simpa using h)
theorem dP(hx:RO u)(hy:RO y):ao [qd u,qd y]=U (.dat (qd (u+y))):=by
 show ao [fr (q2 u),fr (q2 y)]=_;rw[a4m hx.f hy.f (by decide),AY];rfl
theorem RO.neg(h:RO y):RO (-y):=⟨h.f.pos,by
  have:=h.f.low;rw[<-yq];show B9 (-(q2 y).1) (q2 y).2=1
  rw[Int.neg_gcd];exact this,by rw[<-yq];exact h.f.bt.neg,h.f.bb⟩
theorem V5(hx:RO u)(hy:RO y):P9 [qd u,qd y]=U (.dat (qd (u-y))):=by
 have h:=dP hx hy.neg;rw[<-PB]at h;unfold P9;walk_at "r";rw[cH,hJ];walk_at "r";rw[show(af [.int (-y.num),.int (y.den:Int)])=qd (-y)from rfl,h];rfl
theorem fG(hx:RO u)(hy:RO y):ay [qd u,qd y]=U (.dat (qd (u*y))):=by
 show ay [fr (q2 u),fr (q2 y)]=_;rw[a1a hx.f hy.f (by decide),xp];rfl
theorem BE(x y:Rat):xX (q2 x) (q2 y)=decide (x<y):=by rw[LJ (T4 x) (T4 y),gX,gX]
theorem vU(hx:RO u)(hy:RO y):gF [qd u,qd y]=U (.dat (.bool (decide (u<y)))):=by
 show gF [fr (q2 u),fr (q2 y)]=_;rw[a0T hx.f hy.f (by decide),BE]
theorem qp:RO 0:=⟨eU.mono (m:=2) ⟨by decide,by rfl,⟨by decide⟩,⟨by decide⟩⟩ (by decide)⟩
theorem iG(hx:RO u)(hy:RO y):df [qd u,qd y]=U (.dat (qd (mn u y))):=by unfold df mn;walk_at "r";rw[vU hx hy];walk_at "r";split<;>rfl
noncomputable def cq(x:Rat):Rat:=if x<0 then 0 else x
theorem MY(hx:RO y):fD [qd y]=U (.dat (qd (cq y))):=by unfold fD cq G4;rw[dM];walk_at "r";rw[vU hx qp];walk_at "r";split<;>rfl
theorem yI(h:0<y):q2 y⁻¹=((q2 y).2,(q2 y).1):=by
 have hn:0<y.num:=ko h;have hc:B9 (y.den:Int) y.num=1:=by rw[vc];exact y.reduced
 have:=tX (q:=((y.den:Int),y.num)) hn hc;have e:val ((y.den:Int),y.num)=y⁻¹:=by
  have h1:=gX y;have h2:val (q2 y)=(y.num:Rat)/((y.den:Int):Rat):=rfl;show((y.den:Int):Rat)/(y.num:Rat)=y⁻¹;rw[<-h1,h2];have r1:=bG (show y.num≠0 by exact X8);have r2:=bG (show(y.den:Int)≠0 by have:=y.den_pos;lia);grind
 rw[e]at this;exact this.symm
theorem Ec(h:0<y)(hx:RO y):RO y⁻¹:=by have hn:0<y.num:=ko h;refine⟨?_⟩;rw[yI h];exact⟨hn,by rw[vc];exact hx.f.low,hx.f.bb,hx.f.bt⟩
theorem MX(hx:RO u)(hy:RO y)(h:0<y):vG [qd u,qd y]=U (.dat (qd (u*y⁻¹))):=by
 have hn:0<y.num:=ko h;have hd:=y.den_pos;have ef:eX [.int (y.den:Int),.int y.num]=U (.dat (qd y⁻¹)):=by
  have b1:Bt 8000 y.num:=hy.f.bt.mono (by decide)
  have g:gc (y.den:Int) y.num=1:=by
   show((B9 (y.den:Int) y.num:Nat):Int)=1;rw[vc,show B9 y.num (y.den:Int)=1 from y.reduced];rfl
  unfold eX;walk_at "r";rw[A4 (by exact X8)];walk_at "r";rw[A4 (by simp_all),A4 (by lia),iR (by simp_all) (by exact ab A2),g];walk_at "r";rw[A4 (by lia)];walk_at "r";rw[O6 (by decide) Bt.lit,O6 (by decide) Bt.lit];walk_at "r";rw[zI,zI];show U (PV.dat (fr ((q2 y).2,(q2 y).1)))=_;rw[<-yI h];rfl
 unfold vG;walk_at "r";rw[cH];walk_at "r";rw[A4 (by exact X8)];walk_at "r";rw[cH,hJ];walk_at "r";rw[ef];walk_at "r";rw[fG hx (Ec h hy)];rfl
theorem CV{l:List l5}(h:dq Y=U l):ly Y=U l:=by
 cases Y with
 |str z=>exact nE h
 |_=>exact h
theorem iZ(hx:RO u)(hy:RO y):bp [qd u,qd y]=U (.dat (qd (u+y))):=by
 have c1:Bt 60000 u.num:=hx.f.bt.mono (by decide);have c2:Bt 60000 (u.den:Int):=hx.f.bb.mono (by decide);have c3:Bt 60000 y.num:=hy.f.bt.mono (by decide);have c4:Bt 60000 (y.den:Int):=hy.f.bb.mono (by decide);unfold bp;walk_at "r";simp only[cH,hJ];walk_at "r";simp only[J8,c1,c2,c3,c4];walk_at "r";rw[sD (t:=u.num*y.den+y.num*u.den) (b:=u.den*y.den) (S9 (T4 u) (T4 y)) ((hx.f.bb.mul hy.f.bb).mono (by decide))];show U (PV.dat (fr (pA (q2 u) (q2 y))))=_;rw[AY];rfl
theorem bU(hx:RO u)(hy:RO y):O5 [qd u,qd y]=U (.dat (qd (u-y))):=by
 have c1:Bt 60000 u.num:=hx.f.bt.mono (by decide);have c2:Bt 60000 (u.den:Int):=hx.f.bb.mono (by decide);have c3:Bt 60000 y.num:=hy.f.bt.mono (by decide);have c4:Bt 60000 (y.den:Int):=hy.f.bb.mono (by decide);unfold O5;walk_at "r";simp only[cH,hJ];walk_at "r";simp only[J8,c1,c2,c3,c4];walk_at "r";rw[sD (t:=u.num*y.den-y.num*u.den) (b:=u.den*y.den) (S9 (T4 u) (T4 y)) ((hx.f.bb.mul hy.f.bb).mono (by decide))];show U (PV.dat (fr (uk (q2 u) (q2 y))))=_;rw[RN];rfl
theorem pF(hx:RO u)(hy:RO y):cz [qd u,qd y]=U (.dat (qd (u*y))):=by
 have c1:Bt 60000 u.num:=hx.f.bt.mono (by decide);have c2:Bt 60000 (u.den:Int):=hx.f.bb.mono (by decide);have c3:Bt 60000 y.num:=hy.f.bt.mono (by decide);have c4:Bt 60000 (y.den:Int):=hy.f.bb.mono (by decide);unfold cz;walk_at "r";simp only[cH,hJ];walk_at "r";simp only[J8,c1,c2,c3,c4];walk_at "r";rw[sD (t:=u.num*y.num) (b:=u.den*y.den) (S9 (T4 u) (T4 y)) ((hx.f.bb.mul hy.f.bb).mono (by decide))];show U (PV.dat (fr (lC (q2 u) (q2 y))))=_;rw[xp];rfl
theorem a2E(hx:RO u)(hy:RO y):tj [qd u,qd y]=U (.dat (.bool (decide (u<y)))):=by
 have c1:Bt 60000 u.num:=hx.f.bt.mono (by decide);have c2:Bt 60000 (u.den:Int):=hx.f.bb.mono (by decide);have c3:Bt 60000 y.num:=hy.f.bt.mono (by decide);have c4:Bt 60000 (y.den:Int):=hy.f.bb.mono (by decide);unfold tj;walk_at "r";simp only[cH,hJ];walk_at "r";simp only[J8,c1,c2,c3,c4];walk_at "r";rw[<-BE];rfl
theorem ZH(x y:Rat):(if y<x then y else x)=mn x y:=by unfold mn;split<;>split<;>grind
theorem iv(hx:RO u)(hy:RO y):Z4 [qd u,qd y]=U (.dat (qd (mn u y))):=by unfold Z4;walk_at "r";rw[a2E hy hx];walk_at "r";rw[<-ZH];split<;>rfl
noncomputable def P1:List Rat->Rat->Rat
 | [],z=>z
 |x::l,z=>P1 l (z+x)
def shr:List Rat->Rat->List Rat
 | [],_=>[]
 |x::l,r=>mn x r::shr l (r-mn x r)
noncomputable def mK:List Rat->Rat->Prop
 | [],z=>RO z
 |x::l,z=>RO z/\RO x/\mK l (z+x)
def CO:List Rat->Rat->Prop
 | [],r=>RO r
 |x::l,r=>RO x/\RO r/\RO (mn x r)/\CO l (r-mn x r)
theorem ya:∀(l:List Rat) (z:Rat) (d y:Option PV),mK l z->∃y',J9 (D3 2) pX (l.map qd) [d,U (.dat (qd z)),y]=U (.next [d,U (.dat (qd (P1 l z))),y'])
 | [],z,d,y,_=>⟨y,rfl⟩
 |x::l,z,d,y,h=>by obtain⟨h1,h2,h3⟩:=h;obtain⟨y',e⟩:=ya l (z+x) d (U (.dat (qd x))) h3;refine⟨y',?_⟩;rw[D8];unfold J9 pX;walk_at "r";rw[dP h1 h2];walk_at "r";exact e
theorem xl{d:l5}(hd:dq d=U (l.map qd))(h:mK l 0):nr [d]=U (.dat (qd (P1 l 0))):=by obtain⟨y',e⟩:=ya l 0 (U (.dat d)) J h;unfold nr;unfold G4;rw[dM];walk_at "r";rw[CV hd];walk_at "r";rw[e];rfl
theorem Dx:∀(l:List Rat) (r:Rat) (L:List l5) (d e y z:Option PV),L.length+l.length<=1000->CO l r->∃r' y' z',J9 (D3 4) gI (l.map qd) [d,e,U (.own L),U (.dat (qd r)),y,z]=U (.next [d,e,U (.own (L++(shr l r).map qd)),r',y',z'])
 | [],r,L,d,e,y,z,_,_=>⟨_,y,z,by rw[fx];unfold J9 shr;rw[fx,bZ]⟩
 |x::l,r,L,d,e,y,z,hl,h=>by
  obtain⟨h1,h2,h3,h4⟩:=h;have hl':L.length+(l.length+1)<=1000:=hl;obtain⟨r',y',z',f⟩:=Dx l (r-mn x r) (L++[qd (mn x r)]) d e (U (.dat (qd x))) (U (.dat (qd (mn x r)))) (by simp;lia) h4;refine⟨r',y',z',?_⟩;rw[D8];unfold J9 gI;walk_at "r";rw[iG h1 h2];walk_at "r";rw[P8 _ (l:=L) rfl (by lia)];walk_at "r";rw[V5 h2 h3];walk_at "r";refine uT f ?_;rw[show shr (x::l) r=mn x r::shr l (r-mn x r)from rfl,D8,eT];rfl
theorem tT{d:l5}{r:Rat}(hd:dq d=U (l.map qd))(hl:l.length<=1000)(h:CO l r):Z1 [d,qd r]=U (.own ((shr l r).map qd)):=by
 obtain⟨r',y',z',e⟩:=Dx l r [] (U (.dat d)) (U (.dat (qd r))) J J (by simpa using hl) h;unfold Z1;walk_at "r";rw[CV hd];walk_at "r";rw[e];rfl
noncomputable def R1(x:Ts)(t:Int)(h:Hr)(lv:Rat):Bool:=match x with
 | .from_ n=>decide (n<=t)
 | .till n=>decide (t<=n)
 | .over n=>decide ((n:Rat)<lv)
 | .under n=>decide (lv<(n:Rat))
 | .dear n=>match h.line with|none=>U'|some (a,_,_,_)=>decide (n<=a)
 | .cheap n=>match h.line with|none=>U'|some (a,_,_,_)=>decide (a<=n)
 | .dark=>match h.line with|none=>Uf|some _=>U'
 | .sunny=>decide (h.need<=h.Q6)
noncomputable def BG:Ts->Int
 | .from_ n=>n
 | .till n=>n
 | .over n=>n
 | .under n=>n
 | .dear n=>n
 | .cheap n=>n
 |_=>0
structure UT(x:Ts):Prop where
 b:(BG x).natAbs<=1000000
theorem uf{n:Int}(h:n.natAbs<=1000000000):RO (n:Rat):=⟨Th (n:=n) (Bt.mono (m:=62) ⟨by exact dH A2 A9⟩ (by decide)) (by decide)⟩
theorem Bn(f:Fi):(gb f=p5 "none")=(f=.non):=by cases f<;>simp[gb,F6]
theorem a2X(f:Fi):(gb f=p5 "sun")=(f=.Q6):=by cases f<;>simp[gb,F6]
theorem a0i(f:Fi):(gb f=p5 "line")=(f=.line):=by cases f<;>simp[gb,F6]
theorem Ig(f:Ta):(gY f=p5 "none")=(f=.non):=by cases f<;>simp[gY,F6]
theorem Ih(f:Ta):(gY f=p5 "give")=(f=.give):=by cases f<;>simp[gY,F6]
theorem HY(f:Bool):(iW f=p5 "wait")=(f=Uf):=by cases f<;>simp[iW,F6]
theorem yM(hx:Y=.tuple [.str w,.int M])(hb:(if w = "dear" then(match d.line with|none=>U'|some (a,_,_,_)=>decide (M<=a))else(match d.line with|none=>U'|some (a,_,_,_)=>decide (a<=M)))=X):
  jJ [Y,U1 d.line]=U (.dat (.bool X)):=by
 subst hx hb;unfold jJ;cases d.line with
 |none=>
  unfold U1;walk_at "r";split<;>rfl
 |some l=>
  obtain⟨a,c,x,e⟩:=l;unfold U1;walk_at "r";split;walk_at "r";walk_at "r"
theorem Uc{x:Ts}(hx:UT x)(hl:RO y):dZ [L7 x,.int t,C1 d,qd y]=U (.dat (.bool (R1 x t d y))):=by
 have b:=hx.b;have ih2:=ku d;have ih0:=nX d;have ih1:=nW d;cases x with
 |from_ n=>
  unfold dZ L7 R1;walk_at "r";repeat (simp only[F6,String.reduceEq];walk_at "r")
 |till n=>
  unfold dZ L7 R1;walk_at "r";repeat (simp only[F6,String.reduceEq];walk_at "r")
 |over n=>
  unfold dZ L7 R1;walk_at "r";repeat (simp only[F6,String.reduceEq];walk_at "r")
  rw[N5,vU (uf (by have:(BG (.over n))=n:=rfl;exact C3 A2 A9)) hl];rfl
 |under n=>
  unfold dZ L7 R1;walk_at "r";repeat (simp only[F6,String.reduceEq];walk_at "r")
  rw[N5,vU hl (uf (by have:(BG (.under n))=n:=rfl;exact C3 A2 A9))];rfl
 |dear n=>
  unfold dZ L7 R1;walk_at "r";repeat (simp only[F6,String.reduceEq];walk_at "r")
  rw[ih2];walk_at "r";rw[yM rfl (A3 rfl)];rfl
 |cheap n=>
  unfold dZ L7 R1;walk_at "r";repeat (simp only[F6,String.reduceEq];walk_at "r")
  rw[ih2];walk_at "r";rw[yM rfl (A4 (by simp only[F6,String.reduceEq,not_false_eq_true]))];rfl
 |dark=>
  unfold dZ L7 R1;walk_at "r";rw[ih2];cases d.line<;>rfl
 |sunny=>
  unfold dZ L7 R1;walk_at "r";repeat (simp only[F6,String.reduceEq];walk_at "r")
  rw[ih0,ih1];walk_at "r"
theorem sM(a b:Bool):D9 (.bool a) (.bool b)=U (.dat (.bool (a==b))):=by cases a<;>cases b<;>rfl
theorem Te:(y.num>M*y.den)=((M:Rat)<y):=by
 refine propext ?_;have:=zz (M:Rat) y;rw[this];show _↔M*(y.den:Int)<y.num*(1:Int)
 simp_all
theorem LK:(y.num<M*y.den)=(y<(M:Rat)):=by
 refine propext ?_;have:=zz y (M:Rat);rw[this];show _↔y.num*(1:Int)<M*(y.den:Int)
 simp_all
theorem NM{x:Ts}(hx:UT x)(hl:RO y):aQ [C1 d,.int t,qd y,L7 x]=U (.dat (.bool (R1 x t d y))):=by
 have b:=hx.b;have ih2:=ku d;have ih0:=nX d;have ih1:=nW d;have c1:Bt 60000 (y.den:Int):=hl.f.bb.mono (by decide)
 cases x with
 |from_ n=>
  unfold aQ L7 R1;walk_at "r";rw[sM];by_cases c:t=n;rw[A3 c,S6 (show n<=t by simp_all)];rfl
  . rw[A4 c];by_cases h:n<t;rw[S6 h,S6 (show n<=t by exact ab A2)];rfl;rw[L5 h,L5 (show ¬n<=t by lia)];rfl
 |till n=>
  unfold aQ L7 R1;walk_at "r";repeat (simp only[F6,String.reduceEq];walk_at "r")
  rw[sM];by_cases c:t=n;rw[A3 c,S6 (show t<=n by simp_all)];rfl
  . rw[A4 c];by_cases h:n<t;rw[S6 h,L5 (show ¬t<=n by simp_all)];rfl;rw[L5 h,S6 (show t<=n by simp_all)];rfl
 |over n=>
  unfold aQ L7 R1;walk_at "r";repeat (simp only[F6,String.reduceEq];walk_at "r")
  rw[cH,hJ];walk_at "r";rw[J8 (Bt.ej (by have:(BG (.over n))=n:=rfl;omega) (by have:(BG (.over n))=n:=rfl;omega)) c1];walk_at "r";exact H0 (λb=>U (PV.dat (uY b))) (decide_eq_decide.mpr (Iff.of_eq Te))
 |under n=>
  unfold aQ L7 R1;walk_at "r";repeat (simp only[F6,String.reduceEq];walk_at "r")
  rw[cH,hJ];walk_at "r";rw[J8 (Bt.ej (by have:(BG (.under n))=n:=rfl;omega) (by have:(BG (.under n))=n:=rfl;omega)) c1];walk_at "r";exact H0 (λb=>U (PV.dat (uY b))) (decide_eq_decide.mpr (Iff.of_eq LK))
 |dear n=>
  obtain⟨hs,hn,ln⟩:=d;unfold aQ L7 R1;walk_at "r";repeat (simp only[F6,String.reduceEq];walk_at "r")
  rw[ih2];cases ln with
  |none=>
   unfold U1;walk_at "r";repeat (simp only[F6,String.reduceEq];walk_at "r")
   rfl
  |some l=>
   obtain⟨a,c,h,e⟩:=l;unfold U1 at ih2⊢;walk_at "r";repeat (simp only[F6,String.reduceEq];walk_at "r")
   rw[ih2];walk_at "r";rw[sM];by_cases c:a=n;rw[A3 c,S6 (show n<=a by simp_all)];rfl
   . rw[A4 c];by_cases h:n<a;rw[S6 h,S6 (show n<=a by exact ab A2)];rfl;rw[L5 h,L5 (show ¬n<=a by lia)];rfl
 |cheap n=>
  obtain⟨hs,hn,ln⟩:=d;unfold aQ L7 R1;walk_at "r";repeat (simp only[F6,String.reduceEq];walk_at "r")
  rw[ih2];cases ln with
  |none=>
   unfold U1;walk_at "r";repeat (simp only[F6,String.reduceEq];walk_at "r")
   rfl
  |some l=>
   obtain⟨a,c,h,e⟩:=l;unfold U1 at ih2⊢;walk_at "r";repeat (simp only[F6,String.reduceEq];walk_at "r")
   rw[ih2];walk_at "r";rw[sM];by_cases c:a=n;rw[A3 c,S6 (show a<=n by simp_all)];rfl
   . rw[A4 c];by_cases h:n<a;rw[S6 h,L5 (show ¬a<=n by simp_all)];rfl;rw[L5 h,S6 (show a<=n by simp_all)];rfl
 |dark=>
  obtain⟨hs,hn,ln⟩:=d;unfold aQ L7 R1;walk_at "r";repeat (simp only[F6,String.reduceEq];walk_at "r")
  rw[ih2];cases ln with
  |none=>unfold U1;walk_at "r"
  |some l=>
   obtain⟨a,c,h,e⟩:=l;unfold U1;walk_at "r"
 |sunny=>
  unfold aQ L7 R1;walk_at "r";repeat (simp only[F6,String.reduceEq];walk_at "r")
  rw[ih0,ih1];walk_at "r"
def yo(k:List Rl)(t:Int)(h:Hr)(lv:Rat):Rl:=(k.find? λr=>r.ts.all λx=>R1 x t h lv).getD plain
theorem qb{Fe:Ds->Option PV}{ds:Ds}{f:Ts->Bool}:∀(l:List Ts),(∀x∈l,Fe (U (.dat (L7 x))::ds)=U (.dat (.bool (f x))))->O2 F7 F4 Fe ds (l.map L7)=U ((l.map f).map .bool)
 | [],_=>rfl
 |x::l,h=>by
  have h1:=h x (by simp);have h2:=qb l λy hy=>h y (by simp[hy]);rw[D8];unfold O2 F7 F4;show(((Fe (U (.dat (L7 x))::ds)).bind λy=>(O2 F7 F4 Fe ds (l.map L7)).bind λl=>U (y.d::l)))=_;rw[h1,h2];rfl
theorem all_eq{l:List Ts}{f:Ts->Bool}:sT [.list ((l.map f).map .bool)]=U (.dat (.bool (l.all f))):=by
 show((boolsOf ((l.map f).map .bool)).bind λbs=>U (PV.dat (uY (bs.all id))))=_;rw[qe];simp[Gh,rp]
structure UU(r:Rl):Prop where
 ts:∀x∈r.ts,UT x
 tl:r.ts.length<=6
theorem sJ{G:Ds->Option Out}{p:Rl->Bool}{a b c e:Option PV}:∀(k:List Rl),(∀r∈k,G [a,b,c,e,U (.dat (C5 r))]=if p r then U (.ret (.dat (C5 r)))else U (.next [a,b,c,e,U (.dat (C5 r))]))->∀y,
  (∃y',J9 (D3 4) G (k.map C5) [a,b,c,e,y]=U (.next [a,b,c,e,y'])/\k.find? p=J)\/(∃r,J9 (D3 4) G (k.map C5) [a,b,c,e,y]=U (.ret (.dat (C5 r)))/\k.find? p=U r)
 | [],_,y=>.inl ⟨y,rfl,rfl⟩
 |r::k,h,y=>by
  have ih:=sJ k (λx hx=>h x (by simp[hx])) (U (.dat (C5 r)));have st:=h r (by simp)
  have e1:J9 (D3 4) G ((r::k).map C5) [a,b,c,e,y]=(G [a,b,c,e,U (.dat (C5 r))]).bind λo=>match o with
   | .next ds2=>J9 (D3 4) G (k.map C5) ds2
   | .cont ds2=>J9 (D3 4) G (k.map C5) ds2
   | .brk ds2=>U (.next ds2)
   | .ret pv=>U (.ret pv)
   | .up x=>U (.up x)
   | .retO pv ds2=>U (.retO pv ds2)
   | .upO t x ds2=>U (.upO t x ds2):=rfl
  rw[e1,st,rj];cases p r with
  |true=>exact .inr ⟨r,rfl,rfl⟩
  |false=>exact ih
theorem YC{k:List Rl}{h:Hr}(hl:RO y)(hk:∀r∈k,UU r):jB [.tuple (k.map C5),.int t,C1 h,qd y]=U (.dat (C5 (yo k t h y))):=by
 have st:∀r∈k,jQ [U (.dat (.tuple (k.map C5))),iD t,U (.dat (C1 h)),U (.dat (qd y)),U (.dat (C5 r))]=if r.ts.all (λx=>R1 x t h y)then U (.ret (.dat (C5 r)))else U (.next [U (.dat (.tuple (k.map C5))),iD t,U (.dat (C1 h)),U (.dat (qd y)),U (.dat (C5 r))]):=λr hr=>by
  have hr:=hk r hr;have cp:=qb (Fe:=jM) (ds:=[U (.dat (.tuple (k.map C5))),iD t,U (.dat (C1 h)),U (.dat (qd y)),U (.dat (C5 r))]) (f:=λx=>R1 x t h y) r.ts (λx hx=>by unfold jM;walk_at "r";rw[Uc (hr.ts x hx) hl]);have tl:=hr.tl;unfold jQ;walk_at "r";rw[show w5 (C5 r) (.int 0)=U (.dat (.tuple (r.ts.map L7)))from rfl];walk_at "r";rw[A3 (by rw[C8];exact C3 A2 A9),cp];walk_at "r";rw[all_eq];walk_at "r"
 unfold jB yo;walk_at "r";rcases sJ (p:=λr=>r.ts.all λx=>R1 x t h y) k st J with ⟨a,e1,e2⟩|⟨r,e1,e2⟩
 rw[e1,e2];rfl;rw[e1,e2];rfl
theorem Tx{k:List Rl}{h:Hr}(hl:RO y)(hk:∀r∈k,UU r):pf [.tuple (k.map C5),C1 h,.int t,qd y]=U (.dat (C5 (yo k t h y))):=by
 have st:∀r∈k,mX [U (.dat (.tuple (k.map C5))),U (.dat (C1 h)),iD t,U (.dat (qd y)),U (.dat (C5 r))]=if r.ts.all (λx=>R1 x t h y)then U (.ret (.dat (C5 r)))else U (.next [U (.dat (.tuple (k.map C5))),U (.dat (C1 h)),iD t,U (.dat (qd y)),U (.dat (C5 r))]):=λr hr=>by
  have hr:=hk r hr;have cp:=qb (Fe:=mS) (ds:=[U (.dat (.tuple (k.map C5))),U (.dat (C1 h)),iD t,U (.dat (qd y)),U (.dat (C5 r))]) (f:=λx=>R1 x t h y) r.ts (λx hx=>by unfold mS;walk_at "r";rw[NM (hr.ts x hx) hl]);have tl:=hr.tl;unfold mX;walk_at "r";rw[show w5 (C5 r) (.int 0)=U (.dat (.tuple (r.ts.map L7)))from rfl];walk_at "r";rw[A3 (by rw[C8];exact C3 A2 A9),cp];walk_at "r";rw[all_eq];walk_at "r"
 unfold pf yo;walk_at "r";rcases sJ (p:=λr=>r.ts.all λx=>R1 x t h y) k st J with ⟨a,e1,e2⟩|⟨r,e1,e2⟩
 rw[e1,e2];rfl;rw[e1,e2];rfl
noncomputable abbrev tM(i:Int):Prop:=0<=i/\i<=1000000
noncomputable abbrev wY(i:Int):Prop:=-1000000<=i/\i<=1000000
structure pe(h:Hr):Prop where
 Q6:tM h.Q6
 need:tM h.need
 line:∀a b c d,h.line=U (a,b,c,d)->wY a/\tM b/\wY c/\tM d
structure Bz(n:Int)(w:Wk):Prop where
 F3:tM w.F3
 first:0<=w.first
 fl:w.first<=w.last
 last:w.last<n
 most:tM w.most
structure Hs where
 hs:List Hr
 size:Int
 start:Int
 fill:Int
 take:Int
 kept:Rat
 left:Rat
 rest:Int
 ws:List Wk
variable{a:Hs}
def cE(h:Hs):l5:=.tuple [.int h.size,.int h.start,.int h.fill,.int h.take,qd h.kept,qd h.left,.int h.rest]
def ck(h:Hs):l5:=.tuple [.tuple (h.hs.map C1),cE h,.tuple (h.ws.map G7)]
theorem nV(h:Hs):w5 (ck h) (.int 0)=U (.dat (.tuple (h.hs.map C1))):=rfl
theorem lI(h:Hs):w5 (ck h) (.int 1)=U (.dat (cE h)):=rfl
theorem qy(h:Hs):w5 (ck h) (.int 2)=U (.dat (.tuple (h.ws.map G7))):=rfl
theorem Oe(h:Hs):w5 (cE h) (.int 0)=U (.dat (.int h.size)):=rfl
theorem uv(h:Hs):w5 (cE h) (.int 1)=U (.dat (.int h.start)):=rfl
theorem Od(h:Hs):w5 (cE h) (.int 2)=U (.dat (.int h.fill)):=rfl
theorem Ob(h:Hs):w5 (cE h) (.int 3)=U (.dat (.int h.take)):=rfl
theorem qx(h:Hs):w5 (cE h) (.int 4)=U (.dat (qd h.kept)):=rfl
theorem yG(h:Hs):w5 (cE h) (.int 5)=U (.dat (qd h.left)):=rfl
theorem EE(r:Rl):w5 (C5 r) (.int 1)=U (.dat (.str (gb r.fi))):=rfl
theorem Og(r:Rl):w5 (C5 r) (.int 2)=U (.dat (.str (gY r.ta))):=rfl
theorem Of(r:Rl):w5 (C5 r) (.int 3)=U (.dat (.str (iW r.wo))):=rfl
structure kG(x:Rat):Prop where
 pos:0<x
 one:x<=1
 den:x.den<=12
structure R4(h:Hs):Prop where
 hs:∀x∈h.hs,pe x
 h1:1<=h.hs.length
 hl:h.hs.length<=24
 size:tM h.size
 start:tM h.start
 full:h.start<=h.size
 fill:tM h.fill
 take:tM h.take
 kept:kG h.kept
 left:kG h.left
 ws:∀w∈h.ws,Bz h.hs.length w
 wl:h.ws.length<=6
theorem kG.le(h:kG y):y.num<=y.den:=by have:=(zx y 1).mp h.one;simpa using this
theorem kG.sz(h:kG y):Sz y.den 1 y:=by have h1:=ko h.pos;have h2:=h.le;exact⟨T4 y,yr y,O3 _,by show(y.num.natAbs:Int)<=1*(y.den:Int);lia⟩
theorem kG.Vr(h:kG y):Sz y.num 12 y⁻¹:=by
 have h1:=ko h.pos;have h2:=h.den;refine⟨?_⟩;rw[yI h.pos];refine⟨h1,by rw[vc];exact yr y,O3 _,?_⟩;show((y.den:Int).natAbs:Int)<=12*y.num;lia
theorem kG.ok(h:kG y):RO y:=by have h1:=ko h.pos;have h2:=h.le;have h3:=h.den;exact⟨eU.mono (m:=4) ⟨T4 y,yr y,⟨by show y.num.natAbs<16;lia⟩,⟨by show((y.den:Int)).natAbs<16;exact dH A2 A9⟩⟩ (by decide)⟩
theorem a2Y(a b c d:Int):cM (.tuple [.int a,.int b]) (.tuple [.int c,.int d])=(decide (a=c)&&decide (b=d)):=by simp only[cM,jy,zP];rfl
theorem a4v(x:Rat):X5 (qd x) (qd 0)=U (.dat (.bool (!decide (x=0)))):=by
 have s:∀y:Rat,Sh 1 (qd y):=λy=>a1q (k:=0) λz hz=>by simp at hz;rcases hz with rfl|rfl<;>exact a1r _
 rw[Nu (s x) (s 0)]
 congr 4
 show cM (.tuple [.int x.num,.int (x.den:Int)]) (.tuple [.int 0,.int 1])=_;rw[a2Y];by_cases c:x=0;subst c;rfl
 . have:x.num≠0:=λe=>c (Rat.num_eq_zero.mp e);simp[c,this]
def dn(w:Wk)(t:Int)(u:Rat)(wait:Bool):Rat:=if t<w.first\/w.last<t then 0 else mn (if wait then cq (u-((w.most*(w.last-t):Int):Rat))else u) (w.most:Rat)
theorem Sz.cq(hx:Sz t M y):Sz t M (Law.cq y):=by
 unfold Law.cq;split;exact Sz.zero hx.m0;exact hx
theorem Be(hw:Bz M S)(hn:M<=24)(h1:0<=t)(h2:t<=S.last):((S.most*(S.last-t)).natAbs:Int)<=100000000:=by
 have h3:=hw.most;have h4:=hw.last;have h5:S.most*(S.last-t)<=1000000*24:=Gu h3.2 (by lia) (by simp_all) (by decide);have h6:=vg h3.1 (show 0<=S.last-t by simp_all);lia
theorem Yh(hw:Bz M S)(hn:M<=24)(ht:0<=t)(hD:eH b)(hu:Sz b 2000000 u):pN [G7 S,.int t,qd u,.str (iW X)]=U (.dat (qd (dn S t u X))):=by
 have i2:=ED S;have i3:=EC S;have i4:=EB S;have hm:=hw.most;have om:RO ((S.most:Int):Rat):=uf (by lia);have ou:=hu.ok hD (by decide);unfold pN dn;unfold G4;rw[dM];walk_at "r";rw[i2];walk_at "r";by_cases c:t<S.first;rw[A3 c,A3 (.inl c)];rfl;rw[A4 c,i3];walk_at "r";by_cases d:S.last<t;rw[A3 d,A3 (Or.inr d)];rfl;rw[A4 d,A4 (by simp[*])];walk_at "r";simp only[HY];have lb:=Be hw hn ht (by simp_all)
 cases X with
 |true=>
  walk_at "r";rw[i4,i3];walk_at "r";rw[J8 (Bt.ej (by omega) (by lia)) (Bt.ej (by have:=hw.last;omega) (by have:=hw.last;lia))];walk_at "r";have ol:Sz b 100000000 (((S.most*(S.last-t)):Int):Rat):=Sz.int lb;rw[N5,V5 ou (ol.ok hD (by decide))];walk_at "r";rw[MY ((hu.sub ol).ok hD (by decide))];walk_at "r";rw[i4];walk_at "r";rw[N5,iG ((hu.sub ol).cq.ok hD (by decide)) om];rfl
 |false=>
  walk_at "r";rw[i4];walk_at "r";rw[N5,iG ou om];rfl
theorem V6(x y:Rat):mn x y<=x:=by unfold mn;split<;>grind
theorem ar(x y:Rat):mn x y<=y:=by unfold mn;split<;>grind
theorem qr{x:Rat}(h:x<=y):mn x y=x:=by unfold mn;split<;>grind
theorem ng(h:y<=u):mn u y=y:=by unfold mn;split<;>grind
theorem bC{z:Rat}(h1:z<=u)(h2:z<=y):z<=mn u y:=by unfold mn;split<;>simp_all
theorem ak(h:0<=M):(0:Rat)<=(M:Rat):=by exact_mod_cast h
theorem wG:(y.num<0)=(y<0):=by
 refine propext ?_;have:=zz y 0;rw[this];show _↔y.num*(1:Int)<0*(y.den:Int)
 simp_all
theorem Tu{wo:Bool}(hw:Bz M S)(hn:M<=24)(ht:0<=t)(hD:eH b)(hu:Sz b 2000000 u)(u0:0<=u):sX [G7 S,.int t,qd u,.str (iW wo)]=U (.dat (qd (dn S t u wo))):=by
 have i2:=ED S;have i3:=EC S;have i4:=EB S;have hm:=hw.most;have om:RO ((S.most:Int):Rat):=uf (by lia);have m0:(0:Rat)<=((S.most:Int):Rat):=ak hm.1;have ou:=hu.ok hD (by decide);unfold sX dn;walk_at "r";rw[i2];walk_at "r";by_cases c:t<S.first;rw[A3 c,A3 (.inl c)];rfl;rw[A4 c,i3];walk_at "r";by_cases d:S.last<t;rw[A3 d,A3 (Or.inr d)];rfl;rw[A4 d,A4 (by simp[*])];walk_at "r";simp only[HY];have lb:=Be hw hn ht (by simp_all)
 cases wo with
 |true=>
  walk_at "r";rw[i4,i3];walk_at "r";rw[J8 (Bt.ej (by omega) (by lia)) (Bt.ej (by have:=hw.last;omega) (by have:=hw.last;lia))];walk_at "r";have ol:Sz b 100000000 (((S.most*(S.last-t)):Int):Rat):=Sz.int lb;rw[N5,bU ou (ol.ok hD (by decide))];have oz:=(hu.sub ol).ok hD (by decide);generalize u-(((S.most*(S.last-t)):Int):Rat)=z at *;walk_at "r";rw[cH];walk_at "r";simp only[wG];unfold cq;by_cases e:z<0;rw[A3 e,A3 e,qr m0];rfl;rw[A4 e,A4 e];walk_at "r";rw[i4];walk_at "r";rw[N5,iv oz om];rfl
 |false=>
  walk_at "r";rw[cH];walk_at "r";simp only[wG];rw[A4 (by grind)];walk_at "r";rw[i4];walk_at "r";rw[N5,iv ou om];rfl
def Q8(H:Hs)(lv:Rat)(ta:Ta):Rat:=if ta=.non then 0 else H.left*mn (H.take:Rat) lv
theorem a2g{ta:Ta}(hH:R4 a)(hD:eH M)(hl:Sz M 2000000 y):mP [cE a,qd y,.str (gY ta)]=U (.dat (qd (Q8 a y ta))):=by
 have i3:=Ob a;have i5:=yG a;have ht:=hH.take;have ot:Sz M 1000000 ((a.take:Int):Rat):=Sz.int (by lia);unfold mP Q8;unfold G4;rw[dM];walk_at "r";simp only[Ig];by_cases c:ta=.non;rw[A3 c,A3 c];rfl
 . rw[A4 c,A4 c];walk_at "r";rw[i5,i3];walk_at "r";rw[N5,iG (ot.ok hD (by decide)) (hl.ok hD (by decide))];walk_at "r";rw[fG hH.left.ok ((ot.mn hl).ok hD (by decide))];rfl
def roomQ(H:Hs)(lv:Rat):Rat:=mn (H.fill:Rat) (cq ((H.size:Rat)-lv)*H.kept⁻¹)
def yU(H:Hs)(lv:Rat)(fi:Fi)(tk:Rat):Rat:=if fi=.non\/tk≠0 then 0 else roomQ H lv
theorem a4C{tk:Rat}{fi:Fi}(hH:R4 a)(hD:eH (M*a.kept.num))(hD':eH M)(hl:Sz M 2000000 y):kY [cE a,qd y,.str (gb fi),qd tk]=U (.dat (qd (yU a y fi tk))):=by
 have i0:=Oe a;have i2:=Od a;have i4:=qx a;have hs:=hH.size;have hf:=hH.fill;have os:Sz M 1000000 ((a.size:Int):Rat):=Sz.int (by lia);have of:Sz (M*a.kept.num) 1000000 ((a.fill:Int):Rat):=Sz.int (by lia);have ok:=hH.kept;have s1:=(os.sub hl).cq;have s2:=s1.mul ok.Vr;unfold kY yU roomQ;unfold G4;rw[dM];walk_at "r";simp only[Bn];by_cases c:fi=.non;rw[A3 c,A3 (.inl c)];rfl
 . rw[A4 c];rw[a4v];walk_at "r";by_cases d:tk=0
   . rw[A4 (by simp[d]),A4 (by simp[c,d])];walk_at "r";rw[i0];walk_at "r";rw[N5,V5 (os.ok hD' (by decide)) (hl.ok hD' (by decide))];walk_at "r";rw[MY ((os.sub hl).ok hD' (by decide))];walk_at "r";rw[i2,i4];walk_at "r";rw[MX (s1.ok hD' (by decide)) ok.ok ok.pos];walk_at "r";rw[N5,iG (of.ok hD (by decide)) (s2.ok hD (by decide))];rfl
   rw[A3 (by simp[d]),A3 (.inr d)];rfl
theorem nH{D X:Int}(hD:eH D):∀(l:List Rat) (Z:Int) (z:Rat),(∀x∈l,Sz D X x)->Sz D Z z->0<=X->Z+l.length*X<=2^190->mK l z/\Sz D (Z+l.length*X) (P1 l z)
 | [],Z,z,_,hz,_,hb=>⟨hz.ok hD (by simp at hb;exact H9 A2 A9),by
  have e:Z+(([]:List Rat).length:Int)*X=Z:=by simp
  rw[e];exact hz⟩
 |x::l,Z,z,hl,hz,hX,hb=>by
  have hx:=hl x (by simp)
  have e:Z+((x::l).length:Int)*X=Z+X+l.length*X:=by rw[J4];push_cast;rw[qX];lia
  rw[e]at hb⊢;have nn:0<=(l.length:Int)*X:=vg (by simp_all) hX;obtain⟨h1,h2⟩:=nH hD l (Z+X) (z+x) (λy hy=>hl y (by simp[hy])) (hz.add hx) hX hb;have z0:=hz.m0;exact⟨⟨hz.ok hD (by lia),hx.ok hD (by lia),h1⟩,h2⟩
theorem Dw{D X:Int}(hD:eH D):∀(l:List Rat) (R:Int) (r:Rat),(∀x∈l,Sz D X x)->Sz D R r->0<=X->2^l.length*(R+X)<=2^190->CO l r/\∀y∈shr l r,Sz D (2^l.length*(R+X)) y
 | [],R,r,_,hr,hX,hb=>⟨hr.ok hD (by simp at hb;lia),by intro y hy;cases hy⟩
 |x::l,R,r,hl,hr,hX,hb=>by
  have hx:=hl x (by simp)
  have r0:=hr.m0;have e:(2:Int)^(x::l).length*(R+X)=2^l.length*(R+(X+R)+X):=by
   rw[J4,Int.pow_succ,gm]
   congr 1
   lia
  rw[e]at hb⊢;have p1:(1:Int)<=2^l.length:=Int.le_of_lt_add_one (by have:=Int.pow_pos (n:=2) (m:=l.length) (by decide);lia)
  have p2:R+(X+R)+X<=2^l.length*(R+(X+R)+X):=by
   have:=mN p1 (show 0<=R+(X+R)+X by lia)
   simp_all
  have hm:Sz D (X+R) (mn x r):=hx.mn hr;obtain⟨h1,h2⟩:=Dw hD l (R+(X+R)) (r-mn x r) (λy hy=>hl y (by simp[hy])) (hr.sub hm) hX hb;refine⟨⟨hx.ok hD (by lia),hr.ok hD (by lia),hm.ok hD (by lia),h1⟩,?_⟩
  intro y hy;rcases List.mem_cons.mp hy with rfl|hy
  exact hm.mono (O3 _) (by lia);exact h2 y hy
theorem jZ:∀(l:List Rat) (z:Rat),P1 l z=z+P1 l 0
 | [],z=>by show z=z+0;grind
 |x::l,z=>by
  show P1 l (z+x)=z+P1 l (0+x);rw[jZ l (z+x),jZ l (0+x)];grind
theorem Dy:∀(l:List Rat) (r:Rat),0<=r->(∀x∈l,0<=x)->P1 (shr l r) 0<=r/\0<=P1 (shr l r) 0/\∀y∈shr l r,0<=y
 | [],r,h,_=>⟨h,by show(0:Rat)<=0;rfl,by intro y hy;cases hy⟩
 |x::l,r,h,hl=>by
  have hx:=hl x (by simp);have m1:=ar x r;have m2:=bC hx h;obtain⟨h1,h2,h3⟩:=Dy l (r-mn x r) (by grind) (λy hy=>hl y (by simp[hy]))
  have e:P1 (shr (x::l) r) 0=mn x r+P1 (shr l (r-mn x r)) 0:=by
   show P1 (shr l (r-mn x r)) (0+mn x r)=_;rw[jZ];rw[Rat.zero_add]
  rw[e];refine⟨by grind,by grind,?_⟩
  intro y hy;rcases List.mem_cons.mp hy with rfl|hy
  exact m2;exact h3 y hy
theorem gx:∀(l:List Rat) (r:Rat),(shr l r).length=l.length
 | [],_=>rfl
 |x::l,r=>by show(shr l (r-mn x r)).length+1=l.length+1;rw[gx l]
noncomputable def aX(h:Hr):Int×Int×Int×Int:=h.line.getD (0,0,0,0)
noncomputable def mG(x:Int×Int×Int×Int):l5:=.tuple [.int x.1,.int x.2.1,.int x.2.2.1,.int x.2.2.2]
noncomputable def aK(h:Hr):Rat:=(h.Q6:Rat)
noncomputable def D4(h:Hr):Rat:=(h.need:Rat)
def ax(h:Hr):Rat:=((aX h).2.1:Rat)
def ja(h:Hr):Rat:=((aX h).2.2.2:Rat)
structure Dq where
 V8:Rat
 give:Rat
 fill:Rat
 take:Rat
 X6:Rat
 done:List Rat
variable{Z:Dq}
def U9(d:Dq):l5:=.tuple [qd d.V8,qd d.give,qd d.fill,qd d.take,qd d.X6,.tuple (d.done.map qd)]
section
variable(H:Hs)(h:Hr)(lv:Rat)(r:Rl)(ws:List Rat)
def B8:Rat:=0+aK h+ax h+Q8 H lv r.ta
def bI:List Rat:=shr (D4 h::ws) (B8 H h lv r)
def ff:Rat:=P1 (bI H h lv r ws) 0
def dJ:Rat:=mn (aK h) (ff H h lv r ws)
def cb:Rat:=mn (Q8 H lv r.ta) (ff H h lv r ws-dJ H h lv r ws)
def iK:Rat:=mn (ax h) (ff H h lv r ws-dJ H h lv r ws-cb H h lv r ws)
def dk:Rat:=if r.ta=.give then mn (Q8 H lv r.ta-cb H h lv r ws) (ja h)else 0
def fK:Rat:=(cb H h lv r ws+dk H h lv r ws)*H.left⁻¹
def gK:Rat:=aK h-dJ H h lv r ws
def oC:Rat:=if r.fi=.line then ax h-iK H h lv r ws else 0
def fk:Rat:=yU H lv r.fi (fK H h lv r ws)
def X9:Rat:=mn (gK H h lv r ws) (fk H h lv r ws)
def aZ:Rat:=mn (oC H h lv r ws) (fk H h lv r ws-X9 H h lv r ws)
def nL:Rat:=mn (gK H h lv r ws-X9 H h lv r ws) (ja h-dk H h lv r ws)
def P2:Dq:=⟨iK H h lv r ws+aZ H h lv r ws,dk H h lv r ws+nL H h lv r ws,0+X9 H h lv r ws+aZ H h lv r ws,fK H h lv r ws,D4 h-mn (D4 h) (B8 H h lv r),shr ws (B8 H h lv r-mn (D4 h) (B8 H h lv r))⟩
end
noncomputable def dA(H:Hs)(D:Int):Int:=H.left.den*D
def dB(H:Hs)(D:Int):Int:=dA H D*H.left.num*H.kept.num
structure vD(H:Hs)(h:Hr)(D:Int)(lv:Rat)(r:Rl)(ws:List Rat):Prop where
 dD:eH D
 dK:eH (D*H.kept.num)
 Q9:eH (dA H D)
 gL:eH (dB H D)
 zl:Sz D 2000000 lv
 Q6:Sz (Law.dA H D) (2^20) (aK h)
 need:Sz (Law.dA H D) (2^20) (D4 h)
 V8:Sz (Law.dA H D) (2^20) (ax h)
 Cg:Sz (Law.dA H D) (2^20) (ja h)
 out:Sz (Law.dA H D) (2^22) (Q8 H lv r.ta)
 reach:Sz (Law.dA H D) (2^24) (B8 H h lv r)
 zw:∀x∈ws,Sz (Law.dA H D) (2^31) x
 wl:ws.length<=6
 met:∀x∈bI H h lv r ws,Sz (Law.dA H D) (2^40) x
 us:Sz (Law.dA H D) (2^44) (ff H h lv r ws)
 u0:Sz (Law.dA H D) (2^45) (dJ H h lv r ws)
 u1:Sz (Law.dA H D) (2^47) (cb H h lv r ws)
 u2:Sz (Law.dA H D) (2^49) (iK H h lv r ws)
 gv:Sz (Law.dA H D) (2^49) (dk H h lv r ws)
 tk:Sz (Law.dB H D) (2^55) (fK H h lv r ws)
 sr:Sz (Law.dB H D) (2^46) (gK H h lv r ws)
 br:Sz (Law.dB H D) (2^50) (oC H h lv r ws)
 fq:Sz (Law.dB H D) (2^30) (fk H h lv r ws)
 f0:Sz (Law.dB H D) (2^47) (X9 H h lv r ws)
 f1:Sz (Law.dB H D) (2^52) (aZ H h lv r ws)
 sg:Sz (Law.dB H D) (2^53) (nL H h lv r ws)
theorem Bi(hh:pe d):tM (aX d).2.1/\tM (aX d).2.2.2:=by
 unfold aX;cases e:d.line with
 |none=>exact⟨⟨by decide,by decide⟩,⟨by decide,by decide⟩⟩
 |some l=>
  obtain⟨a,b,c,h⟩:=l;obtain⟨_,h2,_,h4⟩:=hh.line a b c h e;exact⟨h2,h4⟩
theorem a0d(hH:R4 a)(hh:pe d)(dD:eH t)(dK:eH (t*a.kept.num))(dA':eH (dA a t))(dB':eH (dB a t))(hl:Sz t 2000000 y)(hw:∀x∈l,Sz t (2^31) x)(wl:l.length<=6):vD a d t y e l:=by
 obtain⟨l1,l2⟩:=Bi hh;have s1:=hh.Q6;have s2:=hh.need;have ht:=hH.take;have hf:=hH.fill;have hz:=hH.size;have dvA:t∣dA a t:=⟨a.left.den,by unfold dA;rw[O4]⟩;have dvB:dA a t∣dB a t:=⟨a.left.num*a.kept.num,by unfold dB;rw[gm]⟩;have dvK:t*a.kept.num∣dB a t:=⟨a.left.den*a.left.num,by unfold dB dA;simp only[fP,O4,gm]⟩;have dvT:dA a t*a.left.num∣dB a t:=⟨a.kept.num,rfl⟩;have Q6:Sz (dA a t) (2^20) (aK d):=Sz.int (by lia);have need:Sz (dA a t) (2^20) (D4 d):=Sz.int (by lia);have V8:Sz (dA a t) (2^20) (ax d):=Sz.int (by lia);have Cg:Sz (dA a t) (2^20) (ja d):=Sz.int (by lia);have tak:Sz t 1000000 ((a.take:Int):Rat):=Sz.int (by lia)
 have out:Sz (dA a t) (2^22) (Q8 a y e.ta):=by
  unfold Q8;split;exact Sz.zero (by decide);exact(hH.left.sz.mul (tak.mn hl)).mono (O3 _) (by decide)
 have reach:Sz (dA a t) (2^24) (B8 a d y e):=((((Sz.zero (M:=0) (by decide)).add Q6).add V8).add out).mono (O3 _) (by decide);have ws':∀x∈l,Sz (dA a t) (2^31) x:=λx hx=>(hw x hx).mono dvA (cR _)
 have nw:∀x∈D4 d::l,Sz (dA a t) (2^31) x:=λx hx=>by
  rcases List.mem_cons.mp hx with rfl|hx
  exact need.mono (O3 _) (by decide);exact ws' x hx
 have pl:(2:Int)^(D4 d::l).length<=2^7:=by
  have:(2:Nat)^(D4 d::l).length<=2^7:=mj (by decide) (by rw[J4];simp_all)
  exact_mod_cast this
 have pb:(2:Int)^(D4 d::l).length*(2^24+2^31)<=2^40:=by
  have:=mN pl (show(0:Int)<=2^24+2^31 by decide);exact H9 this (by decide)
 have met:∀x∈bI a d y e l,Sz (dA a t) (2^40) x:=λx hx=>
  ((Dw dA' (D4 d::l) (2^24) (B8 a d y e) nw reach (by decide) (H9 pb (by decide))).2 x hx).mono (O3 _) pb
 have ml:(bI a d y e l).length<=7:=by unfold bI;rw[gx,J4];simp_all
 have tb:(0:Int)+(bI a d y e l).length*2^40<=2^44:=by lia
 have us:Sz (dA a t) (2^44) (ff a d y e l):=(nH dA' (bI a d y e l) 0 0 met (Sz.zero (by decide)) (by decide) (by exact H9 A2 A9)).2.mono (O3 _) tb;have u0:Sz (dA a t) (2^45) (dJ a d y e l):=(Q6.mn us).mono (O3 _) (by decide);have u1:Sz (dA a t) (2^47) (cb a d y e l):=(out.mn (us.sub u0)).mono (O3 _) (by decide);have u2:Sz (dA a t) (2^49) (iK a d y e l):=(V8.mn ((us.sub u0).sub u1)).mono (O3 _) (by decide)
 have gv:Sz (dA a t) (2^49) (dk a d y e l):=by
  unfold dk;split;exact((out.sub u1).mn Cg).mono (O3 _) (by decide);exact Sz.zero (by decide)
 have tk:Sz (dB a t) (2^55) (fK a d y e l):=((u1.add gv).mul hH.left.Vr).mono dvT (by decide);have sr:Sz (dB a t) (2^46) (gK a d y e l):=(Q6.sub u0).mono dvB (by decide)
 have br:Sz (dB a t) (2^50) (oC a d y e l):=by
  unfold oC;split;exact(V8.sub u2).mono dvB (by decide);exact Sz.zero (by decide)
 have size:Sz t 1000000 ((a.size:Int):Rat):=Sz.int (by lia);have fill:Sz (t*a.kept.num) 1000000 ((a.fill:Int):Rat):=Sz.int (by omega)
 have fq:Sz (dB a t) (2^30) (fk a d y e l):=by
  unfold fk yU;split;exact Sz.zero (by decide);exact(fill.mn ((size.sub hl).cq.mul hH.kept.Vr)).mono dvK (by decide)
 have f0:Sz (dB a t) (2^47) (X9 a d y e l):=(sr.mn fq).mono (O3 _) (by decide);have f1:Sz (dB a t) (2^52) (aZ a d y e l):=(br.mn (fq.sub f0)).mono (O3 _) (by decide);have sg:Sz (dB a t) (2^53) (nL a d y e l):=((sr.sub f0).mn ((Cg.sub gv).mono dvB (cR _))).mono (O3 _) (by decide);exact⟨dD,dK,dA',dB',hl,Q6,need,V8,Cg,out,reach,ws',wl,met,us,u0,u1,u2,gv,tk,sr,br,fq,f0,f1,sg⟩
local macro_rules|`(tactic|walk_at "n")=>`(tactic|((try simp only[S7,L2.fZ,L2.pE,L2.PV.eR,L2.PV.zh,mh,mf,fO,bY,J4,oR,Nat.reduceAdd,Nat.reduceLeDiff,if_true,reduceIte,Law.N5]);rw[L2.cF];rw[L2.qD];walk_at "r"))
theorem Ux(x:T)(l:List T):cutD (x::l) (U 1) J=l:=by simp[cutD,HT.N4]
theorem Lf{h:Hr}{r:Rl}{ws:List Rat}(hH:R4 a)(Z:vD a h t y r ws):jL [C1 h,cE a,qd y,C5 r,.list (ws.map qd)]=U (.dat (U9 (P2 a h y r ws))):=by
 have i0:=nX h;have i1:=nW h;have i2:=ku h;have il:(if M8 (U1 h.line)=Uf then U (PV.dat uI)else U (PV.dat (U1 h.line)))=U (PV.dat (mG (aX h))):=by
  unfold aX;cases h.line with
  |none=>rfl
  |some l=>rfl
 have q1:w5 (mG (aX h)) (.int 1)=U (.dat (.int (aX h).2.1)):=rfl;have q3:w5 (mG (aX h)) (.int 3)=U (.dat (.int (aX h).2.2.2)):=rfl;have r1:=EE r;have r2:=Og r;have s5:=yG a;have oe:=a2g (ta:=r.ta) hH Z.dD Z.zl;have fe:=a4C (tk:=fK a h y r ws) (fi:=r.fi) hH Z.dK Z.dD Z.zl;have ok1:=Z.Q6.ok Z.Q9 (by decide);have ok2:=Z.need.ok Z.Q9 (by decide);have ok3:=Z.V8.ok Z.Q9 (by decide);have ok4:=Z.Cg.ok Z.Q9 (by decide);have ok5:=Z.out.ok Z.Q9 (by decide)
 have tt:=nH Z.Q9 (bI a h y r ws) 0 0 Z.met (Sz.zero (by decide)) (by decide) (by
  have:(bI a h y r ws).length<=7:=by unfold bI;rw[gx,J4];have:=Z.wl;simp_all
  lia)
 have te:=xl (l:=bI a h y r ws) (d:=.list ((bI a h y r ws).map qd)) rfl tt.1;have te0:=xl (l:=[aK h,ax h,Q8 a y r.ta]) (d:=.list [qd (aK h),qd (ax h),qd (Q8 a y r.ta)]) rfl ⟨qp,ok1,((Sz.zero (M:=0) (by decide)).add Z.Q6).ok Z.Q9 (by decide),ok3,(((Sz.zero (M:=0) (by decide)).add Z.Q6).add Z.V8).ok Z.Q9 (by decide),ok5,Z.reach.ok Z.Q9 (by decide)⟩
 have pl:(2:Int)^(D4 h::ws).length<=2^7:=by
  have:(2:Nat)^(D4 h::ws).length<=2^7:=mj (by decide) (by rw[J4];have:=Z.wl;simp_all)
  exact_mod_cast this
 have pb:(2:Int)^(D4 h::ws).length*(2^24+2^31)<=2^190:=by
  have:=mN pl (show(0:Int)<=2^24+2^31 by decide);exact H9 this (by decide)
 have sh1:=tT (l:=D4 h::ws) (d:=.list (qd (D4 h)::ws.map qd)) (r:=B8 a h y r) rfl (by rw[J4];have:=Z.wl;exact dH A2 A9) (Dw Z.Q9 (D4 h::ws) (2^24) (B8 a h y r) (λx hx=>by
  rcases List.mem_cons.mp hx with rfl|hx
  exact Z.need.mono (O3 _) (by decide)
  . exact Z.zw x hx) Z.reach (by decide) pb).1
 replace sh1:Z1 [.list (qd (D4 h)::ws.map qd),qd (B8 a h y r)]=U (.own (qd (mn (D4 h) (B8 a h y r))::(shr ws (B8 a h y r-mn (D4 h) (B8 a h y r))).map qd)):=sh1;have o0:=Z.u0.ok Z.Q9 (by decide);have o1:=Z.u1.ok Z.Q9 (by decide);have o2:=Z.u2.ok Z.Q9 (by decide);have og:=Z.gv.ok Z.Q9 (by decide);have ou:=Z.us.ok Z.Q9 (by decide);have ou0:=(Z.us.sub Z.u0).ok Z.Q9 (by decide);have ou1:=((Z.us.sub Z.u0).sub Z.u1).ok Z.Q9 (by decide)
 have sh2:Z1 [.list [qd (aK h),qd (Q8 a y r.ta),qd (ax h)],qd (ff a h y r ws)]=U (.own [qd (dJ a h y r ws),qd (cb a h y r ws),qd (iK a h y r ws)]):=tT (l:=[aK h,Q8 a y r.ta,ax h]) rfl (show(3:Nat)<=1000 by decide)
  ⟨ok1,ou,o0,ok5,ou0,o1,ok3,ou1,o2,(((Z.us.sub Z.u0).sub Z.u1).sub Z.u2).ok Z.Q9 (by decide)⟩
 have orr:=Z.sr.ok Z.gL (by decide);have ob:=Z.br.ok Z.gL (by decide);have of:=Z.fq.ok Z.gL (by decide);have of0:=Z.f0.ok Z.gL (by decide);have of1:=Z.f1.ok Z.gL (by decide);have of':=(Z.fq.sub Z.f0).ok Z.gL (by decide)
 have sh3:Z1 [.list [qd (gK a h y r ws),qd (oC a h y r ws)],qd (fk a h y r ws)]=U (.own [qd (X9 a h y r ws),qd (aZ a h y r ws)]):=tT (l:=[gK a h y r ws,oC a h y r ws]) rfl (show(2:Nat)<=1000 by decide)
  ⟨orr,of,of0,ob,of',of1,((Z.fq.sub Z.f0).sub Z.f1).ok Z.gL (by decide)⟩
 have te3:=xl (l:=[X9 a h y r ws,aZ a h y r ws]) (d:=.list [qd (X9 a h y r ws),qd (aZ a h y r ws)]) rfl ⟨qp,of0,((Sz.zero (M:=0) (by decide)).add Z.f0).ok Z.gL (by decide),of1,(((Sz.zero (M:=0) (by decide)).add Z.f0).add Z.f1).ok Z.gL (by decide)⟩
 have gve:(if r.ta=.give then df [qd (Q8 a y r.ta-cb a h y r ws),qd (ja h)]else U (PV.dat (qd 0)))=U (PV.dat (qd (dk a h y r ws))):=by
  unfold dk;split;exact iG ((Z.out.sub Z.u1).ok Z.Q9 (by decide)) ok4;rfl
 have bre:(if r.fi=.line then P9 [qd (ax h),qd (iK a h y r ws)]else U (PV.dat (qd 0)))=U (PV.dat (qd (oC a h y r ws))):=by
  unfold oC;split;exact V5 ok3 o2;rfl
 have wl:=Z.wl;generalize C1 h=hd at *;generalize cE a=sd at *;generalize C5 r=rd at *;generalize mG (aX h)=ld at *;unfold jL G4;rw[dM];walk_at "r";rw[i2];walk_at "r"
 erw [il]
 walk_at "n";rw[i0];walk_at "n";rw[i1];walk_at "n";rw[q1];walk_at "n";rw[q3];walk_at "n";rw[r2];walk_at "r";rw[oe];walk_at "n";rw[uQ (by rw[C8];simp;lia)];walk_at "r"
 erw [te0]
 walk_at "r"
 erw [sh1]
 walk_at "n"
 erw [te]
 walk_at "r"
 erw [sh2]
 walk_at "n";rw[V5 ok5 o1,r2];walk_at "r";simp only[Ih]
 erw [gve]
 walk_at "n";rw[dP o1 og,s5];walk_at "r";rw[MX ((Z.u1.add Z.gv).ok Z.Q9 (by decide)) hH.left.ok hH.left.pos];walk_at "n"
 erw [V5 ok1 o0]
 walk_at "n";rw[r1];walk_at "r";simp only[a0i]
 erw [bre]
 walk_at "n";rw[r1];walk_at "r"
 erw [fe]
 walk_at "r"
 erw [sh3]
 walk_at "n"
 erw [V5 orr of0]
 walk_at "r"
 erw [V5 ok4 og]
 walk_at "r"
 erw [iG ((Z.sr.sub Z.f0).ok Z.gL (by decide)) ((Z.Cg.sub Z.gv).ok Z.Q9 (by decide))]
 walk_at "n";rw[dP o2 of1];walk_at "r"
 erw [dP og (Z.sg.ok Z.gL (by decide))]
 simp only[S7,L2.fZ,L2.PV.eR,mh,mf,J4,oR,Nat.reduceAdd,Nat.reduceLeDiff,if_true,reduceIte];rw[L2.cF];walk_at "r"
 erw [te3]
 walk_at "r"
 erw [V5 ok2 ((Z.need.mn Z.reach).ok Z.Q9 (by decide))]
 walk_at "r";rw[Ux,iH (by simp)];rfl
theorem Dg:∀(l:List Rat) (z:Rat) (j:Nat),j<l.length->P1 (l.take (j+1)) z=P1 (l.take j) z+l.getD j 0
 | [],_,_,h=>by simp at h
 |x::l,z,0,_=>by
  show P1 (l.take 0) (z+x)=z+x;rw[List.take_zero];rfl
 |x::l,z,j+1,h=>by
  show P1 (l.take (j+1)) (z+x)=P1 (l.take j) (z+x)+l.getD j 0;exact Dg l (z+x) j (by simpa using h)
theorem vP:∀(l:List Rat) (r:Rat) (j:Nat),j<l.length->(shr l r).getD j 0=mn (l.getD j 0) (r-P1 ((shr l r).take j) 0)
 | [],_,_,h=>by simp at h
 |x::l,r,0,_=>by
  show mn x r=mn x (r-P1 [] 0)
  rw[show P1 [] 0=0 from rfl];congr 1;grind
 |x::l,r,j+1,h=>by
  show(shr l (r-mn x r)).getD j 0=mn (l.getD j 0) (r-P1 ((shr l (r-mn x r)).take j) (0+mn x r));rw[vP l (r-mn x r) j (by simpa using h),jZ _ (0+mn x r)]
  congr 1;grind
theorem a3t{L:List T}{x:T}:T7 (L++[x]) (L.length:Int)=U x:=by
 rw[gC (n:=L.length) rfl (by simp)];simp
def B3(H:Hs)(t:Int)(und:List Rat)(wo:Bool):List Rat:=bD (λw u=>dn w t u wo) H.ws und
noncomputable def gW:Wk:=⟨"",0,0,0,0⟩
theorem Ym{und:List Rat}{hd:l5}(hH:R4 a)(ht:0<=t)(hul:und.length=a.ws.length)(hu:∀u∈und,Sz M 2000000 u/\0<=u)(Z:vD a d M y e (B3 a t und e.wo))(i0:∀k,w5 hd (.int 0)=U (.dat k)->∃m,k=.tuple m/\T7 m t=U (C1 d))(i0':∃k,w5 hd (.int 0)=U (.dat k))(i2:w5 hd (.int 2)=U (.dat (.tuple (a.ws.map G7)))):
  sZ [hd,.int t,C5 e,.list (und.map qd),qd (B8 a d y e)]=U (.dat (.tuple [qd (D4 d-mn (D4 d) (B8 a d y e)),qd (ff a d y e (B3 a t und e.wo)),.tuple ((shr (B3 a t und e.wo) (B8 a d y e-mn (D4 d) (B8 a d y e))).map qd)])):=by
 obtain⟨k,ek⟩:=i0';obtain⟨m,rfl,em⟩:=i0 k ek;have h1:=nW d;have r3:=Of e;have on:=Z.need.ok Z.Q9 (by decide);have orr:=Z.reach.ok Z.Q9 (by decide);have omn:=(Z.need.mn Z.reach).ok Z.Q9 (by decide)
 have wl:=hH.wl;have hl:=hH.hl;have wlen:(B3 a t und e.wo).length=a.ws.length:=by unfold B3;simp[hul]
 have mlen:(bI a d y e (B3 a t und e.wo)).length=a.ws.length+1:=by unfold bI;rw[gx,J4,wlen]
 have part:∀j,Sz (dA a M) (2^44) (P1 ((bI a d y e (B3 a t und e.wo)).take j) 0):=λj=>by
  have l7:((bI a d y e (B3 a t und e.wo)).take j).length<=7:=by rw[rn];lia
  exact(nH Z.Q9 _ 0 0 (λx hx=>Z.met x (Qj hx)) (Sz.zero (by decide)) (by decide) (by lia)).2.mono (O3 _) (by lia)
 unfold sZ;walk_at "r";rw[ek];walk_at "r";rw[em];walk_at "r";rw[h1];walk_at "r";simp only[N5]
 erw [iv on orr]
 walk_at "r";rw[i2];walk_at "r";rw[C8,Y2 (by lia)]
 walk_at "r";obtain⟨ds',e1,y9,y10,rfl⟩:=bL (gt:=D3 9) (G:=mW) (lo:=0) (n:=a.ws.length) (ds:=[U (.dat hd),iD t,U (.dat (C5 e)),U (.dat (.list (und.map qd))),U (.dat (qd (B8 a d y e))),U (.dat (qd (D4 d))),U (.dat (qd (mn (D4 d) (B8 a d y e)))),U (.dat (qd (mn (D4 d) (B8 a d y e)))),U (.own []),J,J])
  (λj ds=>∃y9 y10,ds=[U (.dat hd),iD t,U (.dat (C5 e)),U (.dat (.list (und.map qd))),U (.dat (qd (B8 a d y e))),U (.dat (qd (D4 d))),U (.dat (qd (mn (D4 d) (B8 a d y e)))),U (.dat (qd (P1 ((bI a d y e (B3 a t und e.wo)).take (j+1)) 0))),U (.own (((shr (B3 a t und e.wo) (B8 a d y e-mn (D4 d) (B8 a d y e))).take j).map qd)),y9,y10])
  ⟨J,J,by
   rw[List.take_zero,fx];have:P1 ((bI a d y e (B3 a t und e.wo)).take (0+1)) 0=mn (D4 d) (B8 a d y e):=by
    show 0+mn (D4 d) (B8 a d y e)=_;grind
   rw[this]⟩ (by
   rintro j ds hj ⟨y9,y10,rfl⟩;have a1:=map_getD (f:=G7) gW hj;have a2:=map_getD (f:=qd) (l:=und) 0 (show j<und.length by simp_all);have hwk:Bz a.hs.length (a.ws.getD j gW):=hH.ws _ (by rw[Q4,M6 hj];exact iw _);obtain⟨zu,nu⟩:=hu (und.getD j 0) (by rw[Q4,M6 (show j<und.length by simp_all)];exact iw _);have we:=Tu (t:=t) (wo:=e.wo) hwk (by lia) ht Z.dD zu nu
   have wg:(B3 a t und e.wo).getD j 0=dn (a.ws.getD j gW) t (und.getD j 0) e.wo:=by unfold B3;simp[Q4,rD,hj,show j<und.length by omega]
   rw[<-wg]at we;have zw:=Z.zw ((B3 a t und e.wo).getD j 0) (by rw[Q4,M6 (show j<(B3 a t und e.wo).length by simp_all)];exact iw _);have sg:(bI a d y e (B3 a t und e.wo)).getD (j+1) 0=mn ((B3 a t und e.wo).getD j 0) (B8 a d y e-P1 ((bI a d y e (B3 a t und e.wo)).take (j+1)) 0):=vP (D4 d::B3 a t und e.wo) (B8 a d y e) (j+1) (by rw[J4];simp_all);have sg':(bI a d y e (B3 a t und e.wo)).getD (j+1) 0=(shr (B3 a t und e.wo) (B8 a d y e-mn (D4 d) (B8 a d y e))).getD j 0:=rfl;have p1:=part (j+1);have tn:=Dg (bI a d y e (B3 a t und e.wo)) 0 (j+1) (by simp_all)
   have slen:(shr (B3 a t und e.wo) (B8 a d y e-mn (D4 d) (B8 a d y e))).length=a.ws.length:=by rw[gx,wlen]
   have tk:(shr (B3 a t und e.wo) (B8 a d y e-mn (D4 d) (B8 a d y e))).take (j+1)=(shr (B3 a t und e.wo) (B8 a d y e-mn (D4 d) (B8 a d y e))).take j++[(shr (B3 a t und e.wo) (B8 a d y e-mn (D4 d) (B8 a d y e))).getD j 0]:=by
    rw[List.take_succ_eq_append_getElem (by simp_all)];simp[Q4,show j<(shr (B3 a t und e.wo) (B8 a d y e-mn (D4 d) (B8 a d y e))).length by omega]
   rw[tk,tn,sg,<-sg',sg,T2];have ll:(((shr (B3 a t und e.wo) (B8 a d y e-mn (D4 d) (B8 a d y e))).take j).map qd).length=j:=by rw[C8,rn];lia
   generalize ((shr (B3 a t und e.wo) (B8 a d y e-mn (D4 d) (B8 a d y e))).take j).map qd=L at *;generalize P1 ((bI a d y e (B3 a t und e.wo)).take (j+1)) 0=z at *;generalize (B3 a t und e.wo).getD j 0=wi at *;refine⟨_,_,rfl,.inl ?_,iD (0+(j:Int)),U (.dat (qd wi)),rfl⟩;unfold mW;walk_at "r";rw[i2];walk_at "r";rw[a1];walk_at "r";rw[a2];walk_at "r";rw[r3];walk_at "r";rw[we];walk_at "r";rw[bU orr (p1.ok Z.Q9 (by decide))];walk_at "r";rw[iv (zw.ok Z.Q9 (by decide)) ((Z.reach.sub p1).ok Z.Q9 (by decide))];rw[P8 _ (l:=L) rfl (by lia)];walk_at "r";rw[show(0:Int)+(j:Int)=(L.length:Int) by simp_all,a3t];walk_at "r";rw[iZ (p1.ok Z.Q9 (by decide)) ((zw.mn (Z.reach.sub p1)).ok Z.Q9 (by decide))]
   rfl)
 erw [e1]
 walk_at "r"
 erw [bU on omn]
 walk_at "r";rw[jq (by simp_all),jq (by rw[gx,wlen];simp_all)];rfl
structure vE(H:Hs)(h:Hr)(lv:Rat)(r:Rl)(ws:List Rat):Prop where
 bo:ff H h lv r ws-dJ H h lv r ws-cb H h lv r ws=iK H h lv r ws
 sr:0<=gK H h lv r ws
 br:0<=oC H h lv r ws
 lo:0<=lv+H.kept*(0+X9 H h lv r ws+aZ H h lv r ws)-fK H h lv r ws
 hi:lv+H.kept*(0+X9 H h lv r ws+aZ H h lv r ws)-fK H h lv r ws<=(H.size:Rat)
 done:∀y∈shr ws (B8 H h lv r-mn (D4 h) (B8 H h lv r)),0<=y
theorem yJ(h:0<y):0<=y⁻¹/\y*y⁻¹=1:=by
 have hn:y≠0:=by grind
 refine⟨?_,Rat.mul_inv_cancel y hn⟩;exact uZ (Rat.inv_pos.mpr h)
theorem Je{r:Rl}(hH:R4 a)(hh:pe d)(l0:0<=y)(l1:y<=(a.size:Rat))(w0:∀x∈l,0<=x):vE a d y r l:=by
 obtain⟨q1,q2⟩:=Bi hh;have s0:0<=aK d:=ak hh.Q6.1;have n0:0<=D4 d:=ak hh.need.1;have b0:0<=ax d:=ak q1.1;have g0:0<=ja d:=ak q2.1;have t0:(0:Rat)<=((a.take:Int):Rat):=ak hH.take.1;have fi0:(0:Rat)<=((a.fill:Int):Rat):=ak hH.fill.1;obtain⟨li,lm⟩:=yJ hH.left.pos;obtain⟨ki,km⟩:=yJ hH.kept.pos;have lp:=uZ hH.left.pos;have kp:=uZ hH.kept.pos;have m0:0<=mn (a.take:Rat) y:=bC t0 l0;have o0:0<=Q8 a y r.ta:=by
  unfold Q8;split;grind;exact ij lp m0
 have o1:Q8 a y r.ta<=a.left*y:=by
  unfold Q8;split;exact ij lp l0;exact Hx (ar _ _) lp
 have r0:0<=B8 a d y r:=by unfold B8;grind
 have nw:∀x∈D4 d::l,0<=x:=λx hx=>by
  rcases List.mem_cons.mp hx with rfl|hx
  exact n0;exact w0 x hx
 obtain⟨ur,u0,ud⟩:=Dy (D4 d::l) (B8 a d y r) r0 nw;have ur':ff a d y r l<=0+aK d+ax d+Q8 a y r.ta:=ur;have u0':0<=ff a d y r l:=u0;have a1:dJ a d y r l<=aK d:=V6 _ _;have a2:dJ a d y r l<=ff a d y r l:=ar _ _;have a3:0<=dJ a d y r l:=bC s0 u0';have b1:cb a d y r l<=Q8 a y r.ta:=V6 _ _;have b2:cb a d y r l<=ff a d y r l-dJ a d y r l:=ar _ _;have b3:0<=cb a d y r l:=bC o0 (by grind)
 have ea:dJ a d y r l=aK d\/dJ a d y r l=ff a d y r l:=by unfold dJ mn;split<;>grind
 have eb:cb a d y r l=Q8 a y r.ta\/cb a d y r l=ff a d y r l-dJ a d y r l:=by unfold cb;unfold mn;split<;>grind
 have bo:ff a d y r l-dJ a d y r l-cb a d y r l<=ax d:=by rcases ea with e|e<;>rcases eb with f|f<;>grind
 have c2:iK a d y r l=ff a d y r l-dJ a d y r l-cb a d y r l:=ng bo;have c3:iK a d y r l<=ax d:=V6 _ _;have sr:0<=gK a d y r l:=by unfold gK;grind
 have br:0<=oC a d y r l:=by unfold oC;split<;>grind
 have gv0:0<=dk a d y r l:=by
  unfold dk;split;exact bC (by grind) g0;grind
 have gv1:cb a d y r l+dk a d y r l<=Q8 a y r.ta:=by
  unfold dk;split;have:=V6 (Q8 a y r.ta-cb a d y r l) (ja d);grind;grind
 have tk0:0<=fK a d y r l:=ij (by grind) li
 have tk1:fK a d y r l<=y:=by
  have z:fK a d y r l<=a.left*y*a.left⁻¹:=QP (lY gv1 o1) li;have e:a.left*y*a.left⁻¹=y:=by grind
  rw[e]at z;exact z
 have sz0:0<=(a.size:Rat)-y:=by grind
 have p0:cq ((a.size:Rat)-y)=(a.size:Rat)-y:=by unfold cq;split<;>grind
 have rm0:0<=roomQ a y:=by unfold roomQ;rw[p0];exact bC fi0 (ij sz0 ki)
 have Iu:roomQ a y<=((a.size:Rat)-y)*a.kept⁻¹:=by unfold roomQ;rw[p0];exact ar _ _
 have fq0:0<=fk a d y r l:=by unfold fk yU;split<;>grind
 have fq1:fk a d y r l<=((a.size:Rat)-y)*a.kept⁻¹:=by
  unfold fk yU;split;exact ij sz0 ki;exact Iu
 have d1:X9 a d y r l<=fk a d y r l:=ar _ _;have d2:0<=X9 a d y r l:=bC sr fq0;have d3:aZ a d y r l<=fk a d y r l-X9 a d y r l:=ar _ _;have d4:0<=aZ a d y r l:=bC br (by grind);have k1:0<=a.kept*(0+X9 a d y r l+aZ a d y r l):=ij kp (by grind);have k2:a.kept*(0+X9 a d y r l+aZ a d y r l)<=a.kept*(((a.size:Rat)-y)*a.kept⁻¹):=Hx (by grind) kp
 have k3:a.kept*(((a.size:Rat)-y)*a.kept⁻¹)=(a.size:Rat)-y:=by grind
 exact⟨c2.symm,sr,br,by grind,by grind,λH hy=>ud H (F8 _ hy)⟩
def vO(H:Hs)(lv:Rat)(fi:Fi)(s m:Rat):Rat×Rat:=if fi=.non then(0,0)else if fi=.Q6 then(mn s (roomQ H lv),0)else(mn s (roomQ H lv),mn m (roomQ H lv-mn s (roomQ H lv)))
theorem MA(h:0<y):af [.int (y.den:Int),.int y.num]=qd y⁻¹:=by
 show fr ((q2 y).2,(q2 y).1)=fr (q2 y⁻¹);rw[yI h]
theorem LY{m:Rat}(hH:R4 a)(dD:eH M)(dK:eH (M*a.kept.num))(hl:Sz M 2000000 y)(l1:y<=(a.size:Rat))(os:RO u)(om:RO m)(o2:RO (mn u (roomQ a y)))(o3:RO (roomQ a y-mn u (roomQ a y))):
  eV [cE a,C5 e,qd y,qd u,qd m]=U (.dat (.tuple [qd (vO a y e.fi u m).1,qd (vO a y e.fi u m).2])):=by
 have i0:=Oe a;have i2:=Od a;have i4:=qx a;have r1:=EE e;have hs:=hH.size;have hf:=hH.fill;have zs:Sz M 1000000 ((a.size:Int):Rat):=Sz.int (by omega);have zf:Sz (M*a.kept.num) 1000000 ((a.fill:Int):Rat):=Sz.int (by omega)
 have p0:cq ((a.size:Rat)-y)=(a.size:Rat)-y:=by unfold cq;split<;>grind
 have z1:=zs.sub hl;have z2:=z1.mul hH.kept.Vr;have z3:=zf.mn z2;have er:roomQ a y=mn ((a.fill:Int):Rat) (((a.size:Int)-y)*a.kept⁻¹):=by unfold roomQ;rw[p0]
 rw[er]at o2 o3;unfold vO;rw[er];generalize cE a=sd at *;generalize C5 e=rd at *;unfold eV;walk_at "r";rw[r1];walk_at "r";simp only[Bn];by_cases c:e.fi=.non;rw[A3 c,A3 c];rfl;rw[A4 c,A4 c];walk_at "r";rw[i0];walk_at "r";rw[N5,bU (zs.ok dD (by decide)) (hl.ok dD (by decide))];walk_at "r";rw[i2,i4];walk_at "r";rw[hJ,cH];walk_at "r";rw[N5,MA hH.kept.pos,pF (z1.ok dD (by decide)) (Ec hH.kept.pos hH.kept.ok)];walk_at "r";rw[iv (zf.ok dK (by decide)) (z2.ok dK (by decide))];walk_at "r";rw[iv os (z3.ok dK (by decide))];walk_at "r";rw[r1];walk_at "r";simp only[a2X];by_cases D:e.fi=.Q6;rw[A3 D,A3 D];rfl;rw[A4 D,A4 D];walk_at "r";rw[bU (z3.ok dK (by decide)) o2];walk_at "r";rw[iv om o3];rfl
theorem TK{r:Rl}{und:List Rat}(hH:R4 a)(ht:0<=t)(hat:T7 (a.hs.map C1) t=U (C1 d))(hul:und.length=a.ws.length)(hu:∀u∈und,Sz M 2000000 u/\0<=u)(l1:y<=(a.size:Rat))(Z:vD a d M y r (B3 a t und r.wo))(N:vE a d y r (B3 a t und r.wo)):ph [ck a,.int t,C5 r,qd y,.list (und.map qd)]=U (.dat (U9 (P2 a d y r (B3 a t und r.wo)))):=by
 have i0:=nV a;have i1:=lI a;have i2:=qy a;have h0:=nX d;have h2:=ku d;have r2:=Og r;have s3:=Ob a;have s5:=yG a;have il:(if M8 (U1 d.line)=Uf then(.tuple [.int 0,.int 0,.int 0,.int 0]:l5)else U1 d.line)=mG (aX d):=by
  unfold aX;cases d.line with
  |none=>rfl
  |some l=>rfl
 have q1:w5 (mG (aX d)) (.int 1)=U (.dat (.int (aX d).2.1)):=rfl;have q3:w5 (mG (aX d)) (.int 3)=U (.dat (.int (aX d).2.2.2)):=rfl;have tk:=hH.take;have zt:Sz M 1000000 ((a.take:Int):Rat):=Sz.int (by lia)
 have oe:(if r.ta=.non then(qd 0)else qd (a.left*mn (a.take:Rat) y))=qd (Q8 a y r.ta):=by unfold Q8;split<;>rfl
 have ue:=Ym (t:=t) (und:=und) (hd:=ck a) hH ht hul hu Z (λk e=>⟨_,by rw[i0]at e;cases e;rfl,hat⟩) ⟨_,i0⟩ i2;have ok1:=Z.Q6.ok Z.Q9 (by decide);have ok2:=Z.need.ok Z.Q9 (by decide);have ok3:=Z.V8.ok Z.Q9 (by decide);have ok4:=Z.Cg.ok Z.Q9 (by decide);have ok5:=Z.out.ok Z.Q9 (by decide);have o0:=Z.u0.ok Z.Q9 (by decide);have o1:=Z.u1.ok Z.Q9 (by decide);have o2:=Z.u2.ok Z.Q9 (by decide);have og:=Z.gv.ok Z.Q9 (by decide);have ou:=Z.us.ok Z.Q9 (by decide);have ou0:=(Z.us.sub Z.u0).ok Z.Q9 (by decide);have ou1:=((Z.us.sub Z.u0).sub Z.u1).ok Z.Q9 (by decide);have orr:=Z.sr.ok Z.gL (by decide);have of0:=Z.f0.ok Z.gL (by decide);have of1:=Z.f1.ok Z.gL (by decide)
 generalize B3 a t und r.wo=ws at *;have reQ:aK d+ax d+Q8 a y r.ta=B8 a d y r:=by unfold B8;rw[Rat.zero_add]
 have zsb:=Z.Q6.add Z.V8;have mid3:∀(x0 x1 x2 x3 x4 x5 x7 x8 x9 x10 x11 x12 x13 x14 x15 x16 x17 x18:Option PV),(if M8 (U1 d.line)=Uf then U (Out.next [x0,x1,x2,x3,x4,x5,U (.dat (.tuple [.int 0,.int 0,.int 0,.int 0])),x7,x8,x9,x10,x11,x12,x13,x14,x15,x16,x17,x18])else U (Out.next [x0,x1,x2,x3,x4,x5,U (.dat (U1 d.line)),x7,x8,x9,x10,x11,x12,x13,x14,x15,x16,x17,x18]))=U (Out.next [x0,x1,x2,x3,x4,x5,U (.dat (mG (aX d))),x7,x8,x9,x10,x11,x12,x13,x14,x15,x16,x17,x18]):=by intros;rw[<-il];split<;>rfl
 have mid6:∀(x0 x1 x2 x3 x4 x5 x6 x7 x9 x10 x11 x12 x13 x14 x15 x16 x17 x18:Option PV),(if r.ta=.non then U (Out.next [x0,x1,x2,x3,x4,x5,x6,x7,U (.dat (qd 0)),x9,x10,x11,x12,x13,x14,x15,x16,x17,x18])else U (Out.next [x0,x1,x2,x3,x4,x5,x6,x7,U (.dat (qd (a.left*mn (a.take:Rat) y))),x9,x10,x11,x12,x13,x14,x15,x16,x17,x18]))=U (Out.next [x0,x1,x2,x3,x4,x5,x6,x7,U (.dat (qd (Q8 a y r.ta))),x9,x10,x11,x12,x13,x14,x15,x16,x17,x18]):=by intros;rw[<-oe];split<;>rfl
 have mid14:∀(x0 x1 x2 x3 x4 x5 x6 x7 x8 x9 x10 x11 x12 x13 x14 x15 x17 x18:Option PV),(if r.ta=.give then U (Out.next [x0,x1,x2,x3,x4,x5,x6,x7,x8,x9,x10,x11,x12,x13,x14,x15,U (.dat (qd (mn (Q8 a y r.ta-cb a d y r ws) (ja d)))),x17,x18])else U (Out.next [x0,x1,x2,x3,x4,x5,x6,x7,x8,x9,x10,x11,x12,x13,x14,x15,U (.dat (qd 0)),x17,x18]))=U (Out.next [x0,x1,x2,x3,x4,x5,x6,x7,x8,x9,x10,x11,x12,x13,x14,x15,U (.dat (qd (dk a d y r ws))),x17,x18]):=by intros;unfold dk;split<;>rfl
 have e13:Z4 [qd (aK d),qd (ff a d y r ws)]=U (.dat (qd (dJ a d y r ws))):=iv ok1 ou;have e7:O5 [qd (aK d),qd (dJ a d y r ws)]=U (.dat (qd (gK a d y r ws))):=bU ok1 o0;have eus:=bU ou o0;have e14:Z4 [qd (Q8 a y r.ta),qd (ff a d y r ws-dJ a d y r ws)]=U (.dat (qd (cb a d y r ws))):=iv ok5 ou0;have e15:O5 [qd (ff a d y r ws-dJ a d y r ws),qd (cb a d y r ws)]=U (.dat (qd (iK a d y r ws))):=by rw[bU ou0 o1,N.bo]
 have eg1:=bU ok5 o1;have eg2:=iv ((Z.out.sub Z.u1).ok Z.Q9 (by decide)) ok4;have e17:=iZ o1 og;have e18:cz [qd (cb a d y r ws+dk a d y r ws),qd a.left⁻¹]=U (.dat (qd (fK a d y r ws))):=pF ((Z.u1.add Z.gv).ok Z.Q9 (by decide)) (Ec hH.left.pos hH.left.ok);have ebm:=bU ok3 o2;have hfq:fk a d y r ws=if r.fi=.non\/fK a d y r ws≠0 then 0 else roomQ a y:=rfl
 have hz0:∀x:Rat,mn 0 (x-x)=0:=λx=>by rw[qr (by grind)]
 have hst:(if (fK a d y r ws).num=0 then eV [cE a,C5 r,qd y,qd (gK a d y r ws),qd (ax d-iK a d y r ws)]else U (.dat (.tuple [qd 0,qd 0])))=U (.dat (.tuple [qd (X9 a d y r ws),qd (aZ a d y r ws)])):=by
  have hsr:=N.sr;have hbr:=N.br;by_cases c:fK a d y r ws=0
  . rw[A3 (by rw[c];rfl)]
    have zr:fk a d y r ws=(if r.fi=.non then 0 else roomQ a y):=by rw[hfq];simp[c]
    by_cases H:r.fi=.non
    . have q:fk a d y r ws=0:=by rw[zr,A3 H]
      have f0:X9 a d y r ws=0:=by unfold X9;rw[q,ng hsr]
      have f1:aZ a d y r ws=0:=by unfold aZ;rw[q,f0,ng (by grind)];grind
      rw[f0,f1];have r1:=EE r;unfold eV;walk_at "r";rw[r1];walk_at "r";simp only[Bn];rw[A3 H];rfl
    . have q:fk a d y r ws=roomQ a y:=by rw[zr,A4 H]
      have zq:=Z.fq;rw[q]at zq;have f0:X9 a d y r ws=mn (gK a d y r ws) (roomQ a y):=by unfold X9;rw[q]
      have zf0:=Z.f0;rw[f0]at zf0;rw[LY hH Z.dD Z.dK Z.zl l1 orr ((Z.V8.sub Z.u2).ok Z.Q9 (by decide)) (zf0.ok Z.gL (by decide)) ((zq.sub zf0).ok Z.gL (by decide))];unfold vO aZ oC;rw[q,f0,A4 H];by_cases e:r.fi=.Q6
      . rw[A3 e,A4 (by rw[e];intro z;cases z)];have m1:=ar (gK a d y r ws) (roomQ a y);rw[qr (x:=0) (by grind)]
      . have l:r.fi=.line:=by
          cases hf:r.fi with
          |non=>exact absurd hf H
          |Q6=>exact absurd hf e
          |line=>rfl
        rw[A4 e,A3 l]
  . rw[A4 (λz=>c (Rat.num_eq_zero.mp z))]
    have q:fk a d y r ws=0:=by rw[hfq,A3 (.inr c)]
    have f0:X9 a d y r ws=0:=by unfold X9;rw[q,ng hsr]
    have f1:aZ a d y r ws=0:=by unfold aZ;rw[q,f0,ng (by grind)];grind
    rw[f0,f1]
 have mid18:∀(x0 x1 x2 x3 x4 x5 x6 x7 x8 x9 x10 x11 x12 x13 x14 x15 x16 x17:Option PV),(if (fK a d y r ws).num=0 then KJ (eV [cE a,C5 r,qd y,qd (gK a d y r ws),qd (ax d-iK a d y r ws)]) 18 [x0,x1,x2,x3,x4,x5,x6,x7,x8,x9,x10,x11,x12,x13,x14,x15,x16,x17,U (.dat (.tuple [qd 0,qd 0]))]else U (Out.next [x0,x1,x2,x3,x4,x5,x6,x7,x8,x9,x10,x11,x12,x13,x14,x15,x16,x17,U (.dat (.tuple [qd 0,qd 0]))]))=U (Out.next [x0,x1,x2,x3,x4,x5,x6,x7,x8,x9,x10,x11,x12,x13,x14,x15,x16,x17,U (.dat (.tuple [qd (X9 a d y r ws),qd (aZ a d y r ws)]))]):=by
  intros
  by_cases c:(fK a d y r ws).num=0;rw[A3 c]at hst⊢;rw[hst];rfl;rw[A4 c]at hst⊢;rw[PV.dat.inj (Y9 hst)]
 generalize ck a=hd at *;generalize cE a=sd at *;generalize C5 r=rd at *;generalize C1 d=xd at *;generalize mG (aX d)=ld at *;unfold ph;walk_at "r";rw[i1];walk_at "n";rw[i0];walk_at "r";rw[hat];walk_at "r";rw[h2];walk_at "n"
 erw [mid3]
 walk_at "n";rw[i0];walk_at "r";rw[hat];walk_at "r";rw[h0];walk_at "n";rw[s5,s3];walk_at "r";rw[N5,iv (zt.ok Z.dD (by decide)) (Z.zl.ok Z.dD (by decide))];walk_at "r";rw[pF hH.left.ok ((zt.mn Z.zl).ok Z.dD (by decide))];walk_at "n";rw[r2];walk_at "r";simp only[Ig,dM]
 erw [mid6]
 walk_at "n";rw[q1];walk_at "r";simp only[N5]
 erw [iZ ok1 ok3]
 simp only[S7,PV.eR]
 erw [iZ (zsb.ok Z.Q9 (by decide)) ok5]
 rw[reQ];simp only[S7,L2.fZ,L2.PV.eR,mh,mf];rw[L2.cF];rw[L2.qD];simp only[L2.ES];walk_at "r"
 erw [ue]
 walk_at "r"
 erw [e13]
 walk_at "n"
 erw [e7]
 walk_at "n";rw[eus];walk_at "r";rw[e14];walk_at "n";rw[eus];walk_at "r";rw[e15];walk_at "n";rw[eg1];walk_at "r";rw[r2];walk_at "r";simp only[Ih];rw[q3];walk_at "r";simp only[N5,dM]
 erw [eg2]
 walk_at "r"
 erw [mid14]
 walk_at "n";rw[e17,s5];walk_at "r";rw[hJ,cH];walk_at "r";rw[MA hH.left.pos,e18];walk_at "n";simp only[dM];rw[cH];walk_at "r";rw[q1];walk_at "r";simp only[N5]
 erw [ebm]
 walk_at "r"
 erw [mid18]
 walk_at "n";rw[bU orr of0,q3];walk_at "r";simp only[N5]
 erw [bU ok4 og]
 walk_at "r"
 erw [iv ((Z.sr.sub Z.f0).ok Z.gL (by decide)) ((Z.Cg.sub Z.gv).ok Z.Q9 (by decide))]
 walk_at "r"
 erw [iZ og (Z.sg.ok Z.gL (by decide))]
 simp only[S7,L2.fZ,L2.PV.eR,mh,mf];rw[L2.cF];walk_at "r";rw[iZ o2 of1,iZ of0 of1];walk_at "r";unfold P2 U9;rw[show(0:Rat)+X9 a d y r ws+aZ a d y r ws=X9 a d y r ws+aZ a d y r ws by grind]
noncomputable def K3:Hr:=⟨0,0,J⟩
noncomputable def a4u(H:Hs)(d:Dq)(s:Rat×List Rat):Rat×List Rat:=(s.1+H.kept*d.fill-d.take,bD (λu y=>u-y) s.2 d.done)
def J6(H:Hs)(k:List Rl)(n:Nat)(s:Rat×List Rat):Rl:=yo k (n:Int) (H.hs.getD n K3) s.1
def B2(H:Hs)(k:List Rl)(n:Nat)(s:Rat×List Rat):Dq:=P2 H (H.hs.getD n K3) s.1 (J6 H k n s) (B3 H (n:Int) s.2 (J6 H k n s).wo)
def A7(H:Hs)(k:List Rl):Nat->Rat×List Rat
 | 0=>((H.start:Rat),H.ws.map λw=>(w.F3:Rat))
 |n+1=>a4u H (B2 H k n (A7 H k n)) (A7 H k n)
def dN(H:Hs):Nat->Int
 | 0=>1
 |n+1=>H.kept.den*dB H (dN H n)
theorem Sz.Vj(h:Sz t M y)(h0:0<=y)(h1:y<=1000000):Sz t 2000000 y:=by
 have n0:0<=y.num:=Rat.num_nonneg.mpr h0;have n1:y.num<=1000000*y.den:=by
  have:=(zx y 1000000).mp h1;have e:(1000000:Rat).num=1000000:=rfl;have f:(1000000:Rat).den=1:=rfl;rw[e,f]at this
  simp_all
 have hd:=y.den_pos;exact⟨h.f.pos,h.f.low,h.f.dvd,by show(y.num.natAbs:Int)<=2000000*(y.den:Int);lia⟩
theorem kG.bt(h:kG y):Bt 4 y.num/\Bt 4 (y.den:Int)/\0<y.num/\0<(y.den:Int):=by have h1:=ko h.pos;have h2:=h.le;have h3:=h.den;have h4:=y.den_pos;exact⟨⟨by show y.num.natAbs<16;lia⟩,⟨by show((y.den:Int)).natAbs<16;exact dH A2 A9⟩,h1,by simp_all⟩
theorem wz{H:Hs}(hH:R4 H):∀n,0<dN H n/\Bt (16*n+1) (dN H n)
 | 0=>⟨by show(0:Int)<1;decide,⟨by show(1:Int).natAbs<2;decide⟩⟩
 |n+1=>by obtain⟨p,b⟩:=wz hH n;obtain⟨l1,l2,l3,l4⟩:=hH.left.bt;obtain⟨k1,k2,k3,k4⟩:=hH.kept.bt;refine⟨S9 k4 (S9 (S9 (S9 l4 p) l3) k3),?_⟩;exact(k2.mul (((l2.mul b).mul l1).mul k1)).mono (by lia)
theorem pH(hH:R4 a){n:Nat}(hn:n<=24):eH (dN a n)/\eH (dN a n*a.kept.num)/\eH (dA a (dN a n))/\eH (dB a (dN a n)):=by obtain⟨p,b⟩:=wz hH n;obtain⟨l1,l2,l3,l4⟩:=hH.left.bt;obtain⟨k1,k2,k3,k4⟩:=hH.kept.bt;exact⟨⟨p,b.mono (by lia)⟩,⟨S9 p k3,(b.mul k1).mono (by lia)⟩,⟨S9 l4 p,(l2.mul b).mono (by lia)⟩,⟨S9 (S9 (S9 l4 p) l3) k3,(((l2.mul b).mul l1).mul k1).mono (by lia)⟩⟩
structure FQ(H:Hs)(D:Int)(s:Rat×List Rat):Prop where
 zl:Sz D 2000000 s.1
 l0:0<=s.1
 l1:s.1<=(H.size:Rat)
 ul:s.2.length=H.ws.length
 zu:∀u∈s.2,Sz D 2000000 u/\0<=u/\u<=1000000
theorem EK(h:M<=b):(M:Rat)<=(b:Rat):=by exact_mod_cast h
theorem HZ{wo:Bool}(hw:Bz M S)(hn:M<=24)(ht:0<=t)(hu:Sz b 2000000 u)(u0:0<=u):Sz b (2^31) (dn S t u wo)/\0<=dn S t u wo/\dn S t u wo<=u:=by
 have hm:=hw.most;have zm:Sz b 1000000 ((S.most:Int):Rat):=Sz.int (by omega);have m0:(0:Rat)<=((S.most:Int):Rat):=ak hm.1;unfold dn;by_cases c:t<S.first\/S.last<t;rw[A3 c];exact⟨Sz.zero (by decide),by grind,u0⟩;rw[A4 c];have lb:=Be hw hn ht (by omega);have zl:Sz b 100000000 (((S.most*(S.last-t)):Int):Rat):=Sz.int lb;have l0:(0:Rat)<=(((S.most*(S.last-t)):Int):Rat):=ak (vg hm.1 (by omega))
 cases wo with
 |true=>
  simp only[if_true];have p0:0<=cq (u-(((S.most*(S.last-t)):Int):Rat)):=by unfold cq;split<;>grind
  have p1:cq (u-(((S.most*(S.last-t)):Int):Rat))<=u:=by unfold cq;split<;>grind
  exact⟨((hu.sub zl).cq.mn zm).mono (O3 _) (by decide),bC p0 m0,lY (V6 _ _) p1⟩
 |false=>
  simp only[rA,if_false];exact⟨(hu.mn zm).mono (O3 _) (by decide),bC u0 m0,V6 _ _⟩
theorem mY{k:List Rl}{n:Nat}(hH:R4 a)(hn:n<a.hs.length)(hs:FQ a (dN a n) s):
  (∀x∈B3 a (n:Int) s.2 (J6 a k n s).wo,0<=x)/\vD a (a.hs.getD n K3) (dN a n) s.1 (J6 a k n s) (B3 a (n:Int) s.2 (J6 a k n s).wo)/\vE a (a.hs.getD n K3) s.1 (J6 a k n s) (B3 a (n:Int) s.2 (J6 a k n s).wo):=by
 have hl:=hH.hl;obtain⟨d1,d2,d3,d4⟩:=pH hH (n:=n) (by lia);have hh:pe (a.hs.getD n K3):=hH.hs _ (by rw[Q4,M6 hn];exact iw _)
 have wo:∀x∈B3 a (n:Int) s.2 (J6 a k n s).wo,Sz (dN a n) (2^31) x/\0<=x:=λx hx=>by
  unfold B3 at hx;obtain⟨i,hi,rfl⟩:=Qa hx;rw[gE]at hi;rw[Qi];obtain⟨z1,z2,z3⟩:=hs.zu _ (iw (show i<s.2.length by lia));obtain⟨H,b,_⟩:=HZ (t:=(n:Int)) (wo:=(J6 a k n s).wo) (hH.ws _ (iw (show i<a.ws.length by omega))) (by lia) (by simp_all) z1 z2;exact⟨H,b⟩
 refine⟨λx hx=>(wo x hx).2,a0d hH hh d1 d2 d3 d4 hs.zl (λx hx=>(wo x hx).1) ?_,Je hH hh hs.l0 hs.l1 λx hx=>(wo x hx).2⟩;unfold B3;rw[gE];have:=hH.wl;lia
theorem pz{H:Hs}{k:List Rl}(hH:R4 H):∀n,n<=H.hs.length->FQ H (dN H n) (A7 H k n)
 | 0,_=>by
  have hs:=hH.start;refine⟨Sz.int (by lia),ak hs.1,EK hH.full,by show(H.ws.map _).length=_;rw[C8],?_⟩;intro u hu;obtain⟨w,hw,rfl⟩:=mem_map.mp (show u∈H.ws.map λw=>((w.F3:Int):Rat)from hu);have ha:=(hH.ws w hw).F3;exact⟨Sz.int (by lia),ak ha.1,lY (EK ha.2) (by rfl)⟩
 |n+1,hn=>by
  have ih:=pz (k:=k) hH n (by exact fy A2);obtain⟨w0,Z,N⟩:=mY (k:=k) hH (show n<H.hs.length by assumption) ih;have dvA:dA H (dN H n)∣dN H (n+1):=⟨H.kept.den*(H.left.num*H.kept.num),by show H.kept.den*(dA H (dN H n)*H.left.num*H.kept.num)=_;simp only[fP,O4,gm]⟩;have dvB:dB H (dN H n)∣dN H (n+1):=⟨H.kept.den,by show H.kept.den*dB H (dN H n)=_;rw[O4]⟩;have dvD:dN H n∣dN H (n+1):=rb ⟨H.left.den,by unfold dA;rw[O4]⟩ dvA;have zf:Sz (dB H (dN H n)) (2^60) (B2 H k n (A7 H k n)).fill:=(((Sz.zero (M:=0) (by decide)).add Z.f0).add Z.f1).mono (O3 _) (by decide);have sz:=hH.size;have l1:(A7 H k (n+1)).1<=(H.size:Rat):=N.hi;refine⟨Sz.Vj (M:=2^100) ?_ N.lo (lY l1 (lY (EK sz.2) (by rfl))),N.lo,l1,?_,?_⟩;exact(((ih.zl.mono dvD (cR _)).add ((hH.kept.sz.mul zf).mono (O3 _) (cR _))).sub (Z.tk.mono dvB (cR _))).mono (O3 _) (by decide)
  . show(bD (λu y=>u-y) (A7 H k n).2 (B2 H k n (A7 H k n)).done).length=_;rw[gE,ih.ul,show(B2 H k n (A7 H k n)).done=shr (B3 H (n:Int) (A7 H k n).2 (J6 H k n (A7 H k n)).wo) _ from rfl,gx];unfold B3;rw[gE,ih.ul]
    simp_all
  . intro u hu;obtain⟨i,hi,rfl⟩:=Qa (show u∈bD (λu y=>u-y) (A7 H k n).2 (B2 H k n (A7 H k n)).done from hu);rw[gE]at hi;rw[Qi];obtain⟨z1,z2,z3⟩:=ih.zu _ (iw (show i<(A7 H k n).2.length by lia))
    have ul:=ih.ul;have hl:=hH.hl;have ym:(B2 H k n (A7 H k n)).done[i]∈(B2 H k n (A7 H k n)).done:=iw _;have y0:=N.done _ ym;have zy:=Z.met _ (F8 _ ym);have wi:i<H.ws.length:=by omega
    have wl:(B3 H (n:Int) (A7 H k n).2 (J6 H k n (A7 H k n)).wo).length=H.ws.length:=by unfold B3;rw[gE];simp_all
    have sg:=vP (B3 H (n:Int) (A7 H k n).2 (J6 H k n (A7 H k n)).wo) (B8 H (H.hs.getD n K3) (A7 H k n).1 (J6 H k n (A7 H k n))-mn (D4 (H.hs.getD n K3)) (B8 H (H.hs.getD n K3) (A7 H k n).1 (J6 H k n (A7 H k n)))) i (by simp_all)
    have e1:(B2 H k n (A7 H k n)).done[i]=(B2 H k n (A7 H k n)).done.getD i 0:=by rw[Q4,M6 (by lia)];rfl
    have e2:(B3 H (n:Int) (A7 H k n).2 (J6 H k n (A7 H k n)).wo).getD i 0=dn (H.ws[i]) (n:Int) ((A7 H k n).2[i]'(by simp_all)) (J6 H k n (A7 H k n)).wo:=by unfold B3;simp[Q4,rD,wi,show i<(A7 H k n).2.length by omega]
    obtain⟨_,_,w3⟩:=HZ (t:=(n:Int)) (wo:=(J6 H k n (A7 H k n)).wo) (hH.ws _ (iw wi)) (by lia) (by simp_all) z1 z2
    have y1:(B2 H k n (A7 H k n)).done[i]<=(A7 H k n).2[i]'(by omega):=by
     rw[e1]
     erw [sg]
     refine lY (V6 _ _) ?_;rw[e2];exact w3
    refine⟨Sz.Vj (M:=2^100) (((z1.mono dvD (cR _)).sub (zy.mono dvA (cR _))).mono (O3 _) (by decide)) (by grind) (by grind),by grind,by grind⟩
theorem getD_mem{l:List T}(a:T)(h:i<l.length):l.getD i a∈l:=by rw[Q4,M6 h];exact iw _
theorem QS{β:Type}{f:T->l5}{g:β->l5}{l:List T}{m:List β}(a:T)(b:β)(hm:m.length=l.length):bD (λx y=>af [x,y]) (l.map f) (m.map g)=(R8 l.length).map λi=>.tuple [f (l.getD i a),g (m.getD i b)]:=by
 apply GH;simp[hm]
 . intro i h1 h2;have hl:i<l.length:=by simpa using h2
   simp[Q4,hl,show i<m.length by omega]
theorem Cn{β:Type}{f:T->l5}{g:β->l5}{l:List T}{m:List β}(a:T)(b:β){Fe:Ds->Option PV}{ds:Ds}{z:Nat->l5}(hm:m.length=l.length)(h:∀i,i<l.length->∃pv,Fe (U (.dat (f (l.getD i a)))::U (.dat (g (m.getD i b)))::ds)=U pv/\pv.d=z i):O2 (gA 2) F4 Fe ds (bD (λx y=>af [x,y]) (l.map f) (m.map g))=U ((R8 l.length).map z):=by
 rw[QS a b hm];have key:∀r:List Nat,(∀i∈r,i<l.length)->O2 (gA 2) F4 Fe ds (r.map λi=>.tuple [f (l.getD i a),g (m.getD i b)])=U (r.map z):=by
  intro r;induction r with
  |nil=>intro _;rfl
  |cons i r ih=>
   intro hr;obtain⟨pv,e1,e2⟩:=h i (hr i (by simp));rw[D8];show(((Fe (U (.dat (f (l.getD i a)))::U (.dat (g (m.getD i b)))::ds)).bind λy=>(O2 (gA 2) F4 Fe ds (r.map λi=>.tuple [f (l.getD i a),g (m.getD i b)])).bind λl=>U (y.d::l)))=_;rw[e1,ih λj hj=>hr j (by simp[hj])];simp only[S7,D8,e2]
 exact key _ λi hi=>mem_range.mp hi
theorem JK(h:l.length=a.ws.length):(B3 a t l X).map qd=(R8 a.ws.length).map λi=>qd (dn (a.ws.getD i gW) t (l.getD i 0) X):=by
 unfold B3;apply GH;simp[h]
 . intro i h1 h2;have hl:i<a.ws.length:=by simpa using h2
   simp[Q4,hl,show i<l.length by omega]
theorem BX{b:List Rat}(h:b.length=l.length):(bD (λu y=>u-y) l b).map qd=(R8 l.length).map λi=>qd (l.getD i 0-b.getD i 0):=by
 apply GH;simp[h]
 . intro i h1 h2;have hl:i<l.length:=by simpa using h2
   simp[Q4,hl,show i<b.length by omega]
def J2(H:Hs)(k:List Rl)(n:Nat):List l5:=(R8 n).map λi=>U9 (B2 H k i (A7 H k i))
theorem oa{k:List Rl}{n:Nat}(h:s.2.length=a.ws.length):(B2 a k n s).done.length=s.2.length:=by
 show(shr (B3 a (n:Int) s.2 (J6 a k n s).wo) _).length=_;rw[gx];unfold B3;rw[gE]
 simp_all
theorem Bc{k:List Rl}{n:Nat}(hH:R4 a)(hn:n<a.hs.length)(hs:FQ a (dN a n) s):
  RO s.1/\RO (B2 a k n s).fill/\RO (a.kept*(B2 a k n s).fill)/\RO (s.1+a.kept*(B2 a k n s).fill)/\RO (B2 a k n s).take/\(∀i,i<a.ws.length->RO (s.2.getD i 0)/\RO ((B2 a k n s).done.getD i 0)):=by
 obtain⟨w0,Z,N⟩:=mY (k:=k) hH hn hs;have hl:=hH.hl;obtain⟨d1,d2,d3,d4⟩:=pH hH (n:=n) (by lia);obtain⟨k1,k2,k3,k4⟩:=hH.kept.bt;have d5:eH (a.kept.den*dB a (dN a n)):=⟨S9 k4 d4.pos,((wz hH (n+1)).2).mono (by lia)⟩;have zf:Sz (dB a (dN a n)) (2^60) (B2 a k n s).fill:=(((Sz.zero (M:=0) (by decide)).add Z.f0).add Z.f1).mono (O3 _) (by decide);have zk:=hH.kept.sz.mul zf;have dvD:dN a n∣a.kept.den*dB a (dN a n):=⟨a.kept.den*(a.left.den*(a.left.num*a.kept.num)),by unfold dB dA;simp only[fP,O4,gm]⟩;refine⟨hs.zl.ok d1 (by decide),zf.ok d4 (by decide),zk.ok d5 (by decide),((hs.zl.mono dvD (cR _)).add zk).ok d5 (by decide),Z.tk.ok d4 (by decide),λi hi=>?_⟩;have ul:=hs.ul;have dl:=oa (k:=k) (n:=n) ul;exact⟨(hs.zu _ (getD_mem 0 (by simp_all))).1.ok d1 (by decide),(Z.met _ (F8 _ (show(B2 a k n s).done.getD i 0∈(B2 a k n s).done from getD_mem 0 (by simp[*])))).ok Z.Q9 (by decide)⟩
structure FW(k:List Rl):Prop where
 rs:∀r∈k,UU r
theorem BR(H:Hs)(k:List Rl)(n:Nat):J2 H k (n+1)=J2 H k n++[U9 (B2 H k n (A7 H k n))]:=by unfold J2;rw[Gy,T2];rfl
theorem qA(d:Dq):w5 (U9 d) (.int 2)=U (.dat (qd d.fill)):=rfl
theorem qz(d:Dq):w5 (U9 d) (.int 3)=U (.dat (qd d.take)):=rfl
theorem uw(d:Dq):w5 (U9 d) (.int 5)=U (.dat (.tuple (d.done.map qd))):=rfl
theorem Ut{k:List Rl}{n:Nat}(hH:R4 a)(hk:FW k)(hn:n<a.hs.length)(y8 y9 y10:Option PV):∃z8 z9 z10,
  jT [U (.dat (ck a)),U (.dat (.tuple (k.map C5))),U (.dat (cE a)),U (.dat (qd (A7 a k n).1)),U (.dat (.list ((A7 a k n).2.map qd))),U (.own (J2 a k n)),iD (n:Int),U (.dat (C1 (a.hs.getD n K3))),y8,y9,y10] =
   U (.next [U (.dat (ck a)),U (.dat (.tuple (k.map C5))),U (.dat (cE a)),U (.dat (qd (A7 a k (n+1)).1)),U (.dat (.list ((A7 a k (n+1)).2.map qd))),U (.own (J2 a k (n+1))),iD (n:Int),U (.dat (C1 (a.hs.getD n K3))),z8,z9,z10]):=by
 have so:=pz (k:=k) hH n (by exact fy A2)
 obtain⟨w0,Z,N⟩:=mY (k:=k) hH hn so;obtain⟨n1,n2,n3,n4,n5,n6⟩:=Bc (k:=k) hH hn so;have hl:=hH.hl;have wl:=hH.wl;have ul:=so.ul;have re:=YC (k:=k) (t:=(n:Int)) (h:=a.hs.getD n K3) n1 hk.rs;have de:=Lf hH Z;have dl:=oa (k:=k) (n:=n) ul;have i2:=qy a;have r3:=Of (J6 a k n (A7 a k n));have s4:=qx a;have pl:(J2 a k n).length=n:=by unfold J2;rw[C8,iy]
 have cw:∀(x0 x1 x2 x3 x4 x5 x7 x9 x10:Option PV),O2 (gA 2) F4 mU [x0,x1,x2,x3,x4,x5,iD (n:Int),x7,U (.dat (C5 (J6 a k n (A7 a k n)))),x9,x10] (bD (λx y=>af [x,y]) (a.ws.map G7) ((A7 a k n).2.map qd))=U ((B3 a (n:Int) (A7 a k n).2 (J6 a k n (A7 a k n)).wo).map qd):=λx0 x1 x2 x3 x4 x5 x7 x9 x10=>by
  rw[Cn gW 0 ul (z:=λi=>qd (dn (a.ws.getD i gW) (n:Int) ((A7 a k n).2.getD i 0) (J6 a k n (A7 a k n)).wo)) λi hi=>?_,JK ul];refine⟨.dat (qd (dn (a.ws.getD i gW) (n:Int) ((A7 a k n).2.getD i 0) (J6 a k n (A7 a k n)).wo)),?_,rfl⟩;unfold mU;walk_at "r";rw[r3];walk_at "r";exact Yh (hH.ws _ (getD_mem gW hi)) (by lia) (by simp_all) Z.dD (so.zu _ (getD_mem 0 (by simp_all))).1
 have cu:∀(x0 x1 x2 x3 x4 x5 x6 x7 x8 x9 x10:Option PV),O2 (gA 2) F4 mT [x0,x1,x2,x3,x4,x5,x6,x7,x8,x9,x10] (bD (λx y=>af [x,y]) ((A7 a k n).2.map qd) ((B2 a k n (A7 a k n)).done.map qd))=U ((A7 a k (n+1)).2.map qd):=λx0 x1 x2 x3 x4 x5 x6 x7 x8 x9 x10=>by
  rw[Cn 0 0 dl (z:=λi=>qd ((A7 a k n).2.getD i 0-(B2 a k n (A7 a k n)).done.getD i 0)) λi hi=>?_,<-BX dl];rfl;refine⟨.dat (qd ((A7 a k n).2.getD i 0-(B2 a k n (A7 a k n)).done.getD i 0)),?_,rfl⟩;unfold mT;walk_at "r";exact V5 (n6 i (by simp_all)).1 (n6 i (by simp_all)).2
 have d2:=qA (B2 a k n (A7 a k n));have d3:=qz (B2 a k n (A7 a k n));have d5:=uw (B2 a k n (A7 a k n));have lv':(A7 a k (n+1)).1=(A7 a k n).1+a.kept*(B2 a k n (A7 a k n)).fill-(B2 a k n (A7 a k n)).take:=rfl;rw[BR,lv'];replace re:jB [.tuple (k.map C5),.int (n:Int),C1 (a.hs.getD n K3),qd (A7 a k n).1]=U (.dat (C5 (J6 a k n (A7 a k n)))):=re;replace de:jL [C1 (a.hs.getD n K3),cE a,qd (A7 a k n).1,C5 (J6 a k n (A7 a k n)),.list ((B3 a (n:Int) (A7 a k n).2 (J6 a k n (A7 a k n)).wo).map qd)]=U (.dat (U9 (B2 a k n (A7 a k n)))):=de;unfold jT;walk_at "r";rw[re];walk_at "r";rw[i2];walk_at "r";rw[show iU [.tuple (a.ws.map G7),.list ((A7 a k n).2.map qd)]=U (bD (λx y=>af [x,y]) (a.ws.map G7) ((A7 a k n).2.map qd))from rfl];walk_at "r";rw[A3 (by simp;lia),cw];walk_at "r";rw[de];walk_at "r";rw[P8 _ (l:=J2 a k n) rfl (by lia)];walk_at "r";rw[s4,d2];walk_at "r";rw[fG hH.kept.ok n2];walk_at "r";rw[dP n1 n3,d3];walk_at "r";rw[V5 n4 n5];walk_at "r";rw[d5];walk_at "r";rw[show iU [.list ((A7 a k n).2.map qd),.tuple ((B2 a k n (A7 a k n)).done.map qd)]=U (bD (λx y=>af [x,y]) ((A7 a k n).2.map qd) ((B2 a k n (A7 a k n)).done.map qd))from rfl];walk_at "r";rw[A3 (by simp;lia),cu];exact⟨_,_,_,rfl⟩
theorem a3g{k:List Rl}(hH:R4 a)(hk:FW k):pj [ck a,.tuple (k.map C5)]=U (.dat (.tuple (J2 a k a.hs.length))):=by
 have i0:=nV a;have i1:=lI a;have i2:=qy a;have s1:=uv a;have wl:=hH.wl;have hl:=hH.hl;have c0:∀(ds:Ds),O2 F7 F4 mV ds (a.ws.map G7)=U ((A7 a k 0).2.map qd):=λds=>by
  rw[comp_map (f:=λw=>qd (w.F3:Rat)) (λw hw=>⟨.dat (qd (w.F3:Rat)),by unfold mV;walk_at "r";rw[sF];walk_at "r";rfl,rfl⟩)];show _=U ((a.ws.map λw=>((w.F3:Int):Rat)).map qd);rw[V3];rfl
 unfold pj;walk_at "r";rw[i1];walk_at "r";rw[s1];walk_at "r";rw[i2];walk_at "r";rw[A3 (by rw[C8];exact C3 A2 A9),c0]
 walk_at "r";rw[i0];walk_at "r";obtain⟨ds',e1,y6,y7,y8,y9,y10,rfl⟩:=nY (gt:=eJ 2 (N0 6 (N0 7 eM))) (G:=jT) (items:=Y6 0 (a.hs.map C1)) (ds:=[U (.dat (ck a)),U (.dat (.tuple (k.map C5))),U (.dat (cE a)),U (.dat (qd (A7 a k 0).1)),U (.dat (.list ((A7 a k 0).2.map qd))),U (.own []),J,J,J,J,J])
  (λn ds=>∃y6 y7 y8 y9 y10,ds=[U (.dat (ck a)),U (.dat (.tuple (k.map C5))),U (.dat (cE a)),U (.dat (qd (A7 a k n).1)),U (.dat (.list ((A7 a k n).2.map qd))),U (.own (J2 a k n)),y6,y7,y8,y9,y10])
  ⟨J,J,J,J,J,rfl⟩ (by
   rintro n d ds hd ⟨y6,y7,y8,y9,y10,rfl⟩;rw[sN,R9]at hd;have hn:n<a.hs.length:=by
    by_cases c:n<a.hs.length;exact c;rw[oZ (by simp_all)]at hd;cases hd
   rw[M6 hn]at hd;have hg:a.hs.getD n K3=a.hs[n]:=by rw[Q4,M6 hn];rfl
   have hd':d=.tuple [.int (n:Int),C1 (a.hs.getD n K3)]:=by rw[hg];simp only[jA,ro]at hd;rw[<-hd,ra]
   subst hd';obtain⟨z8,z9,z10,e⟩:=Ut (k:=k) hH hk hn y8 y9 y10;exact⟨_,_,rfl,.inl e,_,_,_,_,_,rfl⟩)
 rw[xN,C8]at e1
 erw [e1]
 walk_at "r"
theorem NP{k:List Rl}{n:Nat}(hH:R4 a)(hk:FW k)(hn:n<a.hs.length)(y6 y7:Option PV):∃z6 z7,
  mr [U (.dat (ck a)),U (.dat (.tuple (k.map C5))),U (.dat (qd (A7 a k n).1)),U (.dat (.list ((A7 a k n).2.map qd))),U (.own (J2 a k n)),iD (0+(n:Int)),y6,y7] =
   U (.next [U (.dat (ck a)),U (.dat (.tuple (k.map C5))),U (.dat (qd (A7 a k (n+1)).1)),U (.dat (.list ((A7 a k (n+1)).2.map qd))),U (.own (J2 a k (n+1))),iD (0+(n:Int)),z6,z7]):=by
 have so:=pz (k:=k) hH n (by exact fy A2)
 obtain⟨w0,Z,N⟩:=mY (k:=k) hH hn so;obtain⟨n1,n2,n3,n4,n5,n6⟩:=Bc (k:=k) hH hn so;have hl:=hH.hl;have wl:=hH.wl;have ul:=so.ul;have hat:T7 (a.hs.map C1) (n:Int)=U (C1 (a.hs.getD n K3)):=by
  have:=map_getD (f:=C1) (l:=a.hs) K3 hn
  rwa [ra]at this
 have re:pf [.tuple (k.map C5),C1 (a.hs.getD n K3),.int (n:Int),qd (A7 a k n).1]=U (.dat (C5 (J6 a k n (A7 a k n)))):=Tx (k:=k) (t:=(n:Int)) (h:=a.hs.getD n K3) n1 hk.rs;have de:ph [ck a,.int (n:Int),C5 (J6 a k n (A7 a k n)),qd (A7 a k n).1,.list ((A7 a k n).2.map qd)]=U (.dat (U9 (B2 a k n (A7 a k n)))):=
  TK (t:=(n:Int)) (und:=(A7 a k n).2) (r:=J6 a k n (A7 a k n)) hH (by simp_all) hat ul (λu hu=>⟨(so.zu u hu).1,(so.zu u hu).2.1⟩) so.l1 Z N
 have dl:=oa (k:=k) (n:=n) ul;have i0:=nV a;have i1:=lI a;have s4:=qx a;have pl:(J2 a k n).length=n:=by unfold J2;rw[C8,iy]
 have d2:=qA (B2 a k n (A7 a k n));have d3:=qz (B2 a k n (A7 a k n));have d5:=uw (B2 a k n (A7 a k n));have cu:∀(x0 x1 x2 x4 x5 x6:Option PV),O2 F7 F4 pU [x0,x1,x2,U (.dat (.list ((A7 a k n).2.map qd))),x4,x5,x6,U (.dat (U9 (B2 a k n (A7 a k n))))] (fV 0 (A7 a k n).2.length)=U ((A7 a k (n+1)).2.map qd):=λx0 x1 x2 x4 x5 x6=>by
  rw[xP (f:=λi=>qd ((A7 a k n).2.getD i 0-(B2 a k n (A7 a k n)).done.getD i 0)) λi hi=>?_,<-BX dl];rfl
  . refine⟨.dat (qd ((A7 a k n).2.getD i 0-(B2 a k n (A7 a k n)).done.getD i 0)),?_,rfl⟩;unfold pU;walk_at "r";rw[d5];walk_at "r";rw[map_getD (f:=qd) (l:=(A7 a k n).2) 0 hi,map_getD (f:=qd) (l:=(B2 a k n (A7 a k n)).done) 0 (by simp_all)];walk_at "r";exact bU (n6 i (by simp_all)).1 (n6 i (by simp_all)).2
 have lv':(A7 a k (n+1)).1=(A7 a k n).1+a.kept*(B2 a k n (A7 a k n)).fill-(B2 a k n (A7 a k n)).take:=rfl;rw[BR,lv',ra];unfold mr;walk_at "r";rw[i0];walk_at "r";rw[hat];walk_at "r";rw[re];walk_at "r";rw[de];walk_at "r";rw[i1];walk_at "r";rw[s4,d2];walk_at "r";rw[pF hH.kept.ok n2];walk_at "r";rw[iZ n1 n3,d3];walk_at "r";rw[bU n4 n5];walk_at "r";rw[C8,Y2 (by lia)];walk_at "r";rw[A3 (by simp[fV];lia)]
 erw [cu]
 walk_at "r";rw[P8 _ (l:=J2 a k n) rfl (by lia)];exact⟨_,_,rfl⟩
theorem ZV{k:List Rl}(hH:R4 a)(hk:FW k):ny [ck a,.tuple (k.map C5)]=U (.dat (.tuple (J2 a k a.hs.length))):=by
 have i0:=nV a;have i1:=lI a;have i2:=qy a;have s1:=uv a;have wl:=hH.wl;have hl:=hH.hl;have c0:∀(ds:Ds),O2 F7 F4 pV ds (a.ws.map G7)=U ((A7 a k 0).2.map qd):=λds=>by
  rw[comp_map (f:=λw=>qd (w.F3:Rat)) (λw hw=>⟨.dat (qd (w.F3:Rat)),by unfold pV;walk_at "r";rw[sF];walk_at "r";rfl,rfl⟩)];show _=U ((a.ws.map λw=>((w.F3:Int):Rat)).map qd);rw[V3];rfl
 unfold ny;walk_at "r";rw[i1];walk_at "r";rw[s1];walk_at "r";rw[i2];walk_at "r";rw[A3 (by rw[C8];exact C3 A2 A9),c0];walk_at "r";rw[i0];walk_at "r";rw[C8,Y2 (by lia)]
 walk_at "r";obtain⟨ds',e1,y5,y6,y7,rfl⟩:=bL (gt:=D3 5) (G:=mr) (lo:=0) (n:=a.hs.length) (ds:=[U (.dat (ck a)),U (.dat (.tuple (k.map C5))),U (.dat (qd (A7 a k 0).1)),U (.dat (.list ((A7 a k 0).2.map qd))),U (.own []),J,J,J])
  (λn ds=>∃y5 y6 y7,ds=[U (.dat (ck a)),U (.dat (.tuple (k.map C5))),U (.dat (qd (A7 a k n).1)),U (.dat (.list ((A7 a k n).2.map qd))),U (.own (J2 a k n)),y5,y6,y7])
  ⟨J,J,J,rfl⟩ (by rintro n ds hn ⟨y5,y6,y7,rfl⟩;obtain⟨z6,z7,e⟩:=NP (k:=k) hH hk hn y6 y7;exact⟨_,_,rfl,.inl e,_,_,_,rfl⟩)
 erw [e1]
 walk_at "r"
structure XZ(H:Hs)(h:Hr)(lv:Rat)(r:Rl)(ws:List Rat):Prop where
 a6i:0<=(P2 H h lv r ws).V8
 a6h:(P2 H h lv r ws).V8<=ax h
 a6e:0<=(P2 H h lv r ws).give
 a6d:(P2 H h lv r ws).give<=ja h
 a6g:0<=(P2 H h lv r ws).fill
 a6f:(P2 H h lv r ws).fill<=(H.fill:Rat)
 a5Z:0<=(P2 H h lv r ws).take
 take1:(P2 H h lv r ws).take<=(H.take:Rat)
 a6c:0<=(P2 H h lv r ws).X6
 a6b:(P2 H h lv r ws).X6<=D4 h
 both:¬(0<(P2 H h lv r ws).fill/\0<(P2 H h lv r ws).take)
 a4a:aK h-D4 h+(P2 H h lv r ws).V8+(P2 H h lv r ws).X6+H.left*(P2 H h lv r ws).take-(P2 H h lv r ws).give-(P2 H h lv r ws).fill-P1 (P2 H h lv r ws).done 0=gK H h lv r ws-X9 H h lv r ws-nL H h lv r ws
 lt:H.left*(P2 H h lv r ws).take=cb H h lv r ws+dk H h lv r ws
 sp0:0<=gK H h lv r ws-X9 H h lv r ws-nL H h lv r ws
 a6a:(P2 H h lv r ws).X6≠0->(P2 H h lv r ws).V8=ax h/\gK H h lv r ws-X9 H h lv r ws-nL H h lv r ws=0/\(P2 H h lv r ws).give=0/\(P2 H h lv r ws).fill=0/\∀y∈(P2 H h lv r ws).done,y=0
theorem Du:∀(l:List Rat),(∀x∈l,0<=x)->∀y∈shr l 0,y=0
 | [],_,y,hy=>by cases hy
 |x::l,h,y,hy=>by
  have hx:=h x (by simp)
  have e:mn x 0=0:=ng hx;have s:shr (x::l) 0=0::shr l 0:=by
   show mn x 0::shr l (0-mn x 0)=_;rw[e,show(0:Rat)-0=0 by grind]
  rw[s]at hy;rcases List.mem_cons.mp hy with rfl|hy
  rfl;exact Du l (λz hz=>h z (by simp[hz])) y hy
theorem Df:∀(l:List Rat),(∀x∈l,x=0)->P1 l 0=0
 | [],_=>rfl
 |x::l,h=>by
  have hx:=h x (by simp);show P1 l (0+x)=0;rw[hx,show(0:Rat)+0=0 by grind];exact Df l λy hy=>h y (by simp[hy])
theorem a2Q{r:Rl}(hH:R4 a)(hh:pe d)(l0:0<=y)(l1:y<=(a.size:Rat))(w0:∀x∈l,0<=x):XZ a d y r l:=by
 obtain⟨q1,q2⟩:=Bi hh;have N:=Je (r:=r) hH hh l0 l1 w0;have s0:0<=aK d:=ak hh.Q6.1;have n0:0<=D4 d:=ak hh.need.1;have b0:0<=ax d:=ak q1.1;have g0:0<=ja d:=ak q2.1;have t0:(0:Rat)<=((a.take:Int):Rat):=ak hH.take.1;have fi0:(0:Rat)<=((a.fill:Int):Rat):=ak hH.fill.1;obtain⟨li,lm⟩:=yJ hH.left.pos;obtain⟨ki,km⟩:=yJ hH.kept.pos;have lp:=uZ hH.left.pos;have m0:0<=mn (a.take:Rat) y:=bC t0 l0;have o0:0<=Q8 a y r.ta:=by
  unfold Q8;split;grind;exact ij lp m0
 have o1:Q8 a y r.ta<=a.left*(a.take:Rat):=by
  unfold Q8;split;exact ij lp t0;exact Hx (V6 _ _) lp
 have r0:0<=B8 a d y r:=by unfold B8;grind
 have nw:∀x∈D4 d::l,0<=x:=λx hx=>by
  rcases List.mem_cons.mp hx with rfl|hx
  exact n0;exact w0 x hx
 obtain⟨ur,u0,ud⟩:=Dy (D4 d::l) (B8 a d y r) r0 nw;have ur':ff a d y r l<=0+aK d+ax d+Q8 a y r.ta:=ur;have u0':0<=ff a d y r l:=u0;have a1:dJ a d y r l<=aK d:=V6 _ _;have a2:dJ a d y r l<=ff a d y r l:=ar _ _;have a3:0<=dJ a d y r l:=bC s0 u0';have b1:cb a d y r l<=Q8 a y r.ta:=V6 _ _;have b2:cb a d y r l<=ff a d y r l-dJ a d y r l:=ar _ _;have b3:0<=cb a d y r l:=bC o0 (by grind)
 have c2:=N.bo;have c3:iK a d y r l<=ax d:=V6 _ _;have c4:0<=iK a d y r l:=by grind
 have sr:=N.sr;have br:=N.br;have br1:oC a d y r l<=ax d-iK a d y r l:=by unfold oC;split<;>grind
 have gv0:0<=dk a d y r l:=by
  unfold dk;split;exact bC (by grind) g0;grind
 have gv1:cb a d y r l+dk a d y r l<=Q8 a y r.ta:=by
  unfold dk;split;have:=V6 (Q8 a y r.ta-cb a d y r l) (ja d);grind;grind
 have gv2:dk a d y r l<=ja d:=by
  unfold dk;split;exact ar _ _;exact g0
 have tk0:0<=fK a d y r l:=ij (by grind) li
 have tk1:fK a d y r l<=(a.take:Rat):=by
  have z:fK a d y r l<=a.left*(a.take:Rat)*a.left⁻¹:=QP (lY gv1 o1) li;have e:a.left*(a.take:Rat)*a.left⁻¹=(a.take:Rat):=by grind
  rw[e]at z;exact z
 have lt:a.left*fK a d y r l=cb a d y r l+dk a d y r l:=by unfold fK;grind
 have p0:cq ((a.size:Rat)-y)=(a.size:Rat)-y:=by unfold cq;split<;>grind
 have rm0:0<=roomQ a y:=by unfold roomQ;rw[p0];exact bC fi0 (ij (by grind) ki)
 have Iu:roomQ a y<=(a.fill:Rat):=by unfold roomQ;exact V6 _ _
 have fq0:0<=fk a d y r l:=by unfold fk yU;split<;>grind
 have fq1:fk a d y r l<=(a.fill:Rat):=by unfold fk yU;split<;>grind
 have fq2:fK a d y r l≠0->fk a d y r l=0:=λz=>by unfold fk yU;rw[A3 (.inr z)]
 have d0:X9 a d y r l<=gK a d y r l:=V6 _ _;have d1:X9 a d y r l<=fk a d y r l:=ar _ _;have d2:0<=X9 a d y r l:=bC sr fq0;have d3:aZ a d y r l<=fk a d y r l-X9 a d y r l:=ar _ _;have d4:0<=aZ a d y r l:=bC br (by grind);have d5:aZ a d y r l<=oC a d y r l:=V6 _ _;have e0:0<=nL a d y r l:=bC (by grind) (by grind)
 have e1:nL a d y r l<=gK a d y r l-X9 a d y r l:=V6 _ _;have e2:nL a d y r l<=ja d-dk a d y r l:=ar _ _;have k0:mn (D4 d) (B8 a d y r)<=D4 d:=V6 _ _;have k1:0<=mn (D4 d) (B8 a d y r):=bC n0 r0;have us:ff a d y r l=mn (D4 d) (B8 a d y r)+P1 (shr l (B8 a d y r-mn (D4 d) (B8 a d y r))) 0:=by
  show P1 (shr l (B8 a d y r-mn (D4 d) (B8 a d y r))) (0+mn (D4 d) (B8 a d y r))=_;rw[jZ];grind
 have sre:gK a d y r l=aK d-dJ a d y r l:=rfl;refine⟨?_,?_,?_,?_,?_,?_,tk0,tk1,?_,?_,?_,?_,lt,by grind,?_⟩;show 0<=iK a d y r l+aZ a d y r l;grind;show iK a d y r l+aZ a d y r l<=ax d;grind;show 0<=dk a d y r l+nL a d y r l;grind;show dk a d y r l+nL a d y r l<=ja d;grind;show 0<=0+X9 a d y r l+aZ a d y r l;grind;show 0+X9 a d y r l+aZ a d y r l<=(a.fill:Rat);grind;show 0<=D4 d-mn (D4 d) (B8 a d y r);grind;show D4 d-mn (D4 d) (B8 a d y r)<=D4 d;grind
 . show ¬(0<0+X9 a d y r l+aZ a d y r l/\0<fK a d y r l);rintro⟨z1,z2⟩;have:=fq2 (by grind);grind
 . show aK d-D4 d+(iK a d y r l+aZ a d y r l)+(D4 d-mn (D4 d) (B8 a d y r))+a.left*fK a d y r l-(dk a d y r l+nL a d y r l)-(0+X9 a d y r l+aZ a d y r l)-P1 (shr l (B8 a d y r-mn (D4 d) (B8 a d y r))) 0=_;rw[lt];grind
 . intro hl;have hl':D4 d-mn (D4 d) (B8 a d y r)≠0:=hl;have me:mn (D4 d) (B8 a d y r)=B8 a d y r:=by
    unfold mn at hl' ⊢;split at hl';exact absurd (by grind) hl';rename_i c;rw[A4 c]
   have rz:B8 a d y r-mn (D4 d) (B8 a d y r)=0:=by rw[me];grind
   have dz:∀H∈shr l (B8 a d y r-mn (D4 d) (B8 a d y r)),H=0:=by rw[rz];exact Du l w0
   have ue:ff a d y r l=0+aK d+ax d+Q8 a y r.ta:=by rw[us,Df _ dz,me];show B8 a d y r+0=B8 a d y r;grind
   have x0:dJ a d y r l=aK d:=qr (by grind);have x1:cb a d y r l=Q8 a y r.ta:=qr (by grind)
   have x2:iK a d y r l=ax d:=by grind
   refine⟨?_,by grind,?_,?_,dz⟩;show iK a d y r l+aZ a d y r l=ax d;grind;show dk a d y r l+nL a d y r l=0;grind;show 0+X9 a d y r l+aZ a d y r l=0;grind
theorem a3e{und:List Rat}(hH:R4 a)(hu:und.length=a.ws.length)(N:vE a d y e (B3 a t und e.wo))(hj:m<a.ws.length)(u0:∀u∈und,0<=u):
  0<=(P2 a d y e (B3 a t und e.wo)).done.getD m 0/\(P2 a d y e (B3 a t und e.wo)).done.getD m 0<=(if (a.ws.getD m gW).first<=t/\t<=(a.ws.getD m gW).last then((a.ws.getD m gW).most:Rat)else 0):=by
 have wl:(B3 a t und e.wo).length=a.ws.length:=by unfold B3;simp[hu]
 have dl:(P2 a d y e (B3 a t und e.wo)).done.length=a.ws.length:=by
  show(shr (B3 a t und e.wo) _).length=_;rw[gx,wl]
 have m0:(0:Rat)<=((a.ws.getD m gW).most:Rat):=ak (hH.ws _ (getD_mem gW hj)).most.1;refine⟨N.done _ (getD_mem (l:=(P2 a d y e (B3 a t und e.wo)).done) 0 (by simp_all)),?_⟩;have sg:=vP (B3 a t und e.wo) (B8 a d y e-mn (D4 d) (B8 a d y e)) m (by simp_all)
 erw [sg]
 refine lY (V6 _ _) ?_;have e2:(B3 a t und e.wo).getD m 0=dn (a.ws.getD m gW) t (und.getD m 0) e.wo:=by unfold B3;simp[Q4,rD,hj,show m<und.length by omega]
 rw[e2];unfold dn;by_cases c:t<(a.ws.getD m gW).first\/(a.ws.getD m gW).last<t
 . rw[A3 c];split;exact m0;rfl
 . rw[A4 c,A3 (show(a.ws.getD m gW).first<=t/\t<=(a.ws.getD m gW).last from⟨by simp_all,by simp_all⟩)];exact ar _ _
noncomputable def sC:List Rat->Rat->Rat
 | [],z=>z
 |x::l,z=>sC l (z-x)
theorem xw:∀(l:List Rat) (z:Rat),sC l z=z-P1 l 0
 | [],z=>by show z=z-0;grind
 |x::l,z=>by
  show sC l (z-x)=z-P1 l (0+x);rw[xw l (z-x),jZ l (0+x)];grind
noncomputable def BA:List Rat->Rat->Prop
 | [],z=>RO z
 |x::l,z=>RO z/\RO x/\BA l (z-x)
theorem Kx{D X:Int}(hD:eH D):∀(l:List Rat) (Z:Int) (z:Rat),(∀x∈l,Sz D X x)->Sz D Z z->0<=X->Z+l.length*X<=2^190->BA l z/\Sz D (Z+l.length*X) (sC l z)
 | [],Z,z,_,hz,_,hb=>⟨hz.ok hD (by simp at hb;exact H9 A2 A9),by
  have e:Z+(([]:List Rat).length:Int)*X=Z:=by simp
  rw[e];exact hz⟩
 |x::l,Z,z,hl,hz,hX,hb=>by
  have hx:=hl x (by simp)
  have e:Z+((x::l).length:Int)*X=Z+X+l.length*X:=by rw[J4];push_cast;rw[qX];lia
  rw[e]at hb⊢;have nn:0<=(l.length:Int)*X:=vg (by simp_all) hX;obtain⟨h1,h2⟩:=Kx hD l (Z+X) (z-x) (λy hy=>hl y (by simp[hy])) (hz.sub hx) hX hb;have z0:=hz.m0;exact⟨⟨hz.ok hD (by lia),hx.ok hD (by lia),h1⟩,h2⟩
theorem BQ:∀(l:List Rat) (z:Rat) (a b c y:Option PV),mK l z->∃y',J9 (D3 4) jP (l.map qd) [a,b,c,U (.dat (qd z)),y]=U (.next [a,b,c,U (.dat (qd (P1 l z))),y'])
 | [],z,a,b,c,y,_=>⟨y,rfl⟩
 |x::l,z,a,b,c,y,h=>by obtain⟨h1,h2,h3⟩:=h;obtain⟨y',e⟩:=BQ l (z+x) a b c (U (.dat (qd x))) h3;refine⟨y',?_⟩;rw[D8];unfold J9 jP;walk_at "r";rw[dP h1 h2];walk_at "r";exact e
theorem yB:∀(l:List Rat) (z:Rat) (a b c y:Option PV),BA l z->∃y',J9 (D3 4) jO (l.map qd) [a,b,c,U (.dat (qd z)),y]=U (.next [a,b,c,U (.dat (qd (sC l z))),y'])
 | [],z,a,b,c,y,_=>⟨y,rfl⟩
 |x::l,z,a,b,c,y,h=>by obtain⟨h1,h2,h3⟩:=h;obtain⟨y',e⟩:=yB l (z-x) a b c (U (.dat (qd x))) h3;refine⟨y',?_⟩;rw[D8];unfold J9 jO;walk_at "r";rw[V5 h1 h2];walk_at "r";exact e
def qk(H:Hs)(h:Hr)(d:Dq):Rat:=sC (d.give::d.fill::d.done) (P1 [d.V8,d.X6,H.left*d.take] (((h.Q6-h.need:Int)):Rat))
noncomputable def KG(H:Hs)(d:Dq):Rat:=(d.fill-H.kept*d.fill)+(d.take-H.left*d.take)
structure a3x(H:Hs)(h:Hr)(d:Dq):Prop where
 lf:RO H.left
 tk:RO d.take
 t:mK [d.V8,d.X6,H.left*d.take] (((h.Q6-h.need:Int)):Rat)
 m:BA (d.give::d.fill::d.done) (P1 [d.V8,d.X6,H.left*d.take] (((h.Q6-h.need:Int)):Rat))
 dl:d.done.length<=6
theorem EH(d:Dq):w5 (U9 d) (.int 0)=U (.dat (qd d.V8)):=rfl
theorem EG(d:Dq):w5 (U9 d) (.int 1)=U (.dat (qd d.give)):=rfl
theorem EF(d:Dq):w5 (U9 d) (.int 4)=U (.dat (qd d.X6)):=rfl
theorem Ry(S:a3x a d Z):mO [C1 d,U9 Z,qd a.left]=U (.dat (qd (qk a d Z))):=by
 have h0:=nX d;have h1:=nW d;have d0:=EH Z;have d1:=EG Z;have d2:=qA Z;have d3:=qz Z;have d4:=EF Z;have d5:=uw Z;have dl:=S.dl;unfold mO;walk_at "r";rw[h0,h1];walk_at "r";rw[d0,d4,d3];walk_at "r";rw[fG S.lf S.tk];walk_at "r";simp only[N5];obtain⟨y,e⟩:=BQ [Z.V8,Z.X6,a.left*Z.take] (((d.Q6-d.need:Int)):Rat) (U (.dat (C1 d))) (U (.dat (U9 Z))) (U (.dat (qd a.left))) J S.t
 erw [e]
 walk_at "r";rw[d1,d2,d5];walk_at "r";rw[iH (by simp;lia)];walk_at "r";obtain⟨y',e'⟩:=yB (Z.give::Z.fill::Z.done) (P1 [Z.V8,Z.X6,a.left*Z.take] (((d.Q6-d.need:Int)):Rat)) (U (.dat (C1 d))) (U (.dat (U9 Z))) (U (.dat (qd a.left))) y S.m
 erw [e']
 walk_at "r";rfl
structure a3E(H:Hs)(k:List Rl)(n:Nat):Prop where
 so:FQ H (dN H n) (A7 H k n)
 so':FQ H (dN H (n+1)) (A7 H k (n+1))
 N:vE H (H.hs.getD n K3) (A7 H k n).1 (J6 H k n (A7 H k n)) (B3 H (n:Int) (A7 H k n).2 (J6 H k n (A7 H k n)).wo)
 B:XZ H (H.hs.getD n K3) (A7 H k n).1 (J6 H k n (A7 H k n)) (B3 H (n:Int) (A7 H k n).2 (J6 H k n (A7 H k n)).wo)
 sp:a3x H (H.hs.getD n K3) (B2 H k n (A7 H k n))
 se:qk H (H.hs.getD n K3) (B2 H k n (A7 H k n))=gK H (H.hs.getD n K3) (A7 H k n).1 (J6 H k n (A7 H k n)) (B3 H (n:Int) (A7 H k n).2 (J6 H k n (A7 H k n)).wo)-X9 H (H.hs.getD n K3) (A7 H k n).1 (J6 H k n (A7 H k n)) (B3 H (n:Int) (A7 H k n).2 (J6 H k n (A7 H k n)).wo)-nL H (H.hs.getD n K3) (A7 H k n).1 (J6 H k n (A7 H k n)) (B3 H (n:Int) (A7 H k n).2 (J6 H k n (A7 H k n)).wo)
 oks:RO (qk H (H.hs.getD n K3) (B2 H k n (A7 H k n)))
 okb:RO (B2 H k n (A7 H k n)).V8
 okg:RO (B2 H k n (A7 H k n)).give
 VE:RO (B2 H k n (A7 H k n)).fill
 VD:RO (B2 H k n (A7 H k n)).take
 okl:RO (B2 H k n (A7 H k n)).X6
 okv:RO (A7 H k (n+1)).1
 kf:RO (H.kept*(B2 H k n (A7 H k n)).fill)
 lk:RO (A7 H k n).1
 lkf:RO ((A7 H k n).1+H.kept*(B2 H k n (A7 H k n)).fill)
 lt:RO (H.left*(B2 H k n (A7 H k n)).take)
 l1:RO ((B2 H k n (A7 H k n)).fill-H.kept*(B2 H k n (A7 H k n)).fill)
 l2:RO ((B2 H k n (A7 H k n)).take-H.left*(B2 H k n (A7 H k n)).take)
 okd:∀j,j<H.ws.length->RO ((A7 H k n).2.getD j 0)/\RO ((B2 H k n (A7 H k n)).done.getD j 0)
 db:∀j,j<H.ws.length->0<=(B2 H k n (A7 H k n)).done.getD j 0/\(B2 H k n (A7 H k n)).done.getD j 0<=(if (H.ws.getD j gW).first<=(n:Int)/\(n:Int)<=(H.ws.getD j gW).last then((H.ws.getD j gW).most:Rat)else 0)
 dl:(B2 H k n (A7 H k n)).done.length=H.ws.length
theorem XE{k:List Rl}{n:Nat}(hH:R4 a)(hn:n<a.hs.length):a3E a k n:=by
 have so:=pz (k:=k) hH n (by exact fy A2);have so':=pz (k:=k) hH (n+1) (by assumption)
 obtain⟨w0,Z,N⟩:=mY (k:=k) hH hn so;obtain⟨n1,n2,n3,n4,n5,n6⟩:=Bc (k:=k) hH hn so;have hl:=hH.hl;have wl:=hH.wl;have hh:pe (a.hs.getD n K3):=hH.hs _ (getD_mem K3 hn);have B:=a2Q (r:=J6 a k n (A7 a k n)) hH hh so.l0 so.l1 w0;have dl:(B2 a k n (A7 a k n)).done.length=a.ws.length:=by rw[oa so.ul,so.ul]
 obtain⟨d1,d2,d3,d4⟩:=pH hH (n:=n) (by lia);obtain⟨k1,k2,k3,k4⟩:=hH.kept.bt;have d5:eH (a.kept.den*dB a (dN a n)):=⟨S9 k4 d4.pos,((wz hH (n+1)).2).mono (by lia)⟩;have dvB:dA a (dN a n)∣dB a (dN a n):=⟨a.left.num*a.kept.num,by unfold dB;rw[gm]⟩;have dvC:dB a (dN a n)∣a.kept.den*dB a (dN a n):=⟨a.kept.den,by rw[O4]⟩;have zb:Sz (dB a (dN a n)) (2^60) (B2 a k n (A7 a k n)).V8:=((Z.u2.mono dvB (cR _)).add Z.f1).mono (O3 _) (by decide);have zg:Sz (dB a (dN a n)) (2^60) (B2 a k n (A7 a k n)).give:=((Z.gv.mono dvB (cR _)).add Z.sg).mono (O3 _) (by decide);have zf:Sz (dB a (dN a n)) (2^60) (B2 a k n (A7 a k n)).fill:=(((Sz.zero (M:=0) (by decide)).add Z.f0).add Z.f1).mono (O3 _) (by decide);have zt:Sz (dB a (dN a n)) (2^60) (B2 a k n (A7 a k n)).take:=Z.tk.mono (O3 _) (by decide);have zl:Sz (dB a (dN a n)) (2^60) (B2 a k n (A7 a k n)).X6:=(Z.need.sub (Z.need.mn Z.reach)).mono dvB (by decide)
 have zlt:Sz (dB a (dN a n)) (2^60) (a.left*(B2 a k n (A7 a k n)).take):=by have e:a.left*(B2 a k n (A7 a k n)).take=_:=B.lt;rw[e];exact(Z.u1.add Z.gv).mono dvB (by decide)
 have zk:=hH.kept.sz.mul zf;have hs:=hh.Q6;have hd:=hh.need;have z0:Sz (dB a (dN a n)) (2^60) ((((a.hs.getD n K3).Q6-(a.hs.getD n K3).need:Int)):Rat):=Sz.int (by
  have:((2:Int)^60)=1152921504606846976:=by rfl
  lia)
 have tt:=nH d4 [(B2 a k n (A7 a k n)).V8,(B2 a k n (A7 a k n)).X6,a.left*(B2 a k n (A7 a k n)).take] (2^60) ((((a.hs.getD n K3).Q6-(a.hs.getD n K3).need:Int)):Rat) (X:=2^60) (λx hx=>by
  simp only[K6,P7,P5]at hx;rcases hx with rfl|rfl|rfl
  exact zb;exact zl
  . exact zlt) z0 (by decide) (by show(2:Int)^60+3*2^60<=2^190;decide)
 have ml:((B2 a k n (A7 a k n)).give::(B2 a k n (A7 a k n)).fill::(B2 a k n (A7 a k n)).done).length<=8:=by rw[J4,J4];simp_all
 have tz:Sz (dB a (dN a n)) (2^62) (P1 [(B2 a k n (A7 a k n)).V8,(B2 a k n (A7 a k n)).X6,a.left*(B2 a k n (A7 a k n)).take] ((((a.hs.getD n K3).Q6-(a.hs.getD n K3).need:Int)):Rat)):=tt.2.mono (O3 _) (by show(2:Int)^60+3*2^60<=2^62;decide)
 have mt:=Kx d4 ((B2 a k n (A7 a k n)).give::(B2 a k n (A7 a k n)).fill::(B2 a k n (A7 a k n)).done) (2^62) _ (X:=2^60) (λx hx=>by
  rcases List.mem_cons.mp hx with rfl|hx
  exact zg
  rcases List.mem_cons.mp hx with rfl|hx
  exact zf
  . exact(Z.met _ (F8 _ hx)).mono dvB (by decide)) tz (by decide) (by
    have p62:((2:Int)^62)=4611686018427387904:=by rfl
    have p60:((2:Int)^60)=1152921504606846976:=by rfl
    have p190:(4611686018427387904+8*1152921504606846976:Int)<=2^190:=by decide
    rw[p62,p60]
    lia)
 have se:qk a (a.hs.getD n K3) (B2 a k n (A7 a k n))=gK a (a.hs.getD n K3) (A7 a k n).1 (J6 a k n (A7 a k n)) (B3 a (n:Int) (A7 a k n).2 (J6 a k n (A7 a k n)).wo)-X9 a (a.hs.getD n K3) (A7 a k n).1 (J6 a k n (A7 a k n)) (B3 a (n:Int) (A7 a k n).2 (J6 a k n (A7 a k n)).wo)-nL a (a.hs.getD n K3) (A7 a k n).1 (J6 a k n (A7 a k n)) (B3 a (n:Int) (A7 a k n).2 (J6 a k n (A7 a k n)).wo):=by
  unfold qk;rw[xw];refine uT ?_ B.a4a;show((((a.hs.getD n K3).Q6-(a.hs.getD n K3).need:Int)):Rat)+(B2 a k n (A7 a k n)).V8+(B2 a k n (A7 a k n)).X6+a.left*(B2 a k n (A7 a k n)).take-P1 (B2 a k n (A7 a k n)).done (0+(B2 a k n (A7 a k n)).give+(B2 a k n (A7 a k n)).fill)=aK (a.hs.getD n K3)-D4 (a.hs.getD n K3)+(B2 a k n (A7 a k n)).V8+(B2 a k n (A7 a k n)).X6+a.left*(B2 a k n (A7 a k n)).take-(B2 a k n (A7 a k n)).give-(B2 a k n (A7 a k n)).fill-P1 (B2 a k n (A7 a k n)).done 0;rw[jZ,Rat.intCast_sub];unfold aK D4;grind
 have u0:∀u∈(A7 a k n).2,0<=u:=λu hu=>(so.zu u hu).2.1
 exact⟨so,so',N,B,⟨hH.left.ok,zt.ok d4 (by decide),tt.1,mt.1,by simp_all⟩,se,(by rw[se];exact((Z.sr.sub Z.f0).sub Z.sg).ok d4 (by decide)),zb.ok d4 (by decide),zg.ok d4 (by decide),zf.ok d4 (by decide),zt.ok d4 (by decide),zl.ok d4 (by decide),so'.zl.ok (pH hH (n:=n+1) (by exact C3 A2 A2)).1 (by decide),n3,n1,n4,zlt.ok d4 (by decide),
  ((zf.mono dvC (cR _)).sub zk).ok d5 (by decide),(zt.sub zlt).ok d4 (by decide),n6,λj hj=>a3e hH so.ul N hj u0,dl⟩
def Br(H:Hs)(k:List Rl)(n:Nat):l5:=.tuple [qd (qk H (H.hs.getD n K3) (B2 H k n (A7 H k n))),qd (KG H (B2 H k n (A7 H k n))),qd (A7 H k (n+1)).1]
def eQ(H:Hs)(k:List Rl)(n:Nat):List l5:=(R8 n).map (Br H k)
theorem OH(H:Hs)(k:List Rl)(n:Nat):eQ H k (n+1)=eQ H k n++[Br H k n]:=by unfold eQ;rw[Gy,T2];rfl
theorem xq(h:i<m):(J2 a c m)[i]?=U (U9 (B2 a c i (A7 a c i))):=by unfold J2;rw[R9,vt h];rfl
theorem kj(H:Hs)(k:List Rl)(m:Nat):(J2 H k m).length=m:=by unfold J2;rw[C8,iy]
theorem ZN(hH:R4 a)(D:a3E a c m):pO [U9 (B2 a c m (A7 a c m)),qd a.kept,qd a.left]=U (.dat (qd (KG a (B2 a c m (A7 a c m))))):=by have d2:=qA (B2 a c m (A7 a c m));have d3:=qz (B2 a c m (A7 a c m));unfold pO KG;walk_at "r";rw[d2];walk_at "r";rw[fG hH.kept.ok D.VE];walk_at "r";rw[V5 D.VE D.kf];walk_at "r";rw[d3];walk_at "r";rw[fG hH.left.ok D.VD];walk_at "r";rw[V5 D.VD D.lt];walk_at "r";rw[dP D.l1 D.l2];rfl
theorem HN{k:List Rl}(hH:R4 a)(hn:m<a.hs.length)(x0 x1 x2:Option PV):
  jR [x0,x1,x2,U (.dat (qd a.kept)),U (.dat (qd a.left)),U (.dat (qd (A7 a k m).1)),U (.own (eQ a k m)),U (.dat (C1 (a.hs.getD m K3))),U (.dat (U9 (B2 a k m (A7 a k m))))] =
   U (.next [x0,x1,x2,U (.dat (qd a.kept)),U (.dat (qd a.left)),U (.dat (qd (A7 a k (m+1)).1)),U (.own (eQ a k (m+1))),U (.dat (C1 (a.hs.getD m K3))),U (.dat (U9 (B2 a k m (A7 a k m))))]):=by
 have D:=XE (k:=k) hH hn;have hl:=hH.hl;have d2:=qA (B2 a k m (A7 a k m));have d3:=qz (B2 a k m (A7 a k m));have el:(eQ a k m).length=m:=by unfold eQ;rw[C8,iy]
 have lv':(A7 a k (m+1)).1=(A7 a k m).1+a.kept*(B2 a k m (A7 a k m)).fill-(B2 a k m (A7 a k m)).take:=rfl;have se:=Ry D.sp;have le:=ZN hH D;rw[OH,Br,lv'];unfold jR;walk_at "r";rw[d2];walk_at "r";rw[fG hH.kept.ok D.VE];walk_at "r";rw[dP D.lk D.kf,d3];walk_at "r";rw[V5 D.lkf D.VD];walk_at "r";rw[se,le];walk_at "r";rw[P8 _ (l:=eQ a k m) rfl (by lia)];rfl
theorem NO{k:List Rl}(hH:R4 a):sV [ck a,.tuple (J2 a k a.hs.length)]=U (.own (eQ a k a.hs.length)):=by
 have i0:=nV a;have i1:=lI a;have s1:=uv a;have s4:=qx a;have s5:=yG a;unfold sV;walk_at "r";rw[i1];walk_at "r";rw[s4];walk_at "r";rw[s5];walk_at "r";rw[s1];walk_at "r";rw[i0];walk_at "r";rw[show iU [.tuple (a.hs.map C1),.tuple (J2 a k a.hs.length)]=U (bD (λx y=>af [x,y]) (a.hs.map C1) (J2 a k a.hs.length))from rfl]
 walk_at "r";obtain⟨ds',e1,y7,y8,rfl⟩:=nY (gt:=eJ 2 (N0 7 (N0 8 eM))) (G:=jR) (items:=bD (λx y=>af [x,y]) (a.hs.map C1) (J2 a k a.hs.length)) (ds:=[U (.dat (ck a)),U (.dat (.tuple (J2 a k a.hs.length))),U (.dat (cE a)),U (.dat (qd a.kept)),U (.dat (qd a.left)),U (.dat (qd (A7 a k 0).1)),U (.own []),J,J])
  (λn ds=>∃y7 y8,ds=[U (.dat (ck a)),U (.dat (.tuple (J2 a k a.hs.length))),U (.dat (cE a)),U (.dat (qd a.kept)),U (.dat (qd a.left)),U (.dat (qd (A7 a k n).1)),U (.own (eQ a k n)),y7,y8])
  ⟨J,J,rfl⟩ (by
   rintro n d ds hd ⟨y7,y8,rfl⟩;have hn:n<a.hs.length:=by
    by_cases c:n<a.hs.length;exact c;rw[oZ (by rw[gE,C8];lia)]at hd;cases hd
   rw[rD,R9,M6 hn,xq hn]at hd;have hg:a.hs.getD n K3=a.hs[n]:=by rw[Q4,M6 hn];rfl
   have hd':d=.tuple [C1 (a.hs.getD n K3),U9 (B2 a k n (A7 a k n))]:=by rw[hg];simp only[jA,ro]at hd;exact hd.symm
   subst hd';exact⟨_,_,rfl,.inl (HN hH hn _ _ _),_,_,rfl⟩)
 rw[gE,C8,kj,Nat.min_self]at e1
 erw [e1]
 walk_at "r"
theorem a0q(H:Hs)(n:Nat):dN H n∣dN H (n+1):=⟨H.kept.den*H.left.den*H.left.num*H.kept.num,by
 show H.kept.den*(H.left.den*dN H n*H.left.num*H.kept.num)=_
 grind⟩
theorem a3j(H:Hs)(h:i<=m):dN H i∣dN H m:=by
 induction h with
 |refl=>exact O3 _
 |step _ ih=>exact rb ih (a0q H _)
abbrev G0(H:Hs)(k:List Rl)(n:Nat):Dq:=B2 H k n (A7 H k n)
structure a5C(H:Hs)(k:List Rl)(n:Nat)(D:Int):Prop where
 b:Sz D (2^60) (G0 H k n).V8
 g:Sz D (2^60) (G0 H k n).give
 l:Sz D (2^60) (G0 H k n).X6
 f:Sz D (2^60) (G0 H k n).fill
 t:Sz D (2^60) (G0 H k n).take
 d:∀x∈(G0 H k n).done,Sz D (2^60) x
 dl:(G0 H k n).done.length=H.ws.length
theorem ze{k:List Rl}(hH:R4 a)(hn:i<a.hs.length)(hm:i<m):a5C a k i (dN a m):=by
 have so:=pz (k:=k) hH i (by exact fy A2);obtain⟨w0,Z,N⟩:=mY (k:=k) hH hn so;have dvB:dA a (dN a i)∣dB a (dN a i):=⟨a.left.num*a.kept.num,by unfold dB;rw[gm]⟩;have dvC:dB a (dN a i)∣dN a m:=rb ⟨a.kept.den,by rw[O4];rfl⟩ (a3j a (show i+1<=m from hm));have dvA:=rb dvB dvC;exact⟨((Z.u2.mono dvB (cR _)).add Z.f1).mono dvC (by decide),((Z.gv.mono dvB (cR _)).add Z.sg).mono dvC (by decide),(Z.need.sub (Z.need.mn Z.reach)).mono dvA (by decide),(((Sz.zero (M:=0) (by decide)).add Z.f0).add Z.f1).mono dvC (by decide),Z.tk.mono dvC (by decide),λx hx=>(Z.met x (F8 _ hx)).mono dvA (by decide),by rw[oa so.ul,so.ul]⟩
noncomputable def mE(h:Hr)(d:Dq):Rat:=match h.line with
 |none=>0
 |some l=>(l.1:Rat)*d.V8-(l.2.2.1:Rat)*d.give
def uq(H:Hs)(k:List Rl):Nat->Rat
 | 0=>0
 |n+1=>uq H k n+(G0 H k n).X6
noncomputable def OZ(H:Hs):Int:=(H.ws.map λw=>w.F3).sum
def nG(H:Hs)(k:List Rl):Nat->Rat
 | 0=>(OZ H:Rat)
 |n+1=>nG H k n-P1 (G0 H k n).done 0
def gf(H:Hs)(k:List Rl):Nat->Rat
 | 0=>0
 |n+1=>gf H k n+mE (H.hs.getD n K3) (G0 H k n)
theorem vT(h:wY b)(z:Sz t M y):Sz t (1000000*M) ((b:Rat)*y):=by
 have a:Sz 1 1000000 (b:Rat):=Sz.int (by omega);have D:=a.mul z
 rwa [Int.one_mul]at D
theorem XG(hh:pe d)(b:Sz M (2^60) Z.V8)(g:Sz M (2^60) Z.give):Sz M (2^85) (mE d Z):=by
 unfold mE;cases e:d.line with
 |none=>exact Sz.zero (by decide)
 |some l=>
  obtain⟨a1,a2,a3,a4⟩:=l;have L:=hh.line a1 a2 a3 a4 e;exact((vT L.1 b).sub (vT L.2.2.1 g)).mono (O3 _) (by decide)
structure a5A(H:Hs)(k:List Rl)(n:Nat)(D:Int):Prop where
 l:Sz D (((n:Int)+1)*1237940039285380274899124224) (uq H k n)
 u:Sz D (((n:Int)+1)*1237940039285380274899124224) (nG H k n)
 c:Sz D (((n:Int)+1)*1237940039285380274899124224) (gf H k n)
theorem a1h{n:Int}{l:List Int}(h:∀x∈l,0<=x/\x<=n):0<=l.sum/\l.sum<=l.length*n:=by
 induction l with
 |nil=>simp
 |cons x l ih=>
  have a:=h x (by simp);have b:=ih λy hy=>h y (by simp[hy]);rw[List.sum_cons,J4];refine⟨by lia,?_⟩
  have:((l.length+1:Nat):Int)*n=l.length*n+n:=by rw[Int.natCast_add,qX];simp
  lia
theorem a4P(hH:R4 a):0<=OZ a/\OZ a<=6000000:=by
 have:=a1h (n:=1000000) (l:=a.ws.map λw=>w.F3) λx hx=>by obtain⟨w,hw,rfl⟩:=mem_map.mp hx;exact(hH.ws w hw).F3
 have wl:=hH.wl;rw[C8]at this;exact⟨this.1,by unfold OZ;lia⟩
theorem vX(h:Sz t M y)(hm:M<=N):Sz t N y:=h.mono (O3 _) hm
theorem yg{H:Hs}{k:List Rl}{m:Nat}(hH:R4 H)(hm:m<=H.hs.length):∀n,n<=m->a5A H k n (dN H m)
 | 0,_=>by have a:=a4P hH;exact⟨Sz.zero (by decide),Sz.int (by show((OZ H).natAbs:Int)<=_;lia),Sz.zero (by decide)⟩
 |n+1,h=>by
  have ih:=yg hH hm n (by exact fy A2) (k:=k);have hl:=hH.hl;have wl:=hH.wl;have Z:=ze (k:=k) (m:=m) hH (show n<H.hs.length by exact C3 A2 A2) (by assumption);have dD:=(pH hH (n:=m) (by exact C3 A2 A2)).1
  have t:=(nH dD (G0 H k n).done 0 0 Z.d (Sz.zero (by decide)) (by decide) (by
   rw[Z.dl];have:((2:Int)^60)=1152921504606846976:=by rfl
   have p190:(0+6*1152921504606846976:Int)<=2^190:=by decide
   rw[this]
   lia)).2
  have t':Sz (dN H m) 1237940039285380274899124224 (P1 (G0 H k n).done 0):=vX t (by
   rw[Z.dl];have:((2:Int)^60)=1152921504606846976:=by rfl
   rw[this]
   lia)
  have hh:pe (H.hs.getD n K3):=hH.hs _ (getD_mem K3 (by exact C3 A2 A2))
  have e:(((n+1:Nat):Int)+1)*1237940039285380274899124224=((n:Int)+1)*1237940039285380274899124224+1237940039285380274899124224:=by lia
  refine⟨?_,?_,?_⟩<;>rw[e]
  exact ih.l.add (vX Z.l (by decide));exact ih.u.sub t';exact ih.c.add (vX (XG hh Z.b Z.g) (by decide))
theorem vV(h:wY M):RO (M:Rat):=uf (by omega)
structure UY(h:Hr)(d:Dq):Prop where
 o:pe h
 b:RO d.V8
 g:RO d.give
 p:∀l,h.line=U l->RO ((l.1:Rat)*d.V8)/\RO ((l.2.2.1:Rat)*d.give)
theorem UG(C:UY d Z):mR [U1 d.line,U9 Z]=U (.dat (qd (mE d Z))):=by
 unfold mR mE U3;cases e:d.line with
 |none=>
  show F9 2 2 _ [.none,U9 Z]=_;walk_at "r";rfl
 |some l=>
  obtain⟨a1,a2,a3,a4⟩:=l;have L:=C.o.line a1 a2 a3 a4 e;obtain⟨p1,p2⟩:=C.p _ e;have d0:=EH Z;have d1:=EG Z;show F9 2 2 _ [.tuple [.int a1,.int a2,.int a3,.int a4],U9 Z]=_;walk_at "r";rw[N5,N5,d0,d1];walk_at "r";rw[fG (vV L.1) C.b,fG (vV L.2.2.1) C.g];walk_at "r";rw[V5 p1 p2];rfl
theorem wF:∀(l:List Rat) (z:Rat) (d e y:Option PV),mK l z->∃y',J9 (D3 3) gJ (l.map qd) [d,e,U (.dat (qd z)),y]=U (.next [d,e,U (.dat (qd (P1 l z))),y'])
 | [],z,d,e,y,_=>⟨y,rfl⟩
 |x::l,z,d,e,y,h=>by obtain⟨h1,h2,h3⟩:=h;obtain⟨y',e'⟩:=wF l (z+x) d e (U (.dat (qd x))) h3;refine⟨y',?_⟩;rw[D8];unfold J9 gJ;walk_at "r";rw[dP h1 h2];walk_at "r";exact e'
theorem Ou(C:UY d Z)(T:mK Z.done 0)(o:RO (P1 Z.done 0)):jK [C1 d,U9 Z]=U (.dat (.tuple [qd Z.X6,qd (0-P1 Z.done 0),qd (mE d Z)])):=by obtain⟨y',e⟩:=wF Z.done 0 (U (.dat (C1 d))) (U (.dat (U9 Z))) J T;have d4:=EF Z;have d5:=uw Z;have h2:=ku d;unfold jK U3;rw[dM];walk_at "r";rw[d5];walk_at "r";rw[e];walk_at "r";rw[d4,h2];walk_at "r";rw[V5 qp o,UG C];rfl
theorem US{b c x z:Rat}(ha:RO u)(hb:RO b)(hc:RO c)(hx:RO x)(hy:RO y)(hz:RO z):wA [.tuple [qd u,qd b,qd c],.tuple [qd x,qd y,qd z]]=U (.dat (.tuple [qd (u+x),qd (b+y),qd (c+z)])):=by unfold wA;walk_at "r";rw[dP ha hx,dP hb hy,dP hc hz];rfl
theorem yh(h:Sz M (((m:Int)+1)*1237940039285380274899124224) y)(dD:eH M)(hn:m<=24):RO y:=h.ok dD (by
 have p:(30*1237940039285380274899124224:Int)<=2^200:=by decide
 exact H9 (by lia) p)
structure a5B(H:Hs)(k:List Rl)(n:Nat):Prop where
 C:UY (H.hs.getD n K3) (G0 H k n)
 T:mK (G0 H k n).done 0
 M:BA (G0 H k n).done (nG H k n)
 t:RO (P1 (G0 H k n).done 0)
 nt:RO (0-P1 (G0 H k n).done 0)
 l:RO (G0 H k n).X6
 c:RO (mE (H.hs.getD n K3) (G0 H k n))
 sl:RO (uq H k n)
 su:RO (nG H k n)
 sc:RO (gf H k n)
 sb:∀l,(H.hs.getD n K3).line=U l->RO (gf H k n+(l.1:Rat)*(G0 H k n).V8)
theorem Xt{k:List Rl}{n:Nat}(hH:R4 a)(hn:n<a.hs.length):a5B a k n:=by
 have hl:=hH.hl;have wl:=hH.wl;have Z:=ze (k:=k) (m:=a.hs.length) hH hn hn;have S:=yg (k:=k) hH (K5 _) n (by exact fy A2)
 have dD:=(pH hH (n:=a.hs.length) hl).1;have hh:pe (a.hs.getD n K3):=hH.hs _ (getD_mem K3 hn);have p60:((2:Int)^60)=1152921504606846976:=by rfl
 have T:=nH dD (G0 a k n).done 0 0 Z.d (Sz.zero (by decide)) (by decide) (by
  rw[Z.dl,p60];have p190:(0+6*1152921504606846976:Int)<=2^190:=by decide
  lia)
 have t60:Sz (dN a a.hs.length) (2^70) (P1 (G0 a k n).done 0):=vX T.2 (by
  rw[Z.dl,p60];have:(0+6*1152921504606846976:Int)<=2^70:=by decide
  lia)
 have M:=Kx dD (G0 a k n).done _ _ Z.d S.u (by decide) (by
  rw[Z.dl,p60];have p190:(30*1237940039285380274899124224+6*1152921504606846976:Int)<=2^190:=by decide
  lia)
 have p:∀l,(a.hs.getD n K3).line=U l->Sz (dN a a.hs.length) (1000000*2^60) ((l.1:Rat)*(G0 a k n).V8)/\Sz (dN a a.hs.length) (1000000*2^60) ((l.2.2.1:Rat)*(G0 a k n).give):=λl e=>by obtain⟨a1,a2,a3,a4⟩:=l;have L:=hh.line a1 a2 a3 a4 e;exact⟨vT L.1 Z.b,vT L.2.2.1 Z.g⟩
 refine⟨⟨hh,Z.b.ok dD (by decide),Z.g.ok dD (by decide),λl e=>⟨(p l e).1.ok dD (by decide),(p l e).2.ok dD (by decide)⟩⟩,T.1,M.1,t60.ok dD (by decide),((Sz.zero (M:=0) (by decide)).sub t60).ok dD (by decide),Z.l.ok dD (by decide),(XG hh Z.b Z.g).ok dD (by decide),yh S.l dD (by lia),yh S.u dD (by lia),yh S.c dD (by lia),λl e=>?_⟩
 refine(S.c.add (p l e).1).ok dD ?_;have p200:(30*1237940039285380274899124224+1000000*1152921504606846976:Int)<=2^200:=by decide
 rw[p60];exact H9 (by omega) p200
abbrev fY(H:Hs)(k:List Rl):Rat:=(A7 H k H.hs.length).1
theorem AW{k:List Rl}(hH:R4 a)(hr:wY a.rest):RO (fY a k)/\RO ((a.rest:Rat)*fY a k)/\RO (0-(a.rest:Rat)*fY a k)/\∀n,n<=a.hs.length->RO (0-(a.rest:Rat)*fY a k+gf a k n):=by
 have hl:=hH.hl;have so:=pz (k:=k) hH a.hs.length (K5 _);have dD:=(pH hH (n:=a.hs.length) hl).1;have z:=vT hr so.zl;have z0:=(Sz.zero (D:=dN a a.hs.length) (M:=0) (by decide)).sub z;refine⟨so.zl.ok dD (by decide),z.ok dD (by decide),z0.ok dD (by decide),λn hn=>?_⟩
 have S:=yg (k:=k) hH (K5 _) n hn;refine(z0.add S.c).ok dD ?_;have p200:(30*1237940039285380274899124224+1000000*2000000:Int)<=2^200:=by decide
 exact H9 (by lia) p200
def rO(H:Hs)(k:List Rl)(n:Nat):l5:=.tuple [qd (uq H k n),qd (nG H k n),qd (0-(H.rest:Rat)*fY H k+gf H k n)]
theorem Lh{k:List Rl}(hH:R4 a)(hr:wY a.rest)(hn:m<a.hs.length)(x0 x1 x2 x3 x4 x5:Option PV):
  mv [x0,x1,x2,x3,x4,x5,U (.dat (rO a k m)),U (.dat (C1 (a.hs.getD m K3))),U (.dat (U9 (G0 a k m)))] =
   U (.next [x0,x1,x2,x3,x4,x5,U (.dat (rO a k (m+1))),U (.dat (C1 (a.hs.getD m K3))),U (.dat (U9 (G0 a k m)))]):=by
 have Q:=Xt (k:=k) hH hn;have R:=(AW (k:=k) hH hr).2.2.2 m (by omega)
 have he:=Ou Q.C Q.T Q.t;have ae:=US Q.sl Q.su R Q.l Q.nt Q.c;have e:rO a k (m+1)=.tuple [qd (uq a k m+(G0 a k m).X6),qd (nG a k m+(0-P1 (G0 a k m).done 0)),qd (0-(a.rest:Rat)*fY a k+gf a k m+mE (a.hs.getD m K3) (G0 a k m))]:=by
  have H:nG a k m+(0-P1 (G0 a k m).done 0)=nG a k (m+1):=by show _=nG a k m-P1 (G0 a k m).done 0;grind
  have b:0-(a.rest:Rat)*fY a k+gf a k m+mE (a.hs.getD m K3) (G0 a k m)=0-(a.rest:Rat)*fY a k+gf a k (m+1):=by show _=0-(a.rest:Rat)*fY a k+(gf a k m+mE (a.hs.getD m K3) (G0 a k m));grind
  rw[H,b];rfl
 rw[e];unfold mv rO;walk_at "r";rw[he];walk_at "r";rw[ae];walk_at "r"
theorem Oa(h:Hs):w5 (cE h) (.int 6)=U (.dat (.int h.rest)):=rfl
theorem a0b(H:Hs)(k:List Rl)(n:Nat):w5 (Br H k n) (.int 2)=U (.dat (qd (A7 H k (n+1)).1)):=rfl
theorem ints_map(l:List Wk):intsOf ((l.map λw=>w.F3).map .int)=U (l.map λw=>w.F3):=by
 induction l with
 |nil=>rfl
 |cons x l ih=>
  show(intsOf ((l.map λw=>w.F3).map .int)).bind _=_;rw[ih];rfl
theorem TM{H:Hs}{k:List Rl}(x0 x1 x2 y4 x5 x6 x7 x8:Option PV):∀n,∃y,J9 (D3 4) mw (eQ H k n) [x0,x1,x2,U (.dat (qd (A7 H k 0).1)),y4,x5,x6,x7,x8]=U (.next [x0,x1,x2,U (.dat (qd (A7 H k n).1)),y,x5,x6,x7,x8]):=λn=>by
 obtain⟨ds',e1,y,rfl⟩:=nY (gt:=D3 4) (G:=mw) (items:=eQ H k n) (ds:=[x0,x1,x2,U (.dat (qd (A7 H k 0).1)),y4,x5,x6,x7,x8])
  (λm ds=>∃y,ds=[x0,x1,x2,U (.dat (qd (A7 H k m).1)),y,x5,x6,x7,x8]) ⟨y4,rfl⟩ (by
   rintro m d ds hd ⟨y,rfl⟩;have hm:d=Br H k m:=by
    unfold eQ at hd;by_cases c:m<n;rw[R9,vt c]at hd;exact(Y9 hd).symm;rw[oZ (by rw[C8,iy];simp_all)]at hd;cases hd
   subst hm;refine⟨_,_,rfl,.inl ?_,U (.dat (Br H k m)),rfl⟩;unfold mw;have e2:=a0b H k m;walk_at "r";rw[e2];walk_at "r")
 have el:(eQ H k n).length=n:=by unfold eQ;rw[C8,iy]
 rw[el]at e1;exact⟨y,e1⟩
def cZ(H:Hs)(k:List Rl):List Rat:=[uq H k H.hs.length,nG H k H.hs.length,gf H k H.hs.length-(H.rest:Rat)*fY H k]
theorem UC{H:Hs}{k:List Rl}(hH:R4 H)(hr:wY H.rest):kK [ck H,.tuple (J2 H k H.hs.length)]=U (.dat (.tuple ((cZ H k).map qd))):=by
 have i0:=nV H;have i1:=lI H;have i2:=qy H;have s1:=uv H;have s6:=Oa H;have wl:=hH.wl;have hl:=hH.hl;have le:=NO (k:=k) hH;obtain⟨r1,r2,r3,r4⟩:=AW (k:=k) hH hr;have c0:∀(ds:Ds),O2 F7 F4 pW ds (H.ws.map G7)=U ((H.ws.map λw=>w.F3).map .int):=λds=>by
  rw[comp_map (f:=λw=>.int w.F3) (λw hw=>⟨.dat (.int w.F3),by unfold pW;walk_at "r";rw[sF],rfl⟩)];rw[V3];rfl
 unfold kK U3;rw[dM];walk_at "r";rw[i1];walk_at "r";rw[s1];walk_at "r";rw[le];walk_at "r";obtain⟨y,e⟩:=TM (H:=H) (k:=k) (U (.dat (ck H))) (U (.dat (.tuple (J2 H k H.hs.length)))) (U (.dat (cE H))) J J J J J H.hs.length
 erw [e]
 walk_at "r";rw[i2];walk_at "r";rw[A3 (by rw[C8];exact C3 A2 A9),c0];walk_at "r";rw[ints_map];walk_at "r";rw[s6];walk_at "r";rw[N5,N5,fG (vV hr) r1];walk_at "r";rw[V5 qp r2];walk_at "r";rw[i0];walk_at "r";rw[show iU [.tuple (H.hs.map C1),.tuple (J2 H k H.hs.length)]=U (bD (λx y=>af [x,y]) (H.hs.map C1) (J2 H k H.hs.length))from rfl]
 walk_at "r";have t0:af [qd 0,qd (((H.ws.map λw=>w.F3).sum:Int):Rat),qd (0-(H.rest:Rat)*fY H k)]=rO H k 0:=by
  have a:0-(H.rest:Rat)*fY H k=0-(H.rest:Rat)*fY H k+gf H k 0:=by show _=_+0;rw[Rat.add_zero]
  unfold rO;rw[<-a];rfl
 rw[t0];obtain⟨ds',e1,y7,y8,rfl⟩:=nY (gt:=eJ 2 (N0 7 (N0 8 eM))) (G:=mv) (items:=bD (λx y=>af [x,y]) (H.hs.map C1) (J2 H k H.hs.length)) (ds:=[U (.dat (ck H)),U (.dat (.tuple (J2 H k H.hs.length))),U (.dat (cE H)),U (.dat (qd (fY H k))),y,iD (H.ws.map λw=>w.F3).sum,U (.dat (rO H k 0)),J,J])
  (λn ds=>∃y7 y8,ds=[U (.dat (ck H)),U (.dat (.tuple (J2 H k H.hs.length))),U (.dat (cE H)),U (.dat (qd (fY H k))),y,iD (H.ws.map λw=>w.F3).sum,U (.dat (rO H k n)),y7,y8])
  ⟨J,J,rfl⟩ (by
   rintro n d ds hd ⟨y7,y8,rfl⟩;have hn:n<H.hs.length:=by
    by_cases c:n<H.hs.length;exact c;rw[oZ (by rw[gE,C8];lia)]at hd;cases hd
   rw[rD,R9,M6 hn,xq hn]at hd;have hg:H.hs.getD n K3=H.hs[n]:=by rw[Q4,M6 hn];rfl
   have hd':d=.tuple [C1 (H.hs.getD n K3),U9 (G0 H k n)]:=by rw[hg];simp only[jA,ro]at hd;exact hd.symm
   subst hd';exact⟨_,_,rfl,.inl (Lh hH hr hn _ _ _ _ _ _),_,_,rfl⟩)
 rw[gE,C8,kj,Nat.min_self]at e1
 erw [e1]
 walk_at "r";have b:0-(H.rest:Rat)*fY H k+gf H k H.hs.length=gf H k H.hs.length-(H.rest:Rat)*fY H k:=by grind
 unfold rO;rw[b];rfl
theorem BY(x0 x1 x2 x4 x5 x6 x7 x9:Option PV):∀(l:List Rat) (z:Rat) (y:Option PV),BA l z->∃y',J9 (D3 8) lu (l.map qd) [x0,x1,x2,U (.dat (qd z)),x4,x5,x6,x7,y,x9]=U (.next [x0,x1,x2,U (.dat (qd (sC l z))),x4,x5,x6,x7,y',x9])
 | [],z,y,_=>⟨y,rfl⟩
 |x::l,z,y,h=>by obtain⟨h1,h2,h3⟩:=h;obtain⟨y',e⟩:=BY x0 x1 x2 x4 x5 x6 x7 x9 l (z-x) (U (.dat (qd x))) h3;refine⟨y',?_⟩;rw[D8];unfold J9 lu;walk_at "r";rw[bU h1 h2];walk_at "r";exact e
theorem a0v(e:d.line=J):mE d Z=0:=by unfold mE;rw[e]
theorem a0u{l:Int×Int×Int×Int}(e:d.line=U l):mE d Z=(l.1:Rat)*Z.V8-(l.2.2.1:Rat)*Z.give:=by unfold mE;rw[e]
abbrev Ex(H:Hs)(k:List Rl)(n:Nat)(y6 y7 y8 y9:Option PV):Ds:=[U (.dat (ck H)),U (.dat (.tuple (J2 H k H.hs.length))),U (.dat (qd (uq H k n))),U (.dat (qd (nG H k n))),U (.dat (qd (gf H k n))),U (.dat (qd (A7 H k n).1)),y6,y7,y8,y9]
theorem HP{k:List Rl}(hH:R4 a)(hn:m<a.hs.length)(y7 y8 y9:Option PV):∃z7 z8 z9,
  ir (Ex a k m (iD (0+(m:Int))) y7 y8 y9)=U (.next (Ex a k (m+1) (iD (0+(m:Int))) z7 z8 z9)):=by
 have Q:=Xt (k:=k) hH hn;have D:=XE (k:=k) hH hn;have hat:T7 (a.hs.map C1) (0+(m:Int))=U (C1 (a.hs.getD m K3)):=map_getD (f:=C1) (l:=a.hs) K3 hn;have pat:T7 (J2 a k a.hs.length) (0+(m:Int))=U (U9 (G0 a k m)):=by
  have:J2 a k a.hs.length=(R8 a.hs.length).map (λi=>U9 (G0 a k i)):=rfl;have g:=map_getD (f:=λi=>U9 (G0 a k i)) (l:=R8 a.hs.length) 0 (i:=m) (by rw[iy];exact hn);rw[this,g,Q4,vt hn];rfl
 have i0:=nV a;have i1:=lI a;have s4:=qx a;have d0:=EH (G0 a k m);have d1:=EG (G0 a k m);have d2:=qA (G0 a k m);have d3:=qz (G0 a k m);have d4:=EF (G0 a k m);have d5:=uw (G0 a k m);have h2:=ku (a.hs.getD m K3);have lv':(A7 a k (m+1)).1=(A7 a k m).1+a.kept*(G0 a k m).fill-(G0 a k m).take:=rfl;have ud':nG a k (m+1)=sC (G0 a k m).done (nG a k m):=by rw[xw];rfl
 have lc':uq a k (m+1)=uq a k m+(G0 a k m).X6:=rfl;have cn':gf a k (m+1)=gf a k m+mE (a.hs.getD m K3) (G0 a k m):=rfl;rw[show Ex a k (m+1)=λy6 y7 y8 y9=>[U (.dat (ck a)),U (.dat (.tuple (J2 a k a.hs.length))),U (.dat (qd (uq a k m+(G0 a k m).X6))),U (.dat (qd (sC (G0 a k m).done (nG a k m)))),U (.dat (qd (gf a k m+mE (a.hs.getD m K3) (G0 a k m)))),U (.dat (qd ((A7 a k m).1+a.kept*(G0 a k m).fill-(G0 a k m).take))),y6,y7,y8,y9]from by unfold Ex;rw[<-ud'];rfl];unfold ir Ex;walk_at "r";rw[pat];walk_at "r";rw[d4];walk_at "r";rw[iZ Q.sl Q.l];walk_at "r";rw[d5];walk_at "r";obtain⟨y',e⟩:=BY (U (.dat (ck a))) (U (.dat (.tuple (J2 a k a.hs.length)))) (U (.dat (qd (uq a k m+(G0 a k m).X6)))) (U (.dat (qd (gf a k m)))) (U (.dat (qd (A7 a k m).1))) (iD (0+(m:Int))) (U (.dat (U9 (G0 a k m)))) y9 (G0 a k m).done (nG a k m) y8 Q.M
 erw [e]
 walk_at "r";rw[i1];walk_at "r";rw[s4,d2];walk_at "r";rw[pF hH.kept.ok D.VE];walk_at "r";rw[iZ D.lk D.kf,d3];walk_at "r";rw[bU D.lkf D.VD];walk_at "r";rw[i0];walk_at "r";rw[hat];walk_at "r";rw[h2];walk_at "r";cases ln:(a.hs.getD m K3).line with
 |none=>
  rw[a0v ln,show gf a k m+0=gf a k m by grind];show ∃z7 z8 z9,_=_;simp only[U1];walk_at "r";exact⟨_,_,_,rfl⟩
 |some l=>
  obtain⟨a1,a2,a3,a4⟩:=l;have L:=Q.C.o.line a1 a2 a3 a4 ln;obtain⟨p1,p2⟩:=Q.C.p _ ln;have sb:=Q.sb _ ln;rw[a0u ln,show gf a k m+((a1:Rat)*(G0 a k m).V8-(a3:Rat)*(G0 a k m).give)=gf a k m+(a1:Rat)*(G0 a k m).V8-(a3:Rat)*(G0 a k m).give by grind];simp only[U1];walk_at "r";rw[N5,d0];walk_at "r";rw[pF (vV L.1) Q.C.b];walk_at "r";rw[iZ Q.sc p1];walk_at "r";rw[N5,d1];walk_at "r";rw[pF (vV L.2.2.1) Q.C.g];walk_at "r";rw[bU sb p2];walk_at "r";exact⟨_,_,_,rfl⟩
theorem NQ{k:List Rl}(hH:R4 a)(hr:wY a.rest):eG [ck a,.tuple (J2 a k a.hs.length)]=U (.dat (.tuple ((cZ a k).map qd))):=by
 have i1:=lI a;have i2:=qy a;have s1:=uv a;have s6:=Oa a;have wl:=hH.wl;have hl:=hH.hl;obtain⟨r1,r2,r3,r4⟩:=AW (k:=k) hH hr;have dD:=(pH hH (n:=a.hs.length) hl).1;have sc:=yh (yg (k:=k) hH (K5 _) a.hs.length (K5 _)).c dD hl;have c0:∀(ds:Ds),O2 F7 F4 lg ds (a.ws.map G7)=U ((a.ws.map λw=>w.F3).map .int):=λds=>by
  rw[comp_map (f:=λw=>.int w.F3) (λw hw=>⟨.dat (.int w.F3),by unfold lg;walk_at "r";rw[sF],rfl⟩)];rw[V3];rfl
 unfold eG;walk_at "r";rw[i2];walk_at "r";rw[A3 (by rw[C8];exact C3 A2 A9),c0];walk_at "r";rw[ints_map];walk_at "r";rw[i1];walk_at "r";rw[s1];walk_at "r";rw[kj,Y2 (by lia)]
 walk_at "r";obtain⟨ds',e1,y6,y7,y8,y9,rfl⟩:=bL (gt:=D3 6) (G:=ir) (lo:=0) (n:=a.hs.length) (ds:=Ex a k 0 J J J J)
  (λn ds=>∃y6 y7 y8 y9,ds=Ex a k n y6 y7 y8 y9)
  ⟨J,J,J,J,rfl⟩ (by rintro n ds hn ⟨y6,y7,y8,y9,rfl⟩;obtain⟨z7,z8,z9,e⟩:=HP (k:=k) hH hn y7 y8 y9;exact⟨_,_,rfl,.inl e,_,_,_,_,rfl⟩)
 erw [e1]
 walk_at "r";rw[i1];walk_at "r";rw[s6];walk_at "r";rw[N5,pF (vV hr) r1];walk_at "r";rw[bU sc r2];rfl
variable{q:Int×Int}{x:Rat}{l:List Rat}
theorem Md(s:Small q):(N2 q).length<=130:=by
 have l1:=au s.top;have l2:=au s.bot;unfold N2;split;exact C3 A2 A9
 . rw[J3,aL,aL,L6,L6,cG,<-J3,<-J3];show _+1+_<=130;lia
theorem vJ(s:Small q):W5 (N2 q):=by
 have key:∀c∈lz (N2 q),c=45\/c=47\/(48<=c/\c<=57):=by
  intro c hc;rw[vY s.pos]at hc;split at hc
  . rcases nh _ c hc with z|z
    exact .inl z;exact .inr (.inr z)
  . rcases List.mem_append.mp hc with z|z
    . rcases nh _ c z with z|z
      exact .inl z;exact .inr (.inr z)
    . rcases List.mem_cons.mp z with z|z
      exact .inr (.inl z);exact .inr (.inr (aE _ c z))
 refine⟨Md s,λhc=>?_,nJ λc hc=>?_⟩
 . have:=key 32 hc;simp_all
 have:=key c hc;lia
theorem a2x(s:Small q):V9 [fr q]=U (.dat (.str (N2 q))):=by
 have e1:=kb s.top;have e2:=kb s.bot;have l1:=au s.top;have l2:=au s.bot;unfold V9 N2;walk_at "t";by_cases c:q.2=1;rw[A3 c,A3 c,e1];walk_at "t"
 . rw[A4 c,A4 c];walk_at "t";rw[e1];walk_at "t";rw[bq (by rw[J3 (p5 "/"),cG];simp;exact C3 A2 A9)];walk_at "t";rw[e2];walk_at "t";rw[bq (by rw[J3,aL,L6,<-J3,cG];simp;lia)];walk_at "t"
theorem rQ{D M:Int}(h:Sz D M x)(p:0<D)(b:Bt 97 D)(hM:M<=2^100):Small (q2 x):=by
 have f:=h.f;have hd:(q2 x).2<=D:=ri p f.dvd;have hD:D<2^97:=by
  have:=b.lt;have e:((2:Nat)^97:Nat)=158456325028528675187087900672:=by rfl
  have e':((2:Int)^97)=158456325028528675187087900672:=by rfl
  rw[e]at this;rw[e'];lia
 have e97:((2:Int)^97)=158456325028528675187087900672:=by rfl
 have e100:((2:Int)^100)=1267650600228229401496703205376:=by rfl
 have e60:(10:Nat)^60=1000000000000000000000000000000000000000000000000000000000000:=by rfl
 have m:=f.wH;have pp:=f.pos;have m2:M*(q2 x).2<=1267650600228229401496703205376*158456325028528675187087900672:=by rw[e100]at hM;rw[e97]at hD;have h0:=h.m0;exact H9 (mN hM (by exact ab A2)) (QO (by lia) (by decide))
 have m3:(1267650600228229401496703205376*158456325028528675187087900672:Int)<1000000000000000000000000000000000000000000000000000000000000:=by decide
 rw[e97]at hD;exact⟨by rw[e60];omega,by rw[e60];omega,pp⟩
abbrev qT(x:Rat):Str:=N2 (q2 x)
theorem a5p(h:Small (q2 x)):eF [qd x]=U (.dat (.str (qT x))):=rL h
theorem a5r(h:Small (q2 x)):V9 [qd x]=U (.dat (.str (qT x))):=a2x h
abbrev qG(l:List Rat):Str:=M7 (l.map qT)
theorem KH(hl:l.length<=100)(ne:l≠[])(h:∀x∈l,Small (q2 x)):xf (l.map qT):=⟨by simpa using ne,by rw[C8];exact C3 A2 A9,λw hw=>by obtain⟨x,hx,rfl⟩:=mem_map.mp hw;exact vJ (h x hx)⟩
theorem Jk(hl:l.length<=100)(ne:l≠[])(h:∀x∈l,Small (q2 x)):M0 [.tuple (l.map qd)]=U (.dat (.str (qG l))):=by
 have ec:∀ds:Ds,O2 F7 F4 cU ds (l.map qd)=U ((l.map qT).map .str):=λds=>by
  rw[comp_map (f:=λx=>.str (qT x)) λx hx=>⟨.dat (.str (qT x)),by unfold cU;walk_at "t";exact a5p (h x hx),rfl⟩,V3];rfl
 have j:=Xq (KH hl ne h);have l1:(l.map qd).length<=100:=by rw[C8];exact hl
 unfold M0;walk_at "t";rw[A3 (by exact C3 A2 A9),ec];walk_at "t";rw[j];walk_at "t"
variable{H:Hs}{k:List Rl}{n:Nat}
abbrev jU(H:Hs)(k:List Rl)(n:Nat):List Rat:=[(G0 H k n).V8,(G0 H k n).give,(G0 H k n).fill,(G0 H k n).take,(G0 H k n).X6]++(G0 H k n).done
theorem XF(hH:R4 H)(h:n<=6):0<dN H n/\Bt 97 (dN H n):=⟨(wz hH n).1,(wz hH n).2.mono (by lia)⟩
theorem xG(hH:R4 H)(hn:n<H.hs.length)(h6:H.hs.length<=6):(∀x∈jU H k n,Small (q2 x))/\(jU H k n).length<=11:=by
 have Z:=ze (k:=k) (m:=n+1) hH hn (by simp_all);obtain⟨p,b⟩:=XF hH (n:=n+1) (by exact C3 A2 A2);have wl:=hH.wl;refine⟨λx hx=>?_,by rw[L6,Z.dl];simp;exact PZ A2 _⟩
 have s:Sz (dN H (n+1)) (2^60) x:=by
  rcases List.mem_append.mp hx with h|h
  . simp only[K6,P7,P5]at h;rcases h with rfl|rfl|rfl|rfl|rfl
    exact Z.b;exact Z.g;exact Z.f;exact Z.t;exact Z.l
  exact Z.d x h
 exact rQ s p b (by decide)
theorem pI(hH:R4 H)(hr:wY H.rest)(h6:H.hs.length<=6):∀x∈cZ H k,Small (q2 x):=by
 have S:=yg (k:=k) hH (K5 _) H.hs.length (K5 _);obtain⟨p,b⟩:=XF hH h6;have so:=pz (k:=k) hH H.hs.length (K5 _);have z:=vT hr so.zl;have e100:(8*1237940039285380274899124224:Int)<=2^100:=by decide
 intro x hx;simp only[cZ,K6,P7,P5]at hx;rcases hx with rfl|rfl|rfl
 exact rQ S.l p b (H9 (by lia) e100);exact rQ S.u p b (H9 (by omega) e100);exact rQ (S.c.sub z) p b (H9 (by omega) e100)
theorem OI(d:Dq)(h:d.done.length<=6):C2 (.tuple [qd d.V8,qd d.give,qd d.fill,qd d.take,qd d.X6]) (.tuple (d.done.map qd))=U (.dat (.tuple (([d.V8,d.give,d.fill,d.take,d.X6]++d.done).map qd))):=by
 rw[iH (by rw[C8];simp;lia),T2];rfl
noncomputable abbrev Jd:Str:=p5 "hour"
abbrev Fp(H:Hs)(k:List Rl)(n:Nat):List Str:=Jd::C7 (n:Int)::(jU H k n).map qT
theorem TH:p5 "hour " = Jd++p5 " ":=Z2 (by decide +kernel)
theorem a0m:p5 "hour "++p5 (aO (n:Int))++p5 " "++qG (jU H k n)=M7 (Fp H k n):=by rw[TH,lN,lN,<-lN (p5 (aO (n:Int))),qt (by simp),qt (by simp)]
def hV(H:Hs)(k:List Rl)(n:Nat):List l5:=(R8 n).map λi=>.str (M7 (Fp H k i))
theorem Jo(H:Hs)(k:List Rl)(n:Nat):hV H k (n+1)=hV H k n++[.str (M7 (Fp H k n))]:=by unfold hV;rw[Gy,T2];rfl
theorem Fq(H:Hs)(k:List Rl)(n:Nat):(hV H k n).length=n:=by unfold hV;rw[C8,iy]
theorem a2W{l:List Rat}(h:l.length<=100)(s:∀x∈l,Small (q2 x)):(qG l).length<=92000:=xA (by rw[C8];exact C3 A2 A9) λw hw=>by obtain⟨x,hx,rfl⟩:=mem_map.mp hw;exact(vJ (s x hx)).len
theorem Le(hH:R4 H)(hn:n<H.hs.length)(h6:H.hs.length<=6)(x0 y4:Option PV):
  fF [x0,U (.own (hV H k n)),iD (n:Int),U (.dat (U9 (G0 H k n))),y4]=U (.next [x0,U (.own (hV H k (n+1))),iD (n:Int),U (.dat (U9 (G0 H k n))),U (.dat (.str (qG (jU H k n))))]):=by
 obtain⟨sm,ll⟩:=xG (k:=k) hH hn h6;have Z:=ze (k:=k) (m:=n+1) hH hn (by simp_all);have wl:=hH.wl;have fe:=Jk (l:=jU H k n) (by exact C3 A2 A9) (by simp) sm;have ad:=OI (G0 H k n) (by rw[Z.dl];exact wl);have fl:=a2W (l:=jU H k n) (by exact C3 A2 A9) sm
 have l2:(n:Int).natAbs.log2<1920:=by
  have:(n:Int).natAbs<2^5:=by show n<32;lia
  have:=Gb (n:=(n:Int).natAbs) (k:=1920);by_cases c:(n:Int).natAbs=0;rw[c];decide;rw[this c];exact L9 (by omega:(n:Int).natAbs<2^5) (mj (by decide) (by decide))
 have e1:A0 4 (p6 M0 (f6 (f9 C2 (bM K4 (f7 3) S5 (M3 (fC (.int 5)))) (f9 w5 (f7 3) (fC (.int 5)))) j2)) [x0,U (.own (hV H k n)),iD (n:Int),U (.dat (U9 (G0 H k n))),y4]=U (.next [x0,U (.own (hV H k n)),iD (n:Int),U (.dat (U9 (G0 H k n))),U (.dat (.str (qG (jU H k n))))]):=W4 (pv:=.dat (.str (qG (jU H k n)))) (by
  show((C2 (.tuple [qd (G0 H k n).V8,qd (G0 H k n).give,qd (G0 H k n).fill,qd (G0 H k n).take,qd (G0 H k n).X6]) (.tuple ((G0 H k n).done.map qd))).bind λx=>U [x.d]).bind M0=_
  rw[ad];exact fe)
 unfold fF;rw[C6 e1,iO];have e2:yZ "hour " " " 2 4 [x0,U (.own (hV H k n)),iD (n:Int),U (.dat (U9 (G0 H k n))),U (.dat (.str (qG (jU H k n))))]=U (.dat (.str (M7 (Fp H k n)))):=by
  show(if _ then U (PV.dat (.str (p5 "hour "++p5 (aO (n:Int))++p5 " "++qG (jU H k n))))else J)=_;rw[A3 ⟨l2,by exact C3 A2 A9⟩,a0m]
 rw[e2,P8 _ (l:=hV H k n) rfl (by rw[Fq];lia),Jo];rfl
theorem OJ(hH:R4 H)(h6:H.hs.length<=6):di [.tuple (J2 H k H.hs.length)]=U (.own (hV H k H.hs.length)):=by
 unfold di;walk_at "t";obtain⟨ds',e1,y2,y3,y4,rfl⟩:=nY (gt:=eJ 2 (N0 2 (N0 3 eM))) (G:=fF) (items:=Y6 0 (J2 H k H.hs.length)) (ds:=[U (.dat (.tuple (J2 H k H.hs.length))),U (.own []),J,J,J])
  (λn ds=>∃y2 y3 y4,ds=[U (.dat (.tuple (J2 H k H.hs.length))),U (.own (hV H k n)),y2,y3,y4])
  ⟨J,J,J,rfl⟩ (by
   rintro n d ds hd ⟨y2,y3,y4,rfl⟩;rw[sN]at hd;have hn:n<H.hs.length:=by
    by_cases c:n<H.hs.length;exact c;rw[oZ (by rw[kj];simp_all)]at hd;cases hd
   rw[xq hn]at hd;have hd':d=.tuple [.int (n:Int),U9 (G0 H k n)]:=by simp only[jA,ro,ra]at hd;exact hd.symm
   subst hd';exact⟨_,_,rfl,.inl (Le hH hn h6 _ _),_,_,_,rfl⟩)
 rw[xN,kj]at e1
 erw [e1]
 walk_at "t"
variable{r:Ds}{z:Str}{a:Option PV}{h:J7}{A:Ks}{Z:Rl}{K:List Rl}{w:Option Addr}{Y:Ds->Option Out}{l:List l5}{X:Ds->Option Bool}
abbrev nU(K:List Rl):List l5:=K.map λr=>.str (R7 r)
theorem wC{n:Nat}{done:List l5}{r0 y4:Option PV}(rr:ip [.str z]=U (.dat (C5 Z)))(hn:n<20)(hd:done.length<=100):V4 [r0,U (.own done),iD (n:Int),U (.dat (.str z)),y4]=U (.next [r0,U (.own (done++[C5 Z])),iD (n:Int),U (.dat (.str z)),U (.dat (C5 Z))]):=by
 have nn:M8 (C5 Z)=U':=rfl;generalize C5 Z=rd at *;unfold V4;walk_at "t";rw[rr];walk_at "t";rw[nn];walk_at "t";rw[A4 (by lia)];walk_at "t";rw[P8 _ (l:=done) rfl (by exact dH A2 A9)];rfl
theorem Mv(rest:List l5)(r0:Option PV):∀(todo done:List Rl) (y2 y3 y4:Option PV),(∀r∈todo,aB r)->done.length+todo.length<=20 ->
  ∃z2 z3 z4,J9 (eJ 2 (N0 2 (N0 3 eM))) V4 (Y6 (done.length:Int) (nU todo++rest)) [r0,U (.own (done.map C5)),y2,y3,y4]=J9 (eJ 2 (N0 2 (N0 3 eM))) V4 (Y6 ((done++todo).length:Int) rest) [r0,U (.own ((done++todo).map C5)),z2,z3,z4]
 | [],done,y2,y3,y4,_,_=>⟨y2,y3,y4,by rw[bZ];rfl⟩
 |r::todo,done,y2,y3,y4,h,hl=>by
  rw[J4]at hl;obtain⟨z2,z3,z4,e⟩:=Mv rest r0 todo (done++[r]) (iD (done.length:Int)) (U (.dat (.str (R7 r)))) (U (.dat (C5 r))) (λx hx=>h x (F8 _ hx)) (by rw[L6,mL];lia);refine⟨z2,z3,z4,?_⟩;have B:=wC (n:=done.length) (done:=done.map C5) (r0:=r0) (y4:=y4) (iY (h r F5)) (by lia) (by rw[C8];lia);rw[show Y6 (done.length:Int) (nU (r::todo)++rest)=.tuple [.int (done.length:Int),.str (R7 r)]::Y6 ((done.length:Int)+1) (nU todo++rest)from rfl,Z7 (ds1:=[r0,U (.own (done.map C5)),iD (done.length:Int),U (.dat (.str (R7 r))),y4]) rfl B];rw[eT]at e;rw[<-show(done++r::todo)=done++([r]++todo)from rfl]at e;rw[<-e,T2,L6];rfl
theorem a4c(h:∀r∈K,aB r)(hl:K.length<=20)(z:Str){o:Option Out}(ho:∀y2 y3 y4,J9 (eJ 2 (N0 2 (N0 3 eM))) V4 [.tuple [.int (K.length:Int),.str z]] [U (.dat (.list (nU K++[.str z]))),U (.own (K.map C5)),y2,y3,y4]=o):
  fA [.list (nU K++[.str z])]=(Z9 o (B5 (Y5 (p6 cV (f6 (f7 1) j2))))).bind Bb:=by
 obtain⟨z2,z3,z4,e⟩:=Mv [.str z] (U (.dat (.list (nU K++[.str z])))) K [] J J J h (by simpa using hl);rw[bY]at e;have e2:=e.trans (ho z2 z3 z4);rw[<-e2];rfl
theorem a4b(h:∀Z∈K,aB Z)(hl:K.length<20)(hr:aB Z):fA [.list (nU K++[.str (R7 Z)])]=U (.dat (aY (K++[Z]))):=by
 rw[a4c h (by exact fy A2) (R7 Z) (o:=J9 (eJ 2 (N0 2 (N0 3 eM))) V4 [.tuple [.int (K.length:Int),.str (R7 Z)]] [U (.dat (.list (nU K++[.str (R7 Z)]))),U (.own (K.map C5)),J,J,J]) λy2 y3 y4=>?_]
 . rw[Z7 (ds1:=[U (.dat (.list (nU K++[.str (R7 Z)]))),U (.own (K.map C5)),iD (K.length:Int),U (.dat (.str (R7 Z))),J]) rfl (wC (iY hr) hl (by rw[C8];lia))];show U (PV.dat (.tuple (K.map C5++[C5 Z])))=_;rw[show aY (K++[Z])=.tuple (K.map C5++[C5 Z]) by rw[aY,T2];rfl]
 . rw[Z7 (ds1:=[U (.dat (.list (nU K++[.str (R7 Z)]))),U (.own (K.map C5)),iD (K.length:Int),U (.dat (.str (R7 Z))),y4]) rfl (wC (iY hr) hl (by rw[C8];lia)),
     Z7 (ds1:=[U (.dat (.list (nU K++[.str (R7 Z)]))),U (.own (K.map C5)),iD (K.length:Int),U (.dat (.str (R7 Z))),J]) rfl (wC (iY hr) hl (by rw[C8];lia))]
noncomputable abbrev VF:List l5:=[.str (p5 "ok")]
abbrev dQ(A:Ks)(nm:Str):List Rl:=(R6 nm A).getD []
theorem Uh:qH 0 (oh (p5 "Desk") (p5 "keepers")) (f7 2) (C4 j2) (U (.ob w (D0 h A))::a::U (.dat (.str z))::r)=U (.dat (aY (dQ A z))):=by
 unfold qH;rw[xt];show U (PV.dat ((fM z (mapA aY A)).getD (.tuple [])))=_
 rw[Es];unfold dQ;cases R6 z A<;>rfl
theorem a0f:uE 0 (oh (p5 "Desk") (p5 "keepers")) (f7 2) (U (.ob w (D0 h A))::a::U (.dat (.str z))::r)=U (.dat (((R6 z A).map aY).getD .none)):=by
 unfold uE;rw[xt];show U (PV.dat ((fM z (mapA aY A)).getD .none))=_;rw[Es]
theorem YO{b c:Option PV}(hl:A.length<100000):uD 0 (oh (p5 "Desk") (p5 "keepers")) (Bs (p5 "keepers")) (f7 2) (f7 5) [U (.ob w (D0 h A)),a,U (.dat (.str z)),b,c,U (.dat (aY K))]=U (.next [U (.ob w (D0 h (fX A z K))),a,U (.dat (.str z)),b,c,U (.dat (aY K))]):=by
 unfold uD;rw[xt];show(if (mapA aY A).length<100000 then U (Out.next [U (.ob w (Bs (p5 "keepers") (D0 h A) (AZ (mapA aY A) z (aY K)))),a,U (.dat (.str z)),b,c,U (.dat (aY K))])else J)=_;rw[A3 (by unfold mapA;rw[C8];exact hl),YM,a0l]
theorem xK{t:Nat->Addr}{c c2:OD}(hd:l.length<=r.length):S8 t 0 (.ob J c::l.map .dat) (U (.ob (U (t 0)) c2)::r)=U (.ob J c2)::l.map λ_=>J:=by
 show(if U (t 0)=U (t 0)then U (PV.ob J c2)else J)::S8 t 1 (l.map .dat) r=_;rw[A3 rfl]
 congr 1
 generalize 1=n;induction l generalizing r n with
 |nil=>rfl
 |cons d l ih=>cases r with
  |nil=>cases hd
  |cons x r=>exact H0 (J::·) (ih (by simpa using hd) (n+1))
theorem Lb{G2:Ds->Option Out}(h:X r=U Uf):E4 X Y G2 r=Y r:=by unfold E4;rw[h];rfl
theorem kQ{G2:Ds->Option Out}(h:X r=U U'):E4 X Y G2 r=G2 r:=by unfold E4;rw[h];rfl
theorem Ys{G2:Ds->Option Out}{ds':Ds}{pv:PV}(h:Y r=U (.retO pv ds')):w4 Y G2 r=U (.retO pv ds'):=by unfold w4;rw[h];rfl
theorem eq_1{y:Str}:A8 (f9 D9 (f7 1) (fC (.str y))) (a::U (.dat (.str z))::r)=U (decide (z=y)):=rfl
theorem Tf{a b:String}(h:decide (a=b)=U'):decide (p5 a=p5 b)=U':=by simp only[F6];exact h
theorem YB{n:Nat}{nm:Str}(HA:Kp n A)(hn:n<100000)(hl:(dQ A nm).length<20)(hr:aB Z):
  cS [.ob J (D0 h A),.dat (.str z),.dat (.str nm),.dat (.str (R7 Z))]=U (.own VF,[U (.ob J (D0 h (fX A nm (dQ A nm++[Z])))),J,J,J]):=by
 have hK:∀Z∈dQ A nm,aB Z:=by
  unfold dQ;cases e:R6 nm A with
  |none=>exact λZ hr=>nomatch hr
  |some K=>exact(HA.look e).1
 have sh:=Mg hK (by exact fy A2);have rk:=a4b hK hl hr;refine qE rfl λt=>?_;show(w4 _ _ [U (.ob (U (t 0)) (D0 h A)),U (.dat (.str z)),U (.dat (.str nm)),U (.dat (.str (R7 Z))),J,J]).bind _=_;rw[C6 (ds':=[U (.ob (U (t 0)) (D0 h A)),U (.dat (.str z)),U (.dat (.str nm)),U (.dat (.str (R7 Z))),U (.dat (.list (nU (dQ A nm)))),J]) (W4 (pv:=.own (nU (dQ A nm))) (by unfold p6 f6;rw[Uh];exact sh))]
 rw[C6 (ds':=[U (.ob (U (t 0)) (D0 h A)),U (.dat (.str z)),U (.dat (.str nm)),U (.dat (.str (R7 Z))),U (.dat (.list (nU (dQ A nm)))),U (.dat (aY (dQ A nm++[Z])))]) (W4 (pv:=.dat (aY (dQ A nm++[Z]))) (by
  show((C2 (.list (nU (dQ A nm))) (.list [.str (R7 Z)])).bind λx=>U [x.d]).bind fA=_;rw[xS (by rw[C8,mL];exact C3 A2 A9)]
  exact rk))]
 rw[C6 (YO (by have:=HA.len;exact dH A2 A2))];show ub _ t (.retO (.own VF) _)=_;show U (_,S8 t 0 (.ob J (D0 h A)::[E7 z,.str nm,.str (R7 Z)].map .dat) _)=_;rw[xK (by simp)];rfl
variable{t:Int}{h:J7}{Z:List Int}{q:Int×Int}
theorem a2y{b:Int}(h:0<b):(G6 t b).2<=b:=ri h (Er (t:=t) h).2.2.2
theorem Mh{ns:List Int}{k:Int}(hl:ns.length<=63)(h0:0<=k)(h1:k<=10000):∃q:Int×Int,mm [U8 ns,.int k]=U (.dat (fr q))/\oF q/\q.2<=12:=by
 obtain⟨m,e,m0,m1⟩:=L0 (ns:=ns) (k:=k) hl h0 (by exact H9 A2 A9);obtain⟨m',e',m0',m1'⟩:=L0 (ns:=ns) (k:=k+1) hl (by lia) (by exact kS A2 A9);obtain⟨v,ev,v0,v1⟩:=L0 (ns:=ns) (k:=k+2) hl (by lia) (by lia);have c0:=N9 m (b:=12) (by decide);have c1:=O9 m (b:=12) (by decide);have d0:=N9 m' (b:=1+m.fmod 12) (by omega);have d1:=O9 m' (b:=1+m.fmod 12) (by omega);have f0:=N9 v (b:=4) (by decide);have f1:=O9 v (b:=4) (by decide);have L:=ZK (t:=1+m'.fmod (1+m.fmod 12)) (b:=1+m.fmod 12) (by omega) (by omega) (by omega)
 obtain⟨q,hq,sq⟩:∃q:Int×Int,T7 [.tuple [.int 1,.int 1],.tuple [.int 1,.int 2],.tuple [.int 9,.int 10],fr (G6 (1+m'.fmod (1+m.fmod 12)) (1+m.fmod 12))] (v.fmod 4)=U (fr q)/\oF q/\q.2<=12:=by
  generalize v.fmod 4=z at *;have:z=0\/z=1\/z=2\/z=3:=by lia
  rcases this with rfl|rfl|rfl|rfl
  exact⟨(1,1),rfl,⟨by decide,by decide,by decide,by rfl⟩,by decide⟩;exact⟨(1,2),rfl,⟨by decide,by decide,by decide,by rfl⟩,by decide⟩;exact⟨(9,10),rfl,⟨by decide,by decide,by decide,by rfl⟩,by decide⟩;exact⟨_,rfl,L,H9 (a2y (by omega)) (by omega)⟩
 unfold mm;walk_at "r";rw[e];walk_at "r";rw[E3 (by decide)];walk_at "r";rw[e'];walk_at "r";rw[E3 (by omega)];walk_at "r";rw[sD (by omega) (Bt.ej (by omega) (by omega))];walk_at "r";rw[ev];walk_at "r";rw[E3 (by decide)];walk_at "r";rw[hq];exact⟨q,rfl,sq⟩
theorem a2P{ns:List Int}{n m:Int}(hl:ns.length<=63)(n1:1<=n)(n2:n<=24)(m0:0<=m)(m1:m<=6):∃H:J7,pR [U8 ns,.int n,.int m]=U (.dat (D5 H))/\H5 H/\(H.kept.2<=12/\H.left.2<=12)/\n=(H.hs.length:Int):=by
 obtain⟨a,ea,a0,a1⟩:=Z6 (ns:=ns) (k:=110) hl (by decide) (by decide);obtain⟨b,eb,b0,b1⟩:=Z6 (ns:=ns) (k:=111) hl (by decide) (by decide);obtain⟨c,ec,c0,c1⟩:=L0 (ns:=ns) (k:=112) hl (by decide) (by decide);obtain⟨f,ef,f0,f1⟩:=Z6 (ns:=ns) (k:=113) hl (by decide) (by decide);obtain⟨g,eg,g0,g1⟩:=Z6 (ns:=ns) (k:=114) hl (by decide) (by decide);obtain⟨kp,ekp,hkp,kp12⟩:=Mh (ns:=ns) (k:=115) hl (by decide) (by decide);obtain⟨lf,elf,hlf,lf12⟩:=Mh (ns:=ns) (k:=118) hl (by decide) (by decide);obtain⟨r,er,r0,r1⟩:=L0 (ns:=ns) (k:=121) hl (by decide) (by decide);obtain⟨v,ev,v0,v1⟩:=L0 (ns:=ns) (k:=122) hl (by decide) (by decide);have s0:=N9 (c*991) (b:=a+b+1) (by lia);have s1:=O9 (c*991) (b:=a+b+1) (by lia);have w0:=N9 v (b:=2) (by decide);have w1:=O9 v (b:=2) (by decide)
 obtain⟨nl,hn,nn⟩:∃nl:List Str,T7 [qY [.str "w",.str "wa",.str "wab",.str "a",.str "ab",.str "b"],.list [.str "ab",.str "a",.str "b",.str "abb",.str "c",.str "ca"]] (v.fmod 2)=U (.list (nl.map .str))/\FT nl:=by
  generalize v.fmod 2=z at *;have:z=0\/z=1:=by lia
  rcases this with rfl|rfl
  exact⟨[p5 "w",p5 "wa",p5 "wab",p5 "a",p5 "ab",p5 "b"],rfl,ZE⟩;exact⟨[p5 "ab",p5 "a",p5 "b",p5 "abb",p5 "c",p5 "ca"],rfl,ZD⟩
 have nl6:=nn.len;unfold pR;walk_at "r";rw[Y2 (by lia)]
 walk_at "r";obtain⟨ds',h1,⟨hs',hlen,G8,y4,y5,rfl⟩⟩:=bL (gt:=D3 4) (G:=iq) (lo:=0) (n:=n.toNat) (ds:=[U (.dat (U8 ns)),iD n,iD m,U (.own []),J,J,J,J,J,J,J,J,J])
  (λi ds=>∃hs:List Hr,hs.length=i/\(∀x∈hs,AI x)/\∃y4 y5,ds=[U (.dat (U8 ns)),iD n,iD m,U (.own (hs.map C1)),y4,y5,J,J,J,J,J,J,J])
  ⟨[],rfl,by simp,J,J,rfl⟩ (by
   rintro i ds hi ⟨hs,hlen,G8,y4,y5,rfl⟩;obtain⟨h,hh,z5,e⟩:=KU (t:=0+(i:Int)) hl (by simp_all) (by lia) (iD n) (iD m) (hs.map C1) (by simp;lia) y5 [J,J,J,J,J,J,J];refine⟨_,_,rfl,.inl e,hs++[h],by simp[hlen],?_,iD (0+(i:Int)),z5,by rw[T2];rfl⟩
   intro x hx;rcases List.mem_append.mp hx with hx|hx
   exact G8 x hx
   . simp at hx;subst hx;exact hh)
 rw[h1];walk_at "r";rw[ea,eb];walk_at "r";rw[ec];walk_at "r";rw[J8 (Bt.ej (by lia) (by exact H9 A2 A9)) Bt.lit];walk_at "r";rw[E3 (by lia)];walk_at "r";rw[ef,eg];walk_at "r";rw[ekp,elf];walk_at "r";rw[er];walk_at "r";rw[E3 (by decide)];walk_at "r";rw[iH (by simp)];walk_at "r";rw[iH (by simp)];walk_at "r";rw[iH (by simp)];walk_at "r";rw[ev];walk_at "r";rw[E3 (by decide)];walk_at "r";rw[hn];walk_at "r";rw[Y2 (by lia)];walk_at "r";rw[A3 (by simp[fV];exact H9 A2 A9)];have wk:∀i:Nat,i<m.toNat->∃w:Wk,kI [U8 ns,.int (130+7*(0+(i:Int))),.str (nl.getD i ""),.int n]=U (.dat (G7 w))/\uR n w/\w.name=nl.getD i "":=λi hi=>Yg hl (by exact gD _) (by lia) n1 (nn.at (by lia))
 obtain⟨wf,hwf⟩:∃wf:Nat->Wk,∀i,i<m.toNat->kI [U8 ns,.int (130+7*(0+(i:Int))),.str (nl.getD i ""),.int n]=U (.dat (G7 (wf i)))/\uR n (wf i)/\(wf i).name=nl.getD i "":=by
  refine⟨λi=>if h:i<m.toNat then(wk i h).choose else⟨"",0,0,0,0⟩,λi hi=>?_⟩;simp only[hi,dite_true];exact(wk i hi).choose_spec
 rw[xP (f:=λi=>G7 (wf i)) λi hi=>?_]
 . walk_at "r";refine⟨⟨hs',a+b,(c*991).fmod (a+b+1),f,g,kp,lf,r.fmod 13,(R8 m.toNat).map wf⟩,?_,?_,⟨kp12,lf12⟩,by show n=(hs'.length:Int);lia⟩;unfold D5 ai;rw[V3];rfl
   . have e:(n:Int)=(hs'.length:Int):=by lia
     refine⟨G8,by show 1<=hs'.length;lia,by show hs'.length<=24;lia,⟨by show 0<=a+b;omega,by show a+b<=1000000;omega⟩,⟨s0,by show(c*991).fmod (a+b+1)<=1000000;omega⟩,by show(c*991).fmod (a+b+1)<=a+b;omega,⟨f0,by show f<=1000000;omega⟩,⟨g0,by show g<=1000000;omega⟩,hkp,hlf,⟨N9 r (by decide),H9 (ab (O9 r (by decide))) (by decide)⟩,?_,by show((R8 m.toNat).map wf).length<=6;rw[C8,iy];omega,?_⟩
     rotate_left
     . show(((R8 m.toNat).map wf).map Wk.name).Nodup
       rw[V3];exact Nr λi j hi hj e=>by have e:(wf i).name=(wf j).name:=e;rw[(hwf i hi).2.2,(hwf j hj).2.2]at e;exact nn.inj (by omega) (by omega) e
     intro w hw;obtain⟨i,hi,rfl⟩:=mem_map.mp hw;rw[<-e];exact(hwf i (mem_range.mp hi)).2.1
 . refine⟨.dat (G7 (wf i)),?_,rfl⟩;unfold qg;walk_at "r";rw[J8 Bt.lit (Bt.ej (by omega) (by omega))];walk_at "r";rw[map_getD (f:=E7) (l:=nl) "" (by omega)];walk_at "r";exact(hwf i hi).1
def L8(h:J7):Hs:=⟨h.hs,h.size,h.start,h.fill,h.take,val h.kept,val h.left,h.rest,h.ws⟩
theorem Dv(h:oF q):q=q2 (val q):=tX (by have:=h.pos;have:=h.le;exact H9 A2 A2) h.low
theorem Mf(h:oF q)(m:q.2<=12):kG (val q):=by
 have e:=Dv h;have a:=h.pos;have b:=h.le;have e1:(val q).num=q.1:=by rw[show(val q).num=(q2 (val q)).1 from rfl,<-e]
 have e2:((val q).den:Int)=q.2:=by rw[show((val q).den:Int)=(q2 (val q)).2 from rfl,<-e]
 refine⟨?_,?_,by lia⟩
 . have c:¬(val q<=0):=λz=>by
     rw[zx]at z;have z:(val q).num*1<=0*((val q).den:Int):=z;rw[e1]at z;lia
   grind
 . rw[zx];show(val q).num*1<=1*((val q).den:Int);rw[e1,e2];lia
theorem wj(H:H5 h):ck (L8 h)=D5 h:=by unfold ck cE D5 ai L8 qd;rw[<-Dv H.kept,<-Dv H.left]
theorem gz(H:H5 h)(m:h.kept.2<=12/\h.left.2<=12):R4 (L8 h):=⟨λx hx=>⟨(H.hs x hx).Q6,(H.hs x hx).need,(H.hs x hx).line⟩,H.h1,H.hl,H.size,H.start,H.full,H.fill,H.take,Mf H.kept m.1,Mf H.left m.2,λw hw=>⟨(H.ws w hw).F3,(H.ws w hw).first,(H.ws w hw).fl,(H.ws w hw).last,(H.ws w hw).most⟩,H.wl⟩
theorem nj(H:H5 h):wY (L8 h).rest:=⟨by have:=H.rest.1;show -1000000<=h.rest;lia,H.rest.2⟩
variable{K:List Rl}{h:J7}{A:Ks}{Z:Str}
theorem Vu(h:∀r∈K,aB r):FW K:=⟨λr hr=>⟨λx hx=>⟨by
 have:=(h r hr).ts x hx;cases x<;>simp only[oE,BG]at * <;> omega⟩,(h r hr).tl⟩⟩
structure Hl(h:J7):Prop where
 H:H5 h
 m:h.kept.2<=12/\h.left.2<=12
 l:h.hs.length<=6
abbrev pT(h:J7)(K:List Rl):l5:=.tuple (J2 (L8 h) K h.hs.length)
theorem Ur(L:Hl h)(hK:∀r∈K,aB r):pj [D5 h,aY K]=U (.dat (pT h K)):=by have e:=a3g (k:=K) (gz L.H L.m) (Vu hK);rw[wj L.H]at e;exact e
theorem a4A(L:Hl h)(hK:∀r∈K,aB r):ny [D5 h,aY K]=U (.dat (pT h K)):=by have e:=ZV (k:=K) (gz L.H L.m) (Vu hK);rw[wj L.H]at e;exact e
theorem a3k(L:Hl h):kK [D5 h,pT h K]=U (.dat (.tuple ((cZ (L8 h) K).map qd))):=by have e:=UC (k:=K) (gz L.H L.m) (nj L.H);rw[wj L.H]at e;exact e
theorem ZW(L:Hl h):eG [D5 h,pT h K]=U (.dat (.tuple ((cZ (L8 h) K).map qd))):=by have e:=NQ (k:=K) (gz L.H L.m) (nj L.H);rw[wj L.H]at e;exact e
abbrev gd(h:J7)(K:List Rl):List l5:=hV (L8 h) K h.hs.length
abbrev UD(h:J7)(K:List Rl):List l5:=[.str (qG (cZ (L8 h) K))]
theorem a0o(L:Hl h):di [pT h K]=U (.own (gd h K)):=OJ (k:=K) (gz L.H L.m) L.l
theorem a3l(L:Hl h):M0 [.tuple ((cZ (L8 h) K).map qd)]=U (.dat (.str (qG (cZ (L8 h) K)))):=Jk (by simp[cZ]) (by simp[cZ]) (pI (gz L.H L.m) (nj L.H) L.l)
theorem OA{w:Option Addr}{r:Ds}:wy (p5 "Desk") 0 (p5 "house") (U (.ob w (D0 h A))::r)=U (.dat (D5 h)):=by
 show(if p5 "Desk" = p5 "Desk" then U (w,jf h A)else J).bind _=_;rw[A3 rfl];show((X1 (p5 "house") (jf h A)).bind λp=>(Uv p).bind λd=>U (PV.dat d))=_;rw[Oo];rfl
theorem wN{w:String}{o:PV}(hk:R6 Z A=U K)(hd:decide (w = "drop")=U')(hp:decide (w = "keeper")=U')(L:Hl h)(hK:∀r∈K,aB r)(ho:∀t:Option Addr,w4 (E4 (A8 (f9 D9 (f7 1) (fC (.str (p5 "day"))))) (eO (p6 di (f6 (f7 4) j2))) B7) (eO (E9 (f6 (p6 M0 (f6 (p6 kK (f6 (wy (p5 "Desk") 0 (p5 "house")) (f6 (f7 4) j2))) j2)) j2))) [U (.ob t (D0 h A)),U (.dat (.str (p5 w))),U (.dat (.str Z)),U (.dat (aY K)),U (.dat (pT h K))]=U (.retO o [U (.ob t (D0 h A)),U (.dat (.str (p5 w))),U (.dat (.str Z)),U (.dat (aY K)),U (.dat (pT h K))])):
  U7 [.ob J (D0 h A),.dat (.str (p5 w)),.dat (.str Z)]=U (o,[U (.ob J (D0 h A)),J,J]):=by
 refine qE rfl λt=>?_;show(w4 _ _ [U (.ob (U (t 0)) (D0 h A)),U (.dat (.str (p5 w))),U (.dat (.str Z)),J,J]).bind _=_;rw[C6 (ds':=[U (.ob (U (t 0)) (D0 h A)),U (.dat (.str (p5 w))),U (.dat (.str Z)),U (.dat (aY K)),J]) (W4 (pv:=.dat (aY K)) (by rw[a0f,hk];rfl)),C6 (ds':=[U (.ob (U (t 0)) (D0 h A)),U (.dat (.str (p5 w))),U (.dat (.str Z)),U (.dat (aY K)),J]) rfl];rw[C6 (ds':=[U (.ob (U (t 0)) (D0 h A)),U (.dat (.str (p5 w))),U (.dat (.str Z)),U (.dat (aY K)),J]) (by rw[kQ (eq_1.trans (H0 U (Tf hd)))];rfl)];rw[C6 (ds':=[U (.ob (U (t 0)) (D0 h A)),U (.dat (.str (p5 w))),U (.dat (.str Z)),U (.dat (aY K)),J]) (by rw[kQ (eq_1.trans (H0 U (Tf hp)))];rfl)];rw[C6 (ds':=[U (.ob (U (t 0)) (D0 h A)),U (.dat (.str (p5 w))),U (.dat (.str Z)),U (.dat (aY K)),U (.dat (pT h K))]) (W4 (pv:=.dat (pT h K)) (by unfold p6 f6;rw[OA];exact Ur L hK))];rw[ho (U (t 0))];show U (_,S8 t 0 (.ob J (D0 h A)::[E7 (p5 w),.str Z].map .dat) _)=_;rw[xK (by simp)];rfl
theorem KL(hk:R6 Z A=U K)(L:Hl h)(hK:∀r∈K,aB r):
  U7 [.ob J (D0 h A),.dat (.str (p5 "day")),.dat (.str Z)]=U (.own (gd h K),[U (.ob J (D0 h A)),J,J]):=wN hk (by rfl) (by rfl) L hK λt=>Ys (by
 rw[Lb (eq_1.trans (H0 U (S6 rfl)))];show((di [pT h K]).bind λpv=>U (Out.retO pv _))=_
 rw[a0o L];rfl)
theorem EA(hk:R6 Z A=U K)(L:Hl h)(hK:∀r∈K,aB r):
  U7 [.ob J (D0 h A),.dat (.str (p5 "costs")),.dat (.str Z)]=U (.own (UD h K),[U (.ob J (D0 h A)),J,J]):=wN hk (by rfl) (by rfl) L hK λt=>by
 rw[C6 (ds':=[U (.ob t (D0 h A)),U (.dat (.str (p5 "costs"))),U (.dat (.str Z)),U (.dat (aY K)),U (.dat (pT h K))]) (by
  rw[kQ (eq_1.trans (H0 U (Tf (by rfl))))]
  rfl)]
 unfold eO E9 p6 f6;dsimp only;rw[OA];show((((((kK [D5 h,pT h K]).bind λx=>U [x.d]).bind M0).bind λx=>U [x.d]).bind _)).bind _=_;rw[a3k L];show((((M0 [.tuple ((cZ (L8 h) K).map qd)]).bind λx=>U [x.d]).bind _)).bind _=_;rw[a3l L];rfl
variable{r:Ds}{w m:Str}{Z:PV}{h:J7}{A B:Ks}{Y:Ds->Option Bool}{b:Bool}{l:List l5}{f:List PV->Option (PV×Ds)}{X:Ds->Option (List AV)}{T:List Str}
theorem a3s{F2:Ds->Option Bool}(h:Y r=U U'):jk Y F2 r=U U':=by unfold jk;rw[h];rfl
theorem a3r{F2:Ds->Option Bool}(h:Y r=U Uf)(k:F2 r=U b):jk Y F2 r=U b:=by unfold jk;rw[h];exact k
theorem XI{F2:Ds->Option Bool}(h:Y r=U U')(k:F2 r=U b):W9 Y F2 r=U b:=by unfold W9;rw[h];exact k
theorem KN{a b:Option PV}:A8 (f9 D9 (f9 w5 (f7 2) (fC (.int 0))) (fC (.str m))) (a::b::U (.dat (.list (.str w::l)))::r)=U (decide (w=m)):=by
 show(((w5 (.list (.str w::l)) (.int 0)).bind λx=>D9 x.d (.str m)).bind λx=>FJ x.d)=_;rw[kx,CN];rfl
theorem um{w:Option Addr}{pv:PV}{ns:Ds}(h0:r[0]?=U (U (.ob w (D0 h A))))(hl:X r=U (l.map AV.d))(hm:¬p5 "house" = m/\¬p5 "keepers" = m)(hf:f (.ob J (D0 h A)::l.map .dat)=U (pv,U (.ob J (D0 h B))::ns)):fm (p5 "Desk") m 0 f X r=U (pv,r.set 0 (U (.ob w (D0 h B)))):=by
 unfold fm sk;rw[h0];show(if p5 "Desk" = p5 "Desk" then U (w,jf h A)else J).bind _=_
 rw[A3 rfl];have e:X1 m (jf h A)=J:=by unfold jf X1;rw[A4 hm.1];unfold X1;rw[A4 hm.2];rfl
 show(match X1 m (jf h A)with|none=>je f (bT 0 X) r|some _=>J)=_;rw[e];exact call_of h0 hl hf
def a1t:Ds->Option Out:=(w4 (E4 (A8 (f9 D9 (f9 w5 (f7 2) (fC (.int 0))) (fC (.str "rule")))) (pG (fm "Desk" "say_rule" 0 cS (Q1 (f7 1) (Q1 (f9 w5 (f7 2) (fC (.int 1))) (Q1 (aa du (fC (.str " ")) (f6 (bM K4 (f7 2) (M3 (fC (.int 2))) S5) j2)) mx))))) B7) (w4 (E4 (jk (A8 (f9 (Z5 inD cY) (f9 w5 (f7 2) (fC (.int 0))) (fC dU))) (A8 (f9 D9 (p6 T6 (f6 (f7 2) j2)) (fC (.int 2))))) (pG (fm "Desk" "say_keeper" 0 U7 (Q1 (f9 w5 (f7 2) (fC (.int 0))) (Q1 (f9 w5 (f7 2) (fC (.int 1))) mx)))) B7) bw))
theorem Mo{ws:List Str}{r:PV}(hw:∀x∈w::m::ws,W5 x)(hl:ws.length<=600)(N:Nm m)(hr:¬w=p5 "raised")(hs:∀t:Nat->Addr,(a1t [U (.ob (U (t 0)) (D0 h A)),U (.dat (.str (M7 (w::m::ws)))),U (.dat (.list ((w::m::ws).map .str)))]).bind (ub [.ob J (D0 h A),.dat (.str (M7 (w::m::ws)))] t)=U (r,[U (.ob J (D0 h B)),J])):
  gG [.ob J (D0 h A),.dat (.str (M7 (w::m::ws)))]=U (r,[U (.ob J (D0 h B)),J]):=by
 have sp:fU (.str (M7 (w::m::ws))) [.str (p5 " ")]=_:=tS (ws:=w::m::ws) (by simp) (by simp;exact C3 A2 A9) (λx hx=>(hw x hx).len) (λx hx=>(hw x hx).no);have nq:=λs hs=>a4z (a:=w) (b:=m) (r:=ws) (s:=s) hs;have iN:=Oi N;generalize M7 (w::m::ws)=L at *;refine qE rfl λt=>?_;show(w4 _ _ [U (.ob (U (t 0)) (D0 h A)),U (.dat (.str L)),J]).bind _=_;rw[C6 (ds':=[U (.ob (U (t 0)) (D0 h A)),U (.dat (.str L)),U (.dat (.list ((w::m::ws).map .str)))]) (W4 (pv:=.own ((w::m::ws).map .str)) sp)];rw[C6 (kQ (eq_1.trans (H0 U (L5 (nq "show" (by decide +kernel)))))),C6 (kQ (eq_1.trans (H0 U (L5 (nq "best" (by decide +kernel)))))),C6 (kQ (eq_1.trans (H0 U (L5 (nq "ranks" (by decide +kernel))))))]
 rw[C6 (kQ (a3s (KN.trans (H0 U (L5 hr)))))];rw[C6 (kQ (XI (b:=U') (by
  walk_at "t";rw[L5 (by simp;lia)]) (by walk_at "t";rw[iN];walk_at "t")))]
 exact hs t
theorem Vs{i:Nat}{G1 G2:Ds->Option Out}{ds':Ds}{args:List PV}{t:Nat->Addr}(h:fm w m i f X r=U (Z,ds'))(hG:G1 r=pG (fm w m i f X) r):(w4 G1 G2 r).bind (ub args t)=U (Z,S8 t 0 args ds'):=by unfold w4;rw[hG];unfold pG;rw[h];rfl
theorem HH{ws:List Str}{ns:Ds}(hw:∀x∈w::ws,W5 x)(hl:ws.length<=600)(N:Nm w)(hf:cS [.ob J (D0 h A),.dat (.str (M7 (p5 "rule"::w::ws))),.dat (.str w),.dat (.str (M7 ws))]=U (Z,U (.ob J (D0 h B))::ns)):
  gG [.ob J (D0 h A),.dat (.str (M7 (p5 "rule"::w::ws)))]=U (Z,[U (.ob J (D0 h B)),J]):=by
 have hw3:∀x∈p5 "rule"::w::ws,W5 x:=λx hx=>by
  rcases List.mem_cons.mp hx with rfl|hx
  exact W7 (by decide +kernel) (by decide +kernel);exact hw x hx
 have jd:=xB (ws:=ws) (by exact C3 A2 A9) (λx hx=>(hw x (F8 _ hx)).len);refine Mo hw3 hl N (by rw[F6];decide) λt=>?_;generalize M7 (p5 "rule"::w::ws)=L at *;refine(Vs (ds':=[U (.ob (U (t 0)) (D0 h B)),U (.dat (.str L)),U (.dat (.list ((p5 "rule"::w::ws).map .str)))]) (um (l:=[.str L,.str w,.str (M7 ws)]) rfl ?_ ⟨by rw[F6];decide,by rw[F6];decide⟩ hf) (Lb (KN.trans (H0 U (S6 rfl))))).trans ?_
 . have cf:=sQ (E7 (p5 "rule")::.str w::ws.map .str) 2;simp only[Q1,mx];walk_at "t";rw[show K4 (.list (.str (p5 "rule")::.str w::ws.map .str)) (U 2) J=U (.own (cutD (.str (p5 "rule")::.str w::ws.map .str) (U ((2:Nat):Int)) J))from rfl,cf];walk_at "t";rw[show(E7 (p5 "rule")::.str w::ws.map .str).drop 2=ws.map .str from rfl,jd];rfl
 . show U (Z,S8 t 0 (.ob J (D0 h A)::[E7 L].map .dat) _)=_;rw[xK (by simp)];rfl
theorem tD{ns:Ds}(W:W5 w)(N:Nm m)(hr:¬w=p5 "raised")(hu:¬w=p5 "rule")(hk:([p5 "keeper",p5 "drop",p5 "day",p5 "costs"].any λy=>y==w)=Uf)(hf:U7 [.ob J (D0 h A),.dat (.str w),.dat (.str m)]=U (Z,U (.ob J (D0 h B))::ns)):
  gG [.ob J (D0 h A),.dat (.str (M7 [w,m]))]=U (Z,[U (.ob J (D0 h B)),J]):=by
 have hw:∀x∈[w,m],W5 x:=λx hx=>by
  simp only[K6,P7,P5]at hx;rcases hx with rfl|rfl
  exact W;exact AL N
 refine Mo hw (by decide) N hr λt=>?_;generalize M7 [w,m]=L at *;unfold a1t;rw[C6 (kQ (KN.trans (H0 U (L5 hu))))];have kw:=in_words w [p5 "keeper",p5 "drop",p5 "day",p5 "costs"];rw[hk]at kw;refine(Vs (ds':=[U (.ob (U (t 0)) (D0 h B)),U (.dat (.str L)),U (.dat (.list ([w,m].map .str)))]) (um (l:=[.str w,.str m]) rfl rfl ⟨by rw[F6];decide,by rw[F6];decide⟩ hf) (Lb (a3r (b:=Uf) ?_ rfl))).trans ?_
 . show(((w5 (.list [.str w,.str m]) (.int 0)).bind λx=>(Z5 inD cY) x.d dU).bind λx=>FJ x.d)=_;rw[kx,CN];show((Z5 inD cY (.str w) dU).bind λx=>FJ x.d)=_
   erw [kw]
   rfl
 . show U (Z,S8 t 0 (.ob J (D0 h A)::[E7 L].map .dat) _)=_;rw[xK (by simp)];rfl
variable{h:J7}{A:Ks}{L:Str}{K:List Rl}
theorem AU{B:Ks}{ss:List Str}{ns:Ds}(hs:gG [.ob J (D0 h A),.dat (.str L)]=U (.own (ss.map .str),U (.ob J (D0 h B))::ns))(ok:∀w∈ss,jW w):dh [.ob J (D0 h A),.dat (.str L),.dat (.list (ss.map .str))]=U (.dat (.bool Uf),[U (.ob J (D0 h B)),J,J]):=by
 have ne:=Eh (l:=ss) (m:=ss) ok ok;rw[S6 rfl]at ne;have ne':X5 (.list (ss.map .str)) (.list (ss.map .str))=U (.dat (.bool U')):=ne;generalize ss.map E7=LD at *;refine qE rfl λt=>?_;show(w4 _ _ [U (.ob (U (t 0)) (D0 h A)),U (.dat (.str L)),U (.dat (.list LD)),J]).bind _=_
 rw[C6 (ds':=[U (.ob (U (t 0)) (D0 h B)),U (.dat (.str L)),U (.dat (.list LD)),U (.own LD)]) (by
  unfold CI;rw[um (B:=B) (l:=[.str L]) (pv:=.own LD) (ns:=ns) (w:=U (t 0)) rfl rfl ⟨by rw[F6];decide,by rw[F6];decide⟩ hs]
  rfl)]
 rw[C6 (ds':=[U (.ob (U (t 0)) (D0 h B)),U (.dat (.str L)),U (.dat (.list LD)),U (.own LD)]) (kQ (XI (b:=U') rfl (by
  show((X5 (.list LD) (.list LD)).bind λx=>FJ x.d)=_
  rw[ne'];rfl)))]
 show U (PV.dat (.bool Uf),S8 t 0 (.ob J (D0 h A)::[E7 L,.list LD].map .dat) [U (.ob (U (t 0)) (D0 h B)),U (.dat (.str L)),U (.dat (.list LD)),U (.own [])])=_;rw[xK (by simp)];rfl
theorem a2o:∀w∈[p5 "ok"],jW w:=λw hw=>by rw[mem_singleton.mp hw];exact AQ (by decide +kernel)
theorem Mn{n:Nat}{r:Rl}(HA:Kp n A)(hn:n<100000)(N:Nm L)(hl:(dQ A L).length<20)(hr:aB r):
  dh [.ob J (D0 h A),.dat (.str (M7 (p5 "rule"::L::aV r))),.dat (.list VF)]=U (.dat (.bool Uf),[U (.ob J (D0 h (fX A L (dQ A L++[r])))),J,J]):=
 AU (ss:=[p5 "ok"]) (HH (λx hx=>by
  rcases List.mem_cons.mp hx with rfl|hx
  exact AL N
  . exact AM hr x hx) (by have:=(iM hr).1;exact C3 A2 A9) N (YB HA hn hl hr)) a2o
theorem a3T:W5 (p5 "day"):=W7 (by decide +kernel) (by decide +kernel)
theorem Yk:W5 (p5 "costs"):=W7 (by decide +kernel) (by decide +kernel)
theorem a4D(L:Hl h){i:Nat}(hi:i<h.hs.length):xf (Fp (L8 h) K i):=by
 obtain⟨sm,ll⟩:=xG (k:=K) (gz L.H L.m) (show i<(L8 h).hs.length from hi) L.l;have hl:=L.l;refine⟨by simp,by simp only[J4,C8];lia,λw hw=>?_⟩
 rcases List.mem_cons.mp hw with rfl|hw
 exact W7 (by decide +kernel) (by decide +kernel)
 rcases List.mem_cons.mp hw with rfl|hw
 exact cC ⟨by simp_all,by lia⟩;obtain⟨x,hx,rfl⟩:=mem_map.mp hw;exact vJ (sm x hx)
abbrev a5y(h:J7)(K:List Rl):List Str:=(R8 h.hs.length).map λi=>M7 (Fp (L8 h) K i)
theorem Us(K:List Rl):gd h K=(a5y h K).map .str:=by
 show(R8 h.hs.length).map _=((R8 h.hs.length).map _).map _;rw[V3];rfl
theorem RC(hk:R6 L A=U K)(N:Nm L)(a:Hl h)(hK:∀r∈K,aB r):
  dh [.ob J (D0 h A),.dat (.str (M7 [p5 "day",L])),.dat (.list (gd h K))]=U (.dat (.bool Uf),[U (.ob J (D0 h A)),J,J]):=by
 have e:=tD (w:=p5 "day") a3T N (by rw[F6];decide) (by rw[F6];decide) (by decide +kernel) (KL hk a hK)
 rw[Us]at e⊢;exact AU e λw hw=>by obtain⟨i,hi,rfl⟩:=mem_map.mp hw;exact Mc (a4D a (mem_range.mp hi)).w
theorem Ka(hk:R6 L A=U K)(N:Nm L)(a:Hl h)(hK:∀r∈K,aB r):
  dh [.ob J (D0 h A),.dat (.str (M7 [p5 "costs",L])),.dat (.list (UD h K))]=U (.dat (.bool Uf),[U (.ob J (D0 h A)),J,J]):=by
 have e:=tD (w:=p5 "costs") Yk N (by rw[F6];decide) (by rw[F6];decide) (by decide +kernel) (EA hk a hK)
 exact AU (ss:=[qG (cZ (L8 h) K)]) e λw hw=>by rw[mem_singleton.mp hw];exact Mc (KH (by simp[cZ]) (by simp[cZ]) (pI (gz a.H a.m) (nj a.H) a.l)).w
variable{i:Nat}{l:List Rat}{h:J7}
section
variable{K:List Rl}
theorem Ze{H:Hs}{k:List Rl}{m:Nat}(hi:i<m):T7 (J2 H k m) (0+(i:Int))=U (U9 (G0 H k i)):=by
 have:J2 H k m=(R8 m).map (λi=>U9 (G0 H k i)):=rfl;have g:=map_getD (f:=λi=>U9 (G0 H k i)) (l:=R8 m) 0 (i:=i) (by rw[iy];exact hi);rw[this,g,Q4,vt hi];rfl
abbrev BJ(l:List Rat):List l5:=l.map λx=>.str (qT x)
theorem Ct{E:Ds->Option PV}(hE:∀d ds,E (U (.dat d)::ds)=V9 [d])(s:∀x∈l,Small (q2 x))(hl:l.length<=100){Fi:Ds->Option (List l5)}{ds:Ds}(hi:Fi ds=U (l.map qd)):P4 Fi F7 F4 E ds=U (.own (BJ l)):=by
 unfold P4;rw[hi];show(if (l.map qd).length<=1000000 then(O2 F7 F4 E ds (l.map qd)).bind λl=>U (PV.own l)else J)=_;rw[A3 (by rw[C8];exact C3 A2 A9),comp_map (f:=λx=>.str (qT x)) λx hx=>⟨.dat (.str (qT x)),(hE _ _).trans (a5r (s x hx)),rfl⟩];rfl
theorem OY(hi:i<=24)(s:∀x∈l,Small (q2 x))(hl:l.length<=11):O7 [.list (.str Jd::.int (0+(i:Int))::BJ l)]=U (.dat (.str (M7 (Jd::C7 (i:Int)::l.map qT)))):=by
 have e:=iC (l:=Tw.s Jd::Tw.n (i:Int)::l.map λx=>Tw.s (qT x)) (λx hx=>by
  rcases List.mem_cons.mp hx with rfl|hx
  exact trivial
  rcases List.mem_cons.mp hx with rfl|hx
  exact⟨by simp_all,by lia⟩
  obtain⟨y,_,rfl⟩:=mem_map.mp hx;exact trivial) ⟨by simp,by simp only[C8,J4];lia,λw hw=>by
  obtain⟨x,hx,rfl⟩:=mem_map.mp hw;rcases List.mem_cons.mp hx with rfl|hx
  exact W7 (by decide +kernel) (by decide +kernel)
  rcases List.mem_cons.mp hx with rfl|hx
  exact cC ⟨by simp_all,by lia⟩
  obtain⟨y,hy,rfl⟩:=mem_map.mp hx;exact vJ (s y hy)⟩ (by simp only[C8,J4];lia)
 rw[ra];rw[D8,D8,V3,D8,D8,V3]at e;exact e
theorem UP(L:Hl h)(hi:i<h.hs.length)(x0 x1 x2 x3 x4 y8 x9 x10 x11:Option PV):
  fH [x0,x1,x2,x3,x4,U (.dat (pT h K)),U (.own (hV (L8 h) K i)),iD (0+(i:Int)),y8,x9,x10,x11]=U (.next [x0,x1,x2,x3,x4,U (.dat (pT h K)),U (.own (hV (L8 h) K (i+1))),iD (0+(i:Int)),U (.dat (.list (BJ (jU (L8 h) K i)))),x9,x10,x11]):=by
 have hi':i<(L8 h).hs.length:=hi;obtain⟨sm,ll⟩:=xG (k:=K) (gz L.H L.m) hi' L.l;have Z:=ze (k:=K) (m:=i+1) (gz L.H L.m) hi' (by simp_all);have wl:=(gz L.H L.m).wl;have h6:=L.l;have pat:=Ze (H:=L8 h) (k:=K) hi;have ad:=OI (G0 (L8 h) K i) (by rw[Z.dl];exact wl)
 have px:w5 (pT h K) (.int (0+(i:Int)))=U (.dat (U9 (G0 (L8 h) K i))):=by rw[Bf,pat];rfl
 have it:X7 (f9 C2 (bM K4 (f9 w5 (f7 5) (f7 7)) S5 (M3 (fC (.int 5)))) (f9 w5 (f9 w5 (f7 5) (f7 7)) (fC (.int 5)))) [x0,x1,x2,x3,x4,U (.dat (pT h K)),U (.own (hV (L8 h) K i)),iD (0+(i:Int)),y8,x9,x10,x11]=U ((jU (L8 h) K i).map qd):=by
  show(((w5 (pT h K) (.int (0+(i:Int)))).bind λx=>K4 x.d J (U 5)).bind λx=>((w5 (pT h K) (.int (0+(i:Int)))).bind λx=>w5 x.d (.int 5)).bind λy=>C2 x.d y.d).bind (λpv=>ly pv.d)=_;rw[px];show((C2 (.tuple [qd (G0 (L8 h) K i).V8,qd (G0 (L8 h) K i).give,qd (G0 (L8 h) K i).fill,qd (G0 (L8 h) K i).take,qd (G0 (L8 h) K i).X6]) (.tuple ((G0 (L8 h) K i).done.map qd))).bind λpv=>ly pv.d)=_;rw[ad];rfl
 have aw:=OY (i:=i) (l:=jU (L8 h) K i) (by lia) sm ll;unfold fH;rw[C6 (ds':=[x0,x1,x2,x3,x4,U (.dat (pT h K)),U (.own (hV (L8 h) K i)),iD (0+(i:Int)),U (.dat (.list (BJ (jU (L8 h) K i)))),x9,x10,x11]) (W4 (pv:=.own (BJ (jU (L8 h) K i))) (Ct (λ_ _=>rfl) sm (by exact C3 A2 A9) it)),iO]
 have e2:p6 O7 (f6 (f9 C2 (E9 (f6 (fC (.str (p5 "hour"))) (f6 (f7 7) j2))) (f7 8)) j2) [x0,x1,x2,x3,x4,U (.dat (pT h K)),U (.own (hV (L8 h) K i)),iD (0+(i:Int)),U (.dat (.list (BJ (jU (L8 h) K i)))),x9,x10,x11]=U (.dat (.str (M7 (Fp (L8 h) K i)))):=by
  show((C2 (.list [.str Jd,.int (0+(i:Int))]) (.list (BJ (jU (L8 h) K i)))).bind λx=>U [x.d]).bind O7=_;rw[xS (by simp only[C8,J4,oR];lia)];exact aw
 rw[e2,P8 _ (l:=hV (L8 h) K i) rfl (by rw[Fq];lia),Jo];rfl
theorem UO(L:Hl h)(x0 x1 x2 x3 x4 x9 x10 x11:Option PV):∃y7 y8,L1 (Y4 aq (f6 (p6 T6 (f6 (f7 5) j2)) j2)) (D3 7) fH [x0,x1,x2,x3,x4,U (.dat (pT h K)),U (.own []),J,J,x9,x10,x11]=U (.next [x0,x1,x2,x3,x4,U (.dat (pT h K)),U (.own (gd h K)),y7,y8,x9,x10,x11]):=by
 have h6:=L.l;have pl:=kj (L8 h) K h.hs.length;walk_at "t";rw[pl,Y2 (by lia)]
 walk_at "t";obtain⟨ds',e1,y7,y8,rfl⟩:=bL (gt:=D3 7) (G:=fH) (lo:=0) (n:=h.hs.length) (ds:=[x0,x1,x2,x3,x4,U (.dat (pT h K)),U (.own []),J,J,x9,x10,x11])
  (λn ds=>∃y7 y8,ds=[x0,x1,x2,x3,x4,U (.dat (pT h K)),U (.own (hV (L8 h) K n)),y7,y8,x9,x10,x11])
  ⟨J,J,rfl⟩ (by rintro n ds hn ⟨y7,y8,rfl⟩;exact⟨_,_,rfl,.inl (UP L hn _ _ _ _ _ _ _ _ _),_,_,rfl⟩)
 exact⟨y7,y8,e1⟩
end
variable{L:Str}{h:J7}{A:Ks}{Z:Option PV}{t:Option Addr}{l:List l5}
section
variable{K:List Rl}
theorem Lw{nm:Str}:L++p5 " "++nm=M7 [L,nm]:=by rw[<-qt (by simp),a2A]
theorem ZS:p5 "day " = p5 "day"++p5 " ":=Z2 (by decide +kernel)
theorem NJ:p5 "costs " = p5 "costs"++p5 " ":=Z2 (by decide +kernel)
theorem El(N:Nm L):L.length<=8:=by rw[J3];exact N.len
theorem FK{a b:String}(e:p5 a=p5 b++p5 " ")(N:Nm L)(hl:(p5 a).length<=1000):C2 (.str (p5 a)) (.str L)=U (.dat (.str (M7 [p5 b,L]))):=by have:=El N;rw[Law.bq (by lia),e,Lw]
theorem Li(L:Hl h):O7 [.list (BJ (cZ (L8 h) K))]=U (.dat (.str (qG (cZ (L8 h) K)))):=by
 have sm:=pI (k:=K) (gz L.H L.m) (nj L.H) L.l;have hl:(cZ (L8 h) K).length=3:=rfl;have e:=iC (l:=(cZ (L8 h) K).map λx=>Tw.s (qT x)) (λx hx=>by
  obtain⟨y,_,rfl⟩:=mem_map.mp hx;exact trivial) (by rw[V3];exact KH (by rw[hl];decide) (by intro z;rw[z]at hl;exact nomatch hl) sm) (by rw[C8,hl];decide)
 rw[V3,V3]at e;exact e
abbrev dT(nm:Str)(h:J7)(K:List Rl):l5:=.tuple [.str (M7 [p5 "day",nm]),.list (gd h K)]
abbrev cT(nm:Str)(h:J7)(K:List Rl):l5:=.tuple [.str (M7 [p5 "costs",nm]),.list (UD h K)]
theorem Jz{x2 x3 x4 x5 x6 x7 x8 x9:Option PV}(hs:dh [.ob J (D0 h A),.dat (.str L),.dat (.list l)]=U (.dat (.bool Uf),[U (.ob J (D0 h A)),J,J])):
  iu [U (.ob t (D0 h A)),Z,x2,x3,x4,x5,x6,x7,x8,x9,U (.dat (.str L)),U (.dat (.list l))]=U (.next [U (.ob t (D0 h A)),Z,x2,x3,x4,x5,x6,x7,x8,x9,U (.dat (.str L)),U (.dat (.list l))]):=by unfold iu kR;rw[call_of (w:=t) (c:=D0 h A) (c2:=D0 h A) (l:=[.str L,.list l]) (pv:=.dat (.bool Uf)) (ns:=[J,J]) rfl rfl hs];rfl
theorem Jy{x2 x3 x4 x5 x6 x7 x8 x9 y10 y11:Option PV}{M:Str}{m:List l5}(hs:dh [.ob J (D0 h A),.dat (.str L),.dat (.list l)]=U (.dat (.bool Uf),[U (.ob J (D0 h A)),J,J]))(hm:dh [.ob J (D0 h A),.dat (.str M),.dat (.list m)]=U (.dat (.bool Uf),[U (.ob J (D0 h A)),J,J])):
  J9 (eJ 2 (N0 10 (N0 11 eM))) iu [.tuple [.str L,.list l],.tuple [.str M,.list m]] [U (.ob t (D0 h A)),Z,x2,x3,x4,x5,x6,x7,x8,x9,y10,y11]=U (.next [U (.ob t (D0 h A)),Z,x2,x3,x4,x5,x6,x7,x8,x9,U (.dat (.str M)),U (.dat (.list m))]):=by rw[Z7 (ds1:=[U (.ob t (D0 h A)),Z,x2,x3,x4,x5,x6,x7,x8,x9,U (.dat (.str L)),U (.dat (.list l))]) rfl (Jz hs),Z7 (ds1:=[U (.ob t (D0 h A)),Z,x2,x3,x4,x5,x6,x7,x8,x9,U (.dat (.str M)),U (.dat (.list m))]) rfl (Jz hm)];rfl
theorem UN{way:Int}(hk:R6 L A=U K)(N:Nm L)(a:Hl h)(hK:∀r∈K,aB r)(kl:K.length<=100):
  mq [.ob J (D0 h A),.dat (D5 h),.dat (.str L),.dat (.list (K.map C5)),.dat (.int way)]=U (.dat (.bool Uf),[U (.ob J (D0 h A)),J,J,J,J]):=by
 have sd':=RC hk N a hK;have sc':=Ka hk N a hK;have h6:=a.l;have dlen:(gd h K).length=h.hs.length:=Fq _ _ _;have f0:=N9 way (b:=2) (by decide);have f1:=O9 way (b:=2) (by decide);refine qE rfl λt=>?_;show(w4 _ _ [U (.ob (U (t 0)) (D0 h A)),U (.dat (D5 h)),U (.dat (.str L)),U (.dat (.list (K.map C5))),U (.dat (.int way)),J,J,J,J,J,J,J]).bind _=_
 rw[C6 (ds':=[U (.ob (U (t 0)) (D0 h A)),U (.dat (D5 h)),U (.dat (.str L)),U (.dat (.list (K.map C5))),U (.dat (.int way)),U (.dat (pT h K)),J,J,J,J,J,J]) (W4 (pv:=.dat (pT h K)) (by
  show(((cV [.list (K.map C5)]).bind λx=>U [x.d]).bind λl=>U (D5 h::l)).bind ny=_
  rw[tP];exact a4A a hK))]
 rw[C6 (ds':=[U (.ob (U (t 0)) (D0 h A)),U (.dat (D5 h)),U (.dat (.str L)),U (.dat (.list (K.map C5))),U (.dat (.int way)),U (.dat (pT h K)),U (.own []),J,J,J,J,J]) rfl];obtain⟨y7,y8,e1⟩:=UO (K:=K) a (U (.ob (U (t 0)) (D0 h A))) (U (.dat (D5 h))) (U (.dat (.str L))) (U (.dat (.list (K.map C5)))) (U (.dat (.int way))) J J J;rw[C6 e1];rw[C6 (ds':=[U (.ob (U (t 0)) (D0 h A)),U (.dat (D5 h)),U (.dat (.str L)),U (.dat (.list (K.map C5))),U (.dat (.int way)),U (.dat (pT h K)),U (.dat (.list (gd h K))),y7,y8,U (.own [dT L h K]),J,J]) (by
  show av 9 _ [U (.ob (U (t 0)) (D0 h A)),U (.dat (D5 h)),U (.dat (.str L)),U (.dat (.list (K.map C5))),U (.dat (.int way)),U (.dat (pT h K)),U (.dat (.list (gd h K))),y7,y8,J,J,J]=_;rw[wq];show TN ((((((C2 (.str (p5 "day ")) (.str L)).bind λx=>U [x.d,.list (gd h K)]).bind λl=>if l.length<=1000000 then U (PV.dat (.tuple l))else J)).bind λx=>U [x.d]).bind λl=>if l.length<=1000000 then U (PV.own l)else J) 9 _=_;rw[FK ZS N (by decide +kernel)]
  rfl)]
 have ce:p6 O7 (f6 (P4 (X7 (p6 eG (f6 (f7 1) (f6 (f7 5) j2)))) F7 F4 lj) j2) [U (.ob (U (t 0)) (D0 h A)),U (.dat (D5 h)),U (.dat (.str L)),U (.dat (.list (K.map C5))),U (.dat (.int way)),U (.dat (pT h K)),U (.dat (.list (gd h K))),y7,y8,U (.own [dT L h K]),J,J]=U (.dat (.str (qG (cZ (L8 h) K)))):=by
  unfold p6 f6;rw[Ct (l:=cZ (L8 h) K) (λ_ _=>rfl) (pI (gz a.H a.m) (nj a.H) a.l) (by show 3<=100;decide) (by
   show(eG [D5 h,pT h K]).bind (λpv=>ly pv.d)=_
   rw[ZW a];rfl)]
  exact Li a
 rw[C6 (ds':=[U (.ob (U (t 0)) (D0 h A)),U (.dat (D5 h)),U (.dat (.str L)),U (.dat (.list (K.map C5))),U (.dat (.int way)),U (.dat (pT h K)),U (.dat (.list (gd h K))),y7,y8,U (.own [dT L h K,cT L h K]),J,J]) (by
  rw[iO];have e:C4 (f6 (f9 C2 (fC (.str (p5 "costs "))) (f7 2)) (f6 (E9 (f6 (p6 O7 (f6 (P4 (X7 (p6 eG (f6 (f7 1) (f6 (f7 5) j2)))) F7 F4 lj) j2)) j2)) j2)) [U (.ob (U (t 0)) (D0 h A)),U (.dat (D5 h)),U (.dat (.str L)),U (.dat (.list (K.map C5))),U (.dat (.int way)),U (.dat (pT h K)),U (.dat (.list (gd h K))),y7,y8,U (.own [dT L h K]),J,J]=U (.dat (cT L h K)):=by
   have e0:f9 C2 (fC (.str (p5 "costs "))) (f7 2) [U (.ob (U (t 0)) (D0 h A)),U (.dat (D5 h)),U (.dat (.str L)),U (.dat (.list (K.map C5))),U (.dat (.int way)),U (.dat (pT h K)),U (.dat (.list (gd h K))),y7,y8,U (.own [dT L h K]),J,J]=_:=FK NJ N (by decide +kernel);unfold C4 E9 f6 at *;dsimp only at *;rw[e0,ce];rfl
  rw[e];rfl)]
 have ends:∀y10 y11,(eO (fC (.bool Uf)) [U (.ob (U (t 0)) (D0 h A)),U (.dat (D5 h)),U (.dat (.str L)),U (.dat (.list (K.map C5))),U (.dat (.int way)),U (.dat (pT h K)),U (.dat (.list (gd h K))),y7,y8,U (.dat (.list [dT L h K,cT L h K])),y10,y11]).bind (ub [.ob J (D0 h A),.dat (D5 h),.dat (.str L),.dat (.list (K.map C5)),.dat (.int way)] t)=U (.dat (.bool Uf),[U (.ob J (D0 h A)),J,J,J,J]):=λy10 y11=>by
  show U (PV.dat (.bool Uf),S8 t 0 (.ob J (D0 h A)::[D5 h,E7 L,.list (K.map C5),.int way].map .dat) _)=_;rw[xK (by simp)];rfl
 have it:∀l,C2 (.list (cutD [dT L h K,cT L h K] (U (way.fmod 2)) J)) (.list (cutD [dT L h K,cT L h K] J (U (way.fmod 2))))=U (.own l)->X7 (f9 C2 (bM K4 (f7 9) (M3 (f9 K7 (f7 4) (fC (.int 2)))) S5) (bM K4 (f7 9) S5 (M3 (f9 K7 (f7 4) (fC (.int 2)))))) [U (.ob (U (t 0)) (D0 h A)),U (.dat (D5 h)),U (.dat (.str L)),U (.dat (.list (K.map C5))),U (.dat (.int way)),U (.dat (pT h K)),U (.dat (.list (gd h K))),y7,y8,U (.dat (.list [dT L h K,cT L h K])),J,J]=U l:=λl e=>by
  walk_at "t";rw[E3 (by decide)];walk_at "t";rw[xn,xn];walk_at "t";rw[e];rfl
 show(w4 (L1 _ _ _) _ [U (.ob (U (t 0)) (D0 h A)),U (.dat (D5 h)),U (.dat (.str L)),U (.dat (.list (K.map C5))),U (.dat (.int way)),U (.dat (pT h K)),U (.dat (.list (gd h K))),y7,y8,U (.dat (.list [dT L h K,cT L h K])),J,J]).bind _=_
 have z:way.fmod 2=0\/way.fmod 2=1:=by lia
 rcases z with z|z
 . rw[z]at it;rw[C6 (by unfold L1;rw[it [dT L h K,cT L h K] rfl];exact Jy sd' sc')];exact ends _ _
 . rw[z]at it;rw[C6 (by unfold L1;rw[it [cT L h K,dT L h K] rfl];exact Jy sc' sd')];exact ends _ _
end
variable{Z:List Int}
theorem Ez{ns:List Int}{k n i:Int}(hl:ns.length<=63)(h0:0<=k)(h1:k<=2000)(n1:1<=n)(n2:n<=24)(i0:0<=i)(i1:i<21)(x3:Option PV)(L:List l5)(hL:L.length<1000)(x6 x7 x8 x9 x10:Option PV):
  ∃r:Rl,aB r/\∃y6 y7 y8 y9 y10,gu [U (.dat (U8 ns)),iD k,iD n,x3,U (.own L),iD i,x6,x7,x8,x9,x10]=U (.next [U (.dat (U8 ns)),iD k,iD n,x3,U (.own (L++[C5 r])),iD i,y6,y7,y8,y9,y10]):=by
 obtain⟨a,ea,a0,a1⟩:=L0 (ns:=ns) (k:=k+31*i+13) hl (by lia) (by lia);obtain⟨b,eb,b0,b1⟩:=L0 (ns:=ns) (k:=k+31*i+14) hl (by lia) (by lia);obtain⟨c,ec,c0,c1⟩:=L0 (ns:=ns) (k:=k+31*i+15) hl (by lia) (by lia);obtain⟨d,ed,d0,d1⟩:=L0 (ns:=ns) (k:=k+31*i+16) hl (by lia) (by lia);have p0:=N9 (a.fdiv 11) (b:=3) (by decide);have p1:=O9 (a.fdiv 11) (b:=3) (by decide);have b0':=N9 b (b:=3) (by decide);have b1':=O9 b (b:=3) (by decide);have c0':=N9 c (b:=3) (by decide);have c1':=O9 c (b:=3) (by decide);have d0':=N9 d (b:=2) (by decide);have d1':=O9 d (b:=2) (by decide)
 obtain⟨m,em,m0,m1⟩:∃m:Int,T7 [lV ((a.fdiv 11).fmod 3),.int 6] (if a.fmod 11=5 then 1 else 0)=U (.int m)/\0<=m/\m<=6:=by
  split;exact⟨6,rfl,by decide,by decide⟩;exact⟨_,rfl,p0,by lia⟩
 obtain⟨fi,efi⟩:∃fi:Fi,T7 [E7 "none",.str "sun",.str "line"] (b.fmod 3)=U (.str (gb fi)):=by
  generalize b.fmod 3=z at *;have:z=0\/z=1\/z=2:=by lia
  rcases this with rfl|rfl|rfl
  exact⟨.non,rfl⟩;exact⟨.Q6,rfl⟩;exact⟨.line,rfl⟩
 obtain⟨ta,eta⟩:∃ta:Ta,T7 [E7 "none",.str "need",.str "give"] (c.fmod 3)=U (.str (gY ta)):=by
  generalize c.fmod 3=z at *;have:z=0\/z=1\/z=2:=by lia
  rcases this with rfl|rfl|rfl
  exact⟨.non,rfl⟩;exact⟨.need,rfl⟩;exact⟨.give,rfl⟩
 obtain⟨wo,ewo⟩:∃wo:Bool,T7 [E7 "now",.str "wait"] (d.fmod 2)=U (.str (iW wo)):=by
  generalize d.fmod 2=z at *;have:z=0\/z=1:=by lia
  rcases this with rfl|rfl
  exact⟨U',rfl⟩;exact⟨Uf,rfl⟩
 have tk:∀j:Nat,j<m.toNat->∃x:Ts,kJ [U8 ns,.int (k+31*i+2*(0+(j:Int))),.int n]=U (.dat (L7 x))/\oE x:=λj hj=>Yq hl (by lia) (by lia) n1 n2
 obtain⟨tf,htf⟩:∃tf:Nat->Ts,∀j,j<m.toNat->kJ [U8 ns,.int (k+31*i+2*(0+(j:Int))),.int n]=U (.dat (L7 (tf j)))/\oE (tf j):=by
  refine⟨λj=>if h:j<m.toNat then(tk j h).choose else .dark,λj hj=>?_⟩;simp only[hj,dite_true];exact(tk j hj).choose_spec
 unfold gu;walk_at "r";rw[J8 Bt.lit (Bt.ej (by lia) (by exact H9 A2 A9))];walk_at "r";rw[ea];walk_at "r";rw[O6 (by decide) Bt.lit];walk_at "r";rw[E3 (by decide)];walk_at "r";rw[E3 (by decide)];walk_at "r";rw[Zs];walk_at "r";rw[em];walk_at "r";rw[Y2 (by lia)];walk_at "r";rw[A3 (by simp[fV];exact H9 A2 A9),xP (f:=λj=>L7 (tf j)) λj hj=>?_]
 . walk_at "r";rw[eb];walk_at "r";rw[E3 (by decide)];walk_at "r";rw[efi];walk_at "r";rw[ec];walk_at "r";rw[E3 (by decide)];walk_at "r";rw[eta];walk_at "r";rw[ed];walk_at "r";rw[E3 (by decide)];walk_at "r";rw[ewo];walk_at "r";rw[P8 _ (l:=L) rfl (by exact C3 A2 A9)]
   have er:af [.tuple ((R8 m.toNat).map λj=>L7 (tf j)),.str (gb fi),.str (gY ta),.str (iW wo)]=C5 ⟨(R8 m.toNat).map tf,fi,ta,wo⟩:=by unfold C5;rw[V3];rfl
   simp only[PV.eR,er];refine⟨⟨(R8 m.toNat).map tf,fi,ta,wo⟩,⟨λx hx=>?_,by show((R8 m.toNat).map tf).length<=6;rw[C8,iy];simp_all⟩,U (.dat (.int (k+31*i))),U (.dat (.int a)),U (.dat (.list ((R8 m.toNat).map λj=>L7 (tf j)))),U (.dat (.str (gb fi))),U (.dat (.str (gY ta))),rfl⟩;obtain⟨j,hj,rfl⟩:=mem_map.mp hx;exact(htf j (mem_range.mp hj)).2
 . refine⟨.dat (L7 (tf j)),?_,rfl⟩;unfold pk;walk_at "r";rw[J8 Bt.lit (Bt.ej (by exact gD _) (by lia))];walk_at "r";exact(htf j hj).1
theorem ZZ{ns:List Int}{k n m:Int}(hl:ns.length<=63)(h0:0<=k)(h1:k<=2000)(n1:1<=n)(n2:n<=24)(m0:0<=m)(m1:m<21):∃K:List Rl,mQ [U8 ns,.int k,.int n,.int m]=U (.dat (.tuple (K.map C5)))/\(∀r∈K,aB r)/\(K.length:Int)=m:=by
 unfold mQ;walk_at "r";rw[Y2 (by lia)]
 walk_at "r";obtain⟨ds',e1,⟨K,hK,G8,y5,y6,y7,y8,y9,y10,rfl⟩⟩:=bL (gt:=D3 5) (G:=gu) (lo:=0) (n:=m.toNat) (ds:=[U (.dat (U8 ns)),iD k,iD n,iD m,U (.own []),J,J,J,J,J,J])
  (λi ds=>∃K:List Rl,K.length=i/\(∀r∈K,aB r)/\∃y5 y6 y7 y8 y9 y10,ds=[U (.dat (U8 ns)),iD k,iD n,iD m,U (.own (K.map C5)),y5,y6,y7,y8,y9,y10])
  ⟨[],rfl,by simp,J,J,J,J,J,J,rfl⟩ (by
   rintro i ds hi ⟨K,hK,G8,y5,y6,y7,y8,y9,y10,rfl⟩;obtain⟨r,hr,z6,z7,z8,z9,z10,e⟩:=Ez (i:=0+(i:Int)) (n:=n) (k:=k) hl h0 h1 n1 n2 (by simp_all) (by lia) (iD m) (K.map C5) (by simp;lia) y6 y7 y8 y9 y10;refine⟨_,_,rfl,.inl e,K++[r],by simp[hK],?_,iD (0+(i:Int)),z6,z7,z8,z9,z10,by rw[T2];rfl⟩
   intro x hx;rcases List.mem_append.mp hx with hx|hx
   exact G8 x hx
   . simp at hx;subst hx;exact hr)
 rw[e1];walk_at "r";exact⟨K,rfl,G8,by lia⟩
variable{h:J7}
theorem qO{α:Type}{g:α->l5}(hg:∀x,LF (g x)=Uf):∀l:List α,pK (l.map g)=Uf
 | []=>by simp[pK]
 |x::l=>by simp[pK,hg x,qO hg l]
theorem a0B(x:Hr):LF (C1 x)=Uf:=by
 obtain⟨s,n,l⟩:=x;cases l with
 |none=>simp[C1,U1,LF,pK]
 |some l=>obtain⟨a,b,c,d⟩:=l;simp[C1,U1,LF,pK]
theorem UX(h:J7):LF (D5 h)=Uf:=by
 have e1:=qO a0B h.hs;have e2:=qO (g:=G7) (λw=>by simp[G7,LF,pK]) h.ws;simp[D5,ai,LF,pK,e1,e2]
theorem Nk{nm:Str}{w:Option Addr}{fs:List (Str×PF)}{r:Ds}:sk nm 0 (U (.ob w (.ins nm fs))::r)=U (w,fs):=by unfold sk;rw[vA];exact A3 rfl
theorem ZI(H:H5 h):fE [.ob J (.ins (p5 "Desk") []),.dat (.list (fh h))]=U (.dat .none,[U (.ob J (D0 h [])),J]):=by
 have rd:=YD H;generalize fh h=LD at *;refine qE rfl λt=>?_;show(w4 _ _ [U (.ob (U (t 0)) (.ins (p5 "Desk") [])),U (.dat (.list LD))]).bind _=_
 rw[C6 (ds':=[U (.ob (U (t 0)) (.ins (p5 "Desk") [(p5 "house",.dat (D5 h))])),U (.dat (.list LD))]) (by
  show((vF [.list LD]).bind _)=_;rw[rd];show((sk (p5 "Desk") 0 [U (.ob (U (t 0)) (.ins (p5 "Desk") [])),U (.dat (.list LD))]).bind λx=>if x.2.length<900 then U (Out.next [U (.ob x.1 (.ins (p5 "Desk") (dO (p5 "house") (.dat (D5 h)) x.2))),U (.dat (.list LD))])else J)=_
  rw[Nk];rfl)]
 have e:yS (p5 "Desk") 0 (p5 "keepers") yE yW [U (.ob (U (t 0)) (.ins (p5 "Desk") [(p5 "house",.dat (D5 h))])),U (.dat (.list LD))]=U (.next [U (.ob (U (t 0)) (D0 h [])),U (.dat (.list LD))]):=by
  show((if p5 "Desk" = p5 "Desk" then U (U (t 0),[(p5 "house",PF.dat (D5 h))])else J).bind λx=>if x.2.length<900 then U (Out.next [U (.ob x.1 (.ins (p5 "Desk") (dO (p5 "keepers") (.dct []) x.2))),U (.dat (.list LD))])else J)=_;rw[A3 rfl];show(if 1<900 then U (Out.next [U (PV.ob (U (t 0)) (.ins (p5 "Desk") (if p5 "house" = p5 "keepers" then _ else(p5 "house",PF.dat (D5 h))::[(p5 "keepers",PF.dct [])]))),U (.dat (.list LD))])else J)=_;rw[A3 (by decide),A4 (by rw[F6];decide)];rfl
 rw[e];show U (PV.dat .none,S8 t 0 (.ob J _::[qY LD].map .dat) _)=_;rw[xK (by simp)];rfl
theorem Tn(H:H5 h){ds:Ds}(h2:ds[2]?=U (U (.dat (D5 h)))):yX (p5 "Desk") fE (f6 (p6 bj (f6 (f7 2) j2)) j2) ds=U (.ob J (D0 h [])):=by
 have mk:=ZI H;have hl:=Oq H;have v:f7 2 ds=U (.dat (D5 h)):=by unfold f7;rw[h2]
 unfold yX p6 f6;dsimp only;rw[v];show(((bj [D5 h]).bind λx=>U [x.d]).bind _)=_;rw[hl];show(fE [.ob J (.ins (p5 "Desk") []),.dat (.list (fh h))]).bind _=_;rw[mk];rfl
theorem a4Q(x:Ts):LF (L7 x)=Uf:=by cases x<;>simp[L7,LF,pK]
theorem a4R(r:Rl):LF (C5 r)=Uf:=by have e:=qO a4Q r.ts;simp[C5,LF,pK,e]
theorem a4S(K:List Rl):LF (aY K)=Uf:=by have e:=qO a4R K;simp[aY,LF,e]
theorem a2C(h:J7)(A:Ks)(w:Option Addr):Xp (.ob w (D0 h A))=Uf:=by
 show((jf h A).all λf=>NN f.2)=Uf;show(LF (D5 h)&&(((mapA aY A).all λe=>LF e.2)&&Uf))=Uf;rw[UX,zO,zP];unfold mapA;rw[Gh,vm];exact λe _=>a4S e.2
theorem Bm{a b c d:String}(h:∀s∈[a,b,c,d],decide (lz (p5 s)≠[])&&decide ((lz (p5 s)).length<=8)&&(lz (p5 s)).all IT=Uf):∀z∈[p5 a,p5 b,p5 c,p5 d],Nm z:=λz hz=>by
 have key:∀s:String,s∈[a,b,c,d]->Nm (p5 s):=λs hs=>by have:=h s hs;simp only[dG,jo]at this;exact⟨this.1.1,this.1.2,this.2⟩
 simp only[K6,P7,P5]at hz;rcases hz with rfl|rfl|rfl|rfl<;>exact key _ (by simp)
theorem names2{ns:List Int}(hl:ns.length<=63):∃nl:List Str,pQ [U8 ns]=U (.dat (.list (nl.map .str)))/\nl.length=4/\(∀z∈nl,Nm z)/\nl.Nodup:=by
 obtain⟨v,ev,v0,v1⟩:=L0 (ns:=ns) (k:=90) hl (by decide) (by decide);have w0:=N9 v (b:=3) (by decide);have w1:=O9 v (b:=3) (by decide)
 obtain⟨nl,hn,nn⟩:∃nl:List Str,T7 [qY [.str (p5 "a"),.str (p5 "ab"),.str (p5 "abc"),.str (p5 "b")],.list [.str (p5 "show"),.str (p5 "best"),.str (p5 "rule"),.str (p5 "day")],.list [.str (p5 "zz"),.str (p5 "z"),.str (p5 "zzzzzzzz"),.str (p5 "zy")]] (v.fmod 3)=U (.list (nl.map .str))/\nl.length=4/\(∀z∈nl,Nm z)/\nl.Nodup:=by
  generalize v.fmod 3=z at *;have:z=0\/z=1\/z=2:=by lia
  rcases this with rfl|rfl|rfl
  exact⟨[p5 "a",p5 "ab",p5 "abc",p5 "b"],rfl,rfl,Bm (by decide +kernel),by simp[F6]⟩;exact⟨[p5 "show",p5 "best",p5 "rule",p5 "day"],rfl,rfl,Bm (by decide +kernel),by simp[F6]⟩;exact⟨[p5 "zz",p5 "z",p5 "zzzzzzzz",p5 "zy"],rfl,rfl,Bm (by decide +kernel),by simp[F6]⟩
 refine⟨nl,?_,nn⟩;unfold pQ;walk_at "t";rw[ev];walk_at "t";rw[E3 (by decide)];walk_at "t";rw[hn];walk_at "t"
variable{a:Type}{j m:Nat}{Z:List Str}{Y:List (List Rl)}
theorem T5(k:Str)(e:Str×a)(A:List (Str×a)):R6 k (e::A)=if e.1=k then U e.2 else R6 k A:=by
 unfold R6;rw[rj];by_cases c:e.1=k;rw[S6 c,A3 c];rfl;rw[L5 c,A4 c]
theorem TC(k:Str)(v:a)(A:List (Str×a))(h:(A.any λe=>decide (e.1=k))=U'):R6 k (A++[(k,v)])=U v:=by
 induction A with
 |nil=>rw[bY,T5,A3 rfl]
 |cons e A ih=>
  rw[gn,Bool.or_eq_false_iff]at h;rw[fO,T5,A4 (of_decide_eq_false h.1),ih h.2]
theorem NG(k k':Str)(v:a)(A:List (Str×a))(h:k≠k'):R6 k' (A++[(k,v)])=R6 k' A:=by
 induction A with
 |nil=>rw[bY,T5,A4 h]
 |cons e A ih=>rw[fO,T5,T5,ih]
theorem ND(k k':Str)(v:a)(A:List (Str×a))(h:k≠k'):R6 k' (A.map λe=>if e.1=k then(e.1,v)else e)=R6 k' A:=by
 induction A with
 |nil=>rfl
 |cons e A ih=>
  rw[D8,T5,T5,ih];by_cases c:e.1=k
  . rw[A3 c];have d:¬e.1=k':=λz=>h (c.symm.trans z);rw[A4 d,A4 d]
  rw[A4 c]
theorem NF(k:Str)(v:a)(A:List (Str×a))(h:(A.any λe=>decide (e.1=k))=Uf):R6 k (A.map λe=>if e.1=k then(e.1,v)else e)=U v:=by
 induction A with
 |nil=>exact nT h
 |cons e A ih=>
  rw[D8,T5];by_cases c:e.1=k;rw[A3 c,A3 c];rw[A4 c,A4 c];rw[gn,L5 c,zQ]at h;exact ih h
theorem Tz(k:Str)(v:a)(A:List (Str×a)):R6 k (fX A k v)=U v:=by
 unfold fX;split
 . next c=>exact NF k v A c
 . next c=>exact TC k v A (Bool.eq_false_iff.mpr c)
theorem NC(k k':Str)(v:a)(A:List (Str×a))(h:k≠k'):R6 k' (fX A k v)=R6 k' A:=by
 unfold fX;split;exact ND k k' v A h;exact NG k k' v A h
noncomputable abbrev fL(nl:List Str)(i:Nat):Str:=nl.getD i (p5 "")
noncomputable abbrev tA(T:List (List Rl))(i:Nat):List Rl:=T.getD i []
structure Tv(nl:List Str)(A:Ks)(T:List (List Rl))(m r j:Nat):Prop where
 len:T.length=m
 kp:Kp (3*r+j) A
 rs:∀i,i<m->∀x∈tA T i,aB x
 ln:∀i,i<m->(tA T i).length=if i<j then r+1 else r
 lk:∀i,i<m->dQ A (fL nl i)=tA T i/\(tA T i≠[]->R6 (fL nl i) A=U (tA T i))
theorem a2s(h:Z.Nodup)(hi:m<Z.length)(hj:j<Z.length)(e:fL Z m=fL Z j):m=j:=by
 unfold fL at e;rw[Q4,Q4,M6 hi,M6 hj]at e;have e:Z[m]=Z[j]:=e;have P:=List.pairwise_iff_getElem.mp (List.nodup_iff_pairwise_ne.mp h);rcases Nat.lt_trichotomy m j with c|c|c
 exact absurd e (P m j hi hj c);exact c;exact absurd e.symm (P j m hj hi c)
theorem Dj{K:List Rl}(h:j<Y.length):tA (Y.set j K) m=if m=j then K else tA Y m:=by
 unfold tA;rw[Q4,Q4,vo];by_cases c:j=m;subst c;rw[A3 rfl,A3 h,A3 rfl];rfl;rw[A4 c,A4 (λz=>c z.symm)]
theorem Tv.put{A:Ks}{r:Nat}{x:Rl}(V:Tv Z A Y m r j)(nd:Z.Nodup)(hm:m<=Z.length)(hj:j<m)(hr:r<4)(X:aB x):Tv Z (fX A (fL Z j) (dQ A (fL Z j)++[x])) (Y.set j (tA Y j++[x])) m r (j+1):=by
 have L:=V.len;have e:=(V.lk j hj).1;have ln:=V.ln j hj;rw[A4 (bf j)]at ln;refine⟨by rw[Pl];exact L,?_,λi hi y hy=>?_,λi hi=>?_,λi hi=>?_⟩
 . refine V.kp.put _ (λy hy=>?_) (by rw[e,L6,ln,mL];exact C3 A2 A9)
   rw[e]at hy;rcases List.mem_append.mp hy with hy|hy
   exact V.rs j hj y hy;rw[mem_singleton.mp hy];exact X
 . rw[Dj (by simp_all)]at hy;by_cases c:i=j
   . rw[A3 c]at hy;rcases List.mem_append.mp hy with hy|hy
     exact V.rs j hj y hy;rw[mem_singleton.mp hy];exact X
   rw[A4 c]at hy;exact V.rs i hi y hy
 . rw[Dj (by simp_all)];by_cases c:i=j;rw[A3 c,A3 (by simp_all),L6,ln,mL]
   . rw[A4 c,V.ln i hi];by_cases d:i<j;rw[A3 d,A3 (by lia)];rw[A4 d,A4 (by lia)]
 . rw[Dj (by simp_all)];by_cases c:i=j;subst c;rw[A3 rfl];have:=Tz (fL Z i) (dQ A (fL Z i)++[x]) A;rw[e]at this⊢;exact⟨by show(R6 _ _).getD []=_;rw[this];rfl,λ_=>this⟩
   . rw[A4 c];have ne:fL Z j≠fL Z i:=λz=>c (a2s nd (by exact C3 A2 A2) (by exact C3 A2 A2) z).symm;have:=NC (fL Z j) (fL Z i) (dQ A (fL Z j)++[x]) A ne;obtain⟨a,b⟩:=V.lk i hi;exact⟨by show(R6 _ _).getD []=_;rw[this];exact a,λz=>by rw[this];exact b z⟩
theorem Tv.next{A:Ks}(V:Tv Z A Y m j m)(h3:m<=3):Tv Z A Y m (j+1) 0:=⟨V.len,V.kp.mono (by exact PZ A2 _),V.rs,λi hi=>by rw[V.ln i hi,A3 hi,A4 (by simp_all)],V.lk⟩
variable{x:Rl}{j:Nat}{Z:Ds}{h:J7}{A:Ks}{Y:List (List Rl)}{X:Option PV}
theorem TF:p5 "rule " = p5 "rule"++p5 " ":=Z2 (by decide +kernel)
theorem ZT{nm:Str}{ws:List Str}(hne:ws≠[]):p5 "rule "++nm++p5 " "++M7 ws=M7 (p5 "rule"::nm::ws):=by rw[TF,lN,lN,lN,<-qt (a:=p5 "rule") (by simp),<-qt (a:=nm) hne,lN,lN]
theorem TJ(hr:aB x):(R7 x).length<=92000:=xA (by have:=(iM hr).1;exact C3 A2 A9) λw hw=>(AM hr w hw).len
abbrev toF(T:List (List Rl)):List (Str×PF):=T.map λK=>(X2,.own (K.map C5))
abbrev toO(T:List (List Rl)):OD:=.seq Uf (toF T)
theorem a0Y(h:j<Y.length):(toF Y)[j]?=U (X2,.own ((tA Y j).map C5)):=by unfold toF tA;rw[R9,Q4,M6 h];rfl
theorem IF{T:List (List Rl)}{ds:Ds}(h6:ds[6]?=U (U (.ob J (toO T))))(h:j<T.length):xr 6 (0+(j:Int)) ds=U (J,toF T,X2,j,(tA T j).map C5):=by
 have l:(toF T).length=T.length:=C8 ..;have ix:uA (toF T).length (0+(j:Int))=U j:=by
  unfold uA;rw[A3 (by simp_all),A3 (by rw[l];simp_all)]
  congr 1
  simp_all
 unfold xr;rw[h6];show(uA (toF T).length (0+(j:Int))).bind _=_;rw[ix];show(match (toF T)[j]? with|some (n,.own l)=>U (J,toF T,n,j,l)|_=>J)=_;rw[a0Y h]
abbrev lH(x0 x1 x2:Option PV)(h:J7)(A:Ks)(x4 x5:Option PV)(T:List (List Rl))(y7 y8 y9 y10:Option PV):Ds:=[x0,x1,x2,U (.ob J (D0 h A)),x4,x5,U (.ob J (toO T)),y7,y8,y9,y10]
section
variable{T:List (List Rl)}
theorem ZY{x1 x2 x4 x5 y8 y10:Option PV}(hj:j<T.length)(hl:(tA T j).length<=100):CK 6 (f7 7) (f7 9) (lH X x1 x2 h A x4 x5 T (iD (0+(j:Int))) y8 (U (.dat (C5 x))) y10)=U (.next (lH X x1 x2 h A x4 x5 (T.set j (tA T j++[x])) (iD (0+(j:Int))) y8 (U (.dat (C5 x))) y10)):=by
 show(xr 6 (0+(j:Int)) (lH X x1 x2 h A x4 x5 T (iD (0+(j:Int))) y8 (U (.dat (C5 x))) y10)).bind _=_;rw[IF rfl hj];show(if ((tA T j).map C5).length<1000000 then U (Out.next (lH X x1 x2 h A x4 x5 T (iD (0+(j:Int))) y8 (U (.dat (C5 x))) y10 |>.set 6 (U (.ob J (.seq Uf ((toF T).set j (X2,.own ((tA T j).map C5++[C5 x]))))))))else J)=_;rw[A3 (by rw[C8];exact dH A2 A9)]
 have e:(toF T).set j (X2,PF.own ((tA T j).map C5++[C5 x]))=toF (T.set j (tA T j++[x])):=by unfold toF;rw[List.map_set,T2];rfl
 rw[e];rfl
theorem ZO{x1 x2 x4 x5 y7 y8 y9 y10:Option PV}(hl:T.length<=100):CJ 6 (E9 j2) (lH X x1 x2 h A x4 x5 T y7 y8 y9 y10)=U (.next (lH X x1 x2 h A x4 x5 (T++[[]]) y7 y8 y9 y10)):=by
 show(if (toF T).length<1000000 then U (Out.next ((lH X x1 x2 h A x4 x5 T y7 y8 y9 y10).set 6 (U (.ob J (.seq Uf (toF T++[(X2,PF.own [])]))))))else J)=_;rw[A3 (by rw[C8];exact dH A2 A9)]
 have e:toF T++[(X2,PF.own [])]=toF (T++[[]]):=by unfold toF;rw[T2];rfl
 rw[e];rfl
theorem Mr{nm:Str}(N:Nm nm)(X:aB x){F1 F2:Ds->Option PV}{ds:Ds}(h1:F1 ds=U (.dat (.str nm)))(h2:F2 ds=U (.dat (.str (R7 x)))):f9 C2 (f9 C2 (f9 C2 (fC (.str (p5 "rule "))) F1) (fC (.str (p5 " ")))) F2 ds=U (.dat (.str (M7 (p5 "rule"::nm::aV x)))):=by
 have l1:=El N;have lx:=TJ X;have a0:(p5 "rule ").length=5:=by decide +kernel
 have a1:(p5 " ").length=1:=by decide +kernel
 have l2:(p5 "rule "++nm).length=5+nm.length:=by rw[J3,aL,L6,<-J3,<-J3,a0]
 have l3:(p5 "rule "++nm++p5 " ").length=5+nm.length+1:=by rw[J3,aL,L6,<-J3,<-J3,l2,a1]
 have ln:=ZT (nm:=nm) (xx x);unfold f9;simp only[fC,S7,h1,h2,PV.eR];rw[Law.bq (by lia)];simp only[S7,PV.eR];rw[Law.bq (by lia)];simp only[S7,PV.eR];rw[Law.bq (by lia)];show U (PV.dat (.str (_++M7 (aV x))))=_;rw[ln]
theorem UK{f:List PV->Option (PV×Ds)}{Fl:Ds->Option (List AV)}{l:List l5}{w:Option Addr}(h3:Z[3]?=U (U (.ob w (D0 h A))))(hl:Fl Z=U (l.map AV.d))(hf:f (.ob J (D0 h A)::l.map .dat)=U (.dat (.bool Uf),[U (.ob J (D0 h A)),J,J,J,J])):lM 6 f (bT 3 Fl) Z=U (.dat (.bool Uf),Z.set 3 (U (.ob w (D0 h A)))):=by
 unfold lM bT;rw[h3];show((Fl Z).bind λl=>U (AV.s 3::l)).bind _=_;rw[hl];show(if (3::N3 (l.map AV.d)).Nodup/\6∉(3::N3 (l.map AV.d))then(gT Z (AV.s 3::l.map AV.d)).bind _ else J)=_;rw[Rz,A3 (by decide)];unfold gT;rw[h3];show((gT Z (l.map AV.d)).bind _).bind _=_;rw[UM];show(f (.ob J (D0 h A)::l.map .dat)).bind _=_
 rw[hf];have lf:lfR (.dat (.bool Uf),[U (.ob J (D0 h A)),J,J,J,J])=Uf:=by
  show(LF (.bool Uf)&&(Xp (.ob J (D0 h A))&&(Uf&&(Uf&&(Uf&&(Uf&&Uf))))))=Uf;rw[a2C];rfl
 show(if lfR (.dat (.bool Uf),[U (.ob J (D0 h A)),J,J,J,J])=Uf then U (_,_)else J)=_;rw[A3 lf];show U (PV.dat (.bool Uf),gQ (l.map AV.d) [J,J,J,J] (Z.set 3 (yz (U (.ob J (D0 h A))) Z[3]?)))=_;rw[Ki,h3];rfl
end
variable{Z:List Str}{m:Nat}{h:J7}{A:Ks}{w:Int}{Y:List Int}{X:Option PV}
section
variable{T:List (List Rl)}
theorem Xn{nl:List Str}(i:Nat)(hi:i<nl.length):T7 (nl.map E7) (0+(i:Int))=U (.str (fL nl i)):=map_getD (f:=E7) (l:=nl) (p5 "") hi
theorem Xm{nl:List Str}{j:Nat}(N:∀z∈nl,Nm z)(hi:j<nl.length):Nm (fL nl j):=N _ (by unfold fL;rw[Q4,M6 hi];exact iw hi)
theorem FH{nl:List Str}{r a:Nat}{Fk Fw:Ds->Option PV}{ds:Ds}(V:Tv nl A T m (r+1) 0)(L:Hl h)(N:∀z∈nl,Nm z)(hm:m<=nl.length)(r4:r<4)(ha:a<m)(h2:ds[2]?=U (U (.dat (D5 h))))(h3:ds[3]?=U (U (.ob J (D0 h A))))(h4:ds[4]?=U (U (.dat (.list (nl.map .str)))))(h6:ds[6]?=U (U (.ob J (toO T))))(hk:Fk ds=U (.dat (.int (0+(a:Int)))))(hw:Fw ds=U (.dat (.int w))):
  lM 6 mq (bT 3 (Q1 (f7 2) (Q1 (f9 w5 (f7 4) Fk) (wa 6 Fk (Q1 Fw mx))))) ds=U (.dat (.bool Uf),ds.set 3 (U (.ob J (D0 h A)))):=by
 have len:=V.len;have ln:=V.ln a ha;rw[A4 (by simp_all)]at ln;have lk:=(V.lk a ha).2 (λz=>by rw[z]at ln;exact nomatch ln)
 have v2:f7 2 ds=U (.dat (D5 h)):=by unfold f7;rw[h2]
 have v4:f7 4 ds=U (.dat (.list (nl.map .str))):=by unfold f7;rw[h4]
 have o2:=IF (T:=T) (j:=a) (ds:=ds) h6 (by simp_all);have na:=Xn (nl:=nl) a (by exact C3 A2 A2);refine UK (l:=[D5 h,.str (fL nl a),.list ((tA T a).map C5),.int w]) h3 ?_ (UN lk (Xm N (by exact C3 A2 A2)) L (V.rs a ha) (by lia));unfold Q1 wa f9;dsimp only;rw[v2,v4,hk,hw];simp only[S7,PV.eR];rw[kx,na,o2];rfl
theorem TQ{nl:List Str}{r j:Nat}{ns:List Int}{hn:Int}{x2 x5 y9 y10:Option PV}(hl:ns.length<=63)(V:Tv nl A T m r j)(nd:nl.Nodup)(n4:nl.length=4)(N:∀z∈nl,Nm z)(m3:m<=3)(hj:j<m)(r4:r<4)(n1:1<=hn)(n2:hn<=24):
  ∃x y9',aB x/\nC (lH (U (.dat (U8 ns))) (iD hn) x2 h A (U (.dat (.list (nl.map .str)))) x5 T (iD (0+(j:Int))) (iD (0+(r:Int))) y9 y10)=U (.next (lH (U (.dat (U8 ns))) (iD hn) x2 h (fX A (fL nl j) (dQ A (fL nl j)++[x])) (U (.dat (.list (nl.map .str)))) x5 (T.set j (tA T j++[x])) (iD (0+(j:Int))) (iD (0+(r:Int))) y9' y10)):=by
 obtain⟨K,ek,hK,kl⟩:=ZZ (ns:=ns) (k:=600+40*(4*(0+(j:Int))+(0+(r:Int)))) (n:=hn) (m:=1) hl (by exact gD _) (by lia) n1 n2 (by decide) (by decide)
 obtain⟨x,rfl⟩:∃x,K=[x]:=by
  match K,kl with
  | [x],_=>exact⟨x,rfl⟩
  | [],kl=>exact absurd kl (by decide)
  |_::_::K,kl=>exact absurd kl (by simp only[J4];lia)
 have X:aB x:=hK x (by simp);have len:=V.len;have ln:=V.ln j hj;rw[A4 (bf j)]at ln;have ofk:=(V.lk j hj).1;have Nj:=Xm (nl:=nl) (j:=j) N (by lia)
 refine⟨x,U (.dat (C5 x)),X,?_⟩;unfold nC;rw[C6 (ds':=lH (U (.dat (U8 ns))) (iD hn) x2 h A (U (.dat (.list (nl.map .str)))) x5 T (iD (0+(j:Int))) (iD (0+(r:Int))) (U (.dat (C5 x))) y10) (W4 (pv:=.dat (C5 x)) (by
  walk_at "t";rw[J8 Bt.lit (Bt.ej (by exact gD _) (by lia))];walk_at "t";rw[J8 Bt.lit (Bt.ej (by exact gD _) (by lia))]
  walk_at "t";rw[ek];rfl))]
 rw[C6 (ZY (by simp_all) (by lia))]
 unfold kR;rw[call_of (w:=J) (c:=D0 h A) (c2:=D0 h (fX A (fL nl j) (dQ A (fL nl j)++[x]))) (l:=[.str (M7 (p5 "rule"::fL nl j::aV x)),.list VF]) (pv:=.dat (.bool Uf)) (ns:=[J,J]) rfl (by
  have t1:=Mr (nm:=fL nl j) (x:=x) Nj X (F1:=f9 w5 (f7 4) (f7 7)) (F2:=p6 fB (f6 (f7 9) j2)) (ds:=lH (U (.dat (U8 ns))) (iD hn) x2 h A (U (.dat (.list (nl.map .str)))) x5 (T.set j (tA T j++[x])) (iD (0+(j:Int))) (iD (0+(r:Int))) (U (.dat (C5 x))) y10) (by
   show w5 (.list (nl.map .str)) (.int (0+(j:Int)))=_;rw[kx,Xn j (by lia)]
   rfl) (Cy X)
  unfold Q1;rw[t1];rfl) (Mn V.kp (by lia) Nj (by rw[ofk];lia) X)]
 rfl
theorem NS{r:Nat}{x2 y7 y9 y10:Option PV}(hl:Y.length<=63)(V:Tv Z A T m r 0)(nd:Z.Nodup)(n4:Z.length=4)(N:∀z∈Z,Nm z)(m3:m<=3)(r4:r<4)(n1:1<=w)(n2:w<=24):
  ∃A' T' z7 z9,L1 (Y4 aq (f6 (f7 5) j2)) (D3 7) nC (lH (U (.dat (U8 Y))) (iD w) x2 h A (U (.dat (.list (Z.map .str)))) (iD (m:Int)) T y7 (iD (0+(r:Int))) y9 y10)=U (.next (lH (U (.dat (U8 Y))) (iD w) x2 h A' (U (.dat (.list (Z.map .str)))) (iD (m:Int)) T' z7 (iD (0+(r:Int))) z9 y10))/\Tv Z A' T' m r m:=by
 have e0:Y4 aq (f6 (f7 5) j2) (lH (U (.dat (U8 Y))) (iD w) x2 h A (U (.dat (.list (Z.map .str)))) (iD (m:Int)) T y7 (iD (0+(r:Int))) y9 y10)=U (fV 0 m):=Y2 (by lia)
 unfold L1;rw[e0];obtain⟨ds',e1,A',T',z7,z9,rfl,V'⟩:=bL (gt:=D3 7) (G:=nC) (lo:=0) (n:=m) (ds:=lH (U (.dat (U8 Y))) (iD w) x2 h A (U (.dat (.list (Z.map .str)))) (iD (m:Int)) T y7 (iD (0+(r:Int))) y9 y10)
  (λj ds=>∃A' T' z7 z9,ds=lH (U (.dat (U8 Y))) (iD w) x2 h A' (U (.dat (.list (Z.map .str)))) (iD (m:Int)) T' z7 (iD (0+(r:Int))) z9 y10/\Tv Z A' T' m r j)
  ⟨A,T,y7,y9,rfl,V⟩ (by rintro j ds hj ⟨A',T',z7,z9,rfl,V'⟩;obtain⟨x,y9',X,e⟩:=TQ (h:=h) (x2:=x2) (x5:=iD (m:Int)) (y9:=z9) (y10:=y10) hl V' nd n4 N m3 hj r4 n1 n2;exact⟨_,_,rfl,.inl e,_,_,_,_,rfl,V'.put nd (by lia) hj r4 X⟩)
 exact⟨A',T',z7,z9,e1,V'⟩
end
variable{Z:List Int}{k:Int}{Y:Ds->Option PV}{h:J7}{X:List Str}{S:Option PV}
section
variable{T:List (List Rl)}
abbrev eB(ns:List Int)(hn:Int)(h:J7)(A:Ks)(nl:List Str)(m:Nat)(T:List (List Rl))(y7 y8 y9 y10:Option PV):Ds:=lH (U (.dat (U8 ns))) (iD hn) (U (.dat (D5 h))) h A (U (.dat (.list (nl.map .str)))) (iD (m:Int)) T y7 y8 y9 y10
theorem En{ns:List Int}{ds:Ds}{F:Ds->Option PV}{i:Int}(hl:ns.length<=63)(h0:ds[0]?=U (U (.dat (U8 ns))))(k0:0<=k+i)(k1:k+i<=100000)(hF:F ds=U (.dat (.int i))):∃v:Int,p6 E5 (f6 (f7 0) (f6 (f9 C2 (fC (.int k)) F) j2)) ds=U (.dat (.int v))/\0<=v:=by
 obtain⟨v,ev,v0,_⟩:=L0 (ns:=ns) (k:=k+i) hl k0 k1;have f0:f7 0 ds=U (.dat (U8 ns)):=by unfold f7;rw[h0]
 refine⟨v,?_,v0⟩;unfold p6 f6 f9;rw[f0,hF];show E5 [U8 ns,.int (k+i)]=_;exact ev
theorem a2V{f:l5->l5->Option PV}{Fb:Ds->Option PV}{ds:Ds}{x y:PV}(hx:Y ds=U x)(hy:Fb ds=U y):f9 f Y Fb ds=f x.d y.d:=by unfold f9;rw[hx,hy];rfl
theorem NR{A:Ks}{m r:Nat}{hn:Int}{y7 y9 y10:Option PV}(hl:Z.length<=63)(V:Tv X A T m r 0)(L:Hl h)(nd:X.Nodup)(n4:X.length=4)(N:∀z∈X,Nm z)(m1:1<=m)(m3:m<=3)(r4:r<4)(n1:1<=hn)(n2:hn<=24):
  ∃A' T' z7 z9 z10,nB (eB Z hn h A X m T y7 (iD (0+(r:Int))) y9 y10)=U (.next (eB Z hn h A' X m T' z7 (iD (0+(r:Int))) z9 z10))/\Tv X A' T' m (r+1) 0:=by
 obtain⟨A',T',z7,z9,e1,V'⟩:=NS (h:=h) (x2:=U (.dat (D5 h))) (y7:=y7) (y9:=y9) (y10:=y10) hl V nd n4 N m3 r4 n1 n2;have W:=V'.next m3;obtain⟨v,ev,v0⟩:=En (k:=1500) (i:=0+(r:Int)) (F:=f7 8) (ds:=eB Z hn h A' X m T' z7 (iD (0+(r:Int))) z9 y10) hl rfl (by exact gD _) (by lia) rfl;have a0:=N9 v (b:=(m:Int)) (by lia);have a1:=O9 v (b:=(m:Int)) (by lia);obtain⟨a,ea⟩:∃a:Nat,v.fmod (m:Int)=0+(a:Int):=⟨(v.fmod (m:Int)).toNat,by omega⟩;obtain⟨w,ew,_⟩:=En (k:=1510) (i:=0+(r:Int)) (F:=f7 8) (ds:=eB Z hn h A' X m T' z7 (iD (0+(r:Int))) z9 (iD (0+(a:Int)))) hl rfl (by exact gD _) (by lia) rfl;have c:=FH (Fk:=f7 10) (ds:=eB Z hn h A' X m T' z7 (iD (0+(r:Int))) z9 (iD (0+(a:Int)))) (a:=a) W L N (by lia) r4 (by simp_all) rfl rfl rfl rfl rfl ew
 refine⟨A',T',z7,z9,iD (0+(a:Int)),?_,W⟩;unfold nB;rw[C6 e1,C6 (ds':=eB Z hn h A' X m T' z7 (iD (0+(r:Int))) z9 (iD (0+(a:Int)))) (W4 (pv:=.dat (.int (0+(a:Int)))) (by
  rw[a2V (y:=.dat (.int (m:Int))) ev rfl];show K7 (.int v) (.int (m:Int))=_
  rw[E3 (by lia),ea]))]
 unfold kR;rw[c];rfl
theorem ZX{A:Ks}{m r j:Nat}{hn:Int}{y9 y10:Option PV}(hl:Z.length<=63)(V:Tv X A T m (r+1) 0)(L:Hl h)(n4:X.length=4)(N:∀z∈X,Nm z)(m3:m<=3)(r4:r<4)(hj:j<m):
  nA (eB Z hn h A X m T (iD (0+(j:Int))) S y9 y10)=U (.next (eB Z hn h A X m T (iD (0+(j:Int))) S y9 y10)):=by
 obtain⟨w,ew,_⟩:=En (k:=1520) (i:=0+(j:Int)) (F:=f7 7) (ds:=eB Z hn h A X m T (iD (0+(j:Int))) S y9 y10) hl rfl (by exact gD _) (by lia) rfl;have c:=FH (Fk:=f7 7) (ds:=eB Z hn h A X m T (iD (0+(j:Int))) S y9 y10) (a:=j) V L N (by lia) r4 hj rfl rfl rfl rfl rfl ew;unfold nA kR;rw[c];rfl
theorem Ri(nl:List Str)(m:Nat):Tv nl [] (N8 m []) m 0 0:=by
 have e:∀i,tA (N8 m []) i=[]:=λi=>by unfold tA;rw[Q4,AA];split<;>rfl
 exact⟨vx ..,⟨(λ_ hx=>nomatch hx),jx _⟩,(λi _ x hx=>by rw[e]at hx;exact(nomatch hx)),(λi _=>by rw[e,A4 (by simp_all)];rfl),λi _=>⟨by rw[e];rfl,λz=>absurd (e i) z⟩⟩
theorem TR(ns:List Int)(hl:ns.length<=63):sW [.list (ns.map .int)]=U (.dat (.bool Uf)):=by
 obtain⟨v,ev,v0,v1⟩:=L0 (ns:=ns) (k:=0) hl (by decide) (by decide);obtain⟨u,eu,u0,u1⟩:=L0 (ns:=ns) (k:=1) hl (by decide) (by decide);obtain⟨w,ew,w0,w1⟩:=L0 (ns:=ns) (k:=2) hl (by decide) (by decide);have v2:=N9 v (b:=6) (by decide);have v3:=O9 v (b:=6) (by decide);have u2:=N9 u (b:=4) (by decide);have u3:=O9 u (b:=4) (by decide);have w2:=N9 w (b:=3) (by decide);have w3:=O9 w (b:=3) (by decide);obtain⟨h,eh,H,h12,hlen⟩:=a2P (ns:=ns) (n:=1+v.fmod 6) (m:=u.fmod 4) hl (by omega) (by omega) u2 (by omega);obtain⟨nl,en,n4,N,nd⟩:=names2 (ns:=ns) hl;have L:Hl h:=⟨H,h12,by omega⟩;obtain⟨m,em⟩:∃m:Nat,1+w.fmod 3=(m:Int):=⟨(1+w.fmod 3).toNat,by omega⟩;show((w4 _ _ [U (.dat (U8 ns)),J,J,J,J,J,J,J,J,J,J]).bind Bb)=_
 rw[C6 (ds':=[U (.dat (U8 ns)),iD (1+v.fmod 6),J,J,J,J,J,J,J,J,J]) (W4 (pv:=.dat (.int (1+v.fmod 6))) (by
  walk_at "t";rw[ev];walk_at "t";rw[E3 (by decide)]
  walk_at "t"))]
 rw[C6 (ds':=[U (.dat (U8 ns)),iD (1+v.fmod 6),U (.dat (D5 h)),J,J,J,J,J,J,J,J]) (W4 (pv:=.dat (D5 h)) (by
  walk_at "t";rw[eu];walk_at "t";rw[E3 (by decide)]
  walk_at "t";exact eh))]
 rw[C6 (ds':=[U (.dat (U8 ns)),iD (1+v.fmod 6),U (.dat (D5 h)),U (.ob J (D0 h [])),J,J,J,J,J,J,J]) (by rw[wq,Tn H rfl];rfl)]
 rw[C6 (ds':=[U (.dat (U8 ns)),iD (1+v.fmod 6),U (.dat (D5 h)),U (.ob J (D0 h [])),U (.dat (.list (nl.map .str))),J,J,J,J,J,J]) (W4 (pv:=.dat (.list (nl.map .str))) en)];rw[C6 (ds':=[U (.dat (U8 ns)),iD (1+v.fmod 6),U (.dat (D5 h)),U (.ob J (D0 h [])),U (.dat (.list (nl.map .str))),iD (m:Int),J,J,J,J,J]) (W4 (pv:=.dat (.int (m:Int))) (by
  walk_at "t";rw[ew];walk_at "t";rw[E3 (by decide)]
  walk_at "t";rw[em]))]
 rw[C6 (ds':=eB ns (1+v.fmod 6) h [] nl m [] J J J J) rfl];have l0:∃z7,L1 (Y4 aq (f6 (f7 5) j2)) (D3 7) wB (eB ns (1+v.fmod 6) h [] nl m [] J J J J)=U (.next (eB ns (1+v.fmod 6) h [] nl m (N8 m []) z7 J J J)):=by
  have e0:Y4 aq (f6 (f7 5) j2) (eB ns (1+v.fmod 6) h [] nl m [] J J J J)=U (fV 0 m):=Y2 (by omega)
  unfold L1;rw[e0];obtain⟨ds',e1,z7,rfl⟩:=bL (gt:=D3 7) (G:=wB) (lo:=0) (n:=m) (ds:=eB ns (1+v.fmod 6) h [] nl m [] J J J J)
   (λj ds=>∃z7,ds=eB ns (1+v.fmod 6) h [] nl m (N8 j []) z7 J J J)
   ⟨J,rfl⟩ (by
    rintro j ds hj ⟨z7,rfl⟩;refine⟨_,_,rfl,.inl (ZO (by rw[vx];lia)),iD (0+(j:Int)),?_⟩
    rw[<-List.replicate_succ'])
  exact⟨z7,e1⟩
 obtain⟨z7,e0⟩:=l0;rw[C6 e0];have l1:∃A T y7 y8 y9 y10,L1 (Y4 aq (f6 (fC (.int 4)) j2)) (D3 8) nB (eB ns (1+v.fmod 6) h [] nl m (N8 m []) z7 J J J)=U (.next (eB ns (1+v.fmod 6) h A nl m T y7 y8 y9 y10))/\Tv nl A T m 4 0:=by
  have e0:Y4 aq (f6 (fC (.int 4)) j2) (eB ns (1+v.fmod 6) h [] nl m (N8 m []) z7 J J J)=U (fV 0 4):=Y2 (by decide)
  unfold L1;rw[e0];obtain⟨ds',e1,A,T,y7,y8,y9,y10,rfl,V⟩:=bL (gt:=D3 8) (G:=nB) (lo:=0) (n:=4) (ds:=eB ns (1+v.fmod 6) h [] nl m (N8 m []) z7 J J J)
   (λr ds=>∃A T y7 y8 y9 y10,ds=eB ns (1+v.fmod 6) h A nl m T y7 y8 y9 y10/\Tv nl A T m r 0)
   ⟨_,_,_,_,_,_,rfl,Ri nl m⟩ (by
    rintro r ds hr ⟨A,T,y7,y8,y9,y10,rfl,V⟩;obtain⟨A',T',z7,z9,z10,e,V'⟩:=NR (h:=h) (hn:=1+v.fmod 6) (y7:=y7) (y9:=y9) (y10:=y10) hl V L nd n4 N (by lia) (by lia) hr (by omega) (by lia)
    exact⟨_,_,rfl,.inl e,_,_,_,_,_,_,rfl,V'⟩)
  exact⟨A,T,y7,y8,y9,y10,e1,V⟩
 obtain⟨A,T,y7,y8,y9,y10,e1,V⟩:=l1;rw[C6 e1];have l2:∃z7,L1 (Y4 aq (f6 (f7 5) j2)) (D3 7) nA (eB ns (1+v.fmod 6) h A nl m T y7 y8 y9 y10)=U (.next (eB ns (1+v.fmod 6) h A nl m T z7 y8 y9 y10)):=by
  have e0:Y4 aq (f6 (f7 5) j2) (eB ns (1+v.fmod 6) h A nl m T y7 y8 y9 y10)=U (fV 0 m):=Y2 (by omega)
  unfold L1;rw[e0];obtain⟨ds',e1,z7,rfl⟩:=bL (gt:=D3 7) (G:=nA) (lo:=0) (n:=m) (ds:=eB ns (1+v.fmod 6) h A nl m T y7 y8 y9 y10)
   (λj ds=>∃z7,ds=eB ns (1+v.fmod 6) h A nl m T z7 y8 y9 y10)
   ⟨y7,rfl⟩ (by rintro j ds hj ⟨z7,rfl⟩;exact⟨_,_,rfl,.inl (ZX (r:=3) hl V L n4 N (by lia) (by decide) hj),_,rfl⟩)
  exact⟨z7,e1⟩
 obtain⟨z7',e2⟩:=l2;rw[C6 e2];rfl
end
end Law
local macro_rules|`(tactic|walk_at "c")=>`(tactic|exact⟨N1,N1,N1,M4,N1,M4,M4⟩)
namespace Law
open PySem L2
variable{X:Cx}{Z:B1}{x m:Str}{Y H G:Nat}{e:Expr}{p I:Pos}{S:Stmt}{C:Addr}{R:V2}{Q:List Str}{O:Str->Option w9}{M:List Expr}{L:TA}{E:Ds->Option (List AV)}{D:List PV->Option (PV×Ds)}{B:List w9->Prop}{A:Bool}
noncomputable def top(i:Nat):Stmt:=PySem.Challenge.pw_sunstore_k81_desk_days_and_costs.main.body.getD i (.Pass ⟨0,0,0,0⟩)
inductive Rw(K:B1)(m n:Str)(s:Stmt)(f:Addr):V2->Prop
 |mk {oc kV dc pm cd ct:w9}{od an:Option Addr}{sl:Array (Option w9)} (l:K.lookup f=U ⟨oc,od,.func (ie m n (iP s) (bF s) (L4 s) .none kV dc pm an cd ct),sl⟩) (c:zY K cd n=Uf) (k:jz K (.ref f)=Uf):Rw K m n s f (ie m n (iP s) (bF s) (L4 s) .none kV dc pm an cd ct)
theorem Mq(r:Rw Z m x S C R):rG Z m x S C R:=by obtain⟨l,c,k⟩:=r;exact a2U l c k
theorem b00(h:B []):∀us,us.length=0->B us:=λus e=>by
 cases us with
 |nil=>exact h
 |cons _ _=>cases e
theorem b01(h:∀x,∀us,us.length=Y->B (x::us)):∀us,us.length=Y+1->B us:=λus e=>by
 cases us with
 |nil=>cases e
 |cons x t=>exact h x t (Nat.succ.inj e)
local macro_rules|`(tactic|walk_at "b")=>`(tactic|(intro _ _ _ _ _ _;repeat first|exact b00 N1|refine b01 λ_=>?_))
structure Dd(K:B1)(Jff:Prop)(n q:Str)(s:Stmt)(N:List Str)(k:Nat)(f:Addr)(fd:V2):Prop where
 F:rG K n q s f fd
 m:Jff
inductive De where
 |f (n:Str) (i:Nat) (N:List Str) (k:Nat)
 |a (x n:Str) (i:Nat) (N:List Str) (k:Nat)
 |m (n q:Str) (i j:Nat) (N:List Str) (k:Nat)
 |i (q:Str) (i j:Nat) (N:List Str) (k:Nat)
inductive Nd(K:B1)(C:Addr):De->Addr->V2->Prop
 |f {n:Str}{i k:Nat}{N:List Str}{f:Addr}{d:V2} (a:bW K T1 n=U (U (.ref f))) (r:Rw K n n (top i) f d):Nd K C (.f n i N k) f d
 |a {x n:Str}{i k:Nat}{N:List Str}{f:Addr}{d:V2} (a:bW K T1 x=U (U (.ref f))) (r:Rw K n n (top i) f d):Nd K C (.a x n i N k) f d
 |m {n q:Str}{i j k:Nat}{N:List Str}{f:Addr}{d:V2} (a:cO K (.ref C) n=U (U (.ref f))) (b:ve K (.ref f)=Uf) (r:Rw K n q (inClass (top i) j) f d):Nd K C (.m n q i j N k) f d
 |i {q:Str}{i j k:Nat}{N:List Str}{f:Addr}{d:V2} (a:cO K (.ref C) "__init__" = U (U (.ref f))) (b:ve K (.ref f)=Uf) (r:Rw K "__init__" q (inClass (top i) j) f d):Nd K C (.i q i j N k) f d
inductive Ns(K:B1)(C:Addr):List De->List Addr->List V2->Prop
 |n:Ns K C [] [] []
 |c {e:De}{l:List De}{f:Addr}{fs:List Addr}{d:V2}{ds:List V2}:Nd K C e f d->Ns K C l fs ds->Ns K C (e::l) (f::fs) (d::ds)
theorem Ns.at{K:B1}{C:Addr}{d0:V2}{e:De}:∀{l:List De}{fs:List Addr}{ds:List V2}{i:Nat},Ns K C l fs ds->l[i]?=U e->Nd K C e (fs.getD i 0) (ds.getD i d0)
 |_,_,_,0,.c h _,m=>by cases m;exact h
 |_,_,_,_+1,.c _ t,m=>t.at m
abbrev bdT(n q:Str)(s:Stmt)(N:List Str)(k:Nat):Prop:=∀(kV doc pm:w9) (an:Option Addr) (cdv ct:w9) (us:List w9),us.length=k->bindArgs (ie n q (iP s) (bF s) (L4 s) .none kV doc pm an cdv ct) ⟨us,[]⟩=pure ((N.take k).zip us)
theorem Nd.to{K:B1}{C:Addr}{n:Str}{i k:Nat}{N:List Str}{f:Addr}{d:V2}(h:Nd K C (.f n i N k) f d)(b:bdT n n (top i) N k)(s:A6)(us:List w9)(l:us.length=k):oG s d ⟨us,[]⟩ ((N.take k).zip us):=by
 cases h with
 |f a r=>
  cases r with
  |mk _ _ _=>exact .of_eq (b _ _ _ _ _ _ us l)
section
variable{K:B1}{mg:Str->Option w9}{n q:Str}{s:Stmt}{N:List Str}{k l:Nat}{f:Addr}{fd:V2}{h:Heap}{Jff:Prop}{P:V1}{w:M5}{base:Heap}
structure Ok(P:V1)(w:M5)(mg:Str->Option w9)(base:Heap)(CX:rH)(D:Dd K Jff n q s N k f fd)(l:Nat)(sp:Sp):Prop where
 h:gU P w K mg base CX l f fd (N.take k) sp
 b:Binds K fd (N.take k) []
abbrev okT(P:V1)(w:M5)(K:B1)(mg:Str->Option w9)(base:Heap)(N:List Str)(q:Str)(s:Stmt)(f:Addr)(l:Nat)(G:DO):Prop:=∀(cdv:w9) (A:T8) (outer:List Env) (s':A6) (H:Hp) (E:XK),N.Nodup->eS l (A.deeper (PyProof.Rows.envOfC q (L4 s) s'.heap.objs.size f cdv))->∃t,iI (oi D7 P w K mg base N q (L4 s) f cdv A outer s' H E).pB (bF s) t G
theorem Q9{G:DO}{F:_}(D:Dd K Jff n q s N k f fd)(hF:F=F9 (N.take k).length N.length G)(b:okT P w K mg base N q s f l G)(e:autoParam ((N.take k).length<=N.length) cK)(z:bdT n q s N k:=by walk_at "b")(S:iT N (N.take k) (L4 s):=by walk_at "c")(r:autoParam ((N.take k).length=k) aM):Ok P w mg base D7 D (l+1) (F0 K F):=hF▸⟨D.F.okF S e λ_ _ _ _ _ _ hr=>b _ _ _ _ _ _ S.nd hr,D.F.binds λ_ _ _ _ _ _ us hl=>z _ _ _ _ _ _ us (hl.trans r)⟩
theorem gL{G:DO}{F:_}(D:Dd K Jff n q s N k f fd)(hF:F=qF (N.take k).length N.length G)(b:okT P w K mg base N q s f l G)(e:autoParam ((N.take k).length<=N.length) cK)(z:bdT n q s N k:=by walk_at "b")(S:iT N (N.take k) (L4 s):=by walk_at "c")(r:autoParam ((N.take k).length=k) aM):Ok P w mg base D7 D (l+1) (iL K F):=hF▸⟨D.F.okO S e λ_ _ _ _ _ _ hr=>b _ _ _ _ _ _ S.nd hr,D.F.binds λ_ _ _ _ _ _ us hl=>z _ _ _ _ _ _ us (hl.trans r)⟩
end
inductive Al(p:Str->Prop):List Str->Prop
 |n:Al p []
 |c {s:Str}{r:List Str}:p s->Al p r->Al p (s::r)
theorem Al.at{p:Str->Prop}{s:Str}:∀{l:List Str},Al p l->s∈l->p s
 |_::_,.c h t,m=>by
  cases m with
  |head=>exact h
  |tail _ m=>exact t.at m
theorem pcD{Fl:DL}{f':FV}{y:Str}{D:Dd Z (O x=U (.ref C)) y m S Q G C R}(t:Ok X.prog X.w O X.base D7 D Y (F0 Z f'))(hr:eS H X.A)(ha:jX X A (e::M) L Fl)(eK:autoParam (X.K=Z) aM)(em:autoParam (X.mg=O) aM)(hk:Y<=H:=by omega)(hg:autoParam (Gl X x) B0)(hdb:autoParam (jY x) B0)(he:autoParam (gN X e M) B0)(hpl:autoParam (pJ X I M) B0):PX X A (.Call (.Name x p) (e::M) [] I) (kM (F0 Z f') [] E0 L) (p6 f' Fl):=by subst eK em;exact⟨Ba t.h (hr.mono hk) hg D.m D.F.kp t.b .nil mH ha.p hdb he hpl,Ie ha⟩
theorem pcO{k:Dd Z (O x=U (.ref C)) x m S Q G C R}(t:Ok X.prog X.w O X.base D7 k Y (iL Z D))(hr:eS H X.A)(ha:tK X (e::M) L E)(eK:autoParam (X.K=Z) aM)(em:autoParam (X.mg=O) aM)(hk:Y<=H:=by omega)(hg:autoParam (Gl X x) B0)(hdb:autoParam (jY x) B0)(he:autoParam (gN X e M) B0)(hpl:autoParam (pJ X I M) B0):wZ X (.Call (.Name x p) (e::M) [] I) (kM (iL Z D) [] E0 L) (je D E):=by subst eK em;exact⟨Ba t.h (hr.mono hk) hg k.m k.F.kp t.b .nil mH ha.p hdb he hpl,Rg ha⟩
theorem pmO{o:Expr}{k0:Nat}{f:Addr}{nm:Str}{pl:Sem Bool}{i:Dd Z (Meth Z C x f) x m S Q k0 f R}(t:Ok X.prog X.w O X.base D7 i H (iL Z D))(T:tq Z nm C)(hr:eS G X.A)(h:PE X o (O0 Y))(ha:tK X (e::M) L E)(eK:autoParam (X.K=Z) aM)(em:autoParam (X.mg=O) aM)(hk:H<=G:=by omega)(he:autoParam (gN X e M) B0)(hpl:autoParam (pJ X p M) B0)(hq:autoParam (MCl X o x I (e::M) p pl) aM):wZ X (.Call (.Attribute o x I) (e::M) [] p) (JS C x (iL Z D) [] E0 (O0 Y) L) (fm nm x Y D E):=by subst eK em;exact⟨Zj h T.cl i.m t.h (hr.mono hk) t.b .nil mH ha.p he hpl hq,Rc T ha⟩
theorem pcL{jl:Nat}{k:Dd Z (O x=U (.ref C)) x m S Q G C R}(t:Ok X.prog X.w O X.base D7 k Y (iL Z D))(hr:eS H X.A)(ha:xc X jl (e::M) L E)(eK:autoParam (X.K=Z) aM)(em:autoParam (X.mg=O) aM)(hk:Y<=H:=by omega)(hg:autoParam (Gl X x) B0)(hdb:autoParam (jY x) B0)(he:autoParam (gN X e M) B0)(hpl:autoParam (pJ X I M) B0):wZ X (.Call (.Name x p) (e::M) [] I) (kM (iL Z D) [] E0 L) (lM jl D E):=by subst eK em;exact⟨Ba t.h (hr.mono hk) hg k.m k.F.kp t.b .nil mH ha.p hdb he hpl,Rh ha⟩
theorem Sb{b:Expr}{g:TG}{gt:l5->DD}{te:TE}{F:DV}(k:Pc X.K g gt)(n:PX X Uf e te F)(s:PG X b g)(hs:autoParam (Gs [b] e p.line X.env=pure U') aM)(x:autoParam (Gr [b] e X.env=pure J) aM)(z:autoParam ((lX [b] X.env).map (·.2)=[assign b X.env]) aM):N7 X (.Assign [b] e p) (nI te g) (ES gt F):=YS n s k hs x z
theorem DN{b c:Expr}{ta tb tc:TE}{Fa Fb Fc:DV}{op g:CmpOp}{r B:R2}{f g':l5->l5->Option PV}(ho:Q7 X (P6 op) r)(hp:Q7 X (P6 g) B)(M:Y0 X.K r f)(s:Y0 X.K B g')(N:PX X A e ta Fa)(hb:PX X A b tb Fb)(P:PX X A c tc Fc)(E:autoParam (lastMarks [op,g] [b,c]=U') B0):PX X A (.Compare e [op,g] [b,c] p) (yf r B ta tb tc) (lL f g' Fa Fb Fc):=⟨DT ho hp N.p hb.p P.p E,CZ M s N hb P⟩
theorem Iu{A:T8}(r:eS Y A):A.units+1<U5:=by have:=r.un;omega
theorem Kk{l:List Stmt}:iI X l ye bw:=⟨MM,(BP (st:=.Pass ⟨0,0,0,0⟩)).2⟩
theorem bkN{sc:cP}(h:uO X.N X.N X.env.scope sc=Uf):uO X.N X.N X.env.scope sc=Uf:=h
mutual
inductive Cs(K:B1):w9->V->l5->Prop
 |i {n:Int}{t:Tok}:Cs K (.int n t) (.int n) (.int n)
 |s {x:Str}{t:Tok}:Cs K (.str x t) (.str x) (.str x)
 |f {f:Addr}{nm:Str} (h:bW K T1 nm=U (U (.ref f))):Cs K (.ref f) (.ref f) (bx nm)
 |t {a:Addr}{d:Option Addr}{n:Nat}{s:Array (Option w9)}{us:List w9}{vs:List V}{ds:List l5} (l:K.lookup a=U ⟨.type "tuple",d,.seq us.toArray n,s⟩) (z:us.toArray.size<=1000) (h:Cl K us vs ds):Cs K (.ref a) (.ref a) (.tuple ds)
inductive Cl(K:B1):List w9->List V->List l5->Prop
 |n:Cl K [] [] []
 |c {u:w9}{us:List w9}{v:V}{vs:List V}{d:l5}{ds:List l5} (a:Cs K u v d) (b:Cl K us vs ds):Cl K (u::us) (v::vs) (d::ds)
end
mutual
theorem Cs.to{K:B1}{u:w9}{v:V}{d:l5}(h:Cs K u v d):RelV v u/\∀H,Dt K H v d:=by
 cases h with
 |i=>exact⟨⟨_,rfl⟩,λ_=>.int _⟩
 |s=>exact⟨⟨_,rfl⟩,λ_=>.str _⟩
 |f h=>exact⟨rfl,λ_=>.fn (.inl h)⟩
 |t l z h=>exact⟨rfl,UE l z h.to.1 h.to.2⟩
theorem Cl.to{K:B1}{us:List w9}{vs:List V}{ds:List l5}(h:Cl K us vs ds):Vals vs us/\∀H,E8 K H vs ds:=by
 cases h with
 |n=>exact⟨.nil,λ_=>.nil⟩
 |c a b=>exact⟨.cons a.to.1 b.to.1,λH=>.cons (a.to.2 H) (b.to.2 H)⟩
end
inductive Ck(K:B1):List (Str×l5)->List (w9×V)->Prop
 |n:Ck K [] []
 |c {s:Str}{d:l5}{l:List (Str×l5)}{u:w9}{v:V}{as:List (w9×V)} (e:bW K T1 s=U (U u)) (h:Cs K u v d) (r:Ck K l as):Ck K ((s,d)::l) ((u,v)::as)
theorem Ck.at{K:B1}{s:Str}{d:l5}{l:List (Str×l5)}{as:List (w9×V)}(h:Ck K l as)(m:l.lookup s=U d):∃u:w9×V,bW K T1 s=U (U u.1)/\Cs K u.1 u.2 d:=by
 induction h with
 |n=>exact nE m
 | @c x y l u v as a b _ j=>
  rw[oV]at m;cases e:s==x with
  |true=>rw[e]at m;cases m;exact⟨(u,v),(eq_of_beq e).symm▸a,b⟩
  |false=>rw[e]at m;exact j m
def Ju:List (Str×l5):=[("FIGURES",uN),("MOST_FIGURES",kD),("NOUGHT_costs",U3),("NOUGHT_keepers",G4),("NO_LINE",uI),("PLAIN_RULE",uH),("MOST_HOURS",uM),("MOST_WORKS",uJ),("MOST_NUMBER_reading",dS),("MOST_BOTTOM",tG),("MOST_LETTERS_reading",da),("LETTERS_reading",gS),("STORE_PARTS",mz),("HOUR_PARTS",bN),("LINE_PARTS",oy),("WORK_PARTS",oq),("MOST_RULES",uL),("MOST_TESTS",uK),("MOST_NUMBER_rules",fI),("BARE_WORDS",oB),("AMOUNT_WORDS",kE),("PRICE_WORDS",mB),("FILL_WORDS",oA),("TAKE_WORDS",ow),("WORK_WORDS",oo),("DEED_WORDS",ji),("MOST_LETTERS_desk",fJ),("LETTERS_desk",qI),("KEEPER_WORDS",dU)]
noncomputable def Vg(K:B1)(s:Str):w9×V:=@Classical.epsilon _ ⟨(.none,.non)⟩ λu=>bW K T1 s=U (U u.1)/\∀d,Ju.lookup s=U d->Cs K u.1 u.2 d
theorem Ck.u{d:l5}{as:List (w9×V)}(h:Ck Z Ju as)(m:Ju.lookup x=U d):bW Z T1 x=U (U (Vg Z x).1)/\Cs Z (Vg Z x).1 (Vg Z x).2 d:=by
 obtain⟨u,a,b⟩:=h.at m;have E:=@Classical.epsilon_spec _ (λu:w9×V=>bW Z T1 x=U (U u.1)/\∀d,Ju.lookup x=U d->Cs Z u.1 u.2 d) ⟨u,a,λd' e=>by cases m.symm.trans e;exact b⟩;exact⟨E.1,E.2 d m⟩
structure Ads where
 f:Nat->Addr
 d:Nat->V2
 u:Str->w9×V
 C:Addr
noncomputable def Jp:List De:=[.f "common_divisor" 9 ["one","other","rest"] 2,
 .f "fraction" 10 ["top","bottom","divisor"] 2,
 .f "read_figures" 18 ["text","sign"] 1,
 .f "read_signed" 19 ["text","number"] 1,
 .f "figures_of" 16 ["number","piece","pieces","rest"] 1,
 .f "written" 17 ["one","text"] 1,
 .f "read_fraction" 20 ["text","parts","top","bottom","one"] 1,
 .f "read_whole" 101 ["word","least","one"] 2,
 .f "read_amount" 102 ["word"] 1,
 .f "read_name" 105 ["word","sign"] 1,
 .f "read_price" 103 ["word"] 1,
 .f "read_share" 104 ["word","one"] 1,
 .f "read_parts" 110 ["words","readers","parts"] 2,
 .f "read_hour" 112 ["words","amounts","line"] 1,
 .f "read_hours" 114 ["rows","hours","words","hour"] 1,
 .f "read_store" 111 ["words","store"] 1,
 .f "read_work" 113 ["words","hours","work"] 2,
 .f "read_works" 115 ["rows","hours","works","names","words","work"] 2,
 .f "read" 116 ["lines","rows","store","hours","works","place"] 1,
 .i "Desk.__init__" 154 0 ["self","lines"] 2,
 .f "_law_frac" 157 ["_law_top","_law_bottom","_law_one","_law_other","_law_rest"] 2,
 .f "_law_add" 158 ["_law_a","_law_b"] 2,
 .f "_law_mul" 160 ["_law_a","_law_b"] 2,
 .f "_law_sub" 159 ["_law_a","_law_b"] 2,
 .f "_law_costs" 178 ["_law_house_here","_law_plan","_law_lacked","_law_undone","_law_money","_law_level","_law_t","_law_done","_law_one","_law_line_here"] 2,
 .f "_law_less" 161 ["_law_a","_law_b"] 2,
 .f "_law_min" 162 ["_law_a","_law_b"] 2,
 .f "_law_stored" 175 ["_law_store","_law_rule_here","_law_level","_law_sun","_law_more","_law_space","_law_room","_law_own"] 5,
 .f "_law_wish" 173 ["_law_work_here","_law_t","_law_undone","_law_word"] 4,
 .f "_law_used" 174 ["_law_house_here","_law_t","_law_rule_here","_law_undone","_law_reach","_law_need","_law_met","_law_used_here","_law_done","_law_j","_law_wish_here"] 5,
 .f "_law_hour" 176 ["_law_house_here","_law_t","_law_rule_here","_law_level","_law_undone","_law_store","_law_line_here","_law_sun","_law_out","_law_reach","_law_lacked","_law_used_here","_law_done","_law_own","_law_drawn","_law_bought","_law_given","_law_taken","_law_filled"] 5,
 .f "_law_holds" 171 ["_law_hour_here","_law_t","_law_level","_law_test_here"] 4,
 .f "_law_rule" 172 ["_law_keeper_here","_law_hour_here","_law_t","_law_level","_law_rule_here"] 4,
 .f "_law_day" 177 ["_law_house_here","_law_keeper_here","_law_level","_law_undone","_law_plan","_law_t","_law_rule_here","_law_told"] 2,
 .f "plus" 11 ["one","other","shared","top","divisor"] 2,
 .f "added" 45 ["one","other"] 2,
 .f "minus" 12 ["one","other"] 2,
 .f "times" 13 ["one","other","divisor","other_divisor","top"] 2,
 .f "coins_of" 73 ["line","deeds"] 2,
 .f "hour_costs" 74 ["hour","deeds","worked","part"] 2,
 .f "lost_in" 69 ["deeds","kept","left","filling","taking"] 3,
 .f "spilt_in" 68 ["hour","deeds","left","rest","part"] 3,
 .f "ledger" 70 ["house","plan","store","kept","left","level","entries","hour","deeds"] 2,
 .f "costs" 75 ["house","plan","store","level","entry","amounts","told","hour","deeds"] 2,
 .f "fractions_line" 149 ["parts"] 1,
 .f "day_lines" 151 ["plan","lines","number","deeds","told"] 1,
 .f "under" 15 ["one","other"] 2,
 .f "from_nought" 81 ["one"] 1,
 .f "lesser" 80 ["one","other"] 2,
 .f "over" 14 ["one","other"] 2,
 .f "fill_most" 89 ["store","level","word","taken","room"] 4,
 .f "out_most" 88 ["store","level","word"] 3,
 .f "shared_out" 83 ["asked","most","shares","rest","one","part"] 2,
 .f "total" 82 ["parts","told","one"] 1,
 .f "deeds_of" 90 ["hour","store","level","rule","wishes","line","sun","need","buy_most","give_most","out","met","used","given","taken","sun_rest","buy_rest","filled","sun_given","traded"] 5,
 .f "line_holds" 84 ["test","line"] 2,
 .f "holds" 85 ["test","number","hour","level","word"] 4,
 .f "rule_for" 86 ["keeper","number","hour","level","rule"] 4,
 .f "wish_of" 87 ["work","number","undone","word","asked","later"] 4,
 .f "day_of" 91 ["house","keeper","store","level","undone","plan","number","hour","rule","wishes","deeds"] 2,
 .f "rule_line" 134 ["rule","words","test"] 1,
 .f "shown_keeper" 135 ["keeper"] 1,
 .m "say_keeper" "Desk.say_keeper" 154 4 ["self","word","name","keeper","plan"] 3,
 .f "read_deeds" 131 ["words","deeds"] 1,
 .f "read_bound" 128 ["word","least","one"] 2,
 .f "read_test" 129 ["words","bound"] 1,
 .f "read_tests" 130 ["words","tests","place","test"] 1,
 .f "read_rule" 132 ["line","words","tests","deeds"] 1,
 .f "read_keeper" 133 ["lines","rules","place","line","rule"] 1,
 .m "say_rule" "Desk.say_rule" 154 3 ["self","line","name","rule","lines","keeper"] 4,
 .f "is_name" 148 ["word"] 1,
 .m "say" "Desk.say" 154 1 ["self","line","words"] 2,
 .f "_law_says" 183 ["_law_desk","_law_line_here","_law_due","_law_told"] 3,
 .f "_law_words" 180 ["_law_words_here"] 1,
 .f "_law_written" 179 ["_law_one"] 1,
 .f "_law_asked" 185 ["_law_desk","_law_house_here","_law_name","_law_keeper_here","_law_way","_law_plan","_law_days","_law_t","_law_parts","_law_asked_here","_law_line_here","_law_due"] 5,
 .f "_law_mixed" 156 ["_law_script","_law_k","_law_cell","_law_turn","_law_v"] 2,
 .f "_law_scale" 163 ["_law_script"] 1,
 .f "_law_number" 164 ["_law_script","_law_k"] 2,
 .f "_law_line" 166 ["_law_script","_law_k","_law_buy","_law_give"] 2,
 .f "_law_share" 165 ["_law_script","_law_k","_law_bottom","_law_some"] 2,
 .f "_law_work" 167 ["_law_script","_law_k","_law_name","_law_hours","_law_first","_law_last"] 4,
 .f "_law_house" 168 ["_law_script","_law_hours","_law_works","_law_told","_law_t","_law_at","_law_size","_law_start","_law_flows","_law_shares","_law_store","_law_names_here","_law_jobs"] 3,
 .f "_law_house_lines" 181 ["_law_house_here","_law_store","_law_shares","_law_lines","_law_hour_here","_law_end"] 1,
 .f "_law_test" 169 ["_law_script","_law_k","_law_hours","_law_kind"] 3,
 .f "_law_keeper" 170 ["_law_script","_law_k","_law_hours","_law_rules","_law_told","_law_r","_law_at","_law_many","_law_tests","_law_fill","_law_take"] 4,
 .f "_law_names" 184 ["_law_script","_law_some"] 1,
 .f "_law_rule_line" 182 ["_law_rule_here","_law_words_here","_law_test_here"] 1,
 .f "law" 186 ["_law_script","_law_hours","_law_house_here","_law_desk","_law_names_here","_law_many","_law_told","_law_j","_law_r","_law_rule_here","_law_at"] 1]
structure Txt(K:B1)(mg:Str->Option w9)(a:Ads):Prop where
 f:∀(i:Nat) {n:Str}{t k:Nat}{N:List Str},Jp[i]?=U (.f n t N k)->Dd K (mg n=U (.ref (a.f i))) n n (top t) N k (a.f i) (a.d i)
 r:∀(i:Nat) {x n:Str}{t k:Nat}{N:List Str},Jp[i]?=U (.a x n t N k)->Dd K (mg x=U (.ref (a.f i))) n n (top t) N k (a.f i) (a.d i)
 m:∀(i:Nat) {n q:Str}{t j k:Nat}{N:List Str},Jp[i]?=U (.m n q t j N k)->Dd K (Meth K a.C n (a.f i)) n q (inClass (top t) j) N k (a.f i) (a.d i)
 i:∀(i:Nat) {q:Str}{t j k:Nat}{N:List Str},Jp[i]?=U (.i q t j N k)->Dd K (Mk K a.C (a.f i)) "__init__" q (inClass (top t) j) N k (a.f i) (a.d i)
 cn:tq K "Desk" a.C
 mc:mg "Desk" = U (.ref a.C)
 na:∀s∈(["house","keepers"]:List Str),gh K a.C s
 n:∀s∈(["abs","all","enumerate","int","isinstance","len","list","range","str","sum","tuple","zip"]:List Str),mg s=J
 v:∀{s:Str}{d:l5},Ju.lookup s=U d->mg s=U (a.u s).1/\RelV (a.u s).2 (a.u s).1/\∀H,Dt K H (a.u s).2 d
 w:∀(i:Nat) {n:Str}{t k:Nat}{N:List Str},Jp[i]?=U (.f n t N k)->bW K T1 n=U (U (.ref (a.f i)))
section
variable{P:V1}{w:M5}{K:B1}{mg:Str->Option w9}{base:Heap}{ad:Ads}(T:Txt K mg ad)
structure Oks(P:V1)(w:M5)(base:Heap)(T:Txt K mg ad)(m:Nat):Prop where
 o0:1<=m->Ok P w mg base D7 (T.f 0 rfl) 1 (F0 K U0)
 o1:2<=m->Ok P w mg base D7 (T.f 1 rfl) 2 (F0 K eX)
 o2:1<=m->Ok P w mg base D7 (T.f 2 rfl) 1 (F0 K bH)
 o3:2<=m->Ok P w mg base D7 (T.f 3 rfl) 2 (F0 K iB)
 o4:1<=m->Ok P w mg base D7 (T.f 4 rfl) 1 (F0 K gs)
 o5:2<=m->Ok P w mg base D7 (T.f 5 rfl) 2 (F0 K eF)
 o6:3<=m->Ok P w mg base D7 (T.f 6 rfl) 3 (F0 K bh)
 o7:4<=m->Ok P w mg base D7 (T.f 7 rfl) 4 (F0 K dY)
 o8:5<=m->Ok P w mg base D7 (T.f 8 rfl) 5 (F0 K cy)
 o9:1<=m->Ok P w mg base D7 (T.f 9 rfl) 1 (F0 K kX)
 IJ:5<=m->Ok P w mg base D7 (T.f 10 rfl) 5 (F0 K jG)
 II:4<=m->Ok P w mg base D7 (T.f 11 rfl) 4 (F0 K jF)
 Xl:6<=m->Ok P w mg base D7 (T.f 12 rfl) 6 (F0 K T9)
 Xk:7<=m->Ok P w mg base D7 (T.f 13 rfl) 7 (F0 K Y1)
 Xj:8<=m->Ok P w mg base D7 (T.f 14 rfl) 8 (F0 K jH)
 Xi:7<=m->Ok P w mg base D7 (T.f 15 rfl) 7 (F0 K jE)
 Xh:7<=m->Ok P w mg base D7 (T.f 16 rfl) 7 (F0 K kW)
 Xg:8<=m->Ok P w mg base D7 (T.f 17 rfl) 8 (F0 K jC)
 Xf:9<=m->Ok P w mg base D7 (T.f 18 rfl) 9 (F0 K vF)
 IH:10<=m->Ok P w mg base D7 (T.i 19 rfl) 10 (iL K fE)
 Xe:1<=m->Ok P w mg base D7 (T.f 20 rfl) 1 (F0 K iJ)
 Xd:2<=m->Ok P w mg base D7 (T.f 21 rfl) 2 (F0 K bp)
 Xc:2<=m->Ok P w mg base D7 (T.f 22 rfl) 2 (F0 K cz)
 Xb:2<=m->Ok P w mg base D7 (T.f 23 rfl) 2 (F0 K O5)
 WZ:3<=m->Ok P w mg base D7 (T.f 24 rfl) 3 (F0 K eG)
 WY:1<=m->Ok P w mg base D7 (T.f 25 rfl) 1 (F0 K tj)
 WX:2<=m->Ok P w mg base D7 (T.f 26 rfl) 2 (F0 K Z4)
 WV:3<=m->Ok P w mg base D7 (T.f 27 rfl) 3 (F0 K eV)
 WU:3<=m->Ok P w mg base D7 (T.f 28 rfl) 3 (F0 K sX)
 WT:4<=m->Ok P w mg base D7 (T.f 29 rfl) 4 (F0 K sZ)
 WS:5<=m->Ok P w mg base D7 (T.f 30 rfl) 5 (F0 K ph)
 WR:1<=m->Ok P w mg base D7 (T.f 31 rfl) 1 (F0 K aQ)
 WQ:2<=m->Ok P w mg base D7 (T.f 32 rfl) 2 (F0 K pf)
 WO:6<=m->Ok P w mg base D7 (T.f 33 rfl) 6 (F0 K ny)
 WN:2<=m->Ok P w mg base D7 (T.f 34 rfl) 2 (F0 K ao)
 WM:3<=m->Ok P w mg base D7 (T.f 35 rfl) 3 (F0 K wA)
 WL:3<=m->Ok P w mg base D7 (T.f 36 rfl) 3 (F0 K P9)
 WK:2<=m->Ok P w mg base D7 (T.f 37 rfl) 2 (F0 K ay)
 WJ:4<=m->Ok P w mg base D7 (T.f 38 rfl) 4 (F0 K mR)
 WI:5<=m->Ok P w mg base D7 (T.f 39 rfl) 5 (F0 K jK)
 WH:4<=m->Ok P w mg base D7 (T.f 40 rfl) 4 (F0 K pO)
 WG:4<=m->Ok P w mg base D7 (T.f 41 rfl) 4 (F0 K mO)
 WE:5<=m->Ok P w mg base D7 (T.f 42 rfl) 5 (F0 K sV)
 WC:6<=m->Ok P w mg base D7 (T.f 43 rfl) 6 (F0 K kK)
 WB:3<=m->Ok P w mg base D7 (T.f 44 rfl) 3 (F0 K M0)
 WA:4<=m->Ok P w mg base D7 (T.f 45 rfl) 4 (F0 K di)
 Wz:1<=m->Ok P w mg base D7 (T.f 46 rfl) 1 (F0 K gF)
 Wy:2<=m->Ok P w mg base D7 (T.f 47 rfl) 2 (F0 K fD)
 Wx:2<=m->Ok P w mg base D7 (T.f 48 rfl) 2 (F0 K df)
 Ww:3<=m->Ok P w mg base D7 (T.f 49 rfl) 3 (F0 K vG)
 Wv:4<=m->Ok P w mg base D7 (T.f 50 rfl) 4 (F0 K kY)
 Wu:3<=m->Ok P w mg base D7 (T.f 51 rfl) 3 (F0 K mP)
 Wt:4<=m->Ok P w mg base D7 (T.f 52 rfl) 4 (F0 K Z1)
 Ws:3<=m->Ok P w mg base D7 (T.f 53 rfl) 3 (F0 K nr)
 Wr:5<=m->Ok P w mg base D7 (T.f 54 rfl) 5 (F0 K jL)
 Wq:1<=m->Ok P w mg base D7 (T.f 55 rfl) 1 (F0 K jJ)
 Wo:2<=m->Ok P w mg base D7 (T.f 56 rfl) 2 (F0 K dZ)
 Wn:3<=m->Ok P w mg base D7 (T.f 57 rfl) 3 (F0 K jB)
 Wm:4<=m->Ok P w mg base D7 (T.f 58 rfl) 4 (F0 K pN)
 Wl:6<=m->Ok P w mg base D7 (T.f 59 rfl) 6 (F0 K pj)
 Wj:3<=m->Ok P w mg base D7 (T.f 60 rfl) 3 (F0 K kU)
 Wi:4<=m->Ok P w mg base D7 (T.f 61 rfl) 4 (F0 K dX)
 Wh:7<=m->Ok P w mg base D7 (T.m 62 rfl) 7 (iL K U7)
 Wg:1<=m->Ok P w mg base D7 (T.f 63 rfl) 1 (F0 K jI)
 Wf:4<=m->Ok P w mg base D7 (T.f 64 rfl) 4 (F0 K gr)
 We:5<=m->Ok P w mg base D7 (T.f 65 rfl) 5 (F0 K aJ)
 Wc:6<=m->Ok P w mg base D7 (T.f 66 rfl) 6 (F0 K jD)
 Wb:7<=m->Ok P w mg base D7 (T.f 67 rfl) 7 (F0 K ip)
 Wa:8<=m->Ok P w mg base D7 (T.f 68 rfl) 8 (F0 K fA)
 VZ:9<=m->Ok P w mg base D7 (T.m 69 rfl) 9 (iL K cS)
 VY:1<=m->Ok P w mg base D7 (T.f 70 rfl) 1 (F0 K pS)
 VX:10<=m->Ok P w mg base D7 (T.m 71 rfl) 10 (iL K gG)
 VW:11<=m->Ok P w mg base D7 (T.f 72 rfl) 11 (iL K dh)
 VV:1<=m->Ok P w mg base D7 (T.f 73 rfl) 1 (F0 K O7)
 VU:1<=m->Ok P w mg base D7 (T.f 74 rfl) 1 (F0 K V9)
 VT:12<=m->Ok P w mg base D7 (T.f 75 rfl) 12 (iL K mq)
 VS:1<=m->Ok P w mg base D7 (T.f 76 rfl) 1 (F0 K E5)
 VR:2<=m->Ok P w mg base D7 (T.f 77 rfl) 2 (F0 K pP)
 VQ:3<=m->Ok P w mg base D7 (T.f 78 rfl) 3 (F0 K Q5)
 VP:4<=m->Ok P w mg base D7 (T.f 79 rfl) 4 (F0 K ti)
 VO:2<=m->Ok P w mg base D7 (T.f 80 rfl) 2 (F0 K mm)
 VN:4<=m->Ok P w mg base D7 (T.f 81 rfl) 4 (F0 K kI)
 VM:5<=m->Ok P w mg base D7 (T.f 82 rfl) 5 (F0 K pR)
 VL:2<=m->Ok P w mg base D7 (T.f 83 rfl) 2 (F0 K bj)
 VJ:4<=m->Ok P w mg base D7 (T.f 84 rfl) 4 (F0 K kJ)
 VI:5<=m->Ok P w mg base D7 (T.f 85 rfl) 5 (F0 K mQ)
 VH:2<=m->Ok P w mg base D7 (T.f 86 rfl) 2 (F0 K pQ)
 VG:2<=m->Ok P w mg base D7 (T.f 87 rfl) 2 (F0 K fB)
 o88:13<=m->Ok P w mg base D7 (T.f 88 rfl) 13 (F0 K sW)
theorem oks(m:Nat):Oks P w base T m:=by
 induction m with
 |zero=>constructor<;>exact λh=>absurd h (by decide)
 |succ m O=>
 constructor;all_goals
  intro h;first|refine Q9 _ rfl ?_|refine gL _ rfl ?_
  intro _ _ _ _ _ _ nd hr;try delta aS aT O1 gH rJ cB S0 U4 ei tm jN jS lg ir lu mW mX mS pV mr pU gJ jP jO jR mw pW mv cU fF gI pX jQ jM mV jT mU mT Z8 cA eY X0 az V4 lq kZ fH xj lj iu lr iq qg bz gV gu pk fR wB nB nC nA
  apply Exists.intro
 repeat' (show(_:Prop);first|((with_reducible show PX _ _ _ _ _);first|((with_reducible show PX _ _ _ _ (Y5 _));apply a1L)|((with_reducible show PX _ _ _ _ (f7 _));exact a1D _ (pv _))|((with_reducible show PX _ _ _ _ (fC _));first|exact a1K|exact a4l|exact a1F|exact a1I|exact RZ N1 (T.v N1))|((with_reducible show PX _ _ _ _ (f9 _ _ _));first|((with_reducible show PX _ _ _ _ (f9 w5 _ _));refine' a4j (r:=Iy K) yH a0J ?_ ?_ (λ_ _=>rfl))|((with_reducible show PX _ _ _ _ (f9 M9 _ _));apply vS Zt a3L)|((with_reducible show PX _ _ _ _ (f9 C2 _ _));apply vS (r:=Kh K) Zy a3R)|((with_reducible show PX _ _ _ _ (f9 aH _ _));apply vS Tg a0O)|((with_reducible show PX _ _ _ _ (f9 K7 _ _));apply vS Zu a3M)|((with_reducible show PX _ _ _ _ (f9 iE _ _));apply vS a2h a3G)|((with_reducible show PX _ _ _ _ (f9 Kl _ _));apply vS a2i a3J)|((with_reducible show PX _ _ _ _ (f9 D9 _ _));refine' fW (r:=AX K) (yy hr.units) JI (Y3 _) ?_ ?_)|((with_reducible show PX _ _ _ _ (f9 X5 _ _));refine' fW (r:=DK K) (Ea hr.units) QW (Y3 _) ?_ ?_)|((with_reducible show PX _ _ _ _ (f9 hU _ _));apply fW VA a0M (Y3 _))|((with_reducible show PX _ _ _ _ (f9 gZ _ _));apply fW Ko QX (Y3 _))|((with_reducible show PX _ _ _ _ (f9 wQ _ _));apply fW VB a0N (Y3 _))|((with_reducible show PX _ _ _ _ (f9 wM _ _));apply fW Kq QY (Y3 _))|((with_reducible show PX _ _ _ _ (f9 cj _ _));apply fW Na a0K (Y3 _))|((with_reducible show PX _ _ _ _ (f9 qC _ _));apply fW IG HW (Y3 _))|((with_reducible show PX _ _ _ _ (f9 (Z5 inD cY) _ _));refine' fW (r:=rV K U') Eb JH N1 ?_ ?_)|((with_reducible show PX _ _ _ _ (f9 (Z5 bu W8) _ _));refine' fW (r:=rV K Uf) BU CS N1 ?_ ?_)|((with_reducible show PX _ _ _ _ (f9 mZ _ _));refine' fW (BV (EM hr.units)) CT N1 ?_ ?_))|((with_reducible show PX _ _ _ _ (lL gZ wM _ _ _));refine' DN Ko Kq QX QY ?_ ?_ ?_)|apply a4g a0U a3K|apply a1E|apply a1J|apply a4k|apply a1M|apply a4i|apply a1H|((with_reducible show PX _ _ _ _ (yW));exact RU)|((with_reducible show PX _ _ _ _ (uE _ _ _));refine' RV (Iu hr) (by first|exact yw T.cn (T.na _ M4) (pv _)|exact yu (pv _)) ?_ (by refine⟨?_,?_,?_,?_⟩<;>kernel_rfl))|((with_reducible show PX _ _ _ _ (qH _ _ _ _));refine' MC (Iu hr) (by first|exact yw T.cn (T.na _ M4) (pv _)|exact yu (pv _)) ?_ ?_ (by refine⟨?_,?_,?_,?_⟩<;>kernel_rfl))|((with_reducible show PX _ _ _ _ (wy _ _ _));exact RQ rfl T.cn (T.na _ M4) (pv _))|((with_reducible show PX _ _ _ _ (p6 _ _));first|((with_reducible show PX _ _ _ _ (p6 Dk _));refine' rX (r:=Kf K) (OR (hr.hd rfl)) a0E N1 (T.n _ M4) M4 ?_)|((with_reducible show PX _ _ _ _ (p6 T6 _));refine' rX (r:=RM K) OS a3N N1 (T.n _ M4) M4 ?_)|((with_reducible show PX _ _ _ _ (p6 qf _));refine' rX UJ a3S N1 (T.n _ M4) M4 ?_)|((with_reducible show PX _ _ _ _ (p6 sT _));refine' rX (r:=Kg K) (OV (hr.hd rfl)) a0P N1 (T.n _ M4) M4 ?_)|((with_reducible show PX _ _ _ _ (p6 cV _));refine' lF (r:=a4d K) CA Yb N1 (T.n _ M4) M4 ?_)|((with_reducible show PX _ _ _ _ (p6 kO _));refine' lF (r:=a1z K) FC a0H N1 (T.n _ M4) M4 ?_)|((with_reducible show PX _ _ _ _ (p6 ke _));refine' lF uG Vf N1 (T.n _ M4) M4 ?_)|((with_reducible show PX _ _ _ _ (p6 (uc intD sG) _));refine' lF (OU.or OT) (a3O.or a0L) N1 (T.n _ M4) M4 ?_)|((with_reducible show PX _ _ _ _ (p6 (uc ke vN) _));refine' lF (uG.or FA) (Vf.or a0F) N1 (T.n _ M4) M4 ?_)|refine' pcD (by change Ok P w mg base _ _ _ _;with_reducible first|exact O.o0 p7|exact O.o1 p7|exact O.o2 p7|exact O.o3 p7|exact O.o4 p7|exact O.o5 p7|exact O.o6 p7|exact O.o7 p7|exact O.o8 p7|exact O.o9 p7|exact O.IJ p7|exact O.II p7|exact O.Xl p7|exact O.Xk p7|exact O.Xj p7|exact O.Xi p7|exact O.Xh p7|exact O.Xg p7|exact O.Xf p7|exact O.IH p7|exact O.Xe p7|exact O.Xd p7|exact O.Xc p7|exact O.Xb p7|exact O.WZ p7|exact O.WY p7|exact O.WX p7|exact O.WV p7|exact O.WU p7|exact O.WT p7|exact O.WS p7|exact O.WR p7|exact O.WQ p7|exact O.WO p7|exact O.WN p7|exact O.WM p7|exact O.WL p7|exact O.WK p7|exact O.WJ p7|exact O.WI p7|exact O.WH p7|exact O.WG p7|exact O.WE p7|exact O.WC p7|exact O.WB p7|exact O.WA p7|exact O.Wz p7|exact O.Wy p7|exact O.Wx p7|exact O.Ww p7|exact O.Wv p7|exact O.Wu p7|exact O.Wt p7|exact O.Ws p7|exact O.Wr p7|exact O.Wq p7|exact O.Wo p7|exact O.Wn p7|exact O.Wm p7|exact O.Wl p7|exact O.Wj p7|exact O.Wi p7|exact O.Wh p7|exact O.Wg p7|exact O.Wf p7|exact O.We p7|exact O.Wc p7|exact O.Wb p7|exact O.Wa p7|exact O.VZ p7|exact O.VY p7|exact O.VX p7|exact O.VW p7|exact O.VV p7|exact O.VU p7|exact O.VT p7|exact O.VS p7|exact O.VR p7|exact O.VQ p7|exact O.VP p7|exact O.VO p7|exact O.VN p7|exact O.VM p7|exact O.VL p7|exact O.VJ p7|exact O.VI p7|exact O.VH p7|exact O.VG p7) hr ?_)|((with_reducible show PX _ _ _ _ (P4 _ _ _ _));refine' Pe.p ?_)|((with_reducible show PX _ _ _ _ (yY _ _));refine' RY rfl A9 N1 (T.n _ M4) M4 ?_ (Zo N1 (T.n _ M4) M4 rfl))|apply RP (r:=RK K) a1p a3H|apply MB|((with_reducible show PX _ _ _ _ (aa _ _ _));first|((with_reducible show PX _ _ _ _ (aa du _ _));refine' tY (name:="join") (id:="str.join") (r:=rJoin K) rfl F.slot_str_join F.type_str_join ZG a0I (λ_ _ _ h=>NV h) ?_ ?_)|((with_reducible show PX _ _ _ _ (aa fU _ _));refine' tY (name:="split") (id:="str.split") rfl Ai F.type_str_split Tq Yc (λ_ _ _ h=>JW h) ?_ ?_)|((with_reducible show PX _ _ _ _ (aa kg _ _));refine' tY (name:="startswith") (id:="str.startswith") rfl F.slot_str_startswith F.type_str_startswith Nv QU (λ_ _ _ h=>HG h) ?_ ?_)|((with_reducible show PX _ _ _ _ (aa qh _ _));refine' tY (name:="zfill") (id:="str.zfill") rfl F.slot_str_zfill F.type_str_zfill Tp Ya (λ_ _ _ h=>JG h) ?_ ?_)|((with_reducible show PX _ _ _ _ (aa sj _ _));refine' tY (name:="partition") (id:="str.partition") rfl Qm F.type_str_partition ZF a0G (λ_ _ _ h=>MW h) ?_ ?_))|((with_reducible show PX _ _ _ _ (yX _ _ _));refine' YF T.cn (T.i 19 rfl).m (O.IH p7).h (hr.mono (by omega)) rfl T.mc (O.IH p7).b mH ?_)|apply a1N|((with_reducible show PX _ _ _ _ (jc _ _ _ _));first|refine' rW (K':=K) rfl (T.w 8 rfl) (pv _) (O.o8 p7).h (hr.mono (by omega)) (T.f 8 rfl).F.kp (O.o8 p7).b mH ?_|refine' rW (K':=K) rfl (T.w 10 rfl) (pv _) (O.IJ p7).h (hr.mono (by omega)) (T.f 10 rfl).F.kp (O.IJ p7).b mH ?_|refine' rW (K':=K) rfl (T.w 11 rfl) (pv _) (O.II p7).h (hr.mono (by omega)) (T.f 11 rfl).F.kp (O.II p7).b mH ?_|refine' rW (K':=K) rfl (T.w 9 rfl) (pv _) (O.o9 p7).h (hr.mono (by omega)) (T.f 9 rfl).F.kp (O.o9 p7).b mH ?_)|((with_reducible show PX _ _ _ _ (Bp _ _));refine' YG (K':=K) rfl _ (pv _) ?_)|((with_reducible show PX _ _ _ _ (yZ _ _ _ _));exact YH _ _ (pv _) (pv _) M4 M4)|((with_reducible show PX _ _ _ _ (Lc _));refine' YE ?_)|apply a1G)|((with_reducible show jX _ _ _ _ (f6 _ _));refine' SW ?_ ?_)|exact Zp|((with_reducible show N7 _ _ _ _);first|((with_reducible show N7 _ _ _ (ES _ _));refine' Sb ?_ ?_ ?_)|((with_reducible show N7 _ _ _ (wt _ _));refine' Sq _ ?_)|((with_reducible show N7 _ _ _ (KZ _));refine' Se (λ_ _ h=>h) ?_)|((with_reducible show N7 _ _ _ (pG _));refine' Sk ?_)|((with_reducible show N7 _ _ _ (CJ _ _));refine' Sm (pv _) ?_)|((with_reducible show N7 _ _ _ (CK _ _ _));refine' Sn (pv _) ?_ ?_)|((with_reducible show N7 _ _ _ (A0 _ (P4 _ _ _ _)));refine' MH (by first|exact nd|(dsimp only[jV,Cx.pB,Cx.marked,Cx.quiet,oi];decide +kernel)) N1 lc ?_)|((with_reducible show N7 _ _ _ (av _ (P4 _ _ _ _)));refine' MG (by first|exact nd|(dsimp only[jV,Cx.pB,Cx.marked,Cx.quiet,oi];decide +kernel)) N1 lc ?_)|((with_reducible show N7 _ _ _ (kP _ _));exact MK _ (pv _))|((with_reducible show N7 _ _ _ (kP _ _));exact YU _ (pv _))|((with_reducible show N7 _ _ _ (A0 _ _));refine' Sg (by first|exact nd|(dsimp only[jV,Cx.pB,Cx.marked,Cx.quiet,oi];decide +kernel)) N1 lc ?_)|((with_reducible show N7 _ _ _ (B5 (Y5 _)));refine' IB (fr:=U') ?_)|((with_reducible show N7 _ _ _ (B5 _));refine' IB (fr:=Uf) ?_)|((with_reducible show N7 _ _ _ (U2 _));exact Si _ (pv _))|((with_reducible show N7 _ _ _ (eO _));refine' Sj ?_)|apply a1P|((with_reducible show N7 _ _ _ (L1 _ _ _));refine' YV (by first|exact Ph|exact PassesOwn.leaving) rfl ?_ ?_ ?_ ?_)|((with_reducible show N7 _ _ _ (av _ _));refine' YT (by first|exact nd|(dsimp only[jV,Cx.pB,Cx.marked,Cx.quiet,oi];decide +kernel)) N1 lc ?_)|exact BP|((with_reducible show N7 _ _ _ (bK _ _));refine' YX _ (pv _) ?_)|((with_reducible show N7 _ _ _ (Bl _ _));refine' YW _ (pv _) ?_)|((with_reducible show N7 _ _ _ (lK _ _ _));refine' MF _ Ph ?_ ?_)|((with_reducible show N7 _ _ _ (yS _ _ _ _ _));refine' Sl T.cn (T.na _ M4) (pv _) (by first|exact λ_ _ h=>.inr h|exact λ_ _ h=>.inl h) ?_)|((with_reducible show N7 _ _ _ (uD _ _ _ _ _));refine' MI (Iu hr) (by first|exact yw T.cn (T.na _ M4) (pv _)|exact yu (pv _)) ?_ ?_)|((with_reducible show N7 _ _ _ (EV _ _ _ _));refine' MJ (by first|exact yw T.cn (T.na _ M4) (pv _)|exact yu (pv _)) ?_ (by refine⟨?_,?_,?_,?_⟩<;>kernel_rfl))|((with_reducible show N7 _ _ _ (CI _ _));refine' Sf (by first|exact nd|(dsimp only[jV,Cx.pB,Cx.marked,Cx.quiet,oi];decide +kernel)) N1 lc ?_)|((with_reducible show N7 _ _ _ (kR _ _));refine' So ?_ ?_)|((with_reducible show N7 _ _ _ (Ji D9 _ _));refine' Kj (r:=AX K) (yy hr.units) JI (Y3 _) ?_ ?_))|apply Sr|apply ML|exact Ss|exact Kk|((with_reducible show bP _ _ _ _);first|((with_reducible show bP _ _ _ (jk _ _));refine' xb.pt ?_)|((with_reducible show bP _ _ _ (W9 _ _));refine' xb.pt ?_)|apply YQ|((with_reducible show bP _ _ _ (A8 (f9 D9 (Y5 _) _)));refine' aU (fr:=U') (r:=AX K) (yy hr.units) JI (Y3 _) ?_ ?_)|((with_reducible show bP _ _ _ (A8 (f9 X5 (Y5 _) _)));refine' aU (fr:=U') (r:=DK K) (Ea hr.units) QW (Y3 _) ?_ ?_)|((with_reducible show bP _ _ _ (A8 (f9 (Z5 inD cY) (Y5 _) _)));refine' aU (fr:=U') (r:=rV K U') Eb JH N1 ?_ ?_)|((with_reducible show bP _ _ _ (A8 (f9 D9 _ _)));refine' aU (fr:=Uf) (r:=AX K) (yy hr.units) JI (Y3 _) ?_ ?_)|((with_reducible show bP _ _ _ (A8 (f9 X5 _ _)));refine' aU (fr:=Uf) (r:=DK K) (Ea hr.units) QW (Y3 _) ?_ ?_)|((with_reducible show bP _ _ _ (A8 (f9 hU _ _)));apply aU (fr:=Uf) VA a0M (Y3 _))|((with_reducible show bP _ _ _ (A8 (f9 gZ _ _)));apply aU (fr:=Uf) Ko QX (Y3 _))|((with_reducible show bP _ _ _ (A8 (f9 wQ _ _)));apply aU (fr:=Uf) VB a0N (Y3 _))|((with_reducible show bP _ _ _ (A8 (f9 wM _ _)));apply aU (fr:=Uf) Kq QY (Y3 _))|((with_reducible show bP _ _ _ (A8 (f9 cj _ _)));apply aU (fr:=Uf) Na a0K (Y3 _))|((with_reducible show bP _ _ _ (A8 (f9 qC _ _)));apply aU (fr:=Uf) IG HW (Y3 _))|((with_reducible show bP _ _ _ (A8 (f9 (Z5 inD cY) _ _)));refine' aU (fr:=Uf) (r:=rV K U') Eb JH N1 ?_ ?_)|((with_reducible show bP _ _ _ (A8 (f9 (Z5 bu W8) _ _)));refine' aU (fr:=Uf) (r:=rV K Uf) BU CS N1 ?_ ?_)|((with_reducible show bP _ _ _ (A8 (f9 mZ _ _)));refine' aU (fr:=Uf) (BV (EM hr.units)) CT N1 ?_ ?_)|((with_reducible show bP _ _ _ (A8 (Y5 _)));refine' IA (fr:=U') ?_)|apply IA (fr:=Uf))|apply Sa|apply YJ|apply YK|apply a1O|((with_reducible show zi _ _ _ _ _ (Y4 aq _));refine' Kn N1 (T.n _ M4) ?_)|((with_reducible show zi _ _ _ _ _ (Y4 iU _));refine' Zf N1 (T.n _ M4) ?_)|((with_reducible show zi _ _ _ _ _ (Y4 sO _));refine' SG N1 (T.n _ M4) ?_)|apply Zg|((with_reducible show PG _ _ (cI _));exact ID (by first|exact nd|(dsimp only[jV,Cx.pB,Cx.marked,Cx.quiet,oi];decide +kernel)) N1 lc)|((with_reducible show PG _ _ (ET _ _ _));refine' a1W rfl ?_)|((with_reducible show Pf _ _ (wu _ _));refine' SM ?_ ?_)|exact Zi|exact MP|apply MO|exact SA|apply Sy (fr:=Uf)|((with_reducible show tK _ _ _ (bT _ _));refine' SX _ (pv _) ?_)|((with_reducible show tK _ _ _ (Q1 _ _));refine' SY ?_ ?_)|exact Zq|((with_reducible show wZ _ _ _ (fm _ _ _ _ _));refine' pmO (by change Ok P w mg base _ _ _ _;with_reducible first|exact O.o0 p7|exact O.o1 p7|exact O.o2 p7|exact O.o3 p7|exact O.o4 p7|exact O.o5 p7|exact O.o6 p7|exact O.o7 p7|exact O.o8 p7|exact O.o9 p7|exact O.IJ p7|exact O.II p7|exact O.Xl p7|exact O.Xk p7|exact O.Xj p7|exact O.Xi p7|exact O.Xh p7|exact O.Xg p7|exact O.Xf p7|exact O.IH p7|exact O.Xe p7|exact O.Xd p7|exact O.Xc p7|exact O.Xb p7|exact O.WZ p7|exact O.WY p7|exact O.WX p7|exact O.WV p7|exact O.WU p7|exact O.WT p7|exact O.WS p7|exact O.WR p7|exact O.WQ p7|exact O.WO p7|exact O.WN p7|exact O.WM p7|exact O.WL p7|exact O.WK p7|exact O.WJ p7|exact O.WI p7|exact O.WH p7|exact O.WG p7|exact O.WE p7|exact O.WC p7|exact O.WB p7|exact O.WA p7|exact O.Wz p7|exact O.Wy p7|exact O.Wx p7|exact O.Ww p7|exact O.Wv p7|exact O.Wu p7|exact O.Wt p7|exact O.Ws p7|exact O.Wr p7|exact O.Wq p7|exact O.Wo p7|exact O.Wn p7|exact O.Wm p7|exact O.Wl p7|exact O.Wj p7|exact O.Wi p7|exact O.Wh p7|exact O.Wg p7|exact O.Wf p7|exact O.We p7|exact O.Wc p7|exact O.Wb p7|exact O.Wa p7|exact O.VZ p7|exact O.VY p7|exact O.VX p7|exact O.VW p7|exact O.VV p7|exact O.VU p7|exact O.VT p7|exact O.VS p7|exact O.VR p7|exact O.VQ p7|exact O.VP p7|exact O.VO p7|exact O.VN p7|exact O.VM p7|exact O.VL p7|exact O.VJ p7|exact O.VI p7|exact O.VH p7|exact O.VG p7) T.cn hr (pv _) ?_ (pl:=_))|exact Zr|((with_reducible show wZ _ _ _ (lM _ _ _));refine' pcL (by change Ok P w mg base _ _ _ _;with_reducible first|exact O.o0 p7|exact O.o1 p7|exact O.o2 p7|exact O.o3 p7|exact O.o4 p7|exact O.o5 p7|exact O.o6 p7|exact O.o7 p7|exact O.o8 p7|exact O.o9 p7|exact O.IJ p7|exact O.II p7|exact O.Xl p7|exact O.Xk p7|exact O.Xj p7|exact O.Xi p7|exact O.Xh p7|exact O.Xg p7|exact O.Xf p7|exact O.IH p7|exact O.Xe p7|exact O.Xd p7|exact O.Xc p7|exact O.Xb p7|exact O.WZ p7|exact O.WY p7|exact O.WX p7|exact O.WV p7|exact O.WU p7|exact O.WT p7|exact O.WS p7|exact O.WR p7|exact O.WQ p7|exact O.WO p7|exact O.WN p7|exact O.WM p7|exact O.WL p7|exact O.WK p7|exact O.WJ p7|exact O.WI p7|exact O.WH p7|exact O.WG p7|exact O.WE p7|exact O.WC p7|exact O.WB p7|exact O.WA p7|exact O.Wz p7|exact O.Wy p7|exact O.Wx p7|exact O.Ww p7|exact O.Wv p7|exact O.Wu p7|exact O.Wt p7|exact O.Ws p7|exact O.Wr p7|exact O.Wq p7|exact O.Wo p7|exact O.Wn p7|exact O.Wm p7|exact O.Wl p7|exact O.Wj p7|exact O.Wi p7|exact O.Wh p7|exact O.Wg p7|exact O.Wf p7|exact O.We p7|exact O.Wc p7|exact O.Wb p7|exact O.Wa p7|exact O.VZ p7|exact O.VY p7|exact O.VX p7|exact O.VW p7|exact O.VV p7|exact O.VU p7|exact O.VT p7|exact O.VS p7|exact O.VR p7|exact O.VQ p7|exact O.VP p7|exact O.VO p7|exact O.VN p7|exact O.VM p7|exact O.VL p7|exact O.VJ p7|exact O.VI p7|exact O.VH p7|exact O.VG p7) hr ?_)|((with_reducible show xc _ _ _ _ (wa _ _ _));refine' Tc (pv _) ?_ ?_)|((with_reducible show xc _ _ _ _ (bT _ _));refine' Tb _ (pv _) ?_)|((with_reducible show xc _ _ _ _ (Q1 _ _));refine' Td ?_ ?_)|((with_reducible show wZ _ _ _ (je _ _));refine' pcO (by change Ok P w mg base _ _ _ _;with_reducible first|exact O.o0 p7|exact O.o1 p7|exact O.o2 p7|exact O.o3 p7|exact O.o4 p7|exact O.o5 p7|exact O.o6 p7|exact O.o7 p7|exact O.o8 p7|exact O.o9 p7|exact O.IJ p7|exact O.II p7|exact O.Xl p7|exact O.Xk p7|exact O.Xj p7|exact O.Xi p7|exact O.Xh p7|exact O.Xg p7|exact O.Xf p7|exact O.IH p7|exact O.Xe p7|exact O.Xd p7|exact O.Xc p7|exact O.Xb p7|exact O.WZ p7|exact O.WY p7|exact O.WX p7|exact O.WV p7|exact O.WU p7|exact O.WT p7|exact O.WS p7|exact O.WR p7|exact O.WQ p7|exact O.WO p7|exact O.WN p7|exact O.WM p7|exact O.WL p7|exact O.WK p7|exact O.WJ p7|exact O.WI p7|exact O.WH p7|exact O.WG p7|exact O.WE p7|exact O.WC p7|exact O.WB p7|exact O.WA p7|exact O.Wz p7|exact O.Wy p7|exact O.Wx p7|exact O.Ww p7|exact O.Wv p7|exact O.Wu p7|exact O.Wt p7|exact O.Ws p7|exact O.Wr p7|exact O.Wq p7|exact O.Wo p7|exact O.Wn p7|exact O.Wm p7|exact O.Wl p7|exact O.Wj p7|exact O.Wi p7|exact O.Wh p7|exact O.Wg p7|exact O.Wf p7|exact O.We p7|exact O.Wc p7|exact O.Wb p7|exact O.Wa p7|exact O.VZ p7|exact O.VY p7|exact O.VX p7|exact O.VW p7|exact O.VV p7|exact O.VU p7|exact O.VT p7|exact O.VS p7|exact O.VR p7|exact O.VQ p7|exact O.VP p7|exact O.VO p7|exact O.VN p7|exact O.VM p7|exact O.VL p7|exact O.VJ p7|exact O.VI p7|exact O.VH p7|exact O.VG p7) hr ?_)|refine' YI rfl (by exact bkN N1) (by first|exact(rfl:_=[_])|exact(rfl:_=[_,_])) ?_ ?_ ?_ (λ_ _ _ _ _ _=>?_) (λ_ _ _ _ _ _=>?_) (λ_ _ _ _ _ _=>?_)|exact Rp|exact Ro|exact Rm|refine' Yp ?_|exact Rn|apply LQ|exact Ox A9|exact Ue (yQ (yQ Ow A9) A9))
theorem a2p:Ok P w mg base D7 (T.f 88 rfl) 13 (F0 K sW):=(oks T 13).o88 (K5 _)
end
theorem all_mk{l:GC}{w:M5}{K:B1}{h:Heap}{mg:Str->Option w9}{fa:Addr}(X:K.In h)(G:h.Ns T1 mg)(hfa:mg "law" = U (.ref fa)){C:Addr}{fs:List Addr}{ds:List V2}{us:List (w9×V)}(aC:bW K T1 "Desk" = U (U (.ref C)))(A:Ns K C Jp fs ds)(hc:(vn K C X2=Uf/\vp K C=Uf)/\GS K C=Uf/\cO K (.ref C) "__setattr__" = U (U (.builtin "object.__setattr__")))(mc:GF K C=Uf)(kc:jz K (.ref C)=Uf)(na:Al (gh K C) ["house","keepers"])(z:Al (λs=>bW K T1 s=U J) ["abs","all","enumerate","int","isinstance","len","list","range","str","sum","tuple","zip"])(cc:Ck K Ju us):
  ∃fd:V2,(∀(s:A6) (v:w9),oG s fd ⟨[v],[]⟩ [("_law_script",v)])/\∀base:Heap,K.In base->base.Ns T1 mg->gU l.prog w K mg base D7 13 fa fd ["_law_script"] (F0 K sW):=by
 let ad:Ads:=⟨λi=>fs.getD i 0,λi=>ds.getD i (ie X2 X2 (iP (top 0)) (bF (top 0)) (L4 (top 0)) .none .none .none .none J .none .none),Vg K,C⟩
 have T:Txt K mg ad:=⟨λi _ _ _ _ m=>by
  cases A.at m with
  |f a r=>exact⟨Mq r,zN X G a⟩,λi _ _ _ _ _ m=>by
  cases A.at m with
  |a a r=>exact⟨Mq r,zN X G a⟩,λi _ _ _ _ _ _ m=>by
  cases A.at m with
  |m a b r=>exact⟨Mq r,a,b,(Mq r).kp⟩,λi _ _ _ _ _ m=>by
  cases A.at m with
  |i a b r=>exact⟨Mq r,mc,a,b,kc⟩,⟨aC,⟨hc.1.1,hc.1.2,hc.2.1,hc.2.2⟩⟩,zN X G aC,λ_ m=>na.at m,λ_ m=>PySem.W.mg_none_of X G (z.at m),λm=>⟨zN X G (cc.u m).1,(cc.u m).2.to⟩,λi _ _ _ _ m=>by
  cases A.at (d0:=ad.d 0) m with
  |f a r=>exact a⟩
 have e:fa=ad.f 88:=Value.ref.inj (Y9 (hfa.symm.trans (T.f 88 rfl).m));exact⟨ad.d 88,λs v=>(A.at (i:=88) rfl).to (by walk_at "b") s [v] rfl,λbase _ _=>e▸(a2p T).h⟩
theorem walk{l:GC}{q:V1}{XP:(Str->Option w9)->Heap->Prop}{YP:M5->Heap->Prop}{d:DefRec}{K:Params->B1} (hL:∀ns:List Int,ns.length<=63->sW [.list (ns.map .int)]=U (.dat (.bool Uf))) (hn:l.most=U 63) (hdf:d.params.defaults=[]) (hY:∀(w:M5) (h:Heap),YP w h->(K w.params).In h) (F:∀(w:M5) (mg:Str->Option w9) (fa:Addr) (h:Heap),(K w.params).In h->h.Ns T1 mg->mg d.name=U (.ref fa) ->
   ∃fd:V2,(∀(s:A6) (u:w9),oG s fd ⟨[u],[]⟩ [("_law_script",u)])/\∀base:Heap,(K w.params).In base->base.Ns T1 mg->gU l.prog w (K w.params) mg base D7 13 fa fd ["_law_script"] (F0 (K w.params) sW)) :
  PySem.W.WalkO q Q XP YP l.row.toRowW d [] (λf vs=>FX f vs):=
 L2.Yj (n:=63) (k:=13) (x:="_law_script") (CX:=λ_=>D7) (sp:=λw=>F0 (K w.params) sW) hn A9 hdf ⟨λ_=>rfl,by decide,by decide⟩ hY F (λ_ _ a ns hl _ hS=>⟨[],[.list (ns.map .int)],_,λa h=>absurd h G9,.cons (.lst (Yt hS) (Uk ns)) .nil,hL ns hl,λv H' _ r=>a0n r⟩) λ_ _ _ _ _ z=>z
end Law
local macro_rules|`(tactic|walk_at "k")=>`(tactic|(refine' Law.Rw.mk ?l ?c ?k;(case l=>k_is);(case c=>k_is);(case k=>k_is)))
local macro_rules|`(tactic|walk_at "p")=>`(tactic|first|exact .n|exact .c (.f (by k_is) (by walk_at "k")) (by walk_at "p")|exact .c (.a (by k_is) (by walk_at "k")) (by walk_at "p")|exact .c (.m (by k_is) (by k_is) (by walk_at "k")) (by walk_at "p")|exact .c (.i (by k_is) (by k_is) (by walk_at "k")) (by walk_at "p"))
local macro_rules|`(tactic|walk_at "e")=>`(tactic|first|exact .n|exact .i|exact .s|exact .c (by k_is) (by walk_at "e") (by walk_at "e")|exact .c (by walk_at "e") (by walk_at "e")|exact .t (by k_is) G9 (by walk_at "e")|exact .f (by k_is))
local macro_rules|`(tactic|walk_at "a")=>`(tactic|repeat first|exact .n|refine .c (by show _ = _;k_is) ?_)
open PySem PySem.W PyProof.Rows
set_option maxRecDepth 100000 in
set_option maxHeartbeats 0 in
theorem PySem.Challenge.cw_sunstore_k81_desk_days_and_costs_holds : PySem.Challenge.rw_sunstore_k81_desk_days_and_costs.Holds := by
 refine Z.topHd ?_
 k_fill
 refine Law.walk (l:=PySem.Challenge.rw_sunstore_k81_desk_days_and_costs) Law.TR rfl rfl (λw h Y=>PySem.W.kIn_of Y) ?F
 case F=>
  intro w mg fa h KX G hmg;exact Law.all_mk KX G hmg (by k_is) (by walk_at "p") ⟨⟨by k_is,by k_is⟩,by k_is,by k_is⟩ (by k_is) (by k_is) (by walk_at "a") (by walk_at "a") (by walk_at "e")
