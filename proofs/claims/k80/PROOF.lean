import PyProof.Rows.All
import KE.KFromBytes
import KE.KSortTup
import KE.RegKIsAll
import KE.KIntText
import KE.KRevIter
import KE.KDictOf
import Wide.FinOn
import PySem.Challenge.RW_sunstore_k80_desk_keepers
set_option compiler.extract_closed false
set_option linter.all false
structure PySem.W.Fast:Prop where
 (tw15159239159022376975 tw5919569251154258848 tw2399262284312446153 tw12401363356428783057 tw9152829339831385691 tw17497788323019966355 tw2771860244176671664 tw4218137733258003672 tw9452618656627334373 tw83166057719591336 tw3964523688282163086 tw1964280880649227487 tw17278868897991084163 tw3983639503608672836 tw10834302992588595290 tw3923187681244239825 tw7841031576156703930 tw9625569078244743603 tw2196490793398549198 tw11327517558984693620 tw13057079182700416736 tw16095496336378360082 tw8249416529613917530 tw9906725885952905085 tw5087882385967512266 tw7765465515574686005 tw4729049613565976795 tw16526763038266908558 tw13064181575327155372 tw9900367503352313512 tw7698033718916679394 tw9125049252680906693 tw14764715252645142691 tw2369103925947172669 tw12632702324465377281 tw8280695874528521636 tw16709596088257336234 tw8343864700881565618 tw1724441649265792217 tw12955718123619767569 tw10306455720450717917 tw10294656072954929551 tw11103976289168542486 tw579790806241853000 tw17531318899654566995 tw8456028965969216946 tw1369405501895869722 tw2161271889228061323 tw7219141745385388439 tw15192819567294164468 tw3827604162312054863 tw11083011966854503968 tw7902491348898817558 tw14012498331792469906 tw12020434338609923247 tw14173019716488897427 tw5465802016884346148 tw4306263791858739637 tw8115144510560850844 tw151907094443860142 tw8158900102028266644 tw5788086505587492416 tw16362930897340862263 tw6871948309413732341 tw5606761626973671854 tw2850292937164591074 tw567955342211696533 tw13756632203659816300 tw10953938328772074962 tw11594724150215395379 tw2051024761507822418 tw18321177491048866370 tw15745809109297787764 tw12924929163793274331 tw2487334311326596389 tw155663027043070351 tw6837906005809094112 tw18283156993547343790 tw9995396241205222426 tw5811154939659838918 tw15272572638221774345 tw145212741721985917 tw11925735383336207863 tw16725665138748206104 tw4388556031470374781 tw17431142513493573030 tw16516021199131494077 tw8844563944230498490 tw2103784731569831919 tw17726721011834224026 tw16534719083814180405 tw17756794144995258906 tw12007872001190068084 tw12274119323865296025 tw8846350889148487850 tw3211266740851245649 tw11730908901661614126 tw14085055299189913200 tw10977829638479854805 tw5214753353117213460 tw16408735369245669833 tw3113597327023120258 tw10262535350671639647 tw236576902587129956 tw2991743856943425193 tw8765745055501807073 tw14910860110757001828 tw16139561160168928419 tw16270224845770833773 tw5213516830939124275 tw9412800922202092128 tw7804491529935823890 tw10854204428044664851 tw8605471155582568021 tw4301924571610235023 tw15170741578141553781 tw11936684148224074654 tw2677934490744880653 tw14486724389626616661 tw17350814968640118176 tw10566796416111704314 tw8727111601711210318 tw14489214164835100283 tw274711751820356480 tw9376721897286726307 tw4259741699213796416 tw12275583262615906835 tw3475485794801692050 tw4352317168537625384 tw4484509095893740592 tw14520413215169344137 tw5888997423856052785 tw111035605864865530 tw14486057042124910250 tw7377506989898331925 tw12860546269322036590 tw2335822186006559449 tw10305945317215401841 tw4641657366564383273 tw10169940321595114564 tw7920418998329611582 tw11551283139592213456 tw6017082215066721882 tw16130159025492053956 tw2175011448694298029 tw13675350193550316174 tw14736259314851623887 tw11233225008637419397 tw6430916476193122995 tw3448704587346401205 tw8352245925624923187 tw531385640942255900 tw17124588332624455678 tw4188201165363680005 tw9224697254143219089 tw6442788095723013116 tw11989486957581462786 tw9634676827477233120 tw12635515346549565866 tw2409310716750053229 tw9418291713702175152 tw17707443288848660744 tw16494753516040534788 tw1835902529664641599 tw7781487808928366156 tw6574944842636610958 tw6665581117382085172 tw13647541824166646272 tw3582498465908376409 tw3261009816539112674 tw14793508054831161345 tw16018106516099422954 tw4373222808963657625 tw5027364173686087467 tw3974514318013002221 tw9155812854770602999 tw6902660581405347073 tw995892808226990559 tw12119784394268765119 tw1573980481436350126 tw17278103947663010009 tw12915577008166916775 tw603924247377390139 tw18045669952156806006 tw2720946284055923196 tw15730399843112898758 tw17739263909046604580 tw6257868001131540244 tw6415920283556352214 tw1061338070058931395 tw4623045030435703386 tw15072504478507207584 tw16766441208054921908 tw2859270497437497641 tw6894827563278579030 tw16929002769159445957 tw10316299676849672226 tw8415992567120656778 tw5395293053889662996 tw9102141628317442569 tw11754221354874336372 tw957988105951928213 tw13974940112866707125 tw920384222789550568 tw17635332391942934601 tw16758375566636785184 tw9604968995678786367 tw8649125001720058313 tw6211942591750447115 tw1980398275611127164 tw4436883296046587039 tw15515153855195827819 tw14938229086199351712 tw4487998538118266804 tw18320085775064059691 tw14990148539369676352 tw10520494906595824713 tw9113057256281987541 tw4072984202803124283 tw1580182833540297437 tw3077169802567655335 tw13833647128537703077 tw10223305806257728763 tw18213393653148106266 tw6776867184756838029 tw6008090891142813440 tw5527695877959064259 tw2556163045355514396 tw11616782737166618388 tw11267607798684560522 tw7985286971797531438 tw12292752617903455415 tw7102136327469078559 tw10117726063439700021 tw11385156147766679515 tw3526455236449778462 tw15595661493635461370 tw8015852184896825979 tw7560643837130094308 tw6940202779046640979 tw10940133350113511251 tw11064523237247843524 tw6331180264943047111 tw2019568919267897176 tw468323176791889845 tw10624322569505650300 tw2407469566847313717 tw4440771992440764026 tw2617517662808800615 tw15695922036343457259 tw17351901564804486459 tw17738716147205051585 tw17183206287950074140 tw9782946729504290076 tw9337888049633223823 tw15963069983684502734 tw1210057801967590244 tw3465123395684623139 tw2431190230997635962 tw6116080324643683644 tw7226688278866674820 tw9960672355330223807 tw1740821367703045550 tw5316119501452540328 tw356178726635027807 tw12521831591614654889 tw18180751979037414608 tw11737406999852351921 tw6338283930733236494 tw9852644176120816737 tw3662384526070672801 tw9178694470160545435 tw3159968894403612974 tw12041061186832978989 tw9877322851125546654 tw17628135087837617010 tw7826746878847376023 tw18043115730335767515 tw17566439691163439136 tw14697695343934983639 tw1541263395787351041 tw9850184661444813660 tw2735830612894141116 tw12855715303245803956 tw6768304752521095630 tw8807942668926318887 tw5802504878582097327 tw8216208594761827063 tw10290811722237560653 tw1700247724781022301 tw16511692422510862608 tw4576243686682685823 tw13048975411474539856 tw3228343830240846738 tw622040534507282017 tw4497848274948866572 tw16576470385978405332 tw4623967332247780909 tw2784109803781181004 tw6495115871848184738 tw14767320489937437590 tw14698730453409860723 tw6019968120145267191 tw13917165052806466442 tw11944024729574110013 tw7683442211618186373 tw904136639541957927 tw16983857315456327150 tw8161744418141182752 tw1366539957350335181 tw4316247522982013584 tw9474078545142876616 tw8595712547091665720 tw15772023817484698092 tw13895401320616013356 tw4770269876706742413 tw10926859743669159690 tw7379990975002045984 tw9585996353972132139 tw15429338936178998769 tw17220057912777021417 tw7445600547119041872 tw10997094150304608235 tw712392845821582292 tw16313453571693095755 tw4732694841173916724 tw4138513253610184796 tw3088597264600797172 tw18230557435434571606 tw11579960968875581097 tw18128854905339735760 tw3132186386105814266 tw17416610315469243805 tw769472686934992629 tw15459493759056979847 tw13964242472343296669 tw11393758017760597533 tw701256738400296024 tw2390626088603749251 tw12308018839479320718 tw17241123856133492256 tw7168482414018550697 tw14282661153998699230 tw7715494478119633176 tw7505407776388018978 tw9644085548610874419 tw6238564561753671784 tw8853708147421159585 tw8775488359335946697 tw16311550549840450932 tw14425459337180877123 tw1201659930202302739 tw1935614680938347504 tw18259617592805243791 tw17535175076970874752 tw15123026791786720245 tw15220505038949094348 tw9856555346661522272 tw12857661768154186177 tw8104893027225878389 tw16574135895724145038 tw2832650306049330295 tw9001422325812508164 tw4259486743166416115 tw2258761153221729925 tw8998907658370257959 tw15541106755502043632 tw6356720541355209944 tw6767759884938036176 tw10893859040924422131 tw9051247713966611759 tw882533129570354154 tw8265596887121730131 tw8210550680035893359 tw3985964934168433372 tw17343119939111798145 tw17150550646392719369 tw14530201213639553678 tw13272691315954581762 tw13190927776210297825 tw13168838432850401673 tw12508646477923099189 tw3312569159782968567 tw4764069416498412063 tw1385645100804800814 tw10195678164280594795 tw17193211295752862263 tw13651997777934814749 tw8001770648433930995 tw3278208470164894517 tw17275611363444881202 tw11625113133990566000 tw3739898084698347558 tw17830392397918485251 tw8431827015519437886 tw5854172106186289639 tw12893575680751541743 tw1270128360339935894 tw8489064386730524177 tw8177500401642699740 tw7179892777119885502 tw7130724176424481014 tw4821805517843468462 tw3841603822262525937 tw17745788144783410751 tw17472652204861257216 tw1703791957866337674 tw16959214900458796037 tw13445065844234503385 tw1109703411944905405 tw11079114739722671782 tw10152479998081777914 tw7600061007357057063 tw3418425819380943671 tw13995008969196841312 tw7742484989039384031 tw16850356841921340983 tw1622104682939722589 tw15488148662998213673 tw13452006498948977783 tw422145612886426613 tw5977429925909098307 tw15738169940110711514 tw3497897507032800112 tw2164698036712023447 tw11001996982263971124 tw8725518498458761919 tw6304944207634676338 tw7077631503880784849 tw6228020075011918242 tw5694635671711024452 tw5663821858077345407 tw5316228537728222634 tw2063857369382660861 tw16582376511012674937 tw14896715420063899938 tw14046172370987185404 tw13453187027738521147 tw12833643332661261146 tw12706891769408743250 tw11685119550277262971 tw7037021475591574276 tw17664030144179496407 tw2610967696508220162 tw11169351987424949324 tw4775874360061819529 tw9432583388472712994 tw5956564930219454726 tw4847255950888758330 tw4457276114659334783 tw2621534754298782788 tw18277462732252783136 tw17092361932699866665 tw16438609385042023809 tw16322207460388233027 tw12654560529280391376 tw1177485288284080135 tw102536954603585682 tw15445856477195770391 tw4075546346026432490 tw16773528997372227843 tw10299803546983294597 tw9785768462637935964 tw8283696934869305829 tw8206856012973362330 tw8160810338044149664 tw6622333231460066711 tw18250801518920804185 tw15690178088817181106 tw12499339999404445535 tw11873136581740254827 tw10278587711753640854 tw10212950819994183485 tw1020167683361654116 tw6250585166516049813 tw2644081710634295098 tw7727496059531675195 tw3296823414388078035 tw11489691388035277007 tw11470539426202398991 tw8266181378945469233 tw11595285085541881739 tw7658915705369432910 tw9706454007125999271 tw954354173874759693 tw9168203596110847044 tw8935717405914146204 tw8727791288524007314 tw8634586897212366271 tw8450589012954937459 tw8446345524516187515 tw8228970804360671917 tw7859083333589321776 tw7821257680222380869 tw7571928556585554630 tw7349539368622148480 tw703359408640482584 tw6782642685583147798 tw6628185735052944673 tw6388778412403993639 tw5805974731160833685 tw5794197886208337211 tw5779191023163330683 tw5702148584533666952 tw4823696629533026955 tw4674229865148435717 tw4261561302803328356 tw4201926453904308293 tw4117131910281163358 tw4049288752384891817 tw4031456139482733869 tw3934224967713473237 tw3758733926170963798 tw3518258033295663558 tw3456896050337251401 tw324030178830458289 tw2971125421895572937 tw2942088950121661055 tw2838998922611752882 tw2633909035538580211 tw2461461526477047105 tw2169593917221795638 tw2148389269273834560 tw211748668507136384 tw18348089387687250500 tw18238722395437439092 tw17975773453496993788 tw17857967086186229240 tw17651902422646759839 tw17493521350938094658 tw17240941919056426774 tw16895405310232371429 tw1688067939419017663 tw16709939176217725870 tw16698591588062938534 tw16674337437392583395 tw16558136417682678901 tw1648790056929104307 tw1607176108456213122 tw15947693502792327774 tw15943969020439707437 tw15511057014595368541 tw15457235858132020713 tw14481493254314142070 tw14377938819237687369 tw14251456001461106004 tw14217627389698317271 tw1409626307377277664 tw14077016518402741165 tw13856725524434073112 tw13479067150020570456 tw13174030242740831867 tw12959541579745628177 tw12802637695443211761 tw12524420081906849559 tw12128221278984899931 tw11613415801045246340 tw11458029583207345459 tw1140300467059702245 tw11178025693940596150 tw11044388248974602187 tw10914099496949357619 tw10736602225960618540 tw10696369920334862110 tw10648013576581566879 tw10561148941752544725 tw10510692262103680007 tw10432738495523075069 tw10398519258839059649 tw10227654929636563525 tw3790359930242095275 tw12836325440627830364 tw2731413266338349057 tw1874558501983286310 tw7511808530162858898 tw5974142280222149024 tw1905101547516063041 tw17867264849884258912 tw9771815720495237222 tw8801025668492375603 tw8785270803557516328 tw862387744318635980 tw7738712899190015290 tw7658345191054845401 tw762939640659652342 tw760543481663726005 tw7308453200903327048 tw6769757277921117822 tw6317346884016834531 tw3139877280391234083 tw2255920708454640498 tw17354396109745559848 tw16247980972073130334 tw14238360265939147356 tw12200023788720387674 tw12137101528902041150 tw12126294885471778196 tw1179318656750430209 tw11767927917483449653 tw11685187991663225620 tw11377377055802312170 tw10176188281556902323 tw9784331020414557124 tw704715419519828061 tw13439484269728278988 tw17028675175932837754 tw12220769895098966962 tw17979519969153455506 tw12887688603483164122 tw6036917153914943910 tw4717786076551261406 tw18445463592452657881 tw17384071797514019045 tw15772294868810751390 tw9998734682751052233 tw9995656716825605490 tw9983512109170218558 tw8610826245755269651 tw847222563620769744 tw7550752997042487782 tw4976837315430010539 tw4386835558332373953 tw4088552333499237101 tw2642367615259124600 tw14140695160145827000 tw13514931991709079555 tw13315684644135255570 tw1307058893641730787 tw12575632204970341045 tw12081889353848083576 tw10005233261518185407 tw6513274107905040296 tw14985017767933643891 tw8173662309289446851 tw12856962173616014818 tw10071757901225113874 tw17291907861286587756 tw15444305899946164754:True)
namespace Z
open PySem PySem.W PySem.Calls PyProof.Rows
noncomputable def sm(p:Program)(n:Str):Program:={p with main:={p.main with body:=p.main.body.filter fun s=>match s with|.FunctionDef m ..=>m==n|_=>false}}
noncomputable def lo(p:Program)(n:Str):List Str:=p.boundNames.filter (·!=n)
variable{r:OpenRow}{Xt:Shared->Bool}{XP:(Str->Option Value)->Heap->Prop}{α:Type}{Yf:Shared->α}{Ya:World->α}{YP:World->Heap->Prop}{d:DefRec}{kwd:List (Str×Expr)}{N:Nat}
theorem PySem.W.holds_open{q:Program}{loose:List Str}(left:LeftO r.prog (sm r.prog r.name) (lo r.prog r.name) Xt Yf Ya N)(a:∀w s,Yf s=Ya w->YP w s.heap)(b:∀w h k,YP w h->(∀c o,h.get? c=some o->k.get? c=some o)->YP w k)(c:∀s,Xt s=true->XP (s.heap.nsMap mainGlobals) s.heap)(e:∀m h k,XP m h->(∀c o,h.get? c=some o->k.get? c=some o)->XP m k)(f:defOf (sm r.prog r.name) r.name=some (d,kwd))(g:r.prog.theDef r.name=some (d.params,d.body,d.scope))(h:kwWritten? d.params.kwonlyargs d.params.kw_defaults=some kwd)(i:∀s,Xt s=true->RecFacts r.records s.heap)(j:(!r.writes||r.records.isEmpty)=true)(k:r.wellSaid=true)(l:(chainsOk (sm r.prog r.name)&&opensWell r.prog&&(frees r.toRowW&&r.within.isEmpty))=true)(m:r.prog.bare)(n:r.toRowW.promised)(o:WalkO (sm r.prog r.name) (lo r.prog r.name) XP YP r.toRowW d kwd λf v=>PySem.call f v):r.Holds:=_root_.PySem.W.holds_open left a b c e f g h i j k l m n o
set_option Elab.async false
set_option maxRecDepth 100000 in
set_option maxHeartbeats 0 in
open_top topHd for PySem.Challenge.rw_sunstore_k80_desk_keepers
end Z
theorem WJ{p:Prop}(h:p:=by rfl):p:=h
def e8:=WJ._auto_1
theorem WK{p:Prop}(h:p:=by intro _;rfl):p:=h
def lg:=WK._auto_1
theorem Vl{p:Prop}(h:p:=by intro _ _;rfl):p:=h
def Sm:=Vl._auto_1
theorem WL{p:Prop}(h:p:=by first|exact .inl rfl|exact .inr rfl|assumption):p:=h
def W9:=WL._auto_1
theorem WM{p:Prop}(h:p:=by exact⟨rfl,rfl,rfl,rfl,rfl⟩):p:=h
def sR:=WM._auto_1
theorem v7{p:Prop}(h:p:=by decide):p:=h
def j9:=v7._auto_1
theorem X8{p:Prop}(h:p:=by lia):p:=h
theorem eM{p:Prop}(h:p:=by decide +kernel):p:=h
theorem q5{p:Prop}(h:p:=by simp):p:=h
theorem M8{p:Prop}(h:p:=by assumption):p:=h
def Jm:=M8._auto_1
theorem XI{p:Prop}(h:p:=by omega):p:=h
theorem kz{p:Prop}(h:p:=by simp[*]):p:=h
theorem WN{p:Prop}(h:p:=by contradiction):p:=h
theorem u3{p:Prop}(h:p:=by repeat constructor):p:=h
theorem nE{α:Type u}{x:α}{p:Prop}(h:none=some x):p:=nomatch h
theorem nS{α:Type u}{x:α}{p:Prop}(h:some x=none):p:=nomatch h
theorem nT{p:Prop}(h:false=true):p:=nomatch h
theorem nF{p:Prop}(h:true=false):p:=nomatch h
theorem d4{d c:Type}{o:Option d}{f:d->Option c}{b:c}(h:o.bind f=some b):∃a,o=some a/\f a=some b:=Option.bind_eq_some_iff.1 h
theorem A7{p:Prop}[Decidable p]{d:Type}{o:Option d}{b:d}(h:(if p then o else none)=some b):p/\o=some b:=by
 split at h
 . exact⟨‹_›,h⟩
 . exact nE h
theorem UJ{a b c:Nat}(h:autoParam (a<=b) Jm):a<=c+b:=Nat.le_add_left_of_le h
theorem Yb{a b c:Nat}(h:autoParam (a+b<=c) Jm):a<=c:=Nat.le_trans (Nat.le_add_right _ _) h
set_option Elab.async false
set_option maxRecDepth 100000
open PySem.Str renaming ofString->b6,empty->aA,join->lr,ofString_eq_toList->Kx
open PySem renaming PyData->b5,Value->b8,wpAny_bind->d8,Shared->c8,wpAny_pure->j4,sizeLine->j8,Program->j3,FuncData->l9,Around->j6,World->i7,starEach->u4,wpAny_field->H9,mainGlobals->J5,compareOp->C9,wpAny_mono->P1,swapsWith->N8,wpAny_loadPart_at->eU,strIterType->Z1,sizeLine_eq->aT,wpAny_callSpecial?_slot->nj,Scope->E8,wpAny_newObj_type->iq,mem_of_lookup->jY,behindInMarks->bX,cLine->D3,wpAny_truthy_bool->gL,bootBuiltins->bW,wpAny_Call_Name_kw->jH,wpAny_setField->fh,wpAny_execs_nil->gH,binaryOp->X0,rawInt->P4,wpAny_call_entry->jE,wpAny_seqItems->gF,backTo->R1,wpAny_setField_rec->lN,wpAny_passesOwn->jC,sysModules->cV,excClassObj->fc,wpAny_isSubtype_exc->pL,attributeBase->jz,wpAny_holding->jy,wpAny_standAt->jx,strLen_append->jw,cellsFrom->cU,tupleKind_room_in1->pI,codeAny_mono->ju,IsPart->Z3,noteFrame->fb,wpAny_execs_cons->pF,call_meets->gC,codeAny_call_builtin->ur,getItem->bS,sliceBounds->jt,notedBy->bR,wpAny_getItem_list_slice->AY,wpAny_call->jr,typeIs_str->jq,keywordEach->lF,Model->az,NameKind->gy,tupleKind->jo,setFlight->jn,codeAny_handlers_test->AN,plainObj_wpAny_Assign_Attribute->Lb,CmpOp->aZ,letOwnedTupleGo->tV,wpAny_rule->lB,wpAny_updateSeq_pair->AL,call_meetsIn->pj,wpAny_handleBy_cons->AF,wpAny_loadPart->tQ,callerA->gx,intText?->tO,pushCells->ly,IsPair->eZ,JoinOk->eY,wpAny_attempt->tL,wpAny_onRaise->tK,wpAny_Assign_Name->Aw,wpAny_pyIter_list->Ap,wpAny_Call_method->Ao,assignEach->pb,wpAny_excMatches_sub_self->KN,BindsTo->jm,Keyword->jk,backToKw->lx,concat_meets->tH,noFill_tuple_add->Ak,wpAny_typeOf->tG,handleBy->lu,getMethod->oZ,standAt->lq,wpAny_isTrue_Compare1->Kw,valueAt->lp,GenState->oX,typeLookup->sZ,compEnvC->oW,compPost->oV,unbindBehindTheSuite->Kk,wpAny_setFlight_none->Kh,seq_tuple_add->zU,Within->zN,PassesOwn->sW,slicePick->sV,wpAny_mkText->zK,ExcBaseFacts->zH,raiseStmt->sU,call->zE
open PySem.W renaming Frag->c9,findIn->O0,keepIn->Y0,nsIn->S0,fnOf->bc,emptyDict->gK,callWith_K->jG,instObj->gI,looks_findIn->lQ,InstAt->gG,kia_one->jB,kitOne->jA,findObj->lJ,hasDictIn->pH,lookIn->lH,plainGet->pE,mg_of->lG,codeIn->px,handedIn->uc,any_some->ub,methodCall_KW->AQ,isFn->pk,plainGet_of->AJ,looks_clsIn->AI,looks_mroIn->AH,clsIn->tJ,plainOver->Au,specialIn->Aq,takerIn->Ae,makesIn->Ad,OpenLaw->Ab,cellsFrom_some->Kz,mroIn->zS,Looks->zQ,findObj_own->Kd,looks_find->JQ,tail_of_in->JM,set_plain->JH,readsIn->Jv,findCls->Ju
open PySem.Heap renaming get?_push_of_some->o9,lt_size->m6,get?_update_other->K9,get?_push_size->J8,get?_update_self->eV,size_push->eT,SameBut->jv,get?_none_of_le->AM
open List renaming mem_cons_of_mem->o8,length_map->m9,mem_cons_self->o2,length_append->A0,mem_append_right->D0,map_cons->o5,not_mem_nil->B4,replicate->w9,mem_cons->v8,getElem?_eq_getElem->U5,length_cons->J2,size_toArray->O1,getElem?_map->S6,map_append->P2,append_nil->Q8,mem_append_left->ao,getElem?_set_ne->aU,append_assoc->ak,nil_append->ai,length_singleton->eX,cons_append->cG,map_map->Z2,getElem?_cons_succ->ka,all_cons->bC,take_of_length_le->jZ,getD_eq_getElem?_getD->qp,lookup->bB,range->aR,map_nil->bb,getElem?_set_self->lS,getElem?_append_left->pR,any_cons->fg,getElem?_cons_zero->pQ,getElem?_append_right->uG,mem_of_getElem?->pN,length_drop->lL,lookup_cons->lK,mem_append->lI,drop_of_length_le->uv,filterMap_cons->uo,forIn_cons->pB,length_nil->pz,zip_cons_cons->uj,getElem?_replicate->AX,reverse_cons->ug,getElem?_set->ud,range'->lD,length_take->tZ,all_eq_true->tY,length_replicate->AO,nodup_cons->tT,find?_cons->tS,drop_succ_cons->AG,mem_filterMap->AB,contains_cons->AA,set_cons_zero->Ay,set_cons_succ->Ax,any_eq_false->Av,length_range->An,drop_eq_getElem_cons->KO,zipWith->tF,drop_length->Ah,range'_succ->Ag,filter_cons_of_neg->KD,filter_cons_of_pos->KC,of_mem_zip->Ac,foldl_cons->Aa,drop_left'->zY,length->tm,length_filter_le->Kv,getElem?_eq_none->Kr,drop_zero->zW,getElem?_append->Kl,dropLast_subset->Kf,length_dropLast->Ke,take_succ_cons->JZ,length_zipWith->JY,mem_replicate->JP,map_inj_right->JJ,any_map->zG,getElem_inj->JD,filter_cons->JA,getElem_mem->Jy
open PySem.PyData renaming str->h7,canLayAll0->Q9,canLay0->V5,depthAll->ah,eqv->aP,depth->cW,eqvAll->gE,tuple->gD,int->gB,list->lC,strOk->tD
open Int renaming fmod_nonneg_of_pos->A8,fmod_lt_of_pos->B7,gcd->E9,fdiv_eq_ediv_of_nonneg->uE,gcd_dvd_right->pG,gcd_pos_of_ne_zero_right->Ba,toNat_natCast->uf,gcd_dvd_left->tW,natAbs_neg->tN,ediv_pos_of_pos_of_dvd->KQ,dvd_mul_of_dvd_left->KA,negSucc->tj,ediv_mul_cancel->JW,cast_ofNat_Int->JL,gcd_zero_right->JK
open Nat renaming lt_of_lt_of_le->A1,le_trans->t4,le_refl->C6,ne_of_lt->J6,lt_irrefl->S5,ne_of_gt->cF,lt_of_le_of_lt->jF,zero_le->fe,le_add_right->pM,pow_le_pow_right->uq,le_succ->lE,lt_succ_self->ua,zero_add->ph,min_le_right->Aj,le_of_not_lt->Ai,min_eq_right->Af,min_eq_left->zZ,sub_succ_lt_self->Km,mul_le_mul_right->Ki,le_of_lt->zM,lt_trans->zI,add_right_comm->JO,le_succ_of_le->JG,lt_succ_of_lt->JF,succ_lt_succ->JB
open Option renaming bind_some->F7,map_some->pA,isSome_map->ue,map_eq_some_iff->AR,map_map->zX,isSome_some->JR,getD_none->JC,bind_none->Jz,map_none->Jt
open PySem.Value renaming ref->t7,none->N9,str->lA,bool->pe,int->pa,type->ti
open Bool renaming false_ne_true->U4,and_eq_true->aj,false_eq_true->pJ,eq_iff_iff->pC,or_true->pf,false_and->tR,and_false->tP,not_eq_true'->Ar,not_false->zV,or_false->zT,false_or->zR,not_true->zP,true_and->zO,true_or->zJ
open Nat.le renaming refl->F0
open Option.some renaming inj->V6,injEq->JE
open Ne renaming symm->B3
open False renaming elim->M9
open PySem.SeqAt renaming shaped->U3,canLay_of_shaped->uA,EqAt->sX,in_listAt->Jw
open PySem.NameKind renaming cell->X9,free->dg
open PySem.Obj renaming mapFields->ag,data_mapFields->lO,isFreed_of_fields->pO
open PyProof.Rows renaming envOfC->K7,slot_tuple_getitem->uI,callWith_type1->uH,AllBare->bT,joinParts_cons->pq,callWith_builtin1->La,envOfC->AE,subscriptTail_builtinR->Ky,Subscript_->sY,FormattedValue_plain->Kg
open PySem.Builtin.Str renaming occurrences->nk,strSub->ui,partsBetween->KJ,strKind->JX
open True renaming intro->aQ
open ForInStep renaming yield->gb
open PySem.Txt renaming join->S9,slice->gA,split->gz,startswith->pw,contains->tE
open PySem.F renaming slot_dict_get->lR,slot_tuple_iterator_next->uF,plainAttrs_list->uB,entry_dict_get->uw,args_tuple_add_2->AZ,entry_tuple_add->AW,plainAttrs_dict->AU,slot_tuple_add->AS,slot_str_split->tX,slot_zip_next->tU,args_tuple_iterator_next_1->KY,entry_tuple_iterator_next->KW,args_str_split_2->Az,excBase_ValueError->KR,entry_str_split->Am,args_dict_get_2->KI,args_dict_get_3->KH,slot_dict_pop->Ku,type_dict_get->Kt,slot_enumerate_next->Kq,slot_str_partition->Kj
open PySem.Calls renaming callWith_builtin->pP,spliced_cons->pK,evalArgs_plain->uu,Constant_str->uk,spliced_nil->uh,Name_function_global->KU
open PySem.W.Looks renaming here->lP
open Function renaming comp_def->lM,comp_apply->JV
open PySem.Builtin.Slice renaming slicePlaces->uD,sliceAdjust->KP
open PySem.Builtin.SmallTypes renaming nextOf->uC
open ToString renaming toString->bV
open Sum renaming inl->ba,inr->bU
open PySem.EntryCells renaming newEntry->um
open PySem.Builtin.ObjectAttr renaming storeInOwnDict->Ld,storeInDict->KZ
open Array renaming getElem?_setIfInBounds_self->Lc,length_toList->AK,find?_toList->AD,all_eq_true'->JI
open PySem.Paired renaming length->tM,snoc->zF
open PySem.Builtin.Tuple renaming tupleItemsOf->KS
open PySem.Value.ref renaming inj->tI
open PySem.Builtin.List renaming listTooLong->KL
open Classical renaming propDecidable->KG
open PyProof.Rows.IsTup renaming new->oY
open Sum.inr renaming inj->tq
open PySem.StrLaws renaming occ_length_le->Ko
open PySem.SeqAt.EqAt renaming bool_none->Kn,int_none->Kc,str_none->Kb,int_str->JU,str_int->JT,same->Jx
open PySem.Heap.SameBut renaming update->Ka
open PySem.Around renaming under->zL
open PySem.Heap.IsSliceOf renaming new->JS
open PySem.Code renaming quiet_builtin->JN
open PySem.PassesOwn renaming never->Js
abbrev d9:=@if_pos
abbrev e7:=@if_neg
abbrev D7:=@decide_eq_false
abbrev m5:=@congrArg
abbrev K8:=@decide_eq_true
abbrev B6:=@or_false
abbrev di:=@of_decide_eq_true
abbrev gJ:=@decide_eq_true_eq
abbrev jD:=@beq_self_eq_true
open List (mem_range mem_map mem_singleton)
namespace L2
open PySem PySem.Spec PyProof.Rows
set_option tactic.hygienic false
noncomputable abbrev hz(s:c8):Nat:=s.heap.objs.size
noncomputable abbrev Key:=Sum Int Str
noncomputable def qf:Key->b8->Bool
 | .inl k,v=>Value.isInt k v
 | .inr x,v=>Value.isStrOf x v
noncomputable def XG(w:i7):Key->Int
 | .inl k=>hashInt k
 | .inr x=>hashStr w x
theorem R8:∀{k:Key} {v:b8},qf k v=true->(∃i t,k=ba i/\v=pa i t)\/(∃x t,k=bU x/\v=lA x t)
 | .inl i,v,h=>by obtain⟨t,e⟩:=Value.isInt_shape h;exact .inl ⟨i,t,rfl,e⟩
 | .inr x,v,h=>by obtain⟨t,e⟩:=Value.isStrOf_shape h;exact .inr ⟨x,t,rfl,e⟩
theorem Ij(i:Int)(t:Tok):qf (.inl i) (.int i t)=true:=by simp[qf,Value.isInt]
theorem Ii(x:Str)(t:Tok):qf (.inr x) (.str x t)=true:=by simp[qf,Value.isStrOf]
theorem UR(a b:Int):decide ((ba a:Key)=ba b)=(a==b):=by
 by_cases e:a=b
 . subst e;simp
 . have h:¬(ba a:Key)=ba b:=λq=>e (Sum.inl.inj q)
   rw[D7 h];exact(beq_eq_false_iff_ne.mpr e).symm
theorem UO(a b:Str):decide ((bU a:Key)=bU b)=decide (a=b):=by
 by_cases e:a=b
 . subst e;simp
 . have h:¬(bU a:Key)=bU b:=λq=>e (tq q)
   rw[D7 h,D7 e]
theorem UQ(a:Int)(b:Str):decide ((ba a:Key)=bU b)=false:=D7 (λq=>nomatch q)
theorem UP(a:Str)(b:Int):decide ((bU a:Key)=ba b)=false:=D7 (λq=>nomatch q)
noncomputable def L9(prog:j3)(w:i7):PySem.KeyKind prog w Key where
 is:=qf
 hash:=XG w
 inj:=λv a b ha hb=>by
  rcases R8 ha with ⟨i,t,rfl,rfl⟩|⟨x,t,rfl,rfl⟩
  . rcases R8 hb with ⟨j,u,rfl,e⟩|⟨y,u,rfl,e⟩
    . injection e with e1 _;rw[e1]
    . exact nomatch e
  . rcases R8 hb with ⟨j,u,rfl,e⟩|⟨y,u,rfl,e⟩
    . exact nomatch e
    . injection e with e1 _;rw[e1]
 byValue:=λk v h=>by rcases R8 h with ⟨i,t,rfl,rfl⟩|⟨x,t,rfl,rfl⟩<;>rfl
 pyHash:=λhv h=>by
  rcases R8 hv with ⟨i,t,rfl,rfl⟩|⟨x,t,rfl,rfl⟩
  . exact wpAny_pyHash_int h
  . exact wpAny_pyHash_str h
 eqBool:=λhu hv h=>by
  rcases R8 hu with ⟨i,t,rfl,rfl⟩|⟨x,t,rfl,rfl⟩
  . rcases R8 hv with ⟨j,u,rfl,rfl⟩|⟨y,u,rfl,rfl⟩
    . rw[UR]at h;exact wpAny_eqBool_int h
    . rw[UQ]at h;exact JU i t y u _ _ _ _ h
  . rcases R8 hv with ⟨j,u,rfl,rfl⟩|⟨y,u,rfl,rfl⟩
    . rw[UP]at h;exact JT x t j u _ _ _ _ h
    . rw[UO]at h;exact wpAny_eqBool_str h
 «strs»:=λk x t v h=>by
  rcases R8 h with ⟨i,u,rfl,e⟩|⟨y,u,rfl,e⟩
  . exact nomatch e
  . injection e with e1 _
    subst e1;cases v<;>rfl
theorem Bq(prog:j3)(w:i7)(i:Int)(t:Tok):(L9 prog w).is (.inl i) (.int i t)=true:=Ij i t
theorem Bp(prog:j3)(w:i7)(x:Str)(t:Tok):(L9 prog w).is (.inr x) (.str x t)=true:=Ii x t
inductive V where
 |non|bl (b:Bool)|int (i:Int)|str (x:Str)|byt (b:Array UInt8)|flt (b:UInt64)|ref (a:Addr)|ty (n:String)
 deriving DecidableEq
noncomputable def RelV:V->b8->Prop
 | .non,u=>u=N9
 | .bl b,u=>u=pe b
 | .int i,u=>∃t,u=pa i t
 | .str x,u=>∃t,u=lA x t
 | .byt b,u=>∃t,u=Value.bytes b t
 | .flt b,u=>∃t,u=Value.float b t
 | .ref a,u=>u=t7 a
 | .ty n,u=>u=ti n
noncomputable abbrev Vals:List V->List b8->Prop:=Paired RelV
theorem Vals.length{xs:List V}{us:List b8}(r:Vals xs us):xs.length=us.length:=tM r
theorem Vals.get:∀{xs:List V} {us:List b8} {i:Nat} {x:V},Vals xs us->xs[i]? = some x->∃u,us[i]? = some u/\RelV x u
 |_,_,_,_,.nil,e=>by simp at e
 |_,_,0,_,.cons r _,e=>by simp at e;subst e;exact⟨_,rfl,r⟩
 |_,_,i+1,x,.cons _ t,e=>by
  obtain⟨u,b,a⟩:=Vals.get t (by simpa using e)
  exact⟨u,by simpa using b,a⟩
theorem Vals.append{xs ys:List V}{us ws:List b8}(h:Vals xs us)(s:Vals ys ws):Vals (xs++ys) (us++ws):=by
 induction h with
 |nil=>exact s
 |cons r t i=>exact .cons r i
theorem Vals.take:∀{xs:List V} {us:List b8} (n:Nat),Vals xs us->Vals (xs.take n) (us.take n)
 |_,_,0,_=>.nil
 |_,_,_+1,.nil=>.nil
 |_,_,n+1,.cons r t=>.cons r (Vals.take n t)
theorem Vals.drop:∀{xs:List V} {us:List b8} (n:Nat),Vals xs us->Vals (xs.drop n) (us.drop n)
 |_,_,0,r=>r
 |_,_,_+1,.nil=>.nil
 |_,_,n+1,.cons _ t=>Vals.drop n t
noncomputable def aa:Option V->Option b8->Prop
 |some v,some u=>RelV v u
 |none,none=>True
 |_,_=>False
noncomputable def KV{κ:Type}:List (κ×V)->List (κ×b8)->Prop:=Paired λ(p:κ×V) (q:κ×b8)=>p.1=q.1/\RelV p.2 q.2
noncomputable def kV:Key->V
 | .inl i=>.int i
 | .inr x=>.str x
inductive HO where
 |lst (xs:List V)
 |tup (xs:List V)
 |dK (kvs:List (Key×V))|dT (kvs:List (List Key×V))
 |set (S:Int->Bool) (n:Nat)
 |ins (C dx:Addr) (fs:List (Str×V))
 |own (x:Addr)
 |xd (fs:List (Str×V))
 |met (f x:Addr)
 |rng (lo hi:Int)
 |aG (o:Obj) (u:HO)
 |tbl (ps:Array b8)
 |ext (φ:Heap->Prop)
noncomputable abbrev Hp:=Addr->Option HO
noncomputable def upd(H:Hp)(a:Addr)(o:HO):Hp:=λb=>if b=a then some o else H b
theorem l7{H:Hp}{a:Addr}{o:HO}:upd H a o a=some o:=by delta upd;rw[d9 rfl]
theorem i8{H:Hp}{a b:Addr}{o:HO}(h:b≠a):upd H a o b=H b:=by delta upd;rw[e7 h]
theorem Qb{H:Hp}{a:Addr}{o u:HO}:upd (upd H a o) a u=upd H a u:=by funext b;delta upd;split<;>rfl
theorem Wy{H:Hp}{a b:Addr}{o u:HO}(h:H a=some o)(h':H b=some u)(d:o≠u):a≠b:=by intro e;subst e;rw[h]at h';exact d (V6 h')
theorem B2{H:Hp}{a b:Addr}{o:HO}(h:H a=some o)(h':H b=none):a≠b:=by intro e;subst e;rw[h]at h';exact nS h'
section
variable(P:j3)(w:i7)
noncomputable def G9(H:Hp)(h:Heap)(a:Addr):HO->Prop
 | .lst xs=>xs.length<=j8/\∃(its:List b8) (n:Nat),Vals xs its/\h.get? a=some {cls:=.type "list",data:=.seq its.toArray n}
 | .tup xs=>xs.length<=j8/\∃its:List b8,Vals xs its/\IsTup h a its.toArray
 | .dK kvs=>kvs.length<=j8/\(a==cV)=false/\∃vs,KV kvs vs/\h.DictOf (L9 P w) a vs
 | .dT kvs=>kvs.length<=j8/\(a==cV)=false/\∃xs:List (List Key×Addr×b8),
   Paired (λ(p:List Key×V) (q:List Key×Addr×b8)=>p.1=q.1/\H q.2.1=some (.tup (p.1.map kV))/\RelV p.2 q.2.2) kvs xs /\
   ∃o es ep,h.get? a=some o/\o.ExactDict/\o.data=.dict es ep/\es.toList=xs.map (entryOfKey (jo (L9 P w)))/\(xs.map (·.1)).Nodup
 | .set S n=>h.SetOf (intKind P w) a S n
 | .ins C dx fs=>H dx=some (.own a)/\fs.length<=1000/\dx≠a/\h.get? a=some (gI C dx) /\
   ∃mA,h.Ns1 dx mA/\(∀f,aa (fs.lookup f) (mA f))/\zN mA (fs.map (·.1))
 | .own _=>∃o,h.get? a=some o
 | .xd fs=>∃mA,h.Ns1 a mA/\∀f,aa (fs.lookup f) (mA f)
 | .rng lo hi=>∃t u v,h.get? a=some {cls:=.type "range",data:=.fields #[.int lo t,.int hi u,.int 1 v]}
 | .aG o u=>h.get? a=some o/\G9 H h a u
 | .tbl ps=>h.get? a=some {cls:=.none,data:=.fields ps}
 | .met f x=>h.get? a=some (PySem.W.methodObj (.ref f) (.ref x))
 | .ext φ=>φ h/\(∃o,h.get? a=some o)/\∀h1 h2:Heap,φ h1->(∀o,h1.get? a=some o->h2.get? a=some o)->φ h2
noncomputable def U6(H:Hp)(h:Heap):Prop:=∀a o,H a=some o->G9 P w H h a o
end
section
variable{P:j3}{w:i7}{H H':Hp}{h h':Heap}{a:Addr}{o:HO}
theorem G9.lt(x:G9 P w H h a o):a<h.objs.size:=by
 cases o with
 |lst c=>obtain⟨_,_,_,_,e⟩:=x;exact m6 e
 |tup c=>obtain⟨_,_,_,p⟩:=x;exact p.lt
 |dK b=>obtain⟨_,_,_,_,o,_,_,e,_⟩:=x;exact m6 e
 |dT b=>obtain⟨_,_,_,_,o,_,_,e,_⟩:=x;exact m6 e
 |set S n=>obtain⟨o,_,_,_,e,_⟩:=x;exact m6 e
 |ins C k fs=>obtain⟨_,_,_,e,_⟩:=x;exact m6 e
 |own y=>obtain⟨_,e⟩:=x;exact m6 e
 |xd fs=>obtain⟨_,⟨_,_,_,e,_⟩,_⟩:=x;exact m6 e
 |rng j d=>obtain⟨_,_,_,e⟩:=x;exact m6 e
 |aG i u=>obtain⟨e,_⟩:=x;exact m6 e
 |tbl g=>exact m6 (show h.get? a=some _ from x)
 |met f y=>exact m6 (show h.get? a=some _ from x)
 |ext φ=>obtain⟨_,⟨_,e⟩,_⟩:=x;exact m6 e
theorem Paired.UK{d e:Type}{F G:d->e->Prop}{c:List d}{l:List e}(h:Paired F c l)(f:∀a b,F a b->G a b):Paired G c l:=by
 induction h with
 |nil=>exact .nil
 |cons r t i=>exact .cons (f _ _ r) i
theorem G9.iE(x:G9 P w H h a o)(k:∀b u,(b=a\/H b=some (.own a))->h.get? b=some u->h'.get? b=some u)(F:∀b,H b=some (.own a)->H' b=some (.own a))(E:∀b xs,H b=some (.tup xs)->H' b=some (.tup xs)):G9 P w H' h' a o:=by
 induction o with
 |lst xs=>obtain⟨z,l,n,r,e⟩:=x;exact⟨z,l,n,r,k _ _ (.inl rfl) e⟩
 |tup xs=>obtain⟨z,l,r,g,e,c⟩:=x;exact⟨z,l,r,g,k _ _ (.inl rfl) e,c⟩
 |dK A=>obtain⟨z,y,G,r,g,i,j,e,c⟩:=x;exact⟨z,y,G,r,g,i,j,k _ _ (.inl rfl) e,c⟩
 |dT A =>
  obtain⟨z,y,xs,r,g,i,j,e,c⟩:=x;exact⟨z,y,xs,Paired.UK r λp q z=>⟨z.1,E _ _ z.2.1,z.2.2⟩,g,i,j,k _ _ (.inl rfl) e,c⟩
 |set S n=>obtain⟨g,i,j,t,e,c⟩:=x;exact⟨g,i,j,t,k _ _ (.inl rfl) e,c⟩
 |ins C N fs =>
  obtain⟨d,z,ne,e,m,⟨s,i,j,I,c⟩,r⟩:=x;exact⟨F _ d,z,ne,k _ _ (.inl rfl) e,m,⟨s,i,j,k _ _ (.inr d) I,c⟩,r⟩
 |own y=>obtain⟨g,e⟩:=x;exact⟨g,k _ _ (.inl rfl) e⟩
 |xd fs=>obtain⟨m,⟨s,i,j,e,c⟩,r⟩:=x;exact⟨m,⟨s,i,j,k _ _ (.inl rfl) e,c⟩,r⟩
 |rng M K=>obtain⟨t,u,v,e⟩:=x;exact⟨t,u,v,k _ _ (.inl rfl) e⟩
 |aG g u D=>obtain⟨e,q⟩:=x;exact⟨k _ _ (.inl rfl) e,D q⟩
 |tbl L =>
  have e:=x;exact k a _ (.inl rfl) e
 |met f y =>
  have e:=x;exact k a _ (.inl rfl) e
 |ext φ=>obtain⟨p,⟨o,e⟩,B⟩:=x;exact⟨B _ _ p λo q=>k _ _ (.inl rfl) q,⟨o,k _ _ (.inl rfl) e⟩,B⟩
theorem U6.lt(x:U6 P w H h)(e:H a=some o):a<h.objs.size:=(x a o e).lt
theorem U6.fresh(x:U6 P w H h)(e:h.objs.size<=a):H a=none:=by
 cases q:H a with
 |none=>rfl
 |some u=>exact absurd (A1 (x.lt q) e) (S5 _)
theorem U6.kept(x:U6 P w H h)(k:∀b u,h.get? b=some u->h'.get? b=some u):U6 P w H h':=λa o e =>
 (x a o e).iE (λb u _ q=>k b u q) (λ_ q=>q) λ_ _ q=>q
theorem U6.laid(x:U6 P w H h)(k:∀b u,h.get? b=some u->h'.get? b=some u)(g:h.objs.size<=a)(new:G9 P w (upd H a o) h' a o):U6 P w (upd H a o) h':=λb u e=>by
 have d:=x.fresh g;by_cases f:b=a
 . subst f;rw[l7]at e;cases e;exact new
 . rw[i8 f]at e;exact(x b u e).iE (λc v _ q=>k c v q) (λc q=>by rw[i8 (B2 q d)];exact q) λc i q=>by rw[i8 (B2 q d)];exact q
end
noncomputable def Rd(H:Hp)(a:Addr)(u:HO):Prop:=H a=some u\/∃o,H a=some (.aG o u)
theorem Rd.ok{P:j3}{w:i7}{H:Hp}{h:Heap}{a:Addr}{u:HO}(r:Rd H a u)(x:U6 P w H h):G9 P w H h a u:=by
 rcases r with r|⟨o,r⟩
 . exact x a u r
 . obtain⟨_,q⟩:=x a _ r;exact q
noncomputable def Jr:Option HO->Prop
 |some (.lst _)=>True
 |some (.dK _)=>True
 |some (.dT _)=>True
 |some (.set _ _)=>True
 |some (.ins _ _ _)=>True
 |some (.ext _)=>True
 |_=>False
section
variable{P:j3}{w:i7}{H:Hp}{h h':Heap}{x e:Addr}{o':HO}
theorem U6.write(ok:U6 P w H h)(mu:Jr (H x))(m:e=x\/H e=some (.own x))(k:∀b u,b≠e->h.get? b=some u->h'.get? b=some u)(l:∃u,h'.get? e=some u)(new:G9 P w (upd H x o') h' x o'):U6 P w (upd H x o') h':=λb u q=>by
 have d:∀c y,H c=some (.own y)->c≠x:=λc y r z=>by subst z;rw[r]at mu;exact mu
 have f:∀c g,H c=some (.tup g)->c≠x:=λc g r z=>by subst z;rw[r]at mu;exact mu
 by_cases j:b=x
 . subst j;rw[l7]at q;cases q;exact new
 . rw[i8 j]at q;by_cases a:b=e
   . have n:H b=some (.own x):=by
       rcases m with z|z
       . exact absurd (a.trans z) j
       . rw[a];exact z
     rw[q]at n;cases n;obtain⟨v,o⟩:=l;exact⟨v,by rw[a];exact o⟩
   . refine(ok b u q).iE (λc v i r=>k c v ?_ r) (λc r=>by rw[i8 (d c b r)];exact r) λc g r=>by rw[i8 (f c g r)];exact r
     rcases i with rfl|i
     . exact a
     . rintro rfl;rcases m with z|z
       . exact d c b i z
       . rw[i]at z;cases z;exact j rfl
end
structure Un(fs ex:List Addr)(H H':Hp)(h h':Heap):Prop where
 keep:∀b o,h.get? b=some o->H b=none->b∉fs->b∉ex->h'.get? b=some o
 slot:∀b o,h.get? b=some o->H b=none->b∈fs->b∉ex->∃sl,h'.get? b=some {o with slots:=sl}
 free:∀b o,h.get? b=some o->H b=none->b∉ex->H' b=none
 there:∀b o,h.get? b=some o->b∉ex->∃o',h'.get? b=some o'
 md:∀b xs,H b=some (.tup xs)->H' b=some (.tup xs)
 kr:∀b o u,H b=some (.aG o u)->H' b=some (.aG o u)
 mf:∀b ps,H b=some (.tbl ps)->∃more,H' b=some (.tbl (ps++more))
section
variable{fs fs' ex ex':List Addr}{H H1 H2:Hp}{h h1 h2 h':Heap}{a x e:Addr}{o:HO}
theorem Un.any(u:Un fs ex H H1 h h1){b:Addr}{ob:Obj}(q:h.get? b=some ob)(n:H b=none)(c:b∉ex):∃d,h1.get? b=some {ob with slots:=d}:=by
 by_cases a:b∈fs
 . exact u.slot b ob q n a c
 . exact⟨ob.slots,u.keep b ob q n a c⟩
theorem Un.kept(k:∀b u,h.get? b=some u->h'.get? b=some u):Un fs ex H H h h' :=
 ⟨λb a q _ _ _=>k b a q,λb a q _ _ _=>⟨a.slots,k b a q⟩,λ_ _ _ n _=>n,λb a q _=>⟨a,k b a q⟩,λ_ _ q=>q,λ_ _ _ q=>q,λ_ c q=>⟨#[],by rw[q];simp⟩⟩
theorem Un.refl:Un fs ex H H h h:=Un.kept λ_ _ q=>q
theorem Un.laid(k:∀b u,h.get? b=some u->h'.get? b=some u)(e:h.objs.size<=a)(c:H a=none):Un fs ex H (upd H a o) h h' where
 keep:=λb u q _ _ _=>k b u q
 slot:=λb u q _ _ _=>⟨u.slots,k b u q⟩
 free:=λb u q n _=>by rw[i8 (J6 (A1 (m6 q) e))];exact n
 there:=λb u q _=>⟨u,k b u q⟩
 md:=λb d q=>by rw[i8 (B2 q c)];exact q
 kr:=λb u d q=>by rw[i8 (B2 q c)];exact q
 mf:=λb f q=>⟨#[],by rw[i8 (B2 q c),q];simp⟩
theorem Un.write(mu:Jr (H x))(i:e=x\/H e=some (.own x))(k:∀b u,b≠e->h.get? b=some u->h'.get? b=some u)(d:∃u,h'.get? e=some u):Un fs ex H (upd H x o) h h':=by
 have f:∀b,H b=none->b≠x:=λb n z=>by subst z;rw[n]at mu;exact mu
 have g:∀b,H b=none->b≠e:=λb n z=>by
  subst z;rcases i with r|r
  . exact f b n r
  . rw[n]at r;exact nE r
 have c:∀b u,H b=some u->¬Jr (some u)->b≠x:=λb u q j z=>by subst z;rw[q]at mu;exact j mu
 refine⟨λb u q n _ _=>k b u (g b n) q,λb u q n _ _=>⟨u.slots,k b u (g b n) q⟩,λb u q n _=>by rw[i8 (f b n)];exact n,λb u q _=>?_,
  λb l q=>by rw[i8 (c b _ q λz=>z)];exact q,λb u l q=>by rw[i8 (c b _ q λz=>z)];exact q,λb m q=>⟨#[],by rw[i8 (c b _ q λz=>z),q];simp⟩⟩
 by_cases a:b=e
 . subst a;exact d
 . exact⟨u,k b u a q⟩
end
noncomputable def Oy(h:Heap)(H:Hp):List Addr:=(aR h.objs.size).filter λa=>(H a).isSome
noncomputable def oC(h:Heap)(H:Hp):Heap:=PySem.W.hideAll h (Oy h H)
theorem IE(h:Heap)(H:Hp):(oC h H).objs.size=h.objs.size:=PySem.W.hideAll_size _ _
theorem Nx{h:Heap}{H:Hp}{b:Addr}{o:Obj}(e:h.get? b=some o)(n:H b=none):(oC h H).get? b=some o :=
 PySem.W.hideAll_get _ e λa=>by have q:=(List.mem_filter.mp a).2;rw[n]at q;simp at q
theorem Rr{h:Heap}{H:Hp}{b:Addr}{o:Obj}(e:(oC h H).get? b=some o):h.get? b=some o/\H b=none:=by
 have a:=PySem.W.of_hideAll (Oy h H) e;refine⟨a,?_⟩;cases q:H b with
 |none=>rfl
 |some x =>
  have c:b∈Oy h H:=List.mem_filter.mpr ⟨mem_range.mpr (m6 a),by simp[q]⟩
  have z:(oC h H).get? b=none:=PySem.W.hideAll_none (Oy h H) c;rw[z]at e;exact nE e
noncomputable def Sl(g h:Heap)(L:Addr):List (Addr×Obj):=(aR h.objs.size).filterMap λa=>if a=L\/(g.get? a).isSome=true then none else(h.get? a).map λo=>(a,o)
noncomputable def rest(g h:Heap)(L d:Addr):List (Addr×Obj):=(Sl g h L).filter λp=>decide (p.1≠d)
structure Mod(K:c9)(mg:Str->Option b8)(base:Heap):Prop where
 ow:K.In base
 glob:base.Ns J5 mg
 blt:∃mb,base.Ns builtinsNs mb/\∀x:Str,x ≠ "__name__"->mb x=bW x
 nolimit:base.NoLimit
structure Cx where
 prog:j3
 w:i7
 K:c9
 mg:Str->Option b8
 base:Heap
 A:j6
 N:List Str
 K5:c8
 f6:Hp
 env:Env
 outer:List Env
 stack:List Env
 ex:List Addr
 fn:Str->Bool
 calm:Bool
 pn:List (Addr×Obj)
 xe:b8->c8->Prop
 ek:b8->Option Addr->Hp->Prop:=λ_ _ _=>False
noncomputable abbrev aH(X:Cx)(e:Expr)(es:List Expr):Prop:=u4 (e::es) X.env=(false,eval e X.env)::u4 es X.env
noncomputable abbrev cT(X:Cx)(p:Pos)(es:List Expr):Prop:=(R1 p (u4 es X.env)).any (·.1)=false
noncomputable abbrev bA(x:Str):Prop:=(x==("__debug__" : Str))=false
noncomputable abbrev lT(X:Cx)(x:Str):Prop:=X.fn x=true\/X.env.scope.names.lookup x=some .local
noncomputable abbrev VC(X:Cx)(e:Expr):Prop:=∀x,foldedSetIterable e X.env x=pure x
noncomputable abbrev Bd(X:Cx)(o:Expr)(m:Str):Prop:=jz o m X.env (eval o X.env)=eval o X.env
noncomputable abbrev Dj(X:Cx)(o:Expr)(m:Str)(a:Pos)(es:List Expr)(p:Pos)(pl:Sem Bool):Prop:=eval (.Call (.Attribute o m a) es [] p) X.env=(do
 let ov <- eval o X.env
 lq a.atName
 let (f,first) <- holding [ov] (oZ ov m pl)
 callWith p f first (R1 p (u4 es X.env)) (lx p (lF [] X.env)))
noncomputable def N0(l:List Env):List Addr:=l.filterMap (·.frame)
noncomputable abbrev Cx.fs(X:Cx):List Addr:=N0 X.outer
noncomputable def Px(sc:E8)(x:Str):Prop:=sc.names.lookup x=some .local\/sc.names.lookup x=some .cell\/sc.names.lookup x=some .free
noncomputable def Loc(sc:E8)(x:Str):Prop:=sc.names.lookup x=some .local\/sc.names.lookup x=some .cell
noncomputable def Look(env:Env)(h:Heap)(m:Str->Option b8)(x:Str)(u:b8):Prop :=
 (env.kindOf x=some .local/\m x=some u)\/((env.kindOf x=some .cell\/env.kindOf x=some .free)/\∃c,env.cells.lookup x=some c/\h.IsCell c (some u))
structure Cx.Ok(X:Cx):Prop where
 mod:Mod X.K X.mg X.base
 kind:X.env.scope.kind=.function
 glob:X.env.globals=J5
 blt:X.env.builtins=builtinsNs
 above:X.K5.heap.objs.size<=X.env.locals
 inj:∀x y c,X.env.cells.lookup x=some c->X.env.cells.lookup y=some c->x=y
 has:∀x,(X.env.kindOf x=some .cell\/X.env.kindOf x=some .free)->∃c,X.env.cells.lookup x=some c
 wq:∀x c,X.fn x=true->X.env.cells.lookup x=some c->X.K5.heap.objs.size<=c
 hd:X.calm=true->X.A.handled=none
 frames:X.A.frames=some X.stack
 xK:X.stack=X.outer\/(X.stack=X.env::X.outer/\X.env.frame=some X.env.locals)
 CN:∀b∈X.ex,b≠X.env.locals/\∀x c,X.env.cells.lookup x=some c->c≠b
 bs:∀b o,X.base.get? b=some o->X.K5.heap.get? b=some o/\X.f6 b=none
 jW:X.base.objs.size<=X.K5.heap.objs.size
 mF:∀b o,X.base.get? b=some o->b∉X.ex
 oG:∀b∈X.ex,b∉X.fs
 dy:X.K5.heap.FunFrames X.base X.outer
 qF:∀b∈X.fs,X.f6 b=none
structure Inv(X:Cx)(pins:List (Addr×Obj))(σ:List (Option V))(H:Hp)(s:c8):Prop where
 ok:X.Ok
 os:s.os=X.K5.os
 bare:bT s.gens
 base:Un X.fs X.ex X.f6 H X.K5.heap s.heap
 loc:∃m,s.heap.Ns X.env.locals m/\∀(i:Nat) (x:Str) (v:V),X.N[i]? = some x->σ[i]? = some (some v)->Px X.env.scope x->∃u,RelV v u/\Look X.env s.heap m x u
 cell:∀x c,X.env.cells.lookup x=some c->∃v,s.heap.IsCell c v
 free:H X.env.locals=none
 X7:∀x c,X.env.cells.lookup x=some c->H c=none
 pin:∀p∈X.pn++pins,s.heap.get? p.1=some p.2/\H p.1=none/\p.1≠X.env.locals/\p.1∉X.fs/\∀v,p.2.data≠.cell v
 i9:U6 X.prog X.w H s.heap
 len:σ.length=X.N.length
section
variable{X:Cx}{pins:List (Addr×Obj)}{σ:List (Option V)}{H H':Hp}{s:c8}{h':Heap}
theorem Cx.Ok.XC(ok:X.Ok){b:Addr}{o:Obj}(e:X.base.get? b=some o):b∉X.fs:=λa=>by have:=(ok.dy.mem a).1;rw[e]at this;exact nS this
theorem Inv.bs(I:Inv X pins σ H s):∀b o,X.base.get? b=some o->s.heap.get? b=some o/\H b=none:=λb o e =>
 ⟨I.base.keep b o (I.ok.bs b o e).1 (I.ok.bs b o e).2 (I.ok.XC e) (I.ok.mF b o e),I.base.free b o (I.ok.bs b o e).1 (I.ok.bs b o e).2 (I.ok.mF b o e)⟩
theorem Inv.bk(I:Inv X pins σ H s):∀b o,X.base.get? b=some o->s.heap.get? b=some o:=λb o e=>(I.bs b o e).1
theorem Inv.mod(I:Inv X pins σ H s):Mod X.K X.mg X.base:=I.ok.mod
theorem Inv.L7(I:Inv X pins σ H s):X.K.In s.heap:=I.ok.mod.ow.keeps I.bk
theorem Inv.fr(I:Inv X pins σ H s):∃m,Fr X.base X.env.locals s.heap m :=
 let ⟨m,a,_⟩:=I.loc
 ⟨m,a,I.bk,t4 I.ok.jW I.ok.above⟩
theorem Inv.lt(I:Inv X pins σ H s):X.env.locals<(hz s):=let ⟨_,a,_⟩:=I.loc;a.lt
theorem Inv.sz(I:Inv X pins σ H s):X.K5.heap.objs.size<=(hz s):=t4 I.ok.above (zM I.lt)
theorem Inv.MT(I:Inv X pins σ H s){a:Addr}(h:(hz s)<=a):a∉X.fs:=λb=>by obtain⟨_,o,c,_⟩:=I.ok.dy.mem b;exact absurd (A1 (m6 c) (t4 I.sz h)) (S5 _)
theorem Inv.oJ(I:Inv X pins σ H s):∀x c,X.env.cells.lookup x=some c->c≠X.env.locals:=λx c e z=>by obtain⟨v,o,f,d⟩:=I.cell x c e;obtain⟨m,⟨i,g,h,a,b,_⟩,_⟩:=I.loc;rw[z,a]at f;cases f;rw[b]at d;cases d
theorem Inv.dy(I:Inv X pins σ H s):s.heap.FunFrames X.base X.outer:=by
 have all:∀l,(∀b∈N0 l,b∈X.fs)->X.K5.heap.FunFrames X.base l->s.heap.FunFrames X.base l:=by
  intro l;induction l with
  |nil=>intro _ _;trivial
  |cons j r i =>
   intro f n;obtain⟨p,⟨L,o,d,h,k,g⟩,m⟩:=n;have a:=f L (by delta N0;rw[uo,d];exact o2)
   obtain⟨q,e⟩:=I.base.slot L o k (I.ok.qF L a) a λz=>I.ok.oG L z a
   exact⟨p,⟨L,_,d,h,e,g⟩,i (λb c=>f b (by delta N0;rw[uo,d];exact o8 _ c)) m⟩
 exact all X.outer (λ_ c=>c) I.ok.dy
theorem Inv.stack(I:Inv X pins σ H s):s.heap.FunFrames X.base X.stack:=by
 rcases I.ok.xK with e|⟨e,a⟩
 . rw[e];exact I.dy
 . rw[e];obtain⟨m,b,_⟩:=I.loc;refine .cons (by rw[I.ok.kind];decide) a b ?_ I.dy
   exact AM (t4 I.ok.jW I.ok.above)
theorem Inv.nU(I:Inv X pins σ H s):∀b∈N0 X.stack,b∈X.env.locals::X.fs:=λb a=>by
 rcases I.ok.xK with e|⟨e,c⟩
 . rw[e]at a;exact o8 _ a
 . rw[e]at a;unfold N0 at a;rw[uo,c]at a;exact a
theorem Inv.kF(I:Inv X pins σ H s):∀b∈N0 X.stack,H b=none:=λb a=>by
 rcases List.mem_cons.mp (I.nU b a)with e|a
 . rw[e];exact I.free
 . obtain⟨_,o,c,_⟩:=I.ok.dy.mem a;exact I.base.free b o c (I.ok.qF b a) λz=>I.ok.oG b z a
theorem Inv.step{g':Array oX}{t':Nat}{d':Drawn}{ch:List Addr}(I:Inv X pins σ H s)(g:∀b∈ch,(b∈X.ex\/X.K5.heap.objs.size<=b)/\b≠X.env.locals/\(∀x c,X.env.cells.lookup x=some c->c≠b)/\∀p∈X.pn++pins,p.1≠b)(keep:∀b o,b≠X.env.locals->b∉X.fs->b∉ch->s.heap.get? b=some o->H b=none->h'.get? b=some o)(slot:∀b o,b≠X.env.locals->b∈X.fs->b∉ch->s.heap.get? b=some o->H b=none->∃L,h'.get? b=some {o with slots:=L})(free:∀b o,b∉ch->s.heap.get? b=some o->H b=none->H' b=none)(there:∀b o,b∉ch->s.heap.get? b=some o->∃D,h'.get? b=some D)(md:∀b xs,H b=some (.tup xs)->H' b=some (.tup xs))(kr:∀b o u,H b=some (.aG o u)->H' b=some (.aG o u))(mf:∀b E,H b=some (.tbl E)->∃more,H' b=some (.tbl (E++more)))(ns:∀m,s.heap.Ns X.env.locals m->h'.Ns X.env.locals m)(K:U6 X.prog X.w H' h')(Q:bT g'):
  Inv X pins σ H' {s with heap:=h',gens:=g',drawn:=d',toks:=t'}:=by
 have B:∀b o,X.K5.heap.get? b=some o->b≠X.env.locals:=λb o e=>J6 (A1 (m6 e) I.ok.above)
 have j:∀b o,X.K5.heap.get? b=some o->b∉X.ex->b∉ch:=λb o e a y=>by
  rcases(g b y).1 with z|z
  . exact a z
  . exact absurd (A1 (m6 e) z) (S5 _)
 have h:∀x c,X.env.cells.lookup x=some c->∀v,s.heap.IsCell c v->h'.IsCell c v:=λx c e v ⟨o,A,F⟩=>by
  have f:=λz=>(g c z).2.2.1 x c e rfl
  by_cases O:c∈X.fs
  . obtain⟨L,q⟩:=slot c o (I.oJ x c e) O f A (I.X7 x c e);exact⟨_,q,F⟩
  . exact⟨o,keep c o (I.oJ x c e) O f A (I.X7 x c e),F⟩
 refine⟨I.ok,I.os,Q,⟨λb o e n y a=>?_,λb o e n y a=>?_,λb o e n a=>?_,λb o e a=>?_,λb xs e=>md b xs (I.base.md b xs e),λb o xs e=>kr b o xs (I.base.kr b o xs e),λb E e=>?_⟩,?_,λx c e=>?_,?_,λx c e=>?_,λp N=>?_,K,I.len⟩
 . exact keep b o (B b o e) y (j b o e a) (I.base.keep b o e n y a) (I.base.free b o e n a)
 . obtain⟨L,t⟩:=I.base.slot b o e n y a;obtain⟨G,C⟩:=slot b _ (B b o e) y (j b o e a) t (I.base.free b o e n a);exact⟨G,C⟩
 . obtain⟨D,t⟩:=I.base.there b o e a;exact free b D (j b o e a) t (I.base.free b o e n a)
 . obtain⟨D,t⟩:=I.base.there b o e a;exact there b D (j b o e a) t
 . obtain⟨m1,t⟩:=I.base.mf b E e;obtain⟨T,C⟩:=mf b _ t;exact⟨m1++T,by rw[C,Array.append_assoc]⟩
 . obtain⟨m,S,P⟩:=I.loc;refine⟨m,ns m S,λi x v t C R=>?_⟩
   obtain⟨u,r,l⟩:=P i x v t C R;refine⟨u,r,?_⟩;rcases l with l|⟨k,c,e,z⟩
   . exact .inl l
   . exact .inr ⟨k,c,e,h x c e _ z⟩
 . obtain⟨v,z⟩:=I.cell x c e;exact⟨v,h x c e v z⟩
 . obtain⟨m,⟨o,_,_,A,_⟩,_⟩:=I.loc;exact free _ o (λz=>(g _ z).2.1 rfl) A I.free
 . obtain⟨v,o,A,F⟩:=I.cell x c e;exact free c o (λz=>(g c z).2.2.1 x c e rfl) A (I.X7 x c e)
 . obtain⟨e,n,ne,M,d⟩:=I.pin p N;have f:=λz=>(g p.1 z).2.2.2 p N rfl
   exact⟨keep p.1 p.2 ne M f e n,free p.1 p.2 f e n,ne,M,d⟩
theorem Inv.un{t':Nat}(I:Inv X pins σ H s)(u:Un X.fs [] H H' s.heap h')(c:U6 X.prog X.w H' h'):Inv X pins σ H' {s with heap:=h',toks:=t'}:=by
 obtain⟨m,⟨o,l,t,h,r⟩,_⟩:=id I.loc;obtain⟨p,k⟩:=u.any h I.free q5;exact I.step (ch:=[]) (λ_ z=>nomatch z) (λb o _ g _ e n=>u.keep b o e n g q5) (λb o _ g _ e n=>u.slot b o e n g q5) (λb o _ e n=>u.free b o e n q5) (λb o _ e=>u.there b o e q5) u.md u.kr u.mf (λq i=>by obtain⟨v,d,f,a,j⟩:=i;rw[h]at a;cases a;exact⟨_,d,f,k,j⟩) c I.bare
theorem Inv.call{g':Array oX}{t':Nat}{d':Drawn}{ch:List Addr}(I:Inv X pins σ H s)(u:Un (N0 X.stack) ch H H' s.heap h')(h:U6 X.prog X.w H' h')(v:bT g')(f:∀b∈ch,(b∈X.ex\/X.K5.heap.objs.size<=b)/\b≠X.env.locals/\(∀x c,X.env.cells.lookup x=some c->c≠b)/\∀p∈X.pn++pins,p.1≠b):
  Inv X pins σ H' {s with heap:=h',gens:=g',drawn:=d',toks:=t'}:=by
 obtain⟨m,⟨o,y,B,k,r⟩,_⟩:=id I.loc;obtain⟨A,g⟩:=u.any k I.free λz=>(f _ z).2.1 rfl
 exact I.step f (λb o g l a e n=>u.keep b o e n (λz=>(List.mem_cons.mp (I.nU b z)).elim g l) a) (λb o _ _ a e n=>u.any e n a) (λb o a e n=>u.free b o e n a) (λb o a e=>u.there b o e a) u.md u.kr u.mf (λC q=>by obtain⟨D,j,i,d,t⟩:=q;rw[k]at d;cases d;exact⟨_,j,i,g,t⟩) h v
theorem Inv.turned{t':Nat}{it:Addr}(I:Inv X pins σ H s)(k:∀b o,b≠it->s.heap.get? b=some o->h'.get? b=some o)(g:H it=none)(f:it≠X.env.locals)(y:it∈X.ex\/X.K5.heap.objs.size<=it)(j:∀x c,X.env.cells.lookup x=some c->c≠it)(l:∀p∈X.pn++pins,p.1≠it):Inv X pins σ H {s with heap:=h',toks:=t'}:=by
 have d:∀b u,H b=some u->b≠it:=λb u e z=>by rw[z,g]at e;exact nE e
 refine I.step (ch:=[it]) (λb A=>?_) (λb o _ _ a e _=>k b o (λz=>a (by simp[z])) e) (λb o _ _ a e _=>⟨o.slots,k b o (λz=>a (by simp[z])) e⟩) (λ_ _ _ _ n=>n)
  (λb o a e=>⟨o,k b o (λz=>a (by simp[z])) e⟩) (λ_ _ e=>e) (λ_ _ _ e=>e) (λb B e=>⟨#[],by rw[e];simp⟩) (λm w=>?_) (λb u e=>?_) I.bare
 . have e:b=it:=by simpa using A
   subst e;exact⟨y,f,j,l⟩
 . obtain⟨o,h,t,i,r⟩:=w;exact⟨o,h,t,k _ o (B3 f) i,r⟩
 . refine(I.i9 b u e).iE (λc v a q=>k c v ?_ q) (λ_ q=>q) λ_ _ q=>q
   rcases a with z|z
   . rw[z];exact d b u e
   . exact d c _ z
theorem Inv.tok(I:Inv X pins σ H s)(t:Nat):Inv X pins σ H {s with toks:=t}:=I.un Un.refl I.i9
theorem Inv.kept{t':Nat}(I:Inv X pins σ H s)(k:∀b u,s.heap.get? b=some u->h'.get? b=some u):Inv X pins σ H {s with heap:=h',toks:=t'}:=I.un (Un.kept k) (I.i9.kept k)
theorem Inv.laid{a:Addr}{o:HO}{t':Nat}(I:Inv X pins σ H s)(k:∀b u,s.heap.get? b=some u->h'.get? b=some u)(c:(hz s)<=a)(new:G9 X.prog X.w (upd H a o) h' a o):
  Inv X pins σ (upd H a o) {s with heap:=h',toks:=t'}:=I.un (Un.laid k c (I.i9.fresh c)) (I.i9.laid k c new)
theorem Inv.write{x e:Addr}{o:HO}{t':Nat}(I:Inv X pins σ H s)(mu:Jr (H x))(c:e=x\/H e=some (.own x))(k:∀b u,b≠e->s.heap.get? b=some u->h'.get? b=some u)(a:∃u,h'.get? e=some u)(new:G9 X.prog X.w (upd H x o) h' x o):Inv X pins σ (upd H x o) {s with heap:=h',toks:=t'}:=I.un (Un.write mu c k a) (I.i9.write mu c k a new)
theorem Inv.weak{a:List (Option V)}(I:Inv X pins σ H s)(g:a.length=σ.length)(w:∀(i:Nat) v,a[i]? = some (some v)->σ[i]? = some (some v)):Inv X pins a H s :=
 ⟨I.ok,I.os,I.bare,I.base,let ⟨m,c,b⟩:=I.loc;⟨m,c,λi x v e f d=>b i x v e (w i v f) d⟩,I.cell,I.free,I.X7,I.pin,I.i9,g.trans I.len⟩
theorem Inv.fD{a:List (Addr×Obj)}(I:Inv X pins σ H s)(h:∀p∈a,s.heap.get? p.1=some p.2/\H p.1=none/\p.1≠X.env.locals/\p.1∉X.fs/\∀v,p.2.data≠.cell v):Inv X a σ H s :=
 ⟨I.ok,I.os,I.bare,I.base,I.loc,I.cell,I.free,I.X7,λp b=>(List.mem_append.mp b).elim (λz=>I.pin p (ao _ z)) (h p),I.i9,I.len⟩
theorem rn{N:List Str}(d:N.Nodup){i j:Nat}{x:Str}(a:N[i]? = some x)(b:N[j]? = some x):i=j:=by obtain⟨g,c⟩:=List.getElem?_eq_some_iff.mp a;obtain⟨f,e⟩:=List.getElem?_eq_some_iff.mp b;exact(JD d).mp (c.trans e.symm)
theorem Ge{M:az}{A:j6}{E:b8->c8->Prop}{i:Nat}{x:Str}{v:V}{u:b8}{Q:Unit->c8->Prop}(I:Inv X pins σ H s)(hN:X.N.Nodup)(hi:X.N[i]? = some x)(hx:Loc X.env.scope x)(r:RelV v u)(h:∀s',Inv X pins (σ.set i (some v)) H s'->(∃a,jv a s.heap s'.heap/\(a=X.env.locals\/X.env.cells.lookup x=some a))->Q () s')(hf:autoParam (lT X x) W9):wpAny M A (storeName X.env x u) Q E s:=by
 obtain⟨m,hn,hl⟩:=id I.loc;have hcls:(X.env.scope.kind==.class||(X.env.scope.kind==.module&&X.env.locals != X.env.globals))=false:=by rw[I.ok.kind];rfl
 have hiσ:i<σ.length:=by rw[I.len];exact(List.getElem?_eq_some_iff.mp hi).1
 have oJ:=I.oJ;have tracked:∀{a:Addr} {h':Heap},(∃o,s.heap.get? a=some o/\H a=none)->jv a s.heap h'->U6 X.prog X.w H h':=λ{a h'} ha hs b ob e=>by
  obtain⟨_,_,hfree⟩:=ha;refine(I.i9 b ob e).iE (λc w' hc q=>(hs.2 c ?_).trans q) (λ_ q=>q) λ_ _ q=>q
  rintro rfl;rcases hc with rfl|hc
  . rw[hfree]at e;exact nE e
  . rw[hfree]at hc;exact nE hc
 rcases hx with hk|hk
 . refine wpAny_storeName_local hk hn (λh' hn' hs=>?_) hcls
   obtain⟨oL,_,_,hoL,_⟩:=id hn;refine h _ ⟨I.ok,I.os,I.bare,⟨λb o e n hb hx=>?_,λb o e n hb hx=>?_,I.base.free,λb o e hx=>?_,I.base.md,I.base.kr,I.base.mf⟩,⟨_,hn',λj y v' e1 e2 e3=>?_⟩,λy c e=>?_,I.free,I.X7,λp hp=>?_,tracked ⟨oL,hoL,I.free⟩ hs,by simpa using I.len⟩ ⟨_,hs,.inl rfl⟩
   . exact(hs.2 b (J6 (A1 (m6 e) I.ok.above))).trans (I.base.keep b o e n hb hx)
   . obtain⟨sl,e1⟩:=I.base.slot b o e n hb hx;exact⟨sl,(hs.2 b (J6 (A1 (m6 e) I.ok.above))).trans e1⟩
   . obtain⟨o',e1⟩:=I.base.there b o e hx;exact⟨o',(hs.2 b (J6 (A1 (m6 e) I.ok.above))).trans e1⟩
   . by_cases hj:j=i
     . subst hj;rw[hi]at e1;cases e1;rw[lS hiσ]at e2;cases e2;exact⟨u,r,.inl ⟨hk,by simp⟩⟩
     . rw[aU (B3 hj)]at e2;obtain⟨u',r',q⟩:=hl j y v' e1 e2 e3;refine⟨u',r',?_⟩;rcases q with ⟨k,e⟩|⟨k,c,e,z⟩
       . refine .inl ⟨k,?_⟩;have:y≠x:=λe=>hj (rn hN e1 (e▸hi))
         simp[this,e]
       . exact .inr ⟨k,c,e,z.sameBut hs (oJ y c e)⟩
   . obtain⟨w',z⟩:=I.cell y c e;exact⟨w',z.sameBut hs (oJ y c e)⟩
   . obtain⟨e,n,ne,nf,d⟩:=I.pin p hp;exact⟨(hs.2 p.1 ne).trans e,n,ne,nf,d⟩
 . have hfn:X.fn x=true:=by
     rcases hf with z|z
     . exact z
     . rw[z]at hk;cases hk
   obtain⟨c,hc⟩:=I.ok.has x (.inl hk);obtain⟨w',z⟩:=I.cell x c hc;refine wpAny_storeName_cell I.ok.kind hk hc z (λh' hc' hs=>?_)
   obtain⟨oc,hoc,hocd⟩:=id z;refine h {s with heap:=h'} ⟨I.ok,I.os,I.bare,⟨λb o e n hb hx=>?_,λb o e n hb hx=>?_,I.base.free,λb o e hx=>?_,I.base.md,I.base.kr,I.base.mf⟩,⟨m,hn.sameBut hs (B3 (oJ x c hc)),λj y v' e1 e2 e3=>?_⟩,λy c' e=>?_,I.free,I.X7,λp hp=>?_,tracked ⟨oc,hoc,I.X7 x c hc⟩ hs,by simpa using I.len⟩ ⟨c,hs,.inr hc⟩
   . exact(hs.2 b (J6 (A1 (m6 e) (I.ok.wq x c hfn hc)))).trans (I.base.keep b o e n hb hx)
   . obtain⟨sl,e1⟩:=I.base.slot b o e n hb hx;exact⟨sl,(hs.2 b (J6 (A1 (m6 e) (I.ok.wq x c hfn hc)))).trans e1⟩
   . obtain⟨o',e1⟩:=I.base.there b o e hx;exact⟨o',(hs.2 b (J6 (A1 (m6 e) (I.ok.wq x c hfn hc)))).trans e1⟩
   . by_cases hj:j=i
     . subst hj;rw[hi]at e1;cases e1;rw[lS hiσ]at e2;cases e2;exact⟨u,r,.inr ⟨.inl hk,c,hc,hc'⟩⟩
     . rw[aU (B3 hj)]at e2;obtain⟨u',r',q⟩:=hl j y v' e1 e2 e3;refine⟨u',r',?_⟩;rcases q with q|⟨k,c',e,z'⟩
       . exact .inl q
       . refine .inr ⟨k,c',e,z'.sameBut hs ?_⟩;rintro rfl;exact hj (rn hN e1 (I.ok.inj _ _ _ e hc▸hi))
   . by_cases hcc:c'=c
     . subst hcc;exact⟨_,hc'⟩
     . obtain⟨w2,z2⟩:=I.cell y c' e;exact⟨w2,z2.sameBut hs hcc⟩
   . obtain⟨e,n,ne,nf,d⟩:=I.pin p hp;refine⟨(hs.2 p.1 ?_).trans e,n,ne,nf,d⟩;intro q;rw[q,hoc]at e;exact d w' (by rw[<-(V6 e)];exact hocd)
theorem iC{M:az}{A:j6}{E:b8->c8->Prop}{i:Nat}{x:Str}{v:V}{u:b8}{Q:Unit->c8->Prop}(I:Inv X pins σ H s)(c:X.N.Nodup)(a:X.N[i]? = some x)(b:Loc X.env.scope x)(r:RelV v u)(h:∀s',Inv X pins (σ.set i (some v)) H s'->Q () s')(e:autoParam (lT X x) W9):wpAny M A (storeName X.env x u) Q E s :=
 Ge I c a b r (λs' d _=>h s' d) e
theorem Inv.xp{s':c8}{ch:List Addr}(I:Inv X pins σ H s)(f:s'.os=s.os)(u:Un (N0 X.stack) ch H H' s.heap s'.heap)(d:U6 X.prog X.w H' s'.heap)(e:bT s'.gens)(a:∀b∈ch,(b∈X.ex\/X.K5.heap.objs.size<=b)/\b≠X.env.locals/\(∀x c,X.env.cells.lookup x=some c->c≠b)/\∀p∈X.pn++pins,p.1≠b):Inv X pins σ H' s':=by obtain⟨j,h,i,g,k⟩:=s';subst f;exact I.call u d e a
end
noncomputable abbrev XK:=b8->Option Addr->Hp->Prop
noncomputable abbrev St:=List (Option V)
noncomputable abbrev VK:=V->Hp->Prop
noncomputable abbrev TE:=St->Hp->VK->Prop
noncomputable abbrev TT:=St->Hp->(Bool->Hp->Prop)->Prop
noncomputable abbrev TA:=St->Hp->(List V->Hp->Prop)->Prop
structure Ends where
 nx:St->Hp->Prop
 rt:VK
 bk:St->Hp->Prop:=λ_ _=>False
 ct:St->Hp->Prop:=λ_ _=>False
noncomputable abbrev TS:=Ends->St->Hp->Prop
noncomputable def EP(X:Cx)(pins:List (Addr×Obj))(σ:St)(Q:VK)(u:b8)(s':c8):Prop:=∃v H',Inv X pins σ H' s'/\RelV v u/\Q v H'
noncomputable def TP(X:Cx)(pins:List (Addr×Obj))(σ:St)(Q:Bool->Hp->Prop)(b:Bool)(s':c8):Prop:=∃H',Inv X pins σ H' s'/\Q b H'
noncomputable def AP(X:Cx)(pins:List (Addr×Obj))(σ:St)(Q:List V->Hp->Prop)(us:List b8)(s':c8):Prop:=∃vs H',Inv X pins σ H' s'/\Vals vs us/\Q vs H'
noncomputable def SP(X:Cx)(pins:List (Addr×Obj))(D:Ends)(f:Flow)(s':c8):Prop :=
 match f with
 | .next=>∃σ' H',Inv X pins σ' H' s'/\D.nx σ' H'
 | .brk=>∃σ' H',Inv X pins σ' H' s'/\D.bk σ' H'
 | .cont=>∃σ' H',Inv X pins σ' H' s'/\D.ct σ' H'
 | .ret u=>∃v σ' H',Inv X pins σ' H' s'/\RelV v u/\D.rt v H'
noncomputable def PE(X:Cx)(e:Expr)(t:TE):Prop :=
 ∀(pins:List (Addr×Obj)) (s:c8) (σ:St) (H:Hp) (Q:VK),Inv X pins σ H s->t σ H Q->wpAny (model X.prog X.w) X.A (eval e X.env) (EP X pins σ Q) X.xe s
noncomputable def PT(X:Cx)(e:Expr)(t:TT):Prop :=
 ∀(pins:List (Addr×Obj)) (s:c8) (σ:St) (H:Hp) (Q:Bool->Hp->Prop),Inv X pins σ H s->t σ H Q->wpAny (model X.prog X.w) X.A (isTrue e X.env (eval e X.env)) (TP X pins σ Q) X.xe s
noncomputable def PW(X:Cx)(e:Expr)(t:TT):Prop :=
 ∀(whole:Sem b8) (pins:List (Addr×Obj)) (s:c8) (σ:St) (H:Hp) (Q:Bool->Hp->Prop),Inv X pins σ H s->t σ H Q->wpAny (model X.prog X.w) X.A (isTrue e X.env whole) (TP X pins σ Q) X.xe s
theorem PW.pt{X:Cx}{e:Expr}{t:TT}(h:PW X e t):PT X e t:=h _
noncomputable def PA(X:Cx)(es:List Expr)(t:TA):Prop :=
 ∀(pos:Pos) (pins:List (Addr×Obj)) (s:c8) (σ:St) (H:Hp) (Q:List V->Hp->Prop),Inv X pins σ H s->t σ H Q->wpAny (model X.prog X.w) X.A (spliced (R1 pos (u4 es X.env))) (AP X pins σ Q) X.xe s
noncomputable def PS(X:Cx)(st:Stmt)(t:TS):Prop :=
 ∀(pins:List (Addr×Obj)) (s:c8) (σ:St) (H:Hp) (D:Ends),Inv X pins σ H s->t D σ H->wpAny (model X.prog X.w) X.A (exec st X.env) (SP X pins D) X.xe s
noncomputable def eO(X:Cx)(st:List Stmt)(t:TS):Prop :=
 ∀(pins:List (Addr×Obj)) (s:c8) (σ:St) (H:Hp) (D:Ends),Inv X pins σ H s->t D σ H->wpAny (model X.prog X.w) X.A (execs st X.env) (SP X pins D) X.xe s
theorem m4{b:Type}{t:Sem b}{Q c:b->c8->Prop}{M:az}{A:j6}{E:b8->c8->Prop}{s:c8}(h:wpAny M A t Q E s)(d:∀a s,Q a s->c a s):wpAny M A t c E s:=P1 h d λ_ _ x=>x
section
variable{X:Cx}
noncomputable def D4(i:Nat):TE:=λσ H Q=>∃v,σ[i]? = some (some v)/\Q v H
noncomputable def tC(v:V):TE:=λ_ H Q=>Q v H
theorem Uj{i:Nat}{x:Str}{pos:Pos}(p:X.N[i]? = some x)(o:Px X.env.scope x)(hd:autoParam (bA x) j9)(g:autoParam ((x==("__classdict__" : Str))=false) j9):PE X (.Name x pos) (D4 i):=by
 intro f s t H Q I h;obtain⟨v,e,h⟩:=h;obtain⟨m,k,q⟩:=I.loc;obtain⟨u,r,l⟩:=q i x v p e o;have d:EP X f t Q u s:=⟨v,H,I,r,h⟩;rcases l with ⟨b,n⟩|⟨b,c,j,a⟩
 . exact wpAny_Name (wpAny_loadName_local I.ok.kind b k n d) hd
 . rcases b with b|b
   . exact wpAny_Name (wpAny_loadName_cell I.ok.kind b j a d) hd
   . exact wpAny_Name (wpAny_loadName_free I.ok.kind b j a d g) hd
theorem Ur{i j pos}:PE X (.Constant (.int i) j pos) (tC (.int i)):=λ_ _ _ H _ I h=>wpAny_Constant_int ⟨.int i,H,I.tok _,⟨_,rfl⟩,h⟩
theorem Wq{b j pos}:PE X (.Constant (.bool b) j pos) (tC (.bl b)):=λ_ _ _ H _ I h=>Constant_bool ⟨.bl b,H,I,rfl,h⟩
theorem Up{j pos}:PE X (.Constant .none j pos) (tC .non):=λ_ _ _ H _ I h=>Constant_none ⟨.non,H,I,rfl,h⟩
theorem Ul{x j pos}:PE X (.Constant (.str x) j pos) (tC (.str x)):=λ_ _ _ H _ I h=>uk ⟨.str x,H,I.tok _,⟨_,rfl⟩,h⟩
noncomputable def Gl(X:Cx)(x:Str):Prop:=X.env.kindOf x=some .globalImplicit
theorem dN{E:b8->c8->Prop}{pins:List (Addr×Obj)}{s:c8}{a:St}{H:Hp}{x:Str}{u:b8}{pos:Pos}{Q:b8->c8->Prop}(I:Inv X pins a H s)(c:Gl X x)(b:X.mg x=some u)(h:Q u s)(hd:autoParam (bA x) j9):wpAny (model X.prog X.w) X.A (eval (.Name x pos) X.env) Q E s :=
 KU I.ok.kind c (Calls.loadGlobal_global (by rw[I.ok.glob];exact I.mod.glob.keeps I.bk) b h) hd
theorem kQ{E:b8->c8->Prop}{pins:List (Addr×Obj)}{s:c8}{d:St}{H:Hp}{x:Str}{u:b8}{pos:Pos}{Q:b8->c8->Prop}(I:Inv X pins d H s)(f:Gl X x)(a:X.mg x=none)(c:bW x=some u)(h:Q u s)(b:autoParam (x ≠ "__name__") j9)(hd:autoParam (bA x) j9):wpAny (model X.prog X.w) X.A (eval (.Name x pos) X.env) Q E s:=by obtain⟨i,g,e⟩:=I.mod.blt;exact KU I.ok.kind f (Calls.loadGlobal_builtin (by rw[I.ok.glob];exact I.mod.glob.keeps I.bk) a (by rw[I.ok.blt];exact g.keeps I.bk) ((e x b).trans c) h) hd
theorem Cc{x:Str}{v:V}{u:b8}{pos:Pos}(b:Gl X x)(a:X.mg x=some u)(r:RelV v u)(hd:autoParam (bA x) j9):PE X (.Name x pos) (tC v) :=
 λ_ _ _ H _ I h=>dN I b a ⟨v,H,I,r,h⟩ hd
theorem Rg{x:Str}{v:V}{u:b8}{pos:Pos}(c:Gl X x)(a:X.mg x=none)(d:bW x=some u)(r:RelV v u)(b:autoParam (x ≠ "__name__") j9)(hd:autoParam (bA x) j9):PE X (.Name x pos) (tC v) :=
 λ_ _ _ H _ I h=>kQ I c a d ⟨v,H,I,r,h⟩ b hd
variable{a b:Expr}{ta tb:TE}{pos:Pos}
noncomputable def PC(X:Cx)(op:aZ)(a b:Expr)(t:TE):Prop :=
 ∀(pins:List (Addr×Obj)) (s:c8) (σ:St) (H:Hp) (Q:VK),Inv X pins σ H s->t σ H Q ->
  wpAny (model X.prog X.w) X.A (eval a X.env) (λv s₁=>wpAny (model X.prog X.w) X.A (eval b X.env) (λu s₂=>wpAny (model X.prog X.w) X.A (C9 op v u) (EP X pins σ Q) X.xe s₂) X.xe s₁) X.xe s
theorem MU(b:Expr){op:aZ}(h:op≠.In)(a:op≠.NotIn):bX op b=false:=by
 have d:(op==CmpOp.In)=false:=by cases op<;>first|rfl|exact absurd rfl h
 have c:(op==CmpOp.NotIn)=false:=by cases op<;>first|rfl|exact absurd rfl a
 cases b<;>simp[bX,d,c]
noncomputable def tB(t:TE):TT:=λσ H Q=>t σ H λx H1=>∃c,x=.bl c/\Q c H1
theorem Ua{op:aZ}{t:TE}(h:PC X op a b t)(f:bX op b=false:=by first|exact MU _ v7 v7|rfl):PT X (.Compare a [op] [b] pos) (tB t):=by
 intro e s j H Q I g;refine Kw (m4 (h e s j H _ I g) λv r f=>m4 f λu p k=>m4 k λc o ⟨x,l,m,i,n⟩=>?_) f
 obtain⟨d,rfl,q⟩:=n;cases i;exact gL ⟨l,m,q⟩
theorem GH{e:Expr}{t:TE}(h:PE X e t)(f:autoParam (∀a,isTrue e X.env a=(do let v <- a;lq e.pos;holding [v] (truthy v))) lg):PT X e (tB t):=by
 intro b s i H Q I c;refine isTrue_plain (m4 (h b s i H _ I c) λv m ⟨x,j,k,g,l⟩=>?_) (f _)
 obtain⟨d,rfl,q⟩:=l;cases g;exact gL ⟨j,k,q⟩
variable{tA tB':TT}{rest:List Expr}
noncomputable def LG(t u:TT):TT:=λσ H Q=>t σ H λc H1=>if c=true then u σ H1 Q else Q false H1
noncomputable def SW(t u:TT):TT:=λσ H Q=>t σ H λc H1=>if c=true then Q true H1 else u σ H1 Q
noncomputable def DC(t:TT):TT:=λσ H Q=>t σ H λc H1=>Q (!c) H1
theorem pw_and1(f:PT X a tA):PW X (.BoolOp .And [a] pos) tA:=by
 intro wh b s d H Q I h;refine isTrue_and (m4 (f b s d H Q I h) λc g e=>?_)
 cases c with
 |true=>exact isTrue_and_nil e
 |false=>exact e
theorem pw_or1(f:PT X a tA):PW X (.BoolOp .Or [a] pos) tA:=by
 intro wh b s d H Q I h;refine isTrue_or (m4 (f b s d H Q I h) λc g e=>?_)
 cases c with
 |false=>exact isTrue_or_nil e
 |true=>exact e
theorem pw_and(l:PT X a tA)(k:PW X (.BoolOp .And (b::rest) pos) tB'):PW X (.BoolOp .And (a::b::rest) pos) (LG tA tB'):=by
 intro wh d s e H Q I h;refine isTrue_and (m4 (l d s e H _ I h) λc j ⟨f,g,i⟩=>?_)
 cases c with
 |true=>exact k wh d j e f Q g i
 |false=>exact⟨f,g,i⟩
theorem pw_or(l:PT X a tA)(k:PW X (.BoolOp .Or (b::rest) pos) tB'):PW X (.BoolOp .Or (a::b::rest) pos) (SW tA tB'):=by
 intro wh d s e H Q I h;refine isTrue_or (m4 (l d s e H _ I h) λc j ⟨f,g,i⟩=>?_)
 cases c with
 |true=>exact⟨f,g,i⟩
 |false=>exact k wh d j e f Q g i
theorem GI(f:PT X a tA):PT X (.UnaryOp .Not a pos) (DC tA):=by exact λb s d H Q I h=>isTrue_not (f b s d H (λc e=>Q (!c) e) I h)
noncomputable def OH(ta tb:TE):TE:=λσ H Q=>ta σ H λx H1=>∃c,x=.bl c/\if c=true then tb σ H1 Q else Q (.bl false) H1
noncomputable def SV(ta tb:TE):TE:=λσ H Q=>ta σ H λx H1=>∃c,x=.bl c/\if c=true then Q (.bl true) H1 else tb σ H1 Q
noncomputable def OC(ta:TE):TE:=λσ H Q=>ta σ H λx H1=>∃c,x=.bl c/\Q (.bl (!c)) H1
theorem Um{op}{t:TE}(h:PE X a t):PE X (.BoolOp op [a] pos) t:=λb s c H Q I d=>BoolOp_one (h b s c H Q I d)
theorem Ut(m:PE X a ta)(l:PE X (.BoolOp .And (b::rest) pos) tb):PE X (.BoolOp .And (a::b::rest) pos) (OH ta tb):=by
 intro d s f H Q I h;refine BoolOp_and (m4 (m d s f H _ I h) λv k ⟨x,g,i,j,e⟩=>?_)
 obtain⟨c,rfl,e⟩:=e;cases j;refine gL ?_;cases c with
 |true=>exact l d k f g Q i e
 |false=>exact⟨.bl false,g,i,rfl,e⟩
theorem Wm(m:PE X a ta)(l:PE X (.BoolOp .Or (b::rest) pos) tb):PE X (.BoolOp .Or (a::b::rest) pos) (SV ta tb):=by
 intro d s f H Q I h;refine BoolOp_or (m4 (m d s f H _ I h) λv k ⟨x,g,i,j,e⟩=>?_)
 obtain⟨c,rfl,e⟩:=e;cases j;refine gL ?_;cases c with
 |false=>exact l d k f g Q i e
 |true=>exact⟨.bl true,g,i,rfl,e⟩
theorem Uo(j:PE X a ta):PE X (.UnaryOp .Not a pos) (OC ta):=by
 intro b s f H Q I h;refine UnaryOp_ (m4 (j b s f H _ I h) λv k ⟨x,g,i,e,d⟩=>?_)
 obtain⟨c,rfl,d⟩:=d;cases e;exact not_of (gL ⟨.bl (!c),g,i,rfl,d⟩)
noncomputable def WU(t:TT)(ta tb:TE):TE:=λσ H Q=>t σ H λc H1=>if c=true then ta σ H1 Q else tb σ H1 Q
theorem MG{c:Expr}(l:PT X c tA)(n:PE X a ta)(m:PE X b tb):PE X (.IfExp c a b pos) (WU tA ta tb):=by
 intro e s f H Q I h;refine wpAny_IfExp (m4 (l e s f H _ I h) λd g ⟨i,j,k⟩=>?_)
 cases d with
 |true=>exact n e g f i Q j k
 |false=>exact m e g f i Q j k
end
noncomputable def F3(K:c9)(H:Hp)(a:Addr)(xs:List V):Prop :=
 Rd H a (.lst xs) \/
  ∃(o:Obj) (its:Array b8) (n:Nat),K.lookup a=some o/\o.cls=.type "list"/\o.dict=none/\o.data=.seq its n/\its.size<=j8/\Vals xs its.toList
noncomputable def P0(K:c9)(H:Hp)(a:Addr)(xs:List V):Prop :=
 Rd H a (.tup xs) \/
  ∃(o:Obj) (its:Array b8) (n:Nat),K.lookup a=some o/\o.cls=.type "tuple"/\o.data=.seq its n/\its.size<=j8/\Vals xs its.toList
noncomputable def XJ:b8->Option V
 | .none=>some .non
 | .bool b=>some (.bl b)
 | .int i _=>some (.int i)
 | .str x _=>some (.str x)
 | .bytes b _=>some (.byt b)
 | .float b _=>some (.flt b)
 | .ref a=>some (.ref a)
 | .type n=>some (.ty n)
 |_=>none
theorem RelV.abs{x:V}{u:b8}(r:RelV x u):XJ u=some x:=by
 cases x with
 |non=>cases r;rfl
 |bl _=>cases r;rfl
 |int _=>obtain⟨t,rfl⟩:=r;rfl
 |str _=>obtain⟨t,rfl⟩:=r;rfl
 |byt _=>obtain⟨t,rfl⟩:=r;rfl
 |flt _=>obtain⟨t,rfl⟩:=r;rfl
 |ref _=>cases r;rfl
 |ty _=>cases r;rfl
theorem RelV.inj{x y:V}{u:b8}(r:RelV x u)(q:RelV y u):x=y:=V6 (r.abs.symm.trans q.abs)
theorem Vals.inj{xs ys:List V}{us:List b8}(h:Vals xs us):Vals ys us->xs=ys:=by
 induction h generalizing ys with
 |nil=>intro k;cases k;rfl
 |cons r t i=>intro k;cases k with
  |cons q s=>rw[r.inj q,i s]
section
variable{X:Cx}{pins:List (Addr×Obj)}{σ:St}{H:Hp}{s:c8}{a:Addr}{xs ys:List V}
theorem F3.of{K:c9}(h:H a=some (.lst xs)):F3 K H a xs:=.inl (.inl h)
theorem P0.of{K:c9}(h:H a=some (.tup xs)):P0 K H a xs:=.inl (.inl h)
theorem Inv.list(I:Inv X pins σ H s)(h:F3 X.K H a xs):∃b:List b8,Vals xs b/\PlainL s.heap a b.toArray/\xs.length<=j8:=by
 rcases h with h|⟨o,b,n,g,f,c,d,i,r⟩
 . obtain⟨z,b,n,r,e⟩:=h.ok I.i9;exact⟨b,r,⟨_,n,e,rfl,rfl,rfl⟩,z⟩
 . refine⟨b.toList,r,⟨o,n,I.L7 a o g,f,c,by simpa using d⟩,?_⟩
   have e:=r.length;simp only[AK]at e;simp[*]
theorem Inv.tuple(I:Inv X pins σ H s)(h:P0 X.K H a xs):∃b:List b8,Vals xs b/\IsTup s.heap a b.toArray/\xs.length<=j8:=by
 rcases h with h|⟨o,b,n,f,d,c,g,r⟩
 . obtain⟨z,b,r,p⟩:=h.ok I.i9;exact⟨b,r,p,z⟩
 . refine⟨b.toList,r,⟨o,I.L7 a o f,d,n,by simpa using c⟩,?_⟩
   have e:=r.length;simp only[AK]at e;simp[*]
theorem Inv.yG(I:Inv X pins σ H s)(h:F3 X.K H a xs)(h':F3 X.K H a ys):xs=ys:=by
 obtain⟨c,r,⟨o,n,e,_,_,d⟩,_⟩:=I.list h;obtain⟨b,i,⟨k,j,g,_,_,f⟩,_⟩:=I.list h';rw[e]at g;cases g;rw[d]at f;injection f with d1 _
 have:c=b:=by simpa using m5 Array.toList d1
 subst this;exact r.inj i
theorem Inv.vx(I:Inv X pins σ H s)(h:P0 X.K H a xs)(h':P0 X.K H a ys):xs=ys:=by
 obtain⟨c,r,⟨o,e,_,n,d⟩,_⟩:=I.tuple h;obtain⟨b,i,⟨k,g,_,j,f⟩,_⟩:=I.tuple h';rw[e]at g;cases g;rw[d]at f;injection f with d1 _
 have:c=b:=by simpa using m5 Array.toList d1
 subst this;exact r.inj i
end
noncomputable abbrev Cx.kj(X:Cx)(E:b8->c8->Prop):Cx:={X with xe:=E}
noncomputable abbrev Cx.sv(X:Cx):Cx:=X.kj λ_ _=>False
theorem Cx.Ok.kj{X:Cx}(ok:X.Ok)(E:b8->c8->Prop):(X.kj E).Ok :=
 ⟨ok.mod,ok.kind,ok.glob,ok.blt,ok.above,ok.inj,ok.has,ok.wq,ok.hd,ok.frames,ok.xK,ok.CN,ok.bs,ok.jW,ok.mF,ok.oG,ok.dy,ok.qF⟩
theorem Cx.Ok.gh{X:Cx}{E:b8->c8->Prop}(ok:(X.kj E).Ok):X.Ok :=
 ⟨ok.mod,ok.kind,ok.glob,ok.blt,ok.above,ok.inj,ok.has,ok.wq,ok.hd,ok.frames,ok.xK,ok.CN,ok.bs,ok.jW,ok.mF,ok.oG,ok.dy,ok.qF⟩
section
variable{X:Cx}{pins:List (Addr×Obj)}{σ:St}{H:Hp}{s:c8}{E:b8->c8->Prop}
theorem Inv.kj(I:Inv X pins σ H s)(E:b8->c8->Prop):Inv (X.kj E) pins σ H s:=⟨I.ok.kj E,I.os,I.bare,I.base,I.loc,I.cell,I.free,I.X7,I.pin,I.i9,I.len⟩
theorem Inv.gh(I:Inv (X.kj E) pins σ H s):Inv X pins σ H s:=⟨I.ok.gh,I.os,I.bare,I.base,I.loc,I.cell,I.free,I.X7,I.pin,I.i9,I.len⟩
theorem SP.gh{D:Ends}{f:Flow}{s':c8}(h:SP (X.kj E) pins D f s'):SP X pins D f s':=by
 cases f with
 |next=>obtain⟨a,b,I,q⟩:=h;exact⟨a,b,I.gh,q⟩
 |brk=>obtain⟨a,b,I,q⟩:=h;exact⟨a,b,I.gh,q⟩
 |cont=>obtain⟨a,b,I,q⟩:=h;exact⟨a,b,I.gh,q⟩
 |ret u=>obtain⟨v,a,b,I,r,q⟩:=h;exact⟨v,a,b,I.gh,r,q⟩
theorem eO.sv{b:List Stmt}{t:TS}(h:eO X.sv b t):eO X b t:=λa s c H D I d =>
 P1 (h a s c H D (I.kj _) d) (λ_ _ q=>q.gh) λ_ _ z=>M9 z
end
section
variable{X:Cx}{st:Stmt}{rest:List Stmt}{t u:TS}{e:Expr}{te:TE}{pos:Pos}
noncomputable def DE:TS:=λD σ H=>D.nx σ H
noncomputable def SU(t u:TS):TS:=λD σ H=>t {D with nx:=u D} σ H
theorem BZ:eO X [] DE:=λ_ _ a H _ I h=>gH ⟨a,H,I,h⟩
theorem mx(i:PS X st t)(d:eO X rest u):eO X (st::rest) (SU t u):=by
 intro a s c H D I h;refine pF (m4 (i a s c H {D with nx:=u D} I h) λf g q=>?_)
 cases f with
 |next =>
  obtain⟨b,j,e,q⟩:=q;exact d a g b j D e q
 |ret v=>exact q
 |brk=>exact q
 |cont=>exact q
theorem qb(c:PS X st t):eO X [st] t:=by
 intro a s b H D I h;refine pF (m4 (c a s b H D I h) λf d q=>?_)
 cases f with
 |next=>exact gH q
 |ret v=>exact q
 |brk=>exact q
 |cont=>exact q
theorem Inv.quiet{pins:List (Addr×Obj)}{a:St}{H:Hp}{s:c8}(I:Inv X pins a H s):interactive X.env=false:=by simp[interactive,I.ok.kind]
noncomputable def pV(te:TE):TS:=λD σ H=>te σ H λ_ H1=>D.nx σ H1
theorem dI(c:PE X e te)(hs:autoParam (N8 e none pos.line X.env=pure false) e8):PS X (.Expr e pos) (pV te):=by exact λa s b H D I h=>wpAny_Expr_any (m4 (c a s b H _ I h) λv j ⟨x,d,f,i,g⟩=>⟨b,d,f,g⟩) I.quiet hs
noncomputable def nR(te:TE):TS:=λD σ H=>te σ H D.rt
theorem kL(f:PE X e te):PS X (.Return (some e) pos) (nR te):=by exact λa s b H D I h=>wpAny_Return_some (m4 (f a s b H _ I h) λv j ⟨x,c,d,i,g⟩=>⟨x,b,c,d,i,g⟩)
noncomputable def Ly(c:TT)(t u:TS):TS:=λD σ H=>c σ H λb H1=>if b=true then t D σ H1 else u D σ H1
theorem OQ{c:Expr}{a b:List Stmt}{l:TT}(m:PT X c l)(o:eO X a t)(n:eO X b u):PS X (.If c a b pos) (Ly l t u):=by
 intro e s f H D I h;refine wpAny_If (m4 (m e s f H _ I h) λd g ⟨i,j,k⟩=>?_)
 cases d with
 |true=>exact o e g f i D j k
 |false=>exact n e g f i D j k
noncomputable def rT:TS:=λ_ _ _=>False
theorem Mv:PS X st rT:=λ_ _ _ _ _ _ h=>h.elim
theorem GU{a:List Stmt}:eO X a rT:=λ_ _ _ _ _ _ h=>h.elim
end
noncomputable abbrev TG:=V->St->Hp->(St->Hp->Prop)->Prop
noncomputable abbrev lj:=List V->St->Hp->(St->Hp->Prop)->Prop
noncomputable def PG(X:Cx)(target:Expr)(t:TG):Prop :=
 ∀(pins:List (Addr×Obj)) (s:c8) (σ:St) (H:Hp) (v:V) (u:b8) (Q:St->Hp->Prop),Inv X pins σ H s->RelV v u->t v σ H Q ->
  wpAny (model X.prog X.w) X.A (assign target X.env u) (λ_ s'=>∃σ' H',Inv X pins σ' H' s'/\Q σ' H') X.xe s
noncomputable def Jq(X:Cx)(ts:List Expr)(t:lj):Prop :=
 ∀(pins:List (Addr×Obj)) (s:c8) (σ:St) (H:Hp) (vs:List V) (us:List b8) (Q:St->Hp->Prop),Inv X pins σ H s->Vals vs us->t vs σ H Q ->
  wpAny (model X.prog X.w) X.A (assignInOrder ((pb ts X.env).map (·.2)) us) (λ_ s'=>∃σ' H',Inv X pins σ' H' s'/\Q σ' H') X.xe s
section
variable{X:Cx}{pos:Pos}
noncomputable def X6(i:Nat):TG:=λv σ H Q=>Q (σ.set i (some v)) H
theorem Ca{i:Nat}{x:Str}(d:X.N.Nodup)(b:X.N[i]? = some x)(c:Loc X.env.scope x)(f:autoParam (lT X x) W9):PG X (.Name x pos) (X6 i):=by exact λa s g H v u Q I r h=>wpAny_assign_Name (iC I d b c r (λj e=>⟨_,H,e,h⟩) f)
noncomputable def ER:lj:=λvs σ H Q=>vs=[]/\Q σ H
noncomputable def qj(t:TG)(u:lj):lj:=λvs σ H Q=>∃v r,vs=v::r/\t v σ H λσ' H'=>u r σ' H' Q
theorem QY:Jq X [] ER:=by intro a s b H d c Q I r h;obtain⟨e,h⟩:=h;subst e;cases r;exact assignInOrder_nil ⟨b,H,I,h⟩
theorem ME{e:Expr}{es:List Expr}{t:TG}{u:lj}(i:PG X e t)(d:Jq X es u)(hs:autoParam ((pb (e::es) X.env).map (·.2)=assign e X.env::(pb es X.env).map (·.2)) e8):Jq X (e::es) (qj t u):=by
 intro a s f H o p Q I r h;obtain⟨v,n,j,h⟩:=h;subst j;cases r with
 |cons r c =>
  rw[hs];refine assignInOrder_cons (m4 (i a s f H _ _ _ I r h) λ_ g ⟨b,k,l,m⟩=>?_)
  exact d a g b k _ _ Q l c m
noncomputable def yU(K:c9)(n:Nat)(t:lj):TG:=λv σ H Q=>∃a xs,v=.ref a/\P0 K H a xs/\xs.length=n/\t xs σ H Q
theorem Ui{es:List Expr}{k:Nat}{t:lj}{n:Nat}(z:X.calm=true)(h:Jq X es t)(j:autoParam ((pb es X.env).length=n) e8)(d:autoParam ((pb es X.env).findIdx? (·.1)=none) e8):PG X (.Tuple es k pos) (yU X.K n t):=by
 intro c s g H v u Q I r f;obtain⟨a,x,y,hq,p,f⟩:=f;subst y;cases r;obtain⟨A,i,l,B⟩:=I.tuple hq;refine assign_Tuple_tuple (I.ok.hd z) l (by simp[j,<-p,i.length]) d λw m=>?_
 have q:Inv X c g H {s with heap:=w}:=I.kept λb o e=>m b o (J6 (m6 e)) e
 exact h c _ g H x _ Q q (by simpa using i) f
noncomputable def mh(te:TE)(g:TG):TS:=λD σ H=>te σ H λx H1=>g x σ H1 D.nx
theorem sf{i:Nat}{x:Str}{e:Expr}{te:TE}{a:Pos}(g:X.N.Nodup)(c:X.N[i]? = some x)(f:Loc X.env.scope x)(d:PE X e te)(hs:autoParam (N8 e (some (.Name x a)) pos.line X.env=pure false) e8)(n:autoParam (lT X x) W9):
  PS X (.Assign [.Name x a] e pos) (mh te (X6 i)):=by
 intro b s l H D I h;refine Aw (m4 (d b s l H _ I h) λv r ⟨y,m,o,k,p⟩=>?_) hs
 exact iC o g c f k (λq j=>⟨_,m,j,p⟩) n
end
section
variable{X:Cx}{pos:Pos}
noncomputable def FR(c:TT)(tb:TS):TS:=λD σ H=>∃W:Nat->St->Hp->Prop,(∃m,W m σ H)/\∀m σ H,W m σ H ->
 c σ H λb H1=>if b=true then ∃N:St->Hp->Prop,(∀σ' H',N σ' H'->∃m',m'<m/\W m' σ' H')/\tb {D with nx:=N,ct:=N,bk:=D.nx} σ H1 else D.nx σ H1
theorem Mu{c:Expr}{g:List Stmt}{B:TT}{x:TS}(t:sW (model X.prog X.w) X.A X.env X.xe)(P:PT X c B)(Q:eO X g x):PS X (.While c g [] pos) (FR B x):=by
 intro d s E H D I h;obtain⟨W,⟨m0,F⟩,turn⟩:=h;refine wpAny_While (codeAny_whileLoop (λn O=>∃i C,Inv X d i C O/\W n i C) ?_ m0 ⟨E,H,I,F⟩)
 rintro n G ⟨e,z,K,L⟩;refine jC t (m4 (P d G e z _ K (turn n e z L)) λb M ⟨u,r,q2⟩=>?_)
 cases b with
 |true =>
  obtain⟨N,y,q2⟩:=q2;refine jC t (m4 (Q d M e u _ r q2) λf R k=>?_)
  cases f with
  |next =>
   obtain⟨a,j,q,l⟩:=k;obtain⟨p,o,m⟩:=y a j l;exact⟨p,o,a,j,q,m⟩
  |cont =>
   obtain⟨a,j,q,l⟩:=k;obtain⟨p,o,m⟩:=y a j l;exact⟨p,o,a,j,q,m⟩
  |brk=>exact k
  |ret v=>exact k
 |false =>
  exact gH ⟨e,u,r,q2⟩
end
structure It where
 go:Nat->Hp->Prop
 Fx:Nat->Hp->V->Hp->Prop
 stop:Nat->Hp->Prop
noncomputable def hI(X:Cx)(pins:List (Addr×Obj))(H:Hp)(b:Addr):Prop :=
 H b=none/\b≠X.env.locals/\b∉X.fs/\(b∈X.ex\/X.K5.heap.objs.size<=b)/\(∀x c,X.env.cells.lookup x=some c->c≠b)/\∀p∈X.pn++pins,p.1≠b
theorem Inv.oD{X:Cx}{pins:List (Addr×Obj)}{d:St}{H H':Hp}{s:c8}{b:Addr}(I:Inv X pins d H s)(a:(hz s)<=b)(f:H' b=none):hI X pins H' b:=by
 refine⟨f,cF (A1 I.lt a),I.MT a,.inr (t4 I.sz a),λx c e z=>?_,λp g z=>?_⟩
 . obtain⟨v,q⟩:=I.cell x c e;exact absurd (A1 q.lt (by rw[z];exact a)) (S5 _)
 . exact absurd (A1 (m6 (I.pin p g).1) (by rw[z];exact a)) (S5 _)
structure Turn(P:j3)(w:i7)(K:c9)(tg:Expr)(J:It)(fp:List Addr)(it:Addr)(tn:Nat->Heap->Prop):Prop where
 mem:it∈fp
 obj:∀i h,tn i h->∀b∈fp,∃o,h.get? b=some o/\∀v,o.data≠.cell v
 keep:∀i h h',tn i h->(∀b∈fp,∀o,h.get? b=some o->h'.get? b=some o)->tn i h'
 item:∀(X:Cx),X.prog=P->X.w=w->X.K=K->X.calm=true->∀(i:Nat) (pins:List (Addr×Obj)) (s:c8) (σ:St) (H:Hp) (E:b8->c8->Prop),Inv X pins σ H s->(∀b∈fp,hI X pins H b)->tn i s.heap->J.go i H ->
  wpAny (model P w) X.A (pyNext (.ref it)) (λr s1=>∃u,r=some u /\
   wpAny (model P w) X.A (tV tg (.ref it) u) (λ_ s2=>∃x H',Inv X pins σ H' s2/\RelV x u/\J.Fx i H x H'/\tn (i+1) s2.heap/\∀b∈fp,H' b=none) E s1) E s
 done:∀(X:Cx),X.prog=P->X.w=w->X.K=K->X.calm=true->∀(i:Nat) (pins:List (Addr×Obj)) (s:c8) (σ:St) (H:Hp) (E:b8->c8->Prop),Inv X pins σ H s->(∀b∈fp,hI X pins H b)->tn i s.heap->J.stop i H ->
  wpAny (model P w) X.A (pyNext (.ref it)) (λr s1=>r=none/\Inv X pins σ H s1) E s
 self:∀(A:j6) (i:Nat) (s:c8) (Q:b8->c8->Prop) (E:b8->c8->Prop),tn i s.heap->Q (.ref it) s->wpAny (model P w) A (pyIter (.ref it)) Q E s
noncomputable abbrev TI:=St->Hp->(It->Hp->Prop)->Prop
noncomputable def Xm(X:Cx)(pins:List (Addr×Obj))(σ:St)(tg:Expr)(R:It->Hp->Prop)(itv:b8)(s2:c8):Prop :=
 ∃(it:Addr) (fp:List Addr) (tn:Nat->Heap->Prop) (J:It) (H':Hp),itv=.ref it/\Inv X pins σ H' s2/\Turn X.prog X.w X.K tg J fp it tn/\tn 0 s2.heap/\(∀b∈fp,hI X pins H' b)/\R J H'
noncomputable def PI(X:Cx)(tg iter:Expr)(wi:TI):Prop :=
 ∀(pins:List (Addr×Obj)) (s:c8) (σ:St) (H:Hp) (R:It->Hp->Prop),Inv X pins σ H s->wi σ H R ->
  wpAny (model X.prog X.w) X.A (eval iter X.env) (λv s1=>wpAny (model X.prog X.w) X.A (pyIter v) (Xm X pins σ tg R) X.xe s1) X.xe s
theorem xi{M:az}{A:j6}{E:b8->c8->Prop}{s:c8}{b:Expr}{it:Addr}{u:b8}{o:Obj}{n:String}{vs:Array b8}{Q:Unit->c8->Prop}(d:s.heap.get? it=some o)(e:o.cls=.type n)(hd:o.data=.fields vs)(c:["enumerate","zip","dict_itemiterator","dict_reverseitemiterator","odict_iterator","itertools.zip_longest","itertools.pairwise"].contains n=false)(a:Q () s):wpAny M A (tV b (.ref it) u) Q E s:=by
 cases b<;>first
  |exact j4 a
  |(cases u<;>first
    |exact j4 a
    | (refine d8 (wpAny_load d ?_)
       rw[e,hd];show wpAny M A (if (["enumerate","zip","dict_itemiterator","dict_reverseitemiterator","odict_iterator","itertools.zip_longest","itertools.pairwise"].contains n&&vs[0]?==some (P4 _))=true then _ else _) Q E s
       rw[e7 (by intro h;rw[c,tR]at h;exact nT h)]
       exact j4 a))
noncomputable def Xp(K:c9)(a:Addr):It :=
 ⟨λi H=>∃xs x,F3 K H a xs/\xs[i]? = some x,λi H x H'=>H'=H/\∀xs,F3 K H a xs->xs[i]? = some x,λi H=>∃xs,F3 K H a xs/\xs.length<=i⟩
noncomputable def Xo(K:c9)(a:Addr):It :=
 ⟨λi H=>∃xs x,P0 K H a xs/\xs[i]? = some x,λi H x H'=>H'=H/\∀xs,P0 K H a xs->xs[i]? = some x,λi H=>∃xs,P0 K H a xs/\xs.length<=i⟩
noncomputable def PB(lo:Int)(n:Nat):It:=⟨λi _=>i<n,λi H x H'=>H'=H/\x=.int (lo+i),λi _=>n<=i⟩
theorem FJ{P:j3}{w:i7}{K:c9}{Z:Expr}(a it:Addr):Turn P w K Z (Xp K a) [it] it (λi h=>h.IsListIter it a i) where
 mem:=u3
 obj:=λi h f b j=>by
  have e:b=it:=by simpa using j
  subst e;obtain⟨o,e,c,d⟩:=f;exact⟨o,e,λv z=>by rw[d]at z;cases z⟩
 keep:=λi h C f k=>f.at λo e=>k it u3 o e
 item:=by
  intro X n B t O i g s N H E I m f G;subst n B t;obtain⟨xs,x,hq,q⟩:=G;obtain⟨L,F,p,Q⟩:=I.list hq;obtain⟨u,Y,T⟩:=F.get q;obtain⟨y,M,f2,D,r,A⟩:=m it u3;refine wpAny_pyNext_list_item f p.isList (by simpa using Y) λC l R=>?_
  have S:Inv X g N H {s with heap:=C}:=I.turned (λb o j e=>(R.2 b j).trans e) y M D r A
  obtain⟨o,e,c,d⟩:=id l;exact⟨u,rfl,xi e c d v7 ⟨x,H,S,T,⟨rfl,λys hy=>by rw[I.yG hy hq];exact q⟩,l,λb j=>(m b j).1⟩⟩
 done:=by intro X n B t O i g s N H E I m f G;subst n B t;obtain⟨xs,hq,q⟩:=G;obtain⟨L,F,p,Q⟩:=I.list hq;obtain⟨y,M,f2,D,r,A⟩:=m it u3;have:=F.length;exact wpAny_pyNext_list_end (I.ok.hd O) f p.isList (by simp;simp_all) λC V=>⟨rfl,I.turned (λb o j e=>V b o j e) y M D r A⟩
 self:=λ_ _ _ _ _ f h=>wpAny_pyIter_listiter f h
theorem Dx{P:j3}{w:i7}{K:c9}{Z:Expr}(a it:Addr):Turn P w K Z (Xo K a) [it] it (λi h=>h.IsTupleIter it a i) where
 mem:=u3
 obj:=λi h f b j=>by
  have e:b=it:=by simpa using j
  subst e;obtain⟨o,e,c,d⟩:=f;exact⟨o,e,λv z=>by rw[d]at z;cases z⟩
 keep:=λi h D f k=>f.at λo e=>k it u3 o e
 item:=by
  intro X q C y O i g s N H E I n f L;subst q C y;obtain⟨xs,x,hq,r⟩:=L;obtain⟨l,G,p,Q⟩:=I.tuple hq;obtain⟨u,Y,T⟩:=G.get r;obtain⟨A,M,f2,F,t,B⟩:=n it u3;refine wpAny_pyNext_tuple_item f (show s.heap.IsTuple a l.toArray from p) (by simpa using Y) λD m R=>?_
  have S:Inv X g N H {s with heap:=D}:=I.turned (λb o j e=>(R.2 b j).trans e) A M F t B
  obtain⟨o,e,c,d⟩:=id m;exact⟨u,rfl,xi e c d v7 ⟨x,H,S,T,⟨rfl,λys hy=>by rw[I.vx hy hq];exact r⟩,m,λb j=>(n b j).1⟩⟩
 done:=by intro X q C y O i g s N H E I n f L;subst q C y;obtain⟨xs,hq,r⟩:=L;obtain⟨l,G,p,Q⟩:=I.tuple hq;obtain⟨A,M,f2,F,t,B⟩:=n it u3;have:=G.length;exact wpAny_pyNext_tuple_end (I.ok.hd O) f (show s.heap.IsTuple a l.toArray from p) (by simp;simp_all) λD V=>⟨rfl,I.turned (λb o j e=>V b o j e) A M F t B⟩
 self:=λ_ _ _ _ _ f h=>wpAny_pyIter_tupleiter f h
theorem Dy{P:j3}{w:i7}{K:c9}{L:Expr}(it:Addr)(lo:Int)(n:Nat):Turn P w K L (PB lo n) [it] it (λi h=>IsRangeIter h it (lo+(i:Nat)*1) ((n:Int)-(i:Nat)) 1) where
 mem:=u3
 obj:=λi h a b d=>by
  have e:b=it:=by simpa using d
  subst e;exact⟨_,a,λv z=>by cases z⟩
 keep:=λi h q a k=>k it u3 _ a
 item:=by
  intro X y C A x i c s B H E I g a u;obtain⟨l,p,O,r,j,m⟩:=g it u3;refine(Walks.range (I.ok.hd x) it lo 1 n).item i s _ _ u a λv q D M f N=>?_
  obtain⟨t,rfl⟩:=M;have F:Inv X c B H {s with heap:=q,toks:=D}:=I.turned (λb o d e=>N b o (by simpa using d) e) l p r j m
  refine⟨_,rfl,xi f rfl rfl v7 ⟨.int (lo+i),H,F,⟨t,?_⟩,⟨rfl,rfl⟩,f,λb d=>(g b d).1⟩⟩
  rw[Int.mul_one]
 done:=by intro X y C A x i c s B H E I g a u;obtain⟨l,p,O,r,j,m⟩:=g it u3;exact wpAny_pyNext_range_end (I.ok.hd x) a (by have:n<=i:=u;lia) λq G=>⟨rfl,I.turned (λb o d e=>G b o d e) l p r j m⟩
 self:=λ_ _ _ _ _ a h=>wpAny_pyIter_rangeiter a h
section
variable{X:Cx}{tg:Expr}
theorem LW{pins:List (Addr×Obj)}{c:St}{H:Hp}{s:c8}{R:It->Hp->Prop}{E:b8->c8->Prop}{lo a:Int}{t u v:Tok}{f:Nat}(I:Inv X pins c H s)(k : -(2 ^ 62)<=lo)(i:lo<2 ^ 62)(j : -(2 ^ 62)<=a)(g:a<2 ^ 62)(q:R (PB lo (a-lo).toNat) H):wpAny (model X.prog X.w) X.A (pyIter (.ref (hz s))) (Xm X pins c tg R) E {s with heap:=s.heap.push {cls:=.type "range",data:=.fields #[.int lo t,.int a u,.int 1 v]},toks:=f}:=by
 refine wpAny_pyIter_range (IsRange.new ..) (small_one k i j g) ?_;have d:Inv X pins c H {s with heap:=s.heap.push {cls:=.type "range",data:=.fields #[.int lo t,.int a u,.int 1 v]},toks:=f}:=I.kept λb o e=>o9 _ e
 refine⟨(s.heap.push {cls:=.type "range",data:=.fields #[.int lo t,.int a u,.int 1 v]}).objs.size,[(s.heap.push {cls:=.type "range",data:=.fields #[.int lo t,.int a u,.int 1 v]}).objs.size],_,_,H,rfl,
  d.kept λb o e=>o9 _ e,Dy _ lo (a-lo).toNat,?_,λb m=>?_,q⟩
 . have l:lo+((0:Nat))*1=lo:=by simp
   have h:(((a-lo).toNat))-((0:Nat))=Builtin.Range.rangeSize lo a 1:=by rw[rangeSize_one];split<;>lia
   rw[l,h];exact J8 _ rfl
 . have e:b=(s.heap.push {cls:=.type "range",data:=.fields #[.int lo t,.int a u,.int 1 v]}).objs.size:=by simpa using m
   subst e;exact d.oD F0 (d.i9.fresh F0)
noncomputable def OX(ta:TA):TI:=λσ H R=>ta σ H λvs H1=>∃j:Int,vs=[.int j]/\-(2 ^ 62)<=j/\j<2 ^ 62/\R (PB 0 j.toNat) H1
theorem GY{a:Expr}{d:TA}{p pos:Pos}(l:Gl X "range")(f:X.mg "range" = none)(n:PA X [a] d)(hs:autoParam (u4 [a] X.env=[(false,eval a X.env)]) e8):PI X tg (.Call (.Name "range" p) [a] [] pos) (OX d):=by
 intro b s k H R I h;refine Call_ (kQ I l f boot_range (uH (m4 (n pos b s k H _ I h) λv u ⟨o,w,m,i,c⟩=>?_) hs rfl))
 obtain⟨j,e,c,q2,q⟩:=c;subst e;cases i with
 |cons r g =>
  cases g;obtain⟨t,rfl⟩:=r;exact call_range_1 (LW m kz kz c q2 (by simpa using q))
noncomputable def SY(wi:TI)(g:TG)(tb:TS):TS:=λD σ H=>wi σ H λJ H1=>∃W:Nat->Nat->St->Hp->Prop,(∃m,W 0 m σ H1)/\∀i m σ H,W i m σ H ->
 (J.stop i H/\D.nx σ H)\/(J.go i H/\∃N:St->Hp->Prop,(∀σ' H',N σ' H'->∃m',m'<m/\W (i+1) m' σ' H')/\∀x H',J.Fx i H x H'->g x σ H' λσ2 H2=>tb {D with nx:=N,ct:=N,bk:=D.nx} σ2 H2)
noncomputable def om(fp:List Addr)(h:Heap):List (Addr×Obj):=fp.filterMap λb=>(h.get? b).map λo=>(b,o)
theorem ib{fp:List Addr}{h:Heap}{b:Addr}{o:Obj}(a:b∈fp)(e:h.get? b=some o):(b,o)∈om fp h:=List.mem_filterMap.mpr ⟨b,a,by rw[e];rfl⟩
theorem Hz{fp:List Addr}{h:Heap}{p:Addr×Obj}(a:p∈om fp h):p.1∈fp/\h.get? p.1=some p.2:=by
 obtain⟨b,d,e⟩:=List.mem_filterMap.mp a;cases q:h.get? b with
 |none=>rw[q]at e;exact nE e
 |some o =>
  rw[q]at e;have c:=V6 e;subst c;exact⟨d,q⟩
theorem Inv.pinned{pins:List (Addr×Obj)}{a:St}{H:Hp}{s:c8}{fp:List Addr}(I:Inv X pins a H s)(h:∀b∈fp,hI X pins H b)(g:∀b∈fp,∃o,s.heap.get? b=some o/\∀v,o.data≠.cell v):Inv X (pins++om fp s.heap) a H s :=
 I.fD λp i=>(List.mem_append.mp i).elim (λz=>I.pin p (D0 _ z)) λz=>by obtain⟨f,e⟩:=Hz z;obtain⟨j,l,k,_⟩:=h p.1 f;obtain⟨o,c,d⟩:=g p.1 f;rw[e]at c;cases c;exact⟨e,j,l,k,d⟩
theorem Inv.qP{pins pl:List (Addr×Obj)}{a:St}{H:Hp}{s:c8}(I:Inv X (pins++pl) a H s):Inv X pins a H s:=I.fD λp b=>I.pin p (D0 _ (ao _ b))
theorem Uc{iter:Expr}{body:List Stmt}{wi:TI}{g:TG}{tb:TS}{pos:Pos}(hp:sW (model X.prog X.w) X.A X.env X.xe)(hc:X.calm=true)(hi:PI X tg iter wi)(hg:PG X tg g)(hb:eO X body tb)(hs:autoParam (VC X iter) lg):PS X (.For tg iter body [] pos) (SY wi g tb):=by
 intro pins s σ H D I h;refine wpAny_For (m4 (hi pins s σ H _ I h) λv s1 h1=>m4 h1 λitv s2 h2=>?_) hs
 obtain⟨it,fp,tn,J,H2,e,I2,T,st2,f2,W,⟨m0,w0⟩,turn⟩:=h2;subst e;have stat:∀{H':Hp},(∀b∈fp,H' b=none)->∀b∈fp,hI X pins H' b:=λhn b hb=>⟨hn b hb,(f2 b hb).2⟩
 refine codeAny_forLoop_any (λn s'=>∃i σ' H',Inv X pins σ' H' s'/\tn i s'.heap/\(∀b∈fp,H' b=none)/\W i n σ' H') ?_ m0 ⟨0,σ,H2,I2,st2,λb hb=>(f2 b hb).1,w0⟩
 rintro n s3 ⟨i,σ3,H3,I3,st3,fr3,w3⟩;rcases turn i n σ3 H3 w3 with ⟨stop,qn⟩|⟨go,N,hN,step⟩
 . refine jC hp (m4 (T.done X rfl rfl rfl hc i pins s3 σ3 H3 X.xe I3 (stat fr3) st3 stop) λr s4 ⟨hr,I4⟩=>?_)
   subst hr;exact gH ⟨σ3,H3,I4,qn⟩
 . refine jC hp (m4 (T.item X rfl rfl rfl hc i pins s3 σ3 H3 X.xe I3 (stat fr3) st3 go) λr s4 ⟨u,hr,h4⟩=>?_)
   subst hr;refine jC hp (m4 h4 λ_ s5 ⟨x,H5,I5,r5,y5,st5,fr5⟩=>?_)
   have I5':=I5.pinned (stat fr5) (T.obj _ _ st5);refine jC hp (m4 (hg _ s5 σ3 H5 x u _ I5' r5 (step x H5 y5)) λ_ s6 ⟨σ6,H6,I6,q6⟩=>?_)
   refine jC hp (m4 (hb _ s6 σ6 H6 _ I6 q6) λf s7 q7=>?_)
   have again:∀{σ7:St} {H7:Hp},Inv X (pins++om fp s5.heap) σ7 H7 s7->N σ7 H7->∃m,m<n/\∃i σ' H',Inv X pins σ' H' s7/\tn i s7.heap/\(∀b∈fp,H' b=none)/\W i m σ' H':=λ{σ7 H7} I7 n7=>by
    obtain⟨m',hm,w7⟩:=hN σ7 H7 n7;refine⟨m',hm,i+1,σ7,H7,I7.qP,T.keep _ _ _ st5 λb hb o e=>(I7.pin (b,o) (D0 _ (D0 _ (ib hb e)))).1,λb hb=>?_,w7⟩
    obtain⟨o,e,d⟩:=T.obj _ _ st5 b hb;exact(I7.pin (b,o) (D0 _ (D0 _ (ib hb e)))).2.1
   cases f with
   |next=>obtain⟨σ7,H7,I7,n7⟩:=q7;exact again I7 n7
   |cont=>obtain⟨σ7,H7,I7,n7⟩:=q7;exact again I7 n7
   |brk=>obtain⟨σ7,H7,I7,q7⟩:=q7;exact⟨σ7,H7,I7.qP,q7⟩
   |ret v=>obtain⟨x7,σ7,H7,I7,r7,q7⟩:=q7;exact⟨x7,σ7,H7,I7.qP,r7,q7⟩
end
noncomputable abbrev R2:=V->V->Hp->VK->Prop
noncomputable def F4(X:Cx)(f:b8->b8->Sem b8)(r:R2):Prop :=
 ∀(pins:List (Addr×Obj)) (s:c8) (σ:St) (H:Hp) (x y:V) (v u:b8) (Q:VK),Inv X pins σ H s->RelV x v->RelV y u->r x y H Q ->
  wpAny (model X.prog X.w) X.A (f v u) (EP X pins σ Q) X.xe s
noncomputable def Py(X:Cx)(f:b8->Sem b8)(r:V->Hp->VK->Prop):Prop :=
 ∀(pins:List (Addr×Obj)) (s:c8) (σ:St) (H:Hp) (x:V) (v:b8) (Q:VK),Inv X pins σ H s->RelV x v->r x H Q ->
  wpAny (model X.prog X.w) X.A (f v) (EP X pins σ Q) X.xe s
noncomputable def S7(X:Cx)(f:b8)(r:List V->Hp->VK->Prop):Prop :=
 ∀(pins:List (Addr×Obj)) (s:c8) (σ:St) (H:Hp) (xs:List V) (us:List b8) (Q:VK),Inv X pins σ H s->Vals xs us->r xs H Q ->
  wpAny (model X.prog X.w) X.A (call f us) (EP X pins σ Q) X.xe s
noncomputable def qv(r:R2)(ta tb:TE):TE:=λσ H Q=>ta σ H λx H1=>tb σ H1 λy H2=>r x y H2 Q
noncomputable def WS(r:V->Hp->VK->Prop)(ta:TE):TE:=λσ H Q=>ta σ H λx H1=>r x H1 Q
noncomputable def rI(C:Int->Int->Prop)(g:Int->Int->V):R2:=λx y H Q=>∃i j,x=.int i/\y=.int j/\C i j/\Q (g i j) H
noncomputable def iJ(g:Int->Int->V):R2:=λx y H Q=>∃i j,x=.int i/\y=.int j/\Q (g i j) H
noncomputable def rU(g:Int->V):V->Hp->VK->Prop:=λx H Q=>∃i,x=.int i/\Q (g i) H
section
variable{X:Cx}{a b c:Expr}{ta tb tc:TE}{pos:Pos}
theorem NZ(o:PE X a ta)(n:PE X b tb){pins:List (Addr×Obj)}{s:c8}{c:St}{H:Hp}{R:V->V->Hp->Prop}(I:Inv X pins c H s)(h:ta c H λx d=>tb c d λy H2=>R x y H2){Q:b8->c8->Prop}{f:b8->b8->Sem b8}(k:∀v u s2 x y H2,Inv X pins c H2 s2->RelV x v->RelV y u->R x y H2->wpAny (model X.prog X.w) X.A (f v u) Q X.xe s2):
  wpAny (model X.prog X.w) X.A (eval a X.env) (λv s₁=>wpAny (model X.prog X.w) X.A (eval b X.env) (λu s₂=>wpAny (model X.prog X.w) X.A (f v u) Q X.xe s₂) X.xe s₁) X.xe s:=by
 refine m4 (o pins s c H _ I h) λv j ⟨x,d,l,i,m⟩=>?_
 refine m4 (n pins j c d _ l m) λu s2 ⟨y,H2,g,e,q2⟩=>?_
 exact k v u s2 x y H2 g i e q2
theorem Wn{op:Operator}{r:R2}(e:F4 X (X0 op) r)(m:PE X a ta)(l:PE X b tb):PE X (.BinOp a op b pos) (qv r ta tb):=by exact λc s j H Q I h=>wpAny_BinOp (NZ m l I h λv u f x y d g k i q=>e c f j d x y v u Q g k i q)
theorem Wl{op:UnaryOp}{r:V->Hp->VK->Prop}(d:Py X (unaryOp op) r)(k:PE X a ta):PE X (.UnaryOp op a pos) (WS r ta):=by exact λb s c H Q I h=>UnaryOp_ (m4 (k b s c H _ I h) λv f ⟨x,g,i,e,j⟩=>d b f c g x v Q i e j)
theorem OT{f:b8->b8->Sem b8}{C:Int->Int->Prop}{g:Int->Int->Int}(a:∀(i j:Int) (t u:Tok) (s:c8) (Q:b8->c8->Prop) (E:b8->c8->Prop),C i j->Q (.int (g i j) s.toks) {s with toks:=s.toks+1}->wpAny (model X.prog X.w) X.A (f (.int i t) (.int j u)) Q E s):
  F4 X f (rI C λi j=>.int (g i j)):=by intro b s l H x y v u Q I e c h;obtain⟨i,j,rfl,rfl,k,q⟩:=h;obtain⟨t,rfl⟩:=e;obtain⟨d,rfl⟩:=c;exact a i j t d s _ _ k ⟨.int (g i j),H,I.tok _,⟨_,rfl⟩,q⟩
theorem UE{f:b8->b8->Sem b8}{g:Int->Int->Int}(a:∀(i j:Int) (t u:Tok) (s:c8) (Q:b8->c8->Prop) (E:b8->c8->Prop),Q (.int (g i j) s.toks) {s with toks:=s.toks+1}->wpAny (model X.prog X.w) X.A (f (.int i t) (.int j u)) Q E s):
  F4 X f (iJ λi j=>.int (g i j)):=by intro b s k H x y v u Q I e c h;obtain⟨i,j,rfl,rfl,q⟩:=h;obtain⟨t,rfl⟩:=e;obtain⟨d,rfl⟩:=c;exact a i j t d s _ _ ⟨.int (g i j),H,I.tok _,⟨_,rfl⟩,q⟩
theorem Ej{f:b8->b8->Sem b8}{g:Int->Int->Bool}(a:∀(i j:Int) (t u:Tok) (s:c8) (Q:b8->c8->Prop) (E:b8->c8->Prop),Q (.bool (g i j)) s->wpAny (model X.prog X.w) X.A (f (.int i t) (.int j u)) Q E s):
  F4 X f (iJ λi j=>.bl (g i j)):=by intro b s k H x y v u Q I e c h;obtain⟨i,j,rfl,rfl,q⟩:=h;obtain⟨t,rfl⟩:=e;obtain⟨d,rfl⟩:=c;exact a i j t d s _ _ ⟨.bl (g i j),H,I,rfl,q⟩
noncomputable def rO(i j:Int):Prop:=0<=j/\j<=1000000/\i.natAbs<2 ^ 64
theorem UD:F4 X (X0 .Add) (iJ λi j=>.int (i+j)):=UE λ_ _ _ _ _ _ _ q=>add_int q
theorem Uy:F4 X (X0 .Sub) (iJ λi j=>.int (i-j)):=UE λ_ _ _ _ _ _ _ q=>sub_int q
theorem Rk:F4 X (X0 .Mod) (rI (λ_ j=>j≠0) λi j=>.int (i.fmod j)):=OT λ_ _ _ _ _ _ _ a q=>mod_int' a q
theorem Uz:F4 X (X0 .Pow) (rI rO λi j=>.int (i ^ j.toNat)):=OT λ_ _ _ _ _ _ _ a q=>pow_int_small a.1 a.2.1 a.2.2 q
theorem XM{f:b8->Sem b8}{g:Int->Int}(a:∀(i:Int) (t:Tok) (s:c8) (Q:b8->c8->Prop) (E:b8->c8->Prop),Q (.int (g i) s.toks) {s with toks:=s.toks+1}->wpAny (model X.prog X.w) X.A (f (.int i t)) Q E s):
  Py X f (rU λi=>.int (g i)):=by intro b s d H x v Q I c h;obtain⟨i,rfl,q⟩:=h;obtain⟨t,rfl⟩:=c;exact a i t s _ _ ⟨.int (g i),H,I.tok _,⟨_,rfl⟩,q⟩
theorem SJ:Py X (unaryOp .USub) (rU λi=>.int (-i)):=XM λ_ _ _ _ _ q=>neg_int q
end
noncomputable def Tn:V->V->Bool
 | .non,.non=>true | .non,.int _=>true | .int _,.non=>true | .non,.bl _=>true | .bl _,.non=>true | .non,.str _=>true | .str _,.non=>true
 | .int _,.int _=>true | .bl _,.bl _=>true | .str _,.str _=>true | .byt _,.byt _=>true
 | .int _,.str _=>true | .str _,.int _=>true | .bl _,.str _=>true | .str _,.bl _=>true
 |_,_=>false
noncomputable def WX:R2:=λx y H Q=>Tn x y=true/\Q (.bl (decide (x=y))) H
noncomputable def WV:R2:=λx y H Q=>Tn x y=true/\Q (.bl (!decide (x=y))) H
theorem CV{i j:Int}:decide (V.int i=V.int j)=(i==j):=by rw[pC];simp
theorem IU{i j:Bool}:decide (V.bl i=V.bl j)=(i==j):=by rw[pC];simp
theorem CU{i j:Str}:decide (V.str i=V.str j)=(i==j):=by rw[pC];simp
theorem CW{i j:Array UInt8}:decide (V.byt i=V.byt j)=(i.toList==j.toList):=by rw[pC];cases i;cases j;simp
section
variable{X:Cx}{a b c:Expr}{ta tb tc:TE}{pos:Pos}
theorem A5{pins:List (Addr×Obj)}{a:St}{H:Hp}{s:c8}{Q:VK}{k k':Bool}(I:Inv X pins a H s)(q:Q (.bl k) H)(e:k=k'):EP X pins a Q (.bool k') s:=by subst e;exact⟨.bl k,H,I,rfl,q⟩
theorem Wu:F4 X (C9 .Eq) WX:=by
 intro e s f H x y v u Q I d a h;obtain⟨c,q⟩:=h;cases x with
 |non =>
  cases d;cases y with
  |non=>cases a;exact PySem.EqNone.eq_none_none (A5 I q rfl)
  |bl j=>cases a;exact PySem.EqNone.eq_none_bool (A5 I q rfl)
  |int j=>obtain⟨b,rfl⟩:=a;exact PySem.EqNone.eq_none_int (A5 I q rfl)
  |str j=>obtain⟨b,rfl⟩:=a;exact PySem.EqNone.eq_none_str (A5 I q rfl)
  |_=>exact absurd (show false=true from c) U4
 |bl i =>
  cases d;cases y with
  |non=>cases a;exact PySem.EqNone.eq_bool_none (A5 I q rfl)
  |bl j=>cases a;exact eq_bool (A5 I q IU)
  |str j=>obtain⟨b,rfl⟩:=a;exact PySem.EqMixed.eq_bool_str (A5 I q rfl)
  |_=>exact absurd (show false=true from c) U4
 |int i =>
  obtain⟨t,rfl⟩:=d;cases y with
  |non=>cases a;exact PySem.EqNone.eq_int_none (A5 I q rfl)
  |int j=>obtain⟨b,rfl⟩:=a;exact eq_int (A5 I q CV)
  |str j=>obtain⟨b,rfl⟩:=a;exact PySem.EqMixed.eq_int_str (A5 I q rfl)
  |_=>exact absurd (show false=true from c) U4
 |str i =>
  obtain⟨t,rfl⟩:=d;cases y with
  |non=>cases a;exact PySem.EqNone.eq_str_none (A5 I q rfl)
  |bl j=>cases a;exact PySem.EqMixed.eq_str_bool (A5 I q rfl)
  |int j=>obtain⟨b,rfl⟩:=a;exact PySem.EqMixed.eq_str_int (A5 I q rfl)
  |str j=>obtain⟨b,rfl⟩:=a;exact eq_str (A5 I q CU)
  |_=>exact absurd (show false=true from c) U4
 |byt i =>
  obtain⟨t,rfl⟩:=d;cases y with
  |byt j=>obtain⟨b,rfl⟩:=a;exact PySem.W.eq_bytes (A5 I q CW)
  |_=>exact absurd (show false=true from c) U4
 |_=>cases y<;>exact absurd (show false=true from c) U4
theorem Wt:F4 X (C9 .NotEq) WV:=by
 intro e s f H x y v u Q I d a h;obtain⟨c,q⟩:=h;cases x with
 |non =>
  cases d;cases y with
  |non=>cases a;exact PySem.EqNone.ne_none_none (A5 I q rfl)
  |bl j=>cases a;exact PySem.EqNone.ne_none_bool (A5 I q rfl)
  |int j=>obtain⟨b,rfl⟩:=a;exact PySem.EqNone.ne_none_int (A5 I q rfl)
  |str j=>obtain⟨b,rfl⟩:=a;exact PySem.EqNone.ne_none_str (A5 I q rfl)
  |_=>exact absurd (show false=true from c) U4
 |bl i =>
  cases d;cases y with
  |non=>cases a;exact PySem.EqNone.ne_bool_none (A5 I q rfl)
  |bl j=>cases a;exact ne_bool (A5 I q (m5 not IU))
  |str j=>obtain⟨b,rfl⟩:=a;exact PySem.EqMixed.ne_bool_str (A5 I q rfl)
  |_=>exact absurd (show false=true from c) U4
 |int i =>
  obtain⟨t,rfl⟩:=d;cases y with
  |non=>cases a;exact PySem.EqNone.ne_int_none (A5 I q rfl)
  |int j=>obtain⟨b,rfl⟩:=a;exact ne_int (A5 I q (m5 not CV))
  |str j=>obtain⟨b,rfl⟩:=a;exact PySem.EqMixed.ne_int_str (A5 I q rfl)
  |_=>exact absurd (show false=true from c) U4
 |str i =>
  obtain⟨t,rfl⟩:=d;cases y with
  |non=>cases a;exact PySem.EqNone.ne_str_none (A5 I q rfl)
  |bl j=>cases a;exact PySem.EqMixed.ne_str_bool (A5 I q rfl)
  |int j=>obtain⟨b,rfl⟩:=a;exact PySem.EqMixed.ne_str_int (A5 I q rfl)
  |str j=>obtain⟨b,rfl⟩:=a;exact ne_str (A5 I q (m5 not CU))
  |_=>exact absurd (show false=true from c) U4
 |byt i =>
  obtain⟨t,rfl⟩:=d;cases y with
  |byt j=>obtain⟨b,rfl⟩:=a;exact PySem.W.ne_bytes (A5 I q (m5 not CW))
  |_=>exact absurd (show false=true from c) U4
 |_=>cases y<;>exact absurd (show false=true from c) U4
theorem Eg:F4 X (C9 .Lt) (iJ λi j=>.bl (decide (i<j))):=Ej λ_ _ _ _ _ _ _ q=>lt_int q
theorem Eh:F4 X (C9 .LtE) (iJ λi j=>.bl (decide (i<=j))):=Ej λ_ _ _ _ _ _ _ q=>le_int q
theorem OR:F4 X (C9 .Gt) (iJ λi j=>.bl (decide (j<i))):=Ej λ_ _ _ _ _ _ _ q=>gt_int q
theorem OS:F4 X (C9 .GtE) (iJ λi j=>.bl (decide (j<=i))):=Ej λ_ _ _ _ _ _ _ q=>ge_int q
theorem Hh:F4 X (C9 .In) (λx y H Q=>∃i j,x=.str i/\y=.str j/\Q (.bl (!(nk j i 0 j.length 1).isEmpty)) H):=by intro a s d H x y v u Q I c b h;obtain⟨i,j,rfl,rfl,q⟩:=h;obtain⟨t,rfl⟩:=c;obtain⟨e,rfl⟩:=b;exact in_str (A5 I q rfl)
theorem Hg:F4 X (C9 .Is) (λx y H Q=>y=.non/\Q (.bl (decide (x=.non))) H):=by
 intro b s d H x y v u Q I a c h;obtain⟨rfl,q⟩:=h;cases c;refine is_none_gen (A5 I q ?_);cases x<;>first
  |(cases a;rfl)
  |(obtain⟨t,rfl⟩:=a;rfl)
theorem Ci:F4 X (C9 .IsNot) (λx y H Q=>y=.non/\Q (.bl (!decide (x=.non))) H):=by
 intro b s d H x y v u Q I a c h;obtain⟨rfl,q⟩:=h;cases c;refine isnot_none_gen (A5 I q ?_);cases x<;>first
  |(cases a;rfl)
  |(obtain⟨t,rfl⟩:=a;rfl)
theorem F4.or{f:b8->b8->Sem b8}{r b:R2}(h:F4 X f r)(h':F4 X f b):F4 X f (λx y H Q=>r x y H Q\/b x y H Q):=by
 intro a s d H x y v u Q I e c q;rcases q with q|q
 . exact h a s d H x y v u Q I e c q
 . exact h' a s d H x y v u Q I e c q
theorem O6(b:Expr){op:aZ}(h:autoParam (op≠.In) j9)(a:autoParam (op≠.NotIn) j9):bX op b=false:=by
 have d:(op==CmpOp.In)=false:=by cases op<;>first|rfl|exact absurd rfl h
 have c:(op==CmpOp.NotIn)=false:=by cases op<;>first|rfl|exact absurd rfl a
 cases b<;>simp[bX,d,c]
theorem Ce{op:aZ}{r:R2}(f:F4 X (C9 op) r)(n:PE X a ta)(m:PE X b tb)(d:bX op b=false):PE X (.Compare a [op] [b] pos) (qv r ta tb):=by exact λc s k H Q I h=>wpAny_Compare1 (NZ n m I h λv u g x y e i l j q=>f c g k e x y v u Q i l j q) d
noncomputable def OA(t:TE):TT:=λσ H Q=>t σ H λx H'=>∃k,x=.bl k/\Q k H'
theorem QH{op:aZ}{r:R2}(g:F4 X (C9 op) r)(E:PE X a ta)(D:PE X b tb)(o:bX op b=false):PT X (.Compare a [op] [b] pos) (OA (qv r ta tb)):=by
 intro d s f H Q I h;refine Kw (m4 (E d s f H _ I h) λv l ⟨x,B,m,t,C⟩=>m4 (D d l f B _ m C) λu q ⟨y,p,j,n,q2⟩ =>
  m4 (g d q f p x y v u _ j t n q2) λc G ⟨z,w,F,A,k,e,i⟩=>?_) o
 subst e;cases A;exact gL ⟨w,F,i⟩
noncomputable def rV(r r':R2)(ta tb tc:TE):TE:=λσ H Q=>ta σ H λx H1=>tb σ H1 λy H2=>r x y H2 λz H3=>∃k,z=.bl k /\
 (if k=true then tc σ H3 λw' H4=>r' y w' H4 Q else Q (.bl false) H3)
theorem yi{op g:aZ}{r n:R2}(t:F4 X (C9 op) r)(j:F4 X (C9 g) n)(Y:PE X a ta)(W:PE X b tb)(V:PE X c tc)(E:lastMarks [op,g] [b,c]=false:=by with_unfolding_all rfl):PE X (.Compare a [op,g] [b,c] pos) (rV r n ta tb tc):=by
 intro f s i H Q I h;refine Compare_chain (m4 (Y f s i H _ I h) λv B ⟨x,S,C,N,T⟩=>chain_link (m4 (W f B i S _ C T) λu M ⟨y,F,w,m,q2⟩ =>
  m4 (t f M i F x y v u _ w N m q2) λd q ⟨z,o,p,P,k,e,l⟩=>?_)) E
 subst e;cases P;refine gL ?_;cases k with
 |false=>exact ite_ff ⟨.bl false,o,p,rfl,l⟩
 |true=>exact ite_tt (chain_last (m4 (V f q i o _ p l) λA R ⟨K,D,G,O,L⟩=>j f R i D y K u A Q G m O L))
theorem kP:(j8:Nat)<2 ^ 63:=by rw[aT];decide
theorem Ei:F4 X (X0 .Add) (λx y H Q=>∃i j,x=.str i/\y=.str j/\i.length+j.length<=j8/\Q (.str (i++j)) H):=by intro a s g H x y v u Q I e c h;obtain⟨i,j,rfl,rfl,b,q⟩:=h;obtain⟨t,rfl⟩:=e;obtain⟨d,rfl⟩:=c;exact add_str (λd f=>⟨.str (i++j),H,I.tok _,⟨_,rfl⟩,q⟩) b
theorem vals1{x:V}{us:List b8}(r:Vals [x] us):∃u,us=[u]/\RelV x u:=by
 cases r with
 |cons b a=>cases a;exact⟨_,rfl,b⟩
theorem vals2{x y:V}{us:List b8}(r:Vals [x,y] us):∃u w',us=[u,w']/\RelV x u/\RelV y w':=by
 cases r with
 |cons c a =>
  cases a with
  |cons b d=>cases d;exact⟨_,_,rfl,c,b⟩
theorem NX:S7 X (.builtin "abs") (λxs H Q=>∃i,xs=[.int i]/\Q (.int (if i<0 then -i else i)) H):=by intro a s c H xs d Q I r h;obtain⟨i,rfl,q⟩:=h;obtain⟨u,rfl,t,rfl⟩:=vals1 r;exact call_abs_int λu b=>⟨.int (if i<0 then -i else i),H,I.tok _,⟨_,rfl⟩,q⟩
theorem Je:S7 X (.type "int") (λxs H Q=>(∃i,xs=[.int i]/\Q (.int i) H)\/∃k,xs=[.bl k]/\Q (.int (if k then 1 else 0)) H):=by
 intro a s c H xs d Q I r h;rcases h with ⟨i,rfl,q⟩|⟨k,rfl,q⟩
 . obtain⟨u,rfl,t,rfl⟩:=vals1 r;exact call_int_int ⟨.int i,H,I,⟨_,rfl⟩,q⟩
 . obtain⟨u,rfl,b⟩:=vals1 r;cases b;exact call_int_bool ⟨.int (if k then 1 else 0),H,I.tok _,⟨_,rfl⟩,q⟩
theorem oK:S7 X (.type "str") (λxs H Q=>∃i,xs=[.int i]/\i.natAbs.log2<1920/\Q (.str (bV i)) H):=by intro a s c H xs d Q I r h;obtain⟨i,rfl,b,q⟩:=h;obtain⟨u,rfl,t,rfl⟩:=vals1 r;exact PySem.P.str_of_int b ⟨.str _,H,I.tok _,⟨_,rfl⟩,q⟩
end
structure rM(h:Heap)(x dx C:Addr)(mA:Str->Option b8):Prop where
 obj:h.get? x=some (gI C dx)
 ns:h.Ns1 dx mA
 ne:dx≠x
set_option tactic.hygienic true in
theorem HW{h:Heap}{f:Addr}{d:Str->Option b8}(n:h.Ns1 f d):∃od,h.get? f=some od/\∀name,lH name od=some (d name):=by
 obtain⟨o,c,p,j,g,m,_,i⟩:=n;refine⟨o,j,λname=>?_⟩
 have e:=i name;unfold nsFind findBy at e;rw[<-AD]at e;delta lH;rw[g];dsimp only;split
 . rename_i y q;rw[q]at e;exact m5 some e
 . rename_i q;rw[q]at e;have a:c.toList.any (·.refKey)=false:=by rw[Av];intro y k;obtain⟨z,t,b⟩:=m y (Array.mem_toList_iff.mp k);simp[DictEntry.refKey,b]
   have l:¬c.toList.any (·.refKey)=true:=by rw[a];exact U4
   rw[e7 l];exact m5 some e
theorem rM.look{h:Heap}{x a C:Addr}{b:Str->Option b8}(I:rM h x a C b):∃od,gG h x (gI C a) C (some od)/\∀name,lH name od=some (b name) :=
 let ⟨od,c,d⟩:=HW I.ns
 ⟨od,⟨I.obj,rfl,rfl,c⟩,d⟩
section
variable{prog:j3}{w:i7}{A:j6}{E:b8->c8->Prop}{s:c8}{K:c9}{x dx C f:Addr}{mA:Str->Option b8}{name:Str}{v:b8}
theorem get_map{a:Bool}{Q:b8->c8->Prop}(X:K.In s.heap)(I:rM s.heap x dx C mA)(d:pE K C name=true)(c:pH K C=true)(g:O0 K (.ref C) name=some none)(f:mA name=some v)(b:uc v=true)(h:Q v {s with toks:=s.toks+1}):
  wpAny (model prog w) A (getAttr (.ref x) name a) Q E s:=by obtain⟨i,J,e⟩:=I.look;exact PySem.W.get_value X J (AJ d).1 (Kd c g rfl (by rw[e,f])) b h
theorem Nz{pl:Sem Bool}{Q:b8×List b8->c8->Prop}(X:K.In s.heap)(I:rM s.heap x dx C mA)(a:pE K C name=true)(d:O0 K (.ref C) name=some (some (.ref f)))(b:pk K (.ref f)=true)(c:mA name=none)(h:Q (.ref f,[.ref x]) s):
  wpAny (model prog w) A (oZ (.ref x) name pl) Q E s:=by obtain⟨e,J,g⟩:=I.look;exact PySem.W.method_fn X J (AJ a).1 (AJ a).2 d (beq_iff_eq.mp b) (by show(lH name e).map (·.isSome)=some false;rw[g,c];rfl) h
theorem Qp{ns:List Str}{Q:Unit->c8->Prop}(X:K.In s.heap)(I:rM s.heap x dx C mA)(hs:O0 K (.ref C) "__setattr__" = some (some (.builtin "object.__setattr__")))(p:Au K C=true)(j:Ae K C name=some none)(o:pH K C=true)(l:zN mA ns)(hsz:ns.length<=j8)(h:∀h',rM h' x dx C (λy=>if y=name then some v else mA y)->jv dx s.heap h'->Q () {s with heap:=h',toks:=s.toks+2}):
  wpAny (model prog w) A (setAttr (.ref x) name v) Q E s:=by
 obtain⟨t,J,u⟩:=I.look;refine JH X J hs (PySem.W.osa_open X J p j λb=>?_)
 obtain⟨B,q,e⟩:=ub o;refine d8 (j4 (d8 (d8 (tQ I.obj (d8 (lP (AI X q) ?_))))));rw[e];refine j4 (d8 (j4 (d8 ?_)));refine wpAny_nsSet1 I.ns λh' d c=>?_
 obtain⟨z,n,k,g,i,f⟩:=d.count (PySem.Within.cons name v l);refine d8 (wpAny_lookBehind g (by rw[i];exact pastItsLine_dict (t4 f (by rw[J2];simp[*]))) ?_)
 exact j4 (h _ ⟨(c.2 _ (B3 I.ne)).trans I.obj,d,I.ne⟩ c)
theorem Na {R:Result->c8->Prop} {vs:List b8} {b:List (Str × b8)} (X:K.In s.heap) (c:Ad K C=true) (e:O0 K (.ref C) "__init__" = some (some (.ref f))) (i:PySem.W.typeIn K (.ref f)=some (.type "function")) (h:codeAny (model prog w) (A.under (.builtin "type.__call__" ⟨.ref C::vs,b⟩)) (.call (.ref f) ⟨.ref ((hz s) + 1)::vs,b⟩) (PySem.W.InitBack ((hz s) + 1) R)
   {s with heap:=(s.heap.push gK).push (gI C (hz s))}) :
  codeAny (model prog w) A (.call (.ref C) ⟨vs,b⟩) R s:=by obtain⟨j,g,d,t,k⟩:=s;exact PySem.W.make_core (PySem.W.makes_of X c) (lQ X e) (λa=>PySem.W.bind_fn X a i) (.inl rfl) h
end
noncomputable def Z6(f:Str)(v:V):List (Str×V)->List (Str×V)
 | []=>[(f,v)]
 |(g,x)::r=>if g=f then(g,v)::r else(g,x)::Z6 f v r
theorem qB(f g:Str)(v:V):∀fs:List (Str×V),(Z6 f v fs).lookup g=if g=f then some v else fs.lookup g
 | []=>by
  show bB g [(f,v)]=_
  by_cases h:g=f
  . have a:=beq_iff_eq.mpr h;simp only[bB,a,d9 h]
  . have a:=beq_eq_false_iff_ne.mpr h;simp only[bB,a,e7 h]
 |(k,x)::r=>by
  rw[show Z6 f v ((k,x)::r)=(if k=f then(k,v)::r else(k,x)::Z6 f v r)from rfl]
  by_cases b:k=f
  . rw[d9 b];by_cases h:g=k
    . have a:=beq_iff_eq.mpr h;simp only[bB,a,d9 (h.trans b)]
    . have a:=beq_eq_false_iff_ne.mpr h;simp only[bB,a,e7 (λe:g=f=>h (e.trans b.symm))]
  . rw[e7 b];by_cases h:g=k
    . have a:=beq_iff_eq.mpr h;simp only[bB,a,e7 (λe:g=f=>b (h.symm.trans e))]
    . have a:=beq_eq_false_iff_ne.mpr h;simp only[bB,a];exact(qB f g v r)
theorem oy(f:Str)(v:V):∀fs:List (Str×V),f∈(Z6 f v fs).map (·.1)/\∀g,g∈fs.map (·.1)->g∈(Z6 f v fs).map (·.1)
 | []=>⟨by simp[Z6],λg h=>by simp at h⟩
 |(k,x)::r=>by
  obtain⟨b,c⟩:=oy f v r;rw[show Z6 f v ((k,x)::r)=(if k=f then(k,v)::r else(k,x)::Z6 f v r)from rfl]
  by_cases a:k=f
  . rw[d9 a];subst a;exact⟨u3,λg h=>by simpa using h⟩
  . rw[e7 a];refine⟨?_,λg h=>?_⟩
    . rw[o5];exact o8 _ b
    . rw[o5]at h ⊢;rcases List.mem_cons.mp h with e|e
      . exact List.mem_cons.mpr (.inl e)
      . exact o8 _ (c g e)
theorem qD(f:Str)(v:V):∀fs:List (Str×V),(Z6 f v fs).length<=fs.length+1
 | []=>by simp[Z6]
 |(k,x)::r=>by
  have:=qD f v r;rw[show Z6 f v ((k,x)::r)=(if k=f then(k,v)::r else(k,x)::Z6 f v r)from rfl]
  by_cases a:k=f
  . rw[d9 a,J2,J2];simp[*]
  . rw[e7 a,J2,J2];simp[*]
theorem aa.some_of{v:V}{o:Option b8}(r:aa (some v) o):∃u,o=some u/\RelV v u:=by
 cases o with
 |none=>exact(show False from r).elim
 |some u=>exact⟨u,rfl,r⟩
theorem aa.none_of{o:Option b8}(r:aa none o):o=none:=by
 cases o with
 |none=>rfl
 |some u=>exact(show False from r).elim
theorem vZ{v:V}{u:b8}(r:RelV v u):uc u=true:=by
 cases v with
 |non=>cases(show u=N9 from r);rfl
 |bl b=>cases(show u=pe b from r);rfl
 |int i=>obtain⟨t,e⟩:=(show ∃t,u=pa i t from r);cases e;rfl
 |str x=>obtain⟨t,e⟩:=(show ∃t,u=lA x t from r);cases e;rfl
 |byt b=>obtain⟨t,e⟩:=(show ∃t,u=Value.bytes b t from r);cases e;rfl
 |flt b=>obtain⟨t,e⟩:=(show ∃t,u=Value.float b t from r);cases e;rfl
 |ref a=>cases(show u=t7 a from r);rfl
 |ty n=>cases(show u=ti n from r);rfl
section
variable{P:j3}{w:i7}{H H':Hp}{h h':Heap}{a C dx:Addr}{fs fs':List (Str×V)}
theorem vc(c:U6 P w H h)(e:H a=some (.ins C dx fs)):∃b,rM h a dx C b/\(∀f,aa (fs.lookup f) (b f))/\zN b (fs.map (·.1))/\fs.length<=1000/\H dx=some (.own a):=by
 obtain⟨d,z,ne,g,b,n,r,q⟩:=(show G9 P w H h a (.ins C dx fs)from c a _ e)
 exact⟨b,⟨g,n,ne⟩,r,q,z,d⟩
end
structure qN(K:c9)(C:Addr):Prop where
 pg:pE K C aA=true
 hd:pH K C=true
 po:Au K C=true
 sa:O0 K (.ref C) "__setattr__" = some (some (.builtin "object.__setattr__"))
theorem qN.get{K:c9}{C:Addr}(c:qN K C)(f:Str):pE K C f=true:=c.pg
noncomputable def bQ(K:c9)(C:Addr)(f:Str):Prop:=O0 K (.ref C) f=some none
theorem bQ.VU{K:c9}{C:Addr}{f:Str}(n:bQ K C f):Ae K C f=some none:=by
 delta Ae;rw[show O0 K (.ref C) f=some none from n]
 rfl
structure Meth(K:c9)(C:Addr)(m:Str)(f:Addr):Prop where
 at_:O0 K (.ref C) m=some (some (.ref f))
 fn:pk K (.ref f)=true
 kp:Y0 K (.ref f)=true
section
variable{X:Cx}{pins:List (Addr×Obj)}{σ:St}{H:Hp}{s:c8}{a C dx:Addr}{fs:List (Str×V)}{f:Str}{v:V}{A:j6}{E:b8->c8->Prop}
theorem EO{b:Bool}{Q:b8->c8->Prop}(I:Inv X pins σ H s)(e:H a=some (.ins C dx fs))(c:qN X.K C)(n:bQ X.K C f)(l:fs.lookup f=some v)(h:∀u s',Inv X pins σ H s'->RelV v u->Q u s'):wpAny (model X.prog X.w) A (getAttr (.ref a) f b) Q E s:=by
 obtain⟨i,O,r,_,_,_⟩:=vc I.i9 e;obtain⟨u,g,d⟩:=aa.some_of (by rw[<-l];exact r f)
 exact get_map I.L7 O (c.get f) c.hd n g (vZ d) (h u _ (I.tok _) d)
theorem sG{m:Str}{g:Addr}{pl:Sem Bool}{Q:b8×List b8->c8->Prop}(I:Inv X pins σ H s)(e:H a=some (.ins C dx fs))(c:qN X.K C)(k:Meth X.K C m g)(l:fs.lookup m=none)(h:Q (.ref g,[.ref a]) s):wpAny (model X.prog X.w) A (oZ (.ref a) m pl) Q E s:=by
 obtain⟨mA,O,r,_,_,_⟩:=vc I.i9 e;have hn:mA m=none:=aa.none_of (by rw[<-l];exact r m)
 exact Nz I.L7 O (c.get m) k.at_ k.fn hn h
theorem DK{y:V}{u:b8}{Q:Unit->c8->Prop}(I:Inv X pins σ H s)(e:H a=some (.ins C dx fs))(c:qN X.K C)(n:bQ X.K C f)(G:fs.length<1000)(t:RelV y u)(h:∀s',Inv X pins σ (upd H a (.ins C dx (Z6 f y fs))) s'->Q () s'):wpAny (model X.prog X.w) A (setAttr (.ref a) f u) Q E s:=by
 obtain⟨i,O,r,k,_,j⟩:=vc I.i9 e;have p:(fs.map (·.1)).length<=j8:=by rw[m9,aT];exact UJ
 refine Qp I.L7 O c.sa c.po n.VU c.hd k p λm d B=>h _ ?_
 have l:∃o,m.get? dx=some o:=let ⟨o,_,_,D,_⟩:=d.ns;⟨o,D⟩;refine I.write (by rw[e];exact aQ) (.inr j) (λb q F z=>(B.2 b F).trans z) l ?_
 refine⟨by rw[i8 O.ne];exact j,?_,O.ne,d.obj,_,d.ns,λg=>?_,λg v=>?_⟩
 . have:=qD f y fs;exact t4 M8 M8
 . show aa ((Z6 f y fs).lookup g) (if g=f then some u else i g)
   rw[qB];by_cases q:g=f
   . rw[d9 q,d9 q];exact t
   . rw[e7 q,e7 q];exact r g
 . by_cases q:g=f
   . rw[q];exact(oy f y fs).1
   . refine(oy f y fs).2 g (k g λz=>v ?_)
     show(if g=f then some u else i g)=none
     rw[e7 q];exact z
theorem Inv.made(I:Inv X pins σ H s):Inv X pins σ (upd (upd H (hz s) (.own ((hz s)+1))) ((hz s)+1) (.ins C (hz s) []))
  {s with heap:=(s.heap.push gK).push (gI C (hz s))}:=by
 have a:(s.heap.push gK).get? (hz s)=some gK:=J8 s.heap rfl;have g:((s.heap.push gK).push (gI C (hz s))).get? ((hz s)+1)=some (gI C (hz s)):=by
  have:=J8 (s.heap.push gK) (o:=gI C (hz s)) rfl
  rwa [eT]at this
 have c:(s.heap.push gK).Ns (hz s) (λ_=>none):=⟨gK,#[],_,a,rfl,(λe f=>absurd f (λh=>nomatch h)),λ_=>rfl⟩
 have d:=I.laid (o:=.own ((hz s)+1)) (t':=s.toks) (λb u q=>o9 _ q) F0 ⟨_,a⟩
 refine d.laid (λb u q=>o9 _ q) (Nat.le_of_eq (eT _ _)) ?_
 have ne:(hz s)≠(hz s)+1:=J6 (ua _);refine⟨by rw[i8 ne,l7],fe _,ne,g,λ_=>none,(Heap.Ns1.of_empty c).at λo q=>o9 _ q,λ_=>aQ,λy h=>absurd rfl h⟩
theorem Df{prog:j3}{w:i7}{env:Env}{e:Expr}{f:Str}{pos:Pos}{s:c8}{Q:b8->c8->Prop}(a:jz e f env (eval e env)=eval e env)(h:wpAny (model prog w) A (eval e env) (λo s₁=>wpAny (model prog w) A (getAttr o f true) Q E s₁) E s):wpAny (model prog w) A (eval (.Attribute e f pos) env) Q E s :=
 Attribute_any_ h (by rw[arm_eval_Attribute,a])
end
noncomputable def Lz(K:c9)(ta:TE)(f:Str):TE:=λσ H Q=>ta σ H λx H1=>∃a C dx fs v,x=.ref a/\H1 a=some (.ins C dx fs)/\qN K C/\bQ K C f/\fs.lookup f=some v/\Q v H1
noncomputable def Tp(K:c9)(ta tv:TE)(f:Str):TS:=λD σ H=>tv σ H λy H1=>ta σ H1 λx H2=>∃a C dx fs,x=.ref a/\H2 a=some (.ins C dx fs)/\qN K C/\bQ K C f/\fs.length<1000 /\
 D.nx σ (upd H2 a (.ins C dx (Z6 f y fs)))
section
variable{X:Cx}{o e value:Expr}{f:Str}{pos pos' tpos:Pos}{ta tv:TE}
theorem Ha(g:PE X e ta)(r:Bd X e f):PE X (.Attribute e f pos) (Lz X.K ta f):=by
 intro b s j H Q I h;refine Df r (m4 (g b s j H _ I h) λu y ⟨x,m,o,k,a,C,z,fs,v,t,d,c,n,l,q⟩=>?_)
 subst t;obtain rfl:=k;exact EO o d c n l λA w i p=>⟨v,m,i,p,q⟩
theorem Ud(w:PE X o ta)(r:PE X value tv)(hs:N8 value (some (.Attribute o f pos')) pos.line X.env=pure false):PS X (.Assign [.Attribute o f pos'] value pos) (Tp X.K ta tv f):=by
 intro b s d H D I h;refine Lb (m4 (r b s d H _ I h) λu j ⟨y,v,m,t,q⟩=>m4 (w b j d v _ m q) λk E ⟨x,B,g,i,a,C,F,fs,p,e,c,n,l,q2⟩=>?_) hs
 subst p;obtain rfl:=i;exact DK g e c n l t λA z=>⟨d,_,z,q2⟩
end
section
variable{X:Cx}{pins:List (Addr×Obj)}{σ:St}{H:Hp}{s:c8}{A:j6}{E:b8->c8->Prop}{Q:b8->c8->Prop}{c:b8}{b:Bool}
end
structure U2(c:Bool)(k:Nat)(A:j6):Prop where
 hd:c=true->A.handled=none
 dp:A.depth+3*k+5<recursionLimit
 un:A.units+16*k+200<D3
noncomputable abbrev N4:=U2 true
theorem U2.mono{c:Bool}{j k:Nat}{A:j6}(r:U2 c k A)(h:j<=k):U2 c j A:=⟨r.hd,by have:=r.dp;lia,by have:=r.un;lia⟩
theorem U2.deeper{c:Bool}{k:Nat}{A:j6}(r:U2 c (k+1) A)(env:Env):U2 c k (A.deeper env) :=
 ⟨r.hd,by have:=r.dp;show A.depth+1+3*k+5<_;lia,by have:=r.un;show A.units+3+16*k+200<_;lia⟩
theorem EC{A:j6}{C:Addr}{us:List b8}{a:List (Str×b8)}:(A.under (.builtin "type.__call__" ⟨.ref C::us,a⟩)).depth=A.depth+1:=by first|rfl|simp[zL]
theorem EB{A:j6}{C:Addr}{us:List b8}{a:List (Str×b8)}:(A.under (.builtin "type.__call__" ⟨.ref C::us,a⟩)).units=A.units+1:=by first|rfl|simp[zL]
theorem U2.make{c:Bool}{k:Nat}{A:j6}(r:U2 c (k+1) A)(C:Addr)(us:List b8)(a:List (Str×b8)):U2 c k (A.under (.builtin "type.__call__" ⟨.ref C::us,a⟩)) :=
 ⟨r.hd,by have:=r.dp;rw[EC];lia,by have:=r.un;rw[EB];lia⟩
theorem U2.depth{c:Bool}{k:Nat}{A:j6}(r:U2 c k A):A.depth<recursionLimit:=by have:=r.dp;lia
theorem U2.units{c:Bool}{k:Nat}{A:j6}(r:U2 c k A):A.units+64<D3:=by have:=r.un;lia
noncomputable def qR:TA:=λ_ H Q=>Q [] H
noncomputable def hZ(ta:TE)(tr:TA):TA:=λσ H Q=>ta σ H λx H1=>tr σ H1 λxs H2=>Q (x::xs) H2
section
variable{X:Cx}{e:Expr}{es:List Expr}{te:TE}{t:TA}{pos:Pos}
theorem ee:PA X [] qR:=λ_ _ _ _ H Q I h=>uh ⟨[],H,I,.nil,h⟩
theorem T9(o:PE X e te)(f:PA X es t)(hs:autoParam (aH X e es) e8):PA X (e::es) (hZ te t):=by
 intro pos a s b H Q I h;rw[hs];refine pK (m4 (o a s b H _ I h) λu k ⟨x,l,m,i,n⟩=>?_)
 exact m4 (f pos a k b l _ m n) λq p ⟨j,d,g,c,q2⟩=>⟨x::j,d,g,.cons i c,q2⟩
noncomputable def SR(t:TA):TE:=λσ H Q=>t σ H λxs H1=>xs.length<=j8/\∀p,H1 p=none->Q (.ref p) (upd H1 p (.tup xs))
noncomputable def SX(t:TA):TE:=λσ H Q=>t σ H λxs H1=>xs.length<=j8/\∀p,H1 p=none->Q (.ref p) (upd H1 p (.lst xs))
theorem Uk{x1}(h:PA X es t):PE X (.Tuple es x1 pos) (SR t):=by
 intro pins s σ H Q I hq;refine wpAny_Tuple_spliced (m4 (h pos pins s σ H _ I hq) λus s1 ⟨xs,H1,I1,r,z,q⟩=>⟨by rw[<-r.length];exact z,?_⟩)
 have hf:H1 s1.heap.objs.size=none:=I1.i9.fresh F0;refine⟨.ref s1.heap.objs.size,upd H1 s1.heap.objs.size (.tup xs),I1.laid (t':=s1.toks) (λb u e=>o9 _ e) F0 ?_,rfl,q _ hf⟩
 exact⟨z,us,r,⟨_,J8 _ rfl,rfl,_,rfl⟩⟩
theorem Uq(h:PA X es t):PE X (.List es pos) (SX t):=by
 intro pins s σ H Q I hq;refine wpAny_List_spliced (m4 (h pos pins s σ H _ I hq) λus s1 ⟨xs,H1,I1,r,z,q⟩=>⟨by rw[<-r.length];exact z,?_⟩)
 have hf:H1 s1.heap.objs.size=none:=I1.i9.fresh F0;refine⟨.ref s1.heap.objs.size,upd H1 s1.heap.objs.size (.lst xs),I1.laid (t':=s1.toks) (λb u e=>o9 _ e) F0 ?_,rfl,q _ hf⟩
 exact⟨z,us,0,r,J8 _ rfl⟩
end
noncomputable abbrev Sp:=List V->Hp->VK->XK->Prop
noncomputable abbrev fq:=List Env->Hp->c8->XK->b8->c8->Prop
structure rN(P:j3)(w:i7)(K:c9)(mg:Str->Option b8)(base:Heap)(A:j6)(outer:List Env)(s:c8)(H:Hp):Prop where
 frames:A.frames=some outer
 mod:Mod K mg base
 bs:∀b o,base.get? b=some o->s.heap.get? b=some o/\H b=none
 jW:base.objs.size<=s.heap.objs.size
 dy:s.heap.FunFrames base outer
 qF:∀b∈N0 outer,H b=none
 i9:U6 P w H s.heap
 bare:bT s.gens
noncomputable def CE(outer:List Env)(P:j3)(w:i7)(H:Hp)(s:c8)(Q:VK)(u:b8)(s':c8):Prop :=
 ∃v H',s'.os=s.os/\bT s'.gens/\Un (N0 outer) [] H H' s.heap s'.heap/\U6 P w H' s'.heap/\RelV v u/\Q v H'
noncomputable def CR(CX:fq)(outer:List Env)(P:j3)(w:i7)(H:Hp)(s:c8)(Q:VK)(E:XK)(r:Result)(s':c8):Prop :=
 match r with
 | .ok (.ret u)=>CE outer P w H s Q u s'
 | .ok _=>False
 | .error e=>CX outer H s E e s'
structure ir(c:Bool)(P:j3)(w:i7)(K:c9)(mg:Str->Option b8)(base:Heap)(CX:fq)(k:Nat)(f:Addr)(fd:l9)(ps:List Str)(sp:Sp):Prop where
 len:∀vs H Q E,sp vs H Q E->vs.length=ps.length
 run:∀(A:j6) (outer:List Env) (s:c8) (H:Hp) (args:Args) (us:List b8) (vs:List V) (Q:VK) (E:XK),U2 c k A->rN P w K mg base A outer s H->jm s fd args (ps.zip us)->Vals vs us->sp vs H Q E ->
  codeAny (model P w) A (.call (.ref f) args) (CR CX outer P w H s Q E) s
noncomputable abbrev P5:=ir true
theorem P5.imp{P:j3}{w:i7}{K:c9}{mg:Str->Option b8}{base:Heap}{CX:fq}{k:Nat}{f:Addr}{fd:l9}{d:List Str}{sp c:Sp}(F:P5 P w K mg base CX k f fd d sp)(h:∀vs H Q E,c vs H Q E->sp vs H Q E):P5 P w K mg base CX k f fd d c :=
 ⟨λvs H Q E q=>F.len vs H Q E (h _ _ _ _ q),λA a s H b l vs Q E i g j e m=>F.run A a s H b l vs Q E i g j e (h _ _ _ _ m)⟩
theorem rN.make{P:j3}{w:i7}{K:c9}{mg:Str->Option b8}{base:Heap}{A:j6}{outer:List Env}{s:c8}{H:Hp}(e:rN P w K mg base A outer s H)(C:Addr)(us:List b8)(a:List (Str×b8)):
  rN P w K mg base (A.under (.builtin "type.__call__" ⟨.ref C::us,a⟩)) outer s H:=⟨by first|exact e.frames|(simpa [zL,Code.envs,Code.isFrame,pushEnvs]using e.frames),e.mod,e.bs,e.jW,e.dy,e.qF,e.i9,e.bare⟩
section
variable{X:Cx}{pins:List (Addr×Obj)}{σ:St}{H:Hp}{s s':c8}
theorem Inv.zh(I:Inv X pins σ H s):rN X.prog X.w X.K X.mg X.base X.A X.stack s H :=
 ⟨I.ok.frames,I.ok.mod,I.bs,t4 I.ok.jW I.sz,I.stack,I.kF,I.i9,I.bare⟩
theorem Inv.after{Q:VK}{u:b8}(I:Inv X pins σ H s)(h:CE X.stack X.prog X.w H s Q u s'):EP X pins σ Q u s':=by obtain⟨v,i,f,a,un,c,r,q⟩:=h;obtain⟨j,g,d,t,e⟩:=s';obtain rfl:=f;exact⟨v,i,I.call un c a (λb z=>absurd z q5),r,q⟩
end
noncomputable def jO(sp:Sp)(dvs:List V)(E:XK)(t:TA):TE:=λσ H Q=>t σ H λvs H1=>sp (vs++dvs) H1 Q E
noncomputable def jN(C:Addr)(m:Str)(sp:Sp)(dvs:List V)(E:XK)(ta:TE)(t:TA):TE:=λσ H Q=>ta σ H λx H1=>∃a dx fs,x=.ref a/\H1 a=some (.ins C dx fs)/\fs.lookup m=none /\
 t σ H1 λvs H2=>sp (x::(vs++dvs)) H2 Q E
noncomputable def OE(C:Addr)(sp:Sp)(dvs:List V)(E:XK)(t:TA):TE:=λσ H Q=>t σ H λvs H1=>∀x dx,H1 x=none->H1 dx=none->dx≠x ->
 sp (.ref x::(vs++dvs)) (upd (upd H1 dx (.own x)) x (.ins C dx [])) (λv H2=>v=.non/\Q (.ref x) H2) E
noncomputable def Binds(K:c9)(fd:l9)(ps:List Str)(ds:List b8):Prop :=
 ∀(s:c8) (us:List b8),K.In s.heap->(us++ds).length=ps.length->jm s fd ⟨us,[]⟩ (ps.zip (us++ds))
theorem Binds.all{K:c9}{fd:l9}{a:List Str}(h:∀us:List b8,us.length=a.length->bindArgs fd ⟨us,[]⟩=pure (a.zip us)):Binds K fd a []:=λs us _ b=>by rw[Q8]at b ⊢;exact .of_eq (h us b)
noncomputable def Passes(CX:fq)(X:Cx)(E:XK):Prop:=∀(pins:List (Addr×Obj)) (σ:St) (H:Hp) (s:c8) (e:b8) (s':c8),Inv X pins σ H s->CX X.stack H s E e s'->X.xe e s'
section
variable{X:Cx}{CX:fq}{k:Nat}{f C:Addr}{fd:l9}{ps:List Str}{sp:Sp}{dvs:List V}{ds:List b8}{E:XK}{x m:Str}{p pos apos:Pos}{e o:Expr}{es:List Expr}{ta:TE}{t:TA}
theorem xX{pins:List (Addr×Obj)}{a:St}{H:Hp}{s:c8}{Q:VK}{us:List b8}{vs:List V}(F:P5 X.prog X.w X.K X.mg X.base CX k f fd ps sp)(g:N4 k X.A)(l:Binds X.K fd ps ds)(hd:Vals dvs ds)(d:Passes CX X E)(I:Inv X pins a H s)(r:Vals vs us)(h:sp (vs++dvs) H Q E):wpAny (model X.prog X.w) X.A (call (.ref f) us) (EP X pins a Q) X.xe s:=by
 have b:=r.append hd;have i:(us++ds).length=ps.length:=by rw[<-b.length];exact F.len _ _ _ _ h
 refine jr (ju (F.run X.A X.stack s H ⟨us,[]⟩ (us++ds) (vs++dvs) Q E g I.zh (l s us I.L7 i) b h) λr j hq=>?_)
 cases r with
 |error e=>exact d pins a H s e j I hq
 |ok c =>
  cases c with
  |ret u=>exact I.after hq
  |next=>exact M9 hq
  |brk=>exact M9 hq
  |cont=>exact M9 hq
theorem Cf(F:P5 X.prog X.w X.K X.mg X.base CX k f fd ps sp)(l:N4 k X.A)(n:Gl X x)(g:X.mg x=some (.ref f))(u:Y0 X.K (.ref f)=true)(o:Binds X.K fd ps ds)(hd:Vals dvs ds)(j:Passes CX X E)(v:PA X (e::es) t)(b:autoParam (bA x) j9)(i:autoParam (aH X e es) e8)(c:autoParam (cT X pos es) e8):
  PE X (.Call (.Name x p) (e::es) [] pos) (jO sp dvs E t):=by
 intro a s m H Q I h;refine jH (dN I n g ?_ b);refine jG I.ok.mod.ow u (m4 (v pos a s m H _ I h) λB z ⟨y,C,d,r,q⟩=>⟨d.L7,?_⟩) i c
 exact xX F l o hd j d r q
theorem Cb{pl:Sem Bool}(M:PE X o ta)(c:qN X.K C)(v:Meth X.K C m f)(F:P5 X.prog X.w X.K X.mg X.base CX k f fd ps sp)(N:N4 k X.A)(P:Binds X.K fd ps ds)(hd:Vals dvs ds)(B:Passes CX X E)(R:PA X (e::es) t)(d:autoParam (aH X e es) e8)(g:autoParam (cT X pos es) e8)(z:autoParam (Dj X o m apos (e::es) pos pl) e8):
  PE X (.Call (.Attribute o m apos) (e::es) [] pos) (jN C m sp dvs E ta t):=by
 intro b s n H Q I h;refine AQ (m4 (M b s n H _ I h) λu G ⟨x,O,p,D,a,Y,fs,L,y,l,q⟩=>?_) z
 subst L;obtain rfl:=D;refine sG p y c v l ?_;refine jG I.ok.mod.ow v.kp (m4 (R pos b G n O _ p q) λS V ⟨j,T,i,r,q2⟩=>⟨i.L7,?_⟩) d g
 exact xX (vs:=.ref a::j) F N P hd B i (.cons rfl r) q2
structure Mk(K:c9)(C f:Addr):Prop where
 makes:Ad K C=true
 init:O0 K (.ref C) "__init__" = some (some (.ref f))
 fn:pk K (.ref f)=true
 kp:Y0 K (.ref C)=true
theorem LQ{pins:List (Addr×Obj)}{d:St}{H:Hp}{s:c8}{Q:VK}{us:List b8}{vs:List V}(M:Mk X.K C f)(F:P5 X.prog X.w X.K X.mg X.base CX k f fd ps sp)(n:N4 (k+1) X.A)(z:Binds X.K fd ps ds)(hd:Vals dvs ds)(l:Passes CX X E)(I:Inv X pins d H s)(r:Vals vs us)(h:∀x c,H x=none->H c=none->c≠x->sp (.ref x::(vs++dvs)) (upd (upd H c (.own x)) x (.ins C c [])) (λv H2=>v=.non/\Q (.ref x) H2) E):
  wpAny (model X.prog X.w) X.A (call (.ref C) us) (EP X pins d Q) X.xe s:=by
 have hq:=h ((hz s)+1) (hz s) (I.i9.fresh (lE _)) (I.i9.fresh F0) (J6 (ua _));have b:=Inv.made (C:=C) I;have g:Vals (V.ref ((hz s)+1)::(vs++dvs)) (t7 ((hz s)+1)::(us++ds)):=.cons rfl (r.append hd);have p:(t7 ((hz s)+1)::us++ds).length=ps.length:=by have e:=g.length;rw[F.len _ _ _ _ hq]at e;exact e.symm
 refine jr (Na I.L7 M.makes M.init (beq_iff_eq.mp M.fn) (ju (F.run _ X.stack _ _ ⟨t7 ((hz s)+1)::us,[]⟩ (t7 ((hz s)+1)::(us++ds)) _ _ E (n.make C us [])
  (b.zh.make C us []) (z _ (t7 ((hz s)+1)::us) b.L7 p) g hq) λr q a=>?_))
 cases r with
 |error e=>exact l pins d _ _ e q b a
 |ok i =>
  cases i with
  |ret u =>
   obtain⟨v,y,j,o,t,m⟩:=b.after a;subst t;exact⟨o,⟨V.ref ((hz s)+1),y,j,rfl,m⟩⟩
  |next=>exact M9 a
  |brk=>exact M9 a
  |cont=>exact M9 a
theorem QZ(M:Mk X.K C f)(F:P5 X.prog X.w X.K X.mg X.base CX k f fd ps sp)(l:N4 (k+1) X.A)(n:Gl X x)(g:X.mg x=some (.ref C))(o:Binds X.K fd ps ds)(hd:Vals dvs ds)(j:Passes CX X E)(u:PA X (e::es) t)(b:autoParam (bA x) j9)(i:autoParam (aH X e es) e8)(c:autoParam (cT X pos es) e8):
  PE X (.Call (.Name x p) (e::es) [] pos) (OE C sp dvs E t):=by
 intro a s m H Q I h;refine jH (dN I n g ?_ b);refine jG I.ok.mod.ow M.kp (m4 (u pos a s m H _ I h) λz y ⟨v,B,d,r,q⟩=>⟨d.L7,?_⟩) i c
 exact LQ M F l o hd j d r q
end
section
variable{X:Cx}{CX:fq}{k:Nat}{f C:Addr}{fd:l9}{ps ks:List Str}{sp:Sp}{E:XK}{x m:Str}{p pos apos kpos:Pos}{e o:Expr}{es:List Expr}{kws:List jk}{te ta:TE}{t tk:TA}{nm:Option Str}
variable{g:List b8->List b8->List b8}{gV:List V->List V->List V}
end
structure R5(N P:List Str)(sc:E8):Prop where
 kind:sc.kind=.function
 co:sc.isCoroutine=false
 gen:sc.isGenerator=false
 nd:N.Nodup
 pre:N.take P.length=P
 par:∀x∈P,sc.names.lookup x=some .local\/sc.names.lookup x=some .cell
 UH:∀y∈sc.names,y.2≠.free
theorem wt{a:Str->Option gy}{x:Str}:∀{binds:List (Str×b8)} {m:Str->Option b8},(∀v,(x,v)∉binds)->bindL a binds m x=m x
 | [],_,_=>rfl
 |(n,v)::r,m,h=>by
  unfold bindL;rw[wt λw b=>h w (o8 _ b)]
  split
  . have:x≠n:=by rintro rfl;exact h v o2
    simp[this]
  . rfl
theorem wx{a:Str->Option gy}{x:Str}:∀{binds:List (Str×b8)} {m:Str->Option b8},(∀v,(x,v)∉binds)->bindC a binds m x=m x
 | [],_,_=>rfl
 |(n,v)::r,m,h=>by
  unfold bindC;rw[wx λw b=>h w (o8 _ b)]
  split
  . rfl
  . have:x≠n:=by rintro rfl;exact h v o2
    simp[this]
theorem wu{a:Str->Option gy}{x:Str}{v:b8}:∀{P:List Str} {vs:List b8} {i:Nat} {m:Str->Option b8},P.Nodup->P[i]? = some x->vs[i]? = some v->a x=some .local ->
  bindL a (P.zip vs) m x=some v
 | [],_,_,_,_,h,_,_=>by simp at h
 |_::_,[],_,_,_,_,h,_=>by simp at h
 |p::P,w::vs,0,m,nd,h1,h2,hk=>by
  simp at h1 h2;subst h1;subst h2;show bindL a ((p,w)::P.zip vs) m p=_
  unfold bindL;rw[wt λv b=>(List.nodup_cons.mp nd).1 (Ac b).1,d9 hk]
  simp
 |p::P,w::vs,i+1,m,nd,h1,h2,hk=>by
  show bindL a ((p,w)::P.zip vs) m x=_
  exact wu (List.nodup_cons.mp nd).2 (by simpa using h1) (by simpa using h2) hk
theorem wy{a:Str->Option gy}{x:Str}{v:b8}:∀{P:List Str} {vs:List b8} {i:Nat} {m:Str->Option b8},P.Nodup->P[i]? = some x->vs[i]? = some v->a x≠some .local ->
  bindC a (P.zip vs) m x=some v
 | [],_,_,_,_,h,_,_=>by simp at h
 |_::_,[],_,_,_,_,h,_=>by simp at h
 |p::P,w::vs,0,m,nd,h1,h2,hk=>by
  simp at h1 h2;subst h1;subst h2;show bindC a ((p,w)::P.zip vs) m p=_
  unfold bindC;rw[wx λv b=>(List.nodup_cons.mp nd).1 (Ac b).1,e7 hk]
  simp
 |p::P,w::vs,i+1,m,nd,h1,h2,hk=>by
  show bindC a ((p,w)::P.zip vs) m x=_
  exact wy (List.nodup_cons.mp nd).2 (by simpa using h1) (by simpa using h2) hk
noncomputable def start(N:List Str)(vs:List V):St:=vs.map some++w9 (N.length-vs.length) none
noncomputable def V4(CX:fq)(P:j3)(w:i7)(K:c9)(mg:Str->Option b8)(base:Heap)(N:List Str)(qual:Str)(scope:E8)(f:Addr)(cd:b8)(A:j6)(outer:List Env)(s:c8)(H:Hp)(E:XK):Cx where
 prog:=P
 ek:=E
 w:=w
 K:=K
 mg:=mg
 base:=base
 A:=A.deeper (K7 qual scope s.heap.objs.size f cd)
 N:=N
 K5:=s
 f6:=H
 env:=K7 qual scope s.heap.objs.size f cd
 outer:=outer
 stack:=K7 qual scope s.heap.objs.size f cd::outer
 ex:=[]
 calm:=true
 fn:=λ_=>true
 pn:=[]
 xe:=λe s'=>wpAny (model P w) (A.deeper (K7 qual scope s.heap.objs.size f cd)) (leaving (K7 qual scope s.heap.objs.size f cd) e) (λ_ s''=>CX outer H s E e s'') (λe' s''=>CX outer H s E e' s'') s'
theorem zp{sc:E8}{n:Nat}{x:Str}(h:sc.names.lookup x=some .cell):∃c,(cU n sc.names []).lookup x=some c:=by exact Option.isSome_iff_exists.mp (Kz sc.names n [] (.inl h))
noncomputable def CY(c:Bool)(CX:fq)(P:j3)(w:i7)(K:c9)(mg:Str->Option b8)(base:Heap)(N:List Str)(qual:Str)(scope:E8)(f:Addr)(cd:b8)(A:j6)(outer:List Env)(s:c8)(H:Hp)(E:XK):Cx:={V4 CX P w K mg base N qual scope f cd A outer s H E with calm:=c}
theorem Iy{c:Bool}{CX:fq}{P:j3}{w:i7}{K:c9}{mg:Str->Option b8}{base:Heap}{N m:List Str}{d:Str}{scope:E8}{f:Addr}{D:b8}{A:j6}{outer:List Env}{s s1:c8}{H:Hp}{E:XK}{us:List b8}{vs:List V}(S:R5 N m scope)(hd:c=true->A.handled=none)(j:rN P w K mg base A outer s H)(Q:vs.length=m.length)(r:Vals vs us)(x:InCallC s (hz s) (bindL (K7 d scope (hz s) f D).kindOf (m.zip us) λ_=>none) (cU ((hz s)+1) scope.names []) (bindC (K7 d scope (hz s) f D).kindOf (m.zip us) λ_=>none) s1):
  Inv (CY c CX P w K mg base N d scope f D A outer s H E) [] (start N vs) H s1:=by
 have:m.length<=N.length:=by have:=m5 tm S.pre;rw[tZ]at this;lia
 obtain⟨F,R,rfl,G⟩:=x.done;have l:∀b:Addr,b∉(CY c CX P w K mg base N d scope f D A outer s H E).ex:=λb z=>absurd (show b∈([])from z) q5
 refine⟨⟨j.mod,S.kind,rfl,rfl,C6 _,λy z c F g=>?_,λy o=>?_,λy c _ h=>?_,hd,Around.frames_deeper j.frames,.inr ⟨rfl,rfl⟩,λb z=>absurd z (l b),j.bs,j.jW,λb _ _=>l b,λb z=>absurd z (l b),j.dy,j.qF⟩,
  rfl,j.bare,Un.kept G,⟨_,x.toInCall.ns,λi y v F g T=>?_⟩,λy c h=>⟨_,x.cell y c h⟩,j.i9.fresh F0,λy c h=>?_,λp t=>absurd (show p∈([])from t) q5,j.i9.kept G,?_⟩
 . exact name_of_addr x.apart (jY F) (jY g)
 . have o:=o;rcases o with o|o
   . exact zp o
   . exact absurd rfl (S.UH _ (jY o))
 . exact zM (x.above y c (jY h))
 . have C:i<vs.length:=by
     unfold start at g;by_cases C:i<vs.length
     . exact C
     . rw[uG (by simpa using C)]at g
       rw[AX]at g;split at g<;>cases g
   have M:vs[i]? = some v:=by
    unfold start at g;rw[pR (by simpa using C),S6]at g
    cases e:vs[i]? with
    |none=>rw[e]at g;exact nE g
    |some a=>rw[e]at g;cases g;rfl
   obtain⟨u,I,L⟩:=r.get M;have t:m[i]? = some y:=by rw[<-S.pre,List.getElem?_take_of_lt (Nat.lt_of_lt_of_eq M8 M8)];exact F
   have B:m.Nodup:=by rw[<-S.pre];exact S.nd.sublist (List.take_sublist _ _)
   refine⟨u,L,?_⟩;rcases S.par y (pN t)with k|k
   . exact .inl ⟨k,wu B t I k⟩
   . obtain⟨c,e⟩:=zp k;refine .inr ⟨.inl k,c,e,?_⟩;have q:=x.cell y c e;rw[wy B t I (by show scope.names.lookup y≠_;rw[k];decide)]at q
     exact q
 . exact j.i9.fresh (zM (x.above y c (jY h)))
 . delta start;show _=N.length
   rw[A0,m9,AO];simp[*]
theorem ES {c:Bool} {CX:fq} {P:j3} {w:i7} {K:c9} {mg:Str->Option b8} {base:Heap} {k:Nat} {f:Addr} {name qual:Str} {params:Arguments} {body:List Stmt} {scope:E8} {dV kV doc pm cdv ct oc:b8} {an od:Option Addr} {osl:Array (Option b8)} {N ps:List Str} {sp:Sp} (lk:K.lookup f=some ⟨oc,od,.func (bc name qual params body scope dV kV doc pm an cdv ct),osl⟩) (hcd:px K cdv qual=true) (S:R5 N ps scope) (len:∀vs H Q E,sp vs H Q E->vs.length=ps.length) (hbody:∀(A:j6) (outer:List Env) (s:c8) (H:Hp) (vs:List V) (Q:VK) (E:XK),U2 c k (A.deeper (K7 qual scope s.heap.objs.size f cdv))->sp vs H Q E ->
   ∃t,eO (CY c CX P w K mg base N qual scope f cdv A outer s H E) body t/\t {nx:=λ_ H'=>Q .non H',rt:=Q} (start N vs) H) :
  ir c P w K mg base CX (k+1) f (bc name qual params body scope dV kV doc pm an cdv ct) ps sp:=by
 refine⟨len,λA outer s H args us vs Q E hr e0 hb r hsp=>?_⟩
 have hl:=len _ _ _ _ hsp;have KX:K.In s.heap:=e0.mod.ow.keeps λb o e=>(e0.bs b o e).1
 have lim:s.heap.NoLimit:=e0.mod.nolimit.keeps λb o e=>(e0.bs b o e).1
 have hkind:∀y∈ps.zip us,scope.names.lookup y.1=some .local\/(scope.names.lookup y.1=some .cell/\((cU (s.heap.objs.size+1) scope.names []).lookup y.1).isSome=true):=λ⟨n,v⟩ hy=>by
  rcases S.par n (Ac hy).1 with q|q
  . exact .inl q
  . exact .inr ⟨q,Kz _ _ _ (.inl q)⟩
 refine codeAny_call_function hr.depth (KX _ _ lk) rfl S.co S.gen rfl (PySem.W.codeRec_of KX hcd) (hb _ _ _ _ ?_);refine wpAny_newFunctionEnv_cells S.kind hkind λenv he s1 x=>?_
 subst he;refine⟨lim.keeps x.toInCall.keep,codeAny_func ?_⟩;obtain⟨t,ht,hq⟩:=hbody A outer s H vs Q E (hr.deeper _) hsp;have I:Inv (CY c CX P w K mg base N qual scope f cdv A outer s H E) [] (start N vs) H s1:=Iy S hr.hd e0 hl r x;refine P1 (ht [] s1 (start N vs) H _ I hq) (λfl s' hs=>?_) λe s' hs=>hs
 have fin:∀{σ':St} {H':Hp} {v:V} {u:b8},Inv (CY c CX P w K mg base N qual scope f cdv A outer s H E) [] σ' H' s'->RelV v u->Q v H'->CE outer P w H s Q u s' :=
  λ{σ' H' v u} J rv q=>⟨v,H',J.os,J.bare,J.base,J.i9,rv,q⟩
 cases fl with
 |ret u =>
  obtain⟨v,σ',H',J,rv,q⟩:=hs;exact fin J rv q
 |next =>
  obtain⟨σ',H',J,q⟩:=hs;exact fin (v:=V.non) (u:=N9) J rfl q
 |brk =>
  obtain⟨_,_,_,q⟩:=hs;exact M9 q
 |cont =>
  obtain⟨_,_,_,q⟩:=hs;exact M9 q
section
variable{X:Cx}{x:Str}{p pos:Pos}{e:Expr}{es:List Expr}{t:TA}{id T:String}{r:List V->Hp->VK->Prop}
noncomputable def xI(r:List V->Hp->VK->Prop)(t:TA):TE:=λσ H Q=>t σ H λvs H1=>r vs H1 Q
theorem yj(w:S7 X (.builtin id) r)(m:Gl X x)(f:X.mg x=none)(i:bW x=some (.builtin id))(y:PA X (e::es) t)(g:autoParam (x ≠ "__name__") j9)(b:autoParam (bA x) j9)(j:autoParam (aH X e es) e8)(c:autoParam (cT X pos es) e8):PE X (.Call (.Name x p) (e::es) [] pos) (xI r t):=by intro a s d H Q I h;refine jH (kQ I m f i ?_ g b);exact La (m4 (y pos a s d H _ I h) λo n ⟨l,q,u,k,v⟩=>w a n d q l o Q u k v) j c
theorem vI(w:S7 X (.type T) r)(m:Gl X x)(f:X.mg x=none)(i:bW x=some (.type T))(y:PA X (e::es) t)(g:autoParam (x ≠ "__name__") j9)(b:autoParam (bA x) j9)(j:autoParam (aH X e es) e8)(c:autoParam (cT X pos es) e8):PE X (.Call (.Name x p) (e::es) [] pos) (xI r t):=by intro a s d H Q I h;refine jH (kQ I m f i ?_ g b);exact uH (m4 (y pos a s d H _ I h) λo n ⟨l,q,u,k,v⟩=>w a n d q l o Q u k v) j c
end
end L2
namespace HT
open PySem PyProof.Rows
section
open PySem.SeqAt
open PySem.AutoSeq1 (wpAny_loadPart')
open PySem.MeetsSeq PySem.MeetsSeq2 PySem.MeetsSeq3
end
section
variable{prog:j3}{w:i7}{A:j6}{E:b8->c8->Prop}{s:c8}
theorem Si{t b:Addr}{vs ws:List b8}{Q:b8->c8->Prop}(x:IsTup s.heap t vs.toArray)(B:IsTup s.heap b ws.toArray)(p:vs≠[])(z:ws=[]->Q (.ref t) s)(y:ws≠[]->Q (.ref s.heap.objs.size) {s with heap:=s.heap.push {cls:=.type "tuple",data:=.seq (vs++ws).toArray}})(hsz:vs.length+ws.length<=j8):wpAny (model prog w) A (X0 .Add (.ref t) (.ref b)) Q E s:=by
 obtain⟨⟨l,v,g,q⟩,i,u,n,m⟩:=id x;obtain⟨⟨o,c,k,f⟩,a,d,r,h⟩:=id B;subst u m d h;have e:vs.toArray++ws.toArray=(vs++ws).toArray:=by simp
 by_cases j:ws=[]
 . exact tH ⟨_,i,rfl⟩ ⟨_,a,rfl⟩ Ak zU AS AW (AZ _ _)
     (tuple_addW1 t b vs.toArray ws.toArray n r v c q f (by simpa using p) (by simp[j])) ⟨i,a,z j⟩
 . refine tH ⟨_,i,rfl⟩ ⟨_,a,rfl⟩ Ak zU AS AW (AZ _ _)
     (tuple_addW2 t b vs.toArray ws.toArray n r v c q f (by simpa using p) (by simpa using j) (by rw[O1,O1];exact hsz)) ⟨i,a,?_⟩
   rw[e];exact y j
noncomputable def C4(n d:Nat):Option Int->Nat
 |none=>d
 |some v=>if v<0 then(v+(n:Int)).toNat else min v.toNat n
theorem CZ(v:Int)(n d:Nat):(if v<0 then max (v+(n:Int)) 0 else min v (n:Int))=((C4 n d (some v):Nat):Int):=by
 show(if v<0 then max (v+n) 0 else min v n)=(((if v<0 then(v+n).toNat else min v.toNat n)))
 by_cases a:v<0
 . simp only[d9 a];simp[*]
 . simp only[e7 a];lia
theorem Fg(lo a:Option Int)(n:Nat):KP lo a 1 (n:Int)=(((C4 n 0 lo:Nat):Int),((C4 n n a:Nat):Int)):=by
 refine Prod.ext ?_ ?_
 . cases lo with
   |none=>rfl
   |some v=>exact CZ v n 0
 . cases a with
   |none=>rfl
   |some v=>exact CZ v n n
theorem Eb(i j:Nat):uD (i:Int) (j:Int) 1=j-i:=by delta uD;split<;>lia
theorem rY{v:b8}{o:Option Int}{Q:Option Int->c8->Prop}(p:Z3 v o)(h:Q o s):wpAny (model prog w) A (Builtin.Slice.slicePartIndex v) Q E s:=by
 cases p with
 |none=>exact slicePart_none h
 |int i t=>exact slicePart_int h
theorem iF{f:Addr}{d e:b8}{lo c:Option Int}{n:Nat}{Q:Int×Int×Nat->c8->Prop}(hs:s.heap.IsSliceOf f d e .none)(pl:Z3 d lo)(i:Z3 e c)(h:Q (((C4 n 0 lo:Nat):Int),1,C4 n n c-C4 n 0 lo) s):wpAny (model prog w) A (Builtin.Slice.sliceApplied (.ref f) (pure (n:Int))) Q E s:=by
 obtain⟨j,a,g,b⟩:=id hs;refine d8 (d8 (H9 a b rfl (d8 (H9 a b rfl (d8 (H9 a b rfl (j4 ?_)))))));refine d8 (slicePart_none ?_);refine d8 (rY pl (d8 (rY i (d8 (j4 ?_)))));show wpAny _ _ (match KP lo c 1 n with|(lo,c)=>pure (lo,(1:Int),uD lo c 1)) _ _ s
 rw[Fg lo c n];show wpAny _ _ (pure (((C4 n 0 lo):Int),1,uD ((C4 n 0 lo)) ((C4 n n c)) 1)) _ _ s
 rw[Eb];exact j4 h
theorem MC(xs:Array b8)(i k:Nat):((aR k).filterMap λ(m:Nat)=>xs[((i:Int)+(m:Int)*1).toNat]?).toArray=((xs.toList.drop i).take k).toArray:=by
 have e:(λ(m:Nat)=>xs[((i:Int)+m*1).toNat]?)=λm=>xs[i+m]?:=by
  funext m
  have:((i:Int)+m*1).toNat=i+m:=by lia
  rw[this]
 rw[e];have:=pick_run xs i k;rw[List.filterMap_map]at this;have a:((λx=>xs[x]?)∘λx=>i+x)=λm=>xs[i+m]?:=rfl
 rw[a]at this;rw[this]
theorem qu{t i:Addr}{items:Array b8}{k j:b8}{lo b:Option Int}{Q:b8->c8->Prop}(c:IsTup s.heap t items)(hs:s.heap.IsSliceOf i k j .none)(pl:Z3 k lo)(p:Z3 j b)(l:¬(C4 items.size 0 lo=0/\C4 items.size items.size b=items.size))(h:Q (.ref s.heap.objs.size) {s with heap:=s.heap.push {cls:=.type "tuple",data:=.seq ((items.toList.drop (C4 items.size 0 lo)).take (C4 items.size items.size b-C4 items.size 0 lo)).toArray}})(hsz:items.size<=j8):wpAny (model prog w) A (bS (.ref t) (.ref i)) Q E s:=by
 have a:sizeOk (.seq ((items.toList.drop (C4 items.size 0 lo)).take (C4 items.size items.size b-C4 items.size 0 lo)).toArray):=by
  show((items.toList.drop (C4 items.size 0 lo)).take (C4 items.size items.size b-C4 items.size 0 lo)).toArray.size<=j8
  rw[O1,tZ,lL,AK];exact t4 (Aj _ _) (t4 (Nat.sub_le _ _) M8)
 obtain⟨o,g,d,n⟩:=id hs;have e:s.TypeIs (.ref i) "slice":=⟨o,g,d⟩;delta bS;try with_reducible refine jy ?_
 first|refine d8 (j4 ?_)|skip
 refine d8 (wpAny_sequenceKey c.typeIs v7 ?_);refine d8 (nj c.typeIs uI
  (jE uI c.typeIs entry_tuple_getitem ?_ (args_tuple_getitem _ _)))
 show wpAny _ _ (KS (.ref t) >>= _) _ _ s
 refine d8 (tupleItemsOf_ c ?_);refine d8 (tG e ?_);refine d8 (iF hs pl p ?_);have f:¬((((C4 items.size 0 lo):Int)==0&&(1:Int)==1&&(C4 items.size items.size b-C4 items.size 0 lo)==items.size)=true):=by exact λq=>l ⟨by simp_all,by lia⟩
 show wpAny _ _ (if (((C4 items.size 0 lo):Int)==0&&1==1&&(C4 items.size items.size b-C4 items.size 0 lo)==items.size)=true then _ else _) _ _ s
 rw[e7 f,MC];first
  |exact d8 (iq (j4 ⟨_,rfl,j4 h⟩) a)
  |exact d8 (iq (d8 (j4 (j4 ⟨_,rfl,j4 h⟩))) a)
  |exact d8 (d8 (iq (j4 (j4 ⟨_,rfl,j4 h⟩)) a))
  |exact d8 (d8 (iq (j4 ⟨_,rfl,j4 h⟩) a))
end
end HT
namespace L2
open PySem PySem.Spec PyProof.Rows
noncomputable abbrev TO:=St->Hp->(Option Int->Hp->Prop)->Prop
noncomputable def PO(X:Cx)(e:Option Expr)(t:TO):Prop :=
 ∀(pins:List (Addr×Obj)) (s:c8) (σ:St) (H:Hp) (Q:Option Int->Hp->Prop),Inv X pins σ H s->t σ H Q ->
  wpAny (model X.prog X.w) X.A (evalPart e X.env) (λu s'=>∃o H',Inv X pins σ H' s'/\Z3 u o/\Q o H') X.xe s
noncomputable def BJ:TO:=λ_ H Q=>Q none H
noncomputable def OB(t:TE):TO:=λσ H Q=>t σ H λx H1=>∃i,x=.int i/\Q (some i) H1
section
variable{X:Cx}{e:Expr}{te:TE}{lo hi:Option Expr}{tl th:TO}{pos p2:Pos}
theorem QU:PO X none BJ:=by exact λa s b H Q I h=>j4 ⟨none,H,I,.none,h⟩
theorem QT(h:PE X e te):PO X (some e) (OB te):=by
 intro a s d H Q I b;refine m4 (h a s d H _ I b) λu k ⟨x,f,g,c,j⟩=>?_
 obtain⟨i,rfl,q⟩:=j;obtain⟨t,rfl⟩:=c;exact⟨some i,f,g,.int i t,q⟩
noncomputable def nK(X:Cx)(r:V->Option Int->Option Int->Hp->VK->Prop):Prop :=
 ∀(pins:List (Addr×Obj)) (s:c8) (σ:St) (H:Hp) (x:V) (v vl vu:b8) (lo hi:Option Int) (sl:Addr) (Q:VK),Inv X pins σ H s->RelV x v->s.heap.IsSliceOf sl vl vu .none->Z3 vl lo->Z3 vu hi->r x lo hi H Q ->
  ∃T id,sZ (.type T) "__getitem__" = pure (some (.builtin id))/\s.TypeIs v T/\wpAny (model X.prog X.w) X.A (bS v (.ref sl)) (EP X pins σ Q) X.xe s
theorem nK.or{r c:V->Option Int->Option Int->Hp->VK->Prop}(h:nK X r)(h':nK X c):nK X (λx lo b H Q=>r x lo b H Q\/c x lo b H Q):=by
 intro a s f H x v i e lo b k Q I g j d l q;rcases q with q|q
 . exact h a s f H x v i e lo b k Q I g j d l q
 . exact h' a s f H x v i e lo b k Q I g j d l q
noncomputable def WT(r:V->Option Int->Option Int->Hp->VK->Prop)(te:TE)(tl th:TO):TE:=λσ H Q=>te σ H λx H1=>tl σ H1 λl H2=>th σ H2 λu H3=>r x l u H3 Q
theorem MF{r:V->Option Int->Option Int->Hp->VK->Prop}(F:nK X r)(D:PE X e te)(n:PO X lo tl)(y:PO X hi th):PE X (.Subscript e (.Slice lo hi none p2) pos) (WT r te tl th):=by
 intro a s d H Q I h;refine sY (m4 (D a s d H _ I h) λv o ⟨x,L,t,G,M⟩=>?_)
 refine wpAny_Slice (m4 (n a o d L _ t M) λg E ⟨l,z,m,B,q2⟩=>m4 (y a E d z _ m q2) λf c ⟨u,i,O,N,k⟩=>?_)
 refine j4 ?_;have C:Inv X a d i {c with heap:=c.heap.push {cls:=.type "slice",data:=.fields #[g,f,.none]}}:=O.kept λb P q=>o9 _ q
 obtain⟨T,R,p,j,K⟩:=F a {c with heap:=c.heap.push {cls:=.type "slice",data:=.fields #[g,f,.none]}} d i x v g f l u (hz c) Q C G (JS ..) B N k
 exact tail_any j p K (by with_unfolding_all rfl)
noncomputable def mW(xs:List V)(lo hi:Option Int):List V:=(xs.drop (HT.C4 xs.length 0 lo)).take (HT.C4 xs.length xs.length hi-HT.C4 xs.length 0 lo)
theorem qH(xs:List V)(lo a:Option Int):(mW xs lo a).length<=xs.length:=by delta mW;rw[tZ,lL];exact t4 (Aj _ _) (Nat.sub_le _ _)
noncomputable def Xy(K:c9):V->Option Int->Option Int->Hp->VK->Prop:=λx lo hi H Q=>∃a xs,x=.ref a/\P0 K H a xs /\
 ¬(HT.C4 xs.length 0 lo=0/\HT.C4 xs.length xs.length hi=xs.length)/\∀p,H p=none->Q (.ref p) (upd H p (.tup (mW xs lo hi)))
theorem Te:nK X (Xy X.K):=by
 intro k s y H x v A w e f B Q I p t l u h;obtain⟨a,d,rfl,n,m,q⟩:=h;cases p;obtain⟨g,r,i,j⟩:=I.tuple n;have c:g.toArray.size=d.length:=by rw[O1];exact r.length.symm
 refine⟨"tuple",_,PyProof.Rows.slot_tuple_getitem.lookup,i.typeIs,?_⟩;refine HT.qu i t l u (by rw[c];exact m) ?_ (by rw[c];exact j)
 rw[c];refine⟨.ref s.heap.objs.size,_,I.laid (λb z q=>o9 _ q) F0 ?_,rfl,q _ (I.i9.fresh F0)⟩
 exact⟨t4 (qH d e f) j,_,(r.drop (HT.C4 d.length 0 e)).take (HT.C4 d.length d.length f-HT.C4 d.length 0 e),oY _ _⟩
noncomputable def Wc(K:c9):R2:=λx y H Q=>∃a b xs ys,x=.ref a/\y=.ref b/\P0 K H a xs/\P0 K H b ys/\xs≠[]/\xs.length+ys.length<=j8 /\
 (ys=[]->Q (.ref a) H)/\(ys≠[]->∀p,H p=none->Q (.ref p) (upd H p (.tup (xs++ys))))
theorem Vals.qc{xs:List V}{us:List b8}(r:Vals xs us):us=[]↔xs=[]:=by
 cases r with
 |nil=>simp
 |cons _ _=>simp
theorem Rn:F4 X (X0 .Add) (Wc X.K):=by
 intro g s t H x y v u Q I k m h;obtain⟨a,b,B,C,rfl,rfl,r,o,j,f,n,q2⟩:=h;cases k;cases m;obtain⟨p,d,i,_⟩:=I.tuple r;obtain⟨e,c,l,_⟩:=I.tuple o;refine HT.Si i l (λz=>j (d.qc.mp z)) (λz=>⟨.ref a,H,I,rfl,n (c.qc.mp z)⟩) (λz=>?_) (by rw[<-d.length,<-c.length];exact f)
 refine⟨.ref s.heap.objs.size,_,I.laid (λb A q=>o9 _ q) F0 ?_,rfl,q2 (λw=>z (c.qc.mpr w)) _ (I.i9.fresh F0)⟩
 exact⟨by rw[A0];exact f,_,d.append c,oY _ _⟩
end
noncomputable def CA(n:Nat)(i:Int):Option Nat:=if 0<=i then(if i<n then some i.toNat else none)else if -(n:Int)<=i then some (i+n).toNat else none
noncomputable def O4{α:Type}(xs:List α)(i:Int):Option α:=(CA xs.length i).bind λj=>xs[j]?
theorem RN{n:Nat}{i:Int}{j:Nat}(h:CA n i=some j):seqIndex? i n=some j/\j<n/\-(n:Int)<=i/\i<n:=by
 unfold CA at h;by_cases b:0<=i
 . rw[d9 b]at h;by_cases a:i<n
   . rw[d9 a]at h;exact⟨by rw[seqIndex_of b a,(V6 h)],by lia,by lia,a⟩
   . rw[e7 a]at h;exact nE h
 . rw[e7 b]at h;by_cases a : -n<=i
   . rw[d9 a]at h;exact⟨by rw[seqIndex_neg (Int.not_le.1 M8) a,(V6 h)],by lia,a,by lia⟩
   . rw[e7 a]at h;exact nE h
theorem vm{a:Type}{xs:List a}{i:Int}{v:a}(h:O4 xs i=some v):∃j,seqIndex? i xs.length=some j/\xs[j]? = some v/\j<xs.length/\-(xs.length:Int)<=i/\i<xs.length:=by obtain⟨j,e,h⟩:=d4 h;obtain⟨d,b,c,f⟩:=RN e;exact⟨j,d,h,b,c,f⟩
noncomputable def Di(b:Expr):Prop:=∀o i,subscripted b false o i=operate [o,i] (bS o i)
noncomputable def qL(X:Cx)(r:R2):Prop :=
 ∀(value slice:Expr) (pins:List (Addr×Obj)) (s:c8) (σ:St) (H:Hp) (x y:V) (v u:b8) (Q:VK),Inv X pins σ H s->RelV x v->RelV y u->r x y H Q ->
  subscripted slice false v u=operate [v,u] (bS v u)->wpAny (model X.prog X.w) X.A (subscriptTail value slice v u) (EP X pins σ Q) X.xe s
noncomputable def sT(X:Cx)(id:String)(r:V->List V->Hp->VK->Prop):Prop :=
 ∀(pins:List (Addr×Obj)) (s:c8) (σ:St) (H:Hp) (x:V) (xs:List V) (v:b8) (us:List b8) (Q:VK),Inv X pins σ H s->RelV x v->Vals xs us->r x xs H Q ->
  wpAny (model X.prog X.w) X.A (call (.builtin id) (v::us)) (EP X pins σ Q) X.xe s
structure Le(X:Cx)(o:Expr)(m:Str)(a:Pos)(e:Expr)(es:List Expr)(c:Pos):Prop where
 b:Bd X o m
 f:((R1 c (u4 (e::es) X.env)).all (λx=>!x.1)&&(lx c (lF [] X.env)).all (λx=>x.1.isSome)
   && decide ((e::es).length+([]:List jk).length+(if ([]:List jk).isEmpty then 0 else 1)<30))=true
 l:(a.endLine==c.line)=true
 s:aH X e es
 p:cT X c es
section
variable{X:Cx}{a b:Expr}{ta tb:TE}{pos:Pos}
theorem qL.or{r d:R2}(h:qL X r)(h':qL X d):qL X (λx y H Q=>r x y H Q\/d x y H Q):=by
 intro b a c s f H x y v u Q I g e q i;rcases q with q|q
 . exact h b a c s f H x y v u Q I g e q i
 . exact h' b a c s f H x y v u Q I g e q i
theorem Wo{r:R2}(f:qL X r)(m:PE X a ta)(l:PE X b tb)(hs:Di b):PE X (.Subscript a b pos) (qv r ta tb):=by exact λc s j H Q I h=>sY (NZ m l I h λv u e x y d g k i q=>f a b c e j d x y v u Q g k i q (hs _ _))
noncomputable def Tz(K:c9):R2:=λx y H Q=>∃p xs i v,x=.ref p/\y=.int i/\F3 K H p xs/\O4 xs i=some v/\Q v H
noncomputable def Tv(K:c9):R2:=λx y H Q=>∃p xs i v,x=.ref p/\y=.int i/\P0 K H p xs/\O4 xs i=some v/\Q v H
noncomputable def Tx:R2:=λx y H Q=>∃z i c,x=.str z/\y=.int i/\z.length<=j8/\O4 z.cps.toList i=some c/\Q (.str ⟨#[c]⟩) H
theorem RM:qL X (Tz X.K):=by
 intro e k a s n H x y v u Q I D L h o;obtain⟨p,R,i,z,rfl,rfl,hq,F,q⟩:=h;cases D;obtain⟨t,rfl⟩:=L;obtain⟨l,r,f,O⟩:=I.list hq;obtain⟨j,c,C,P,G,E⟩:=vm F;obtain⟨w,A,g⟩:=r.get C;have B:=r.length;have:=kP;have b:EP X a n Q w s:=⟨z,H,I,g,q⟩;by_cases m:0<=i
 . have d:i.toNat=j:=by rw[seqIndex_of m E]at c;exact V6 c
   exact item_listR f.isList m X8 (by rw[d];simpa using A) b o
 . have d:(i+l.toArray.size).toNat=j:=by rw[seqIndex_neg (Int.not_le.1 M8) G]at c;rw[O1,<-B];exact V6 c
   exact Ky f.isList.typeIs slot_list_getitem.lookup
    (wpAny_getItem_list_neg f.isList (Int.not_le.1 M8) (by rw[O1]<;>simp_all) X8 (by rw[d];simpa using A) ⟨rfl,b⟩) o
theorem UU:qL X (Tv X.K):=by
 intro a c d s C H x y v u Q I g l h n;obtain⟨p,G,i,z,rfl,rfl,hq,k,q⟩:=h;cases g;obtain⟨t,rfl⟩:=l;obtain⟨o,r,e,B⟩:=I.tuple hq;obtain⟨j,m,f,D,F,E⟩:=vm k;obtain⟨w,A,b⟩:=r.get f;have:=kP;exact Ky e.typeIs slot_tuple_getitem.lookup
  (getItem_tuple e X8 X8 (by rw[O1,<-r.length];exact m) (by simpa using A) ⟨rfl,(⟨z,H,I,b,q⟩)⟩) n
theorem UW:qL X Tx:=by
 intro a b d s C H x y v u Q I k p h w;obtain⟨z,i,c,rfl,rfl,B,n,q⟩:=h;obtain⟨t,rfl⟩:=k;obtain⟨D,rfl⟩:=p;obtain⟨j,e,g,E,o,l⟩:=vm n;have f:z.cps.toList.length=z.length:=by simp[Str.length]
 rw[f]at e o l;have:=kP;exact tail_any (jq s z t) slot_str_getitem.lookup (getItem_str (by have r:decide (i < -(2 ^ 63))=false:=D7 X8;have m:decide (i>=2 ^ 63)=false:=D7 X8;rw[r,m,zT]) (by rw[e];simpa using g) ⟨.str ⟨#[c]⟩,H,I.tok _,⟨_,rfl⟩,q⟩) w
noncomputable def TB(K:c9):R2:=λx y H Q=>Tz K x y H Q\/Tv K x y H Q\/Tx x y H Q
theorem UX:qL X (TB X.K):=RM.or (UU.or UW)
theorem xP(lo a:Option Int)(n:Nat):(jt lo a none n).1=((HT.C4 n 0 lo:Nat):Int)/\(jt lo a none n).2.1=((HT.C4 n n a:Nat):Int)/\(jt lo a none n).2.2=1:=by
 refine⟨?_,?_,rfl⟩
 . cases lo with
   |none=>simp[jt,HT.C4]
   |some i =>
    simp only[jt,HT.C4,JC];by_cases h:i<0
    . simp only[h]<;>lia
    . simp only[h]<;>lia
 . cases a with
   |none=>simp[jt,HT.C4]
   |some i =>
    simp only[jt,HT.C4,JC];by_cases h:i<0
    . simp only[h]<;>lia
    . simp only[h]<;>lia
theorem wD(a:List b8)(lo b:Option Int):sV a.toArray lo b none=((a.drop (HT.C4 a.length 0 lo)).take (HT.C4 a.length a.length b-HT.C4 a.length 0 lo)).toArray:=by obtain⟨e,c,d⟩:=xP lo b a.toArray.size;delta sV;rw[e,c,d];simp only[sliceRange_one,pick_run]<;>rfl
noncomputable def Tt(K:c9):V->Option Int->Option Int->Hp->VK->Prop:=λx lo hi H Q=>∃a xs,x=.ref a/\F3 K H a xs/\∀p,H p=none->Q (.ref p) (upd H p (.lst (mW xs lo hi)))
theorem Ql:nK X (Tt X.K):=by
 intro i s w H x v z u e f A Q I n p j t h;obtain⟨a,c,rfl,k,q⟩:=h;cases n;obtain⟨l,r,g,m⟩:=I.list k;have d:=r.length;refine⟨"list",_,slot_list_getitem.lookup,g.isList.typeIs,?_⟩;refine AY g.isList p j t .none q5 ?_ (by rw[O1]<;>simp_all)
 rw[wD,<-d];refine⟨.ref s.heap.objs.size,_,I.laid (λb y q=>o9 _ q) F0 ?_,rfl,q _ (I.i9.fresh F0)⟩
 exact⟨t4 (qH c e f) m,_,0,(r.drop (HT.C4 c.length 0 e)).take (HT.C4 c.length c.length f-HT.C4 c.length 0 e),J8 _ rfl⟩
noncomputable def af:V->Bool
 | .non=>true
 | .bl _=>true
 | .int _=>true
 | .str _=>true
 |_=>false
noncomputable def sP:V->V->Bool
 | .non,.non=>true
 | .bl a,.bl b=>a==b
 | .bl a,.int b=>(if a then 1 else 0)==b
 | .int a,.bl b=>a==(if b then 1 else 0)
 | .int a,.int b=>a==b
 | .str a,.str b=>a==b
 |_,_=>false
theorem Vf{A:j6}{s:c8}{y x:V}{u v:b8}(f:RelV y u)(c:RelV x v)(g:af y=true)(e:af x=true):sX A s u v (sP y x):=by
 cases y with
 |non =>
  cases f;cases x with
  |non=>cases c;exact Jx _
  |bl b=>cases c;exact SeqAt.EqAt.none_bool b
  |int b=>obtain⟨t,rfl⟩:=c;exact SeqAt.EqAt.none_int b t
  |str b=>obtain⟨t,rfl⟩:=c;exact SeqAt.EqAt.none_str b t
  |_=>exact absurd (show false=true from e) U4
 |bl a =>
  cases f;cases x with
  |non=>cases c;exact Kn a
  |bl b=>cases c;exact SeqAt.EqAt.bool_bool a b
  |int b=>obtain⟨t,rfl⟩:=c;exact SeqAt.EqAt.bool_int a b t
  |str b=>obtain⟨t,rfl⟩:=c;exact SeqAt.EqAt.bool_str a b t
  |_=>exact absurd (show false=true from e) U4
 |int a =>
  obtain⟨d,rfl⟩:=f;cases x with
  |non=>cases c;exact Kc a d
  |bl b=>cases c;exact SeqAt.EqAt.int_bool a d b
  |int b=>obtain⟨t,rfl⟩:=c;exact SeqAt.EqAt.int_int a d b t
  |str b=>obtain⟨t,rfl⟩:=c;exact JU a d b t
  |_=>exact absurd (show false=true from e) U4
 |str a =>
  obtain⟨d,rfl⟩:=f;cases x with
  |non=>cases c;exact Kb a d
  |bl b=>cases c;exact SeqAt.EqAt.str_bool a d b
  |int b=>obtain⟨t,rfl⟩:=c;exact JT a d b t
  |str b=>obtain⟨t,rfl⟩:=c;exact SeqAt.EqAt.str_str a d b t
  |_=>exact absurd (show false=true from e) U4
 |_=>exact absurd (show false=true from g) U4
noncomputable def iV(x:V)(u:b8):Bool:=match u with
 | .none=>sP .non x
 | .bool b=>sP (.bl b) x
 | .int i _=>sP (.int i) x
 | .str z _=>sP (.str z) x
 |_=>false
theorem IM{x y:V}{u:b8}(r:RelV y u)(f:af y=true):iV x u=sP y x:=by
 cases y with
 |non=>cases r;rfl
 |bl b=>cases r;rfl
 |int i=>obtain⟨t,rfl⟩:=r;rfl
 |str z=>obtain⟨t,rfl⟩:=r;rfl
 |_=>exact absurd (show false=true from f) U4
theorem kZ{x:V}:∀{xs:List V} {us:List b8},Vals xs us->xs.all af=true->us.any (iV x)=xs.any λy=>sP y x
 |_,_,.nil,_=>rfl
 |y::xs,u::us,.cons r t,f=>by rw[bC,aj]at f;rw[fg,fg,IM r f.1,kZ t f.2]
theorem iQ{A:j6}{s:c8}{x:V}{v:b8}(c:RelV x v)(b:af x=true):∀{xs:List V} {us:List b8},Vals xs us->xs.all af=true->∀u∈us,sX A s u v (iV x u)
 |_,_,.nil,_=>λu a=>by cases a
 |y::xs,u::us,.cons r t,f=>λd a=>by
  rw[bC,aj]at f;rcases List.mem_cons.mp a with rfl|a
  . rw[IM r f.1];exact Vf r c f.1 b
  . exact iQ c b t f.2 d a
noncomputable def sA(x:V)(xs:List V):Bool:=xs.any λy=>sP y x
noncomputable def GB(K:c9)(neg:Bool):R2:=λx y H Q=>∃p xs,y=.ref p/\(F3 K H p xs\/P0 K H p xs)/\af x=true/\xs.all af=true/\Q (.bl (if neg then !sA x xs else sA x xs)) H
theorem Hi:F4 X (C9 .In) (GB X.K false):=by
 intro f s j H x y v u Q I e i h;obtain⟨p,k,rfl,hq,d,fs,q⟩:=h;cases i;rcases hq with hq|hq
 . obtain⟨a,r,b,g⟩:=I.list hq;refine Jw (iV x) b.isList (λw c=>iQ e d r fs w (by simpa using c)) ⟨.bl _,H,I,rfl,?_⟩
   rw[show a.toArray.any (iV x)=a.any (iV x) by simp,kZ r fs]
   exact q
 . obtain⟨a,r,b,g⟩:=I.tuple hq;refine SeqAt.in_tupleAt (iV x) b (λw c=>iQ e d r fs w (by simpa using c)) ⟨.bl _,H,I,rfl,?_⟩
   rw[show a.toArray.any (iV x)=a.any (iV x) by simp,kZ r fs]
   exact q
theorem ym:F4 X (C9 .NotIn) (GB X.K true):=by
 intro f s j H x y v u Q I e i h;obtain⟨p,k,rfl,hq,d,fs,q⟩:=h;cases i;rcases hq with hq|hq
 . obtain⟨a,r,b,g⟩:=I.list hq;refine SeqAt.notIn_listAt (iV x) b.isList (λw c=>iQ e d r fs w (by simpa using c)) ⟨.bl _,H,I,rfl,?_⟩
   rw[show a.toArray.any (iV x)=a.any (iV x) by simp,kZ r fs]
   exact q
 . obtain⟨a,r,b,g⟩:=I.tuple hq;refine SeqAt.notIn_tupleAt (iV x) b (λw c=>iQ e d r fs w (by simpa using c)) ⟨.bl _,H,I,rfl,?_⟩
   rw[show a.toArray.any (iV x)=a.any (iV x) by simp,kZ r fs]
   exact q
theorem yl:F4 X (C9 .NotIn) (λx y H Q=>∃i j,x=.str i/\y=.str j/\Q (.bl (!(!(nk j i 0 j.length 1).isEmpty))) H):=by intro a s d H x y v u Q I c b h;obtain⟨i,j,rfl,rfl,q⟩:=h;obtain⟨t,rfl⟩:=c;obtain⟨e,rfl⟩:=b;exact notIn_str ⟨.bl _,H,I,rfl,q⟩
theorem zt:S7 X (.builtin "len") (λxs H Q=>∃p ys,xs=[.ref p]/\(F3 X.K H p ys\/P0 X.K H p ys)/\Q (.int ys.length) H):=by
 intro e s j H xs k Q I r h;obtain⟨p,ys,rfl,hq,q⟩:=h;obtain⟨u,rfl,g⟩:=vals1 r;cases g;have:=kP;rcases hq with hq|hq
 . obtain⟨d,b,c,f⟩:=I.list hq;have a:=b.length;exact Calls.call_len_list c.isList (by simp only[O1]<;>lia) ⟨.int ys.length,H,I.tok _,⟨s.toks+1,by rw[O1,a]⟩,q⟩
 . obtain⟨d,b,c,f⟩:=I.tuple hq;have a:=b.length;exact len_tuple c (by simp only[O1]<;>lia) ⟨.int ys.length,H,I.tok _,⟨s.toks+1,by rw[O1,a]⟩,q⟩
theorem zr:S7 X (.builtin "len") (λxs H Q=>∃z,xs=[.str z]/\z.length<=j8/\Q (.int z.length) H):=by intro a s d H xs e Q I r h;obtain⟨z,rfl,c,q⟩:=h;obtain⟨u,rfl,t,rfl⟩:=vals1 r;have:=kP;exact len_str X8 ⟨.int z.length,H,I.tok _,⟨_,rfl⟩,q⟩
theorem S7.or{f:b8}{r c:List V->Hp->VK->Prop}(h:S7 X f r)(h':S7 X f c):S7 X f (λxs H Q=>r xs H Q\/c xs H Q):=by
 intro a s b H xs e Q I d q;rcases q with q|q
 . exact h a s b H xs e Q I d q
 . exact h' a s b H xs e Q I d q
theorem oM:S7 X (.type "list") (λxs H Q=>∃p ys,xs=[.ref p]/\(F3 X.K H p ys\/P0 X.K H p ys)/\∀l,H l=none->Q (.ref l) (upd H l (.lst ys))):=by
 intro k s A H xs C Q I r h;obtain⟨p,ys,rfl,hq,q⟩:=h;obtain⟨u,rfl,B⟩:=vals1 r;cases B;have m:∀a,Vals ys a->ys.length<=j8->∀c d,(∀b z,s.heap.get? b=some z->c.get? b=some z) ->
   c.get? s.heap.objs.size=some {cls:=.type "list",dict:=none,data:=.seq a.toArray d,slots:=#[]}->EP X k A Q (.ref s.heap.objs.size) {s with heap:=c}:=λa f i c d j e =>
  ⟨.ref s.heap.objs.size,_,I.laid j F0 (show G9 X.prog X.w _ c _ (.lst ys)from⟨i,a,d,f,e⟩),rfl,q _ (I.i9.fresh F0)⟩
 rcases hq with hq|hq
 . obtain⟨a,f,x,i⟩:=I.list hq;have:=f.length;obtain⟨o,v,y,n,t⟩:=x.isList;exact call_list_seq p (.inl rfl) v y t (λc d j e=>m a f i c d j e) (by simp only[O1]<;>simp_all)
 . obtain⟨a,f,x,i⟩:=I.tuple hq;have:=f.length;obtain⟨o,v,y,n,t⟩:=x;exact call_list_seq p (.inr rfl) v y t (λc d j e=>m a f i c d j e) (by simp only[O1]<;>simp_all)
theorem wV:S7 X (.type "tuple") (λxs H Q=>∃p ys,xs=[.ref p]/\((F3 X.K H p ys/\∀l,H l=none->Q (.ref l) (upd H l (.tup ys)))\/(P0 X.K H p ys/\Q (.ref p) H))):=by
 intro a s k H xs x Q I r h;obtain⟨p,ys,rfl,h⟩:=h;obtain⟨u,rfl,t⟩:=vals1 r;cases t;rcases h with ⟨hq,q⟩|⟨hq,q⟩
 . obtain⟨c,f,g,j⟩:=I.list hq;have:=f.length;refine call_tuple_list g.isList (λd v=>?_) (by simp only[O1]<;>simp_all)
   have m:Inv X a k H {s with heap:=d}:=I.kept v
   have n:Inv X a k (upd H d.objs.size (.tup ys)) {s with heap:=d.push {cls:=.type "tuple",data:=.seq c.toArray}} :=
    m.laid (λb o e=>o9 _ e) F0 (show G9 X.prog X.w _ _ _ (.tup ys)from⟨j,c,f,oY _ _⟩)
   exact⟨.ref d.objs.size,_,n,rfl,q _ (m.i9.fresh F0)⟩
 . obtain⟨c,f,g,j⟩:=I.tuple hq;exact call_tuple_same g ⟨.ref p,H,I,rfl,q⟩
noncomputable def SK(K:c9)(T:String)(x:V)(H:Hp):Prop:=match x with
 | .str _=>T = "str"
 | .int _=>T = "int"
 | .ref p=>(T = "list"/\∃xs,F3 K H p xs)\/(T = "tuple"/\∃o,K.lookup p=some o/\o.cls=.type "tuple"/\o.dict=none) \/
   (T = "dict"/\((∃kvs,H p=some (.dK kvs))\/∃kvs,H p=some (.dT kvs)))\/(T = "set"/\∃S n,H p=some (.set S n))
 |_=>False
theorem FI{pins:List (Addr×Obj)}{k:St}{H:Hp}{s:c8}{T:String}{x:V}{v:b8}(I:Inv X pins k H s)(r:RelV x v)(ty:SK X.K T x H):
  s.TypeIs v T/\∀a,v=.ref a->∃ob,s.heap.get? a=some ob/\ob.dict=none:=by
 cases x with
 |str z =>
  obtain⟨t,rfl⟩:=r;cases(show T = "str" from ty)
  exact⟨jq s z t,λ_ e=>nomatch e⟩
 |int i =>
  obtain⟨t,rfl⟩:=r;cases(show T = "int" from ty)
  exact⟨typeIs_int s i t,λ_ e=>nomatch e⟩
 |ref p =>
  cases r;rcases ty with ⟨rfl,q,hq⟩|⟨rfl,o,b,l,f⟩|⟨rfl,b⟩|⟨rfl,S,n,b⟩
  . obtain⟨m,_,j,_⟩:=I.list hq;refine⟨j.isList.typeIs,λa e=>?_⟩
    cases e;obtain⟨o,n,e,c,f,_⟩:=j;exact⟨o,e,f⟩
  . refine⟨⟨o,I.L7 p o b,l⟩,λa e=>?_⟩
    cases e;exact⟨o,I.L7 _ o b,f⟩
  . have z:∃o,s.heap.get? p=some o/\o.ExactDict:=by
      rcases b with ⟨g,b⟩|⟨g,b⟩
      . obtain⟨_,_,_,_,o,_,_,e,d,_⟩:=I.i9 p _ b;exact⟨o,e,d⟩
      . obtain⟨_,_,_,_,o,_,_,e,d,_⟩:=I.i9 p _ b;exact⟨o,e,d⟩
    obtain⟨o,e,d⟩:=z;refine⟨⟨o,e,d.1⟩,λa h=>?_⟩
    cases h;exact⟨o,e,d.2.1⟩
  . obtain⟨o,_,_,_,e,d,_⟩:=I.i9 p _ b;refine⟨⟨o,e,d.1⟩,λa h=>?_⟩
    cases h;exact⟨o,e,d.2.1⟩
 |_=>exact M9 ty
noncomputable def LC(K:c9)(T:String)(r:V->List V->Hp->VK->Prop)(to:TE):TE:=λσ H Q=>to σ H λx H1=>SK K T x H1/\r x [] H1 Q
noncomputable def Ga(K:c9)(T:String)(r:V->List V->Hp->VK->Prop)(to:TE)(t:TA):TE:=λσ H Q=>to σ H λx H1=>SK K T x H1/\t σ H1 λxs H2=>r x xs H2 Q
variable{o e:Expr}{es:List Expr}{to:TE}{t:TA}{name:Str}{apos cpos:Pos}{T id:String}{r:V->List V->Hp->VK->Prop}
theorem Hd(k:PlainAttrs T)(slot:Slot T name id)(d:typeOf (.builtin id)=pure (.type "method_descriptor"))(i:sT X id r)(j:PE X o to)(b:autoParam (Bd X o name) e8)(c:autoParam ((apos.endLine==cpos.line)=true) e8):PE X (.Call (.Attribute o name apos) [] [] cpos) (LC X.K T r to):=by
 intro a s f H Q I h;refine wpAny_Call_method0_late b c (m4 (j a s f H _ I h) λv m ⟨x,p,g,e,t,q⟩=>?_)
 obtain⟨n,l⟩:=FI g e t;exact⟨T,id,k,slot,d,n,l,pP rfl (PySem.evalArgs_none (i a m f p x [] v [] Q g e .nil q))⟩
theorem Ed(u:PlainAttrs T)(slot:Slot T name id)(i:typeOf (.builtin id)=pure (.type "method_descriptor"))(C:sT X id r)(n:PE X o to)(M:PA X (e::es) t)(bm:Le X o name apos e es cpos):
  PE X (.Call (.Attribute o name apos) (e::es) [] cpos) (Ga X.K T r to t):=by
 obtain⟨f,g,d,hs,c⟩:=bm;intro b s j H Q I h;refine wpAny_Call_method_late f g d rfl (m4 (n b s j H _ I h) λv y ⟨x,G,k,m,A,L⟩=>?_)
 obtain⟨F,w⟩:=FI k m A;refine⟨T,id,u,slot,i,F,w,?_⟩;have l:=M cpos b y j G _ k L;rw[hs]at l ⊢;refine pP (by show(false||(R1 cpos (u4 es X.env)).any (·.1))=false;rw[c]<;>rfl) (uu ?_)
 exact m4 l λz E ⟨q,D,p,B,q2⟩=>C b E j D x q v z Q p m B q2
end
noncomputable def Pz(X:Cx)(id:String)(r:V->List V->Hp->VK->Prop):Prop :=
 ∀(pins:List (Addr×Obj)) (s:c8) (σ:St) (H:Hp) (x:V) (xs:List V) (v:b8) (us:List b8) (Q:VK),Inv X pins σ H s->RelV x v->Vals xs us->r x xs H Q ->
  wpAny (model X.prog X.w) X.A (call (.builtin id) (v::us)) (EP X pins σ Q) X.xe s
theorem Vals.one{x:V}{us:List b8}(h:Vals [x] us):∃u,us=[u]/\RelV x u:=by
 cases h with
 |cons r t=>cases t;exact⟨_,rfl,r⟩
theorem Vals.zero:∀{us:List b8},Vals [] us->us=[]
 |_,.nil=>rfl
theorem Vals.reverse{xs:List V}{us:List b8}(h:Vals xs us):Vals xs.reverse us.reverse:=by
 induction h with
 |nil=>exact .nil
 |cons r t a=>rw[ug,ug];exact Vals.append a (.cons r .nil)
section
variable{X:Cx}{pins:List (Addr×Obj)}{σ:St}{H:Hp}{s:c8}{l b:Addr}{xs ys zs:List V}
theorem Inv.ED{a its':List b8}{n:Nat}{f:Array b8->Array b8}{t':Nat}(I:Inv X pins σ H s)(d:H l=some (.lst xs))(e:s.heap.get? l=some {cls:=.type "list",data:=.seq a.toArray n})(g:f a.toArray=its'.toArray)(c:Vals ys its')(hz:ys.length<=j8):
  Inv X pins σ (upd H l (.lst ys)) {s with heap:=s.heap.update l (Obj.mapSeq f),toks:=t'}:=by
 have q:=PySem.IsL.update e f;rw[g]at q;refine I.write (by rw[d];exact trivial) (.inl rfl) (λi u h b=>(K9 s.heap (Obj.mapSeq f) (B3 h)).trans b) ⟨_,q⟩ ?_
 exact⟨hz,its',_,c,q⟩
theorem Inv.XD{a:List b8}{t':Nat}(I:Inv X pins σ H s)(b:Vals ys a)(hz:ys.length<=j8):
  Inv X pins σ (upd H s.heap.objs.size (.lst ys)) {s with heap:=s.heap.push {cls:=.type "list",data:=.seq a.toArray},toks:=t'} :=
 I.laid (λ_ _ q=>o9 _ q) F0 ⟨hz,a,0,b,J8 _ rfl⟩
theorem Inv.fresh(I:Inv X pins σ H s):H (hz s)=none:=I.i9.fresh F0
theorem Inv.yE(I:Inv X pins σ H s)(b:H l=some (.lst xs)):xs.length<=j8/\∃(a:List b8) (n:Nat),Vals xs a/\xs.length=a.length/\s.heap.get? l=some {cls:=.type "list",data:=.seq a.toArray n}:=by obtain⟨z,a,n,r,e⟩:=I.i9 l _ b;exact⟨z,a,n,r,r.length,e⟩
theorem MS{n:Nat}(h:n<=j8):KL n=false:=by exact D7 kz
end
section
variable{X:Cx}
noncomputable def BV:V->List V->Hp->VK->Prop:=λx vs H Q=>∃l xs y,x=.ref l/\vs=[y]/\H l=some (.lst xs)/\xs.length<j8/\Q .non (upd H l (.lst (xs++[y])))
theorem HM:Pz X "list.append" BV:=by
 intro c s k H x j v p Q I f d h;obtain⟨l,o,y,rfl,rfl,b,i,q⟩:=h;cases f;obtain⟨u,rfl,g⟩:=d.one;obtain⟨z,a,n,r,m,e⟩:=I.yE b;refine gC F.slot_list_append ⟨_,e,rfl⟩ F.entry_list_append (F.args_list_append_2 _ _) (PySem.list_append l a.toArray n u (by rw[O1];simp_all)) ⟨e,?_⟩
 refine⟨.non,_,I.ED b e q5 (r.append (.cons g .nil)) ?_,rfl,q⟩;rw[A0,eX];exact M8
noncomputable def BU:V->List V->Hp->VK->Prop:=λx vs H Q=>∃l b xs zs,x=.ref l/\vs=[.ref b]/\H l=some (.lst xs)/\H b=some (.lst zs)/\xs.length+zs.length<=j8/\Q .non (upd H l (.lst (xs++zs)))
theorem HL:Pz X "list.extend" BU:=by
 intro g s E H x C v G Q I k w h;obtain⟨l,b,L,A,rfl,rfl,i,j,B,q⟩:=h;cases k;obtain⟨u,rfl,o⟩:=w.one;cases o;obtain⟨z,c,n,r,D,e⟩:=I.yE i;obtain⟨K,a,m,t,y,p⟩:=I.yE j;have f:c.toArray.size+a.toArray.size<=j8:=by rw[O1,O1];simp_all
 have d:¬(!c.toArray.isEmpty&&KL (c.toArray.size+a.toArray.size))=true:=by rw[MS f,tP];exact U4
 refine gC F.slot_list_extend ⟨_,e,rfl⟩ F.entry_list_extend (F.args_list_extend_2 _ _)
  (AutoSeq1.list_extend_list_list_0 l c.toArray n b a.toArray m d (by rw[O1];exact Yb) (JG M8)) ⟨e,p,?_⟩
 refine⟨.non,_,I.ED i e q5 (r.append t) ?_,rfl,q⟩;rw[A0];omega
noncomputable def yc:V->List V->Hp->VK->Prop:=λx vs H Q=>∃l xs,x=.ref l/\vs=[]/\H l=some (.lst xs)/\Q .non (upd H l (.lst xs.reverse))
theorem Ey:Pz X "list.reverse" yc:=by
 intro d s k H x j v o Q I g f h;obtain⟨l,m,rfl,rfl,c,q⟩:=h;cases g;have b:=f.zero;subst b;obtain⟨z,a,n,r,i,e⟩:=I.yE c;refine gC F.slot_list_reverse ⟨_,e,rfl⟩ F.entry_list_reverse (F.args_list_reverse_1 _) (AutoSeq1.list_reverse_list_0 l a.toArray n (by rw[O1];simp_all)) ⟨e,?_⟩
 refine⟨.non,_,I.ED c e q5 r.reverse ?_,rfl,q⟩;rw[List.length_reverse];omega
noncomputable def GC:V->List V->Hp->VK->Prop:=λx vs H Q=>∃l xs,x=.ref l/\vs=[]/\H l=some (.lst xs)/\Q .non (upd H l (.lst []))
theorem MZ:Pz X "list.clear" GC:=by
 intro d s k H x j v o Q I g f h;obtain⟨l,m,rfl,rfl,c,q⟩:=h;cases g;have a:=f.zero;subst a;obtain⟨z,b,n,r,i,e⟩:=I.yE c;refine gC F.slot_list_clear ⟨_,e,rfl⟩ F.entry_list_clear (F.args_list_clear_1 _) (AutoSeq1.list_clear_list_0 l b.toArray n (by rw[O1];simp_all)) ⟨e,?_⟩
 exact⟨.non,_,I.ED c e rfl .nil (fe _),rfl,q⟩
end
section
variable{prog:j3}{w:i7}{A:j6}{E:b8->c8->Prop}{s:c8}
end
section
variable{X:Cx}
end
end L2
namespace Att
open PySem PySem.W PySem.Calls PyProof.Rows
theorem sy{P:Params}{h:Heap}:∀(ns:List Int) (vs:List b8),WellAll P h vs (ns.map WData.int)->IntsAre vs ns:=by
 intro ns;induction ns with
 |nil =>
  intro vs w;cases w;exact .nil
 |cons n ns c =>
  intro vs w;cases w with
  |cons a b =>
   cases a;exact .cons _ _ (c _ b)
theorem Gk{l:OpenLaw}{n:Nat}(o:l.most=some n){P:Params}{h:Heap}{args:List WData}{b:List b8}(c:l.row.toRowW.claim.pre args=true)(j:WellAll P h b args):
  ∃a vs ns,b=[t7 a]/\args=[WData.list (ns.map WData.int)]/\h.get? a=some {cls:=.type "list",data:=.seq vs.toArray}/\IntsAre vs ns/\ns.length<=n:=by
 obtain⟨d,r,rfl,x,s⟩:=hasAllW_cons ((pre_splitW c).1);obtain rfl:=hasAllW_nil s;obtain⟨y,rfl,u⟩:=hasW_list x;obtain⟨ns,rfl⟩:=items_int u;have e:ns.length<=n:=by
  have i:(WTm.not (.lt (.lit (.int n)) (.len (.arg 0)))).holds [] {args:=[.list (ns.map .int)]}=true:=by have i:=(holds_andW ((pre_splitW c).2)).1;rw[o]at i;exact i
  have g:=condW_of i (w_not (w_lt w_lit (w_len_list (w_arg rfl))));refine Ai λq=>?_
  first
   |(rw[K8 t]at g;exact absurd g v7)
   |(simp at g;lia)
 cases j with
 |cons v w =>
  cases w;cases v with
  |list p f=>exact⟨_,_,ns,rfl,rfl,p,sy ns _ f,e⟩
theorem GV(l:OpenLaw)(args:List WData):l.row.toRowW.claim.post args (.bool true) args=true :=
 postW_of
  (show WShape.has [] (.bool true) .bool=true by first|rfl|decide|simp[WShape.has])
  (show(WTm.eq .res (.lit (.bool true))).value [] {args:=args,res:=some (.bool true),after:=args}=some (.bool (true==true))from w_eq_bool (w_res rfl) w_lit) rfl
theorem BB {l:OpenLaw} {n:Nat} {q:j3} {b:List Str} {z:(Str->Option b8)->Heap->Prop} {A:i7->Heap->Prop} {d:DefRec} (K:l.most=some n) (p:d.params.defaults=[]) (call:∀(w:i7) (K5 s₁:c8) (mg k:Str->Option b8) (fa:Addr) (o:Obj) (u j e:b8) (a:Addr) (vs:List b8) (ns:List Int),
   Ground q b [] z w K5 mg k s₁.heap->A w s₁.heap ->
   s₁.heap.get? fa=some o->o.data=.func (docDef d.name d.params d.body d.scope u j e)->s₁.heap.CodeRec j d.name->mg d.name=some (.ref fa) ->
   s₁.heap.get? a=some {cls:=.type "list",data:=.seq vs.toArray}->IntsAre vs ns->ns.length<=n->s₁.gens = #[] ->
   codeAny (model l.prog w) gx (.call (.ref fa) ⟨[.ref a],[]⟩) (λr s'=>r=.ok (.ret (.bool true))/\OldK s₁.heap s'.heap/\s'.os=s₁.os/\bT s'.gens) s₁) :
  WalkO q b z A l.row.toRowW d [] (λf vs=>zE f vs):=by
 intro w K5 s₁ mg k G Y fa o u j e O kV B I s hD m F y x N g v M t H;obtain rfl:=Dflts.none hD p;obtain rfl:=Dflts.noKw hD;obtain⟨a,vs,ns,rfl,rfl,h,c,i⟩:=Gk K g t;refine enter_call (ju (call w K5 s₁ mg k fa o u j e a vs ns G Y B (fd_plain I) s m h c i F) λr s' hq=>?_)
 obtain⟨rfl,C,D,L⟩:=hq;exact⟨.inl ⟨.bool true,.bool true,[],rfl,λ_=>rfl,.bool true,GV l _,λ_=>⟨List.Pairwise.nil,λ_ E=>(nomatch E)⟩⟩,C,D,L⟩
section
variable{prog:j3}{w:i7}{A:j6}{E:b8->c8->Prop}{s:c8}{K:Frag}
end
end Att
namespace L2
open PySem PySem.Spec PyProof.Rows
theorem FH{vs:List b8}{ns:List Int}(h:IntsAre vs ns):Vals (ns.map V.int) vs:=by
 induction h with
 |nil=>exact .nil
 |cons n t _ i=>exact .cons ⟨t,rfl⟩ i
noncomputable def Of(H:Hp):Prop:=∀b,H b=none\/∃o xs,H b=some (.aG o (.lst xs))
theorem Nl{P:j3}{w:i7}{K:c9}{mg mb:Str->Option b8}{CX:fq}{k:Nat}{fa a:Addr}{fd:l9}{x:Str}{sp:Sp}{s₁:c8}{vs:List b8}{ns:List Int}(KX:K.In s₁.heap)(hns:s₁.heap.Ns J5 mg)(hb:s₁.heap.Ns builtinsNs mb)(hbb:∀x:Str,x ≠ "__name__"->mb x=bW x)(hlim:s₁.heap.NoLimit)(hg:s₁.gens = #[])(ha:s₁.heap.get? a=some {cls:=.type "list",data:=.seq vs.toArray})(hi:IntsAre vs ns)(hl:ns.length<=j8)(hr:N4 k gx)(F:∀base:Heap,K.In base->base.Ns J5 mg->P5 P w K mg base CX k fa fd [x] sp)(hbind:∀(s:c8) (u:b8),jm s fd ⟨[u],[]⟩ [(x,u)])(hsp:∀H:Hp,Of H->F3 K H a (ns.map V.int)->sp [.ref a] H (λv _=>v=.bl true) λ_ _ _=>False)(hCX:∀H e s',CX [] H s₁ (λ_ _ _=>False) e s'->False):
  codeAny (model P w) gx (.call (.ref fa) ⟨[.ref a],[]⟩) (λr s'=>r=.ok (.ret (.bool true))/\OldK s₁.heap s'.heap/\s'.os=s₁.os/\bT s'.gens) s₁:=by
 have rv:=FH hi;have core:∀H:Hp,Of H->F3 K H a (ns.map V.int)->U6 P w H s₁.heap->(∀b,H b≠none->b=a)->(H a≠none->K.lookup a=none) ->
   codeAny (model P w) gx (.call (.ref fa) ⟨[.ref a],[]⟩) (λr s'=>r=.ok (.ret (.bool true))/\OldK s₁.heap s'.heap/\s'.os=s₁.os/\bT s'.gens) s₁:=by
  intro H hO hS i9 hA hK;have base_of:∀{b:Addr} {o:Obj},s₁.heap.get? b=some o->H b=none->(oC s₁.heap H).get? b=some o:=λe n=>Nx e n
  have noA:∀{b:Addr} {o:Obj} {es:Array DictEntry} {ep:Nat},s₁.heap.get? b=some o->o.data=.dict es ep->H b=none:=λ{b o es ep} e d=>by
   cases q:H b with
   |none=>rfl
   |some u =>
    have e':=hA b (by rw[q];simp)
    subst e';rw[ha]at e;cases e;cases d
  have nsK:∀{b:Addr} {m:Str->Option b8},s₁.heap.Ns b m->(oC s₁.heap H).Ns b m:=λ{b m} ⟨o,es,ep,e,d,r⟩=>⟨o,es,ep,base_of e (noA e d),d,r⟩
  have hKb:=λb o e=>base_of (KX b o e) (by
   cases q:H b with
   |none=>rfl
   |some u =>
    have e':=hA b (by rw[q];simp)
    subst e';rw[hK (by rw[q];simp)]at e;exact nE e)
  have hM:Mod K mg (oC s₁.heap H):=⟨hKb,nsK hns,⟨mb,nsK hb,hbb⟩,let ⟨mc,h1,h2⟩:=hlim;⟨mc,nsK h1,h2⟩⟩;have e0:rN P w K mg (oC s₁.heap H) gx [] s₁ H:=⟨rfl,hM,λb o e=>Rr e,Nat.le_of_eq (IE _ _),trivial,λb hb=>absurd (show b∈([])from hb) q5,i9,.of_eq hg⟩
  refine ju ((F _ hKb (nsK hns)).run gx [] s₁ H ⟨[.ref a],[]⟩ [.ref a] [.ref a] _ _ hr e0 (hbind s₁ (.ref a)) (.cons rfl .nil) (hsp H hO hS)) λr s' h=>?_
  cases r with
  |error e=>exact(hCX H e s' h).elim
  |ok fl =>
   cases fl with
   |next=>exact M9 h
   |brk=>exact M9 h
   |cont=>exact M9 h
   |ret u =>
    obtain⟨v,H',os,bare,un,hok',r',q⟩:=h;subst q;obtain rfl:=r';refine⟨rfl,OldK.of_keep λb o e=>?_,os,bare⟩
    cases q:H b with
    |none=>exact un.keep b o e q (by intro z;exact absurd (show b∈([])from z) q5) q5
    |some u =>
     rcases hO b with z|⟨ob,xs,z⟩
     . rw[q]at z;exact nS z
     . have z2:=un.kr b ob _ z;obtain⟨e1,_⟩:=i9 b _ z;obtain⟨e2,_⟩:=hok' b _ z2;rw[e]at e1;cases e1;exact e2
 cases hk:K.lookup a with
 |some o =>
  have e:=KX a o hk;rw[ha]at e;cases e;refine core (λ_=>none) (λ_=>.inl rfl) (.inr ⟨_,vs.toArray,_,hk,rfl,rfl,rfl,by rw[O1,hi.length];exact hl,by simpa using rv⟩) (λb u z=>by have z':=z;exact nE z') (λb z=>absurd rfl z) λz=>absurd rfl z
 |none =>
  refine core (λb=>if b=a then some (.aG {cls:=.type "list",data:=.seq vs.toArray} (.lst (ns.map V.int)))else none) (λb=>?_) (.inl (.inr ⟨{cls:=.type "list",data:=.seq vs.toArray},d9 rfl⟩)) (λb u z=>?_) (λb z=>?_) λ_=>hk
  . by_cases hb:b=a
    . exact .inr ⟨_,_,d9 hb⟩
    . exact .inl (e7 hb)
  . by_cases hb:b=a
    . have z':=(d9 hb).symm.trans z;cases z';subst hb;exact⟨ha,by rw[m9];exact hl,vs,_,rv,ha⟩
    . have z':=(e7 hb).symm.trans z;exact nE z'
  . by_cases hb:b=a
    . exact hb
    . exact absurd (e7 hb) z
theorem PZ {l:Ab} {n k:Nat} {q:j3} {j:List Str} {R:(Str->Option b8)->Heap->Prop} {D:i7->Heap->Prop} {d:DefRec} {K:Params->c9} {CX:i7->fq} {sp:i7->Sp} {x:Str} (E:l.most=some n) (z:n<=j8) (y:d.params.defaults=[]) (N:N4 k gx) (O:∀(w:i7) (h:Heap),D w h->(K w.params).In h) (F:∀(w:i7) (mg:Str->Option b8) (fa:Addr) (h:Heap),(K w.params).In h->h.Ns J5 mg->mg d.name=some (.ref fa) ->
   ∃fd:l9,(∀(s:c8) (u:b8),jm s fd ⟨[u],[]⟩ [(x,u)]) /\
    ∀base:Heap,(K w.params).In base->base.Ns J5 mg->P5 l.prog w (K w.params) mg base (CX w) k fa fd [x] (sp w))
  (r:∀(w:i7) (H:Hp) (a:Addr) (ns:List Int),ns.length<=n->Of H->F3 (K w.params) H a (ns.map V.int)->sp w [.ref a] H (λv _=>v=.bl true) λ_ _ _=>False)
  (A:∀(w:i7) (H:Hp) (s:c8) (e:b8) (s':c8),CX w [] H s (λ_ _ _=>False) e s'->False) :
  PySem.W.WalkO q j R D l.row.toRowW d [] (λf vs=>zE f vs):=by
 refine Att.BB E y λw B p mg mb fa o pm cd Q a vs ns G Y ho Z S t m i c P=>?_
 have C:=O w _ Y;obtain⟨fd,X,I⟩:=F w mg fa _ C G.T.g t;exact Nl C G.T.g G.T.b G.T.builtins G.T.nolimit P m i (t4 c z) N I X (λH L M=>r w H a ns c L M) λH e s'=>A w H p e s'
noncomputable def inClass(s:Stmt)(j:Nat):Stmt:=match s with
 | .ClassDef _ _ _ body _ _ _ _ _ _ _=>body.getD j (.Pass ⟨0,0,0,0⟩)
 |_=>.Pass ⟨0,0,0,0⟩
noncomputable def bh(s:Stmt):Arguments:=match s with
 | .FunctionDef _ a _ _ _ _ _ _ _ _=>a
 |_=>{posonlyargs:=[],args:=[],vararg:=none,kwonlyargs:=[],kw_defaults:=[],kwarg:=none,defaults:=[]}
noncomputable def K6(s:Stmt):List Stmt:=match s with
 | .FunctionDef _ _ b _ _ _ _ _ _ _=>b
 |_=>[]
noncomputable def k9(s:Stmt):E8:=match s with
 | .FunctionDef _ _ _ _ _ _ sc _ _ _=>sc
 |_=>{kind:=.function,names:=[],isGenerator:=false,isCoroutine:=false}
noncomputable abbrev s9:fq:=λ_ _ _ _ _ _=>False
noncomputable abbrev E0:XK:=λ_ _ _=>False
theorem my{X:Cx}:Passes s9 X E0:=λ_ _ _ _ _ _ _ h=>h.elim
structure fw(K:c9)(x qual:Str)(st:Stmt)(f:Addr)(fd:l9):Prop where
 ex:∃(oc:b8) (od:Option Addr) (kV doc pm:b8) (an:Option Addr) (cdv ct:b8) (osl:Array (Option b8)),
  fd=bc x qual (bh st) (K6 st) (k9 st) .none kV doc pm an cdv ct/\K.lookup f=some ⟨oc,od,.func fd,osl⟩/\px K cdv qual=true
 kp:Y0 K (.ref f)=true
section
variable{P:j3}{w:i7}{K:c9}{mg:Str->Option b8}{base:Heap}
theorem fw.Cm {c:Bool} {x a:Str} {d:Stmt} {f:Addr} {fd:l9} {N e:List Str} {k:Nat} {sp:Sp} (F:fw K x a d f fd) (S:R5 N e (k9 d)) (len:∀vs H Q E,sp vs H Q E->vs.length=e.length) (g₀:∀(b:b8) (A:j6) (outer:List Env) (s:c8) (H:Hp) (vs:List V) (Q:VK) (E:XK),U2 c k (A.deeper (K7 a (k9 d) (hz s) f b))->sp vs H Q E ->
   ∃t,eO (CY c s9 P w K mg base N a (k9 d) f b A outer s H E).sv (K6 d) t/\t {nx:=λ_ H'=>Q .non H',rt:=Q} (start N vs) H):ir c P w K mg base s9 (k+1) f fd e sp:=by
 obtain⟨u,p,kV,n,v,o,b,r,j,rfl,l,i⟩:=F.ex;refine ES l i S len λA outer s H vs Q E m g=>?_
 obtain⟨t,h,q⟩:=g₀ b A outer s H vs Q E m g;exact⟨t,h.sv,q⟩
theorem fw.ok {x a:Str} {d:Stmt} {f:Addr} {fd:l9} {N e:List Str} {k:Nat} {sp:Sp} (F:fw K x a d f fd) (S:R5 N e (k9 d)) (len:∀vs H Q E,sp vs H Q E->vs.length=e.length) (c:∀(b:b8) (A:j6) (outer:List Env) (s:c8) (H:Hp) (vs:List V) (Q:VK) (E:XK),N4 k (A.deeper (K7 a (k9 d) (hz s) f b))->sp vs H Q E ->
   ∃t,eO (V4 s9 P w K mg base N a (k9 d) f b A outer s H E).sv (K6 d) t/\t {nx:=λ_ H'=>Q .non H',rt:=Q} (start N vs) H):P5 P w K mg base s9 (k+1) f fd e sp:=F.Cm S len c
theorem fw.binds{x a:Str}{d:Stmt}{f:Addr}{fd:l9}{g:List Str}(F:fw K x a d f fd)(h:∀(kV b i:b8) (e:Option Addr) (c ct:b8) (us:List b8),us.length=g.length->bindArgs (bc x a (bh d) (K6 d) (k9 d) .none kV b i e c ct) ⟨us,[]⟩=pure (g.zip us)):Binds K fd g []:=by obtain⟨l,m,kV,b,i,e,c,ct,j,rfl,n,k⟩:=F.ex;exact .all (h kV b i e c ct)
theorem yW{x a:Str}{e:Stmt}{f:Addr}{j:b8}{od h:Option Addr}{g:Array (Option b8)}{kV d i b ct:b8}(l:K.lookup f=some ⟨j,od,.func (bc x a (bh e) (K6 e) (k9 e) .none kV d i h b ct),g⟩)(c:px K b a=true)(k:Y0 K (.ref f)=true):fw K x a e f (bc x a (bh e) (K6 e) (k9 e) .none kV d i h b ct):=⟨⟨j,od,kV,d,i,h,b,ct,g,rfl,l,c⟩,k⟩
end
section
variable{X:Cx}
theorem pv(i:Nat){x:Str}{pos:Pos}(b:autoParam (X.N[i]? = some x) e8)(c:Px X.env.scope x:=by first|exact Or.inl rfl|exact Or.inr (Or.inl rfl)|exact Or.inr (Or.inr rfl))(hd:autoParam (bA x) j9)(a:autoParam ((x==("__classdict__" : Str))=false) j9):PE X (.Name x pos) (D4 i):=Uj b c hd a
end
noncomputable def e9(H H':Hp):Prop:=∀b o,H b=some o->H' b=some o
theorem e9.refl(H:Hp):e9 H H:=λ_ _ h=>h
theorem e9.trans{H d H2:Hp}(a:e9 H d)(b:e9 d H2):e9 H H2:=λc o h=>b c o (a c o h)
theorem e9.free{H H':Hp}(e:e9 H H'){l:Addr}(h:H' l=Option.none):H l=Option.none:=by
 cases q:H l with
 |none=>rfl
 |some o =>
  rw[e l o q]at h;exact nS h
theorem e9.seq{K:c9}{H H':Hp}{a:Addr}{xs:List V}(e:e9 H H')(h:F3 K H a xs):F3 K H' a xs:=by
 rcases h with (h|⟨o,h⟩)|h
 . exact .inl (.inl (e _ _ h))
 . exact .inl (.inr ⟨o,e _ _ h⟩)
 . exact .inr h
theorem EZ(env:Env):∀(names:List (Str×gy)) (a:List (Str×Addr)),(∀y∈names,y.2=.free->∃c,env.cells.lookup y.1=some c)->(∀x c,a.lookup x=some c->env.cells.lookup x=some c) ->
  ∃cl,(forIn names a λy (cs:List (Str×Addr))=>if (y.2==.free)=true then(do let c <- cellOf env y.1;pure (gb ((y.1,c)::cs)))else pure (gb cs):Sem (List (Str×Addr)))=pure cl /\
   (∀x c,cl.lookup x=some c->env.cells.lookup x=some c)/\(∀y∈names,y.2=.free->(cl.lookup y.1).isSome=true)/\(∀x,(a.lookup x).isSome=true->(cl.lookup x).isSome=true):=by
 intro l_;induction l_ with
 |nil =>
  intro a _ ha;exact⟨a,by simp only[List.forIn_nil],ha,(λ_ h=>nomatch h),(λ_ h=>h)⟩
 |cons a_ r ih_ =>
  obtain⟨n,k⟩:=a_;intro a h ha;have s:=λy b=>h y (o8 _ b)
  by_cases o:k=.free
  . subst o;obtain⟨c,q⟩:=h (n,.free) o2 rfl;have i:∀x c',((n,c)::a).lookup x=some c'->env.cells.lookup x=some c':=λx c' e=>by
     rw[lK]at e;cases d:x==n with
     |true =>
      rw[d]at e;cases e;rw[eq_of_beq d];exact q
     |false =>
      rw[d]at e;exact ha x c' e
    obtain⟨cl,l,p,j,m⟩:=ih_ ((n,c)::a) s i;have t:=m;refine⟨cl,?_,p,λy b f=>?_,λx d=>t x ?_⟩
    . rw[pB];have v:cellOf env n=pure c:=by delta cellOf;rw[q]
      simp only[v];exact l
    . rcases List.mem_cons.mp b with rfl|b
      . exact t n q5
      . exact j y b f
    . rw[lK];cases x==n<;>simp[d]
  . obtain⟨cl,l,p,j,m⟩:=ih_ a s ha;refine⟨cl,?_,p,λy b f=>?_,m⟩
    . rw[pB];have u:(k==dg)=false:=by simpa using o
      simp only[u];exact l
    . rcases List.mem_cons.mp b with rfl|b
      . exact absurd f o
      . exact j y b f
theorem EY{scope:E8}{env:Env}(h:∀y∈scope.names,y.2=.free->∃c,env.cells.lookup y.1=some c):
  ∃cl,closureFor scope env=pure cl/\(∀x c,cl.lookup x=some c->env.cells.lookup x=some c)/\(∀y∈scope.names,y.2=.free->(cl.lookup y.1).isSome=true):=by
 obtain⟨cl,d,f,b,_⟩:=EZ env scope.names [] h (λx c e=>by simp at e)
 refine⟨cl,?_,f,b⟩;show((forIn scope.names [] λy a=>if (y.2==.free)=true then(do let c <- cellOf env y.1;pure (gb ((y.1,c)::a)))else pure (gb a):Sem (List (Str×Addr))) >>= pure)=_
 rw[d];rfl
theorem iI{env:Env}:∀{names:List (Str×gy)} {x:Str},
  ((names.map λ(n,k)=>if (k==dg&&env.scope.kind==.function&&env.kindOf n==some .cell)then(n,X9)else(n,k)).lookup x=some .cell \/
   (names.map λ(n,k)=>if (k==dg&&env.scope.kind==.function&&env.kindOf n==some .cell)then(n,X9)else(n,k)).lookup x=some .free) ->
  (x,dg)∈names\/(x,X9)∈names
 | [],_,h=>by simp at h
 |(n,k)::r,x,h=>by
  by_cases f:(x==n)=true
  . have e:=eq_of_beq f;subst e;by_cases b:k=.free
    . subst b;exact .inl o2
    . right;have i:(k==dg)=false:=by simpa using b
      simp only[o5,i,tR,pJ,if_false,lK,jD]at h
      simp_all
  . have c:(x==n)=false:=by simpa using f
    refine((@iI env r x) ?_).imp (o8 _) (o8 _);rw[o5]at h;have d:∀(g:gy) l,bB x ((n,g)::l)=bB x l:=λg l=>by rw[lK,c]
    by_cases a:(k==dg&&env.scope.kind==.function&&env.kindOf n==some .cell)=true
    . have e:(if (k==dg&&env.scope.kind==.function&&env.kindOf n==some .cell)=true then(n,X9)else(n,k))=(n,X9):=d9 a
      simp only[e,d]at h;exact h
    . have e:(if (k==dg&&env.scope.kind==.function&&env.kindOf n==some .cell)=true then(n,X9)else(n,k))=(n,k):=e7 a
      simp only[e,d]at h;exact h
noncomputable def kX(X:Cx)(bs nb:List Str)(scope:E8)(cl:List (Str×Addr))(C:Addr)(fp:List Addr)(s:c8)(H:Hp)(pins:List (Addr×Obj)):Cx where
 prog:=X.prog
 w:=X.w
 K:=X.K
 mg:=X.mg
 base:=X.base
 A:=X.A
 N:=bs++nb
 K5:=s
 f6:=H
 env:=oW scope cl C X.env
 outer:=X.stack
 stack:=X.stack
 ex:=fp
 fn:=λy=>decide (scope.names.lookup y=some .cell)
 calm:=X.calm
 pn:=X.pn++pins
 xe:=λ_ _=>False
structure xu(X:Cx)(bs nb:List Str)(scope:E8):Prop where
 kind:scope.kind=.function
 names:∀y∈scope.names,y.2=.local->scope.names.lookup y.1=some .local
 P8:∀y∈scope.names,y.2=.free->X.env.scope.names.lookup y.1=some .cell\/X.env.scope.names.lookup y.1=some .free
 apart:∀x∈nb,∀y∈scope.names,y.1=x->y.2≠.local/\y.2≠.cell
 len:nb.length=X.N.length
 Ya:∀(j:Nat) (x:Str),nb[j]? = some x->X.N[j]? = some x\/∀y∈scope.names,y.1≠x
noncomputable def oR(N nb:List Str)(fsc sc:E8):Bool :=
 (decide (nb.length=N.length)&&(nb.zip N).all λp=>decide (p.1=p.2)||sc.names.all λy=>!decide (y.1=p.1))&&(decide (sc.kind=.function)&&(sc.names.all λy=>!decide (y.2=.local)||decide (sc.names.lookup y.1=some .local)) &&
  (sc.names.all λy=>!decide (y.2=.free)||(decide (fsc.names.lookup y.1=some .cell)||decide (fsc.names.lookup y.1=some .free)))&&nb.all λx=>sc.names.all λy=>!decide (y.1=x)||!decide (y.2=.local\/y.2=.cell))
theorem Vo{X:Cx}{bs nb:List Str}{scope:E8}(h:oR X.N nb X.env.scope scope=true):xu X bs nb scope:=by
 unfold oR at h;simp only[aj,tY,Bool.or_eq_true,Ar,gJ,decide_eq_false_iff_not]at h;obtain⟨⟨g,m⟩,⟨⟨o,n⟩,l⟩,i⟩:=h;refine⟨o,λy a e=>?_,λy a e=>?_,λx d y a f=>?_,g,λj x b=>?_⟩
 . rcases n y a with q|q
   . exact absurd e q
   . exact q
 . rcases l y a with q|q
   . exact absurd e q
   . exact q
 . rcases i x d y a with q|q
   . exact absurd f q
   . exact⟨λz=>q (.inl z),λz=>q (.inr z)⟩
 . have:=(List.getElem?_eq_some_iff.mp b).1;have c:X.N[j]? = some (X.N[j]'X8):=U5 _;have k:(nb.zip X.N)[j]? = some (x,X.N[j]'X8):=List.getElem?_zip_eq_some.mpr ⟨b,c⟩;rcases m _ (pN k)with q|q
   . left;rw[c];exact m5 some q.symm
   . right;exact q
set_option tactic.hygienic true in
theorem WH(lo:Nat)(P:Str->Addr->Prop):∀(names:List (Str×gy)) (h:Heap) (d:List (Str×Addr)) (D:Str->Prop),lo<=h.objs.size ->
  (∀x c,d.lookup x=some c->c<h.objs.size/\((P x c/\¬D x)\/(D x/\lo<=c/\h.IsCell c none)))->(∀x y c,d.lookup x=some c->d.lookup y=some c->x=y)->(∀x,D x->(d.lookup x).isSome=true) ->
  (∀x c,(cU h.objs.size names d).lookup x=some c->(P x c/\¬(D x\/(x,X9)∈names))\/((D x\/(x,X9)∈names)/\lo<=c/\(ly h names).IsCell c none)) /\
  (∀x y c,(cU h.objs.size names d).lookup x=some c->(cU h.objs.size names d).lookup y=some c->x=y)/\(∀x,(D x\/(x,X9)∈names)\/(d.lookup x).isSome=true->((cU h.objs.size names d).lookup x).isSome=true):=by
 intro l_;induction l_ with
 |nil =>
  intro h d D hlo h1 h2 h3;refine⟨λx c e=>?_,h2,λx f=>?_⟩
  . rcases(h1 x c e).2 with ⟨u,v⟩|⟨u,v,B⟩
    . exact .inl ⟨u,λz=>z.elim v q5⟩
    . exact .inr ⟨.inl u,v,B⟩
  . rcases f with (f|f)|f
    . exact h3 x f
    . simp at f
    . exact f
 |cons a_ r ih_ =>
  obtain⟨n,k⟩:=a_;intro h d D hlo h1 h2 h3;unfold ly cU;by_cases w:k=.cell
  . subst w;have l:∀x,((n,h.objs.size)::d).lookup x=if x=n then some h.objs.size else d.lookup x:=λx=>by
     rw[lK];by_cases c:x=n
     . subst c;simp
     . have:(x==n)=false:=by simpa using c
       rw[this,e7 c]
    have sz:(h.push {cls:=.type "cell",data:=.cell none}).objs.size=h.objs.size+1:=eT ..;obtain⟨s,m,p⟩:=ih_ (h.push {cls:=.type "cell",data:=.cell none}) ((n,h.objs.size)::d) (λx=>D x\/x=n) (by omega) (λx c e=>by
      rw[l]at e;split at e
      . rename_i f;cases e;exact⟨by simp,.inr ⟨.inr f,hlo,_,J8 _ rfl,rfl⟩⟩
      . rename_i f;obtain⟨z,q⟩:=h1 x c e;refine⟨by rw[sz];exact JF z,?_⟩
        rcases q with ⟨t,q2⟩|⟨t,q2,E⟩
        . exact .inl ⟨t,λy=>y.elim q2 f⟩
        . exact .inr ⟨.inl t,q2,E.keeps λb o e=>o9 _ e⟩) (λx y c i g=>by
      rw[l]at i g;split at i
      . split at g
        . rename_i a b;rw[a,b]
        . cases i;exact absurd (h1 y _ g).1 (S5 _)
      . split at g
        . cases g;exact absurd (h1 x _ i).1 (S5 _)
        . exact h2 x y c i g) (λx f=>by
      rw[l];split
      . rfl
      . rename_i C;exact h3 x (f.resolve_right C))
    rw[sz]at s m p;have j:∀x,((D x\/x=n)\/(x,X9)∈r)↔(D x\/(x,X9)∈(n,X9)::r):=λx=>by
     rw[v8];constructor
     . rintro((z|z)|z)
       . exact .inl z
       . exact .inr (.inl (by rw[z]))
       . exact .inr (.inr z)
     . rintro(z|z|z)
       . exact .inl (.inl z)
       . exact .inl (.inr (m5 Prod.fst z))
       . exact .inr z
    refine⟨λx c e=>?_,m,λx f=>p x ?_⟩
    . rw[<-j];exact s x c e
    . rw[<-j]at f;refine f.imp id λz=>?_
      rw[l];split
      . rfl
      . exact z
  . have A:(k==X9)=false:=by simpa using w
    simp only[A];obtain⟨s,m,p⟩:=ih_ h d D hlo h1 h2 h3;have j:∀x,(x,X9)∈r↔(x,X9)∈(n,k)::r:=λx=>by rw[v8];exact⟨.inr,λz=>z.resolve_left λy=>w (m5 Prod.snd y).symm⟩
    refine⟨λx c e=>?_,m,λx f=>p x ?_⟩
    . rw[<-j];exact s x c e
    . rw[<-j]at f;exact f
structure Oi(X:Cx)(scope:E8)(cl:List (Str×Addr))(n:Nat):Prop where
 c1:∀x c,cl.lookup x=some c->(X.env.cells.lookup x=some c/\¬(x,X9)∈scope.names)\/((x,X9)∈scope.names/\n<=c)
 c2:∀x,(x,dg)∈scope.names\/(x,X9)∈scope.names->(cl.lookup x).isSome=true
 c3:∀x y c,cl.lookup x=some c->cl.lookup y=some c->x=y
section
variable{X:Cx}{bs nb:List Str}{scope:E8}{cl:List (Str×Addr)}{C:Addr}{fp:List Addr}{pins:List (Addr×Obj)}{σ:St}{H:Hp}{s:c8}
theorem Vn(I:Inv X pins σ H s)(B:xu X bs nb scope)(L:Oi X scope cl (hz s))(g:(hz s)<=C)(f:∀b∈fp,hI X pins H b)(d:∀b∈fp,b<(hz s)):(kX X bs nb scope cl C fp s H pins).Ok where
 mod:=I.ok.mod
 kind:=B.kind
 glob:=I.ok.glob
 blt:=I.ok.blt
 above:=g
 inj:=L.c3
 has:=λx j=>by exact Option.isSome_iff_exists.mp (L.c2 x (iI j))
 wq:=λx c h e=>by
  rcases L.c1 x c e with z|z
  . exact absurd (jY (di h)) z.2
  . exact z.2
 hd:=I.ok.hd
 frames:=I.ok.frames
 xK:=.inl rfl
 CN:=λb a=>⟨J6 (A1 (d b a) g),λx c e=>(L.c1 x c e).elim (λz=>(f b a).2.2.2.2.1 x c z.1) λz=>cF (A1 (d b a) z.2)⟩
 bs:=I.bs
 jW:=t4 I.ok.jW I.sz
 mF:=λb o e a=>by
  rcases(f b a).2.2.2.1 with z|z
  . exact I.ok.mF b o e z
  . exact absurd (A1 (m6 e) (t4 I.ok.jW z)) (S5 _)
 oG:=λb a i=>by
  rcases List.mem_cons.mp (I.nU b i)with z|z
  . exact(f b a).2.1 z
  . exact(f b a).2.2.1 z
 dy:=I.stack
 qF:=I.kF
noncomputable def cD(bs:List Str)(σ:St):St:=w9 bs.length none++σ
theorem Sk{h':Heap}{t':Nat}{m:Str->Option b8}(I:Inv X pins σ H s)(B:xu X bs nb scope)(L:Oi X scope cl (hz s))(E:∀x c,cl.lookup x=some c->(hz s)<=c->h'.IsCell c none)(Q:(hz s)<=C)(hf:∀b∈fp,hI X pins H b)(P:∀b∈fp,b<(hz s))(k:∀b u,s.heap.get? b=some u->h'.get? b=some u)(hn:h'.Ns C m):Inv (kX X bs nb scope cl C fp s H pins) [] (cD bs σ) H {s with heap:=h',toks:=t'}:=by
 refine⟨Vn I B L Q hf P,rfl,I.bare,Un.kept k,⟨m,hn,λi x v S y f=>?_⟩,λx c e=>?_,I.i9.fresh Q,λx c e=>(L.c1 x c e).elim (λz=>I.X7 x c z.1) λz=>I.i9.fresh z.2,λp Z=>?_,I.i9.kept k,?_⟩
 . have q:(bs++nb)[i]? = some x:=S;unfold cD at y;by_cases A:i<bs.length
   . rw[pR (by simpa using A),AX,d9 A]at y
     cases y
   . rw[uG (by simpa using A),AO]at y
     rw[uG (by simpa using A)]at q
     have h:=pN q;have D:(x,dg)∈scope.names:=by
      rcases f with f|f
      . exfalso;obtain⟨⟨n,F⟩,G,j⟩:=mem_map.mp (jY f);by_cases a:(F==dg&&X.env.scope.kind==.function&&X.env.kindOf n==some .cell)=true
        . simp only[a]at j;cases j
        . simp only[a]at j;cases j;exact(B.apart x h (x,.local) G rfl).1 rfl
      . exact(iI f).resolve_right λz=>(B.apart x h _ z rfl).2 rfl
     have W:Px X.env.scope x:=.inr (B.P8 _ D rfl);obtain⟨m0,_,Y⟩:=I.loc;obtain⟨u,r,l⟩:=Y _ x v ((B.Ya _ x q).resolve_right λz=>z _ D rfl) y W
     refine⟨u,r,?_⟩;have N:(kX X bs nb scope cl C fp s H pins).env.kindOf x=some .cell\/(kX X bs nb scope cl C fp s H pins).env.kindOf x=some .free:=by
      rcases f with f|f
      . exfalso;obtain⟨⟨n,F⟩,G,j⟩:=mem_map.mp (jY f);by_cases a:(F==dg&&X.env.scope.kind==.function&&X.env.kindOf n==some .cell)=true
        . simp only[a]at j;cases j
        . simp only[a]at j;cases j;exact(B.apart x h (x,.local) G rfl).1 rfl
      . exact f
     rcases l with ⟨hk,_⟩|⟨_,c,T,t⟩
     . exfalso;have g:X.env.scope.names.lookup x=some .local:=hk;rcases B.P8 _ D rfl with z|z
       . rw[show X.env.scope.names.lookup x=some .cell from z]at g;cases g
       . rw[show X.env.scope.names.lookup x=some .free from z]at g;cases g
     . obtain⟨R,w⟩:=Option.isSome_iff_exists.mp (L.c2 _ (.inl D));have:R=c:=by
        rcases L.c1 _ _ w with z|z
        . exact V6 (z.1.symm.trans T)
        . exact absurd rfl (B.apart x h _ z.1 rfl).2
       subst this;obtain⟨o,M,O⟩:=t;exact .inr ⟨N,R,w,o,k _ _ M,O⟩
 . rcases L.c1 x c e with z|z
   . obtain⟨v,o,M,O⟩:=I.cell x c z.1;exact⟨v,o,k _ _ M,O⟩
   . exact⟨_,E x c e z.2⟩
 . have K:p∈X.pn++pins:=by simpa [kX]using Z
   obtain⟨e,n,ne,V,d⟩:=I.pin p K;refine⟨k _ _ e,n,J6 (A1 (m6 e) Q),λz=>?_,d⟩
   rcases List.mem_cons.mp (I.nU _ z)with z|z
   . exact ne z
   . exact V z
 . delta cD;show _=(bs++nb).length
   rw[A0,A0,AO,I.len,B.len]
theorem Inv.wZ{D:Addr}{o:HO}(I:Inv X pins σ H s)(i:H D=none)(g:D≠X.env.locals)(t:D∈X.ex\/X.K5.heap.objs.size<=D)(j:∀x c,X.env.cells.lookup x=some c->c≠D)(r:∀p∈X.pn++pins,p.1≠D)(new:G9 X.prog X.w (upd H D o) s.heap D o):Inv X pins σ (upd H D o) s:=by
 have a:∀b u,H b=some u->upd H D o b=some u:=λb u e=>by rw[i8 (B2 e i)];exact e
 have:=I.step (d':=s.drawn) (t':=s.toks) (ch:=[D]) (λb f=>?_) (λb d _ _ _ e _=>e) (λb d _ _ _ e _=>⟨d.slots,e⟩) (λb d l e n=>?_) (λb d _ e=>⟨d,e⟩)
  (λb h e=>a b _ e) (λb d u e=>a b _ e) (λb v e=>⟨#[],by rw[a b _ e];simp⟩) (λm k=>k) (λb u e=>?_) I.bare
 . exact this
 . have e:b=D:=by simpa using f
   subst e;exact⟨t,g,j,r⟩
 . rw[i8 (by simpa using l)];exact n
 . by_cases f:b=D
   . subst f;rw[l7]at e;cases e;exact new
   . rw[i8 f]at e;exact(I.i9 b u e).iE (λ_ _ _ q=>q) (λc q=>a c _ q) λc h q=>a c _ q
end
noncomputable def Fp(X:Cx)(ifs:List Expr)(t:TT):Prop :=
 ∀(pins:List (Addr×Obj)) (s:c8) (σ:St) (H:Hp) (Q:Bool->Hp->Prop) (E:b8->c8->Prop),(∀e s',X.xe e s'->E e s')->Inv X pins σ H s->t σ H Q ->
  wpAny (model X.prog X.w) X.A (forIn ifs true λc r=>if r=true then do let ok <- isTrue c X.env (eval c X.env);pure (gb ok)else pure (gb r)) (TP X pins σ Q) E s
noncomputable def OF:TT:=λ_ H Q=>Q true H
theorem MB{X:Cx}:Fp X [] OF:=λ_ _ _ H _ _ _ I h=>wpAny_tests_nil ⟨H,I,h⟩
theorem MA{X:Cx}{c:Expr}{t:TT}(h:PT X c t):Fp X [c] t:=λa s b H Q E d I q=>wpAny_tests_one (P1 (h a s b H Q I q) (λ_ _ z=>z) d)
section
variable{prog:j3}{w:i7}{A:j6}{R:Result->c8->Prop}{s:c8}
theorem BA {p a o:Expr} {t:List Expr} {scope:E8} {pos:Pos} {it k:b8} {env:Env} (I:Nat->c8->Prop) (turn:∀n s,I n s->wpAny (model prog w) A (pyNext it) (λr s₁=>match r with
   |none=>R (.ok .next) s₁
   |some v=>wpAny (model prog w) A (tV a it v) (λ_ K5=>wpAny (model prog w) A (assign a env v) (λ_ s₂ =>
     wpAny (model prog w) A (forIn t true λc r=>if r=true then do let ok <- isTrue c env (eval c env);pure (gb ok)else pure (gb r)) (λok s₃ =>
      if ok=true then wpAny (model prog w) A (eval p env) (λx i =>
       wpAny (model prog w) A (call (.builtin "list.append") [k,x]) (λ_ f=>∃m,m<n/\I m f) (bR (model prog w) A env λe s'=>R (.error e) s') i) (bR (model prog w) A env λe s'=>R (.error e) s') s₃
      else ∃m,m<n/\I m s₃) (bR (model prog w) A env λe s'=>R (.error e) s') s₂) (bR (model prog w) A env λe s'=>R (.error e) s') K5) (bR (model prog w) A env λe s'=>R (.error e) s') s₁) (bR (model prog w) A env λe s'=>R (.error e) s') s)
  (n:Nat) (h:I n s) :
  codeAny (model prog w) A (.compLoop (.ListComp p [⟨a,o,t,0⟩] scope pos) 0 it k env) R s:=by
 refine codeAny_loop rfl I (λn s y=>?_) n h
 refine wpAny_noted ?_;refine d8 (jx (d8 (P1 (turn n s y) (λr s₁ d=>?_) λ_ _ b=>b)))
 cases r with
 |none=>exact j4 d
 |some v =>
  refine d8 (P1 d (λ_ K5 j=>?_) λ_ _ b=>b)
  refine d8 (P1 j (λ_ s₂ q=>d8 (P1 q (λok s₃ g=>?_) λ_ _ b=>b)) λ_ _ b=>b)
  cases ok with
  |false=>exact j4 ⟨rfl,g⟩
  |true =>
   exact d8 (d8 (P1 g (λx i l=>d8 (P1 l (λ_ f u=>j4 (j4 ⟨rfl,u⟩)) λ_ _ b=>b)) λ_ _ b=>b))
end
noncomputable def Fq(n:Nat)(g:TG):Prop:=∀x σ H Q,g x σ H Q->g x σ H λσ2 H2=>Q σ2 H2/\σ2.length=σ.length/\∀j,n<=j->σ2[j]? = σ[j]?
noncomputable def xr(n:Nat)(g:lj):Prop:=∀x σ H Q,g x σ H Q->g x σ H λσ2 H2=>Q σ2 H2/\σ2.length=σ.length/\∀j,n<=j->σ2[j]? = σ[j]?
theorem IH{n i:Nat}(h:autoParam (i<n) j9):Fq n (X6 i):=λx b H Q q=>⟨q,by simp,λj a=>by rw[aU (J6 (A1 M8 M8))]⟩
theorem IG{n:Nat}:xr n ER:=λx a H Q q=>⟨q.1,q.2,rfl,λ_ _=>rfl⟩
theorem sF{n i:Nat}{u:lj}(o:xr n u)(h:autoParam (i<n) j9):xr n (qj (X6 i) u):=λx f H Q q=>by
 obtain⟨v,r,e,q⟩:=q;refine⟨v,r,e,?_⟩;have m:∀d:St,(d.length=(f.set i (some v)).length/\∀j,n<=j->d[j]? = (f.set i (some v))[j]?)->d.length=f.length/\∀j,n<=j->d[j]? = f[j]?:=λd ⟨a,b⟩=>by
  refine⟨by simpa using a,λj k=>?_⟩
  have:=b j k
  rwa [aU (J6 (A1 M8 M8))]at this
 have l:(λd g=>Q d g/\d.length=(f.set i (some v)).length/\∀j,n<=j->d[j]? = (f.set i (some v))[j]?)=λd g=>Q d g/\d.length=f.length/\∀j,n<=j->d[j]? = f[j]?:=by
  funext d g
  apply propext;constructor
  . rintro⟨a,b⟩;exact⟨a,m d b⟩
  . rintro⟨a,b,c⟩;refine⟨a,by simpa using b,λj k=>?_⟩
    rw[aU (J6 (A1 M8 M8))];exact c j k
 rw[<-l];exact(o r (f.set i (some v)) H Q q)
theorem Ny{n:Nat}{K:c9}{m:Nat}{t:lj}(h:xr n t):Fq n (yU K m t):=λx d H Q q=>by obtain⟨a,b,e,c,f,q⟩:=q;exact⟨a,b,e,c,f,h b d H Q q⟩
noncomputable def WI(J:It)(bs:List Str)(g:TG)(tt:TT)(te:TE)(σ:St)(Q:VK)(H1:Hp):Prop:=∃(n:Nat) (W:Nat->List V->Hp->Prop),n<=j8/\W 0 [] H1/\∀i ys H,W i ys H ->
 ((J.stop i H/\∀p,H p=none->Q (.ref p) (upd H p (.lst ys)))\/(J.go i H/\i<n/\∀x H',J.Fx i H x H'->g x (cD bs σ) H' λσ2 H2=>tt σ2 H2 λb H3=>if b=true then te σ2 H3 (λy H4=>W (i+1) (ys++[y]) H4)else W (i+1) ys H3))
noncomputable def pW(bs:List Str)(wi:TI)(g:TG)(tt:TT)(te:TE):TE:=λσ H Q=>wi σ H λJ H1=>WI J bs g tt te σ Q H1
theorem Vals.snoc{xs:List V}{us:List b8}{x:V}{u:b8}(r:Vals xs us)(h:RelV x u):Vals (xs++[x]) (us++[u]):=r.append (.cons h .nil)
theorem PQ{M:az}{A:j6}{E:b8->c8->Prop}{s:c8}{scope:E8}{a:Addr}{cl:List (Str×Addr)}{b:Str}{env:Env}{Q:Env->c8->Prop}{f:Addr}(g:Q (newEnv scope (hz s) a (cU ((hz s)+1) scope.names cl) b none .none (some env) f) {s with heap:=ly (s.heap.push {cls:=.type "dict",data:=.dict #[]}) scope.names}):
  wpAny M A (newFunctionEnv scope a cl [] b none .none (some env) f) Q E s:=by
 simp only[newFunctionEnv,JR,if_true];refine d8 (wpAny_alloc ?_);refine d8 (wpAny_layCells _ (λe c d=>by rfl) _ _ _ _ ?_)
 rw[show({s with heap:=s.heap.push {cls:=.type "dict",data:=.dict #[]}}:c8).heap.objs.size=(hz s)+1 from eT ..]
 refine d8 ?_;exact j4 (j4 g)
structure Dl(X:Cx)(bs nb:List Str)(scope:E8)(tg F:Expr)(Z:List Expr)(elt:Expr)(wi:TI)(g:TG)(tt:TT)(te:TE):Prop where
 c:X.calm=true
 b:xu X bs nb scope
 i:PI X tg F wi
 o:Fq bs.length g
 g:∀cl C fp s H pins,PG (kX X bs nb scope cl C fp s H pins) tg g
 t:∀cl C fp s H pins,Fp (kX X bs nb scope cl C fp s H pins) Z tt
 e:∀cl C fp s H pins,PE (kX X bs nb scope cl C fp s H pins) elt te
 s:∀x,foldedSetIterable F X.env x=pure x
theorem BE{X:Cx}{bs nb:List Str}{elt tg F:Expr}{Z:List Expr}{scope:E8}{pos:Pos}{wi:TI}{g:TG}{tt:TT}{te:TE}{use:Option (b8->Sem Unit)}{R:b8->c8->Prop}(M:Dl X bs nb scope tg F Z elt wi g tt te)(pins:List (Addr×Obj))(s:c8)(σ:St)(H:Hp)(Q:VK)(I:Inv X pins σ H s)(h:pW bs wi g tt te σ H Q)(hfin:∀(D C:Addr) (s':c8) (H':Hp) (f:Flow),Inv X pins σ H' s'->Q (.ref D) H'->hI X pins H' C->(∃m,s'.heap.Ns C m)->oV (model X.prog X.w) X.A X.xe use R (.ref D) C (.ok f) s'):
  wpAny (model X.prog X.w) X.A (comprehension (.ListComp elt [⟨tg,F,Z,0⟩] scope pos) scope X.env (firstIterPos [⟨tg,F,Z,0⟩] pos) (newList []) (firstAsync [⟨tg,F,Z,0⟩]) (firstIter [⟨tg,F,Z,0⟩] X.env) use) R X.xe s:=by
 obtain⟨hc,B,hi,go,hg,ht,he,hs⟩:=M;obtain⟨cl0,hcl,c1,c2⟩:=EY (λy hy hf=>I.ok.has y.1 (B.P8 y hy hf))
 refine wpAny_comprehension_free rfl hs hcl B.kind B.names (m4 (hi pins s σ H _ I h) λv s1 h1=>m4 h1 λitv a h2=>?_)
 obtain⟨it,fp,tn,J,H2,e,M,T,st2,f2,n,W,hn,w0,turn⟩:=h2;subst e;have hlt:∀b∈fp,b<a.heap.objs.size:=λb l=>by obtain⟨o,e,_⟩:=T.obj _ _ st2 b l;exact m6 e
 refine iq (PQ ?_);generalize hH2:a.heap.push {cls:=.type "list",dict:=none,data:=.seq ([]).toArray}=E;have hCs:E.objs.size=a.heap.objs.size+1:=by rw[<-hH2,eT]
 have hDC:a.heap.objs.size≠E.objs.size:=by rw[hCs];exact J6 (ua _)
 have t:a.heap.objs.size<=E.objs.size:=by rw[hCs];exact lE _
 have sz3:(E.push {cls:=.type "dict",data:=.dict #[]}).objs.size=E.objs.size+1:=eT ..;obtain⟨f1,f3,f4⟩:=WH a.heap.objs.size (λx c=>X.env.cells.lookup x=some c) scope.names (E.push {cls:=.type "dict",data:=.dict #[]}) cl0 (λ_=>False) X8
  (λx c e=>⟨by obtain⟨v,q⟩:=M.cell x c (c1 x c e);rw[sz3];exact JF (A1 q.lt t),.inl ⟨c1 x c e,λz=>z⟩⟩) (λx y c e1 e2=>M.ok.inj x y c (c1 x c e1) (c1 y c e2)) λx z=>z.elim
 rw[sz3]at f1 f3 f4;generalize hcl':cU (E.objs.size+1) scope.names cl0=cl at f1 f3 f4 ⊢;have P:(ly (E.push {cls:=.type "dict",data:=.dict #[]}) scope.names).Ns E.objs.size (λ_=>none):=(Heap.Ns.new E (.type "dict")).keeps (pushCells_keeps _ _)
 have old0:∀b o,E.get? b=some o->(ly (E.push {cls:=.type "dict",data:=.dict #[]}) scope.names).get? b=some o:=λb o e=>pushCells_keeps _ _ b o (o9 _ e)
 generalize ly (E.push {cls:=.type "dict",data:=.dict #[]}) scope.names=h₁ at f1 P old0 ⊢;have old:=λb o e=>old0 b o (hH2▸o9 _ e)
 have hacc:=old0 _ _ (hH2▸J8 _ rfl);have hDn:=λb l=>J6 (hlt b l)
 have L:Oi X scope cl a.heap.objs.size:=⟨λx c e=>(f1 x c e).imp (λz=>⟨z.1,λy=>z.2 (.inr y)⟩) λz=>⟨z.1.resolve_left λy=>y,z.2.1⟩,λx z=>f4 x (z.elim (λz=>.inr (c2 _ z rfl)) λz=>.inl (.inr z)),f3⟩
 have nD:∀x c,cl.lookup x=some c->c≠a.heap.objs.size:=λx c e z=>by
  rcases f1 x c e with ⟨y,_⟩|⟨_,_,o,y,yd⟩
  . obtain⟨v,q⟩:=M.cell x c y;exact absurd q.lt (by rw[z];exact S5 _)
  . rw[z,hacc]at y;cases y;cases yd
 have J0:=Sk (t':=a.toks) M B L (λx c e z=>(f1 x c e).elim (λy=>by obtain⟨v,q⟩:=M.cell x c y.1;exact absurd q.lt (Nat.not_lt.mpr z)) λy=>y.2.2) t f2 hlt old P
 generalize G:kX X bs nb scope cl E.objs.size fp a H2 pins=O at J0;have fpB:∀{H':Hp} {pl:List (Addr×Obj)},(∀b∈fp,H' b=none)->(∀p∈pl,p.1∉fp)->∀b∈fp,hI O pl H' b:=λ{H' pl} hz N b l=>by
  subst G;refine⟨hz b l,J6 (A1 (hlt b l) t),J0.ok.oG b l,.inl l,J0.ok.CN b l |>.2,λp hq=>?_⟩
  rcases List.mem_append.mp hq with z|z
  . exact(f2 b l).2.2.2.2.2 p z
  . intro e;exact N p z (e▸l)
 have Dfs:a.heap.objs.size∉O.fs:=λl=>by
  subst G;rcases List.mem_cons.mp (M.nU _ l)with z|z
  . exact absurd M.lt (by rw[<-z];exact S5 _)
  . exact M.MT F0 z
 have Dcell:∀x c,X.env.cells.lookup x=some c->c≠a.heap.objs.size:=λx c e z=>by obtain⟨v,q⟩:=M.cell x c e;exact absurd q.lt (by rw[z];exact S5 _)
 have Dpin:=λp N=>J6 (m6 (M.pin p N).1)
 have Dloc:a.heap.objs.size≠O.env.locals:=λz=>hDC (z.trans (m5 (·.env.locals) G).symm)
 have pinD:∀{σ':St} {H':Hp} {s':c8} {o:Obj},Inv O [] σ' H' s'->s'.heap.get? a.heap.objs.size=some o->H' a.heap.objs.size=none->(∀v,o.data≠.cell v)->Inv O [(a.heap.objs.size,o)] σ' H' s':=λ{σ' H' s' o} I' e hz hd =>
  I'.fD λp N=>by
   have ep:p=(a.heap.objs.size,o):=by simpa using N
   subst ep;exact⟨e,hz,Dloc,Dfs,hd⟩
 have loop:∀s₃:c8,s₃={a with heap:=h₁,toks:=a.toks} ->
   codeAny (model X.prog X.w) X.A (.compLoop (.ListComp elt [⟨tg,F,Z,0⟩] scope pos) 0 (.ref it) (.ref a.heap.objs.size) (oW scope cl E.objs.size X.env))
    (oV (model X.prog X.w) X.A X.xe use R (.ref a.heap.objs.size) E.objs.size) s₃:=by
  rintro s₃ rfl;refine BA (λk s'=>∃(i:Nat) (ys:List V) (S:List b8) (z:Nat) (H':Hp),k=n-i+1/\i<=n/\S.length<=i/\Vals ys S/\Inv O [(a.heap.objs.size,{cls:=.type "list",data:=.seq S.toArray z})] (cD bs σ) H' s'/\tn i s'.heap/\(∀b∈fp,H' b=none)/\W i ys H') ?_ (n-0+1)
   ⟨0,[],[],0,H2,rfl,fe _,C6 _,.nil,pinD J0 hacc (M.i9.fresh F0) (λv z=>by cases z),T.keep _ _ _ st2 λb _ o e=>old b o e,λb l=>(f2 b l).1,w0⟩
  rintro k s3 ⟨i,ys,S,z,H3,rfl,hin,hul,rv,I3,st3,fr3,w3⟩;have npl:∀p∈([(a.heap.objs.size,{cls:=.type "list",data:=.seq S.toArray z})]:List (Addr×Obj)),p.1∉fp:=λp N hm=>by
   have ep:p=(a.heap.objs.size,{cls:=.type "list",data:=.seq S.toArray z}):=by simpa using N
   subst ep;exact hDn _ hm rfl
  have eP:=(m5 (·.prog) G).symm;have eW:=(m5 (·.w) G).symm;have eK:=(m5 (·.K) G).symm;have eA:=(m5 (·.A) G).symm;have eC:=(m5 (·.calm) G).symm.trans hc;rcases turn i ys H3 w3 with ⟨stop,fin⟩|⟨gon,hlt',step⟩
  . have hd:=T.done O eP eW eK eC i _ s3 (cD bs σ) H3 (bR (model X.prog X.w) X.A (oW scope cl E.objs.size X.env) λe s'=>oV (model X.prog X.w) X.A X.xe use R (.ref a.heap.objs.size) E.objs.size (.error e) s') I3 (fpB fr3 npl) st3 stop
    rw[eA]at hd;refine m4 hd λr s4 ⟨hr,I4⟩=>?_
    subst hr;obtain⟨m,hm,_⟩:=I4.loc;have pD:=I4.pin (a.heap.objs.size,{cls:=.type "list",data:=.seq S.toArray z}) (D0 _ (mem_singleton.mpr rfl));have hCl:O.env.locals=E.objs.size:=(m5 (·.env.locals) G).symm;have I5:Inv X pins σ H3 s4:=by
     have hun:Un (N0 X.stack) fp H2 H3 a.heap s4.heap:=by have z:=I4.base;rw[<-G]at z;exact z
     exact M.xp (I4.os.trans (m5 (·.K5.os) G).symm) hun ((m5 (λY:Cx=>U6 Y.prog Y.w H3 s4.heap) G).mpr I4.i9) I4.bare λb l=>⟨(f2 b l).2.2.2.1,(f2 b l).2.1,(f2 b l).2.2.2.2.1,(f2 b l).2.2.2.2.2⟩
    have hys:ys.length<=j8:=by rw[rv.length];lia
    refine hfin a.heap.objs.size E.objs.size s4 _ _ (I5.wZ (o:=.lst ys) pD.2.1 (cF M.lt) (.inr M.sz) Dcell Dpin ⟨hys,S,z,rv,pD.1⟩) (fin _ pD.2.1) ⟨?_,cF (A1 M.lt t),M.MT t,.inr (t4 M.sz t),λx c e q=>?_,λp N q=>?_⟩ ⟨m,(hCl▸hm)⟩
    . rw[i8 (B3 hDC)];exact(hCl▸I4.free)
    . obtain⟨v,q2⟩:=M.cell x c e;exact absurd (A1 q2.lt (by rw[q];exact t)) (S5 _)
    . exact absurd (A1 (m6 (M.pin p N).1) (by rw[q];exact t)) (S5 _)
  . have hd:=T.item O eP eW eK eC i _ s3 (cD bs σ) H3 (bR (model X.prog X.w) X.A (oW scope cl E.objs.size X.env) λe s'=>oV (model X.prog X.w) X.A X.xe use R (.ref a.heap.objs.size) E.objs.size (.error e) s') I3 (fpB fr3 npl) st3 gon
    rw[eA]at hd;refine m4 hd λr s4 ⟨u,hr,h4⟩=>?_
    subst hr;refine m4 h4 λ_ s5 ⟨x,H5,I5,r5,y5,st5,fr5⟩=>?_
    have hxe:=λe s' q=>(congrFun (congrFun (m5 (·.xe) G) e) s').mpr q
    have eE:=(m5 (·.env) G).symm;have w6:=(G▸hg _ _ _ _ _ _) _ s5 (cD bs σ) H5 x u _ (I5.pinned (fpB fr5 npl) (T.obj _ _ st5)) r5 (go x (cD bs σ) H5 _ (step x H5 y5));rw[eP,eW,eA,eE]at w6;refine P1 w6 (λ_ s6 ⟨σ6,H6,I6,q6,l6,e6⟩=>?_) λ_ _ q=>(hxe _ _ q).elim
    have w7:=(G▸ht _ _ _ _ _ _) _ s6 σ6 H6 _ (bR (model X.prog X.w) X.A (oW scope cl E.objs.size X.env) λe s'=>oV (model X.prog X.w) X.A X.xe use R (.ref a.heap.objs.size) E.objs.size (.error e) s') (λ_ _ q=>(hxe _ _ q).elim) I6 q6
    rw[eP,eW,eA,eE]at w7;refine m4 w7 λok s7 ⟨H7,I7,q7⟩=>?_
    have weak:∀{pl:List (Addr×Obj)} {H':Hp} {s':c8},Inv O pl σ6 H' s'->Inv O pl (cD bs σ) H' s':=λ{pl H' s'} I'=>I'.weak l6.symm λj v hj=>by
     by_cases hjn:j<bs.length
     . unfold cD at hj;rw[pR (by simpa using hjn),AX,d9 hjn]at hj
       cases hj
     . rw[e6 j (Ai hjn)];exact hj
    have unp:∀{σ':St} {H':Hp} {s':c8},Inv O ([(a.heap.objs.size,({cls:=.type "list",data:=.seq S.toArray z}))]++om fp s5.heap) σ' H' s' ->
      (∀b∈fp,∀o,s5.heap.get? b=some o->s'.heap.get? b=some o)/\(∀b∈fp,H' b=none)/\s'.heap.get? a.heap.objs.size=some {cls:=.type "list",data:=.seq S.toArray z}/\H' a.heap.objs.size=none:=λ{σ' H' s'} I'=>by
     refine⟨λb l o e=>(I'.pin (b,o) (D0 _ (D0 _ (ib l e)))).1,λb l=>?_,?_,?_⟩
     . obtain⟨o,e,d⟩:=T.obj _ _ st5 b l;exact(I'.pin (b,o) (D0 _ (D0 _ (ib l e)))).2.1
     . exact(I'.pin (a.heap.objs.size,{cls:=.type "list",data:=.seq S.toArray z}) (D0 _ (ao _ (mem_singleton.mpr rfl)))).1
     . exact(I'.pin (a.heap.objs.size,{cls:=.type "list",data:=.seq S.toArray z}) (D0 _ (ao _ (mem_singleton.mpr rfl)))).2.1
    cases ok with
    |false =>
     obtain⟨k1,k2,k3,k4⟩:=unp I7;refine⟨n-(i+1)+1,JB (Km _ _ hlt'),i+1,ys,S,z,H7,rfl,hlt',JG M8,rv,pinD (weak (I7.fD λp N=>nomatch N)) k3 k4 (λv q=>by cases q),T.keep _ _ _ st5 k1,k2,?_⟩
     simpa using q7
    |true =>
     have q7':te σ6 H7 λy H4=>W (i+1) (ys++[y]) H4:=by simpa using q7
     have w8:=(G▸he _ _ _ _ _ _) _ s7 σ6 H7 _ I7 q7';rw[eP,eW,eA,eE]at w8;refine P1 w8 (λuy s8 ⟨y,H8,I8,r8,q8⟩=>?_) λ_ _ q=>(hxe _ _ q).elim
     obtain⟨k1,k2,k3,k4⟩:=unp I8;refine append_at k3 λh9 sb9 g9=>?_
     have I8':Inv O [] (cD bs σ) H8 s8:=weak (I8.fD λp N=>nomatch N)
     have ePn:O.pn=X.pn++pins:=(m5 (·.pn) G).symm;have eCl:O.env.cells=cl:=(m5 (·.env.cells) G).symm;have I9:Inv O [] (cD bs σ) H8 {s8 with heap:=h9}:=I8'.turned (λb o l e=>sb9.extBut b o l e) k4 Dloc (.inr (by rw[((m5 (·.K5) G).symm)];exact C6 _))
      (λx c e=>nD x c (by rw[<-eCl];exact e)) (λp N=>Dpin p (by rw[ePn]at N;simpa using N))
     refine⟨n-(i+1)+1,JB (Km _ _ hlt'),i+1,ys++[y],S++[uy],z+1,H8,rfl,hlt',by rw[A0,eX];simp[*],rv.snoc r8,pinD I9 ?_ k4 (λv q=>by cases q),T.keep _ _ _ st5 λb l o e=>?_,k2,q8⟩
     . rw[g9,List.push_toArray]
     . exact sb9.extBut b o (hDn b l) (k1 b l o e)
 exact codeAny_compStart_list (loop _ rfl) (T.self _ 0 _ _ _ (T.keep _ _ _ st2 λb _ o e=>old b o e) (loop _ rfl))
theorem Rc{X:Cx}{bs nb:List Str}{d j a:Expr}{i:List Expr}{scope:E8}{pos:Pos}{k:TI}{g:TG}{tt:TT}{te:TE}(M:Dl X bs nb scope j a i d k g tt te):PE X (.ListComp d [⟨j,a,i,0⟩] scope pos) (pW bs k g tt te):=by
 intro pins s l H Q I h;refine BE M pins s l H Q I h λD C G E f u q c ⟨m,z⟩=>⟨m,z,λw t=>?_⟩
 exact⟨.ref D,E,u.turned (λb o p e=>t.extBut b o p e) c.1 c.2.1 c.2.2.2.1 c.2.2.2.2.1 c.2.2.2.2.2,rfl,q⟩
theorem QP{X:Cx}{bs nb:List Str}{j r a:Expr}{k:List Expr}{scope:E8}{cpos pos c:Pos}{L:TI}{g:TG}{tt:TT}{te:TE}{i:Nat}{x:Str}(hN:X.N.Nodup)(A:X.N[i]? = some x)(hx:Loc X.env.scope x)(M:Dl X bs nb scope r a k j L g tt te)(G:autoParam (N8 (.ListComp j [⟨r,a,k,0⟩] scope cpos) (some (.Name x c)) pos.line X.env=pure true) e8)(hf:autoParam (lT X x) W9):PS X (.Assign [.Name x c] (.ListComp j [⟨r,a,k,0⟩] scope cpos) pos) (mh (pW bs L g tt te) (X6 i)):=by
 intro pins s u H D I h;rw[exec_Assign_Name_used _ _ _ _ G];refine d8 (jx ?_);refine d8 (d8 (m4 (BE M pins s u H _ I h λK C s' Q f O q d ⟨m,Z⟩=>?_) λ_ s' t=>j4 (j4 t)))
 obtain⟨n,es,ep,Y,P,hr⟩:=id Z;have R:Inv X ((C,n)::pins) u Q s':=O.fD λp l=>by
  rcases List.mem_cons.mp l with rfl|l
  . exact⟨Y,d.1,d.2.1,d.2.2.1,λv z=>by rw[P]at z;cases z⟩
  . exact O.pin p (D0 _ l)
 refine m4 (Ca hN A hx hf ((C,n)::pins) s' u Q (.ref K) (.ref K) D.nx R rfl q) λ_ V ⟨y,E,F,q3⟩=>?_
 have M:=F.pin (C,n) (D0 _ o2);refine⟨m,⟨n,es,ep,M.1,P,hr⟩,λh'' sb=>⟨y,E,?_,q3⟩⟩
 exact(F.fD λp l=>F.pin p (D0 _ (o8 _ l))).turned (λb o T e=>sb.extBut b o T e) M.2.1 d.2.1 d.2.2.2.1 d.2.2.2.2.1 d.2.2.2.2.2
section
variable{prog:j3}{w:i7}{A:j6}{E:b8->c8->Prop}{s:c8}
noncomputable def hV(kd:Bool)(h:Heap)(i l:Addr)(k:Nat):Prop:=match kd with
 |true=>h.IsTupleIter i l k
 |false=>h.IsListIter i l k
noncomputable def nM(kd:Bool)(h:Heap)(i l:Addr)(k:Nat)(xs:Array b8):Prop:=match kd with
 |true=>h.IsTupleIter i l k/\h.IsTuple l xs
 |false=>h.IsListIter i l k/\h.IsList l xs
theorem hV.at{a:Bool}{h h':Heap}{i l:Addr}{k:Nat}(x:hV a h i l k)(e:∀o,h.get? i=some o->h'.get? i=some o):hV a h' i l k:=by
 cases a
 . exact Heap.IsListIter.at (show h.IsListIter i l k from x) e
 . exact Heap.IsTupleIter.at (show h.IsTupleIter i l k from x) e
theorem hV.obj{a:Bool}{h:Heap}{i l:Addr}{k:Nat}(x:hV a h i l k):∃o,h.get? i=some o/\∀v,o.data≠.cell v:=by
 cases a
 . obtain⟨o,e,_,d⟩:=(show h.IsListIter i l k from x)
   exact⟨o,e,λv z=>by rw[d]at z;cases z⟩
 . obtain⟨o,e,_,d⟩:=(show h.IsTupleIter i l k from x)
   exact⟨o,e,λv z=>by rw[d]at z;cases z⟩
theorem nM.kept{a:Bool}{h h':Heap}{i l:Addr}{k:Nat}{xs:Array b8}(x:nM a h i l k xs)(e:∀b o,b=i\/b=l->h.get? b=some o->h'.get? b=some o):nM a h' i l k xs:=by
 cases a
 . obtain⟨x,⟨o,c,r⟩⟩:=(show h.IsListIter i l k/\h.IsList l xs from x)
   exact⟨x.at λo q=>e i o (.inl rfl) q,⟨o,e l o (.inr rfl) c,r⟩⟩
 . obtain⟨x,⟨o,c,r⟩⟩:=(show h.IsTupleIter i l k/\h.IsTuple l xs from x)
   exact⟨x.at λo q=>e i o (.inl rfl) q,⟨o,e l o (.inr rfl) c,r⟩⟩
theorem Ew{it t:Addr}{i:Nat}{xs:Array b8}{x:b8}{Q:b8->c8->Prop}(a:s.heap.IsTupleIter it t i)(e:s.heap.IsTuple t xs)(h:xs[i]? = some x)(f:∀h',h'.IsTupleIter it t (i+1)->jv it s.heap h'->Q x {s with heap:=h'}):wpAny (model prog w) A (uC (.ref it)) Q E s:=by
 obtain⟨j,c,g,b⟩:=id a;obtain⟨k,d,_,n,dt⟩:=e;refine d8 (nj a.typeIs uF
  (jE uF a.typeIs KW ?_ (KY _)))
 show wpAny _ _ (field (.ref it) 0 >>= _) _ _ s
 refine d8 (H9 c b rfl ?_);refine d8 (H9 c b rfl ?_);refine d8 (gF d dt ?_);simp only[uf,h];refine d8 (fh c b u3 (j4 ⟨x,rfl,j4 (f _ ?_ (Ka ..))⟩));refine⟨_,eV _ c (pO (lO b _)),(Obj.cls_mapFields ..).trans g,?_⟩;rw[lO b];rfl
theorem HJ{it t:Addr}{i:Nat}{xs:Array b8}{Q:b8->c8->Prop}(j:A.handled=none)(a:s.heap.IsTupleIter it t i)(h:s.heap.IsTuple t xs)(l:xs[i]? = none)(k:∀h' e,Heap.ExtBut it s.heap h'->(∃o,h'.get? e=some o/\o.cls=.type "StopIteration")->E (.ref e) {s with heap:=h'}):wpAny (model prog w) A (uC (.ref it)) Q E s:=by
 obtain⟨m,d,p,c⟩:=id a;obtain⟨q,g,_,n,dt⟩:=h;refine d8 (nj a.typeIs uF
  (jE uF a.typeIs KW ?_ (KY _)))
 show wpAny _ _ (field (.ref it) 0 >>= _) _ _ s
 refine d8 (H9 d c rfl ?_);refine d8 (H9 d c rfl ?_);refine d8 (gF g dt ?_);simp only[uf,l];refine d8 (lB (d8 (fh d c u3 ?_)));refine d8 ?_;refine d8 (iq ?_ (by size_fits))
 refine d8 (wpAny_of_eq (by rfl) ?_)
 refine iq ?_ (by size_fits)
 refine d8 (wpAny_handled ?_);rw[j];refine wpAny_throw (k _ _ (λb o f e=>?_) ⟨_,J8 _ rfl,rfl⟩)
 exact o9 _ (o9 _ ((Ka ..).extBut b o f e))
theorem ia{c:Bool}{it l:Addr}{i:Nat}{xs:Array b8}{x:b8}{Q:b8->c8->Prop}(h:nM c s.heap it l i xs)(f:l≠it)(e:xs[i]? = some x)(d:∀h',hV c h' it l (i+1)->jv it s.heap h'->Q x {s with heap:=h'}):wpAny (model prog w) A (uC (.ref it)) Q E s:=by
 cases c
 . exact wpAny_nextOf_list_item h.1 h.2 e λh' b a=>d h' b a
 . exact Ew h.1 h.2 e λh' b a=>d h' b a
theorem jR{a:Bool}{it l:Addr}{i:Nat}{xs:Array b8}{Q:b8->c8->Prop}(b:A.handled=none)(h:nM a s.heap it l i xs)(d:xs[i]? = none)(c:∀h' e,Heap.ExtBut it s.heap h'->(∃o,h'.get? e=some o/\o.cls=.type "StopIteration")->E (.ref e) {s with heap:=h'}):wpAny (model prog w) A (uC (.ref it)) Q E s:=by
 cases a
 . exact wpAny_nextOf_list_end b h.1 h.2 d c
 . exact HJ b h.1 h.2 d c
theorem Fw {I k2:Bool} {z TI TO i1 i2 B C:Addr} {k:Nat} {xs ys:Array b8} {x y a b:b8} {Q:Option b8->c8->Prop} (D:ZipApart z TI TO i1 i2 B C) (hz:IsZip s.heap z TI TO .none) (r:eZ s.heap TI (.ref i1) (.ref i2)) (v:eZ s.heap TO a b) (h1:nM I s.heap i1 B k xs) (V:nM k2 s.heap i2 C k ys) (hx:xs[k]? = some x) (X:ys[k]? = some y) (hQ:∀h',IsZip h' z TI TO (P4 s.heap.objs.size)->eZ h' TO x y->hV I h' i1 B (k + 1)->hV k2 h' i2 C (k + 1)->eZ h' s.heap.objs.size x y ->
   (∀c o,c≠z->c≠TO->c≠i1->c≠i2->s.heap.get? c=some o->h'.get? c=some o)->Q (some (.ref s.heap.objs.size)) {s with heap:=h'}) :
  wpAny (model prog w) A (pyNext (.ref z)) Q E s:=by
 have O:s.TypeIs (.ref z) "zip":=⟨_,hz,rfl⟩;refine d8 (tL (nj O tU (jE tU O F.entry_zip_next ?_ (F.args_zip_next_1 _))));show wpAny _ _ (field (.ref z) 2 >>= _) _ _ _
 refine d8 (H9 hz rfl rfl ?_);refine d8 (H9 hz rfl rfl (d8 (gF r rfl ?_)));refine d8 ?_;refine d8 (H9 hz rfl rfl (j4 ?_));refine d8 (lB (d8 (H9 hz rfl rfl (d8 (lN hz u3 λg1 z1 i=>?_)))))
 refine d8 ?_;refine d8 (d8 (tK ?_));refine d8 (ia (h1.kept λc o l e=>i.extBut c o (by rcases l with rfl|rfl;exact D.i1z;exact D.l1z) e) D.l1i1 hx λg2 p1 m=>j4 ?_)
 have G:=m.extBut _ _ D.TOi1 (i.extBut _ _ D.TOz v);refine d8 (gF G rfl (d8 (AL G λg3 t3 g=>?_)))
 refine d8 (wpAny_letGo (j4 ?_));refine d8 (d8 (tK ?_));have q2:=V.kept λc o l e=>by
  have Z:c≠z:=by rcases l with rfl|rfl;exact D.i2z;exact D.l2z
  have n2:c≠i1:=by rcases l with rfl|rfl;exact D.i12.symm;exact D.l2i1
  have W:c≠TO:=by rcases l with rfl|rfl;exact D.TOi2.symm;exact D.l2TO
  exact g.extBut c o W (m.extBut c o n2 (i.extBut c o Z e))
 refine d8 (ia q2 D.l2i2 X λg4 Y h=>j4 ?_)
 have N:=h.extBut _ _ D.TOi2 t3;refine d8 (gF N rfl (d8 (AL N λf q j=>?_)))
 replace q:eZ f TO x y:=q;refine d8 (wpAny_letGo (j4 (j4 (d8 (gF q rfl (d8 (wpAny_newTuple ?_)))))));have sz:f.objs.size=s.heap.objs.size:=by rw[j.1,h.1,g.1,m.1,i.1]
 have M:=j.extBut _ _ D.TOz.symm (h.extBut _ _ D.i2z.symm (g.extBut _ _ D.TOz.symm (m.extBut _ _ D.i1z.symm z1)));have k5:∀c o,c≠z->c≠TO->c≠i1->c≠i2->s.heap.get? c=some o->f.get? c=some o:=λc o d n u t e =>
  j.extBut _ _ n (h.extBut _ _ t (g.extBut _ _ n (m.extBut _ _ u (i.extBut _ _ d e))))
 refine d8 ?_;have T:IsZip (f.push {cls:=.type "tuple",data:=.seq #[x,y]}) z TI TO .ellipsis:=o9 _ M;refine d8 (lN T u3 λg7 z7 P=>?_)
 refine lN z7 u3 λK R S=>?_
 have p:∀c o,c≠z->f.get? c=some o->K.get? c=some o:=λc o d e=>S.extBut _ _ d (P.extBut _ _ d (o9 _ e))
 have L:=cF (m6 M);have H:=S.extBut _ _ L (P.extBut _ _ L (J8 _ rfl));rw[sz]at R H;refine j4 ⟨_,rfl,j4 ?_⟩;rw[sz];exact hQ K R (p _ _ D.TOz q) ((p1.at λo e=>j.extBut _ _ D.TOi1.symm (h.extBut _ _ D.i12 (g.extBut _ _ D.TOi1.symm e))).at λo e=>p _ o D.i1z e) ((Y.at λo e=>j.extBut _ _ D.TOi2.symm e).at λo e=>p _ o D.i2z e) H λc o d n u t e=>p c o d (k5 c o d n u t e)
theorem Lg{T k2:Bool}{z TI TO i1 i2 P S:Addr}{k:Nat}{xs ys:Array b8}{a b:b8}{Q:Option b8->c8->Prop}(L:A.handled=none)(D:ZipApart z TI TO i1 i2 P S)(hz:IsZip s.heap z TI TO .none)(u:eZ s.heap TI (.ref i1) (.ref i2))(B:eZ s.heap TO a b)(h1:nM T s.heap i1 P k xs)(V:nM k2 s.heap i2 S k ys)(n:xs[k]? = none\/ys[k]? = none)(hQ:∀h',(∀c o,c≠z->c≠TO->c≠i1->c≠i2->s.heap.get? c=some o->h'.get? c=some o)->Q none {s with heap:=h'}):
  wpAny (model prog w) A (pyNext (.ref z)) Q E s:=by
 have N:s.TypeIs (.ref z) "zip":=⟨_,hz,rfl⟩;refine d8 (tL (nj N tU (jE tU N F.entry_zip_next ?_ (F.args_zip_next_1 _))));have p:∀g e,(∀c o,c≠z->c≠TO->c≠i1->c≠i2->s.heap.get? c=some o->g.get? c=some o)->(∃o,g.get? e=some o/\o.cls=.type "StopIteration") ->
   wpAny (model prog w) A (do if <- isInstance (.ref e) (.type "StopIteration")then pure none else throw (.ref e)) Q E {s with heap:=g}:=λg e hk ⟨o,ho,f⟩ =>
  d8 (wpAny_isInstance ⟨o,ho,f⟩ isSubtype_stop (j4 (hQ _ hk)))
 show wpAny _ _ (field (.ref z) 2 >>= _) _ _ _
 refine d8 (H9 hz rfl rfl ?_);refine d8 (H9 hz rfl rfl (d8 (gF u rfl ?_)));refine d8 ?_;refine d8 (H9 hz rfl rfl (j4 ?_));refine d8 (lB (d8 (H9 hz rfl rfl (d8 (lN hz u3 λg1 H r=>?_)))))
 refine d8 ?_;refine d8 (d8 (tK ?_));have M:=h1.kept λc o f e=>r.extBut c o (by rcases f with rfl|rfl;exact D.i1z;exact D.l1z) e
 cases hx:xs[k]? with
 |none =>
  refine d8 (jR L M hx λZ e i v=>?_)
  obtain⟨t,d,l⟩:=v;have O:=i _ _ D.i1z.symm H;have ne:e≠z:=λq=>by subst q;rw[O]at d;lia
  refine lN O u3 λI _ j=>p I e (λc o m _ y _ q=>j.extBut _ _ m (i _ _ y (r.extBut _ _ m q))) ⟨t,j.extBut _ _ ne d,l⟩
 |some x =>
  have hy:ys[k]? = none:=by
   rcases n with h|h
   . rw[hx]at h;exact nS h
   . exact h
  refine d8 (ia M D.l1i1 hx λZ p1 i=>j4 ?_)
  have C:=i.extBut _ _ D.TOi1 (r.extBut _ _ D.TOz B);refine d8 (gF C rfl (d8 (AL C λI t3 j=>?_)))
  refine d8 (wpAny_letGo (j4 ?_));refine d8 (d8 (tK ?_));have q2:=V.kept λc o f e=>by
   have n1:c≠z:=by rcases f with rfl|rfl;exact D.i2z;exact D.l2z
   have n2:c≠i1:=by rcases f with rfl|rfl;exact D.i12.symm;exact D.l2i1
   have Y:c≠TO:=by rcases f with rfl|rfl;exact D.TOi2.symm;exact D.l2TO
   exact j.extBut c o Y (i.extBut c o n2 (r.extBut c o n1 e))
  refine d8 (jR L q2 hy λg4 e K v=>?_)
  obtain⟨t,d,l⟩:=v;have G:=K _ _ D.i2z.symm (j.extBut _ _ D.TOz.symm (i.extBut _ _ D.i1z.symm H));have ne:e≠z:=λq=>by subst q;rw[G]at d;cases d;simp at l
  refine lN G u3 λW _ R=>p W e (λc o m X y c4 q=>R.extBut _ _ m (K _ _ c4 (j.extBut _ _ X (i.extBut _ _ y (r.extBut _ _ m q))))) ⟨t,R.extBut _ _ ne d,l⟩
end
noncomputable def Jn(K:c9)(H:Hp)(a:Addr)(xs:List V):Prop:=F3 K H a xs\/P0 K H a xs
theorem Jn.ne{X:Cx}{pins:List (Addr×Obj)}{i:St}{H:Hp}{s:c8}{a b:Addr}{xs:List V}(I:Inv X pins i H s)(h:Jn X.K H a xs)(f:hI X pins H b):a≠b:=by
 have d:∀{u:HO},Rd H a u->a≠b:=λ{u} r=>by
  rcases r with r|⟨o,r⟩
  . exact B2 r f.1
  . exact B2 r f.1
 have c:∀{o:Obj},X.K.lookup a=some o->a≠b:=λ{o} e z=>by
  have g:=I.ok.mod.ow a o e;rcases f.2.2.2.1 with q|q
  . exact I.ok.mF a o g (z▸q)
  . exact absurd (A1 (m6 g) (t4 I.ok.jW (by simp_all))) (S5 _)
 rcases h with (r|⟨o,_,_,e,_⟩)|(r|⟨o,_,_,e,_⟩)
 . exact d r
 . exact c e
 . exact d r
 . exact c e
theorem Co{h:Heap}{a:Addr}{xs ys:Array b8}(f:h.IsList a xs)(g:h.IsTuple a ys):False:=by
 obtain⟨o,e,c,_⟩:=f;obtain⟨i,b,d,_⟩:=g
 lia
theorem Inv.LM{X:Cx}{pins:List (Addr×Obj)}{b:St}{H:Hp}{s:c8}{a:Addr}{xs ys:List V}(I:Inv X pins b H s)(h:Jn X.K H a xs)(h':Jn X.K H a ys):xs=ys:=by
 rcases h with h|h<;>rcases h' with h'|h'
 . exact I.yG h h'
 . obtain⟨_,_,p,_⟩:=I.list h;obtain⟨_,_,q,_⟩:=I.tuple h';exact(Co p.isList q).elim
 . obtain⟨_,_,p,_⟩:=I.list h';obtain⟨_,_,q,_⟩:=I.tuple h;exact(Co p.isList q).elim
 . exact I.vx h h'
theorem Inv.pT{X:Cx}{pins:List (Addr×Obj)}{g:St}{H:Hp}{s:c8}{h':Heap}{t':Nat}{ch:List Addr}(I:Inv X pins g H s)(k:∀b o,b∉ch->s.heap.get? b=some o->h'.get? b=some o)(f:∀b∈ch,hI X pins H b):Inv X pins g H {s with heap:=h',toks:=t'}:=by
 have d:∀b u,H b=some u->b∉ch:=λb u e z=>by rw[(f b z).1]at e;exact nE e
 refine I.step (λb j=>?_) (λb o _ _ a e _=>k b o a e) (λb o _ _ a e _=>⟨o.slots,k b o a e⟩) (λ_ _ _ _ n=>n)
  (λb o a e=>⟨o,k b o a e⟩) (λ_ _ e=>e) (λ_ _ _ e=>e) (λb A e=>⟨#[],by rw[e];simp⟩) (λm i=>?_) (λb u e=>?_) I.bare
 . obtain⟨_,x,_,p,l,h⟩:=f b j;exact⟨p,x,l,h⟩
 . obtain⟨o,y,w,t,r⟩:=i;exact⟨o,y,w,k _ o (λz=>(f _ z).2.1 rfl) t,r⟩
 . refine(I.i9 b u e).iE (λc v a q=>k c v ?_ q) (λ_ q=>q) λ_ _ q=>q
   rcases a with z|z
   . rw[z];exact d b u e
   . exact d c _ z
noncomputable def cL(kd:Bool)(K:c9)(H:Hp)(a:Addr)(xs:List V):Prop:=match kd with
 |true=>P0 K H a xs
 |false=>F3 K H a xs
theorem cL.x{b:Bool}{K:c9}{H:Hp}{a:Addr}{xs:List V}(h:cL b K H a xs):Jn K H a xs:=by
 cases b
 . exact .inl h
 . exact .inr h
theorem Inv.BK{X:Cx}{pins:List (Addr×Obj)}{f:St}{H:Hp}{s:c8}{c:Bool}{i a:Addr}{k:Nat}{xs:List V}(I:Inv X pins f H s)(h:cL c X.K H a xs)(it:hV c s.heap i a k):∃b:List b8,Vals xs b/\nM c s.heap i a k b.toArray:=by
 cases c
 . obtain⟨b,d,p,e⟩:=I.list h;exact⟨b,d,it,p.isList⟩
 . obtain⟨b,d,p,e⟩:=I.tuple h;exact⟨b,d,it,p⟩
noncomputable def Xn(k1 k2:Bool)(K:c9)(a b:Addr):It :=
 ⟨λi H=>∃xs ys x y,cL k1 K H a xs/\cL k2 K H b ys/\xs[i]? = some x/\ys[i]? = some y,
  λi H v H'=>∃p,v=.ref p/\H p=none/\∃x y,H'=upd H p (.tup [x,y])/\∀xs ys,cL k1 K H a xs->cL k2 K H b ys->xs[i]? = some x/\ys[i]? = some y,
  λi H=>∃xs ys,cL k1 K H a xs/\cL k2 K H b ys/\(xs.length<=i\/ys.length<=i)⟩
structure Pw(k1 k2:Bool)(z TI TO i1 i2 a b:Addr)(i:Nat)(h:Heap):Prop where
 hz:IsZip h z TI TO .none
 CG:eZ h TI (.ref i1) (.ref i2)
 OY:∃x y,eZ h TO x y
 h1:hV k1 h i1 a i
 h2:hV k2 h i2 b i
structure Vs(z TI TO i1 i2:Addr):Prop where
 TIz:TI≠z
 TOz:TO≠z
 i1z:i1≠z
 i2z:i2≠z
 TITO:TI≠TO
 TIi1:TI≠i1
 TIi2:TI≠i2
 TOi1:TO≠i1
 TOi2:TO≠i2
 i12:i1≠i2
theorem cL.inj{X:Cx}{pins:List (Addr×Obj)}{c:St}{H:Hp}{s:c8}{b:Bool}{a:Addr}{xs ys:List V}(I:Inv X pins c H s)(h:cL b X.K H a xs)(h':cL b X.K H a ys):xs=ys:=I.LM h.x h'.x
theorem Lq{P:j3}{w:i7}{K:c9}{es:List Expr}{k:Nat}{pos:Pos}{k1 k2:Bool}{z TI TO i1 i2 a b:Addr}(D:Vs z TI TO i1 i2):
  Turn P w K (.Tuple es k pos) (Xn k1 k2 K a b) [z,TI,TO,i1,i2] z (λi h=>Pw k1 k2 z TI TO i1 i2 a b i h) where
 mem:=u3
 obj:=λi h d c f=>by
  have g:c=z\/c=TI\/c=TO\/c=i1\/c=i2:=by simpa using f
  rcases g with rfl|rfl|rfl|rfl|rfl
  . exact⟨_,d.hz,λv q=>by cases q⟩
  . exact⟨_,d.CG,λv q=>by cases q⟩
  . obtain⟨x,y,e⟩:=d.OY;exact⟨_,e,λv q=>by cases q⟩
  . exact d.h1.obj
  . exact d.h2.obj
 keep:=λi h L d C=>by obtain⟨x,y,e⟩:=d.OY;exact⟨C z u3 _ d.hz,C TI u3 _ d.CG,⟨x,y,C TO u3 _ e⟩,d.h1.at λo q=>C i1 u3 o q,d.h2.at λo q=>C i2 u3 o q⟩
 item:=by
  intro X S V hK f i j s Q H E I l d R;subst S V hK;obtain⟨xs,ys,x,y,r,m,ex,ey⟩:=R;obtain⟨us,rx,ox⟩:=I.BK r d.h1;obtain⟨vs,Z,Y⟩:=I.BK m d.h2;obtain⟨u,hu,ru⟩:=rx.get ex;obtain⟨v,hv,rvv⟩:=Z.get ey;obtain⟨x0,y0,B⟩:=d.OY;have A:=l z u3;have t:=l TO u3;have G:=l i1 u3;have M:=l i2 u3;have ZA:ZipApart z TI TO i1 i2 a b:=⟨D.TIz,D.TOz,D.i1z,D.i2z,D.TITO,D.TIi1,D.TIi2,D.TOi1,D.TOi2,D.i12,r.x.ne I A,r.x.ne I t,r.x.ne I G,r.x.ne I M,m.x.ne I A,m.x.ne I t,m.x.ne I G,m.x.ne I M⟩;refine Fw ZA d.hz d.CG B ox Y (by simpa using hu) (by simpa using hv) λL g1 g2 g3 g4 g5 O=>?_
  have hT:=I.i9.fresh F0;have I1:Inv X j Q H {s with heap:=L}:=I.pT (ch:=[z,TO,i1,i2]) (λc o f e=>O c o (λq=>f (by simp[q])) (λq=>f (by simp[q])) (λq=>f (by simp[q])) (λq=>f (by simp[q])) e)
   (λc f=>l c (by
    have g:c=z\/c=TO\/c=i1\/c=i2:=by simpa using f
    rcases g with rfl|rfl|rfl|rfl<;>simp))
  have I2:Inv X j Q (upd H s.heap.objs.size (.tup [x,y])) {s with heap:=L}:=I1.wZ hT (cF I.lt) (.inr I.sz)
   (λn c e q=>by obtain⟨vv,q2⟩:=I.cell n c e;exact absurd q2.lt (by rw[q];exact S5 _))
   (λp hp q=>absurd (m6 (I.pin p hp).1) (by rw[q];exact S5 _))
   ⟨by show 2<=j8;rw[aT];decide,[u,v],.cons ru (.cons rvv .nil),⟨_,g5,rfl,_,rfl⟩⟩
  refine⟨_,rfl,wpAny_letOwnedTupleGo_zip g1 λh2 z2 N=>?_⟩
  have uz:∀c,c∈[z,TI,TO,i1,i2]->(upd H s.heap.objs.size (.tup [x,y])) c=none:=λc f=>by
   have hlt:c<s.heap.objs.size:=by
    have g:c=z\/c=TI\/c=TO\/c=i1\/c=i2:=by simpa using f
    rcases g with rfl|rfl|rfl|rfl|rfl
    . exact(m6 d.hz)
    . exact m6 d.CG
    . exact m6 B
    . obtain⟨o,e,_⟩:=d.h1.obj;exact m6 e
    . obtain⟨o,e,_⟩:=d.h2.obj;exact m6 e
   rw[i8 (J6 hlt)];exact(l c f).1
  have I3:Inv X j Q (upd H s.heap.objs.size (.tup [x,y])) {s with heap:=h2}:=Inv.turned (s:={s with heap:=L}) I2 (λc o f e=>N.extBut c o f e) (uz z u3) A.2.1 A.2.2.2.1 A.2.2.2.2.1 A.2.2.2.2.2
  refine⟨.ref s.heap.objs.size,_,I3,rfl,⟨_,rfl,hT,x,y,rfl,λxs' ys' T hy'=>?_⟩,⟨z2,N.extBut _ _ D.TIz (O _ _ D.TIz D.TITO D.TIi1 D.TIi2 d.CG),⟨_,_,N.extBut _ _ D.TOz g2⟩,?_,?_⟩,uz⟩
  . rw[T.inj I r,hy'.inj I m];exact⟨ex,ey⟩
  . exact g3.at λo q=>N.extBut _ _ D.i1z q
  . exact g4.at λo q=>N.extBut _ _ D.i2z q
 done:=by
  intro X S V hK f i j s Q H E I l d R;subst S V hK;obtain⟨xs,ys,r,m,F⟩:=R;obtain⟨us,rx,ox⟩:=I.BK r d.h1;obtain⟨vs,Z,Y⟩:=I.BK m d.h2;obtain⟨x0,y0,B⟩:=d.OY;have A:=l z u3;have t:=l TO u3;have G:=l i1 u3;have M:=l i2 u3;have ZA:ZipApart z TI TO i1 i2 a b:=⟨D.TIz,D.TOz,D.i1z,D.i2z,D.TITO,D.TIi1,D.TIi2,D.TOi1,D.TOi2,D.i12,r.x.ne I A,r.x.ne I t,r.x.ne I G,r.x.ne I M,m.x.ne I A,m.x.ne I t,m.x.ne I G,m.x.ne I M⟩;have:=rx.length;have:=Z.length;refine Lg (I.ok.hd f) ZA d.hz d.CG B ox Y ?_ λL O=>⟨rfl,?_⟩
  . rcases F with q|q
    . exact .inl (by simp;simp_all)
    . exact .inr (by simp;simp_all)
  . exact I.pT (ch:=[z,TO,i1,i2]) (λc o f e=>O c o (λq=>f (by simp[q])) (λq=>f (by simp[q])) (λq=>f (by simp[q])) (λq=>f (by simp[q])) e)
      (λc f=>l c (by
       have g:c=z\/c=TO\/c=i1\/c=i2:=by simpa using f
       rcases g with rfl|rfl|rfl|rfl<;>simp))
 self:=λ_ _ _ _ _ d h=>wpAny_pyIter_zip d.hz h
set_option tactic.hygienic true
set_option tactic.hygienic false
noncomputable def ExcAt(e C dx:Addr)(h:Heap):Prop:=∃vs,h.get? e=some {cls:=.ref C,dict:=some dx,data:=.fields vs}
noncomputable def A3(e C:Addr)(dx:Option Addr)(h:Heap):Prop:=∃t,h.get? e=some {cls:=.ref C,dict:=dx,data:=.fields #[.ref t,.none,.none,.none,.bool false,.none]}
theorem A3.keep{e C:Addr}{a:Option Addr}{h h':Heap}(x:A3 e C a h)(k:∀o,h.get? e=some o->h'.get? e=some o):A3 e C a h':=let ⟨t,q⟩:=x;⟨t,k _ q⟩
noncomputable def J4(C:Addr)(fld:Str)(d:b5):b5:=.dict [(.tuple [.int (C:Nat),.str fld],d)]
theorem ExcAt.keep{e C a:Addr}{h h':Heap}(x:ExcAt e C a h)(k:∀o,h.get? e=some o->h'.get? e=some o):ExcAt e C a h':=let ⟨b,q⟩:=x;⟨b,k _ q⟩
structure bw(K:c9)(C:Addr):Prop where
 ga:O0 K (.ref C) "__getattribute__" = some (some (.builtin "BaseException.__getattribute__"))
 gt:O0 K (.ref C) "__getattr__" = some none
 hd:pH K C=true
 be:zS K C (.type "BaseException")=some true
 cl:O0 K (.ref C) "__class__" = some (some (.builtin "object.__class__"))
 cg:Aq K (.builtin "object.__class__") "__get__" = some (some (.builtin "getset_descriptor.__get__"))
 ct:PySem.W.takesIn K (.builtin "object.__class__")=some true
 ob:zS K C (.type "object")=some true
 n1:jA K (.ref C) (.type "tuple")=some false
 n2:jA K (.ref C) (.type "list")=some false
 n3:jA K (.ref C) (.type "bool")=some false
 n4:jA K (.ref C) (.type "int")=some false
 n5:jA K (.ref C) (.type "str")=some false
noncomputable abbrev rD(n:String):Prop:=n = "tuple"\/n = "list"\/n = "bool"\/n = "int"\/n = "str"
theorem bw.rD{K:c9}{C:Addr}(T:bw K C){n:String}(h:L2.rD n):jA K (.ref C) (.type n)=some false:=by
 rcases h with rfl|rfl|rfl|rfl|rfl
 . exact T.n1
 . exact T.n2
 . exact T.n3
 . exact T.n4
 . exact T.n5
section
variable{prog:j3}{w:i7}{A:j6}{E:b8->c8->Prop}{s:c8}{K:c9}{x C:Addr}{ox:Obj}{od:Option Obj}{name:Str}
theorem ND{v:b8}{a:Tok}{R:Result->c8->Prop}(T:bw K C)(X:K.In s.heap)(I:gG s.heap x ox C od)(b:lJ K C od name=some (.value v))(h:R (.ok (.ret v)) s):
  codeAny (model prog w) A (.call (.builtin "BaseException.__getattribute__") ⟨[.ref x,.str name a],[]⟩) R s:=by
 obtain⟨c,g,d,t,e⟩:=s;refine ur F.excAttr_ValueError.ga.plain F.entry_bexc_ga ?_;refine d8 ?_;refine d8 ((I.type (M:=model prog w)).at ((AH (M:=model prog w) X T.be).at ?_));repeat (first|wp_step)
 refine eU I.at_ ?_;rw[I.cls];refine j4 (d8 ((JQ (M:=model prog w) X I b).at ?_));exact j4 h
theorem IL{a:Tok}{R:Result->c8->Prop}(T:bw K C)(X:K.In s.heap)(I:gG s.heap x ox C od)(b:lJ K C od "__class__" = some (.bind (.builtin "getset_descriptor.__get__") (.builtin "object.__class__")))(h:R (.ok (.ret (.ref C))) s):
  codeAny (model prog w) A (.call (.builtin "BaseException.__getattribute__") ⟨[.ref x,.str "__class__" a],[]⟩) R s:=by
 obtain⟨c,g,d,t,e⟩:=s;refine ur F.excAttr_ValueError.ga.plain F.entry_bexc_ga ?_;refine d8 ?_;refine d8 ((I.type (M:=model prog w)).at ((AH (M:=model prog w) X T.be).at ?_));repeat (first|wp_step)
 refine eU I.at_ ?_;rw[I.cls];refine j4 (d8 ((JQ (M:=model prog w) X I b).at ?_));repeat (any_goals (first|assumption|wp_step))
 refine PySem.W.class_get X I T.ob ?_;repeat (any_goals (first|assumption|wp_step))
theorem Ve{v:b8}{e:Tok}{b a:Bool}{Q:b8->c8->Prop}(T:bw K C)(X:K.In s.heap)(I:gG s.heap x ox C od)(f:lJ K C od name=some (.value v))(c:uc v=true)(h:Q v s):
  wpAny (model prog w) A (getAttrBy (.ref x) (.str name e) b a) Q E s:=by
 obtain⟨j,g,d,t,i⟩:=s;have:=F.excAttr_ValueError.ga.bind (.ref x);have:(a&&onTheHeap (Value.builtin "BaseException.__getattribute__"))=false:=by cases a<;>rfl
 refine jy (d8 ((I.type (M:=model prog w)).at (d8 ((lQ (M:=model prog w) X T.ga).at ?_))));repeat (any_goals (first|assumption|(with_reducible refine(lQ (M:=model prog w) X T.gt).at ?_)|wp_step))
 refine ND T X I f ?_;dsimp only;rw[PySem.W.handedOut_of c];exact j4 h
theorem NF{v:b8}{a:Bool}{Q:b8->c8->Prop}(T:bw K C)(X:K.In s.heap)(I:gG s.heap x ox C od)(c:lJ K C od name=some (.value v))(b:uc v=true)(h:Q v {s with toks:=s.toks+1}):
  wpAny (model prog w) A (getAttr (.ref x) name a) Q E s:=by exact d8 (zK (Ve T X I c b h))
theorem RY{c:Tok}{b a:Bool}{Q:b8->c8->Prop}(T:bw K C)(X:K.In s.heap)(I:gG s.heap x ox C od)(e:lJ K C od "__class__" = some (.bind (.builtin "getset_descriptor.__get__") (.builtin "object.__class__")))(h:Q (.ref C) s):
  wpAny (model prog w) A (getAttrBy (.ref x) (.str "__class__" c) b a) Q E s:=by
 obtain⟨i,g,d,t,f⟩:=s;have:=F.excAttr_ValueError.ga.bind (.ref x);have:(a&&onTheHeap (Value.builtin "BaseException.__getattribute__"))=false:=by cases a<;>rfl
 refine jy (d8 ((I.type (M:=model prog w)).at (d8 ((lQ (M:=model prog w) X T.ga).at ?_))));repeat (any_goals (first|assumption|(with_reducible refine(lQ (M:=model prog w) X T.gt).at ?_)|wp_step))
 refine IL T X I e ?_;exact j4 h
theorem IK{Q:Option b8->c8->Prop}{o:Obj}(T:bw K C)(X:K.In s.heap)(I:gG s.heap x ox C (some o))(h:Q (some (.ref C)) {s with toks:=s.toks+1}):wpAny (model prog w) A (getAttr? (.ref x) "__class__") Q E s:=by
 have a:lJ K C (some o) "__class__" = some (.bind (.builtin "getset_descriptor.__get__") (.builtin "object.__class__")):=PySem.W.findObj_data (by obtain⟨c,b,_⟩:=ub T.hd;rw[b];rfl) T.cl T.cg T.ct
 refine d8 (zK (d8 (tL (RY T X I a ?_))));exact j4 h
set_option tactic.hygienic true in
theorem Np{j:Addr}(T:bw K C):PySem.W.KitX K (.ref x) (.ref C) (λh=>ExcAt x C j h/\∃o,h.get? j=some o) where
 ty:=λ_ _ _ I=>by obtain⟨⟨r,d⟩,_⟩:=I;exact(PySem.W.Looks.ld d).andThen .now
 it:=λ_ _ X _=>by
  obtain⟨i,a,_⟩:=ub T.hd;unfold tJ at a;split at a
  . rename_i p l c b f;exact λy A z t k q=>d8 (tQ (k _ _ (X _ _ f)) (j4 q))
  . exact nE a
 ne:=λh v u s n w X g=>by
  obtain⟨i,a,_⟩:=ub T.hd;refine Bool.eq_false_iff.mpr λq=>?_
  have e:=tI (beq_iff_eq.mp q);subst e;unfold tJ at a;split at a
  . rename_i p l c b f;cases((X _ _ f).symm.trans g)
  . exact nE a
 ca:=λX I k=>by obtain⟨⟨r,d⟩,o,m⟩:=I;exact IK T X ⟨d,rfl,rfl,m⟩ k
end
set_option tactic.hygienic true
noncomputable def kS(kd:Bool)(l:Addr):Obj:=match kd with
 |true=>{cls:=.type "tuple_iterator",data:=.fields #[.ref l,.int 0 0]}
 |false=>{cls:=.type "list_iterator",data:=.fields #[.ref l,.int 0 0]}
noncomputable def fS(kd:Bool)(h:Heap)(l:Addr)(xs:Array b8):Prop:=match kd with
 |true=>h.IsTuple l xs
 |false=>h.IsList l xs
theorem fS.push{a:Bool}{h:Heap}{l:Addr}{xs:Array b8}(x:fS a h l xs)(o:Obj):fS a (h.push o) l xs:=by
 cases a
 . exact Heap.IsList.push (show h.IsList l xs from x) o
 . exact Heap.IsTuple.push (show h.IsTuple l xs from x) o
theorem hV.new{a:Bool}{h:Heap}{i l:Addr}(e:h.get? i=some (kS a l)):hV a h i l 0:=by
 cases a
 . exact⟨_,e,rfl,rfl⟩
 . exact⟨_,e,rfl,rfl⟩
theorem qg{prog:j3}{w:i7}{A:j6}{E:b8->c8->Prop}{s:c8}{a:Bool}{l:Addr}{xs:Array b8}{Q:b8->c8->Prop}(x:fS a s.heap l xs)(b:Q (.ref (hz s)) {s with heap:=s.heap.push (kS a l)}):wpAny (model prog w) A (pyIter (.ref l)) Q E s:=by
 cases a
 . exact Ap (show s.heap.IsList l xs from x) b
 . exact wpAny_pyIter_tuple (show s.heap.IsTuple l xs from x) b
noncomputable abbrev Ot(k1:Bool)(h:Heap)(a:Addr):Heap:=h.push (kS k1 a)
noncomputable abbrev Oq(k1 k2:Bool)(h:Heap)(a b:Addr):Heap:=(Ot k1 h a).push (kS k2 b)
noncomputable abbrev Oo(k1 k2:Bool)(h:Heap)(a b:Addr):Heap:=(Oq k1 k2 h a b).push {cls:=.type "tuple",data:=.seq #[.ref h.objs.size,.ref (Ot k1 h a).objs.size]}
noncomputable abbrev Om(k1 k2:Bool)(h:Heap)(a b:Addr):Heap:=(Oo k1 k2 h a b).push {cls:=.type "tuple",data:=.seq #[.none,.none]}
noncomputable abbrev BC(k1 k2:Bool)(h:Heap)(a b:Addr):Heap:=(Om k1 k2 h a b).push {cls:=.type "zip",data:=.fields #[.none,.bool false,.bool false,.ref (Oq k1 k2 h a b).objs.size,.ref (Oo k1 k2 h a b).objs.size]}
theorem EA(c k2:Bool)(a b:Addr)(xs ys:Array b8):
  Meets (Builtin.«zip.__new__» ⟨[.type "zip",.ref a,.ref b],[]⟩) (λ_ R s=>fS c s.heap a xs/\fS k2 s.heap b ys /\
   R (.ok (.ret (.ref (Om c k2 s.heap a b).objs.size))) {s with heap:=BC c k2 s.heap a b}) :=
 .of_wp λe w A R s h=>by
  obtain⟨m,g,d,k,j⟩:=s;obtain⟨f,i,h⟩:=h;have:=sub_zip;have l:fS k2 (Shared.heap ⟨m.push (kS c a),g,d,k,j⟩) b ys:=fS.push i _
  wp_walk using qg f,qg l
  exact⟨_,rfl,h⟩
section
variable{prog:j3}{w:i7}{A:j6}{E:b8->c8->Prop}{s:c8}
theorem Jb {d k2:Bool} {a b:Addr} {xs ys:Array b8} {Q:b8->c8->Prop} (p:fS d s.heap a xs) (q:fS k2 s.heap b ys) (h:∀h',Pw d k2 ((hz s) + 4) ((hz s) + 2) ((hz s) + 3) (hz s) ((hz s) + 1) a b 0 h' ->
   (∀c o,s.heap.get? c=some o->h'.get? c=some o)->Q (.ref ((hz s)+4)) {s with heap:=h'}) :
  wpAny (model prog w) A (call (.type "zip") [.ref a,.ref b]) Q E s:=by
 refine callType_new F.called_zip v7 (F.typeCall_zip_2 _ _) (F.newCall_zip_2 _ _) (λobj=>F.args_object_init_3 obj _ _) F.entry_zip_new (EA d k2 a b xs ys) ⟨p,q,?_⟩
 have g:(Ot d s.heap a).objs.size=(hz s)+1:=eT ..;have f:(Oq d k2 s.heap a b).objs.size=(hz s)+2:=by rw[eT,g]
 have i:(Oo d k2 s.heap a b).objs.size=(hz s)+3:=by rw[eT,f]
 have j:(Om d k2 s.heap a b).objs.size=(hz s)+4:=by rw[eT,i]
 have e:(BC d k2 s.heap a b).get? (Om d k2 s.heap a b).objs.size=some _:=J8 _ rfl;have l:(BC d k2 s.heap a b).get? (Oo d k2 s.heap a b).objs.size=some _:=o9 _ (J8 _ rfl);have k:(BC d k2 s.heap a b).get? (Oq d k2 s.heap a b).objs.size=some _:=o9 _ (o9 _ (J8 _ rfl));have n:(kS k2 b).isFreed=false:=by cases k2<;>rfl
 have t:(kS d a).isFreed=false:=by cases d<;>rfl
 have m:(BC d k2 s.heap a b).get? (Ot d s.heap a).objs.size=some _:=o9 _ (o9 _ (o9 _ (J8 _ n)));have r:(BC d k2 s.heap a b).get? (hz s)=some _:=o9 _ (o9 _ (o9 _ (o9 _ (J8 _ t))));rw[f,i,j]at e;rw[g,f]at k;rw[i]at l;rw[g]at m;rw[j];exact⟨⟨_,e,rfl⟩,h _ ⟨e,k,⟨_,_,l⟩,.new r,.new m⟩ λc o x =>
  o9 _ (o9 _ (o9 _ (o9 _ (o9 _ x))))⟩
end
theorem Lh(n:Nat):Vs (n+4) (n+2) (n+3) n (n+1):=by constructor<;>(show @Ne Nat _ _)<;>simp[*]
section
variable{X:Cx}{es:List Expr}{k:Nat}{tp:Pos}
theorem Inv.Q3{pins:List (Addr×Obj)}{d:St}{H:Hp}{s:c8}{c:Bool}{a:Addr}{xs:List V}(I:Inv X pins d H s)(h:cL c X.K H a xs):∃b:List b8,fS c s.heap a b.toArray:=by
 cases c
 . obtain⟨b,_,p,_⟩:=I.list h;exact⟨b,p.isList⟩
 . obtain⟨b,_,p,_⟩:=I.tuple h;exact⟨b,p⟩
end
section
variable{bs:List Str}{g:TG}{te:TE}{σ:St}{H:Hp}{Q:VK}
end
section
variable{X:Cx}
theorem xA:∀{bs:List Bool} {us:List b8},Vals (bs.map V.bl) us->us=bs.map pe
 | [],_,.nil=>rfl
 |b::r,_,.cons h t=>by rw[xA t];cases h;rfl
theorem kK:∀(bs:List Bool) (d:Bool),(aR bs.length).all (λi=>bs.getD i d)=bs.all id
 | [],_=>rfl
 |b::r,d=>by rw[J2,List.range_succ_eq_map,bC,List.all_map,bC];have:=kK r d;simp only[List.getD_cons_zero,lM,List.getD_cons_succ,id];rw[this]
theorem NW:S7 X (.builtin "all") (λxs H Q=>∃(p:Addr) (bs:List Bool),xs=[.ref p]/\F3 X.K H p (bs.map V.bl)/\X.A.handled=none/\Q (.bl (bs.all id)) H):=by
 intro c s w H xs M Q I r h;obtain⟨p,bs,rfl,hq,C,q⟩:=h;obtain⟨u,rfl,t⟩:=vals1 r;cases t;obtain⟨a,D,j,L⟩:=I.list hq;have k:=xA D;refine call_all_walk (Ap j.isList ?_);have lt:p<s.heap.objs.size:=by obtain⟨o,e,_⟩:=j.isList;exact m6 e
 refine⟨s.heap.objs.size,_,_,_,_,_,λi=>bs.getD i false,rfl,Walks.list (A:=X.A.in1) C s.heap.objs.size p (J6 lt) a.toArray,⟨⟨_,J8 _ rfl,rfl,rfl⟩,j.isList.push _⟩,?_,λF G B=>?_⟩
 . intro i v s' l E x d;have e:(bs.map pe)[i]? = some v:=by rw[<-k];simpa using x
   rw[S6]at e;cases eb:bs[i]? with
   |none=>rw[eb]at e;exact nE e
   |some b =>
    rw[eb]at e;cases e;have:bs.getD i false=b:=by rw[qp,eb];rfl
    have g:l b s':=by rw[<-this];exact d
    exact gL g
 . have m:a.toArray.size=bs.length:=by rw[k];simp
   rw[m,kK];refine⟨.bl (bs.all id),H,?_,rfl,q⟩;have y:Inv X c w H {s with heap:=s.heap.push {cls:=.type "list_iterator",data:=.fields #[.ref p,.int 0 0]}}:=I.kept λb o e=>o9 _ e
   have f:=I.oD F0 (I.i9.fresh (C6 s.heap.objs.size));exact Inv.turned y (λb o z e=>B b o (by simpa using z) e) f.1 f.2.1 f.2.2.2.1 f.2.2.2.2.1 f.2.2.2.2.2
end
structure Bt(m:Nat)(i:Int):Prop where
 lt:i.natAbs<2 ^ m
theorem Bt.mono{m n:Nat}{i:Int}(h:Bt m i)(a:m<=n):Bt n i:=⟨A1 h.lt (uq v7 a)⟩
theorem Bt.of_le{m:Nat}{i j:Int}(h:Bt m j)(a:i.natAbs<=j.natAbs):Bt m i:=⟨jF a h.lt⟩
theorem Bt.neg{m:Nat}{i:Int}(h:Bt m i):Bt m (-i):=h.of_le kz
theorem Bt.mul{m n:Nat}{i j:Int}(h:Bt m i)(h':Bt n j):Bt (m+n) (i*j):=⟨by
 rw[Int.natAbs_mul,Nat.pow_add];exact Nat.mul_lt_mul'' h.lt h'.lt⟩
theorem Bt.small{i:Int}(b : -(2 ^ 62)<i)(a:i<2 ^ 62):Bt 62 i:=⟨by omega⟩
theorem Bt.Wz{m n:Nat}{i j:Int}(h:Bt m i)(h':Bt n j)(a:m+n<=134217728):IntMulOk i j:=IntMulOk.of_le (intBits_le_iff.mpr h.lt) (intBits_le_iff.mpr h'.lt) a
section
variable{X:Cx}
theorem Rj:F4 X (X0 .Mult) (rI (λi j=>Bt 60000 i/\Bt 60000 j) λi j=>.int (i*j)):=OT λi j _ _ _ _ _ a q=>mul_int q (a.1.Wz a.2 v7)
theorem MQ:F4 X (X0 .FloorDiv) (rI (λ_ j=>j≠0/\Bt 8000 j) λi j=>.int (i.fdiv j)):=OT λi j _ _ _ _ _ a q=>floordiv_int a.1 q (.inl (PyProof.noPylong_of_log2 (by
 have b:j.natAbs≠0:=by have:=a.1;simp[*]
 have:=(Nat.log2_lt b).mpr a.2.lt;exact UJ)))
noncomputable def V1(nm:Str):b5:=.dict [(.str nm,.none)]
noncomputable def Oe:Str:=⟨#[0]⟩
noncomputable def xh:b5->Bool
 | .dict [(.str _,.none)]=>true
 | .dict [(.tuple [.str _,.list _],.tuple _)]=>true
 | .dict [(.list _,_)]=>true
 |_=>false
noncomputable def Nt(nm:Str)(ns:List Str)(l:List b5):b5:=.dict [(.tuple [.str nm,.list (ns.map .str)],.tuple l)]
noncomputable def EW(ks:List Str)(l:List b5):b5:=.dict [(.list (ks.map .str),.tuple l)]
noncomputable def US:Key->b5
 | .inl i=>.int i
 | .inr x=>.str x
noncomputable def UT(k:List Key):b5:=.dict [(.list (k.map US),.none)]
noncomputable def Vg(ks:List (List Key))(l:List b5):b5:=.dict [(.list (ks.map λk=>.tuple (k.map US)),.list l)]
mutual
inductive Dt(K:c9)(H:Hp):V->b5->Prop
 |non:Dt K H .non .none
 |bl (b):Dt K H (.bl b) (.bool b)
 |int (i):Dt K H (.int i) (.int i)
 |str (x):Dt K H (.str x) (.str x)
 |tup {a xs ds}:P0 K H a xs->n6 K H xs ds->Dt K H (.ref a) (.tuple ds)
 |lst {a xs ds}:F3 K H a xs->n6 K H xs ds->Dt K H (.ref a) (.list ds)
 |exc {ea C dx fld v d}:bw K C->O0 K (.ref C) fld=some none->H ea=some (.ext (ExcAt ea C dx))->H dx=some (.xd [(fld,v)])->Dt K H v d->Dt K H (.ref ea) (J4 C fld d)
 |fn {f nm}:(S0 K J5 nm=some (some (.ref f))\/nm=Oe)->Dt K H (.ref f) (V1 nm)
 |ins {a C dx fv nm ns vs l}:S0 K J5 nm=some (some (.ref C))->H a=some (.ins C dx fv)->fv=ns.zip vs->n6 K H vs l->Dt K H (.ref a) (Nt nm ns l)
 |key {a k}:H a=some (.tup (k.map kV))->Dt K H (.ref a) (UT k)
 |dtt {a kvs ks vs l}:H a=some (.dT kvs)->ks.length=vs.length->kvs=ks.zip vs->n6 K H vs l->Dt K H (.ref a) (Vg ks l)
 |dct {a kvs ks vs l}:H a=some (.dK kvs)->kvs=(ks.map bU).zip vs->n6 K H vs l->Dt K H (.ref a) (EW ks l)
inductive n6(K:c9)(H:Hp):List V->List b5->Prop
 |nil:n6 K H [] []
 |cons {x xs d ds}:Dt K H x d->n6 K H xs ds->n6 K H (x::xs) (d::ds)
end
theorem e9.du{K:c9}{H H':Hp}{a:Addr}{xs:List V}(e:e9 H H')(h:P0 K H a xs):P0 K H' a xs:=by
 rcases h with (h|⟨o,h⟩)|h
 . exact .inl (.inl (e _ _ h))
 . exact .inl (.inr ⟨o,e _ _ h⟩)
 . exact .inr h
theorem e9.new{H:Hp}{p:Addr}{o:HO}(h:H p=none):e9 H (upd H p o):=λb u e=>by rw[i8 (B2 e h)];exact e
mutual
theorem Dt.same{K:c9}{H H':Hp}(e:e9 H H'){x:V}{d:b5}(h:Dt K H x d):Dt K H' x d:=by
 cases h with
 |non=>exact .non
 |bl b=>exact .bl b
 |int i=>exact .int i
 |str x=>exact .str x
 |tup h t=>exact .tup (e.du h) (n6.same e t)
 |lst h t=>exact .lst (e.seq h) (n6.same e t)
 |exc c n a f t=>exact .exc c n (e _ _ a) (e _ _ f) (Dt.same e t)
 |fn h=>exact .fn h
 |ins a f g t=>exact .ins a (e _ _ f) g (n6.same e t)
 |dct a f t=>exact .dct (e _ _ a) f (n6.same e t)
 |key h=>exact .key (e _ _ h)
 |dtt a f g t=>exact .dtt (e _ _ a) f g (n6.same e t)
theorem n6.same{K:c9}{H H':Hp}(e:e9 H H'){xs:List V}{ds:List b5}(h:n6 K H xs ds):n6 K H' xs ds:=by
 cases h with
 |nil=>exact .nil
 |cons h t=>exact .cons (Dt.same e h) (n6.same e t)
end
theorem n6.length{K:c9}{H:Hp}{xs:List V}{ds:List b5}(h:n6 K H xs ds):xs.length=ds.length:=by
 induction ds generalizing xs with
 |nil=>cases h;rfl
 |cons _ _ i=>cases h with
  |cons _ t=>exact m5 (· + 1) (i t)
theorem n6.get{K:c9}{H:Hp}{xs:List V}{ds:List b5}{i:Nat}{d:b5}(h:n6 K H xs ds)(e:ds[i]? = some d):∃x,xs[i]? = some x/\Dt K H x d:=by
 induction ds generalizing xs i with
 |nil=>exact nE e
 |cons _ _ j=>cases h with
  |cons a t=>cases i with
   |zero=>cases e;exact⟨_,rfl,a⟩
   |succ i=>exact(j (i:=i) t e :)
mutual
theorem Inv.reads{pins:List (Addr×Obj)}{m:St}{H:Hp}{s:c8}(I:Inv X pins m H s){x:V}{u:b8}{d:b5}(h:Dt X.K H x d)(r:RelV x u)(a:d.canLay0=true):∃as,Reads s.heap u d as:=by
 cases h with
 |non=>cases r;exact⟨_,.none⟩
 |bl b=>cases r;exact⟨_,.bool b⟩
 |int i=>obtain⟨t,rfl⟩:=r;exact⟨_,.int i t⟩
 |str y=>obtain⟨t,rfl⟩:=r;exact⟨_,.str y t⟩
 |tup h t =>
  cases r;obtain⟨g,k,⟨o,e,c,n,f⟩,_⟩:=I.tuple h;obtain⟨as,j⟩:=Inv.readsAll I t k (by assumption)
  exact⟨_,.tuple e c f (by omega)⟩
 |lst h t =>
  cases r;obtain⟨g,k,l,_⟩:=I.list h;obtain⟨o,e,c,n,f⟩:=l.isList;obtain⟨as,j⟩:=Inv.readsAll I t k (by assumption)
  exact⟨_,.list e c f (by omega)⟩
 |exc _ _ _ _ _=>rw[J4,V5]at a;exact nT a
 |fn _=>rw[V1,V5]at a;exact nT a
 |ins _ _ _ _=>rw[Nt,V5]at a;exact nT a
 |dct _ _ _=>rw[EW,V5]at a;exact nT a
 |key _=>rw[UT,V5]at a;exact nT a
 |dtt _ _ _ _=>rw[Vg,V5]at a;exact nT a
theorem Inv.readsAll{pins:List (Addr×Obj)}{d:St}{H:Hp}{s:c8}(I:Inv X pins d H s){xs:List V}{us:List b8}{ds:List b5}(h:n6 X.K H xs ds)(r:Vals xs us)(a:Q9 ds=true):∃as,ReadsAll s.heap us ds as:=by
 cases h with
 |nil=>cases r;exact⟨_,.nil⟩
 |cons h t =>
  cases r with
  |cons r e =>
   rw[Q9,aj]at a;obtain⟨as,b⟩:=Inv.reads I h r a.1;obtain⟨bs,c⟩:=Inv.readsAll I t e a.2;exact⟨_,.cons b c⟩
end
theorem UC(g:X.A.units+64<D3):F4 X (C9 .Eq) (λx y H Q=>∃d e,Dt X.K H x d/\Dt X.K H y e/\U3 d=true/\U3 e=true/\Q (.bl (aP d e)) H):=by intro b s o H x y v u Q I j i h;obtain⟨d,e,l,m,c,a,q⟩:=h;obtain⟨n,f⟩:=I.reads l j (uA c);obtain⟨bs,k⟩:=I.reads m i (uA a);exact eq_dataH f k c a g ⟨.bl _,H,I,rfl,q⟩
theorem UA(g:X.A.units+64<D3):F4 X (C9 .NotEq) (λx y H Q=>∃d e,Dt X.K H x d/\Dt X.K H y e/\U3 d=true/\U3 e=true/\Q (.bl (!PyData.eqv d e)) H):=by intro b s o H x y v u Q I j i h;obtain⟨d,e,l,m,c,a,q⟩:=h;obtain⟨n,f⟩:=I.reads l j (uA c);obtain⟨bs,k⟩:=I.reads m i (uA a);exact ne_dataH f k c a g ⟨.bl _,H,I,rfl,q⟩
end
noncomputable def Dw:b5->String
 | .none=>"NoneType"
 | .bool _=>"bool"
 | .int _=>"int"
 | .str _=>"str"
 | .tuple _=>"tuple"
 | .list _=>"list"
 |_=>"dict"
noncomputable def yJ(d:b5)(n:String):Bool:=Dw d==n||(Dw d=="bool"&&n=="int")
theorem fI{K:c9}:∀{t n:String},(t = "NoneType"\/t = "bool"\/t = "int"\/t = "str"\/t = "tuple"\/t = "list")->rD n->jA K (.type t) (.type n)=some (t==n||(t=="bool"&&n=="int")):=by intro t n b a;rcases b with rfl|rfl|rfl|rfl|rfl|rfl<;>rcases a with rfl|rfl|rfl|rfl|rfl<;>first|rfl|decide +kernel
section
variable{X:Cx}
set_option tactic.hygienic true in
theorem NV:S7 X (.builtin "isinstance") (λxs H Q=>∃x n d,xs=[x,.ty n]/\Dt X.K H x d/\xh d=false/\rD n/\Q (.bl (yJ d n)) H):=by
 intro k s G H xs S Q I r h;obtain⟨x,n,d,rfl,L,f,g,q⟩:=h;obtain⟨u,c,rfl,j,B⟩:=vals2 r;cases B;have a:∀l,EP X k G Q (.bool (yJ d n)) {s with toks:=l}:=λl=>⟨.bl _,H,I.tok l,rfl,q⟩
 cases L with
 |non=>cases j;exact jB PySem.W.kitx_none I.L7 aQ (fI u3 g) (λz=>nomatch z) a
 |bl b=>cases j;exact jB PySem.W.kitx_bool I.L7 aQ (fI (.inr (.inl rfl)) g) (λz=>nomatch z) a
 |int i=>obtain⟨t,rfl⟩:=j;exact jB PySem.W.kitx_int I.L7 aQ (fI v7 g) (λz=>nomatch z) a
 |str y=>obtain⟨t,rfl⟩:=j;exact jB PySem.W.kitx_str I.L7 aQ (fI v7 g) (λz=>nomatch z) a
 |tup h t =>
  cases j;obtain⟨p,D,⟨o,e,c,n,N⟩,_⟩:=I.tuple h;exact jB PySem.W.kitx_tuple I.L7 ⟨o,e,c⟩ (fI v7 g) (λz=>nomatch z) a
 |lst h t =>
  cases j;obtain⟨p,D,F,_⟩:=I.list h;obtain⟨o,e,c,n,N⟩:=F.isList;exact jB PySem.W.kitx_list I.L7 ⟨o,e,c⟩ (fI v7 g) (λz=>nomatch z) a
 |exc c R w A t =>
  rename_i Z C V m v d;cases j;obtain⟨P,⟨E,T,Y,O,_⟩,_⟩:=I.i9 _ _ A;have M:yJ (J4 C m d) n=false:=by rcases g with rfl|rfl|rfl|rfl|rfl<;>rfl
  rw[M]at a;exact jB (Np c) I.L7 ⟨(I.i9 _ _ w).1,E,O⟩ (c.rD g) (λz=>nomatch z) a
 |fn _=>exact nF f
 |ins _ _ _ _=>exact nF f
 |dct _ _ _=>exact nF f
 |key _=>exact nF f
 |dtt _ _ _ _=>exact nF f
end
section
variable{prog:j3}{w:i7}{A:j6}{E:b8->c8->Prop}{s:c8}
theorem wR{t e:Addr}{items:Array b8}{g f:b8}{lo i:Option Int}{Q:b8->c8->Prop}(a:IsTup s.heap t items)(hs:s.heap.IsSliceOf e g f .none)(pl:Z3 g lo)(k:Z3 f i)(j:HT.C4 items.size 0 lo=0/\HT.C4 items.size items.size i=items.size)(h:Q (.ref t) s):wpAny (model prog w) A (bS (.ref t) (.ref e)) Q E s:=by
 obtain⟨l,d,c,m⟩:=id hs;have b:s.TypeIs (.ref e) "slice":=⟨l,d,c⟩;delta bS;try with_reducible refine jy ?_
 first|refine d8 (j4 ?_)|skip
 refine d8 (wpAny_sequenceKey a.typeIs v7 ?_);refine d8 (nj a.typeIs uI (jE uI a.typeIs entry_tuple_getitem ?_ (args_tuple_getitem _ _)));show wpAny _ _ (KS (.ref t) >>= _) _ _ s
 refine d8 (tupleItemsOf_ a (d8 (tG b ?_)));refine d8 (HT.iF hs pl k ?_);rw[j.1,j.2];show wpAny _ _ (if ((0)==0&&1==1&&(items.size-0)==items.size)=true then _ else _) _ _ s
 rw[d9 q5];refine d8 (d8 (tG a.typeIs (j4 ?_)));first
  |exact d8 (lB (d8 (j4 ⟨_,rfl,j4 h⟩)))
  |exact d8 (lB (j4 ⟨_,rfl,j4 h⟩))
  |exact d8 (lB (d8 (j4 (j4 ⟨_,rfl,j4 h⟩))))
theorem Sj{t b:Addr}{vs ws:List b8}{Q:b8->c8->Prop}(x:IsTup s.heap t vs.toArray)(u:IsTup s.heap b ws.toArray)(m:vs=[])(h:Q (.ref b) s):wpAny (model prog w) A (X0 .Add (.ref t) (.ref b)) Q E s:=by
 obtain⟨⟨v,q,k,r⟩,i,l,n,o⟩:=id x;obtain⟨⟨j,e,g,c⟩,a,f,p,d⟩:=id u;subst l o f d;exact tH ⟨_,i,rfl⟩ ⟨_,a,rfl⟩ Ak zU AS AW (AZ _ _)
  (tuple_addW0 t b vs.toArray ws.toArray n p q e r c (by simp[m])) ⟨i,a,h⟩
end
section
variable{X:Cx}
end
section
variable{κ:Type}[DecidableEq κ]
noncomputable def bp(kvs:List (κ×V))(k:κ):Option V:=(kvs.find? λkv=>decide (kv.1=k)).map (·.2)
noncomputable def putK(kvs:List (κ×V))(k:κ)(v:V):List (κ×V) :=
 if (kvs.any λkv=>decide (kv.1=k))=true then kvs.map (λkv=>if kv.1=k then(kv.1,v)else kv)else kvs++[(k,v)]
noncomputable def mT(kvs:List (κ×V))(k:κ):List (κ×V):=kvs.filter λkv=>decide (kv.1≠k)
theorem lY{p:κ×V}{r:List (κ×V)}{k:κ}(e:p.1=k):bp (p::r) k=some p.2:=by simp[bp,e]
theorem lZ{p:κ×V}{r:List (κ×V)}{k:κ}(e:¬p.1=k):bp (p::r) k=bp r k:=by simp[bp,e]
theorem xB(k:κ):∀a:List (κ×V),(a.any λkv=>decide (kv.1=k))=(bp a k).isSome
 | []=>rfl
 |p::r=>by
  rw[fg];by_cases e:p.1=k
  . simp only[lY e,K8 e,zJ,JR]
  . rw[lZ e,D7 e,zR];exact xB k r
theorem qC(a:List (κ×V))(k:κ)(v:V):(putK a k v).length<=a.length+1:=by
 delta putK;split
 . rw[m9];simp[*]
 simp
theorem aa.oA{o:Option V}{u:Option b8}(r:aa o u):o.isSome=u.isSome:=by
 cases o with
 |none=>cases u with
  |none=>rfl
  |some _=>exact(show False from r).elim
 |some _=>cases u with
  |none=>exact(show False from r).elim
  |some _=>rfl
theorem aa.getD{o:Option V}{u:Option b8}{d:V}{d':b8}(r:aa o u)(a:RelV d d'):RelV (o.getD d) (u.getD d'):=by
 cases o with
 |none=>cases u with
  |none=>exact a
  |some _=>exact(show False from r).elim
 |some _=>cases u with
  |none=>exact(show False from r).elim
  |some _=>exact r
theorem KV.val{a:List (κ×V)}{vs:List (κ×b8)}(r:KV a vs)(k:κ):aa (bp a k) (lp vs k):=by
 induction r with
 |nil=>exact aQ
 | @cons p q j d h t i =>
  obtain⟨f,g⟩:=h;by_cases e:p.1=k
  . have c:=f.symm.trans e;have b:lp (q::d) k=some q.2:=by simp[lp,c]
    rw[lY e,b];exact g
  . have c:¬q.1=k:=λz=>e (f.trans z)
    have b:lp (q::d) k=lp d k:=by simp[lp,c]
    rw[lZ e,b];exact i
theorem KV.any{a:List (κ×V)}{vs:List (κ×b8)}(r:KV a vs)(k:κ):(a.any λkv=>decide (kv.1=k))=vs.any λkv=>decide (kv.1=k):=by
 induction r with
 |nil=>rfl
 |cons h t b=>simp_all
theorem KV.xZ{a:List (κ×V)}{vs:List (κ×b8)}(r:KV a vs)(k:κ){y:V}{u:b8}(c:RelV y u):
  KV (a.map λkv=>if kv.1=k then(kv.1,y)else kv) (vs.map λkv=>if kv.1=k then(kv.1,u)else kv):=by
 induction r with
 |nil=>exact .nil
 | @cons p q i g h t f =>
  rw[o5,o5];refine .cons ?_ f;obtain⟨b,d⟩:=h;by_cases e:p.1=k
  . rw[d9 e,d9 (b.symm.trans e)];exact⟨b,c⟩
  . rw[e7 e,e7 (λz=>e (b.trans z))];exact⟨b,d⟩
theorem KV.put{a:List (κ×V)}{vs:List (κ×b8)}(r:KV a vs)(k:κ){y:V}{u:b8}(b:RelV y u):KV (putK a k y) (stored vs k u):=by
 delta putK stored;rw[r.any k];by_cases e:(vs.any λkv=>decide (kv.1=k))=true
 . rw[d9 e,d9 e];exact r.xZ k b
 . rw[e7 e,e7 e];exact zF r ⟨rfl,b⟩
theorem KV.drop{c:List (κ×V)}{vs:List (κ×b8)}(r:KV c vs)(k:κ):KV (mT c k) (without vs k):=by
 delta mT without;induction r with
 |nil=>exact .nil
 | @cons p q l j h t f =>
  obtain⟨d,i⟩:=h;rw[JA,JA];by_cases e:p.1=k
  . have a:¬decide (p.1≠k)=true:=by simp[e]
    have b:¬decide (q.1≠k)=true:=by simp_all
    rw[e7 a,e7 b];exact f
  . have g:¬q.1=k:=λz=>e (d.trans z)
    have a:decide (p.1≠k)=true:=by simp[e]
    have b:decide (q.1≠k)=true:=by simp[g]
    rw[d9 a,d9 b];exact .cons ⟨d,i⟩ f
theorem KV.length{a:List (κ×V)}{vs:List (κ×b8)}(r:KV a vs):a.length=vs.length:=tM r
theorem NJ(a:List (κ×V))(k:κ):(mT a k).length<=a.length:=Kv _ _
end
theorem mI{P:j3}{w:i7}{k:Key}{u:b8}(r:RelV (kV k) u):(L9 P w).is k u=true:=by
 cases k with
 |inl i=>obtain⟨t,e⟩:=(show ∃t,u=pa i t from r);subst e;exact Bq P w i t
 |inr x=>obtain⟨t,e⟩:=(show ∃t,u=lA x t from r);subst e;exact Bp P w x t
theorem vW{P:j3}{w:i7}:∀{ks:List Key} {us:List b8},Vals (ks.map kV) us->ItemsAre (L9 P w) ks us
 | [],_,r=>by rw[bb]at r;cases r;exact .nil
 |k::ks,_,r=>by
  cases r with
  |cons h t=>exact .cons (mI h) (vW t)
noncomputable abbrev KT(H:Hp):List (List Key×V)->List (List Key×Addr×b8)->Prop:=Paired λp q=>p.1=q.1/\H q.2.1=some (.tup (p.1.map kV))/\RelV p.2 q.2.2
theorem KT.val{H:Hp}{a:List (List Key×V)}{xs:List (List Key×Addr×b8)}(r:KT H a xs)(k:List Key):aa (bp a k) ((atKey xs k).map (·.2)):=by
 induction r with
 |nil=>exact aQ
 | @cons p q j d h t i =>
  obtain⟨f,_,g⟩:=h;by_cases e:p.1=k
  . have c:=f.symm.trans e;have b:atKey (q::d) k=some q.2:=by simp[atKey,c]
    rw[lY e,b];exact g
  . have c:¬q.1=k:=λz=>e (f.trans z)
    have b:atKey (q::d) k=atKey d k:=by simp[atKey,c]
    rw[lZ e,b];exact i
theorem KT.xZ{H:Hp}{a:List (List Key×V)}{xs:List (List Key×Addr×b8)}(r:KT H a xs)(k:List Key){y:V}{u:b8}(d:RelV y u):
  KT H (a.map λkv=>if kv.1=k then(kv.1,y)else kv) (xs.map (putAt k u)):=by
 induction r with
 |nil=>exact .nil
 | @cons p q j i h t g =>
  rw[o5,o5];refine .cons ?_ g;obtain⟨b,c,f⟩:=h;delta putAt;by_cases e:p.1=k
  . rw[d9 e,d9 (b.symm.trans e)];exact⟨b,c,d⟩
  . rw[e7 e,e7 (λz=>e (b.trans z))];exact⟨b,c,f⟩
theorem KT.put{H:Hp}{a:List (List Key×V)}{xs:List (List Key×Addr×b8)}(r:KT H a xs)(k:List Key){b:Addr}{y:V}{u:b8}(d:H b=some (.tup (k.map kV)))(c:RelV y u):
  KT H (putK a k y) (storedH xs k b u):=by
 have e:(a.any λkv=>decide (kv.1=k))=(atKey xs k).isSome:=by rw[xB,(r.val k).oA,ue]
 delta putK storedH;rw[e];by_cases q:(atKey xs k).isSome=true
 . rw[d9 q,d9 q];exact r.xZ k c
 . rw[e7 q,e7 q];exact zF r ⟨rfl,d,c⟩
theorem KT.keeps{H H':Hp}{a:List (List Key×V)}{xs:List (List Key×Addr×b8)}(r:KT H a xs)(c:∀b ys,H b=some (.tup ys)->H' b=some (.tup ys)):KT H' a xs :=
 Paired.UK r λ_ _ z=>⟨z.1,c _ _ z.2.1,z.2.2⟩
section
variable{P:j3}{w:i7}{H:Hp}{h:Heap}{a:Addr}
theorem OM{u:HO}(ok:U6 P w H h)(e:Rd H a u):G9 P w H h a u:=e.ok ok
theorem mU{b:List (Key×V)}(ok:U6 P w H h)(e:Rd H a (.dK b)):b.length<=j8/\(a==cV)=false/\∃vs,KV b vs/\h.DictOf (L9 P w) a vs :=
 show G9 P w H h a (.dK b)from OM ok e
theorem Pl{b:List (Key×V)}(ok:U6 P w H h)(e:H a=some (.dK b)):b.length<=j8/\(a==cV)=false/\∃vs,KV b vs/\h.DictOf (L9 P w) a vs:=mU ok (.inl e)
theorem kR{ks:List Key}(ok:U6 P w H h)(e:H a=some (.tup (ks.map kV))):(jo (L9 P w)).is h ks a:=by
 obtain⟨_,b,r,o,c,f,n,d⟩:=(show G9 P w H h a (.tup (ks.map kV))from ok a _ e)
 exact⟨o,b.toArray,n,c,f,d,by simpa using vW r⟩
theorem mR{b:List (List Key×V)}(ok:U6 P w H h)(e:Rd H a (.dT b)):b.length<=j8/\(a==cV)=false /\
  ∃xs,KT H b xs/\h.DictOfH (jo (L9 P w)) a xs:=by
 obtain⟨z,y,xs,r,o,g,f,d,j,k,i,n⟩:=(show G9 P w H h a (.dT b)from OM ok e)
 refine⟨z,y,xs,r,o,g,f,d,j,k,i,λx c=>?_,n⟩
 have all:∀{l:List (List Key×V)} {m:List (List Key×Addr×b8)},KT H l m->∀x∈m,(jo (L9 P w)).is h x.1 x.2.1:=by
  intro l m q;induction q with
  |nil=>intro x c;exact nomatch c
  | @cons p q v u hq t s =>
   intro x c;rcases List.mem_cons.mp c with e|c
   . subst e;exact kR ok (by rw[<-hq.1];exact hq.2.1)
   . exact s x c
 exact all r x c
theorem WE{b:List (List Key×V)}(ok:U6 P w H h)(e:H a=some (.dT b)):b.length<=j8/\(a==cV)=false /\
  ∃xs,KT H b xs/\h.DictOfH (jo (L9 P w)) a xs:=mR ok (.inl e)
end
noncomputable def dE(H:Hp)(a:Addr)(y:V)(r:Option V):Prop :=
 (∃kvs k,Rd H a (.dK kvs)/\y=kV k/\r=bp kvs k)\/∃kvs k b,Rd H a (.dT kvs)/\y=.ref b/\H b=some (.tup (k.map kV))/\r=bp kvs k
noncomputable def Bb(H:Hp)(a:Addr)(y v:V)(H':Hp):Prop :=
 (∃kvs k,H a=some (.dK kvs)/\y=kV k/\kvs.length<j8/\H'=upd H a (.dK (putK kvs k v))) \/
 ∃kvs k b,H a=some (.dT kvs)/\y=.ref b/\H b=some (.tup (k.map kV))/\kvs.length<j8/\H'=upd H a (.dT (putK kvs k v))
theorem dE.k{H:Hp}{a:Addr}{b:List (Key×V)}{k:Key}(e:H a=some (.dK b)):dE H a (kV k) (bp b k):=.inl ⟨b,k,.inl e,rfl,rfl⟩
theorem Bb.k{H:Hp}{a:Addr}{b:List (Key×V)}{k:Key}{v:V}(e:H a=some (.dK b))(c:b.length<j8):Bb H a (kV k) v (upd H a (.dK (putK b k v))):=.inl ⟨b,k,e,rfl,c,rfl⟩
section
variable{X:Cx}{pins:List (Addr×Obj)}{σ:St}{H:Hp}{s:c8}{a:Addr}{y v:V}{u r:b8}{o:Option V}{A:j6}{E:b8->c8->Prop}
theorem Inv.big(I:Inv X pins σ H s):cV<(hz s):=by exact zI v7 ((I.mod.glob.keeps I.bk).lt)
theorem IW{Q:b8->c8->Prop}(t:A.units+1<D3)(I:Inv X pins σ H s)(g:dE H a y (some v))(o:RelV y u)(h:∀w' s',Inv X pins σ H s'->RelV v w'->Q w' s'):
  wpAny (model X.prog X.w) A (bS (.ref a) u) Q E s:=by
 rcases g with ⟨j,k,e,n,l⟩|⟨j,k,b,e,n,r,l⟩
 . subst n;obtain⟨z,x,B,c,m⟩:=mU I.i9 e;obtain⟨w',f,d⟩:=aa.some_of (by rw[l];exact c.val k)
   exact wpAny_getItem_of (mI o) m.mapOf f (h w' _ (I.tok _) d)
 . subst n;cases(show u=t7 b from o)
   obtain⟨z,x,C,c,m⟩:=mR I.i9 e;obtain⟨w',f,d⟩:=aa.some_of (by rw[l];exact c.val k)
   obtain⟨p,q,i⟩:=Option.map_eq_some_iff.mp f;refine wpAny_getItem_heap (pI t) (kR I.i9 r) m q ?_;rw[i];exact h w' _ (I.tok _) d
theorem XH{Q:b8->c8->Prop}(p:A.units+1<D3)(I:Inv X pins σ H s)(g:dE H a y o)(m:RelV y u)(h:∀s',Inv X pins σ H s'->Q (.bool o.isSome) s'):
  wpAny (model X.prog X.w) A (C9 .In u (.ref a)) Q E s:=by
 rcases g with ⟨f,k,e,j,l⟩|⟨f,k,b,e,j,n,l⟩
 . subst j;obtain⟨z,d,r,c,i⟩:=mU I.i9 e;refine wpAny_in_of (mI m) d i.mapOf ?_;rw[<-(c.val k).oA,<-l];exact h _ (I.tok _)
 . subst j;cases(show u=t7 b from m)
   obtain⟨z,d,t,c,i⟩:=mR I.i9 e;refine wpAny_in_heap (pI p) (kR I.i9 n) d i ?_;have q:=(c.val k).oA;rw[ue]at q;rw[<-q,<-l];exact h _ (I.tok _)
theorem vk{h':Heap}{t':Nat}{ob:HO}(I:Inv X pins σ H s)(mu:Jr (H a))(hs:jv a s.heap h')(d:∃q,h'.get? a=some q)(new:G9 X.prog X.w (upd H a ob) h' a ob):
  Inv X pins σ (upd H a ob) {s with heap:=h',toks:=t'} :=
 I.write mu (.inl rfl) (λb q c z=>(hs.2 b c).trans z) d new
theorem IS{P:j3}{w:i7}{H':Hp}{h':Heap}{b:List (Key×V)}{vs:List (Key×b8)}(z:b.length<=j8)(hd:(a==cV)=false)(c:KV b vs)(d:h'.DictOf (L9 P w) a vs):
  G9 P w H' h' a (.dK b):=⟨z,hd,vs,c,d⟩
theorem IV{H':Hp}{Q:Unit->c8->Prop}(G:A.units+1<D3)(I:Inv X pins σ H s)(g:Bb H a y v H')(x:RelV y u)(F:RelV v r)(h:∀s',Inv X pins σ H' s'->Q () s'):
  wpAny (model X.prog X.w) A (setItem (.ref a) u r) Q E s:=by
 rcases g with ⟨d,k,e,p,l,t⟩|⟨d,k,b,e,p,B,l,t⟩
 . subst p t;obtain⟨z,n,O,f,m⟩:=Pl I.i9 e;have:O.length<=j8:=by rw[<-f.length];exact z
   have j:(putK d k v).length<=j8:=by have:=qC d k v;exact t4 M8 M8
   refine wpAny_setItem_pairs (mI x) m λD i o=>h _ ?_
   have L:∃q,D.get? a=some q:=let ⟨q,_,_,hq,_⟩:=i;⟨q,hq⟩;exact vk I (by rw[e];exact aQ) o L (IS j n (f.put k F) i)
 . subst p t;cases(show u=t7 b from x)
   obtain⟨z,n,S,f,m⟩:=WE I.i9 e;have:S.length<=j8:=by rw[<-tM f];exact z
   have j:(putK d k v).length<=j8:=by have:=qC d k v;exact t4 M8 M8
   refine wpAny_setItem_heap (pI G) (kR I.i9 B) m λD i o=>h _ ?_
   obtain⟨q,P,N,hq,R,T,K,_,M⟩:=i;refine vk I (by rw[e];exact aQ) o ⟨q,hq⟩ ⟨j,n,_,(f.put k B F).keeps λc V C=>?_,q,P,N,hq,R,T,K,M⟩
   rw[i8 (Wy C e (λz=>nomatch z))]
   exact C
end
section
variable{X:Cx}{pins:List (Addr×Obj)}{σ:St}{H:Hp}{s:c8}{a:Addr}{kvs:List (Key×V)}{k:Key}{u:b8}{A:j6}{E:b8->c8->Prop}
theorem WG{v:V}{more:List b8}{Q:b8->c8->Prop}(I:Inv X pins σ H s)(e:H a=some (.dK kvs))(d:RelV (kV k) u)(l:bp kvs k=some v)(j:more=[]\/∃x,more=[x])(h:∀w' s',Inv X pins σ (upd H a (.dK (mT kvs k))) s'->RelV v w'->Q w' s'):wpAny (model X.prog X.w) A (call (.builtin "dict.pop") (.ref a::u::more)) Q E s:=by
 obtain⟨z,y,r,b,g⟩:=Pl I.i9 e;obtain⟨w',m,f⟩:=aa.some_of (by rw[<-l];exact b.val k)
 have o:(keyPart u).isSome=true:=by
  cases k with
  |inl i=>obtain⟨t,q⟩:=(show ∃t,u=pa i t from d);subst q;rfl
  |inr x=>obtain⟨t,q⟩:=(show ∃t,u=lA x t from d);subst q;rfl
 have C:argsOk "dict.pop" ⟨.ref a::u::more,[]⟩:=by
  rcases j with q|⟨x,q⟩
  . subst q;exact PySem.F.args_dict_pop_2 _ _
  . subst q;exact PySem.F.args_dict_pop_3 _ _ _
 refine pj Ku g.typeIs PySem.F.entry_dict_pop C (meets_dict_pop_there (L9 X.prog X.w) a (mI d) more j o)
  ⟨r,w',g,by rw[<-b.length];exact z,m,λp c B=>h w' _ ?_ f⟩
 have n:∃q,p.get? a=some q:=let ⟨q,_,_,hq,_⟩:=c;⟨q,hq⟩;exact vk I (by rw[e];exact aQ) B n (IS (t4 (NJ kvs k) z) y (b.drop k) c)
end
noncomputable def Og(i:Expr):Prop:=∀ov iv,subscripted i false ov iv=operate [ov,iv] (bS ov iv)
theorem Qi{prog:j3}{w:i7}{A:j6}{E:b8->c8->Prop}{s:c8}{env:Env}{b a:Expr}{pos:Pos}{T id:String}{Q:b8->c8->Prop}(k:sZ (.type T) "__getitem__" = pure (some (.builtin id)))(hs:Og a)(h:wpAny (model prog w) A (eval b env) (λo s₁=>wpAny (model prog w) A (eval a env) (λi s₂=>s₂.TypeIs o T/\wpAny (model prog w) A (bS o i) Q E s₂) E s₁) E s):
  wpAny (model prog w) A (eval (.Subscript b a pos) env) Q E s:=by
 refine sY (P1 h (λo s₁ g=>P1 g (λi s₂ c=>?_) λ_ _ x=>x) λ_ _ x=>x)
 obtain⟨j,c⟩:=c;refine d8 ?_;refine d8 (wpAny_specialOf j k ?_);have e:wpAny (model prog w) A (subscripted a false o i) (λr d=>wpAny (model prog w) A (letTemporaryGo b o r >>= λ_=>pure r) Q E d) E s₂:=by rw[hs o i];exact wpAny_operating (P1 c (λr d f=>d8 (wpAny_letTemporaryGo (j4 f))) λ_ _ x=>x)
 first
  |exact j4 (d8 e)
  |exact d8 (j4 (d8 e))
  |exact d8 e
theorem Bz{X:Cx}{pins:List (Addr×Obj)}{f:St}{H:Hp}{s:c8}{a:Addr}{y:V}{o:Option V}(I:Inv X pins f H s)(g:dE H a y o):s.TypeIs (.ref a) "dict":=by
 rcases g with ⟨c,k,e,_,_⟩|⟨c,k,b,e,_,_,_⟩
 . obtain⟨_,_,i,_,d⟩:=mU I.i9 e;exact d.typeIs
 . obtain⟨_,_,h,_,d⟩:=mR I.i9 e;exact d.typeIs
noncomputable def OG(td ty:TE):TE:=λσ H Q=>td σ H λx H1=>ty σ H1 λy H2=>∃a v,x=.ref a/\dE H2 a y (some v)/\Q v H2
noncomputable def Tb(ty td:TE):TE:=λσ H Q=>ty σ H λy H1=>td σ H1 λx H2=>∃a o,x=.ref a/\dE H2 a y o/\Q (.bl o.isSome) H2
noncomputable def OK(td ty tv:TE):TS:=λD σ H=>tv σ H λv H1=>td σ H1 λx H2=>ty σ H2 λy H3=>∃a H4,x=.ref a/\Bb H3 a y v H4/\D.nx σ H4
section
variable{X:Cx}{o i e value:Expr}{pos pos' tpos:Pos}{td ty tv:TE}
theorem Rb(l:X.A.units+1<D3)(p:PE X o td)(f:PE X i ty)(hs:Og i):PE X (.Subscript o i pos) (OG td ty):=by
 intro b s e H Q I h;refine Qi PySem.F.slot_dict_getitem.lookup hs (m4 (p b s e H _ I h) λu n ⟨x,t,w,q,r⟩=>m4 (f b n e t _ w r) λB D ⟨y,j,d,k,a,v,z,g,q2⟩=>?_)
 subst z;obtain rfl:=q;exact⟨Bz d g,IW l d g k λE C m c=>⟨v,j,m,c,q2⟩⟩
theorem Uw(l:X.A.units+1<D3)(e:PE X i ty)(w:PE X o td):PC X .In i o (Tb ty td):=by
 intro b s c H Q I h;refine m4 (e b s c H _ I h) λC p ⟨y,r,t,j,q⟩=>m4 (w b p c r _ t q) λu B ⟨x,k,f,d,a,m,v,g,q2⟩=>?_
 subst v;obtain rfl:=d;exact XH l f g j λz n=>⟨.bl m.isSome,k,n,rfl,q2⟩
theorem QQ(n:X.A.units+1<D3)(t:PE X o td)(e:PE X i ty)(d:PE X value tv)(hs:N8 value (some (.Subscript o i pos')) pos.line X.env=pure false):
  PS X (.Assign [.Subscript o i pos'] value pos) (OK td ty tv):=by
 intro b s c H D I h;refine wpAny_Assign_Subscript (m4 (d b s c H _ I h) λr q ⟨v,F,G,B,E⟩=>m4 (t b q c F _ G E) λu z ⟨x,k,j,w,q2⟩=>m4 (e b z c k _ j q2) λN O ⟨y,L,p,m,a,f,K,g,l⟩=>?_) hs
 subst K;obtain rfl:=w;exact IV n p g m B λM C=>⟨c,f,C,l⟩
end
theorem NK{P:j3}{w:i7}{H:Hp}(h:Heap)(a:cV<h.objs.size):G9 P w H (h.push {cls:=.type "dict",data:=.dict #[]}) h.objs.size (.dK []) :=
 ⟨fe _,beq_eq_false_iff_ne.mpr (B3 (J6 a)),[],.nil,Heap.DictOf.new h⟩
noncomputable def FU:TE:=λ_ H Q=>∀p,H p=none->Q (.ref p) (upd H p (.dK []))
section
variable{X:Cx}{pos:Pos}
theorem MI:PE X (.Dict [] [] pos) FU:=λa s b H Q I h =>
 wpAny_Dict_empty ⟨.ref (hz s),_,I.laid (λ_ _ q=>o9 _ q) F0 (NK s.heap I.big),rfl,h _ (I.i9.fresh F0)⟩
end
structure M1(X:Cx)(o:Expr)(m:Str)(apos:Pos)(e:Expr)(cpos:Pos):Prop where
 base:jz o m X.env (eval o X.env)=eval o X.env
 Pg:((R1 cpos (u4 [e] X.env)).all (λx=>!x.1)&&(lx cpos (lF [] X.env)).all (λx=>x.1.isSome)
  && decide (([e]:List Expr).length+([]:List jk).length+(if ([]:List jk).isEmpty then 0 else 1)<30))=true
 line:(apos.endLine==cpos.line)=true
 trees:R1 cpos (u4 [e] X.env)=[(false,eval e X.env)]
structure M2(X:Cx)(o:Expr)(m:Str)(apos:Pos)(e f:Expr)(cpos:Pos):Prop where
 base:jz o m X.env (eval o X.env)=eval o X.env
 Pg:((R1 cpos (u4 [e,f] X.env)).all (λx=>!x.1)&&(lx cpos (lF [] X.env)).all (λx=>x.1.isSome)
  && decide (([e,f]:List Expr).length+([]:List jk).length+(if ([]:List jk).isEmpty then 0 else 1)<30))=true
 line:(apos.endLine==cpos.line)=true
 trees:R1 cpos (u4 [e,f] X.env)=[(false,eval e X.env),(false,eval f X.env)]
noncomputable def PH(H:Hp)(a:Addr):Prop:=(∃kvs,Rd H a (.dK kvs))\/∃kvs,Rd H a (.dT kvs)
theorem yK{X:Cx}{pins:List (Addr×Obj)}{j:St}{H:Hp}{s:c8}{a:Addr}(I:Inv X pins j H s)(d:PH H a):
  s.TypeIs (.ref a) "dict"/\(∀b,t7 a=.ref b->∃ob,s.heap.get? b=some ob/\ob.dict=none)/\(a==cV)=false:=by
 rcases d with ⟨i,e⟩|⟨i,e⟩
 . obtain⟨_,g,k,_,c⟩:=mU I.i9 e;refine⟨c.typeIs,λb q=>?_,g⟩
   cases q;obtain⟨ob,_,_,f,h,_⟩:=c;exact⟨ob,f,h.2.1⟩
 . obtain⟨_,g,l,_,c⟩:=mR I.i9 e;refine⟨c.typeIs,λb q=>?_,g⟩
   cases q;obtain⟨ob,_,_,f,h,_⟩:=c;exact⟨ob,f,h.2.1⟩
section
variable{X:Cx}{pins:List (Addr×Obj)}{σ:St}{H:Hp}{s:c8}{a:Addr}{y d:V}{u r:b8}{o:Option V}{A:j6}{E:b8->c8->Prop}
theorem Vk{Q:b8->c8->Prop}(p:A.units+1<D3)(I:Inv X pins σ H s)(g:dE H a y o)(m:RelV y u)(h:∀w' s',Inv X pins σ H s'->RelV (o.getD .non) w'->Q w' s'):
  wpAny (model X.prog X.w) A (call (.builtin "dict.get") [.ref a,u]) Q E s:=by
 rcases g with ⟨i,k,e,j,l⟩|⟨i,k,b,e,j,n,l⟩
 . subst j;obtain⟨z,f,r,c,d⟩:=mU I.i9 e;refine pj lR d.typeIs uw (KI _ _) (meets_dict_get (L9 X.prog X.w) a (mI m) f) ⟨_,d.mapOf,h _ _ (I.tok _) ?_⟩;rw[l];exact(c.val k).getD rfl
 . subst j;cases(show u=t7 b from m)
   obtain⟨z,f,q,c,d⟩:=mR I.i9 e;refine pj lR d.typeIs uw (KI _ _) (meetsH_dict_get (jo (L9 X.prog X.w)) a b f) ⟨pI p,k,q,kR I.i9 n,d,h _ _ (I.tok _) ?_⟩;rw[l];exact(c.val k).getD rfl
theorem Vj{Q:b8->c8->Prop}(t:A.units+1<D3)(I:Inv X pins σ H s)(g:dE H a y o)(p:RelV y u)(n:RelV d r)(h:∀w' s',Inv X pins σ H s'->RelV (o.getD d) w'->Q w' s'):
  wpAny (model X.prog X.w) A (call (.builtin "dict.get") [.ref a,u,r]) Q E s:=by
 rcases g with ⟨j,k,e,m,l⟩|⟨j,k,b,e,m,q,l⟩
 . subst m;obtain⟨z,i,x,c,f⟩:=mU I.i9 e;refine pj lR f.typeIs uw (KH _ _ _) (meets_dict_get_default (L9 X.prog X.w) a (mI p) i r) ⟨_,f.mapOf,h _ _ (I.tok _) ?_⟩;rw[l];exact(c.val k).getD n
 . subst m;cases(show u=t7 b from p)
   obtain⟨z,i,v,c,f⟩:=mR I.i9 e;refine pj lR f.typeIs uw (KH _ _ _) (meetsH_dict_get_default (jo (L9 X.prog X.w)) a b i r) ⟨pI t,k,v,kR I.i9 q,f,h _ _ (I.tok _) ?_⟩;rw[l];exact(c.val k).getD n
end
noncomputable def FY(td ty:TE):TE:=λσ H Q=>td σ H λx H1=>∃a,x=.ref a/\PH H1 a/\ty σ H1 λy H2=>∃o,dE H2 a y o/\Q (o.getD .non) H2
noncomputable def FW(td ty tx:TE):TE:=λσ H Q=>td σ H λx H1=>∃a,x=.ref a/\PH H1 a/\ty σ H1 λy H2=>tx σ H2 λz H3=>∃o,dE H3 a y o/\Q (o.getD z) H3
noncomputable def FT(td ty:TE):TE:=λσ H Q=>td σ H λx H1=>∃a,x=.ref a/\PH H1 a/\ty σ H1 λy H2=>∃kvs k v,H2 a=some (.dK kvs)/\y=kV k/\bp kvs k=some v/\Q v (upd H2 a (.dK (mT kvs k)))
section
variable{X:Cx}{o e f:Expr}{apos cpos:Pos}{td ty tx:TE}
theorem MK(p:X.A.units+1<D3)(w:PE X o td)(v:PE X e ty)(m:M1 X o "get" apos e cpos):PE X (.Call (.Attribute o "get" apos) [e] [] cpos) (FY td ty):=by
 intro b s f H Q I h;refine Ao m.base m.Pg m.line AU lR Kt (m4 (w b s f H _ I h) λu r ⟨x,C,i,z,a,D,d,B⟩=>?_)
 subst D;obtain rfl:=z;obtain⟨j,t,_⟩:=yK i d;refine⟨j,t,?_⟩;rw[m.trees];refine pP rfl (uu (pK (m4 (v b r f C _ i B) λE K ⟨y,l,k,n,L,g,q2⟩=>uh ?_)))
 exact Vk p k g n λM G q c=>⟨_,l,q,c,q2⟩
theorem MJ(r:X.A.units+1<D3)(G:PE X o td)(E:PE X e ty)(C:PE X f tx)(m:M2 X o "get" apos e f cpos):PE X (.Call (.Attribute o "get" apos) [e,f] [] cpos) (FW td ty tx):=by
 intro b s c H Q I h;refine Ao m.base m.Pg m.line AU lR Kt (m4 (G b s c H _ I h) λu v ⟨x,O,j,K,a,P,d,N⟩=>?_)
 subst P;obtain rfl:=K;obtain⟨k,D,_⟩:=yK j d;refine⟨k,D,?_⟩;rw[m.trees];refine pP rfl (uu (pK (m4 (E b v c O _ j N) λS L ⟨y,n,l,p,q2⟩ =>
  pK (m4 (C b L c n _ l q2) λV T ⟨z,w,t,B,W,g,q⟩=>uh ?_))))
 exact Vj r t g p B λY R M i=>⟨_,w,M,i,q⟩
theorem MH(B:PE X o td)(A:PE X e ty)(m:M1 X o "pop" apos e cpos):PE X (.Call (.Attribute o "pop" apos) [e] [] cpos) (FT td ty):=by
 intro b s f H Q I h;refine Ao m.base m.Pg m.line AU Ku PySem.F.type_dict_pop (m4 (B b s f H _ I h) λu r ⟨x,E,g,C,a,G,d,D⟩=>?_)
 subst G;obtain rfl:=C;obtain⟨j,w,_⟩:=yK g d;refine⟨j,w,?_⟩;rw[m.trees];refine pP rfl (uu (pK (m4 (A b r f E _ g D) λL N ⟨y,K,n,p,t,k,v,i,z,l,q2⟩=>uh ?_)))
 subst z;exact WG n i p l (.inl rfl) λO M q c=>⟨v,_,q,c,q2⟩
end
section
variable{X:Cx}{pins:List (Addr×Obj)}{σ:St}{H:Hp}{s:c8}{a:Addr}{kvs:List (Key×V)}{A:j6}{E:b8->c8->Prop}
end
section
variable{X:Cx}{pins:List (Addr×Obj)}{σ:St}{H:Hp}{s:c8}{a:Addr}{y:V}{u:b8}{A:j6}{E:b8->c8->Prop}
end
inductive PF where
 |dat (d:b5)
 |own (l:List b5)
 |dct (es:List (Str×b5))
inductive OD where
 |dct (es:List (Str×b5))
 |ins (nm:Str) (fs:List (Str×PF))
 |seq (b:Bool) (fs:List (Str×PF))
inductive PV where
 |dat (d:b5)
 |own (l:List b5)
 |ob (w:Option Addr) (c:OD)
noncomputable abbrev sd(d:b5):Option PV:=some (.dat d)
noncomputable def PF.d:PF->b5
 | .dat d=>d
 | .own l=>.list l
 | .dct es=>EW (es.map (·.1)) (es.map (·.2))
noncomputable def OD.d:OD->b5
 | .dct es=>EW (es.map (·.1)) (es.map (·.2))
 | .ins nm fs=>Nt nm (fs.map (·.1)) (fs.map λf=>f.2.d)
 | .seq true fs=>.list (fs.map λf=>f.2.d)
 | .seq false fs=>.tuple (fs.map λf=>f.2.d)
noncomputable def PV.d:PV->b5
 | .dat d=>d
 | .own l=>.list l
 | .ob _ c=>c.d
@[simp] theorem PV.ip(d:b5):(PV.dat d).d=d:=rfl
@[simp] theorem PV.EX(l:List b5):(PV.own l).d=.list l:=rfl
noncomputable abbrev Ds:=List (Option PV)
noncomputable abbrev DV:=Ds->Option PV
noncomputable abbrev DB:=Ds->Option Bool
noncomputable abbrev DL:=Ds->Option (List b5)
noncomputable abbrev DD:=Ds->Option Ds
noncomputable abbrev FV:=List b5->Option PV
noncomputable abbrev As:=List (Option Addr)
noncomputable def k6(H:Hp)(as:As)(O:List Addr):Hp:=λb=>if b∈O\/some b∈as then none else H b
set_option tactic.hygienic true in
theorem A9{H:Hp}{as:As}{O:List Addr}{b:Addr}{o:HO}:k6 H as O b=some o↔(b∉O/\some b∉as/\H b=some o):=by
 delta k6;split
 . rename_i h;constructor
   . intro z;exact nE z
   . rintro⟨a,c,_⟩;exact(h.elim a c).elim
 . rename_i h;constructor
   . intro z;exact⟨λq=>h (.inl q),λq=>h (.inr q),z⟩
   . rintro⟨_,_,z⟩;exact z
theorem Y8{H H':Hp}{as a:As}{O c:List Addr}(e:∀b o,b∉O->some b∉as->H b=some o->b∉c/\some b∉a/\H' b=some o):e9 (k6 H as O) (k6 H' a c):=λb o h=>by obtain⟨d,f,g⟩:=A9.mp h;exact A9.mpr (e b o d f g)
theorem K1{H H':Hp}{as:As}{O:List Addr}(e:e9 H H'):e9 (k6 H as O) (k6 H' as O):=Y8 λb o a c d=>⟨a,c,e b o d⟩
theorem U0{H H':Hp}{as a:As}{O:List Addr}(e:e9 H H')(h:∀b,some b∈a->some b∈as):e9 (k6 H as O) (k6 H' a O):=Y8 λb o c d f=>⟨c,λz=>d (h b z),e b o f⟩
theorem m7{H:Hp}{as:As}{O:List Addr}:e9 (k6 H as O) H:=λb o h=>(A9.mp h).2.2
theorem kT{H:Hp}{as bs:As}{O:List Addr}:k6 H (bs++as) O=k6 H bs (O++as.filterMap id):=by
 funext b
 delta k6;have:(b∈O\/some b∈bs++as)↔(b∈O++as.filterMap id\/some b∈bs):=by
  simp only[lI,AB];constructor
  . rintro(h|h|h)
    . exact .inl (.inl h)
    . exact .inr h
    . exact .inl (.inr ⟨_,h,rfl⟩)
  . rintro((h|⟨x,h,e⟩)|h)
    . exact .inl h
    . subst e;exact .inr (.inr h)
    . exact .inr (.inl h)
 by_cases c:b∈O\/some b∈bs++as
 . rw[d9 c,d9 (this.mp c)]
 . rw[e7 c,e7 (λz=>c (this.mpr z))]
noncomputable def Cell(u:HO):Prop:=(∃xs,u=.lst xs)\/(∃kvs,u=.dK kvs)\/∃C dx fv,u=.ins C dx fv
noncomputable abbrev Cl:={u:HO // Cell u}
noncomputable def Cl.l(xs:List V):Cl:=⟨.lst xs,.inl ⟨xs,rfl⟩⟩
noncomputable def Cl.d(kvs:List (Key×V)):Cl:=⟨.dK kvs,.inr (.inl ⟨kvs,rfl⟩)⟩
noncomputable def Cl.i(C dx:Addr)(fv:List (Str×V)):Cl:=⟨.ins C dx fv,.inr (.inr ⟨C,dx,fv,rfl⟩)⟩
noncomputable def T3(K:c9)(Hv:Hp):List (Key×V)->List (Str×b5)->Prop:=Paired λ(p:Key×V) (q:Str×b5)=>p.1=.inr q.1/\Dt K Hv p.2 q.2
theorem T3.same{K:c9}{H H':Hp}{a:List (Key×V)}{es:List (Str×b5)}(e:e9 H H')(h:T3 K H a es):T3 K H' a es:=by
 induction h with
 |nil=>exact .nil
 |cons h t b=>exact .cons ⟨h.1,h.2.same e⟩ b
inductive N7(K:c9)(Hv H:Hp):List (Str×V)->List (Str×PF)->List Addr->Prop
 |nil:N7 K Hv H [] [] []
 |dat {n x d fv fs R}:Dt K Hv x d->N7 K Hv H fv fs R->N7 K Hv H ((n,x)::fv) ((n,.dat d)::fs) R
 |own {n a xs l fv fs R}:H a=some (.lst xs)->n6 K Hv xs l->a∉R->N7 K Hv H fv fs R->N7 K Hv H ((n,.ref a)::fv) ((n,.own l)::fs) (a::R)
 |dct {n a kvs es fv fs R}:H a=some (.dK kvs)->T3 K Hv kvs es->a∉R->N7 K Hv H fv fs R->N7 K Hv H ((n,.ref a)::fv) ((n,.dct es)::fs) (a::R)
noncomputable def gZ(K:c9)(Hv H:Hp)(v:Addr)(R:List Addr):OD->Prop
 | .dct es=>∃kvs,R=[v]/\H v=some (.dK kvs)/\T3 K Hv kvs es
 | .ins nm fs=>∃C dx fv R',R=v::R'/\S0 K J5 nm=some (some (.ref C))/\H v=some (.ins C dx fv)/\N7 K Hv H fv fs R'
 | .seq true fs=>∃fv R',R=v::R'/\v∉R'/\H v=some (.lst (fv.map (·.2)))/\N7 K Hv H fv fs R'
 | .seq false fs=>∃fv,Hv v=some (.tup (fv.map (·.2)))/\N7 K Hv H fv fs R
section
variable{K:c9}{Hv Hv' H H':Hp}{v:Addr}{R:List Addr}{c:OD}{fv:List (Str×V)}{fs:List (Str×PF)}
theorem N7.same(e:e9 Hv Hv')(h:N7 K Hv H fv fs R):(∀b∈R,∀o,H b=some o->H' b=some o)->N7 K Hv' H' fv fs R:=by
 induction h with
 |nil=>exact λ_=>.nil
 |dat j t c=>exact λa=>.dat (j.same e) (c a)
 |own f g i t c=>exact λa=>.own (a _ o2 _ f) (g.same e) i (c λb d=>a b (o8 _ d))
 |dct f g i t c=>exact λa=>.dct (a _ o2 _ f) (g.same e) i (c λb d=>a b (o8 _ d))
theorem N7.at(h:N7 K Hv H fv fs R):∀b∈R,∃u:HO,((∃xs,u=.lst xs)\/∃e,u=.dK e)/\H b=some u:=by
 induction h with
 |nil=>exact λb a=>absurd a q5
 |dat i t c=>exact c
 |own d f g t c =>
  intro b a;rcases List.mem_cons.mp a with rfl|a
  . exact⟨_,.inl ⟨_,rfl⟩,d⟩
  . exact c b a
 |dct d f g t c =>
  intro b a;rcases List.mem_cons.mp a with rfl|a
  . exact⟨_,.inr ⟨_,rfl⟩,d⟩
  . exact c b a
theorem gZ.same(e:e9 Hv Hv')(f:∀b∈R,∀o,H b=some o->H' b=some o)(h:gZ K Hv H v R c):gZ K Hv' H' v R c:=by
 cases c with
 |dct n=>obtain⟨k,rfl,a,d⟩:=h;exact⟨k,rfl,f _ o2 _ a,d.same e⟩
 |ins p fs =>
  obtain⟨C,m,g,l,rfl,j,a,d⟩:=h;exact⟨C,m,g,l,rfl,j,f _ o2 _ a,d.same e λb i=>f b (o8 _ i)⟩
 |seq b fs =>
  cases b with
  |true =>
   obtain⟨g,l,rfl,j,a,d⟩:=h;exact⟨g,l,rfl,j,f _ o2 _ a,d.same e λb i=>f b (o8 _ i)⟩
  |false=>obtain⟨g,a,d⟩:=h;exact⟨g,e _ _ a,d.same e f⟩
theorem gZ.at(h:gZ K Hv H v R c):∀b∈R,∃u:Cl,H b=some u.1:=by
 cases c with
 |dct q =>
  obtain⟨n,rfl,j,f⟩:=h;intro b a;rw[mem_singleton.mp a];exact⟨Cl.d n,j⟩
 |ins r fs =>
  obtain⟨C,o,k,m,rfl,p,j,f⟩:=h;intro b a;rcases List.mem_cons.mp a with rfl|a
  . exact⟨Cl.i C o k,j⟩
  . obtain⟨u,h|h,e⟩:=f.at b a
    . exact⟨⟨u,.inl h⟩,e⟩
    . exact⟨⟨u,.inr (.inl h)⟩,e⟩
 |seq t fs =>
  have g:∀{k m},N7 K Hv H k fs m->∀b∈m,∃u:Cl,H b=some u.1:=λf b a=>by
   obtain⟨u,h|h,e⟩:=f.at b a
   . exact⟨⟨u,.inl h⟩,e⟩
   . exact⟨⟨u,.inr (.inl h)⟩,e⟩
  cases t with
  |true =>
   obtain⟨k,m,rfl,p,j,f⟩:=h;intro b a;rcases List.mem_cons.mp a with rfl|a
   . exact⟨Cl.l _,j⟩
   . exact g f b a
  |false=>obtain⟨k,j,f⟩:=h;exact g f
theorem Cy{a:List (Key×V)}{es:List (Str×b5)}(h:T3 K Hv a es):a=((es.map (·.1)).map bU).zip (a.map (·.2))/\n6 K Hv (a.map (·.2)) (es.map (·.2)):=by
 induction h with
 |nil=>exact⟨rfl,.nil⟩
 | @cons p q c d h t b =>
  refine⟨?_,.cons h.2 b.2⟩;rw[o5,o5,o5,uj,<-b.1,<-h.1]
theorem N7.Vh(h:N7 K Hv H fv fs R)(e:e9 Hv Hv')(a:∀b∈R,∀o,H b=some o->Hv' b=some o):fv=(fs.map (·.1)).zip (fv.map (·.2))/\n6 K Hv' (fv.map (·.2)) (fs.map λf=>f.2.d):=by
 induction h with
 |nil=>exact⟨rfl,.nil⟩
 |dat p t c =>
  obtain⟨g,i⟩:=c a;refine⟨?_,.cons (p.same e) i⟩;rw[o5,o5,uj,<-g]
 |own l j n t c =>
  obtain⟨g,i⟩:=c λb k=>a b (o8 _ k)
  refine⟨?_,.cons (.lst (F3.of (a _ o2 _ l)) (j.same e)) i⟩;rw[o5,o5,uj,<-g]
 |dct l j n t c =>
  obtain⟨g,i⟩:=c λb k=>a b (o8 _ k)
  obtain⟨m,k2⟩:=Cy j;refine⟨?_,.cons (.dct (a _ o2 _ l) m (k2.same e)) i⟩;rw[o5,o5,uj,<-g]
theorem gZ.dt(h:gZ K Hv H v R c)(e:e9 Hv Hv')(g:∀b∈R,∀o,H b=some o->Hv' b=some o):Dt K Hv' (.ref v) c.d:=by
 cases c with
 |dct q =>
  obtain⟨m,rfl,a,f⟩:=h;obtain⟨i,k2⟩:=Cy f;exact .dct (g _ o2 _ a) i (k2.same e)
 |ins r fs =>
  obtain⟨C,p,k,n,rfl,l,a,f⟩:=h;obtain⟨i,k2⟩:=f.Vh e λb j=>g b (o8 _ j)
  exact .ins l (g _ o2 _ a) i k2
 |seq b fs =>
  cases b with
  |true =>
   obtain⟨k,n,rfl,l,a,f⟩:=h;obtain⟨i,k2⟩:=f.Vh e λb j=>g b (o8 _ j)
   exact .lst (F3.of (g _ o2 _ a)) k2
  |false =>
   obtain⟨k,a,f⟩:=h;obtain⟨i,k2⟩:=f.Vh e g;exact .tup (P0.of (e _ _ a)) k2
end
noncomputable def Z0(K:c9)(O:List Addr)(as:As)(H:Hp)(si:Option (Option V))(rg:List Addr):PV->Prop
 | .dat d=>∃v,si=some (some v)/\Dt K (k6 H as O) v d
 | .own l=>∃a xs,si=some (some (.ref a))/\a∈rg/\H a=some (.lst xs)/\n6 K (k6 H as O) xs l
 | .ob w c=>∃v R,si=some (some (.ref v))/\(w=none\/w=some v)/\(∀b∈R,b∈rg)/\gZ K (k6 H as O) H v R c
structure DS(K:c9)(O:List Addr)(f6:Hp)(as:As)(σ:St)(H:Hp)(ds:Ds):Prop where
 ls:σ.length=ds.length
 same:e9 f6 H
 new:∀a,some a∈as->f6 a=none/\∃u:Cl,H a=some u.1
 aw:∀a∈O,∃o,f6 a=some o
 dH:∃rg:Nat->List Addr,(∀i b,b∈rg i->some b∈as)/\(∀i j b,b∈rg i->b∈rg j->i=j)/\∀(i:Nat) (pv:PV),ds[i]? = some (some pv)->Z0 K O as H σ[i]? (rg i) pv
noncomputable def Fm(K:c9)(O:List Addr)(as:As)(H:Hp)(si:Option (Option V)):PV->Prop
 | .dat d=>∃v,si=some (some v)/\Dt K (k6 H as O) v d
 | .own l=>∃a xs,si=some (some (.ref a))/\some a∈as/\H a=some (.lst xs)/\n6 K (k6 H as O) xs l
 | .ob w c=>∃v R,si=some (some (.ref v))/\(w=none\/w=some v)/\(∀b∈R,some b∈as)/\gZ K (k6 H as O) H v R c
theorem DS.slot{K:c9}{O:List Addr}{f6 H:Hp}{as:As}{k:St}{ds:Ds}(S:DS K O f6 as k H ds)(i:Nat)(pv:PV)(h:ds[i]? = some (some pv)):Fm K O as H k[i]? pv:=by
 obtain⟨r,j,q,n⟩:=S.dH;have z:=n i pv h;cases pv with
 |dat d=>exact z
 |own l=>obtain⟨a,m,e,g,f⟩:=z;exact⟨a,m,e,j i a g,f⟩
 |ob w c=>obtain⟨v,R,e,g,f,p⟩:=z;exact⟨v,R,e,g,λb o=>j i b (f b o),p⟩
theorem Z0.xW{K:c9}{O:List Addr}{as bs:As}{H H':Hp}{p:Option (Option V)}{k g:List Addr}{pv:PV}(h:Z0 K O as H p k pv)(e:e9 (k6 H as O) (k6 H' bs O))(n:∀b∈k,∀o,H b=some o->H' b=some o)(q:∀b∈k,b∈g):Z0 K O bs H' p g pv:=by
 cases pv with
 |dat d=>obtain⟨v,f,z⟩:=h;exact⟨v,f,z.same e⟩
 |own l=>obtain⟨a,r,f,j,i,z⟩:=h;exact⟨a,r,f,q a j,n a j _ i,z.same e⟩
 |ob w c=>obtain⟨v,R,f,j,i,z⟩:=h;exact⟨v,R,f,j,λb m=>q b (i b m),z.same e λb m=>n b (i b m)⟩
noncomputable def P8(fr:Bool)(as:As):As:=if fr=true then as else[]
theorem uL{fr:Bool}{as:As}{b:Addr}(h:some b∈P8 fr as):some b∈as:=by
 unfold P8 at h
 simp_all
noncomputable def RX(K:c9)(O:List Addr)(va:As)(H H':Hp)(v:V):PV->Prop
 | .dat d=>Dt K (k6 H' va O) v d
 | .own l=>∃a xs,v=.ref a/\H a=none/\H' a=some (.lst xs)/\n6 K (k6 H' (some a::va) O) xs l
 | .ob w c=>∃o R,v=.ref o/\(w=none\/w=some o)/\(∀b∈R,H b=none)/\gZ K (k6 H' (R.map some++va) O) H' o R c
structure jM(H:Hp)(va:As)(O:List Addr):Prop where
 o:∀a∈O,∃u,H a=some u
 a:∀a,some a∈va->∃u,H a=some u
section
variable{K:c9}{O:List Addr}{f6 H H' H2:Hp}{as va:As}{σ:St}{ds:Ds}{v:V}{pv:PV}{fr:Bool}
theorem jM.same(D:jM H va O)(e:e9 H H'):jM H' va O:=⟨λa h=>let ⟨u,z⟩:=D.o a h;⟨u,e _ _ z⟩,λa h=>let ⟨u,z⟩:=D.a a h;⟨u,e _ _ z⟩⟩
theorem DS.dm(S:DS K O f6 as σ H ds):jM H (P8 fr as) O:=⟨λa h=>let ⟨u,z⟩:=S.aw a h;⟨u,S.same _ _ z⟩,λa h=>let ⟨_,z⟩:=(S.new a (uL h)).2;⟨_,z⟩⟩
theorem DS.nO(S:DS K O f6 as σ H ds){a:Addr}(h:some a∈as):a∉O:=λz=>by obtain⟨o,e⟩:=S.aw a z;rw[(S.new a h).1]at e;exact nE e
theorem DS.grow(S:DS K O f6 as σ H ds)(e:e9 H H'):DS K O f6 as σ H' ds :=
 ⟨S.ls,S.same.trans e,λa h=>⟨(S.new a h).1,let ⟨o,z⟩:=(S.new a h).2;⟨o,e _ _ z⟩⟩,S.aw,let ⟨d,g,c,f⟩:=S.dH;⟨d,g,c,λi pv h=>(f i pv h).xW (K1 e) (λb _ o z=>e _ _ z) λ_ z=>z⟩⟩
theorem RX.grow(h:RX K O va H H' v pv)(e:e9 H' H2):RX K O va H H2 v pv:=by
 cases pv with
 |dat d=>exact Dt.same (K1 e) h
 |own l=>obtain⟨a,j,g,f,i,h⟩:=h;exact⟨a,j,g,f,e _ _ i,h.same (K1 e)⟩
 |ob w c=>obtain⟨o,R,g,f,i,h⟩:=h;exact⟨o,R,g,f,i,h.same (K1 e) λb _ u z=>e _ _ z⟩
theorem RX.back(h:RX K O va H H' v pv)(e:e9 H2 H):RX K O va H2 H' v pv:=by
 cases pv with
 |dat d=>exact h
 |own l=>obtain⟨a,j,g,f,i,h⟩:=h;exact⟨a,j,g,e.free f,i,h⟩
 |ob w c=>obtain⟨o,R,g,f,i,h⟩:=h;exact⟨o,R,g,f,λb k=>e.free (i b k),h⟩
theorem gZ.P8{R:List Addr}{o:Addr}{c:OD}(h:gZ K (k6 H' (R.map some++va) O) H' o R c)(n:∀b∈R,b∉O/\some b∉va):Dt K (k6 H' va O) (.ref o) c.d :=
 h.dt (U0 (e9.refl _) λb z=>D0 _ z) λb a u z=>A9.mpr ⟨(n b a).1,(n b a).2,z⟩
theorem RX.dt(h:RX K O va H H' v pv)(D:jM H va O):Dt K (k6 H' va O) v pv.d:=by
 have f:∀a,H a=none->a∉O/\some a∉va:=λa e=>by
  refine⟨λz=>?_,λz=>?_⟩
  . obtain⟨u,z⟩:=D.o a z
    lia
  . obtain⟨u,z⟩:=D.a a z
    lia
 cases pv with
 |dat d=>exact h
 |ob w c=>obtain⟨o,R,rfl,_,g,h⟩:=h;exact h.P8 λb i=>f b (g b i)
 |own l =>
  obtain⟨a,j,rfl,e,g,h⟩:=h;exact .lst (F3.of (A9.mpr ⟨(f a e).1,(f a e).2,g⟩)) (h.same (U0 (e9.refl _) λb z=>o8 _ z))
theorem RX.less{g:As}(h:RX K O va H H' v pv)(s:∀b,some b∈g->some b∈va):RX K O g H H' v pv:=by
 cases pv with
 |dat d=>exact Dt.same (U0 (e9.refl _) s) h
 |ob w c =>
  obtain⟨o,R,rfl,e,f,h⟩:=h;refine⟨o,R,rfl,e,f,h.same (U0 (e9.refl _) λb z=>?_) (λ_ _ _ z=>z)⟩
  rcases List.mem_append.mp z with z|z
  . exact ao _ z
  . exact D0 _ (s b z)
 |own l =>
  obtain⟨a,i,rfl,e,f,h⟩:=h;refine⟨a,i,rfl,e,f,h.same (U0 (e9.refl _) λb z=>?_)⟩
  rcases List.mem_cons.mp z with z|z
  . rw[z];exact o2
  . exact o8 _ (s b z)
theorem fK:e9 (k6 H as O) (k6 H (P8 fr as) O):=U0 (e9.refl _) λ_ h=>uL h
noncomputable def Flat:b5->Bool
 | .none=>true
 | .bool _=>true
 | .int _=>true
 | .str _=>true
 |_=>false
theorem n6.append{xs ys:List V}{ds es:List b5}(h:n6 K H xs ds)(k:n6 K H ys es):n6 K H (xs++ys) (ds++es):=by
 induction ds generalizing xs with
 |nil=>cases h;exact k
 |cons _ _ i=>cases h with
  |cons a t=>exact .cons a (i t)
theorem n6.get'{xs:List V}{ds:List b5}{i:Nat}{x:V}(h:n6 K H xs ds)(e:xs[i]? = some x):∃d,ds[i]? = some d/\Dt K H x d:=by
 induction ds generalizing xs i with
 |nil=>cases h;exact nE e
 |cons _ _ j=>cases h with
  |cons a t=>cases i with
   |zero=>cases e;exact⟨_,rfl,a⟩
   |succ i=>exact j t e
theorem n6.take:∀{xs:List V} {ds:List b5} (n:Nat),n6 K H xs ds->n6 K H (xs.take n) (ds.take n)
 |_,_,0,_=>by simp;exact .nil
 |_,_,_+1,.nil=>by simp;exact .nil
 |_,_,n+1,.cons h t=>by simp only[JZ];exact .cons h (n6.take n t)
theorem n6.drop:∀{xs:List V} {ds:List b5} (n:Nat),n6 K H xs ds->n6 K H (xs.drop n) (ds.drop n)
 |_,_,0,h=>by simpa using h
 |_,_,_+1,.nil=>by simp;exact .nil
 |_,_,n+1,.cons h t=>by simp only[AG];exact n6.drop n t
theorem n6.reverse{xs:List V}{ds:List b5}(h:n6 K H xs ds):n6 K H xs.reverse ds.reverse:=by
 induction ds generalizing xs with
 |nil=>cases h;exact .nil
 |cons _ _ i=>cases h with
  |cons a t =>
   rw[ug,ug];exact(i t).append (.cons a .nil)
end
noncomputable def TX(K:c9)(fr:Bool)(te:TE)(F:DV):Prop :=
 ∀(O:List Addr) (f6:Hp) (as:As) (σ:St) (H:Hp) (ds:Ds) (pv:PV) (Q:VK),DS K O f6 as σ H ds->F ds=some pv->(∀v H',e9 H H'->RX K O (P8 fr as) H H' v pv->Q v H')->te σ H Q
structure PX(X:Cx)(fr:Bool)(e:Expr)(te:TE)(F:DV):Prop where
 p:PE X e te
 t:TX X.K fr te F
noncomputable def nJ(K:c9)(tt:TT)(F:DB):Prop :=
 ∀(O:List Addr) (f6:Hp) (as:As) (σ:St) (H:Hp) (ds:Ds) (b:Bool) (Q:Bool->Hp->Prop),DS K O f6 as σ H ds->F ds=some b->(∀H',e9 H H'->Q b H')->tt σ H Q
structure V2(X:Cx)(e:Expr)(tt:TT)(F:DB):Prop where
 p:PT X e tt
 t:nJ X.K tt F
structure qK(X:Cx)(e:Expr)(tt:TT)(F:DB):Prop where
 p:PW X e tt
 t:nJ X.K tt F
noncomputable def Yi(K:c9)(fr:Bool)(t:TA)(F:DL):Prop :=
 ∀(O:List Addr) (f6:Hp) (as:As) (σ:St) (H:Hp) (ds:Ds) (l:List b5) (Q:List V->Hp->Prop),DS K O f6 as σ H ds->F ds=some l->(∀vs H',e9 H H'->n6 K (k6 H' (P8 fr as) O) vs l->Q vs H')->t σ H Q
structure bz(X:Cx)(fr:Bool)(es:List Expr)(t:TA)(F:DL):Prop where
 p:PA X es t
 t:Yi X.K fr t F
noncomputable def O5(K:c9)(r:R2)(f:b5->b5->Option PV):Prop :=
 ∀(O:List Addr) (va:As) (H:Hp) (x y:V) (d e:b5) (pv:PV) (Q:VK),jM H va O->Dt K (k6 H va O) x d->Dt K (k6 H va O) y e->f d e=some pv->(∀v H',e9 H H'->RX K O va H H' v pv->Q v H')->r x y H Q
noncomputable def Vz(K:c9)(r:V->Hp->VK->Prop)(f:b5->Option PV):Prop :=
 ∀(O:List Addr) (va:As) (H:Hp) (x:V) (d:b5) (pv:PV) (Q:VK),jM H va O->Dt K (k6 H va O) x d->f d=some pv->(∀v H',e9 H H'->RX K O va H H' v pv->Q v H')->r x H Q
noncomputable def eN(K:c9)(r:List V->Hp->VK->Prop)(f:FV):Prop :=
 ∀(O:List Addr) (va:As) (H:Hp) (xs:List V) (ds:List b5) (pv:PV) (Q:VK),jM H va O->n6 K (k6 H va O) xs ds->f ds=some pv->(∀v H',e9 H H'->RX K O va H H' v pv->Q v H')->r xs H Q
noncomputable def b7(i:Nat):DV:=λds=>match ds[i]? with
 |some (some (.dat d))=>some (.dat d)
 |_=>none
noncomputable def fC(d:b5):DV:=λ_=>some (.dat d)
section
variable{X:Cx}{fr:Bool}{e a b c:Expr}{es rest:List Expr}{te ta tb tc:TE}{tt tu:TT}{t:TA}{Fa Fb Fc F:DV}{Ft Fu:DB}{Fl:DL}{pos:Pos}
set_option tactic.hygienic true in
theorem TF(i:Nat)(h:PE X e (D4 i)):PX X fr e (D4 i) (b7 i):=⟨h,by
 intro O b k j H g pv Q S a q;unfold b7 at a;split at a
 . rename_i d f;cases a;obtain⟨v,c,h⟩:=S.slot i _ f;exact⟨v,c,q v H (e9.refl H) (h.same fK)⟩
 . exact nE a⟩
theorem yh{v:V}{d:b5}(h:PE X e (tC v))(hd:∀H,Dt X.K H v d):PX X fr e (tC v) (fC d):=⟨h,by intro O a g f H c pv Q S b q;cases b;exact q v H (e9.refl H) (hd _)⟩
theorem TQ{i:Int}{j}:PX X fr (.Constant (.int i) j pos) (tC (.int i)) (fC (.int i)):=yh Ur λ_=>.int i
theorem Wj{i:Bool}{j}:PX X fr (.Constant (.bool i) j pos) (tC (.bl i)) (fC (.bool i)):=yh Wq λ_=>.bl i
theorem TJ{i:Str}{j}:PX X fr (.Constant (.str i) j pos) (tC (.str i)) (fC (.str i)):=yh Ul λ_=>.str i
theorem TM{j}:PX X fr (.Constant .none j pos) (tC .non) (fC .none):=yh Up λ_=>.non
noncomputable def Pj(F:DV):DV:=λds=>(F ds).bind λpv=>if Flat pv.d=true then some (.dat pv.d)else none
noncomputable def b9(f:b5->b5->Option PV)(Fa Fb:DV):DV:=λds=>(Fa ds).bind λx=>(Fb ds).bind λy=>f x.d y.d
theorem wX{r:R2}{f:b5->b5->Option PV}(p:O5 X.K r f)(s:PX X fr a ta Fa)(z:PX X fr b tb Fb):TX X.K fr (qv r ta tb) (b9 f Fa Fb):=by
 intro O c j k H i pv Q S e q;obtain⟨x,h1,e⟩:=d4 e;obtain⟨y,h2,e⟩:=d4 e;refine s.t O c j k H i x _ S h1 λv B g m=>?_
 refine z.t O c j k B i y _ (S.grow g) h2 λu n h l=>?_
 refine p O (P8 fr j) n v u x.d y.d pv Q ((S.grow g).grow h).dm ((m.grow h).dt S.dm) (l.dt (S.grow g).dm) e λw C A o=>?_
 exact q w C ((g.trans h).trans A) (o.back (g.trans h))
theorem qa{op:Operator}{r:R2}{f:b5->b5->Option PV}(g:F4 X (X0 op) r)(e:O5 X.K r f)(d:PX X fr a ta Fa)(c:PX X fr b tb Fb):PX X fr (.BinOp a op b pos) (qv r ta tb) (b9 f Fa Fb) :=
 ⟨Wn g d.p c.p,wX e d c⟩
theorem bK{op:aZ}{r:R2}{f:b5->b5->Option PV}(e:F4 X (C9 op) r)(h:O5 X.K r f)(g:bX op b=false)(d:PX X fr a ta Fa)(c:PX X fr b tb Fb):PX X fr (.Compare a [op] [b] pos) (qv r ta tb) (b9 f Fa Fb) :=
 ⟨Ce e d.p c.p g,wX h d c⟩
theorem Wh{r:R2}{f:b5->b5->Option PV}(g:qL X r)(e:O5 X.K r f)(d:PX X fr a ta Fa)(c:PX X fr b tb Fb)(hs:Di b):PX X fr (.Subscript a b pos) (qv r ta tb) (b9 f Fa Fb) :=
 ⟨Wo g d.p c.p hs,wX e d c⟩
noncomputable def nB(f:b5->Option PV)(Fa:DV):DV:=λds=>(Fa ds).bind λx=>f x.d
theorem We{op:UnaryOp}{r:V->Hp->VK->Prop}{f:b5->Option PV}(n:Py X (unaryOp op) r)(l:Vz X.K r f)(g:PX X fr a ta Fa):PX X fr (.UnaryOp op a pos) (WS r ta) (nB f Fa):=⟨Wl n g.p,by
 intro O b i s H h pv Q S c q;obtain⟨x,h1,c⟩:=d4 c;refine g.t O b i s H h x _ S h1 λv o e j=>?_
 refine l O (P8 fr i) o v x.d pv Q (S.grow e).dm (j.dt S.dm) c λw u m k=>?_
 exact q w u (e.trans m) (k.back e)⟩
noncomputable def zx:b5->Option Bool
 | .bool b=>some b
 |_=>none
noncomputable def f9(F:DV):DB:=λds=>(F ds).bind λx=>zx x.d
theorem rQ{te:TE}(h:TX X.K fr te F):nJ X.K (tB te) (f9 F):=by
 intro O e j k H f b Q S a q;obtain⟨x,h1,a⟩:=d4 a;refine h O e j k H f x _ S h1 λv i g l=>?_
 have d:=l.dt S.dm;generalize x.d=z at d a;cases z with
 |bool c=>cases a;cases d;exact⟨_,rfl,q i g⟩
 |_=>exact nE a
theorem BX(h:PX X fr e te F)(b:autoParam (∀a,isTrue e X.env a=(do let v <- a;lq e.pos;holding [v] (truthy v))) lg):V2 X e (tB te) (f9 F):=⟨GH h.p b,rQ h.t⟩
theorem T8{op:aZ}{r:R2}{f:b5->b5->Option PV}(e:F4 X (C9 op) r)(h:O5 X.K r f)(g:bX op b=false)(d:PX X fr a ta Fa)(c:PX X fr b tb Fb):V2 X (.Compare a [op] [b] pos) (OA (qv r ta tb)) (f9 (b9 f Fa Fb)) :=
 ⟨QH e d.p c.p g,rQ (wX h d c)⟩
noncomputable def mY(F:DB):DB:=λds=>(F ds).bind λb=>some (!b)
noncomputable def cR(F G:DB):DB:=λds=>(F ds).bind λb=>if b=true then G ds else some false
noncomputable def O9(F G:DB):DB:=λds=>(F ds).bind λb=>if b=true then some true else G ds
theorem Qc(h:nJ X.K tt Ft):nJ X.K (DC tt) (mY Ft):=by intro O a f e H d b Q S c q;obtain⟨x,h1,c⟩:=d4 c;cases c;exact h O a f e H d x _ S h1 q
theorem Qd(h:nJ X.K tt Ft)(k:nJ X.K tu Fu):nJ X.K (LG tt tu) (cR Ft Fu):=by
 intro O a i g H e b Q S c q;obtain⟨x,h1,c⟩:=d4 c;refine h O a i g H e x _ S h1 λf d=>?_
 cases x with
 |true=>exact k O a i g f e b Q (S.grow d) c λl j=>q l (d.trans j)
 |false=>cases c;exact q f d
theorem SM(h:nJ X.K tt Ft)(k:nJ X.K tu Fu):nJ X.K (SW tt tu) (O9 Ft Fu):=by
 intro O a i g H e b Q S c q;obtain⟨x,h1,c⟩:=d4 c;refine h O a i g H e x _ S h1 λf d=>?_
 cases x with
 |false=>exact k O a i g f e b Q (S.grow d) c λl j=>q l (d.trans j)
 |true=>cases c;exact q f d
theorem QG(h:V2 X a tt Ft):V2 X (.UnaryOp .Not a pos) (DC tt) (mY Ft):=⟨GI h.p,Qc h.t⟩
theorem Mg(h:V2 X a tt Ft):qK X (.BoolOp .And [a] pos) tt Ft:=⟨pw_and1 h.p,h.t⟩
theorem QA(h:V2 X a tt Ft):qK X (.BoolOp .Or [a] pos) tt Ft:=⟨pw_or1 h.p,h.t⟩
theorem QB(h:V2 X a tt Ft)(k:qK X (.BoolOp .And (b::rest) pos) tu Fu):qK X (.BoolOp .And (a::b::rest) pos) (LG tt tu) (cR Ft Fu):=⟨pw_and h.p k.p,Qd h.t k.t⟩
theorem TZ(h:V2 X a tt Ft)(k:qK X (.BoolOp .Or (b::rest) pos) tu Fu):qK X (.BoolOp .Or (a::b::rest) pos) (SW tt tu) (O9 Ft Fu):=⟨pw_or h.p k.p,SM h.t k.t⟩
theorem qK.pt(h:qK X a tt Ft):V2 X a tt Ft:=⟨PW.pt h.p,h.t⟩
noncomputable def EV(Fa Fb:DV):DV:=λds=>(f9 Fa ds).bind λb=>if b=true then Fb ds else some (.dat (.bool false))
noncomputable def Vc(Fa Fb:DV):DV:=λds=>(f9 Fa ds).bind λb=>if b=true then some (.dat (.bool true))else Fb ds
noncomputable def NB(Fa:DV):DV:=λds=>(f9 Fa ds).bind λb=>some (.dat (.bool !b))
theorem TK{op}(h:PX X fr a ta Fa):PX X fr (.BoolOp op [a] pos) ta Fa:=⟨Um h.p,h.t⟩
theorem TV(h:PX X fr a ta Fa)(k:PX X fr (.BoolOp .And (b::rest) pos) tb Fb):PX X fr (.BoolOp .And (a::b::rest) pos) (OH ta tb) (EV Fa Fb):=⟨Ut h.p k.p,by
 intro O c j i H f pv Q S d q;obtain⟨x,h1,d⟩:=d4 d;refine rQ h.t O c j i H f x _ S h1 λg e=>?_
 cases x with
 |true=>exact k.t O c j i g f pv Q (S.grow e) d λv m l r=>q v m (e.trans l) (r.back e)
 |false=>cases d;exact q _ g e (Dt.bl _)⟩
theorem Wg(h:PX X fr a ta Fa)(k:PX X fr (.BoolOp .Or (b::rest) pos) tb Fb):PX X fr (.BoolOp .Or (a::b::rest) pos) (SV ta tb) (Vc Fa Fb):=⟨Wm h.p k.p,by
 intro O c j i H f pv Q S d q;obtain⟨x,h1,d⟩:=d4 d;refine rQ h.t O c j i H f x _ S h1 λg e=>?_
 cases x with
 |false=>exact k.t O c j i g f pv Q (S.grow e) d λv m l r=>q v m (e.trans l) (r.back e)
 |true=>cases d;exact q _ g e (Dt.bl _)⟩
theorem TL(h:PX X fr a ta Fa):PX X fr (.UnaryOp .Not a pos) (OC ta) (NB Fa):=⟨Uo h.p,by intro O b i g H d pv Q S c q;obtain⟨x,h1,c⟩:=d4 c;cases c;exact rQ h.t O b i g H d x _ S h1 λe f=>q _ e f (Dt.bl _)⟩
noncomputable def Ph(Ft:DB)(Fa Fb:DV):DV:=λds=>(Ft ds).bind λb=>if b=true then Fa ds else Fb ds
theorem Wi(n:V2 X c tt Ft)(h:PX X fr a ta Fa)(k:PX X fr b tb Fb):PX X fr (.IfExp c a b pos) (WU tt ta tb) (Ph Ft Fa Fb):=⟨MG n.p h.p k.p,by
 intro O d m l H g pv Q S f q;obtain⟨x,h1,f⟩:=d4 f;refine n.t O d m l H g x _ S h1 λo e=>?_
 cases x with
 |true=>exact h.t O d m l o g pv Q (S.grow e) f λv j i r=>q v j (e.trans i) (r.back e)
 |false=>exact k.t O d m l o g pv Q (S.grow e) f λv j i r=>q v j (e.trans i) (r.back e)⟩
noncomputable def gw(f g:b5->b5->Option PV)(Fa Fb Fc:DV):DV:=λds=>(Fa ds).bind λx=>(Fb ds).bind λy=>(f x.d y.d).bind λr=>(zx r.d).bind λk =>
 if k=true then(Fc ds).bind λz=>g y.d z.d else some (.dat (.bool false))
theorem xD{r B:R2}{f g:b5->b5->Option PV}(M:O5 X.K r f)(s:O5 X.K B g)(N:PX X fr a ta Fa)(hb:PX X fr b tb Fb)(P:PX X fr c tc Fc):TX X.K fr (rV r B ta tb tc) (gw f g Fa Fb Fc):=by
 intro O h o A H j pv Q S e q;unfold gw at e;cases h1:Fa j with
 |none=>simp_all
 |some x =>
  cases h2:Fb j with
  |none=>rw[h1,h2]at e;exact nE e
  |some y =>
   rw[h1,h2]at e;simp only[F7]at e;refine N.t O h o A H j x _ S h1 λv H1 l Y=>?_
   refine hb.t O h o A H1 j y _ (S.grow l) h2 λu Z m G=>?_
   have n:=(S.grow l).grow m;have F:=G.dt (S.grow l).dm;obtain⟨w,h3,e⟩:=d4 e;refine M O (P8 fr o) Z v u x.d y.d w _ n.dm ((Y.grow m).dt S.dm) F h3 λz C i I=>?_
   have D:=I.dt n.dm;obtain⟨k,h4,e⟩:=d4 e;have hk:z=.bl k:=by
    generalize w.d=ww at D h4;cases ww with
    |bool c=>cases h4;cases D;rfl
    |_=>exact nE h4
   refine⟨k,hk,?_⟩;cases k with
   |false =>
    cases e;exact q _ C ((l.trans m).trans i) (Dt.bl _)
   |true =>
    obtain⟨E,h5,e⟩:=d4 e;refine P.t O h o A C j E _ (n.grow i) h5 λV W p L=>?_
    refine s O (P8 fr o) W u V y.d E.d pv Q ((n.grow i).grow p).dm (F.same (K1 (i.trans p))) (L.dt (n.grow i).dm) e λT H5 e5 R=>?_
    exact q T H5 ((((l.trans m).trans i).trans p).trans e5) (R.back (((l.trans m).trans i).trans p))
theorem yg{op d:aZ}{r h:R2}{f g:b5->b5->Option PV}(m:F4 X (C9 op) r)(o:O5 X.K r f)(i:F4 X (C9 d) h)(e:O5 X.K h g)(k:PX X fr a ta Fa)(j:PX X fr b tb Fb)(l:PX X fr c tc Fc)(n:lastMarks [op,d] [b,c]=false:=by with_unfolding_all rfl):PX X fr (.Compare a [op,d] [b,c] pos) (rV r h ta tb tc) (gw f g Fa Fb Fc):=⟨yi m i k.p j.p l.p n,xD o e k j l⟩
noncomputable def c7:DL:=λ_=>some []
noncomputable def a9(F:DV)(G:DL):DL:=λds=>(F ds).bind λx=>(G ds).bind λl=>some (x.d::l)
theorem Rh:bz X fr [] qR c7:=⟨ee,by intro O a d e H c l Q S b q;cases b;exact q [] H (e9.refl H) .nil⟩
theorem MM(h:PX X fr e te F)(k:bz X fr es t Fl)(hs:autoParam (aH X e es) e8):bz X fr (e::es) (hZ te t) (a9 F Fl):=⟨T9 h.p k.p hs,by
 intro O a i g H c l Q S b q;unfold a9 at b;cases h1:F c with
 |none=>simp_all
 |some x =>
  cases h2:Fl c with
  |none=>rw[h1,h2]at b;exact nE b
  |some m =>
   rw[h1,h2]at b;cases b;refine h.t O a i g H c x _ S h1 λv s f n=>?_
   refine k.t O a i g s c m _ (S.grow f) h2 λr o d j=>?_
   exact q (v::r) o (f.trans d) (.cons ((n.grow d).dt S.dm) j)⟩
theorem jM.fresh{H:Hp}{va:As}{O:List Addr}(D:jM H va O){p:Addr}(h:H p=none):p∉O/\some p∉va:=by
 refine⟨λz=>?_,λz=>?_⟩
 . obtain⟨u,z⟩:=D.o p z
   lia
 . obtain⟨u,z⟩:=D.a p z
   lia
theorem nZ{K:c9}{H:Hp}{va:As}{O:List Addr}{p:Addr}{vs:List V}{l:List b5}(D:jM H va O)(h:H p=none)(hd:n6 K (k6 H va O) vs l):RX K O va H (upd H p (.tup vs)) (.ref p) (.dat (.tuple l)):=by obtain⟨a,b⟩:=D.fresh h;exact Dt.tup (P0.of (A9.mpr ⟨a,b,l7⟩)) (hd.same (K1 (e9.new h)))
theorem dY{K:c9}{H:Hp}{va:As}{O:List Addr}{p:Addr}{vs:List V}{l:List b5}(h:H p=none)(hd:n6 K (k6 H va O) vs l):RX K O va H (upd H p (.lst vs)) (.ref p) (.own l):=by
 refine⟨p,vs,rfl,h,l7,hd.same (Y8 λb o c d a=>⟨c,λz=>?_,?_⟩)⟩
 . simp_all
 . exact e9.new h _ _ a
noncomputable def D9(Fl:DL):DV:=λds=>(Fl ds).bind λl=>if l.length<=1000000 then some (.dat (.tuple l))else none
noncomputable def o6(Fl:DL):DV:=λds=>(Fl ds).bind λl=>if l.length<=1000000 then some (.own l)else none
theorem qw{n:Nat}(h:n<=1000000):n<=j8:=t4 h (by rw[aT];decide)
theorem TH{x1}(h:bz X fr es t Fl):PX X fr (.Tuple es x1 pos) (SR t) (D9 Fl):=⟨Uk h.p,by
 intro O b j i H f pv Q S a q;obtain⟨l,h1,a⟩:=d4 a;obtain⟨g,a⟩:=A7 a;cases a;refine h.t O b j i H f l _ S h1 λk m c d=>⟨by rw[d.length];exact qw g,λp e=>?_⟩
 exact q _ _ (c.trans (e9.new e)) (RX.back (nZ (S.grow c).dm e d) c)⟩
theorem TN(h:bz X fr es t Fl):PX X fr (.List es pos) (SX t) (o6 Fl):=⟨Uq h.p,by
 intro O b j i H f pv Q S a q;obtain⟨l,h1,a⟩:=d4 a;obtain⟨g,a⟩:=A7 a;cases a;refine h.t O b j i H f l _ S h1 λk m e c=>⟨by rw[c.length];exact qw g,λp d=>?_⟩
 exact q _ _ (e.trans (e9.new d)) (RX.back (dY d c) e)⟩
noncomputable def d6(F:FV)(Fl:DL):DV:=λds=>(Fl ds).bind F
theorem Ox{r:List V->Hp->VK->Prop}{f:FV}(j:eN X.K r f)(h:bz X fr es t Fl):TX X.K fr (xI r t) (d6 f Fl):=by
 intro O a e o H d pv Q S b q;obtain⟨l,h1,b⟩:=d4 b;refine h.t O a e o H d l _ S h1 λk n c g=>?_
 refine j O (P8 fr e) n k l pv Q (S.grow c).dm g b λw p m i=>?_
 exact q w p (c.trans m) (i.back c)
theorem qV{id:String}{x:Str}{p:Pos}{r:List V->Hp->VK->Prop}{f:FV}(l:S7 X (.builtin id) r)(k:eN X.K r f)(g:Gl X x)(h:X.mg x=none)(i:bW x=some (.builtin id))(c:bz X fr (e::es) t Fl)(d:autoParam (x ≠ "__name__") j9)(b:autoParam (bA x) j9)(j:autoParam (aH X e es) e8)(a:autoParam (cT X pos es) e8):PX X fr (.Call (.Name x p) (e::es) [] pos) (xI r t) (d6 f Fl):=⟨yj l g h i c.p d b j a,Ox k c⟩
theorem gn{T:String}{x:Str}{p:Pos}{r:List V->Hp->VK->Prop}{f:FV}(l:S7 X (.type T) r)(k:eN X.K r f)(g:Gl X x)(h:X.mg x=none)(i:bW x=some (.type T))(c:bz X fr (e::es) t Fl)(d:autoParam (x ≠ "__name__") j9)(b:autoParam (bA x) j9)(j:autoParam (aH X e es) e8)(a:autoParam (cT X pos es) e8):PX X fr (.Call (.Name x p) (e::es) [] pos) (xI r t) (d6 f Fl):=⟨vI l g h i c.p d b j a,Ox k c⟩
noncomputable def C7(K:c9)(F:FV):Sp:=λvs H Q _=>∃(O:List Addr) (ds:List b5) (pv:PV),(∀a∈O,∃u,H a=some u)/\n6 K (k6 H [] O) vs ds/\F ds=some pv/\∀v H',e9 H H'->RX K O [] H H' v pv->Q v H'
theorem BH{E:XK}{f:FV}(h:bz X fr es t Fl):TX X.K fr (jO (C7 X.K f) [] E t) (d6 f Fl):=by
 intro O k g M H A pv Q S m q;obtain⟨l,h1,m⟩:=d4 m;refine h.t O k g M H A l _ S h1 λN P p I=>?_
 have D:=(S.grow p).dm (fr:=fr);rw[Q8];have z:∀H,k6 H (P8 fr g) O=k6 H [] (O++(P8 fr g).filterMap id):=λH=>kT (bs:=[])
 refine⟨O++(P8 fr g).filterMap id,l,pv,λa i=>?_,by rw[<-z];exact I,m,λv B C r=>q v B (p.trans C) ?_⟩
 . rcases List.mem_append.mp i with i|i
   . exact D.o a i
   . obtain⟨x,G,e⟩:=List.mem_filterMap.mp i;subst e;exact D.a a G
 . cases pv with
   |dat d =>
    have j:Dt X.K (k6 B [] (O++(P8 fr g).filterMap id)) v d:=r;rw[<-z]at j;exact j
   |own l =>
    obtain⟨a,F,u,y,s,n⟩:=r;refine⟨a,F,u,p.free y,s,?_⟩;rw[show(some a::P8 fr g)=[some a]++P8 fr g from rfl,kT]
    exact n
   |ob w c =>
    obtain⟨o,R,u,y,s,n⟩:=r;refine⟨o,R,u,y,λb L=>p.free (s b L),?_⟩
    rw[kT];rw[Q8]at n;exact n
end
noncomputable def aG(ds:Ds):Ds:=ds.map (Option.map λpv=>.dat pv.d)
theorem kJ{b:Addr}{n:Nat}:some b∉(w9 n none:As):=λz=>by simp_all
theorem RO{H:Hp}{n:Nat}{O:List Addr}:k6 H (w9 n none) O=k6 H [] O:=by
 funext b
 delta k6;simp
section
variable{K:c9}{O:List Addr}{f6 H H':Hp}{as:As}{σ:St}{ds:Ds}{v:V}{pv:PV}{fr:Bool}
theorem Fm.aG{i:Option (Option V)}{k:List Addr}{bs:As}(S:DS K O f6 as σ H ds)(h:Fm K O as H i pv)(e:∀b,some b∈bs->some b∈as)(j:∀b,(match pv with | .own _=>i=some (some (.ref b)) | .ob _ _=>some b∈as|_=>False)->some b∉bs):Z0 K O bs H i k (.dat pv.d):=by
 cases pv with
 |dat d=>obtain⟨v,f,h⟩:=h;exact⟨v,f,h.same (U0 (e9.refl _) e)⟩
 |own l =>
  obtain⟨a,n,f,g,m,h⟩:=h;exact⟨_,f,.lst (F3.of (A9.mpr ⟨S.nO g,j a f,m⟩)) (h.same (U0 (e9.refl _) e))⟩
 |ob w c=>obtain⟨v,R,f,_,g,h⟩:=h;exact⟨_,f,h.dt (U0 (e9.refl _) e) λb e u z=>A9.mpr ⟨S.nO (g b e),j b (g b e),z⟩⟩
theorem DS.aG(S:DS K O f6 as σ H ds):DS K O f6 (w9 ds.length none) σ H (aG ds) where
 ls:=by simp[L2.aG,S.ls]
 same:=S.same
 new:=λa h=>absurd h kJ
 aw:=S.aw
 dH:=⟨λ_=>[],λi b z=>absurd z q5,λi j b z=>absurd z q5,λi pv h=>by
  unfold L2.aG at h;rw[S6]at h;cases hd:ds[i]? with
  |none=>simp_all
  |some x =>
   cases x with
   |none=>simp_all
   |some w =>
    rw[hd]at h;cases h;exact(S.slot i w hd).aG S (λb z=>absurd z kJ) (λa _=>kJ)⟩
noncomputable def NA(i:Nat)(ds:Ds):Ds:=match ds[i]? with
 |some (some (.own l))=>ds.set i (some (.dat (.list l)))
 |_=>ds
end
section
variable{X:Cx}{fr:Bool}{e:Expr}{te:TE}{F:DV}
noncomputable def K2(F:DV):DV:=λds=>F (aG ds)
theorem TR(h:PX X true e te F):PX X false e te (K2 F):=⟨h.p,by
 intro O a g d H i pv Q S f q;refine h.t O a _ d H _ pv Q S.aG f λv c e r=>q v c e ?_
 exact r.less λb z=>by simp[P8]at z⟩
end
noncomputable def VB(K:c9)(O:List Addr)(Hb:Hp)(J:It)(items:List b5):Prop :=
 ∀H',e9 Hb H'->∀i,(i<items.length->J.go i H')/\(items.length<=i->J.stop i H') /\
  ∀x H'',J.Fx i H' x H''->i<items.length->e9 H' H''/\∃d,items[i]? = some d/\∀vb:As,(∀b,some b∈vb->Hb b=none/\∃o,H' b=some o)->(∀b∈O,∃o,Hb b=some o)->Dt K (k6 H'' vb O) x d
noncomputable def Yh(K:c9)(fr:Bool)(wi:TI)(Fi:DL):Prop :=
 ∀(O:List Addr) (f6:Hp) (as:As) (σ:St) (H:Hp) (ds:Ds) (items:List b5) (R:It->Hp->Prop),DS K O f6 as σ H ds->Fi ds=some items->(∀J H1,e9 H H1->VB K O (k6 H1 (P8 fr as) []) J items->R J H1)->wi σ H R
structure sS(X:Cx)(fr:Bool)(tg e:Expr)(wi:TI)(Fi:DL):Prop where
 p:PI X tg e wi
 t:Yh X.K fr wi Fi
noncomputable def cw:b5->Option (List b5)
 | .list l=>some l
 | .tuple l=>some l
 |_=>none
noncomputable def WZ(F:DV):DL:=λds=>(F ds).bind λpv=>cw pv.d
theorem oz{K:c9}{O:List Addr}{c H' a:Hp}{va g:As}{x:V}{d:b5}(h:Dt K (k6 c va O) x d)(e:e9 (k6 c va []) H')(k:e9 H' a)(j:∀b,some b∈g->k6 c va [] b=none/\∃o,H' b=some o):Dt K (k6 a g O) x d :=
 h.same (Y8 λb o m l i=>by
  have f:k6 c va [] b=some o:=A9.mpr ⟨by simp,l,i⟩
  refine⟨m,λz=>?_,k _ _ (e _ _ f)⟩
  simp_all)
theorem sD{a:Hp}{va:As}{O:List Addr}:e9 (k6 a va O) (k6 a va []):=Y8 λb o _ d c=>⟨by simp,d,c⟩
section
variable{X:Cx}{fr:Bool}{tg e a b:Expr}{te:TE}{ta:TA}{F:DV}{Fl:DL}{p pos:Pos}
noncomputable def iG(lo:Int)(n:Nat):List b5:=(aR n).map λk=>.int (lo+(k:Nat))
theorem UY{K:c9}{O:List Addr}{Hb:Hp}{lo:Int}{n:Nat}:VB K O Hb (PB lo n) (iG lo n):=by
 intro g e i;have b:(iG lo n).length=n:=by simp[iG]
 refine⟨λa=>(by rw[b]at a;exact a),λa=>(by rw[b]at a;exact a),λx d y a=>?_⟩
 obtain⟨f,c⟩:=y;subst f;subst c;rw[b]at a;refine⟨e9.refl _,.int (lo+i),?_,λh _ _=>.int _⟩
 simp[iG,List.getElem?_range a]
noncomputable def iH:List b5->Option (List b5)
 | [.int j]=>@ite _ (-(4611686018427387904)<=j/\j<4611686018427387904) (KG _) (some (iG 0 j.toNat)) none
 |_=>none
noncomputable def fu(f:List b5->Option (List b5))(Fl:DL):DL:=λds=>(Fl ds).bind f
set_option tactic.hygienic true in
theorem Ec(i:Gl X "range")(n:X.mg "range" = none)(e:bz X fr [a] ta Fl)(hs:autoParam (u4 [a] X.env=[(false,eval a X.env)]) e8):sS X fr tg (.Call (.Name "range" p) [a] [] pos) (OX ta) (fu iH Fl):=⟨GY i n e.p hs,by
 intro O c k m H f d R S b q;obtain⟨l,h1,b⟩:=d4 b;refine e.t O c k m H f l _ S h1 λv h s u=>?_
 unfold iH at b;split at b
 . rename_i j;split at b
   . rename_i g;cases b;cases u with
     |cons r o =>
      cases r;cases o;exact⟨j,rfl,g.1,g.2,q _ h s UY⟩
   . exact nE b
 . exact nE b⟩
noncomputable def OW(K:c9)(ta:TA):TI:=λσ H R=>ta σ H λvs H1=>∃a b k1 k2,vs=[.ref a,.ref b]/\(∃xs,cL k1 K H1 a xs)/\(∃ys,cL k2 K H1 b ys)/\R (Xn k1 k2 K a b) H1
theorem QX{es:List Expr}{k:Nat}{tp:Pos}(D:Gl X "zip")(F:X.mg "zip" = none)(t:PA X [a,b] ta)(hs:autoParam (u4 [a,b] X.env=[(false,eval a X.env),(false,eval b X.env)]) e8)(i:autoParam (u4 [b] X.env=[(false,eval b X.env)]) e8):
  PI X (.Tuple es k tp) (.Call (.Name "zip" p) [a,b] [] pos) (OW X.K ta):=by
 intro d s m H R I h;refine Call_ (kQ I D F boot_zip (uH (m4 (t pos d s m H _ I h) λz c ⟨L,l,g,O,E⟩=>?_) (by rw[hs,i]) (by rw[i];rfl)))
 obtain⟨x,y,Q,k2,e,⟨S,N⟩,⟨P,C⟩,q⟩:=E;subst e;obtain⟨u,v,e,G,B⟩:=vals2 O;subst e;cases G;cases B;obtain⟨z,A⟩:=g.Q3 N;obtain⟨L,w⟩:=g.Q3 C;refine Jb A w λM Z n=>?_
 refine wpAny_pyIter_zip Z.hz ?_;have r:Inv X d m l {c with heap:=M}:=g.kept n
 refine⟨(hz c)+4,_,_,_,l,rfl,r,Lq (Lh _),Z,λb o=>?_,q⟩
 have j:b=(hz c)+4\/b=(hz c)+2\/b=(hz c)+3\/b=(hz c)\/b=(hz c)+1:=by simpa using o
 have f:(hz c)<=b:=by
  rcases j with e|e|e|e|e<;>rw[e]
  . exact pM _ _
  . exact pM _ _
  . exact pM _ _
  . exact C6 _
  . exact pM _ _
 exact g.oD f (g.i9.fresh f)
theorem e9.Q3{b:Bool}{K:c9}{H H':Hp}{a:Addr}{xs:List V}(e:e9 H H')(h:cL b K H a xs):cL b K H' a xs:=by
 cases b
 . exact e.seq h
 . exact e.du h
theorem Dt.Q3{K:c9}{H:Hp}{v:V}{d:b5}{l:List b5}(h:Dt K H v d)(hd:cw d=some l):∃a e xs,v=.ref a/\cL e K H a xs/\n6 K H xs l:=by
 cases h with
 |lst b c=>cases hd;exact⟨_,false,_,rfl,b,c⟩
 |tup b c=>cases hd;exact⟨_,true,_,rfl,b,c⟩
 |_=>exact nE hd
noncomputable def uK:List b5->Option (List b5)
 | [d,e]=>(cw d).bind λl=>(cw e).bind λm=>some (tF (λx y=>.tuple [x,y]) l m)
 |_=>none
set_option tactic.hygienic true in
theorem QV{es:List Expr}{k:Nat}{tp:Pos}(hg:Gl X "zip")(W:X.mg "zip" = none)(w:bz X fr [a,b] ta Fl)(hs:autoParam (u4 [a,b] X.env=[(false,eval a X.env),(false,eval b X.env)]) e8)(v:autoParam (u4 [b] X.env=[(false,eval b X.env)]) e8):
  sS X fr (.Tuple es k tp) (.Call (.Name "zip" p) [a,b] [] pos) (OW X.K ta) (fu uK Fl):=⟨QX hg W w.p hs v,by
 intro O j as V H D u R S c q;obtain⟨l,h1,c⟩:=d4 c;refine w.t O j as V H D l _ S h1 λvs Q N r1=>?_
 unfold uK at c;split at c
 . rename_i d1 T;obtain⟨l1,hl,c⟩:=d4 c;obtain⟨l2,hl2,c⟩:=d4 c;cases c;cases r1 with
   |cons r s =>
    cases s with
    |cons r' s =>
     cases s;obtain⟨a,k1,m,rfl,A,E⟩:=r.Q3 hl;obtain⟨b,k2,h,rfl,B,C⟩:=r'.Q3 hl2;refine⟨a,b,k1,k2,rfl,⟨m,m7.Q3 A⟩,⟨h,m7.Q3 B⟩,q _ Q N λH' g i=>?_⟩
     have e:=g.Q3 (sD.Q3 A);have f:=g.Q3 (sD.Q3 B);have:=E.length;have:=C.length;rw[JY];refine⟨λF=>⟨m,h,m[i]'X8,h[i]'X8,e,f,U5 _,U5 _⟩,λF=>⟨m,h,e,f,by lia⟩,λx L y F=>?_⟩
     obtain⟨pp,z1,d,x',y',z3,I⟩:=y;obtain⟨z5,G⟩:=I m h e f;subst z1;subst z3;obtain⟨dx,ex,Z⟩:=E.get' z5;obtain⟨P,M,hy⟩:=C.get' G;refine⟨e9.new d,.tuple [dx,P],by rw[List.getElem?_zipWith,ex,M],λvb n Y=>?_⟩
     refine .tup (P0.of (A9.mpr ⟨λz=>?_,λz=>?_,l7⟩)) (.cons (oz Z g (e9.new d) n) (.cons (oz hy g (e9.new d) n) .nil))
     . obtain⟨o,z⟩:=Y _ z;rw[g _ _ z]at d;exact nS d
     . obtain⟨_,o,z⟩:=n _ z;rw[z]at d;exact nS d
 . exact nE c⟩
end
noncomputable def Vw(K:c9)(n:Nat)(g:TG)(gt:b5->Option (List b5)):Prop :=
 ∀(O:List Addr) (va:As) (H:Hp) (v:V) (d:b5) (σ:St) (bs:List b5) (Q:St->Hp->Prop),Dt K (k6 H va O) v d->gt d=some bs->(∀vs,n6 K (k6 H va O) vs bs->vs.length=n->Q (vs.map some++σ) H)->g v (w9 n none++σ) H Q
noncomputable def t5:b5->Option (List b5):=λd=>some [d]
noncomputable def qi(n:Nat):b5->Option (List b5)
 | .tuple l=>if l.length=n then some l else none
 |_=>none
theorem Lx{K:c9}:Vw K 1 (X6 0) t5:=by intro O e H v d c bs Q a b q;cases b;exact q [v] (.cons a .nil) rfl
theorem XF{a:Type}:∀{l:List a},l.length=2->∃x y,l=[x,y]
 | [x,y],_=>⟨x,y,rfl⟩
theorem XE{a:Type}:∀{l:List a},l.length=3->∃x y z,l=[x,y,z]
 | [x,y,z],_=>⟨x,y,z,rfl⟩
set_option tactic.hygienic true in
theorem Lw{K:c9}:Vw K 2 (yU K 2 (qj (X6 0) (qj (X6 1) ER))) (qi 2):=by
 intro O k H v d i bs Q h e q;cases h with
 |tup g c =>
  rename_i a j l;have b:=e;obtain⟨f,b⟩:=A7 b;rw[(V6 b)]at c f;obtain⟨x,y,rfl⟩:=XF (c.length.trans f);exact⟨a,[x,y],rfl,m7.du g,rfl,x,[y],rfl,y,[],rfl,rfl,q [x,y] c rfl⟩
 |_=>exact nE e
noncomputable def br(l:List b5):Ds:=l.map λd=>some (.dat d)
@[simp] theorem dA:br []=[]:=rfl
@[simp] theorem bO(d:b5)(l:List b5):br (d::l)=sd d::br l:=rfl
theorem n6.slots{K:c9}{H:Hp}{vs:List V}{l:List b5}(h:n6 K H vs l){i:Nat}{pv:PV}(e:(br l)[i]? = some (some pv)):∃d v,pv=.dat d/\vs[i]? = some v/\Dt K H v d:=by
 unfold br at e;rw[S6]at e;cases hd:l[i]? with
 |none=>simp_all
 |some d =>
  rw[hd]at e;cases e;obtain⟨x,b,a⟩:=h.get hd;exact⟨d,x,rfl,b,a⟩
theorem ve{H:Hp}{n:Nat}{as:As}{O:List Addr}:k6 H (w9 n none++as) O=k6 H as O:=by
 funext b
 delta k6;simp
set_option tactic.hygienic true in
theorem DS.pre{K:c9}{O:List Addr}{f6 H:Hp}{as:As}{k:St}{ds:Ds}{vs:List V}{l:List b5}(S:DS K O f6 as k H ds)(h:n6 K (k6 H as O) vs l):
  DS K O f6 (w9 l.length none++as) (vs.map some++k) H (br l++ds) where
 ls:=by simp[br,S.ls,h.length]
 same:=S.same
 new:=λa z=>S.new a ((List.mem_append.mp z).elim (λz=>absurd z kJ) id)
 aw:=S.aw
 dH:=by
  obtain⟨m,s,q,p⟩:=S.dH;have n:=h.length;have r:(br l).length=l.length:=by simp[br]
  refine⟨λi=>if i<l.length then[]else m (i-l.length),λi b z=>?_,λi j b f c=>?_,λi pv e=>?_⟩
  . dsimp only at z;split at z
    . simp at z
    . exact D0 _ (s _ b z)
  . dsimp only at f c;split at f
    . simp at f
    . split at c
      . simp at c
      . have:=q _ _ b f c
        lia
  . rw[Kl]at e;split at e
    . rename_i g;obtain⟨d,v,rfl,f,c⟩:=h.slots e;refine⟨v,?_,by rw[ve];exact c⟩
      rw[pR (by simp;simp_all),S6,f]
      rfl
    . rename_i g;rw[r]at g e;dsimp only;rw[e7 g,uG (by simp;simp_all)]
      simp only[m9,n];exact(p _ pv e).xW (by rw[ve];exact e9.refl _) (λb _ o z=>z) λb z=>z
noncomputable def L8(gt:b5->Option (List b5))(Fc:DB)(Fe:DV)(ds:Ds):List b5->Option (List b5)
 | []=>some []
 |x::r=>(gt x).bind λbs=>(Fc (br bs++ds)).bind λb=>if b=true then(Fe (br bs++ds)).bind λy=>(L8 gt Fc Fe ds r).bind λl=>some (y.d::l)else L8 gt Fc Fe ds r
noncomputable def O8(Fi:DL)(gt:b5->Option (List b5))(Fc:DB)(Fe:DV):DV:=λds=>(Fi ds).bind λitems=>if items.length<=1000000 then(L8 gt Fc Fe ds items).bind λl=>some (.own l)else none
structure Fn(X:Cx)(ifs:List Expr)(t:TT)(F:DB):Prop where
 p:Fp X ifs t
 t:nJ X.K t F
noncomputable def w4:DB:=λ_=>some true
theorem GX{X:Cx}:Fn X [] OF w4:=⟨MB,by intro O a d e H f b Q S c q;cases c;exact q H (e9.refl H)⟩
theorem GW{X:Cx}{c:Expr}{t:TT}{F:DB}(h:V2 X c t F):Fn X [c] t F:=⟨MA h.p,h.t⟩
noncomputable def XN:Expr->List Str
 | .Name x _=>[x]
 | .Tuple es _ _=>es.filterMap fun | .Name x _=>some x|_=>none
 |_=>[]
structure Jp(X:Cx)(e:Expr)(te:TE)(F:DV):Prop where
 p:PX X true e te F
 s:∀{i:Nat} {x:Str} {p q:Pos},X.N.Nodup->X.N[i]? = some x->Loc X.env.scope x->N8 e (some (.Name x p)) q.line X.env=pure true->X.fn x=true\/X.env.scope.names.lookup x=some .local->PS X (.Assign [.Name x p] e q) (mh te (X6 i))
theorem Dl.x{X:Cx}{bs nb:List Str}{scope:E8}{tg F:Expr}{Z:List Expr}{elt:Expr}{wi:TI}{g:TG}{tt:TT}{te:TE}{pos:Pos}{D:DV}(M:Dl X bs nb scope tg F Z elt wi g tt te)(t:TX X.K true (pW bs wi g tt te) D):Jp X (.ListComp elt [⟨tg,F,Z,0⟩] scope pos) (pW bs wi g tt te) D:=⟨⟨Rc M,t⟩,λa b c d e=>QP a b c M d e⟩
theorem Qz{X:Cx}{bs nb:List Str}{E Y j:Expr}{A:List Expr}{scope:E8}{pos:Pos}{wi:TI}{g:TG}{tt:TT}{te:TE}{Z:DL}{gt:b5->Option (List b5)}{Fc:DB}{Fe:DV}(hc:X.calm=true)(hk:oR X.N nb X.env.scope scope=true)(hb:XN Y=bs)(T:Vw X.K bs.length g gt)(hi:sS X true Y j wi Z)(go:Fq bs.length g)(hg:∀cl C fp s H pins,PG (kX X bs nb scope cl C fp s H pins) Y g)(ht:∀cl C fp s H pins,Fn (kX X bs nb scope cl C fp s H pins) A tt Fc)(he:∀cl C fp s H pins,PX (kX X bs nb scope cl C fp s H pins) true E te Fe)(hs:autoParam (VC X j) lg):Jp X (.ListComp E [⟨Y,j,A,0⟩] scope pos) (pW bs wi g tt te) (O8 Z gt Fc Fe):=Dl.x ⟨hc,Vo hk,hi.p,go,hg,λ_ _ _ _ _ _=>(ht _ _ _ _ _ _).p,λ_ _ _ _ _ _=>(he _ _ _ _ _ _).p,hs⟩ (by
 intro O h v σ H n pv Q S f q;obtain⟨a,h1,f⟩:=d4 f;obtain⟨hn,f⟩:=A7 f;obtain⟨l,h2,f⟩:=d4 f;cases f;refine hi.t O h v σ H n a _ S h1 λJ H1 N it=>?_
 have S1:=S.grow N;refine⟨a.length,λi ys L=>i<=a.length/\e9 H1 L/\∃F M,n6 X.K (k6 L v O) ys F/\L8 gt Fc Fe n (a.drop i)=some M/\F++M=l,qw hn,⟨fe _,e9.refl _,[],l,.nil,h2,rfl⟩,?_⟩
 rintro i ys L ⟨hi',r,F,M,d1,c,I⟩;have S2:=S1.grow r;obtain⟨R,st',V⟩:=it L (m7.trans r) i;by_cases e:i<a.length
 . refine .inr ⟨R e,e,λx m y=>?_⟩
   obtain⟨D,d,ed,dt⟩:=V x m y e;have dx:=dt v (λb G=>⟨by delta k6;rw[d9 (.inr G)],let ⟨_,z⟩:=(S2.new b G).2;⟨_,z⟩⟩) λb G=>by
    obtain⟨o,z⟩:=S.aw b G;refine⟨o,A9.mpr ⟨by simp,λz2=>?_,S1.same _ _ z⟩⟩
    rw[(S.new b z2).1]at z;exact nE z
   have P:a.drop i=d::a.drop (i+1):=by
    rw[KO e];have:a[i]=d:=by have z:=U5 e;rw[ed]at z;exact(V6 z).symm
    rw[this]
   rw[P]at c;obtain⟨k,h3,c⟩:=d4 c;obtain⟨b,h4,c⟩:=d4 c;refine T O v m x d σ k _ dx h3 λvs dv lv=>?_
   have W:=(S2.grow D).pre dv;refine((ht [] 0 [] X.K5 X.f6 []).t) O h _ _ m _ b _ W h4 λH5 w=>?_
   cases b with
   |false =>
    exact⟨e,(r.trans D).trans w,F,M,d1.same (K1 (D.trans w)),c,I⟩
   |true =>
    obtain⟨yv,h5,c⟩:=d4 c;obtain⟨l3,h6,c⟩:=d4 c;cases c;refine((he [] 0 [] X.K5 X.f6 []).t) O h _ _ H5 _ yv _ (W.grow w) h5 λu H6 e6 r6=>?_
    have d7:Dt X.K (k6 H6 v O) u yv.d:=by have z:Dt X.K (k6 H6 (w9 k.length none++v) O) u yv.d:=(r6.dt (W.grow w).dm);rw[ve]at z;exact z
    exact⟨e,((r.trans D).trans w).trans e6,F++[yv.d],l3,(d1.same (K1 ((D.trans w).trans e6))).append (.cons d7 .nil),h6,by rw[<-I];simp⟩
 . have hi2:i=a.length:=by lia
   subst hi2;rw[Ah]at c;cases c;rw[Q8]at I;subst I;exact .inl ⟨st' F0,λp hp=>q _ _ ((N.trans r).trans (e9.new hp)) (RX.back (dY hp d1) (N.trans r))⟩)
inductive Out where
 |next (ds:Ds)
 |ret (pv:PV)
 |brk (ds:Ds)
 |cont (ds:Ds)
 |up (x:b5)
 |retO (pv:PV) (ds:Ds)
 |upO (th:Bool) (x:b5) (ds:Ds)
noncomputable abbrev DO:=Ds->Option Out
noncomputable def Vt(K:c9)(O:List Addr)(H:Hp)(ea:Addr)(x:b5):Prop:=∃C dx fld v d,x=J4 C fld d/\bw K C/\O0 K (.ref C) fld=some none/\H ea=some (.ext (A3 ea C (some dx)))/\H dx=some (.xd [(fld,v)])/\dx∉O/\Dt K (k6 H [] (ea::O)) v d
noncomputable def jK(X:Cx)(O:List Addr)(f6:Hp)(D:Ends):Out->Prop
 | .next ds=>∀as σ H,DS X.K O f6 as σ H ds->D.nx σ H
 | .brk ds=>∀as σ H,DS X.K O f6 as σ H ds->D.bk σ H
 | .cont ds=>∀as σ H,DS X.K O f6 as σ H ds->D.ct σ H
 | .ret pv=>∀v H,e9 f6 H->RX X.K O [] f6 H v pv->D.rt v H
 | .up x=>∀ea H,e9 f6 H->f6 ea=none->Vt X.K O H ea x->∀pins σ s,Inv X pins σ H s->X.xe (.ref ea) s
 | .retO pv ds=>∀as σ Hm H v,DS X.K O f6 as σ Hm ds->e9 Hm H->RX X.K O as Hm H v pv->D.rt v H
 | .upO false x ds=>∀as σ Hm H ea,DS X.K O f6 as σ Hm ds->e9 Hm H->Hm ea=none->Vt X.K (O++as.filterMap id) H ea x->∀pins σ s,Inv X pins σ H s->X.xe (.ref ea) s
 | .upO true x ds=>∀as σ Hm H ea,DS X.K O f6 as σ Hm ds->e9 Hm H->Dt X.K (k6 H as O) (.ref ea) x->X.ek (.ref ea) none H
noncomputable def Vu(X:Cx)(t:TS)(G:DO):Prop :=
 ∀(O:List Addr) (f6:Hp) (as:As) (σ:St) (H:Hp) (ds:Ds) (D:Ends) (o:Out),DS X.K O f6 as σ H ds->G ds=some o->jK X O f6 D o->t D σ H
structure B8(X:Cx)(st:Stmt)(t:TS)(G:DO):Prop where
 p:PS X st t
 t:Vu X t G
structure aO(X:Cx)(st:List Stmt)(t:TS)(G:DO):Prop where
 p:eO X st t
 t:Vu X t G
noncomputable def j7:DO:=λds=>some (.next ds)
noncomputable def d5(G1 G2:DO):DO:=λds=>(G1 ds).bind λo=>match o with
 | .next ds'=>G2 ds'
 |o=>some o
section
variable{X:Cx}{st:Stmt}{rest sa sb:List Stmt}{t u:TS}{G G1 G2:DO}{fr:Bool}{e c:Expr}{te:TE}{tt:TT}{F:DV}{Ft:DB}{pos:Pos}
theorem Mt:aO X [] DE j7:=⟨BZ,by intro O a c b H e D o S d q;cases d;exact q c b H S⟩
theorem Ms(h:B8 X st t G):aO X [st] t G:=⟨qb h.p,h.t⟩
set_option tactic.hygienic true in
theorem GS(g:B8 X st t G1)(h:aO X rest u G2):aO X (st::rest) (SU t u) (d5 G1 G2):=⟨mx g.p h.p,by
 intro O c k j H i D o S a q;obtain⟨f,e1,a⟩:=d4 a;refine g.t O c k j H i {D with nx:=u D} f S e1 ?_
 cases f with
 |next b=>exact λd e l m=>h.t O c d e l b D o m a q
 |ret pv=>cases a;exact q
 |brk b=>cases a;exact q
 |cont b=>cases a;exact q
 |up x=>cases a;exact q
 |retO pv b=>cases a;exact q
 |upO t x b=>cases a;cases t<;>exact q⟩
noncomputable def Pd(i:Nat)(G:DO):DO:=λds=>G (NA i ds)
theorem DS.set{K:c9}{O:List Addr}{f6 H:Hp}{as:As}{c:St}{ds:Ds}{v:V}{d:b5}(S:DS K O f6 as c H ds)(i:Nat)(h:Dt K (k6 H as O) v d):DS K O f6 as (c.set i (some v)) H (ds.set i (sd d)):=by
 obtain⟨f,l,e,k⟩:=S.dH;refine⟨by simp[S.ls],S.same,S.new,S.aw,f,l,e,λj pv a=>?_⟩
 by_cases b:i=j
 . subst b;rw[ud]at a;rw[d9 rfl]at a;obtain⟨g,a⟩:=A7 a;cases a;exact⟨v,by rw[lS (by rw[S.ls];exact g)],h⟩
 . rw[aU b]at a;rw[aU b];exact k j pv a
theorem jT{H c:Hp}{as:As}{O R:List Addr}(h:e9 H c)(f:∀b∈R,H b=none):e9 (k6 H as O) (k6 c (R.map some++as) O):=Y8 λb o i g a=>⟨i,λz=>by
 rcases List.mem_append.mp z with z|z
 . obtain⟨j,e,d⟩:=mem_map.mp z;cases d;rw[f b e]at a;exact nE a
 . exact g z,h _ _ a⟩
set_option tactic.hygienic true in
theorem DS.store{K:c9}{O:List Addr}{f6 H f:Hp}{as:As}{B:St}{ds:Ds}{v:V}{pv:PV}(S:DS K O f6 as B H ds)(t:e9 H f)(i:Nat)(r:RX K O as H f v pv):∃n,DS K O f6 n (B.set i (some v)) f (ds.set i (some pv)):=by
 have D:=S.grow t;have Z:∀R:List Addr,(∀b∈R,H b=none)->(∀b∈R,∃u:Cl,f b=some u.1)->DS K O f6 (R.map some++as) B f ds/\∀b∈R,f6 b=none/\some b∉as/\∃u:Cl,f b=some u.1:=λR p G=>by
  have X:∀b∈R,some b∉as:=λb e z=>by obtain⟨_,o,z⟩:=S.new b z;rw[p b e]at z;exact nE z
  have q:∀b∈R,f6 b=none/\some b∉as/\∃u:Cl,f b=some u.1:=λb e=>⟨S.same.free (p b e),X b e,G b e⟩
  obtain⟨F,y,M,I⟩:=S.dH;refine⟨⟨S.ls,D.same,λb e=>?_,S.aw,F,λi b z=>D0 _ (y i b z),M,λj pv g=>(I j pv g).xW (jT t p) (λb _ o z=>t _ _ z) λb z=>z⟩,q⟩
  rcases List.mem_append.mp e with z|z
  . obtain⟨b',A,E⟩:=mem_map.mp z;cases E;exact⟨(q b A).1,(q b A).2.2⟩
  . exact D.new b z
 have N:∀R:List Addr,(∀b∈R,H b=none)->(∀b∈R,∃u:Cl,f b=some u.1)->Z0 K O (R.map some++as) f (some (some v)) R pv->∃n,DS K O f6 n (B.set i (some v)) f (ds.set i (some pv)):=λR p G Y=>by
  obtain⟨T,q⟩:=Z R p G;obtain⟨F,y,M,I⟩:=S.dH;refine⟨_,by simp[S.ls],D.same,T.new,S.aw,λj=>if j=i then R else F j,λj b e=>?_,λj k b x s=>?_,λj pv g=>?_⟩
  . dsimp only at e;split at e
    . exact ao _ (mem_map.mpr ⟨b,e,rfl⟩)
    . exact D0 _ (y j b e)
  . dsimp only at x s;split at x
    . split at s
      . rename_i A E;rw[A,E]
      . exact absurd (y k b s) (q b x).2.1
    . split at s
      . exact absurd (y j b x) (q b s).2.1
      . exact M j k b x s
  . by_cases m:i=j
    . subst m;rw[ud]at g;rw[d9 rfl]at g;obtain⟨Q,g⟩:=A7 g;cases g;dsimp only;rw[d9 rfl,lS (by rw[S.ls];exact Q)]
      exact Y
    . rw[aU m]at g;dsimp only;rw[e7 (λz=>m z.symm),aU m]
      exact(I j pv g).xW (jT t p) (λb _ o z=>t _ _ z) λb z=>z
 cases pv with
 |dat d=>exact⟨_,D.set i r⟩
 |ob w c =>
  obtain⟨o,R,rfl,L,C,h⟩:=r;exact N R C h.at ⟨o,R,rfl,L,λb z=>z,h⟩
 |own l =>
  obtain⟨a,P,rfl,L,C,h⟩:=r;refine N [a] (λb e=>?_) (λb e=>?_) ⟨a,P,rfl,o2,C,h⟩
  . rw[mem_singleton.mp e];exact L
  . rw[mem_singleton.mp e];exact⟨Cl.l P,C⟩
noncomputable def Q5(i:Nat)(F:DV):DO:=λds=>(F ds).bind λpv=>some (.next (ds.set i (some pv)))
noncomputable def f7(i:Nat)(F:DV):DO:=λds=>(F ds).bind λpv=>some (.next (ds.set i (some (.dat pv.d))))
theorem QI{i:Nat}{x:Str}{a:Pos}(r:X.N.Nodup)(l:X.N[i]? = some x)(k:Loc X.env.scope x)(d:PX X true e te F)(hs:autoParam (N8 e (some (.Name x a)) pos.line X.env=pure false) e8)(n:autoParam (lT X x) W9):
  B8 X (.Assign [.Name x a] e pos) (mh te (X6 i)) (Q5 i F):=⟨sf r l k d.p hs n,by
 intro O b j g H f D o S h q;obtain⟨pv,e1,h⟩:=d4 h;cases h;refine d.t O b j g H f pv _ S e1 λv w m s=>?_
 obtain⟨c,u⟩:=S.store m i s;exact q c _ _ u⟩
theorem Mm{i:Nat}{x:Str}{a:Pos}(n:X.N.Nodup)(k:X.N[i]? = some x)(j:Loc X.env.scope x)(c:PX X true e te F)(hs:autoParam (N8 e (some (.Name x a)) pos.line X.env=pure false) e8)(m:autoParam (lT X x) W9):
  B8 X (.Assign [.Name x a] e pos) (mh te (X6 i)) (f7 i F):=⟨sf n k j c.p hs m,by
 intro O b g f H d D o S h q;obtain⟨pv,e1,h⟩:=d4 h;cases h;refine c.t O b g f H d pv _ S e1 λv s l r=>?_
 exact q _ _ _ ((S.grow l).set i (r.dt S.dm))⟩
noncomputable def Vb(i j:Nat)(Fl:DL):DO:=λds=>(Fl ds).bind λl=>match l with
 | [a,b]=>some (.next ((ds.set i (some (.dat a))).set j (some (.dat b))))
 |_=>none
noncomputable def k8(F:DV):DO:=λds=>(F ds).bind λpv=>some (.ret pv)
theorem BY(c:PX X fr e te F):B8 X (.Return (some e) pos) (nR te) (k8 F):=⟨kL c.p,by
 intro O a g f H d D o S h q;obtain⟨pv,e1,h⟩:=d4 h;cases h;refine c.t O a g f H d pv _ S e1 λv k i j=>?_
 exact q v k (S.same.trans i) ((j.back S.same).less λb z=>by simp at z)⟩
noncomputable def Y9(i:Nat):DO:=λds=>match ds[i]? with
 |some (some pv)=>some (.ret pv)
 |_=>none
set_option tactic.hygienic true in
theorem Mo(i:Nat)(h:PE X e (D4 i)):B8 X (.Return (some e) pos) (nR (D4 i)) (Y9 i):=⟨kL h,by
 intro O j B A H E D o S h q;unfold Y9 at h;split at h
 . rename_i pv n;cases h;have g:=S.slot i pv n;cases pv with
   |dat d =>
    obtain⟨v,f,h⟩:=g;exact⟨v,f,q v H S.same (Dt.same (U0 (e9.refl _) λb z=>by simp at z) h)⟩
   |own l =>
    obtain⟨a,u,f,k,s,h⟩:=g;refine⟨_,f,q _ H S.same ⟨a,u,rfl,(S.new a k).1,s,h.same (U0 (e9.refl _) λb z=>?_)⟩⟩
    simp_all
   |ob w c =>
    obtain⟨o,R,f,y,m,h⟩:=g;refine⟨_,f,q _ H S.same ⟨o,R,rfl,y,λb t=>(S.new b (m b t)).1,h.same (U0 (e9.refl _) λb z=>?_) (λ_ _ _ z=>z)⟩⟩
    rw[Q8]at z;obtain⟨C,r,p⟩:=mem_map.mp z;cases p;exact m b r
 . exact nE h⟩
noncomputable def Pb:DO:=λ_=>some (.ret (.dat .none))
noncomputable def r9(Ft:DB)(G1 G2:DO):DO:=λds=>(Ft ds).bind λb=>if b=true then G1 ds else G2 ds
theorem Ub(g:V2 X c tt Ft)(k:aO X sa t G1)(i:aO X sb u G2):B8 X (.If c sa sb pos) (Ly tt t u) (r9 Ft G1 G2):=⟨OQ g.p k.p i.p,by
 intro O a f e H d D o S h q;obtain⟨b,e1,h⟩:=d4 h;refine g.t O a f e H d b _ S e1 λl j=>?_
 cases b with
 |true=>exact k.t O a f e l d D o (S.grow j) h q
 |false=>exact i.t O a f e l d D o (S.grow j) h q⟩
noncomputable def Pc:DO:=λds=>some (.next ds)
noncomputable def II:DO:=λds=>some (.brk ds)
noncomputable def Pf:DO:=λds=>some (.cont ds)
noncomputable def aY:DO:=λ_=>none
theorem vG:B8 X st rT aY:=⟨Mv,by exact λO a c b H d D o S h q=>nE h⟩
noncomputable def Pe(F:DV):DO:=λds=>(F ds).bind λ_=>some (.next ds)
end
theorem DS.wY{K:c9}{O:List Addr}{f6 H:Hp}{as:As}{f:St}{ds:Ds}{pv e:PV}{u:Cl}{i:Nat}{a:Addr}{c:Nat->List Addr}(S:DS K O f6 as f H ds)(hd:ds[i]? = some (some pv))(m:∀i b,b∈c i->some b∈as)(n:∀i j b,b∈c i->b∈c j->i=j)(s:∀(i:Nat) (pv:PV),ds[i]? = some (some pv)->Z0 K O as H f[i]? (c i) pv)(l:a∈c i)(r:e9 (k6 H as O) (k6 (upd H a u.1) as O)->Z0 K O as (upd H a u.1) f[i]? (c i) e):DS K O f6 as f (upd H a u.1) (ds.set i (some e)):=by
 have sm:e9 (k6 H as O) (k6 (upd H a u.1) as O):=Y8 λb o t p v=>⟨t,p,by rw[i8 (λz=>p (by rw[z];exact m i a l))];exact v⟩
 have q:=(List.getElem?_eq_some_iff.mp hd).1;refine⟨by simp[S.ls],λb o h=>?_,λb g=>⟨(S.new b g).1,?_⟩,S.aw,c,m,n,λj pv k=>?_⟩
 . rw[i8 (λz=>?_)]
   . exact S.same _ _ h
   . rw[z,(S.new a (m i a l)).1]at h;exact nE h
 . by_cases z:b=a
   . exact⟨u,by rw[z];exact l7⟩
   . obtain⟨_,o,h⟩:=S.new b g;exact⟨o,by rw[i8 z];exact h⟩
 . by_cases d:i=j
   . subst d;rw[lS q]at k;cases k;exact r sm
   . rw[aU d]at k;refine(s j pv k).xW sm (λb g o z=>?_) λb z=>z
     rw[i8 (λw=>d (n i j a l (by rw[<-w];exact g)))]
     exact z
theorem DS.turn{K:c9}{O:List Addr}{f6 H:Hp}{as:As}{c:St}{ds:Ds}{l h:List b5}{b:List V}{i:Nat}{a:Addr}(S:DS K O f6 as c H ds)(hd:ds[i]? = some (some (.own l)))(f:c[i]? = some (some (.ref a)))(k:n6 K (k6 H as O) b h):
  DS K O f6 as c (upd H a (.lst b)) (ds.set i (some (.own h))):=by obtain⟨n,m,j,g⟩:=S.dH;obtain⟨r,p,e,d,o,q⟩:=g i _ hd;rw[f]at e;cases e;exact S.wY (u:=Cl.l b) hd m j g d λsm=>⟨a,b,f,d,l7,k.same sm⟩
noncomputable def cP(i:Nat)(F:DV):DO:=λds=>(F ds).bind λpv=>match ds[i]? with
 |some (some (.own l))=>if l.length<1000000 then some (.next (ds.set i (some (.own (l++[pv.d])))))else none
 |_=>none
section
variable{X:Cx}{e o:Expr}{te:TE}{F:DV}{pos cpos apos:Pos}
set_option tactic.hygienic true in
theorem QM(i:Nat)(C:PE X o (D4 i))(w:PX X true e te F)(bm:autoParam (Le X o "append" apos e [] cpos) sR)(hs:autoParam (N8 (.Call (.Attribute o "append" apos) [e] [] cpos) none pos.line X.env=pure false) e8):
  B8 X (.Expr (.Call (.Attribute o "append" apos) [e] [] cpos) pos) (pV (Ga X.K "list" BV (D4 i) (hZ te qR))) (cP i F) :=
 ⟨dI (Ed uB PySem.F.slot_list_append PySem.F.type_list_append HM C (T9 w.p ee bm.s) bm) hs,by
 intro O g u n H z D o S h q;obtain⟨pv,e1,h⟩:=d4 h;split at h
 . rename_i l m;obtain⟨G,h⟩:=A7 h;cases h;obtain⟨a,A,r,E,s,y⟩:=S.slot i _ m;refine⟨_,r,.inl ⟨rfl,A,F3.of s⟩,?_⟩;refine w.t O g u n H z pv _ S e1 λv I k B=>?_
   have:=y.length;refine⟨a,A,v,rfl,rfl,k _ _ s,A1 kz (qw F0),q u n _ ?_⟩;exact(S.grow k).turn m r ((y.same (K1 k)).append (.cons (B.dt S.dm) .nil))
 . exact nE h⟩
end
theorem DS.rebase{K:c9}{O:List Addr}{f6 H:Hp}{as:As}{b:St}{ds:Ds}(S:DS K O f6 as b H ds):DS K O (k6 H as []) as b H ds where
 ls:=S.ls
 same:=m7
 new:=λa h=>⟨by delta k6;rw[d9 (.inr h)],(S.new a h).2⟩
 aw:=λa h=>by
  obtain⟨o,z⟩:=S.aw a h;refine⟨o,A9.mpr ⟨by simp,λq=>?_,S.same _ _ z⟩⟩
  rw[(S.new a q).1]at z;exact nE z
 dH:=S.dH
theorem DS.gj{K:c9}{O:List Addr}{f6 Hb H:Hp}{as:As}{b:St}{ds:Ds}(S:DS K O Hb as b H ds)(e:e9 f6 Hb)(hd:∀a∈O,∃o,f6 a=some o):DS K O f6 as b H ds :=
 ⟨S.ls,e.trans S.same,λa h=>⟨e.free (S.new a h).1,(S.new a h).2⟩,hd,S.dH⟩
theorem DS.SQ{K:c9}{O:List Addr}{f6 H:Hp}{as:As}{a:St}{ds:Ds}(S:DS K O f6 as a H ds):e9 f6 (k6 H as []):=λb o h=>by
 refine A9.mpr ⟨by simp,λq=>?_,S.same _ _ h⟩
 rw[(S.new b q).1]at h;exact nE h
set_option tactic.hygienic true in
theorem jK.gj{X:Cx}{O:List Addr}{f6 Hb:Hp}{D:Ends}{o:Out}(h:jK X O f6 D o)(e:e9 f6 Hb)(hd:∀a∈O,∃u,f6 a=some u):jK X O Hb D o:=by
 cases o with
 |next d=>exact λc b H S=>h c b H (S.gj e hd)
 |brk d=>exact λc b H S=>h c b H (S.gj e hd)
 |cont d=>exact λc b H S=>h c b H (S.gj e hd)
 |ret pv=>exact λv H s r=>h v H (e.trans s) (r.back e)
 |up x=>exact λf H s n u=>h f H (e.trans s) (e.free n) u
 |retO pv d=>exact λc b g H v S s r=>h c b g H v (S.gj e hd) s r
 |upO t x d=>cases t with
  |false=>exact λc b g H v S s n u=>h c b g H v (S.gj e hd) s n u
  |true=>exact λc b g H v S s u=>h c b g H v (S.gj e hd) s u
noncomputable def Vv(K:c9)(g:TG)(gt:b5->DD):Prop :=
 ∀(O:List Addr) (f6:Hp) (as:As) (σ:St) (H:Hp) (ds ds':Ds) (v:V) (d:b5) (Q:St->Hp->Prop),DS K O f6 as σ H ds->Dt K (k6 H as O) v d->gt d ds=some ds'->(∀as' σ',DS K O f6 as' σ' H ds'->Q σ' H)->g v σ H Q
noncomputable def C3(i:Nat):b5->DD:=λd ds=>some (ds.set i (some (.dat d)))
theorem Lu{K:c9}{i:Nat}:Vv K (X6 i) (C3 i):=by intro O a f c H g b v d Q S h e q;cases e;exact q _ _ (S.set i h)
noncomputable def Fj(K:c9)(g:lj)(gt:List b5->DD):Prop :=
 ∀(O:List Addr) (f6:Hp) (as:As) (σ:St) (H:Hp) (ds ds':Ds) (vs:List V) (l:List b5) (Q:St->Hp->Prop),DS K O f6 as σ H ds->n6 K (k6 H as O) vs l->gt l ds=some ds'->(∀as' σ',DS K O f6 as' σ' H ds'->Q σ' H)->g vs σ H Q
noncomputable def mn:List b5->DD
 | [],ds=>some ds
 |_,_=>none
noncomputable def aK(i:Nat)(r:List b5->DD):List b5->DD
 |d::l,ds=>r l (ds.set i (some (.dat d)))
 | [],_=>none
noncomputable def mm(n:Nat)(r:List b5->DD):b5->DD
 | .tuple l,ds=>if l.length=n then r l ds else none
 |_,_=>none
theorem Lv{K:c9}:Fj K ER mn:=by
 intro O a d c H f b g l Q S h e q;cases h with
 |nil=>cases e;exact⟨rfl,q _ _ S⟩
 |cons _ _=>exact nE e
theorem FQ{K:c9}{i:Nat}{g:lj}{r:List b5->DD}(c:Fj K g r):Fj K (qj (X6 i) g) (aK i r):=by
 intro O a f d H j b k l Q S h e q;cases h with
 |nil=>exact nE e
 |cons h t =>
  exact⟨_,_,rfl,c O a _ _ H _ b _ _ Q (S.set i h) t e q⟩
set_option tactic.hygienic true in
theorem Qf{K:c9}{n:Nat}{g:lj}{r:List b5->DD}(t:Fj K g r):Vv K (yU K n g) (mm n r):=by
 intro O b p m H k ds' v d Q S h e q;cases h with
 |tup s i =>
  rename_i a j l;have f:=e;obtain⟨o,f⟩:=A7 f;exact⟨a,j,rfl,m7.du s,by rw[i.length];exact o,t O b p m H k ds' j l Q S i f q⟩
 |_=>exact nE e
noncomputable def M3(gt:b5->DD)(G:DO):List b5->DO
 | [],ds=>some (.next ds)
 |x::r,ds=>(gt x ds).bind λds1=>(G ds1).bind λo=>match o with
  | .next ds2=>M3 gt G r ds2
  | .cont ds2=>M3 gt G r ds2
  | .brk ds2=>some (.next ds2)
  | .ret pv=>some (.ret pv)
  | .up x=>some (.up x)
  | .retO pv ds2=>some (.retO pv ds2)
  | .upO t x ds2=>some (.upO t x ds2)
noncomputable def bq(Fi:DL)(gt:b5->DD)(G:DO):DO:=λds=>(Fi ds).bind λitems=>M3 gt G items ds
section
variable{X:Cx}{tg iter c:Expr}{body:List Stmt}{wi:TI}{g:TG}{tb:TS}{tt:TT}{pos:Pos}{Fi:DL}{gt:b5->DD}{G:DO}{Fc:DB}
set_option tactic.hygienic true in
theorem QK(hp:sW (model X.prog X.w) X.A X.env X.xe)(hc:X.calm=true)(Z:Vv X.K g gt)(hi:sS X true tg iter wi Fi)(hg:PG X tg g)(C:aO X body tb G)(hs:autoParam (VC X iter) lg):B8 X (.For tg iter body [] pos) (SY wi g tb) (bq Fi gt G):=⟨Uc hp hc hi.p hg C.p hs,by
 intro O M N σ H W D o S h q;obtain⟨a,e1,h⟩:=d4 h;refine hi.t O M N σ H W a _ S e1 λJ H1 s1 it=>?_
 have S1:=S.grow s1;have L:=q.gj S1.SQ S.aw;refine⟨λi m l n=>i<=a.length/\m=a.length-i/\∃r k,DS X.K O (k6 H1 N []) r l n k/\M3 gt G (a.drop i) k=some o,⟨_,fe _,rfl,N,W,S1.rebase,h⟩,?_⟩
 rintro i m I H2 ⟨hi',em,s,E,B,c⟩;obtain⟨R,st',V⟩:=it H2 B.same i;by_cases e:i<a.length
 . have ed':=KO e;rw[ed']at c;obtain⟨v,e3,c⟩:=d4 c;obtain⟨o4,e4,c⟩:=d4 c;refine .inr ⟨R e,λl n=>∃r k,DS X.K O (k6 H1 N []) r l n k/\M3 gt G (a.drop (i+1)) k=some o,λl n z=>⟨a.length-(i+1),by lia,e,rfl,z⟩,λx n y=>?_⟩
   obtain⟨e5,d,ed,dt⟩:=V x n y e;have Q:a[i]=d:=by rw[U5 e]at ed;exact V6 ed
   rw[Q]at e3;refine Z O _ s I n E v x d _ (B.grow e5) (dt s (λb C=>⟨(B.new b C).1,let ⟨_,z⟩:=(B.new b C).2;⟨_,z⟩⟩) B.aw) e3 λY σ4 S4=>?_
   refine C.t O _ Y σ4 n v _ o4 S4 e4 ?_;cases o4 with
   |next j=>exact λf u P F=>⟨f,j,F,c⟩
   |cont j=>exact λf u P F=>⟨f,j,F,c⟩
   |brk j=>cases c;assumption
   |ret pv=>cases c;exact L
   |up x=>cases c;exact L
   |retO pv j=>cases c;exact L
   |upO t x j=>cases c;cases t<;>exact L
 . have T:i=a.length:=by lia
   subst T;rw[Ah]at c;cases c;exact .inl ⟨st' F0,L s I H2 B⟩⟩
noncomputable def G3(Fc:DB)(G:DO):Nat->DO
 | 0,_=>none
 |n+1,ds=>(Fc ds).bind λb=>if b=true then(G ds).bind λo=>match o with
   | .next ds2=>G3 Fc G n ds2
   | .cont ds2=>G3 Fc G n ds2
   | .brk ds2=>some (.next ds2)
   | .ret pv=>some (.ret pv)
   | .up x=>some (.up x)
   | .retO pv ds2=>some (.retO pv ds2)
   | .upO t x ds2=>some (.upO t x ds2)
  else some (.next ds)
noncomputable def gq(μ:Ds->Nat)(Fc:DB)(G:DO):DO:=λds=>G3 Fc G (μ ds) ds
set_option tactic.hygienic true in
theorem GJ(μ:Ds->Nat)(P:sW (model X.prog X.w) X.A X.env X.xe)(C:V2 X c tt Fc)(y:aO X body tb G):B8 X (.While c body [] pos) (FR tt tb) (gq μ Fc G):=⟨Mu P C.p y.p,by
 intro O d M Q H N D o S h q;refine⟨λm i r=>∃k f,DS X.K O d k i r f/\G3 Fc G m f=some o,⟨_,M,N,S,h⟩,?_⟩
 rintro m j I ⟨l,g,s,a⟩;cases m with
 |zero=>exact nE a
 |succ m =>
  obtain⟨b,e1,a⟩:=d4 a;refine C.t O d l j I g b _ s e1 λF E=>?_
  cases b with
  |false =>
   cases a;exact q l j F (s.grow E)
  |true =>
   obtain⟨B,e4,a⟩:=d4 a;refine⟨λi r=>∃k f,DS X.K O d k i r f/\G3 Fc G m f=some o,λi r z=>⟨m,ua _,z⟩,?_⟩
   refine y.t O d l j F g _ B (s.grow E) e4 ?_;cases B with
   |next e=>exact λn u L v=>⟨n,e,v,a⟩
   |cont e=>exact λn u L v=>⟨n,e,v,a⟩
   |brk e=>cases a;exact q
   |ret pv=>cases a;exact q
   |up x=>cases a;exact q
   |retO pv e=>cases a;exact q
   |upO t x e=>cases a;cases t<;>exact q⟩
end
noncomputable def Ee:Out->Option PV
 | .ret pv=>some pv
 | .next _=>some (.dat .none)
 |_=>none
noncomputable def D6(n N:Nat)(G:DO):FV:=λl=>if l.length=n then(G (br l++w9 (N-n) none)).bind Ee else none
section
variable{P:j3}{w:i7}{K:c9}{mg:Str->Option b8}{base:Heap}
theorem DS.start{O:List Addr}{H:Hp}{vs:List V}{l:List b5}{N:List Str}(c:∀a∈O,∃u,H a=some u)(h:n6 K (k6 H [] O) vs l):DS K O H (w9 (br l++w9 (N.length-l.length) none).length none) (start N vs) H (br l++w9 (N.length-l.length) none):=by
 have d:DS K O H (w9 (N.length-l.length) none) (w9 (N.length-l.length) none) H (w9 (N.length-l.length) none) :=
  ⟨by simp,e9.refl H,λa z=>absurd z kJ,c,λ_=>[],λi b z=>absurd z q5,λi j b z=>absurd z q5,λi pv z=>by have:=pN z;simp[JP]at this⟩
 have e:(w9 (br l++w9 (N.length-l.length) none).length none:As)=w9 l.length none++w9 (N.length-l.length) none:=by
  congr 1
  simp[br]
 rw[e];delta L2.start;rw[h.length];exact(d.pre (by rw[RO];exact h))
set_option tactic.hygienic true in
theorem fw.XX {x b:Str} {i:Stmt} {f:Addr} {fd:l9} {N g:List Str} {k:Nat} {G:DO} (F:fw K x b i f fd) (S:R5 N g (k9 i)) (R:g.length<=N.length) (d:∀(c:b8) (A:j6) (outer:List Env) (s:c8) (H:Hp) (E:XK),N4 k (A.deeper (K7 b (k9 i) (hz s) f c)) ->
   ∃t,aO (V4 s9 P w K mg base N b (k9 i) f c A outer s H E).sv (K6 i) t G):P5 P w K mg base s9 (k+1) f fd g (C7 K (D6 g.length N.length G)):=by
 have D:∀j H Q E,C7 K (D6 g.length N.length G) j H Q E->j.length=g.length:=λj H Q E h=>by obtain⟨O,n,pv,z,u,a,q⟩:=h;obtain⟨l,a⟩:=A7 a;rw[u.length];exact l
 refine F.ok S D λc A outer s H j Q E B h=>?_
 obtain⟨O,n,pv,z,u,a,q⟩:=h;obtain⟨t,y⟩:=d c A outer s H E B;refine⟨t,y.p,?_⟩;obtain⟨l,a⟩:=A7 a;rw[<-l]at a;obtain⟨o,e1,a⟩:=d4 a;refine y.t O H _ (L2.start N j) H _ _ o (DS.start z u) e1 ?_;cases o with
 |next e=>cases a;exact λM L m I=>q _ m I.same Dt.non
 |ret C=>cases a;assumption
 |brk e=>exact nE a
 |cont e=>exact nE a
 |up x=>exact nE a
 |retO pv e=>exact nE a
 |upO t x e=>exact nE a
end
noncomputable instance {m:Nat} {i:Int}:Decidable (Bt m i):=decidable_of_iff (i.natAbs<2 ^ m) ⟨λh=>⟨h⟩,λh=>h.lt⟩
noncomputable instance {i j:Int}:Decidable (rO i j):=by delta rO;infer_instance
noncomputable def CF(g:Int->Int->b5):b5->b5->Option PV
 | .int i,.int j=>some (.dat (g i j))
 |_,_=>none
noncomputable def rC(C:Int->Int->Prop)[∀i j,Decidable (C i j)](g:Int->Int->b5):b5->b5->Option PV
 | .int i,.int j=>if C i j then some (.dat (g i j))else none
 |_,_=>none
section
variable{K:c9}
theorem og{g:Int->Int->V}{g':Int->Int->b5}(b:∀i j H,Dt K H (g i j) (g' i j)):O5 K (iJ g) (CF g'):=by
 intro O h H x y d e pv Q D c f a q;cases c with
 |int i =>
  cases f with
  |int j =>
   cases a;exact⟨i,j,rfl,rfl,q _ H (e9.refl H) (b i j _)⟩
  |_=>exact nE a
 |_=>exact nE a
theorem se{C c:Int->Int->Prop}[∀i j,Decidable (C i j)]{g:Int->Int->V}{g':Int->Int->b5}(k:∀i j,C i j->c i j)(f:∀i j H,Dt K H (g i j) (g' i j)):O5 K (rI c g) (rC C g'):=by
 intro O n H x y d e pv Q D h l b q;cases h with
 |int i =>
  cases l with
  |int j =>
   have a:=b;obtain⟨m,a⟩:=A7 a;cases a;exact⟨i,j,rfl,rfl,k i j m,q _ H (e9.refl H) (f i j _)⟩
  |_=>exact nE b
 |_=>exact nE b
noncomputable def iB:=CF λi j=>.int (i-j)
noncomputable def O7:=rC (λi j=>Bt 60000 i/\Bt 60000 j) λi j=>.int (i*j)
noncomputable def cA:=rC (λ_ j=>j≠0/\Bt 8000 j) λi j=>.int (i.fdiv j)
noncomputable def A4:=rC (λ_ j=>j≠0) λi j=>.int (i.fmod j)
noncomputable def Ea:=rC rO λi j=>.int (i ^ j.toNat)
noncomputable def iR:=CF λi j=>.bool (decide (i<j))
noncomputable def vT:=CF λi j=>.bool (decide (i<=j))
noncomputable def hJ:=CF λi j=>.bool (decide (j<i))
noncomputable def CJ:=CF λi j=>.bool (decide (j<=i))
theorem VD:O5 K (iJ λi j=>.int (i-j)) iB:=og λi j H=>.int _
theorem VI:O5 K (rI (λi j=>Bt 60000 i/\Bt 60000 j) λi j=>.int (i*j)) O7:=se (λ_ _ h=>h) λi j H=>.int _
theorem SA:O5 K (rI (λ_ j=>j≠0/\Bt 8000 j) λi j=>.int (i.fdiv j)) cA:=se (λ_ _ h=>h) λi j H=>.int _
theorem VJ:O5 K (rI (λ_ j=>j≠0) λi j=>.int (i.fmod j)) A4:=se (λ_ _ h=>h) λi j H=>.int _
theorem VG:O5 K (rI rO λi j=>.int (i ^ j.toNat)) Ea:=se (λ_ _ h=>h) λi j H=>.int _
theorem Lm:O5 K (iJ λi j=>.bl (decide (i<j))) iR:=og λi j H=>.bl _
theorem Ln:O5 K (iJ λi j=>.bl (decide (i<=j))) vT:=og λi j H=>.bl _
theorem Sy:O5 K (iJ λi j=>.bl (decide (j<i))) hJ:=og λi j H=>.bl _
theorem Sz:O5 K (iJ λi j=>.bl (decide (j<=i))) CJ:=og λi j H=>.bl _
noncomputable def kq:b5->Option PV
 | .int i=>some (.dat (.int (-i)))
 |_=>none
theorem VH:Vz K (rU λi=>.int (-i)) kq:=by
 intro O c H x d pv Q D b a q;cases b with
 |int i=>cases a;exact⟨i,rfl,q _ H (e9.refl H) (Dt.int _)⟩
 |_=>exact nE a
noncomputable def o3:b5->b5->Option PV
 | .str i,.str j=>some (.dat (.bool (decide (i=j))))
 |d,e=>if U3 d=true/\U3 e=true then some (.dat (.bool (aP d e)))else none
noncomputable def Q4:b5->b5->Option PV
 | .str i,.str j=>some (.dat (.bool (!decide (i=j))))
 |d,e=>if U3 d=true/\U3 e=true then some (.dat (.bool (!PyData.eqv d e)))else none
noncomputable def uP(K:c9):R2:=λx y H Q=>WX x y H Q\/∃d e,Dt K H x d/\Dt K H y e/\U3 d=true/\U3 e=true/\Q (.bl (aP d e)) H
noncomputable def ye(K:c9):R2:=λx y H Q=>WV x y H Q\/∃d e,Dt K H x d/\Dt K H y e/\U3 d=true/\U3 e=true/\Q (.bl (!PyData.eqv d e)) H
theorem sj{X:Cx}(a:X.A.units+64<D3):F4 X (C9 .Eq) (uP X.K):=Wu.or (UC a)
theorem yn{X:Cx}(a:X.A.units+64<D3):F4 X (C9 .NotEq) (ye X.K):=Wt.or (UA a)
set_option tactic.hygienic true in
theorem Dq:O5 K (uP K) o3:=by
 intro O g H x y d e pv Q D b f a q;unfold o3 at a;split at a
 . cases a;cases b;cases f;rename_i i j;exact .inl ⟨rfl,q _ H (e9.refl H) (by rw[show decide (V.str i=V.str j)=decide (i=j) by simp];exact Dt.bl _)⟩
 . obtain⟨c,a⟩:=A7 a;cases a;exact .inr ⟨d,e,b.same m7,f.same m7,c.1,c.2,q _ H (e9.refl H) (Dt.bl _)⟩
set_option tactic.hygienic true in
theorem Ll:O5 K (ye K) Q4:=by
 intro O g H x y d e pv Q D b f a q;unfold Q4 at a;split at a
 . cases a;cases b;cases f;rename_i i j;exact .inl ⟨rfl,q _ H (e9.refl H) (by rw[show decide (V.str i=V.str j)=decide (i=j) by simp];exact Dt.bl _)⟩
 . obtain⟨c,a⟩:=A7 a;cases a;exact .inr ⟨d,e,b.same m7,f.same m7,c.1,c.2,q _ H (e9.refl H) (Dt.bl _)⟩
noncomputable def A6:b5->Bool
 | .none=>true
 |_=>false
theorem Dt.Cp{H:Hp}{x:V}{d:b5}(h:Dt K H x d):decide (x=.non)=A6 d:=by cases h<;>rfl
noncomputable def aF:b5->b5->Option PV
 |d,.none=>some (.dat (.bool (A6 d)))
 |_,_=>none
noncomputable def oB:b5->b5->Option PV
 |d,.none=>some (.dat (.bool (!A6 d)))
 |_,_=>none
theorem Sv:O5 K (λx y H Q=>y=.non/\Q (.bl (decide (x=.non))) H) aF:=by
 intro O f H x y d e pv Q D b c a q;cases c with
 |non=>cases a;exact⟨rfl,q _ H (e9.refl H) (by rw[b.Cp];exact Dt.bl _)⟩
 |_=>exact nE a
theorem BD:O5 K (λx y H Q=>y=.non/\Q (.bl (!decide (x=.non))) H) oB:=by
 intro O f H x y d e pv Q D b c a q;cases c with
 |non=>cases a;exact⟨rfl,q _ H (e9.refl H) (by rw[b.Cp];exact Dt.bl _)⟩
 |_=>exact nE a
noncomputable def j5(d:b5):b5->Option PV
 | .int i=>match d with
  | .list l=>(O4 l i).bind λd=>some (.dat d)
  | .tuple l=>(O4 l i).bind λd=>some (.dat d)
  | .str z=>if z.length<=1000000 then(O4 z.cps.toList i).bind λc=>some (.dat (.str ⟨#[c]⟩))else none
  |_=>none
 |_=>none
theorem n6.O4{H:Hp}{xs:List V}{l:List b5}{i:Int}{d:b5}(h:n6 K H xs l)(e:L2.O4 l i=some d):∃x,L2.O4 xs i=some x/\Dt K H x d:=by
 unfold L2.O4 at e ⊢;rw[h.length];cases hi:CA l.length i with
 |none=>simp_all
 |some j =>
  rw[hi]at e;exact h.get e
theorem Xs:O5 K (TB K) j5:=by
 intro O r H x y d e pv Q D p m f q;cases m with
 |int i=>cases p with
  |lst j n =>
   obtain⟨d,a,b⟩:=d4 f;cases b;obtain⟨v,h,k⟩:=n.O4 a;exact .inl ⟨_,_,i,v,rfl,rfl,m7.seq j,h,q v H (e9.refl H) k⟩
  |tup j n =>
   obtain⟨d,a,b⟩:=d4 f;cases b;obtain⟨v,h,k⟩:=n.O4 a;exact .inr (.inl ⟨_,_,i,v,rfl,rfl,m7.du j,h,q v H (e9.refl H) k⟩)
  |str z =>
   obtain⟨o,b⟩:=A7 f;obtain⟨c,a,b⟩:=d4 b;cases b;exact .inr (.inr ⟨z,i,c,rfl,rfl,qw o,a,q _ H (e9.refl H) (Dt.str _)⟩)
  |_=>exact nE f
 |_=>exact nE f
end
noncomputable def OO(K:c9):R2:=λx y H Q=>∃a b xs ys,x=.ref a/\y=.ref b/\P0 K H a xs/\P0 K H b ys/\xs.length+ys.length<=j8 /\
 (xs=[]->Q (.ref b) H)/\(xs≠[]->ys=[]->Q (.ref a) H)/\(xs≠[]->ys≠[]->∀p,H p=none->Q (.ref p) (upd H p (.tup (xs++ys))))
noncomputable def OP(K:c9):R2:=λx y H Q=>∃a b xs ys,x=.ref a/\y=.ref b/\F3 K H a xs/\F3 K H b ys/\xs.length+ys.length<=j8/\∀p,H p=none->Q (.ref p) (upd H p (.lst (xs++ys)))
section
variable{X:Cx}
theorem Rm:F4 X (X0 .Add) (OO X.K):=by
 intro c s q H x y v u Q I f l h;obtain⟨a,b,g,w,rfl,rfl,i,j,t,n,q2,B⟩:=h;by_cases d:g=[]
 . subst d;cases f;cases l;obtain⟨A,o,z,_⟩:=I.tuple i;obtain⟨k,C,r,_⟩:=I.tuple j;exact Sj z r (o.qc.mpr rfl) ⟨.ref b,H,I,rfl,n rfl⟩
 . exact Rn c s q H (.ref a) (.ref b) v u Q I f l ⟨a,b,g,w,rfl,rfl,i,j,d,t,λe=>q2 d e,λe p m=>B d e p m⟩
theorem Ro:F4 X (X0 .Add) (OP X.K):=by
 intro w s V H x y v u Q I A P h;obtain⟨l,b,R,Y,rfl,rfl,G,B,W,q⟩:=h;cases A;cases P;obtain⟨c,r,L,S⟩:=I.list G;obtain⟨a,m,E,T⟩:=I.list B;obtain⟨⟨N,M,o,C⟩,t,D,n,O⟩:=L.isList;obtain⟨⟨p,f,g,i⟩,d,k,z,j⟩:=E.isList;subst D O k j;have e:c.toArray++a.toArray=(c++a).toArray:=by simp
 have:=r.length;have:=m.length;refine tH ⟨_,t,rfl⟩ ⟨_,d,rfl⟩ noFill_list_add seq_list_add PySem.F.slot_list_add PySem.F.entry_list_add (PySem.F.args_list_add_2 _ _) (list_addW l b c.toArray a.toArray n z M f C i (by simp;simp_all)) ⟨t,d,?_⟩
 rw[e];exact⟨.ref _,_,I.XD (r.append m) (by rw[A0];subst_vars;assumption),rfl,q _ I.fresh⟩
noncomputable def DU(K:c9):R2:=λx y H Q=>(iJ λi j=>.int (i+j)) x y H Q\/(∃i j,x=.str i/\y=.str j/\i.length+j.length<=j8/\Q (.str (i++j)) H)\/OO K x y H Q\/OP K x y H Q
theorem Rp:F4 X (X0 .Add) (DU X.K):=UD.or (Ei.or (Rm.or Ro))
end
noncomputable def i6:b5->b5->Option PV
 | .int i,.int j=>some (.dat (.int (i+j)))
 | .str i,.str j=>if i.length+j.length<=1000000 then some (.dat (.str (i++j)))else none
 | .tuple l,.tuple m=>if l.length+m.length<=1000000 then some (.dat (.tuple (l++m)))else none
 | .list l,.list m=>if l.length+m.length<=1000000 then some (.own (l++m))else none
 |_,_=>none
set_option tactic.hygienic true in
theorem VP{K:c9}:O5 K (DU K) i6:=by
 intro O A H x y d e pv Q D w r g q;cases w with
 |int i =>
  cases r with
  |int j=>cases g;exact .inl ⟨i,j,rfl,rfl,q _ H (e9.refl H) (Dt.int _)⟩
  |_=>exact nE g
 |str i =>
  cases r with
  |str j =>
   have c:=g;obtain⟨o,c⟩:=A7 c;cases c;exact .inr (.inl ⟨i,j,rfl,rfl,qw o,q _ H (e9.refl H) (Dt.str _)⟩)
  |_=>exact nE g
 |tup s k =>
  cases r with
  |tup h f =>
   rename_i a t l b u m;have c:=g;obtain⟨o,c⟩:=A7 c;cases c;refine .inr (.inr (.inl ⟨a,b,t,u,rfl,rfl,m7.du s,m7.du h,by rw[k.length,f.length];exact qw o,λe=>?_,λz v=>?_,λz v p n=>?_⟩))
   . subst e;cases k;exact q _ H (e9.refl H) (Dt.tup h f)
   . subst v;cases f;rw[Q8]at q;exact q _ H (e9.refl H) (Dt.tup s k)
   . exact q _ _ (e9.new n) (nZ D n (k.append f))
  |_=>exact nE g
 |lst s k =>
  cases r with
  |lst h f =>
   rename_i a t l b u m;have c:=g;obtain⟨o,c⟩:=A7 c;cases c;exact .inr (.inr (.inr ⟨a,b,t,u,rfl,rfl,m7.seq s,m7.seq h,by rw[k.length,f.length];exact qw o,λp n=>q _ _ (e9.new n) (dY n (k.append f))⟩))
  |_=>exact nE g
 |_=>exact nE g
noncomputable def cutD{α:Type}(xs:List α)(lo hi:Option Int):List α:=(xs.drop (HT.C4 xs.length 0 lo)).take (HT.C4 xs.length xs.length hi-HT.C4 xs.length 0 lo)
theorem n6.cut{K:c9}{H:Hp}{xs:List V}{l:List b5}(h:n6 K H xs l)(lo a:Option Int):n6 K H (mW xs lo a) (cutD l lo a):=by delta mW cutD;rw[h.length];exact(h.drop _).take _
noncomputable def Tq(K:c9):V->Option Int->Option Int->Hp->VK->Prop:=λx lo hi H Q=>∃a xs,x=.ref a/\P0 K H a xs/\(mW xs lo hi=xs->Q (.ref a) H)/\∀p,H p=none->Q (.ref p) (upd H p (.tup (mW xs lo hi)))
section
variable{X:Cx}
theorem Qk:nK X (Tq X.K):=by
 intro d s u H x v p q o j w Q I g m k l h;obtain⟨a,b,rfl,i,t,q2⟩:=h;by_cases e:HT.C4 b.length 0 o=0/\HT.C4 b.length b.length j=b.length
 . cases g;obtain⟨f,r,n,y⟩:=I.tuple i;have c:f.toArray.size=b.length:=by rw[O1];exact r.length.symm
   refine⟨"tuple",_,PyProof.Rows.slot_tuple_getitem.lookup,n.typeIs,?_⟩;refine wR n m k l (by rw[c];exact e) ⟨.ref a,H,I,rfl,t ?_⟩
   delta mW;simp_all
 . exact Te d s u H (.ref a) v p q o j w Q I g m k l ⟨a,b,rfl,i,e,q2⟩
end
noncomputable def Tu(K:c9):V->Option Int->Option Int->Hp->VK->Prop:=λx lo hi H Q=>Tq K x lo hi H Q\/Tt K x lo hi H Q
theorem Th{X:Cx}:nK X (Tu X.K):=Qk.or Ql
noncomputable def OJ:b5->Option Int->Option Int->Option PV
 | .tuple l,lo,hi=>some (.dat (.tuple (cutD l lo hi)))
 | .list l,lo,hi=>some (.own (cutD l lo hi))
 |_,_,_=>none
noncomputable def Vy(K:c9)(r:V->Option Int->Option Int->Hp->VK->Prop)(f:b5->Option Int->Option Int->Option PV):Prop :=
 ∀(O:List Addr) (va:As) (H:Hp) (x:V) (lo hi:Option Int) (d:b5) (pv:PV) (Q:VK),jM H va O->Dt K (k6 H va O) x d->f d lo hi=some pv->(∀v H',e9 H H'->RX K O va H H' v pv->Q v H')->r x lo hi H Q
theorem Xr{K:c9}:Vy K (Tu K) OJ:=by
 intro O k H x h f d pv Q D j g q;cases j with
 |tup b c =>
  cases g;refine .inl ⟨_,_,rfl,m7.du b,λe=>?_,λp a=>q _ _ (e9.new a) (nZ D a (c.cut h f))⟩
  have i:=c.cut h f;rw[e]at i;exact q _ H (e9.refl H) (Dt.tup b i)
 |lst b c =>
  cases g;exact .inr ⟨_,_,rfl,m7.seq b,λp a=>q _ _ (e9.new a) (dY a (c.cut h f))⟩
 |_=>exact nE g
noncomputable def Yg(K:c9)(to:TO)(F:Ds->Option (Option Int)):Prop :=
 ∀(O:List Addr) (f6:Hp) (as:As) (σ:St) (H:Hp) (ds:Ds) (b:Option Int) (Q:Option Int->Hp->Prop),DS K O f6 as σ H ds->F ds=some b->(∀H',e9 H H'->Q b H')->to σ H Q
structure zB(X:Cx)(e:Option Expr)(to:TO)(F:Ds->Option (Option Int)):Prop where
 p:PO X e to
 t:Yg X.K to F
noncomputable def M5:Ds->Option (Option Int):=λ_=>some none
noncomputable def Xi:b5->Option Int
 | .int i=>some i
 |_=>none
noncomputable def C5(F:DV):Ds->Option (Option Int):=λds=>(F ds).bind λpv=>(Xi pv.d).bind λi=>some (some i)
section
variable{X:Cx}{fr:Bool}{e:Expr}{te:TE}{F:DV}{p2 pos:Pos}
theorem Mx:zB X none BJ M5:=⟨QU,by intro O a e f H d b Q S c q;cases c;exact q H (e9.refl H)⟩
theorem Mw(h:PX X fr e te F):zB X (some e) (OB te) (C5 F):=⟨QT h.p,by
 intro O c k l H f b Q S a q;obtain⟨pv,h1,a⟩:=d4 a;refine h.t O c k l H f pv _ S h1 λv g m j=>?_
 have d:=j.dt S.dm;generalize pv.d=z at d a;cases d with
 |int i=>cases a;exact⟨i,rfl,q g m⟩
 |_=>exact nE a⟩
noncomputable def ae(f:b5->Option Int->Option Int->Option PV)(F:DV)(Fl Fh:Ds->Option (Option Int)):DV:=λds=>(F ds).bind λx=>(Fl ds).bind λlo=>(Fh ds).bind λhi=>f x.d lo hi
theorem Ma{r:V->Option Int->Option Int->Hp->VK->Prop}{f:b5->Option Int->Option Int->Option PV}{lo A:Option Expr}{z u:TO}{n o:Ds->Option (Option Int)}(N:nK X r)(C:Vy X.K r f)(s:PX X fr e te F)(y:zB X lo z n)(B:zB X A u o):
  PX X fr (.Subscript e (.Slice lo A none p2) pos) (WT r te z u) (ae f F n o):=⟨MF N s.p y.p B.p,by
 intro O a k m H c pv Q S b q;unfold ae at b;cases h1:F c with
 |none=>simp_all
 |some x =>
  cases h2:n c with
  |none=>rw[h1,h2]at b;exact nE b
  |some l =>
   cases h3:o c with
   |none=>rw[h1,h2,h3]at b;exact nE b
   |some h =>
    rw[h1,h2,h3]at b;refine s.t O a k m H c x _ S h1 λv L g D=>?_
    refine y.t O a k m L c l _ (S.grow g) h2 λM i=>?_
    refine B.t O a k m M c h _ ((S.grow g).grow i) h3 λG j=>?_
    refine C O (P8 fr k) G v l h x.d pv Q (((S.grow g).grow i).grow j).dm ((D.grow (i.trans j)).dt S.dm) b λw P E I=>?_
    exact q w P (((g.trans i).trans j).trans E) (I.back ((g.trans i).trans j))⟩
end
section
variable{X:Cx}
noncomputable def d1(f:b5->Option PV):FV
 | [d]=>f d
 |_=>none
theorem eN.one{K:c9}{r:List V->Hp->VK->Prop}{f:b5->Option PV}(h:Vz K (λx=>r [x]) f):eN K r (d1 f):=by
 intro O c H g i pv Q D b a q;cases b with
 |nil=>exact nE a
 |cons e t =>
  cases t with
  |nil=>exact h O c H _ _ pv Q D e a q
  |cons _ _=>exact nE a
noncomputable def LZ(K:c9):List V->Hp->VK->Prop:=λxs H Q=>(∃p ys,xs=[.ref p]/\(F3 K H p ys\/P0 K H p ys)/\Q (.int ys.length) H)\/(∃z,xs=[.str z]/\z.length<=j8/\Q (.int z.length) H)
theorem Jc:S7 X (.builtin "len") (LZ X.K):=zt.or zr
noncomputable def O2:FV:=d1 fun
 | .list l=>some (.dat (.int (l.length:Nat)))
 | .tuple l=>some (.dat (.int (l.length:Nat)))
 | .str z=>if z.length<=1000000 then some (.dat (.int (z.length:Nat)))else none
 |_=>none
theorem n6.inv1{K:c9}{H:Hp}{xs:List V}{d:b5}(h:n6 K H xs [d]):∃x,xs=[x]/\Dt K H x d:=by
 cases h with
 |cons h t=>cases t;exact⟨_,rfl,h⟩
theorem VL{K:c9}:eN K (LZ K) O2:=.one λO g H x i pv Q D b a q=>by
 cases b with
 |lst c d=>cases a;exact .inl ⟨_,_,rfl,.inl (m7.seq c),q _ H (e9.refl H) (by rw[d.length];exact Dt.int _)⟩
 |tup c d=>cases a;exact .inl ⟨_,_,rfl,.inr (m7.du c),q _ H (e9.refl H) (by rw[d.length];exact Dt.int _)⟩
 |str =>
  obtain⟨e,a⟩:=A7 a;cases a;exact .inr ⟨_,rfl,qw e,q _ H (e9.refl H) (Dt.int _)⟩
 |_=>exact nE a
noncomputable def rL:FV:=d1 fun
 | .int i=>some (.dat (.int (if i<0 then -i else i)))
 |_=>none
theorem VQ{K:c9}:eN K (λxs H Q=>∃i,xs=[.int i]/\Q (.int (if i<0 then -i else i)) H) rL:=.one λO c H x d pv Q D b a q=>by
 cases b with
 |int=>cases a;exact⟨_,rfl,q _ H (e9.refl H) (Dt.int _)⟩
 |_=>exact nE a
noncomputable def cM:FV:=d1 fun
 | .list l=>some (.dat (.tuple l))
 | .tuple l=>some (.dat (.tuple l))
 |_=>none
theorem PL{K:c9}:eN K (λxs H Q=>∃p ys,xs=[.ref p]/\((F3 K H p ys/\∀l,H l=none->Q (.ref l) (upd H l (.tup ys)))\/(P0 K H p ys/\Q (.ref p) H))) cM:=.one λO f H x g pv Q D d a q=>by
 cases d with
 |lst b c=>cases a;exact⟨_,_,rfl,.inl ⟨m7.seq b,λp e=>q _ _ (e9.new e) (nZ D e c)⟩⟩
 |tup b c=>cases a;exact⟨_,_,rfl,.inr ⟨m7.du b,q _ H (e9.refl H) (Dt.tup b c)⟩⟩
 |_=>exact nE a
noncomputable def cy:FV:=d1 fun
 | .list l=>some (.own l)
 | .tuple l=>some (.own l)
 |_=>none
theorem Fz{K:c9}:eN K (λxs H Q=>∃p ys,xs=[.ref p]/\(F3 K H p ys\/P0 K H p ys)/\∀l,H l=none->Q (.ref l) (upd H l (.lst ys))) cy:=.one λO f H x g pv Q D e b q=>by
 cases e with
 |lst c d=>cases b;exact⟨_,_,rfl,.inl (m7.seq c),λp a=>q _ _ (e9.new a) (dY a d)⟩
 |tup c d=>cases b;exact⟨_,_,rfl,.inr (m7.du c),λp a=>q _ _ (e9.new a) (dY a d)⟩
 |_=>exact nE b
noncomputable def intD:FV
 | [.int i]=>some (.dat (.int i))
 | [.bool k]=>some (.dat (.int (if k then 1 else 0)))
 |_=>none
theorem VM{K:c9}:eN K (λxs H Q=>(∃i,xs=[.int i]/\Q (.int i) H)\/∃k,xs=[.bl k]/\Q (.int (if k then 1 else 0)) H) intD:=by
 intro O c H xs d pv Q D b a q;unfold intD at a;split at a
 . cases a;obtain⟨x,rfl,h⟩:=b.inv1;cases h;exact .inl ⟨_,rfl,q _ H (e9.refl H) (Dt.int _)⟩
 . cases a;obtain⟨x,rfl,h⟩:=b.inv1;cases h;exact .inr ⟨_,rfl,q _ H (e9.refl H) (Dt.int _)⟩
 . exact nE a
noncomputable def fx:FV
 | [.int i]=>if i.natAbs.log2<1920 then some (.dat (.str (bV i)))else none
 |_=>none
set_option tactic.hygienic true in
theorem Ou{K:c9}:eN K (λxs H Q=>∃i,xs=[.int i]/\i.natAbs.log2<1920/\Q (.str (bV i)) H) fx:=by
 intro O d H xs e pv Q D c a q;unfold fx at a;split at a
 . split at a
   . rename_i b;cases a;obtain⟨x,rfl,h⟩:=c.inv1;cases h;exact⟨_,rfl,b,q _ H (e9.refl H) (Dt.str _)⟩
   . exact nE a
 . exact nE a
noncomputable def boolsOf:List b5->Option (List Bool)
 | []=>some []
 | .bool b::r=>(boolsOf r).bind λl=>some (b::l)
 |_=>none
noncomputable def vo:FV
 | [.list l]=>(boolsOf l).bind λbs=>some (.dat (.bool (bs.all id)))
 |_=>none
theorem n6.bools{K:c9}{H:Hp}:∀{l:List b5} {xs:List V} {bs:List Bool},n6 K H xs l->boolsOf l=some bs->xs=bs.map V.bl
 | [],_,_,h,e=>by cases e;cases h;rfl
 |d::r,xs,bs,h,e=>by
  cases h with
  |cons h t =>
   cases h with
   |bl b =>
    have a:=e;obtain⟨l,h1,a⟩:=d4 a;cases a;rw[t.bools h1];rfl
   |_=>exact nE e
set_option tactic.hygienic true in
theorem VO{K:c9}{A:j6}(c:A.handled=none):eN K (λxs H Q=>∃(p:Addr) (bs:List Bool),xs=[.ref p]/\F3 K H p (bs.map V.bl)/\A.handled=none/\Q (.bl (bs.all id)) H) vo:=by
 intro O g H xs i pv Q D b a q;unfold vo at a;split at a
 . rename_i l;obtain⟨bs,h1,a⟩:=d4 a;cases a;obtain⟨x,rfl,h⟩:=b.inv1;cases h with
   |lst d f =>
    have e:=f.bools h1;subst e;exact⟨_,bs,rfl,m7.seq d,c,q _ H (e9.refl H) (Dt.bl _)⟩
 . exact nE a
noncomputable def ij(n:String)(F:DV):DV:=λds=>(F ds).bind λx=>if xh x.d=true then none else some (.dat (.bool (yJ x.d n)))
noncomputable def Wb(K:c9):List V->Hp->VK->Prop:=λxs H Q=>∃x n d,xs=[x,.ty n]/\Dt K H x d/\xh d=false/\rD n/\Q (.bl (yJ d n)) H
set_option tactic.hygienic true in
theorem Mf{K':c9}(kk:X.K=K'){fr:Bool}{e c:Expr}{te:TE}{F:DV}{x:Str}{p pos:Pos}{n:String}(A:rD n)(m:Gl X x)(C:X.mg x=none)(B:bW x=some (.builtin "isinstance"))(h:PX X fr e te F)(u:PE X c (tC (.ty n)))(D:autoParam (x ≠ "__name__") j9)(i:autoParam (bA x) j9)(f:autoParam (aH X e [c]) e8)(j:autoParam (aH X c []) e8)(g:autoParam (cT X pos [c]) e8):
  PX X fr (.Call (.Name x p) [e,c] [] pos) (xI (Wb K') (hZ te (hZ (tC (.ty n)) qR))) (ij n F):=by
 subst kk;exact⟨yj NV m C B (T9 h.p (T9 u ee j) f) D i f g,by
  intro O b z r H l pv Q S a q;obtain⟨w,h1,a⟩:=d4 a;split at a
  . exact nE a
  . rename_i k;cases a;refine h.t O b z r H l w _ S h1 λv y s o=>?_
    exact⟨v,n,w.d,rfl,(o.dt S.dm).same m7,by simpa using k,A,q _ y s (Dt.bl _)⟩⟩
end
noncomputable abbrev Wa(K:c9):List V->Hp->VK->Prop:=λxs H Q=>∃p ys,xs=[.ref p]/\((F3 K H p ys/\∀l,H l=none->Q (.ref l) (upd H l (.tup ys)))\/(P0 K H p ys/\Q (.ref p) H))
noncomputable abbrev GA(K:c9):List V->Hp->VK->Prop:=λxs H Q=>∃p ys,xs=[.ref p]/\(F3 K H p ys\/P0 K H p ys)/\∀l,H l=none->Q (.ref l) (upd H l (.lst ys))
noncomputable def DT(K:c9):List V->Hp->VK->Prop:=λxs H Q=>∃(p:Addr) (bs:List Bool),xs=[.ref p]/\F3 K H p (bs.map V.bl)/\Q (.bl (bs.all id)) H
theorem Jg{X:Cx}(d:X.A.handled=none):S7 X (.builtin "all") (DT X.K):=λa s f H b c Q I r h=>by obtain⟨p,bs,e,g,q⟩:=h;exact NW a s f H b c Q I r ⟨p,bs,e,g,d,q⟩
theorem SE{K:c9}:eN K (DT K) vo:=by intro O d H b f pv Q D a c q;obtain⟨p,bs,e,g,_,z⟩:=VO (A:=gx) rfl O d H b f pv Q D a c q;exact⟨p,bs,e,g,z⟩
noncomputable def mG(i:Nat)(ds:Ds):Nat:=match ds[i]? with
 |some (some (.dat (.int k)))=>k.natAbs+1
 |_=>0
theorem Qj{K:c9}{H:Hp}{a:Addr}{xs:List V}(h:F3 K H a xs):F3 K (k6 H [] []) a xs:=by assumption
theorem NI{K:c9}{H:Hp}:∀ns:List Int,n6 K H (ns.map V.int) (ns.map gB):=by
 intro l_;induction l_ with
 |nil =>
  exact .nil
 |cons n r ih_ =>
  exact .cons (.int n) (ih_)
theorem Sa{K:c9}{H H':Hp}{v:V}(r:RX K [] [] H H' v (.dat (.bool true))):v=.bl true:=by cases r;rfl
noncomputable def Q3(o:Option Out)(G:DO):Option Out:=o.bind λo=>match o with
 | .next ds'=>G ds'
 |o=>some o
theorem CK(a G2:DO)(ds:Ds):d5 a G2 ds=Q3 (a ds) G2:=rfl
theorem jP(ds:Ds)(G:DO):Q3 (some (.next ds)) G=G ds:=rfl
theorem xU(pv:PV)(G:DO):Q3 (some (.ret pv)) G=some (.ret pv):=rfl
theorem xV(ds:Ds)(G:DO):Q3 (some (.brk ds)) G=some (.brk ds):=rfl
theorem vC(ds:Ds)(G:DO):Q3 (some (.cont ds)) G=some (.cont ds):=rfl
theorem zw(b:Bool):zx (.bool b)=some b:=rfl
theorem Dg(i:Int):Xi (.int i)=some i:=rfl
theorem rZ(l:List b5):cw (.list l)=some l:=rfl
theorem vB(l:List b5):cw (.tuple l)=some l:=rfl
theorem yk(pv:PV):Ee (.ret pv)=some pv:=rfl
theorem vJ(ds:Ds):Ee (.next ds)=sd .none:=rfl
noncomputable def Nj(o:Option PV)(i:Nat)(ds:Ds):Option Out:=o.bind λpv=>some (.next (ds.set i (some (.dat pv.d))))
theorem yV(i:Nat)(F:DV)(ds:Ds):f7 i F ds=Nj (F ds) i ds:=rfl
theorem vR(pv:PV)(i:Nat)(ds:Ds):Nj (some pv) i ds=some (.next (ds.set i (sd pv.d))):=rfl
noncomputable def UN(o:Option PV)(i:Nat)(ds:Ds):Option Out:=o.bind λpv=>some (.next (ds.set i (some pv)))
theorem vg(i:Nat)(F:DV)(ds:Ds):Q5 i F ds=UN (F ds) i ds:=rfl
theorem vQ(pv:PV)(i:Nat)(ds:Ds):UN (some pv) i ds=some (.next (ds.set i (some pv))):=rfl
noncomputable def Od(o:Option PV)(i:Nat)(ds:Ds):Option Out:=o.bind λpv=>match ds[i]? with
 |some (some (.own l))=>if l.length<1000000 then some (.next (ds.set i (some (.own (l++[pv.d])))))else none
 |_=>none
theorem kU(i:Nat)(F:DV)(ds:Ds):cP i F ds=Od (F ds) i ds:=rfl
theorem W0{i:Nat}{ds:Ds}{l:List b5}(pv:PV)(h:ds[i]? = some (some (.own l)))(a:l.length<1000000):Od (some pv) i ds=some (.next (ds.set i (some (.own (l++[pv.d]))))):=by
 delta Od
 simp_all
noncomputable abbrev iD(n:Int):Option PV:=some (.dat (.int n))
theorem xq{a:Type}(x:a)(l:List a):O4 (x::l) 0=some x:=by delta O4 CA;rw[d9 v7,d9 q5];rfl
theorem cE{b:Type}{l:List b}{i:Int}{n:Nat}(a:i=(n:Int))(h:n<l.length):O4 l i=l[n]?:=by subst a;delta O4 CA;rw[d9 kz,d9 kz];simp
theorem Pu{a:Type}(x y:a)(l:List a):O4 (x::y::l) 1=some y:=cE rfl q5
theorem Pt{a:Type}(x y z:a)(l:List a):O4 (x::y::z::l) 2=some z:=cE rfl q5
theorem Pr{a:Type}(x y z u:a)(l:List a):O4 (x::y::z::u::l) 3=some u:=cE rfl q5
theorem Pq{a:Type}(x y z u v:a)(l:List a):O4 (x::y::z::u::v::l) 4=some v:=cE rfl q5
theorem Pp{a:Type}(x y z u v w:a)(l:List a):O4 (x::y::z::u::v::w::l) 5=some w:=cE rfl q5
theorem Po{b:Type}(x y z u v w a:b)(l:List b):O4 (x::y::z::u::v::w::a::l) 6=some a:=cE rfl q5
theorem Vr{a:Type}{l:List a}{i:Int}(b:0<=i)(h:i<l.length):O4 l i=some (l[i.toNat]'X8):=by rw[cE ((Int.toNat_of_nonneg M8).symm) X8];exact U5 _
theorem zy(i j:Int):i6 (.int i) (.int j)=sd (.int (i+j)):=rfl
theorem xJ(i j:Int):iB (.int i) (.int j)=sd (.int (i-j)):=rfl
theorem N3{i j:Int}(h:Bt 60000 i)(k:Bt 60000 j):O7 (.int i) (.int j)=sd (.int (i*j)):=by
 delta O7 rC
 simp_all
theorem V9{i j:Int}(h:j≠0)(k:Bt 8000 j):cA (.int i) (.int j)=sd (.int (i.fdiv j)):=by
 delta cA rC
 simp_all
theorem k7{i j:Int}(h:j≠0):A4 (.int i) (.int j)=sd (.int (i.fmod j)):=d9 h
theorem My{i j:Int}(h:rO i j):Ea (.int i) (.int j)=sd (.int (i ^ j.toNat)):=d9 h
theorem Cu(i j:Int):iR (.int i) (.int j)=sd (.bool (decide (i<j))):=rfl
theorem Cw(i j:Int):vT (.int i) (.int j)=sd (.bool (decide (i<=j))):=rfl
theorem CH(i j:Int):hJ (.int i) (.int j)=sd (.bool (decide (j<i))):=rfl
theorem CI(i j:Int):CJ (.int i) (.int j)=sd (.bool (decide (j<=i))):=rfl
theorem RZ(i j:Str):aP (.str i) (.str j)=decide (i=j):=by rfl
theorem zg(i j:Int):o3 (.int i) (.int j)=sd (.bool (decide (i=j))):=by rfl
theorem yB(i j:Int):Q4 (.int i) (.int j)=sd (.bool (!decide (i=j))):=by rfl
theorem zf(i j:Str):o3 (.str i) (.str j)=sd (.bool (decide (i=j))):=by rfl
theorem yA(i j:Str):Q4 (.str i) (.str j)=sd (.bool (!decide (i=j))):=by rfl
theorem CB(l:List b5)(i:Int):j5 (.tuple l) (.int i)=(O4 l i).bind λd=>sd d:=rfl
theorem mL(l:List b5)(i:Int):j5 (.list l) (.int i)=(O4 l i).bind λd=>sd d:=rfl
theorem zz(i:Int):rL [.int i]=sd (.int (if i<0 then -i else i)):=rfl
theorem ro(i:Int):kq (.int i)=sd (.int (-i)):=rfl
theorem vS(l:List b5):O2 [.list l]=sd (.int (l.length:Nat)):=rfl
theorem yH(l:List b5):O2 [.tuple l]=sd (.int (l.length:Nat)):=rfl
theorem vy(l:List b5):cM [.list l]=sd (.tuple l):=rfl
theorem xE(l:List b5):cM [.tuple l]=sd (.tuple l):=rfl
theorem sx(l:List b5):cy [.list l]=some (.own l):=rfl
theorem vO(l:List b5):cy [.tuple l]=some (.own l):=rfl
theorem ng{l m:List b5}(h:l.length+m.length<=1000000):i6 (.tuple l) (.tuple m)=sd (.tuple (l++m)):=d9 h
theorem wz{l m:List b5}(h:l.length+m.length<=1000000):i6 (.list l) (.list m)=some (.own (l++m)):=d9 h
theorem W8{l m:Str}(h:l.length+m.length<=1000000):i6 (.str l) (.str m)=sd (.str (l++m)):=d9 h
theorem BL(l:List b5)(lo a:Option Int):OJ (.tuple l) lo a=sd (.tuple (cutD l lo a)):=rfl
theorem xQ(l:List b5)(lo a:Option Int):OJ (.list l) lo a=some (.own (cutD l lo a)):=rfl
theorem rB(d:b5):aF d .none=sd (.bool (A6 d)):=rfl
theorem qE(d:b5):oB d .none=sd (.bool (!A6 d)):=rfl
theorem dw{j:Int}(h : -(4611686018427387904)<=j/\j<4611686018427387904):iH [.int j]=some (iG 0 j.toNat):=@if_pos _ (KG _) h _ _ _
theorem zm{Fe:DV}{ds:Ds}{f:Nat->b5}{lo:Int}{n:Nat}(h:∀i,i<n->∃pv,Fe (sd (.int (lo+(i:Nat)))::ds)=some pv/\pv.d=f i):L8 t5 w4 Fe ds (iG lo n)=some ((aR n).map f):=by
 have a:∀(l:List Nat),(∀i∈l,i<n)->L8 t5 w4 Fe ds (l.map λk=>gB (lo+(k:Nat)))=some (l.map f):=by
  intro l;induction l with
  |nil=>intro _;rfl
  |cons i r o =>
   intro b;obtain⟨pv,g,c⟩:=h i (b i o2);rw[o5];unfold L8;simp only[t5,F7,w4,bO,dA,cG,ai];rw[g];rw[o (λj m=>b j (o8 _ m))]
   simp[c]
 exact a _ (λi e=>mem_range.mp e)
theorem iT{gt:b5->DD}{G:DO}{lo:Int}{n:Nat}(I:Nat->Ds->Prop){ds:Ds}(l:I 0 ds)(hs:∀i ds,i<n->I i ds->∃ds1 ds2,gt (.int (lo+(i:Nat))) ds=some ds1/\(G ds1=some (.next ds2)\/G ds1=some (.cont ds2))/\I (i+1) ds2):∃ds',M3 gt G (iG lo n) ds=some (.next ds')/\I n ds':=by
 have c:∀(k i) ds,i+k=n->I i ds->∃ds',M3 gt G ((lD i k).map λk=>gB (lo+(k:Nat))) ds=some (.next ds')/\I n ds':=by
  intro k;induction k with
  |zero =>
   intro i ds e b;have d:i=n:=by lia
   subst d;exact⟨ds,rfl,b⟩
  |succ k o =>
   intro i ds e b;obtain⟨ds1,ds2,h,a,g⟩:=hs i ds X8 b;rw[Ag,o5];unfold M3;rw[h];simp only[F7];obtain⟨ds',j,f⟩:=o (i+1) ds2 X8 g;refine⟨ds',?_,f⟩;rcases a with a|a<;>rw[a]<;>exact j
 obtain⟨ds',m,d⟩:=c n 0 ds (Nat.add_comm _ _) l;refine⟨ds',?_,d⟩;unfold iG;rw[List.range_eq_range'];exact m
theorem nQ{Fc:DB}{G:DO}{n:Nat}{ds:Ds}(h:Fc ds=some false):G3 Fc G (n+1) ds=some (.next ds):=by unfold G3;rw[h];rfl
theorem Bf{Fc:DB}{G:DO}{n:Nat}{ds ds2:Ds}(h:Fc ds=some true)(k:G ds=some (.next ds2)):G3 Fc G (n+1) ds=G3 Fc G n ds2:=by rw[G3,h];rw[k];rfl
theorem vt{Fc:DB}{G:DO}(I:Ds->Prop)(μ:Ds->Nat)(hs:∀ds,I ds->Fc ds=some false\/(Fc ds=some true/\∃ds2,G ds=some (.next ds2)/\I ds2/\μ ds2<μ ds)):
  ∀(n:Nat) (ds:Ds),I ds->μ ds<n->∃ds',G3 Fc G n ds=some (.next ds')/\I ds'/\Fc ds'=some false:=by
 intro n;induction n with
 |zero=>intro ds _ h;exact WN
 |succ n c =>
  intro ds a d;rcases hs ds a with h|⟨h,ds2,k,b,f⟩
  . exact⟨ds,nQ h,a,h⟩
  . obtain⟨ds',e,r⟩:=c ds2 b X8;exact⟨ds',by rw[Bf h k];exact e,r⟩
theorem Bt.dX{m:Nat}{i:Int}(b : -4611686018427387904<i)(c:i<4611686018427387904)(a:autoParam (62<=m) j9):Bt m i:=(Bt.small kz kz).mono a
theorem Bt.lit{m:Nat}{i:Int}(a:autoParam (-4611686018427387904<i) j9)(c:autoParam (i<4611686018427387904) j9)(b:autoParam (62<=m) j9):Bt m i:=Bt.dX a c b
noncomputable def cz(i:Nat)(f:List b5->List b5):DO:=λds=>match ds[i]? with
 |some (some (.own l))=>some (.next (ds.set i (some (.own (f l)))))
 |_=>none
section
variable{X:Cx}{e o:Expr}{te:TE}{F:DV}{pos cpos apos:Pos}
set_option tactic.hygienic true in
theorem GR(i:Nat)(m:PE X o (D4 i))(b:autoParam (Bd X o "clear") e8)(c:autoParam ((apos.endLine==cpos.line)=true) e8)(hs:autoParam (N8 (.Call (.Attribute o "clear" apos) [] [] cpos) none pos.line X.env=pure false) e8):
  B8 X (.Expr (.Call (.Attribute o "clear" apos) [] [] cpos) pos) (pV (LC X.K "list" GC (D4 i))) (cz i λ_=>[]) :=
 ⟨dI (Hd uB PySem.F.slot_list_clear PySem.F.type_list_clear MZ m b c) hs,by
 intro O e n k H r D o S h q;unfold cz at h;split at h
 . rename_i l g;cases h;obtain⟨a,j,f,s,d,p⟩:=S.slot i _ g;exact⟨_,f,.inl ⟨rfl,j,F3.of d⟩,a,j,rfl,rfl,d,q n k _ (S.turn g f .nil)⟩
 . exact nE h⟩
set_option tactic.hygienic true in
theorem QJ(i:Nat)(m:PE X o (D4 i))(b:autoParam (Bd X o "reverse") e8)(c:autoParam ((apos.endLine==cpos.line)=true) e8)(hs:autoParam (N8 (.Call (.Attribute o "reverse" apos) [] [] cpos) none pos.line X.env=pure false) e8):
  B8 X (.Expr (.Call (.Attribute o "reverse" apos) [] [] cpos) pos) (pV (LC X.K "list" yc (D4 i))) (cz i List.reverse) :=
 ⟨dI (Hd uB PySem.F.slot_list_reverse PySem.F.type_list_reverse Ey m b c) hs,by
 intro O e n k H r D o S h q;unfold cz at h;split at h
 . rename_i l g;cases h;obtain⟨a,j,f,s,d,p⟩:=S.slot i _ g;exact⟨_,f,.inl ⟨rfl,j,F3.of d⟩,a,j,rfl,rfl,d,q n k _ (S.turn g f p.reverse)⟩
 . exact nE h⟩
noncomputable def vh(i:Nat)(F:DV):DO:=λds=>(F ds).bind λpv=>match pv,ds[i]? with
 | .own m,some (some (.own l))=>if l.length+m.length<=1000000 then some (.next (ds.set i (some (.own (l++m)))))else none
 |_,_=>none
set_option tactic.hygienic true in
theorem QL(i:Nat)(L:PE X o (D4 i))(u:PX X true e te F)(bm:autoParam (Le X o "extend" apos e [] cpos) sR)(hs:autoParam (N8 (.Call (.Attribute o "extend" apos) [e] [] cpos) none pos.line X.env=pure false) e8):
  B8 X (.Expr (.Call (.Attribute o "extend" apos) [e] [] cpos) pos) (pV (Ga X.K "list" BU (D4 i) (hZ te qR))) (vh i F) :=
 ⟨dI (Ed uB PySem.F.slot_list_extend PySem.F.type_list_extend HL L (T9 u.p ee bm.s) bm) hs,by
 intro O g B s H y D o S h q;obtain⟨pv,e1,h⟩:=d4 h;split at h
 . rename_i m l G;obtain⟨R,h⟩:=A7 h;cases h;obtain⟨a,A,C,T,r,w⟩:=S.slot i _ G;refine⟨_,C,.inl ⟨rfl,A,F3.of r⟩,?_⟩;refine u.t O g B s H y _ _ S e1 λv P n I=>?_
   obtain⟨b,N,rfl,Q,M,E⟩:=I;have:=w.length;have:=E.length;refine⟨a,b,A,N,rfl,rfl,n _ _ r,M,qw kz,q B s _ ?_⟩;exact(S.grow n).turn G C ((w.same (K1 n)).append (E.same (U0 (e9.refl _) λb z=>o8 _ z)))
 . exact nE h⟩
end
noncomputable def nG:b5->b5->Bool
 | .none,.none=>true
 | .bool a,.bool b=>a==b
 | .bool a,.int b=>(if a then 1 else 0)==b
 | .int a,.bool b=>a==(if b then 1 else 0)
 | .int a,.int b=>a==b
 | .str a,.str b=>a==b
 |_,_=>false
theorem Dt.af{K:c9}{H:Hp}{x:V}{d:b5}(h:Dt K H x d)(f:Flat d=true):L2.af x=true:=by
 cases h with
 |non=>rfl
 |bl _=>rfl
 |int _=>rfl
 |str _=>rfl
 |tup _ _=>exact nT f
 |lst _ _=>exact nT f
 |exc _ _ _ _ _=>exact nT f
 |fn _=>exact nT f
 |ins _ _ _ _=>exact nT f
 |dct _ _ _=>exact nT f
 |key _=>exact nT f
 |dtt _ _ _ _=>exact nT f
theorem Dt.nG{K:c9}{H:Hp}{x y:V}{d e:b5}(h:Dt K H x d)(k:Dt K H y e)(f:Flat d=true)(g:Flat e=true):sP x y=L2.nG d e:=by
 cases h with
 |tup _ _=>exact nT f
 |lst _ _=>exact nT f
 |exc _ _ _ _ _=>exact nT f
 |fn _=>exact nT f
 |ins _ _ _ _=>exact nT f
 |dct _ _ _=>exact nT f
 |key _=>exact nT f
 |dtt _ _ _ _=>exact nT f
 |non=>cases k with
  |tup _ _=>exact nT g
  |lst _ _=>exact nT g
  |exc _ _ _ _ _=>exact nT g
  |fn _=>exact nT g
  |ins _ _ _ _=>exact nT g
  |dct _ _ _=>exact nT g
  |key _=>exact nT g
  |dtt _ _ _ _=>exact nT g
  |_=>rfl
 |bl _=>cases k with
  |tup _ _=>exact nT g
  |lst _ _=>exact nT g
  |exc _ _ _ _ _=>exact nT g
  |fn _=>exact nT g
  |ins _ _ _ _=>exact nT g
  |dct _ _ _=>exact nT g
  |key _=>exact nT g
  |dtt _ _ _ _=>exact nT g
  |_=>rfl
 |int _=>cases k with
  |tup _ _=>exact nT g
  |lst _ _=>exact nT g
  |exc _ _ _ _ _=>exact nT g
  |fn _=>exact nT g
  |ins _ _ _ _=>exact nT g
  |dct _ _ _=>exact nT g
  |key _=>exact nT g
  |dtt _ _ _ _=>exact nT g
  |_=>rfl
 |str _=>cases k with
  |tup _ _=>exact nT g
  |lst _ _=>exact nT g
  |exc _ _ _ _ _=>exact nT g
  |fn _=>exact nT g
  |ins _ _ _ _=>exact nT g
  |dct _ _ _=>exact nT g
  |key _=>exact nT g
  |dtt _ _ _ _=>exact nT g
  |_=>rfl
theorem n6.sA{K:c9}{H:Hp}{x:V}{d:b5}(h:Dt K H x d)(f:Flat d=true):∀{xs:List V} {l:List b5},n6 K H xs l->l.all Flat=true->xs.all af=true/\L2.sA x xs=l.any (λy=>L2.nG y d)
 |_,_,.nil,_=>⟨rfl,rfl⟩
 |_,_,.cons k t,g=>by
  rw[bC,aj]at g;obtain⟨b,a⟩:=n6.sA h f t g.2;refine⟨by rw[bC,k.af g.1,b];rfl,?_⟩
  unfold L2.sA at a ⊢;rw[fg,fg,a,k.nG h g.1 f]
noncomputable def inD:b5->b5->Option PV:=λd e=>(cw e).bind λl=>if Flat d=true/\l.all Flat=true then some (.dat (.bool (l.any λy=>nG y d)))else none
noncomputable def V0:b5->b5->Option PV:=λd e=>(cw e).bind λl=>if Flat d=true/\l.all Flat=true then some (.dat (.bool (!l.any λy=>nG y d)))else none
theorem CD{K:c9}{O:List Addr}{va:As}{H:Hp}{x y:V}{d e:b5}{l:List b5}(b:Dt K (k6 H va O) x d)(j:Dt K (k6 H va O) y e)(g:cw e=some l)(a:Flat d=true/\l.all Flat=true):
  ∃p xs,y=.ref p/\(F3 K H p xs\/P0 K H p xs)/\af x=true/\xs.all af=true/\sA x xs=l.any (λy=>nG y d):=by
 cases j with
 |lst i f =>
  cases g;obtain⟨h,c⟩:=n6.sA b a.1 f a.2;exact⟨_,_,rfl,.inl (m7.seq i),b.af a.1,h,c⟩
 |tup i f =>
  cases g;obtain⟨h,c⟩:=n6.sA b a.1 f a.2;exact⟨_,_,rfl,.inr (m7.du i),b.af a.1,h,c⟩
 |_=>exact nE g
theorem Xu{K:c9}:O5 K (GB K false) inD:=by intro O n H x y d e pv Q D c h a q;obtain⟨l,hl,a⟩:=d4 a;obtain⟨k,a⟩:=A7 a;cases a;obtain⟨p,m,f,i,b,j,g⟩:=CD c h hl k;refine⟨p,m,f,i,b,j,q _ H (e9.refl H) ?_⟩;rw[g];exact Dt.bl _
theorem PN{K:c9}:O5 K (GB K true) V0:=by intro O n H x y d e pv Q D c h a q;obtain⟨l,hl,a⟩:=d4 a;obtain⟨k,a⟩:=A7 a;cases a;obtain⟨p,m,f,i,b,j,g⟩:=CD c h hl k;refine⟨p,m,f,i,b,j,q _ H (e9.refl H) ?_⟩;rw[g];exact Dt.bl _
noncomputable def Vd(i:Nat)(F:DV):DV:=λds=>match ds[i]? with
 |some (some (.dat d))=>(F ds).bind λk=>j5 d k.d
 |some (some (.own l))=>(F ds).bind λk=>j5 (.list l) k.d
 |_=>none
noncomputable def iU(i:Nat):DV:=λds=>match ds[i]? with
 |some (some (.dat d))=>cy [d]
 |some (some (.own l))=>cy [.list l]
 |_=>none
noncomputable def intsOf:List b5->Option (List Int)
 | []=>some []
 | .int i::r=>(intsOf r).bind λl=>some (i::l)
 |_=>none
noncomputable def Xx:FV:=d1 fun
 | .list l=>(intsOf l).bind λis=>some (.dat (.int is.sum))
 |_=>none
noncomputable def U7:Int->List b5->List b5
 |_,[]=>[]
 |k,d::r=>.tuple [.int k,d]::U7 (k+1) r
noncomputable def qm:List b5->Option (List b5)
 | [d]=>(cw d).bind λl=>some (U7 0 l)
 |_=>none
theorem zo(a b:Prop)[Decidable a][Decidable b]:(if a then some (PV.dat (.bool (decide b)))else some (PV.dat (.bool false)))=some (PV.dat (.bool (decide (a/\b)))):=by
 by_cases h:a
 . rw[d9 h];simp[h]
 . rw[e7 h];simp[h]
theorem yL(i:Int):intD [.int i]=sd (.int i):=rfl
theorem vX(b:Bool):intD [.bool b]=sd (.int (if b=true then 1 else 0)):=rfl
theorem vA(l:List b5):Xx [.list l]=(intsOf l).bind λis=>sd (.int is.sum):=rfl
theorem wc(d:b5):qm [d]=(cw d).bind λl=>some (U7 0 l):=rfl
theorem yX(gt:b5->DD)(G:DO)(ds:Ds):M3 gt G [] ds=some (.next ds):=rfl
theorem V8{gt:b5->DD}{G:DO}{d:b5}{r:List b5}{ds ds1 ds2:Ds}(b:gt d ds=some ds1)(a:G ds1=some (.next ds2)):M3 gt G (d::r) ds=M3 gt G r ds2:=by
 rw[M3,b]
 simp_all
theorem comp_map{a:Type}{g f:a->b5}{Fe:DV}{ds:Ds}:∀{l:List a},(∀x∈l,∃pv,Fe (sd (g x)::ds)=some pv/\pv.d=f x)->L8 t5 w4 Fe ds (l.map g)=some (l.map f):=by
 intro l_;induction l_ with
 |nil =>
  intro _;exact rfl
 |cons x r ih_ =>
  intro h;obtain⟨pv,e,c⟩:=h x o2;rw[o5];unfold L8;simp only[t5,F7,w4,bO,dA,cG,ai];rw[e];rw[ih_ (λy b=>h y (o8 _ b))]
  simp[c]
section
variable{X:Cx}{fr:Bool}{b o:Expr}{tb:TE}{Fb:DV}{pos p:Pos}
set_option tactic.hygienic true in
theorem Me{x:Str}(i:Nat)(y:PE X o (D4 i))(t:Gl X x)(w:X.mg x=none)(C:bW x=some (.type "list"))(s:autoParam (x ≠ "__name__") j9)(e:autoParam (bA x) j9)(k:autoParam (aH X o []) e8)(g:autoParam (cT X pos []) e8):PX X fr (.Call (.Name x p) [o] [] pos) (xI (GA X.K) (hZ (D4 i) qR)) (iU i) :=
 ⟨vI oM t w C (T9 y ee k) s e k g,by
 intro O n D F H G pv Q S b q;unfold iU at b;split at b
 . rename_i d c;obtain⟨v,f,h⟩:=S.slot i _ c;refine⟨v,f,?_⟩;exact Fz O (P8 fr D) H [v] [d] pv Q S.dm (.cons (h.same fK) .nil) b λu r j E=>q u r j E
 . rename_i l c;obtain⟨a,B,f,j,A,h⟩:=S.slot i _ c;cases b;refine⟨_,f,a,B,rfl,.inl (F3.of A),λz m=>q _ _ (e9.new m) (dY m (h.same fK))⟩
 . exact nE b⟩
theorem v9{x:Str}{u:b8}{v:V}{d:b5}(a:Gl X x)(h:X.mg x=some u/\RelV v u/\∀H,Dt X.K H v d)(hd:autoParam (bA x) j9):PX X fr (.Name x pos) (tC v) (fC d) :=
 yh (Cc a h.1 h.2.1 hd) h.2.2
end
theorem NU{K:c9}{a:Addr}{e:Option Addr}{b:Array b8}{n:Nat}{d:Array (Option b8)}{vs:List V}{ds:List b5}(c:K.lookup a=some ⟨.type "tuple",e,.seq b n,d⟩)(hz:b.size<=1000)(r:Vals vs b.toList)(hd:∀H,n6 K H vs ds)(H:Hp):Dt K H (.ref a) (.tuple ds) :=
 .tup (.inr ⟨_,b,n,c,rfl,rfl,t4 hz (by rw[aT];decide),r⟩) (hd H)
section
variable{X:Cx}{e:Expr}{te:TE}{F:DV}{i:Nat}{x:Str}{p p':Pos}
theorem GN(A:X.N.Nodup)(b:X.N[i]? = some x)(w:Loc X.env.scope x)(C:Jp X e te F)(c:autoParam (N8 e (some (.Name x p)) p'.line X.env=pure true) e8)(y:autoParam (lT X x) W9):B8 X (.Assign [.Name x p] e p') (mh te (X6 i)) (f7 i F):=⟨C.s A b w c y,by intro O a E r H n D o S h q;obtain⟨pv,e1,h⟩:=d4 h;cases h;exact C.p.t O a E r H n pv _ S e1 λv F u z=>q _ _ _ ((S.grow u).set i (z.dt S.dm))⟩
theorem GL(A:X.N.Nodup)(b:X.N[i]? = some x)(w:Loc X.env.scope x)(C:Jp X e te F)(c:autoParam (N8 e (some (.Name x p)) p'.line X.env=pure true) e8)(y:autoParam (lT X x) W9):B8 X (.Assign [.Name x p] e p') (mh te (X6 i)) (Q5 i F):=⟨C.s A b w c y,by
 intro O a G r H n D o S h q;obtain⟨pv,e1,h⟩:=d4 h;cases h;refine C.p.t O a G r H n pv _ S e1 λv I w A=>?_
 obtain⟨E,u⟩:=S.store w i A;exact q _ _ _ u⟩
end
mutual
noncomputable def LF:b5->Bool
 | .none=>true
 | .bool _=>true
 | .int _=>true
 | .str _=>true
 | .tuple l=>nN l
 | .dict [(.list _,.none)]=>true
 |_=>false
noncomputable def nN:List b5->Bool
 | []=>true
 |d::r=>LF d&&nN r
end
theorem Qq{K:c9}{H H':Hp}{a:Addr}{xs:List V}(e:∀b o,H b=some o->¬Cell o->H' b=some o)(h:P0 K H a xs):P0 K H' a xs:=by
 rcases h with (h|⟨o,h⟩)|h
 . exact .inl (.inl (e _ _ h (λz=>by rcases z with ⟨_,z⟩|⟨_,z⟩|⟨_,_,_,z⟩<;>cases z)))
 . exact .inl (.inr ⟨o,e _ _ h (λz=>by rcases z with ⟨_,z⟩|⟨_,z⟩|⟨_,_,_,z⟩<;>cases z)⟩)
 . exact .inr h
mutual
theorem Dt.lf{K:c9}{H H':Hp}(e:∀b o,H b=some o->¬Cell o->H' b=some o){x:V}{d:b5}(h:Dt K H x d)(f:LF d=true):Dt K H' x d:=by
 cases h with
 |non=>exact .non
 |bl b=>exact .bl b
 |int i=>exact .int i
 |str y=>exact .str y
 |tup a c=>exact .tup (Qq e a) (n6.lf e c M8)
 |lst a c=>exact nT f
 |exc _ _ _ _ _=>exact nT f
 |fn _=>exact nT f
 |ins _ _ _ _=>exact nT f
 |dct _ _ _=>exact nT f
 |key h=>exact .key (e _ _ h (λz=>by rcases z with ⟨_,z⟩|⟨_,z⟩|⟨_,_,_,z⟩<;>cases z))
 |dtt _ _ _ _=>exact nT f
theorem n6.lf{K:c9}{H H':Hp}(e:∀b o,H b=some o->¬Cell o->H' b=some o){xs:List V}{ds:List b5}(h:n6 K H xs ds)(f:nN ds=true):n6 K H' xs ds:=by
 cases h with
 |nil=>exact .nil
 |cons a t =>
  rw[nN,aj]at f;exact .cons (Dt.lf e a f.1) (n6.lf e t f.2)
end
noncomputable def G7(f:b5->FV)(Fo:DV)(Fl:DL):DV:=λds=>(Fo ds).bind λo=>(Fl ds).bind λl=>f o.d l
theorem EH(l:List b5):A6 (.tuple l)=false:=rfl
theorem EK(l:List b5):A6 (.list l)=false:=rfl
theorem EL(i:Int):A6 (.int i)=false:=rfl
theorem EJ:A6 .none=true:=rfl
section
variable{X:Cx}{pins:List (Addr×Obj)}{σ:St}{H:Hp}{s:c8}
end
section
variable{X:Cx}{pins:List (Addr×Obj)}{σ:St}{H:Hp}{s:c8}{h':Heap}
theorem G9.get{P:j3}{w:i7}{H:Hp}{h:Heap}{a:Addr}{o:HO}(x:G9 P w H h a o):∃ob,h.get? a=some ob:=by
 induction o with
 |lst c=>obtain⟨_,_,_,_,e⟩:=x;exact⟨_,e⟩
 |tup c=>obtain⟨_,_,_,o,e,_⟩:=x;exact⟨_,e⟩
 |dK b=>obtain⟨_,_,_,_,o,_,_,e,_⟩:=x;exact⟨_,e⟩
 |dT b=>obtain⟨_,_,_,_,o,_,_,e,_⟩:=x;exact⟨_,e⟩
 |set S n=>obtain⟨o,_,_,_,e,_⟩:=x;exact⟨_,e⟩
 |ins C i fs=>obtain⟨_,_,_,e,_⟩:=x;exact⟨_,e⟩
 |own y=>exact x
 |xd fs=>obtain⟨_,⟨o,_,_,e,_⟩,_⟩:=x;exact⟨_,e⟩
 |met f y=>exact⟨_,x⟩
 |rng j k=>obtain⟨_,_,_,e⟩:=x;exact⟨_,e⟩
 |aG o u g=>exact⟨_,x.1⟩
 |tbl d=>exact⟨_,x⟩
 |ext φ=>exact x.2.1
end
section
variable{prog:j3}{w:i7}{A:j6}{E:b8->c8->Prop}{s:c8}
end
structure fV(K:c9)(nm:Str)(C:Addr):Prop where
 ns:S0 K J5 nm=some (some (.ref C))
 cl:qN K C
theorem fV.eq{K:c9}{b:Str}{C a:Addr}(T:fV K b C)(h:S0 K J5 b=some (some (.ref a))):a=C:=by
 rw[T.ns]at h
 lia
section
variable{X:Cx}{fr:Bool}{o e:Expr}{es:List Expr}{to te:TE}{t:TA}{F Fo:DV}{Fl:DL}{nm f:Str}{C:Addr}{pos apos:Pos}
theorem DS.Xv{K:c9}{O:List Addr}{f6 H H':Hp}{as bs cs:As}{g:St}{ds:Ds}(S:DS K O f6 as g H ds)(e:e9 H H')(l:∀b,some b∈cs->some b∈bs\/some b∈as)(a:Addr)(u:HO)(h:k6 H' bs O a=some u)(k:¬Cell u):k6 H' cs O a=some u:=by
 obtain⟨f,j,d⟩:=A9.mp h;refine A9.mpr ⟨f,λz=>?_,d⟩
 rcases l a z with z|z
 . exact j z
 . obtain⟨_,c,i⟩:=S.new a z;have:=e _ _ i;grind
end
noncomputable def ar(f:Str)(p:PF):List (Str×PF)->List (Str×PF)
 | []=>[(f,p)]
 |(g,x)::r=>if g=f then(g,p)::r else(g,x)::ar f p r
noncomputable def G4(f:Str):List (Str×PF)->Option PF
 | []=>none
 |(g,x)::r=>if g=f then some x else G4 f r
inductive uJ(K:c9)(Hv H:Hp):V->PF->List Addr->Prop
 |dat {x d}:Dt K Hv x d->uJ K Hv H x (.dat d) []
 |own {a xs l}:H a=some (.lst xs)->n6 K Hv xs l->uJ K Hv H (.ref a) (.own l) [a]
 |dct {a kvs es}:H a=some (.dK kvs)->T3 K Hv kvs es->uJ K Hv H (.ref a) (.dct es) [a]
section
variable{K:c9}{Hv Hv' H H':Hp}{v:Addr}{R Rf:List Addr}{c:OD}{fv:List (Str×V)}{fs:List (Str×PF)}{f:Str}{y:V}{p:PF}
theorem N7.cons{n:Str}(h:uJ K Hv H y p Rf)(d:∀b∈Rf,b∉R)(t:N7 K Hv H fv fs R):N7 K Hv H ((n,y)::fv) ((n,p)::fs) (Rf++R):=by
 cases h with
 |dat h=>exact .dat h t
 |own c a=>exact .own c a (d _ o2) t
 |dct c a=>exact .dct c a (d _ o2) t
theorem N7.put(t:N7 K Hv H k fs R)(h:uJ K Hv H y p Rf)(d:∀b∈Rf,b∉R):∃R',N7 K Hv H (Z6 f y k) (ar f p fs) R'/\∀b∈R',b∈Rf\/b∈R:=by
 induction t with
 |nil =>
  refine⟨Rf++[],N7.cons h (λb _=>by simp) .nil,λb e=>.inl (by simpa using e)⟩
 | @dat n x v k fs R s t j =>
  obtain⟨R',i,g⟩:=j d;rw[Z6,ar];by_cases c:n=f
  . rw[d9 c,d9 c];exact⟨Rf++R,N7.cons h d t,λb e=>List.mem_append.mp e⟩
  . rw[e7 c,e7 c];exact⟨R',.dat s i,g⟩
 | @own n a u l k fs R o m q t j =>
  obtain⟨R',i,g⟩:=j λb e z=>d b e (o8 _ z)
  rw[Z6,ar];by_cases c:n=f
  . rw[d9 c,d9 c];exact⟨Rf++R,N7.cons h (λb e z=>d b e (o8 _ z)) t,λb e=>(List.mem_append.mp e).imp id (o8 _)⟩
  . rw[e7 c,e7 c];refine⟨a::R',.own o m (λz=>?_) i,λb e=>?_⟩
    . rcases g a z with z|z
      . exact d a z o2
      . exact q z
    . rcases List.mem_cons.mp e with rfl|e
      . exact .inr o2
      . exact(g b e).imp id (o8 _)
 | @dct n a r w k fs R o m q t j =>
  obtain⟨R',i,g⟩:=j λb e z=>d b e (o8 _ z)
  rw[Z6,ar];by_cases c:n=f
  . rw[d9 c,d9 c];exact⟨Rf++R,N7.cons h (λb e z=>d b e (o8 _ z)) t,λb e=>(List.mem_append.mp e).imp id (o8 _)⟩
  . rw[e7 c,e7 c];refine⟨a::R',.dct o m (λz=>?_) i,λb e=>?_⟩
    . rcases g a z with z|z
      . exact d a z o2
      . exact q z
    . rcases List.mem_cons.mp e with rfl|e
      . exact .inr o2
      . exact(g b e).imp id (o8 _)
theorem dJ{n:Str}{x:V}:bB f ((n,x)::fv)=if n=f then some x else bB f fv:=by
 rw[lK];by_cases c:n=f
 . subst c;simp
 . have a:(f==n)=false:=by simpa using λz=>c z.symm
   rw[a,e7 c]
set_option tactic.hygienic true in
theorem N7.UG(t:N7 K Hv H fv fs R)(h:G4 f fs=none):fv.lookup f=none:=by
 induction t with
 |nil=>rfl
 | dat hd t ih => rw [G4] at h; rw [dJ]; split at h; · exact nS h
                  . rename_i c;rw[e7 c];exact ih h
 | own h1 h2 h3 t ih => rw [G4] at h; rw [dJ]; split at h; · exact nS h
                        . rename_i c;rw[e7 c];exact ih h
 | dct h1 h2 h3 t ih => rw [G4] at h; rw [dJ]; split at h; · exact nS h
                        . rename_i c;rw[e7 c];exact ih h
theorem N7.look(t:N7 K Hv H w fs R)(h:G4 f fs=some p):∃x Rf,w.lookup f=some x/\uJ K Hv H x p Rf/\(∀b∈Rf,b∈R) /\
  ∀{Hv' H':Hp} {m:PF},e9 Hv Hv'->(∀b∈R,b∉Rf->∀o,H b=some o->H' b=some o)->uJ K Hv' H' x m Rf->N7 K Hv' H' w (ar f m fs) R:=by
 induction t with
 |nil=>exact nE h
 | @dat n x d w fs R C t s =>
  rw[G4]at h;rw[dJ];by_cases c:n=f
  . rw[d9 c]at h ⊢;cases h;refine⟨x,[],rfl,.dat C,λb g=>absurd g q5,λ{Hv' H' m} e i k=>?_⟩
    rw[ar,d9 c];exact N7.cons k (λb g=>absurd g q5) (t.same e λb g=>i b g q5)
  . rw[e7 c]at h ⊢;obtain⟨y,Rf,A,u,q,r⟩:=s h;refine⟨y,Rf,A,u,q,λ{Hv' H' m} e i k=>?_⟩
    rw[ar,e7 c];exact .dat (C.same e) (r e i k)
 | @own n a F l w fs R B v j t s =>
  rw[G4]at h;rw[dJ];by_cases c:n=f
  . rw[d9 c]at h ⊢;cases h;refine⟨_,[a],rfl,.own B v,λb g=>by rw[mem_singleton.mp g];exact o2,λ{Hv' H' m} e i k=>?_⟩
    rw[ar,d9 c];refine N7.cons k (λb g=>by rw[mem_singleton.mp g];exact j) (t.same e λb g=>i b (o8 _ g) λz=>?_)
    rw[mem_singleton.mp z]at g;exact j g
  . rw[e7 c]at h ⊢;obtain⟨y,Rf,A,u,q,r⟩:=s h;refine⟨y,Rf,A,u,λb g=>o8 _ (q b g),λ{Hv' H' m} e i k=>?_⟩
    rw[ar,e7 c];exact .own (i a o2 (λz=>j (q a z)) _ B) (v.same e) j (r e (λb g=>i b (o8 _ g)) k)
 | @dct n a D E w fs R B v j t s =>
  rw[G4]at h;rw[dJ];by_cases c:n=f
  . rw[d9 c]at h ⊢;cases h;refine⟨_,[a],rfl,.dct B v,λb g=>by rw[mem_singleton.mp g];exact o2,λ{Hv' H' m} e i k=>?_⟩
    rw[ar,d9 c];refine N7.cons k (λb g=>by rw[mem_singleton.mp g];exact j) (t.same e λb g=>i b (o8 _ g) λz=>?_)
    rw[mem_singleton.mp z]at g;exact j g
  . rw[e7 c]at h ⊢;obtain⟨y,Rf,A,u,q,r⟩:=s h;refine⟨y,Rf,A,u,λb g=>o8 _ (q b g),λ{Hv' H' m} e i k=>?_⟩
    rw[ar,e7 c];exact .dct (i a o2 (λz=>j (q a z)) _ B) (v.same e) j (r e (λb g=>i b (o8 _ g)) k)
end
noncomputable def iO(nm:Str)(i:Nat)(ds:Ds):Option (Option Addr×List (Str×PF)):=match ds[i]? with
 |some (some (.ob w (.ins n fs)))=>if n=nm then some (w,fs)else none
 |_=>none
theorem iM{a:Str}{i:Nat}{ds:Ds}{w:Option Addr}{fs:List (Str×PF)}(h:iO a i ds=some (w,fs)):ds[i]? = some (some (.ob w (.ins a fs))):=by
 unfold iO at h;split at h
 . simp_all
 . exact nE h
noncomputable def NP:PF->Option b5
 | .dat d=>some d
 |_=>none
noncomputable def dctP:PF->Option (List (Str×b5))
 | .dct es=>some es
 |_=>none
theorem NO{p:PF}{d:b5}(h:NP p=some d):p=.dat d:=by cases p<;>cases h;rfl
theorem NN{p:PF}{d:List (Str×b5)}(h:dctP p=some d):p=.dct d:=by cases p<;>cases h;rfl
noncomputable def xo(nm:Str)(i:Nat)(f:Str):DV:=λds=>(iO nm i ds).bind λx=>(G4 f x.2).bind λp=>(NP p).bind λd=>some (.dat d)
section
variable{X:Cx}{fr:Bool}{i:Nat}{o e b:Expr}{te tb:TE}{F Fb:DV}{nm f:Str}{C:Addr}{pos pos' apos cpos:Pos}
theorem Mb{K':c9}(kk:X.K=K')(T:fV K' nm C)(n:bQ K' C f)(h:PE X o (D4 i))(A:autoParam (Bd X o f) e8):PX X fr (.Attribute o f pos) (Lz K' (D4 i) f) (xo nm i f):=by
 subst kk;exact⟨Ha h A,by
  intro O c D I H F pv Q S a q;obtain⟨⟨w,fs⟩,s,a⟩:=d4 a;obtain⟨p,l,a⟩:=d4 a;obtain⟨d,t,a⟩:=d4 a;cases a;have z:=NO t;subst z;obtain⟨v,R,k,_,_,u,j,m,E,rfl,e,r,g⟩:=S.slot i _ (iM s);have B:=T.eq e;subst B;obtain⟨x,G,y,b,_⟩:=g.look l;cases b with
  |dat b=>exact⟨_,k,v,u,j,m,x,rfl,r,T.cl,n,y,q x H (e9.refl H) (b.same fK)⟩⟩
end
section
variable{K:c9}{O:List Addr}{f6 H H1:Hp}{as:As}{σ:St}{ds:Ds}
set_option tactic.hygienic true in
theorem DS.adopt(S:DS K O f6 as σ H ds)(m:e9 H H1)(i:Nat){R:List Addr}(r:∀b∈R,H b=none)(x:∀b∈R,∃u:Cl,H1 b=some u.1):
  DS K O f6 (R.map some++as) σ H1 ds/\∀c:Nat->List Addr,(∀i b,b∈c i->some b∈as)->(∀i j b,b∈c i->b∈c j->i=j)->(∀(i:Nat) (pv:PV),ds[i]? = some (some pv)->Z0 K O as H σ[i]? (c i) pv) ->
   ∃a:Nat->List Addr,(∀i b,b∈a i->some b∈R.map some++as)/\(∀i j b,b∈a i->b∈a j->i=j)/\(∀(i:Nat) (pv:PV),ds[i]? = some (some pv)->Z0 K O (R.map some++as) H1 σ[i]? (a i) pv)/\(∀b∈R,b∈a i)/\∀b∈c i,b∈a i:=by
 have s:∀b∈R,some b∉as:=λb d z=>by obtain⟨_,o,z⟩:=S.new b z;rw[r b d]at z;exact nE z
 have l:∀c:Nat->List Addr,(∀i b,b∈c i->some b∈as)->(∀i j b,b∈c i->b∈c j->i=j)->(∀i pv,ds[i]? = some (some pv)->Z0 K O as H σ[i]? (c i) pv) ->
   ∃a:Nat->List Addr,(∀i b,b∈a i->some b∈R.map some++as)/\(∀i j b,b∈a i->b∈a j->i=j)/\(∀i pv,ds[i]? = some (some pv)->Z0 K O (R.map some++as) H1 σ[i]? (a i) pv)/\(∀b∈R,b∈a i)/\∀b∈c i,b∈a i:=λc f h p=>by
  refine⟨λj=>if j=i then R++c j else c j,λj b d=>?_,λj k b g e=>?_,λj pv t=>(p j pv t).xW (jT m r) (λb _ o z=>m _ _ z) λb z=>?_,λb d=>by dsimp only;rw[d9 rfl];exact ao _ d,λb d=>by dsimp only;rw[d9 rfl];exact D0 _ d⟩
  . dsimp only at d;split at d
    . rcases List.mem_append.mp d with z|z
      . exact ao _ (mem_map.mpr ⟨b,z,rfl⟩)
      . exact D0 _ (f j b z)
    . exact D0 _ (f j b d)
  . dsimp only at g e;split at g
    . rename_i n;split at e
      . rename_i q;rw[n,q]
      . rcases List.mem_append.mp g with z|z
        . exact absurd (f k b e) (s b z)
        . exact h j k b z e
    . split at e
      . rcases List.mem_append.mp e with z|z
        . exact absurd (f j b g) (s b z)
        . exact h j k b g z
      . exact h j k b g e
  . dsimp only;split
    . exact D0 _ z
    . exact z
 obtain⟨c,f,h,p⟩:=S.dH;obtain⟨a,v,k2,w,_⟩:=l c f h p;refine⟨⟨S.ls,S.same.trans m,λb d=>?_,S.aw,a,v,k2,w⟩,l⟩
 rcases List.mem_append.mp d with z|z
 . obtain⟨y,n,q⟩:=mem_map.mp z;cases q;exact⟨S.same.free (r b n),x b n⟩
 . exact⟨(S.new b z).1,let ⟨o,z⟩:=(S.new b z).2;⟨o,m _ _ z⟩⟩
end
noncomputable def xf:PV->Option PF
 | .dat d=>some (.dat d)
 | .own l=>some (.own l)
 | .ob _ (.dct es)=>some (.dct es)
 |_=>none
noncomputable def NQ(pv:PV):Option PF:=some (.dat pv.d)
noncomputable def sJ(nm:Str)(i:Nat)(f:Str)(kp:PV->Option PF)(F:DV):DO:=λds=>(F ds).bind λpv=>(kp pv).bind λp=>(iO nm i ds).bind λx=>if x.2.length<900 then some (.next (ds.set i (some (.ob x.1 (.ins nm (ar f p x.2))))))else none
theorem N7.len{K:c9}{b H:Hp}{fv:List (Str×V)}{fs:List (Str×PF)}{R:List Addr}(h:N7 K b H fv fs R):fv.length=fs.length:=by
 induction h with
 |nil=>rfl
 |dat _ _ a=>simp_all
 |own _ _ _ _ a=>simp_all
 |dct _ _ _ _ a=>simp_all
section
variable{X:Cx}{fr:Bool}{i:Nat}{o e b:Expr}{te tb:TE}{F Fb Fk:DV}{nm f:Str}{C:Addr}{pos pos' apos cpos:Pos}
theorem RL{K:c9}{O:List Addr}{as:As}{H f:Hp}{v:V}{pv:PV}{p:PF}(D:jM H as O)(r:RX K O as H f v pv)(h:xf pv=some p\/NQ pv=some p):∃Rf,(∀b∈Rf,H b=none)/\(∀b∈Rf,∃u:Cl,f b=some u.1)/\uJ K (k6 f (Rf.map some++as) O) f v p Rf:=by
 rcases h with h|h
 . cases pv with
   |dat d=>cases h;exact⟨[],λb e=>absurd e q5,λb e=>absurd e q5,.dat r⟩
   |own l =>
    cases h;obtain⟨a,k,rfl,n,g,r⟩:=r;refine⟨[a],λb e=>?_,λb e=>?_,.own g r⟩
    . rw[mem_singleton.mp e];exact n
    . rw[mem_singleton.mp e];exact⟨Cl.l k,g⟩
   |ob w c =>
    cases c with
    |dct o =>
     cases h;obtain⟨a,R,rfl,_,g,i,rfl,j,m⟩:=r;refine⟨[a],g,λb e=>?_,.dct j m⟩
     rw[mem_singleton.mp e];exact⟨Cl.d i,j⟩
    |ins _ _=>exact nE h
    |seq _ _=>exact nE h
 . cases h;exact⟨[],λb e=>absurd e q5,λb e=>absurd e q5,.dat (r.dt D)⟩
theorem Mq{kp:PV->Option PF}(T:fV X.K nm C)(n:bQ X.K C f)(h:PE X o (D4 i))(hk:∀pv p,kp pv=some p->xf pv=some p\/NQ pv=some p)(Y:PX X true e te F)(hs:autoParam (N8 e (some (.Attribute o f pos')) pos.line X.env=pure false) e8):B8 X (.Assign [.Attribute o f pos'] e pos) (Tp X.K (D4 i) te f) (sJ nm i f kp F):=⟨Ud h Y.p hs,by
 intro O g as σ H ds D r S a q;obtain⟨pv,h1,a⟩:=d4 a;obtain⟨p,h2,a⟩:=d4 a;obtain⟨⟨w,fs⟩,I,a⟩:=d4 a;obtain⟨hl,a⟩:=A7 a;cases a;refine Y.t O g as σ H ds pv _ S h1 λy H1 s r1=>?_
 obtain⟨Rf,M,k2,k3⟩:=RL (S.dm) r1 (hk pv p h2);obtain⟨S1,ad⟩:=S.adopt s i M k2;obtain⟨rg,N,B,l⟩:=S.dH;obtain⟨rg',g1,g2,W,g4,g5⟩:=ad rg N B l;obtain⟨v,R,A,ew,hR,L,x,Z,R',rfl,V,G,c3⟩:=W i _ (iM I);have ec:=T.eq V;subst ec;obtain⟨v0,R0,j,ew0,Q,C0,dx0,fv0,R0',rfl,c10,P,d⟩:=l i _ (iM I);rw[A]at j;cases j;have k:=s _ _ P;rw[G]at k;cases k;have dj:∀b∈Rf,b∉R0':=λb c z=>by obtain⟨u,_,z⟩:=d.at b z;rw[M b c]at z;exact nE z
 obtain⟨R2,p1,p2⟩:=(d.same (jT s M) λb _ o z=>s _ _ z).put (f:=f) k3 dj
 refine⟨_,A,v,L,x,Z,rfl,G,T.cl,n,by rw[d.len];exact UJ,q (Rf.map some++as) σ _ ?_⟩
 have nv:∀b∈R2,b≠v:=λb c z=>by subst z;obtain⟨u,m,z⟩:=p1.at b c;rw[G]at z;cases z;rcases m with ⟨_,m⟩|⟨_,m⟩<;>cases m
 have hv:=hR v o2;refine S1.wY (u:=Cl.i L x (Z6 f y Z)) (iM I) g1 g2 W hv λsm=>⟨v,v::R2,A,ew,λb c=>?_,L,x,_,R2,rfl,V,l7,p1.same sm λb c o z=>by rw[i8 (nv b c)];exact z⟩
 rcases List.mem_cons.mp c with rfl|c
 . exact hv
 . rcases p2 b c with z|z
   . exact g4 b z
   . exact g5 b (Q b (o8 _ z))⟩
theorem DS.VS{K:c9}{O:List Addr}{f6 H:Hp}{as:As}{q:St}{ds:Ds}{w:Option Addr}{fs:List (Str×PF)}{p t:PF}{u:Cl}{a v:Addr}{y r:Addr}{fv:List (Str×V)}(S:DS K O f6 as q H ds)(hd:ds[i]? = some (some (.ob w (.ins nm fs))))(I:G4 f fs=some p)(s:q[i]? = some (some (.ref v)))(l:H v=some (.ins y r fv))(N:fv.lookup f=some (.ref a))(T:∀d,p≠.dat d)(X:∀{Hv':Hp},e9 (k6 H as O) Hv'->uJ K Hv' (upd H a u.1) (.ref a) t [a]):DS K O f6 as q (upd H a u.1) (ds.set i (some (.ob w (.ins nm (ar f t fs))))):=by
 obtain⟨rg,E,G,x⟩:=S.dH;obtain⟨v0,R0,c,m,h,Z,C,M,e,rfl,n,g,j⟩:=x i _ hd;rw[s]at c;cases c;rw[l]at g;cases g;obtain⟨x0,R,A,P,Q,F⟩:=j.look I;rw[N]at A;cases A;have L:R=[a]:=by
  cases P with
  |dat _=>exact absurd rfl (T _)
  |own _ _=>rfl
  |dct _ _=>rfl
 subst L;have B:=Q a o2;have Y:v≠a:=λz=>by subst z;obtain⟨u',k,z⟩:=j.at v B;rw[l]at z;cases z;rcases k with ⟨_,k⟩|⟨_,k⟩<;>cases k
 refine S.wY hd E G x (h a (o8 _ B)) λsm=>⟨v,v::e,s,m,h,y,r,fv,e,rfl,n,by rw[i8 Y];exact l,F sm (λb hb D o z=>?_) (X sm)⟩
 rw[i8 (λz=>D (by rw[z];exact o2))]
 exact z
end
noncomputable def kG(K:c9)(f:List PV->Option (PV×Ds)):Sp:=λvs H Q _=>∃(O:List Addr) (f6:Hp) (as:As) (args:List PV) (pv:PV) (ds':Ds),
 DS K O f6 as (vs.map some) H (args.map some)/\f args=some (pv,ds')/\∀as' Hm H' v,DS K O f6 as' (vs.map some) Hm ds'->e9 Hm H'->RX K O as' Hm H' v pv->Q v H'
noncomputable def bF(t:Nat->Addr):Nat->List PV->List PV
 |_,[]=>[]
 |i,.ob _ c::r=>.ob (some (t i)) c::bF t (i+1) r
 |i,x::r=>x::bF t (i+1) r
noncomputable def u6(t:Nat->Addr):Nat->List PV->Ds->Ds
 |_,[],_=>[]
 |i,.ob _ _::a,some (.ob w c)::r=>(if w=some (t i)then some (.ob none c)else none)::u6 t (i+1) a r
 |i,_::a,_::r=>none::u6 t (i+1) a r
 |i,_::a,[]=>none::u6 t (i+1) a []
noncomputable def Ef(args:List PV)(t:Nat->Addr):Out->Option (PV×Ds)
 | .retO pv ds=>some (pv,u6 t 0 args ds)
 | .next ds=>some (.dat .none,u6 t 0 args ds)
 |_=>none
noncomputable def ny(n N:Nat)(G:DO):List PV->Option (PV×Ds):=λargs=>if args.length=n then
 (open Classical in if h:∃r,∀t,(G ((bF t 0 args).map some++w9 (N-n) none)).bind (Ef args t)=some r then some h.choose else none)else none
theorem eo{n N:Nat}{G:DO}{args:List PV}{r:PV×Ds}(b:args.length=n)(h:∀t,(G ((bF t 0 args).map some++w9 (N-n) none)).bind (Ef args t)=some r):ny n N G args=some r:=by
 delta ny;rw[d9 b];have a:∃r,∀t,(G ((bF t 0 args).map some++w9 (N-n) none)).bind (Ef args t)=some r:=⟨r,h⟩;rw[dif_pos a];have:=a.choose_spec λ_=>0
 rw[h λ_=>0]at this
 exact this.symm
set_option tactic.hygienic true in
theorem CL{n N:Nat}{G:DO}{args:List PV}{r:PV×Ds}(h:ny n N G args=some r):args.length=n/\∀t,(G ((bF t 0 args).map some++w9 (N-n) none)).bind (Ef args t)=some r:=by
 unfold ny at h;split at h
 . rename_i a;split at h
   . rename_i b;cases h;exact⟨a,b.choose_spec⟩
   . exact nE h
 . exact nE h
theorem xG(t:Nat->Addr):∀(args:List PV) (i k:Nat),(bF t i args)[k]? = (args[k]?).map λpv=>match pv with
  | .ob _ c=>.ob (some (t (i+k))) c
  |pv=>pv
 | [],i,k=>by simp[bF]
 |x::r,i,0=>by cases x<;>simp[bF]
 |x::r,i,k+1=>by
  have:=xG t r (i+1) k;rw[show i+1+k=i+(k+1)from JO _ _ _]at this
  cases x<;>(assumption)
set_option tactic.hygienic true in
theorem mQ(t:Nat->Addr):∀(args:List PV) (i k:Nat) (ds:Ds) (pv:PV),(u6 t i args ds)[k]? = some (some pv)->∃c w b,pv=.ob none c/\args[k]? = some (.ob w b)/\ds[k]? = some (some (.ob (some (t (i+k))) c))
 | [],i,k,ds,pv,h=>by simp[u6]at h
 |x::a,i,0,[],pv,h=>by cases x<;>simp[u6]at h
 |x::a,i,k+1,[],pv,h=>by
  have d:(u6 t (i+1) a [])[k]? = some (some pv):=by cases x<;>simpa [u6]using h
  obtain⟨c,w,b,_,_,h⟩:=mQ t a (i+1) k [] pv d;simp at h
 |x::a,i,0,y::r,pv,h=>by
  cases x with
  |ob e b =>
   cases y with
   |none=>simp[u6]at h
   |some y =>
    cases y with
    |ob w c =>
     simp only[u6]at h;split at h
     . rename_i j;cases h;exact⟨c,e,b,rfl,rfl,by simp[j]⟩
     . cases h
    |dat _=>simp[u6]at h
    |own _=>simp[u6]at h
  |dat _=>simp[u6]at h
  |own _=>simp[u6]at h
 |x::a,i,k+1,y::r,pv,h=>by
  have d:(u6 t (i+1) a r)[k]? = some (some pv):=by
   cases x with
   |ob e b =>
    cases y with
    |none=>assumption
    |some y=>cases y<;>simpa [u6]using h
   |dat _=>assumption
   |own _=>assumption
  obtain⟨c,w,b,f,g,l⟩:=mQ t a (i+1) k r pv d;exact⟨c,w,b,f,by assumption,by rw[ka,l,show i+1+k=i+(k+1)from JO _ _ _]⟩
theorem dz(t:Nat->Addr):∀(args:List PV) (i:Nat) (ds:Ds),(u6 t i args ds).length=args.length
 | [],_,_=>by simp[u6]
 |x::a,i,[]=>by cases x<;>simp[u6,dz t a]
 |x::a,i,y::r=>by
  cases x with
  |ob w c =>
   cases y with
   |none=>simp[u6,dz t a]
   |some y=>cases y<;>simp[u6,dz t a]
  |dat _=>simp[u6,dz t a]
  |own _=>simp[u6,dz t a]
section
variable{K:c9}{O:List Addr}{f6 H:Hp}{as:As}{σ:St}{ds:Ds}
theorem DS.slots(S:DS K O f6 as σ H ds){b:St}{ds':Ds}(l:b.length=ds'.length)(h:∀(i:Nat) (pv:PV),ds'[i]? = some (some pv)->∃a,ds[i]? = some (some a)/\∀c,Z0 K O as H σ[i]? c a->Z0 K O as H b[i]? c pv):DS K O f6 as b H ds':=by
 obtain⟨c,j,e,k⟩:=S.dH;refine⟨l,S.same,S.new,S.aw,c,j,e,λi pv f=>?_⟩
 obtain⟨a,d,g⟩:=h i pv f;exact g _ (k i a d)
end
section
variable{P:j3}{w:i7}{K:c9}{mg:Str->Option b8}{base:Heap}
noncomputable def addrOf:Option V->Addr
 |some (.ref a)=>a
 |_=>(0:Nat)
set_option tactic.hygienic true in
theorem DS.Gf{O:List Addr}{f6 H:Hp}{as:As}{vs:List V}{args:List PV}{N:List Str}(S:DS K O f6 as (vs.map some) H (args.map some)):
  DS K O f6 as (L2.start N vs) H ((bF (λi=>addrOf vs[i]?) 0 args).map some++w9 (N.length-args.length) none):=by
 have m:vs.length=args.length:=by have:=S.ls;simpa using this
 have lt:(bF (λi=>addrOf vs[i]?) 0 args).length=args.length:=by
  have:∀a i t,(bF t i a).length=a.length:=by
   intro a;induction a with
   |nil=>intro i t;rfl
   |cons x r p=>intro i t;cases x<;>simp[bF,p]
  exact this _ _ _
 refine S.slots (by delta L2.start;simp[lt,m]) λi pv b=>?_
 rw[Kl]at b;split at b
 . rename_i q;rw[S6,xG,zX]at b;have f:i<args.length:=by simpa [lt]using q
   have e:i<vs.length:=by lia
   rw[U5 f]at b;have k:(L2.start N vs)[i]? = (vs.map some)[i]?:=by delta L2.start;rw[pR (by simpa using e)]
   have s:(args.map some)[i]? = some (some args[i]):=by rw[S6,U5 f];rfl
   refine⟨args[i],s,λy h=>?_⟩
   rw[k];simp only[pA,Function.comp,JE]at b;generalize args[i]=x at b h;cases x with
   |dat d=>simp only at b;rw[<-b];exact h
   |own l=>simp only at b;rw[<-b];exact h
   |ob w c =>
    rw[<-b];obtain⟨v,R,g,u,o,n⟩:=h;refine⟨v,R,g,.inr ?_,o,n⟩;rw[S6]at g;rw[U5 e]at g;have j:vs[i]=.ref v:=by simpa using g
    rw[ph,U5 e,j];rfl
 . have:=pN b;simp[JP]at this
set_option tactic.hygienic true in
theorem fw.XW {x j:Str} {M:Stmt} {f:Addr} {fd:l9} {N y:List Str} {k:Nat} {G:DO} (F:fw K x j M f fd) (S:R5 N y (k9 M)) (hN:y.length<=N.length) (u:∀(m:b8) (A:j6) (outer:List Env) (s:c8) (H:Hp) (E:XK),N4 k (A.deeper (K7 j (k9 M) (hz s) f m)) ->
   ∃t,aO (V4 s9 P w K mg base N j (k9 M) f m A outer s H E).sv (K6 M) t G):P5 P w K mg base s9 (k+1) f fd y (kG K (ny y.length N.length G)):=by
 have ln:∀g H Q E,kG K (ny y.length N.length G) g H Q E->g.length=y.length:=λg H Q E h=>by obtain⟨O,d,as,q,pv,Z,D,I,X⟩:=h;have:=D.ls;have hl:=(CL I).1;simp at this;simp[*]
 refine F.ok S ln λm A outer s H g Q E hr h=>?_
 obtain⟨O,d,as,q,pv,Z,D,I,X⟩:=h;obtain⟨t,ht⟩:=u m A outer s H E hr;refine⟨t,ht.p,?_⟩;obtain⟨hl,I⟩:=CL I;have W:=I λi=>addrOf g[i]?
 obtain⟨o,W,C⟩:=d4 W;have S1:=DS.Gf (N:=N) D;rw[hl]at S1;have:g.length=y.length:=by have:=D.ls;simp at this;simp[*]
 have L:∀a l T b,DS K O d a l T b->DS K O d a (g.map some) T (u6 (λi=>addrOf g[i]?) 0 q b):=λa l T b S2=>by
  refine S2.slots (by rw[dz,m9];simp[*]) λi pv hd=>?_
  obtain⟨c,w0,c0,rfl,h4,h5⟩:=mQ _ _ _ _ _ _ hd;refine⟨_,h5,λrg hs=>?_⟩
  obtain⟨v,R,z1,z2,z3,z4⟩:=hs;refine⟨v,R,?_,.inl rfl,z3,z4⟩;have n:addrOf g[0+i]? = v:=by
   rcases z2 with z|z
   . exact nS z
   . exact V6 z
  rw[ph]at n;obtain⟨v',_,B,_⟩:=D.slot i (.ob w0 c0) (by rw[S6,h4];rfl)
  rw[B];rw[S6]at B;cases e:g[i]? with
  |none=>rw[e]at B;exact nE B
  |some x =>
   rw[e]at B n;have y1':x=.ref v':=by simpa using B
   rw[y1']at n;have Y:v'=v:=n;rw[Y]
 refine ht.t O d as (L2.start N g) H _ _ o S1 W ?_;cases o with
 |next b=>cases C;exact λa l V S'=>X a V V _ (L _ _ _ _ S') (e9.refl _) Dt.non
 |retO pv' b=>cases C;exact λa l T V v S' s r=>X a T V v (L _ _ _ _ S') s r
 |ret pv'=>exact nE C
 |brk b=>exact nE C
 |cont b=>exact nE C
 |up x=>exact nE C
 |upO t x b=>exact nE C
end
inductive AV where
 |d (x:b5)
 |s (i:Nat)
inductive wB(K:c9)(Hv:Hp)(σ:St):List V->List AV->Prop
 |nil:wB K Hv σ [] []
 |d {v x vs l}:Dt K Hv v x->wB K Hv σ vs l->wB K Hv σ (v::vs) (.d x::l)
 |s {v i vs l}:σ[i]? = some (some v)->wB K Hv σ vs l->wB K Hv σ (v::vs) (.s i::l)
noncomputable def Yj(K:c9)(t:TA)(F:Ds->Option (List AV)):Prop :=
 ∀(O:List Addr) (f6:Hp) (as:As) (σ:St) (H:Hp) (ds:Ds) (l:List AV) (Q:List V->Hp->Prop),DS K O f6 as σ H ds->F ds=some l->(∀vs H',e9 H H'->wB K (k6 H' as O) σ vs l->Q vs H')->t σ H Q
structure jj(X:Cx)(es:List Expr)(t:TA)(F:Ds->Option (List AV)):Prop where
 p:PA X es t
 t:Yj X.K t F
noncomputable def S8:Ds->Option (List AV):=λ_=>some []
noncomputable def t6(F:DV)(G:Ds->Option (List AV)):Ds->Option (List AV):=λds=>(F ds).bind λx=>(G ds).bind λl=>some (.d x.d::l)
noncomputable def B1(i:Nat)(G:Ds->Option (List AV)):Ds->Option (List AV):=λds=>match ds[i]? with
 |some (some (.ob _ _))=>(G ds).bind λl=>some (.s i::l)
 |_=>none
section
variable{X:Cx}{e:Expr}{es:List Expr}{te:TE}{t:TA}{F:DV}{Fl:Ds->Option (List AV)}
theorem Ri:jj X [] qR S8:=⟨ee,by intro O a d e H c l Q S b q;cases b;exact q [] H (e9.refl H) .nil⟩
theorem MO(h:PX X true e te F)(k:jj X es t Fl)(hs:autoParam (aH X e es) e8):jj X (e::es) (hZ te t) (t6 F Fl):=⟨T9 h.p k.p hs,by
 intro O a j f H i l Q S b q;obtain⟨x,s,b⟩:=d4 b;obtain⟨m,y,b⟩:=d4 b;cases b;refine h.t O a j f H i x _ S s λv n g u=>?_
 refine k.t O a j f n i m _ (S.grow g) y λo w c r=>?_
 exact q (v::o) w (g.trans c) (.d ((u.grow c).dt (S.dm)) r)⟩
set_option tactic.hygienic true in
theorem MN(i:Nat)(h:PE X e (D4 i))(k:jj X es t Fl)(hs:autoParam (aH X e es) e8):jj X (e::es) (hZ (D4 i) t) (B1 i Fl):=⟨T9 h k.p hs,by
 intro O b y n H u l Q S a q;unfold B1 at a;split at a
 . rename_i w c f;obtain⟨m,r,a⟩:=d4 a;cases a;obtain⟨v,R,d,_⟩:=S.slot i _ f;refine⟨_,d,?_⟩;refine k.t O b y n H u m _ S r λg x j o=>?_
   exact q (_::g) x j (.s d o)
 . exact nE a⟩
end
noncomputable def dB(ds:Ds):List AV->Option (List PV)
 | []=>some []
 | .d x::l=>(dB ds l).bind λr=>some (.dat x::r)
 | .s i::l=>match ds[i]? with
  |some (some (.ob _ c))=>(dB ds l).bind λr=>some (.ob none c::r)
  |_=>none
noncomputable def L1:List AV->List Nat
 | []=>[]
 | .d _::l=>L1 l
 | .s i::l=>i::L1 l
noncomputable def sr:Option PV->Option (Option PV)->Option PV
 |some (.ob _ c),some (some (.ob w _))=>some (.ob w c)
 |_,_=>none
set_option tactic.hygienic true in
theorem HB{x:Option PV}{o:Option (Option PV)}{pv:PV}(h:sr x o=some pv):∃w c b a,o=some (some (.ob w a))/\x=some (.ob b c)/\pv=.ob w c:=by
 unfold sr at h;split at h
 . rename_i b c w a;cases h;exact⟨w,c,b,a,rfl,rfl,rfl⟩
 . exact nE h
noncomputable def cO:List AV->Ds->Ds->Ds
 | .s i::l,x::r,ds=>cO l r (ds.set i (sr x ds[i]?))
 | .d _::l,_::r,ds=>cO l r ds
 |_,_,ds=>ds
noncomputable def dZ:List AV->Nat->Option Nat
 | [],_=>none
 | .d _::l,j=>(dZ l j).map (· + 1)
 | .s i::l,j=>if i=j then some 0 else(dZ l j).map (· + 1)
set_option tactic.hygienic true in
theorem gp:∀{l:List AV} {j k:Nat},dZ l j=some k->l[k]? = some (.s j)
 | [],j,k,h=>nE h
 | .d x::l,j,k,h=>by simp only[dZ,AR]at h;obtain⟨m,a,rfl⟩:=h;rw[ka];exact gp a
 | .s i::l,j,k,h=>by
  simp only[dZ]at h;split at h
  . rename_i e;cases h;rw[e];rfl
  . simp only[AR]at h;obtain⟨m,a,rfl⟩:=h;rw[ka];exact gp a
theorem Y6:∀{l:List AV} {j:Nat},j∈L1 l ↔ ∃k:Nat,l[k]? = some (AV.s j)
 | [],j=>by simp[L1]
 | .d x::l,j=>by
  rw[L1,Y6];constructor
  . rintro⟨k,h⟩;exact⟨k+1,by assumption⟩
  . rintro⟨k,h⟩;cases k with
    |zero=>simp at h
    |succ k=>exact⟨k,by assumption⟩
 | .s i::l,j=>by
  rw[L1,v8,Y6];constructor
  . rintro(h|⟨k,h⟩)
    . exact⟨0,by rw[h];rfl⟩
    . exact⟨k+1,by assumption⟩
  . rintro⟨k,h⟩;cases k with
    |zero =>
     have a:i=j:=by simpa using h
     exact .inl a.symm
    |succ k=>exact .inr ⟨k,by assumption⟩
theorem fB:∀{l:List AV} {j k:Nat},(L1 l).Nodup->l[k]? = some (.s j)->dZ l j=some k
 | [],j,k,_,h=>by simp at h
 | .d x::l,j,k,n,h=>by
  cases k with
  |zero=>simp at h
  |succ k =>
   simp only[dZ,fB (l:=l) n h,pA]
 | .s i::l,j,k,n,h=>by
  rw[L1,tT]at n;cases k with
  |zero =>
   have b:i=j:=by simpa using h
   simp[dZ,b]
  |succ k =>
   have a:i≠j:=λz=>n.1 (Y6.mpr ⟨k,by rw[z];exact h⟩)
   simp only[dZ,e7 a,fB n.2 h,pA]
set_option tactic.hygienic true in
theorem Vp{K:c9}{m:Hp}{j:St}{ds:Ds}{vs:List V}{l:List AV}{args:List PV}(o:wB K m j vs l)(h:dB ds l=some args):vs.length=l.length/\args.length=l.length/\∀(k:Nat) (pv:PV),args[k]? = some pv ->
  (∃x v,l[k]? = some (AV.d x)/\pv=.dat x/\vs[k]? = some v/\Dt K m v x)\/∃i w c v,l[k]? = some (AV.s i)/\ds[i]? = some (some (.ob w c))/\pv=.ob none c/\vs[k]? = some v/\j[i]? = some (some v):=by
 induction o generalizing args with
 |nil =>
  cases h;exact⟨rfl,rfl,λk pv h=>nE h⟩
 |d e t i =>
  obtain⟨r,f,h⟩:=d4 h;cases h;obtain⟨b,g,a⟩:=i f;refine⟨m5 (· + 1) b,m5 (· + 1) g,λk pv h=>?_⟩
  cases k with
  |zero=>exact .inl ⟨_,_,rfl,(V6 h).symm,rfl,e⟩
  |succ k=>exact a k pv h
 |s e t i =>
  rw[dB]at h;split at h
  . rename_i w c n;obtain⟨r,f,h⟩:=d4 h;cases h;obtain⟨b,g,a⟩:=i f;refine⟨m5 (· + 1) b,m5 (· + 1) g,λk pv h=>?_⟩
    cases k with
    |zero=>exact .inr ⟨_,w,c,_,rfl,n,(V6 h).symm,rfl,e⟩
    |succ k=>exact a k pv h
  . exact nE h
theorem qX:∀{l:List AV} {ds' ds:Ds},(cO l ds' ds).length=ds.length
 | [],_,_=>by simp[cO]
 | .d _::l,x::r,ds=>by rw[cO];exact qX
 | .d _::l,[],ds=>by simp[cO]
 | .s i::l,[],ds=>by simp[cO]
 | .s i::l,x::r,ds=>by rw[cO,qX,List.length_set]
theorem qY:∀{l:List AV} {ds' ds:Ds} {j:Nat} {pv:PV},(L1 l).Nodup->ds'.length=l.length->(cO l ds' ds)[j]? = some (some pv) ->
  (j∉L1 l/\ds[j]? = some (some pv))\/∃(k:Nat) (w:Option Addr) (c:OD) (f:Option Addr) (e:OD),l[k]? = some (AV.s j)/\ds[j]? = some (some (.ob w e))/\ds'[k]? = some (some (.ob f c))/\pv=.ob w c
 | [],_,ds,j,pv,_,_,h=>.inl ⟨by simp[L1],by assumption⟩
 | .d x::l,[],ds,j,pv,n,hl,h=>by simp at hl
 | .s x::l,[],ds,j,pv,n,hl,h=>by simp at hl
 | .d x::l,y::r,ds,j,pv,n,hl,h=>by
  rcases qY (l:=l) n (by simpa using hl) h with h|⟨k,w,c,f,e,g,b,o,m⟩
  . exact .inl h
  . exact .inr ⟨k+1,w,c,f,e,by assumption,b,by assumption,m⟩
 | .s i::l,y::r,ds,j,pv,n,hl,h=>by
  rw[L1,tT]at n;rcases qY n.2 (by simpa using hl) h with ⟨g,b⟩|⟨k,v,q,f,e,g,b,o,m⟩
  . by_cases a:i=j
    . subst a;rw[ud,d9 rfl]at b;obtain⟨_,b⟩:=A7 b;obtain⟨w,c,f,e,t,p,u⟩:=HB (V6 b);exact .inr ⟨0,w,c,f,e,rfl,t,by rw[p];rfl,u⟩
    . rw[aU a]at b;exact .inl ⟨by rw[L1,v8];exact λz=>z.elim (λz=>a z.symm) g,b⟩
  . have a:i≠j:=λz=>n.1 (Y6.mpr ⟨k,by rw[z];exact g⟩)
    rw[aU a]at b;exact .inr ⟨k+1,v,q,f,e,by assumption,b,by assumption,m⟩
theorem ID{H:Hp}{as bs:As}{O P:List Addr}(h:∀b,(b∈O\/some b∈as)↔(b∈P\/some b∈bs)):k6 H as O=k6 H bs P:=by
 funext b
 delta k6
 simp_all
section
variable{K:c9}{O:List Addr}{f6 H:Hp}{as:As}{σ:St}{ds:Ds}
set_option tactic.hygienic true in
theorem DS.Pm(S:DS K O f6 as σ H ds){vs:List V}{l:List AV}{args:List PV}(ha:wB K (k6 H as O) σ vs l)(hp:dB ds l=some args)(hn:(L1 l).Nodup):
  ∃Oc Hc ac,DS K Oc Hc ac (vs.map some) H (args.map some)/\∀f X ds',DS K Oc Hc f (vs.map some) X ds'->∃as2,DS K O f6 as2 σ X (cO l ds' ds)/\∀H' v pv,e9 X H'->RX K Oc f X H' v pv->RX K O as2 X H' v pv:=by
 obtain⟨rg,r1,r2,r3⟩:=S.dH;obtain⟨l1,l2,l3⟩:=Vp ha hp;have C:∀b,b∈(L1 l).flatMap rg ↔ ∃i∈L1 l,b∈rg i:=λb=>List.mem_flatMap
 generalize hR:(L1 l).flatMap rg=RI at C;generalize hT:(as.filterMap id).filter (λb=>decide (b∉RI))=B
 have n:∀b,b∈B↔some b∈as/\b∉RI:=λb=>by rw[<-hT,List.mem_filter,AB,gJ];simp
 have g:∀b,b∈RI->some b∈as:=λb F=>by obtain⟨i,_,h⟩:=(C b).mp F;exact r1 i b h
 have L:∀(R:List Addr) b,some b∈R.map some↔b∈R:=λR b=>by simp
 have G:∀b o,k6 H (RI.map some) [] b=some o↔b∉RI/\H b=some o:=λb o=>by rw[A9,L];simp
 have e0:∀H,k6 H (RI.map some) (O++B)=k6 H as O:=λH=>ID λb=>by
  rw[L,lI,n];constructor
  . rintro((h|⟨h,_⟩)|h)
    . exact .inl h
    . exact .inr h
    . exact .inr (g b h)
  . rintro(h|h)
    . exact .inl (.inl h)
    . by_cases c:b∈RI
      . exact .inr c
      . exact .inl (.inr ⟨h,c⟩)
 refine⟨O++B,k6 H (RI.map some) [],RI.map some,⟨?_,m7,λa h=>?_,λa h=>?_,λk=>match l[k]? with|some (.s i)=>rg i|_=>[],λk b h=>?_,λk k' b h A=>?_,λk pv h=>?_⟩,?_⟩
 . simp[l1,l2]
 . rw[L]at h;exact⟨by delta k6;rw[d9 (.inr ((L _ _).mpr h))],(S.new a (g a h)).2⟩
 . rcases List.mem_append.mp h with h|h
   . obtain⟨o,z⟩:=S.aw a h;exact⟨o,(G a o).mpr ⟨λq=>S.nO (g a q) h,S.same _ _ z⟩⟩
   . obtain⟨m,p⟩:=(n a).mp h;obtain⟨_,u,z⟩:=S.new a m;exact⟨_,(G a _).mpr ⟨p,z⟩⟩
 . dsimp only at h;split at h
   . rename_i i M;rw[L,C];exact⟨i,Y6.mpr ⟨k,M⟩,h⟩
   . simp at h
 . dsimp only at h A;split at h
   . rename_i i M;split at A
     . rename_i i' hi';have:=r2 i i' b h A;subst this;have q1:=fB hn M;rw[fB hn hi']at q1;exact(V6 q1).symm
     . simp at A
   . simp at h
 . rw[S6]at h;cases t:args[k]? with
   |none=>rw[t]at h;exact nE h
   |some pv0 =>
    rw[t]at h;have A:pv0=pv:=by simpa using h
    subst A;rcases l3 k pv0 t with ⟨x,v,D,rfl,z3,z4⟩|⟨i,w,c,v,D,z2,rfl,z3,z4⟩
    . exact⟨v,by rw[S6,z3];rfl,by rw[e0];exact z4⟩
    . dsimp only;rw[D];obtain⟨v',R,Q,y2,Y,Z⟩:=r3 i _ z2;rw[z4]at Q;have W:v=.ref v':=by simpa using Q
      subst W;exact⟨v',R,by rw[S6,z3];rfl,.inl rfl,Y,by rw[e0];exact Z⟩
 intro f X ds' P;obtain⟨rg',q1,q2,q3⟩:=P.dH;have hl':ds'.length=l.length:=by have:=P.ls;simp at this;lia
 have na:∀b,some b∈f->b∉O/\b∉B/\f6 b=none:=λb F=>by
  have z:=(P.new b F).1;refine⟨λq=>?_,λq=>?_,?_⟩
  . obtain⟨o,y⟩:=S.aw b q;rw[(G b o).mpr ⟨λq'=>S.nO (g b q') q,S.same _ _ y⟩]at z
    exact nS z
  . obtain⟨m,p⟩:=(n b).mp q;obtain⟨_,u,y⟩:=S.new b m;rw[(G b _).mpr ⟨p,y⟩]at z;exact nS z
  . cases y:f6 b with
    |none=>rfl
    |some o =>
     rw[(G b o).mpr ⟨λq'=>?_,S.same _ _ y⟩]at z
     . exact nS z
     . rw[(S.new b (g b q')).1]at y;exact nE y
 have e1:∀H xs,k6 H (xs++f) (O++B)=k6 H (xs++(f++B.map some)) O:=λH xs=>ID λb=>by
  rw[lI,lI,lI,lI,L];constructor
  . rintro((h|h)|h|h)
    . exact .inl h
    . exact .inr (.inr (.inr h))
    . exact .inr (.inl h)
    . exact .inr (.inr (.inl h))
  . rintro(h|h|h|h)
    . exact .inl (.inl h)
    . exact .inr (.inl h)
    . exact .inr (.inr h)
    . exact .inl (.inr h)
 have e2:∀H:Hp,k6 H f (O++B)=k6 H (f++B.map some) O:=λH=>e1 H []
 have sm:e9 (k6 H as O) (k6 X (f++B.map some) O):=Y8 λb o m p T=>by
  have F:=λz=>p (g b z)
  refine⟨m,λz=>?_,P.same _ _ ((G b o).mpr ⟨F,T⟩)⟩
  rcases List.mem_append.mp z with z|z
  . have:=(P.new b z).1;rw[(G b o).mpr ⟨F,T⟩]at this;exact nS this
  . exact p ((n b).mp ((L _ _).mp z)).1
 refine⟨f++B.map some,⟨by rw[qX];exact S.ls,λb o h=>P.same _ _ ((G b o).mpr ⟨λq'=>?_,S.same _ _ h⟩),λb h=>?_,S.aw,λj=>match dZ l j with|some k=>rg' k|none=>rg j,λj b h=>?_,λj N b h A=>?_,λj pv h=>?_⟩,λH' v pv s r=>?_⟩
 . rw[(S.new b (g b q')).1]at h;exact nE h
 . rcases List.mem_append.mp h with h|h
   . exact⟨(na b h).2.2,(P.new b h).2⟩
   . obtain⟨m,p⟩:=(n b).mp ((L _ _).mp h);obtain⟨z,u,y⟩:=S.new b m;exact⟨z,u,P.same _ _ ((G b _).mpr ⟨p,y⟩)⟩
 . dsimp only at h;split at h
   . exact ao _ (q1 _ b h)
   . rename_i hj;refine D0 _ ((L _ _).mpr ((n b).mpr ⟨r1 j b h,λz=>?_⟩))
     obtain⟨i,M,z⟩:=(C b).mp z;have:=r2 i j b z h;subst this;obtain⟨k,t⟩:=Y6.mp M;rw[fB hn t]at hj;exact nS hj
 . have no:∀(j N k),dZ l j=some k->dZ l N=none->b∈rg' k->b∈rg N->False:=λj N k hj hj' F hb'=>by
     have z:=q1 k b F;have:b∉RI:=λz=>by obtain⟨i,M,z⟩:=(C b).mp z;have:=r2 i N b z hb';subst this;obtain⟨k,t⟩:=Y6.mp M;rw[fB hn t]at hj';exact nS hj'
     exact(na b z).2.1 ((n b).mpr ⟨r1 N b hb',this⟩)
   dsimp only at h A;split at h
   . rename_i k t;split at A
     . rename_i k' E;have:=q2 k k' b h A;subst this;have D:=gp t;rw[gp E]at D;cases D;rfl
     . rename_i E;exact(no j N k t E h A).elim
   . rename_i t;split at A
     . rename_i k' E;exact(no N j k' E t A h).elim
     . exact r2 j N b h A
 . rcases qY hn hl' h with ⟨m,p⟩|⟨k,w,c,w0,c0,m,p,T,rfl⟩
   . have:dZ l j=none:=by
       cases z:dZ l j with
       |none=>rfl
       |some k=>exact absurd (Y6.mpr ⟨k,gp z⟩) m
     dsimp only;rw[this];refine(r3 j pv p).xW sm (λb F o z=>P.same _ _ ((G b o).mpr ⟨λq=>?_,z⟩)) λb z=>z
     obtain⟨i,M,y⟩:=(C b).mp q;have e:=r2 i j b y F;subst e;exact m M
   . dsimp only;rw[fB hn m];obtain⟨v',R,Q,y2,Y,Z⟩:=q3 k _ T;obtain⟨v0,R0,x1,x2,_⟩:=r3 j _ p;have t:k<args.length:=by rw[l2];exact(List.getElem?_eq_some_iff.mp m).1
     rcases l3 k _ (U5 t)with ⟨x,v,D,_⟩|⟨i,w',c',v,D,z2,z3,z4,z5⟩
     . rw[m]at D;cases D
     . rw[m]at D;cases D;rw[S6,z4]at Q;have W:v=.ref v':=by simpa using Q
       subst W;rw[z5]at x1;have x1':v'=v0:=by simpa using x1
       subst x1';exact⟨v',R,z5,x2,Y,by rw[<-e2];exact Z⟩
 . cases pv with
   |dat d =>
    have r':Dt K (k6 H' f (O++B)) v d:=r;rw[e2]at r';exact r'
   |own l =>
    obtain⟨a,xs,Q,y2,Y,Z⟩:=r;refine⟨a,xs,Q,y2,Y,?_⟩;have:=e1 H' [some a];rw[show(some a::(f++B.map some))=[some a]++(f++B.map some)from rfl,<-this]
    exact Z
   |ob w c =>
    obtain⟨o,R,Q,y2,Y,Z⟩:=r;refine⟨o,R,Q,y2,Y,?_⟩;rw[<-e1 H' (R.map some)];exact Z
end
noncomputable def Xj(K:c9)(te:TE)(F:Ds->Option (PV×Ds)):Prop :=
 ∀(O:List Addr) (f6:Hp) (as:As) (σ:St) (H:Hp) (ds:Ds) (pv:PV) (ds':Ds) (Q:VK),DS K O f6 as σ H ds->F ds=some (pv,ds')->(∀as' Hm H' v,DS K O f6 as' σ Hm ds'->e9 Hm H'->RX K O as' Hm H' v pv->Q v H')->te σ H Q
structure qJ(X:Cx)(e:Expr)(te:TE)(F:Ds->Option (PV×Ds)):Prop where
 p:PE X e te
 t:Xj X.K te F
noncomputable def F5(f:List PV->Option (PV×Ds))(Fl:Ds->Option (List AV)):Ds->Option (PV×Ds):=λds=>(Fl ds).bind λl=>if (L1 l).Nodup then(dB ds l).bind λargs=>(f args).bind λr=>some (r.1,cO l r.2 ds)else none
section
variable{X:Cx}{e o:Expr}{es:List Expr}{te:TE}{t:TA}{F:DV}{FO:Ds->Option (PV×Ds)}{Fl:Ds->Option (List AV)}{pos pos' apos p:Pos}{f':List PV->Option (PV×Ds)}
theorem Lp{E:XK}(z:jj X es t Fl):Xj X.K (jO (kG X.K f') [] E t) (F5 f' Fl):=by
 intro O b I p H s pv o Q S a q;obtain⟨l,D,a⟩:=d4 a;obtain⟨r,a⟩:=A7 a;obtain⟨c,y,a⟩:=d4 a;obtain⟨⟨d,j⟩,w,a⟩:=d4 a;cases a;refine z.t O b I p H s l _ S D λL M m u=>?_
 obtain⟨F,A,k,C,back⟩:=(S.grow m).Pm u y r;rw[Q8];refine⟨F,A,k,c,d,j,C,w,λe i h v G g B=>?_⟩
 obtain⟨f,n,x⟩:=back e i j G;exact q f i h v n g (x h v d g B)
noncomputable def gv(nm m:Str)(i:Nat)(f:List PV->Option (PV×Ds))(Fl:Ds->Option (List AV)):Ds->Option (PV×Ds):=λds=>(iO nm i ds).bind λx=>match G4 m x.2 with
 |none=>F5 f (B1 i Fl) ds
 |some _=>none
noncomputable def xj(i:Nat)(F:Ds->Option (PV×Ds)):DO:=λds=>(F ds).bind λr=>some (.next (r.2.set i (some r.1)))
noncomputable def sI(i:Nat)(F:Ds->Option (PV×Ds)):DO:=λds=>(F ds).bind λr=>some (.next (r.2.set i (some (.dat r.1.d))))
noncomputable def aL(F:DV):DO:=λds=>(F ds).bind λpv=>some (.retO pv ds)
theorem Ml{i:Nat}{x:Str}(y:X.N.Nodup)(s:X.N[i]? = some x)(m:Loc X.env.scope x)(c:qJ X e te FO)(hs:autoParam (N8 e (some (.Name x pos')) pos.line X.env=pure false) e8)(f:autoParam (lT X x) W9):
  B8 X (.Assign [.Name x pos'] e pos) (mh te (X6 i)) (xj i FO):=⟨sf y s m c.p hs f,by
 intro O a z l H u D o S h q;obtain⟨⟨pv,g⟩,n,h⟩:=d4 h;cases h;refine c.t O a z l H u pv g _ S n λr A B v w k d=>?_
 obtain⟨b,j⟩:=w.store k i d;exact q b _ _ j⟩
theorem GK{i:Nat}{x:Str}(u:X.N.Nodup)(r:X.N[i]? = some x)(l:Loc X.env.scope x)(b:qJ X e te FO)(hs:autoParam (N8 e (some (.Name x pos')) pos.line X.env=pure false) e8)(f:autoParam (lT X x) W9):
  B8 X (.Assign [.Name x pos'] e pos) (mh te (X6 i)) (sI i FO):=⟨sf u r l b.p hs f,by
 intro O a w k H s D o S h q;obtain⟨⟨pv,g⟩,m,h⟩:=d4 h;cases h;refine b.t O a w k H s pv g _ S m λn y z v c j d=>?_
 exact q _ _ _ ((c.grow j).set i (d.dt (c.dm (fr:=true))))⟩
theorem Mp(c:PX X true e te F):B8 X (.Return (some e) pos) (nR te) (aL F):=⟨kL c.p,by intro O a d b H j D o S h q;obtain⟨pv,i,h⟩:=d4 h;cases h;exact c.t O a d b H j pv _ S i λv f g k=>q d b H f v S g k⟩
noncomputable def Ez:PV×Ds->Option OD
 |(.dat .none,some (.ob _ c)::_)=>some c
 |_=>none
set_option tactic.hygienic true in
theorem HN{r:PV×Ds}{c:OD}(h:Ez r=some c):∃w d,r=(.dat .none,some (.ob w c)::d):=by
 unfold Ez at h;split at h
 . rename_i w a d;cases h;exact⟨w,d,rfl⟩
 . exact nE h
noncomputable def ql(nm:Str)(f:List PV->Option (PV×Ds))(Fl:DL):DV:=λds=>(Fl ds).bind λl=>(f (.ob none (.ins nm [])::l.map .dat)).bind λr=>(Ez r).bind λc=>some (.ob none c)
set_option tactic.hygienic true in
theorem Qv{CX:fq}{E:XK}{k:Nat}{f C:Addr}{fd:l9}{ps:List Str}{x:Str}{Fd:DL}(T:fV X.K x C)(M:Mk X.K C f)(G:P5 X.prog X.w X.K X.mg X.base CX k f fd ps (kG X.K f'))(hr:N4 (k+1) X.A)(hg:Gl X x)(hm:X.mg x=some (.ref C))(r:Binds X.K fd ps [])(hx:Passes CX X E)(ha:bz X true (e::es) t Fd)(hdb:autoParam (bA x) j9)(he:autoParam (aH X e es) e8)(hpl:autoParam (cT X pos es) e8):
  PX X true (.Call (.Name x p) (e::es) [] pos) (OE C (kG X.K f') [] E t) (ql x f' Fd):=⟨QZ M G hr hg hm r .nil hx ha.p hdb he hpl,by
 intro O D as σ H ds pv Q S m q;obtain⟨l,P,m⟩:=d4 m;obtain⟨r0,h2,m⟩:=d4 m;obtain⟨c,h3,m⟩:=d4 m;cases m;obtain⟨w,dr,rfl⟩:=HN h3;refine ha.t O D as σ H ds l _ S P λvs g Y r1=>λz j hz hdx hne=>?_
 have S1:=S.grow Y;have nas:∀b,some b∈as->∃u,g b=some u:=λb r=>let ⟨_,u,y⟩:=S1.new b r;⟨_,y⟩
 generalize hT:as.filterMap id=RT;have n:∀b,b∈RT↔some b∈as:=λb=>by rw[<-hT,AB];simp
 have I:e9 g (upd g j (.own z)):=e9.new hdx;have B:upd g j (.own z) z=none:=by rw[i8 (λy=>hne y.symm)];exact hz
 have sz:e9 (upd g j (.own z)) (upd (upd g j (.own z)) z (.ins C j [])):=e9.new B;have nz:∀b u,g b=some u->b≠z:=λb u h y=>by rw[y,hz]at h;exact nE h
 refine⟨O++RT,upd g j (.own z),[some z],_,_,_,?_,h2,λas' Hm H' v S' s' r'=>?_⟩
 . have hl:=r1.length;refine⟨by simp[hl],sz,λa h=>?_,λa h=>?_,λk=>if k=0 then[z]else[],λk b h=>?_,λk k' b h L=>?_,λk pv h=>?_⟩
   . have:a=z:=by simpa using h
     subst this;exact⟨B,Cl.i C j [],l7⟩
   . rcases List.mem_append.mp h with h|h
     . obtain⟨u,y⟩:=S1.aw a h;exact⟨u,I _ _ (S1.same _ _ y)⟩
     . obtain⟨u,y⟩:=nas a ((n a).mp h);exact⟨u,I _ _ y⟩
   . dsimp only at h;split at h
     . rw[mem_singleton.mp h];exact o2
     . simp at h
   . dsimp only at h L;split at h
     . split at L
       . rename_i s F;rw[s,F]
       . simp at L
     . simp at h
   . cases k with
     |zero =>
      have L:PV.ob none (OD.ins x [])=pv:=by simpa using h
      rw[<-L];exact⟨z,[z],rfl,.inl rfl,λb r=>r,C,j,[],[],rfl,T.ns,l7,.nil⟩
     |succ k =>
      simp only[o5,ka,Z2,S6,AR,Function.comp,JE]at h;obtain⟨d,h3,rfl⟩:=h;obtain⟨v,y1,V⟩:=r1.get h3;refine⟨v,by simp[y1],V.same (Y8 λb o s F N=>⟨λy=>?_,λy=>?_,sz _ _ (I _ _ N)⟩)⟩
      . rcases List.mem_append.mp y with y|y
        . exact s y
        . exact F ((n b).mp y)
      . have:b=z:=by simpa using y
        exact nz b o N this
 . obtain⟨v',R,y1,_,V,y3⟩:=S'.slot 0 (.ob w c) rfl;have Z:z=v':=by simpa using y1
   subst Z;have ev:v=.non:=by cases r';rfl
   refine⟨ev,q _ H' (Y.trans ((I.trans S'.same).trans s')) ⟨z,R,rfl,.inl rfl,λb r=>?_,y3.same (Y8 λb o s F N=>⟨λy=>s (ao _ y),λy=>?_,s' _ _ N⟩) λb _ o y=>s' _ _ y⟩⟩
   . have:=(S'.new b (V b r)).1;exact Y.free (I.free this)
   . rcases List.mem_append.mp y with y|y
     . obtain⟨b',q1,q2⟩:=mem_map.mp y;cases q2;exact F (V b q1)
     . exact s (D0 _ ((n b).mpr y))⟩
end
set_option tactic.hygienic true in
theorem Br(b:Bool)(l:Addr)(xs:Array b8):
  Meets (Builtin.«enumerate.__new__» ⟨[.type "enumerate",.ref l],[]⟩) (λ_ R s=>fS b s.heap l xs /\
   R (.ok (.ret (.ref (s.heap.push (kS b l)).objs.size))) {s with heap:=(s.heap.push (kS b l)).push {cls:=.type "enumerate",data:=.fields #[.none,.bool false,.ref (hz s),P4 0,.none,.none]}}) :=
 .of_wp λe w A R s h=>by
  obtain⟨j,g,d,i,m⟩:=s;obtain⟨f,h⟩:=h;have:=sub_enumerate;have a:=f
  wp_walk using qg a
  refine wpAny_stack_any λk=>j4 ?_
  split
  . rename_i c _ _ _ _ _;cases(c==ti "enumerate")
    . wp_walk using qg a
      exact⟨_,rfl,h⟩
    . wp_walk using qg a
      exact⟨_,rfl,h⟩
  . wp_walk using qg a
    exact⟨_,rfl,h⟩
section
variable{prog:j3}{w:i7}{A:j6}{E:b8->c8->Prop}{s:c8}
theorem Ff{a:Bool}{l:Addr}{xs:Array b8}{Q:b8->c8->Prop}(f:fS a s.heap l xs)(h:∀h',IsEnum h' (s.heap.objs.size+1) s.heap.objs.size 0 .none->hV a h' s.heap.objs.size l 0->(∀b o,s.heap.get? b=some o->h'.get? b=some o)->Q (.ref (s.heap.objs.size+1)) {s with heap:=h'}):
  wpAny (model prog w) A (call (.type "enumerate") [.ref l]) Q E s:=by
 refine callType_new F.called_enumerate v7 (F.typeCall_enumerate_1 _) (F.newCall_enumerate_1 _) (λobj=>F.args_object_init_2 obj _) F.entry_enumerate_new (Br a l xs) ⟨f,?_⟩
 have d:(s.heap.push (kS a l)).objs.size=s.heap.objs.size+1:=eT ..;have e:(kS a l).isFreed=false:=by cases a<;>rfl
 rw[d];have c:IsEnum ((s.heap.push (kS a l)).push {cls:=.type "enumerate",data:=.fields #[.none,.bool false,.ref s.heap.objs.size,P4 0,.none,.none]}) (s.heap.objs.size+1) s.heap.objs.size 0 .none:=by have:=J8 (s.heap.push (kS a l)) (o:={cls:=.type "enumerate",data:=.fields #[.none,.bool false,.ref s.heap.objs.size,P4 0,.none,.none]}) rfl;rw[d]at this;exact this
 exact⟨⟨_,c,rfl⟩,h _ c (.new (o9 _ (J8 _ e))) λb o x=>o9 _ (o9 _ x)⟩
end
theorem Vi{prog:j3}{w:i7}{A:j6}{f:Bool}(m:A.handled=none)(it l:Addr)(c:l≠it)(xs:Array b8):
  Draws prog w A it [it,l] xs.size (λi v=>xs[i]? = some v) (λi h=>nM f h it l i xs) where
 live:=λi h a=>by
  cases f
  . exact(Draws.list (prog:=prog) (w:=w) m it l c xs).live i h a
  . obtain⟨o,y,_⟩:=(show h.IsTupleIter it l i/\h.IsTuple l xs from a).1
    exact⟨o,y⟩
 frame:=λi h j a u=>a.kept λb o q e=>u b (by rcases q with rfl|rfl<;>simp) o e
 item:=λi s Q E k a p=>by
  refine ia a c (x:=xs[i]) (by simp[k]) λj d n=>?_
  refine p _ j s.toks (by simp[k]) ?_ n
  have k2:=λo e=>n.extBut l o c e
  cases f
  . obtain⟨_,o,g,r⟩:=(show s.heap.IsListIter it l i/\s.heap.IsList l xs from a)
    exact⟨d,o,k2 o g,r⟩
  . obtain⟨_,o,g,r⟩:=(show s.heap.IsTupleIter it l i/\s.heap.IsTuple l xs from a)
    exact⟨d,o,k2 o g,r⟩
 done:=λs Q E a t=>jR m a q5 t
noncomputable def Xq(kd:Bool)(K:c9)(a:Addr):It :=
 ⟨λi H=>∃xs x,cL kd K H a xs/\xs[i]? = some x,
  λi H v H'=>∃p,v=.ref p/\H p=none/\∃x,H'=upd H p (.tup [.int i,x])/\∀xs,cL kd K H a xs->xs[i]? = some x,
  λi H=>∃xs,cL kd K H a xs/\xs.length<=i⟩
theorem FK{P:j3}{w:i7}{K:c9}{es:List Expr}{k:Nat}{pos:Pos}{O:Bool}{e it a:Addr}(t:e≠it):
  Turn P w K (.Tuple es k pos) (Xq O K a) [e,it] e (λi h=>(∃d,IsEnum h e it i d)/\hV O h it a i) where
 mem:=u3
 obj:=λi h g c b=>by
  have j:c=e\/c=it:=by simpa using b
  rcases j with rfl|rfl
  . obtain⟨d,q⟩:=g.1;exact⟨_,q,λv z=>by cases z⟩
  . exact g.2.obj
 keep:=λi h m g kk=>by obtain⟨d,q⟩:=g.1;exact⟨⟨d,kk e u3 _ q⟩,g.2.at λo z=>kk it u3 o z⟩
 item:=by
  intro X G hw hK b i f s S H E I B g hg;subst G hw hK;obtain⟨xs,x,C,ex⟩:=hg;obtain⟨l,Z,ox⟩:=I.BK C g.2;obtain⟨u,hu,ru⟩:=Z.get ex;obtain⟨d,M⟩:=g.1;have L:=B e u3;have r:i<l.toArray.size:=by
   have:i<l.length:=by
    by_cases c:i<l.length
    . exact c
    . rw[Kr (Ai M8)]at hu;exact nE hu
   omega
  have V:X.A.in1.handled=none:=I.ok.hd b;have D:Draws X.prog X.w X.A.in1 it [it,a] l.toArray.size (λi v=>l.toArray[i]? = some v) (λi h=>nM O h it a i l.toArray):=Vi V it a (C.x.ne I (B it u3)) l.toArray
  refine wpAny_pyNext_enum_itemD D M ox r t (by simp;exact⟨t,(C.x.ne I L).symm⟩) λx' m N G ho R Y hsz hk=>?_
  have ux:x'=u:=by
   have:l.toArray[i]? = some u:=by simpa using hu
   rw[this]at G;cases G;rfl
  subst ux;have Q:=I.i9.fresh F0;have I1:Inv X f S H {s with heap:=m,toks:=N+1}:=I.pT (ch:=[e,it]) (λc o b z=>hk c o (λq=>b (by simp[q])) (λq=>b (by simp[q])) z) (λc b=>B c XI)
  have I2:Inv X f S (upd H (hz s) (.tup [.int i,x])) {s with heap:=m,toks:=N+1}:=I1.wZ Q (cF I.lt) (.inr I.sz)
   (λn c z q=>by obtain⟨vv,q2⟩:=I.cell n c z;exact absurd q2.lt (by rw[q];exact S5 _))
   (λp hp q=>absurd (m6 (I.pin p hp).1) (by rw[q];exact S5 _))
   ⟨by show 2<=j8;rw[aT];decide,[.int i N,x'],.cons ⟨_,rfl⟩ (.cons ru .nil),⟨_,Y,rfl,_,rfl⟩⟩
  refine⟨_,rfl,wpAny_letOwnedTupleGo_enum ho λh2 z2 b2=>?_⟩
  have uz:∀c,c∈[e,it]->(upd H (hz s) (.tup [.int i,x])) c=none:=λc b=>by
   have r:c<(hz s):=by
    have j:c=e\/c=it:=by simpa using b
    rcases j with rfl|rfl
    . exact(m6 M)
    . obtain⟨o,z,_⟩:=g.2.obj;exact m6 z
   rw[i8 (J6 r)];exact(B c b).1
  have I3:Inv X f S (upd H (hz s) (.tup [.int i,x])) {s with heap:=h2,toks:=N+1}:=Inv.turned (s:={s with heap:=m,toks:=N+1}) I2 (λc o b z=>b2.extBut c o b z) (uz e u3) L.2.1 L.2.2.2.1 L.2.2.2.2.1 L.2.2.2.2.2
  refine⟨.ref (hz s),_,I3,rfl,⟨_,rfl,Q,x,rfl,λxs' y=>?_⟩,⟨⟨_,z2⟩,?_⟩,uz⟩
  . rw[y.inj I C];exact ex
  . have it':hV O m it a (i+1):=by
      cases O
      . exact(show m.IsListIter it a (i+1)/\_ from R).1
      . exact(show m.IsTupleIter it a (i+1)/\_ from R).1
    exact it'.at λo q=>b2.extBut _ _ t.symm q
 done:=by
  intro X G hw hK b i f s S H E I B g hg;subst G hw hK;obtain⟨xs,C,hend⟩:=hg;obtain⟨l,Z,ox⟩:=I.BK C g.2;obtain⟨d,M⟩:=g.1;have:=Z.length;have Q:s.TypeIs (.ref e) "enumerate":=⟨_,M,rfl⟩;refine d8 (tL (nj Q Kq (jE Kq Q F.entry_enumerate_next ?_ (F.args_enumerate_next_1 _))));show wpAny _ _ (field (.ref e) 2 >>= _) _ _ _
  refine d8 (H9 M rfl rfl ?_);refine d8 (jR (I.ok.hd b) ox (by simp;simp_all) λm x T y=>?_)
  obtain⟨o,ho,j⟩:=y;refine d8 (wpAny_isInstance ⟨o,ho,j⟩ isSubtype_stop ?_);refine j4 ⟨rfl,?_⟩;exact I.pT (ch:=[it]) (λc o b z=>T c o (λq=>b (by simp[q])) z) (λc b=>B c (by
   have:c=it:=by simpa using b
   simp[this]))
 self:=λ_ _ _ _ _ g h=>by obtain⟨d,q⟩:=g.1;exact wpAny_pyIter_enum q h
section
variable{X:Cx}{fr:Bool}{a:Expr}{ta:TA}{Fl:DL}{p pos:Pos}
noncomputable def IA(K:c9)(ta:TA):TI:=λσ H R=>ta σ H λvs H1=>∃a kd,vs=[.ref a]/\(∃xs,cL kd K H1 a xs)/\R (Xq kd K a) H1
theorem boot_enumerate:bW "enumerate" = some (.type "enumerate"):=by decide +kernel
theorem MD{es:List Expr}{k:Nat}{tp:Pos}(F:Gl X "enumerate")(o:X.mg "enumerate" = none)(v:PA X [a] ta)(hs:autoParam (u4 [a] X.env=[(false,eval a X.env)]) e8):
  PI X (.Tuple es k tp) (.Call (.Name "enumerate" p) [a] [] pos) (IA X.K ta):=by
 intro c s m H R I h;refine Call_ (kQ I F o boot_enumerate (uH (m4 (v pos c s m H _ I h) λz d ⟨G,l,g,w,n⟩=>?_) (by rw[hs];rfl) (by rfl)))
 obtain⟨x,L,e,⟨M,t⟩,q⟩:=n;subst e;obtain⟨u,e,y⟩:=vals1 w;subst e;cases y;obtain⟨z,D⟩:=g.Q3 t;refine Ff D λA j B C=>?_
 refine wpAny_pyIter_enum j ?_;have E:Inv X c m l {d with heap:=A}:=g.kept C
 refine⟨(hz d)+1,_,_,_,l,rfl,E,FK (by show @Ne Nat _ _;simp[*]),⟨⟨_,j⟩,B⟩,λb r=>?_,q⟩
 have i:b=(hz d)+1\/b=(hz d):=by simpa using r
 have f:(hz d)<=b:=by
  rcases i with e|e<;>rw[e]
  . exact pM _ _
  . exact C6 _
 exact g.oD f (g.i9.fresh f)
theorem zi:∀(l:List b5) (k:Int) (i:Nat),(U7 k l)[i]? = (l[i]?).map λd=>.tuple [.int (k+(i:Nat)),d]
 | [],k,i=>by rfl
 |d::r,k,0=>by simp[U7]
 |d::r,k,i+1=>by have:=zi r (k+1) i;simp only[U7,ka];rw[this,show k+1+i=k+((i+1:Nat)) by lia]
theorem NH:∀(l:List b5) (k:Int),(U7 k l).length=l.length:=by
 intro l_;induction l_ with
 |nil =>
  intro k;exact rfl
 |cons d r ih_ =>
  intro k;rw[U7,J2,ih_,J2]
set_option tactic.hygienic true in
theorem Mz{es:List Expr}{k:Nat}{tp:Pos}(Y:Gl X "enumerate")(E:X.mg "enumerate" = none)(m:bz X fr [a] ta Fl)(hs:autoParam (u4 [a] X.env=[(false,eval a X.env)]) e8):
  sS X fr (.Tuple es k tp) (.Call (.Name "enumerate" p) [a] [] pos) (IA X.K ta) (fu qm Fl):=⟨MD Y E m.p hs,by
 intro O e W G H v h R S b q;obtain⟨l,h1,b⟩:=d4 b;refine m.t O e W G H v l _ S h1 λvs D w N=>?_
 unfold qm at b;split at b
 . rename_i C;obtain⟨Z,hl,b⟩:=d4 b;cases b;cases N with
   |cons r P =>
    cases P;obtain⟨a,B,f,rfl,n,u⟩:=r.Q3 hl;refine⟨a,B,rfl,⟨f,m7.Q3 n⟩,q _ D w λH' g i=>?_⟩
    have c:=g.Q3 (sD.Q3 n);have:=u.length;rw[NH];refine⟨λs=>⟨f,f[i]'X8,c,U5 _⟩,λs=>⟨f,c,by simp[*]⟩,λx V y s=>?_⟩
    obtain⟨pp,Q,d,x',T,F⟩:=y;subst Q;subst T;obtain⟨A,L,I⟩:=u.get' (F f c);refine⟨e9.new d,.tuple [.int i,A],by rw[zi,L];simp,λvb j M=>?_⟩
    refine .tup (P0.of (A9.mpr ⟨λz=>?_,λz=>?_,l7⟩)) (.cons (.int _) (.cons (oz I g (e9.new d) j) .nil))
    . obtain⟨o,z⟩:=M _ z;rw[g _ _ z]at d;exact nS d
    . obtain⟨_,o,z⟩:=j _ z;rw[z]at d;exact nS d
 . exact nE b⟩
end
section
variable{X:Cx}{K':c9}{fr:Bool}{i k:Nat}{o e b:Expr}{es:List Expr}{to tb:TE}{t:TA}{F Fo Fb:DV}{Fd:DL}{nm f m:Str}{C g:Addr}{fd:l9}{ps:List Str}{pos pos' apos cpos:Pos}{CX:fq}{E:XK}{pl:Sem Bool}{fF:FV}
end
section
variable{X:Cx}{fr:Bool}{e:Expr}{es:List Expr}{te:TE}{t:TA}{F:DV}{Fl:Ds->Option (List PF)}{pos:Pos}
end
section
variable{X:Cx}{o:Expr}{k:Nat}{j}{pos cpos apos ipos npos:Pos}
end
section
variable{X:Cx}{tg o e:Expr}{pos cpos apos epos:Pos}{i j:Nat}
end
section
variable{X:Cx}
end
section
variable{X:Cx}{K':c9}{fr:Bool}{tg b e o:Expr}{tb te:TE}{F Fb:DV}{pos:Pos}
end
section
variable{X:Cx}{o e r k:Expr}{te tr tk:TE}{Fr Fk F:DV}{pos ipos opos:Pos}{i:Nat}
end
section
variable{prog:j3}{w:i7}{A:j6}{E:b8->c8->Prop}{hp:Heap}{gs:Array oX}{dr:Drawn}{tk:Nat}{os:OsState}
variable{nm qn:Str}{C N:Addr}{bs tl base:List b8}{hd:Bool}{sn:List Str}{sub:List b8}{ab:Bool}{col:Option Bool}{dd:Option Addr}{k0 k1 k2 k3 k5:Option b8}{B nid iid:String}
theorem HR(F:zH B nid iid base)(T:OwnTail hp base tl){mN:Str->Option b8}{args:List b8}{fi:Addr}{oi:Obj}{Q:PySem.Fin->c8->Prop}(hC:hp.get? C=some (fc nm qn C N bs tl hd sn sub ab col dd k0 k1 k2 k3 k5 nid))(hn:hp.Ns N mN)(hi:mN "__init__" = some (.ref fi))(hf:hp.get? fi=some oi)(hfc:oi.cls=.type "function")(hz:args.length<=j8)(hq:∀h' e,Heap.MadeExcOf hp h' e (.ref C) args->wpAny (model prog w) A (call (.ref fi) (.ref e::args)) (λr s'=>r=.none/\Q (.done (.ret (.ref e))) s') E ⟨h',gs,dr,tk,os⟩):
  wpAny (model prog w) A (Builtin.«type.__call__» ⟨.ref C::args,[]⟩) Q E ⟨hp,gs,dr,tk,os⟩:=by
 repeat (first|with_reducible refine eU hC ?_|with_reducible refine wpAny_madeBy_exc hC ?_|wp_step)
 refine codeAny_call_builtin_code (JN _ F.quiet) (wpAny_check_new_subT F T hC (codeAny_exc_new_subT F T hC (show wpAny _ _ _ _ _ _ from ?_) hz))
 have kp:∀b o,hp.get? b=some o->((hp.push {cls:=.type "tuple",data:=.seq args.toArray}).push {cls:=.ref C,data:=.fields #[.ref hp.objs.size,.none,.none,.none,.bool false,.none]}).get? b=some o :=
  λb o q=>o9 _ (o9 _ q)
 have at1:((hp.push {cls:=.type "tuple",data:=.seq args.toArray}).push {cls:=.ref C,data:=.fields #[.ref hp.objs.size,.none,.none,.none,.bool false,.none]}).get? (hp.objs.size+1)=some {cls:=.ref C,data:=.fields #[.ref hp.objs.size,.none,.none,.none,.bool false,.none]}:=by heap_get
 have cC:(t7 C::tl).contains (.ref C)=true:=by simp
 have c1:=kp _ _ hC;have n1:((hp.push {cls:=.type "tuple",data:=.seq args.toArray}).push {cls:=.ref C,data:=.fields #[.ref hp.objs.size,.none,.none,.none,.bool false,.none]}).Ns N mN:=let ⟨o,es,ep,q,r⟩:=hn;⟨o,es,ep,kp _ _ q,r⟩;unfold isInstance;repeat (first|with_reducible refine eU at1 ?_|(with_reducible refine pL c1 ?_;rw[cC])|wp_step)
 refine(show wpAny _ _ (sZ (.ref C) _) _ _ _ from wpAny_typeLookup_tail c1 n1 (T.keeps kp) F.mroIs F.init.lookup ?_)
 rw[hi];refine jy (d8 ?_);unfold bindSpecial;refine d8 (tG (T:="function") ⟨_,kp _ _ hf,hfc⟩ ?_);rw[d9 (by decide)]
 refine j4 (d8 (P1 (hq _ (hp.objs.size+1) ⟨kp,AM (lE _),hp.objs.size,at1,AM (C6 _),o9 _ (Heap.get?_push_at rfl rfl)⟩) (λr s' hr=>?_) λ_ _ x=>x))
 obtain⟨rfl,hQ⟩:=hr
 wp_walk
 exact hQ
theorem Jf(F:zH B nid iid base)(T:OwnTail hp base tl){mN:Str->Option b8}{args:List b8}{fi:Addr}{oi:Obj}{Q:b8->c8->Prop}(hC:hp.get? C=some (fc nm qn C N bs tl hd sn sub ab col dd k0 k1 k2 k3 k5 nid))(hn:hp.Ns N mN)(hi:mN "__init__" = some (.ref fi))(hf:hp.get? fi=some oi)(hfc:oi.cls=.type "function")(hz:args.length<=j8)(hq:∀h' e,Heap.MadeExcOf hp h' e (.ref C) args->wpAny (model prog w) (A.under (.builtin "type.__call__" ⟨.ref C::args,[]⟩)) (call (.ref fi) (.ref e::args)) (λr s'=>r=.none/\Q (.ref e) s') E ⟨h',gs,dr,tk,os⟩):
  wpAny (model prog w) A (call (.ref C) args) Q E ⟨hp,gs,dr,tk,os⟩:=by
 have f1:=tc_lookup;have f2:=tc_bind (.ref C);have hT:(⟨hp,gs,dr,tk,os⟩:c8).TypeIs (.ref C) "type":=⟨_,hC,rfl⟩;refine jr (codeAny_of_tree (show wpAny _ _ (callAny (.ref C) _) _ _ _ from ?_))
 repeat (any_goals (first|assumption|with_reducible refine eU hC ?_|wp_step))
 exact⟨rfl,codeAny_call_builtin_at (JN _ (by decide +kernel)) entry_typeCall (wpAny_check_type_call_sub hC (HR F T hC hn hi hf hfc hz λh' e hm=>hq h' e hm))⟩
end
section
variable{prog:j3}{w:i7}{A:j6}{E:b8->c8->Prop}{hp:Heap}{gs:Array oX}{dr:Drawn}{tk:Nat}{os:OsState}
variable{nm qn:Str}{C N e:Addr}{bs tl base:List b8}{hd:Bool}{sn:List Str}{sub:List b8}{ab:Bool}{col:Option Bool}{dd dx:Option Addr}{k0 k1 k2 k3 k5:Option b8}{B nid iid:String}
theorem Jh(F:zH B nid iid base)(T:OwnTail hp base tl){args:List b8}{Q:b8->c8->Prop}(hC:hp.get? C=some (fc nm qn C N bs tl hd sn sub ab col dd k0 k1 k2 k3 k5 nid))(he:A3 e C dx hp)(hz:args.length<=j8)(hq:∀h',(∀b o,b≠e->hp.get? b=some o->h'.get? b=some o)->A3 e C dx h'->Q .none ⟨h',gs,dr,tk,os⟩):wpAny (model prog w) A (call (.builtin iid) (.ref e::args)) Q E ⟨hp,gs,dr,tk,os⟩:=by
 obtain⟨t,he⟩:=he;refine jr (ur F.init.plain F.initEntry (wpAny_check_init_subT F T hC he rfl ?_))
 wp_walk
 refine hq _ (λb o hb q=>?_) ⟨hp.objs.size,?_⟩
 . rw[K9 _ _ (B3 hb)];exact o9 _ q
 . rw[eV _ (o9 _ he) rfl];rfl
end
theorem Ru{h:Heap}{a:Addr}{o:Obj}{hash:Int}{name:Str}{t:Tok}{v:b8}{c:Nat}(ho:h.get? a=some o)(hd:o.data=.dict #[⟨hash,.str name t,v⟩] c):h.Ns1 a λn=>if n=name then some v else none:=by
 refine⟨o,_,c,ho,hd,λe he=>⟨name,t,by simp at he;rw[he]⟩,by unfold UniqKeys;exact List.pairwise_singleton _ _,λn=>?_⟩
 unfold nsFind findBy;by_cases hn:n=name
 . subst hn;simp[Value.isStr]
 . have z:¬name=n:=λz=>hn z.symm
   simp[Value.isStr,z,hn]
theorem Bi(self:b8):refuseLoop self "__setattr__" [.type "ValueError",.type "Exception",.type "BaseException",.type "object"]=pure ():=by
 unfold refuseLoop;simp only[pB,List.forIn_nil]
 kernel_rfl
noncomputable abbrev L4:List b8:=[.type "ValueError",.type "Exception",.type "BaseException",.type "object"]
theorem qy(self:b8):∀{l:List Addr},refuseLoop self "__setattr__" (l.map t7++L4)=pure ()
 | []=>Bi self
 |c::r=>by rw[o5,cG,refuseLoop_ref];exact qy self
theorem RV{prog:j3}{w:i7}{A:j6}{E:b8->c8->Prop}{s:c8}{K:c9}{e C:Addr}{os:List Addr}{cd:ClassData}{name:Str}{v:b8}{Q:Unit->c8->Prop}(X:K.In s.heap)(he:A3 e C none s.heap)(hs:O0 K (.ref C) "__setattr__" = some (some (.builtin "object.__setattr__")))(hc:tJ K C=some cd)(hm:cd.mro=os.map t7++L4)(hd:cd.hasDict=true)(ha:O0 K (.ref C) name=some none)(h:∀h',(∀b o,b≠e->s.heap.get? b=some o->h'.get? b=some o)->A3 e C (some s.heap.objs.size) h'->h'.Ns1 s.heap.objs.size (λn=>if n=name then some v else none)->Q () {s with heap:=h',toks:=s.toks+2}):
  wpAny (model prog w) A (setAttr (.ref e) name v) Q E s:=by
 obtain⟨t,hx⟩:=he;have I:gG s.heap e _ C none:=⟨hx,rfl,rfl,aQ⟩;have SF:=PySem.F.store_object;have sub:zQ (model prog w) s.heap (isInstance (.ref e) (.type "object")) true:=I.type.andThen (AH X (by unfold zS;rw[hc,F7,e7 (by rw[hm];simp),hm];simp))
 refine JH X I hs (ur SF.slot.plain SF.entry (@PySem.W.check_slot (model prog w) _ _ {s with toks:=s.toks+1} "object.__setattr__" "object" "__setattr__" (.ref e) [.str name s.toks,v] [] _ SF.kind SF.split sub (SF.args (.ref e) (.str name s.toks) v) ?_))
 have lm:zQ (model prog w) s.heap (mroOf (.ref C)) cd.mro:=(AI X hc).andThen .now;rw[PySem.W.osa_eq,refuse_eq];refine d8 (d8 (lP (s:={s with toks:=s.toks+1}) I.type (d8 (lP (s:={s with toks:=s.toks+1}) lm ?_))))
 rw[hm,qy];refine j4 (d8 (lP (s:={s with toks:=s.toks+1}) I.type (d8 (lP (s:={s with toks:=s.toks+1}) (lQ X ha) (d8 (j4 ?_))))))
 show wpAny _ _ (Ld (.ref e) (.ref C) (.str name s.toks) name v _) _ _ _
 unfold Ld;have lc:zQ (model prog w) s.heap (classData C) cd:=AI X hc;refine d8 (j4 (d8 (d8 (tQ hx (d8 (lP (s:={s with toks:=s.toks+1}) lc ?_))))))
 rw[hd];have lt:e<s.heap.objs.size:=m6 hx;have a1:(s.heap.push {cls:=.type "dict",data:=.dict #[]}).get? e=some {cls:=.ref C,data:=.fields #[.ref t,.none,.none,.none,.bool false,.none]}:=o9 _ hx;have d1:(s.heap.push {cls:=.type "dict",data:=.dict #[]}).get? s.heap.objs.size=some {cls:=.type "dict",data:=.dict #[]}:=J8 _ rfl;refine(show wpAny _ _ (do let d <- alloc {cls:=ti "dict",data:=Data.dict #[]};update e λo=>{o with dict:=some d};pure (some d)) _ _ _ from d8 (wpAny_alloc ?_))
 refine d8 (wpAny_update a1 (j4 ?_));have ne:e≠s.heap.objs.size:=J6 lt;have d2:((s.heap.push {cls:=.type "dict",data:=.dict #[]}).update e λo=>{o with dict:=some s.heap.objs.size}).get? s.heap.objs.size=some {cls:=.type "dict",data:=.dict #[]}:=(K9 _ _ ne).trans d1
 have e2:((s.heap.push {cls:=.type "dict",data:=.dict #[]}).update e λo=>{o with dict:=some s.heap.objs.size}).get? e=some {cls:=.ref C,dict:=some s.heap.objs.size,data:=.fields #[.ref t,.none,.none,.none,.bool false,.none]}:=eV _ a1 rfl
 have k2:∀b o,b≠e->s.heap.get? b=some o->((s.heap.push {cls:=.type "dict",data:=.dict #[]}).update e λo=>{o with dict:=some s.heap.objs.size}).get? b=some o:=λb o hb q=>(K9 _ _ (B3 hb)).trans (o9 _ q)
 generalize (s.heap.push {cls:=.type "dict",data:=.dict #[]}).update e (λo=>{o with dict:=some s.heap.objs.size})=h2 at d2 e2 k2
 refine(show wpAny _ _ (KZ s.heap.objs.size (.str name s.toks) name v) _ _ {s with heap:=h2,toks:=s.toks+1}from ?_)
 unfold KZ nsSet;refine d8 (j4 (d8 (d8 (d8 (wpAny_askSetting (j4 (d8 (zK (d8 (tQ d2 ?_))))))))));dsimp only;rw[aRefKeyMayBeTheName_at,show((!(#[]:Array DictEntry).any (·.key.isStr name))&&(#[]:Array DictEntry).any (·.refKey))=false by simp]
 refine wpAny_updatePart d2 ?_;have d3:=eV (Obj.putName name (if name.cps.isEmpty=true then 0 else reduceHash ((model prog w).w.params.strHash name.cps)) (.str name (s.toks+1)) v) d2 rfl
 refine d8 (wpAny_lookBehind d3 (pastItsLine_dict (by simp)) (j4 (h _ (λb o hb q=>?_) ⟨t,?_⟩ (Ru d3 rfl))))
 . rw[K9 _ _ (cF (m6 q))];exact k2 b o hb q
 . rw[K9 _ _ (B3 ne)];exact e2
structure Y2(K:c9)(C CS fi:Addr)(fld:Str):Prop where
 cls:∃(nm qn:Str) (N:Addr) (bs:List b8) (sn:List Str) (sub:List b8) (ab:Bool) (col:Option Bool) (dd:Option Addr) (k0 k1 k2 k3 k5:Option b8),
  K.lookup C=some (fc nm qn C N bs (.ref CS::L4) true sn sub ab col dd k0 k1 k2 k3 k5 "ValueError.__new__")/\PySem.W.nsOkIn K N=true/\S0 K N "__init__" = some (some (.ref fi))
 tail:PySem.W.tailIn K L4 (.ref CS::L4)=true
 fn:∃o,K.lookup fi=some o/\o.cls=.type "function"
 sa:O0 K (.ref C) "__setattr__" = some (some (.builtin "object.__setattr__"))
 OV:O0 K (.ref C) fld=some none
 rd:Jv K CS (.type "type")=true
 ga:Aq K (.ref CS) "__getattribute__" = some (some (.builtin "type.__getattribute__"))
 Yc:Ju K (.ref CS) (.type "type") "__init__" = some (.val (.builtin "ValueError.__init__"))
section
variable{X:Cx}{C CS fi:Addr}{fld:Str}{x:Str}{p pos apos pos':Pos}{o e e1 e2:Expr}{t:TA}{ta tv:TE}
noncomputable def VW(C:Addr)(t:TA):TE:=λσ H Q=>t σ H λvs H1=>∃ea v dx,vs=[.ref ea,v]/\H1 ea=some (.ext (A3 ea C dx))/\Q .non H1
theorem rF{P:j3}{w:i7}{H:Hp}{h:Heap}{ea C:Addr}{dx:Option Addr}(x:A3 ea C dx h):G9 P w H h ea (.ext (A3 ea C dx)):=⟨x,let ⟨_,q⟩:=x;⟨_,q⟩,λ_ _ y k=>y.keep k⟩
theorem km {pl:Sem Bool} (T:Y2 X.K C CS fi fld) (hg:Gl X x) (hm:X.mg x=some (.ref CS)) (ha:PA X [e1,e2] t) (hdb:autoParam ((x==("__debug__" : Str))=false) j9) (hst:autoParam (u4 [e1,e2] X.env=(false,eval e1 X.env)::u4 [e2] X.env) e8) (hpl:autoParam ((R1 pos (u4 [e2] X.env)).any (·.1)=false) e8) (ht:autoParam (eval (.Call (.Attribute (.Name x p) "__init__" apos) [e1,e2] [] pos) X.env=(do
   let ov <- eval (.Name x p) X.env
   lq apos.atName
   let (f,first) <- holding [ov] (oZ ov "__init__" pl)
   callWith pos f first (R1 pos (u4 [e1,e2] X.env)) (lx pos (lF [] X.env)))) e8) :
  PE X (.Call (.Attribute (.Name x p) "__init__" apos) [e1,e2] [] pos) (VW C t):=by
 intro pins s σ H Q I h;refine AQ (pl:=pl) (m4 (Cc (v:=.ref CS) hg hm rfl hdb pins s σ H (λv H'=>v=.ref CS/\H'=H) I ⟨rfl,rfl⟩) λu s1 ⟨y,H1,I1,rx,ex,eH⟩=>?_) ht
 subst ex;subst eH;obtain rfl:u=t7 CS:=rx;refine PySem.W.method_cls I1.L7 T.ga (PySem.W.cls_value I1.L7 T.rd T.Yc (by decide +kernel) ?_)
 have I2:=I1.tok (s1.toks+1);refine La (m4 (ha pos pins _ σ H1 _ I2 h) λus s2 ⟨vs,H2,I3,r,ea,v,dx,ev,hH,q⟩=>?_) hst hpl
 subst ev;obtain⟨u1,u2,rfl,r1,r2⟩:=vals2 r;cases r1;obtain⟨nm,qn,N,bs,sn,sub,ab,col,dd,k0,k1,k2,k3,k5,hC,_,_⟩:=T.cls;obtain⟨hp,gs,dr,tk,os⟩:=s2;have kM:A3 ea C dx hp:=(I3.i9 ea _ hH).1;refine Jh KR (JM I3.L7 T.tail) (I3.L7 _ _ hC) kM (by rw[aT];simp) λh' kp ex'=>?_
 have e0:upd H2 ea (.ext (A3 ea C dx))=H2:=by
  funext b
  by_cases hb:b=ea
  . subst hb;rw[l7,hH]
  . rw[i8 hb]
 have I4:=I3.write (h':=h') (t':=tk) (x:=ea) (e:=ea) (o:=.ext (A3 ea C dx)) (by rw[hH];exact aQ) (.inl rfl) (λb u hb q=>kp b u hb q) (let ⟨_,q⟩:=ex';⟨_,q⟩) (rF ex')
 rw[e0]at I4;exact⟨.non,H2,I4,rfl,q⟩
noncomputable def VX(C:Addr)(fld:Str)(ta tv:TE):TS:=λD σ H=>tv σ H λy H1=>ta σ H1 λx H2=>∃ea,x=.ref ea/\H2 ea=some (.ext (A3 ea C none)) /\
 ∀dx,H2 dx=none->dx≠ea->D.nx σ (upd (upd H2 ea (.ext (A3 ea C (some dx)))) dx (.xd [(fld,y)]))
theorem uQ(T:Y2 X.K C CS fi fld)(ha:PE X o ta)(hv:PE X e tv)(hs:autoParam (N8 e (some (.Attribute o fld pos')) pos.line X.env=pure false) e8):PS X (.Assign [.Attribute o fld pos'] e pos) (VX C fld ta tv):=by
 intro pins s σ H D I h;refine Lb (m4 (hv pins s σ H _ I h) λu s1 ⟨y,H1,I1,ry,q⟩=>m4 (ha pins s1 σ H1 _ I1 q) λov s2 ⟨x,H2,I2,rx,ea,ex,hH,q2⟩=>?_) hs
 subst ex;obtain rfl:ov=t7 ea:=rx;obtain⟨nm,qn,N,bs,sn,sub,ab,col,dd,k0,k1,k2,k3,k5,hC,_,_⟩:=T.cls;have kM:A3 ea C none s2.heap:=(I2.i9 ea _ hH).1;refine RV (os:=[C,CS]) I2.L7 kM T.sa (by unfold tJ;rw[hC]) rfl rfl T.OV λh' kp ex' n1=>?_
 have I3:=I2.write (h':=h') (t':=s2.toks+2) (x:=ea) (e:=ea) (o:=.ext (A3 ea C (some s2.heap.objs.size))) (by rw[hH];exact aQ) (.inl rfl) (λb u hb q=>kp b u hb q) (let ⟨_,q⟩:=ex';⟨_,q⟩) (rF ex')
 have hz:H2 s2.heap.objs.size=none:=I2.i9.fresh (C6 _);have hne:s2.heap.objs.size≠ea:=cF (let ⟨_,q⟩:=kM;m6 q);have f:=I2.oD (C6 _) hz;refine⟨σ,_,I3.wZ (D:=s2.heap.objs.size) (o:=.xd [(fld,y)]) (by rw[i8 hne];exact hz) f.2.1 f.2.2.2.1 f.2.2.2.2.1 f.2.2.2.2.2 ⟨_,n1,λn=>?_⟩,q2 _ hz hne⟩
 show aa ([(fld,y)].lookup n) (if n=fld then some u else none)
 by_cases hn:n=fld
 . subst hn;simp only[bB,jD,if_true];exact ry
 . rw[e7 hn];have:(n==fld)=false:=by simpa using hn
   simp only[bB,this];exact aQ
end
section
variable{X:Cx}{pins:List (Addr×Obj)}{σ:St}{H:Hp}{s:c8}{h':Heap}
theorem Inv.WC{t':Nat}{D:Addr}{o:HO}(I:Inv X pins σ H s)(k:∀b u,s.heap.get? b=some u->h'.get? b=some u)(hDn:s.heap.get? D=none)(new:G9 X.prog X.w (upd H D o) h' D o):
  H D=none/\Inv X pins σ (upd H D o) {s with heap:=h',toks:=t'}:=by
 have hH:H D=none:=by
  cases q:H D with
  |none=>rfl
  |some u =>
   obtain⟨o,e⟩:=G9.get (I.i9 D u q);rw[hDn]at e;cases e
 refine⟨hH,?_⟩;have ne:∀b o,s.heap.get? b=some o->b≠D:=λb o e z=>by rw[z,hDn]at e;cases e
 have nh:∀b u,H b=some u->b≠D:=λb u e z=>by rw[z,hH]at e;cases e
 have hup:∀b u,H b=some u->upd H D o b=some u:=λb u e=>by rw[i8 (nh b u e)];exact e
 refine I.step (H':=upd H D o) (g':=s.gens) (d':=s.drawn) (ch:=[]) (λb hb=>absurd hb (by simp)) (λb o _ _ _ e _=>k b o e) (λb o _ _ _ e _=>⟨o.slots,k b o e⟩) (λb o _ e n=>by rw[i8 (ne b o e)];exact n)
  (λb o _ e=>⟨o,k b o e⟩) (λb xs e=>hup b _ e) (λb ob u e=>hup b _ e) (λb ps e=>⟨#[],by rw[hup b _ e];simp⟩) (λm' hm''=>?_) (λb u e=>?_) I.bare
 . obtain⟨ob,es,ep,ho,r⟩:=hm'';exact⟨ob,es,ep,k _ _ ho,r⟩
 . by_cases hb:b=D
   . subst hb;rw[l7]at e;cases e;exact new
   . rw[i8 hb]at e;exact(I.i9 b u e).iE (λc v _ q=>k c v q) (λc q=>hup c _ q) λc xs q=>hup c _ q
end
theorem Wx{K:c9}{h:Heap}{N:Addr}{m:Str->Option b8}{x:Str}{u:b8}(X:K.In h)(G:h.Ns N m)(e:S0 K N x=some (some u)):m x=some u:=by
 obtain⟨o,es,ep,ho,hd,_,hf⟩:=G;unfold S0 at e;split at e
 . rename_i q;have z:=X _ _ q;rw[ho]at z;cases z;cases hd;split at e
   . rename_i he;cases e;rw[<-hf];unfold nsFind findBy;rw[<-AD,he];rfl
   . split at e<;>cases e
 . cases e
section
variable{X:Cx}{C CS fi:Addr}{fld prm:Str}{k:Nat}{fd:l9}
end
noncomputable def cH(e T C dx:Addr)(h:Heap):Prop:=∃vs oT ts,h.get? e=some {cls:=.ref C,dict:=some dx,data:=.fields vs}/\vs[1]? = some (.ref T)/\T≠e/\h.get? T=some oT/\oT.data=.fields ts/\ts[3]? = some .none
section
variable{M:az}{A:j6}{E:b8->c8->Prop}{s:c8}
theorem sQ{base:Heap}{env:Env}{outer:List Env}{L e C dx:Addr}{vs:Array b8}{head:b8}{had:Bool}{Q:Unit->c8->Prop}(hfr:A.frames=some (env::outer))(hl:s.heap.FunFrames base (env::outer))(hf:env.frame=some L)(he:s.heap.get? e=some {cls:=.ref C,dict:=some dx,data:=.fields vs})(hz:1<vs.size)(h:∀h' T,s.heap.objs.size<=T->(∀b o,b≠e->b∉N0 (env::outer)->s.heap.get? b=some o->h'.get? b=some o)->(∀b o,b∈N0 (env::outer)->s.heap.get? b=some o->∃sl,h'.get? b=some {o with slots:=sl})->cH e T C dx h'->Q () {s with heap:=h'}):
  wpAny M A (do let a <- frameOf env;let pl <- entryPlaceOf L had;let b <- um head a .none (P4 L) .none pl;setField (.ref e) 1 b) (λ_ s'=>wpAny M A (jn (.ref e) none) Q E s') E s:=by
 have ene:e∉N0 (env::outer):=λhm=>by obtain⟨_,o,ho,hnf⟩:=hl.mem hm;rw[he]at ho;injection ho with ho;subst ho;exact hnf vs rfl
 refine d8 (wpAny_frameOf_fun hfr hl hf λg1 q1=>d8 (wpAny_entryPlaceOf λpl hpl=>?_))
 unfold um newFields;refine d8 (iq ?_ (hpl.sizeOk5 _ _ _ _ _));generalize ho:({cls:=.type "traceback",dict:=none,data:=.fields ([head,.ref L,.none,P4 L,.none]++(if pl.isEmpty then w9 6 N9 else pl)).toArray}:Obj)=oT
 have dT:oT.data=.fields ([head,.ref L,.none,P4 L,.none]++(if pl.isEmpty then w9 6 N9 else pl)).toArray:=by rw[<-ho]
 have fT:oT.isFreed=false:=pO dT;have e1:g1.get? e=some {cls:=.ref C,dict:=some dx,data:=.fields vs}:=(q1.2.1 e ene).trans he;have e2:=o9 (h:=g1) oT e1;have hT2:(g1.push oT).get? g1.objs.size=some oT:=J8 g1 fT;have hTe:g1.objs.size≠e:=cF (m6 e1);refine fh e2 rfl hz ?_;have e3:=eV (ag (·.setIfInBounds 1 (t7 g1.objs.size))) e2 rfl;have hT3:=(K9 (g1.push oT) (ag (·.setIfInBounds 1 (t7 g1.objs.size))) (B3 hTe)).trans hT2;unfold jn;refine d8 (H9 (x:=.ref g1.objs.size) e3 rfl (by simp[hz]) ?_)
 rw[d9 (show(t7 g1.objs.size != N9)=true by simp)]
 have s3:3<([head,.ref L,.none,P4 L,.none]++(if pl.isEmpty then w9 6 N9 else pl)).toArray.size:=by simp only[O1,A0,J2,pz];omega
 refine fh hT3 dT s3 (h _ g1.objs.size (by rw[q1.1];exact C6 _) (λb o hb hn q=>?_) (λb o hb q=>?_) ?_)
 . have q2:g1.get? b=some o:=(q1.2.1 b hn).trans q;rw[K9 _ _ (cF (m6 q2)),K9 _ _ (B3 hb)];exact o9 _ q2
 . obtain⟨sl,q2⟩:=q1.2.2 b o q;have hb':b≠e:=λz=>ene (z▸hb)
   refine⟨sl,?_⟩;rw[K9 _ _ (cF (m6 q2)),K9 _ _ (B3 hb')];exact o9 _ q2
 . refine⟨vs.setIfInBounds 1 (.ref g1.objs.size),_,_,?_,?_,hTe,eV _ hT3 (pO (lO dT _)),lO dT _,?_⟩
   . rw[K9 _ _ hTe];exact e3
   . simp[hz]
   . rw[Lc];rw[d9 s3];rfl
theorem Bs{base:Heap}{env:Env}{outer:List Env}{L e C dx:Addr}{Q:Unit->c8->Prop}(hfr:A.frames=some (env::outer))(hl:s.heap.FunFrames base (env::outer))(hf:env.frame=some L)(he:A3 e C (some dx) s.heap)(h:∀h' T,s.heap.objs.size<=T->(∀b o,b≠e->b∉N0 (env::outer)->s.heap.get? b=some o->h'.get? b=some o)->(∀b o,b∈N0 (env::outer)->s.heap.get? b=some o->∃sl,h'.get? b=some {o with slots:=sl})->cH e T C dx h'->Q () {s with heap:=h'}):
  wpAny M A (leaving env (.ref e)) Q E s:=by
 obtain⟨t,he⟩:=he;unfold leaving fb;simp only[hf];refine d8 (d8 (H9 (x:=.none) he rfl rfl ?_));rw[e7 (by decide)]
 exact sQ hfr hl hf he (by simp) h
theorem vN{base:Heap}{env:Env}{outer:List Env}{L e T C dx:Addr}{Q:Unit->c8->Prop}(hfr:A.frames=some (env::outer))(hl:s.heap.FunFrames base (env::outer))(hf:env.frame=some L)(he:cH e T C dx s.heap)(h:∀h' T',s.heap.objs.size<=T'->(∀b o,b≠e->b≠T->b∉N0 (env::outer)->s.heap.get? b=some o->h'.get? b=some o)->(∀b o,b∈N0 (env::outer)->s.heap.get? b=some o->∃sl,h'.get? b=some {o with slots:=sl})->cH e T' C dx h'->Q () {s with heap:=h'}):
  wpAny M A (fb (.ref e) env) (λ_ s'=>wpAny M A (jn (.ref e) none) Q E s') E s:=by
 obtain⟨vs,oT,ts,he,h1,hTe,hT,hdT,h3⟩:=he;have s1:1<vs.size:=(Array.getElem?_eq_some_iff.mp h1).1;have s3:3<ts.size:=(Array.getElem?_eq_some_iff.mp h3).1;unfold fb;simp only[hf];refine d8 (H9 he rfl h1 ?_);rw[d9 (show(t7 T != N9)=true by simp)]
 refine d8 (H9 hT hdT h3 ?_);rw[e7 (show ¬((N9==P4 L)=true) by simp[P4])]
 refine d8 (fh hT hdT s3 ?_);have oth:∀b,b≠T->(s.heap.update T (ag (·.setIfInBounds 3 N9))).get? b=s.heap.get? b:=λb hb=>K9 _ _ (B3 hb)
 have noT:T∉N0 (env::outer):=λhm=>by obtain⟨_,o,ho,hnf⟩:=hl.mem hm;rw[hT]at ho;injection ho with ho;subst ho;exact hnf ts hdT
 have noR:∀b o,s.heap.get? b=some o->(∀us,o.data≠.fields us)->b≠T:=λb o q hnf z=>by rw[z,hT]at q;injection q with q;subst q;exact hnf ts hdT
 have lt:T<s.heap.objs.size:=m6 hT;refine sQ (s:={s with heap:=s.heap.update T (ag (·.setIfInBounds 3 N9))}) hfr (hl.of_keeps λb o q hnf=>⟨o,(oth b (noR b o q hnf)).trans q,rfl⟩) hf ((oth e (B3 hTe)).trans he) s1
  λh' T' hT' k1 k2 fl=>h h' T' ?_ (λb o hb hbT hn q=>k1 b o hb hn ((oth b hbT).trans q)) (λb o hb q=>k2 b o hb ((oth b (λz=>noT (z▸hb))).trans q)) fl
 have e:(s.heap.update T (ag (·.setIfInBounds 3 N9))).objs.size=s.heap.objs.size:=by simp[Heap.update]
 rw[<-e];exact hT'
end
section
variable{M:az}{A:j6}{E:b8->c8->Prop}{env:Env}{s:c8}
variable{nm qn:Str}{C N:Addr}{bs tl:List b8}{hd:Bool}{sn:List Str}{sub:List b8}{ab:Bool}{col:Option Bool}{dd:Option Addr}{k0 k1 k2 k3 k5:Option b8}{nid:String}
theorem Gz{x:Sem b8}{Q:Flow->c8->Prop}(hb:tl.contains (.type "BaseException")=true)(hh:A.handled=none)(h:wpAny M A x (λv s1=>∃e dx,v=.ref e/\s1.heap.get? C=some (fc nm qn C N bs tl hd sn sub ab col dd k0 k1 k2 k3 k5 nid)/\A3 e C dx s1.heap/\E (.ref e) s1) E s):wpAny M A (sU env (some x) none) Q E s:=by
 have cB:(t7 C::tl).contains (.type "BaseException")=true:=by rw[AA,hb,pf]
 unfold sU;refine d8 (P1 h (λv s1 q=>?_) λ_ _ z=>z)
 obtain⟨e,dx,rfl,hC,⟨t,he⟩,hE⟩:=q;obtain⟨hp,gs,dr,tk,os⟩:=s1;repeat (first|with_reducible refine eU he ?_|with_reducible refine eU hC ?_|(with_reducible refine pL hC ?_;rw[cB])|wp_step)
 exact wpAny_raiseNew_none hh hE
end
section
variable{X:Cx}{C CS fi:Addr}{fld prm x:Str}{k:Nat}{fd:l9}{p pos cpos:Pos}{e:Expr}{t:TA}
end
theorem NG{P:j3}{w:i7}{H:Hp}{h:Heap}{ea C dx:Addr}(x:ExcAt ea C dx h):G9 P w H h ea (.ext (ExcAt ea C dx)):=⟨x,let ⟨_,q⟩:=x;⟨_,q⟩,λ_ _ y k=>y.keep k⟩
theorem cH.at{e T C dx:Addr}{h:Heap}(x:cH e T C dx h):ExcAt e C dx h:=let ⟨vs,_,_,q,_⟩:=x;⟨vs,q⟩
noncomputable def X4(P:j3)(w:i7):fq:=λouter H s E e s'=>∃ea T C dx H',e=.ref ea/\s'.os=s.os/\bT s'.gens/\Un (N0 outer) [] H H' s.heap s'.heap/\U6 P w H' s'.heap/\cH ea T C dx s'.heap/\H' ea=some (.ext (ExcAt ea C dx))/\H' T=none /\
 s.heap.objs.size<=T/\E (.ref ea) none H'
section
variable{X:Cx}{pins:List (Addr×Obj)}{σ:St}{H:Hp}{s:c8}
theorem Inv.flew{h':Heap}{ea C dx:Addr}{o:HO}{ch:List Addr}(I:Inv X pins σ H s)(he:H ea=some o)(ho:(∀xs,o≠.tup xs)/\(∀y,o≠.own y)/\(∀a u,o≠.aG a u)/\∀ps,o≠.tbl ps)(hT:∀b∈ch,H b=none)(hTn:∀b∈ch,X.K5.heap.objs.size<=b/\b≠X.env.locals/\(∀x c,X.env.cells.lookup x=some c->c≠b)/\∀p∈X.pn++pins,p.1≠b)(k1:∀b o,b≠ea->b∉ch->b∉N0 X.stack->s.heap.get? b=some o->h'.get? b=some o)(k2:∀b o,b∈N0 X.stack->s.heap.get? b=some o->∃sl,h'.get? b=some {o with slots:=sl})(hx:ExcAt ea C dx h'):
  Inv X pins σ (upd H ea (.ext (ExcAt ea C dx))) {s with heap:=h'}:=by
 have nea:∀b,H b=none->b≠ea:=λb n z=>by rw[z,he]at n;cases n
 have nst:∀b u,H b=some u->b∉N0 X.stack:=λb u q z=>by rw[I.kF b z]at q;cases q
 have nT:∀b u,H b=some u->b∉ch:=λb u q z=>by rw[hT b z]at q;cases q
 refine I.call (s:=s) (h':=h') (g':=s.gens) (t':=s.toks) (d':=s.drawn) (ch:=ch) ⟨λb o q n hb hc=>?_,λb o q n hb hc=>?_,λb o q n hc=>?_,λb o q hc=>?_,λb xs q=>?_,λb o u q=>?_,λb ps q=>?_⟩ (λb u q=>?_) I.bare λb hb=>?_
 . exact k1 b o (nea b n) hc hb q
 . exact k2 b o hb q
 . rw[i8 (nea b n)];exact n
 . by_cases hb:b∈N0 X.stack
   . obtain⟨sl,z⟩:=k2 b o hb q;exact⟨_,z⟩
   . by_cases hbe:b=ea
     . subst hbe;obtain⟨vs,z⟩:=hx;exact⟨_,z⟩
     . exact⟨_,k1 b o hbe hc hb q⟩
 . by_cases hb:b=ea
   . subst hb;rw[he]at q;cases q;exact absurd rfl (ho.1 xs)
   . rw[i8 hb];exact q
 . by_cases hb:b=ea
   . subst hb;rw[he]at q;cases q;exact absurd rfl (ho.2.2.1 o u)
   . rw[i8 hb];exact q
 . by_cases hb:b=ea
   . subst hb;rw[he]at q;cases q;exact absurd rfl (ho.2.2.2 ps)
   . rw[i8 hb];exact⟨#[],by rw[q];simp⟩
 . by_cases hb:b=ea
   . subst hb;rw[l7]at q;cases q;exact NG hx
   . rw[i8 hb]at q;refine(I.i9 b u q).iE (λc v hc r=>?_) (λc q2=>?_) (λc xs q2=>?_)
     . rcases hc with rfl|hc
       . exact k1 c v hb (nT c u q) (nst c u q) r
       . have hce:c≠ea:=λz=>by rw[z,he]at hc;cases hc;exact absurd rfl (ho.2.1 b)
         exact k1 c v hce (nT c _ hc) (nst c _ hc) r
     . have hce:c≠ea:=λz=>by rw[z,he]at q2;cases q2;exact absurd rfl (ho.2.1 b)
       rw[i8 hce];exact q2
     . have hce:c≠ea:=λz=>by rw[z,he]at q2;cases q2;exact absurd rfl (ho.1 xs)
       rw[i8 hce];exact q2
 . obtain⟨a1,a2,a3,a4⟩:=hTn b hb;exact⟨.inr a1,a2,a3,a4⟩
theorem Inv.above(I:Inv X pins σ H s){T:Addr}(h:s.heap.objs.size<=T):X.K5.heap.objs.size<=T/\T≠X.env.locals/\(∀x c,X.env.cells.lookup x=some c->c≠T)/\∀p∈X.pn++pins,p.1≠T:=by
 refine⟨t4 I.sz h,λz=>?_,λx c e z=>?_,λp hp z=>?_⟩
 . exact S5 _ (z▸A1 I.lt h)
 . obtain⟨v,o,ho,_⟩:=I.cell x c e;exact S5 _ (z▸A1 (m6 ho) h)
 . exact S5 _ (z▸A1 (m6 (I.pin p hp).1) h)
end
section
variable{P:j3}{w:i7}{K:c9}{mg:Str->Option b8}{base:Heap}{N:List Str}{qual:Str}{scope:E8}{f:Addr}{cd:b8}{A:j6}{outer:List Env}{s:c8}{H:Hp}{E:XK}
theorem Li{pins:List (Addr×Obj)}{σ:St}{H1:Hp}{s1:c8}{ea C dx:Addr}(I:Inv (V4 (X4 P w) P w K mg base N qual scope f cd A outer s H E) pins σ H1 s1)(he:H1 ea=some (.ext (A3 ea C (some dx))))(hE:E (.ref ea) none (upd H1 ea (.ext (ExcAt ea C dx)))):
  (V4 (X4 P w) P w K mg base N qual scope f cd A outer s H E).xe (.ref ea) s1:=by
 have kM:A3 ea C (some dx) s1.heap:=(I.i9 ea _ he).1;show wpAny (model P w) (A.deeper (K7 qual scope s.heap.objs.size f cd)) (leaving (K7 qual scope s.heap.objs.size f cd) (.ref ea)) _ _ s1
 refine Bs (L:=s.heap.objs.size) I.ok.frames I.stack rfl kM λh' T hT k1 k2 fl=>?_
 have J:=I.flew (h':=h') (ch:=[]) (dx:=dx) he ⟨λ_ z=>(by cases z),λ_ z=>(by cases z),λ_ _ z=>(by cases z),λ_ z=>(by cases z)⟩ (λb hb=>absurd hb (by simp)) (λb hb=>absurd hb (by simp)) (λb o hb _ hn q=>k1 b o hb hn q) (λb o hb q=>k2 b o hb q) fl.at
 have hTa:upd H1 ea (.ext (ExcAt ea C dx)) T=none:=by
  have n1:H1 T=none:=I.i9.fresh hT;have n2:T≠ea:=λz=>by rw[z,he]at n1;cases n1
  rw[i8 n2];exact n1
 exact⟨ea,T,C,dx,_,rfl,J.os,J.bare,J.base,J.i9,fl,l7,hTa,t4 I.sz hT,hE⟩
end
section
variable{X:Cx}{C CS fi:Addr}{fld prm x:Str}{k:Nat}{fd:l9}{p pos cpos:Pos}{e:Expr}{ta:TA}{Fl:Ds->Option (List b5)}{fr:Bool}
end
noncomputable def Ux:Out->Option (PV ⊕ b5)
 | .ret pv=>some (.inl pv)
 | .next _=>some (.inl (.dat .none))
 | .up x=>some (.inr x)
 |_=>none
noncomputable def fnX(n N:Nat)(G:Ds->Option Out):List b5->Option (PV ⊕ b5):=λl=>if l.length=n then(G (br l++w9 (N-n) none)).bind Ux else none
noncomputable def WR(K:c9)(O:List Addr)(H:Hp)(Q:VK)(E:XK):PV ⊕ b5->Prop
 | .inl pv=>∀v H',e9 H H'->RX K O [] H H' v pv->Q v H'
 | .inr x=>∀ea H',e9 H H'->Dt K (k6 H' [] O) (.ref ea) x->E (.ref ea) none H'
noncomputable def xO(K:c9)(F:List b5->Option (PV ⊕ b5)):Sp:=λvs H Q E=>∃(O:List Addr) (ds:List b5) (a:PV ⊕ b5),(∀a∈O,∃u,H a=some u)/\n6 K (k6 H [] O) vs ds/\F ds=some a/\WR K O H Q E a
section
variable{P:j3}{w:i7}{K:c9}{mg:Str->Option b8}{base:Heap}
end
noncomputable def Cx.marked(X:Cx)(ea:Addr):Cx:={X with A:=X.A.mark (some (.ref ea)),calm:=false,xe:=λ_ _=>False}
theorem Cx.Ok.marked{X:Cx}(ok:X.Ok)(ea:Addr):(X.marked ea).Ok :=
 ⟨ok.mod,ok.kind,ok.glob,ok.blt,ok.above,ok.inj,ok.has,ok.wq,λz=>(by cases z),ok.frames,ok.xK,ok.CN,ok.bs,ok.jW,ok.mF,ok.oG,ok.dy,ok.qF⟩
section
variable{X:Cx}{pins:List (Addr×Obj)}{σ:St}{H:Hp}{s:c8}
theorem Inv.marked(I:Inv X pins σ H s)(ea:Addr):Inv (X.marked ea) pins σ H s:=⟨I.ok.marked ea,I.os,I.bare,I.base,I.loc,I.cell,I.free,I.X7,I.pin,I.i9,I.len⟩
theorem Inv.unmarked{ea:Addr}(I:Inv (X.marked ea) pins σ H s)(ok:X.Ok):Inv X pins σ H s:=⟨ok,I.os,I.bare,I.base,I.loc,I.cell,I.free,I.X7,I.pin,I.i9,I.len⟩
theorem RP{M:az}{A:j6}{E:b8->c8->Prop}{j:Nat}{n:Str}{pos:Pos}{Q:Unit->c8->Prop}(I:Inv X pins σ H s)(hN:X.N.Nodup)(hj:X.N[j]? = some n)(hk:X.env.scope.names.lookup n=some .local)(h:∀s',Inv X pins (σ.set j none) H s'->Q () s'):wpAny M A (do bindName X.env n .none;Kk X.env n pos) Q E s:=by
 obtain⟨m,hn,hl⟩:=id I.loc;have hcls:(X.env.scope.kind==.class||(X.env.scope.kind==.module&&X.env.locals != X.env.globals))=false:=by rw[I.ok.kind];rfl
 have hiσ:j<σ.length:=by rw[I.len];exact(List.getElem?_eq_some_iff.mp hj).1
 have oJ:=I.oJ;refine wpAny_nameGoes_keeps hk hn hcls λh' v hn' hs=>?_
 obtain⟨oL,_,_,hoL,_⟩:=id hn;have tracked:U6 X.prog X.w H h':=λb ob e=>by
  refine(I.i9 b ob e).iE (λc w' hc q=>(hs.2 c ?_).trans q) (λ_ q=>q) λ_ _ q=>q
  rintro rfl;rcases hc with rfl|hc
  . rw[I.free]at e;cases e
  . rw[I.free]at hc;cases hc
 refine h _ ⟨I.ok,I.os,I.bare,⟨λb o e n hb hx=>?_,λb o e n hb hx=>?_,I.base.free,λb o e hx=>?_,I.base.md,I.base.kr,I.base.mf⟩,⟨_,hn',λi y v' e1 e2 e3=>?_⟩,λy c e=>?_,I.free,I.X7,λp hp=>?_,tracked,by simpa using I.len⟩
 . exact(hs.2 b (J6 (A1 (m6 e) I.ok.above))).trans (I.base.keep b o e n hb hx)
 . obtain⟨sl,e1⟩:=I.base.slot b o e n hb hx;exact⟨sl,(hs.2 b (J6 (A1 (m6 e) I.ok.above))).trans e1⟩
 . obtain⟨o',e1⟩:=I.base.there b o e hx;exact⟨o',(hs.2 b (J6 (A1 (m6 e) I.ok.above))).trans e1⟩
 . by_cases hij:i=j
   . subst hij;rw[lS hiσ]at e2;cases e2
   . rw[aU (B3 hij)]at e2;obtain⟨u',r',q⟩:=hl i y v' e1 e2 e3;refine⟨u',r',?_⟩;rcases q with ⟨k,e⟩|⟨k,c,e,z⟩
     . refine .inl ⟨k,?_⟩;have:y≠n:=λe=>hij (rn hN e1 (e▸hj))
       simp[this,e]
     . exact .inr ⟨k,c,e,z.sameBut hs (oJ y c e)⟩
 . obtain⟨w',z⟩:=I.cell y c e;exact⟨w',z.sameBut hs (oJ y c e)⟩
 . obtain⟨e,n,ne,nf,d⟩:=I.pin p hp;exact⟨(hs.2 p.1 ne).trans e,n,ne,nf,d⟩
end
noncomputable def mV(j:Nat)(D:Ends):Ends:={nx:=λσ H=>D.nx (σ.set j none) H,rt:=D.rt,bk:=λσ H=>D.bk (σ.set j none) H,ct:=λσ H=>D.ct (σ.set j none) H}
section
variable{X:Cx}{C CS fi:Addr}{fld:Str}{pins:List (Addr×Obj)}{σ:St}{H:Hp}{s s':c8}{E:XK}{D:Ends}{cn n:Str}{p3 p4:Pos}{b₀:Stmt}{suite:List Stmt}{tb:TS}{j:Nat}{e:b8}
end
section
variable{X:Cx}{C CS fi f:Addr}{fld x y cn n:Str}{fd:l9}{ps:List Str}{sp:Sp}{k i j:Nat}{e:Expr}{es:List Expr}{t:TA}{tb:TS}{p p1 p2 p3 p4 p5 pos:Pos}{b₀:Stmt}{suite:List Stmt}
end
noncomputable def isExc(C:Addr):b5->Bool
 | .dict [(.tuple [.int n,.str _],_)]=>n==((C:Nat):Int)
 |_=>false
noncomputable def ma(j:Nat):Out->Option Out
 | .next ds=>some (.next (ds.set j none))
 | .brk ds=>some (.brk (ds.set j none))
 | .cont ds=>some (.cont (ds.set j none))
 | .ret pv=>some (.ret pv)
 | .up _=>none
 | .retO _ _=>none
 | .upO _ _ _=>none
theorem DS.unset{K:c9}{O:List Addr}{f6 H:Hp}{as:As}{σ:St}{ds:Ds}(S:DS K O f6 as σ H ds)(i:Nat):DS K O f6 as (σ.set i none) H (ds.set i none):=by
 obtain⟨f,l,e,k⟩:=S.dH;refine⟨by simp[S.ls],S.same,S.new,S.aw,f,l,e,λj pv a=>?_⟩
 by_cases b:i=j
 . subst b;rw[ud,d9 rfl]at a;split at a<;>cases a
 . rw[aU b]at a;rw[aU b];exact k j pv a
theorem Dt.isExc{K:c9}{H:Hp}{C:Addr}{v:V}{x:b5}(h:Dt K H v x)(e:isExc C x=true):∃ea dx,v=.ref ea/\H ea=some (.ext (ExcAt ea C dx)):=by
 cases h with
 |exc c nf h1 h2 t =>
  rename_i ea C' dx fld v d;have e':(((C':Nat):Int)==((C:Nat):Int))=true:=e;have:C'=C:=Int.ofNat.inj (beq_iff_eq.mp e');subst this;exact⟨ea,dx,rfl,h1⟩
 |_=>cases e
theorem jK.hand{X:Cx}{O:List Addr}{f6:Hp}{D:Ends}{o o':Out}{j:Nat}{ea:Addr}(h:jK X O f6 D o')(e:ma j o=some o'):jK (X.marked ea) O f6 (mV j D) o:=by
 cases o with
 |next ds=>cases e;exact λas σ H S=>h _ _ _ (S.unset j)
 |brk ds=>cases e;exact λas σ H S=>h _ _ _ (S.unset j)
 |cont ds=>cases e;exact λas σ H S=>h _ _ _ (S.unset j)
 |ret pv=>cases e;exact λv H s r=>h v H s r
 |up x=>cases e
 |retO pv ds=>cases e
 |upO t x ds=>cases e
section
variable{X:Cx}{C CS fi f:Addr}{fld x y cn n:Str}{fd:l9}{ps:List Str}{FX:List b5->Option (PV ⊕ b5)}{k i j:Nat}{e:Expr}{es:List Expr}{t:TA}{tb:TS}{Fl:Ds->Option (List b5)}{Gb:Ds->Option Out}{p p1 p2 p3 p4 p5 pos:Pos}{b₀:Stmt}{suite:List Stmt}
end
theorem RE{h:Heap}{a:Addr}{m:Str->Option b8}{x:Str}{u:b8}(N:h.Ns1 a m)(e:m x=some u):∃o,h.get? a=some o/\lH x o=some (some u):=by
 obtain⟨o,es,ep,ho,hd,hk,hu,hm⟩:=N;refine⟨o,ho,?_⟩;unfold lH;rw[hd];have z:=hm x;rw[e]at z;unfold nsFind findBy at z;rw[<-AD]at z;cases q:es.toList.find? (·.key.isStr x)with
 |none=>rw[q]at z;cases z
 |some d =>
  rw[q]at z;have z':some d.val=some u:=z;dsimp only;rw[q];exact m5 some z'
noncomputable def rG(fld:Str):b5->Option b5
 | .dict [(.tuple [.int _,.str f],d)]=>if f=fld then some d else none
 |_=>none
noncomputable def gT(fld:Str)(F:Ds->Option PV):Ds->Option PV:=λds=>(F ds).bind λx=>(rG fld x.d).bind λd=>some (.dat d)
noncomputable def LB(K:c9)(fld:Str)(t:TE):TE:=λσ H Q=>t σ H λx H1=>∃ea C dx v,x=.ref ea/\bw K C/\O0 K (.ref C) fld=some none/\H1 ea=some (.ext (ExcAt ea C dx))/\H1 dx=some (.xd [(fld,v)])/\Q v H1
section
variable{X:Cx}{fr:Bool}{e c:Expr}{te:TE}{F:Ds->Option PV}{fld x:Str}{p pos:Pos}
theorem Us(he:PE X e te)(hb:autoParam (jz e fld X.env (eval e X.env)=eval e X.env) e8):PE X (.Attribute e fld pos) (LB X.K fld te):=by
 intro pins s σ H Q I h;refine Df hb (m4 (he pins s σ H _ I h) λu s1 ⟨y,H1,I1,ry,ea,C,dx,v,ey,hC,hnf,h1,h2,q⟩=>?_)
 subst ey;obtain rfl:u=t7 ea:=ry;obtain⟨vs,hx⟩:=(I1.i9 ea _ h1).1;obtain⟨mA,N,r⟩:=I1.i9 dx _ h2;obtain⟨w,hw,rw'⟩:=aa.some_of (v:=v) (o:=mA fld) (by have:=r fld;simpa [bB]using this)
 obtain⟨o,ho,hlk⟩:=RE N hw;exact NF hC I1.L7 (ox:=_) (od:=some o) ⟨hx,rfl,rfl,ho⟩ (Kd hC.hd hnf rfl hlk) (vZ rw') ⟨v,H1,I1.tok _,rw',q⟩
theorem TU(he:PX X fr e te F)(hb:autoParam (jz e fld X.env (eval e X.env)=eval e X.env) e8):PX X fr (.Attribute e fld pos) (LB X.K fld te) (gT fld F):=⟨Us he.p hb,by
 intro O f6 as σ H ds pv Q S hf q;unfold gT at hf;cases h1:F ds with
 |none=>rw[h1]at hf;cases hf
 |some w =>
  rw[h1]at hf;simp only[F7]at hf;refine he.t O f6 as σ H ds w _ S h1 λv H1 e1 r1=>?_
  have dt:=r1.dt S.dm;revert hf;generalize w.d=d at dt;intro hf;cases dt with
  |exc cc nf g1 g2 t =>
   rename_i ea C dx f' v' d';have hf':((if f'=fld then some d' else none).bind λd=>some (PV.dat d))=some pv:=hf
   by_cases hff:f'=fld
   . subst hff;rw[d9 rfl]at hf';cases hf';exact⟨ea,C,dx,v',rfl,cc,nf,m7 _ _ g1,m7 _ _ g2,q _ H1 e1 t⟩
   . rw[e7 hff]at hf';cases hf'
  |_=>cases hf⟩
end
section
variable{X:Cx}
theorem HK:sT X "str.startswith" (λx xs H Q=>∃z y,x=.str z/\xs=[.str y]/\Q (.bl (pw z y)) H):=by intro pins s σ H x xs v us Q I rx rxs h;obtain⟨z,y,rfl,rfl,q⟩:=h;obtain⟨t,rfl⟩:=rx;obtain⟨u,rfl,t2,rfl⟩:=vals1 rxs;exact SC.startswith ⟨.bl _,H,I,rfl,q⟩
theorem MX:sT X "str.zfill" (λx xs H Q=>∃z i,x=.str z/\xs=[.int i]/\PadOk i=true/\Q (.str (Txt.zfill z i)) H):=by intro pins s σ H x xs v us Q I rx rxs h;obtain⟨z,i,rfl,rfl,hp,q⟩:=h;obtain⟨t,rfl⟩:=rx;obtain⟨u,rfl,t2,rfl⟩:=vals1 rxs;exact SC.zfill hp λt' k=>⟨.str _,H,I.tok k,⟨t',rfl⟩,q⟩
noncomputable def eG(x y:Str):List Str:=match nk x y 0 x.length 1 with
 |i::_=>[ui x 0 i,y,ui x (i+y.length) x.length]
 | []=>[x,aA,aA]
theorem Ry:sT X "str.partition" (λx xs H Q=>∃z y,x=.str z/\xs=[.str y]/\(y.length==0)=false/\z.length<=j8/\∀p,H p=none->Q (.ref p) (upd H p (.tup ((eG z y).map V.str)))):=by
 intro pins s σ H x xs v us Q I rx rxs h;obtain⟨z,y,rfl,rfl,hy,hz,q⟩:=h;obtain⟨t,rfl⟩:=rx;obtain⟨u,rfl,t2,rfl⟩:=vals1 rxs;refine gC Kj (jq _ _ _) F.entry_str_partition (F.args_str_partition_2 _ _) (meets_str_partition z y t t2 hy hz) ?_;have hf:H s.heap.objs.size=none:=I.i9.fresh (C6 _);have q':=q _ hf;unfold eG at q';cases ho:nk z y 0 z.length 1 with
 |nil =>
  rw[ho]at q';refine⟨.ref s.heap.objs.size,_,I.laid (t':=s.toks+1) (o:=.tup [.str z,.str aA,.str aA]) (λb ob q=>o9 _ q) (C6 _) ?_,rfl,q'⟩
  exact⟨(show 3<=j8 by decide),_,.cons ⟨t,rfl⟩ (.cons ⟨_,rfl⟩ (.cons ⟨_,rfl⟩ .nil)),oY _ _⟩
 |cons i r =>
  rw[ho]at q';refine⟨.ref s.heap.objs.size,_,I.laid (t':=s.toks+1+1) (o:=.tup [.str (ui z 0 i),.str y,.str (ui z (i+y.length) z.length)]) (λb ob q=>o9 _ q) (C6 _) ?_,rfl,q'⟩
  exact⟨(show 3<=j8 by decide),_,.cons ⟨_,rfl⟩ (.cons ⟨_,rfl⟩ (.cons ⟨_,rfl⟩ .nil)),oY _ _⟩
theorem vw:∀{ts:List Str} {us:List b8},Vals (ts.map V.str) us->∃l:List (Str×Tok),us=strValues l/\l.map (·.1)=ts
 | [],_,h=>by cases h;exact⟨[],rfl,rfl⟩
 |a::r,_,h=>by
  cases h with
  |cons h1 h2 =>
   obtain⟨t,rfl⟩:=h1;obtain⟨l,rfl,e⟩:=vw h2;exact⟨(a,t)::l,rfl,by rw[o5,e]⟩
theorem Rz:sT X "str.join" (λx xs H Q=>∃z a ts,x=.str z/\xs=[.ref a]/\F3 X.K H a (ts.map V.str)/\eY z ts=true/\Q (.str (S9 z ts)) H):=by intro pins s σ H x xs v us Q I rx rxs h;obtain⟨z,a,ts,rfl,rfl,hs,i9,q⟩:=h;obtain⟨t,rfl⟩:=rx;obtain⟨u,rfl,ru⟩:=vals1 rxs;cases ru;obtain⟨its,r',pl,hz⟩:=I.list hs;obtain⟨l,e,hl⟩:=vw r';have pl':=pl.isList;rw[e]at pl';exact SC.join (l:=l) pl' hl i9 λt' k=>⟨.str _,H,I.tok k,⟨t',rfl⟩,q⟩
noncomputable def zD(K:c9)(r:V->List V->Hp->VK->Prop)(f:b5->List b5->Option PV):Prop :=
 ∀(O:List Addr) (va:As) (H:Hp) (z:Str) (xs:List V) (ds:List b5) (pv:PV) (Q:VK),jM H va O->n6 K (k6 H va O) xs ds->f (.str z) ds=some pv->(∀w H',e9 H H'->RX K O va H H' w pv->Q w H')->r (.str z) xs H Q
variable{fr:Bool}{o e:Expr}{es:List Expr}{to:TE}{t:TA}{Fo:Ds->Option PV}{Fl:Ds->Option (List b5)}{apos cpos:Pos}{name:Str}{id:String}{r:V->List V->Hp->VK->Prop}{f:b5->List b5->Option PV}
theorem Wf(slot:Slot "str" name id)(hty:typeOf (.builtin id)=pure (.type "method_descriptor"))(hm:sT X id r)(hr:zD X.K r f)(hs0:∀d l pv,f d l=some pv->∃z,d=.str z)(ho:PX X fr o to Fo)(ha:bz X fr (e::es) t Fl)(bm:autoParam (Le X o name apos e es cpos) sR):
  PX X fr (.Call (.Attribute o name apos) (e::es) [] cpos) (Ga X.K "str" r to t) (G7 f Fo Fl) :=
 ⟨Ed F.plainAttrs_str slot hty hm ho.p ha.p bm,by
 intro O f6 as σ H ds pv Q S hf q;unfold G7 at hf;cases h1:Fo ds with
 |none=>rw[h1]at hf;cases hf
 |some x =>
  cases h2:Fl ds with
  |none=>rw[h1,h2]at hf;cases hf
  |some l =>
   rw[h1,h2]at hf;simp only[F7]at hf;refine ho.t O f6 as σ H ds x _ S h1 λv H1 e1 r1=>?_
   have d1:=r1.dt S.dm;obtain⟨z,ez⟩:=hs0 _ _ _ hf;rw[ez]at hf d1;cases d1;refine⟨rfl,ha.t O f6 as σ H1 ds l _ (S.grow e1) h2 λvs H2 e2 r2=>?_⟩
   exact hr O (P8 fr as) H2 z vs l pv Q ((S.grow e1).grow e2).dm r2 hf λw H3 e3 r3=>q w H3 ((e1.trans e2).trans e3) (r3.back (e1.trans e2))⟩
noncomputable def fy:b5->List b5->Option PV
 | .str z,[.str y]=>some (.dat (.bool (pw z y)))
 |_,_=>none
noncomputable def findD:b5->List b5->Option PV
 | .str z,[.str y]=>some (.dat (.int (Txt.find z y)))
 |_,_=>none
noncomputable def kC:b5->List b5->Option PV
 | .str z,[.int i]=>if PadOk i=true then some (.dat (.str (Txt.zfill z i)))else none
 |_,_=>none
noncomputable def mB:b5->List b5->Option PV
 | .str z,[.str y]=>if (y.length==0)=false/\z.length<=1000000 then some (.dat (.tuple ((eG z y).map .str)))else none
 |_,_=>none
noncomputable def strsOf:List b5->Option (List Str)
 | []=>some []
 | .str z::r=>(strsOf r).bind λl=>some (z::l)
 |_=>none
noncomputable def R9:b5->List b5->Option PV
 | .str z,[.list l]=>(strsOf l).bind λts=>if eY z ts=true then some (.dat (.str (S9 z ts)))else none
 |_,_=>none
theorem Bh{d:b5}{l:List b5}{pv:PV}(h:fy d l=some pv):∃z,d=.str z:=by
 unfold fy at h;split at h
 . exact⟨_,rfl⟩
 . cases h
theorem Dn{d:b5}{l:List b5}{pv:PV}(h:kC d l=some pv):∃z,d=.str z:=by
 unfold kC at h;split at h
 . exact⟨_,rfl⟩
 . cases h
theorem He{d:b5}{l:List b5}{pv:PV}(h:mB d l=some pv):∃z,d=.str z:=by
 unfold mB at h;split at h
 . exact⟨_,rfl⟩
 . cases h
theorem Im{d:b5}{l:List b5}{pv:PV}(h:R9 d l=some pv):∃z,d=.str z:=by
 unfold R9 at h;split at h
 . exact⟨_,rfl⟩
 . cases h
theorem Lj{K:c9}:zD K (λx xs H Q=>∃z y,x=.str z/\xs=[.str y]/\Q (.bl (pw z y)) H) fy:=by
 intro O va H z xs ds pv Q D hx hf q;unfold fy at hf;split at hf
 . rename_i z' y e;cases e;cases hf;obtain⟨x,rfl,h⟩:=hx.inv1;cases h;exact⟨z,y,rfl,rfl,q _ H (e9.refl H) (Dt.bl _)⟩
 . cases hf
theorem PK{K:c9}:zD K (λx xs H Q=>∃z i,x=.str z/\xs=[.int i]/\PadOk i=true/\Q (.str (Txt.zfill z i)) H) kC:=by
 intro O va H z xs ds pv Q D hx hf q;unfold kC at hf;split at hf
 . rename_i z' i e;cases e;split at hf
   . rename_i hp;cases hf;obtain⟨x,rfl,h⟩:=hx.inv1;cases h;exact⟨z,i,rfl,rfl,hp,q _ H (e9.refl H) (Dt.str _)⟩
   . cases hf
 . cases hf
theorem rK{K:c9}{H:Hp}:∀l:List Str,n6 K H (l.map V.str) (l.map .str)
 | []=>.nil
 |a::r=>.cons (.str a) (rK r)
theorem Ss{K:c9}:zD K (λx xs H Q=>∃z y,x=.str z/\xs=[.str y]/\(y.length==0)=false/\z.length<=j8/\∀p,H p=none->Q (.ref p) (upd H p (.tup ((eG z y).map V.str)))) mB:=by
 intro O va H z xs ds pv Q D hx hf q;unfold mB at hf;split at hf
 . rename_i z' y e;cases e;split at hf
   . rename_i hp;cases hf;obtain⟨x,rfl,h⟩:=hx.inv1;cases h;exact⟨z,y,rfl,rfl,hp.1,t4 hp.2 (by decide),λp hp=>q _ _ (e9.new hp) (nZ D hp (rK _))⟩
   . cases hf
 . cases hf
theorem n6.strs{K:c9}{H:Hp}:∀{l:List b5} {xs:List V} {ts:List Str},n6 K H xs l->strsOf l=some ts->xs=ts.map V.str
 | [],_,_,.nil,e=>by cases e;rfl
 |d::r,_,ts,.cons (x:=x) h t,e=>by
  cases h with
  |str z =>
   have e':((strsOf r).bind λl=>some (z::l))=some ts:=e
   cases h2:strsOf r with
   |none=>rw[h2]at e';cases e'
   |some js =>
    rw[h2]at e';cases e';rw[t.strs h2];rfl
  |_=>cases e
theorem Su{K:c9}:zD K (λx xs H Q=>∃z a ts,x=.str z/\xs=[.ref a]/\F3 K H a (ts.map V.str)/\eY z ts=true/\Q (.str (S9 z ts)) H) R9:=by
 intro O va H z xs ds pv Q D hx hf q;unfold R9 at hf;split at hf
 . rename_i z' l e;cases e;cases h1:strsOf l with
   |none=>rw[h1]at hf;cases hf
   |some ts =>
    rw[h1]at hf;simp only[F7]at hf;split at hf
    . rename_i hp;cases hf;obtain⟨x,rfl,h⟩:=hx.inv1;cases h with
      |lst hs ht =>
       have ex:=ht.strs h1;subst ex;exact⟨z,_,ts,rfl,rfl,m7.seq hs,hp,q _ H (e9.refl H) (Dt.str _)⟩
    . cases hf
 . cases hf
end
noncomputable def VA(x:Str):It:=⟨λi _=>i<x.cps.size,λi H v H'=>H'=H/\∃c,x.cps[i]? = some c/\v=.str ⟨#[c]⟩,λi _=>x.cps.size<=i⟩
theorem Lr{P:j3}{w:i7}{K:c9}{tg:Expr}(x:Str)(t:Tok)(it:Addr):Turn P w K tg (VA x) [it] it (λi h=>h.IsStrIter it (Z1 x) x t i) where
 mem:=by simp
 obj:=λi h st b hb=>by
  have e:b=it:=by simpa using hb
  subst e;obtain⟨o,e,c,d⟩:=st;exact⟨o,e,λv z=>by rw[d]at z;cases z⟩
 keep:=λi h h' st k=>by obtain⟨o,e,r⟩:=st;exact⟨o,k it (by simp) o e,r⟩
 item:=by
  intro X hP hw hK hc i pins s σ H E I hf st hg;subst hP hw hK;obtain⟨f0,f1,f2,f3,f4,f5⟩:=hf it (by simp)
  have hg':i<x.cps.size:=hg;have hx:x.cps[i]? = some x.cps[i]:=Array.getElem?_eq_getElem hg';have fin:∀h',h'.IsStrIter it (Z1 x) x t (i+1)->jv it s.heap h'->∃u,some (lA ⟨#[x.cps[i]]⟩ s.toks)=some u/\wpAny (model X.prog X.w) X.A (tV tg (.ref it) u) (λ_ s2=>∃y H',Inv X pins σ H' s2/\RelV y u/\(VA x).Fx i H y H'/\s2.heap.IsStrIter it (Z1 x) x t (i+1)/\∀b∈[it],H' b=none) E {s with heap:=h',toks:=s.toks+1}:=λh' st' sb=>by
   have I1:Inv X pins σ H {s with heap:=h',toks:=s.toks+1}:=I.turned (λb o hb e=>(sb.2 b hb).trans e) f0 f1 f3 f4 f5
   obtain⟨o,e,c,d⟩:=id st';refine⟨_,rfl,xi (n:=Z1 x) (s:={s with heap:=h',toks:=s.toks+1}) e c d (by unfold Z1;split<;>decide) ⟨.str ⟨#[x.cps[i]]⟩,H,I1,⟨_,rfl⟩,⟨rfl,_,hx,rfl⟩,st',λb hb=>(hf b hb).1⟩⟩
  cases ha:x.cps.all (· < 128)with
  |true =>
   have et:Z1 x = "str_ascii_iterator":=by unfold Z1;rw[d9 ha]
   rw[et]at st fin;exact wpAny_pyNext_ascii_item st hx λh' st' sb=>by rw[et];exact fin h' st' sb
  |false =>
   have et:Z1 x = "str_iterator":=by unfold Z1;rw[e7 (by rw[ha];decide)]
   rw[et]at st fin;exact wpAny_pyNext_wide_item st hx λh' st' sb=>by rw[et];exact fin h' st' sb
 done:=by
  intro X hP hw hK hc i pins s σ H E I hf st hg;subst hP hw hK;obtain⟨f0,f1,f2,f3,f4,f5⟩:=hf it (by simp)
  have hx:x.cps[i]? = none:=Array.getElem?_eq_none hg;cases ha:x.cps.all (· < 128)with
  |true =>
   have et:Z1 x = "str_ascii_iterator":=by unfold Z1;rw[d9 ha]
   rw[et]at st;exact wpAny_pyNext_ascii_end (I.ok.hd hc) st hx λh' eb=>⟨rfl,I.turned (t':=s.toks) (λb o hb e=>eb b o hb e) f0 f1 f3 f4 f5⟩
  |false =>
   have et:Z1 x = "str_iterator":=by unfold Z1;rw[e7 (by rw[ha];decide)]
   rw[et]at st;exact wpAny_pyNext_wide_end (I.ok.hd hc) st hx λh' eb=>⟨rfl,I.turned (t':=s.toks) (λb o hb e=>eb b o hb e) f0 f1 f3 f4 f5⟩
 self:=λA i s Q E st h=>by
  cases ha:x.cps.all (· < 128)with
  |true =>
   have et:Z1 x = "str_ascii_iterator":=by unfold Z1;rw[d9 ha]
   rw[et]at st;exact wpAny_pyIter_striter_ascii st h
  |false =>
   have et:Z1 x = "str_iterator":=by unfold Z1;rw[e7 (by rw[ha];decide)]
   rw[et]at st;exact wpAny_pyIter_striter_wide st h
section
variable{X:Cx}{fr:Bool}{tg e:Expr}{te:TE}{F:Ds->Option PV}
noncomputable def signs(z:Str):List b5:=z.cps.toList.map λc=>.str ⟨#[c]⟩
end
section
variable{X:Cx}
theorem part_of{v:b8}{k:Option Int}(h:Z3 v k):∃l:Option (Int×Tok),v=partValue l/\l.map (·.1)=k:=by
 cases h with
 |none=>exact⟨none,rfl,rfl⟩
 |int i t=>exact⟨some (i,t),rfl,rfl⟩
noncomputable def Tr:V->Option Int->Option Int->Hp->VK->Prop:=λx lo hi H Q=>∃z,x=.str z/\z.length<=j8/\Q (.str (gA z lo hi)) H
theorem Tf:nK X Tr:=by intro pins s σ H x v vl vu lo hi sl Q I rx hs pl pu h;obtain⟨z,rfl,hz,q⟩:=h;obtain⟨t,rfl⟩:=rx;obtain⟨l,rfl,el⟩:=part_of pl;obtain⟨u,rfl,eu⟩:=part_of pu;refine⟨"str",_,F.slot_str_getitem.lookup,jq _ _ _,?_⟩;subst el eu;exact wpAny_getItem_str_slice (l:=l) (u:=u) (st:=none) hs rfl (post_val_or_str ⟨t4 (Txt.slice_le z _ _) hz,λt' k=>⟨.str _,H,I.tok k,⟨t',rfl⟩,q⟩⟩)
noncomputable def LX(K:c9):V->Option Int->Option Int->Hp->VK->Prop:=λx lo hi H Q=>Tu K x lo hi H Q\/Tr x lo hi H Q
theorem Ti:nK X (LX X.K):=Th.or Tf
noncomputable def u5:b5->Option Int->Option Int->Option PV
 | .str z,lo,hi=>if z.length<=1000000 then some (.dat (.str (gA z lo hi)))else none
 |d,lo,hi=>OJ d lo hi
theorem VE{K:c9}:Vy K (LX K) u5:=by
 intro O va H x lo hi d pv Q D hx hf q;unfold u5 at hf;split at hf
 . split at hf
   . rename_i z hz;cases hf;cases hx;exact .inr ⟨z,rfl,t4 hz (by decide),q _ H (e9.refl H) (Dt.str _)⟩
   . cases hf
 . exact .inl (Xr O va H x lo hi d pv Q D hx hf q)
end
section
variable{X:Cx}
noncomputable def ON:List V->Hp->VK->Prop:=λxs H Q=>∃z n,xs=[.str z]/\tO z=some n/\z.length<=640/\Q (.int n) H
theorem Jd:S7 X (.type "int") ON:=by intro pins s σ H xs us Q I r h;obtain⟨z,n,rfl,hn,hl,q⟩:=h;obtain⟨u,rfl,t,rfl⟩:=vals1 r;exact PySem.W.KIN.call_text hn hl ⟨.int n,H,I.tok _,⟨_,rfl⟩,q⟩
noncomputable def jS:List b5->Option PV
 | [.str z]=>if z.length<=640 then(tO z).bind λn=>some (.dat (.int n))else none
 |_=>none
theorem Sw{K:c9}:eN K ON jS:=by
 intro O va H xs ds pv Q D hx hf q;unfold jS at hf;split at hf
 . rename_i z;split at hf
   . rename_i hl;cases hn:tO z with
     |none=>rw[hn]at hf;cases hf
     |some n =>
      rw[hn]at hf;cases hf;obtain⟨x,rfl,h⟩:=hx.inv1;cases h;exact⟨z,n,rfl,hn,hl,q _ H (e9.refl H) (Dt.int _)⟩
   . cases hf
 . cases hf
noncomputable def yf(neg:Bool):R2:=λx y H Q=>∃i j,x=.str i/\y=.str j/\Q (.bl (if neg then !Txt.contains j i else tE j i)) H
theorem UB:F4 X (C9 .In) (yf false):=λpins s σ H x y v u Q I rx ry h=>Hh pins s σ H x y v u Q I rx ry h
theorem Hf:F4 X (C9 .NotIn) (yf true):=λpins s σ H x y v u Q I rx ry h=>yl pins s σ H x y v u Q I rx ry h
noncomputable def Z8:b5->b5->Option PV
 | .str i,.str j=>some (.dat (.bool (tE j i)))
 |_,_=>none
noncomputable def N6:b5->b5->Option PV
 | .str i,.str j=>some (.dat (.bool (!Txt.contains j i)))
 |_,_=>none
theorem VN{K:c9}:O5 K (yf false) Z8:=by
 intro O va H x y d e pv Q D hx hy hf q;unfold Z8 at hf;split at hf
 . cases hf;cases hx;cases hy;exact⟨_,_,rfl,rfl,q _ H (e9.refl H) (Dt.bl _)⟩
 . cases hf
theorem Lk{K:c9}:O5 K (yf true) N6:=by
 intro O va H x y d e pv Q D hx hy hf q;unfold N6 at hf;split at hf
 . cases hf;cases hx;cases hy;exact⟨_,_,rfl,rfl,q _ H (e9.refl H) (Dt.bl _)⟩
 . cases hf
end
theorem EI(z:Str):A6 (.str z)=false:=rfl
noncomputable def P9(f g:b5->b5->Option PV):b5->b5->Option PV:=λd e=>match f d e with
 |some pv=>some pv
 |none=>g d e
noncomputable def nu(f g:List b5->Option PV):List b5->Option PV:=λl=>match f l with
 |some pv=>some pv
 |none=>g l
theorem O5.or{K:c9}{r r':R2}{f g:b5->b5->Option PV}(h:O5 K r f)(h':O5 K r' g):O5 K (λx y H Q=>r x y H Q\/r' x y H Q) (P9 f g):=by
 intro O va H x y d e pv Q D hx hy hf q;unfold P9 at hf;split at hf
 . rename_i pv' he;cases hf;exact .inl (h O va H x y d e pv Q D hx hy he q)
 . exact .inr (h' O va H x y d e pv Q D hx hy hf q)
theorem eN.or{K:c9}{r r':List V->Hp->VK->Prop}{f g:List b5->Option PV}(h:eN K r f)(h':eN K r' g):eN K (λxs H Q=>r xs H Q\/r' xs H Q) (nu f g):=by
 intro O va H xs ds pv Q D hx hf q;unfold nu at hf;split at hf
 . rename_i pv' he;cases hf;exact .inl (h O va H xs ds pv Q D hx he q)
 . exact .inr (h' O va H xs ds pv Q D hx hf q)
noncomputable def mv(K:c9)(neg:Bool):R2:=λx y H Q=>GB K neg x y H Q\/yf neg x y H Q
theorem yo{X:Cx}:F4 X (C9 .In) (mv X.K false):=Hi.or UB
theorem vK{X:Cx}:F4 X (C9 .NotIn) (mv X.K true):=ym.or Hf
theorem Dp{K:c9}:O5 K (mv K false) (P9 inD Z8):=Xu.or VN
theorem xv{K:c9}:O5 K (mv K true) (P9 V0 N6):=PN.or Lk
noncomputable def UZ(K:c9)(tl:TE):TI:=λσ H R=>tl σ H λx H1=>(∃a,x=.ref a/\(((∃xs,F3 K H1 a xs)/\R (Xp K a) H1)\/((∃xs,P0 K H1 a xs)/\R (Xo K a) H1)))\/∃z,x=.str z/\R (VA z) H1
section
variable{X:Cx}{fr:Bool}{tg e:Expr}{te:TE}{F:Ds->Option PV}
theorem Uh(hl:PE X e te):PI X tg e (UZ X.K te):=by
 intro pins s σ H R I h;have hw:=hl pins s σ H _ I h;refine m4 hw λv s1 ⟨y,H1,I1,r1,q1⟩=>?_
 rcases q1 with q1|⟨z,rfl,q⟩
 . obtain⟨a,rfl,(⟨⟨xs,hq⟩,q⟩|⟨⟨xs,hq⟩,q⟩)⟩:=q1
   . cases r1;obtain⟨its,rv,p,hz⟩:=I1.list hq;refine Ap p.isList ?_;refine⟨s1.heap.objs.size,[s1.heap.objs.size],_,_,H1,rfl,I1.kept (t':=s1.toks) λb o e=>o9 _ e,FJ a _,⟨_,J8 _ rfl,rfl,rfl⟩,λb hb=>?_,q⟩
     have e:b=s1.heap.objs.size:=by simpa using hb
     subst e;exact I1.oD (C6 _) (I1.i9.fresh (C6 _))
   . cases r1;obtain⟨its,rv,p,hz⟩:=I1.tuple hq;refine wpAny_pyIter_tuple (show s1.heap.IsTuple a its.toArray from p) ?_
     refine⟨s1.heap.objs.size,[s1.heap.objs.size],_,_,H1,rfl,I1.kept (t':=s1.toks) λb o e=>o9 _ e,Dx a _,⟨_,J8 _ rfl,rfl,rfl⟩,λb hb=>?_,q⟩
     have e:b=s1.heap.objs.size:=by simpa using hb
     subst e;exact I1.oD (C6 _) (I1.i9.fresh (C6 _))
 . obtain⟨t,rfl⟩:=r1;refine wpAny_pyIter_strU ?_;refine⟨s1.heap.objs.size,[s1.heap.objs.size],_,_,H1,rfl,I1.kept (t':=s1.toks) λb o e=>o9 _ e,Lr z t _,⟨_,J8 _ rfl,rfl,rfl⟩,λb hb=>?_,q⟩
   have e:b=s1.heap.objs.size:=by simpa using hb
   subst e;exact I1.oD (C6 _) (I1.i9.fresh (C6 _))
noncomputable def FE:b5->Option (List b5)
 | .str z=>some (signs z)
 |d=>cw d
noncomputable def bN(F:Ds->Option PV):Ds->Option (List b5):=λds=>(F ds).bind λpv=>FE pv.d
theorem QW(h:PX X fr e te F):sS X fr tg e (UZ X.K te) (bN F):=⟨Uh h.p,by
 intro O f6 as σ H ds items R S hf q;unfold bN at hf;cases h1:F ds with
 |none=>rw[h1]at hf;cases hf
 |some pv =>
  rw[h1]at hf;simp only[F7]at hf;by_cases hs:∃z,pv.d=.str z
  . obtain⟨z,ez⟩:=hs;rw[ez]at hf;cases hf;refine h.t O f6 as σ H ds pv _ S h1 λv H1 e1 r1=>?_
    have d:=r1.dt S.dm;rw[ez]at d;cases d;have hl:(signs z).length=z.cps.size:=by simp[signs]
    refine .inr ⟨z,rfl,q _ H1 e1 λH' e' i=>?_⟩
    refine⟨λhi=>(show i<z.cps.size by omega),λhi=>(show z.cps.size<=i by omega),λx H'' y hi=>?_⟩
    obtain⟨e3,c,hc,ev⟩:=y;subst e3 ev;refine⟨e9.refl _,.str ⟨#[c]⟩,?_,λvb hv _=>.str _⟩
    unfold signs;rw[S6,Array.getElem?_toList,hc];rfl
  . have hf':cw pv.d=some items:=by revert hf hs;generalize pv.d=d;intro hf hs;cases d<;>first|exact hf|exact absurd ⟨_,rfl⟩ hs
    refine h.t O f6 as σ H ds pv _ S h1 λv H1 e1 r1=>.inl ?_
    have d:=r1.dt S.dm;generalize pv.d=z at d hf';cases d with
    |lst hs ht =>
     rename_i a xs l;cases hf';have hl:=ht.length;refine⟨a,rfl,.inl ⟨⟨xs,m7.seq hs⟩,q _ H1 e1 λH' e' i=>?_⟩⟩
     have hs':F3 X.K H' a xs:=e'.seq (sD.seq hs);refine⟨λhi=>⟨xs,xs[i]'(by omega),hs',U5 _⟩,λhi=>⟨xs,hs',by omega⟩,λx H'' y hi=>?_⟩
     obtain⟨e3,y⟩:=y;subst e3;obtain⟨d,ed,dd⟩:=ht.get' (y xs hs');exact⟨e9.refl _,d,ed,λvb hv _=>oz dd e' (e9.refl _) hv⟩
    |tup hs ht =>
     rename_i a xs l;cases hf';have hl:=ht.length;refine⟨a,rfl,.inr ⟨⟨xs,m7.du hs⟩,q _ H1 e1 λH' e' i=>?_⟩⟩
     have hs':P0 X.K H' a xs:=e'.du (sD.du hs);refine⟨λhi=>⟨xs,xs[i]'(by omega),hs',U5 _⟩,λhi=>⟨xs,hs',by omega⟩,λx H'' y hi=>?_⟩
     obtain⟨e3,y⟩:=y;subst e3;obtain⟨d,ed,dd⟩:=ht.get' (y xs hs');exact⟨e9.refl _,d,ed,λvb hv _=>oz dd e' (e9.refl _) hv⟩
    |_=>cases hf'⟩
end
end L2
namespace L2
open PySem PySem.Spec PyProof.Rows PySem.NumText
noncomputable abbrev lz(z:Str):List Nat:=z.cps.toList
theorem W2{x y:Str}(h:lz x=lz y):x=y:=by obtain⟨a⟩:=x;obtain⟨b⟩:=y;have:a=b:=Array.toList_inj.mp h;rw[this]
theorem W3(x y:Str):lz (x++y)=lz x++lz y:=by
 show(x.cps++y.cps).toList=_
 simp
theorem t9(x:Str):x.length=(lz x).length:=by simp[Str.length]
theorem WA(l:List Nat):lz ⟨l.toArray⟩=l:=by simp
theorem UL(c:Nat):lz ⟨#[c]⟩=[c]:=rfl
noncomputable def Z7(n:Nat):List Nat:=(Nat.toDigits 10 n).map Char.toNat
noncomputable def W6(i:Int):List Nat:=if i<0 then 45::Z7 i.natAbs else Z7 i.natAbs
theorem UM(n:Nat):lz (b6 (bV (n:Int)))=Z7 n:=PySem.W.KIN.signs_num n
theorem au(i:Int):lz (b6 (bV i))=W6 i:=by
 unfold W6;split
 . rename_i h;obtain⟨n,rfl⟩:∃n:Nat,i=tj n:=by
    cases i with
    |ofNat n=>exact absurd h (by simp)
    |negSucc n=>exact⟨n,rfl⟩
   rw[show lz (b6 (bV (tj n)))=(bV (tj n)).toList.map Char.toNat from signs_ofString _]
   have e:bV (tj n) = "-"++Nat.repr (n+1):=rfl;rw[e,String.toList_append,P2,Nat.toList_repr];rfl
 . rename_i h;obtain⟨n,rfl⟩:=Int.eq_ofNat_of_zero_le (show 0<=i by omega)
   exact UM n
theorem NL{c:Char}(h:c.isDigit=true):48<=c.toNat/\c.toNat<=57:=by unfold Char.isDigit at h;rw[aj]at h;have h1:=di h.1;have h2:=di h.2;exact⟨by simpa using UInt32.le_iff_toNat_le.mp h1,by simpa using UInt32.le_iff_toNat_le.mp h2⟩
theorem V7(n:Nat):AllDigits (Z7 n):=by intro c hc;obtain⟨ch,hch,e⟩:=mem_map.mp hc;rw[<-e];exact NL (Nat.isDigit_of_mem_toDigits (by decide) (by decide) hch)
theorem rm(n:Nat):digitsVal (Z7 n)=n:=PySem.W.KIN.val_back n
theorem mE{n k:Nat}(hk:0<k):(Z7 n).length<=k↔n<10 ^ k:=by unfold Z7;rw[m9];exact Nat.length_toDigits_le_iff (by decide) hk
theorem Cn(n:Nat):Z7 n≠[]:=λh=>by have h1:=rm n;rw[h]at h1;have h2:n=0:=h1.symm;subst h2;exact absurd h (by decide)
noncomputable def Plain(cs:List Nat):Prop:=AllDigits cs/\cs≠[]/\(cs.head?≠some 48\/cs=[48])
theorem Et(n:Nat):Plain (Z7 n):=by
 refine⟨V7 n,Cn n,?_⟩;by_cases h0:n=0
 . subst h0;exact .inr rfl
 . refine .inl λhz=>?_
   cases e:Z7 n with
   |nil=>exact Cn n e
   |cons c r =>
    rw[e]at hz;have hc:c=48:=by simpa using hz
    subst hc;have hv:=rm n;have hd:=V7 n;rw[e]at hv hd;have h2:digitsVal r=n:=hv;have hl:=(mE (n:=n) (k:=r.length) (by
     cases r with
     |nil=>exact absurd h2.symm (by simpa [digitsVal]using h0)
     |cons _ _=>exact Nat.succ_pos _))
    have hlt:digitsVal r<10 ^ r.length:=by
     have key:∀(l:List Nat) (a:Nat),AllDigits l->l.foldl (λacc c=>acc*10+(c-48)) a<(a+1)*10 ^ l.length:=by
      intro l;induction l with
      |nil=>intro a _;simp
      |cons d l ih =>
       intro a hl;have hd:=hl.head;have:=ih (a*10+(d-48)) hl.tail;rw[Aa];refine A1 this ?_;rw[J2,Nat.pow_succ,Nat.mul_comm (10 ^ l.length) 10,<-Nat.mul_assoc];exact Ki _ (by omega)
     have:=key r 0 hd.tail;simpa [digitsVal]using this
    have h3:=hl.mpr (by rw[<-h2];exact hlt)
    rw[e,J2]at h3;omega
end L2
namespace L2
open PySem PySem.Spec PyProof.Rows PySem.NumText PySem.StrLaws
open Builtin.Str (occurrences strSub subAt strSliceIndices)
theorem DJ(x:Str){a b:Nat}(hab:a<=b)(hb:b<=x.length){l u:Option Int}(e:strSliceIndices l u 1 x.length=strSliceIndices (some (a:Int)) (some (b:Int)) 1 x.length):lz (gA x l u)=((lz x).drop a).take (b-a):=by
 unfold gA;rw[e];split
 . rename_i h;have hl:(strSliceIndices (some (a:Int)) (some (b:Int)) 1 x.length).length=x.length:=by simpa using h
   rw[strSliceIndices_plain hab hb,m9,An]at hl;have ha:a=0:=by omega
   have hb':b=(lz x).length:=by rw[<-t9];omega
   subst ha;rw[zW,Nat.sub_zero,hb',List.take_length]
 . rw[sliced_plain x hab hb,WA]
theorem RB(x:Str)(i:Nat):lz (gA x (some (i:Int)) none)=(lz x).drop i:=by
 have e:strSliceIndices (some (i:Int)) none 1 x.length=strSliceIndices (some ((min i x.length:Nat):Int)) (some (x.length:Int)) 1 x.length:=by
  unfold strSliceIndices;have h1:¬((i:Int)<0):=by omega
  have h2:¬((x.length:Int)<0):=by omega
  have h3:¬(((min i x.length:Nat):Int)<0):=by omega
  simp only[h1,h2,h3,if_false,show((1:Int)>0)=True from by simp,if_true]
  congr 1
  . omega
  . omega
 rw[DJ x (Aj _ _) (C6 _) e];have hl:=t9 x;rw[jZ (by rw[lL];omega)]
 by_cases h:i<=x.length
 . rw[zZ h]
 . rw[Af (by omega),uv (by omega),uv (by omega)]
theorem DF(x:Str)(c:Nat):pw x ⟨#[c]⟩=decide ((lz x).head? = some c):=by
 have h:=subAt_one x c 0;rw[<-List.head?_eq_getElem?]at h;unfold pw;by_cases hc:(lz x).head? = some c
 . obtain⟨h1,h2⟩:=h.mpr hc;rw[h2,K8 h1,K8 hc];rfl
 . rw[D7 hc];cases h2:subAt x ⟨#[c]⟩ 0 with
   |false=>rw[tP]
   |true =>
    have:¬(0+(⟨#[c]⟩:Str).length<=x.length):=λh1=>hc (h.mp ⟨h1,h2⟩)
    rw[D7 this];rfl
theorem vM(s sub:Str)(hi:Nat):∀(l:List Nat) (st:Array Nat×Nat),1<=st.fst.size->(forIn l st (occBody s sub hi 1)).run.fst=st.fst
 | [],st,h=>rfl
 |a::l,st,h=>by
  rw[pB];unfold occBody;rw[e7 (by intro z;have:=z.1.1.1;omega)]
  exact vM s sub hi l (st.fst,st.snd) h
theorem occ_first(x:Str)(c:Nat):∀(n a free:Nat),free<=a->(forIn (lD a n) ((#[]:Array Nat),free) (occBody x ⟨#[c]⟩ x.length 1)).run.fst.toList=(((lD a n).find? λi=>decide ((lz x)[i]? = some c)).toList)
 | 0,a,free,_=>rfl
 |n+1,a,free,hf=>by
  rw[Ag,pB,tS];have h:=subAt_one x c a;by_cases hc:(lz x)[a]? = some c
  . obtain⟨h1,h2⟩:=h.mpr hc;have e:occBody x ⟨#[c]⟩ x.length 1 a ((#[]:Array Nat),free)=pure (gb ((#[]:Array Nat).push a,a+(⟨#[c]⟩:Str).length)):=by unfold occBody;rw[d9 ⟨⟨⟨by simp,hf⟩,h1⟩,h2⟩]
    rw[e,K8 hc];have:=vM x ⟨#[c]⟩ x.length (lD (a+1) n) ((#[]:Array Nat).push a,a+(⟨#[c]⟩:Str).length) (by simp)
    show(forIn (lD (a+1) n) ((#[]:Array Nat).push a,a+(⟨#[c]⟩:Str).length) (occBody x ⟨#[c]⟩ x.length 1)).run.fst.toList=_
    rw[this];rfl
  . have e:occBody x ⟨#[c]⟩ x.length 1 a ((#[]:Array Nat),free)=pure (gb ((#[]:Array Nat),free)):=by unfold occBody;rw[e7 (λz=>hc (h.mp ⟨z.1.2,z.2⟩))]
    rw[e,D7 hc];exact occ_first x c n (a+1) free (by omega)
theorem mP{cs:List Nat}{c:Nat}:∀(n a:Nat),(lD a n).find? (λi=>decide (cs[i]? = some c))=(if c∈(cs.drop a).take n then some (a+((cs.drop a).idxOf c))else none)
 | 0,a=>by simp
 |n+1,a=>by
  rw[Ag,tS];cases hd:cs.drop a with
  |nil =>
   have hl:cs.length<=a:=List.drop_eq_nil_iff.mp hd;have h0:cs[a]? = none:=Kr hl;rw[h0,D7 (by simp),mP n (a+1)]
   rw[uv (by omega)]
   simp
  |cons d r =>
   have h0:cs[a]? = some d:=by have:=List.getElem?_drop (xs:=cs) (i:=a) (j:=0);rw[hd]at this;simpa using this.symm
   have hr:cs.drop (a+1)=r:=by
    have:cs.drop (a+1)=(cs.drop a).drop 1:=by rw[List.drop_drop]
    rw[this,hd];rfl
   rw[h0];by_cases hc:d=c
   . subst hc;rw[K8 rfl];simp
   . rw[D7 (by simpa using hc),mP n (a+1),hr]
     have e1:(c∈(d::r).take (n+1))↔c∈r.take n:=by
      rw[JZ,v8];constructor
      . rintro(z|z)
        . exact absurd z.symm hc
        . exact z
      . exact .inr
     by_cases hm:c∈r.take n
     . rw[d9 hm,d9 (e1.mpr hm),List.idxOf_cons,beq_eq_false_iff_ne.mpr hc,cond_false];show some _=some _
       congr 1
       omega
     . rw[e7 hm,e7 (λz=>hm (e1.mp z))]
theorem Rt(x:Str)(c:Nat):occurrences x ⟨#[c]⟩ 0 x.length 1=if c∈lz x then[(lz x).idxOf c]else[]:=by
 rw[occ_eq,occ_first x c _ 0 0 (C6 _),mP];have hl:=t9 x;rw[zW,jZ (by omega),ph]
 split<;>rfl
theorem HS(x:Str)(i j:Nat):lz (strSub x i j)=((lz x).drop i).take (j-i):=by
 show(x.cps.extract i j).toList=_
 rw[Array.toList_extract]
theorem Sd(x:Str)(c:Nat):(eG x ⟨#[c]⟩).map lz=if c∈lz x then[(lz x).take ((lz x).idxOf c),[c],(lz x).drop ((lz x).idxOf c+1)]else[lz x,[],[]]:=by
 unfold eG;rw[Rt];have hl:=t9 x;by_cases h:c∈lz x
 . rw[d9 h,d9 h];show[lz (strSub x 0 _),lz ⟨#[c]⟩,lz (strSub x (_+(⟨#[c]⟩:Str).length) x.length)]=_
   rw[HS,HS,UL,zW,Nat.sub_zero];have e:(⟨#[c]⟩:Str).length=1:=rfl;rw[e,jZ (l:=(lz x).drop _) (by rw[lL];omega)]
 . rw[e7 h,e7 h];rfl
theorem iY(x:Str)(c:Nat):tE x ⟨#[c]⟩=decide (c∈lz x):=found_one x c
end L2
namespace L2
open PySem PySem.Spec PyProof.Rows
section
variable{X:Cx}
theorem vE:∀l:List (Str×Tok),Vals ((l.map (·.1)).map V.str) (strValues l)
 | []=>.nil
 |(a,t)::r=>.cons ⟨t,rfl⟩ (vE r)
theorem DG(z y:Str)(hz:z.length<=100000):(gz z y).length<=100002:=by
 unfold gz;split
 . simp
 . split
   . simp
   . have e1:=Ko z y 0 z.length (z.length+1);rw[length_partsBetween];omega
theorem MY:sT X "str.split" (λx xs H Q=>∃z y,x=.str z/\xs=[.str y]/\(y.length==0)=false/\z.length<=100000/\∀p,H p=none->Q (.ref p) (upd H p (.lst ((gz z y).map V.str)))):=by
 intro pins s σ H x xs v us Q I rx rxs h;obtain⟨z,y,rfl,rfl,hy,hz,q⟩:=h;obtain⟨t,rfl⟩:=rx;obtain⟨u,rfl,t2,rfl⟩:=vals1 rxs;have hf:H s.heap.objs.size=none:=I.i9.fresh (C6 _);have q':=q _ hf;have hs:=DG z y hz;have hl:100002<=j8:=by decide
 have fin:∀(l:List (Str×Tok)) (k:Nat),l.map (·.1)=gz z y->EP X pins σ Q (.ref s.heap.objs.size) {s with toks:=k,heap:=s.heap.push {cls:=.type "list",data:=.seq (strValues l).toArray}}:=λl k e=>by
  rw[<-e]at q' hs;refine⟨.ref s.heap.objs.size,_,I.laid (t':=k) (o:=.lst ((l.map (·.1)).map V.str)) (λb ob q=>o9 _ q) (C6 _) ?_,rfl,q'⟩
  exact⟨by rw[m9];omega,_,0,vE l,J8 _ rfl⟩
 have hn:(KJ z (nk z y 0 z.length (z.length+1)) y.length).length<=j8:=by have e1:=Ko z y 0 z.length (z.length+1);rw[length_partsBetween];omega
 cases h1:(decide (z.length<y.length)||decide (JX z<JX y))
 . cases hff:(nk z y 0 z.length (z.length+1)).isEmpty
   . refine gC tX (jq _ _ _) Am (Az _ _) (meets_str_split_sep z y t t2 h1 hy hff (by omega) hn) ?_
     show EP X pins σ Q _ {s with toks:=_,heap:=s.heap.push {cls:=.type "list",data:=.seq (strsFrom s.toks (KJ z (nk z y 0 z.length (z.length+1)) y.length)).toArray}}
     rw[strsFrom_eq];exact fin (numbered s.toks _) _ ((numbered_texts _ _).trans ((e7 (ne_true_of_eq_false h1)).trans (e7 (ne_true_of_eq_false hff))).symm)
   . exact gC tX (jq _ _ _) Am (Az _ _) (meets_str_split_not_found z y t t2 h1 hy hff) (fin [(z,t)] s.toks ((e7 (ne_true_of_eq_false h1)).trans (d9 hff)).symm)
 . exact gC tX (jq _ _ _) Am (Az _ _) (meets_str_split_cannot_occur z y t t2 h1) (fin [(z,t)] s.toks (d9 h1).symm)
noncomputable def Y5:b5->List b5->Option PV
 | .str z,[.str y]=>if (y.length==0)=false/\z.length<=100000 then some (.own ((gz z y).map .str))else none
 |_,_=>none
theorem DI{d:b5}{l:List b5}{pv:PV}(h:Y5 d l=some pv):∃z,d=.str z:=by
 unfold Y5 at h;split at h
 . exact⟨_,rfl⟩
 . cases h
theorem PM{K:c9}:zD K (λx xs H Q=>∃z y,x=.str z/\xs=[.str y]/\(y.length==0)=false/\z.length<=100000/\∀p,H p=none->Q (.ref p) (upd H p (.lst ((gz z y).map V.str)))) Y5:=by
 intro O va H z xs ds pv Q D hx hf q;unfold Y5 at hf;split at hf
 . rename_i z' y e;cases e;split at hf
   . rename_i hp;cases hf;obtain⟨x,rfl,h⟩:=hx.inv1;cases h;exact⟨z,y,rfl,rfl,hp.1,hp.2,λp hp=>q _ _ (e9.new hp) (dY hp (rK _))⟩
   . cases hf
 . cases hf
theorem zq:S7 X (.type "str") (λxs H Q=>∃z,xs=[.str z]/\Q (.str z) H):=by intro pins s σ H xs us Q I r h;obtain⟨z,rfl,q⟩:=h;obtain⟨u,rfl,t,rfl⟩:=vals1 r;exact PySem.P.str_of_str ⟨.str _,H,I,⟨_,rfl⟩,q⟩
noncomputable def pX:List b5->Option PV
 | [.str z]=>some (.dat (.str z))
 |_=>none
theorem Sr{K:c9}:eN K (λxs H Q=>∃z,xs=[.str z]/\Q (.str z) H) pX:=by
 intro O va H xs ds pv Q D hx hf q;unfold pX at hf;split at hf
 . cases hf;obtain⟨x,rfl,h⟩:=hx.inv1;cases h;exact⟨_,rfl,q _ H (e9.refl H) (Dt.str _)⟩
 . cases hf
noncomputable def Vx(X:Cx)(r:V->Option Int->Option Int->Option Int->Hp->VK->Prop):Prop :=
 ∀(pins:List (Addr×Obj)) (s:c8) (σ:St) (H:Hp) (x:V) (v vl vu vs:b8) (lo hi st:Option Int) (sl:Addr) (Q:VK),Inv X pins σ H s->RelV x v->s.heap.IsSliceOf sl vl vu vs->Z3 vl lo->Z3 vu hi->Z3 vs st->r x lo hi st H Q ->
  ∃T id,sZ (.type T) "__getitem__" = pure (some (.builtin id))/\s.TypeIs v T/\wpAny (model X.prog X.w) X.A (bS v (.ref sl)) (EP X pins σ Q) X.xe s
noncomputable def SS(r:V->Option Int->Option Int->Option Int->Hp->VK->Prop)(te:TE)(tl th ts:TO):TE:=λσ H Q=>te σ H λx H1=>tl σ H1 λl H2=>th σ H2 λu H3=>ts σ H3 λk H4=>r x l u k H4 Q
theorem GZ{e:Expr}{te:TE}{lo hi:Option Expr}{st:Expr}{tl th ts:TO}{pos p2:Pos}{r:V->Option Int->Option Int->Option Int->Hp->VK->Prop}(hr:Vx X r)(he:PE X e te)(hl:PO X lo tl)(hu:PO X hi th)(hst:PO X (some st) ts):PE X (.Subscript e (.Slice lo hi (some st) p2) pos) (SS r te tl th ts):=by
 intro pins s σ H Q I h;refine sY (m4 (he pins s σ H _ I h) λv s1 ⟨x,H1,I1,r1,q1⟩=>?_)
 refine wpAny_Slice (m4 (hl pins s1 σ H1 _ I1 q1) λvl s2 ⟨l,H2,I2,pl,q2⟩=>m4 (hu pins s2 σ H2 _ I2 q2) λvu s3 ⟨u,H3,I3,pu,q3⟩=>m4 (hst pins s3 σ H3 _ I3 q3) λvs s4 ⟨k,H4,I4,ps,q4⟩=>?_)
 have I5:Inv X pins σ H4 {s4 with heap:=s4.heap.push {cls:=.type "slice",data:=.fields #[vl,vu,vs]}}:=I4.kept (t':=s4.toks) λb ob q=>o9 _ q
 obtain⟨T,id,hT,ht,hg⟩:=hr pins {s4 with heap:=s4.heap.push {cls:=.type "slice",data:=.fields #[vl,vu,vs]}} σ H4 x v vl vu vs l u k s4.heap.objs.size Q I5 r1 (JS ..) pl pu ps q4
 show wpAny (model X.prog X.w) X.A (subscriptTail e (.Slice lo hi (some st) p2) v (.ref s4.heap.objs.size)) (EP X pins σ Q) X.xe {s4 with heap:=s4.heap.push {cls:=.type "slice",data:=.fields #[vl,vu,vs]}}
 exact tail_any (ops:=[v,.ref s4.heap.objs.size]) ht hT hg (by with_unfolding_all rfl)
theorem Ug{a b c d e f:b8}:sV #[a,b,c,d,e,f] (some 0) none (some 2) = #[a,c,e]:=by with_unfolding_all rfl
theorem Ue{a b c d e f:b8}:sV #[a,b,c,d,e,f] (some 1) none (some 2) = #[b,d,f]:=by with_unfolding_all rfl
noncomputable def six{α:Type}:List α->Option Int->Option Int->Option Int->Option (List α)
 | [a,b,c,d,e,f],some lo,none,some 2=>if lo=0 then some [a,c,e]else if lo=1 then some [b,d,f]else none
 |_,_,_,_=>none
noncomputable def LY(K:c9):V->Option Int->Option Int->Option Int->Hp->VK->Prop:=λx lo hi st H Q=>∃a xs ys,x=.ref a/\F3 K H a xs/\six xs lo hi st=some ys/\∀p,H p=none->Q (.ref p) (upd H p (.lst ys))
theorem Tg:Vx X (LY X.K):=by
 intro pins s σ H x v vl vu vs lo hi st sl Q I rx hs pl pu ps h;obtain⟨a,xs,ys,rfl,hx,h6,q⟩:=h;cases rx;obtain⟨its,r,ht,hz⟩:=I.list hx;refine⟨"list",_,slot_list_getitem.lookup,ht.isList.typeIs,?_⟩;unfold six at h6;split at h6
 . rename_i A B C D E F lo';cases r with|cons r1 r=>cases r with|cons r2 r=>cases r with|cons r3 r=>cases r with|cons r4 r=>cases r with|cons r5 r=>cases r with|cons r6 r =>
   cases r;split at h6
   . rename_i e0;subst e0;cases h6;refine AY ht.isList hs pl pu ps (by simp) ?_ (show 6<=j8 by decide)
     rw[Ug];refine⟨.ref s.heap.objs.size,_,I.laid (t':=s.toks) (o:=.lst [A,C,E]) (λb ob q=>o9 _ q) (C6 _) ?_,rfl,q _ (I.i9.fresh (C6 _))⟩
     exact⟨show 3<=j8 by decide,_,0,.cons r1 (.cons r3 (.cons r5 .nil)),J8 _ rfl⟩
   . split at h6
     . rename_i e1;subst e1;cases h6;refine AY ht.isList hs pl pu ps (by simp) ?_ (show 6<=j8 by decide)
       rw[Ue];refine⟨.ref s.heap.objs.size,_,I.laid (t':=s.toks) (o:=.lst [B,D,F]) (λb ob q=>o9 _ q) (C6 _) ?_,rfl,q _ (I.i9.fresh (C6 _))⟩
       exact⟨show 3<=j8 by decide,_,0,.cons r2 (.cons r4 (.cons r6 .nil)),J8 _ rfl⟩
     . cases h6
 . cases h6
noncomputable def qS:b5->Option Int->Option Int->Option Int->Option PV
 | .list l,lo,hi,st=>(six l lo hi st).bind λm=>some (.own m)
 |_,_,_,_=>none
theorem Qm{K:c9}{H:Hp}{xs:List V}{l m:List b5}{lo hi st:Option Int}(h:n6 K H xs l)(e:six l lo hi st=some m):∃ys,six xs lo hi st=some ys/\n6 K H ys m:=by
 unfold six at e;split at e
 . cases h with|cons h1 h=>cases h with|cons h2 h=>cases h with|cons h3 h=>cases h with|cons h4 h=>cases h with|cons h5 h=>cases h with|cons h6 h =>
   cases h;unfold six;split at e
   . rename_i z;cases e;exact⟨_,d9 z,.cons h1 (.cons h3 (.cons h5 .nil))⟩
   . rename_i z;split at e
     . rename_i z1;cases e;exact⟨_,(e7 z).trans (d9 z1),.cons h2 (.cons h4 (.cons h6 .nil))⟩
     . cases e
 . cases e
noncomputable def Yk(K:c9)(r:V->Option Int->Option Int->Option Int->Hp->VK->Prop)(f:b5->Option Int->Option Int->Option Int->Option PV):Prop :=
 ∀(O:List Addr) (va:As) (H:Hp) (x:V) (lo hi st:Option Int) (d:b5) (pv:PV) (Q:VK),jM H va O->Dt K (k6 H va O) x d->f d lo hi st=some pv->(∀v H',e9 H H'->RX K O va H H' v pv->Q v H')->r x lo hi st H Q
theorem VF{K:c9}:Yk K (LY K) qS:=by
 intro O va H x lo hi st d pv Q D hx hf q;cases hx with
 |lst hs ht =>
  rename_i xs l;have hf':((six l lo hi st).bind λm=>some (PV.own m))=some pv:=hf
  cases h1:six l lo hi st with
  |none=>rw[h1]at hf';cases hf'
  |some m =>
   rw[h1]at hf';cases hf';obtain⟨ys,e,hd⟩:=Qm ht h1;exact⟨_,_,ys,rfl,m7.seq hs,e,λp hp=>q _ _ (e9.new hp) (dY hp hd)⟩
 |_=>cases hf
noncomputable def rE(f:b5->Option Int->Option Int->Option Int->Option PV)(F:Ds->Option PV)(Fl Fh Fs:Ds->Option (Option Int)):Ds->Option PV:=λds=>(F ds).bind λx=>(Fl ds).bind λlo=>(Fh ds).bind λhi=>(Fs ds).bind λst=>f x.d lo hi st
theorem GF{fr:Bool}{e:Expr}{te:TE}{F:Ds->Option PV}{pos p2:Pos}{lo hi:Option Expr}{st:Expr}{tl th ts:TO}{Fl Fh Fs:Ds->Option (Option Int)}(he:PX X fr e te F)(hl:zB X lo tl Fl)(hh:zB X hi th Fh)(hst:zB X (some st) ts Fs):
  PX X fr (.Subscript e (.Slice lo hi (some st) p2) pos) (SS (LY X.K) te tl th ts) (rE qS F Fl Fh Fs):=⟨GZ Tg he.p hl.p hh.p hst.p,by
 intro O f6 as σ H ds pv Q S hf q;unfold rE at hf;cases h1:F ds with
 |none=>rw[h1]at hf;cases hf
 |some x =>
  cases h2:Fl ds with
  |none=>rw[h1,h2]at hf;cases hf
  |some l =>
   cases h3:Fh ds with
   |none=>rw[h1,h2,h3]at hf;cases hf
   |some h =>
    cases h4:Fs ds with
    |none=>rw[h1,h2,h3,h4]at hf;cases hf
    |some k =>
     rw[h1,h2,h3,h4]at hf;simp only[F7]at hf;refine he.t O f6 as σ H ds x _ S h1 λv H1 e1 r1=>?_
     refine hl.t O f6 as σ H1 ds l _ (S.grow e1) h2 λH2 e2=>?_
     refine hh.t O f6 as σ H2 ds h _ ((S.grow e1).grow e2) h3 λH3 e3=>?_
     refine hst.t O f6 as σ H3 ds k _ (((S.grow e1).grow e2).grow e3) h4 λH4 e4=>?_
     refine VF O (P8 fr as) H4 v l h k x.d pv Q ((((S.grow e1).grow e2).grow e3).grow e4).dm ((r1.grow ((e2.trans e3).trans e4)).dt S.dm) hf λw H5 e5 r5=>?_
     exact q w H5 ((((e1.trans e2).trans e3).trans e4).trans e5) (r5.back (((e1.trans e2).trans e3).trans e4))⟩
noncomputable def Ex(i:Nat)(ds:Ds):Nat:=match ds[i]? with
 |some (some (.dat (.list l)))=>l.length+1
 |_=>0
end
section
variable{M:az}{A:j6}{E:b8->c8->Prop}{s:c8}
theorem EF{base:Heap}{env:Env}{outer:List Env}{L e T C dx:Addr}{Q:Unit->c8->Prop}(hfr:A.frames=some (env::outer))(hl:s.heap.FunFrames base (env::outer))(hf:env.frame=some L)(he:cH e T C dx s.heap)(h:∀h' T',s.heap.objs.size<=T'->(∀b o,b≠e->b≠T->b∉N0 (env::outer)->s.heap.get? b=some o->h'.get? b=some o)->(∀b o,b∈N0 (env::outer)->s.heap.get? b=some o->∃sl,h'.get? b=some {o with slots:=sl})->cH e T' C dx h'->Q () {s with heap:=h'}):
  wpAny M A (leaving env (.ref e)) Q E s:=by unfold leaving;exact d8 (vN hfr hl hf he h)
end
section
variable{P:j3}{w:i7}{K:c9}{mg:Str->Option b8}{base:Heap}{N:List Str}{qual:Str}{scope:E8}{f:Addr}{cd:b8}{A:j6}{outer:List Env}{s:c8}{H:Hp}{E:XK}
theorem Ws:Passes (X4 P w) (V4 (X4 P w) P w K mg base N qual scope f cd A outer s H E) E:=by
 intro pins σ H1 s1 e s' I0 hq;obtain⟨ea,T1,C',dx,H',rfl,os,bare,un,i9,fl,h1,hT,hsz,hw⟩:=hq;have I1:=I0.xp (ch:=[]) os un i9 bare λb z=>absurd z (by simp)
 show wpAny (model P w) (A.deeper (K7 qual scope s.heap.objs.size f cd)) (leaving (K7 qual scope s.heap.objs.size f cd) (.ref ea)) _ _ s'
 refine EF (L:=s.heap.objs.size) I1.ok.frames I1.stack rfl fl λh' T' hT' k1 k2 fl2=>?_
 have a1:=I0.above hsz;have I2:=I1.flew (h':=h') (ch:=[T1]) (C:=C') (dx:=dx) h1 ⟨λ_ z=>(by cases z),λ_ z=>(by cases z),λ_ _ z=>(by cases z),λ_ z=>(by cases z)⟩ (λb hb=>by rw[mem_singleton.mp hb];exact hT) (λb hb=>by rw[mem_singleton.mp hb];exact a1)
  (λb o hb hc hnf q=>k1 b o hb (λz=>hc (by simp[z])) hnf q) (λb o hb q=>k2 b o hb q) fl2.at
 have e0:upd H' ea (.ext (ExcAt ea C' dx))=H':=by
  funext b
  by_cases hb:b=ea
  . subst hb;rw[l7,h1]
  . rw[i8 hb]
 rw[e0]at I2;exact⟨ea,T',C',dx,H',rfl,I2.os,I2.bare,I2.base,I2.i9,fl2,h1,I1.i9.fresh hT',t4 I1.sz hT',hw⟩
end
noncomputable def M7(k:Str)(es:List (Str×b5)):Option b5:=(es.find? λe=>decide (e.1=k)).map (·.2)
noncomputable def qW(es:List (Str×b5))(k:Str)(d:b5):List (Str×b5):=if (es.any λe=>decide (e.1=k))=true then es.map (λe=>if e.1=k then(e.1,d)else e)else es++[(k,d)]
noncomputable def mS(es:List (Str×b5))(k:Str):List (Str×b5):=es.filter λe=>decide (e.1≠k)
section
variable{K:c9}{Hv:Hp}{kvs:List (Key×V)}{es:List (Str×b5)}
theorem T3.length(h:T3 K Hv kvs es):kvs.length=es.length:=tM h
theorem T3.val(h:T3 K Hv kvs es)(k:Str):(M7 k es=none/\bp kvs (.inr k)=none)\/∃v d,M7 k es=some d/\bp kvs (.inr k)=some v/\Dt K Hv v d:=by
 unfold T3 at h;induction h with
 |nil=>exact .inl ⟨rfl,rfl⟩
 | @cons p q ps qs h t ih =>
  by_cases c:q.1=k
  . have c':p.1=.inr k:=h.1.trans (by rw[c])
    exact .inr ⟨p.2,q.2,by simp[M7,tS,c],lY c',h.2⟩
  . have c':¬p.1=.inr k:=λz=>c (tq (h.1.symm.trans z))
    have e1:M7 k (q::qs)=M7 k qs:=by simp[M7,tS,c]
    rw[e1,lZ c'];exact ih
theorem T3.any(h:T3 K Hv kvs es)(k:Str):(kvs.any λe=>decide (e.1=.inr k))=es.any λe=>decide (e.1=k):=by
 unfold T3 at h;induction h with
 |nil=>rfl
 | @cons p q ps qs h t ih =>
  rw[fg,fg,ih]
  congr 1
  rw[decide_eq_decide,h.1];exact⟨λz=>tq z,λz=>by rw[z]⟩
theorem T3.xZ(h:T3 K Hv kvs es)(k:Str){v:V}{d:b5}(hv:Dt K Hv v d):T3 K Hv (kvs.map λe=>if e.1=.inr k then(e.1,v)else e) (es.map λe=>if e.1=k then(e.1,d)else e):=by
 unfold T3 at h ⊢;induction h with
 |nil=>exact .nil
 | @cons p q ps qs h t ih =>
  rw[o5,o5];refine .cons ?_ ih;by_cases c:q.1=k
  . rw[d9 c,d9 (h.1.trans (by rw[c]))]
    exact⟨h.1,hv⟩
  . rw[e7 c,e7 (λz=>c (tq (h.1.symm.trans z)))]
    exact h
theorem T3.put(h:T3 K Hv kvs es)(k:Str){v:V}{d:b5}(hv:Dt K Hv v d):T3 K Hv (putK kvs (.inr k) v) (qW es k d):=by
 unfold putK qW;rw[h.any k];split
 . exact h.xZ k hv
 . exact zF h ⟨rfl,hv⟩
theorem T3.drop(h:T3 K Hv kvs es)(k:Str):T3 K Hv (mT kvs (.inr k)) (mS es k):=by
 unfold T3 at h ⊢;unfold mT mS;induction h with
 |nil=>exact .nil
 | @cons p q ps qs h t ih =>
  by_cases c:q.1=k
  . rw[KD (by simp[h.1,c]),KD (by simp[c])]
    exact ih
  . rw[KC (by simp[h.1,c]),KC (by simp[c])]
    exact .cons h ih
end
structure PD(X:Cx)(i:Nat)(o:Expr)(td:TE)(dec:OD->Option (List (Str×b5)))(enc:OD->List (Str×b5)->OD):Prop where
 p:PE X o td
 t:∀{O:List Addr} {f6:Hp} {as:As} {σ:St} {H:Hp} {ds:Ds} {w:Option Addr} {c:OD} {es:List (Str×b5)} {Q:VK},DS X.K O f6 as σ H ds->ds[i]? = some (some (.ob w c))->dec c=some es ->
  (∀a kvs,H a=some (.dK kvs)->T3 X.K (k6 H as O) kvs es ->
   (∀{H2:Hp} {kvs':List (Key×V)} {es':List (Str×b5)},DS X.K O f6 as σ H2 ds->e9 H H2->(∀{Hv':Hp},e9 (k6 H2 as O) Hv'->T3 X.K Hv' kvs' es')->DS X.K O f6 as σ (upd H2 a (.dK kvs')) (ds.set i (some (.ob w (enc c es')))))->Q (.ref a) H)->td σ H Q
noncomputable def eF:OD->Option (List (Str×b5))
 | .dct es=>some es
 |_=>none
noncomputable def encD:OD->List (Str×b5)->OD:=λ_ es=>.dct es
theorem Uu{X:Cx}{i:Nat}{o:Expr}(h:PE X o (D4 i)):PD X i o (D4 i) eF encD:=⟨h,by
 intro O f6 as σ H ds w c es Q S hd he q;cases c with
 |dct es0 =>
  cases he;obtain⟨v,R,e1,e2,e3,kvs,rfl,k1,k2⟩:=S.slot i _ hd;refine⟨_,e1,q v kvs k1 k2 λ{H2 kvs' es'} S2 s k=>?_⟩
  obtain⟨rg,m,n,g⟩:=S2.dH;obtain⟨v',R',z1,z2,z3,kvs2,rfl,z4,z5⟩:=g i _ hd;rw[e1]at z1;cases z1;exact S2.wY (u:=Cl.d kvs') hd m n g (z3 _ o2) λsm=>⟨v,[v],e1,z2,z3,kvs',rfl,l7,k sm⟩
 |ins _ _=>cases he
 |seq _ _=>cases he⟩
noncomputable def gU(nm f:Str):OD->Option (List (Str×b5))
 | .ins n fs=>if n=nm then(G4 f fs).bind dctP else none
 |_=>none
noncomputable def oI(f:Str):OD->List (Str×b5)->OD
 | .ins n fs,es=>.ins n (ar f (.dct es) fs)
 |c,_=>c
theorem Uv{X:Cx}{i:Nat}{o:Expr}{nm f:Str}{C:Addr}{pos:Pos}(T:fV X.K nm C)(n:bQ X.K C f)(h:PE X o (D4 i))(hb:autoParam (Bd X o f) e8):PD X i (.Attribute o f pos) (Lz X.K (D4 i) f) (gU nm f) (oI f):=⟨Ha h hb,by
 intro O f6 as σ H ds w c es Q S hd he q;cases c with
 |dct _=>cases he
 |seq _ _=>cases he
 |ins n0 fs =>
  obtain⟨rfl,he'⟩:=A7 he;obtain⟨p,he,e⟩:=d4 he';have e:=NN e;subst e;obtain⟨v,R,e1,e2,e3,C',dx,fv,R',rfl,c1,c2,c3⟩:=S.slot i _ hd;have ec:=T.eq c1;subst ec;obtain⟨x,Rf,l1,l2,l3,l4⟩:=c3.look he;cases l2 with
  |dct k1 k2 =>
   refine⟨_,e1,v,C',dx,fv,_,rfl,c2,T.cl,n,l1,q _ _ k1 k2 λ{H2 kvs' es'} S2 s k=>?_⟩
   exact S2.VS (u:=Cl.d kvs') hd he e1 (s _ _ c2) l1 (λd z=>by cases z) λsm=>.dct l7 (k sm)⟩
noncomputable def dU:b5->Option Str
 | .str s=>some s
 |_=>none
theorem Dt.dU{K:c9}{H:Hp}{y:V}{d:b5}{s:Str}(h:Dt K H y d)(e:L2.dU d=some s):y=kV (.inr s):=by
 cases h with
 |str x=>cases e;rfl
 |_=>cases e
noncomputable def ko(i:Nat)(dec:OD->Option (List (Str×b5)))(ds:Ds):Option ((Option Addr×OD)×List (Str×b5)):=match ds[i]? with
 |some (some (.ob w c))=>(dec c).bind λes=>some ((w,c),es)
 |_=>none
theorem fH{i:Nat}{dec:OD->Option (List (Str×b5))}{ds:Ds}{w:Option Addr}{c:OD}{es:List (Str×b5)}(h:ko i dec ds=some ((w,c),es)):ds[i]? = some (some (.ob w c))/\dec c=some es:=by
 unfold ko at h;split at h
 . rename_i w0 c0 hd;obtain⟨es0,e,h⟩:=d4 h;cases h;exact⟨hd,e⟩
 . cases h
noncomputable def oF(i:Nat)(dec:OD->Option (List (Str×b5)))(Fk:Ds->Option PV):Ds->Option PV:=λds=>(ko i dec ds).bind λp=>(Fk ds).bind λk=>(dU k.d).bind λs=>some (.dat ((M7 s p.2).getD .none))
noncomputable def fN(i:Nat)(dec:OD->Option (List (Str×b5)))(Fk Fd:Ds->Option PV):Ds->Option PV:=λds=>(ko i dec ds).bind λp=>(Fk ds).bind λk=>(Fd ds).bind λd=>(dU k.d).bind λs=>some (.dat ((M7 s p.2).getD d.d))
noncomputable def EU(i:Nat)(dec:OD->Option (List (Str×b5)))(Fk:Ds->Option PV):Ds->Option PV:=λds=>(ko i dec ds).bind λp=>(Fk ds).bind λk=>(dU k.d).bind λs=>(M7 s p.2).bind λd=>some (.dat d)
noncomputable def mX(i:Nat)(dec:OD->Option (List (Str×b5)))(Fk:Ds->Option PV):Ds->Option Bool:=λds=>(ko i dec ds).bind λp=>(Fk ds).bind λk=>(dU k.d).bind λs=>some (M7 s p.2).isSome
noncomputable def gr(i:Nat)(dec:OD->Option (List (Str×b5)))(enc:OD->List (Str×b5)->OD)(Fk Fv:Ds->Option PV):Ds->Option Out:=λds=>(ko i dec ds).bind λp=>(Fv ds).bind λv=>(Fk ds).bind λk=>(dU k.d).bind λs=>if p.2.length<100000 then some (.next (ds.set i (some (.ob p.1.1 (enc p.1.2 (qW p.2 s v.d))))))else none
noncomputable def gu(i:Nat)(dec:OD->Option (List (Str×b5)))(enc:OD->List (Str×b5)->OD)(Fk:Ds->Option PV):Ds->Option Out:=λds=>(ko i dec ds).bind λp=>(Fk ds).bind λk=>(dU k.d).bind λs=>(M7 s p.2).bind λ_=>some (.next (ds.set i (some (.ob p.1.1 (enc p.1.2 (mS p.2 s))))))
section
variable{X:Cx}{fr:Bool}{i:Nat}{o e f:Expr}{td ty tx:TE}{dec:OD->Option (List (Str×b5))}{enc:OD->List (Str×b5)->OD}{Fk Fd Fv:Ds->Option PV}{apos cpos pos pos':Pos}
theorem Md(hu:X.A.units+1<D3)(P:PD X i o td dec enc)(hk:PX X fr e ty Fk)(m:M1 X o "get" apos e cpos):PX X fr (.Call (.Attribute o "get" apos) [e] [] cpos) (FY td ty) (oF i dec Fk):=⟨MK hu P.p hk.p m,by
 intro O f6 as σ H ds pv Q S hf q;obtain⟨⟨⟨w,c⟩,es⟩,h1,hf⟩:=d4 hf;obtain⟨k,h2,hf⟩:=d4 hf;obtain⟨s,h3,hf⟩:=d4 hf;cases hf;obtain⟨hd,he⟩:=fH h1;refine P.t S hd he λa kvs k1 k2 tn=>?_
 refine⟨a,rfl,.inl ⟨kvs,.inl k1⟩,hk.t O f6 as σ H ds k _ S h2 λy H1 s1 r1=>?_⟩
 have ey:=(r1.dt S.dm).dU h3;subst ey;refine⟨bp kvs (.inr s),dE.k (s1 _ _ k1),?_⟩;rcases k2.val s with ⟨l1,l2⟩|⟨w,d,l1,l2,l3⟩
 . rw[l2];rw[l1]at q;exact q _ H1 s1 .non
 . rw[l2];rw[l1]at q;exact q _ H1 s1 (l3.same (fK.trans (K1 s1)))⟩
theorem GG(hu:X.A.units+1<D3)(P:PD X i o td dec enc)(hk:PX X fr e ty Fk)(hx:PX X fr f tx Fd)(m:M2 X o "get" apos e f cpos):PX X fr (.Call (.Attribute o "get" apos) [e,f] [] cpos) (FW td ty tx) (fN i dec Fk Fd):=⟨MJ hu P.p hk.p hx.p m,by
 intro O f6 as σ H ds pv Q S hf q;obtain⟨⟨⟨w,c⟩,es⟩,h1,hf⟩:=d4 hf;obtain⟨k,h2,hf⟩:=d4 hf;obtain⟨x,h4,hf⟩:=d4 hf;obtain⟨s,h3,hf⟩:=d4 hf;cases hf;obtain⟨hd,he⟩:=fH h1;refine P.t S hd he λa kvs k1 k2 tn=>?_
 refine⟨a,rfl,.inl ⟨kvs,.inl k1⟩,hk.t O f6 as σ H ds k _ S h2 λy H1 s1 r1=>?_⟩
 have ey:=(r1.dt S.dm).dU h3;subst ey;refine hx.t O f6 as σ H1 ds x _ (S.grow s1) h4 λz H2 s2 r2=>?_
 refine⟨bp kvs (.inr s),dE.k (s2 _ _ (s1 _ _ k1)),?_⟩;rcases k2.val s with ⟨l1,l2⟩|⟨w,d,l1,l2,l3⟩
 . rw[l2];rw[l1]at q;exact q _ H2 (s1.trans s2) (r2.dt (S.grow s1).dm)
 . rw[l2];rw[l1]at q;exact q _ H2 (s1.trans s2) (l3.same (fK.trans (K1 (s1.trans s2))))⟩
theorem Qu(hu:X.A.units+1<D3)(P:PD X i o td dec enc)(hk:PX X fr e ty Fk)(hs:autoParam (Og e) Sm):PX X fr (.Subscript o e pos) (OG td ty) (EU i dec Fk):=⟨Rb hu P.p hk.p hs,by
 intro O f6 as σ H ds pv Q S hf q;obtain⟨⟨⟨w,c⟩,es⟩,h1,hf⟩:=d4 hf;obtain⟨k,h2,hf⟩:=d4 hf;obtain⟨s,h3,hf⟩:=d4 hf;obtain⟨d0,h4,hf⟩:=d4 hf;cases hf;obtain⟨hd,he⟩:=fH h1;refine P.t S hd he λa kvs k1 k2 tn=>?_
 refine hk.t O f6 as σ H ds k _ S h2 λy H1 s1 r1=>?_
 have ey:=(r1.dt S.dm).dU h3;subst ey;rcases k2.val s with ⟨l1,l2⟩|⟨w,d,l1,l2,l3⟩
 . have h4':M7 s es=some d0:=h4;rw[l1]at h4';cases h4'
 . have h4':M7 s es=some d0:=h4;rw[l1]at h4';cases h4';have g:=dE.k (k:=(.inr s:Key)) (s1 _ _ k1);rw[l2]at g;exact⟨a,w,rfl,g,q _ H1 s1 (l3.same (fK.trans (K1 s1)))⟩⟩
theorem Mh(hu:X.A.units+1<D3)(P:PD X i o td dec enc)(hk:PX X fr e ty Fk)(hm:autoParam (bX .In o=false) e8):V2 X (.Compare e [.In] [o] pos) (tB (Tb ty td)) (mX i dec Fk):=⟨Ua (Uw hu hk.p P.p) hm,by
 intro O f6 as σ H ds b Q S hf q;obtain⟨⟨⟨w,c⟩,es⟩,h1,hf⟩:=d4 hf;obtain⟨k,h2,hf⟩:=d4 hf;obtain⟨s,h3,hf⟩:=d4 hf;cases hf;obtain⟨hd,he⟩:=fH h1;refine hk.t O f6 as σ H ds k _ S h2 λy H1 s1 r1=>?_
 have ey:=(r1.dt S.dm).dU h3;subst ey;refine P.t (S.grow s1) hd he λa kvs k1 k2 tn=>?_
 refine⟨a,_,rfl,dE.k k1,_,rfl,?_⟩;have e3:(bp kvs (.inr s)).isSome=(M7 s es).isSome:=by rcases k2.val s with ⟨l1,l2⟩|⟨w,d,l1,l2,l3⟩<;>rw[l1,l2]<;>rfl
 rw[e3];exact q H1 s1⟩
theorem GP{value:Expr}{tv:TE}(hu:X.A.units+1<D3)(P:PD X i o td dec enc)(hk:PX X true e ty Fk)(hv:PX X true value tv Fv)(hs:autoParam (N8 value (some (.Subscript o e pos')) pos.line X.env=pure false) e8):B8 X (.Assign [.Subscript o e pos'] value pos) (OK td ty tv) (gr i dec enc Fk Fv):=⟨QQ hu P.p hk.p hv.p hs,by
 intro O f6 as σ H ds D o' S hf q;obtain⟨⟨⟨w,c⟩,es⟩,h1,hf⟩:=d4 hf;obtain⟨x,h4,hf⟩:=d4 hf;obtain⟨k,h2,hf⟩:=d4 hf;obtain⟨s,h3,hf⟩:=d4 hf;split at hf
 . rename_i hl;cases hf;obtain⟨hd,he⟩:=fH h1;refine hv.t O f6 as σ H ds x _ S h4 λz H1 s1 r1=>?_
   have S1:=S.grow s1;refine P.t S1 hd he λa kvs k1 k2 tn=>?_
   refine hk.t O f6 as σ H1 ds k _ S1 h2 λy H2 s2 r2=>?_
   have ey:=(r2.dt S1.dm).dU h3;subst ey;have S2:=S1.grow s2;have hl':kvs.length<j8:=by rw[k2.length,aT];have:es.length<100000:=hl;omega
   refine⟨a,_,rfl,Bb.k (s2 _ _ k1) hl',?_⟩;refine q as σ _ (tn S2 s2 λ{Hv'} sm=>T3.put (k2.same ((K1 s2).trans sm)) s ?_)
   exact(r1.dt S.dm).same ((K1 s2).trans sm)
 . cases hf⟩
theorem GQ(P:PD X i o td dec enc)(hk:PX X true e ty Fk)(m:M1 X o "pop" apos e cpos)(hs:autoParam (N8 (.Call (.Attribute o "pop" apos) [e] [] cpos) none pos.line X.env=pure false) e8):B8 X (.Expr (.Call (.Attribute o "pop" apos) [e] [] cpos) pos) (pV (FT td ty)) (gu i dec enc Fk):=⟨dI (MH P.p hk.p m) hs,by
 intro O f6 as σ H ds D o' S hf q;obtain⟨⟨⟨w,c⟩,es⟩,h1,hf⟩:=d4 hf;obtain⟨k,h2,hf⟩:=d4 hf;obtain⟨s,h3,hf⟩:=d4 hf;obtain⟨d0,h4,hf⟩:=d4 hf;cases hf;obtain⟨hd,he⟩:=fH h1;refine P.t S hd he λa kvs k1 k2 tn=>?_
 refine⟨a,rfl,.inl ⟨kvs,.inl k1⟩,hk.t O f6 as σ H ds k _ S h2 λy H1 s1 r1=>?_⟩
 have ey:=(r1.dt S.dm).dU h3;subst ey;have S1:=S.grow s1;rcases k2.val s with ⟨l1,l2⟩|⟨w,d,l1,l2,l3⟩
 . have h4':M7 s es=some d0:=h4;rw[l1]at h4';cases h4'
 . refine⟨kvs,.inr s,w,s1 _ _ k1,rfl,l2,?_⟩;exact q as σ _ (tn S1 s1 λ{Hv'} sm=>T3.drop (k2.same ((K1 s1).trans sm)) s)⟩
noncomputable def oE:Ds->Option PV:=λ_=>some (.ob none (.dct []))
theorem Mc:PX X fr (.Dict [] [] pos) FU oE:=⟨MI,by intro O f6 as σ H ds pv Q S hf q;cases hf;intro p hp;exact q _ _ (e9.new hp) ⟨p,[p],rfl,.inl rfl,λb z=>by rw[mem_singleton.mp z];exact hp,[],rfl,l7,.nil⟩⟩
end
section
variable{M:az}{A:j6}{E:b8->c8->Prop}
variable{nm q nm' q':Str}{C N C' N':Addr}{bs bm bs' bm':List b8}{hdct hdct':Bool}{sn sn':List Str}{sub sub':List b8}{ab ab':Bool}{col col':Option Bool}{dd dd':Option Addr}{k0 k1 k2 k3 k5 k0' k1' k2' k3' k5':Option b8}{newId newId':String}
theorem NC{h:Heap}{g:Array oX}{d:Drawn}{t:Nat}{os:OsState}{e:Addr}{oe:Obj}{Q:Bool->c8->Prop}(hC:h.get? C=some (fc nm q C N bs bm hdct sn sub ab col dd k0 k1 k2 k3 k5 newId))(hC':h.get? C'=some (fc nm' q' C' N' bs' bm' hdct' sn' sub' ab' col' dd' k0' k1' k2' k3' k5' newId'))(he:h.get? e=some oe)(hcls:oe.cls=.ref C)(hbase:bm'.contains (.type "BaseException")=true)(hno:(t7 C::bm).contains (.ref C')=false)(hq:Q false ⟨h,g,d,t,os⟩):wpAny M A (excMatches (.ref e) (.ref C')) Q E ⟨h,g,d,t,os⟩:=by
 have hcB:(t7 C'::bm').contains (.type "BaseException")=true:=by rw[AA,hbase,pf]
 have f:=tc_notTuple;unfold excMatches;repeat (first|(with_reducible refine eU he ?_;rw[hcls])|with_reducible refine eU hC' ?_|(with_reducible refine pL hC' ?_;rw[hcB])|(with_reducible refine pL hC ?_;rw[hno])|wp_step)
 exact hq
end
section
variable{X:Cx}{C CS fi C1 fi1:Addr}{fld fld1:Str}{pins:List (Addr×Obj)}{σ:St}{H:Hp}{s s':c8}{E:XK}{D:Ends}{cn n:Str}{p3 p4:Pos}{b₀:Stmt}{suite body:List Stmt}{rest hs:List ExceptHandler}{tb:TS}{j:Nat}{e:b8}{ea T' dx:Addr}
theorem yO(T:Y2 X.K C CS fi fld)(hgc:Gl X cn)(hmc:X.mg cn=some (.ref C))(hN:X.N.Nodup)(hj:X.N[j]? = some n)(hn:X.env.scope.names.lookup n=some .local)(hs:∀ea,eO (X.marked ea) (b₀::suite) tb)(I2:Inv X pins σ H s)(a2:X.K5.heap.objs.size<=T'/\T'≠X.env.locals/\(∀x c,X.env.cells.lookup x=some c->c≠T')/\∀p∈X.pn++pins,p.1≠T')(nT':H T'=none)(fl2:cH ea T' C dx s.heap)(ht:tb (mV j D) (σ.set j (some (.ref ea))) H)(hdb:autoParam ((cn==("__debug__" : Str))=false) j9):
  wpAny (model X.prog X.w) X.A (lu (.ref ea) X.env (.ExceptHandler (some (.Name cn p3)) (some n) (b₀::suite) p4::rest)) (SP X pins D) X.xe s:=by
 have I3:=I2.marked ea;obtain⟨nm,qn,N,bs,sn,sub,ab,col,dd,c0,c1,c2,c3,c5,hC,_,_⟩:=T.cls;refine AF (AN (show wpAny (model (X.marked ea).prog (X.marked ea).w) (X.marked ea).A (eval (.Name cn p3) (X.marked ea).env) _ _ _ from dN I3 hgc hmc ?_ hdb)) (by intro q;cases q)
 obtain⟨vs,q1⟩:=fl2.at;refine KN (I2.L7 _ _ hC) q1 rfl (by simp[L4]) ?_
 refine codeAny_handlers_suite_as ?_;obtain⟨us,oT,ts,g1,g2,g3,g4,g5,g6⟩:=fl2;refine Kh g1 rfl g2 g4 g5 (Array.getElem?_eq_some_iff.mp g6).1 ?_;have I4:=I3.turned (h':=s.heap.update T' (ag (·.setIfInBounds 3 .none))) (t':=s.toks) (it:=T') (λb o hb q=>by rw[K9 _ _ (B3 hb)];exact q) nT' a2.2.1 (.inr a2.1) a2.2.2.1 a2.2.2.2
 refine iC (X:=X.marked ea) I4 hN hj (.inl hn) (v:=.ref ea) (u:=.ref ea) rfl (λs5 I5=>?_) (.inr hn)
 refine P1 (hs ea pins s5 _ H (mV j D) I5 ht) (λf s6 q=>?_) λ_ _ z=>M9 z
 have fin:∀{σ':St} {H3:Hp} {Q:Unit->c8->Prop},Inv (X.marked ea) pins σ' H3 s6->(∀s7,Inv X pins (σ'.set j none) H3 s7->Q () s7)->wpAny (model X.prog X.w) X.A (do bindName X.env n .none;Kk X.env n p4) Q X.xe s6 :=
  λ{σ' H3 Q} J k=>RP (J.unmarked I2.ok) hN hj hn k
 cases f with
 |next=>obtain⟨σ',H3,J,q⟩:=q;exact fin J λs7 J7=>⟨_,H3,J7,q⟩
 |brk=>obtain⟨σ',H3,J,q⟩:=q;exact fin J λs7 J7=>⟨_,H3,J7,q⟩
 |cont=>obtain⟨σ',H3,J,q⟩:=q;exact fin J λs7 J7=>⟨_,H3,J7,q⟩
 |ret u=>obtain⟨v,σ',H3,J,r,q⟩:=q;exact fin J λs7 J7=>⟨v,_,H3,J7,r,q⟩
theorem IF(T:Y2 X.K C CS fi fld)(T1:Y2 X.K C1 CS fi1 fld1)(hgc:Gl X cn)(hmc:X.mg cn=some (.ref C1))(ne:C≠C1)(nb:CS≠C1)(I2:Inv X pins σ H s)(fl2:cH ea T' C dx s.heap)(h:wpAny (model X.prog X.w) X.A (lu (.ref ea) X.env rest) (SP X pins D) X.xe s)(hdb:autoParam ((cn==("__debug__" : Str))=false) j9):
  wpAny (model X.prog X.w) X.A (lu (.ref ea) X.env (.ExceptHandler (some (.Name cn p3)) (some n) body p4::rest)) (SP X pins D) X.xe s:=by
 have I3:=I2.marked ea;obtain⟨nm,qn,N,bs,sn,sub,ab,col,dd,c0,c1,c2,c3,c5,hC,_,_⟩:=T.cls;obtain⟨nm',qn',N',bs',sn',sub',ab',col',dd',c0',c1',c2',c3',c5',hC',_,_⟩:=T1.cls;refine AF (AN (show wpAny (model (X.marked ea).prog (X.marked ea).w) (X.marked ea).A (eval (.Name cn p3) (X.marked ea).env) _ _ _ from dN I3 hgc hmc ?_ hdb)) (by intro q;cases q)
 obtain⟨vs,q1⟩:=fl2.at;refine NC (I2.L7 _ _ hC) (I2.L7 _ _ hC') q1 rfl (by simp[L4]) ?_ h
 have n1:(t7 C==t7 C1)=false:=beq_eq_false_iff_ne.mpr λz=>ne (tI z)
 simp[L4,B3 ne,B3 nb]
theorem Sg(hst:X.stack=X.env::X.outer/\X.env.frame=some X.env.locals)(I0:Inv X pins σ H s)(hq:X4 X.prog X.w X.stack H s E e s')(k:∀ea T' C dx H' s2,E (.ref ea) none H'->H' ea=some (.ext (ExcAt ea C dx))->Inv X pins σ H' s2->(X.K5.heap.objs.size<=T'/\T'≠X.env.locals/\(∀x c,X.env.cells.lookup x=some c->c≠T')/\∀p∈X.pn++pins,p.1≠T')->H' T'=none->cH ea T' C dx s2.heap->wpAny (model X.prog X.w) X.A (lu (.ref ea) X.env hs) (SP X pins D) X.xe s2):
  wpAny (model X.prog X.w) X.A (fb e X.env) (λ_ s₂=>wpAny (model X.prog X.w) X.A (jn e none) (λ_ s₃=>wpAny (model X.prog X.w) X.A (lu e X.env hs) (SP X pins D) X.xe s₃) X.xe s₂) X.xe s':=by
 obtain⟨ea,T1,C',dx,H',rfl,os,bare,un,i9,fl,h1,hT,hsz,hw⟩:=hq;have I1:Inv X pins σ H' s':=I0.xp (ch:=[]) os un i9 bare λb z=>absurd z (by simp)
 have hl:=I1.stack;have hfr:=I1.ok.frames;rw[hst.1]at hl hfr;refine vN hfr hl hst.2 fl λh' T' hT' k1 k2 fl2=>?_
 have a1:=I0.above hsz;have I2:=I1.flew (h':=h') (ch:=[T1]) (C:=C') (dx:=dx) h1 ⟨λ_ z=>(by cases z),λ_ z=>(by cases z),λ_ _ z=>(by cases z),λ_ z=>(by cases z)⟩ (λb hb=>by rw[mem_singleton.mp hb];exact hT) (λb hb=>by rw[mem_singleton.mp hb];exact a1)
  (λb o hb hc hnf q=>k1 b o hb (λz=>hc (by simp[z])) (by rw[<-hst.1];exact hnf) q) (λb o hb q=>k2 b o (by rw[<-hst.1];exact hb) q) fl2.at
 have e0:upd H' ea (.ext (ExcAt ea C' dx))=H':=by
  funext b
  by_cases hb:b=ea
  . subst hb;rw[l7,h1]
  . rw[i8 hb]
 rw[e0]at I2;exact k ea T' C' dx H' _ hw h1 I2 (I1.above hT') (I1.i9.fresh hT') fl2
end
theorem wU:entryFor table "proto.unchain" = some Builtin.«proto.unchain»:=entryFor_of_fast (by kernel_rfl)
section
variable{P:j3}{w:i7}{A:j6}{E:b8->c8->Prop}{env:Env}{s:c8}
theorem xC{e h:Addr}{oh:Obj}{vs:Array b8}{Q:b8->c8->Prop}(hH:s.heap.get? h=some oh)(dh:oh.data=.fields vs)(v2:vs[2]? = some .none)(k:Q .none s):
  wpAny (model P w) A (runValue (.builtin "proto.unchain" ⟨[.ref e,.ref h,.ref h,.bool false],[]⟩)) Q E s:=by refine wpAny_runValue (codeAny_builtin wU ?_);unfold Builtin.«proto.unchain»;simp only[];refine d8 (H9 hH dh v2 ?_);simp only[jD,if_true];exact j4 k
theorem Bk{α:Type}{e h:Addr}{oh oe:Obj}{vs us:Array b8}{Q:α->c8->Prop}(hh:A.handled=some (.ref h))(ne:h≠e)(hH:s.heap.get? h=some oh)(dh:oh.data=.fields vs)(v2:vs[2]? = some .none)(he:s.heap.get? e=some oe)(de:oe.data=.fields us)(hz:2<us.size)(k:E (.ref e) {s with heap:=s.heap.update e (ag (·.setIfInBounds 2 (.ref h)))}):wpAny (model P w) A (raiseNew (.ref e):Sem α) Q E s:=by
 unfold raiseNew;refine d8 (wpAny_handled ?_);rw[hh];have c:(t7 h != t7 e)=true:=bne_iff_ne.mpr λz=>ne (tI z)
 simp only[c,if_true];refine d8 (jy (xC hH dh v2 ?_));refine d8 ?_;exact fh he de hz (wpAny_throw k)
end
noncomputable def WO(h e C dx:Addr)(hp:Heap):Prop:=∃t,hp.get? e=some {cls:=.ref C,dict:=some dx,data:=.fields #[.ref t,.none,.ref h,.none,.bool true,.none]}
section
variable{P:j3}{w:i7}{A:j6}{E:b8->c8->Prop}{env:Env}{s:c8}
variable{nm qn:Str}{C N:Addr}{bs tl:List b8}{hd:Bool}{sn:List Str}{sub:List b8}{ab:Bool}{col:Option Bool}{dd:Option Addr}{k0 k1 k2 k3 k5:Option b8}{nid:String}
theorem DR {x c:Sem b8} {h:Addr} {Q:Flow->c8->Prop} (hb:tl.contains (.type "BaseException")=true) (hh:A.handled=some (.ref h)) (hc:∀(s:c8) (Q:b8->c8->Prop),Q .none s->wpAny (model P w) A c Q E s) (hx:wpAny (model P w) A x (λv s1=>∃e dx oh vs,v=.ref e/\s1.heap.get? C=some (fc nm qn C N bs tl hd sn sub ab col dd k0 k1 k2 k3 k5 nid)/\C ≠ e/\A3 e C (some dx) s1.heap/\h ≠ e/\s1.heap.get? h=some oh/\oh.data=.fields vs/\vs[2]? = some .none /\
   ∀h',(∀b,b≠e->h'.get? b=s1.heap.get? b)->h'.objs.size=s1.heap.objs.size->WO h e C dx h'->E (.ref e) {s1 with heap:=h'}) E s):wpAny (model P w) A (sU env (some x) (some c)) Q E s:=by
 have cB:(t7 C::tl).contains (.type "BaseException")=true:=by rw[AA,hb,pf]
 unfold sU;refine d8 (P1 hx (λv s1 q=>?_) λ_ _ z=>z)
 obtain⟨e,dx,oh,vs,rfl,hC,nC,⟨t,he⟩,ne,hH,dh,v2,k⟩:=q;obtain⟨hp,gs,dr,tk,os⟩:=s1;refine d8 (jy (hc _ _ (d8 (j4 ?_))));repeat (first|with_reducible refine eU he ?_|with_reducible refine eU hC ?_|(with_reducible refine pL hC ?_;rw[cB])|wp_step)
 have e1:=eV (ag (·.setIfInBounds 3 N9)) he rfl;have e2:=eV (ag (·.setIfInBounds 4 (pe true))) e1 rfl;have e3:=eV (ag (·.setIfInBounds 2 (t7 h))) e2 rfl;refine Bk hh ne (oh:=oh) (vs:=vs) ?_ dh v2 e2 rfl (by simp) (k _ (λb hb=>?_) (by simp) ⟨t,e3⟩)
 . show((hp.update e _).update e _).get? h=_
   rw[K9 _ _ (B3 ne),K9 _ _ (B3 ne)];exact hH
 . rw[K9 _ _ (B3 hb),K9 _ _ (B3 hb),K9 _ _ (B3 hb)]
end
noncomputable def eS(c:Option b8)(m:b8)(e T C dx:Addr)(h:Heap):Prop:=∃vs oT ts,h.get? e=some {cls:=.ref C,dict:=some dx,data:=.fields vs}/\vs[1]? = some (.ref T)/\T≠e/\h.get? T=some oT/\oT.data=.fields ts/\ts[3]? = some m/\vs[2]? = c
theorem eS.xn{c:Option b8}{e T C dx:Addr}{h:Heap}(x:eS c .none e T C dx h):cH e T C dx h:=let ⟨vs,oT,ts,a1,a2,a3,a4,a5,a6,_⟩:=x;⟨vs,oT,ts,a1,a2,a3,a4,a5,a6⟩
section
variable{M:az}{A A':j6}{E E':b8->c8->Prop}{s:c8}{base:Heap}{env:Env}{outer:List Env}{L e T C dx:Addr}{vs:Array b8}{head:b8}{had:Bool}{Q:Unit->c8->Prop}
theorem ky(hfr:A.frames=some (env::outer))(hl:s.heap.FunFrames base (env::outer))(hf:env.frame=some L)(he:s.heap.get? e=some {cls:=.ref C,dict:=some dx,data:=.fields vs})(hz:1<vs.size)(h:∀h' T,s.heap.objs.size<=T->(∀b o,b≠e->b∉N0 (env::outer)->s.heap.get? b=some o->h'.get? b=some o)->(∀b o,b∈N0 (env::outer)->s.heap.get? b=some o->∃sl,h'.get? b=some {o with slots:=sl})->eS vs[2]? (P4 L) e T C dx h'->Q () {s with heap:=h'}):
  wpAny M A (do let a <- frameOf env;let pl <- entryPlaceOf L had;let b <- um head a .none (P4 L) .none pl;setField (.ref e) 1 b) Q E s:=by
 have ene:e∉N0 (env::outer):=λhm=>by obtain⟨_,o,ho,hnf⟩:=hl.mem hm;rw[he]at ho;injection ho with ho;subst ho;exact hnf vs rfl
 refine d8 (wpAny_frameOf_fun hfr hl hf λg1 q1=>d8 (wpAny_entryPlaceOf λpl hpl=>?_))
 unfold um newFields;refine d8 (iq ?_ (hpl.sizeOk5 _ _ _ _ _));generalize ho:({cls:=.type "traceback",dict:=none,data:=.fields ([head,.ref L,.none,P4 L,.none]++(if pl.isEmpty then w9 6 N9 else pl)).toArray}:Obj)=oT
 have dT:oT.data=.fields ([head,.ref L,.none,P4 L,.none]++(if pl.isEmpty then w9 6 N9 else pl)).toArray:=by rw[<-ho]
 have fT:oT.isFreed=false:=pO dT;have e1:g1.get? e=some {cls:=.ref C,dict:=some dx,data:=.fields vs}:=(q1.2.1 e ene).trans he;have e2:=o9 (h:=g1) oT e1;have hT2:(g1.push oT).get? g1.objs.size=some oT:=J8 g1 fT;have hTe:g1.objs.size≠e:=cF (m6 e1);have e3:=eV (ag (·.setIfInBounds 1 (t7 g1.objs.size))) e2 rfl;have hT3:=(K9 (g1.push oT) (ag (·.setIfInBounds 1 (t7 g1.objs.size))) (B3 hTe)).trans hT2;refine fh e2 rfl hz (h _ g1.objs.size (by rw[q1.1];exact C6 _) (λb o hb hn q=>?_) (λb o hb q=>?_) ⟨_,_,_,e3,by simp[hz],hTe,hT3,dT,by simp,by simp⟩)
 . have q2:g1.get? b=some o:=(q1.2.1 b hn).trans q;rw[K9 _ _ (B3 hb)];exact o9 _ q2
 . obtain⟨sl,q2⟩:=q1.2.2 b o q;have hb':b≠e:=λz=>ene (z▸hb)
   refine⟨sl,?_⟩;rw[K9 _ _ (B3 hb')];exact o9 _ q2
theorem ig{c:Option b8}{fr:Option Addr}{m m0:b8}(hN:eS c m0 e T C dx s.heap)(hm:fr.elim N9 (λf=>P4 f)=m)(h:∀h',h'.objs.size=s.heap.objs.size->(∀b,b≠T->h'.get? b=s.heap.get? b)->eS c m e T C dx h'->Q () {s with heap:=h'}):
  wpAny M A (jn (.ref e) fr) Q E s:=by
 obtain⟨vs,oT,ts,he,h1,hTe,hT,hdT,h3,h2⟩:=hN;have s3:3<ts.size:=(Array.getElem?_eq_some_iff.mp h3).1;unfold jn;refine d8 (H9 he rfl h1 ?_);rw[d9 (show(t7 T != N9)=true by simp),hm]
 refine fh hT hdT s3 (h _ (by simp) (λb hb=>K9 _ _ (B3 hb)) ⟨vs,_,_,(K9 _ _ hTe).trans he,h1,hTe,eV _ hT (pO (lO hdT _)),lO hdT _,?_,h2⟩)
 rw[Lc,d9 s3]
theorem Gd{Qx:b8->Unit->c8->Prop}{E'x:b8->b8->c8->Prop}(hfr:A'.frames=some (env::outer))(hl:s.heap.FunFrames base (env::outer))(hf:env.frame=some L)(he:s.heap.get? e=some {cls:=.ref C,dict:=some dx,data:=.fields vs})(h1:vs[1]? = some .none)(h:∀h' T,s.heap.objs.size<=T->(∀b o,b≠e->b∉N0 (env::outer)->s.heap.get? b=some o->h'.get? b=some o)->(∀b o,b∈N0 (env::outer)->s.heap.get? b=some o->∃sl,h'.get? b=some {o with slots:=sl})->eS vs[2]? .none e T C dx h'->Qx (.ref e) () {s with heap:=h'}):
  bR M A' env (λx s2=>cameBackBy M A env (λx s3=>wpAny M A (leaving env x) (Qx x) (E'x x) s3) x s2) (.ref e) s:=by
 have hz:1<vs.size:=(Array.getElem?_eq_some_iff.mp h1).1;unfold bR fb;simp only[hf];refine d8 (H9 he rfl h1 ?_);rw[e7 (by decide)]
 refine ky hfr hl hf he hz λh' T hT k1 k2 hN=>?_
 unfold cameBackBy;obtain⟨vs',oT,ts,g1,g2,g3,g4,g5,g6,_⟩:=id hN;have tb:∀b o,s.heap.get? b=some o->b≠T:=λb o q z=>by have:=m6 q;rw[z]at this;exact absurd this (Nat.not_lt.mpr hT)
 refine d8 (H9 g1 rfl g2 ?_);rw[e7 (show ¬((t7 T==N9)=true) by simp)]
 refine ig (s:={s with heap:=h'}) (m:=P4 L) hN (by rw[hf];rfl) λh2 z1 z2 hN2=>?_
 unfold leaving fb;simp only[hf];obtain⟨vs2,oT2,ts2,y1,y2,y3,y4,y5,y6,_⟩:=id hN2;refine d8 (d8 (H9 y1 rfl y2 ?_));rw[d9 (show(t7 T != N9)=true by simp)]
 refine d8 (H9 y4 y5 y6 ?_);rw[d9 (jD _)];refine j4 ?_;refine ig (s:={s with heap:=h2}) (m:=.none) hN2 rfl λh3 x1 x2 hF=>?_
 refine h h3 T hT (λb o hb hn q=>?_) (λb o hb q=>?_) hF
 . rw[x2 b (tb b o q),z2 b (tb b o q)];exact k1 b o hb hn q
 . obtain⟨sl,q2⟩:=k2 b o hb q;exact⟨sl,by rw[x2 b (tb b o q),z2 b (tb b o q)];exact q2⟩
theorem yI(hfr:A.frames=some (env::outer))(hl:s.heap.FunFrames base (env::outer))(hf:env.frame=some L)(he:s.heap.get? e=some {cls:=.ref C,dict:=some dx,data:=.fields vs})(h1:vs[1]? = some .none)(h:∀h' T,s.heap.objs.size<=T->(∀b o,b≠e->b∉N0 (env::outer)->s.heap.get? b=some o->h'.get? b=some o)->(∀b o,b∈N0 (env::outer)->s.heap.get? b=some o->∃sl,h'.get? b=some {o with slots:=sl})->eS vs[2]? .none e T C dx h'->Q () {s with heap:=h'}):
  wpAny M A (leaving env (.ref e)) Q E s:=by
 have hz:1<vs.size:=(Array.getElem?_eq_some_iff.mp h1).1;unfold leaving fb;simp only[hf];refine d8 (d8 (H9 he rfl h1 ?_));rw[e7 (by decide)]
 refine ky hfr hl hf he hz λh' T hT k1 k2 hN=>?_
 have tb:∀b o,s.heap.get? b=some o->b≠T:=λb o q z=>by have:=m6 q;rw[z]at this;exact absurd this (Nat.not_lt.mpr hT)
 refine ig (s:={s with heap:=h'}) (m:=.none) hN rfl λh3 x1 x2 hF=>?_
 refine h h3 T hT (λb o hb hn q=>?_) (λb o hb q=>?_) hF
 . rw[x2 b (tb b o q)];exact k1 b o hb hn q
 . obtain⟨sl,q2⟩:=k2 b o hb q;exact⟨sl,by rw[x2 b (tb b o q)];exact q2⟩
end
noncomputable def kB(P:j3)(w:i7):fq:=λouter H s E e s'=>∃ea T C dx H',e=.ref ea/\s'.os=s.os/\bT s'.gens/\Un (N0 outer) [] H H' s.heap s'.heap/\U6 P w H' s'.heap/\eS (some .none) .none ea T C dx s'.heap/\H' ea=some (.ext (ExcAt ea C dx))/\H' T=none /\
 s.heap.objs.size<=T/\E (.ref ea) none H'/\H ea=none
section
variable{P:j3}{w:i7}{K:c9}{mg:Str->Option b8}{base:Heap}{N:List Str}{qual:Str}{scope:E8}{f:Addr}{cd:b8}{A:j6}{outer:List Env}{s:c8}{H:Hp}{E:XK}
theorem Fy{pins:List (Addr×Obj)}{σ:St}{H1:Hp}{s1:c8}{ea C dx:Addr}(I:Inv (V4 (kB P w) P w K mg base N qual scope f cd A outer s H E) pins σ H1 s1)(he:H1 ea=some (.ext (A3 ea C (some dx))))(hn:H ea=none)(hE:E (.ref ea) none (upd H1 ea (.ext (ExcAt ea C dx)))):
  (V4 (kB P w) P w K mg base N qual scope f cd A outer s H E).xe (.ref ea) s1:=by
 obtain⟨t,kM⟩:A3 ea C (some dx) s1.heap:=(I.i9 ea _ he).1;show wpAny (model P w) (A.deeper (K7 qual scope s.heap.objs.size f cd)) (leaving (K7 qual scope s.heap.objs.size f cd) (.ref ea)) _ _ s1
 refine yI (L:=s.heap.objs.size) I.ok.frames I.stack rfl kM rfl λh' T hT k1 k2 fl=>?_
 have J:=I.flew (h':=h') (ch:=[]) (dx:=dx) he ⟨λ_ z=>(by cases z),λ_ z=>(by cases z),λ_ _ z=>(by cases z),λ_ z=>(by cases z)⟩ (λb hb=>absurd hb (by simp)) (λb hb=>absurd hb (by simp)) (λb o hb _ hn q=>k1 b o hb hn q) (λb o hb q=>k2 b o hb q) fl.xn.at
 have hTa:upd H1 ea (.ext (ExcAt ea C dx)) T=none:=by
  have n1:H1 T=none:=I.i9.fresh hT;have n2:T≠ea:=λz=>by rw[z,he]at n1;cases n1
  rw[i8 n2];exact n1
 exact⟨ea,T,C,dx,_,rfl,J.os,J.bare,J.base,J.i9,fl,l7,hTa,t4 I.sz hT,hE,hn⟩
end
section
variable{P:j3}{w:i7}{K:c9}{mg:Str->Option b8}{base:Heap}
theorem fw.XA {x qual:Str} {st:Stmt} {f:Addr} {fd:l9} {N ps:List Str} {k:Nat} {G:Ds->Option Out} (F:fw K x qual st f fd) (S:R5 N ps (k9 st)) (hN:ps.length<=N.length) (hbody:∀(cdv:b8) (A:j6) (outer:List Env) (s:c8) (H:Hp) (E:XK),N4 k (A.deeper (K7 qual (k9 st) s.heap.objs.size f cdv)) ->
   ∃t,aO (V4 (kB P w) P w K mg base N qual (k9 st) f cdv A outer s H E) (K6 st) t G):P5 P w K mg base (kB P w) (k+1) f fd ps (xO K (fnX ps.length N.length G)):=by
 have ln:∀vs H Q E,xO K (fnX ps.length N.length G) vs H Q E->vs.length=ps.length:=λvs H Q E h=>by
  obtain⟨O,ds,pv,h1,h2,h3,h4⟩:=h;unfold fnX at h3;split at h3
  . rename_i hl;rw[h2.length];exact hl
  . cases h3
 obtain⟨oc,od,kV,doc,pm,an,cdv,ct,osl,rfl,lk,hcd⟩:=F.ex;refine ES lk hcd S ln λA outer s H vs Q E hr h=>?_
 obtain⟨O,ds,a,h1,h2,h3,h4⟩:=h;obtain⟨t,ht⟩:=hbody cdv A outer s H E hr;refine⟨t,ht.p,?_⟩;unfold fnX at h3;split at h3
 . rename_i hl;rw[<-hl]at h3;cases e1:G (br ds++w9 (N.length-ds.length) none)with
   |none=>rw[e1]at h3;cases h3
   |some o =>
    rw[e1]at h3;simp only[F7]at h3;refine ht.t O H _ (L2.start N vs) H _ _ o (DS.start h1 h2) e1 ?_;cases o with
    |next ds'=>cases h3;exact λas σ H' S'=>h4 _ H' S'.same Dt.non
    |ret pv'=>cases h3;exact λv H' s r=>h4 v H' s r
    |brk ds'=>cases h3
    |cont ds'=>cases h3
    |retO pv ds'=>cases h3
    |upO t x ds'=>cases h3
    |up x =>
     cases h3;intro ea H1 sm n0 ⟨C,dx,fld,v,d,hx,hC,hnf,q1,q2,q3,hd⟩ pins σ s1 I;subst hx;have hde:dx≠ea:=λz=>by rw[z,q1]at q2;cases q2
     have eaO:ea∉O:=λz=>by obtain⟨u,z⟩:=h1 ea z;rw[n0]at z;cases z
     refine Fy I q1 n0 (h4 ea _ (λb u z=>?_) (.exc hC hnf (A9.mpr ⟨eaO,by simp,l7⟩) (A9.mpr ⟨q3,by simp,by rw[i8 hde];exact q2⟩) (hd.same (Y8 λb u z1 z2 z3=>⟨λz=>z1 (o8 _ z),by simp,?_⟩))))
     . rw[i8 (B2 z n0)];exact sm b u z
     . rw[i8 λz=>z1 (by rw[z];exact o2)];exact z3
 . cases h3
end
theorem Eu{M:az}{A:j6}{E:b8->c8->Prop}{s:c8}{c:Option b8}{base:Heap}{env:Env}{outer:List Env}{L e T C dx:Addr}{Q:Unit->c8->Prop}(hfr:A.frames=some (env::outer))(hl:s.heap.FunFrames base (env::outer))(hf:env.frame=some L)(he:eS c .none e T C dx s.heap)(h:∀h' T',s.heap.objs.size<=T'->(∀b o,b≠e->b≠T->b∉N0 (env::outer)->s.heap.get? b=some o->h'.get? b=some o)->(∀b o,b∈N0 (env::outer)->s.heap.get? b=some o->∃sl,h'.get? b=some {o with slots:=sl})->eS c .none e T' C dx h'->Q () {s with heap:=h'}):
  wpAny M A (fb (.ref e) env) (λ_ s'=>wpAny M A (jn (.ref e) none) Q E s') E s:=by
 obtain⟨vs,oT,ts,he,h1,hTe,hT,hdT,h3,h2⟩:=he;have s1:1<vs.size:=(Array.getElem?_eq_some_iff.mp h1).1;have s3:3<ts.size:=(Array.getElem?_eq_some_iff.mp h3).1;unfold fb;simp only[hf];refine d8 (H9 he rfl h1 ?_);rw[d9 (show(t7 T != N9)=true by simp)]
 refine d8 (H9 hT hdT h3 ?_);rw[e7 (show ¬((N9==P4 L)=true) by simp[P4])]
 refine d8 (fh hT hdT s3 ?_);have oth:∀b,b≠T->(s.heap.update T (ag (·.setIfInBounds 3 N9))).get? b=s.heap.get? b:=λb hb=>K9 _ _ (B3 hb)
 have noT:T∉N0 (env::outer):=λhm=>by obtain⟨_,o,ho,hnf⟩:=hl.mem hm;rw[hT]at ho;injection ho with ho;subst ho;exact hnf ts hdT
 have noR:∀b o,s.heap.get? b=some o->(∀us,o.data≠.fields us)->b≠T:=λb o q hnf z=>by rw[z,hT]at q;injection q with q;subst q;exact hnf ts hdT
 have sz:(s.heap.update T (ag (·.setIfInBounds 3 N9))).objs.size=s.heap.objs.size:=by simp[Heap.update]
 refine ky (s:={s with heap:=s.heap.update T (ag (·.setIfInBounds 3 N9))}) hfr (hl.of_keeps λb o q hnf=>⟨o,(oth b (noR b o q hnf)).trans q,rfl⟩) hf ((oth e (B3 hTe)).trans he) s1
  λh' T' hT' k1 k2 fl=>?_
 have hT2:s.heap.objs.size<=T':=by rw[<-sz];exact hT'
 have tb:∀b o,s.heap.get? b=some o->b≠T':=λb o q z=>by have:=m6 q;rw[z]at this;exact absurd this (Nat.not_lt.mpr hT2)
 rw[h2]at fl;refine ig (s:={s with heap:=h'}) (m:=.none) fl rfl λh3 x1 x2 hF=>?_
 refine h h3 T' hT2 (λb o hb hbT hn q=>?_) (λb o hb q=>?_) hF
 . rw[x2 b (tb b o q)];exact k1 b o hb hn ((oth b hbT).trans q)
 . obtain⟨sl,q2⟩:=k2 b o hb ((oth b (λz=>noT (z▸hb))).trans q)
   exact⟨sl,by rw[x2 b (tb b o q)];exact q2⟩
noncomputable def del(H:Hp)(a:Addr):Hp:=λb=>if b=a then none else H b
theorem zk{H:Hp}{a:Addr}:del H a a=none:=d9 rfl
theorem iW{H:Hp}{a b:Addr}(h:b≠a):del H a b=H b:=e7 h
theorem e9.del{H H':Hp}{a:Addr}(h:e9 H H')(n:H a=none):e9 H (L2.del H' a):=λb o z=>by
 rw[iW (λc=>by rw[c,n]at z;cases z)]
 exact h b o z
section
variable{X:Cx}{pins:List (Addr×Obj)}{σ:St}{H:Hp}{s:c8}{ha:Addr}{φ:Heap->Prop}
theorem Inv.gone(I:Inv X pins σ H s)(he:H ha=some (.ext φ)):Inv X pins σ (del H ha) s:=by
 refine I.call (s:=s) (h':=s.heap) (g':=s.gens) (t':=s.toks) (d':=s.drawn) (ch:=[]) ⟨λb o q n hb hc=>q,λb o q n hb hc=>⟨_,q⟩,λb o q n hc=>?_,λb o q hc=>⟨_,q⟩,λb xs q=>?_,λb o u q=>?_,λb ps q=>?_⟩ (λb u q=>?_) I.bare λb hb=>absurd hb (by simp)
 . unfold del;split
   . rfl
   . exact n
 . rw[iW λz=>by rw[z,he]at q;cases q];exact q
 . rw[iW λz=>by rw[z,he]at q;cases q];exact q
 . rw[iW λz=>by rw[z,he]at q;cases q];exact⟨#[],by rw[q];simp⟩
 . have hb:b≠ha:=λz=>by rw[z,zk]at q;cases q
   rw[iW hb]at q;refine(I.i9 b u q).iE (λc v hc r=>r) (λc q2=>?_) (λc xs q2=>?_)
   . rw[iW λz=>by rw[z,he]at q2;cases q2];exact q2
   . rw[iW λz=>by rw[z,he]at q2;cases q2];exact q2
theorem Inv.Xz{o:Obj}{vs:Array b8}(I:Inv X pins σ H s)(he:H ha=some (.ext φ))(ho:s.heap.get? ha=some o)(hd:o.data=.fields vs)(hf:ha∉X.fs):Inv X ((ha,o)::pins) σ (del H ha) s:=by
 have J:=I.gone he;refine⟨J.ok,J.os,J.bare,J.base,J.loc,J.cell,J.free,J.X7,λp hp=>?_,J.i9,J.len⟩
 rcases List.mem_append.mp hp with hp|hp
 . exact J.pin p (ao _ hp)
 . rcases List.mem_cons.mp hp with rfl|hp
   . exact⟨ho,zk,(λz=>by rw[show ha=X.env.locals from z,I.free]at he;cases he),hf,λv z=>by rw[hd]at z;cases z⟩
   . exact J.pin p (D0 _ hp)
theorem Inv.SI{p:Addr×Obj}(I:Inv X (p::pins) σ H s):Inv X pins σ H s :=
 ⟨I.ok,I.os,I.bare,I.base,I.loc,I.cell,I.free,I.X7,λq hq=>I.pin q (by
  rcases List.mem_append.mp hq with hq|hq
  . exact ao _ hq
  . exact D0 _ (o8 _ hq)),I.i9,I.len⟩
end
section
variable{P:j3}{w:i7}{K:c9}{mg:Str->Option b8}{base:Heap}{N:List Str}{qual:Str}{scope:E8}{f:Addr}{cd:b8}{A:j6}{outer:List Env}{s:c8}{H:Hp}{E:XK}
theorem EN{pins:List (Addr×Obj)}{σ:St}{H1:Hp}{s1:c8}{ha T' C1 C2 CS fi1 fi2 dx:Addr}{fld1 fld2 cn:Str}{p3 p4 q3 q4:Pos}{ck:Nat}{ec:Expr}{tx:TE}{rest:List ExceptHandler}{Q:Flow->c8->Prop}(T1:Y2 K C1 CS fi1 fld1)(T2:Y2 K C2 CS fi2 fld2)(hgc:Gl (V4 (X4 P w) P w K mg base N qual scope f cd A outer s H E) cn)(hmc:mg cn=some (.ref C1))(I2:Inv (V4 (X4 P w) P w K mg base N qual scope f cd A outer s H E) pins σ H1 s1)(h1:H1 ha=some (.ext (ExcAt ha C1 dx)))(a2:s.heap.objs.size<=T'/\T'≠(K7 qual scope s.heap.objs.size f cd).locals/\(∀x c,(K7 qual scope s.heap.objs.size f cd).cells.lookup x=some c->c≠T')/\∀p∈[]++pins,p.1≠T')(nT':H1 T'=none)(fl2:eS (some .none) .none ha T' C1 dx s1.heap)(hfs:ha∉N0 outer)(he2:PE ((V4 (X4 P w) P w K mg base N qual scope f cd A outer s H E).marked ha) ec (tx))(ht:tx σ (del H1 ha) λy H3=>∃ea dx2,y=.ref ea/\H3 ea=some (.ext (A3 ea C2 (some dx2)))/\E (.ref ea) none (upd H3 ea (.ext (ExcAt ea C2 dx2))))(hdb:autoParam ((cn==("__debug__" : Str))=false) j9):
  wpAny (model P w) (A.deeper (K7 qual scope s.heap.objs.size f cd)) (lu (.ref ha) (K7 qual scope s.heap.objs.size f cd) (.ExceptHandler (some (.Name cn p3)) none [.Raise (some ec) (some (.Constant .none ck q4)) q3] p4::rest)) Q (V4 (X4 P w) P w K mg base N qual scope f cd A outer s H E).xe s1:=by
 have I3:=I2.marked ha;obtain⟨nm,qn,Nn,bs,sn,sub,ab,col,dd,c0,c1,c2,c3,c5,hC,_,_⟩:=T1.cls;obtain⟨nm',qn',Nn',bs',sn',sub',ab',col',dd',c0',c1',c2',c3',c5',hC',_,_⟩:=T2.cls;obtain⟨us,oT,ts,g1,g2,g3,g4,g5,g6,g7⟩:=fl2;refine AF (AN (show wpAny (model P w) ((V4 (X4 P w) P w K mg base N qual scope f cd A outer s H E).marked ha).A (eval (.Name cn p3) ((V4 (X4 P w) P w K mg base N qual scope f cd A outer s H E).marked ha).env) _ _ _ from dN I3 hgc hmc ?_ hdb)) (by intro q;cases q)
 refine KN (I2.L7 _ _ hC) g1 rfl (by simp[L4]) ?_
 refine codeAny_handlers_suite ?_;refine Kh g1 rfl g2 g4 g5 (Array.getElem?_eq_some_iff.mp g6).1 ?_;have I4:=I3.turned (h':=s1.heap.update T' (ag (·.setIfInBounds 3 .none))) (t':=s1.toks) (it:=T') (λb o hb q=>by rw[K9 _ _ (B3 hb)];exact q) nT' a2.2.1 (.inr a2.1) a2.2.2.1 a2.2.2.2
 have I5:=I4.Xz h1 ((K9 _ _ g3).trans g1) rfl hfs;refine pF ?_;rw[arm_exec_Raise];refine d8 (jx (DR (C:=C2) (h:=ha) (nm:=nm') (qn:=qn') (N:=Nn') (bs:=bs') (tl:=.ref CS::L4) (hd:=true) (sn:=sn') (sub:=sub') (ab:=ab') (col:=col') (dd:=dd') (k0:=c0') (k1:=c1') (k2:=c2') (k3:=c3') (k5:=c5') (nid:="ValueError.__new__") (by simp[L4]) rfl (λs Q hq=>d8 (Constant_none (d8 (jx (j4 hq))))) ?_))
 refine d8 (P1 (he2 _ _ σ _ _ I5 ht) (λv s3 ⟨y,H3,I6,ry,ea,dx2,ey,k1,hE⟩=>d8 (jx (j4 ?_))) λe s z=>M9 z)
 subst ey;obtain rfl:v=t7 ea:=ry;obtain⟨p1,p2,_⟩:=I6.pin (ha,_) (D0 _ o2);have hne:ha≠ea:=λz=>by rw[z,k1]at p2;cases p2
 have kM:A3 ea C2 (some dx2) s3.heap:=(I6.i9 ea _ k1).1;have I7:=(I6.SI).unmarked I2.ok;refine⟨ea,dx2,_,us,rfl,I6.L7 _ _ hC',λz=>?_,kM,hne,p1,rfl,g7,λh' kb ks ⟨t,q⟩=>?_⟩
 . have:=(I7.bs C2 _ (I7.ok.mod.ow C2 _ hC')).2;rw[z,k1]at this;cases this
 . have J7:=I7.stack;have nfr:∀b o,s3.heap.get? b=some o->(∀us,o.data≠.fields us)->b≠ea:=λb o z1 z2 z3=>by
    obtain⟨t',z4⟩:=kM;rw[z3,z4]at z1;injection z1 with z1
    subst z1;exact z2 _ rfl
   have efr:ea∉N0 (K7 qual scope s.heap.objs.size f cd::outer):=λhm=>by have:=I7.kF ea hm;rw[k1]at this;cases this
   refine Gd (s:={s3 with heap:=h'}) (base:=base) (outer:=outer) (L:=s.heap.objs.size) (A':=(A.deeper (K7 qual scope s.heap.objs.size f cd)).mark (some (.ref ha))) I6.ok.frames (J7.of_keeps λb o z1 z2=>⟨o,(kb b (nfr b o z1 z2)).trans z1,rfl⟩) rfl q rfl λh2 T hT m1 m2 fl=>?_
   have J:=I7.flew (h':=h2) (ch:=[]) (dx:=dx2) (C:=C2) k1 ⟨λ_ z=>(by cases z),λ_ z=>(by cases z),λ_ _ z=>(by cases z),λ_ z=>(by cases z)⟩ (λb hb=>absurd hb (by simp)) (λb hb=>absurd hb (by simp)) (λb o hb _ hn z=>m1 b o hb hn ((kb b hb).trans z)) (λb o hb z=>m2 b o hb ((kb b (λc=>efr (c▸hb))).trans z)) fl.xn.at
   have hT3:s3.heap.objs.size<=T:=by rw[<-ks];exact hT
   have hTa:upd H3 ea (.ext (ExcAt ea C2 dx2)) T=none:=by
    have n1:H3 T=none:=I7.i9.fresh hT3;have n2:T≠ea:=λz=>by rw[z,k1]at n1;cases n1
    rw[i8 n2];exact n1
   exact⟨ea,T,C2,dx2,_,rfl,J.os,J.bare,J.base,J.i9,fl.xn,l7,hTa,t4 I7.sz hT3,hE⟩
end
theorem vj{X:Cx}{pins:List (Addr×Obj)}{σ:St}{H:Hp}{s:c8}{ea C C' dx dx':Addr}(I:Inv X pins σ H s)(h1:H ea=some (.ext (ExcAt ea C dx)))(h2:H ea=some (.ext (ExcAt ea C' dx'))):C=C':=by
 obtain⟨vs,q1⟩:=(I.i9 ea _ h1).1;obtain⟨vs',q2⟩:=(I.i9 ea _ h2).1;rw[q1]at q2;injection q2 with q2
 injection q2 with q2
 injection q2
noncomputable def Cx.quiet(X:Cx):Cx:={X with xe:=λ_ _=>False}
theorem Cx.Ok.quiet{X:Cx}(ok:X.Ok):X.quiet.Ok :=
 ⟨ok.mod,ok.kind,ok.glob,ok.blt,ok.above,ok.inj,ok.has,ok.wq,ok.hd,ok.frames,ok.xK,ok.CN,ok.bs,ok.jW,ok.mF,ok.oG,ok.dy,ok.qF⟩
theorem Inv.Qe{X:Cx}{pins:List (Addr×Obj)}{σ:St}{H:Hp}{s:c8}(I:Inv X pins σ H s):Inv X.quiet pins σ H s:=⟨I.ok.quiet,I.os,I.bare,I.base,I.loc,I.cell,I.free,I.X7,I.pin,I.i9,I.len⟩
theorem Inv.loud{X:Cx}{pins:List (Addr×Obj)}{σ:St}{H:Hp}{s:c8}(I:Inv X.quiet pins σ H s)(ok:X.Ok):Inv X pins σ H s:=⟨ok,I.os,I.bare,I.base,I.loc,I.cell,I.free,I.X7,I.pin,I.i9,I.len⟩
noncomputable def IP(C1 C2:Addr)(tx:TE)(E:XK)(σ:St)(H1:Hp):XK:=λev _ H2=>∀ha,ev=.ref ha->H1 ha=none->∃dx,H2 ha=some (.ext (ExcAt ha C1 dx))/\tx σ (del H2 ha) λy H3=>∃ea dx2,y=.ref ea/\H3 ea=some (.ext (A3 ea C2 (some dx2)))/\E (.ref ea) none (upd H3 ea (.ext (ExcAt ea C2 dx2)))
noncomputable def DA(C1 C2:Addr)(i:Nat)(sp:Sp)(t:TA)(tx:TE)(E:XK):TS:=λD σ H=>t σ H λvs H1=>sp vs H1 (λv H2=>D.nx (σ.set i (some v)) H2) (IP C1 C2 tx E σ H1)
section
variable{P:j3}{w:i7}{K:c9}{mg:Str->Option b8}{base:Heap}{N:List Str}{qual:Str}{scope:E8}{f0:Addr}{cd:b8}{A:j6}{outer:List Env}{s:c8}{H:Hp}{E:XK}
variable{C1 C2 CS fi1 fi2 f:Addr}{fld1 fld2 x y cn:Str}{fd:l9}{ps:List Str}{sp:Sp}{k i:Nat}{e ec:Expr}{es:List Expr}{t:TA}{tx:TE}{p p1 p2 p3 p4 p5 q3 q4 pos:Pos}{ck:Nat}
theorem QN{X:Cx}(hX:X=V4 (X4 P w) P w K mg base N qual scope f0 cd A outer s H E)(F:P5 P w K mg base (kB P w) k f fd ps sp)(hr:N4 k X.A)(hg:Gl X x)(hm:X.mg x=some (.ref f))(hk:Y0 K (.ref f)=true)(hb:Binds K fd ps [])(ha:PA X.quiet (e::es) t)(T1:Y2 K C1 CS fi1 fld1)(T2:Y2 K C2 CS fi2 fld2)(hgc:Gl X cn)(hmc:X.mg cn=some (.ref C1))(hN:X.N.Nodup)(hi:X.N[i]? = some y)(hy:Loc X.env.scope y)(he2:∀ha,PE (X.marked ha) ec (tx))(hdb:autoParam ((x==("__debug__" : Str))=false) j9)(hdc:autoParam ((cn==("__debug__" : Str))=false) j9)(he:autoParam (u4 (e::es) X.env=(false,eval e X.env)::u4 es X.env) e8)(hpl:autoParam ((R1 pos (u4 es X.env)).any (·.1)=false) e8)(hsw:autoParam (N8 (.Call (.Name x p) (e::es) [] pos) (some (.Name y p1)) p2.line X.env=pure false) e8)(hf:autoParam (X.fn y=true\/X.env.scope.names.lookup y=some .local) W9):
  PS X (.Try [.Assign [.Name y p1] (.Call (.Name x p) (e::es) [] pos) p2] [.ExceptHandler (some (.Name cn p3)) none [.Raise (some ec) (some (.Constant .none ck q4)) q3] p4] [] [] p5) (DA C1 C2 i sp t tx E):=by
 subst hX;intro pins s0 σ H0 D I h;refine wpAny_Try_except (pF (Aw (jH (dN I hg hm ?_ hdb)) hsw));refine jG (h₀:=base) I.ok.mod.ow hk (P1 (ha pos pins s0 σ H0 _ I.Qe h) (λus s1 ⟨vs,H1,J1,r,q⟩=>?_) λe s z=>M9 z) he hpl
 have I1:=J1.loud I.ok;refine⟨I1.L7,?_⟩;have hl:us.length=ps.length:=by rw[<-r.length];exact F.len _ _ _ _ q
 have hbd:=hb s1 us I1.L7 (by rw[Q8];exact hl)
 rw[Q8]at hbd;refine jr (ju (F.run _ _ s1 H1 ⟨us,[]⟩ us vs _ _ hr I1.zh hbd r q) λr s' hq=>?_)
 cases r with
 |error e =>
  obtain⟨ha,T',C',dx,H',rfl,os,bare,un,i9,fl,h1,hT,hsz,hw,hn⟩:=(show kB P w _ H1 s1 (IP C1 C2 tx E σ H1) e s' from hq)
  obtain⟨dx',h2,ht⟩:=hw ha rfl hn;have I2:=I1.xp (ch:=[]) os un i9 bare λb z=>absurd z (by simp)
  obtain rfl:=vj I2 h1 h2;refine Eu (L:=s.heap.objs.size) I2.ok.frames I2.stack rfl fl λh' T2' hT' k1 k2 fl2=>?_
  have a1:=I1.above hsz;have I3:=I2.flew (h':=h') (ch:=[T']) (C:=C') (dx:=dx) h1 ⟨λ_ z=>(by cases z),λ_ z=>(by cases z),λ_ _ z=>(by cases z),λ_ z=>(by cases z)⟩ (λb hb=>by rw[mem_singleton.mp hb];exact hT) (λb hb=>by rw[mem_singleton.mp hb];exact a1)
   (λb o hb hc hnf q=>k1 b o hb (λz=>hc (by simp[z])) hnf q) (λb o hb q=>k2 b o hb q) fl2.xn.at
  have e0:upd H' ha (.ext (ExcAt ha C' dx))=H':=by
   funext b
   by_cases hb:b=ha
   . subst hb;rw[l7,h1]
   . rw[i8 hb]
  rw[e0]at I3;refine EN T1 T2 hgc hmc I3 h1 (I2.above hT') (I2.i9.fresh hT') fl2 (λz=>?_) (he2 ha) ht hdc
  have:=I2.kF ha (by
   show ha∈N0 (K7 qual scope s.heap.objs.size f0 cd::outer)
   unfold N0 at z ⊢;rw[uo];split
   . exact z
   . exact o8 _ z)
  rw[h1]at this;cases this
 |ok fl =>
  cases fl with
  |ret u =>
   obtain⟨v,H2,I2,rv,q2⟩:=I1.after hq;exact iC I2 hN hi hy rv (λs3 I3=>gH (gH ⟨_,H2,I3,q2⟩)) hf
  |next=>exact M9 hq
  |brk=>exact M9 hq
  |cont=>exact M9 hq
end
noncomputable def cv(P:V->Prop)(C:Addr)(fld:Str):Sp:=λvs H Q _=>∃ea v,vs=[.ref ea,v]/\P v/\H ea=some (.ext (A3 ea C none))/\∀dx,H dx=none->dx≠ea->Q .non (upd (upd H ea (.ext (A3 ea C (some dx)))) dx (.xd [(fld,v)]))
section
variable{X:Cx}{C CS fi:Addr}{fld prm x:Str}{k:Nat}{fd:l9}{P:V->Prop}{p pos cpos:Pos}{e:Expr}{t:TA}
theorem LR{cl:Bool}{pins:List (Addr×Obj)}{σ:St}{H:Hp}{s:c8}{Q:VK}{u:b8}{v:V}(T:Y2 X.K C CS fi fld)(F:ir cl X.prog X.w X.K X.mg X.base s9 k fi fd ["self",prm] (cv P C fld))(hr:U2 cl (k+1) X.A)(hb:Binds X.K fd ["self",prm] [])(hP:P v)(I:Inv X pins σ H s)(r:RelV v u)(h:∀ea dx,H ea=none->H dx=none->dx≠ea->Q (.ref ea) (upd (upd H ea (.ext (A3 ea C (some dx)))) dx (.xd [(fld,v)]))):
  wpAny (model X.prog X.w) X.A (call (.ref C) [u]) (EP X pins σ Q) X.xe s:=by
 obtain⟨nm,qn,N,bs,sn,sub,ab,col,dd,k0,k1,k2,k3,k5,hC,i9,hin⟩:=T.cls;obtain⟨oi,hoi,hfc⟩:=T.fn;obtain⟨hp,gs,dr,tk,os⟩:=s;have nsN:hp.Ns N (hp.nsMap N):=.of_isNs (PySem.W.isNs_of_in I.L7 i9);refine Jf KR (JM I.L7 T.tail) (I.L7 _ _ hC) nsN (Wx I.L7 nsN hin) (I.L7 _ _ hoi) hfc (by rw[aT];simp) λh' e hm=>?_
 obtain⟨t,ht,_,_⟩:=hm.there;obtain⟨hH,I2⟩:=I.WC (t':=tk) (D:=e) (o:=.ext (A3 e C none)) hm.keeps hm.new (rF ⟨t,ht⟩);have r2:Vals [V.ref e,v] [t7 e,u]:=.cons rfl (.cons r .nil);have sp:cv P C fld [.ref e,v] (upd H e (.ext (A3 e C none))) (λy H2=>y=.non/\Q (.ref e) H2) E0:=⟨e,v,rfl,hP,l7,λdx hdx hne=>⟨rfl,by rw[Qb];rw[i8 hne]at hdx;exact h e dx hH hdx hne⟩⟩
 refine jr (ju (F.run _ X.stack _ _ ⟨[.ref e,u],[]⟩ [.ref e,u] _ _ E0 (hr.make C [u] []) (I2.zh.make C [u] []) (hb _ [.ref e,u] I2.L7 rfl) r2 sp) λr s' hq'=>?_)
 cases r with
 |error e=>exact hq'.elim
 |ok fl =>
  cases fl with
  |ret u' =>
   obtain⟨y,H',I3,ry,ev,q3⟩:=I2.after hq';subst ev;exact⟨ry,⟨V.ref e,H',I3,rfl,q3⟩⟩
  |next=>exact M9 hq'
  |brk=>exact M9 hq'
  |cont=>exact M9 hq'
noncomputable def pU(P:V->Prop)(C:Addr)(fld:Str)(t:TA):TE:=λσ H Q=>t σ H λvs H1=>∃v,vs=[v]/\P v/\∀ea dx,H1 ea=none->H1 dx=none->dx≠ea->Q (.ref ea) (upd (upd H1 ea (.ext (A3 ea C (some dx)))) dx (.xd [(fld,v)]))
theorem uR{cl:Bool}(T:Y2 X.K C CS fi fld)(F:ir cl X.prog X.w X.K X.mg X.base s9 k fi fd ["self",prm] (cv P C fld))(hr:U2 cl (k+1) X.A)(hb:Binds X.K fd ["self",prm] [])(hkp:Y0 X.K (.ref C)=true)(hg:Gl X x)(hm:X.mg x=some (.ref C))(ha:PA X [e] t)(hdb:autoParam ((x==("__debug__" : Str))=false) j9)(he:autoParam (u4 [e] X.env=(false,eval e X.env)::u4 [] X.env) e8)(hpl:autoParam ((R1 cpos (u4 [] X.env)).any (·.1)=false) e8):PE X (.Call (.Name x p) [e] [] cpos) (pU P C fld t):=by
 intro pins s σ H Q I h;refine jH (dN I hg hm ?_ hdb);refine jG (h₀:=X.base) I.ok.mod.ow hkp (m4 (ha cpos pins s σ H _ I h) λus s1 ⟨vs,H1,I1,r,v,ev,hP,q⟩=>⟨I1.L7,?_⟩) he hpl
 subst ev;obtain⟨u,rfl,ru⟩:=vals1 r;exact LR T F hr hb hP I1 ru q
theorem vH(T:Y2 X.K C CS fi fld)(W:Addr->Addr->V->Hp->Prop)(hc:X.A.handled=none)(he:PE X e (pU P C fld t))(hxe:∀pins σ H s ea dx v,Inv X pins σ H s->H ea=some (.ext (A3 ea C (some dx)))->H dx=some (.xd [(fld,v)])->W ea dx v H->X.xe (.ref ea) s):
  PS X (.Raise (some e) none pos) (λ_ σ H=>pU P C fld t σ H λy H2=>∃ea dx v,y=.ref ea/\H2 ea=some (.ext (A3 ea C (some dx)))/\H2 dx=some (.xd [(fld,v)])/\W ea dx v H2):=by
 intro pins s σ H D I h;obtain⟨nm,qn,N,bs,sn,sub,ab,col,dd,k0,k1,k2,k3,k5,hC,_,_⟩:=T.cls;rw[arm_exec_Raise];refine d8 (jx (Gz (C:=C) (nm:=nm) (qn:=qn) (N:=N) (bs:=bs) (tl:=.ref CS::L4) (hd:=true) (sn:=sn) (sub:=sub) (ab:=ab) (col:=col) (dd:=dd) (k0:=k0) (k1:=k1) (k2:=k2) (k3:=k3) (k5:=k5) (nid:="ValueError.__new__") (by simp[L4]) hc ?_))
 refine d8 (m4 (he pins s σ H _ I h) λv s1 ⟨y,H1,I1,ry,ea,dx,v',ey,h1,h2,hw⟩=>d8 (jx (j4 ?_)))
 subst ey;obtain rfl:v=t7 ea:=ry;exact⟨ea,some dx,rfl,I1.L7 _ _ hC,(I1.i9 ea _ h1).1,hxe pins σ H1 s1 ea dx v' I1 h1 h2 hw⟩
end
noncomputable def yT(pd:b5->Bool)(C:Addr)(fld:Str)(F:Ds->Option (List b5)):Ds->Option Out:=λds=>(F ds).bind λl=>match l with
 | [d]=>if pd d=true then some (.up (J4 C fld d))else none
 |_=>none
section
variable{X:Cx}{C CS fi:Addr}{fld prm x:Str}{k:Nat}{fd:l9}{p pos cpos:Pos}{e:Expr}{ta:TA}{Fl:Ds->Option (List b5)}{fr:Bool}{P:V->Prop}{pd:b5->Bool}
noncomputable def BO(P:V->Prop)(X:Cx)(C:Addr)(fld:Str)(ta:TA):TS:=λ_ σ H=>pU P C fld ta σ H λy H2=>∃ea dx v,y=.ref ea/\H2 ea=some (.ext (A3 ea C (some dx)))/\H2 dx=some (.xd [(fld,v)])/\∀pins σ s,Inv X pins σ H2 s->X.xe (.ref ea) s
theorem DY(hPd:∀H v d,Dt X.K H v d->pd d=true->P v)(T:Y2 X.K C CS fi fld)(TC:bw X.K C)(F:P5 X.prog X.w X.K X.mg X.base s9 k fi fd ["self",prm] (cv P C fld))(hr:N4 (k+1) X.A)(hb:Binds X.K fd ["self",prm] [])(hkp:Y0 X.K (.ref C)=true)(hc:X.A.handled=none)(hg:Gl X x)(hm:X.mg x=some (.ref C))(ha:bz X fr [e] ta Fl)(hdb:autoParam ((x==("__debug__" : Str))=false) j9)(he:autoParam (u4 [e] X.env=(false,eval e X.env)::u4 [] X.env) e8)(hpl:autoParam ((R1 cpos (u4 [] X.env)).any (·.1)=false) e8):
  B8 X (.Raise (some (.Call (.Name x p) [e] [] cpos)) none pos) (BO P X C fld ta) (yT pd C fld Fl):=by
 refine⟨vH T (λea dx v H2=>∀pins σ s,Inv X pins σ H2 s->X.xe (.ref ea) s) hc (uR T F hr hb hkp hg hm ha.p hdb he hpl) λpins σ H s ea dx v I _ _ w=>w pins σ s I,?_⟩
 intro O f6 as σ H ds D o S hf q;unfold yT at hf;cases h1:Fl ds with
 |none=>rw[h1]at hf;cases hf
 |some l =>
  rw[h1]at hf;simp only[F7]at hf;split at hf
  . rename_i d;split at hf
    . rename_i hpd;cases hf;refine ha.t O f6 as σ H ds [d] _ S h1 λvs H1 e1 r1=>?_
      obtain⟨v,rfl,hv⟩:=r1.inv1;refine⟨v,rfl,hPd _ _ _ hv hpd,λea dx n1 n2 hne=>⟨ea,dx,v,rfl,?_,l7,?_⟩⟩
      . rw[i8 (B3 hne),l7]
      . have sm1:e9 H1 (upd (upd H1 ea (.ext (A3 ea C (some dx)))) dx (.xd [(fld,v)])):=λb u z=>by rw[i8 (B2 z n2),i8 (B2 z n1)];exact z
        have sm0:e9 f6 H1:=S.same.trans e1;refine q ea _ (sm0.trans sm1) (sm0.free n1) ⟨C,dx,fld,v,d,rfl,TC,T.OV,by rw[i8 (B3 hne),l7],l7,λz=>?_,hv.same (Y8 λb u z1 z2 z3=>⟨λz=>?_,by simp,sm1 b u z3⟩)⟩
        . obtain⟨u,z⟩:=S.aw dx z;rw[sm0.free n2]at z;cases z
        . rcases List.mem_cons.mp z with z|z
          . rw[z,n1]at z3;cases z3
          . exact z1 z
    . cases hf
  . cases hf
end
noncomputable def Jo(v:V):Prop:=∃i:Int,v=.int i/\i.natAbs.log2<1920
noncomputable def nX:b5->Bool
 | .int i=>decide (i.natAbs.log2<1920)
 |_=>false
theorem LJ{K:c9}(H:Hp)(v:V)(d:b5)(h:Dt K H v d)(e:nX d=true):Jo v:=by
 cases h with
 |int i=>exact⟨_,rfl,di e⟩
 |_=>cases e
section
variable{X:Cx}
noncomputable def Xw(i:Nat):TE:=λσ H Q=>∃n:Int,σ[i]? = some (some (.int n))/\n.natAbs.log2<1920/\∀x:Str,Q (.str x) H
end
section
variable{M:az}{A:j6}{E:b8->c8->Prop}{nm q nm2 qq2:Str}{C N C2 N2:Addr}{bs bm bs2 bm2:List b8}{hdct hdct2:Bool}{sn sn2:List Str}{sub sub2:List b8}{ab ab2:Bool}{col col2:Option Bool}{dd dd2:Option Addr}{k0 k1 k2 k3 k5 l0 l1 l2 l3 l5:Option b8}{newId newId2:String}
end
section
variable{X:Cx}{C CS fi:Addr}{fld:Str}{pins:List (Addr×Obj)}{σ:St}{H:Hp}{s s':c8}{E:XK}{D:Ends}{cn n:Str}{p3 p4:Pos}{b₀:Stmt}{suite:List Stmt}{tb:TS}{j:Nat}{e:b8}
end
section
variable{X:Cx}{C CS fi f:Addr}{fld x y cn n:Str}{fd:l9}{ps:List Str}{sp:Sp}{k i j:Nat}{e:Expr}{es:List Expr}{t:TA}{tb:TS}{p p1 p2 p3 p4 p5 pos:Pos}{b₀:Stmt}{suite:List Stmt}
end
section
variable{X:Cx}{C CS fi f:Addr}{fld x y cn n:Str}{fd:l9}{ps:List Str}{FX:List b5->Option (PV ⊕ b5)}{k i j:Nat}{e:Expr}{es:List Expr}{t:TA}{tb:TS}{Fl:Ds->Option (List b5)}{Gb:Ds->Option Out}{p p1 p2 p3 p4 p5 pos:Pos}{b₀:Stmt}{suite:List Stmt}
end
section
variable{X:Cx}{fr:Bool}{x:Str}{p pos tpos:Pos}{e:Expr}{te:TE}{F:Ds->Option PV}
end
noncomputable abbrev eQ:=List PV->Option ((PV ⊕ b5)×Ds)
noncomputable def mC(args:List PV)(t:Nat->Addr):Out->Option ((PV ⊕ b5)×Ds)
 | .retO pv ds=>some (.inl pv,u6 t 0 args ds)
 | .next ds=>some (.inl (.dat .none),u6 t 0 args ds)
 | .upO _ x ds=>some (.inr x,u6 t 0 args ds)
 |_=>none
noncomputable def ku(n N:Nat)(G:DO):eQ:=λargs=>if args.length=n then
 (open Classical in if h:∃r,∀t,(G ((bF t 0 args).map some++w9 (N-n) none)).bind (mC args t)=some r then some h.choose else none)else none
theorem fL{n N:Nat}{G:DO}{args:List PV}{r:(PV ⊕ b5)×Ds}(b:args.length=n)(h:∀t,(G ((bF t 0 args).map some++w9 (N-n) none)).bind (mC args t)=some r):ku n N G args=some r:=by
 delta ku;rw[d9 b];have a:∃r,∀t,(G ((bF t 0 args).map some++w9 (N-n) none)).bind (mC args t)=some r:=⟨r,h⟩;rw[dif_pos a];have:=a.choose_spec λ_=>0
 rw[h λ_=>0]at this
 exact this.symm
theorem yZ{n N:Nat}{G:DO}{args:List PV}{r:(PV ⊕ b5)×Ds}(h:ku n N G args=some r):args.length=n/\∀t,(G ((bF t 0 args).map some++w9 (N-n) none)).bind (mC args t)=some r:=by
 unfold ku at h;split at h
 . rename_i a;split at h
   . rename_i b;cases h;exact⟨a,b.choose_spec⟩
   . exact nE h
 . exact nE h
noncomputable def Ol(K:c9)(O:List Addr)(f6:Hp)(σ:St)(ds':Ds)(Q:VK)(E:XK):PV ⊕ b5->Prop
 | .inl pv=>∀as' Hm H' v,DS K O f6 as' σ Hm ds'->e9 Hm H'->RX K O as' Hm H' v pv->Q v H'
 | .inr x=>∀as' Hm H' ea,DS K O f6 as' σ Hm ds'->e9 Hm H'->Dt K (k6 H' as' O) (.ref ea) x->E (.ref ea) none H'
noncomputable def bI(K:c9)(f:eQ):Sp:=λvs H Q E=>∃(O:List Addr) (f6:Hp) (as:As) (args:List PV) (r:PV ⊕ b5) (ds':Ds),
 DS K O f6 as (vs.map some) H (args.map some)/\f args=some (r,ds')/\Ol K O f6 (vs.map some) ds' Q E r
section
variable{P:j3}{w:i7}{K:c9}{mg:Str->Option b8}{base:Heap}
theorem fw.XB {x j:Str} {M:Stmt} {f:Addr} {fd:l9} {N y:List Str} {k:Nat} {G:DO} (F:fw K x j M f fd) (S:R5 N y (k9 M)) (hN:y.length<=N.length) (u:∀(m:b8) (A:j6) (outer:List Env) (s:c8) (H:Hp) (E:XK),N4 k (A.deeper (K7 j (k9 M) (hz s) f m)) ->
   ∃t,aO (V4 (X4 P w) P w K mg base N j (k9 M) f m A outer s H E) (K6 M) t G):P5 P w K mg base (X4 P w) (k+1) f fd y (bI K (ku y.length N.length G)):=by
 have ln:∀g H Q E,bI K (ku y.length N.length G) g H Q E->g.length=y.length:=λg H Q E h=>by obtain⟨O,d,as,q,r,Z,D,I,X⟩:=h;have:=D.ls;have hl:=(yZ I).1;simp at this;simp[*]
 obtain⟨oc,od,kV,doc,pm,an,cdv,ct,osl,rfl,lk,hcd⟩:=F.ex;refine ES lk hcd S ln λA outer s H g Q E hr h=>?_
 obtain⟨O,d,as,q,r,Z,D,I,X⟩:=h;obtain⟨t,ht⟩:=u cdv A outer s H E hr;refine⟨t,ht.p,?_⟩;obtain⟨hl,I⟩:=yZ I;have W:=I λi=>addrOf g[i]?
 obtain⟨o,W,C⟩:=d4 W;have S1:=DS.Gf (N:=N) D;rw[hl]at S1;have:g.length=y.length:=by have:=D.ls;simp at this;simp[*]
 have L:∀a l T b,DS K O d a l T b->DS K O d a (g.map some) T (u6 (λi=>addrOf g[i]?) 0 q b):=λa l T b S2=>by
  refine S2.slots (by rw[dz,m9];simp[*]) λi pv hd=>?_
  obtain⟨c,w0,c0,rfl,h4,h5⟩:=mQ _ _ _ _ _ _ hd;refine⟨_,h5,λrg hs=>?_⟩
  obtain⟨v,R,z1,z2,z3,z4⟩:=hs;refine⟨v,R,?_,.inl rfl,z3,z4⟩;have n:addrOf g[0+i]? = v:=by
   rcases z2 with z|z
   . exact nS z
   . exact V6 z
  rw[ph]at n;obtain⟨v',_,B,_⟩:=D.slot i (.ob w0 c0) (by rw[S6,h4];rfl)
  rw[B];rw[S6]at B;cases e:g[i]? with
  |none=>rw[e]at B;exact nE B
  |some x =>
   rw[e]at B n;have y1':x=.ref v':=by simpa using B
   rw[y1']at n;have Y:v'=v:=n;rw[Y]
 refine ht.t O d as (L2.start N g) H _ _ o S1 W ?_;cases o with
 |next b=>cases C;exact λa l V S'=>X a V V _ (L _ _ _ _ S') (e9.refl _) Dt.non
 |retO pv' b=>cases C;exact λa l T V v S' s r=>X a T V v (L _ _ _ _ S') s r
 |ret pv'=>exact nE C
 |brk b=>exact nE C
 |cont b=>exact nE C
 |up x=>exact nE C
 |upO th x b =>
  cases C;cases th with
  |true=>exact λa l Hm H' ea S' sm dt=>X a Hm H' ea (L _ _ _ _ S') sm dt
  |false =>
   intro a l Hm H1 ea S' sm n0 ⟨C,dx,fld,v,d',hx,hC,hnf,q1,q2,q3,hd⟩ pins σ s1 J;subst hx;have hde:dx≠ea:=λz=>by rw[z,q1]at q2;cases q2
   have eaO:ea∉O:=λz=>by obtain⟨u,z⟩:=S'.aw ea z;have:=S'.same _ _ z;rw[n0]at this;cases this
   have eaA:some ea∉a:=λz=>by obtain⟨_,o,z⟩:=S'.new ea z;rw[n0]at z;cases z
   have dxO:dx∉O:=λz=>q3 (ao _ z)
   have dxA:some dx∉a:=λz=>q3 (D0 _ (List.mem_filterMap.mpr ⟨_,z,rfl⟩))
   refine Li J q1 (X a Hm _ ea (L _ _ _ _ S') (λb u z=>?_) (.exc hC hnf (A9.mpr ⟨eaO,eaA,l7⟩) (A9.mpr ⟨dxO,dxA,by rw[i8 hde];exact q2⟩) (hd.same (Y8 λb u z1 z2 z3=>⟨λz=>z1 (o8 _ (ao _ z)),λz=>z1 (o8 _ (D0 _ (List.mem_filterMap.mpr ⟨_,z,rfl⟩))),?_⟩))))
   . rw[i8 (B2 z n0)];exact sm b u z
   . rw[i8 λz=>z1 (by rw[z];exact o2)];exact z3
end
noncomputable def ic(pd:b5->Bool)(C:Addr)(fld:Str)(F:DL):DO:=λds=>(F ds).bind λl=>match l with
 | [d]=>if pd d=true then some (.upO false (J4 C fld d) ds)else none
 |_=>none
section
variable{X:Cx}{C CS fi:Addr}{fld prm x:Str}{k:Nat}{fd:l9}{p pos cpos:Pos}{e:Expr}{ta:TA}{Fl:DL}{Pv:V->Prop}{pd:b5->Bool}
theorem qz(hPd:∀H v d,Dt X.K H v d->pd d=true->Pv v)(T:Y2 X.K C CS fi fld)(TC:bw X.K C)(F:P5 X.prog X.w X.K X.mg X.base s9 k fi fd ["self",prm] (cv Pv C fld))(hr:N4 (k+1) X.A)(hb:Binds X.K fd ["self",prm] [])(hkp:Y0 X.K (.ref C)=true)(hc:X.A.handled=none)(hg:Gl X x)(hm:X.mg x=some (.ref C))(ha:bz X true [e] ta Fl)(hdb:autoParam (bA x) j9)(he:autoParam (aH X e []) e8)(hpl:autoParam (cT X cpos []) e8):
  B8 X (.Raise (some (.Call (.Name x p) [e] [] cpos)) none pos) (BO Pv X C fld ta) (ic pd C fld Fl):=by
 refine⟨vH T (λea dx v H2=>∀pins σ s,Inv X pins σ H2 s->X.xe (.ref ea) s) hc (uR T F hr hb hkp hg hm ha.p hdb he hpl) λpins σ H s ea dx v I _ _ w=>w pins σ s I,?_⟩
 intro O f6 as σ H ds D o S hf q;obtain⟨l,h1,hf⟩:=d4 hf;split at hf
 . rename_i d;obtain⟨hpd,hf⟩:=A7 hf;cases hf;refine ha.t O f6 as σ H ds [d] _ S h1 λvs H1 e1 r1=>?_
   obtain⟨v,rfl,hv⟩:=r1.inv1;have S1:=S.grow e1;refine⟨v,rfl,hPd _ _ _ hv hpd,λea dx n1 n2 hne=>⟨ea,dx,v,rfl,?_,l7,?_⟩⟩
   . rw[i8 (B3 hne),l7]
   . have sm1:e9 H1 (upd (upd H1 ea (.ext (A3 ea C (some dx)))) dx (.xd [(fld,v)])):=λb u z=>by rw[i8 (B2 z n2),i8 (B2 z n1)];exact z
     have hv:Dt X.K (k6 H1 as O) v d:=hv;refine q as σ H1 _ ea S1 sm1 n1 ⟨C,dx,fld,v,d,rfl,TC,T.OV,by rw[i8 (B3 hne),l7],l7,λz=>?_,hv.same (Y8 λb u z1 z2 z3=>⟨λz=>?_,by simp,sm1 b u z3⟩)⟩
     . rcases List.mem_append.mp z with z|z
       . obtain⟨u,z⟩:=S1.aw dx z;have:=S1.same _ _ z;rw[n2]at this;cases this
       . obtain⟨a,z,e⟩:=List.mem_filterMap.mp z;have e:a=some dx:=e;subst e;obtain⟨_,o,z⟩:=S1.new dx z;rw[n2]at z;cases z
     . rcases List.mem_cons.mp z with z|z
       . rw[z,n1]at z3;cases z3
       . rcases List.mem_append.mp z with z|z
         . exact z1 z
         . obtain⟨a,z,e⟩:=List.mem_filterMap.mp z;have e:a=some b:=e;subst e;exact z2 z
 . cases hf
end
noncomputable def iw(f:eQ)(Fl:Ds->Option (List AV)):Ds->Option ((PV ⊕ b5)×Ds):=λds=>(Fl ds).bind λl=>if (L1 l).Nodup then(dB ds l).bind λargs=>(f args).bind λr=>some (r.1,cO l r.2 ds)else none
noncomputable def dP(nm m:Str)(i:Nat)(f:eQ)(Fl:Ds->Option (List AV)):Ds->Option ((PV ⊕ b5)×Ds):=λds=>(iO nm i ds).bind λx=>match G4 m x.2 with
 |none=>iw f (B1 i Fl) ds
 |some _=>none
section
variable{X:Cx}{f':eQ}{es:List Expr}{t:TA}{Fl:Ds->Option (List AV)}{C:Addr}{x m:Str}{i:Nat}{E:XK}
theorem qQ(T:fV X.K x C)(I:jj X es t Fl){O:List Addr}{c:Hp}{Y:As}{F:St}{H:Hp}{ds ds':Ds}{r:PV ⊕ b5}{Q:VK}(S:DS X.K O c Y F H ds)(a:dP x m i f' Fl ds=some (r,ds'))(q:Ol X.K O c F ds' Q E r):jN C m (bI X.K f') [] E (D4 i) t F H Q:=by
 obtain⟨⟨w,fs⟩,W,a⟩:=d4 a;have n:=iM W;have b:=a;obtain⟨v,R,u,_,hR,C',dx,A,R',rfl,P,N,z⟩:=S.slot i _ n;have ec:=T.eq P;subst ec;cases hl:G4 m fs with
 |some _=>simp_all
 |none =>
  rw[hl]at b;refine⟨_,u,v,dx,A,rfl,N,z.UG hl,?_⟩;obtain⟨l,h,a⟩:=d4 b;unfold B1 at h;rw[n]at h;obtain⟨L,g,f⟩:=d4 h;cases f;obtain⟨hn,a⟩:=A7 a;obtain⟨d,h2,a⟩:=d4 a;obtain⟨⟨e,y⟩,h3,a⟩:=d4 a;cases a;refine I.t O c Y F H ds L _ S g λvs H1 D r1=>?_
  obtain⟨V,Hc,B,Sc,back⟩:=(S.grow D).Pm (.s u r1) h2 hn;rw[Q8];have q:Ol X.K O c F (cO (.s i::L) y ds) Q E e:=q;refine⟨V,Hc,B,d,e,y,Sc,h3,?_⟩;cases e with
  |inl pv =>
   intro j p o v S' r M;obtain⟨k,Z,G⟩:=back j p y S';exact q k p o v Z r (G o v pv r M)
  |inr x =>
   intro j p o ea S' r M;obtain⟨k,Z,G⟩:=back j p y S';exact q k p o ea Z r (G o (.ref ea) (.dat x) r M)
end
noncomputable def vd(f:eQ):List PV->Option (PV×Ds):=λargs=>(f args).bind λr=>match r.1 with
 | .inl pv=>some (pv,r.2)
 | .inr _=>none
theorem Nu{nm m:Str}{i:Nat}{f:eQ}{Fl:Ds->Option (List AV)}{ds ds':Ds}{pv:PV}(h:gv nm m i (vd f) Fl ds=some (pv,ds')):dP nm m i f Fl ds=some (.inl pv,ds'):=by
 unfold gv at h;unfold dP;obtain⟨x,e,h⟩:=d4 h;rw[e,F7];split at h
 . rename_i e2;try rw[e2]
   unfold F5 at h;show iw f (B1 i Fl) ds=_
   unfold iw;obtain⟨l,e3,h⟩:=d4 h;obtain⟨hn,h⟩:=A7 h;obtain⟨a,e4,h⟩:=d4 h;obtain⟨⟨p,y⟩,e5,h⟩:=d4 h;cases h;obtain⟨⟨r,y'⟩,e6,h⟩:=d4 e5;rw[e3,F7,d9 hn,e4,F7,e6,F7];cases r with
   |inl pv=>cases h;rfl
   |inr x=>cases h
 . cases h
theorem Wr{P:j3}{w:i7}{X:Cx}:Passes (X4 P w) X λ_ _ _=>False:=by intro pins σ H1 s1 e s' I0 hq;obtain⟨ea,T1,C',dx,H',rfl,os,bare,un,i9,fl,h1,hT,hsz,hw⟩:=hq;exact hw.elim
section
variable{X:Cx}{f':eQ}{o e:Expr}{es:List Expr}{t:TA}{Fl:Ds->Option (List AV)}{C f:Addr}{x m:Str}{i k:Nat}{E:XK}{fd:l9}{c:List Str}{pos apos rpos:Pos}{pl:Sem Bool}
theorem GD(T:fV X.K x C)(r:PE X o (D4 i))(l:Meth X.K C m f)(G:P5 X.prog X.w X.K X.mg X.base (X4 X.prog X.w) k f fd c (bI X.K f'))(n:N4 k X.A)(q:Binds X.K fd c [])(g:jj X (e::es) t Fl)(a:autoParam (aH X e es) e8)(b:autoParam (cT X pos es) e8)(h:autoParam (Dj X o m apos (e::es) pos pl) e8):
  qJ X (.Call (.Attribute o m apos) (e::es) [] pos) (jN C m (bI X.K f') [] (λ_ _ _=>False) (D4 i) t) (gv x m i (vd f') Fl):=⟨Cb r T.cl l G n q .nil Wr g.p a b h,by intro O c Y F H ds pv ds' Q S a q;exact qQ T g S (Nu a) λas' Hm H' v S' s R=>q as' Hm H' v S' s R⟩
noncomputable def ei(nm m:Str)(i:Nat)(f:eQ)(Fl:Ds->Option (List AV)):DO:=λds=>(dP nm m i f Fl ds).bind λr=>match r.1 with
 | .inl pv=>some (.retO pv r.2)
 | .inr x=>some (.upO true x r.2)
theorem GO(P:Passes (X4 X.prog X.w) X X.ek)(T:fV X.K x C)(r:PE X o (D4 i))(l:Meth X.K C m f)(G:P5 X.prog X.w X.K X.mg X.base (X4 X.prog X.w) k f fd c (bI X.K f'))(n:N4 k X.A)(q:Binds X.K fd c [])(g:jj X (e::es) t Fl)(a:autoParam (aH X e es) e8)(b:autoParam (cT X pos es) e8)(h:autoParam (Dj X o m apos (e::es) pos pl) e8):
  B8 X (.Return (some (.Call (.Attribute o m apos) (e::es) [] pos)) rpos) (nR (jN C m (bI X.K f') [] X.ek (D4 i) t)) (ei x m i f' Fl):=⟨kL (Cb r T.cl l G n q .nil P g.p a b h),by
 intro O c Y F H ds D o S a q;obtain⟨⟨r,ds'⟩,a1,a⟩:=d4 a;refine qQ T g S a1 ?_;cases r with
 |inl pv=>cases a;exact λas' Hm H' v S' s R=>q as' F Hm H' v S' s R
 |inr x=>cases a;exact λas' Hm H' ea S' s R=>q as' F Hm H' ea S' s R⟩
end
noncomputable def Pk(C1 C2:Addr)(j:Nat)(tb1 tb2:TS)(D:Ends)(σ:St):XK:=λev _ H2=>(∃ea dx,ev=.ref ea/\H2 ea=some (.ext (ExcAt ea C1 dx))/\tb1 (mV j D) (σ.set j (some (.ref ea))) H2)\/∃ea dx,ev=.ref ea/\H2 ea=some (.ext (ExcAt ea C2 dx))/\tb2 (mV j D) (σ.set j (some (.ref ea))) H2
noncomputable def xa(C:Addr)(m:Str)(C1 C2:Addr)(i j p:Nat)(sp:Sp)(t:TA)(tb1 tb2:TS):TS:=λD σ H=>jN C m sp [] (Pk C1 C2 j tb1 tb2 D σ) (D4 p) t σ H λv H2=>D.nx (σ.set i (some v)) H2
section
variable{X:Cx}{C C1 C2 CS fi1 fi2 f:Addr}{fld1 fld2 m y cn1 cn2 n nm:Str}{fd:l9}{ps:List Str}{sp:Sp}{k i j p:Nat}{o e:Expr}{es:List Expr}{t:TA}{tb1 tb2:TS}{apos p1 p2 p3 p4 p5 p6 p7 pos:Pos}{b1 b2:Stmt}{su1 su2:List Stmt}{pl:Sem Bool}
theorem QO (hst:X.stack=X.env::X.outer/\X.env.frame=some X.env.locals) (hnx:∀e s,¬X.xe e s) (ho:PE X o (D4 p)) (c:qN X.K C) (hm:Meth X.K C m f) (F:P5 X.prog X.w X.K X.mg X.base (X4 X.prog X.w) k f fd ps sp) (hr:N4 k X.A) (hb:Binds X.K fd ps []) (ha:PA X (e::es) t) (T1:Y2 X.K C1 CS fi1 fld1) (T2:Y2 X.K C2 CS fi2 fld2) (ne:C2 ≠ C1) (nb:CS ≠ C1) (hg1:Gl X cn1) (hm1:X.mg cn1=some (.ref C1)) (hg2:Gl X cn2) (hm2:X.mg cn2=some (.ref C2)) (hN:X.N.Nodup) (hi:X.N[i]? = some y) (hy:Loc X.env.scope y) (hj:X.N[j]? = some n) (hn:X.env.scope.names.lookup n=some .local) (hs1:∀ea,eO (X.marked ea) (b1::su1) tb1) (hs2:∀ea,eO (X.marked ea) (b2::su2) tb2) (hd1:autoParam ((cn1==("__debug__" : Str))=false) j9) (hd2:autoParam ((cn2==("__debug__" : Str))=false) j9) (he:autoParam (u4 (e::es) X.env=(false,eval e X.env)::u4 es X.env) e8) (hpl:autoParam ((R1 pos (u4 es X.env)).any (·.1)=false) e8) (ht:autoParam (eval (.Call (.Attribute o m apos) (e::es) [] pos) X.env=(do
   let ov <- eval o X.env
   lq apos.atName
   let (f,first) <- holding [ov] (oZ ov m pl)
   callWith pos f first (R1 pos (u4 (e::es) X.env)) (lx pos (lF [] X.env)))) e8)
  (hsw:autoParam (N8 (.Call (.Attribute o m apos) (e::es) [] pos) (some (.Name y p1)) p2.line X.env=pure false) e8) (hf:autoParam (X.fn y=true\/X.env.scope.names.lookup y=some .local) W9) :
  PS X (.Try [.Assign [.Name y p1] (.Call (.Attribute o m apos) (e::es) [] pos) p2] [.ExceptHandler (some (.Name cn1 p3)) (some n) (b1::su1) p4,.ExceptHandler (some (.Name cn2 p5)) (some n) (b2::su2) p6] [] [] p7) (xa C m C1 C2 i j p sp t tb1 tb2):=by
 intro pins s σ H D I h;unfold xa jN at h;refine wpAny_Try_except (pF (Aw (AQ (pl:=pl) (P1 (ho pins s σ H _ I h) (λu s1 ⟨x,H1,I1,rx,a,dx,fs,ex,ea,l,q⟩=>?_) λe s z=>(hnx e s z).elim) ht) hsw))
 subst ex;obtain rfl:u=t7 a:=rx;refine sG I1 ea c hm l ?_;refine jG (first:=[.ref a]) (h₀:=X.base) I.ok.mod.ow hm.kp (P1 (ha pos pins s1 σ H1 _ I1 q) (λus s2 ⟨vs,H2,I2,r,q2⟩=>⟨I2.L7,?_⟩) λe s z=>(hnx e s z).elim) he hpl
 simp only[Q8]at q2;have r2:Vals (.ref a::vs) (.ref a::us):=.cons rfl r;have hl:(t7 a::us).length=ps.length:=by rw[<-r2.length];exact F.len _ _ _ _ q2
 have hbd:=hb s2 (.ref a::us) I2.L7 (by rw[Q8];exact hl)
 rw[Q8]at hbd;refine jr (ju (F.run X.A X.stack s2 H2 ⟨.ref a::us,[]⟩ (.ref a::us) (.ref a::vs) _ _ hr I2.zh hbd r2 q2) λr s' hq=>?_)
 cases r with
 |error e =>
  have hq':X4 X.prog X.w X.stack H2 s2 (Pk C1 C2 j tb1 tb2 D σ) e s':=hq;refine Sg hst I2 hq' λea T' C' dx H' s3 hE h1 I3 a2 nT fl=>?_
  rcases hE with ⟨ea',dx',ev,h2,ht⟩|⟨ea',dx',ev,h2,ht⟩
  . cases ev;obtain rfl:=vj I3 h1 h2;exact yO T1 hg1 hm1 hN hj hn hs1 I3 a2 nT fl ht hd1
  . cases ev;obtain rfl:=vj I3 h1 h2;exact IF T2 T1 hg1 hm1 ne nb I3 fl (yO T2 hg2 hm2 hN hj hn hs2 I3 a2 nT fl ht hd2) hd1
 |ok fl =>
  cases fl with
  |ret u =>
   obtain⟨v,H3,I3,rv,q3⟩:=I2.after hq;exact iC I3 hN hi hy rv (λs4 I4=>gH (gH ⟨_,H3,I4,q3⟩)) hf
  |next=>exact M9 hq
  |brk=>exact M9 hq
  |cont=>exact M9 hq
end
noncomputable def mO(nm m:Str)(C1 C2:Addr)(i j p:Nat)(f:eQ)(Fl:Ds->Option (List AV))(G1 G2:DO):DO:=λds=>(dP nm m p f Fl ds).bind λr=>match r.1 with
 | .inl pv=>some (.next (r.2.set i (some pv)))
 | .inr x=>if isExc C1 x=true then(G1 (r.2.set j (some (.dat x)))).bind (ma j)else if isExc C2 x=true then(G2 (r.2.set j (some (.dat x)))).bind (ma j)else none
section
variable{X:Cx}{C C1 C2 CS fi1 fi2 f:Addr}{fld1 fld2 m y cn1 cn2 n nm:Str}{fd:l9}{ps:List Str}{f':eQ}{k i j p:Nat}{o e:Expr}{es:List Expr}{t:TA}{Fl:Ds->Option (List AV)}{G1 G2:DO}{tb1 tb2:TS}{apos p1 p2 p3 p4 p5 p6 p7 pos:Pos}{b1 b2:Stmt}{su1 su2:List Stmt}{pl:Sem Bool}
theorem Mj(hst:X.stack=X.env::X.outer/\X.env.frame=some X.env.locals)(hnx:∀e s,¬X.xe e s)(T:fV X.K nm C)(ho:PE X o (D4 p))(hm:Meth X.K C m f)(F:P5 X.prog X.w X.K X.mg X.base (X4 X.prog X.w) k f fd ps (bI X.K f'))(hr:N4 k X.A)(hb:Binds X.K fd ps [])(ha:jj X (e::es) t Fl)(T1:Y2 X.K C1 CS fi1 fld1)(T2:Y2 X.K C2 CS fi2 fld2)(ne:C2≠C1)(nb:CS≠C1)(hg1:Gl X cn1)(hm1:X.mg cn1=some (.ref C1))(hg2:Gl X cn2)(hm2:X.mg cn2=some (.ref C2))(hN:X.N.Nodup)(hi:X.N[i]? = some y)(hy:Loc X.env.scope y)(hj:X.N[j]? = some n)(hn:X.env.scope.names.lookup n=some .local)(hs1:∀ea,aO (X.marked ea) (b1::su1) tb1 G1)(hs2:∀ea,aO (X.marked ea) (b2::su2) tb2 G2)(hd1:autoParam (bA cn1) j9)(hd2:autoParam (bA cn2) j9)(he:autoParam (aH X e es) e8)(hpl:autoParam (cT X pos es) e8)(ht:autoParam (Dj X o m apos (e::es) pos pl) e8)(hsw:autoParam (N8 (.Call (.Attribute o m apos) (e::es) [] pos) (some (.Name y p1)) p2.line X.env=pure false) e8)(hf:autoParam (lT X y) W9):
  B8 X (.Try [.Assign [.Name y p1] (.Call (.Attribute o m apos) (e::es) [] pos) p2] [.ExceptHandler (some (.Name cn1 p3)) (some n) (b1::su1) p4,.ExceptHandler (some (.Name cn2 p5)) (some n) (b2::su2) p6] [] [] p7) (xa C m C1 C2 i j p (bI X.K f') t tb1 tb2) (mO nm m C1 C2 i j p f' Fl G1 G2):=by
 refine⟨QO hst hnx ho T.cl hm F hr hb ha.p T1 T2 ne nb hg1 hm1 hg2 hm2 hN hi hy hj hn (λea=>(hs1 ea).p) (λea=>(hs2 ea).p) hd1 hd2 he hpl ht hsw hf,?_⟩
 intro O f6 as σ H ds D o S h q;obtain⟨⟨r,ds'⟩,a1,h⟩:=d4 h;unfold xa;refine qQ T ha S a1 ?_;cases r with
 |inl pv =>
  cases h;intro as' Hm H' v S' s R;obtain⟨bs,u⟩:=S'.store s i R;exact q _ _ _ u
 |inr x =>
  intro as' Hm H' ea S' s R;have h':(if isExc C1 x=true then(G1 (ds'.set j (some (.dat x)))).bind (ma j)else if isExc C2 x=true then(G2 (ds'.set j (some (.dat x)))).bind (ma j)else none)=some o:=h
  have S2:=(S'.grow s).set j R;by_cases c1:isExc C1 x=true
  . rw[d9 c1]at h';obtain⟨o1,g1,u1⟩:=d4 h';obtain⟨ea',dx,ev,hea⟩:=R.isExc c1;cases ev;exact .inl ⟨ea,dx,rfl,m7 _ _ hea,(hs1 ea).t O f6 _ _ H' _ (mV j D) o1 S2 g1 (q.hand u1)⟩
  . rw[e7 c1]at h';obtain⟨c2,h'⟩:=A7 h';obtain⟨o1,g1,u1⟩:=d4 h';obtain⟨ea',dx,ev,hea⟩:=R.isExc c2;cases ev;exact .inr ⟨ea,dx,rfl,m7 _ _ hea,(hs2 ea).t O f6 _ _ H' _ (mV j D) o1 S2 g1 (q.hand u1)⟩
end
noncomputable def sH(pd:b5->Bool)(C1 C2:Addr)(fld2:Str)(j:Nat)(FX:List b5->Option (PV ⊕ b5))(Fl Fl2:DL):DO:=λds=>(Fl ds).bind λl=>(FX l).bind λa=>match a with
 | .inl pv=>some (.next (ds.set j (some (.dat pv.d))))
 | .inr x=>if isExc C1 x=true then(Fl2 ds).bind λl2=>match l2 with
  | [d]=>if pd d=true then some (.upO true (J4 C2 fld2 d) ds)else none
  |_=>none
  else none
section
variable{X:Cx}{C1 C2 CS fi2:Addr}{fld2:Str}{j:Nat}{e2:Expr}{es:List Expr}{t t2:TA}{FX:List b5->Option (PV ⊕ b5)}{Fl Fl2:DL}{Pv:V->Prop}{pd:b5->Bool}
theorem Ls(hPd:∀H v d,Dt X.K H v d->pd d=true->Pv v)(ha:bz X.quiet true es t Fl)(ha2:∀h,bz (X.marked h) true [e2] t2 Fl2)(T2:Y2 X.K C2 CS fi2 fld2)(TC:bw X.K C2):
  Vu X (DA C1 C2 j (xO X.K FX) t (pU Pv C2 fld2 t2) X.ek) (sH pd C1 C2 fld2 j FX Fl Fl2):=by
 intro O f6 as σ H ds D o S hf q;obtain⟨l,h1,hf⟩:=d4 hf;obtain⟨a,h2,hf⟩:=d4 hf;refine ha.t O f6 as σ H ds l _ S h1 λvs H1 e1 r1=>?_
 have S1:=S.grow e1;have D1:=S1.dm (fr:=true);have hh:∀H,k6 H (P8 true as) O=k6 H [] (O++(P8 true as).filterMap id):=λH=>kT (bs:=[])
 refine⟨O++(P8 true as).filterMap id,l,a,λb hb=>?_,by rw[<-hh];exact r1,h2,?_⟩
 . rcases List.mem_append.mp hb with hb|hb
   . exact D1.o b hb
   . obtain⟨x,hx,e⟩:=List.mem_filterMap.mp hb;have e':x=some b:=e;subst e';exact D1.a b hx
 . cases a with
   |inl pv =>
    cases hf;intro v H2 e2 r2;have r3:RX X.K O (P8 true as) H1 H2 v pv:=by
     cases pv with
     |dat d =>
      have r2':Dt X.K (k6 H2 [] (O++(P8 true as).filterMap id)) v d:=r2;rw[<-hh]at r2';exact r2'
     |own l =>
      obtain⟨a,xs,e3,e4,e5,r3⟩:=r2;refine⟨a,xs,e3,e4,e5,?_⟩;rw[show(some a::P8 true as:As)=[some a]++P8 true as from rfl,kT]
      exact r3
     |ob w c =>
      obtain⟨o,R,u,y,s,n⟩:=r2;refine⟨o,R,u,y,s,?_⟩;rw[kT];rw[Q8]at n;exact n
    exact q _ _ _ ((S.grow (e1.trans e2)).set j (r3.dt D1))
   |inr x =>
    intro hx H2 e2 r2 hx' ehx hn;cases ehx;have hf':(if isExc C1 x=true then(Fl2 ds).bind λl2=>match l2 with
     | [d]=>if pd d=true then some (.upO true (J4 C2 fld2 d) ds)else none
     |_=>none
     else none)=some o:=hf
    obtain⟨hex,hf'⟩:=A7 hf';obtain⟨l2,h3,hf'⟩:=d4 hf';split at hf'
    . rename_i d;obtain⟨hpd,hf'⟩:=A7 hf';cases hf';obtain⟨ea',dx,ev,hea⟩:=r2.isExc hex;cases ev;refine⟨dx,m7 _ _ hea,?_⟩;have sd:e9 H1 (del H2 hx):=e9.del e2 hn;refine(ha2 hx).t O f6 as σ _ ds [d] _ (S1.grow sd) h3 λvs2 H3 e3 r3=>?_
      obtain⟨v,rfl,hv⟩:=r3.inv1;have hv:Dt X.K (k6 H3 as O) v d:=hv;refine⟨v,rfl,hPd _ _ _ hv hpd,λea dx2 n1 n2 hne=>⟨ea,dx2,rfl,?_,?_⟩⟩
      . rw[i8 (B3 hne),l7]
      . have S3:=(S1.grow sd).grow e3;have sm:e9 H3 (upd (upd (upd H3 ea (.ext (A3 ea C2 (some dx2)))) dx2 (.xd [(fld2,v)])) ea (.ext (ExcAt ea C2 dx2))):=λb u z=>by rw[i8 (B2 z n1),i8 (B2 z n2),i8 (B2 z n1)];exact z
        have nA:∀b,H3 b=none->some b∉as:=λb n z=>by obtain⟨_,u,z⟩:=S3.new b z;rw[n]at z;cases z
        have nO:∀b,H3 b=none->b∉O:=λb n z=>by obtain⟨u,z⟩:=S3.aw b z;rw[S3.same.free n]at z;cases z
        refine q as σ H3 _ ea S3 sm (.exc TC T2.OV (A9.mpr ⟨nO _ n1,nA _ n1,l7⟩) (A9.mpr ⟨nO _ n2,nA _ n2,by rw[i8 hne,l7]⟩) (hv.same (K1 sm)))
    . cases hf'
end
section
variable{P:j3}{w:i7}{K:c9}{mg:Str->Option b8}{base:Heap}{N:List Str}{qual:Str}{scope:E8}{f0:Addr}{cd:b8}{A:j6}{outer:List Env}{s:c8}{H:Hp}{E:XK}
variable{C1 C2 CS fi1 fi2 f:Addr}{fld1 fld2 x y cn cn2 prm:Str}{fd fd2:l9}{ps:List Str}{FX:List b5->Option (PV ⊕ b5)}{Fl Fl2:DL}{Pv:V->Prop}{pd:b5->Bool}{k k2 j:Nat}{e e2:Expr}{es:List Expr}{t t2:TA}{p p1 p2 p3 p4 p5 q1 q2 q3 q4 pos:Pos}{ck:Nat}
theorem Mi{X:Cx}(hPd:∀H v d,Dt K H v d->pd d=true->Pv v)(hX:X=V4 (X4 P w) P w K mg base N qual scope f0 cd A outer s H E)(F:P5 P w K mg base (kB P w) k f fd ps (xO K FX))(hr:N4 k X.A)(hg:Gl X x)(hm:X.mg x=some (.ref f))(hk:Y0 K (.ref f)=true)(hb:Binds K fd ps [])(ha:bz X.quiet true (e::es) t Fl)(T1:Y2 K C1 CS fi1 fld1)(T2:Y2 K C2 CS fi2 fld2)(TC:bw K C2)(hgc:Gl X cn)(hmc:X.mg cn=some (.ref C1))(hN:X.N.Nodup)(hi:X.N[j]? = some y)(hy:Loc X.env.scope y)(F2:ir false P w K mg base s9 k2 fi2 fd2 ["self",prm] (cv Pv C2 fld2))(hr2:U2 false (k2+1) X.A)(hb2:Binds K fd2 ["self",prm] [])(hkp:Y0 K (.ref C2)=true)(hg2:Gl X cn2)(hm2:X.mg cn2=some (.ref C2))(ha2:∀h,bz (X.marked h) true [e2] t2 Fl2)(hdb:autoParam (bA x) j9)(hdc:autoParam (bA cn) j9)(hd2:autoParam (bA cn2) j9)(he:autoParam (aH X e es) e8)(hpl:autoParam (cT X pos es) e8)(he2:autoParam (aH X e2 []) e8)(hpl2:autoParam (cT X q2 []) e8)(hsw:autoParam (N8 (.Call (.Name x p) (e::es) [] pos) (some (.Name y p1)) p2.line X.env=pure false) e8)(hf:autoParam (lT X y) W9):
  B8 X (.Try [.Assign [.Name y p1] (.Call (.Name x p) (e::es) [] pos) p2] [.ExceptHandler (some (.Name cn p3)) none [.Raise (some (.Call (.Name cn2 q1) [e2] [] q2)) (some (.Constant .none ck q4)) q3] p4] [] [] p5) (DA C1 C2 j (xO K FX) t (pU Pv C2 fld2 t2) E) (sH pd C1 C2 fld2 j FX Fl Fl2):=by
 refine⟨QN hX F hr hg hm hk hb ha.p T1 T2 hgc hmc hN hi hy (λh=>?_) hdb hdc he hpl hsw hf,?_⟩
 . subst hX;exact uR (X:=(V4 (X4 P w) P w K mg base N qual scope f0 cd A outer s H E).marked h) T2 F2 ⟨nofun,hr2.dp,hr2.un⟩ hb2 hkp hg2 hm2 (ha2 h).p hd2 he2 hpl2
 . subst hX;exact Ls hPd ha ha2 T2 TC
end
noncomputable def zA(v:V):Prop:=∃x:Str,v=.str x/\x.length<=100000
noncomputable def aq:b5->Bool
 | .str x=>decide (x.length<=100000)
 |_=>false
theorem qT{K:c9}(H:Hp)(v:V)(d:b5)(h:Dt K H v d)(e:aq d=true):zA v:=by
 cases h with
 |str x=>exact⟨_,rfl,di e⟩
 |_=>cases e
noncomputable def VV(i:Nat):TE:=λσ H Q=>∃n:Str,σ[i]? = some (some (.str n))/\n.length<=100000/\∀x:Str,Q (.str x) H
theorem Cd{X:Cx}{a:Str}{j:Nat}{v:Expr}{p1 p2 pos:Pos}(i:Nat)(hv:PE X v (D4 i))(ha:a.length<=1000):PE X (.JoinedStr [.Constant (.str a) j p1,.FormattedValue v (-1) none p2] pos) (VV i):=by
 intro pins s σ H Q I h;obtain⟨n,hn,hs,q⟩:=h;refine JoinedStr_many (pq ?_);refine uk ⟨?_,pq ?_⟩
 . show(aA++a).length<=j8
   rw[jw,aT];show 0+a.length<=_
   omega
 . refine Kg (m4 (hv pins _ σ H (λx H1=>x=.str n/\H1=H) (I.tok _) ⟨_,hn,rfl,rfl⟩) λu s1 ⟨x,H1,I1,r1,q1⟩=>?_)
   obtain⟨rfl,rfl⟩:=q1;obtain⟨t,rfl⟩:=r1;have L:(aA++a++n).length<=j8:=by rw[jw,jw,aT];have z:Str.empty.length=0:=rfl;omega
   exact formatField_str (λt' tk=>⟨L,joinParts_nil ⟨.str _,H1,(I1.tok _).tok _,⟨_,rfl⟩,q _⟩ L⟩) (by rw[aT];omega)
noncomputable def fZ(F:Ds->Option (PV×Ds))(G:DO):DO:=λds=>(F ds).bind λr=>match r.1 with
 | .dat (.bool b)=>if b=true then some (.next r.2)else G r.2
 |_=>none
section
variable{X:Cx}{a b e:Expr}{te ta tb:TE}{ts:TS}{F:Ds->Option (PV×Ds)}{Fb:DV}{G:DO}{body:List Stmt}{p pos rpos:Pos}
theorem Mr(h:qJ X e te F)(g:aO X body ts G)(f:autoParam (∀a,isTrue e X.env a=(do let v <- a;lq e.pos;holding [v] (truthy v))) lg):B8 X (.If (.UnaryOp .Not e p) body [] pos) (Ly (DC (tB te)) ts DE) (fZ F G):=⟨OQ (GI (GH h.p f)) g.p BZ,by
 intro O f6 as σ H ds D o S hf q;obtain⟨⟨pv,ds'⟩,h1,hf⟩:=d4 hf;split at hf
 . rename_i b hb;have hb:pv=.dat (.bool b):=hb;subst hb;refine h.t O f6 as σ H ds _ ds' _ S h1 λas' Hm H' v S' s R=>?_
   have R:Dt X.K (k6 H' as' O) v (.bool b):=R;cases R;refine⟨b,rfl,?_⟩;cases b with
   |true=>cases hf;exact q _ _ _ (S'.grow s)
   |false=>exact g.t O f6 as' σ H' ds' D o (S'.grow s) hf q
 . cases hf⟩
noncomputable def dO(f:b5->b5->Option PV)(F:Ds->Option (PV×Ds))(Fb:DV):DO:=λds=>(F ds).bind λr=>(Fb r.2).bind λy=>(f r.1.d y.d).bind λz=>some (.retO z r.2)
theorem DX{op:aZ}{r:R2}{f:b5->b5->Option PV}(e:F4 X (C9 op) r)(h:O5 X.K r f)(g:bX op b=false)(d:qJ X a ta F)(c:PX X true b tb Fb):B8 X (.Return (some (.Compare a [op] [b] pos)) rpos) (nR (qv r ta tb)) (dO f F Fb):=⟨kL (Ce e d.p c.p g),by
 intro O f6 as σ H ds D o S hf q;obtain⟨⟨pv,ds'⟩,h1,hf⟩:=d4 hf;obtain⟨y,h2,hf⟩:=d4 hf;obtain⟨z,h3,hf⟩:=d4 hf;cases hf;refine d.t O f6 as σ H ds _ ds' _ S h1 λas' Hm H' v S' s R=>?_
 refine c.t O f6 as' σ H' ds' y _ (S'.grow s) h2 λu H2 s2 R2=>?_
 refine h O as' H2 v u pv.d y.d z _ (((S'.grow s).grow s2).dm (fr:=true)) ((R.grow s2).dt (S'.dm (fr:=true))) (R2.dt ((S'.grow s).dm (fr:=true))) h3 λw H3 s3 R3=>?_
 exact q as' σ H2 H3 w ((S'.grow s).grow s2) s3 R3⟩
end
noncomputable def xm(F:Ds->Option (PV×Ds)):DO:=λds=>(F ds).bind λr=>match r.1 with
 | .dat d=>some (.ret (.dat d))
 |_=>none
theorem Mn{X:Cx}{e:Expr}{te:TE}{F:Ds->Option (PV×Ds)}{pos:Pos}(h:qJ X e te F):B8 X (.Return (some e) pos) (nR te) (xm F):=⟨kL h.p,by
 intro O f6 as σ H ds D o S hf q;obtain⟨⟨pv,ds'⟩,h1,hf⟩:=d4 hf;split at hf
 . rename_i d hb;have hb:pv=.dat d:=hb;subst hb;cases hf;refine h.t O f6 as σ H ds _ ds' _ S h1 λas' Hm H' v S' s R=>?_
   exact q v H' (S'.same.trans s) (Dt.same (U0 (e9.refl _) λb z=>by simp at z) R)
 . cases hf⟩
noncomputable def Ie:PF->Bool
 | .dat d=>LF d
 | .own l=>nN l
 | .dct es=>es.all λe=>LF e.2
theorem T3.lf{K:c9}{c Hv':Hp}{kvs:List (Key×V)}{es:List (Str×b5)}(h:T3 K c kvs es)(e:∀a u,c a=some u->¬Cell u->Hv' a=some u):(es.all λe=>LF e.2)=true->T3 K Hv' kvs es:=by
 unfold T3 at h ⊢;induction h with
 |nil=>exact λ_=>.nil
 |cons j t b=>intro z;simp only[bC,aj]at z;exact .cons ⟨j.1,Dt.lf e j.2 z.1⟩ (b z.2)
theorem N7.Ie{K:c9}{c Hv' H:Hp}{fv:List (Str×V)}{fs:List (Str×PF)}{R:List Addr}(h:N7 K c H fv fs R)(e:∀a u,c a=some u->¬Cell u->Hv' a=some u):(fs.all λf=>L2.Ie f.2)=true->N7 K Hv' H fv fs R:=by
 induction h with
 |nil=>exact λ_=>.nil
 |dat j t b=>intro z;simp only[bC,aj]at z;exact .dat (Dt.lf e j z.1) (b z.2)
 |own d g i t b=>intro z;simp only[bC,aj]at z;exact .own d (n6.lf e g z.1) i (b z.2)
 |dct d g i t b=>intro z;simp only[bC,aj]at z;exact .dct d (T3.lf g e z.1) i (b z.2)
noncomputable def sO(F:DV):DV:=λds=>(F ds).bind λpv=>match pv with
 | .ob w (.ins n fs)=>if (fs.all λf=>Ie f.2)=true then some (.ob w (.ins n fs))else none
 |_=>none
theorem Qw{X:Cx}{e:Expr}{te:TE}{F:DV}(h:PX X false e te F):PX X true e te (sO F):=⟨h.p,by
 intro O d f k H l pv Q S c q;obtain⟨p,n,c⟩:=d4 c;split at c
 . rename_i w nm fs;obtain⟨A,c⟩:=A7 c;cases c;refine h.t O d f k H l _ _ S n λv g i x=>q v g i ?_
   obtain⟨o,R,s,y,B,C,dx,fv,R',rfl,c1,c2,c3⟩:=x;have j:=λa u (z:k6 g ((o::R').map some++P8 false f) O a=some u) r=>S.Xv i (cs:=(o::R').map some++P8 true f) (λb z=>by
    rcases List.mem_append.mp z with z|z
    . exact .inl (ao _ z)
    . exact .inr (uL z)) a u z r
   exact⟨o,o::R',s,y,B,C,dx,fv,R',rfl,c1,c2,c3.Ie j A⟩
 . exact nE c⟩
section
variable{X:Cx}{CX:fq}{k i:Nat}{f:Addr}{fd:l9}{ps:List Str}{sp:Sp}{E:XK}{x:Str}{p pos:Pos}{e:Expr}{es:List Expr}{t:TA}{fr:Bool}{Fl:Ds->Option (List b5)}
noncomputable def FZ(i:Nat)(f:Addr)(u:TE):TE:=λσ H Q=>σ[i]? = some (some (.ref f))/\u σ H Q
theorem ML(hv:PE X (.Name x p) (D4 i))(F:P5 X.prog X.w X.K X.mg X.base CX k f fd ps sp)(hr:N4 k X.A)(hk:Y0 X.K (.ref f)=true)(hb:Binds X.K fd ps [])(hx:Passes CX X E)(ha:PA X (e::es) t)(he:autoParam (u4 (e::es) X.env=(false,eval e X.env)::u4 es X.env) e8)(hpl:autoParam ((R1 pos (u4 es X.env)).any (·.1)=false) e8):
  PE X (.Call (.Name x p) (e::es) [] pos) (FZ i f (jO sp [] E t)):=by
 intro pins s σ H Q I h;obtain⟨hs,h⟩:=h;refine jH (m4 (hv pins s σ H (λv H'=>v=.ref f/\jO sp [] E t σ H' Q) I ⟨_,hs,rfl,h⟩) λu s1 ⟨v,H1,I1,r,ev,q⟩=>?_)
 subst ev;cases r;refine jG (h₀:=X.base) I1.ok.mod.ow hk (m4 (ha pos pins s1 σ H1 _ I1 q) λus s2 ⟨vs,H2,I2,r,q⟩=>⟨I2.L7,?_⟩) he hpl
 exact xX F hr hb .nil hx I2 r q
noncomputable def eD(i:Nat)(nm:Str)(f:List b5->Option PV)(Fl:Ds->Option (List b5)):Ds->Option PV:=λds=>match ds[i]? with
 |some (some (.dat (.dict [(.str n,.none)])))=>if n=nm then(Fl ds).bind f else none
 |_=>none
theorem Dt.fnOf{K:c9}{H:Hp}{v:V}{nm:Str}{f:Addr}(h:Dt K H v (.dict [(.str nm,.none)]))(hn:S0 K J5 nm=some (some (.ref f)))(hne:nm≠Oe):v=.ref f:=by
 generalize hd:PyData.dict [(.str nm,.none)]=d at h;cases h with
 |fn h =>
  unfold V1 at hd;injection hd with hd
  injection hd with h1 _
  injection h1 with h1 _
  injection h1 with h1
  subst h1;replace h:=h.resolve_right hne;rw[hn]at h;injection h with h
  injection h with h
  injection h with h
  rw[h]
 |exc _ _ _ _ _=>unfold J4 at hd;injection hd with hd;injection hd with h1 _;injection h1 with h1 _;cases h1
 |_=>cases hd
theorem mw{K':c9}{f':List b5->Option PV}{nm:Str}(eK:X.K=K')(hn:S0 K' J5 nm=some (some (.ref f)))(hv:PE X (.Name x p) (D4 i))(G:P5 X.prog X.w K' X.mg X.base CX k f fd ps (C7 K' f'))(hr:N4 k X.A)(hk:Y0 K' (.ref f)=true)(hb:Binds K' fd ps [])(hx:Passes CX X E)(ha:bz X fr (e::es) t Fl)(he:autoParam (u4 (e::es) X.env=(false,eval e X.env)::u4 es X.env) e8)(hpl:autoParam ((R1 pos (u4 es X.env)).any (·.1)=false) e8)(hne:nm≠Oe:=by decide +kernel):
  PX X fr (.Call (.Name x p) (e::es) [] pos) (FZ i f (jO (C7 K' f') [] E t)) (eD i nm f' Fl):=by
 subst eK;refine⟨ML hv G hr hk hb hx ha.p he hpl,?_⟩;intro O f6 as σ H ds pv Q S hf q;unfold eD at hf;split at hf
 . rename_i n hd;split at hf
   . rename_i en;subst en;obtain⟨v,e1,h⟩:=S.slot i _ hd;have:=h.fnOf hn hne;subst this;exact⟨e1,BH (E:=E) (f:=f') ha O f6 as σ H ds pv Q S hf q⟩
   . cases hf
 . cases hf
noncomputable def kx(F1 F2:Ds->Option PV):Ds->Option PV:=λds=>match F1 ds with
 |some pv=>some pv
 |none=>F2 ds
theorem TY{t1 t2:TE}{F1 F2:Ds->Option PV}{ex:Expr}(h1:PX X fr ex t1 F1)(h2:PX X fr ex t2 F2):PX X fr ex (λσ H Q=>t1 σ H Q\/t2 σ H Q) (kx F1 F2):=⟨by
 intro pins s σ H Q I h;rcases h with h|h
 . exact h1.p pins s σ H Q I h
 . exact h2.p pins s σ H Q I h,by
 intro O f6 as σ H ds pv Q S hf q;unfold kx at hf;split at hf
 . rename_i pv' e;cases hf;exact .inl (h1.t O f6 as σ H ds _ Q S e q)
 . exact .inr (h2.t O f6 as σ H ds _ Q S hf q)⟩
end
noncomputable def fJ:b8->Bool
 | .none=>true
 |_=>false
noncomputable def iK:b5->Bool
 | .none=>true
 | .bool _=>true
 | .int _=>true
 | .str _=>true
 | .tuple _=>true
 |_=>false
theorem HH{X:Cx}{pins:List (Addr×Obj)}{σ:St}{H:Hp}{s:c8}{A:j6}(I:Inv X pins σ H s)(hu:A.units<D3){x:V}{u:b8}{d:b5}(h:Dt X.K H x d)(r:RelV x u)(hp:iK d=true):sX A s u .none (fJ u)/\fJ u=A6 d:=by
 cases h with
 |non=>cases r;exact⟨Jx _,rfl⟩
 |bl b=>cases r;exact⟨Kn b,rfl⟩
 |int i=>obtain⟨t,rfl⟩:=r;exact⟨Kc i t,rfl⟩
 |str y=>obtain⟨t,rfl⟩:=r;exact⟨Kb y t,rfl⟩
 |tup h t =>
  cases r;obtain⟨its,rv,pl,_⟩:=I.tuple h;exact⟨SeqAt.EqAt.tuple_none pl hu,rfl⟩
 |_=>cases hp
theorem yz{X:Cx}{pins:List (Addr×Obj)}{σ:St}{H:Hp}{s:c8}{A:j6}(I:Inv X pins σ H s)(hu:A.units<D3):∀{xs:List V} {us:List b8} {l:List b5},n6 X.K H xs l->Vals xs us->l.all iK=true->(∀u∈us,sX A s u .none (fJ u))/\us.any fJ=l.any A6
 |_,_,_,.nil,.nil,_=>⟨λu hu=>(by cases hu),rfl⟩
 |_,_,_,.cons h t,.cons r rr,g=>by
  rw[bC,aj]at g;obtain⟨a1,a2⟩:=HH I hu h r g.1;obtain⟨b1,b2⟩:=yz I hu t rr g.2;refine⟨λu' hu'=>?_,by rw[fg,fg,a2,b2]⟩
  rcases List.mem_cons.mp hu' with rfl|z
  . exact a1
  . exact b1 u' z
noncomputable def BS(K:c9):R2:=λx y H Q=>∃p xs l,x=.non/\y=.ref p/\F3 K H p xs/\n6 K H xs l/\l.all iK=true/\Q (.bl (l.any A6)) H
theorem vL{X:Cx}(hu:X.A.in1.units<D3):F4 X (C9 .In) (BS X.K):=by
 intro pins s σ H x y v u Q I rx ry h;obtain⟨p,xs,l,rfl,rfl,hq,hd,hp,q⟩:=h;cases rx;cases ry;obtain⟨its,r,pl,hz⟩:=I.list hq;obtain⟨a1,a2⟩:=yz (A:=X.A.in1) I hu hd r hp;refine Jw fJ pl.isList (λw hw=>a1 w (by simpa using hw)) ⟨.bl _,H,I,rfl,?_⟩
 rw[show its.toArray.any fJ=its.any fJ by simp,a2]
 exact q
noncomputable def iu:b5->b5->Option PV
 | .none,.list l=>if l.all iK=true then some (.dat (.bool (l.any A6)))else none
 |_,_=>none
theorem xw{K:c9}:O5 K (BS K) iu:=by
 intro O va H x y d e pv Q D hx hy hf q;cases hx with
 |non =>
  cases hy with
  |lst hs ht =>
   rename_i a xs l;have hf':(if l.all iK=true then some (PV.dat (.bool (l.any A6)))else none)=some pv:=hf
   split at hf'
   . rename_i hc;cases hf';exact⟨a,xs,l,rfl,rfl,m7.seq hs,ht.same m7,hc,q _ H (e9.refl H) (Dt.bl _)⟩
   . cases hf'
  |_=>cases hf
 |_=>cases hf
theorem yM{A:j6}(h:A.units+64<D3):A.in1.units<D3:=by
 show A.units+1<D3
 omega
noncomputable abbrev rJoin(K:c9):V->List V->Hp->VK->Prop:=λx xs H Q=>∃z a ts,x=.str z/\xs=[.ref a]/\F3 K H a (ts.map V.str)/\eY z ts=true/\Q (.str (S9 z ts)) H
section
variable{X:Cx}{fr:Bool}{o e:Expr}{es:List Expr}{to:TE}{t:TA}{Fo:Ds->Option PV}{Fl:Ds->Option (List b5)}{apos cpos:Pos}{name:Str}{id:String}{r:V->List V->Hp->VK->Prop}{f:b5->List b5->Option PV}
theorem oj{K':c9}(eK:X.K=K')(slot:Slot "str" name id)(hty:typeOf (.builtin id)=pure (.type "method_descriptor"))(hm:sT X id r)(hr:zD K' r f)(hs0:∀d l pv,f d l=some pv->∃z,d=.str z)(ho:PX X fr o to Fo)(ha:bz X fr (e::es) t Fl)(bm:autoParam (Le X o name apos e es cpos) sR):
  PX X fr (.Call (.Attribute o name apos) (e::es) [] cpos) (Ga K' "str" r to t) (G7 f Fo Fl):=by subst eK;exact Wf slot hty hm hr hs0 ho ha bm
end
end L2
set_option maxHeartbeats 4000000
namespace Law
open PySem L2
structure aJ where
 t:Addr
 l:Addr
 k:Addr
noncomputable section
noncomputable abbrev oQ:b5:=(.str "0123456789")
noncomputable abbrev fO:b5:=(.int 60)
noncomputable abbrev oP:b5:=(.int 24)
noncomputable abbrev oN:b5:=(.int 6)
noncomputable abbrev ax:b5:=(.int 1000000)
noncomputable abbrev nH:b5:=(.int 1000)
noncomputable abbrev Z9:b5:=(.int 8)
noncomputable abbrev cQ:b5:=(.str "abcdefghijklmnopqrstuvwxyz")
noncomputable abbrev gX:b5:=(.tuple [(V1 "read_amount"),(V1 "read_amount"),(V1 "read_amount"),(V1 "read_amount"),(V1 "read_share"),(V1 "read_share"),(V1 "read_amount")])
noncomputable abbrev W7:b5:=(.tuple [(V1 "read_amount"),(V1 "read_amount")])
noncomputable abbrev je:b5:=(.tuple [(V1 "read_price"),(V1 "read_amount"),(V1 "read_price"),(V1 "read_amount")])
noncomputable abbrev ja:b5:=(.tuple [(V1 "read_name"),(V1 "read_amount"),(V1 "read_amount"),(V1 "read_amount"),(V1 "read_amount")])
noncomputable abbrev jc:b5:=(.int 20)
noncomputable abbrev oO:b5:=(.int 6)
noncomputable abbrev bt:b5:=(.int 1000000)
noncomputable abbrev jg:b5:=(.tuple [(.str "dark"),(.str "sunny")])
noncomputable abbrev fP:b5:=(.tuple [(.str "from"),(.str "till"),(.str "over"),(.str "under")])
noncomputable abbrev gY:b5:=(.tuple [(.str "dear"),(.str "cheap")])
noncomputable abbrev jf:b5:=(.tuple [(.str "none"),(.str "sun"),(.str "line")])
noncomputable abbrev jb:b5:=(.tuple [(.str "none"),(.str "need"),(.str "give")])
noncomputable abbrev iZ:b5:=(.tuple [(.str "now"),(.str "wait")])
noncomputable abbrev eJ:b5:=(.int 6)
noncomputable abbrev bu:b5:=(.int 8)
noncomputable abbrev kW:b5:=(.str "abcdefghijklmnopqrstuvwxyz")
noncomputable abbrev ay:b5:=(.tuple [(.str "keeper"),(.str "drop"),(.str "day"),(.str "costs")])
noncomputable def T6:Ds->Option Bool:=(f9 (b9 Q4 (b7 1) (fC (.int 0))))
noncomputable def T7:Ds->Option Out:=(d5 (f7 2 (b9 A4 (b7 0) (b7 1))) (d5 (f7 0 (b7 1)) (f7 1 (b7 2))))
noncomputable def X3:List b5->Option PV:=D6 2 3 (d5 (gq (mG 1) T6 T7) (Y9 0))
noncomputable def fk:List b5->Option PV:=D6 2 3 (d5 (r9 (f9 (b9 o3 (b7 1) (fC (.int 0)))) aY j7) (d5 (f7 2 (d6 X3 (a9 (d6 rL (a9 (b7 0) c7)) (a9 (d6 rL (a9 (b7 1) c7)) c7)))) (d5 (r9 (f9 (b9 iR (b7 1) (fC (.int 0)))) (f7 2 (nB kq (b7 2))) j7) (k8 (D9 (a9 (b9 cA (b7 0) (b7 2)) (a9 (b9 cA (b7 1) (b7 2)) c7)))))))
noncomputable def C8:Ds->Option Out:=(r9 (f9 (b9 (P9 V0 N6) (b7 1) (fC oQ))) (k8 (fC .none)) j7)
noncomputable def R7:List b5->Option PV:=D6 1 2 (d5 (r9 (O9 (f9 (b9 o3 (b7 0) (fC (.str "")))) (f9 (b9 hJ (d6 O2 (a9 (b7 0) c7)) (fC fO)))) (k8 (fC .none)) j7) (d5 (bq (bN (b7 0)) (C3 1) C8) (k8 (d6 (nu intD jS) (a9 (b7 0) c7)))))
noncomputable def bf:List b5->Option PV:=D6 1 2 (d5 (r9 (mY (f9 (G7 fy (b7 0) (a9 (fC (.str "-")) c7)))) (k8 (d6 R7 (a9 (b7 0) c7))) j7) (d5 (f7 1 (d6 R7 (a9 (ae u5 (b7 0) (C5 (fC (.int 1))) M5) c7))) (d5 (r9 (f9 (b9 aF (b7 1) (fC .none))) (k8 (fC .none)) j7) (k8 (nB kq (b7 1))))))
noncomputable def cK:Ds->Option Bool:=(f9 (b9 CJ (b7 3) (b7 1)))
noncomputable def lX:Ds->Option Out:=(d5 (cP 2 (G7 kC (d6 fx (a9 (b9 A4 (b7 3) (b7 1)) c7)) (a9 (fC (.int 60)) c7))) (f7 3 (b9 cA (b7 3) (b7 1))))
noncomputable def aD:List b5->Option PV:=D6 1 4 (d5 (f7 1 (b9 Ea (fC (.int 10)) (fC (.int 60)))) (d5 (Q5 2 (o6 c7)) (d5 (f7 3 (b7 0)) (d5 (gq (mG 3) cK lX) (d5 (cP 2 (d6 fx (a9 (b7 3) c7))) (d5 (cz 2 List.reverse) (k8 (K2 (G7 R9 (fC (.str "")) (a9 (b7 2) c7))))))))))
noncomputable def Z4:List b5->Option PV:=D6 1 2 (d5 (f7 1 (d6 aD (a9 (d6 rL (a9 (b9 j5 (b7 0) (fC (.int 0))) c7)) c7))) (d5 (r9 (f9 (b9 iR (b9 j5 (b7 0) (fC (.int 0))) (fC (.int 0)))) (f7 1 (b9 i6 (fC (.str "-")) (b7 1))) j7) (d5 (r9 (f9 (b9 Q4 (b9 j5 (b7 0) (fC (.int 1))) (fC (.int 1)))) (f7 1 (b9 i6 (b9 i6 (b7 1) (fC (.str "/"))) (d6 aD (a9 (b9 j5 (b7 0) (fC (.int 1))) c7)))) j7) (Y9 1))))
noncomputable def P6:List b5->Option PV:=D6 1 5 (d5 (f7 1 (G7 mB (b7 0) (a9 (fC (.str "/")) c7))) (d5 (f7 2 (d6 bf (a9 (b9 j5 (b7 1) (fC (.int 0))) c7))) (d5 (f7 3 (fC (.int 1))) (d5 (r9 (f9 (b9 o3 (b9 j5 (b7 1) (fC (.int 1))) (fC (.str "/")))) (f7 3 (d6 R7 (a9 (b9 j5 (b7 1) (fC (.int 2))) c7))) j7) (d5 (r9 (O9 (f9 (b9 aF (b7 2) (fC .none))) (O9 (f9 (b9 aF (b7 3) (fC .none))) (f9 (b9 o3 (b7 3) (fC (.int 0)))))) (k8 (fC .none)) j7) (d5 (f7 4 (d6 fk (a9 (b7 2) (a9 (b7 3) c7)))) (d5 (r9 (f9 (b9 Q4 (d6 Z4 (a9 (b7 4) c7)) (b7 0))) (k8 (fC .none)) j7) (Y9 4))))))))
noncomputable def X1:List b5->Option PV:=D6 2 3 (d5 (f7 2 (d6 P6 (a9 (b7 0) c7))) (d5 (r9 (O9 (f9 (b9 aF (b7 2) (fC .none))) (O9 (f9 (b9 Q4 (b9 j5 (b7 2) (fC (.int 1))) (fC (.int 1)))) (O9 (f9 (b9 iR (b9 j5 (b7 2) (fC (.int 0))) (b7 1))) (f9 (b9 hJ (b9 j5 (b7 2) (fC (.int 0))) (fC ax)))))) (k8 (fC .none)) j7) (k8 (b9 j5 (b7 2) (fC (.int 0))))))
noncomputable def U8:List b5->Option PV:=D6 1 1 (k8 (d6 X1 (a9 (b7 0) (a9 (fC (.int 0)) c7))))
noncomputable def Y4:Ds->Option Out:=(r9 (f9 (b9 (P9 V0 N6) (b7 1) (fC cQ))) (k8 (fC .none)) j7)
noncomputable def da:List b5->Option PV:=D6 1 2 (d5 (r9 (O9 (f9 (b9 o3 (b7 0) (fC (.str "")))) (f9 (b9 hJ (d6 O2 (a9 (b7 0) c7)) (fC Z9)))) (k8 (fC .none)) j7) (d5 (bq (bN (b7 0)) (C3 1) Y4) (Y9 0)))
noncomputable def cp:List b5->Option PV:=D6 1 1 (k8 (d6 X1 (a9 (b7 0) (a9 (nB kq (fC ax)) c7))))
noncomputable def cj:List b5->Option PV:=D6 1 2 (d5 (f7 1 (d6 P6 (a9 (b7 0) c7))) (d5 (r9 (O9 (f9 (b9 aF (b7 1) (fC .none))) (O9 (f9 (b9 vT (b9 j5 (b7 1) (fC (.int 0))) (fC (.int 0)))) (O9 (f9 (b9 hJ (b9 j5 (b7 1) (fC (.int 0))) (b9 j5 (b7 1) (fC (.int 1))))) (f9 (b9 hJ (b9 j5 (b7 1) (fC (.int 1))) (fC nH)))))) (k8 (fC .none)) j7) (Y9 1)))
noncomputable def F8:Ds->Option PV:=(kx (eD 0 "read_amount" U8 (a9 (b7 1) c7)) (kx (eD 0 "read_name" da (a9 (b7 1) c7)) (kx (eD 0 "read_price" cp (a9 (b7 1) c7)) (eD 0 "read_share" cj (a9 (b7 1) c7)))))
noncomputable def F6:List b5->Option PV:=D6 2 3 (d5 (r9 (f9 (b9 Q4 (d6 O2 (a9 (b7 0) c7)) (d6 O2 (a9 (b7 1) c7)))) (k8 (fC .none)) j7) (d5 (f7 2 (O8 (fu uK (a9 (b7 1) (a9 (b7 0) c7))) (qi 2) w4 F8)) (d5 (r9 (f9 (b9 iu (fC .none) (b7 2))) (k8 (fC .none)) j7) (k8 (d6 cM (a9 (b7 2) c7))))))
noncomputable def M4:List b5->Option PV:=D6 1 3 (d5 (f7 1 (d6 F6 (a9 (ae u5 (b7 0) (C5 (fC (.int 1))) (C5 (fC (.int 3)))) (a9 (fC W7) c7)))) (d5 (r9 (O9 (f9 (b9 Q4 (b9 j5 (b7 0) (fC (.int 0))) (fC (.str "hour")))) (f9 (b9 aF (b7 1) (fC .none)))) (k8 (fC .none)) j7) (d5 (r9 (f9 (b9 o3 (ae u5 (b7 0) (C5 (fC (.int 3))) M5) (o6 (a9 (fC (.str "dark")) c7)))) (k8 (b9 i6 (b7 1) (D9 (a9 (fC .none) c7)))) j7) (d5 (f7 2 (d6 F6 (a9 (ae u5 (b7 0) (C5 (fC (.int 4))) M5) (a9 (fC je) c7)))) (d5 (r9 (O9 (f9 (b9 Q4 (ae u5 (b7 0) (C5 (fC (.int 3))) (C5 (fC (.int 4)))) (o6 (a9 (fC (.str "line")) c7)))) (f9 (b9 aF (b7 2) (fC .none)))) (k8 (fC .none)) j7) (k8 (b9 i6 (b7 1) (D9 (a9 (b7 2) c7)))))))))
noncomputable def L0:Ds->Option Out:=(d5 (f7 3 (d6 M4 (a9 (b7 2) c7))) (d5 (r9 (f9 (b9 aF (b7 3) (fC .none))) (Y9 1) j7) (cP 1 (b7 3))))
noncomputable def cq:List b5->Option PV:=D6 1 4 (d5 (Q5 1 (o6 c7)) (d5 (bq (bN (ae u5 (b7 0) M5 (C5 (fC oP)))) (C3 2) L0) (Y9 1)))
noncomputable def cb:List b5->Option PV:=D6 1 2 (d5 (f7 1 (d6 F6 (a9 (ae u5 (b7 0) (C5 (fC (.int 1))) M5) (a9 (fC gX) c7)))) (d5 (r9 (O9 (f9 (b9 Q4 (b9 j5 (b7 0) (fC (.int 0))) (fC (.str "store")))) (O9 (f9 (b9 aF (b7 1) (fC .none))) (f9 (b9 hJ (b9 j5 (b7 1) (fC (.int 1))) (b9 j5 (b7 1) (fC (.int 0))))))) (k8 (fC .none)) j7) (Y9 1)))
noncomputable def cZ:List b5->Option PV:=D6 2 3 (d5 (f7 2 (d6 F6 (a9 (ae u5 (b7 0) (C5 (fC (.int 1))) M5) (a9 (fC ja) c7)))) (d5 (r9 (O9 (f9 (b9 Q4 (b9 j5 (b7 0) (fC (.int 0))) (fC (.str "work")))) (f9 (b9 aF (b7 2) (fC .none)))) (k8 (fC .none)) j7) (d5 (r9 (O9 (f9 (b9 hJ (b9 j5 (b7 2) (fC (.int 2))) (b9 j5 (b7 2) (fC (.int 3))))) (f9 (b9 CJ (b9 j5 (b7 2) (fC (.int 3))) (b7 1)))) (k8 (fC .none)) j7) (Y9 2))))
noncomputable def aE:Ds->Option Out:=(d5 (f7 5 (d6 cZ (a9 (b7 4) (a9 (b7 1) c7)))) (d5 (r9 (O9 (f9 (b9 aF (b7 5) (fC .none))) (f9 (b9 (P9 inD Z8) (K2 (b9 j5 (b7 5) (fC (.int 0)))) (K2 (b7 3))))) (Y9 2) j7) (d5 (cP 2 (b7 5)) (cP 3 (b9 j5 (b7 5) (fC (.int 0)))))))
noncomputable def bZ:List b5->Option PV:=D6 2 6 (d5 (Q5 2 (o6 c7)) (d5 (Q5 3 (o6 c7)) (d5 (bq (bN (ae u5 (b7 0) M5 (C5 (fC oN)))) (C3 4) aE) (Y9 2))))
noncomputable def nt:Ds->Option PV:=(G7 Y5 (b7 0) (a9 (fC (.str " ")) c7))
noncomputable def lU:List b5->Option PV:=D6 1 6 (d5 (f7 1 (O8 (bN (b7 0)) t5 w4 nt)) (d5 (f7 2 (Ph (f9 (b9 o3 (b7 1) (o6 c7))) (fC .none) (d6 cb (a9 (b9 j5 (b7 1) (fC (.int 0))) c7)))) (d5 (r9 (f9 (b9 aF (b7 2) (fC .none))) aY j7) (d5 (f7 3 (d6 cq (a9 (ae u5 (b7 1) (C5 (fC (.int 1))) M5) c7))) (d5 (r9 (f9 (b9 o3 (b7 3) (o6 c7))) aY j7) (d5 (f7 4 (d6 bZ (a9 (ae u5 (b7 1) (C5 (b9 i6 (fC (.int 1)) (d6 O2 (a9 (b7 3) c7)))) M5) (a9 (d6 O2 (a9 (b7 3) c7)) c7)))) (d5 (f7 5 (b9 i6 (b9 i6 (fC (.int 1)) (d6 O2 (a9 (b7 3) c7))) (d6 O2 (a9 (b7 4) c7)))) (d5 (r9 (f9 (b9 iR (b7 5) (d6 O2 (a9 (b7 1) c7)))) aY j7) (k8 (D9 (a9 (d6 cM (a9 (b7 3) c7)) (a9 (b7 2) (a9 (d6 cM (a9 (b7 4) c7)) c7)))))))))))))
noncomputable def U9:List PV->Option (PV×Ds):=ny 2 2 (d5 (sJ "Desk" 0 "house" NQ (d6 lU (a9 (b7 1) c7))) (sJ "Desk" 0 "keepers" xf oE))
noncomputable def gg:Ds->Option Out:=(f7 2 (b9 cA (b7 2) (fC (.int 65497))))
noncomputable def l8:List b5->Option PV:=D6 2 5 (d5 (f7 2 (fC (.int 0))) (d5 (r9 (f9 (b9 hJ (d6 O2 (a9 (b7 0) c7)) (fC (.int 0)))) (d5 (f7 2 (b9 j5 (b7 0) (b9 A4 (b7 1) (d6 O2 (a9 (b7 0) c7))))) (r9 (f9 (b9 o3 (b9 A4 (b9 j5 (b7 0) (fC (.int 0))) (fC (.int 2))) (fC (.int 1)))) (d5 (bq (fu iH (a9 (b9 A4 (b9 cA (b7 1) (d6 O2 (a9 (b7 0) c7))) (fC (.int 60))) c7)) (C3 3) gg) (k8 (b9 A4 (b7 2) (fC (.int 65497))))) j7)) j7) (d5 (f7 4 (b9 A4 (b9 i6 (b9 i6 (b9 O7 (b9 A4 (b7 2) (fC (.int 1000003))) (fC (.int 48271))) (b9 O7 (b9 O7 (b7 1) (b7 1)) (fC (.int 7919)))) (fC (.int 1))) (fC (.int 65521)))) (d5 (f7 4 (b9 A4 (b9 i6 (b9 O7 (b7 4) (b7 4)) (b7 1)) (fC (.int 65519)))) (k8 (b9 A4 (b9 i6 (b9 O7 (b9 O7 (b7 4) (b7 4)) (fC (.int 31))) (b7 4)) (fC (.int 65497))))))))
noncomputable def gM:List b5->Option PV:=D6 1 1 (k8 (b9 j5 (o6 (a9 (fC (.int 1)) (a9 (fC (.int 1)) (a9 (fC (.int 1)) (a9 (fC (.int 1000)) (a9 (fC (.int 40000)) c7)))))) (b9 A4 (d6 l8 (a9 (b7 0) (a9 (fC (.int 100)) c7))) (fC (.int 5)))))
noncomputable def D8:List b5->Option PV:=D6 2 2 (k8 (b9 O7 (b9 A4 (d6 l8 (a9 (b7 0) (a9 (b7 1) c7))) (fC (.int 13))) (d6 gM (a9 (b7 0) c7))))
noncomputable def jI:List b5->Option PV:=D6 2 4 (d5 (r9 (f9 (b9 o3 (b9 A4 (d6 l8 (a9 (b7 0) (a9 (b7 1) c7))) (fC (.int 4))) (fC (.int 0)))) (k8 (fC .none)) j7) (d5 (f7 2 (b9 iB (b9 A4 (d6 l8 (a9 (b7 0) (a9 (b9 i6 (b7 1) (fC (.int 1))) c7))) (fC (.int 27))) (fC (.int 6)))) (d5 (f7 3 (b9 iB (b9 A4 (d6 l8 (a9 (b7 0) (a9 (b9 i6 (b7 1) (fC (.int 2))) c7))) (fC (.int 27))) (fC (.int 6)))) (d5 (r9 (f9 (b9 o3 (b9 A4 (d6 l8 (a9 (b7 0) (a9 (b7 1) c7))) (fC (.int 9))) (fC (.int 0)))) (f7 2 (b9 iB (b9 O7 (b7 2) (fC (.int 50000))) (fC (.int 300000)))) j7) (k8 (D9 (a9 (b7 2) (a9 (d6 D8 (a9 (b7 0) (a9 (b9 i6 (b7 1) (fC (.int 3))) c7))) (a9 (b7 3) (a9 (d6 D8 (a9 (b7 0) (a9 (b9 i6 (b7 1) (fC (.int 4))) c7))) c7))))))))))
noncomputable def fm:Ds->Option Bool:=(f9 (b9 hJ (b7 3) (fC (.int 0))))
noncomputable def ft:Ds->Option Out:=(d5 (f7 4 (b9 A4 (b7 2) (b7 3))) (d5 (f7 2 (b7 3)) (f7 3 (b7 4))))
noncomputable def jJ:List b5->Option PV:=D6 2 5 (d5 (f7 2 (d6 rL (a9 (b7 0) c7))) (d5 (f7 3 (b7 1)) (d5 (gq (mG 3) fm ft) (k8 (D9 (a9 (b9 cA (b7 0) (b7 2)) (a9 (b9 cA (b7 1) (b7 2)) c7)))))))
noncomputable def dQ:List b5->Option PV:=D6 2 4 (d5 (f7 2 (b9 i6 (fC (.int 1)) (b9 A4 (d6 l8 (a9 (b7 0) (a9 (b7 1) c7))) (fC (.int 12))))) (d5 (f7 3 (o6 (a9 (D9 (a9 (fC (.int 1)) (a9 (fC (.int 1)) c7))) (a9 (D9 (a9 (fC (.int 1)) (a9 (fC (.int 2)) c7))) (a9 (D9 (a9 (fC (.int 9)) (a9 (fC (.int 10)) c7))) (a9 (d6 jJ (a9 (b9 i6 (fC (.int 1)) (b9 A4 (d6 l8 (a9 (b7 0) (a9 (b9 i6 (b7 1) (fC (.int 1))) c7))) (b7 2))) (a9 (b7 2) c7))) c7)))))) (k8 (b9 j5 (b7 3) (b9 A4 (d6 l8 (a9 (b7 0) (a9 (b9 i6 (b7 1) (fC (.int 2))) c7))) (fC (.int 4)))))))
noncomputable def dC:List b5->Option PV:=D6 4 6 (d5 (f7 4 (b9 A4 (d6 l8 (a9 (b7 0) (a9 (b7 1) c7))) (b7 3))) (d5 (f7 5 (b9 i6 (b7 4) (b9 A4 (d6 l8 (a9 (b7 0) (a9 (b9 i6 (b7 1) (fC (.int 1))) c7))) (b9 iB (b7 3) (b7 4))))) (k8 (D9 (a9 (b7 2) (a9 (b9 i6 (d6 D8 (a9 (b7 0) (a9 (b9 i6 (b7 1) (fC (.int 2))) c7))) (d6 D8 (a9 (b7 0) (a9 (b9 i6 (b7 1) (fC (.int 3))) c7)))) (a9 (b7 4) (a9 (b7 5) (a9 (d6 D8 (a9 (b7 0) (a9 (b9 i6 (b7 1) (fC (.int 4))) c7))) c7)))))))))
noncomputable def df:Ds->Option Out:=(d5 (f7 5 (b9 i6 (fC (.int 200)) (b9 O7 (fC (.int 9)) (b7 4)))) (cP 3 (D9 (a9 (d6 D8 (a9 (b7 0) (a9 (b7 5) c7))) (a9 (d6 D8 (a9 (b7 0) (a9 (b9 i6 (b7 5) (fC (.int 1))) c7))) (a9 (d6 jI (a9 (b7 0) (a9 (b9 i6 (b7 5) (fC (.int 2))) c7))) c7))))))
noncomputable def kA:Ds->Option PV:=(d6 dC (a9 (b7 1) (a9 (b9 i6 (fC (.int 130)) (b9 O7 (fC (.int 7)) (b7 0))) (a9 (b9 j5 (b7 12) (b7 0)) (a9 (b7 2) c7)))))
noncomputable def gO:List b5->Option PV:=D6 3 13 (d5 (Q5 3 (o6 c7)) (d5 (bq (fu iH (a9 (b7 1) c7)) (C3 4) df) (d5 (f7 6 (b9 i6 (d6 D8 (a9 (b7 0) (a9 (fC (.int 110)) c7))) (d6 D8 (a9 (b7 0) (a9 (fC (.int 111)) c7))))) (d5 (f7 7 (b9 A4 (b9 O7 (d6 l8 (a9 (b7 0) (a9 (fC (.int 112)) c7))) (fC (.int 991))) (b9 i6 (b7 6) (fC (.int 1))))) (d5 (f7 8 (D9 (a9 (d6 D8 (a9 (b7 0) (a9 (fC (.int 113)) c7))) (a9 (d6 D8 (a9 (b7 0) (a9 (fC (.int 114)) c7))) c7)))) (d5 (f7 9 (D9 (a9 (d6 dQ (a9 (b7 0) (a9 (fC (.int 115)) c7))) (a9 (d6 dQ (a9 (b7 0) (a9 (fC (.int 118)) c7))) c7)))) (d5 (f7 10 (b9 i6 (b9 i6 (b9 i6 (D9 (a9 (b7 6) (a9 (b7 7) c7))) (b7 8)) (b7 9)) (D9 (a9 (b9 A4 (d6 l8 (a9 (b7 0) (a9 (fC (.int 121)) c7))) (fC (.int 13))) c7)))) (d5 (f7 11 (b9 j5 (o6 (a9 (o6 (a9 (fC (.str "w")) (a9 (fC (.str "wa")) (a9 (fC (.str "wab")) (a9 (fC (.str "a")) (a9 (fC (.str "ab")) (a9 (fC (.str "b")) c7))))))) (a9 (o6 (a9 (fC (.str "ab")) (a9 (fC (.str "a")) (a9 (fC (.str "b")) (a9 (fC (.str "abb")) (a9 (fC (.str "c")) (a9 (fC (.str "ca")) c7))))))) c7))) (b9 A4 (d6 l8 (a9 (b7 0) (a9 (fC (.int 122)) c7))) (fC (.int 2))))) (d5 (f7 12 (O8 (fu iH (a9 (b7 2) c7)) t5 w4 kA)) (k8 (K2 (D9 (a9 (d6 cM (a9 (b7 3) c7)) (a9 (b7 10) (a9 (d6 cM (a9 (b7 12) c7)) c7)))))))))))))))
noncomputable def gd:Ds->Option PV:=(d6 (nu fx pX) (a9 (b7 0) c7))
noncomputable def T5:List b5->Option PV:=D6 1 1 (k8 (G7 R9 (fC (.str " ")) (a9 (O8 (bN (b7 0)) t5 w4 gd) c7)))
noncomputable def bj:List b5->Option PV:=D6 1 1 (d5 (r9 (f9 (b9 o3 (b9 j5 (b7 0) (fC (.int 1))) (fC (.int 1)))) (k8 (d6 fx (a9 (b9 j5 (b7 0) (fC (.int 0))) c7))) j7) (k8 (b9 i6 (b9 i6 (d6 fx (a9 (b9 j5 (b7 0) (fC (.int 0))) c7)) (fC (.str "/"))) (d6 fx (a9 (b9 j5 (b7 0) (fC (.int 1))) c7)))))
noncomputable def V3:Ds->Option Out:=(d5 (f7 5 (o6 (a9 (fC (.str "dark")) c7))) (d5 (r9 (f9 (b9 oB (b9 j5 (b7 4) (fC (.int 2))) (fC .none))) (f7 5 (b9 i6 (o6 (a9 (fC (.str "line")) c7)) (d6 cy (a9 (b9 j5 (b7 4) (fC (.int 2))) c7)))) j7) (cP 3 (d6 T5 (a9 (b9 i6 (o6 (a9 (fC (.str "hour")) (a9 (b9 j5 (b7 4) (fC (.int 0))) (a9 (b9 j5 (b7 4) (fC (.int 1))) c7)))) (b7 5)) c7)))))
noncomputable def cS:Ds->Option PV:=(d6 T5 (a9 (b9 i6 (o6 (a9 (fC (.str "work")) c7)) (d6 cy (a9 (b7 0) c7))) c7))
noncomputable def Z5:List b5->Option PV:=D6 1 6 (d5 (f7 1 (b9 j5 (b7 0) (fC (.int 1)))) (d5 (f7 2 (o6 (a9 (d6 bj (a9 (b9 j5 (b7 1) (fC (.int 4))) c7)) (a9 (d6 bj (a9 (b9 j5 (b7 1) (fC (.int 5))) c7)) c7)))) (d5 (Q5 3 (o6 (a9 (d6 T5 (a9 (b9 i6 (b9 i6 (b9 i6 (o6 (a9 (fC (.str "store")) c7)) (d6 cy (a9 (ae u5 (b7 1) M5 (C5 (fC (.int 4)))) c7))) (b7 2)) (o6 (a9 (b9 j5 (b7 1) (fC (.int 6))) c7))) c7)) c7))) (d5 (bq (bN (b9 j5 (b7 0) (fC (.int 0)))) (C3 4) V3) (k8 (K2 (b9 i6 (b7 3) (O8 (bN (b9 j5 (b7 0) (fC (.int 2)))) t5 w4 cS))))))))
noncomputable def dD:List b5->Option PV:=D6 3 4 (d5 (f7 3 (b9 A4 (d6 l8 (a9 (b7 0) (a9 (b7 1) c7))) (fC (.int 8)))) (d5 (r9 (f9 (b9 iR (b7 3) (fC (.int 2)))) (k8 (D9 (a9 (b9 j5 (o6 (a9 (fC (.str "from")) (a9 (fC (.str "till")) c7))) (b7 3)) (a9 (b9 A4 (d6 l8 (a9 (b7 0) (a9 (b9 i6 (b7 1) (fC (.int 1))) c7))) (b9 i6 (b7 2) (fC (.int 1)))) c7)))) j7) (d5 (r9 (f9 (b9 iR (b7 3) (fC (.int 4)))) (k8 (D9 (a9 (b9 j5 (o6 (a9 (fC (.str "over")) (a9 (fC (.str "under")) c7))) (b9 iB (b7 3) (fC (.int 2)))) (a9 (d6 D8 (a9 (b7 0) (a9 (b9 i6 (b7 1) (fC (.int 1))) c7))) c7)))) j7) (d5 (r9 (f9 (b9 iR (b7 3) (fC (.int 6)))) (k8 (D9 (a9 (b9 j5 (o6 (a9 (fC (.str "dear")) (a9 (fC (.str "cheap")) c7))) (b9 iB (b7 3) (fC (.int 4)))) (a9 (b9 iB (b9 A4 (d6 l8 (a9 (b7 0) (a9 (b9 i6 (b7 1) (fC (.int 1))) c7))) (fC (.int 27))) (fC (.int 6))) c7)))) j7) (k8 (D9 (a9 (b9 j5 (o6 (a9 (fC (.str "dark")) (a9 (fC (.str "sunny")) c7))) (b9 iB (b7 3) (fC (.int 6)))) c7)))))))
noncomputable def jL:Ds->Option PV:=(d6 dD (a9 (b7 1) (a9 (b9 i6 (b7 7) (b9 O7 (fC (.int 2)) (b7 0))) (a9 (b7 3) c7))))
noncomputable def cu:Ds->Option Out:=(d5 (f7 6 (b9 i6 (b7 1) (b9 O7 (fC (.int 31)) (b7 5)))) (d5 (f7 7 (d6 l8 (a9 (b7 0) (a9 (b9 i6 (b7 6) (fC (.int 13))) c7)))) (d5 (f7 8 (O8 (fu iH (a9 (b9 j5 (o6 (a9 (b9 A4 (b9 cA (b7 7) (fC (.int 11))) (fC (.int 3))) (a9 (fC (.int 6)) c7))) (d6 (nu intD jS) (a9 (b9 o3 (b9 A4 (b7 7) (fC (.int 11))) (fC (.int 5))) c7))) c7)) t5 w4 jL)) (d5 (f7 9 (b9 j5 (o6 (a9 (fC (.str "none")) (a9 (fC (.str "sun")) (a9 (fC (.str "line")) c7)))) (b9 A4 (d6 l8 (a9 (b7 0) (a9 (b9 i6 (b7 6) (fC (.int 14))) c7))) (fC (.int 3))))) (d5 (f7 10 (b9 j5 (o6 (a9 (fC (.str "none")) (a9 (fC (.str "need")) (a9 (fC (.str "give")) c7)))) (b9 A4 (d6 l8 (a9 (b7 0) (a9 (b9 i6 (b7 6) (fC (.int 15))) c7))) (fC (.int 3))))) (cP 4 (D9 (a9 (d6 cM (a9 (b7 8) c7)) (a9 (b7 9) (a9 (b7 10) (a9 (b9 j5 (o6 (a9 (fC (.str "now")) (a9 (fC (.str "wait")) c7))) (b9 A4 (d6 l8 (a9 (b7 0) (a9 (b9 i6 (b7 6) (fC (.int 16))) c7))) (fC (.int 2)))) c7)))))))))))
noncomputable def fj:List b5->Option PV:=D6 4 11 (d5 (Q5 4 (o6 c7)) (d5 (bq (fu iH (a9 (b7 3) c7)) (C3 5) cu) (k8 (K2 (d6 cM (a9 (b7 4) c7))))))
noncomputable def gN:List b5->Option PV:=D6 1 2 (d5 (f7 1 (o6 (a9 (o6 (a9 (fC (.str "a")) (a9 (fC (.str "ab")) (a9 (fC (.str "abc")) (a9 (fC (.str "b")) c7))))) (a9 (o6 (a9 (fC (.str "show")) (a9 (fC (.str "best")) (a9 (fC (.str "rule")) (a9 (fC (.str "day")) c7))))) (a9 (o6 (a9 (fC (.str "zz")) (a9 (fC (.str "z")) (a9 (fC (.str "zzzzzzzz")) (a9 (fC (.str "zy")) c7))))) c7))))) (k8 (b9 j5 (b7 1) (b9 A4 (d6 l8 (a9 (b7 0) (a9 (fC (.int 90)) c7))) (fC (.int 3))))))
noncomputable def bD:Ds->Option Out:=(vh 1 (d6 cy (a9 (b7 2) c7)))
noncomputable def bg:List b5->Option PV:=D6 1 3 (d5 (Q5 1 (o6 (a9 (fC (.str "when")) c7))) (d5 (bq (bN (b9 j5 (b7 0) (fC (.int 0)))) (C3 2) bD) (k8 (K2 (d6 T5 (a9 (b9 i6 (b7 1) (o6 (a9 (fC (.str "fill")) (a9 (b9 j5 (b7 0) (fC (.int 1))) (a9 (fC (.str "take")) (a9 (b9 j5 (b7 0) (fC (.int 2))) (a9 (fC (.str "works")) (a9 (b9 j5 (b7 0) (fC (.int 3))) c7)))))))) c7))))))
noncomputable def Y3:Ds->Option PV:=(d6 Z4 (a9 (D9 (a9 (b7 0) (a9 (fC (.int 1)) c7))) c7))
noncomputable def Q1:Ds->Option Out:=(d5 (cP 1 (b9 j5 (b7 2) (fC (.int 0)))) (vh 1 (O8 (bN (ae u5 (b7 2) (C5 (fC (.int 1))) M5)) t5 w4 Y3)))
noncomputable def cY:List b5->Option PV:=D6 1 3 (d5 (Q5 1 (o6 (a9 (fC (.str "when")) c7))) (d5 (bq (bN (b9 j5 (b7 0) (fC (.int 0)))) (C3 2) Q1) (k8 (K2 (G7 R9 (fC (.str " ")) (a9 (b9 i6 (b7 1) (o6 (a9 (fC (.str "fill")) (a9 (b9 j5 (b7 0) (fC (.int 1))) (a9 (fC (.str "take")) (a9 (b9 j5 (b7 0) (fC (.int 2))) (a9 (fC (.str "works")) (a9 (b9 j5 (b7 0) (fC (.int 3))) c7)))))))) c7))))))
noncomputable def aV:Ds->Option PV:=(d6 cY (a9 (b7 0) c7))
noncomputable def R6:List b5->Option PV:=D6 1 1 (k8 (O8 (bN (b7 0)) t5 w4 aV))
noncomputable def G0(E:aJ):eQ:=ku 3 5 (d5 (f7 3 (oF 0 (gU "Desk" "keepers") (b7 2))) (d5 (r9 (f9 (b9 aF (b7 3) (fC .none))) (ic aq E.k "name" (a9 (b7 2) c7)) j7) (d5 (r9 (f9 (b9 o3 (b7 1) (fC (.str "drop")))) (d5 (gu 0 (gU "Desk" "keepers") (oI "keepers") (b7 2)) (aL (o6 (a9 (fC (.str "ok")) c7)))) j7) (d5 (r9 (f9 (b9 o3 (b7 1) (fC (.str "keeper")))) (aL (d6 R6 (a9 (b7 3) c7))) j7) (d5 aY aY)))))
noncomputable def X2:List b5->Option PV:=D6 1 2 (d5 (r9 (f9 (b9 Q4 (rE qS (b7 0) (C5 (fC (.int 0))) M5 (C5 (fC (.int 2)))) (o6 (a9 (fC (.str "fill")) (a9 (fC (.str "take")) (a9 (fC (.str "works")) c7)))))) (k8 (fC .none)) j7) (d5 (f7 1 (d6 cM (a9 (rE qS (b7 0) (C5 (fC (.int 1))) M5 (C5 (fC (.int 2)))) c7))) (d5 (r9 (O9 (f9 (b9 (P9 V0 N6) (b9 j5 (b7 1) (fC (.int 0))) (fC jf))) (O9 (f9 (b9 (P9 V0 N6) (b9 j5 (b7 1) (fC (.int 1))) (fC jb))) (f9 (b9 (P9 V0 N6) (b9 j5 (b7 1) (fC (.int 2))) (fC iZ))))) (k8 (fC .none)) j7) (Y9 1))))
noncomputable def aB:List b5->Option PV:=D6 2 3 (d5 (f7 2 (d6 P6 (a9 (b7 0) c7))) (d5 (r9 (O9 (f9 (b9 aF (b7 2) (fC .none))) (O9 (f9 (b9 Q4 (b9 j5 (b7 2) (fC (.int 1))) (fC (.int 1)))) (O9 (f9 (b9 iR (b9 j5 (b7 2) (fC (.int 0))) (b7 1))) (f9 (b9 hJ (b9 j5 (b7 2) (fC (.int 0))) (fC bt)))))) (k8 (fC .none)) j7) (k8 (b9 j5 (b7 2) (fC (.int 0))))))
noncomputable def K3:List b5->Option PV:=D6 1 2 (d5 (r9 (f9 (b9 (P9 inD Z8) (b9 j5 (b7 0) (fC (.int 0))) (fC jg))) (k8 (D9 (a9 (b9 j5 (b7 0) (fC (.int 0))) c7))) j7) (d5 (f7 1 (fC .none)) (d5 (r9 (cR (f9 (b9 (P9 inD Z8) (b9 j5 (b7 0) (fC (.int 0))) (fC fP))) (f9 (b9 hJ (d6 O2 (a9 (b7 0) c7)) (fC (.int 1))))) (f7 1 (d6 aB (a9 (b9 j5 (b7 0) (fC (.int 1))) (a9 (fC (.int 0)) c7)))) j7) (d5 (r9 (cR (f9 (b9 (P9 inD Z8) (b9 j5 (b7 0) (fC (.int 0))) (fC gY))) (f9 (b9 hJ (d6 O2 (a9 (b7 0) c7)) (fC (.int 1))))) (f7 1 (d6 aB (a9 (b9 j5 (b7 0) (fC (.int 1))) (a9 (nB kq (fC bt)) c7)))) j7) (d5 (r9 (f9 (b9 aF (b7 1) (fC .none))) (k8 (fC .none)) j7) (k8 (D9 (a9 (b9 j5 (b7 0) (fC (.int 0))) (a9 (b7 1) c7)))))))))
noncomputable def E4:Ds->Option Bool:=(f9 (b9 iR (b7 2) (d6 O2 (a9 (b7 0) c7))))
noncomputable def F9:Ds->Option Out:=(d5 (f7 3 (d6 K3 (a9 (ae u5 (b7 0) (C5 (b7 2)) M5) c7))) (d5 (r9 (O9 (f9 (b9 aF (b7 3) (fC .none))) (f9 (b9 o3 (K2 (d6 O2 (a9 (b7 1) c7))) (K2 (fC oO))))) (k8 (fC .none)) j7) (d5 (cP 1 (b7 3)) (f7 2 (b9 i6 (b7 2) (d6 O2 (a9 (b7 3) c7)))))))
noncomputable def T4:List b5->Option PV:=D6 1 4 (d5 (Q5 1 (o6 c7)) (d5 (f7 2 (fC (.int 0))) (d5 (gq (Ex 0) E4 F9) (k8 (K2 (d6 cM (a9 (b7 1) c7)))))))
noncomputable def B5:List b5->Option PV:=D6 1 4 (d5 (f7 1 (G7 Y5 (b7 0) (a9 (fC (.str " ")) c7))) (d5 (r9 (O9 (f9 (b9 Q4 (b9 j5 (b7 1) (fC (.int 0))) (fC (.str "when")))) (f9 (b9 vT (d6 O2 (a9 (b7 1) c7)) (fC eJ)))) (k8 (fC .none)) j7) (d5 (f7 2 (d6 T4 (a9 (ae u5 (b7 1) (C5 (fC (.int 1))) (C5 (nB kq (fC eJ)))) c7))) (d5 (f7 3 (d6 X2 (a9 (ae u5 (b7 1) (C5 (nB kq (fC eJ))) M5) c7))) (d5 (r9 (O9 (f9 (b9 aF (b7 2) (fC .none))) (f9 (b9 aF (b7 3) (fC .none)))) (k8 (fC .none)) j7) (k8 (b9 i6 (D9 (a9 (b7 2) c7)) (b7 3))))))))
noncomputable def kh:Ds->Option Out:=(d5 (f7 4 (d6 B5 (a9 (b7 3) c7))) (d5 (r9 (O9 (f9 (b9 aF (b7 4) (fC .none))) (f9 (b9 o3 (b7 2) (fC jc)))) aY j7) (cP 1 (b7 4))))
noncomputable def nP:List b5->Option PV:=D6 1 5 (d5 (Q5 1 (o6 c7)) (d5 (bq (fu qm (a9 (b7 0) c7)) (mm 2 (aK 2 (aK 3 mn))) kh) (k8 (K2 (d6 cM (a9 (b7 1) c7))))))
noncomputable def B0(E:aJ):Ds->Option Out:=(d5 (f7 4 (d6 B5 (a9 (b7 3) c7))) (d5 (r9 (O9 (f9 (b9 aF (b7 4) (fC .none))) (f9 (b9 o3 (b7 2) (fC jc)))) (yT nX E.t "place" (a9 (b7 2) c7)) j7) (cP 1 (b7 4))))
noncomputable def E3(E:aJ):List b5->Option (PV ⊕ b5):=fnX 1 5 (d5 (Q5 1 (o6 c7)) (d5 (bq (fu qm (a9 (b7 0) c7)) (mm 2 (aK 2 (aK 3 mn))) (B0 E)) (k8 (K2 (d6 cM (a9 (b7 1) c7))))))
noncomputable def P7(E:aJ):eQ:=ku 4 6 (d5 (f7 4 (d6 R6 (a9 (fN 0 (gU "Desk" "keepers") (b7 2) (D9 c7)) c7))) (d5 (sH aq E.t E.l "line" 5 (E3 E) (a9 (b9 i6 (b7 4) (o6 (a9 (b7 3) c7))) c7) (a9 (b7 1) c7)) (d5 (gr 0 (gU "Desk" "keepers") (oI "keepers") (b7 2) (b7 5)) (aL (o6 (a9 (fC (.str "ok")) c7))))))
noncomputable def gf:Ds->Option PV:=(b9 (P9 inD Z8) (b7 0) (fC kW))
noncomputable def gP:List b5->Option PV:=D6 1 1 (k8 (EV (gw iR vT (fC (.int 0)) (d6 O2 (a9 (b7 0) c7)) (fC bu)) (d6 vo (a9 (O8 (bN (b7 0)) t5 w4 gf) c7))))
noncomputable def E6:List b5->Option PV:=D6 1 1 (k8 (d6 Z4 (a9 (D9 (a9 (b7 0) (a9 (fC (.int 1)) c7))) c7)))
noncomputable def dq:Ds->Option PV:=(d6 E6 (a9 (b7 0) c7))
noncomputable def bo:List b5->Option PV:=D6 1 2 (d5 (f7 1 (o6 (a9 (fC (.str "hour")) (a9 (d6 E6 (a9 (b9 j5 (b7 0) (fC (.int 0))) c7)) (a9 (d6 E6 (a9 (b9 j5 (b7 0) (fC (.int 1))) c7)) c7))))) (d5 (r9 (f9 (b9 aF (b9 j5 (b7 0) (fC (.int 2))) (fC .none))) (k8 (G7 R9 (fC (.str " ")) (a9 (b9 i6 (b7 1) (o6 (a9 (fC (.str "dark")) c7))) c7))) j7) (k8 (G7 R9 (fC (.str " ")) (a9 (b9 i6 (b9 i6 (b7 1) (o6 (a9 (fC (.str "line")) c7))) (O8 (bN (b9 j5 (b7 0) (fC (.int 2)))) t5 w4 dq)) c7)))))
noncomputable def cJ:Ds->Option PV:=(d6 E6 (a9 (b7 0) c7))
noncomputable def cI:Ds->Option PV:=(d6 Z4 (a9 (b7 0) c7))
noncomputable def bY:List b5->Option PV:=D6 1 3 (d5 (f7 1 (O8 (bN (ae u5 (b7 0) M5 (C5 (fC (.int 4))))) t5 w4 cJ)) (d5 (f7 2 (O8 (bN (ae u5 (b7 0) (C5 (fC (.int 4))) (C5 (fC (.int 6))))) t5 w4 cI)) (k8 (G7 R9 (fC (.str " ")) (a9 (b9 i6 (b9 i6 (b9 i6 (o6 (a9 (fC (.str "store")) c7)) (b7 1)) (b7 2)) (o6 (a9 (d6 E6 (a9 (b9 j5 (b7 0) (fC (.int 6))) c7)) c7))) c7)))))
noncomputable def dn:Ds->Option PV:=(d6 E6 (a9 (b7 0) c7))
noncomputable def cX:List b5->Option PV:=D6 1 1 (k8 (G7 R9 (fC (.str " ")) (a9 (b9 i6 (o6 (a9 (fC (.str "work")) (a9 (b9 j5 (b7 0) (fC (.int 0))) c7))) (O8 (bN (ae u5 (b7 0) (C5 (fC (.int 1))) M5)) t5 w4 dn)) c7)))
noncomputable def kg:Ds->Option PV:=(d6 bo (a9 (b7 0) c7))
noncomputable def kf:Ds->Option PV:=(d6 cX (a9 (b7 0) c7))
noncomputable def iy:List b5->Option PV:=D6 1 3 (d5 (f7 1 (O8 (bN (b9 j5 (b7 0) (fC (.int 0)))) t5 w4 kg)) (d5 (f7 2 (O8 (bN (b9 j5 (b7 0) (fC (.int 2)))) t5 w4 kf)) (k8 (b9 i6 (b9 i6 (o6 (a9 (d6 bY (a9 (b9 j5 (b7 0) (fC (.int 1))) c7)) c7)) (b7 1)) (b7 2)))))
noncomputable def J3(E:aJ):eQ:=ku 2 3 (d5 (f7 2 (G7 Y5 (b7 1) (a9 (fC (.str " ")) c7))) (d5 (r9 (f9 (b9 o3 (b7 1) (fC (.str "show")))) (aL (d6 iy (a9 (xo "Desk" 0 "house") c7))) j7) (d5 (r9 (f9 (b9 o3 (b7 1) (fC (.str "best")))) aY j7) (d5 (r9 (f9 (b9 o3 (b7 1) (fC (.str "ranks")))) aY j7) (d5 (r9 (cR (f9 (b9 o3 (b9 j5 (b7 2) (fC (.int 0))) (fC (.str "raised")))) (f9 (b9 o3 (d6 O2 (a9 (b7 2) c7)) (fC (.int 3))))) aY j7) (d5 (r9 (O9 (f9 (b9 o3 (d6 O2 (a9 (b7 2) c7)) (fC (.int 1)))) (mY (f9 (d6 gP (a9 (b9 j5 (b7 2) (fC (.int 1))) c7))))) (ic aq E.l "line" (a9 (b7 1) c7)) j7) (d5 (r9 (f9 (b9 o3 (b9 j5 (b7 2) (fC (.int 0))) (fC (.str "rule")))) (ei "Desk" "say_rule" 0 (P7 E) (t6 (b7 1) (t6 (b9 j5 (b7 2) (fC (.int 1))) (t6 (G7 R9 (fC (.str " ")) (a9 (ae u5 (b7 2) (C5 (fC (.int 2))) M5) c7)) S8)))) j7) (d5 (r9 (cR (f9 (b9 (P9 inD Z8) (b9 j5 (b7 2) (fC (.int 0))) (fC ay))) (f9 (b9 o3 (d6 O2 (a9 (b7 2) c7)) (fC (.int 2))))) (ei "Desk" "say_keeper" 0 (G0 E) (t6 (b9 j5 (b7 2) (fC (.int 0))) (t6 (b9 j5 (b7 2) (fC (.int 1))) S8))) j7) (ic aq E.l "line" (a9 (b7 1) c7))))))))))
noncomputable def fU(E:aJ):List PV->Option (PV×Ds):=ny 3 4 (d5 (xj 3 (gv "Desk" "say" 0 (vd (J3 E)) (t6 (b7 1) S8))) (d5 (r9 (O9 (mY (f9 (K2 (ij "list" (b7 3))))) (f9 (b9 Q4 (K2 (b7 3)) (K2 (b7 2))))) (aL (fC (.bool false))) j7) (d5 (cz 3 λ_=>[]) (aL (fC (.bool true))))))
noncomputable def nr:List PV->Option (PV×Ds):=ny 2 2 (d5 (r9 (mX 0 eF (b7 1)) (aL (d6 cy (a9 (EU 0 eF (b7 1)) c7))) j7) (aL (D9 (a9 (fC (.str "NoKeeper")) (a9 (b7 1) c7)))))
noncomputable def L5(E:aJ):List PV->Option (PV×Ds):=ny 2 5 (d5 (Q5 2 (fC .none)) (d5 (mO "Desk" "say" E.k E.l 2 3 0 (J3 E) (t6 (b7 1) S8) (Q5 2 (D9 (a9 (fC (.str "NoKeeper")) (a9 (gT "name" (b7 3)) c7)))) (Q5 2 (D9 (a9 (fC (.str "NoLine")) (a9 (gT "line" (b7 3)) c7))))) (d5 (r9 (O9 (f9 (K2 (ij "tuple" (b7 2)))) (mY (f9 (K2 (ij "list" (b7 2)))))) (aL (b7 2)) j7) (d5 (f7 4 (iU 2)) (d5 (cz 2 λ_=>[]) (aL (b7 4)))))))
noncomputable def L6(E:aJ):List PV->Option (PV×Ds):=ny 5 8 (d5 (r9 (f9 (b9 o3 (b7 2) (fC (.str "rule")))) (d5 (f7 5 (fN 1 eF (b7 3) (o6 c7))) (d5 (f7 6 (b9 i6 (b9 i6 (b9 i6 (fC (.str "rule ")) (b7 3)) (fC (.str " "))) (b7 4))) (d5 (r9 (f9 (b9 o3 (d6 O2 (a9 (b7 5) c7)) (fC (.int 20)))) (dO o3 (F5 (L5 E) (B1 0 (t6 (b7 6) S8))) (D9 (a9 (fC (.str "NoLine")) (a9 (b7 6) c7)))) j7) (d5 (gr 1 eF encD (b7 3) (b9 i6 (b7 5) (o6 (a9 (b7 4) c7)))) (dO o3 (F5 (L5 E) (B1 0 (t6 (b7 6) S8))) (o6 (a9 (fC (.str "ok")) c7))))))) j7) (d5 (r9 (f9 (b9 o3 (b7 2) (fC (.str "bad")))) (d5 (f7 6 (b9 i6 (b9 i6 (b9 i6 (fC (.str "rule ")) (b7 3)) (fC (.str " "))) (G7 R9 (fC (.str " ")) (a9 (ae u5 (G7 Y5 (b7 4) (a9 (fC (.str " ")) c7)) M5 (C5 (nB kq (fC (.int 1))))) c7)))) (dO o3 (F5 (L5 E) (B1 0 (t6 (b7 6) S8))) (D9 (a9 (fC (.str "NoLine")) (a9 (b7 6) c7))))) j7) (d5 (sI 7 (F5 nr (B1 1 (t6 (b7 3) S8)))) (d5 (r9 (cR (f9 (b9 o3 (b7 2) (fC (.str "drop")))) (mX 1 eF (b7 3))) (d5 (gu 1 eF encD (b7 3)) (f7 7 (o6 (a9 (fC (.str "ok")) c7)))) j7) (dO o3 (F5 (L5 E) (B1 0 (t6 (b9 i6 (b9 i6 (b7 2) (fC (.str " "))) (b7 3)) S8))) (b7 7))))))
noncomputable def vq:Ds->Option PV:=(d6 bg (a9 (b7 0) c7))
noncomputable def lW(E:aJ):Ds->Option Out:=(fZ (F5 (L6 E) (B1 5 (B1 7 (t6 (fC (.str "rule")) (t6 (b9 j5 (b7 6) (fC (.int 0))) (t6 (b9 j5 (b7 8) (b9 A4 (b7 9) (fC (.int 5)))) S8)))))) (k8 (fC (.bool false))))
noncomputable def lV(E:aJ):Ds->Option Out:=(d5 (f7 10 (b9 j5 (o6 (a9 (fC (.str "rule")) (a9 (fC (.str "rule")) (a9 (fC (.str "drop")) (a9 (fC (.str "bad")) (a9 (fC (.str "rule")) c7)))))) (b9 A4 (d6 l8 (a9 (b7 0) (a9 (b9 i6 (fC (.int 1500)) (b9 O7 (fC (.int 3)) (b7 9))) c7))) (fC (.int 5))))) (d5 (f7 11 (b9 j5 (b7 6) (b9 A4 (d6 l8 (a9 (b7 0) (a9 (b9 i6 (fC (.int 1501)) (b9 O7 (fC (.int 3)) (b7 9))) c7))) (fC (.int 4))))) (d5 (fZ (F5 (L6 E) (B1 5 (B1 7 (t6 (b7 10) (t6 (b7 11) (t6 (b9 j5 (b7 8) (b9 A4 (d6 l8 (a9 (b7 0) (a9 (b9 i6 (fC (.int 1502)) (b9 O7 (fC (.int 3)) (b7 9))) c7))) (fC (.int 5)))) S8)))))) (k8 (fC (.bool false)))) (d5 (fZ (F5 (L6 E) (B1 5 (B1 7 (t6 (fC (.str "keeper")) (t6 (b7 11) (t6 (fC (.str "")) S8)))))) (k8 (fC (.bool false)))) (fZ (F5 (L6 E) (B1 5 (B1 7 (t6 (fC (.str "keeper")) (t6 (b9 j5 (b7 6) (b9 A4 (b9 cA (d6 l8 (a9 (b7 0) (a9 (b9 i6 (fC (.int 1502)) (b9 O7 (fC (.int 3)) (b7 9))) c7))) (fC (.int 5))) (fC (.int 4)))) (t6 (fC (.str "")) S8)))))) (k8 (fC (.bool false))))))))
noncomputable def qq(E:aJ):List b5->Option PV:=D6 1 12 (d5 (f7 1 (b9 i6 (fC (.int 1)) (b9 A4 (d6 l8 (a9 (b7 0) (a9 (fC (.int 0)) c7))) (fC (.int 4))))) (d5 (f7 2 (d6 gO (a9 (b7 0) (a9 (b7 1) (a9 (b9 A4 (d6 l8 (a9 (b7 0) (a9 (fC (.int 1)) c7))) (fC (.int 3))) c7))))) (d5 (f7 3 (d6 Z5 (a9 (b7 2) c7))) (d5 (Q5 4 (d6 cy (a9 (b7 3) c7))) (d5 (Q5 5 (sO (K2 (ql "Desk" U9 (a9 (b7 4) c7))))) (d5 (cz 4 λ_=>[]) (d5 (f7 6 (d6 gN (a9 (b7 0) c7))) (d5 (Q5 7 oE) (d5 (f7 8 (O8 (bN (d6 fj (a9 (b7 0) (a9 (fC (.int 600)) (a9 (b7 1) (a9 (fC (.int 5)) c7)))))) t5 w4 vq)) (d5 (fZ (F5 (fU E) (B1 5 (t6 (fC (.str "show")) (t6 (b7 3) S8)))) (k8 (fC (.bool false)))) (d5 (bq (fu iH (a9 (b9 O7 (fC (.int 19)) (d6 (nu intD jS) (a9 (b9 o3 (b9 A4 (d6 l8 (a9 (b7 0) (a9 (fC (.int 91)) c7))) (fC (.int 6))) (fC (.int 0))) c7))) c7)) (C3 9) (lW E)) (d5 (bq (fu iH (a9 (b9 i6 (fC (.int 6)) (b9 A4 (d6 l8 (a9 (b7 0) (a9 (fC (.int 2)) c7))) (fC (.int 15)))) c7)) (C3 9) (lV E)) (xm (F5 (fU E) (B1 5 (t6 (fC (.str "show")) (t6 (b7 3) S8)))))))))))))))))
end
end Law
set_option maxHeartbeats 400000
local macro_rules | `(tactic| walk_at "r") => `(tactic| simp only[L2.D6, L2.CK, L2.jP, L2.xU, L2.xV, L2.vC, L2.vg, L2.vQ, L2.yV, L2.vR, L2.r9, L2.k8, L2.Y9, L2.Pb, L2.j7, L2.Pc, L2.II, L2.Pf, L2.Pe, L2.Vb, L2.kU, L2.bq, L2.gq, L2.Pd, L2.NA, L2.b7, L2.fC, L2.b9, L2.nB, L2.d6, L2.D9, L2.o6, L2.ae, L2.Ph, L2.EV, L2.Vc, L2.NB, L2.gw, L2.ij, L2.Pj, L2.Flat, L2.K2, L2.aG, L2.O8, L2.M5, L2.C5, L2.Dg, L2.zw, L2.a9, L2.c7, L2.f9, L2.mY, L2.cR, L2.O9, L2.w4, L2.fu, L2.WZ, L2.rZ, L2.vB, L2.yk, L2.vJ, L2.dA, L2.bO, L2.C3, L2.mm, L2.aK, L2.mn, L2.t5, L2.qi, L2.PV.ip, L2.PV.EX, L2.mG,
 L2.zy,L2.xJ,L2.Cu,L2.Cw,L2.CH,L2.CI,L2.zg,L2.yB,L2.zf,L2.yA,L2.CB,L2.mL,L2.zz,L2.ro,L2.vS,L2.yH,L2.vy,L2.xE,L2.sx,L2.vO,L2.BL,L2.xQ,L2.rB,L2.qE,L2.zo,L2.yL,L2.vX,L2.vA,L2.wc,L2.Vd,L2.iU,L2.cz,L2.A6,L2.xq,L2.Pu,L2.Pt,L2.Pr,L2.Pq,L2.Pp,L2.Po,L2.yJ,L2.Dw,String.reduceBEq,
 F7,Jz,pA,Jt,o5,bb,J2,pz,w9,cG,ai,Q8,Ay,Ax,pQ,ka,Nat.reduceAdd,Nat.reduceSub,Nat.reduceEqDiff,Nat.reduceLeDiff,Nat.reduceLT,Int.reduceToNat,JL,eq_self,
 if_true,if_false,reduceIte,gJ,decide_true,decide_false,pJ,Ar,decide_eq_false_iff_not,zP,zV,not_true_eq_false,not_false_eq_true,zJ,zR,pf,zT,Bool.and_true,zO,tP,tR,reduceCtorEq,and_self])
namespace Law
open PySem L2
noncomputable abbrev gc(a b:Int):Int:=(E9 a b:Nat)
theorem yS(x y:Int):E9 y (x.fmod y)=E9 x y:=by
 rw[Int.fmod_def];apply Nat.dvd_antisymm
 . apply Int.dvd_gcd
   . have h1:((E9 y (x-y*x.fdiv y):Nat):Int)∣y:=tW ..;have h2:((E9 y (x-y*x.fdiv y):Nat):Int)∣x-y*x.fdiv y:=pG ..;have h3:=Int.dvd_add h2 (KA (c:=x.fdiv y) h1)
     rwa [Int.sub_add_cancel]at h3
   . exact tW ..
 . apply Int.dvd_gcd
   . exact pG ..
   . exact Int.dvd_sub (tW ..) (KA (pG ..))
theorem kN(x:Int){y:Int}(h:y≠0):(x.fmod y).natAbs<y.natAbs:=by
 rcases Int.lt_or_gt_of_ne h with hy|hy
 . have e:Int.fmod x y=x % y+if 0<=y\/y∣x then 0 else y:=Int.fmod_eq_emod
   have h1:=Int.emod_nonneg x h;have h2:=Int.emod_lt x h;split at e<;>omega
 . have h1:=A8 x hy;have h2:=B7 x hy;omega
noncomputable def E7(t b:Int):Int×Int:=(t.fdiv (if b<0 then -gc t b else gc t b),b.fdiv (if b<0 then -gc t b else gc t b))
theorem Pa{m:Nat}{t b:Int}(hb:b≠0)(h:Bt m b):Bt m (gc t b):=h.of_le (by
 have h1:=Int.gcd_le_natAbs_right t hb;show((E9 t b:Nat):Int).natAbs<=_
 omega)
theorem OZ{t b:Int}(hb:b≠0):gc t b≠0:=by
 have h1:=Ba t hb;show((E9 t b:Nat):Int)≠0
 omega
theorem Va(t b:Int):gc (if t<0 then -t else t) (if b<0 then -b else b)=gc t b:=by
 show((E9 _ _:Nat):Int)=(E9 t b:Nat)
 have e1:∀x y:Int,E9 (if x<0 then -x else x) y=E9 x y:=λx y=>by split<;>simp
 have e2:∀x y:Int,E9 x (if y<0 then -y else y)=E9 x y:=λx y=>by split<;>simp
 rw[e1,e2]
noncomputable abbrev fr(q:Int×Int):b5:=.tuple [.int q.1,.int q.2]
theorem Bc(x y:Int)(z:Option PV):T6 [iD x,iD y,z]=some (!decide (y=0)):=by unfold T6;walk_at "r"
theorem Oj(x:Int){y:Int}(z:Option PV)(h:y≠0):T7 [iD x,iD y,z]=some (.next [iD y,iD (x.fmod y),iD (x.fmod y)]):=by unfold T7;walk_at "r";rw[k7 h];walk_at "r"
theorem Ja{x y:Int}(hx:0<=x)(hy:0<=y):X3 [.int x,.int y]=some (.dat (.int (gc x y))):=by
 unfold X3;walk_at "r";obtain⟨ds',h1,⟨x',y',z',rfl,hg,hx',hy'⟩,h3⟩:=vt (Fc:=T6) (G:=T7) (λds=>∃x' y' z',ds=[iD x',iD y',z']/\gc x' y'=gc x y/\0<=x'/\0<=y') (λds=>mG 1 ds-1) (by
  rintro ds ⟨x',y',z',rfl,hg,hx',hy'⟩;rw[Bc];by_cases h:y'=0
  . left;simp[h]
  . right;refine⟨by simp[h],_,Oj x' z' h,⟨y',x'.fmod y',_,rfl,?_,hy',A8 x' (by omega)⟩,?_⟩
    . rw[<-hg];show((E9 y' (x'.fmod y'):Nat):Int)=(E9 x' y':Nat)
      rw[yS]
    . have:=kN x' h;walk_at "r";omega) (y.natAbs+1) [iD x,iD y,none] ⟨x,y,none,rfl,rfl,hx,hy⟩ (by walk_at "r";omega)
 rw[Bc]at h3;have hz:y'=0:=by simpa using h3
 subst hz;have e:gc x' 0=x':=by show((E9 x' 0:Nat):Int)=x';rw[JK];omega
 rw[h1,<-hg,e];walk_at "r"
theorem By{t b:Int}(hb:b≠0)(hbb:Bt 8000 b):fk [.int t,.int b]=some (.dat (fr (E7 t b))):=by
 unfold fk;walk_at "r";rw[e7 hb];walk_at "r";rw[Ja (by split<;>omega) (by split<;>omega),Va]
 walk_at "r";have hg:=OZ (t:=t) hb;have hgb:=Pa (t:=t) hb hbb;unfold E7;by_cases h0:b<0
 . simp only[d9 h0];walk_at "r";rw[V9 (by omega) hgb.neg,V9 (by omega) hgb.neg]
   rfl
 . simp only[e7 h0];walk_at "r";rw[V9 hg hgb,V9 hg hgb];rfl
theorem Sf{j:Int}(h0:autoParam (0<=j) j9)(h1:autoParam (j<=1000000) j9):rO 10 j:=⟨h0,h1,by decide⟩
end Law
local macro_rules | `(tactic| walk_at "t") => `(tactic| simp only[L2.D6, L2.kx, L2.xh, L2.G7, L2.o6, L2.bN, L2.FE, L2.fy, L2.findD, L2.CK, L2.jP, L2.xU, L2.xV, L2.vC, L2.vg, L2.vQ, L2.yV, L2.vR, L2.r9, L2.k8, L2.Y9, L2.Pb, L2.j7, L2.Pc, L2.II, L2.Pf, L2.Pe, L2.Vb, L2.kU, L2.bq, L2.gq, L2.Pd, L2.NA, L2.b7, L2.fC, L2.b9, L2.nB, L2.d6, L2.D9, L2.o6, L2.ae, L2.Ph, L2.EV, L2.Vc, L2.NB, L2.gw, L2.ij, L2.Pj, L2.Flat, L2.K2, L2.aG, L2.O8, L2.M5, L2.C5, L2.Dg, L2.zw, L2.a9, L2.c7, L2.f9, L2.mY, L2.cR, L2.O9, L2.w4, L2.fu, L2.WZ, L2.rZ, L2.vB, L2.yk, L2.vJ, L2.dA, L2.bO, L2.C3, L2.mm, L2.aK, L2.mn, L2.t5, L2.qi, L2.PV.ip, L2.PV.EX, L2.mG,
 L2.zy,L2.xJ,L2.Cu,L2.Cw,L2.CH,L2.CI,L2.zg,L2.yB,L2.zf,L2.yA,L2.CB,L2.mL,L2.zz,L2.ro,L2.vS,L2.yH,L2.vy,L2.xE,L2.sx,L2.vO,L2.BL,L2.xQ,L2.rB,L2.qE,L2.zo,L2.yL,L2.vX,L2.vA,L2.wc,L2.Vd,L2.iU,L2.cz,L2.EH,L2.EK,L2.EL,L2.EJ,L2.EI,L2.xq,L2.Pu,L2.Pt,L2.Pr,L2.Pq,L2.Pp,L2.Po,L2.yJ,L2.Dw,String.reduceBEq,
 F7,Jz,pA,Jt,o5,bb,J2,pz,w9,cG,ai,Q8,Ay,Ax,pQ,ka,Nat.reduceAdd,Nat.reduceSub,Nat.reduceEqDiff,Nat.reduceLeDiff,Nat.reduceLT,Int.reduceToNat,JL,eq_self,
 if_true,if_false,reduceIte,gJ,decide_true,decide_false,pJ,Ar,decide_eq_false_iff_not,zP,zV,not_true_eq_false,not_false_eq_true,zJ,zR,pf,zT,Bool.and_true,zO,tP,tR,reduceCtorEq,and_self])
namespace Law
open PySem L2 PySem.NumText PySem.StrLaws
noncomputable abbrev i4(i:Int):Str:=b6 (bV i)
theorem Nh{n:Nat}(h:n<10 ^ 60):n.log2<1920:=by
 by_cases h0:n=0
 . subst h0;decide
 . exact(Nat.log2_lt h0).mpr (A1 (zI h (show 10 ^ 60<2 ^ 200 by decide)) (uq (by decide) (by decide)))
theorem mi{i:Int}(h:i.natAbs<10 ^ 60):fx [.int i]=some (.dat (.str (i4 i))):=by
 show(if i.natAbs.log2<1920 then some (PV.dat (.str (i4 i)))else none)=_
 rw[d9 (Nh h)]
theorem Io(z:Str)(h:z.length<=1000):R9 (.str "") [.list [.str z]]=some (.dat (.str z)):=by
 have e:strsOf [.str z]=some [z]:=rfl;unfold R9;simp only[e,F7];have hj:eY "" [z]=true:=by
  unfold eY;show(!decide (0+z.length+0>j8))=true
  have a:=kP;have b:(1000:Nat)<=j8:=by decide
  have:¬(0+z.length+0>j8):=by omega
  rw[D7 this];rfl
 rw[d9 hj];rfl
theorem av{i:Int}(h:i.natAbs<10 ^ 60):(i4 i).length<=61:=by
 rw[t9,au];have hl:=(mE (n:=i.natAbs) (k:=60) (by decide)).mpr h
 unfold W6;split
 . rw[J2];omega
 . omega
theorem sN{n:Int}(h0:0<=n)(h:n.natAbs<10 ^ 60):aD [.int n]=some (.dat (.str (i4 n))):=by
 have hC:cK [iD n,iD (10 ^ 60),some (.own []),iD n]=some false:=by
  unfold cK;walk_at "t"
  congr 1
  exact D7 (by omega)
 unfold aD;walk_at "t";rw[My Sf];walk_at "t";rw[nQ hC];walk_at "t";rw[mi h,W0 (l:=[]) _ rfl (by decide)]
 walk_at "t";show((R9 (.str "") [.list [.str (i4 n)]]).bind _).bind _=_
 rw[Io _ (t4 (av h) (by decide))]
 rfl
theorem W8{x y:Str}(h:x.length+y.length<=1000000):i6 (.str x) (.str y)=some (.dat (.str (x++y))):=by
 show(if x.length+y.length<=1000000 then some (PV.dat (.str (x++y)))else none)=_
 rw[d9 h]
theorem HZ:lz (b6 "-")=[45]:=by decide +kernel
theorem dM:lz (b6 "/")=[47]:=by decide +kernel
theorem HP{i:Int}(h:i<0):(b6 "-"++i4 (-i))=i4 i:=by
 apply W2;rw[W3,HZ,au,au];unfold W6;rw[e7 (by omega),d9 h,tN]
 rfl
noncomputable def B9(p:Int×Int):Str:=if p.2=1 then i4 p.1 else i4 p.1++b6 "/"++i4 p.2
structure Small(p:Int×Int):Prop where
 top:p.1.natAbs<10 ^ 60
 bot:p.2.natAbs<10 ^ 60
 pos:0<p.2
theorem hW{p:Int×Int}(h:Small p):Z4 [fr p]=some (.dat (.str (B9 p))):=by
 have hb0:0<=p.2:=by have:=h.pos;omega
 have lt1:=av h.top;have lt2:=av h.bot;have ls:(b6 "/").length=1:=by decide +kernel
 have lm:(b6 "-").length=1:=by decide +kernel
 have ha:0<=(if p.1<0 then -p.1 else p.1):=by split<;>omega
 have han:(if p.1<0 then -p.1 else p.1).natAbs<10 ^ 60:=by
  split
  . rw[tN];exact h.top
  . exact h.top
 unfold Z4 B9;walk_at "t";rw[sN ha han];walk_at "t";have hs:(if p.1<0 then Nj (i6 (.str (b6 "-")) (.str (i4 (if p.1<0 then -p.1 else p.1)))) 1 [some (.dat (fr p)),some (.dat (.str (i4 (if p.1<0 then -p.1 else p.1))))]else some (Out.next [some (.dat (fr p)),some (.dat (.str (i4 (if p.1<0 then -p.1 else p.1))))]))=some (Out.next [some (.dat (fr p)),some (.dat (.str (i4 p.1)))]):=by
  by_cases hn:p.1<0
  . have l3:=av (i:=-p.1) (by rw[tN];exact h.top)
    rw[d9 hn,d9 hn,W8 (by omega),HP hn]
    rfl
  . rw[e7 hn,e7 hn]
 rw[hs];walk_at "t";by_cases h1:p.2=1
 . rw[e7 (by simpa using h1),d9 h1]
   walk_at "t"
 . rw[d9 (by simpa using h1),e7 h1,W8 (by omega)]
   walk_at "t";rw[sN hb0 h.bot];walk_at "t";rw[W8 (by rw[t9,W3,A0,<-t9,<-t9];omega)]
   walk_at "t"
noncomputable def dig(c:Nat):Bool:=decide (48<=c/\c<=57)
theorem vn{cs:List Nat}:cs.all dig=true↔AllDigits cs:=by rw[tY];exact⟨λh c hc=>di (h c hc),λh c hc=>K8 (h c hc)⟩
theorem RH:lz (b6 "0123456789")=[48,49,50,51,52,53,54,55,56,57]:=by decide +kernel
theorem RU(c:Nat):decide (c∈lz (b6 "0123456789"))=dig c:=by rw[RH];unfold dig;rw[pC,gJ,gJ];simp only[v8,B4,B6];omega
theorem HG(c:Nat):(P9 V0 N6) (.str ⟨#[c]⟩) (.str (b6 "0123456789"))=some (.dat (.bool (!dig c))):=by
 show N6 (.str ⟨#[c]⟩) (.str (b6 "0123456789"))=_
 show some (PV.dat (.bool (!Txt.contains (b6 "0123456789") ⟨#[c]⟩)))=_
 rw[iY,RU]
noncomputable def X5(cs:List Nat):Option Nat:=if cs≠[]/\cs.length<=60/\cs.all dig=true then some (digitsVal cs)else none
noncomputable def yC:Option Nat->b5
 |none=>.none
 |some n=>.int (n:Nat)
noncomputable def uZ:Option Int->b5
 |none=>.none
 |some n=>.int n
theorem Lf(z:Str)(c:Nat):C8 [some (.dat (.str z)),some (.dat (.str ⟨#[c]⟩))]=if dig c=true then some (.next [some (.dat (.str z)),some (.dat (.str ⟨#[c]⟩))])else some (.ret (.dat .none)):=by
 unfold C8;walk_at "t";rw[show(oQ:b5)=.str (b6 "0123456789")from rfl,HG]
 walk_at "t";cases dig c<;>rfl
theorem qG(z:Str):∀(l:List Nat) (y:Option PV),(l.all dig=true->∃y',M3 (C3 1) C8 (l.map λc=>.str ⟨#[c]⟩) [some (.dat (.str z)),y]=some (.next [some (.dat (.str z)),y']))/\(l.all dig=false->M3 (C3 1) C8 (l.map λc=>.str ⟨#[c]⟩) [some (.dat (.str z)),y]=some (.ret (.dat .none)))
 | [],y=>⟨λ_=>⟨y,rfl⟩,λh=>by cases h⟩
 |c::r,y=>by
  obtain⟨h1,h2⟩:=qG z r (some (.dat (.str ⟨#[c]⟩)));have hb:=Lf z c;rw[bC,o5];cases hc:dig c with
  |true =>
   rw[hc,d9 rfl]at hb;have e:=V8 (gt:=C3 1) (G:=C8) (d:=.str ⟨#[c]⟩) (r:=r.map λc=>.str ⟨#[c]⟩) (ds:=[some (.dat (.str z)),y]) rfl hb
   rw[e,zO];exact⟨h1,h2⟩
  |false =>
   rw[hc,e7 (by decide)]at hb
   refine⟨λh=>(by cases h),λ_=>?_⟩
   unfold M3;show(C8 [some (.dat (.str z)),some (.dat (.str ⟨#[c]⟩))]).bind _=_
   rw[hb];rfl
theorem eq_empty(z:Str):(z=b6 "")↔lz z=[]:=⟨λh=>by rw[h];decide +kernel,λh=>W2 (by rw[h];decide +kernel)⟩
theorem rA{z:Str}(h:z.length<=1000000):O2 [.str z]=some (.dat (.int (z.length:Nat))):=by
 show(if z.length<=1000000 then some (PV.dat (.int (z.length:Nat)))else none)=_
 rw[d9 h]
theorem Nr{z:Str}(h1:AllDigits (lz z))(h2:lz z≠[])(h3:(lz z).length<=60):(nu intD jS) [.str z]=some (.dat (.int (digitsVal (lz z):Nat))):=by
 have hl:=t9 z;show(if z.length<=640 then(tO z).bind λn=>some (PV.dat (.int n))else none)=_
 rw[d9 (by omega),intText_digits h1 h2 (by omega)]
 rfl
theorem mq{z:Str}(hz:z.length<=1000):R7 [.str z]=some (.dat (yC (X5 (lz z)))):=by
 have hl:=t9 z;unfold R7 X5;walk_at "t";rw[rA (by omega),show(fO:b5)=.int 60 from rfl]
 walk_at "t";by_cases h1:lz z=[]
 . rw[d9 ((eq_empty z).mpr h1),e7 (show ¬(lz z≠[]/\(lz z).length<=60/\(lz z).all dig=true)from λhh=>hh.1 h1)]
   rfl
 . rw[e7 (λe=>h1 ((eq_empty z).mp e))]
   by_cases h2:(lz z).length<=60
   . have e2:¬((z.length:Int)>60):=by omega
     walk_at "t";rw[e7 (show ¬((60:Int)<(z.length:Nat)) by omega)]
     walk_at "t";obtain⟨f1,f2⟩:=qG z (lz z) none;cases h3:(lz z).all dig with
     |true =>
      obtain⟨y',f1⟩:=f1 h3;rw[d9 ⟨h1,h2,rfl⟩];show(Q3 (M3 (C3 1) C8 ((lz z).map λc=>.str ⟨#[c]⟩) [some (.dat (.str z)),none]) _).bind _=_
      rw[f1];walk_at "t";rw[Nr (vn.mp h3) h1 h2];rfl
     |false =>
      rw[e7 (show ¬(lz z≠[]/\(lz z).length<=60/\false=true)from λhh=>by cases hh.2.2)]
      show(Q3 (M3 (C3 1) C8 ((lz z).map λc=>.str ⟨#[c]⟩) [some (.dat (.str z)),none]) _).bind _=_
      rw[f2 h3];rfl
   . have e2:((z.length:Int)>60):=by omega
     rw[e7 (show ¬(lz z≠[]/\(lz z).length<=60/\(lz z).all dig=true)from λhh=>h2 hh.2.1)]
     walk_at "t";rw[d9 (show(60:Int)<(z.length:Nat) by omega)]
     rfl
theorem Hy:b6 "-" = ⟨#[45]⟩:=W2 (by decide +kernel)
theorem Hx:b6 "/" = ⟨#[47]⟩:=W2 (by decide +kernel)
noncomputable def cx(cs:List Nat):Option Int:=if cs.head? = some 45 then(X5 (cs.drop 1)).map λn=>-((n:Nat):Int)else(X5 cs).map λn=>((n:Nat):Int)
theorem MW(o:Option Nat):yC o=uZ (o.map λn=>((n:Nat):Int)):=by cases o<;>rfl
theorem Gi{z:Str}(h:z.length<=1000000)(i:Nat):u5 (.str z) (some (i:Int)) none=some (.dat (.str (gA z (some (i:Int)) none))):=by
 show(if z.length<=1000000 then some (PV.dat (.str (gA z (some (i:Int)) none)))else none)=_
 rw[d9 h]
theorem DN{z:Str}(hz:z.length<=1000):bf [.str z]=some (.dat (uZ (cx (lz z)))):=by
 have hl:=t9 z;unfold bf cx;walk_at "t";rw[Hy,DF];walk_at "t";by_cases h:(lz z).head? = some 45
 . rw[d9 h];simp only[h,decide_true,zP,pJ,if_false];walk_at "t";rw[show(1:Int)=((1:Nat):Int)from rfl,Gi (by omega)]
   walk_at "t";rw[mq (t4 (Txt.slice_le z _ _) hz),show lz (gA z (some 1) none)=(lz z).drop 1 from RB z 1]
   walk_at "t";cases X5 ((lz z).drop 1)with
   |none=>rfl
   |some n=>rfl
 . rw[e7 h];simp only[h,decide_false,zV,if_true];rw[mq hz,MW];rfl
theorem SH{cs:List Nat}(h:AllDigits cs):digitsVal cs<10 ^ cs.length:=by
 have key:∀(l:List Nat) (a:Nat),AllDigits l->l.foldl (λacc c=>acc*10+(c-48)) a<(a+1)*10 ^ l.length:=by
  intro l;induction l with
  |nil=>intro a _;simp
  |cons d l ih =>
   intro a hl;have hd:=hl.head;have:=ih (a*10+(d-48)) hl.tail;rw[Aa];refine A1 this ?_;rw[J2,Nat.pow_succ,Nat.mul_comm (10 ^ l.length) 10,<-Nat.mul_assoc];exact Ki _ (by omega)
 have:=key cs 0 h;simpa [digitsVal]using this
theorem qU{cs:List Nat}{n:Nat}(h:X5 cs=some n):n<10 ^ 60:=by
 unfold X5 at h;split at h
 . rename_i hh;cases h;exact A1 (SH (vn.mp hh.2.2)) (uq (by decide) hh.2.1)
 . cases h
theorem LV{cs:List Nat}{n:Int}(h:cx cs=some n):n.natAbs<10 ^ 60:=by
 unfold cx at h;split at h
 . cases e:X5 (cs.drop 1)with
   |none=>rw[e]at h;cases h
   |some m =>
    rw[e]at h;cases h;have:=qU e;rw[tN];exact this
 . cases e:X5 cs with
   |none=>rw[e]at h;cases h
   |some m =>
    rw[e]at h;cases h;exact qU e
noncomputable def eI(cs:List Nat):List Nat:=if 47∈cs then cs.take (cs.idxOf 47)else cs
noncomputable def gW(cs:List Nat):List Nat:=if 47∈cs then cs.drop (cs.idxOf 47+1)else[]
noncomputable def IJ:Option (Int×Int)->b5
 |none=>.none
 |some q=>fr q
noncomputable def judge(cs:List Nat):Option Int->Option Nat->Option (Int×Int)
 |some t,some b=>if b=0 then none else if lz (B9 (E7 t b))=cs then some (E7 t b)else none
 |_,_=>none
noncomputable def gm(cs:List Nat):Option (Int×Int):=judge cs (cx (eI cs)) (if 47∈cs then X5 (gW cs)else some 1)
theorem IY(z:Str):∃a b c,eG z ⟨#[47]⟩=[a,b,c]/\lz a=eI (lz z)/\lz b=(if 47∈lz z then[47]else[])/\lz c=gW (lz z):=by
 have h:=Sd z 47;unfold eI gW;have three:∀{l:List Str} {p q r:List Nat},l.map lz=[p,q,r]->∃a b c,l=[a,b,c]/\lz a=p/\lz b=q/\lz c=r:=λ{l p q r} h=>by have hl:=m5 tm h;rw[m9]at hl;obtain⟨a,b,c,rfl⟩:=XE hl;simp only[o5,bb,List.cons.injEq,and_true]at h;exact⟨a,b,c,rfl,h.1,h.2.1,h.2.2⟩
 by_cases hm:47∈lz z
 . rw[d9 hm]at h;simp only[d9 hm];exact three h
 . rw[e7 hm]at h;simp only[e7 hm];exact three h
theorem Bl{z:Str}(h:z.length<=1000):mB (.str z) [.str (b6 "/")]=some (.dat (.tuple ((eG z ⟨#[47]⟩).map .str))):=by
 show(if ((b6 "/").length==0)=false/\z.length<=1000000 then some (PV.dat (.tuple ((eG z (b6 "/")).map .str)))else none)=_
 rw[d9 ⟨by decide +kernel,by omega⟩,Hx]
theorem NT(cs:List Nat):(eI cs).length<=cs.length:=by
 unfold eI;split
 . rw[tZ];omega
 . exact C6 _
theorem NS(cs:List Nat):(gW cs).length<=cs.length:=by
 unfold gW;split
 . rw[lL];omega
 . exact fe _
theorem CQ(t:Int){g:Int}:(t/g).natAbs<=t.natAbs:=Int.natAbs_ediv_le_natAbs t g
theorem HU{t b:Int}(hb:0<b)(h1:t.natAbs<10 ^ 60)(h2:b.natAbs<10 ^ 60):Small (E7 t b):=by
 have hg:0<E9 t b:=Ba t (by omega)
 have hgi:(0:Int)<gc t b:=by show(0:Int)<((E9 t b:Nat):Int);omega
 have e:E7 t b=(t/gc t b,b/gc t b):=by unfold E7;rw[e7 (by omega),uE _ (by omega),uE _ (by omega)]
 have d2:gc t b∣b:=pG ..;rw[e];exact⟨jF (CQ t) h1,jF (CQ b) h2,KQ hb (by omega) d2⟩
theorem Vm{i:Int}(h:i.natAbs<10 ^ 60):Bt 8000 i:=⟨A1 (zI h (show 10 ^ 60<2 ^ 200 by decide)) (uq (by decide) (by decide))⟩
theorem fX{z:Str}(hz:z.length<=1000):P6 [.str z]=some (.dat (IJ (gm (lz z)))):=by
 have hl:=t9 z;obtain⟨a,b,c,ec,la,lb,lc⟩:=IY z;have za:a.length<=1000:=by rw[t9,la];exact t4 (NT _) (by omega)
 have zc:c.length<=1000:=by rw[t9,lc];exact t4 (NS _) (by omega)
 have eb:(b=b6 "/")↔47∈lz z:=by
  constructor
  . intro e;rw[e,dM]at lb;by_cases hm:47∈lz z
    . exact hm
    . rw[e7 hm]at lb;cases lb
  . intro hm;rw[d9 hm]at lb;exact W2 (by rw[lb,dM])
 unfold P6 gm;walk_at "t";rw[Bl hz,ec];walk_at "t";rw[DN za,la];walk_at "t";rw[mq zc,lc];walk_at "t";have hs:(if b=b6 "/" then some (Out.next [some (PV.dat (h7 z)),some (PV.dat (gD [.str a,.str b,.str c])),some (PV.dat (uZ (cx (eI (lz z))))),some (PV.dat (yC (X5 (gW (lz z))))),none])else some (Out.next [some (PV.dat (h7 z)),some (PV.dat (gD [.str a,.str b,.str c])),some (PV.dat (uZ (cx (eI (lz z))))),some (PV.dat (gB 1)),none]))
   = some (Out.next [some (PV.dat (h7 z)),some (PV.dat (gD [.str a,.str b,.str c])),some (PV.dat (uZ (cx (eI (lz z))))),some (PV.dat (yC (if 47∈lz z then X5 (gW (lz z))else some 1))),none]):=by
  by_cases hm:47∈lz z
  . rw[d9 (eb.mpr hm),d9 hm]
  . rw[e7 (λe=>hm (eb.mp e)),e7 hm]
    rfl
 rw[hs];have hbig:∀n,(if 47∈lz z then X5 (gW (lz z))else some 1)=some n->n<10 ^ 60:=λn h=>by
  split at h
  . exact qU h
  . cases h;decide
 generalize hB:(if 47∈lz z then X5 (gW (lz z))else some 1)=B at hbig
 generalize hA:cx (eI (lz z))=A;cases A with
 |none=>rfl
 |some t =>
  have ht:=LV hA;cases B with
  |none=>rfl
  |some n =>
   have hn:=hbig n rfl;walk_at "t";rw[show uZ (some t)=.int t from rfl,show yC (some n)=.int ((n:Nat):Int)from rfl]
   walk_at "t";rw[show judge (lz z) (some t) (some n)=(if n=0 then none else if lz (B9 (E7 t ((n:Nat):Int)))=lz z then some (E7 t ((n:Nat):Int))else none)from rfl]
   by_cases h0:n=0
   . rw[d9 (show((n:Nat):Int)=0 by omega),d9 h0]
     rfl
   . rw[e7 (show ¬(((n:Nat):Int)=0) by omega),e7 h0]
     walk_at "t";have hs:=HU (t:=t) (b:=((n:Nat):Int)) (by omega) ht hn
     rw[By (b:=((n:Nat):Int)) (by omega) (Vm (i:=((n:Nat):Int)) hn)]
     walk_at "t";rw[hW hs];walk_at "t";have ez:(B9 (E7 t ((n:Nat):Int))=z)↔lz (B9 (E7 t ((n:Nat):Int)))=lz z:=⟨λe=>by rw[e],W2⟩
     by_cases he:B9 (E7 t ((n:Nat):Int))=z
     . rw[d9 (ez.mp he),e7 (by simpa using he)]
       rfl
     . rw[e7 (λe=>he (ez.mpr e)),d9 (by simpa using he)]
       rfl
theorem Nq{n:Int}(h:0<=n):W6 n=Z7 n.natAbs:=by unfold W6;rw[e7 (by omega)]
theorem HF{n:Nat}{c:Nat}(h:(Z7 n).head? = some c):48<=c/\c<=57:=V7 n c (List.mem_of_mem_head? (by rw[h];rfl))
theorem oa{n:Nat}(h:n<10 ^ 60):X5 (Z7 n)=some n:=by
 have hp:=Et n;have hl:=(mE (n:=n) (k:=60) (by decide)).mpr h
 unfold X5;rw[d9 ⟨hp.2.1,hl,vn.mpr hp.1⟩,rm]
theorem vF{n:Int}(h:n.natAbs<10 ^ 60):cx (W6 n)=some n:=by
 unfold cx W6;split
 . rename_i h0;rw[d9 (show(45::Z7 n.natAbs).head? = some 45 from rfl),show(45::Z7 n.natAbs).drop 1=Z7 n.natAbs from rfl,oa h]
   show some (-((n.natAbs:Nat):Int))=_
   congr 1
   omega
 . rename_i h0;rw[e7 (λq=>by have:=HF q;omega),oa h]
   show some ((n.natAbs:Nat):Int)=_
   congr 1
   omega
theorem oq(n:Nat):47∉Z7 n:=λh=>by have:=V7 n 47 h;omega
theorem ot(n:Int):47∉W6 n:=by
 unfold W6;split
 . intro h;rcases List.mem_cons.mp h with h|h
   . cases h
   . exact oq _ h
 . exact oq _
theorem u9{a b:String}:(b6 a=b6 b)=(a=b):=by
 refine propext ⟨λh=>?_,λh=>by rw[h]⟩
 rw[Kx,Kx]at h;injection h with h
 injection h with h
 have:a.toList=b.toList:=JJ (λx y e=>Char.toNat_inj.mp e) |>.mp h
 exact String.toList_inj.mp this
theorem qe(s:Str):∀(ws:List Str),lz (lr s ws)=(match ws with | []=>[]|w::r=>lz w++(r.map λx=>lz s++lz x).flatten)
 | []=>rfl
 | [w]=>by simp[lr]
 |w::x::r=>by
  have ih:=qe s (x::r);show lz (w++s++lr s (x::r))=_
  rw[W3,W3,ih];simp[ak]
theorem vU{c:Nat}:∀(a b:List (List Nat)) (x y:List Nat),(∀l∈x::a,c∉l)->(∀l∈y::b,c∉l)->x++(a.map λz=>c::z).flatten=y++(b.map λz=>c::z).flatten->x=y/\a=b
 |a,b,x,y,ha,hb,e=>by
  have key:∀(x y:List Nat) (p q:List Nat),c∉x->c∉y->(p=[]\/p.head? = some c)->(q=[]\/q.head? = some c)->x++p=y++q->x=y/\p=q:=by
   intro x;induction x with
   |nil =>
    intro y p q hx hy hp hq e;cases y with
    |nil=>exact⟨rfl,e⟩
    |cons d y =>
     rw[ai]at e;rcases hp with rfl|hp
     . simp at e
     . rw[e]at hp;simp at hp;exact absurd (by simp[hp]) hy
   |cons d x ih =>
    intro y p q hx hy hp hq e;cases y with
    |nil =>
     rw[ai]at e;rcases hq with rfl|hq
     . simp at e
     . rw[<-e]at hq;simp at hq;exact absurd (by simp[hq]) hx
    |cons d' y =>
     rw[cG,cG]at e;injection e with e1 e2
     obtain⟨h1,h2⟩:=ih y p q (λz=>hx (o8 _ z)) (λz=>hy (o8 _ z)) hp hq e2
     exact⟨by rw[e1,h1],h2⟩
  have hd:∀l:List (List Nat),(l.map λz=>c::z).flatten=[]\/((l.map λz=>c::z).flatten).head? = some c:=λl=>by
   cases l with
   |nil=>exact .inl rfl
   |cons z l=>exact .inr rfl
  obtain⟨h1,h2⟩:=key x y _ _ (ha x (by simp)) (hb y (by simp)) (hd a) (hd b) e
  refine⟨h1,?_⟩;cases a with
  |nil =>
   cases b with
   |nil=>rfl
   |cons z b=>simp at h2
  |cons z a =>
   cases b with
   |nil=>simp at h2
   |cons z' b =>
    have h2':c::(z++(a.map λz=>c::z).flatten)=c::(z'++(b.map λz=>c::z).flatten):=by simpa using h2
    injection h2' with _ h3
    obtain⟨h4,h5⟩:=vU a b z z' (λl hl=>ha l (o8 _ hl)) (λl hl=>hb l (o8 _ hl)) h3
    rw[h4,h5]
termination_by a=>a.length
theorem DH{c:Nat}{ws:List Str}(hn:ws≠[])(hf:∀w∈ws,c∉lz w):gz (S9 ⟨#[c]⟩ ws) ⟨#[c]⟩=ws:=by
 have hj:=join_split (S9 ⟨#[c]⟩ ws) ⟨#[c]⟩;have hs:=split_free (S9 ⟨#[c]⟩ ws) c;have hp:=PyProof.Rows.split_pos (S9 ⟨#[c]⟩ ws) ⟨#[c]⟩;rw[show S9 ⟨#[c]⟩ ws=lr ⟨#[c]⟩ ws from glued_eq_join _ _]at *
 generalize gz (lr ⟨#[c]⟩ ws) ⟨#[c]⟩=S at *;cases S with
 |nil=>simp at hp
 |cons y b =>
  cases ws with
  |nil=>exact absurd rfl hn
  |cons x a =>
   have e:=m5 lz hj;rw[qe,qe]at e;have e':lz y++((b.map lz).map λz=>c::z).flatten=lz x++((a.map lz).map λz=>c::z).flatten:=by rw[Z2,Z2];exact e
   obtain⟨h1,h2⟩:=vU (b.map lz) (a.map lz) (lz y) (lz x) (λl hl=>by
    rcases List.mem_cons.mp hl with rfl|hl
    . exact hs y (by simp)
    . obtain⟨w,hw,rfl⟩:=mem_map.mp hl;exact hs w (by simp[hw])) (λl hl=>by
    rcases List.mem_cons.mp hl with rfl|hl
    . exact hf x (by simp)
    . obtain⟨w,hw,rfl⟩:=mem_map.mp hl;exact hf w (by simp[hw])) e'
   rw[W2 h1,JJ (λx y e=>W2 e) |>.mp h2]
theorem yY(k:Nat):∀(ts:List Str) (n:Nat),(∀t∈ts,t.length<=130)->ts.foldl (λa t=>a+t.length+k) n<=n+ts.length*(130+k)
 | [],n,_=>by simp
 |t::ts,n,h=>by
  have ht:=h t (by simp)
  have ih:=yY k ts (n+t.length+k) λx hx=>h x (by simp[hx])
  rw[Aa,J2,Nat.add_mul];omega
theorem rW:∀l:List Str,strsOf (l.map .str)=some l
 | []=>rfl
 |a::l=>by rw[o5];unfold strsOf;rw[rW l];rfl
theorem xN:b6 " " = ⟨#[32]⟩:=W2 (by decide +kernel)
theorem mK{ws:List Str}(hl:ws.length<=700)(h:∀w∈ws,w.length<=130):R9 (.str (b6 " ")) [.list (ws.map .str)]=some (.dat (.str (S9 ⟨#[32]⟩ ws))):=by
 show((strsOf (ws.map .str)).bind λts=>if eY (b6 " ") ts=true then some (PV.dat (h7 (S9 (b6 " ") ts)))else none)=_
 rw[rW,xN];have hj:eY ⟨#[32]⟩ ws=true:=by
  have f:=yY 1 ws 0 h;unfold eY;rw[List.foldl_toArray];show(!decide (ws.foldl (λa t=>a+t.length+1) 0>j8))=true
  have s:(92000:Nat)<=j8:=by decide
  rw[D7 (by omega)]
  rfl
 simp only[F7,hj,if_true]
theorem mJ{ws:List Str}(hl:ws.length<=700)(h:∀w∈ws,w.length<=130):(S9 ⟨#[32]⟩ ws).length<=92000:=by
 have e:=size_glued ⟨#[32]⟩ ws;have s:(ws.map (·.length)).sum<=ws.length*130:=by
  clear hl e;induction ws with
  |nil=>simp
  |cons w r ih =>
   have:=h w (by simp)
   have:=ih λx hx=>h x (by simp[hx])
   simp only[o5,List.sum_cons,J2,Nat.add_mul];omega
 have:(S9 ⟨#[32]⟩ ws).length=(ws.map (·.length)).sum+(ws.length-1)*1:=e;omega
theorem bH{ws:List Str}(hn:ws≠[])(hl:ws.length<=700)(h:∀w∈ws,w.length<=130)(hf:∀w∈ws,32∉lz w):Y5 (.str (S9 ⟨#[32]⟩ ws)) [.str (b6 " ")]=some (.own (ws.map .str)):=by have hj:=mJ hl h;unfold Y5;rw[xN];simp only;rw[d9 ⟨by decide,by omega⟩,DH hn hf]
theorem RD(n:Int):E7 n 1=(n,1):=by
 have h1:gc n 1=1:=by show((E9 n 1:Nat):Int)=1;simp
 unfold E7;rw[e7 (by decide),h1]
 simp
theorem mr{n:Int}(h:n.natAbs<10 ^ 60):gm (W6 n)=some (n,1):=by
 have hs:=ot n;unfold gm eI;rw[e7 hs,e7 hs,vF h];show(if (1:Nat)=0 then none else if lz (B9 (E7 n ((1:Nat):Int)))=W6 n then some (E7 n ((1:Nat):Int))else none)=some (n,1)
 rw[e7 (by decide),show(((1:Nat):Int))=1 from rfl,RD]
 have e:lz (B9 (n,1))=W6 n:=by unfold B9;rw[d9 rfl];exact au n
 rw[d9 e]
theorem Se{A B:List Nat}(h:47∉A):eI (A++47::B)=A/\gW (A++47::B)=B:=by
 have hm:47∈A++47::B:=D0 _ o2;have hi:(A++47::B).idxOf 47=A.length:=by rw[List.idxOf_append,e7 h,List.idxOf_cons_self,ph]
 unfold eI gW;rw[d9 hm,d9 hm,hi,List.take_left,<-List.drop_drop,List.drop_left];exact⟨rfl,rfl⟩
theorem uV{q:Int×Int}(hq:0<q.2):lz (B9 q)=if q.2=1 then W6 q.1 else W6 q.1++47::Z7 q.2.natAbs:=by
 unfold B9;split
 . rw[au]
 . rw[W3,W3,dM,au,au,Nq (n:=q.2) (by omega),ak]
   rfl
theorem HV{t b:Int}(hb:0<b)(h:E9 t b=1):E7 t b=(t,b):=by
 unfold E7;rw[e7 (by omega)]
 have e:gc t b=1:=by show((E9 t b:Nat):Int)=1;rw[h];rfl
 rw[e,Int.fdiv_one,Int.fdiv_one]
theorem DP{q:Int×Int}(h0:0<q.2)(h1:E9 q.1 q.2=1)(hs:Small q)(hn:q.1.natAbs<10 ^ 60)(hd:q.2.natAbs<10 ^ 60):gm (lz (B9 q))=some q:=by
 by_cases c:q.2=1
 . have e:lz (B9 q)=W6 q.1:=by rw[uV h0,d9 c]
   rw[e,mr hn];exact m5 some (Prod.ext rfl c.symm)
 . have e:lz (B9 q)=W6 q.1++47::Z7 q.2.natAbs:=by rw[uV h0,e7 c]
   have hm:47∈lz (B9 q):=by rw[e];exact D0 _ o2
   obtain⟨c1,c2⟩:=Se (A:=W6 q.1) (B:=Z7 q.2.natAbs) (ot q.1);unfold gm;rw[d9 hm];rw[show eI (lz (B9 q))=W6 q.1 by rw[e];exact c1,show gW (lz (B9 q))=Z7 q.2.natAbs by rw[e];exact c2,vF hn,oa hd]
   have eb:((q.2.natAbs:Nat):Int)=q.2:=by omega
   show(if q.2.natAbs=0 then none else if lz (B9 (E7 q.1 ((q.2.natAbs:Nat):Int)))=lz (B9 q)then some (E7 q.1 ((q.2.natAbs:Nat):Int))else none)=some q
   rw[e7 (by omega),eb,HV h0 h1,d9 rfl]
theorem qd{n:Int}(h : -1000000<=n/\n<=1000000):n.natAbs<10 ^ 60:=jF (show n.natAbs<=1000000 by omega) (by decide)
theorem vD{n least:Int}(h0:least<=n)(h1:n<=1000000)(hl : -1000000<=least):X1 [.str (i4 n),.int least]=some (.dat (.int n)):=by
 have hn:n.natAbs<10 ^ 60:=qd ⟨by omega,h1⟩
 have rf:=fX (z:=i4 n) (t4 (av hn) (by decide))
 rw[au,mr hn]at rf;unfold X1;walk_at "t";rw[rf];walk_at "t";show _=_
 unfold IJ;walk_at "t";rw[e7 (by omega),D7 (show ¬1000000<n by omega)]
 walk_at "t"
theorem DQ{n:Int}(h0:0<=n)(h1:n<=1000000):U8 [.str (i4 n)]=some (.dat (.int n)):=by
 unfold U8;walk_at "t";rw[vD h0 h1 (by decide)]
 walk_at "t"
theorem Gu{n:Int}(h0 : -1000000<=n)(h1:n<=1000000):cp [.str (i4 n)]=some (.dat (.int n)):=by
 unfold cp;walk_at "t";rw[vD h0 h1 (by decide)]
 walk_at "t"
structure jX(q:Int×Int):Prop where
 pos:0<q.1
 le:q.1<=q.2
 most:q.2<=1000
 low:E9 q.1 q.2=1
theorem jX.small{q:Int×Int}(h:jX q):Small q:=by have:=h.pos;have:=h.le;have:=h.most;exact⟨qd ⟨by omega,by omega⟩,qd ⟨by omega,by omega⟩,by omega⟩
theorem jX.len{q:Int×Int}(h:jX q):(B9 q).length<=130:=by
 have s:=h.small;have l1:=av s.top;have l2:=av s.bot;unfold B9;split
 . omega
 . rw[t9,W3,W3,A0,A0,dM,<-t9,<-t9];show _+1+_<=130
   omega
theorem Gs{q:Int×Int}(h:jX q):cj [.str (B9 q)]=some (.dat (fr q)):=by
 have p0:=h.pos;have p1:=h.le;have p2:=h.most;have s:=h.small;have rf:=fX (z:=B9 q) (t4 h.len (by decide))
 rw[DP s.pos h.low s s.top s.bot]at rf;unfold cj;walk_at "t";rw[rf];walk_at "t";show _=_
 unfold IJ;walk_at "t";rw[e7 (by omega),e7 (by omega),D7 (show ¬1000<q.2 by omega)]
 walk_at "t"
noncomputable def Ct(c:Nat):Bool:=decide (97<=c/\c<=122)
structure Nm(z:Str):Prop where
 ne:lz z≠[]
 len:(lz z).length<=8
 all:(lz z).all Ct=true
theorem RG:lz (b6 "abcdefghijklmnopqrstuvwxyz")=[97,98,99,100,101,102,103,104,105,106,107,108,109,110,111,112,113,114,115,116,117,118,119,120,121,122]:=by decide +kernel
theorem Cr{c:Nat}(h:Ct c=true):c∈lz (b6 "abcdefghijklmnopqrstuvwxyz"):=by rw[RG];have:=di h;simp only[v8,B4,B6];omega
theorem So(z:Str){c:Nat}(h:Ct c=true):Y4 [some (.dat (.str z)),some (.dat (.str ⟨#[c]⟩))]=some (.next [some (.dat (.str z)),some (.dat (.str ⟨#[c]⟩))]):=by
 have e:(P9 V0 N6) (.str ⟨#[c]⟩) (.str (b6 "abcdefghijklmnopqrstuvwxyz"))=some (.dat (.bool false)):=by
  show some (PV.dat (.bool (!Txt.contains (b6 "abcdefghijklmnopqrstuvwxyz") ⟨#[c]⟩)))=_
  rw[iY,K8 (Cr h)];rfl
 unfold Y4;walk_at "t";rw[show(cQ:b5)=.str (b6 "abcdefghijklmnopqrstuvwxyz")from rfl,e]
 walk_at "t"
theorem wb(z:Str):∀(l:List Nat) (y:Option PV),l.all Ct=true->∃y',M3 (C3 1) Y4 (l.map λc=>.str ⟨#[c]⟩) [some (.dat (.str z)),y]=some (.next [some (.dat (.str z)),y'])
 | [],y,_=>⟨y,rfl⟩
 |c::r,y,h=>by rw[bC,aj]at h;obtain⟨y',e⟩:=wb z r (some (.dat (.str ⟨#[c]⟩))) h.2;refine⟨y',?_⟩;rw[o5,V8 rfl (So z h.1)];exact e
theorem LS{z:Str}(h:Nm z):da [.str z]=some (.dat (.str z)):=by
 have hl:=t9 z;have h8:=h.len;unfold da;walk_at "t";rw[rA (by omega),show(Z9:b5)=.int 8 from rfl]
 walk_at "t";rw[e7 (λe=>h.ne ((eq_empty z).mp e)),D7 (show ¬((8:Int)<(z.length:Nat)) by omega)]
 walk_at "t";obtain⟨y',f1⟩:=wb z (lz z) none h.all;show(Q3 (M3 (C3 1) Y4 ((lz z).map λc=>.str ⟨#[c]⟩) [some (.dat (.str z)),none]) _).bind _=_
 rw[f1];walk_at "t"
inductive U1 where
 |am (n:Int)
 |pr (n:Int)
 |sh (q:Int×Int)
 |nm (z:Str)
noncomputable def U1.rd:U1->b5
 | .am _=>V1 "read_amount"
 | .pr _=>V1 "read_price"
 | .sh _=>V1 "read_share"
 | .nm _=>V1 "read_name"
noncomputable def U1.w:U1->Str
 | .am n=>i4 n
 | .pr n=>i4 n
 | .sh q=>B9 q
 | .nm z=>z
noncomputable def U1.v:U1->b5
 | .am n=>.int n
 | .pr n=>.int n
 | .sh q=>fr q
 | .nm z=>.str z
noncomputable def U1.ok:U1->Prop
 | .am n=>0<=n/\n<=1000000
 | .pr n=>-1000000<=n/\n<=1000000
 | .sh q=>jX q
 | .nm z=>Nm z
theorem qk{a b:String}(h:a≠b){f:List b5->Option PV}{Fl:Ds->Option (List b5)}{r:Ds}:eD 0 (b6 b) f Fl (some (.dat (V1 (b6 a)))::r)=none:=by
 show(if b6 a=b6 b then _ else none)=none
 rw[e7 (by rw[u9];exact h)]
theorem sM{a:String}{f:List b5->Option PV}{Fl:Ds->Option (List b5)}{r:Ds}:eD 0 (b6 a) f Fl (some (.dat (V1 (b6 a)))::r)=(Fl (some (.dat (V1 (b6 a)))::r)).bind f:=by
 show(if b6 a=b6 a then _ else none)=_
 rw[d9 rfl]
theorem fQ{F1 F2:Ds->Option PV}{ds:Ds}(h:F1 ds=none):kx F1 F2 ds=F2 ds:=by unfold kx;rw[h]
theorem mZ{F1 F2:Ds->Option PV}{ds:Ds}{pv:PV}(h:F1 ds=some pv):kx F1 F2 ds=some pv:=by unfold kx;rw[h]
theorem Dk{x:U1}(h:x.ok)(r:Ds):F8 (some (.dat x.rd)::some (.dat (.str x.w))::r)=some (.dat x.v):=by
 unfold F8;cases x with
 |am n=>exact mZ (sM.trans (DQ h.1 h.2))
 |nm z=>exact(fQ (qk (by decide))).trans (mZ (sM.trans (LS h)))
 |pr n=>exact(fQ (qk (by decide))).trans ((fQ (qk (by decide))).trans (mZ (sM.trans (Gu h.1 h.2))))
 |sh q=>exact(fQ (qk (by decide))).trans ((fQ (qk (by decide))).trans ((fQ (qk (by decide))).trans (sM.trans (Gs h))))
theorem sg{ds:Ds}:∀l:List U1,(∀x∈l,x.ok)->L8 (qi 2) w4 F8 ds (tF (λx y=>.tuple [x,y]) (l.map U1.rd) (l.map λx=>.str x.w))=some (l.map U1.v)
 | [],_=>rfl
 |x::l,h=>by
  have ih:=sg (ds:=ds) l λy hy=>h y (o8 _ hy)
  show(F8 (some (.dat x.rd)::some (.dat (.str x.w))::ds)).bind (λy=>(L8 (qi 2) w4 F8 ds (tF (λx y=>.tuple [x,y]) (l.map U1.rd) (l.map λx=>.str x.w))).bind λl=>some (y.d::l))=_
  rw[Dk (h x o2),ih];rfl
theorem BG(x:U1):iK x.v=true/\A6 x.v=false:=by cases x<;>exact⟨rfl,rfl⟩
theorem mz{l:List U1}(h:∀x∈l,x.ok)(hl:l.length<=100):F6 [.list (l.map λx=>.str x.w),.tuple (l.map U1.rd)]=some (.dat (.tuple (l.map U1.v))):=by
 have e1:iu .none (.list (l.map U1.v))=some (.dat (.bool false)):=by
  show(if (l.map U1.v).all iK=true then some (PV.dat (.bool ((l.map U1.v).any A6)))else none)=_
  rw[d9 (by rw[tY];intro d hd;obtain⟨x,_,rfl⟩:=mem_map.mp hd;exact(BG x).1)]
  congr 3
  rw[Av];intro d hd;obtain⟨x,_,rfl⟩:=mem_map.mp hd;rw[(BG x).2];decide
 unfold F6;walk_at "t";rw[m9,m9];walk_at "t";rw[show uK [.tuple (l.map U1.rd),.list (l.map λx=>.str x.w)]=some (tF (λx y=>.tuple [x,y]) (l.map U1.rd) (l.map λx=>.str x.w))from rfl]
 walk_at "t";rw[d9 (by rw[JY,m9,m9];omega),sg l h]
 walk_at "t";rw[e1];walk_at "t";try rw[d9 (by rw[m9];omega)]
 try walk_at "t"
noncomputable abbrev Q2:=Int×Int
structure Hr where
 gk:Int
 need:Int
 line:Option (Int×Int×Int×Int)
noncomputable def fY:Option (Int×Int×Int×Int)->b5
 |none=>.none
 |some (a,b,c,d)=>.tuple [.int a,.int b,.int c,.int d]
noncomputable def p8(h:Hr):b5:=.tuple [.int h.gk,.int h.need,fY h.line]
structure Wk where
 name:Str
 G8:Int
 first:Int
 last:Int
 most:Int
noncomputable def u7(w:Wk):b5:=.tuple [.str w.name,.int w.G8,.int w.first,.int w.last,.int w.most]
structure q9 where
 hs:List Hr
 size:Int
 start:Int
 fill:Int
 take:Int
 kept:Q2
 left:Q2
 rest:Int
 ws:List Wk
noncomputable def J9(h:q9):b5:=.tuple [.int h.size,.int h.start,.int h.fill,.int h.take,fr h.kept,fr h.left,.int h.rest]
noncomputable def o7(h:q9):b5:=.tuple [.tuple (h.hs.map p8),J9 h,.tuple (h.ws.map u7)]
theorem Iv(h:q9):j5 (o7 h) (.int 0)=some (.dat (.tuple (h.hs.map p8))):=rfl
theorem Iu(h:q9):j5 (o7 h) (.int 1)=some (.dat (J9 h)):=rfl
theorem vV(h:q9):j5 (o7 h) (.int 2)=some (.dat (.tuple (h.ws.map u7))):=rfl
theorem Ir(h:q9):j5 (J9 h) (.int 4)=some (.dat (fr h.kept)):=rfl
theorem Iq(h:q9):j5 (J9 h) (.int 5)=some (.dat (fr h.left)):=rfl
theorem Ip(h:q9):j5 (J9 h) (.int 6)=some (.dat (.int h.rest)):=rfl
theorem Vq{α:Type}{l:List α}(f:α->b5){i:Int}(h0:0<=i)(h:i<l.length):O4 (l.map f) i=some (f (l[i.toNat]'(by omega))):=by
 rw[Vr h0 (by simpa using h)]
 simp
theorem iX{α:Type}(l:List α)(k:Nat):cutD l (some (k:Int)) none=l.drop k:=by
 unfold cutD HT.C4;simp only[show ¬(k:Int)<0 by omega,if_false,uf]
 by_cases h:k<=l.length
 . rw[zZ h];exact jZ (by rw[lL];omega)
 . rw[Af (by omega),Ah,List.drop_eq_nil_of_le (by omega)]
   simp
noncomputable def ke(i:Int):Prop:=0<=i/\i<=1000000
noncomputable def nL(i:Int):Prop:=-1000000<=i/\i<=1000000
structure qM(x:Hr):Prop where
 gk:ke x.gk
 need:ke x.need
 line:∀a b c d,x.line=some (a,b,c,d)->nL a/\ke b/\nL c/\ke d
structure nI(n:Int)(w:Wk):Prop where
 name:Nm w.name
 G8:ke w.G8
 first:0<=w.first
 fl:w.first<=w.last
 last:w.last<n
 most:ke w.most
structure H5(h:q9):Prop where
 hs:∀x∈h.hs,qM x
 h1:1<=h.hs.length
 hl:h.hs.length<=24
 size:ke h.size
 start:ke h.start
 full:h.start<=h.size
 fill:ke h.fill
 take:ke h.take
 kept:jX h.kept
 left:jX h.left
 rest:ke h.rest
 ws:∀w∈h.ws,nI h.hs.length w
 wl:h.ws.length<=6
 nd:(h.ws.map Wk.name).Nodup
noncomputable def bG(h:q9):List U1:=[.am h.size,.am h.start,.am h.fill,.am h.take,.sh h.kept,.sh h.left,.am h.rest]
noncomputable def M0(h:q9):List Str:=b6 "store"::(bG h).map U1.w
noncomputable def kO:Int×Int×Int×Int->List U1:=λl=>[.pr l.1,.am l.2.1,.pr l.2.2.1,.am l.2.2.2]
noncomputable def G6(x:Hr):List Str:=match x.line with
 |none=>[b6 "hour",i4 x.gk,i4 x.need,b6 "dark"]
 |some l=>[b6 "hour",i4 x.gk,i4 x.need,b6 "line"]++(kO l).map U1.w
noncomputable def dR(w:Wk):List U1:=[.nm w.name,.am w.G8,.am w.first,.am w.last,.am w.most]
noncomputable def Q6(w:Wk):List Str:=b6 "work"::(dR w).map U1.w
theorem Gr{h:q9}(H:H5 h):cb [.list ((M0 h).map .str)]=some (.dat (J9 h)):=by
 have a1:=H.size;have a2:=H.start;have a3:=H.fill;have a4:=H.take;have a5:=H.kept;have a6:=H.left;have a7:=H.rest;have a8:=H.full;have p:=mz (l:=bG h) (by intro x hx;simp only[bG,v8,B4,B6]at hx;rcases hx with rfl|rfl|rfl|rfl|rfl|rfl|rfl<;>assumption) (by simp[bG])
 have e1:(.list ((M0 h).map .str):b5)=.list (.str (b6 "store")::(bG h).map λx=>.str x.w):=by simp[M0,Z2]
 have e2:gD ((bG h).map U1.v)=J9 h:=rfl;have e3:(gX:b5)=.tuple ((bG h).map U1.rd):=rfl;rw[e2]at p;rw[e1];unfold cb;walk_at "t";rw[show u5 (.list (.str (b6 "store")::(bG h).map λx=>.str x.w)) (some 1) none=some (.own ((bG h).map λx=>.str x.w))from rfl,e3]
 walk_at "t";rw[p];walk_at "t";unfold J9;walk_at "t";rw[e7 (show ¬h.size<h.start by omega)]
 walk_at "t"
theorem LP{n:Int}{w:Wk}(H:nI n w)(hn:n<=24):cZ [.list ((Q6 w).map .str),.int n]=some (.dat (u7 w)):=by
 have a1:=H.name;have a2:=H.G8;have a3:=H.first;have a4:=H.fl;have a5:=H.last;have a6:=H.most;have p:=mz (l:=dR w) (by
  intro x hx;simp only[dR,v8,B4,B6]at hx;rcases hx with rfl|rfl|rfl|rfl|rfl
  . exact a1
  . exact a2
  . exact⟨a3,by omega⟩
  . exact⟨by omega,by omega⟩
  . exact a6) (by simp[dR])
 have e1:(.list ((Q6 w).map .str):b5)=.list (.str (b6 "work")::(dR w).map λx=>.str x.w):=by simp[Q6,Z2]
 have e2:gD ((dR w).map U1.v)=u7 w:=rfl;have e3:(ja:b5)=.tuple ((dR w).map U1.rd):=rfl;rw[e2]at p;rw[e1];unfold cZ;walk_at "t";rw[show u5 (.list (.str (b6 "work")::(dR w).map λx=>.str x.w)) (some 1) none=some (.own ((dR w).map λx=>.str x.w))from rfl,e3]
 walk_at "t";rw[p];walk_at "t";unfold u7;walk_at "t";rw[e7 (show ¬w.last<w.first by omega),D7 (show ¬n<=w.last by omega)]
 walk_at "t"
noncomputable def aI(w:Str):Prop:=tD w=true
theorem kH{w:Str}(h:∀c∈lz w,c<1114112):aI w:=by
 unfold aI tD;rw[JI];intro c hc;have:c∈lz w:=by unfold lz;simpa using hc
 have:=h c this;simp;omega
theorem pY:∀l:List Str,(∀w∈l,aI w)->Q9 (l.map .str)=true/\ah (l.map .str)<=1
 | [],_=>⟨by simp[Q9],by simp[ah]⟩
 |a::l,h=>by
  obtain⟨h1,h2⟩:=pY l λw hw=>h w (o8 _ hw)
  have h0:tD a=true:=h a o2;exact⟨by simp[Q9,V5,h1,h0],by simp[ah,cW];exact h2⟩
theorem mj{l:List Str}(h:∀w∈l,aI w):U3 (.list (l.map .str))=true:=by obtain⟨h1,h2⟩:=pY l h;simp[U3,V5,cW,h1];omega
theorem rH:∀l m:List Str,gE (l.map .str) (m.map .str)=decide (l=m)
 | [],[]=>by simp[gE]
 | [],b::m=>by simp[gE]
 |a::l,[]=>by simp[gE]
 |a::l,b::m=>by
  have ih:=rH l m;simp only[o5,gE,ih,aP];by_cases c:a=b
  . subst c;simp
  . simp[c]
theorem ze{l m:List Str}(hl:∀w∈l,aI w)(hm:∀w∈m,aI w):o3 (.list (l.map .str)) (.list (m.map .str))=some (.dat (.bool (decide (l=m)))):=by
 unfold o3;split
 . rename_i h _;cases h
 . rw[d9 ⟨mj hl,mj hm⟩];simp only[aP,rH]
theorem rp{l m:List Str}(hl:∀w∈l,aI w)(hm:∀w∈m,aI w):Q4 (.list (l.map .str)) (.list (m.map .str))=some (.dat (.bool (!decide (l=m)))):=by
 unfold Q4;split
 . rename_i h _;cases h
 . rw[d9 ⟨mj hl,mj hm⟩];simp only[aP,rH]
theorem qh(n:Int):∀c∈W6 n,c=45\/(48<=c/\c<=57):=by
 intro c hc;unfold W6 at hc;split at hc
 . rcases List.mem_cons.mp hc with h|h
   . exact .inl h
   . exact .inr (V7 _ c h)
 . exact .inr (V7 _ c hc)
theorem kI(n:Int):aI (i4 n):=kH λc hc=>by rw[au]at hc;have:=qh n c hc;omega
theorem fz{s:String}(h:(lz (b6 s)).all (λc=>decide (c<1114112))=true):aI (b6 s):=kH λc hc=>by have:=List.all_eq_true.mp h c hc;exact di this
theorem LU{x:Hr}(H:qM x):M4 [.list ((G6 x).map .str)]=some (.dat (p8 x)):=by
 have a1:=H.gk;have a2:=H.need;have a3:=H.line;have p:=mz (l:=[U1.am x.gk,.am x.need]) (by intro y hy;simp only[v8,B4,B6]at hy;rcases hy with rfl|rfl<;>assumption) (by simp)
 have p':F6 [.list [.str (i4 x.gk),.str (i4 x.need)],W7]=some (.dat (.tuple [.int x.gk,.int x.need])):=p;obtain⟨su,ne,ln⟩:=x;simp only at p' a3;have hd:aI (b6 "dark"):=fz (by decide +kernel)
 have hli:aI (b6 "line"):=fz (by decide +kernel)
 cases ln with
 |none =>
  have e:o3 (.list [.str (b6 "dark")]) (.list [.str (b6 "dark")])=some (.dat (.bool true)):=by
   have:=ze (l:=[b6 "dark"]) (m:=[b6 "dark"]) (by simpa using hd) (by simpa using hd)
   rw[K8 rfl]at this;exact this
  show M4 [.list [.str (b6 "hour"),.str (i4 su),.str (i4 ne),.str (b6 "dark")]]=some (.dat (.tuple [.int su,.int ne,.none]))
  unfold M4;walk_at "t";rw[show u5 (.list [.str (b6 "hour"),.str (i4 su),.str (i4 ne),.str (b6 "dark")]) (some 1) (some 3)=some (.own [.str (i4 su),.str (i4 ne)])from rfl]
  walk_at "t";rw[p'];walk_at "t";rw[show u5 (.list [.str (b6 "hour"),.str (i4 su),.str (i4 ne),.str (b6 "dark")]) (some 3) none=some (.own [.str (b6 "dark")])from rfl]
  walk_at "t";rw[e];walk_at "t";rw[show i6 (.tuple [.int su,.int ne]) (.tuple [.none])=some (.dat (.tuple [.int su,.int ne,.none]))from rfl]
  walk_at "t"
 |some l =>
  obtain⟨a,b,c,d⟩:=l;obtain⟨b1,b2,b3,b4⟩:=a3 a b c d rfl;have q:=mz (l:=kO (a,b,c,d)) (by
   intro y hy;simp only[kO,v8,B4,B6]at hy;rcases hy with rfl|rfl|rfl|rfl
   . exact b1
   . exact b2
   . exact b3
   . exact b4) (by simp[kO])
  have q':F6 [.list [.str (i4 a),.str (i4 b),.str (i4 c),.str (i4 d)],je]=some (.dat (.tuple [.int a,.int b,.int c,.int d])):=q;have e:o3 (.list [.str (b6 "line"),.str (i4 a),.str (i4 b),.str (i4 c),.str (i4 d)]) (.list [.str (b6 "dark")])=some (.dat (.bool false)):=by
   have:=ze (l:=[b6 "line",i4 a,i4 b,i4 c,i4 d]) (m:=[b6 "dark"]) (by
    intro w hw;simp only[v8,B4,B6]at hw;rcases hw with rfl|rfl|rfl|rfl|rfl
    . exact hli
    . exact kI _
    . exact kI _
    . exact kI _
    . exact kI _) (by simpa using hd)
   rw[D7 (by simp)]at this
   exact this
  have e2:Q4 (.list [.str (b6 "line")]) (.list [.str (b6 "line")])=some (.dat (.bool false)):=by
   have:=rp (l:=[b6 "line"]) (m:=[b6 "line"]) (by simpa using hli) (by simpa using hli)
   rw[K8 rfl]at this;exact this
  show M4 [.list [.str (b6 "hour"),.str (i4 su),.str (i4 ne),.str (b6 "line"),.str (i4 a),.str (i4 b),.str (i4 c),.str (i4 d)]]=some (.dat (.tuple [.int su,.int ne,.tuple [.int a,.int b,.int c,.int d]]))
  generalize eL:[h7 (b6 "hour"),.str (i4 su),.str (i4 ne),.str (b6 "line"),.str (i4 a),.str (i4 b),.str (i4 c),.str (i4 d)]=L;have i0:j5 (.list L) (.int 0)=some (.dat (.str (b6 "hour"))):=by rw[<-eL];rfl
  have s13:u5 (.list L) (some 1) (some 3)=some (.own [.str (i4 su),.str (i4 ne)]):=by rw[<-eL];rfl
  have s3:u5 (.list L) (some 3) none=some (.own [.str (b6 "line"),.str (i4 a),.str (i4 b),.str (i4 c),.str (i4 d)]):=by rw[<-eL];rfl
  have s4:u5 (.list L) (some 4) none=some (.own [.str (i4 a),.str (i4 b),.str (i4 c),.str (i4 d)]):=by rw[<-eL];rfl
  have s34:u5 (.list L) (some 3) (some 4)=some (.own [.str (b6 "line")]):=by rw[<-eL];rfl
  unfold M4;rw[show W7=W7 from rfl]
  walk_at "t";rw[s13];walk_at "t";rw[p'];walk_at "t";rw[show O4 L 0=some (.str (b6 "hour"))from by rw[<-eL];rfl]
  walk_at "t";rw[s3];walk_at "t";rw[e];walk_at "t";rw[s4];walk_at "t";rw[q'];walk_at "t";rw[s34];walk_at "t";rw[e2];walk_at "t";rw[show i6 (.tuple [.int su,.int ne]) (.tuple [.tuple [.int a,.int b,.int c,.int d]])=some (.dat (.tuple [.int su,.int ne,.tuple [.int a,.int b,.int c,.int d]]))from rfl]
  walk_at "t"
noncomputable abbrev cN(x:Hr):b5:=.list ((G6 x).map .str)
noncomputable abbrev K0(w:Wk):b5:=.list ((Q6 w).map .str)
theorem Bj{z:Str}(h:Nm z):gm (lz z)=none:=by
 have nm:∀c∈lz z,97<=c/\c<=122:=λc hc=>di (List.all_eq_true.mp h.all c hc)
 have h47:47∉lz z:=λhc=>by have:=nm 47 hc;omega
 have hs:cx (lz z)=none:=by
  unfold cx;cases e:lz z with
  |nil=>exact absurd e h.ne
  |cons c r =>
   have hc:=nm c (by rw[e];exact o2)
   rw[e7 (by simp;omega)]
   have:X5 (c::r)=none:=by unfold X5;rw[e7];rintro⟨_,_,ha⟩;rw[bC,aj]at ha;have:=di ha.1;omega
   rw[this];rfl
 unfold gm eI;rw[e7 h47,hs];rfl
theorem yb{z:Str}(h:Nm z):U8 [.str z]=some (.dat .none):=by
 have hl:=t9 z;have h8:=h.len;have rf:=fX (z:=z) (by omega)
 rw[Bj h]at rf;unfold U8 X1;walk_at "t";rw[rf];walk_at "t";show _=_
 unfold IJ;walk_at "t"
theorem DM{n:Int}{w:Wk}(H:nI n w)(hn:n<=24):M4 [K0 w]=some (.dat .none):=by
 have a2:=H.G8;have E1:∀r:Ds,F8 (some (.dat (V1 "read_amount"))::some (.dat (.str w.name))::r)=some (.dat .none):=λr=>by unfold F8;exact mZ (sM.trans (yb H.name))
 have E2:∀r:Ds,F8 (some (.dat (V1 "read_amount"))::some (.dat (.str (i4 w.G8)))::r)=some (.dat (.int w.G8)):=λr=>Dk (x:=.am w.G8) a2 r
 have p:F6 [.list [.str w.name,.str (i4 w.G8)],W7]=some (.dat .none):=by
  unfold F6;walk_at "t";rw[show uK [W7,.list [.str w.name,.str (i4 w.G8)]]=some [.tuple [V1 "read_amount",.str w.name],.tuple [V1 "read_amount",.str (i4 w.G8)]]from rfl]
  walk_at "t";simp only[L8];walk_at "t";rw[E1];walk_at "t";rw[E2];walk_at "t";rw[show iu .none (.list [.none,.int w.G8])=some (.dat (.bool true))from rfl]
  walk_at "t"
 show M4 [.list [.str (b6 "work"),.str w.name,.str (i4 w.G8),.str (i4 w.first),.str (i4 w.last),.str (i4 w.most)]]=_
 unfold M4;walk_at "t";rw[show u5 (.list [.str (b6 "work"),.str w.name,.str (i4 w.G8),.str (i4 w.first),.str (i4 w.last),.str (i4 w.most)]) (some 1) (some 3)=some (.own [.str w.name,.str (i4 w.G8)])from rfl]
 walk_at "t";rw[p];walk_at "t";try simp
 try walk_at "t"
 try rfl
theorem vY{r:Option PV}{rest:List b5}:∀(hs:List Hr) (done:List b5) (y2 y3:Option PV),(∀x∈hs,qM x)->done.length+hs.length<=1000 ->
  ∃z2 z3,M3 (C3 2) L0 (hs.map cN++rest) [r,some (.own done),y2,y3]=M3 (C3 2) L0 rest [r,some (.own (done++hs.map p8)),z2,z3]
 | [],done,y2,y3,_,_=>⟨y2,y3,by simp⟩
 |x::hs,done,y2,y3,h,hl=>by
  rw[J2]at hl;obtain⟨z2,z3,e⟩:=vY (r:=r) (rest:=rest) hs (done++[p8 x]) (some (.dat (cN x))) (some (.dat (p8 x))) (λy hy=>h y (o8 _ hy)) (by rw[A0,eX];omega)
  refine⟨z2,z3,?_⟩;have B:L0 [r,some (.own done),some (.dat (cN x)),y3]=some (.next [r,some (.own (done++[p8 x])),some (.dat (cN x)),some (.dat (p8 x))]):=by
   have rh:=LU (h x o2);have nn:A6 (p8 x)=false:=rfl;unfold L0;walk_at "t";rw[rh];walk_at "t";rw[nn];walk_at "t";rw[W0 (l:=done) _ rfl (by omega)]
   rfl
  rw[o5,cG,V8 rfl B,e,o5,ak];rfl
theorem g8{G1 G2:Ds->Option Out}{ds ds':Ds}(h:G1 ds=some (.next ds')):d5 G1 G2 ds=G2 ds':=by unfold d5;rw[h];rfl
theorem R4{j:Nat}{F:Ds->Option PV}{ds:Ds}{pv:PV}(h:F ds=some pv):f7 j F ds=some (.next (ds.set j (some (.dat pv.d)))):=by unfold f7;rw[h];rfl
theorem IX{α:Type}(l:List α)(k:Nat):cutD l none (some (k:Int))=l.take k:=by
 unfold cutD HT.C4;simp only[show ¬(k:Int)<0 by omega,if_false,uf]
 by_cases c:k<=l.length
 . simp[zZ c]
 . simp[Af (by omega:l.length<=k),jZ (by omega:l.length<=k)]
theorem Gx{hs:List Hr}{ws:List Wk}{n:Int}(h:∀x∈hs,qM x)(hl:hs.length<=24)(hw:∀w∈ws,nI n w)(hn:n<=24):cq [.list (hs.map cN++ws.map K0)]=some (.own (hs.map p8)):=by
 have ht:(hs.map cN++ws.map K0).take 24=hs.map cN++(ws.map K0).take (24-hs.length):=by rw[List.take_append,m9,jZ (by rw[m9];omega)]
 generalize eL:hs.map cN++ws.map K0=L;have hc:u5 (.list L) none (some 24)=some (.own (hs.map cN++(ws.map K0).take (24-hs.length))):=by rw[<-eL,<-ht,<-IX];rfl
 obtain⟨z2,z3,e⟩:=vY (r:=some (.dat (.list L))) (rest:=(ws.map K0).take (24-hs.length)) hs [] none none h (by simp;omega)
 rw[ai]at e;unfold cq;walk_at "t";rw[hc];walk_at "t";rw[e];cases er:(ws.map K0).take (24-hs.length)with
 |nil =>
  rw[yX];walk_at "t"
 |cons d r =>
  have hd:d∈ws.map K0:=List.mem_of_mem_take (by rw[er];exact o2)
  obtain⟨w,hw1,rfl⟩:=mem_map.mp hd;have rh:=DM (hw w hw1) hn;have B:L0 [some (.dat (.list L)),some (.own (hs.map p8)),some (.dat (K0 w)),z3]=some (.ret (.own (hs.map p8))):=by unfold L0;walk_at "t";rw[rh];walk_at "t"
  unfold M3;show(Q3 ((L0 [some (.dat (.list L)),some (.own (hs.map p8)),some (.dat (K0 w)),z3]).bind _) _).bind _=_
  rw[B];walk_at "t"
theorem Nv{z:Str}{l:List Str}(h:z∉l):(P9 inD Z8) (.str z) (.list (l.map .str))=some (.dat (.bool false)):=by
 have h1:(l.map h7).all Flat=true:=by rw[tY];intro d hd;obtain⟨x,_,rfl⟩:=mem_map.mp hd;rfl
 have h2:((l.map h7).any λy=>nG y (.str z))=false:=by
  rw[Av];intro d hd;obtain⟨x,hx,rfl⟩:=mem_map.mp hd;show ¬((x==z)=true)
  rw[beq_iff_eq];intro e;subst e;exact h hx
 have e:inD (.str z) (.list (l.map .str))=some (.dat (.bool false)):=by
  show(if Flat (.str z)=true/\(l.map h7).all Flat=true then some (PV.dat (.bool ((l.map h7).any λy=>nG y (.str z))))else none)=_
  rw[d9 ⟨rfl,h1⟩,h2]
 unfold P9;rw[e]
theorem vr{n:Int}{r:Option PV}(hn:n<=24):∀(ws done:List Wk) (y4 y5:Option PV),(∀w∈ws,nI n w)->((done++ws).map Wk.name).Nodup->done.length+ws.length<=1000 ->
  ∃z4 z5,M3 (C3 4) aE (ws.map K0) [r,iD n,some (.own (done.map u7)),some (.own ((done.map Wk.name).map .str)),y4,y5]=some (.next [r,iD n,some (.own ((done++ws).map u7)),some (.own (((done++ws).map Wk.name).map .str)),z4,z5])
 | [],done,y4,y5,_,_,_=>⟨y4,y5,by rw[Q8];rfl⟩
 |w::ws,done,y4,y5,h,nd,hl=>by
  rw[J2]at hl;have nd':(((done++[w])++ws).map Wk.name).Nodup:=by rw[ak];exact nd
  obtain⟨z4,z5,e⟩:=vr (r:=r) hn ws (done++[w]) (some (.dat (K0 w))) (some (.dat (u7 w))) (λy hy=>h y (o8 _ hy)) nd' (by rw[A0,eX];omega)
  refine⟨z4,z5,?_⟩;have hni:w.name∉done.map Wk.name:=by rw[P2,o5]at nd;have:=(List.nodup_append.mp nd).2.2;intro hm;exact this _ hm _ o2 rfl
  have B:aE [r,iD n,some (.own (done.map u7)),some (.own ((done.map Wk.name).map .str)),some (.dat (K0 w)),y5]=some (.next [r,iD n,some (.own ((done++[w]).map u7)),some (.own (((done++[w]).map Wk.name).map .str)),some (.dat (K0 w)),some (.dat (u7 w))]):=by
   have rw1:=LP (h w o2) hn;have nn:A6 (u7 w)=false:=rfl;have i0:j5 (u7 w) (.int 0)=some (.dat (.str w.name)):=rfl;have ni:=Nv hni;rw[P2,P2,P2];simp only[o5,bb];have ln1:(done.map u7).length<1000000:=by rw[m9];omega
   have ln2:((done.map Wk.name).map h7).length<1000000:=by rw[m9,m9];omega
   generalize done.map u7=D1 at *;generalize (done.map Wk.name).map h7=D2 at *;unfold aE;rw[g8 (R4 (pv:=.dat (u7 w)) (by walk_at "t";exact rw1))]
   simp only[Ay,Ax,PV.ip];rw[g8 (ds':=[r,iD n,some (.own D1),some (.own D2),some (.dat (K0 w)),some (.dat (u7 w))]) (by simp only[r9,O9,f9,b9,b7,fC,K2,aG,o5,bb,pQ,ka,F7,PV.ip,PV.EX,rB];rw[nn];walk_at "t";rw[i0];walk_at "t";rw[ni];walk_at "t")]
   rw[g8 (ds':=[r,iD n,some (.own (D1++[u7 w])),some (.own D2),some (.dat (K0 w)),some (.dat (u7 w))]) (by rw[kU];exact W0 (i:=2) (l:=D1) (.dat (u7 w)) rfl ln1)]
   rw[kU];exact W0 (i:=3) (l:=D2) (.dat (.str w.name)) rfl ln2
  rw[o5,V8 rfl B,e,ak];rfl
theorem Gp{ws:List Wk}{n:Int}(hw:∀w∈ws,nI n w)(hn:n<=24)(wl:ws.length<=6)(nd:(ws.map Wk.name).Nodup):bZ [.list (ws.map K0),.int n]=some (.own (ws.map u7)):=by
 obtain⟨z4,z5,e⟩:=vr (r:=some (.dat (.list (ws.map K0)))) hn ws [] none none hw (by simpa using nd) (by simp;omega)
 have hc:u5 (.list (ws.map K0)) none (some 6)=some (.own (ws.map K0)):=by
  have:cutD (ws.map K0) none (some ((6:Nat):Int))=ws.map K0:=by rw[IX,jZ (by rw[m9];omega)]
  show some (PV.own (cutD (ws.map K0) none (some 6)))=_
  exact m5 (λl=>some (PV.own l)) this
 simp only[bb,ai]at e;generalize ws.map K0=R at *;unfold bZ;walk_at "t";rw[hc];walk_at "t";rw[e];walk_at "t"
structure W5(w:Str):Prop where
 len:w.length<=130
 no:32∉lz w
 ok:aI w
theorem aX{n:Int}(h:nL n):W5 (i4 n):=by
 refine⟨t4 (av (qd h)) (by decide),λhc=>?_,kI n⟩
 rw[au]at hc;have:=qh n 32 hc;omega
theorem Lo{q:Int×Int}(h:jX q):W5 (B9 q):=by
 have s:=h.small;have key:∀c∈lz (B9 q),c=45\/c=47\/(48<=c/\c<=57):=by
  intro c hc;rw[uV s.pos]at hc;split at hc
  . rcases qh _ c hc with z|z
    . exact .inl z
    . exact .inr (.inr z)
  . rcases List.mem_append.mp hc with z|z
    . rcases qh _ c z with z|z
      . exact .inl z
      . exact .inr (.inr z)
    . rcases List.mem_cons.mp z with z|z
      . exact .inr (.inl z)
      . exact .inr (.inr (V7 _ c z))
 refine⟨h.len,λhc=>?_,kH λc hc=>?_⟩
 . have:=key 32 hc;omega
 . have:=key c hc;omega
theorem pS{z:Str}(h:Nm z):W5 z:=by
 have nm:∀c∈lz z,97<=c/\c<=122:=λc hc=>di (List.all_eq_true.mp h.all c hc)
 have hl:=t9 z;have h8:=h.len;refine⟨by omega,λhc=>?_,kH λc hc=>?_⟩
 . have:=nm 32 hc;omega
 . have:=nm c hc;omega
theorem N5{s:String}(h:((lz (b6 s)).all λc=>decide (c<1114112/\c≠32))=true)(hl:(lz (b6 s)).length<=130):W5 (b6 s):=by
 have k:∀c∈lz (b6 s),c<1114112/\c≠32:=λc hc=>di (List.all_eq_true.mp h c hc)
 exact⟨by rw[t9];exact hl,λhc=>(k 32 hc).2 rfl,kH λc hc=>(k c hc).1⟩
theorem FF{x:U1}(h:x.ok):W5 x.w:=by
 cases x with
 |am n=>exact aX ⟨by have:=h.1;omega,h.2⟩
 |pr n=>exact aX h
 |sh q=>exact Lo h
 |nm z=>exact pS h
noncomputable def ji(h:q9):List (List Str):=M0 h::(h.hs.map G6++h.ws.map Q6)
noncomputable def p9(l:List Str):Str:=S9 ⟨#[32]⟩ l
noncomputable def n9(h:q9):List b5:=(ji h).map λl=>.str (p9 l)
structure wA(l:List Str):Prop where
 ne:l≠[]
 len:l.length<=700
 w:∀w∈l,W5 w
theorem rz{h:q9}(H:H5 h):wA (M0 h):=by
 have a1:=H.size;have a2:=H.start;have a3:=H.fill;have a4:=H.take;have a5:=H.kept;have a6:=H.left;have a7:=H.rest;refine⟨by simp[M0],by simp[M0,bG],λw hw=>?_⟩
 rcases List.mem_cons.mp hw with rfl|hw
 . exact N5 (by decide +kernel) (by decide +kernel)
 . obtain⟨x,hx,rfl⟩:=mem_map.mp hw;refine FF ?_;simp only[bG,v8,B4,B6]at hx;rcases hx with rfl|rfl|rfl|rfl|rfl|rfl|rfl<;>assumption
theorem E5{n:Int}(h:ke n):nL n:=⟨by have:=h.1;omega,h.2⟩
theorem uX{x:Hr}(H:qM x):wA (G6 x):=by
 have a1:=H.gk;have a2:=H.need;have a3:=H.line;obtain⟨su,ne,ln⟩:=x;have wh:W5 (b6 "hour"):=N5 (by decide +kernel) (by decide +kernel)
 cases ln with
 |none =>
  refine⟨by simp[G6],by simp[G6],λw hw=>?_⟩
  simp only[G6,v8,B4,B6]at hw;rcases hw with rfl|rfl|rfl|rfl
  . exact wh
  . exact aX (E5 a1)
  . exact aX (E5 a2)
  . exact N5 (by decide +kernel) (by decide +kernel)
 |some l =>
  obtain⟨a,b,c,d⟩:=l;obtain⟨b1,b2,b3,b4⟩:=a3 a b c d rfl;refine⟨by simp[G6],by simp[G6,kO],λw hw=>?_⟩
  simp only[G6,kO,o5,bb,cG,ai,v8,B4,B6]at hw;rcases hw with rfl|rfl|rfl|rfl|rfl|rfl|rfl|rfl
  . exact wh
  . exact aX (E5 a1)
  . exact aX (E5 a2)
  . exact N5 (by decide +kernel) (by decide +kernel)
  . exact aX b1
  . exact aX (E5 b2)
  . exact aX b3
  . exact aX (E5 b4)
theorem uW{n:Int}{w:Wk}(H:nI n w)(hn:n<=24):wA (Q6 w):=by
 have a1:=H.name;have a2:=H.G8;have a3:=H.first;have a4:=H.fl;have a5:=H.last;have a6:=H.most;refine⟨by simp[Q6],by simp[Q6,dR],λz hz=>?_⟩
 rcases List.mem_cons.mp hz with rfl|hz
 . exact N5 (by decide +kernel) (by decide +kernel)
 . obtain⟨x,hx,rfl⟩:=mem_map.mp hz;refine FF ?_;simp only[dR,v8,B4,B6]at hx;rcases hx with rfl|rfl|rfl|rfl|rfl
   . exact a1
   . exact a2
   . exact⟨a3,by omega⟩
   . exact⟨by omega,by omega⟩
   . exact a6
theorem yF{h:q9}(H:H5 h):∀l∈ji h,wA l:=by
 have hl:=H.hl;intro l hl';rcases List.mem_cons.mp hl' with rfl|z
 . exact rz H
 . rcases List.mem_append.mp z with z|z
   . obtain⟨x,hx,rfl⟩:=mem_map.mp z;exact uX (H.hs x hx)
   . obtain⟨w,hw,rfl⟩:=mem_map.mp z;exact uW (H.ws w hw) (by omega)
theorem BM:∀L:List (List Str),(∀l∈L,wA l)->Q9 (L.map λl=>.list (l.map .str))=true/\ah (L.map λl=>.list (l.map .str))<=3
 | [],_=>⟨by simp[Q9],by simp[ah]⟩
 |a::L,h=>by
  obtain⟨h1,h2⟩:=BM L λl hl=>h l (o8 _ hl)
  obtain⟨g1,g2⟩:=pY a λw hw=>((h a o2).w w hw).ok
  exact⟨by simp[Q9,V5,h1,g1],by simp[ah,cW];omega⟩
theorem Qo(x:Hr):V5 (p8 x)=true/\cW (p8 x)<=3:=by
 obtain⟨s,n,l⟩:=x;cases l with
 |none=>exact⟨by simp[p8,fY,V5,Q9],by simp[p8,fY,cW,ah]⟩
 |some l=>obtain⟨a,b,c,d⟩:=l;exact⟨by simp[p8,fY,V5,Q9],by simp[p8,fY,cW,ah]⟩
theorem xS:∀L:List Hr,Q9 (L.map p8)=true/\ah (L.map p8)<=3
 | []=>⟨by simp[Q9],by simp[ah]⟩
 |a::L=>by obtain⟨h1,h2⟩:=xS L;obtain⟨g1,g2⟩:=Qo a;exact⟨by simp[Q9,h1,g1],by simp[ah];omega⟩
theorem eq_nil{d:b5}{r:List b5}(h1:Q9 (d::r)=true)(h2:ah (d::r)<=3):o3 (.list (d::r)) (.list [])=some (.dat (.bool false)):=by
 unfold o3;split
 . rename_i h _;cases h
 . rw[d9 ⟨by simp[U3,V5,cW,h1];omega,by simp[U3,V5,cW,Q9,ah]⟩]
   simp[aP,gE]
theorem Qt{h:q9}(H:H5 h):lU [.list (n9 h)]=some (.dat (o7 h)):=by
 have h1:=H.h1;have hl:=H.hl;have wl:=H.wl;have LA:=yF H;have ec:L8 t5 w4 nt [some (.dat (.list (n9 h))),none,none,none,none,none] (n9 h)=some ((ji h).map λl=>.list (l.map .str)):=comp_map λl hl'=>⟨.own (l.map .str),by
  have k:=LA l hl';have s:=bH (ws:=l) k.ne k.len (λw hw=>(k.w w hw).len) (λw hw=>(k.w w hw).no)
  unfold nt;walk_at "t";exact s,rfl⟩
 have er:((ji h).map λl=>lC (l.map .str))=.list ((M0 h).map .str)::(h.hs.map cN++h.ws.map K0):=by simp[ji,Z2,lM]
 obtain⟨s1,s2⟩:=BM (ji h) LA;rw[er]at ec s1 s2;have en:=eq_nil s1 s2;have ln:(n9 h).length<=31:=by simp[n9,ji];omega
 have rs:=Gr H;have rh:=Gx (hs:=h.hs) (ws:=h.ws) (n:=h.hs.length) H.hs hl H.ws (by omega)
 have rwk:=Gp (ws:=h.ws) (n:=h.hs.length) H.ws (by omega) wl H.nd
 have d1:u5 (.list (.list ((M0 h).map .str)::(h.hs.map cN++h.ws.map K0))) (some 1) none=some (.own (h.hs.map cN++h.ws.map K0)):=by
  show some (PV.own (cutD _ (some ((1:Nat):Int)) none))=_
  rw[iX];rfl
 have d2:u5 (.list (.list ((M0 h).map .str)::(h.hs.map cN++h.ws.map K0))) (some (1+(h.hs.length:Int))) none=some (.own (h.ws.map K0)):=by
  have:cutD (.list ((M0 h).map .str)::(h.hs.map cN++h.ws.map K0)) (some ((h.hs.length+1:Nat):Int)) none=h.ws.map K0:=by rw[iX,AG,List.drop_append_of_le_length (by rw[m9];exact C6 _),uv (by rw[m9];exact C6 _),ai]
  show some (PV.own (cutD _ (some (1+(h.hs.length:Int))) none))=_
  rw[show(1+(h.hs.length:Int))=((h.hs.length+1:Nat):Int) by omega,this]
 obtain⟨t1,t2⟩:=xS h.hs;have eh:o3 (.list (h.hs.map p8)) (.list [])=some (.dat (.bool false)):=by
  cases e:h.hs with
  |nil=>rw[e]at h1;simp at h1
  |cons a r=>rw[e]at t1 t2;exact eq_nil t1 t2
 have rl:(lC ((M0 h).map .str)::(h.hs.map cN++h.ws.map K0)).length=1+h.hs.length+h.ws.length:=by simp;omega
 have ns:A6 (J9 h)=false:=rfl;have hh:gD [.tuple (h.hs.map p8),J9 h,.tuple (h.ws.map u7)]=o7 h:=rfl;have l1:(h.hs.map p8).length=h.hs.length:=m9 ..;have l2:(h.ws.map u7).length=h.ws.length:=m9 ..;generalize J9 h=SD at *;generalize h.hs.map cN++h.ws.map K0=RR at *;generalize h.ws.map K0=RW at *;generalize lC ((M0 h).map .str)=RS at *;generalize h.hs.map p8=HD at *;generalize h.ws.map u7=WD at *;generalize n9 h=LD at *;unfold lU;walk_at "t";rw[d9 (by omega),ec]
 walk_at "t";rw[en];walk_at "t";rw[rs];walk_at "t";rw[ns];walk_at "t";rw[d1];walk_at "t";rw[rh];walk_at "t";rw[eh];walk_at "t";rw[l1,d2];walk_at "t";rw[rwk];walk_at "t";rw[J2]at rl;rw[e7 (by omega)]
 walk_at "t";rw[hh]
theorem bE{n:Int}(h:nL n):E6 [.int n]=some (.dat (.str (i4 n))):=by
 have hn:=qd h;have w:=hW (p:=(n,1)) ⟨hn,show(1:Int).natAbs<10 ^ 60 by decide,show(0:Int)<1 by decide⟩
 have e:B9 (n,1)=i4 n:=by unfold B9;rw[d9 rfl]
 rw[e]at w;unfold E6;walk_at "t";rw[show gD [.int n,.int 1]=fr (n,1)from rfl,w]
 walk_at "t"
theorem xg{l:List Str}(h:wA l):R9 (.str (b6 " ")) [.list (l.map .str)]=some (.dat (.str (p9 l))):=mK h.len λw hw=>(h.w w hw).len
theorem bP{l m:List b5}(h:l.length+m.length<=1000):i6 (.list l) (.list m)=some (.own (l++m)):=wz (by omega)
theorem xx{n:Int}{w:Wk}(H:nI n w)(hn:n<=24):cX [u7 w]=some (.dat (.str (p9 (Q6 w)))):=by
 have a2:=H.G8;have a3:=H.first;have a4:=H.fl;have a5:=H.last;have a6:=H.most;have j:=xg (uW H hn);have ec:L8 t5 w4 dn [some (.dat (u7 w))] ([w.G8,w.first,w.last,w.most].map .int)=some ([w.G8,w.first,w.last,w.most].map λn=>.str (i4 n)):=comp_map λn hn'=>⟨.dat (.str (i4 n)),by
  have:nL n:=by
   simp only[v8,B4,B6]at hn';rcases hn' with rfl|rfl|rfl|rfl
   . exact E5 a2
   . exact⟨by omega,by omega⟩
   . exact⟨by omega,by omega⟩
   . exact E5 a6
  unfold dn;walk_at "t";exact bE this,rfl⟩
 unfold cX;walk_at "t";rw[show j5 (u7 w) (.int 0)=some (.dat (.str w.name))from rfl,show u5 (u7 w) (some 1) none=some (.dat (.tuple ([w.G8,w.first,w.last,w.most].map .int)))from rfl]
 walk_at "t";simp only[o5,bb]at ec;rw[ec];walk_at "t";rw[bP (by simp)]
 walk_at "t";rw[show[h7 (b6 "work"),.str w.name,.str (i4 w.G8),.str (i4 w.first),.str (i4 w.last),.str (i4 w.most)]=(Q6 w).map .str from rfl,j]
 walk_at "t"
theorem yN{x:Hr}(H:qM x):bo [p8 x]=some (.dat (.str (p9 (G6 x)))):=by
 have a1:=H.gk;have a2:=H.need;have a3:=H.line;have j:=xg (uX H);obtain⟨su,ne,ln⟩:=x;cases ln with
 |none =>
  unfold bo p8 fY;walk_at "t";rw[bE (E5 a1)];walk_at "t";rw[bE (E5 a2)];walk_at "t";rw[bP (by simp)]
  walk_at "t";rw[show[h7 (b6 "hour"),.str (i4 su),.str (i4 ne),.str (b6 "dark")]=(G6 ⟨su,ne,none⟩).map .str from rfl,j]
  walk_at "t"
 |some l =>
  obtain⟨a,b,c,d⟩:=l;obtain⟨b1,b2,b3,b4⟩:=a3 a b c d rfl;have ec:∀x1:Option PV,L8 t5 w4 dq [some (.dat (.tuple [.int su,.int ne,.tuple [.int a,.int b,.int c,.int d]])),x1] ([a,b,c,d].map .int)=some ([a,b,c,d].map λn=>.str (i4 n)):=λx1=>comp_map λn hn'=>⟨.dat (.str (i4 n)),by
   have:nL n:=by
    simp only[v8,B4,B6]at hn';rcases hn' with rfl|rfl|rfl|rfl
    . exact b1
    . exact E5 b2
    . exact b3
    . exact E5 b4
   unfold dq;walk_at "t";exact bE this,rfl⟩
  simp only[o5,bb]at ec;unfold bo p8 fY;walk_at "t";rw[bE (E5 a1)];walk_at "t";rw[bE (E5 a2)];walk_at "t";rw[bP (by simp)]
  walk_at "t";rw[ec];walk_at "t";rw[bP (by simp)]
  walk_at "t";rw[show[h7 (b6 "hour"),.str (i4 su),.str (i4 ne),.str (b6 "line"),.str (i4 a),.str (i4 b),.str (i4 c),.str (i4 d)]=(G6 ⟨su,ne,some (a,b,c,d)⟩).map .str from rfl,j]
  walk_at "t"
theorem wC{h:q9}(H:H5 h):bY [J9 h]=some (.dat (.str (p9 (M0 h)))):=by
 have a1:=H.size;have a2:=H.start;have a3:=H.fill;have a4:=H.take;have a5:=H.kept;have a6:=H.left;have a7:=H.rest;have j:=xg (rz H);have ec:∀ds:Ds,L8 t5 w4 cJ ds ([h.size,h.start,h.fill,h.take].map .int)=some ([h.size,h.start,h.fill,h.take].map λn=>.str (i4 n)):=λds=>comp_map λn hn'=>⟨.dat (.str (i4 n)),by
  have:nL n:=by
   simp only[v8,B4,B6]at hn';rcases hn' with rfl|rfl|rfl|rfl
   . exact E5 a1
   . exact E5 a2
   . exact E5 a3
   . exact E5 a4
  unfold cJ;walk_at "t";exact bE this,rfl⟩
 have ed:∀ds:Ds,L8 t5 w4 cI ds ([h.kept,h.left].map fr)=some ([h.kept,h.left].map λq=>.str (B9 q)):=λds=>comp_map λq hq=>⟨.dat (.str (B9 q)),by
  have:jX q:=by
   simp only[v8,B4,B6]at hq;rcases hq with rfl|rfl
   . exact a5
   . exact a6
  unfold cI;walk_at "t";exact hW this.small,rfl⟩
 simp only[o5,bb]at ec ed;have e1:u5 (J9 h) none (some 4)=some (.dat (.tuple [.int h.size,.int h.start,.int h.fill,.int h.take])):=rfl;have e2:u5 (J9 h) (some 4) (some 6)=some (.dat (.tuple [fr h.kept,fr h.left])):=rfl;have e3:j5 (J9 h) (.int 6)=some (.dat (.int h.rest)):=rfl;generalize J9 h=SD at *;unfold bY;walk_at "t";rw[e1];walk_at "t";rw[ec];walk_at "t";rw[e2];walk_at "t";rw[ed];walk_at "t";rw[bP (by simp)]
 walk_at "t";rw[bP (by simp)]
 walk_at "t";rw[e3];walk_at "t";rw[bE (E5 a7)];walk_at "t";rw[bP (by simp)]
 walk_at "t";rw[show[h7 (b6 "store"),.str (i4 h.size),.str (i4 h.start),.str (i4 h.fill),.str (i4 h.take),.str (B9 h.kept),.str (B9 h.left),.str (i4 h.rest)]=(M0 h).map .str from rfl,j]
 walk_at "t"
theorem LL{h:q9}(H:H5 h):iy [o7 h]=some (.own (n9 h)):=by
 have hl:=H.hl;have wl:=H.wl;have ec:∀ds:Ds,L8 t5 w4 kg ds (h.hs.map p8)=some (h.hs.map λx=>.str (p9 (G6 x))):=λds=>comp_map λx hx=>⟨.dat (.str (p9 (G6 x))),by unfold kg;walk_at "t";exact yN (H.hs x hx),rfl⟩
 have ed:∀ds:Ds,L8 t5 w4 kf ds (h.ws.map u7)=some (h.ws.map λw=>.str (p9 (Q6 w))):=λds=>comp_map λw hw=>⟨.dat (.str (p9 (Q6 w))),by unfold kf;walk_at "t";exact xx (H.ws w hw) (by omega),rfl⟩
 have sl:=wC H;have el:n9 h=[h7 (p9 (M0 h))]++(h.hs.map λx=>.str (p9 (G6 x)))++(h.ws.map λw=>.str (p9 (Q6 w))):=by simp[n9,ji,Z2,lM]
 have l1:(h.hs.map p8).length<=24:=by rw[m9];exact hl
 have l2:(h.ws.map u7).length<=6:=by rw[m9];exact wl
 have l3:(h.hs.map λx=>h7 (p9 (G6 x))).length<=24:=by rw[m9];exact hl
 have l4:(h.ws.map λw=>h7 (p9 (Q6 w))).length<=6:=by rw[m9];exact wl
 rw[el];unfold iy;walk_at "t";rw[Iv];walk_at "t";generalize (h.hs.map λx=>h7 (p9 (G6 x)))=A at *
 generalize (h.ws.map λw=>h7 (p9 (Q6 w)))=B at *
 generalize h.hs.map p8=HD at *;rw[d9 (by omega),ec]
 walk_at "t";rw[vV];walk_at "t";generalize h.ws.map u7=WD at *;rw[d9 (by omega),ed]
 walk_at "t";rw[Iu];walk_at "t";rw[sl];walk_at "t";rw[bP (by simp;omega)]
 walk_at "t";rw[bP (by simp;omega)]
 walk_at "t"
inductive Fi|non|gk|line
 deriving DecidableEq
inductive Ta|non|need|give
 deriving DecidableEq
noncomputable def eB:Fi->Str | .non=>"none" | .gk=>"sun" | .line=>"line"
noncomputable def dS:Ta->Str | .non=>"none" | .need=>"need" | .give=>"give"
noncomputable def iA:Bool->Str|true=>"wait" | false=>"now"
inductive Ts|from_ (n:Int)|till (n:Int)|over (n:Int)|under (n:Int)|dear (n:Int)|cheap (n:Int)|dark|sunny
noncomputable def O3:Ts->b5
 | .from_ n=>.tuple [.str "from",.int n]
 | .till n=>.tuple [.str "till",.int n]
 | .over n=>.tuple [.str "over",.int n]
 | .under n=>.tuple [.str "under",.int n]
 | .dear n=>.tuple [.str "dear",.int n]
 | .cheap n=>.tuple [.str "cheap",.int n]
 | .dark=>.tuple [.str "dark"]
 | .sunny=>.tuple [.str "sunny"]
structure Rl where
 ts:List Ts
 fi:Fi
 ta:Ta
 wo:Bool
noncomputable def L3(r:Rl):b5:=.tuple [.tuple (r.ts.map O3),.str (eB r.fi),.str (dS r.ta),.str (iA r.wo)]
theorem zu{n least:Int}(h0:least<=n)(h1:n<=1000000)(hl : -1000000<=least):aB [.str (i4 n),.int least]=some (.dat (.int n)):=by
 have hn:n.natAbs<10 ^ 60:=jF (show n.natAbs<=1000000 by omega) (by decide)
 have rf:=fX (z:=i4 n) (t4 (av hn) (by decide))
 rw[au,mr hn]at rf;unfold aB;walk_at "t";rw[rf];walk_at "t";show _=_
 unfold IJ;walk_at "t";rw[e7 (by omega),D7 (show ¬1000000<n by omega)]
 walk_at "t"
noncomputable def n8:Ts->List Str
 | .from_ n=>[b6 "from",i4 n]
 | .till n=>[b6 "till",i4 n]
 | .over n=>[b6 "over",i4 n]
 | .under n=>[b6 "under",i4 n]
 | .dear n=>[b6 "dear",i4 n]
 | .cheap n=>[b6 "cheap",i4 n]
 | .dark=>[b6 "dark"]
 | .sunny=>[b6 "sunny"]
noncomputable def m3:List Ts->List Str
 | []=>[]
 |x::l=>n8 x++m3 l
noncomputable def dW(r:Rl):List Str:=[b6 "fill",eB r.fi,b6 "take",dS r.ta,b6 "works",iA r.wo]
noncomputable def v5(r:Rl):List Str:=b6 "when"::(m3 r.ts++dW r)
noncomputable def hU:Ts->Prop
 | .from_ n=>0<=n/\n<=1000000
 | .till n=>0<=n/\n<=1000000
 | .over n=>0<=n/\n<=1000000
 | .under n=>0<=n/\n<=1000000
 | .dear n=>-1000000<=n/\n<=1000000
 | .cheap n=>-1000000<=n/\n<=1000000
 |_=>True
structure Y1(r:Rl):Prop where
 ts:∀x∈r.ts,hU x
 tl:r.ts.length<=6
structure Wd(w:Str):Prop where
 l:w.length<=10
 b:32∉lz w
theorem xy{n:Int}(h0 : -1000000<=n)(h1:n<=1000000):Wd (i4 n):=by
 have hl:=(mE (n:=n.natAbs) (k:=7) (by decide)).mpr (jF (show n.natAbs<=1000000 by omega) (by decide))
 have hd:=V7 n.natAbs;refine⟨?_,?_⟩
 . rw[t9,au];unfold W6;split
   . rw[J2];omega
   . omega
 . rw[au];unfold W6;intro z;split at z
   . rcases List.mem_cons.mp z with z|z
     . omega
     . have:=hd 32 z;omega
   . have:=hd 32 z;omega
theorem aW{s:String}(h1:(b6 s).length<=10)(h2:(decide (32∈lz (b6 s)))=false):Wd (b6 s):=⟨h1,by simpa using h2⟩
theorem PY{x:Ts}(h:hU x):∀w∈n8 x,Wd w:=by
 intro w hw;cases x with
 |dark=>simp only[n8,v8,B4,B6]at hw;subst hw;exact aW (by decide +kernel) (by decide +kernel)
 |sunny=>simp only[n8,v8,B4,B6]at hw;subst hw;exact aW (by decide +kernel) (by decide +kernel)
 |dear n =>
  have h' : -1000000<=n/\n<=1000000:=h;simp only[n8,v8,B4,B6]at hw;rcases hw with rfl|rfl
  . exact aW (by decide +kernel) (by decide +kernel)
  . exact xy h'.1 h'.2
 |cheap n =>
  have h' : -1000000<=n/\n<=1000000:=h;simp only[n8,v8,B4,B6]at hw;rcases hw with rfl|rfl
  . exact aW (by decide +kernel) (by decide +kernel)
  . exact xy h'.1 h'.2
 |_ n =>
  have h':0<=n/\n<=1000000:=h;simp only[n8,v8,B4,B6]at hw;rcases hw with rfl|rfl
  . exact aW (by decide +kernel) (by decide +kernel)
  . exact xy (by omega) h'.2
theorem FD:∀(l:List Ts),(∀x∈l,hU x)->∀w∈m3 l,Wd w
 | [],_,w,hw=>by cases hw
 |x::l,h,w,hw=>by
  rcases List.mem_append.mp (show w∈n8 x++m3 l from hw)with hw|hw
  . exact PY (h x (by simp)) w hw
  . exact FD l (λy hy=>h y (by simp[hy])) w hw
theorem SG(r:Rl):∀w∈dW r,Wd w:=by
 intro w hw;simp only[dW,v8,B4,B6]at hw;rcases hw with rfl|rfl|rfl|rfl|rfl|rfl
 . exact aW (by decide +kernel) (by decide +kernel)
 . cases r.fi<;>exact aW (by decide +kernel) (by decide +kernel)
 . exact aW (by decide +kernel) (by decide +kernel)
 . cases r.ta<;>exact aW (by decide +kernel) (by decide +kernel)
 . exact aW (by decide +kernel) (by decide +kernel)
 . cases r.wo<;>exact aW (by decide +kernel) (by decide +kernel)
theorem BF{r:Rl}(h:Y1 r):∀w∈v5 r,Wd w:=by
 intro w hw;rcases List.mem_cons.mp hw with rfl|hw
 . exact aW (by decide +kernel) (by decide +kernel)
 rcases List.mem_append.mp hw with hw|hw
 . exact FD r.ts h.ts w hw
 . exact SG r w hw
theorem fR:∀(l:List Ts),l.length<=(m3 l).length/\(m3 l).length<=2*l.length
 | []=>⟨C6 _,C6 _⟩
 |x::l=>by
  have ih:=fR l;have hx:1<=(n8 x).length/\(n8 x).length<=2:=by cases x<;>exact⟨by simp[n8],by simp[n8]⟩
  show(l.length+1)<=(n8 x++m3 l).length/\(n8 x++m3 l).length<=2*(l.length+1)
  rw[A0];omega
theorem CO(a b:Str):nG (.str a) (.str b)=(a==b):=rfl
theorem in_words(w:Str)(l:List Str):(P9 inD Z8) (.str w) (.tuple (l.map .str))=some (.dat (.bool (l.any λy=>y==w))):=by
 have fl:(l.map h7).all Flat=true:=by simp[Flat]
 have e:inD (.str w) (.tuple (l.map .str))=some (.dat (.bool (l.any λy=>y==w))):=by
  show(if Flat (.str w)=true/\(l.map h7).all Flat=true then some (PV.dat (.bool ((l.map h7).any λy=>nG y (.str w))))else none)=_
  rw[d9 ⟨rfl,fl⟩];simp[zG,lM,CO]
 unfold P9;rw[e]
theorem notin_words(w:Str)(l:List Str):(P9 V0 N6) (.str w) (.tuple (l.map .str))=some (.dat (.bool (!l.any λy=>y==w))):=by
 have fl:(l.map h7).all Flat=true:=by simp[Flat]
 have e:V0 (.str w) (.tuple (l.map .str))=some (.dat (.bool (!l.any λy=>y==w))):=by
  show(if Flat (.str w)=true/\(l.map h7).all Flat=true then some (PV.dat (.bool (!(l.map h7).any λy=>nG y (.str w))))else none)=_
  rw[d9 ⟨rfl,fl⟩];simp[zG,lM,CO]
 unfold P9;rw[e]
theorem qo(w:Str):(P9 inD Z8) (.str w) jg=some (.dat (.bool ([b6 "dark",b6 "sunny"].any λy=>y==w))):=in_words w [b6 "dark",b6 "sunny"]
theorem oU(w:Str):(P9 inD Z8) (.str w) fP=some (.dat (.bool ([b6 "from",b6 "till",b6 "over",b6 "under"].any λy=>y==w))):=in_words w [b6 "from",b6 "till",b6 "over",b6 "under"]
theorem qZ(w:Str):(P9 inD Z8) (.str w) gY=some (.dat (.bool ([b6 "dear",b6 "cheap"].any λy=>y==w))):=in_words w [b6 "dear",b6 "cheap"]
theorem RQ(f:Fi):(P9 V0 N6) (.str (eB f)) jf=some (.dat (.bool false)):=by refine(notin_words (eB f) [b6 "none",b6 "sun",b6 "line"]).trans ?_;cases f<;>congr 3<;>decide +kernel
theorem Qh(f:Ta):(P9 V0 N6) (.str (dS f)) jb=some (.dat (.bool false)):=by refine(notin_words (dS f) [b6 "none",b6 "need",b6 "give"]).trans ?_;cases f<;>congr 3<;>decide +kernel
theorem PR(f:Bool):(P9 V0 N6) (.str (iA f)) iZ=some (.dat (.bool false)):=by refine(notin_words (iA f) [b6 "now",b6 "wait"]).trans ?_;cases f<;>congr 3<;>decide +kernel
theorem fW{w:Str}{n:Int}{more:List b5}(h0:0<=n)(h1:n<=1000000)(hb:([b6 "dark",b6 "sunny"].any λy=>y==w)=false)(ha:([b6 "from",b6 "till",b6 "over",b6 "under"].any λy=>y==w)=true)(hp:([b6 "dear",b6 "cheap"].any λy=>y==w)=false):
  K3 [.list (.str w::.str (i4 n)::more)]=some (.dat (.tuple [.str w,.int n])):=by
 have be:=zu (n:=n) (least:=0) h0 h1 (by decide)
 unfold K3;walk_at "t";rw[qo,hb];walk_at "t";rw[oU,ha];walk_at "t";rw[d9 (by omega),be]
 walk_at "t";rw[qZ,hp];walk_at "t"
theorem rS{w:Str}{n:Int}{more:List b5}(h0 : -1000000<=n)(h1:n<=1000000)(hb:([b6 "dark",b6 "sunny"].any λy=>y==w)=false)(ha:([b6 "from",b6 "till",b6 "over",b6 "under"].any λy=>y==w)=false)(hp:([b6 "dear",b6 "cheap"].any λy=>y==w)=true):
  K3 [.list (.str w::.str (i4 n)::more)]=some (.dat (.tuple [.str w,.int n])):=by
 have be:=zu (n:=n) (least:=-1000000) h0 h1 (by decide)
 unfold K3;walk_at "t";rw[qo,hb];walk_at "t";rw[oU,ha];walk_at "t";rw[qZ,hp];walk_at "t";rw[d9 (by omega),be]
 walk_at "t"
theorem vz{w:Str}{more:List b5}(hb:([b6 "dark",b6 "sunny"].any λy=>y==w)=true):
  K3 [.list (.str w::more)]=some (.dat (.tuple [.str w])):=by unfold K3;walk_at "t";rw[qo,hb];walk_at "t"
theorem ya{x:Ts}(h:hU x)(more:List b5):K3 [.list ((n8 x).map .str++more)]=some (.dat (O3 x)):=by
 cases x with
 |from_ n=>exact fW h.1 h.2 (by decide +kernel) (by decide +kernel) (by decide +kernel)
 |till n=>exact fW h.1 h.2 (by decide +kernel) (by decide +kernel) (by decide +kernel)
 |over n=>exact fW h.1 h.2 (by decide +kernel) (by decide +kernel) (by decide +kernel)
 |under n=>exact fW h.1 h.2 (by decide +kernel) (by decide +kernel) (by decide +kernel)
 |dear n=>exact rS h.1 h.2 (by decide +kernel) (by decide +kernel) (by decide +kernel)
 |cheap n=>exact rS h.1 h.2 (by decide +kernel) (by decide +kernel) (by decide +kernel)
 |dark=>exact vz (by decide +kernel)
 |sunny=>exact vz (by decide +kernel)
theorem Dv{Fc:Ds->Option Bool}{G:Ds->Option Out}{m:Nat}{ds ds':Ds}(h1:Fc ds=some true)(h2:G ds=some (.next ds')):G3 Fc G (m+1) ds=G3 Fc G m ds':=by rw[G3,h1];simp only[F7,if_true];rw[h2];rfl
theorem FC{Fc:Ds->Option Bool}{G:Ds->Option Out}{m:Nat}{ds:Ds}(h1:Fc ds=some false):G3 Fc G (m+1) ds=some (.next ds):=by rw[G3,h1];simp only[F7,pJ,if_false]
theorem nc(a b:List Ts):m3 (a++b)=m3 a++m3 b:=by
 induction a with
 |nil=>rfl
 |cons z a ih=>show n8 z++m3 (a++b)=n8 z++m3 a++m3 b;rw[ih,ak]
theorem me(suf:List b5):∀(todo done:List Ts) (m:Nat) (y:Option PV),(∀x∈todo,hU x)->done.length+todo.length<=6 ->
  ∃y',G3 E4 F9 (m+todo.length) [some (.dat (.list ((m3 (done++todo)).map .str++suf))),some (.own (done.map O3)),iD ((m3 done).length:Int),y]=G3 E4 F9 m [some (.dat (.list ((m3 (done++todo)).map .str++suf))),some (.own ((done++todo).map O3)),iD ((m3 (done++todo)).length:Int),y']
 | [],done,m,y,_,_=>⟨y,by rw[Q8];rfl⟩
 |x::todo,done,m,y,h,hl=>by
  have hl':done.length+(todo.length+1)<=6:=hl;have hx:=h x (by simp)
  have e1:done++x::todo=(done++[x])++todo:=by simp
  have ix:m3 [x]=n8 x:=by show n8 x++[]=_;simp
  obtain⟨y',ih⟩:=me suf todo (done++[x]) m (some (.dat (O3 x))) (λz hz=>h z (by simp[hz])) (by simp;omega)
  refine⟨y',?_⟩;rw[<-e1]at ih;have dl:=fR done;have wl:1<=(n8 x).length:=by cases x<;>simp[n8]
  have tl:O2 [O3 x]=some (.dat (.int ((n8 x).length:Nat))):=by cases x<;>rfl
  have nn:A6 (O3 x)=false:=by cases x<;>rfl
  have al:((m3 (done++x::todo)).map h7++suf).length=(m3 done).length+((n8 x).length+(m3 todo).length)+suf.length:=by
   rw[A0,m9,nc,A0];show _+(n8 x++m3 todo).length+_=_
   rw[A0]
  have al2:((m3 (done++[x])).length:Int)=(m3 done).length+(n8 x).length:=by rw[nc,A0,ix];omega
  have dr:((m3 (done++x::todo)).map h7++suf).drop (m3 done).length=(n8 x).map .str++((m3 todo).map .str++suf):=by
   rw[nc,P2,ak,zY (by rw[m9])]
   show(n8 x++m3 todo).map h7++suf=_
   rw[P2,ak]
  have rt:=ya hx ((m3 todo).map .str++suf);generalize (m3 (done++x::todo)).map h7++suf=WW at *;refine Eq.trans (Dv (m:=m+todo.length) (ds':=[some (.dat (.list WW)),some (.own ((done++[x]).map O3)),iD ((m3 (done++[x])).length:Int),some (.dat (O3 x))]) ?_ ?_) ih
  . unfold E4;walk_at "t";rw[al]
    congr 1
    exact K8 (by omega)
  . unfold F9;walk_at "t";rw[show u5 (.list WW) (some ((m3 done).length:Int)) none=some (.own (cutD WW (some ((m3 done).length:Int)) none))from rfl,iX,dr]
    walk_at "t";rw[rt];have ml:((done.map O3).length:Int)=(done.length:Int):=by rw[m9]
    have ap:=λ(ds:Ds) (hd:ds[1]? = some (some (.own (done.map O3))))=>W0 (i:=1) (ds:=ds) (l:=done.map O3) (.dat (O3 x)) hd (by rw[m9];omega)
    rw[al2,P2];walk_at "t";rw[nn];walk_at "t";rw[e7 (by rw[m9];omega)]
    walk_at "t";rw[ap _ rfl];walk_at "t";rw[tl];rfl
structure Sh(k:Nat)(d:b5):Prop where
 c:d.canLay0=true
 d:d.depth<=k
theorem Sh.shaped{k:Nat}{d:b5}(h:Sh k d)(hk:k<=64):U3 d=true:=by have:=h.c;have:=h.d;simp only[U3,aj,gJ];exact⟨h.c,by omega⟩
theorem xT{k:Nat}:∀{l:List b5},(∀x∈l,Sh k x)->Q9 l=true/\ah l<=k
 | [],_=>⟨by simp[Q9],by simp[ah]⟩
 |x::r,h=>by
  obtain⟨a,b⟩:=xT (l:=r) λy hy=>h y (by simp[hy])
  have hx:=h x (by simp)
  refine⟨by simp[Q9,hx.c,a],?_⟩
  have:=hx.d;simp only[ah];omega
theorem Qn{k:Nat}{l:List b5}(h:∀x∈l,Sh k x):Sh (k+1) (.list l):=by obtain⟨a,b⟩:=xT h;exact⟨by simpa [V5]using a,by simp only[cW];omega⟩
theorem Tj{k:Nat}{l:List b5}(h:∀x∈l,Sh k x):Sh (k+1) (.tuple l):=by obtain⟨a,b⟩:=xT h;exact⟨by simpa [V5]using a,by simp only[cW];omega⟩
mutual
theorem rJ:∀d:b5,d.canLay0=true->aP d d=true
 | .none,_=>rfl
 | .bool b,_=>by simp[aP]
 | .int i,_=>by simp[aP]
 | .str x,_=>by simp[aP]
 | .list xs,h=>by rw[aP];exact oH xs (by simpa [V5]using h)
 | .tuple xs,h=>by rw[aP];exact oH xs (by simpa [V5]using h)
 | .dict _,h=>by simp[V5]at h
theorem oH:∀l:List b5,Q9 l=true->gE l l=true
 | [],_=>rfl
 |x::r,h=>by
  have h':x.canLay0=true/\Q9 r=true:=by simpa [Q9]using h
  rw[gE,rJ x h'.1,oH r h'.2];rfl
end
theorem UI{k l:Nat}{d e:b5}(hd:Sh k d)(he:Sh l e)(hk:autoParam (k<=64) j9)(hl:autoParam (l<=64) j9):Q4 d e=some (.dat (.bool (!PyData.eqv d e))):=by
 unfold Q4;split
 . rw[RZ]
 . rw[d9 ⟨hd.shaped hk,he.shaped hl⟩]
theorem xH{ts:List Ts}(h:∀x∈ts,hU x)(hl:ts.length<=6):T4 [.list ((m3 ts).map .str)]=some (.dat (.tuple (ts.map O3))):=by
 have al:=fR ts;obtain⟨k,hk⟩:=Nat.le.dest al.1;obtain⟨y',e⟩:=me [] ts [] (k+1) none h (by simpa using hl)
 rw[ai,Q8]at e;have mu:Ex 0 [some (.dat (.list ((m3 ts).map .str))),some (.own []),iD 0,none]=k+1+ts.length:=by
  show((m3 ts).map h7).length+1=_
  rw[m9];omega
 have w2:G3 E4 F9 (k+1) [some (.dat (.list ((m3 ts).map .str))),some (.own (ts.map O3)),iD ((m3 ts).length:Int),y']=some (.next [some (.dat (.list ((m3 ts).map .str))),some (.own (ts.map O3)),iD ((m3 ts).length:Int),y']):=FC (by unfold E4;walk_at "t";rw[m9];simp)
 have e':G3 E4 F9 (k+1+ts.length) [some (.dat (.list ((m3 ts).map .str))),some (.own []),iD 0,none]=_:=e.trans w2;unfold T4;walk_at "t";rw[mu,e'];walk_at "t"
theorem Du{Fc:Ds->Option Bool}{G:Ds->Option Out}{m:Nat}{ds:Ds}{pv:PV}(h1:Fc ds=some true)(h2:G ds=some (.ret pv)):G3 Fc G (m+1) ds=some (.ret pv):=by rw[G3,h1];simp only[F7,if_true];rw[h2];rfl
theorem Dz{w:Str}(hb:([b6 "dark",b6 "sunny"].any λy=>y==w)=false):K3 [.list [.str w]]=some (.dat .none):=by
 unfold K3;walk_at "t";rw[qo,hb];walk_at "t";rw[oU];generalize ([b6 "from",b6 "till",b6 "over",b6 "under"].any λy=>y==w)=b1
 have n1:¬(1:Int)<1:=by decide
 cases b1<;>walk_at "t" <;> (try rw[e7 n1])<;>(try walk_at "t")<;>rw[qZ]<;>generalize ([b6 "dear",b6 "cheap"].any λy=>y==w)=b2<;>cases b2<;>walk_at "t" <;> (try rw[e7 n1])<;>(try walk_at "t")
theorem Bg{ts:List Ts}{w:Str}(h:∀x∈ts,hU x)(hl:ts.length<=6)(hb:([b6 "dark",b6 "sunny"].any λy=>y==w)=false):T4 [.list ((m3 ts).map .str++[.str w])]=some (.dat .none):=by
 have al:=fR ts;have sh:=Dz hb;obtain⟨k,hk⟩:=Nat.le.dest al.1;obtain⟨y',e⟩:=me [.str w] ts [] (k+2) none h (by simpa using hl)
 rw[ai]at e;have ln:((m3 ts).map h7++[h7 w]).length=(m3 ts).length+1:=by rw[A0,m9];rfl
 have dr:((m3 ts).map h7++[h7 w]).drop (m3 ts).length=[.str w]:=zY (by rw[m9])
 generalize (m3 ts).map h7++[h7 w]=WW at *;have mu:Ex 0 [some (.dat (.list WW)),some (.own []),iD 0,none]=k+2+ts.length:=by
  show WW.length+1=_
  omega
 have w2:G3 E4 F9 (k+2) [some (.dat (.list WW)),some (.own (ts.map O3)),iD ((m3 ts).length:Int),y']=some (.ret (.dat .none)):=Du (by
  unfold E4;walk_at "t";rw[ln]
  congr 1
  exact K8 (by omega)) (by
  unfold F9;walk_at "t";rw[show u5 (.list WW) (some ((m3 ts).length:Int)) none=some (.own (cutD WW (some ((m3 ts).length:Int)) none))from rfl,iX,dr]
  walk_at "t";rw[sh];walk_at "t")
 have e':G3 E4 F9 (k+2+ts.length) [some (.dat (.list WW)),some (.own []),iD 0,none]=_:=e.trans w2;unfold T4;walk_at "t";rw[mu,e'];walk_at "t"
theorem NM(r:Rl):X2 [.list ((dW r).map .str)]=some (.dat (.tuple [.str (eB r.fi),.str (dS r.ta),.str (iA r.wo)])):=by
 have hs:Sh 1 (.list [.str (b6 "fill"),.str (b6 "take"),.str (b6 "works")]):=⟨by decide +kernel,by decide +kernel⟩
 have ne:Q4 (.list [.str (b6 "fill"),.str (b6 "take"),.str (b6 "works")]) (.list [.str (b6 "fill"),.str (b6 "take"),.str (b6 "works")])=some (.dat (.bool false)):=by rw[UI (k:=1) (l:=1) hs hs,rJ _ hs.c];rfl
 have s0:qS (.list ((dW r).map .str)) (some 0) none (some 2)=some (.own [.str (b6 "fill"),.str (b6 "take"),.str (b6 "works")]):=rfl;have s1:qS (.list ((dW r).map .str)) (some 1) none (some 2)=some (.own [.str (eB r.fi),.str (dS r.ta),.str (iA r.wo)]):=rfl;generalize (dW r).map h7=sw at *;unfold X2;walk_at "t";simp only[rE];walk_at "t";rw[s0];walk_at "t";rw[ne];walk_at "t";simp only[rE];walk_at "t";rw[s1];walk_at "t";rw[RQ];walk_at "t";rw[Qh];walk_at "t";rw[PR];walk_at "t"
theorem zl{α:Type}(w:α)(m s:List α)(hs:s.length=6):cutD (w::(m++s)) (some 1) (some (-6))=m:=by
 have e:(w::(m++s)).length=m.length+7:=by rw[J2,A0,hs]
 unfold cutD HT.C4;rw[e];simp;rw[show(-6+((m.length:Int)+7)).toNat-1=m.length by omega]
 exact List.take_left' rfl
theorem wg{α:Type}(w:α)(m s:List α)(hs:s.length=6):cutD (w::(m++s)) (some (-6)) none=s:=by
 have e:(w::(m++s)).length=m.length+7:=by rw[J2,A0,hs]
 unfold cutD HT.C4;rw[e];simp;rw[show(-6+((m.length:Int)+7)).toNat=m.length+1 by omega,AG,zY rfl]
 exact jZ (by omega)
theorem mH(r:Rl):v5 r≠[]:=by unfold v5;simp
theorem Y7{r:Rl}(h:Y1 r):(v5 r).length<=19/\7<=(v5 r).length:=by
 have al:=fR r.ts;have tl:=h.tl;unfold v5;rw[J2,A0];show(m3 r.ts).length+6+1<=19/\_<=(m3 r.ts).length+6+1
 omega
noncomputable def m8(r:Rl):Str:=S9 ⟨#[32]⟩ (v5 r)
theorem bJ{r:Rl}(h:Y1 r):B5 [.str (m8 r)]=some (.dat (L3 r)):=by
 have wd:=BF h;obtain⟨l1,l2⟩:=Y7 h;have sp:=bH (mH r) (by omega) (λw hw=>t4 (wd w hw).l (by decide)) (λw hw=>(wd w hw).b)
 have te:=xH h.ts h.tl;have de:=NM r;have e1:(v5 r).map h7=.str (b6 "when")::((m3 r.ts).map .str++(dW r).map .str):=by unfold v5;rw[o5,P2]
 have c1:=zl (h7 (b6 "when")) ((m3 r.ts).map .str) ((dW r).map .str) rfl;have c2:=wg (h7 (b6 "when")) ((m3 r.ts).map .str) ((dW r).map .str) rfl;have ln:¬((((h7 (b6 "when")::((m3 r.ts).map .str++(dW r).map .str)).length:Nat)):Int)<=6:=by rw[<-e1,m9];omega
 rw[e1]at sp;unfold B5 m8;walk_at "t";rw[sp];generalize (m3 r.ts).map h7=am at *;generalize (dW r).map h7=sm at *;walk_at "t";rw[e7 (show ¬((((am++sm).length+1:Nat)):Int)<=6 from ln)]
 walk_at "t";rw[show u5 (.list (h7 (b6 "when")::(am++sm))) (some 1) (some (-6))=some (.own (cutD (h7 (b6 "when")::(am++sm)) (some 1) (some (-6))))from rfl,c1]
 walk_at "t";rw[te];walk_at "t";rw[show u5 (.list (h7 (b6 "when")::(am++sm))) (some (-6)) none=some (.own (cutD (h7 (b6 "when")::(am++sm)) (some (-6)) none))from rfl,c2]
 walk_at "t";rw[de];walk_at "t";rw[ng (by simp)]
 rfl
theorem Be{n:Int}(h0 : -1000000<=n)(h1:n<=1000000):Z4 [.tuple [.int n,.int 1]]=some (.dat (.str (i4 n))):=by
 have hn:n.natAbs<10 ^ 60:=jF (show n.natAbs<=1000000 by omega) (by decide)
 have:=hW (p:=(n,1)) ⟨hn,by show(1:Int).natAbs<10 ^ 60;decide,by show(0:Int)<1;decide⟩
 unfold B9 at this
 rwa [d9 rfl]at this
noncomputable def xc:Ts->List b5
 | .from_ n=>[.int n]
 | .till n=>[.int n]
 | .over n=>[.int n]
 | .under n=>[.int n]
 | .dear n=>[.int n]
 | .cheap n=>[.int n]
 |_=>[]
noncomputable def sE:Ts->Str
 | .from_ _=>b6 "from"
 | .till _=>b6 "till"
 | .over _=>b6 "over"
 | .under _=>b6 "under"
 | .dear _=>b6 "dear"
 | .cheap _=>b6 "cheap"
 | .dark=>b6 "dark"
 | .sunny=>b6 "sunny"
theorem FL(x:Ts):O3 x=.tuple (.str (sE x)::xc x):=by cases x<;>rfl
theorem NR{α:Type}(x:α)(l:List α):cutD (x::l) (some 1) none=l:=by simp[cutD,HT.C4]
theorem Gy{x:Ts}(h:hU x)(ds:Ds):L8 t5 w4 Y3 ds (xc x)=some ((n8 x).tail.map .str):=by
 have go:∀n:Int,-1000000<=n->n<=1000000->L8 t5 w4 Y3 ds [.int n]=some [.str (i4 n)]:=λn h0 h1=>by
  have e:Y3 (some (.dat (.int n))::ds)=some (.dat (.str (i4 n))):=by unfold Y3;walk_at "t";rw[Be h0 h1]
  rw[L8];simp only[t5,w4,F7,bO,dA,cG,ai,if_true];rw[e];rfl
 cases x with
 |dark=>rfl
 |sunny=>rfl
 |dear n=>exact go n h.1 h.2
 |cheap n=>exact go n h.1 h.2
 |_ n=>exact go n (by have:0<=n:=h.1;omega) h.2
theorem Dr(x:Ts):n8 x=sE x::(n8 x).tail:=by cases x<;>rfl
theorem CM{i:Nat}{F:Ds->Option PV}{ds:Ds}{l m:List b5}(h1:F ds=some (.own m))(h2:ds[i]? = some (some (.own l)))(h3:l.length+m.length<=1000000):vh i F ds=some (.next (ds.set i (some (.own (l++m))))):=by unfold vh;rw[h1];simp only[F7];rw[h2];simp only;rw[d9 h3]
theorem vP:∀(ts:List Ts) (W:List Str) (a y:Option PV),(∀x∈ts,hU x)->W.length+2*ts.length<=1000 ->
  ∃y',M3 (C3 2) Q1 (ts.map O3) [a,some (.own (W.map .str)),y]=some (.next [a,some (.own ((W++m3 ts).map .str)),y'])
 | [],W,a,y,_,_=>⟨y,by unfold m3;rw[Q8];rfl⟩
 |x::ts,W,a,y,h,hl=>by
  have hl':W.length+2*(ts.length+1)<=1000:=hl;have hx:=h x (by simp)
  have wl:(n8 x).length<=2:=by cases x<;>simp[n8]
  obtain⟨y',ih⟩:=vP ts (W++n8 x) a (some (.dat (O3 x))) (λz hz=>h z (by simp[hz])) (by rw[A0];omega)
  refine⟨y',?_⟩;have hw:=Dr x;have tl:(n8 x).tail.length<=1:=by rw[List.length_tail];omega
  have st:Q1 [a,some (.own (W.map .str)),some (.dat (O3 x))]=some (.next [a,some (.own ((W++n8 x).map .str)),some (.dat (O3 x))]):=by
   have rc:=Gy hx;have tp:=FL x;rw[hw,P2,o5];generalize (n8 x).tail=tw at *;rw[tp];unfold Q1;walk_at "t";rw[W0 _ (l:=W.map .str) rfl (by rw[m9];omega)]
   walk_at "t";refine Eq.trans (CM (l:=W.map .str++[.str (sE x)]) (m:=tw.map .str) ?_ rfl (by rw[A0,m9,m9];simp;omega)) ?_
   . unfold O8;walk_at "t";rw[show u5 (.tuple (.str (sE x)::xc x)) (some 1) none=some (.dat (.tuple (cutD (.str (sE x)::xc x) (some 1) none)))from rfl,NR]
     walk_at "t";rw[d9 (by cases x<;>exact Nat.le_of_ble_eq_true rfl),rc]
     rfl
   . walk_at "t";rw[ak];rfl
  rw[o5];show((Q1 [a,some (.own (W.map .str)),some (.dat (O3 x))]).bind λo=>match o with
   | .next ds2=>M3 (C3 2) Q1 (ts.map O3) ds2
   | .cont ds2=>M3 (C3 2) Q1 (ts.map O3) ds2
   | .brk ds2=>some (.next ds2)
   | .ret pv=>some (.ret pv)
   | .up x=>some (.up x)
   | .retO pv ds2=>some (.retO pv ds2)
   | .upO t x ds2=>some (.upO t x ds2))=_
  rw[st];refine Eq.trans ih ?_;rw[ak];rfl
theorem xY{r:Rl}(h:Y1 r):cY [L3 r]=some (.dat (.str (m8 r))):=by
 have wd:=BF h;obtain⟨l1,l2⟩:=Y7 h;have jd:=mK (ws:=v5 r) (by omega) (λw hw=>t4 (wd w hw).l (by decide))
 have tl:=h.tl;have al:=fR r.ts;obtain⟨y,e⟩:=vP r.ts [b6 "when"] (some (.dat (L3 r))) none h.ts (by simp;omega)
 have i0:j5 (L3 r) (.int 0)=some (.dat (.tuple (r.ts.map O3))):=rfl;have i1:j5 (L3 r) (.int 1)=some (.dat (.str (eB r.fi))):=rfl;have i2:j5 (L3 r) (.int 2)=some (.dat (.str (dS r.ta))):=rfl;have i3:j5 (L3 r) (.int 3)=some (.dat (.str (iA r.wo))):=rfl;have ew:([b6 "when"]++m3 r.ts).map h7++[.str (b6 "fill"),.str (eB r.fi),.str (b6 "take"),.str (dS r.ta),.str (b6 "works"),.str (iA r.wo)]=(v5 r).map .str:=by unfold v5 dW;simp[P2]
 have wl:(([b6 "when"]++m3 r.ts).map h7).length<=100:=by rw[m9,A0];simp;omega
 generalize ([b6 "when"]++m3 r.ts).map h7=wm at *;generalize L3 r=rd at *;unfold cY m8;walk_at "t";rw[i0];walk_at "t"
 erw [e]
 walk_at "t";rw[i1,i2,i3];walk_at "t";rw[wz (by simp;omega)]
 walk_at "t";rw[ew,jd];walk_at "t"
theorem nY{K:List Rl}(h:∀r∈K,Y1 r)(hl:K.length<=20):R6 [.tuple (K.map L3)]=some (.own (K.map λr=>.str (m8 r))):=by
 have cm:=λds=>comp_map (g:=L3) (f:=λr=>h7 (m8 r)) (Fe:=aV) (ds:=ds) (l:=K) (λr hr=>⟨.dat (.str (m8 r)),by unfold aV;walk_at "t";rw[xY (h r hr)],rfl⟩)
 unfold R6;walk_at "t";rw[d9 (by rw[m9];omega),cm]
 walk_at "t"
noncomputable abbrev K4(ns:List Int):b5:=.list (ns.map .int)
theorem BN(ns:List Int):(ns.map gB).length=ns.length:=by simp
theorem Gm{ns:List Int}{i:Int}(h0:0<=i)(h:i<ns.length):O4 (ns.map gB) i=some (.int (ns.getD i.toNat 0)):=by
 rw[cE (n:=i.toNat) (by omega) (by simp;omega),S6,U5 (by omega)]
 simp[qp,U5 (show i.toNat<ns.length by omega)]
noncomputable def Cq:Ds->Option Out:=(d5 (f7 4 (b9 A4 (b9 i6 (b9 i6 (b9 O7 (b9 A4 (b7 2) (fC (.int 1000003))) (fC (.int 48271))) (b9 O7 (b9 O7 (b7 1) (b7 1)) (fC (.int 7919)))) (fC (.int 1))) (fC (.int 65521)))) (d5 (f7 4 (b9 A4 (b9 i6 (b9 O7 (b7 4) (b7 4)) (b7 1)) (fC (.int 65519)))) (k8 (b9 A4 (b9 i6 (b9 O7 (b9 O7 (b7 4) (b7 4)) (fC (.int 31))) (b7 4)) (fC (.int 65497))))))
theorem yD{d:b5}{k c:Int}(y:Option PV)(h0:0<=k)(h1:k<=100000):∃r:Int,(Cq [some (.dat d),iD k,iD c,y,none]).bind Ee=some (.dat (.int r))/\0<=r/\r<65497:=by
 have c0:=A8 c (b:=1000003) (by decide)
 have c1:=B7 c (b:=1000003) (by decide)
 have kk:Bt 60000 (k*k):=((Bt.small (i:=k) (by omega) (by omega)).mul (Bt.small (i:=k) (by omega) (by omega))).mono (by decide)
 unfold Cq;walk_at "r";rw[k7 (by decide)]
 walk_at "r";rw[N3 (Bt.dX (by omega) (by omega)) Bt.lit]
 walk_at "r";rw[N3 (Bt.dX (by omega) (by omega)) (Bt.dX (by omega) (by omega))]
 walk_at "r";rw[N3 kk Bt.lit];walk_at "r";rw[k7 (by decide)]
 walk_at "r";have v0:=A8 (c.fmod 1000003*48271+k*k*7919+1) (b:=65521) (by decide)
 have v1:=B7 (c.fmod 1000003*48271+k*k*7919+1) (b:=65521) (by decide)
 generalize (c.fmod 1000003*48271+k*k*7919+1).fmod 65521=v at *;rw[N3 (Bt.dX (by omega) (by omega)) (Bt.dX (by omega) (by omega))]
 walk_at "r";rw[k7 (by decide)]
 walk_at "r";have w0:=A8 (v*v+k) (b:=65519) (by decide)
 have w1:=B7 (v*v+k) (b:=65519) (by decide)
 generalize (v*v+k).fmod 65519=w at *;have ww:Bt 60000 (w*w):=((Bt.small (i:=w) (by omega) (by omega)).mul (Bt.small (i:=w) (by omega) (by omega))).mono (by decide)
 rw[N3 (Bt.dX (by omega) (by omega)) (Bt.dX (by omega) (by omega))]
 walk_at "r";rw[N3 ww Bt.lit];walk_at "r";rw[k7 (by decide)]
 exact⟨_,rfl,A8 _ (by decide),B7 _ (by decide)⟩
theorem t8{ns:List Int}{k:Int}(hl:ns.length<=63)(h0:0<=k)(h1:k<=100000):∃r:Int,l8 [K4 ns,.int k]=some (.dat (.int r))/\0<=r/\r<65497:=by
 unfold l8;walk_at "r";rw[BN];by_cases hp:(0:Int)<(ns.length:Int)
 . rw[d9 hp,k7 (by omega)]
   have g1:=A8 k hp;have g2:=B7 k hp;walk_at "r";rw[Gm g1 g2];walk_at "r";rw[Gm (Int.le_refl 0) hp];walk_at "r";rw[k7 (by decide)]
   walk_at "r";by_cases h2:Int.fmod (ns.getD 0 0) 2=1
   . rw[d9 h2,BN];rw[V9 (by omega) (Bt.dX (by omega) (by omega))]
     walk_at "r";rw[k7 (by decide)]
     have m0:=A8 (k.fdiv (ns.length:Int)) (b:=60) (by decide)
     have m1:=B7 (k.fdiv (ns.length:Int)) (b:=60) (by decide)
     walk_at "r";rw[dw (by omega)]
     walk_at "r";obtain⟨ds',e1,c,y3,rfl⟩:=iT (gt:=C3 3) (G:=gg) (lo:=0) (n:=((k.fdiv (ns.length:Int)).fmod 60).toNat) (ds:=[some (.dat (K4 ns)),iD k,iD (ns.getD (k.fmod (ns.length:Int)).toNat 0),none,none])
      (λn ds=>∃c y3,ds=[some (.dat (K4 ns)),iD k,iD c,y3,none]) ⟨_,none,rfl⟩ (by
       rintro n ds hn ⟨c,y3,rfl⟩;refine⟨_,[some (.dat (K4 ns)),iD k,iD (c.fdiv 65497),iD (0+(n:Int)),none],rfl,.inl ?_,_,_,rfl⟩;unfold gg;walk_at "r";rw[V9 (by decide) Bt.lit]
       walk_at "r")
     erw [e1]
     walk_at "r";rw[k7 (by decide)]
     walk_at "r";exact⟨_,rfl,A8 _ (by decide),B7 _ (by decide)⟩
   . rw[e7 h2];simp only[jP];exact yD none h0 h1
 . rw[e7 hp];simp only[jP];exact yD none h0 h1
theorem Dm(x y:Int)(a b z:Option PV):fm [a,b,iD x,iD y,z]=some (decide (0<y)):=by unfold fm;walk_at "r"
theorem Sq(x:Int){y:Int}(a b z:Option PV)(h:y≠0):ft [a,b,iD x,iD y,z]=some (.next [a,b,iD y,iD (x.fmod y),iD (x.fmod y)]):=by unfold ft;walk_at "r";rw[k7 h];walk_at "r"
theorem Ni{t b:Int}(hb:0<b)(hbb:Bt 8000 b):jJ [.int t,.int b]=some (.dat (fr (E7 t b))):=by
 unfold jJ;walk_at "r";obtain⟨ds',h1,⟨x',y',z',rfl,hg,hx',hy'⟩,h3⟩:=vt (Fc:=fm) (G:=ft) (λds=>∃x' y' z',ds=[iD t,iD b,iD x',iD y',z']/\gc x' y'=gc t b/\0<=x'/\0<=y') (λds=>mG 3 ds-1) (by
  rintro ds ⟨x',y',z',rfl,hg,hx',hy'⟩;rw[Dm];by_cases h:y'=0
  . left;simp[h]
  . right;refine⟨by simp;omega,_,Sq x' _ _ z' h,⟨y',x'.fmod y',_,rfl,?_,hy',A8 x' (by omega)⟩,?_⟩
    . rw[<-hg];show((E9 y' (x'.fmod y'):Nat):Int)=(E9 x' y':Nat)
      rw[yS]
    . have:=kN x' h;walk_at "r";omega) (b.natAbs+1) [iD t,iD b,iD (if t<0 then -t else t),iD b,none] ⟨_,b,none,rfl,by
       show((E9 (if t<0 then -t else t) b:Nat):Int)=(E9 t b:Nat)
       split<;>simp,by split<;>omega,by omega⟩ (by walk_at "r";omega)
 rw[Dm]at h3;have hz:y'=0:=by
  have:¬0<y':=by simpa using h3
  omega
 subst hz;have e:gc x' 0=x':=by show((E9 x' 0:Nat):Int)=x';rw[JK];omega
 rw[e]at hg;subst hg;rw[h1];walk_at "r";have hg':=OZ (t:=t) (show b≠0 by omega)
 have hgb:=Pa (t:=t) (show b≠0 by omega) hbb
 rw[V9 hg' hgb,V9 hg' hgb];unfold E7;rw[e7 (by omega)]
 rfl
theorem Nb{t b:Int}(hb:0<b):0<(E7 t b).2/\E9 (E7 t b).1 (E7 t b).2=1/\(E7 t b).1*b=t*(E7 t b).2/\(E7 t b).2∣b:=by
 have hg:0<E9 t b:=Ba t (by omega)
 have hgi:(0:Int)<gc t b:=by show(0:Int)<((E9 t b:Nat):Int);omega
 have e:E7 t b=(t/gc t b,b/gc t b):=by unfold E7;rw[e7 (by omega),uE _ (by omega),uE _ (by omega)]
 have d1:gc t b∣t:=tW ..;have d2:gc t b∣b:=pG ..;have m1:t/gc t b*gc t b=t:=JW d1;have m2:b/gc t b*gc t b=b:=JW d2;rw[e];refine⟨KQ hb (by omega) d2,Int.gcd_ediv_gcd_ediv_gcd hg,?_,⟨gc t b,m2.symm⟩⟩
 show t/gc t b*b=t*(b/gc t b)
 generalize gc t b=g at *;have:t/g*b=t/g*(b/g*g):=by rw[m2]
 rw[this,Int.mul_comm (b/g) g,<-Int.mul_assoc,m1]
theorem RC{t b:Int}(t1:1<=t)(tb:t<=b)(b1:b<=1000):jX (E7 t b):=by
 obtain⟨h0,h1,h2,h3⟩:=Nb (t:=t) (show 0<b by omega)
 have le:(E7 t b).2<=b:=Int.le_of_dvd (by omega) h3
 have e1:(E7 t b).1*b=t*(E7 t b).2:=h2;have p1:0<(E7 t b).1:=by
  have:0<t*(E7 t b).2:=Int.mul_pos (by omega) h0
  rw[<-e1]at this;exact Int.pos_of_mul_pos_left this (by omega)
 refine⟨p1,?_,by omega,h1⟩
 have:t*(E7 t b).2<=b*(E7 t b).2:=Int.mul_le_mul_of_nonneg_right tb (by omega)
 rw[<-e1,Int.mul_comm b]at this;exact Int.le_of_mul_le_mul_right this (by omega)
theorem LN{ns:List Int}(hl:ns.length<=63):∃r:Int,gM [K4 ns]=some (.dat (.int r))/\0<=r/\r<=40000:=by
 obtain⟨m,e,m0,m1⟩:=t8 (ns:=ns) (k:=100) hl (by decide) (by decide)
 have c0:=A8 m (b:=5) (by decide)
 have c1:=B7 m (b:=5) (by decide)
 obtain⟨b,hb,b0,b1⟩:∃b:Int,O4 [gB 1,.int 1,.int 1,.int 1000,.int 40000] (m.fmod 5)=some (.int b)/\0<=b/\b<=40000:=by
  generalize m.fmod 5=z at *;have:z=0\/z=1\/z=2\/z=3\/z=4:=by omega
  rcases this with rfl|rfl|rfl|rfl|rfl<;>exact⟨_,rfl,by decide,by decide⟩
 unfold gM;walk_at "r";rw[e];walk_at "r";rw[k7 (by decide)]
 walk_at "r";rw[hb];exact⟨b,rfl,b0,b1⟩
theorem Q0{ns:List Int}{k:Int}(hl:ns.length<=63)(h0:0<=k)(h1:k<=100000):∃r:Int,D8 [K4 ns,.int k]=some (.dat (.int r))/\0<=r/\r<=480000:=by
 obtain⟨m,e,m0,m1⟩:=t8 (ns:=ns) (k:=k) hl h0 h1;obtain⟨s,es,s0,s1⟩:=LN (ns:=ns) hl;have c0:=A8 m (b:=13) (by decide)
 have c1:=B7 m (b:=13) (by decide)
 unfold D8;walk_at "r";rw[e];walk_at "r";rw[k7 (by decide),es]
 walk_at "r";rw[N3 (Bt.dX (by omega) (by omega)) (Bt.dX (by omega) (by omega))]
 refine⟨_,rfl,Int.mul_nonneg c0 s0,?_⟩;have:m.fmod 13*s<=12*40000:=Int.mul_le_mul (by omega) s1 s0 (by decide)
 omega
theorem xR{ns:List Int}{k:Int}(hl:ns.length<=63)(h0:0<=k)(h1:k<=10000):∃q:Int×Int,dQ [K4 ns,.int k]=some (.dat (fr q))/\jX q:=by
 obtain⟨m,e,m0,m1⟩:=t8 (ns:=ns) (k:=k) hl h0 (by omega)
 obtain⟨m',e',m0',m1'⟩:=t8 (ns:=ns) (k:=k+1) hl (by omega) (by omega)
 obtain⟨v,ev,v0,v1⟩:=t8 (ns:=ns) (k:=k+2) hl (by omega) (by omega)
 have c0:=A8 m (b:=12) (by decide)
 have c1:=B7 m (b:=12) (by decide)
 have d0:=A8 m' (b:=1+m.fmod 12) (by omega)
 have d1:=B7 m' (b:=1+m.fmod 12) (by omega)
 have f0:=A8 v (b:=4) (by decide)
 have f1:=B7 v (b:=4) (by decide)
 have L:=RC (t:=1+m'.fmod (1+m.fmod 12)) (b:=1+m.fmod 12) (by omega) (by omega) (by omega)
 obtain⟨q,hq,sq⟩:∃q:Int×Int,O4 [.tuple [.int 1,.int 1],.tuple [.int 1,.int 2],.tuple [.int 9,.int 10],fr (E7 (1+m'.fmod (1+m.fmod 12)) (1+m.fmod 12))] (v.fmod 4)=some (fr q)/\jX q:=by
  generalize v.fmod 4=z at *;have:z=0\/z=1\/z=2\/z=3:=by omega
  rcases this with rfl|rfl|rfl|rfl
  . exact⟨(1,1),rfl,by decide,by decide,by decide,by decide⟩
  . exact⟨(1,2),rfl,by decide,by decide,by decide,by decide⟩
  . exact⟨(9,10),rfl,by decide,by decide,by decide,by decide⟩
  . exact⟨_,rfl,L⟩
 unfold dQ;walk_at "r";rw[e];walk_at "r";rw[k7 (by decide)]
 walk_at "r";rw[e'];walk_at "r";rw[k7 (by omega)]
 walk_at "r";rw[Ni (by omega) (Bt.dX (by omega) (by omega))]
 walk_at "r";rw[ev];walk_at "r";rw[k7 (by decide)]
 walk_at "r";rw[hq];exact⟨q,rfl,sq⟩
structure zC(l:List Str):Prop where
 len:l.length=6
 nm:∀z∈l,Nm z
 nd:l.Nodup
theorem HI{f:Nat->Str}{n:Nat}(h:∀i j,i<n->j<n->f i=f j->i=j):((aR n).map f).Nodup:=by rw[List.nodup_iff_pairwise_ne,List.pairwise_map];refine List.Pairwise.imp_of_mem ?_ (List.nodup_range (n:=n));intro a b ha hb hne he;exact hne (h a b (mem_range.mp ha) (mem_range.mp hb) he)
theorem zC.at{l:List Str}(h:zC l){i:Nat}(hi:i<6):Nm (l.getD i ""):=by
 have e:i<l.length:=by rw[h.len];exact hi
 rw[qp,U5 e];exact h.nm _ (Jy e)
theorem zC.inj{l:List Str}(h:zC l){i j:Nat}(hi:i<6)(hj:j<6)(e:l.getD i "" = l.getD j ""):i=j:=by
 have a:i<l.length:=by rw[h.len];exact hi
 have b:j<l.length:=by rw[h.len];exact hj
 rw[qp,U5 a,qp,U5 b]at e;exact(JD h.nd).mp e
theorem map_getD{α:Type}{f:α->b5}{l:List α}(a:α){i:Nat}(h:i<l.length):O4 (l.map f) (0+(i:Int))=some (f (l.getD i a)):=by
 rw[Int.zero_add,cE (n:=i) rfl (by simpa using h),S6,U5 h]
 simp[qp,h]
theorem Rx:zC [b6 "w",b6 "wa",b6 "wab",b6 "a",b6 "ab",b6 "b"]:=by
 refine⟨rfl,λz hz=>?_,?_⟩
 . simp only[v8,B4,B6]at hz;rcases hz with rfl|rfl|rfl|rfl|rfl|rfl<;>exact⟨by decide +kernel,by decide +kernel,by decide +kernel⟩
 . simp only[tT,v8,B4,B6,u9,not_or];decide
theorem Rv:zC [b6 "ab",b6 "a",b6 "b",b6 "abb",b6 "c",b6 "ca"]:=by
 refine⟨rfl,λz hz=>?_,?_⟩
 . simp only[v8,B4,B6]at hz;rcases hz with rfl|rfl|rfl|rfl|rfl|rfl<;>exact⟨by decide +kernel,by decide +kernel,by decide +kernel⟩
 . simp only[tT,v8,B4,B6,u9,not_or];decide
theorem RJ{ns:List Int}{k:Int}(hl:ns.length<=63)(h0:0<=k)(h1:k<=10000):∃l:Option (Int×Int×Int×Int),jI [K4 ns,.int k]=some (.dat (fY l))/\∀a b c d,l=some (a,b,c,d)->nL a/\ke b/\nL c/\ke d:=by
 obtain⟨m,e,m0,m1⟩:=t8 (ns:=ns) (k:=k) hl h0 (by omega)
 obtain⟨a,ea,a0,a1⟩:=t8 (ns:=ns) (k:=k+1) hl (by omega) (by omega)
 obtain⟨b,eb,b0,b1⟩:=t8 (ns:=ns) (k:=k+2) hl (by omega) (by omega)
 obtain⟨x,ex,x0,x1⟩:=Q0 (ns:=ns) (k:=k+3) hl (by omega) (by omega)
 obtain⟨y,ey,y0,y1⟩:=Q0 (ns:=ns) (k:=k+4) hl (by omega) (by omega)
 have p0:=A8 a (b:=27) (by decide)
 have p1:=B7 a (b:=27) (by decide)
 have q0:=A8 b (b:=27) (by decide)
 have q1:=B7 b (b:=27) (by decide)
 unfold jI;walk_at "r";rw[e];walk_at "r";rw[k7 (by decide)]
 walk_at "r";by_cases c:m.fmod 4=0
 . rw[d9 c];exact⟨none,rfl,λ_ _ _ _ h=>by cases h⟩
 . rw[e7 c];walk_at "r";rw[ea];walk_at "r";rw[k7 (by decide)]
   walk_at "r";rw[eb];walk_at "r";rw[k7 (by decide)]
   walk_at "r";rw[e];walk_at "r";rw[k7 (by decide)]
   walk_at "r";by_cases d:m.fmod 9=0
   . rw[d9 d,N3 (Bt.dX (by omega) (by omega)) Bt.lit]
     walk_at "r";rw[ex,ey];walk_at "r";exact⟨some ((a.fmod 27-6)*50000-300000,x,b.fmod 27-6,y),rfl,λ_ _ _ _ h=>by cases h;exact⟨⟨by omega,by omega⟩,⟨x0,by omega⟩,⟨by omega,by omega⟩,⟨y0,by omega⟩⟩⟩
   . rw[e7 d];walk_at "r";rw[ex,ey];walk_at "r";exact⟨some (a.fmod 27-6,x,b.fmod 27-6,y),rfl,λ_ _ _ _ h=>by cases h;exact⟨⟨by omega,by omega⟩,⟨x0,by omega⟩,⟨by omega,by omega⟩,⟨y0,by omega⟩⟩⟩
theorem PU{ns:List Int}{k n:Int}{nm:Str}(hl:ns.length<=63)(h0:0<=k)(h1:k<=10000)(n1:1<=n)(N:Nm nm):∃w:Wk,dC [K4 ns,.int k,.str nm,.int n]=some (.dat (u7 w))/\nI n w/\w.name=nm:=by
 obtain⟨a,ea,a0,a1⟩:=t8 (ns:=ns) (k:=k) hl h0 (by omega)
 obtain⟨b,eb,b0,b1⟩:=t8 (ns:=ns) (k:=k+1) hl (by omega) (by omega)
 obtain⟨x,ex,x0,x1⟩:=Q0 (ns:=ns) (k:=k+2) hl (by omega) (by omega)
 obtain⟨y,ey,y0,y1⟩:=Q0 (ns:=ns) (k:=k+3) hl (by omega) (by omega)
 obtain⟨z,ez,z0,z1⟩:=Q0 (ns:=ns) (k:=k+4) hl (by omega) (by omega)
 have p0:=A8 a (b:=n) (by omega)
 have p1:=B7 a (b:=n) (by omega)
 have q0:=A8 b (b:=n-a.fmod n) (by omega)
 have q1:=B7 b (b:=n-a.fmod n) (by omega)
 unfold dC;walk_at "r";rw[ea];walk_at "r";rw[k7 (by omega)]
 walk_at "r";rw[eb];walk_at "r";rw[k7 (by omega)]
 walk_at "r";rw[ex,ey,ez];walk_at "r";exact⟨⟨nm,x+y,a.fmod n,a.fmod n+b.fmod (n-a.fmod n),z⟩,rfl,⟨N,⟨by show 0<=x+y;omega,by show x+y<=1000000;omega⟩,p0,by show a.fmod n<=a.fmod n+_;omega,by show a.fmod n+_<n;omega,⟨z0,by show z<=1000000;omega⟩⟩,rfl⟩
theorem EM{ns:List Int}{t:Int}(hl:ns.length<=63)(t0:0<=t)(t1:t<24)(x1 x2:Option PV)(L:List b5)(hL:L.length<1000)(x5:Option PV)(r:Ds):
  ∃h:Hr,qM h/\∃y5,df (some (.dat (K4 ns))::x1::x2::some (.own L)::iD t::x5::r)=some (.next (some (.dat (K4 ns))::x1::x2::some (.own (L++[p8 h]))::iD t::y5::r)):=by
 obtain⟨x,ex,x0,x1'⟩:=Q0 (ns:=ns) (k:=200+9*t) hl (by omega) (by omega)
 obtain⟨y,ey,y0,y1⟩:=Q0 (ns:=ns) (k:=200+9*t+1) hl (by omega) (by omega)
 obtain⟨l,el,hll⟩:=RJ (ns:=ns) (k:=200+9*t+2) hl (by omega) (by omega)
 unfold df;walk_at "r";rw[N3 Bt.lit (Bt.dX (by omega) (by omega))]
 walk_at "r";rw[ex,ey,el];walk_at "r";rw[W0 _ (l:=L) rfl (by omega)]
 exact⟨⟨x,y,l⟩,⟨⟨x0,by show x<=1000000;omega⟩,⟨y0,by show y<=1000000;omega⟩,hll⟩,_,rfl⟩
theorem Nw{ns:List Int}{n m:Int}(hl:ns.length<=63)(n1:1<=n)(n2:n<=24)(m0:0<=m)(m1:m<=6):∃H:q9,gO [K4 ns,.int n,.int m]=some (.dat (o7 H))/\H5 H:=by
 obtain⟨a,ea,a0,a1⟩:=Q0 (ns:=ns) (k:=110) hl (by decide) (by decide)
 obtain⟨b,eb,b0,b1⟩:=Q0 (ns:=ns) (k:=111) hl (by decide) (by decide)
 obtain⟨c,ec,c0,c1⟩:=t8 (ns:=ns) (k:=112) hl (by decide) (by decide)
 obtain⟨f,ef,f0,f1⟩:=Q0 (ns:=ns) (k:=113) hl (by decide) (by decide)
 obtain⟨g,eg,g0,g1⟩:=Q0 (ns:=ns) (k:=114) hl (by decide) (by decide)
 obtain⟨kp,ekp,hkp⟩:=xR (ns:=ns) (k:=115) hl (by decide) (by decide)
 obtain⟨lf,elf,hlf⟩:=xR (ns:=ns) (k:=118) hl (by decide) (by decide)
 obtain⟨r,er,r0,r1⟩:=t8 (ns:=ns) (k:=121) hl (by decide) (by decide)
 obtain⟨v,ev,v0,v1⟩:=t8 (ns:=ns) (k:=122) hl (by decide) (by decide)
 have s0:=A8 (c*991) (b:=a+b+1) (by omega)
 have s1:=B7 (c*991) (b:=a+b+1) (by omega)
 have w0:=A8 v (b:=2) (by decide)
 have w1:=B7 v (b:=2) (by decide)
 obtain⟨nl,hn,nn⟩:∃nl:List Str,O4 [lC [.str "w",.str "wa",.str "wab",.str "a",.str "ab",.str "b"],.list [.str "ab",.str "a",.str "b",.str "abb",.str "c",.str "ca"]] (v.fmod 2)=some (.list (nl.map .str))/\zC nl:=by
  generalize v.fmod 2=z at *;have:z=0\/z=1:=by omega
  rcases this with rfl|rfl
  . exact⟨[b6 "w",b6 "wa",b6 "wab",b6 "a",b6 "ab",b6 "b"],rfl,Rx⟩
  . exact⟨[b6 "ab",b6 "a",b6 "b",b6 "abb",b6 "c",b6 "ca"],rfl,Rv⟩
 have nl6:=nn.len;unfold gO;walk_at "r";rw[dw (by omega)]
 walk_at "r";obtain⟨ds',h1,⟨hs',hlen,i9,y4,y5,rfl⟩⟩:=iT (gt:=C3 4) (G:=df) (lo:=0) (n:=n.toNat) (ds:=[some (.dat (K4 ns)),iD n,iD m,some (.own []),none,none,none,none,none,none,none,none,none])
  (λi ds=>∃hs:List Hr,hs.length=i/\(∀x∈hs,qM x)/\∃y4 y5,ds=[some (.dat (K4 ns)),iD n,iD m,some (.own (hs.map p8)),y4,y5,none,none,none,none,none,none,none])
  ⟨[],rfl,by simp,none,none,rfl⟩ (by
   rintro i ds hi ⟨hs,hlen,i9,y4,y5,rfl⟩;obtain⟨h,hh,z5,e⟩:=EM (t:=0+(i:Int)) hl (by omega) (by omega) (iD n) (iD m) (hs.map p8) (by simp;omega) y5 [none,none,none,none,none,none,none]
   refine⟨_,_,rfl,.inl e,hs++[h],by simp[hlen],?_,iD (0+(i:Int)),z5,by rw[P2];rfl⟩
   intro x hx;rcases List.mem_append.mp hx with hx|hx
   . exact i9 x hx
   . simp at hx;subst hx;exact hh)
 rw[h1];walk_at "r";rw[ea,eb];walk_at "r";rw[ec];walk_at "r";rw[N3 (Bt.dX (by omega) (by omega)) Bt.lit]
 walk_at "r";rw[k7 (by omega)]
 walk_at "r";rw[ef,eg];walk_at "r";rw[ekp,elf];walk_at "r";rw[er];walk_at "r";rw[k7 (by decide)]
 walk_at "r";rw[ng (by simp)]
 walk_at "r";rw[ng (by simp)]
 walk_at "r";rw[ng (by simp)]
 walk_at "r";rw[ev];walk_at "r";rw[k7 (by decide)]
 walk_at "r";rw[hn];walk_at "r";rw[dw (by omega)]
 walk_at "r";rw[d9 (by simp[iG];omega)]
 have wk:∀i:Nat,i<m.toNat->∃w:Wk,dC [K4 ns,.int (130+7*(0+(i:Int))),.str (nl.getD i ""),.int n]=some (.dat (u7 w))/\nI n w/\w.name=nl.getD i "":=λi hi=>PU hl (by omega) (by omega) n1 (nn.at (by omega))
 obtain⟨wf,hwf⟩:∃wf:Nat->Wk,∀i,i<m.toNat->dC [K4 ns,.int (130+7*(0+(i:Int))),.str (nl.getD i ""),.int n]=some (.dat (u7 (wf i)))/\nI n (wf i)/\(wf i).name=nl.getD i "":=by
  refine⟨λi=>if h:i<m.toNat then(wk i h).choose else⟨"",0,0,0,0⟩,λi hi=>?_⟩
  simp only[hi,dite_true];exact(wk i hi).choose_spec
 rw[zm (f:=λi=>u7 (wf i)) λi hi=>?_]
 . walk_at "r";refine⟨⟨hs',a+b,(c*991).fmod (a+b+1),f,g,kp,lf,r.fmod 13,(aR m.toNat).map wf⟩,?_,?_⟩
   . unfold o7 J9;rw[Z2];rfl
   . have e:(n:Int)=(hs'.length:Int):=by omega
     refine⟨i9,by show 1<=hs'.length;omega,by show hs'.length<=24;omega,⟨by show 0<=a+b;omega,by show a+b<=1000000;omega⟩,⟨s0,by show(c*991).fmod (a+b+1)<=1000000;omega⟩,by show(c*991).fmod (a+b+1)<=a+b;omega,⟨f0,by show f<=1000000;omega⟩,⟨g0,by show g<=1000000;omega⟩,hkp,hlf,⟨A8 r (by decide),Int.le_trans (Int.le_of_lt (B7 r (by decide))) (by decide)⟩,?_,by show((aR m.toNat).map wf).length<=6;rw[m9,An];omega,?_⟩
     rotate_left
     . show(((aR m.toNat).map wf).map Wk.name).Nodup
       rw[Z2];exact HI λi j hi hj e=>by have e:(wf i).name=(wf j).name:=e;rw[(hwf i hi).2.2,(hwf j hj).2.2]at e;exact nn.inj (by omega) (by omega) e
     intro w hw;obtain⟨i,hi,rfl⟩:=mem_map.mp hw;rw[<-e];exact(hwf i (mem_range.mp hi)).2.1
 . refine⟨.dat (u7 (wf i)),?_,rfl⟩;unfold kA;walk_at "r";rw[N3 Bt.lit (Bt.dX (by omega) (by omega))]
   walk_at "r";rw[map_getD (f:=h7) (l:=nl) "" (by omega)]
   walk_at "r";exact(hwf i hi).1
theorem Cg(b:Bool):(nu intD jS) [.bool b]=some (.dat (.int (if b=true then 1 else 0))):=by cases b<;>rfl
theorem Qg{ns:List Int}{k n:Int}(hl:ns.length<=63)(h0:0<=k)(h1:k<=10000)(n1:1<=n)(n2:n<=24):∃x:Ts,dD [K4 ns,.int k,.int n]=some (.dat (O3 x))/\hU x:=by
 obtain⟨a,ea,a0,a1⟩:=t8 (ns:=ns) (k:=k) hl h0 (by omega)
 obtain⟨b,eb,b0,b1⟩:=t8 (ns:=ns) (k:=k+1) hl (by omega) (by omega)
 obtain⟨x,ex,x0,x1⟩:=Q0 (ns:=ns) (k:=k+1) hl (by omega) (by omega)
 have p0:=A8 a (b:=8) (by decide)
 have p1:=B7 a (b:=8) (by decide)
 have q0:=A8 b (b:=n+1) (by omega)
 have q1:=B7 b (b:=n+1) (by omega)
 have r0:=A8 b (b:=27) (by decide)
 have r1:=B7 b (b:=27) (by decide)
 unfold dD;walk_at "r";rw[ea];walk_at "r";rw[k7 (by decide)]
 walk_at "r";generalize a.fmod 8=z at *;by_cases c2:z<2
 . rw[d9 c2,eb];walk_at "r";rw[k7 (by omega)]
   have:z=0\/z=1:=by omega
   rcases this with rfl|rfl
   . exact⟨.from_ (b.fmod (n+1)),rfl,q0,by show b.fmod (n+1)<=1000000;omega⟩
   . exact⟨.till (b.fmod (n+1)),rfl,q0,by show b.fmod (n+1)<=1000000;omega⟩
 rw[e7 c2];walk_at "r";by_cases c4:z<4
 . rw[d9 c4,ex];have:z=2\/z=3:=by omega
   rcases this with rfl|rfl
   . exact⟨.over x,rfl,x0,by show x<=1000000;omega⟩
   . exact⟨.under x,rfl,x0,by show x<=1000000;omega⟩
 rw[e7 c4];walk_at "r";by_cases c6:z<6
 . rw[d9 c6,eb];walk_at "r";rw[k7 (by decide)]
   have:z=4\/z=5:=by omega
   rcases this with rfl|rfl
   . exact⟨.dear (b.fmod 27-6),rfl,by show -1000000<=b.fmod 27-6;omega,by show b.fmod 27-6<=1000000;omega⟩
   . exact⟨.cheap (b.fmod 27-6),rfl,by show -1000000<=b.fmod 27-6;omega,by show b.fmod 27-6<=1000000;omega⟩
 rw[e7 c6];have:z=6\/z=7:=by omega
 rcases this with rfl|rfl
 . exact⟨.dark,rfl,trivial⟩
 . exact⟨.sunny,rfl,trivial⟩
theorem Bv{ns:List Int}{k n i:Int}(hl:ns.length<=63)(h0:0<=k)(h1:k<=1000)(n1:1<=n)(n2:n<=24)(i0:0<=i)(i1:i<21)(x3:Option PV)(L:List b5)(hL:L.length<1000)(x6 x7 x8 x9 x10:Option PV):
  ∃r:Rl,Y1 r/\∃y6 y7 y8 y9 y10,cu [some (.dat (K4 ns)),iD k,iD n,x3,some (.own L),iD i,x6,x7,x8,x9,x10]=some (.next [some (.dat (K4 ns)),iD k,iD n,x3,some (.own (L++[L3 r])),iD i,y6,y7,y8,y9,y10]):=by
 obtain⟨a,ea,a0,a1⟩:=t8 (ns:=ns) (k:=k+31*i+13) hl (by omega) (by omega)
 obtain⟨b,eb,b0,b1⟩:=t8 (ns:=ns) (k:=k+31*i+14) hl (by omega) (by omega)
 obtain⟨c,ec,c0,c1⟩:=t8 (ns:=ns) (k:=k+31*i+15) hl (by omega) (by omega)
 obtain⟨d,ed,d0,d1⟩:=t8 (ns:=ns) (k:=k+31*i+16) hl (by omega) (by omega)
 have p0:=A8 (a.fdiv 11) (b:=3) (by decide)
 have p1:=B7 (a.fdiv 11) (b:=3) (by decide)
 have b0':=A8 b (b:=3) (by decide)
 have b1':=B7 b (b:=3) (by decide)
 have c0':=A8 c (b:=3) (by decide)
 have c1':=B7 c (b:=3) (by decide)
 have d0':=A8 d (b:=2) (by decide)
 have d1':=B7 d (b:=2) (by decide)
 obtain⟨m,em,m0,m1⟩:∃m:Int,O4 [gB ((a.fdiv 11).fmod 3),.int 6] (if a.fmod 11=5 then 1 else 0)=some (.int m)/\0<=m/\m<=6:=by
  split
  . exact⟨6,rfl,by decide,by decide⟩
  . exact⟨_,rfl,p0,by omega⟩
 obtain⟨fi,efi⟩:∃fi:Fi,O4 [h7 "none",.str "sun",.str "line"] (b.fmod 3)=some (.str (eB fi)):=by
  generalize b.fmod 3=z at *;have:z=0\/z=1\/z=2:=by omega
  rcases this with rfl|rfl|rfl
  . exact⟨.non,rfl⟩
  . exact⟨.gk,rfl⟩
  . exact⟨.line,rfl⟩
 obtain⟨ta,eta⟩:∃ta:Ta,O4 [h7 "none",.str "need",.str "give"] (c.fmod 3)=some (.str (dS ta)):=by
  generalize c.fmod 3=z at *;have:z=0\/z=1\/z=2:=by omega
  rcases this with rfl|rfl|rfl
  . exact⟨.non,rfl⟩
  . exact⟨.need,rfl⟩
  . exact⟨.give,rfl⟩
 obtain⟨wo,ewo⟩:∃wo:Bool,O4 [h7 "now",.str "wait"] (d.fmod 2)=some (.str (iA wo)):=by
  generalize d.fmod 2=z at *;have:z=0\/z=1:=by omega
  rcases this with rfl|rfl
  . exact⟨false,rfl⟩
  . exact⟨true,rfl⟩
 have tk:∀j:Nat,j<m.toNat->∃x:Ts,dD [K4 ns,.int (k+31*i+2*(0+(j:Int))),.int n]=some (.dat (O3 x))/\hU x:=λj hj=>Qg hl (by omega) (by omega) n1 n2
 obtain⟨tf,htf⟩:∃tf:Nat->Ts,∀j,j<m.toNat->dD [K4 ns,.int (k+31*i+2*(0+(j:Int))),.int n]=some (.dat (O3 (tf j)))/\hU (tf j):=by
  refine⟨λj=>if h:j<m.toNat then(tk j h).choose else .dark,λj hj=>?_⟩
  simp only[hj,dite_true];exact(tk j hj).choose_spec
 unfold cu;walk_at "r";rw[N3 Bt.lit (Bt.dX (by omega) (by omega))]
 walk_at "r";rw[ea];walk_at "r";rw[V9 (by decide) Bt.lit]
 walk_at "r";rw[k7 (by decide)]
 walk_at "r";rw[k7 (by decide)]
 walk_at "r";rw[Cg];walk_at "r";rw[em];walk_at "r";rw[dw (by omega)]
 walk_at "r";rw[d9 (by simp[iG];omega),zm (f:=λj=>O3 (tf j)) λj hj=>?_]
 . walk_at "r";rw[eb];walk_at "r";rw[k7 (by decide)]
   walk_at "r";rw[efi];walk_at "r";rw[ec];walk_at "r";rw[k7 (by decide)]
   walk_at "r";rw[eta];walk_at "r";rw[ed];walk_at "r";rw[k7 (by decide)]
   walk_at "r";rw[ewo];walk_at "r";rw[W0 _ (l:=L) rfl (by omega)]
   have er:gD [.tuple ((aR m.toNat).map λj=>O3 (tf j)),.str (eB fi),.str (dS ta),.str (iA wo)]=L3 ⟨(aR m.toNat).map tf,fi,ta,wo⟩:=by unfold L3;rw[Z2];rfl
   simp only[PV.ip,er];refine⟨⟨(aR m.toNat).map tf,fi,ta,wo⟩,⟨λx hx=>?_,by show((aR m.toNat).map tf).length<=6;rw[m9,An];omega⟩,some (.dat (.int (k+31*i))),some (.dat (.int a)),some (.dat (.list ((aR m.toNat).map λj=>O3 (tf j)))),some (.dat (.str (eB fi))),some (.dat (.str (dS ta))),rfl⟩
   obtain⟨j,hj,rfl⟩:=mem_map.mp hx;exact(htf j (mem_range.mp hj)).2
 . refine⟨.dat (O3 (tf j)),?_,rfl⟩;unfold jL;walk_at "r";rw[N3 Bt.lit (Bt.dX (by omega) (by omega))]
   walk_at "r";exact(htf j hj).1
theorem Il{ns:List Int}{k n m:Int}(hl:ns.length<=63)(h0:0<=k)(h1:k<=1000)(n1:1<=n)(n2:n<=24)(m0:0<=m)(m1:m<21):∃K:List Rl,fj [K4 ns,.int k,.int n,.int m]=some (.dat (.tuple (K.map L3)))/\(∀r∈K,Y1 r)/\(K.length:Int)=m:=by
 unfold fj;walk_at "r";rw[dw (by omega)]
 walk_at "r";obtain⟨ds',e1,⟨K,hK,i9,y5,y6,y7,y8,y9,y10,rfl⟩⟩:=iT (gt:=C3 5) (G:=cu) (lo:=0) (n:=m.toNat) (ds:=[some (.dat (K4 ns)),iD k,iD n,iD m,some (.own []),none,none,none,none,none,none])
  (λi ds=>∃K:List Rl,K.length=i/\(∀r∈K,Y1 r)/\∃y5 y6 y7 y8 y9 y10,ds=[some (.dat (K4 ns)),iD k,iD n,iD m,some (.own (K.map L3)),y5,y6,y7,y8,y9,y10])
  ⟨[],rfl,by simp,none,none,none,none,none,none,rfl⟩ (by
   rintro i ds hi ⟨K,hK,i9,y5,y6,y7,y8,y9,y10,rfl⟩;obtain⟨r,hr,z6,z7,z8,z9,z10,e⟩:=Bv (i:=0+(i:Int)) (n:=n) (k:=k) hl h0 h1 n1 n2 (by omega) (by omega) (iD m) (K.map L3) (by simp;omega) y6 y7 y8 y9 y10
   refine⟨_,_,rfl,.inl e,K++[r],by simp[hK],?_,iD (0+(i:Int)),z6,z7,z8,z9,z10,by rw[P2];rfl⟩
   intro x hx;rcases List.mem_append.mp hx with hx|hx
   . exact i9 x hx
   . simp at hx;subst hx;exact hr)
 rw[e1];walk_at "r";exact⟨K,rfl,i9,by omega⟩
inductive Tw where
 |n (i:Int)
 |s (z:Str)
noncomputable def Tw.d:Tw->b5
 | .n i=>.int i
 | .s z=>.str z
noncomputable def Tw.w:Tw->Str
 | .n i=>i4 i
 | .s z=>z
noncomputable def Tw.ok:Tw->Prop
 | .n i=>nL i
 | .s _=>True
theorem Tc{x:Tw}(h:x.ok):(nu fx pX) [x.d]=some (.dat (.str x.w)):=by
 cases x with
 |n i =>
  have e:=mi (qd h);unfold nu;show(match fx [.int i]with|some v=>some v|none=>pX [.int i])=_
  rw[e];rfl
 |s z=>rfl
noncomputable def rX(h:q9):List Tw:=[.s (b6 "store"),.n h.size,.n h.start,.n h.fill,.n h.take,.s (B9 h.kept),.s (B9 h.left),.n h.rest]
noncomputable def mM(x:Hr):List Tw:=match x.line with
 |none=>[.s (b6 "hour"),.n x.gk,.n x.need,.s (b6 "dark")]
 |some l=>[.s (b6 "hour"),.n x.gk,.n x.need,.s (b6 "line"),.n l.1,.n l.2.1,.n l.2.2.1,.n l.2.2.2]
noncomputable def wW(w:Wk):List Tw:=[.s (b6 "work"),.s w.name,.n w.G8,.n w.first,.n w.last,.n w.most]
theorem iz{l:List Tw}(h:∀x∈l,x.ok)(k:wA (l.map Tw.w))(hl:l.length<=100):T5 [.list (l.map Tw.d)]=some (.dat (.str (p9 (l.map Tw.w)))):=by
 have ec:∀ds:Ds,L8 t5 w4 gd ds (l.map Tw.d)=some (l.map λx=>.str x.w):=λds=>comp_map λx hx=>⟨.dat (.str x.w),by unfold gd;walk_at "t";exact Tc (h x hx),rfl⟩
 have j:=xg k;rw[Z2]at j;have l1:(l.map Tw.d).length<=100:=by rw[m9];exact hl
 generalize l.map Tw.d=D at *;unfold T5;walk_at "t";rw[d9 (by omega),ec]
 walk_at "t";rw[show(l.map λx=>h7 x.w)=l.map (h7∘Tw.w)from rfl,j]
 walk_at "t"
theorem qA{q:Int×Int}(h:jX q):bj [fr q]=some (.dat (.str (B9 q))):=by
 have s:=h.small;have e1:=mi s.top;have e2:=mi s.bot;have l1:=av s.top;have l2:=av s.bot;unfold bj B9;walk_at "t";by_cases c:q.2=1
 . rw[d9 c,d9 c,e1];walk_at "t"
 . rw[e7 c,e7 c];walk_at "t";rw[e1];walk_at "t";rw[W8 (by rw[t9 (b6 "/"),dM];simp;omega)]
   walk_at "t";rw[e2];walk_at "t";rw[W8 (by rw[t9,W3,A0,<-t9,dM];simp;omega)]
   walk_at "t"
theorem EE{h:q9}(H:H5 h):T5 [.list ((rX h).map Tw.d)]=some (.dat (.str (p9 (M0 h)))):=by
 have a1:=H.size;have a2:=H.start;have a3:=H.fill;have a4:=H.take;have a7:=H.rest;have e:(rX h).map Tw.w=M0 h:=rfl;rw[<-e];refine iz (λx hx=>?_) (by rw[e];exact rz H) (by simp[rX])
 simp only[rX,v8,B4,B6]at hx;rcases hx with rfl|rfl|rfl|rfl|rfl|rfl|rfl|rfl
 . trivial
 . exact E5 a1
 . exact E5 a2
 . exact E5 a3
 . exact E5 a4
 . trivial
 . trivial
 . exact E5 a7
theorem Ia{n:Int}{w:Wk}(H:nI n w)(hn:n<=24):T5 [.list ((wW w).map Tw.d)]=some (.dat (.str (p9 (Q6 w)))):=by
 have a2:=H.G8;have a3:=H.first;have a4:=H.fl;have a5:=H.last;have a6:=H.most;have e:(wW w).map Tw.w=Q6 w:=rfl;rw[<-e];refine iz (λx hx=>?_) (by rw[e];exact uW H hn) (by simp[wW])
 simp only[wW,v8,B4,B6]at hx;rcases hx with rfl|rfl|rfl|rfl|rfl|rfl
 . trivial
 . trivial
 . exact E5 a2
 . exact⟨by omega,by omega⟩
 . exact⟨by omega,by omega⟩
 . exact E5 a6
theorem Ib{x:Hr}(H:qM x):T5 [.list ((mM x).map Tw.d)]=some (.dat (.str (p9 (G6 x)))):=by
 have a1:=H.gk;have a2:=H.need;have a3:=H.line;have k:=uX H;obtain⟨su,ne,ln⟩:=x;cases ln with
 |none =>
  have e:(mM ⟨su,ne,none⟩).map Tw.w=G6 ⟨su,ne,none⟩:=rfl;rw[<-e]at k ⊢;refine iz (λx hx=>?_) k (by simp[mM])
  simp only[mM,v8,B4,B6]at hx;rcases hx with rfl|rfl|rfl|rfl
  . trivial
  . exact E5 a1
  . exact E5 a2
  . trivial
 |some l =>
  obtain⟨a,b,c,d⟩:=l;obtain⟨b1,b2,b3,b4⟩:=a3 a b c d rfl;have e:(mM ⟨su,ne,some (a,b,c,d)⟩).map Tw.w=G6 ⟨su,ne,some (a,b,c,d)⟩:=rfl;rw[<-e]at k ⊢;refine iz (λx hx=>?_) k (by simp[mM])
  simp only[mM,v8,B4,B6]at hx;rcases hx with rfl|rfl|rfl|rfl|rfl|rfl|rfl|rfl
  . trivial
  . exact E5 a1
  . exact E5 a2
  . trivial
  . exact b1
  . exact E5 b2
  . exact b3
  . exact E5 b4
theorem sC{r0 r1 r2:Option PV}:∀(hs:List Hr) (acc:List b5) (y4 y5:Option PV),(∀x∈hs,qM x)->acc.length+hs.length<=1000 ->
  ∃z4 z5,M3 (C3 4) V3 (hs.map p8) [r0,r1,r2,some (.own acc),y4,y5]=some (.next [r0,r1,r2,some (.own (acc++hs.map λx=>.str (p9 (G6 x)))),z4,z5])
 | [],acc,y4,y5,_,_=>⟨y4,y5,by rw[bb,yX];simp⟩
 |x::hs,acc,y4,y5,h,hl=>by
  rw[J2]at hl;have B:∃z5,V3 [r0,r1,r2,some (.own acc),some (.dat (p8 x)),y5]=some (.next [r0,r1,r2,some (.own (acc++[.str (p9 (G6 x))])),some (.dat (p8 x)),z5]):=by
   have lh:=Ib (h x o2);have fin:∀(F:Ds->Option PV) (z5:Option PV),F [r0,r1,r2,some (.own acc),some (.dat (p8 x)),z5]=some (.dat (.str (p9 (G6 x))))->cP 3 F [r0,r1,r2,some (.own acc),some (.dat (p8 x)),z5]=some (.next [r0,r1,r2,some (.own (acc++[.str (p9 (G6 x))])),some (.dat (p8 x)),z5]):=λF z5 hF=>by rw[kU,hF];exact W0 (i:=3) (l:=acc) _ rfl (by omega)
   obtain⟨su,ne,ln⟩:=x;unfold V3;cases ln with
   |none =>
    rw[g8 (ds':=[r0,r1,r2,some (.own acc),some (.dat (p8 ⟨su,ne,none⟩)),some (.dat (.list [.str (b6 "dark")]))]) rfl,g8 (ds':=[r0,r1,r2,some (.own acc),some (.dat (p8 ⟨su,ne,none⟩)),some (.dat (.list [.str (b6 "dark")]))]) rfl];exact⟨_,fin _ _ lh⟩
   |some l =>
    obtain⟨a,b,c,d⟩:=l;rw[g8 (ds':=[r0,r1,r2,some (.own acc),some (.dat (p8 ⟨su,ne,some (a,b,c,d)⟩)),some (.dat (.list [.str (b6 "dark")]))]) rfl,g8 (ds':=[r0,r1,r2,some (.own acc),some (.dat (p8 ⟨su,ne,some (a,b,c,d)⟩)),some (.dat (.list [.str (b6 "line"),.int a,.int b,.int c,.int d]))]) rfl];exact⟨_,fin _ _ lh⟩
  obtain⟨z5,B⟩:=B;obtain⟨z4,z5',e⟩:=sC (r0:=r0) (r1:=r1) (r2:=r2) hs (acc++[.str (p9 (G6 x))]) (some (.dat (p8 x))) z5 (λy hy=>h y (o8 _ hy)) (by rw[A0,eX];omega)
  refine⟨z4,z5',?_⟩;rw[o5,V8 (ds1:=[r0,r1,r2,some (.own acc),some (.dat (p8 x)),y5]) rfl B,e,ak];rfl
theorem IC{h:q9}(H:H5 h):Z5 [o7 h]=some (.own (n9 h)):=by
 have hl:=H.hl;have wl:=H.wl;have t1:=qA H.kept;have t2:=qA H.left;have ls:=EE H;have ed:∀ds:Ds,L8 t5 w4 cS ds (h.ws.map u7)=some (h.ws.map λw=>.str (p9 (Q6 w))):=λds=>comp_map λw hw=>⟨.dat (.str (p9 (Q6 w))),Ia (H.ws w hw) (by omega),rfl⟩
 have el:n9 h=[h7 (p9 (M0 h))]++(h.hs.map λx=>.str (p9 (G6 x)))++(h.ws.map λw=>.str (p9 (Q6 w))):=by simp[n9,ji,Z2,lM]
 have l2:(h.ws.map u7).length<=6:=by rw[m9];exact wl
 have l3:(h.hs.map λx=>h7 (p9 (G6 x))).length<=24:=by rw[m9];exact hl
 have l4:(h.ws.map λw=>h7 (p9 (Q6 w))).length<=6:=by rw[m9];exact wl
 obtain⟨z4,z5,er⟩:=sC (r0:=some (.dat (o7 h))) (r1:=some (.dat (J9 h))) (r2:=some (.dat (.list [.str (B9 h.kept),.str (B9 h.left)]))) h.hs [.str (p9 (M0 h))] none none H.hs (by simp;omega)
 rw[el];unfold Z5;simp only[D6,J2,pz,Nat.reduceAdd,reduceIte,bO,dA,Nat.reduceSub,w9,cG,ai];rw[g8 (ds':=[some (.dat (o7 h)),some (.dat (J9 h)),none,none,none,none]) rfl];rw[g8 (ds':=[some (.dat (o7 h)),some (.dat (J9 h)),some (.dat (.list [.str (B9 h.kept),.str (B9 h.left)])),none,none,none]) (by walk_at "t";rw[Ir];walk_at "t";rw[t1];walk_at "t";rw[Iq];walk_at "t";rw[t2];walk_at "t")]
 rw[g8 (ds':=[some (.dat (o7 h)),some (.dat (J9 h)),some (.dat (.list [.str (B9 h.kept),.str (B9 h.left)])),some (.own [.str (p9 (M0 h))]),none,none]) (by
  walk_at "t";rw[show u5 (J9 h) none (some 4)=some (.dat (.tuple [.int h.size,.int h.start,.int h.fill,.int h.take]))from rfl]
  walk_at "t";rw[bP (by simp)]
  walk_at "t";rw[bP (by simp)]
  walk_at "t";rw[Ip];walk_at "t";rw[bP (by simp)]
  walk_at "t"
  erw [ls]
  walk_at "t")]
 rw[g8 (by walk_at "t";exact er)]
 generalize (h.hs.map λx=>h7 (p9 (G6 x)))=A at *
 generalize (h.ws.map λw=>h7 (p9 (Q6 w)))=B at *
 walk_at "t";rw[vV];generalize h.ws.map u7=WD at *;walk_at "t";rw[d9 (by omega),ed]
 walk_at "t";rw[bP (by simp;omega)]
 walk_at "t"
noncomputable def rR:Ts->List Tw
 | .from_ n=>[.s (b6 "from"),.n n]
 | .till n=>[.s (b6 "till"),.n n]
 | .over n=>[.s (b6 "over"),.n n]
 | .under n=>[.s (b6 "under"),.n n]
 | .dear n=>[.s (b6 "dear"),.n n]
 | .cheap n=>[.s (b6 "cheap"),.n n]
 | .dark=>[.s (b6 "dark")]
 | .sunny=>[.s (b6 "sunny")]
theorem VT(x:Ts):O3 x=.tuple ((rR x).map Tw.d):=by cases x<;>rfl
noncomputable def jh:List Ts->List Tw
 | []=>[]
 |x::l=>rR x++jh l
theorem Jl:∀l:List Ts,(jh l).map Tw.w=m3 l
 | []=>rfl
 |x::l=>by
  show(rR x++jh l).map Tw.w=n8 x++m3 l
  rw[P2,Jl l];cases x<;>rfl
theorem HE{n:Int}(h:0<=n/\n<=1000000):nL n:=⟨by omega,h.2⟩
theorem Dh:∀l:List Ts,(∀x∈l,hU x)->∀y∈jh l,y.ok
 | [],_,y,hy=>nomatch hy
 |x::l,h,y,hy=>by
  rcases List.mem_append.mp (show y∈rR x++jh l from hy)with hy|hy
  . have hx:=h x o2;cases x with
    |dark=>cases hy with
     |head=>trivial
     |tail _ e=>cases e
    |sunny=>cases hy with
     |head=>trivial
     |tail _ e=>cases e
    |_ n=>cases hy with
     |head=>trivial
     |tail _ e=>cases e with
      |head=>first|exact HE hx|exact hx
      |tail _ e=>cases e
  . exact Dh l (λz hz=>h z (o8 _ hz)) y hy
theorem Qa{x:Ts}(h:hU x):∀w∈n8 x,W5 w:=by
 intro w hw;cases x with
 |dark=>cases hw with
  |head=>exact N5 (by decide +kernel) (by decide +kernel)
  |tail _ e=>cases e
 |sunny=>cases hw with
  |head=>exact N5 (by decide +kernel) (by decide +kernel)
  |tail _ e=>cases e
 |_ n=>cases hw with
  |head=>exact N5 (by decide +kernel) (by decide +kernel)
  |tail _ e=>cases e with
   |head=>first|exact aX (HE h)|exact aX h
   |tail _ e=>cases e
theorem FG:∀(l:List Ts),(∀x∈l,hU x)->∀w∈m3 l,W5 w
 | [],_,w,hw=>nomatch hw
 |x::l,h,w,hw=>by
  rcases List.mem_append.mp (show w∈n8 x++m3 l from hw)with hw|hw
  . exact Qa (h x o2) w hw
  . exact FG l (λz hz=>h z (o8 _ hz)) w hw
theorem Ow(f:Fi):W5 (eB f):=by cases f<;>exact N5 (by decide +kernel) (by decide +kernel)
theorem Ov(f:Ta):W5 (dS f):=by cases f<;>exact N5 (by decide +kernel) (by decide +kernel)
theorem VR(f:Bool):W5 (iA f):=by cases f<;>exact N5 (by decide +kernel) (by decide +kernel)
theorem dF{r:Rl}(h:Y1 r):∀w∈v5 r,W5 w:=by
 intro w hw;rcases List.mem_cons.mp hw with rfl|hw
 . exact N5 (by decide +kernel) (by decide +kernel)
 rcases List.mem_append.mp hw with hw|hw
 . exact FG _ h.ts w hw
 . simp only[dW,v8,B4,B6]at hw;rcases hw with rfl|rfl|rfl|rfl|rfl|rfl
   . exact N5 (by decide +kernel) (by decide +kernel)
   . exact Ow _
   . exact N5 (by decide +kernel) (by decide +kernel)
   . exact Ov _
   . exact N5 (by decide +kernel) (by decide +kernel)
   . exact VR _
theorem RF{r:Rl}(h:Y1 r):wA (v5 r):=⟨mH r,by have:=(Y7 h).1;omega,dF h⟩
theorem BR:∀(ts:List Ts) (W:List Tw) (a y:Option PV),W.length+2*ts.length<=1000 ->
  ∃y',M3 (C3 2) bD (ts.map O3) [a,some (.own (W.map Tw.d)),y]=some (.next [a,some (.own ((W++jh ts).map Tw.d)),y'])
 | [],W,a,y,_=>⟨y,by unfold jh;rw[Q8];rfl⟩
 |x::ts,W,a,y,hl=>by
  have hl':W.length+2*(ts.length+1)<=1000:=hl;have wl:(rR x).length<=2:=by cases x<;>simp[rR]
  obtain⟨y',ih⟩:=BR ts (W++rR x) a (some (.dat (O3 x))) (by rw[A0];omega)
  refine⟨y',?_⟩;have st:bD [a,some (.own (W.map Tw.d)),some (.dat (O3 x))]=some (.next [a,some (.own ((W++rR x).map Tw.d)),some (.dat (O3 x))]):=by rw[P2,VT];exact CM (l:=W.map Tw.d) (m:=(rR x).map Tw.d) rfl rfl (by rw[m9,m9];omega)
  rw[o5,V8 (ds1:=[a,some (.own (W.map Tw.d)),some (.dat (O3 x))]) rfl st,ih,ak];rfl
noncomputable def pZ(r:Rl):List Tw:=.s (b6 "when")::(jh r.ts++[.s (b6 "fill"),.s (eB r.fi),.s (b6 "take"),.s (dS r.ta),.s (b6 "works"),.s (iA r.wo)])
theorem BQ(r:Rl):(pZ r).map Tw.w=v5 r:=by unfold pZ v5;rw[o5,P2,Jl];rfl
theorem wQ{r:Rl}(h:Y1 r):bg [L3 r]=some (.dat (.str (m8 r))):=by
 have ln:=RF h;have l1:=Y7 h;rw[<-BQ]at ln l1;rw[m9]at l1;have we:=iz (l:=pZ r) (λx hx=>by
  rcases List.mem_cons.mp hx with rfl|hx
  . trivial
  rcases List.mem_append.mp hx with hx|hx
  . exact Dh _ h.ts x hx
  . simp only[v8,B4,B6]at hx;rcases hx with rfl|rfl|rfl|rfl|rfl|rfl<;>trivial) ln (by omega)
 rw[BQ]at we;have tl:=h.tl;obtain⟨y,e⟩:=BR r.ts [.s (b6 "when")] (some (.dat (L3 r))) none (by simp;omega)
 have i0:j5 (L3 r) (.int 0)=some (.dat (.tuple (r.ts.map O3))):=rfl;have i1:j5 (L3 r) (.int 1)=some (.dat (.str (eB r.fi))):=rfl;have i2:j5 (L3 r) (.int 2)=some (.dat (.str (dS r.ta))):=rfl;have i3:j5 (L3 r) (.int 3)=some (.dat (.str (iA r.wo))):=rfl;have ew:([Tw.s (b6 "when")]++jh r.ts).map Tw.d++[.str (b6 "fill"),.str (eB r.fi),.str (b6 "take"),.str (dS r.ta),.str (b6 "works"),.str (iA r.wo)]=(pZ r).map Tw.d:=by unfold pZ;rw[List.singleton_append,o5,o5,P2];rfl
 have wl:(([Tw.s (b6 "when")]++jh r.ts).map Tw.d).length<=100:=by have:=m5 tm ew;rw[A0,m9 (as:=pZ r)]at this;omega
 generalize ([Tw.s (b6 "when")]++jh r.ts).map Tw.d=wm at *;generalize L3 r=rd at *;unfold bg;walk_at "t";rw[i0];walk_at "t"
 erw [e]
 walk_at "t";rw[i1,i2,i3];walk_at "t";rw[bP (by simp;omega)]
 walk_at "t";rw[ew,we];walk_at "t";rfl
noncomputable def Q7(r:Rl):List Str:=[b6 "fill",eB r.fi,b6 "take",dS r.ta,b6 "works"]
theorem IQ(r:Rl):(v5 r).dropLast=b6 "when"::(m3 r.ts++Q7 r):=by
 have e:v5 r=(b6 "when"::(m3 r.ts++Q7 r))++[iA r.wo]:=by unfold v5;rw[cG,ak];rfl
 rw[e,List.dropLast_concat]
theorem IT(r:Rl){z:Str}(hz:aI z):X2 [.list ((z::Q7 r).map .str)]=some (.dat .none):=by
 have s0:qS (.list ((z::Q7 r).map .str)) (some 0) none (some 2)=some (.own ([z,eB r.fi,dS r.ta].map .str)):=rfl;have ne:=rp (l:=[z,eB r.fi,dS r.ta]) (m:=[b6 "fill",b6 "take",b6 "works"]) (λw hw=>by
  simp only[v8,B4,B6]at hw;rcases hw with rfl|rfl|rfl
  . exact hz
  . exact(Ow _).ok
  . exact(Ov _).ok) (λw hw=>by simp only[v8,B4,B6]at hw;rcases hw with rfl|rfl|rfl<;>exact fz (by decide +kernel))
 have nq:¬ [z,eB r.fi,dS r.ta]=[b6 "fill",b6 "take",b6 "works"]:=λe=>by have:=(List.cons.inj (List.cons.inj e).2).1;generalize r.fi=f at this;cases f<;>exact absurd this (by decide +kernel)
 rw[D7 nq]at ne;generalize (z::Q7 r).map h7=sw at *;unfold X2;walk_at "t";simp only[rE];walk_at "t";rw[s0];walk_at "t"
 erw [ne]
 walk_at "t"
theorem Ji{r:Rl}{m:List Str}{z:Str}{td:b5}(hm:m.length<=100)(hw:∀w∈m++z::Q7 r,W5 w)(te:T4 [.list (m.map .str)]=some (.dat td)):B5 [.str (p9 (b6 "when"::(m++z::Q7 r)))]=some (.dat .none):=by
 have ww:∀w∈b6 "when"::(m++z::Q7 r),W5 w:=λw hw'=>by
  rcases List.mem_cons.mp hw' with rfl|h
  . exact N5 (by decide +kernel) (by decide +kernel)
  . exact hw w h
 have ll:(b6 "when"::(m++z::Q7 r)).length=m.length+7:=by rw[J2,A0];rfl
 have sp:=bH (ws:=b6 "when"::(m++z::Q7 r)) (by simp) (by omega) (λw hw=>(ww w hw).len) (λw hw=>(ww w hw).no)
 have de:=IT r (hw z (by simp)).ok
 have e1:(b6 "when"::(m++z::Q7 r)).map h7=.str (b6 "when")::(m.map .str++(z::Q7 r).map .str):=by rw[o5,P2]
 have c1:=zl (h7 (b6 "when")) (m.map .str) ((z::Q7 r).map .str) rfl;have c2:=wg (h7 (b6 "when")) (m.map .str) ((z::Q7 r).map .str) rfl;have ln:¬((((h7 (b6 "when")::(m.map .str++(z::Q7 r).map .str)).length:Nat)):Int)<=6:=by rw[<-e1,m9];omega
 rw[e1]at sp;unfold B5 p9;walk_at "t";rw[sp];generalize m.map h7=am at *;generalize (z::Q7 r).map h7=sm at *;walk_at "t";rw[e7 (show ¬((((am++sm).length+1:Nat)):Int)<=6 from ln)]
 walk_at "t";rw[show u5 (.list (h7 (b6 "when")::(am++sm))) (some 1) (some (-6))=some (.own (cutD (h7 (b6 "when")::(am++sm)) (some 1) (some (-6))))from rfl,c1]
 walk_at "t";rw[te];walk_at "t";rw[show u5 (.list (h7 (b6 "when")::(am++sm))) (some (-6)) none=some (.own (cutD (h7 (b6 "when")::(am++sm)) (some (-6)) none))from rfl,c2]
 walk_at "t";rw[de];walk_at "t";generalize A6 td=b;cases b<;>walk_at "t"
theorem Oa{r:Rl}(h:Y1 r):B5 [.str (p9 (v5 r).dropLast)]=some (.dat .none):=by
 have wl:∀w∈(v5 r).dropLast,W5 w:=λw hw=>dF h w (Kf _ hw)
 have hts:=h.ts;have htl:=h.tl;rw[IQ]at wl ⊢;have wa:∀w∈m3 r.ts++Q7 r,W5 w:=λw hw=>wl w (o8 _ hw)
 rcases List.eq_nil_or_concat r.ts with e|⟨ts,x,e⟩
 . rw[e]at wl ⊢;have sp:=bH (ws:=b6 "when"::(m3 []++Q7 r)) (by simp) (by show 6<=700;decide) (λw hw=>(wl w hw).len) (λw hw=>(wl w hw).no)
   unfold B5 p9;walk_at "t";rw[sp];rfl
 . rw[List.concat_eq_append]at e;rw[e]at hts htl wa ⊢;have ix:m3 [x]=n8 x:=by show n8 x++[]=_;simp
   have ht:∀y∈ts,hU y:=λy hy=>hts y (ao _ hy)
   have hl6:ts.length<=6:=by rw[A0]at htl;simp at htl;omega
   have al:=fR ts;rw[nc,ix]at wa ⊢;have one:∀w:Str,n8 x=[w]->B5 [.str (p9 (b6 "when"::((m3 ts++n8 x)++Q7 r)))]=some (.dat .none):=λw ew=>by rw[ew]at wa ⊢;rw[ak]at wa ⊢;exact Ji (by omega) wa (xH ht hl6)
   have two:∀w v:Str,n8 x=[w,v]->([b6 "dark",b6 "sunny"].any λy=>y==w)=false->B5 [.str (p9 (b6 "when"::((m3 ts++n8 x)++Q7 r)))]=some (.dat .none):=λw v ew hb=>by
    rw[ew]at wa ⊢;rw[show m3 ts++[w,v]++Q7 r=(m3 ts++[w])++v::Q7 r by simp]at wa ⊢
    refine Ji (by rw[A0,eX];omega) wa (td:=.none) ?_
    rw[P2];exact Bg ht hl6 hb
   cases x with
   |dark=>exact one _ rfl
   |sunny=>exact one _ rfl
   |_ n=>exact two _ _ rfl (by decide +kernel)
section
variable{α:Type}
noncomputable def M6(k:Str)(A:List (Str×α)):Option α:=(A.find? λe=>decide (e.1=k)).map (·.2)
noncomputable def fA(A:List (Str×α))(k:Str)(v:α):List (Str×α):=if (A.any λe=>decide (e.1=k))=true then A.map (λe=>if e.1=k then(e.1,v)else e)else A++[(k,v)]
noncomputable def jU(A:List (Str×α))(k:Str):List (Str×α):=A.filter λe=>decide (e.1≠k)
noncomputable def mapA(f:α->b5)(A:List (Str×α)):List (Str×b5):=A.map λe=>(e.1,f e.2)
theorem bM(f:α->b5)(k:Str)(A:List (Str×α)):M7 k (mapA f A)=(M6 k A).map f:=by unfold M7 M6 mapA;rw[List.find?_map,zX,zX];rfl
theorem BW(f:α->b5)(k:Str)(v:α)(A:List (Str×α)):qW (mapA f A) k (f v)=mapA f (fA A k v):=by
 unfold qW fA mapA;rw[zG];show(if (A.any λe=>decide (e.1=k))=true then _ else _)=_
 split
 . rw[Z2,Z2];refine List.map_congr_left λe _=>?_
   show(if e.1=k then(e.1,f v)else(e.1,f e.2))=_
   by_cases c:e.1=k
   . rw[d9 c,JV,d9 c]
   . rw[e7 c,JV,e7 c]
 . rw[P2];rfl
theorem zj(f:α->b5)(k:Str)(A:List (Str×α)):mS (mapA f A) k=mapA f (jU A k):=by unfold mS jU mapA;rw[List.filter_map];rfl
theorem Nc{k:Str}{A:List (Str×α)}{v:α}(h:M6 k A=some v):∃e∈A,e.2=v:=by unfold M6 at h;obtain⟨e,h1,h2⟩:=Option.map_eq_some_iff.mp h;exact⟨e,List.mem_of_find?_eq_some h1,h2⟩
theorem QC{k:Str}{A:List (Str×α)}{v:α}{e:Str×α}(h:e∈fA A k v):e∈A\/e.2=v:=by
 unfold fA at h;split at h
 . obtain⟨x,hx,rfl⟩:=mem_map.mp h;split
   . exact .inr rfl
   . exact .inl hx
 . rcases List.mem_append.mp h with h|h
   . exact .inl h
   . rw[mem_singleton.mp h];exact .inr rfl
theorem QD{k:Str}{A:List (Str×α)}{v:α}:(fA A k v).length<=A.length+1:=by
 unfold fA;split
 . rw[m9];omega
 . rw[A0];exact C6 _
end
noncomputable abbrev W4(K:List Rl):b5:=.tuple (K.map L3)
noncomputable abbrev iS(K:List Rl):b5:=.list (K.map λr=>.str (m8 r))
noncomputable abbrev Ks:=List (Str×List Rl)
noncomputable def aN(h:q9)(A:Ks):List (Str×PF):=[(b6 "house",.dat (o7 h)),(b6 "keepers",.dct (mapA W4 A))]
noncomputable def i5(h:q9)(A:Ks):OD:=.ins (b6 "Desk") (aN h A)
noncomputable def N1(A:Ks):OD:=.dct (mapA iS A)
structure Kp(n:Nat)(A:Ks):Prop where
 ok:∀e∈A,(∀r∈e.2,Y1 r)/\e.2.length<=20
 len:A.length<=n
theorem Kp.look{n:Nat}{A:Ks}(h:Kp n A){k:Str}{K:List Rl}(e:M6 k A=some K):(∀r∈K,Y1 r)/\K.length<=20:=by obtain⟨x,hx,rfl⟩:=Nc e;exact h.ok x hx
theorem Kp.put{n:Nat}{A:Ks}(h:Kp n A)(k:Str){K:List Rl}(h1:∀r∈K,Y1 r)(h2:K.length<=20):Kp (n+1) (fA A k K):=⟨λe he=>by
 rcases QC he with he|he
 . exact h.ok e he
 . rw[he];exact⟨h1,h2⟩,by have:=QD (k:=k) (A:=A) (v:=K);have:=h.len;omega⟩
theorem Kp.drop{n:Nat}{A:Ks}(h:Kp n A)(k:Str):Kp n (jU A k):=⟨λe he=>h.ok e (List.mem_filter.mp he).1,t4 (Kv _ _) h.len⟩
theorem Kp.mono{n m:Nat}{A:Ks}(h:Kp n A)(l:n<=m):Kp m A:=⟨h.ok,t4 h.len l⟩
theorem Sb(h:q9)(A:Ks):gU (b6 "Desk") (b6 "keepers") (i5 h A)=some (mapA W4 A):=by
 show(if b6 "Desk" = b6 "Desk" then(G4 (b6 "keepers") (aN h A)).bind dctP else none)=_
 rw[d9 rfl];unfold aN G4;rw[e7 (by rw[u9];decide)]
 unfold G4;rw[d9 rfl];rfl
theorem IB(h:q9)(A:Ks):G4 (b6 "house") (aN h A)=some (.dat (o7 h)):=by unfold aN G4;rw[d9 rfl]
theorem CP(h:q9)(A B:Ks):oI (b6 "keepers") (i5 h A) (mapA W4 B)=i5 h B:=by
 show OD.ins _ (ar (b6 "keepers") (.dct (mapA W4 B)) (aN h A))=_
 unfold aN ar;rw[e7 (by rw[u9];decide)]
 unfold ar;rw[d9 rfl];rfl
theorem mD(w:Option Addr)(h:q9)(A:Ks)(r:Ds):ko 0 (gU (b6 "Desk") (b6 "keepers")) (some (.ob w (i5 h A))::r)=some ((w,i5 h A),mapA W4 A):=by
 unfold ko;rw[pQ];show(gU (b6 "Desk") (b6 "keepers") (i5 h A)).bind (λes=>some ((w,i5 h A),es))=_
 rw[Sb];rfl
theorem Ob(ds:Ds):∀l:List b5,dB ds (l.map AV.d)=some (l.map .dat)
 | []=>rfl
 |d::l=>by
  show(dB ds (l.map AV.d)).bind _=_
  rw[Ob ds l];rfl
theorem LK:∀l:List b5,L1 (l.map AV.d)=[]
 | []=>rfl
 |d::l=>LK l
theorem DW(ds:Ds):∀(l:List b5) (ns:Ds),cO (l.map AV.d) ns ds=ds
 | [],ns=>by cases ns<;>rfl
 |d::l,[]=>rfl
 |d::l,x::ns=>DW ds l ns
section
variable{f:eQ}{fo:List PV->Option (PV×Ds)}{Fl:Ds->Option (List AV)}{ds:Ds}{l:List b5}{w:Option Addr}{c c2:OD}{r:PV ⊕ b5}{pv:PV}{ns:Ds}{i:Nat}
theorem NY(h0:ds[i]? = some (some (.ob w c)))(hl:Fl ds=some (l.map AV.d))(hf:f (.ob none c::l.map .dat)=some (r,some (.ob none c2)::ns)):iw f (B1 i Fl) ds=some (r,ds.set i (some (.ob w c2))):=by
 unfold iw B1;rw[h0];show((Fl ds).bind λl=>some (AV.s i::l)).bind _=_
 rw[hl];show(if (i::L1 (l.map AV.d)).Nodup then(dB ds (AV.s i::l.map AV.d)).bind _ else none)=_
 rw[LK,d9 (by simp)]
 unfold dB;rw[h0];show((dB ds (l.map AV.d)).bind _).bind _=_
 rw[Ob];show(f (.ob none c::l.map .dat)).bind _=_
 rw[hf];show some (r,cO (l.map AV.d) ns (ds.set i (sr (some (.ob none c2)) ds[i]?)))=_
 rw[DW,h0];rfl
theorem call_of(h0:ds[i]? = some (some (.ob w c)))(hl:Fl ds=some (l.map AV.d))(hf:fo (.ob none c::l.map .dat)=some (pv,some (.ob none c2)::ns)):F5 fo (B1 i Fl) ds=some (pv,ds.set i (some (.ob w c2))):=by
 unfold F5 B1;rw[h0];show((Fl ds).bind λl=>some (AV.s i::l)).bind _=_
 rw[hl];show(if (i::L1 (l.map AV.d)).Nodup then(dB ds (AV.s i::l.map AV.d)).bind _ else none)=_
 rw[LK,d9 (by simp)]
 unfold dB;rw[h0];show((dB ds (l.map AV.d)).bind _).bind _=_
 rw[Ob];show(fo (.ob none c::l.map .dat)).bind _=_
 rw[hf];show some (pv,cO (l.map AV.d) ns (ds.set i (sr (some (.ob none c2)) ds[i]?)))=_
 rw[DW,h0];rfl
end
theorem iP{m:Str}{f:eQ}{Fl:Ds->Option (List AV)}{ds:Ds}{l:List b5}{w:Option Addr}{h:q9}{A B:Ks}{r:PV ⊕ b5}{ns:Ds}(h0:ds[0]? = some (some (.ob w (i5 h A))))(hl:Fl ds=some (l.map AV.d))(hm:¬b6 "house" = m/\¬b6 "keepers" = m)(hf:f (.ob none (i5 h A)::l.map .dat)=some (r,some (.ob none (i5 h B))::ns)):dP (b6 "Desk") m 0 f Fl ds=some (r,ds.set 0 (some (.ob w (i5 h B)))):=by
 unfold dP iO;rw[h0];show(if b6 "Desk" = b6 "Desk" then some (w,aN h A)else none).bind _=_
 rw[d9 rfl];have e:G4 m (aN h A)=none:=by unfold aN G4;rw[e7 hm.1];unfold G4;rw[e7 hm.2];rfl
 show(match G4 m (aN h A)with|none=>iw f (B1 0 Fl) ds|some _=>none)=_
 rw[e];exact NY h0 hl hf
theorem Bx{c:Nat}(h:Ct c=true)(ds:Ds):gf (some (.dat (.str ⟨#[c]⟩))::ds)=some (.dat (.bool true)):=by
 have e:(P9 inD Z8) (.str ⟨#[c]⟩) (.str (b6 "abcdefghijklmnopqrstuvwxyz"))=some (.dat (.bool true)):=by
  show some (PV.dat (.bool (tE (b6 "abcdefghijklmnopqrstuvwxyz") ⟨#[c]⟩)))=_
  rw[iY,K8 (Cr h)]
 exact e
theorem qI:∀l:List Bool,boolsOf (l.map .bool)=some l
 | []=>rfl
 |b::l=>by
  show(boolsOf (l.map .bool)).bind _=_
  rw[qI l];rfl
theorem Jk(l:List Nat):vo [.list (l.map λ_=>.bool true)]=some (.dat (.bool true)):=by
 have e:(l.map λ_=>PyData.bool true)=(l.map λ_=>true).map .bool:=by rw[Z2];rfl
 show(boolsOf (l.map λ_=>PyData.bool true)).bind _=_
 rw[e,qI];simp
theorem Iw{z:Str}(N:Nm z):gP [.str z]=some (.dat (.bool true)):=by
 have hl:=t9 z;have h8:=N.len;have h0:0<(lz z).length:=List.length_pos_iff.mpr N.ne;have cm:∀ds:Ds,L8 t5 w4 gf ds ((lz z).map λc=>.str ⟨#[c]⟩)=some ((lz z).map λ_=>.bool true):=λds=>comp_map λc hc=>⟨.dat (.bool true),Bx (List.all_eq_true.mp N.all c hc) ds,rfl⟩
 unfold gP;walk_at "t";rw[rA (by omega),show(bu:b5)=.int 8 from rfl]
 walk_at "t";rw[d9 (show(0:Int)<(z.length:Nat)/\((z.length:Nat):Int)<=8 by omega),show signs z=(lz z).map λc=>.str ⟨#[c]⟩from rfl,d9 (by rw[m9];omega),cm]
 walk_at "t";rw[Jk];walk_at "t"
theorem ou(ws:List Str):lz (p9 ws)=(match ws with | []=>[]|w::r=>lz w++(r.map λx=>32::lz x).flatten):=by
 unfold p9;rw[show S9 ⟨#[32]⟩ ws=lr ⟨#[32]⟩ ws from glued_eq_join _ _,qe]
 rfl
theorem WB{a b:Str}{r:List Str}{s:String}(h:(decide (32∈lz (b6 s)))=false):¬p9 (a::b::r)=b6 s:=λe=>by
 have:32∈lz (p9 (a::b::r)):=by rw[ou];simp
 rw[e]at this;exact absurd this (of_decide_eq_false h)
theorem Gh{w:Str}(h:aI w):∀c∈lz w,c<1114112:=by
 unfold aI tD at h;rw[JI]at h;intro c hc;have:=h c (by unfold lz at hc;simpa using hc)
 simp at this;omega
theorem nW{ws:List Str}(h:∀w∈ws,W5 w):aI (p9 ws):=kH λc hc=>by
 rw[ou]at hc;cases ws with
 |nil=>cases hc
 |cons w r =>
  rcases List.mem_append.mp hc with hc|hc
  . exact Gh (h w o2).ok c hc
  . obtain⟨l,hl,hc⟩:=List.mem_flatten.mp hc;obtain⟨x,hx,rfl⟩:=mem_map.mp hl;rcases List.mem_cons.mp hc with rfl|hc
    . decide
    . exact Gh (h x (o8 _ hx)).ok c hc
theorem uY{a:Str}{ws:List Str}(h:ws≠[]):(a++b6 " ")++p9 ws=p9 (a::ws):=W2 (by
 rw[W3,W3,ou,ou,xN];cases ws with
 |nil=>exact absurd rfl h
 |cons w r=>simp[lz])
theorem HY(a:Str):p9 [a]=a:=W2 (by rw[ou];simp)
theorem oS(a b c:Str):a++b++c=a++(b++c):=W2 (by simp only[W3,ak])
section
variable{E:aJ}
noncomputable abbrev G5(K:List Rl):List b5:=K.map λr=>.str (m8 r)
theorem qr{r:Rl}{n:Nat}{done:List b5}{r0 y4:Option PV}{z:Str}(rr:B5 [.str z]=some (.dat (L3 r)))(hn:n<20)(hd:done.length<=100):B0 E [r0,some (.own done),iD (n:Int),some (.dat (.str z)),y4]=some (.next [r0,some (.own (done++[L3 r])),iD (n:Int),some (.dat (.str z)),some (.dat (L3 r))]):=by
 have nn:A6 (L3 r)=false:=rfl;generalize L3 r=rd at *;unfold B0;walk_at "t";rw[rr];walk_at "t";rw[nn];walk_at "t";rw[e7 (by omega)]
 walk_at "t";rw[W0 _ (l:=done) rfl (by omega)]
 rfl
theorem LI{n:Nat}(h:n<=20):nX (.int (n:Int))=true:=K8 (by
 have:=Nat.log2_le_self n;show((n:Int).natAbs).log2<1920
 rw[Int.natAbs_natCast];omega)
theorem WQ{d:b5}{n:Nat}{done:List b5}{r0 y4:Option PV}{z:Str}(rr:B5 [.str z]=some (.dat d))(hn:n<=20)(hb:A6 d=true\/n=20):B0 E [r0,some (.own done),iD (n:Int),some (.dat (.str z)),y4]=some (.up (J4 E.t (b6 "place") (.int (n:Int)))):=by
 have sm:=LI hn;have up:∀y,yT nX E.t (b6 "place") (a9 (b7 2) c7) [r0,some (.own done),iD (n:Int),some (.dat (.str z)),y]=some (.up (J4 E.t (b6 "place") (.int (n:Int)))):=λy=>by
  show(if nX (.int (n:Int))=true then _ else _)=_
  rw[d9 sm];rfl
 unfold B0;walk_at "t";rw[rr];walk_at "t";by_cases c:A6 d=true
 . rw[c];walk_at "t";rw[up];rfl
 . rw[Bool.eq_false_iff.mpr c];walk_at "t";rw[d9 (by rcases hb with h|h;exact absurd h c;omega),up]
   rfl
theorem Gw(rest:List b5)(r0:Option PV):∀(todo done:List Rl) (y2 y3 y4:Option PV),(∀r∈todo,Y1 r)->done.length+todo.length<=20 ->
  ∃z2 z3 z4,M3 (mm 2 (aK 2 (aK 3 mn))) (B0 E) (U7 (done.length:Int) (G5 todo++rest)) [r0,some (.own (done.map L3)),y2,y3,y4]=M3 (mm 2 (aK 2 (aK 3 mn))) (B0 E) (U7 ((done++todo).length:Int) rest) [r0,some (.own ((done++todo).map L3)),z2,z3,z4]
 | [],done,y2,y3,y4,_,_=>⟨y2,y3,y4,by rw[Q8];rfl⟩
 |r::todo,done,y2,y3,y4,h,hl=>by
  rw[J2]at hl;obtain⟨z2,z3,z4,e⟩:=Gw rest r0 todo (done++[r]) (iD (done.length:Int)) (some (.dat (.str (m8 r)))) (some (.dat (L3 r))) (λx hx=>h x (o8 _ hx)) (by rw[A0,eX];omega)
  refine⟨z2,z3,z4,?_⟩;have B:=qr (E:=E) (n:=done.length) (done:=done.map L3) (r0:=r0) (y4:=y4) (bJ (h r o2)) (by omega) (by rw[m9];omega)
  rw[show U7 (done.length:Int) (G5 (r::todo)++rest)=.tuple [.int (done.length:Int),.str (m8 r)]::U7 ((done.length:Int)+1) (G5 todo++rest)from rfl,V8 (ds1:=[r0,some (.own (done.map L3)),iD (done.length:Int),some (.dat (.str (m8 r))),y4]) rfl B]
  rw[ak]at e;rw[<-show(done++r::todo)=done++([r]++todo)from rfl]at e
  rw[<-e,P2,A0];rfl
theorem OL{K:List Rl}(h:∀r∈K,Y1 r)(hl:K.length<=20)(z:Str){o:Option Out}(ho:∀y2 y3 y4,M3 (mm 2 (aK 2 (aK 3 mn))) (B0 E) [.tuple [.int (K.length:Int),.str z]] [some (.dat (.list (G5 K++[.str z]))),some (.own (K.map L3)),y2,y3,y4]=o):
  E3 E [.list (G5 K++[.str z])]=(Q3 o (k8 (K2 (d6 cM (a9 (b7 1) c7))))).bind Ux:=by
 obtain⟨z2,z3,z4,e⟩:=Gw (E:=E) [.str z] (some (.dat (.list (G5 K++[.str z])))) K [] none none none h (by simpa using hl)
 rw[ai]at e;have e2:=e.trans (ho z2 z3 z4);rw[<-e2];rfl
theorem VZ{K:List Rl}{r:Rl}(h:∀r∈K,Y1 r)(hl:K.length<20)(hr:Y1 r):E3 E [.list (G5 K++[.str (m8 r)])]=some (.inl (.dat (W4 (K++[r])))):=by
 rw[OL h (by omega) (m8 r) (o:=M3 (mm 2 (aK 2 (aK 3 mn))) (B0 E) [.tuple [.int (K.length:Int),.str (m8 r)]] [some (.dat (.list (G5 K++[.str (m8 r)]))),some (.own (K.map L3)),none,none,none]) λy2 y3 y4=>?_]
 . rw[V8 (ds1:=[some (.dat (.list (G5 K++[.str (m8 r)]))),some (.own (K.map L3)),iD (K.length:Int),some (.dat (.str (m8 r))),none]) rfl (qr (bJ hr) hl (by rw[m9];omega))]
   show some (ba (PV.dat (.tuple (K.map L3++[L3 r]))))=_
   rw[show W4 (K++[r])=.tuple (K.map L3++[L3 r]) by rw[W4,P2];rfl]
 . rw[V8 (ds1:=[some (.dat (.list (G5 K++[.str (m8 r)]))),some (.own (K.map L3)),iD (K.length:Int),some (.dat (.str (m8 r))),y4]) rfl (qr (bJ hr) hl (by rw[m9];omega)),
     V8 (ds1:=[some (.dat (.list (G5 K++[.str (m8 r)]))),some (.own (K.map L3)),iD (K.length:Int),some (.dat (.str (m8 r))),none]) rfl (qr (bJ hr) hl (by rw[m9];omega))]
theorem VY{K:List Rl}{z:Str}{d:b5}(h:∀r∈K,Y1 r)(hl:K.length<=20)(rr:B5 [.str z]=some (.dat d))(hb:A6 d=true\/K.length=20):E3 E [.list (G5 K++[.str z])]=some (.inr (J4 E.t (b6 "place") (.int (K.length:Int)))):=by
 rw[OL h hl z (o:=some (.up (J4 E.t (b6 "place") (.int (K.length:Int))))) λy2 y3 y4=>?_]
 . rfl
 . show((B0 E [some (.dat (.list (G5 K++[.str z]))),some (.own (K.map L3)),iD (K.length:Int),some (.dat (.str z)),y4]).bind _)=_
   rw[WQ rr hl hb];rfl
end
noncomputable abbrev Cj:List b5:=[.str (b6 "ok")]
noncomputable abbrev D5(A:Ks)(nm:Str):List Rl:=(M6 nm A).getD []
theorem yQ{w:Option Addr}{h:q9}{A:Ks}{a:Option PV}{nm:Str}{r:Ds}:fN 0 (gU (b6 "Desk") (b6 "keepers")) (b7 2) (D9 c7) (some (.ob w (i5 h A))::a::some (.dat (.str nm))::r)=some (.dat (W4 (D5 A nm))):=by
 unfold fN;rw[mD];show some (PV.dat ((M7 nm (mapA W4 A)).getD (.tuple [])))=_
 rw[bM];unfold D5;cases M6 nm A<;>rfl
theorem vf{w:Option Addr}{h:q9}{A:Ks}{a:Option PV}{nm:Str}{r:Ds}:oF 0 (gU (b6 "Desk") (b6 "keepers")) (b7 2) (some (.ob w (i5 h A))::a::some (.dat (.str nm))::r)=some (.dat (((M6 nm A).map W4).getD .none)):=by
 unfold oF;rw[mD];show some (PV.dat ((M7 nm (mapA W4 A)).getD .none))=_
 rw[bM]
theorem QE{w:Option Addr}{h:q9}{A:Ks}{a b c:Option PV}{nm:Str}{K:List Rl}(hl:A.length<100000):gr 0 (gU (b6 "Desk") (b6 "keepers")) (oI (b6 "keepers")) (b7 2) (b7 5) [some (.ob w (i5 h A)),a,some (.dat (.str nm)),b,c,some (.dat (W4 K))]=some (.next [some (.ob w (i5 h (fA A nm K))),a,some (.dat (.str nm)),b,c,some (.dat (W4 K))]):=by
 unfold gr;rw[mD];show(if (mapA W4 A).length<100000 then some (Out.next [some (.ob w (oI (b6 "keepers") (i5 h A) (qW (mapA W4 A) nm (W4 K)))),a,some (.dat (.str nm)),b,c,some (.dat (W4 K))])else none)=_
 rw[d9 (by unfold mapA;rw[m9];exact hl),BW,CP]
theorem QR{w:Option Addr}{h:q9}{A:Ks}{a b c:Option PV}{nm:Str}{K:List Rl}(hk:M6 nm A=some K):gu 0 (gU (b6 "Desk") (b6 "keepers")) (oI (b6 "keepers")) (b7 2) [some (.ob w (i5 h A)),a,some (.dat (.str nm)),b,c]=some (.next [some (.ob w (i5 h (jU A nm))),a,some (.dat (.str nm)),b,c]):=by
 unfold gu;rw[mD];show((M7 nm (mapA W4 A)).bind λ_=>some (Out.next [some (.ob w (oI (b6 "keepers") (i5 h A) (mS (mapA W4 A) nm))),a,some (.dat (.str nm)),b,c]))=_
 rw[bM,hk,zj,CP];rfl
theorem fM{t:Nat->Addr}{c c2:OD}{l:List b5}{ds:Ds}(hd:l.length<=ds.length):u6 t 0 (.ob none c::l.map .dat) (some (.ob (some (t 0)) c2)::ds)=some (.ob none c2)::l.map λ_=>none:=by
 show(if some (t 0)=some (t 0)then some (PV.ob none c2)else none)::u6 t 1 (l.map .dat) ds=_
 rw[d9 rfl]
 congr 1
 generalize 1=n;induction l generalizing ds n with
 |nil=>rfl
 |cons d l ih=>cases ds with
  |nil=>cases hd
  |cons x ds=>exact m5 (none::·) (ih (by simpa using hd) (n+1))
theorem ej{Ft:Ds->Option Bool}{G1 G2:Ds->Option Out}{ds:Ds}(h:Ft ds=some true):r9 Ft G1 G2 ds=G1 ds:=by unfold r9;rw[h];rfl
theorem aM{Ft:Ds->Option Bool}{G1 G2:Ds->Option Out}{ds:Ds}(h:Ft ds=some false):r9 Ft G1 G2 ds=G2 ds:=by unfold r9;rw[h];rfl
theorem dG{G1 G2:Ds->Option Out}{ds ds':Ds}{pv:PV}(h:G1 ds=some (.retO pv ds')):d5 G1 G2 ds=some (.retO pv ds'):=by unfold d5;rw[h];rfl
theorem Gg{G1 G2:Ds->Option Out}{ds ds':Ds}{x:b5}{b:Bool}(h:G1 ds=some (.upO b x ds')):d5 G1 G2 ds=some (.upO b x ds'):=by unfold d5;rw[h];rfl
theorem eq_1{a:Option PV}{x y:Str}{r:Ds}:f9 (b9 o3 (b7 1) (fC (.str y))) (a::some (.dat (.str x))::r)=some (decide (x=y)):=rfl
theorem MP{a b:String}(h:decide (a=b)=false):decide (b6 a=b6 b)=false:=by simp only[u9];exact h
section
variable{E:aJ}{h:q9}{A:Ks}{n:Nat}
theorem Qs{L nm:Str}{r:Rl}(HA:Kp n A)(hn:n<100000)(hl:(D5 A nm).length<20)(hr:Y1 r):
  P7 E [.ob none (i5 h A),.dat (.str L),.dat (.str nm),.dat (.str (m8 r))]=some (.inl (.own Cj),[some (.ob none (i5 h (fA A nm (D5 A nm++[r])))),none,none,none]):=by
 have hK:∀r∈D5 A nm,Y1 r:=by
  unfold D5;cases e:M6 nm A with
  |none=>exact λr hr=>nomatch hr
  |some K=>exact(HA.look e).1
 have sh:=nY hK (by omega)
 have rk:=VZ (E:=E) hK hl hr;refine fL rfl λt=>?_
 show(d5 _ _ [some (.ob (some (t 0)) (i5 h A)),some (.dat (.str L)),some (.dat (.str nm)),some (.dat (.str (m8 r))),none,none]).bind _=_
 rw[g8 (ds':=[some (.ob (some (t 0)) (i5 h A)),some (.dat (.str L)),some (.dat (.str nm)),some (.dat (.str (m8 r))),some (.dat (.list (G5 (D5 A nm)))),none]) (R4 (pv:=.own (G5 (D5 A nm))) (by unfold d6 a9;rw[yQ];exact sh))]
 rw[g8 (ds':=[some (.ob (some (t 0)) (i5 h A)),some (.dat (.str L)),some (.dat (.str nm)),some (.dat (.str (m8 r))),some (.dat (.list (G5 (D5 A nm)))),some (.dat (W4 (D5 A nm++[r])))]) (by
  show((((i6 (.list (G5 (D5 A nm))) (.list [.str (m8 r)])).bind λx=>some [x.d]).bind λl=>(E3 E l).bind _))=_
  rw[bP (by rw[m9,eX];omega)]
  show(E3 E [.list (G5 (D5 A nm)++[.str (m8 r)])]).bind _=_
  rw[rk];rfl)]
 rw[g8 (QE (by have:=HA.len;omega))]
 show mC _ t (.retO (.own Cj) _)=_
 show some (ba _,u6 t 0 (.ob none (i5 h A)::[h7 L,.str nm,.str (m8 r)].map .dat) _)=_
 rw[fM (by simp)]
 rfl
theorem BP{L nm z:Str}{d:b5}(HA:Kp n A)(hL:L.length<=100000)(rr:B5 [.str z]=some (.dat d))(hb:A6 d=true\/(D5 A nm).length=20):
  P7 E [.ob none (i5 h A),.dat (.str L),.dat (.str nm),.dat (.str z)]=some (.inr (J4 E.l (b6 "line") (.str L)),[some (.ob none (i5 h A)),none,none,none]):=by
 have hK:(∀r∈D5 A nm,Y1 r)/\(D5 A nm).length<=20:=by
  unfold D5;cases e:M6 nm A with
  |none=>exact And.intro (λr hr=>nomatch hr) (fe _)
  |some K=>exact HA.look e
 have sh:=nY hK.1 hK.2;have rk:=VY (E:=E) hK.1 hK.2 rr hb;have sd:aq (.str L)=true:=K8 hL;refine fL rfl λt=>?_
 show(d5 _ _ [some (.ob (some (t 0)) (i5 h A)),some (.dat (.str L)),some (.dat (.str nm)),some (.dat (.str z)),none,none]).bind _=_
 rw[g8 (ds':=[some (.ob (some (t 0)) (i5 h A)),some (.dat (.str L)),some (.dat (.str nm)),some (.dat (.str z)),some (.dat (.list (G5 (D5 A nm)))),none]) (R4 (pv:=.own (G5 (D5 A nm))) (by unfold d6 a9;rw[yQ];exact sh))]
 have tr:sH aq E.t E.l (b6 "line") 5 (E3 E) (a9 (b9 i6 (b7 4) (o6 (a9 (b7 3) c7))) c7) (a9 (b7 1) c7) [some (.ob (some (t 0)) (i5 h A)),some (.dat (.str L)),some (.dat (.str nm)),some (.dat (.str z)),some (.dat (.list (G5 (D5 A nm)))),none]=some (.upO true (J4 E.l (b6 "line") (.str L)) [some (.ob (some (t 0)) (i5 h A)),some (.dat (.str L)),some (.dat (.str nm)),some (.dat (.str z)),some (.dat (.list (G5 (D5 A nm)))),none]):=by
  show((((i6 (.list (G5 (D5 A nm))) (.list [.str z])).bind λx=>some [x.d]).bind λl=>(E3 E l).bind _))=_
  rw[bP (by rw[m9,eX];omega)]
  show(E3 E [.list (G5 (D5 A nm)++[.str z])]).bind _=_
  rw[rk];have ie:isExc E.t (J4 E.t (b6 "place") (.int ((D5 A nm).length:Int)))=true:=jD _;show(if isExc E.t (J4 E.t (b6 "place") (.int ((D5 A nm).length:Int)))=true then(if aq (.str L)=true then some (Out.upO true (J4 E.l (b6 "line") (.str L)) _)else none)else none)=_
  rw[d9 ie,d9 sd]
 rw[Gg tr];show some (bU _,u6 t 0 (.ob none (i5 h A)::[h7 L,.str nm,.str z].map .dat) _)=_
 rw[fM (by simp)]
 rfl
theorem Ik{w nm:Str}(hm:nm.length<=100000)(hk:M6 nm A=none):
  G0 E [.ob none (i5 h A),.dat (.str w),.dat (.str nm)]=some (.inr (J4 E.k (b6 "name") (.str nm)),[some (.ob none (i5 h A)),none,none]):=by
 have sd:aq (.str nm)=true:=K8 hm;refine fL rfl λt=>?_
 show(d5 _ _ [some (.ob (some (t 0)) (i5 h A)),some (.dat (.str w)),some (.dat (.str nm)),none,none]).bind _=_
 rw[g8 (ds':=[some (.ob (some (t 0)) (i5 h A)),some (.dat (.str w)),some (.dat (.str nm)),some (.dat .none),none]) (R4 (pv:=.dat .none) (by rw[vf,hk];rfl))]
 have up:ic aq E.k (b6 "name") (a9 (b7 2) c7) [some (.ob (some (t 0)) (i5 h A)),some (.dat (.str w)),some (.dat (.str nm)),some (.dat .none),none]=some (.upO false (J4 E.k (b6 "name") (.str nm)) [some (.ob (some (t 0)) (i5 h A)),some (.dat (.str w)),some (.dat (.str nm)),some (.dat .none),none]):=by
  show(if aq (.str nm)=true then some (Out.upO false (J4 E.k (b6 "name") (.str nm)) _)else none)=_
  rw[d9 sd]
 have gi:r9 (f9 (b9 aF (b7 3) (fC .none))) (ic aq E.k (b6 "name") (a9 (b7 2) c7)) j7 [some (.ob (some (t 0)) (i5 h A)),some (.dat (.str w)),some (.dat (.str nm)),some (.dat .none),none]=_:=up;rw[Gg gi];show some (bU _,u6 t 0 (.ob none (i5 h A)::[h7 w,.str nm].map .dat) _)=_
 rw[fM (by simp)]
 rfl
theorem Bw{nm:Str}{K:List Rl}(hk:M6 nm A=some K):
  G0 E [.ob none (i5 h A),.dat (.str (b6 "drop")),.dat (.str nm)]=some (.inl (.own Cj),[some (.ob none (i5 h (jU A nm))),none,none]):=by
 refine fL rfl λt=>?_
 show(d5 _ _ [some (.ob (some (t 0)) (i5 h A)),some (.dat (.str (b6 "drop"))),some (.dat (.str nm)),none,none]).bind _=_
 rw[g8 (ds':=[some (.ob (some (t 0)) (i5 h A)),some (.dat (.str (b6 "drop"))),some (.dat (.str nm)),some (.dat (W4 K)),none]) (R4 (pv:=.dat (W4 K)) (by rw[vf,hk];rfl)),g8 (ds':=[some (.ob (some (t 0)) (i5 h A)),some (.dat (.str (b6 "drop"))),some (.dat (.str nm)),some (.dat (W4 K)),none]) rfl]
 rw[dG (pv:=.own Cj) (ds':=[some (.ob (some (t 0)) (i5 h (jU A nm))),some (.dat (.str (b6 "drop"))),some (.dat (.str nm)),some (.dat (W4 K)),none]) (by rw[ej (eq_1.trans (m5 some (K8 rfl))),g8 (QR hk)];rfl)]
 show some (ba _,u6 t 0 (.ob none (i5 h A)::[h7 (b6 "drop"),.str nm].map .dat) _)=_
 rw[fM (by simp)]
 rfl
theorem Bu{nm:Str}{K:List Rl}(HA:Kp n A)(hk:M6 nm A=some K):
  G0 E [.ob none (i5 h A),.dat (.str (b6 "keeper")),.dat (.str nm)]=some (.inl (.own (G5 K)),[some (.ob none (i5 h A)),none,none]):=by
 have sh:=nY (HA.look hk).1 (HA.look hk).2;refine fL rfl λt=>?_
 show(d5 _ _ [some (.ob (some (t 0)) (i5 h A)),some (.dat (.str (b6 "keeper"))),some (.dat (.str nm)),none,none]).bind _=_
 rw[g8 (ds':=[some (.ob (some (t 0)) (i5 h A)),some (.dat (.str (b6 "keeper"))),some (.dat (.str nm)),some (.dat (W4 K)),none]) (R4 (pv:=.dat (W4 K)) (by rw[vf,hk];rfl)),g8 (ds':=[some (.ob (some (t 0)) (i5 h A)),some (.dat (.str (b6 "keeper"))),some (.dat (.str nm)),some (.dat (W4 K)),none]) rfl]
 rw[g8 (ds':=[some (.ob (some (t 0)) (i5 h A)),some (.dat (.str (b6 "keeper"))),some (.dat (.str nm)),some (.dat (W4 K)),none]) (by
  rw[aM (eq_1.trans (m5 some (MP (by decide))))]
  rfl)]
 rw[dG (pv:=.own (G5 K)) (ds':=[some (.ob (some (t 0)) (i5 h A)),some (.dat (.str (b6 "keeper"))),some (.dat (.str nm)),some (.dat (W4 K)),none]) (by
  rw[ej (eq_1.trans (m5 some (K8 rfl)))];show((R6 [W4 K]).bind λpv=>some (Out.retO pv _))=_
  rw[sh];rfl)]
 show some (ba _,u6 t 0 (.ob none (i5 h A)::[h7 (b6 "keeper"),.str nm].map .dat) _)=_
 rw[fM (by simp)]
 rfl
end
section
variable{E:aJ}{h:q9}{A B:Ks}{n:Nat}
theorem Jj{F1 F2:Ds->Option Bool}{ds:Ds}(h:F1 ds=some false):cR F1 F2 ds=some false:=by unfold cR;rw[h];rfl
theorem zv{F1 F2:Ds->Option Bool}{ds:Ds}{b:Bool}(h:F1 ds=some true)(k:F2 ds=some b):cR F1 F2 ds=some b:=by unfold cR;rw[h];exact k
theorem Pn{F1 F2:Ds->Option Bool}{ds:Ds}{b:Bool}(h:F1 ds=some false)(k:F2 ds=some b):O9 F1 F2 ds=some b:=by unfold O9;rw[h];exact k
theorem EG{a b:Option PV}{w y:Str}{l:List b5}{r:Ds}:f9 (b9 o3 (b9 j5 (b7 2) (fC (.int 0))) (fC (.str y))) (a::b::some (.dat (.list (.str w::l)))::r)=some (decide (w=y)):=by
 show(((j5 (.list (.str w::l)) (.int 0)).bind λx=>o3 x.d (.str y)).bind λx=>zx x.d)=_
 rw[mL,xq];rfl
noncomputable def To(E:aJ):Ds->Option Out:=(d5 (r9 (f9 (b9 o3 (b9 j5 (b7 2) (fC (.int 0))) (fC (.str "rule")))) (ei "Desk" "say_rule" 0 (P7 E) (t6 (b7 1) (t6 (b9 j5 (b7 2) (fC (.int 1))) (t6 (G7 R9 (fC (.str " ")) (a9 (ae u5 (b7 2) (C5 (fC (.int 2))) M5) c7)) S8)))) j7) (d5 (r9 (cR (f9 (b9 (P9 inD Z8) (b9 j5 (b7 2) (fC (.int 0))) (fC ay))) (f9 (b9 o3 (d6 O2 (a9 (b7 2) c7)) (fC (.int 2))))) (ei "Desk" "say_keeper" 0 (G0 E) (t6 (b9 j5 (b7 2) (fC (.int 0))) (t6 (b9 j5 (b7 2) (fC (.int 1))) S8))) j7) (ic aq E.l "line" (a9 (b7 1) c7))))
theorem Gn{w nm:Str}{ws:List Str}{r:PV ⊕ b5}(hw:∀x∈w::nm::ws,W5 x)(hl:ws.length<=600)(N:Nm nm)(hr:¬w=b6 "raised")(hs:∀t:Nat->Addr,(To E [some (.ob (some (t 0)) (i5 h A)),some (.dat (.str (p9 (w::nm::ws)))),some (.dat (.list ((w::nm::ws).map .str)))]).bind (mC [.ob none (i5 h A),.dat (.str (p9 (w::nm::ws)))] t)=some (r,[some (.ob none (i5 h B)),none])):
  J3 E [.ob none (i5 h A),.dat (.str (p9 (w::nm::ws)))]=some (r,[some (.ob none (i5 h B)),none]):=by
 have sp:Y5 (.str (p9 (w::nm::ws))) [.str (b6 " ")]=_:=bH (ws:=w::nm::ws) (by simp) (by simp;omega) (λx hx=>(hw x hx).len) (λx hx=>(hw x hx).no)
 have nq:=λs hs=>WB (a:=w) (b:=nm) (r:=ws) (s:=s) hs
 have iN:=Iw N;generalize p9 (w::nm::ws)=L at *;refine fL rfl λt=>?_
 show(d5 _ _ [some (.ob (some (t 0)) (i5 h A)),some (.dat (.str L)),none]).bind _=_
 rw[g8 (ds':=[some (.ob (some (t 0)) (i5 h A)),some (.dat (.str L)),some (.dat (.list ((w::nm::ws).map .str)))]) (R4 (pv:=.own ((w::nm::ws).map .str)) sp)];rw[g8 (aM (eq_1.trans (m5 some (D7 (nq "show" (by decide +kernel)))))),g8 (aM (eq_1.trans (m5 some (D7 (nq "best" (by decide +kernel)))))),g8 (aM (eq_1.trans (m5 some (D7 (nq "ranks" (by decide +kernel))))))]
 rw[g8 (aM (Jj (EG.trans (m5 some (D7 hr)))))];rw[g8 (aM (Pn (b:=false) (by
  walk_at "t";rw[D7 (by simp;omega)]) (by walk_at "t";rw[iN];walk_at "t")))]
 exact hs t
theorem OI{nm m:Str}{i:Nat}{f:eQ}{Fl:Ds->Option (List AV)}{G1 G2:Ds->Option Out}{ds ds':Ds}{r:PV ⊕ b5}{args:List PV}{t:Nat->Addr}(h:dP nm m i f Fl ds=some (r,ds'))(hG:G1 ds=ei nm m i f Fl ds):(d5 G1 G2 ds).bind (mC args t)=some (r,u6 t 0 args ds'):=by unfold d5;rw[hG];unfold ei;rw[h];cases r<;>rfl
theorem kl{nm:Str}{ws:List Str}{r:PV ⊕ b5}{ns:Ds}(hw:∀x∈nm::ws,W5 x)(hl:ws.length<=600)(N:Nm nm)(hf:P7 E [.ob none (i5 h A),.dat (.str (p9 (b6 "rule"::nm::ws))),.dat (.str nm),.dat (.str (p9 ws))]=some (r,some (.ob none (i5 h B))::ns)):
  J3 E [.ob none (i5 h A),.dat (.str (p9 (b6 "rule"::nm::ws)))]=some (r,[some (.ob none (i5 h B)),none]):=by
 have hw3:∀x∈b6 "rule"::nm::ws,W5 x:=λx hx=>by
  rcases List.mem_cons.mp hx with rfl|hx
  . exact N5 (by decide +kernel) (by decide +kernel)
  . exact hw x hx
 have jd:=mK (ws:=ws) (by omega) (λx hx=>(hw x (o8 _ hx)).len)
 refine Gn hw3 hl N (by rw[u9];decide) λt=>?_
 generalize p9 (b6 "rule"::nm::ws)=L at *;refine(OI (ds':=[some (.ob (some (t 0)) (i5 h B)),some (.dat (.str L)),some (.dat (.list ((b6 "rule"::nm::ws).map .str)))]) (iP (l:=[.str L,.str nm,.str (p9 ws)]) rfl ?_ ⟨by rw[u9];decide,by rw[u9];decide⟩ hf) (ej (EG.trans (m5 some (K8 rfl))))).trans ?_
 . have cf:=iX (h7 (b6 "rule")::.str nm::ws.map .str) 2;simp only[t6,S8];walk_at "t";rw[show u5 (.list (.str (b6 "rule")::.str nm::ws.map .str)) (some 2) none=some (.own (cutD (.str (b6 "rule")::.str nm::ws.map .str) (some ((2:Nat):Int)) none))from rfl,cf]
   walk_at "t";rw[show(h7 (b6 "rule")::.str nm::ws.map .str).drop 2=ws.map .str from rfl,jd]
   rfl
 . show some (r,u6 t 0 (.ob none (i5 h A)::[h7 L].map .dat) _)=_
   rw[fM (by simp)]
   rfl
theorem gQ{w nm:Str}{r:PV ⊕ b5}{ns:Ds}(W:W5 w)(N:Nm nm)(hr:¬w=b6 "raised")(hu:¬w=b6 "rule")(hk:([b6 "keeper",b6 "drop",b6 "day",b6 "costs"].any λy=>y==w)=true)(hf:G0 E [.ob none (i5 h A),.dat (.str w),.dat (.str nm)]=some (r,some (.ob none (i5 h B))::ns)):
  J3 E [.ob none (i5 h A),.dat (.str (p9 [w,nm]))]=some (r,[some (.ob none (i5 h B)),none]):=by
 have hw:∀x∈[w,nm],W5 x:=λx hx=>by
  simp only[v8,B4,B6]at hx;rcases hx with rfl|rfl
  . exact W
  . exact pS N
 refine Gn hw (by decide) N hr λt=>?_
 generalize p9 [w,nm]=L at *;unfold To;rw[g8 (aM (EG.trans (m5 some (D7 hu))))];have kw:=in_words w [b6 "keeper",b6 "drop",b6 "day",b6 "costs"];rw[hk]at kw;refine(OI (ds':=[some (.ob (some (t 0)) (i5 h B)),some (.dat (.str L)),some (.dat (.list ([w,nm].map .str)))]) (iP (l:=[.str w,.str nm]) rfl rfl ⟨by rw[u9];decide,by rw[u9];decide⟩ hf) (ej (zv (b:=true) ?_ rfl))).trans ?_
 . show(((j5 (.list [.str w,.str nm]) (.int 0)).bind λx=>(P9 inD Z8) x.d ay).bind λx=>zx x.d)=_
   rw[mL,xq];show((P9 inD Z8 (.str w) ay).bind λx=>zx x.d)=_
   erw [kw]
   rfl
 . show some (r,u6 t 0 (.ob none (i5 h A)::[h7 L].map .dat) _)=_
   rw[fM (by simp)]
   rfl
end
section
variable{E:aJ}{h:q9}{A B:Ks}{n:Nat}{L:Str}{ns:Ds}
noncomputable def Oz:Ds->Option Out:=(d5 (r9 (O9 (f9 (K2 (ij "tuple" (b7 2)))) (mY (f9 (K2 (ij "list" (b7 2)))))) (aL (b7 2)) j7) (d5 (f7 4 (iU 2)) (d5 (cz 2 λ_=>[]) (aL (b7 4)))))
theorem uO{d:b5}{pv:PV}{r:PV ⊕ b5}(hs:J3 E [.ob none (i5 h A),.dat (.str L)]=some (r,some (.ob none (i5 h B))::ns))(ht:∀w:Option Addr,mO (b6 "Desk") (b6 "say") E.k E.l 2 3 0 (J3 E) (t6 (b7 1) S8) (Q5 2 (D9 (a9 (fC (.str "NoKeeper")) (a9 (gT "name" (b7 3)) c7)))) (Q5 2 (D9 (a9 (fC (.str "NoLine")) (a9 (gT "line" (b7 3)) c7)))) [some (.ob w (i5 h A)),some (.dat (.str L)),some (.dat .none),none,none]=some (.next [some (.ob w (i5 h B)),some (.dat (.str L)),some pv,none,none]))(hb:∀w:Option Addr,∃x2 x4,Oz [some (.ob w (i5 h B)),some (.dat (.str L)),some pv,none,none]=some (.retO (.dat d) [some (.ob w (i5 h B)),some (.dat (.str L)),x2,none,x4])):
  L5 E [.ob none (i5 h A),.dat (.str L)]=some (.dat d,[some (.ob none (i5 h B)),none]):=by
 refine eo rfl λt=>?_
 obtain⟨x2,x4,e⟩:=hb (some (t 0));show(d5 _ _ [some (.ob (some (t 0)) (i5 h A)),some (.dat (.str L)),none,none,none]).bind _=_
 rw[g8 (ds':=[some (.ob (some (t 0)) (i5 h A)),some (.dat (.str L)),some (.dat .none),none,none]) rfl,g8 (ht (some (t 0)))];show(Oz _).bind _=_
 rw[e];show some (PV.dat d,u6 t 0 (.ob none (i5 h A)::[h7 L].map .dat) _)=_
 rw[fM (by simp)]
 rfl
theorem yP{s f:Str}{C:Addr}{x:b5}{a b c e:Option PV}:Q5 2 (D9 (a9 (fC (.str s)) (a9 (gT f (b7 3)) c7))) [a,b,c,some (.dat (J4 C f x)),e]=some (.next [a,b,some (.dat (.tuple [.str s,x])),some (.dat (J4 C f x)),e]):=by
 have ef:rG f (J4 C f x)=some x:=by
  show(if f=f then some x else none)=_
  rw[d9 rfl]
 have ff:gT f (b7 3) [a,b,c,some (.dat (J4 C f x)),e]=some (.dat x):=by
  show(rG f (J4 C f x)).bind (λd=>some (PV.dat d))=_
  rw[ef];rfl
 walk_at "t";rw[ff];walk_at "t"
theorem uN{l:List b5}(hs:J3 E [.ob none (i5 h A),.dat (.str L)]=some (.inl (.own l),some (.ob none (i5 h B))::ns)):L5 E [.ob none (i5 h A),.dat (.str L)]=some (.dat (.list l),[some (.ob none (i5 h B)),none]):=by
 refine uO (pv:=.own l) hs (λw=>?_) λw=>⟨some (.own []),some (.dat (.list l)),rfl⟩
 unfold mO;rw[iP (l:=[.str L]) (w:=w) rfl rfl ⟨by rw[u9];decide,by rw[u9];decide⟩ hs]
 rfl
theorem SN{x:b5}(hs:J3 E [.ob none (i5 h A),.dat (.str L)]=some (.inr (J4 E.k (b6 "name") x),some (.ob none (i5 h B))::ns)):L5 E [.ob none (i5 h A),.dat (.str L)]=some (.dat (.tuple [.str (b6 "NoKeeper"),x]),[some (.ob none (i5 h B)),none]):=by
 refine uO (pv:=.dat (.tuple [.str (b6 "NoKeeper"),x])) hs (λw=>?_) λw=>⟨_,_,rfl⟩
 have ie:isExc E.k (J4 E.k (b6 "name") x)=true:=jD _;unfold mO;rw[iP (l:=[.str L]) (w:=w) rfl rfl ⟨by rw[u9];decide,by rw[u9];decide⟩ hs]
 show(if isExc E.k (J4 E.k (b6 "name") x)=true then(Q5 2 (D9 (a9 (fC (.str (b6 "NoKeeper"))) (a9 (gT (b6 "name") (b7 3)) c7))) [some (.ob w (i5 h B)),some (.dat (.str L)),some (.dat .none),some (.dat (J4 E.k (b6 "name") x)),none]).bind (ma 3)else _)=_
 rw[d9 ie,yP];rfl
theorem FN{x:b5}(ne:E.l≠E.k)(hs:J3 E [.ob none (i5 h A),.dat (.str L)]=some (.inr (J4 E.l (b6 "line") x),some (.ob none (i5 h B))::ns)):L5 E [.ob none (i5 h A),.dat (.str L)]=some (.dat (.tuple [.str (b6 "NoLine"),x]),[some (.ob none (i5 h B)),none]):=by
 refine uO (pv:=.dat (.tuple [.str (b6 "NoLine"),x])) hs (λw=>?_) λw=>⟨_,_,rfl⟩
 have i1:¬isExc E.k (J4 E.l (b6 "line") x)=true:=λe=>by have:(((E.l:Nat):Int)==((E.k:Nat):Int))=true:=e;rw[beq_iff_eq]at this;exact ne (Int.ofNat.inj this)
 have ie:isExc E.l (J4 E.l (b6 "line") x)=true:=jD _;unfold mO;rw[iP (l:=[.str L]) (w:=w) rfl rfl ⟨by rw[u9];decide,by rw[u9];decide⟩ hs]
 show(if isExc E.k (J4 E.l (b6 "line") x)=true then _ else if isExc E.l (J4 E.l (b6 "line") x)=true then(Q5 2 (D9 (a9 (fC (.str (b6 "NoLine"))) (a9 (gT (b6 "line") (b7 3)) c7))) [some (.ob w (i5 h B)),some (.dat (.str L)),some (.dat .none),some (.dat (J4 E.l (b6 "line") x)),none]).bind (ma 3)else _)=_
 rw[e7 i1,d9 ie,yP];rfl
end
theorem Gj{w:Str}(h:aI w):Sh 1 (.str w):=by
 obtain⟨a,b⟩:=pY [w] λx hx=>by rw[mem_singleton.mp hx];exact h
 exact⟨by simpa [Q9]using a,t4 (Nat.le_max_left _ _) b⟩
theorem eq_self{d:b5}(h:Sh 2 d)(hn:∀s,d≠.str s):o3 d d=some (.dat (.bool true)):=by
 have e:o3 d d=if U3 d=true/\U3 d=true then some (.dat (.bool (aP d d)))else none:=by
  cases d with
  |str s=>exact absurd rfl (hn s)
  |_=>rfl
 rw[e,d9 ⟨h.shaped (by decide),h.shaped (by decide)⟩,rJ d h.c]
theorem zb{l:List Str}(h:∀w∈l,aI w):o3 (.tuple (l.map .str)) (.tuple (l.map .str))=some (.dat (.bool true)):=eq_self (Tj λd hd=>by obtain⟨w,hw,rfl⟩:=mem_map.mp hd;exact Gj (h w hw)) (λs=>by simp)
theorem zd{l:List Str}(h:∀w∈l,aI w):o3 (.list (l.map .str)) (.list (l.map .str))=some (.dat (.bool true)):=eq_self (Qn λd hd=>by obtain⟨w,hw,rfl⟩:=mem_map.mp hd;exact Gj (h w hw)) (λs=>by simp)
theorem uM{a b:Str}(ha:aI a)(hb:aI b):∀w∈[a,b],aI w:=λw hw=>by
 simp only[v8,B4,B6]at hw;rcases hw with rfl|rfl
 . exact ha
 . exact hb
section
variable{E:aJ}{h:q9}{A B:Ks}{n:Nat}{t:Nat->Addr}
theorem ET{c c2 d d2:OD}{l:List b5}{ds:Ds}(hd:l.length<=ds.length):u6 t 0 (.ob none c::.ob none d::l.map .dat) (some (.ob (some (t 0)) c2)::some (.ob (some (t 1)) d2)::ds)=some (.ob none c2)::some (.ob none d2)::l.map λ_=>none:=by
 show(if some (t 0)=some (t 0)then some (PV.ob none c2)else none)::(if some (t 1)=some (t 1)then some (PV.ob none d2)else none)::u6 t 2 (l.map .dat) ds=_
 rw[d9 rfl,d9 rfl]
 congr 2
 generalize 2=n;induction l generalizing ds n with
 |nil=>rfl
 |cons d l ih=>cases ds with
  |nil=>cases hd
  |cons x ds=>exact m5 (none::·) (ih (by simpa using hd) (n+1))
noncomputable abbrev xM(h:q9)(B:Ks):Option (PV×Ds):=some (.dat (.bool true),[some (.ob none (i5 h B)),some (.ob none (N1 B)),none,none,none])
theorem xb{F:Ds->Option (PV×Ds)}{Fb:Ds->Option PV}{ds ds':Ds}{pv y:PV}(hF:F ds=some (pv,ds'))(hb:Fb ds'=some y)(e:o3 pv.d y.d=some (.dat (.bool true))):dO o3 F Fb ds=some (.retO (.dat (.bool true)) ds'):=by
 unfold dO;rw[hF];show(Fb ds').bind _=_
 rw[hb];show(o3 pv.d y.d).bind _=_
 rw[e];rfl
theorem eq_2{a b:Option PV}{x y:Str}{r:Ds}:f9 (b9 o3 (b7 2) (fC (.str y))) (a::b::some (.dat (.str x))::r)=some (decide (x=y)):=rfl
theorem xF{L:Str}{x1 x2 x3 x4 x5 x7:Option PV}{d:b5}(h6:L5 E [.ob none (i5 h A),.dat (.str L)]=some (.dat d,[some (.ob none (i5 h B)),none])):F5 (L5 E) (B1 0 (t6 (b7 6) S8)) [some (.ob (some (t 0)) (i5 h A)),x1,x2,x3,x4,x5,some (.dat (.str L)),x7]=some (.dat d,[some (.ob (some (t 0)) (i5 h B)),x1,x2,x3,x4,x5,some (.dat (.str L)),x7]):=call_of (l:=[.str L]) rfl rfl h6
theorem rq{z:Str}(N:Nm z):z.length<=8:=by rw[t9];exact N.len
theorem Nf:b6 "rule " = b6 "rule"++b6 " ":=W2 (by decide +kernel)
theorem Cv{nm:Str}{ws:List Str}(hne:ws≠[]):b6 "rule "++nm++b6 " "++p9 ws=p9 (b6 "rule"::nm::ws):=by rw[Nf,oS,oS,oS,<-uY (a:=b6 "rule") (by simp),<-uY (a:=nm) hne,oS,oS]
theorem Ic{nm z:Str}(N:Nm nm)(hz:z.length<=92000){F:Ds->Option PV}{ds:Ds}(h3:ds[3]? = some (some (.dat (.str nm))))(hF:F ds=some (.dat (.str z))):b9 i6 (b9 i6 (b9 i6 (fC (.str (b6 "rule "))) (b7 3)) (fC (.str (b6 " ")))) F ds=some (.dat (.str (b6 "rule "++nm++b6 " "++z))):=by
 have l1:=rq N;have a0:(b6 "rule ").length=5:=by decide +kernel
 have a1:(b6 " ").length=1:=by decide +kernel
 have l2:(b6 "rule "++nm).length=5+nm.length:=by rw[t9,W3,A0,<-t9,<-t9,a0]
 have l3:(b6 "rule "++nm++b6 " ").length=5+nm.length+1:=by rw[t9,W3,A0,<-t9,<-t9,l2,a1]
 have v3:b7 3 ds=some (.dat (.str nm)):=by unfold b7;rw[h3]
 unfold b9;simp only[fC,F7,v3,hF,PV.ip];rw[W8 (by omega)]
 simp only[F7,PV.ip];rw[W8 (by omega)]
 simp only[F7,PV.ip];rw[W8 (by omega)]
end
section
variable{E:aJ}{h:q9}{A B:Ks}{n:Nat}{t:Nat->Addr}
theorem Ng{r:Rl}(hr:Y1 r):(m8 r).length<=92000:=mJ (by have:=(Y7 hr).1;omega) λw hw=>(dF hr w hw).len
theorem kE{w nm:Str}{ws:List Str}(W:W5 w)(N:Nm nm)(hw:∀x∈ws,W5 x):∀x∈w::nm::ws,W5 x:=λx hx=>by
 rcases List.mem_cons.mp hx with rfl|hx
 . exact W
 rcases List.mem_cons.mp hx with rfl|hx
 . exact pS N
 . exact hw x hx
theorem kD:W5 (b6 "rule"):=N5 (by decide +kernel) (by decide +kernel)
theorem FP{nm:Str}{ws:List Str}(N:Nm nm)(hw:∀x∈ws,W5 x)(hl:ws.length<=600):(p9 (b6 "rule"::nm::ws)).length<=100000:=t4 (mJ (by simp;omega) λw hw'=>(kE kD N hw w hw').len) (by decide)
theorem yR{w:Option Addr}{a b:Option PV}{nm:Str}{r:Ds}:fN 1 eF (b7 3) (o6 c7) (a::some (.ob w (N1 A))::b::some (.dat (.str nm))::r)=some (.dat (iS (D5 A nm))):=by
 show some (PV.dat ((M7 nm (mapA iS A)).getD (.list [])))=_
 rw[bM];unfold D5;cases M6 nm A<;>rfl
theorem QF{w:Option Addr}{a b c d e f:Option PV}{nm:Str}{K:List Rl}{Fv:Ds->Option PV}(hl:A.length<100000)(hv:Fv [a,some (.ob w (N1 A)),b,some (.dat (.str nm)),c,d,e,f]=some (.own (G5 K))):gr 1 eF encD (b7 3) Fv [a,some (.ob w (N1 A)),b,some (.dat (.str nm)),c,d,e,f]=some (.next [a,some (.ob w (N1 (fA A nm K))),b,some (.dat (.str nm)),c,d,e,f]):=by
 unfold gr;show((Fv [a,some (.ob w (N1 A)),b,some (.dat (.str nm)),c,d,e,f]).bind _)=_
 rw[hv];show(if (mapA iS A).length<100000 then some (Out.next [a,some (.ob w (.dct (qW (mapA iS A) nm (iS K)))),b,some (.dat (.str nm)),c,d,e,f])else none)=_
 rw[d9 (by unfold mapA;rw[m9];exact hl),BW]
 rfl
theorem QS{w:Option Addr}{a b c d e f:Option PV}{nm:Str}{K:List Rl}(hk:M6 nm A=some K):gu 1 eF encD (b7 3) [a,some (.ob w (N1 A)),b,some (.dat (.str nm)),c,d,e,f]=some (.next [a,some (.ob w (N1 (jU A nm))),b,some (.dat (.str nm)),c,d,e,f]):=by
 show((M7 nm (mapA iS A)).bind λ_=>some (Out.next [a,some (.ob w (.dct (mS (mapA iS A) nm))),b,some (.dat (.str nm)),c,d,e,f]))=_
 rw[bM,hk,zj];rfl
theorem Hj:∀w∈[b6 "ok"],aI w:=λw hw=>by rw[mem_singleton.mp hw];exact fz (by decide +kernel)
theorem Kp.of{n:Nat}{A:Ks}(HA:Kp n A)(nm:Str):(∀r∈D5 A nm,Y1 r)/\(D5 A nm).length<=20:=by
 unfold D5;cases e:M6 nm A with
 |none=>exact And.intro (λr hr=>nomatch hr) (fe _)
 |some K=>exact HA.look e
theorem step_rule{nm:Str}{r:Rl}(ne:E.l≠E.k)(HA:Kp n A)(hn:n<100000)(N:Nm nm)(hr:Y1 r):
  ∃B,L6 E [.ob none (i5 h A),.ob none (N1 A),.dat (.str (b6 "rule")),.dat (.str nm),.dat (.str (m8 r))]=xM h B/\Kp (n+1) B:=by
 obtain⟨hK,hK20⟩:=HA.of nm;have hln:=HA.len;have w5:=dF hr;have l6:∀ds:Ds,ds[3]? = some (some (.dat (.str nm)))->ds[4]? = some (some (.dat (.str (m8 r))))->b9 i6 (b9 i6 (b9 i6 (fC (.str (b6 "rule "))) (b7 3)) (fC (.str (b6 " ")))) (b7 4) ds=some (.dat (.str (p9 (b6 "rule"::nm::v5 r)))):=λds h3 h4=>by
  rw[Ic (z:=m8 r) N (Ng hr) h3 (by unfold b7;rw[h4]),<-Cv (mH r)]
  rfl
 have sL:aI (p9 (b6 "rule"::nm::v5 r)):=nW (kE kD N w5);have tl:=FP N w5 (by have:=(Y7 hr).1;omega)
 by_cases c:(D5 A nm).length=20
 . have tk:=FN ne (kl (E:=E) (h:=h) (A:=A) (B:=A) (nm:=nm) (ws:=v5 r) (λx hx=>kE kD N w5 x (o8 _ hx)) (by have:=(Y7 hr).1;omega) N (BP HA tl (bJ hr) (.inr c)))
   refine⟨A,eo rfl λt=>?_,HA.mono (lE _)⟩
   generalize p9 (b6 "rule"::nm::v5 r)=L at *;show(d5 _ _ [some (.ob (some (t 0)) (i5 h A)),some (.ob (some (t 1)) (N1 A)),some (.dat (.str (b6 "rule"))),some (.dat (.str nm)),some (.dat (.str (m8 r))),none,none,none]).bind _=_
   rw[dG (pv:=.dat (.bool true)) (ds':=[some (.ob (some (t 0)) (i5 h A)),some (.ob (some (t 1)) (N1 A)),some (.dat (.str (b6 "rule"))),some (.dat (.str nm)),some (.dat (.str (m8 r))),some (.dat (iS (D5 A nm))),some (.dat (.str L)),none]) (by
    rw[ej (eq_2.trans (m5 some (K8 rfl)))];rw[g8 (R4 yR),g8 (R4 (l6 _ rfl rfl))];refine dG ?_;rw[ej (by
     show some (decide (((G5 (D5 A nm)).length:Int)=20))=_
     rw[m9,K8 (by omega)])]
    refine xb (xF tk) rfl ?_;exact zb (l:=[b6 "NoLine",L]) (uM (fz (by decide +kernel)) sL))]
   show some (PV.dat (.bool true),u6 t 0 (.ob none (i5 h A)::.ob none (N1 A)::[h7 (b6 "rule"),.str nm,.str (m8 r)].map .dat) _)=_
   rw[ET (by simp)]
   rfl
 . have tk:=uN (kl (E:=E) (h:=h) (A:=A) (nm:=nm) (ws:=v5 r) (λx hx=>kE kD N w5 x (o8 _ hx)) (by have:=(Y7 hr).1;omega) N (Qs HA hn (by omega) hr))
   refine⟨fA A nm (D5 A nm++[r]),eo rfl λt=>?_,HA.put nm (λx hx=>by
    rcases List.mem_append.mp hx with hx|hx
    . exact hK x hx
    . rw[mem_singleton.mp hx];exact hr) (by rw[A0,eX];omega)⟩
   generalize p9 (b6 "rule"::nm::v5 r)=L at *;show(d5 _ _ [some (.ob (some (t 0)) (i5 h A)),some (.ob (some (t 1)) (N1 A)),some (.dat (.str (b6 "rule"))),some (.dat (.str nm)),some (.dat (.str (m8 r))),none,none,none]).bind _=_
   rw[dG (pv:=.dat (.bool true)) (ds':=[some (.ob (some (t 0)) (i5 h (fA A nm (D5 A nm++[r])))),some (.ob (some (t 1)) (N1 (fA A nm (D5 A nm++[r])))),some (.dat (.str (b6 "rule"))),some (.dat (.str nm)),some (.dat (.str (m8 r))),some (.dat (iS (D5 A nm))),some (.dat (.str L)),none]) (by
    rw[ej (eq_2.trans (m5 some (K8 rfl)))];rw[g8 (R4 yR),g8 (ds':=[some (.ob (some (t 0)) (i5 h A)),some (.ob (some (t 1)) (N1 A)),some (.dat (.str (b6 "rule"))),some (.dat (.str nm)),some (.dat (.str (m8 r))),some (.dat (iS (D5 A nm))),some (.dat (.str L)),none]) (R4 (l6 _ rfl rfl))];rw[g8 (aM (by
     show some (decide (((G5 (D5 A nm)).length:Int)=20))=_
     rw[m9,D7 (by omega)]))]
    rw[g8 (QF (K:=D5 A nm++[r]) (by omega) (by
     show(i6 (.list (G5 (D5 A nm))) (.list [.str (m8 r)]))=_
     rw[bP (by rw[m9,eX];omega),show G5 (D5 A nm++[r])=G5 (D5 A nm)++[.str (m8 r)]from P2]))]
    refine xb (xF tk) rfl ?_;exact zd (l:=[b6 "ok"]) Hj)]
   show some (PV.dat (.bool true),u6 t 0 (.ob none (i5 h A)::.ob none (N1 A)::[h7 (b6 "rule"),.str nm,.str (m8 r)].map .dat) _)=_
   rw[ET (by simp)]
   rfl
end
section
variable{E:aJ}{h:q9}{A B:Ks}{n:Nat}{t:Nat->Addr}
theorem IZ{α:Type}(l:List α):cutD l none (some (-1))=l.dropLast:=by
 unfold cutD HT.C4;rw[List.dropLast_eq_take];simp
 congr 1
 omega
theorem LH{nm:Str}{r:Rl}(ne:E.l≠E.k)(HA:Kp n A)(N:Nm nm)(hr:Y1 r):
  L6 E [.ob none (i5 h A),.ob none (N1 A),.dat (.str (b6 "bad")),.dat (.str nm),.dat (.str (m8 r))]=xM h A:=by
 have ll:=Y7 hr;have w5:∀w∈(v5 r).dropLast,W5 w:=λw hw=>dF hr w (Kf _ hw)
 have hl:(v5 r).dropLast.length<=600:=by rw[Ke];omega
 have hne:(v5 r).dropLast≠[]:=λe=>by have:=m5 tm e;rw[Ke]at this;simp at this;omega
 have sp:=bH (ws:=v5 r) (mH r) (by omega) (λw hw=>(dF hr w hw).len) (λw hw=>(dF hr w hw).no)
 have jd:=mK (ws:=(v5 r).dropLast) (by omega) (λw hw=>(w5 w hw).len)
 have jl:(p9 (v5 r).dropLast).length<=92000:=mJ (by omega) λw hw=>(w5 w hw).len
 have cl:=IZ ((v5 r).map h7);rw[<-List.map_dropLast]at cl;have l6:∀ds:Ds,ds[3]? = some (some (.dat (.str nm)))->ds[4]? = some (some (.dat (.str (m8 r))))->b9 i6 (b9 i6 (b9 i6 (fC (.str (b6 "rule "))) (b7 3)) (fC (.str (b6 " ")))) (G7 R9 (fC (.str (b6 " "))) (a9 (ae u5 (G7 Y5 (b7 4) (a9 (fC (.str (b6 " "))) c7)) M5 (C5 (nB kq (fC (.int 1))))) c7)) ds=some (.dat (.str (p9 (b6 "rule"::nm::(v5 r).dropLast)))):=λds h3 h4=>by
  rw[Ic (z:=p9 (v5 r).dropLast) N jl h3 ?_,<-Cv hne];have v4:b7 4 ds=some (.dat (.str (m8 r))):=by unfold b7;rw[h4]
  unfold G7 ae;simp only[a9,c7,fC,nB,M5,C5,F7,v4,PV.ip,ro];unfold m8;rw[sp];walk_at "t";rw[show u5 (.list ((v5 r).map .str)) none (some (-1))=some (.own (cutD ((v5 r).map .str) none (some (-1))))from rfl,cl]
  walk_at "t";exact jd
 have sL:aI (p9 (b6 "rule"::nm::(v5 r).dropLast)):=nW (kE kD N w5);have tl:=FP N w5 hl;have tk:=FN ne (kl (E:=E) (h:=h) (A:=A) (B:=A) (nm:=nm) (ws:=(v5 r).dropLast) (λx hx=>kE kD N w5 x (o8 _ hx)) hl N (BP HA tl (Oa hr) (.inl rfl)))
 refine eo rfl λt=>?_
 generalize p9 (b6 "rule"::nm::(v5 r).dropLast)=L at *;show(d5 _ _ [some (.ob (some (t 0)) (i5 h A)),some (.ob (some (t 1)) (N1 A)),some (.dat (.str (b6 "bad"))),some (.dat (.str nm)),some (.dat (.str (m8 r))),none,none,none]).bind _=_
 rw[g8 (aM (eq_2.trans (m5 some (MP (by decide)))))]
 rw[dG (pv:=.dat (.bool true)) (ds':=[some (.ob (some (t 0)) (i5 h A)),some (.ob (some (t 1)) (N1 A)),some (.dat (.str (b6 "bad"))),some (.dat (.str nm)),some (.dat (.str (m8 r))),none,some (.dat (.str L)),none]) (by rw[ej (eq_2.trans (m5 some (K8 rfl)))];rw[g8 (R4 (l6 _ rfl rfl))];refine xb (xF tk) rfl ?_;exact zb (l:=[b6 "NoLine",L]) (uM (fz (by decide +kernel)) sL))]
 show some (PV.dat (.bool true),u6 t 0 (.ob none (i5 h A)::.ob none (N1 A)::[h7 (b6 "bad"),.str nm,.str (m8 r)].map .dat) _)=_
 rw[ET (by simp)]
 rfl
noncomputable def bx(A:Ks)(nm:Str):b5:=match M6 nm A with
 |some K=>iS K
 |none=>.tuple [.str (b6 "NoKeeper"),.str nm]
theorem Iz{w:Option Addr}{nm:Str}{r:Ds}:mX 0 eF (b7 1) (some (.ob w (N1 A))::some (.dat (.str nm))::r)=some (M6 nm A).isSome:=by
 show some (M7 nm (mapA iS A)).isSome=_
 rw[bM,ue]
theorem RK(nm:Str):∃pv,nr [.ob none (N1 A),.dat (.str nm)]=some (pv,[some (.ob none (N1 A)),none])/\pv.d=bx A nm:=by
 unfold bx;cases e:M6 nm A with
 |none =>
  refine⟨.dat (.tuple [.str (b6 "NoKeeper"),.str nm]),eo rfl λt=>?_,rfl⟩
  show(d5 _ _ [some (.ob (some (t 0)) (N1 A)),some (.dat (.str nm))]).bind _=_
  rw[g8 (aM (Iz.trans (by rw[e];rfl)))]
  show some (PV.dat _,u6 t 0 (.ob none (N1 A)::[h7 nm].map .dat) _)=_
  rw[fM (by simp)]
  rfl
 |some K =>
  refine⟨.own (G5 K),eo rfl λt=>?_,rfl⟩
  show(d5 _ _ [some (.ob (some (t 0)) (N1 A)),some (.dat (.str nm))]).bind _=_
  rw[dG (pv:=.own (G5 K)) (ds':=[some (.ob (some (t 0)) (N1 A)),some (.dat (.str nm))]) (by
   rw[ej (Iz.trans (by rw[e];rfl))]
   show((((M7 nm (mapA iS A)).bind λd=>some (PV.dat d)).bind λx=>some [x.d]).bind cy).bind _=_
   rw[bM,e];rfl)]
  show some (PV.own _,u6 t 0 (.ob none (N1 A)::[h7 nm].map .dat) _)=_
  rw[fM (by simp)]
  rfl
theorem Cz{nm:Str}(HA:Kp n A)(N:Nm nm):o3 (bx A nm) (bx A nm)=some (.dat (.bool true)):=by
 unfold bx;cases e:M6 nm A with
 |none=>exact zb (l:=[b6 "NoKeeper",nm]) (uM (fz (by decide +kernel)) (pS N).ok)
 |some K =>
  have:=zd (l:=K.map m8) λw hw=>by obtain⟨r,hr,rfl⟩:=mem_map.mp hw;exact nW (dF ((HA.look e).1 r hr))
  rw[Z2]at this;exact this
theorem FA{w nm:Str}:w++b6 " "++nm=p9 [w,nm]:=by rw[<-uY (by simp),HY]
theorem SO{w nm:Str}{x1 x4 x5 x6 x7:Option PV}{d:b5}(W:W5 w)(N:Nm nm)(h6:L5 E [.ob none (i5 h A),.dat (.str (p9 [w,nm]))]=some (.dat d,[some (.ob none (i5 h B)),none])):F5 (L5 E) (B1 0 (t6 (b9 i6 (b9 i6 (b7 2) (fC (.str (b6 " ")))) (b7 3)) S8)) [some (.ob (some (t 0)) (i5 h A)),x1,some (.dat (.str w)),some (.dat (.str nm)),x4,x5,x6,x7]=some (.dat d,[some (.ob (some (t 0)) (i5 h B)),x1,some (.dat (.str w)),some (.dat (.str nm)),x4,x5,x6,x7]):=by
 refine call_of (l:=[.str (p9 [w,nm])]) rfl ?_ h6;have l1:=rq N;have l2:=W.len;have a1:(b6 " ").length=1:=by decide +kernel
 have l3:(w++b6 " ").length=w.length+1:=by rw[t9,W3,A0,<-t9,<-t9,a1]
 show(((i6 (.str w) (.str (b6 " "))).bind λx=>i6 x.d (.str nm)).bind λx=>some [AV.d x.d])=_
 rw[W8 (by omega)]
 show((i6 (.str (w++b6 " ")) (.str nm)).bind λx=>some [AV.d x.d])=_
 rw[W8 (by omega),FA]
 rfl
end
section
variable{E:aJ}{h:q9}{A B:Ks}{n:Nat}
theorem CC{w:Option Addr}{a b:Option PV}{nm:Str}{r:Ds}:mX 1 eF (b7 3) (a::some (.ob w (N1 A))::b::some (.dat (.str nm))::r)=some (M6 nm A).isSome:=by
 show some (M7 nm (mapA iS A)).isSome=_
 rw[bM,ue]
theorem BI{w nm:Str}(W:W5 w)(N:Nm nm)(hr:¬w=b6 "raised")(hu:¬w=b6 "rule")(hk:([b6 "keeper",b6 "drop",b6 "day",b6 "costs"].any λy=>y==w)=true)(e:M6 nm A=none):L5 E [.ob none (i5 h A),.dat (.str (p9 [w,nm]))]=some (.dat (bx A nm),[some (.ob none (i5 h A)),none]):=by
 have:=SN (gQ (E:=E) (h:=h) W N hr hu hk (Ik (by have:=rq N;omega) e))
 rw[this,bx,e]
theorem qO:W5 (b6 "keeper"):=N5 (by decide +kernel) (by decide +kernel)
theorem rP:W5 (b6 "drop"):=N5 (by decide +kernel) (by decide +kernel)
theorem nV{w nm z:Str}{d x7:b5}(hu:¬w=b6 "rule")(hb:¬w=b6 "bad")(W:W5 w)(N:Nm nm)(ht:L5 E [.ob none (i5 h A),.dat (.str (p9 [w,nm]))]=some (.dat d,[some (.ob none (i5 h B)),none]))(hd:∀t t1:Addr,r9 (cR (f9 (b9 o3 (b7 2) (fC (.str (b6 "drop"))))) (mX 1 eF (b7 3))) (d5 (gu 1 eF encD (b7 3)) (f7 7 (o6 (a9 (fC (.str (b6 "ok"))) c7)))) j7 [some (.ob (some t) (i5 h A)),some (.ob (some t1) (N1 A)),some (.dat (.str w)),some (.dat (.str nm)),some (.dat (.str z)),none,none,some (.dat (bx A nm))]=some (.next [some (.ob (some t) (i5 h A)),some (.ob (some t1) (N1 B)),some (.dat (.str w)),some (.dat (.str nm)),some (.dat (.str z)),none,none,some (.dat x7)]))(he:o3 d x7=some (.dat (.bool true))):
  L6 E [.ob none (i5 h A),.ob none (N1 A),.dat (.str w),.dat (.str nm),.dat (.str z)]=xM h B:=by
 obtain⟨pv,kp,kd⟩:=RK (A:=A) nm;refine eo rfl λt=>?_
 show(d5 _ _ [some (.ob (some (t 0)) (i5 h A)),some (.ob (some (t 1)) (N1 A)),some (.dat (.str w)),some (.dat (.str nm)),some (.dat (.str z)),none,none,none]).bind _=_
 rw[g8 (aM (eq_2.trans (m5 some (D7 hu)))),g8 (aM (eq_2.trans (m5 some (D7 hb))))];rw[g8 (ds':=[some (.ob (some (t 0)) (i5 h A)),some (.ob (some (t 1)) (N1 A)),some (.dat (.str w)),some (.dat (.str nm)),some (.dat (.str z)),none,none,some (.dat (bx A nm))]) (by unfold sI;rw[call_of (l:=[.str nm]) (i:=1) (w:=some (t 1)) rfl rfl kp,<-kd];rfl),g8 (hd (t 0) (t 1)),xb (y:=.dat x7) (SO (t:=t) W N ht) rfl he]
 show some (PV.dat (.bool true),u6 t 0 (.ob none (i5 h A)::.ob none (N1 A)::[h7 w,.str nm,.str z].map .dat) _)=_
 rw[ET (by simp)]
 rfl
theorem qx{nm z:Str}(HA:Kp n A)(N:Nm nm):L6 E [.ob none (i5 h A),.ob none (N1 A),.dat (.str (b6 "keeper")),.dat (.str nm),.dat (.str z)]=xM h A:=by
 refine nV (d:=bx A nm) (x7:=bx A nm) (by rw[u9];decide) (by rw[u9];decide) qO N ?_ (λt t1=>?_) (Cz HA N)
 . cases e:M6 nm A with
   |none=>exact BI qO N (by rw[u9];decide) (by rw[u9];decide) (by decide +kernel) e
   |some K =>
    rw[uN (gQ (E:=E) (h:=h) qO N (by rw[u9];decide) (by rw[u9];decide) (by decide +kernel) (Bu HA e)),bx,e]
 . rw[aM (Jj (eq_2.trans (m5 some (MP (by decide)))))]
   rfl
theorem step_drop{nm z:Str}(HA:Kp n A)(N:Nm nm):∃B,L6 E [.ob none (i5 h A),.ob none (N1 A),.dat (.str (b6 "drop")),.dat (.str nm),.dat (.str z)]=xM h B/\Kp n B:=by
 cases e:M6 nm A with
 |none =>
  refine⟨A,nV (d:=bx A nm) (x7:=bx A nm) (by rw[u9];decide) (by rw[u9];decide) rP N (BI rP N (by rw[u9];decide) (by rw[u9];decide) (by decide +kernel) e) (λt t1=>?_) (Cz HA N),HA⟩
  rw[aM (zv (eq_2.trans (m5 some (K8 rfl))) (CC.trans (by rw[e];rfl)))]
  rfl
 |some K =>
  refine⟨jU A nm,nV (d:=.list Cj) (x7:=.list Cj) (by rw[u9];decide) (by rw[u9];decide) rP N (uN (gQ (E:=E) (h:=h) rP N (by rw[u9];decide) (by rw[u9];decide) (by decide +kernel) (Bw e))) (λt t1=>?_) (zd (l:=[b6 "ok"]) Hj),HA.drop nm⟩
  rw[ej (zv (eq_2.trans (m5 some (K8 rfl))) (CC.trans (by rw[e];rfl))),g8 (QS e)]
  rfl
theorem LO(H:H5 h):J3 E [.ob none (i5 h A),.dat (.str (b6 "show"))]=some (.inl (.own (n9 h)),[some (.ob none (i5 h A)),none]):=by
 have sh:=LL H;have sp:Y5 (.str (p9 [b6 "show"])) [.str (b6 " ")]=_:=bH (ws:=[b6 "show"]) (by simp) (by simp) (λx hx=>by rw[mem_singleton.mp hx];decide +kernel) (λx hx=>by rw[mem_singleton.mp hx];decide +kernel)
 rw[HY]at sp;refine fL rfl λt=>?_
 show(d5 _ _ [some (.ob (some (t 0)) (i5 h A)),some (.dat (.str (b6 "show"))),none]).bind _=_
 rw[g8 (ds':=[some (.ob (some (t 0)) (i5 h A)),some (.dat (.str (b6 "show"))),some (.dat (.list [.str (b6 "show")]))]) (R4 (pv:=.own [.str (b6 "show")]) sp)];rw[dG (pv:=.own (n9 h)) (ds':=[some (.ob (some (t 0)) (i5 h A)),some (.dat (.str (b6 "show"))),some (.dat (.list [.str (b6 "show")]))]) (by
  rw[ej (eq_1.trans (m5 some (K8 rfl)))];have fo:xo (b6 "Desk") 0 (b6 "house") [some (.ob (some (t 0)) (i5 h A)),some (.dat (.str (b6 "show"))),some (.dat (.list [.str (b6 "show")]))]=some (.dat (o7 h)):=by
   show(if b6 "Desk" = b6 "Desk" then some (some (t 0),aN h A)else none).bind _=_
   rw[d9 rfl];show((G4 (b6 "house") (aN h A)).bind λp=>(NP p).bind λd=>some (PV.dat d))=_
   rw[IB];rfl
  unfold aL d6 a9;rw[fo];show(iy [o7 h]).bind _=_
  rw[sh];rfl)]
 show some (ba _,u6 t 0 (.ob none (i5 h A)::[h7 (b6 "show")].map .dat) _)=_
 rw[fM (by simp)]
 rfl
theorem HQ{m:Str}{f:List PV->Option (PV×Ds)}{Fl:Ds->Option (List AV)}{ds:Ds}{l:List b5}{w:Option Addr}{pv:PV}{ns:Ds}(h0:ds[0]? = some (some (.ob w (i5 h A))))(hl:Fl ds=some (l.map AV.d))(hm:¬b6 "house" = m/\¬b6 "keepers" = m)(hf:f (.ob none (i5 h A)::l.map .dat)=some (pv,some (.ob none (i5 h B))::ns)):gv (b6 "Desk") m 0 f Fl ds=some (pv,ds.set 0 (some (.ob w (i5 h B)))):=by
 unfold gv iO;rw[h0];show(if b6 "Desk" = b6 "Desk" then some (w,aN h A)else none).bind _=_
 rw[d9 rfl];have e:G4 m (aN h A)=none:=by unfold aN G4;rw[e7 hm.1];unfold G4;rw[e7 hm.2];rfl
 show(match G4 m (aN h A)with|none=>F5 f (B1 0 Fl) ds|some _=>none)=_
 rw[e];exact call_of h0 hl hf
theorem Qr(H:H5 h):fU E [.ob none (i5 h A),.dat (.str (b6 "show")),.dat (.list (n9 h))]=some (.dat (.bool true),[some (.ob none (i5 h A)),none,none]):=by
 have ne:=rp (l:=(ji h).map p9) (m:=(ji h).map p9) (λw hw=>by
  obtain⟨l,hl,rfl⟩:=mem_map.mp hw;exact nW (yF H l hl).w) (λw hw=>by obtain⟨l,hl,rfl⟩:=mem_map.mp hw;exact nW (yF H l hl).w)
 rw[K8 rfl,Z2]at ne;have ne':Q4 (.list (n9 h)) (.list (n9 h))=some (.dat (.bool false)):=ne;have ss:=LO (E:=E) (A:=A) H;generalize n9 h=LD at *;refine eo rfl λt=>?_
 show(d5 _ _ [some (.ob (some (t 0)) (i5 h A)),some (.dat (.str (b6 "show"))),some (.dat (.list LD)),none]).bind _=_
 rw[g8 (ds':=[some (.ob (some (t 0)) (i5 h A)),some (.dat (.str (b6 "show"))),some (.dat (.list LD)),some (.own LD)]) (by
  unfold xj;rw[HQ (B:=A) (l:=[.str (b6 "show")]) (pv:=.own LD) (ns:=[none]) (w:=some (t 0)) rfl rfl ⟨by rw[u9];decide,by rw[u9];decide⟩ (by
   unfold vd;show(J3 E [.ob none (i5 h A),.dat (.str (b6 "show"))]).bind _=_
   rw[ss];rfl)]
  rfl)]
 rw[g8 (ds':=[some (.ob (some (t 0)) (i5 h A)),some (.dat (.str (b6 "show"))),some (.dat (.list LD)),some (.own LD)]) (aM (Pn (b:=false) rfl (by
  show((Q4 (.list LD) (.list LD)).bind λx=>zx x.d)=_
  rw[ne'];rfl)))]
 show some (PV.dat (.bool true),u6 t 0 (.ob none (i5 h A)::[h7 (b6 "show"),.list LD].map .dat) [some (.ob (some (t 0)) (i5 h A)),some (.dat (.str (b6 "show"))),some (.dat (.list LD)),some (.own [])])=_
 rw[fM (by simp)]
 rfl
end
theorem vp{α:Type}{g:α->b5}(hg:∀x,LF (g x)=true):∀l:List α,nN (l.map g)=true
 | []=>by simp[nN]
 |x::l=>by simp[nN,hg x,vp hg l]
theorem Sn(x:Hr):LF (p8 x)=true:=by
 obtain⟨s,n,l⟩:=x;cases l with
 |none=>simp[p8,fY,LF,nN]
 |some l=>obtain⟨a,b,c,d⟩:=l;simp[p8,fY,LF,nN]
theorem Oh(h:q9):LF (o7 h)=true:=by
 have e1:=vp Sn h.hs;have e2:=vp (g:=u7) (λw=>by simp[u7,LF,nN]) h.ws
 simp[o7,J9,LF,nN,e1,e2]
theorem HC{nm:Str}{w:Option Addr}{fs:List (Str×PF)}{r:Ds}:iO nm 0 (some (.ob w (.ins nm fs))::r)=some (w,fs):=by unfold iO;rw[pQ];exact d9 rfl
theorem RA{h:q9}(H:H5 h):U9 [.ob none (.ins (b6 "Desk") []),.dat (.list (n9 h))]=some (.dat .none,[some (.ob none (i5 h [])),none]):=by
 have rd:=Qt H;generalize n9 h=LD at *;refine eo rfl λt=>?_
 show(d5 _ _ [some (.ob (some (t 0)) (.ins (b6 "Desk") [])),some (.dat (.list LD))]).bind _=_
 rw[g8 (ds':=[some (.ob (some (t 0)) (.ins (b6 "Desk") [(b6 "house",.dat (o7 h))])),some (.dat (.list LD))]) (by
  show((lU [.list LD]).bind _)=_
  rw[rd];show((iO (b6 "Desk") 0 [some (.ob (some (t 0)) (.ins (b6 "Desk") [])),some (.dat (.list LD))]).bind λx=>if x.2.length<900 then some (Out.next [some (.ob x.1 (.ins (b6 "Desk") (ar (b6 "house") (.dat (o7 h)) x.2))),some (.dat (.list LD))])else none)=_
  rw[HC];rfl)]
 have e:sJ (b6 "Desk") 0 (b6 "keepers") xf oE [some (.ob (some (t 0)) (.ins (b6 "Desk") [(b6 "house",.dat (o7 h))])),some (.dat (.list LD))]=some (.next [some (.ob (some (t 0)) (i5 h [])),some (.dat (.list LD))]):=by
  show((if b6 "Desk" = b6 "Desk" then some (some (t 0),[(b6 "house",PF.dat (o7 h))])else none).bind λx=>if x.2.length<900 then some (Out.next [some (.ob x.1 (.ins (b6 "Desk") (ar (b6 "keepers") (.dct []) x.2))),some (.dat (.list LD))])else none)=_
  rw[d9 rfl];show(if 1<900 then some (Out.next [some (PV.ob (some (t 0)) (.ins (b6 "Desk") (if b6 "house" = b6 "keepers" then _ else(b6 "house",PF.dat (o7 h))::[(b6 "keepers",PF.dct [])]))),some (.dat (.list LD))])else none)=_
  rw[d9 (by decide),e7 (by rw[u9];decide)]
  rfl
 rw[e];show some (PV.dat .none,u6 t 0 (.ob none _::[lC LD].map .dat) _)=_
 rw[fM (by simp)]
 rfl
theorem MV{h:q9}(H:H5 h){ds:Ds}(h4:ds[4]? = some (some (.own (n9 h)))):sO (K2 (ql (b6 "Desk") U9 (a9 (b7 4) c7))) ds=some (.ob none (i5 h [])):=by
 have mk:=RA H;have lf:=Oh h;have v:b7 4 (aG ds)=some (.dat (.list (n9 h))):=by unfold b7 aG;rw[S6,h4];rfl
 have m:K2 (ql (b6 "Desk") U9 (a9 (b7 4) c7)) ds=some (.ob none (i5 h [])):=by
  unfold K2 ql a9;rw[v];show(U9 [.ob none (.ins (b6 "Desk") []),.dat (.list (n9 h))]).bind _=_
  rw[mk];rfl
 unfold sO;rw[m];show(if ((aN h []).all λf=>Ie f.2)=true then some (PV.ob none (.ins (b6 "Desk") (aN h [])))else none)=_
 rw[d9 (by
  show(LF (o7 h)&&(true&&true))=true
  rw[lf];rfl)]
 rfl
theorem vi{a b c d:String}(h:∀s∈[a,b,c,d],decide (lz (b6 s)≠[])&&decide ((lz (b6 s)).length<=8)&&(lz (b6 s)).all Ct=true):∀z∈[b6 a,b6 b,b6 c,b6 d],Nm z:=λz hz=>by
 have key:∀s:String,s∈[a,b,c,d]->Nm (b6 s):=λs hs=>by have:=h s hs;simp only[aj,gJ]at this;exact⟨this.1.1,this.1.2,this.2⟩
 simp only[v8,B4,B6]at hz;rcases hz with rfl|rfl|rfl|rfl<;>exact key _ (by simp)
theorem HX{ns:List Int}(hl:ns.length<=63):∃nl:List Str,gN [K4 ns]=some (.dat (.list (nl.map .str)))/\nl.length=4/\∀z∈nl,Nm z:=by
 obtain⟨v,ev,v0,v1⟩:=t8 (ns:=ns) (k:=90) hl (by decide) (by decide)
 have w0:=A8 v (b:=3) (by decide)
 have w1:=B7 v (b:=3) (by decide)
 obtain⟨nl,hn,nn⟩:∃nl:List Str,O4 [lC [.str (b6 "a"),.str (b6 "ab"),.str (b6 "abc"),.str (b6 "b")],.list [.str (b6 "show"),.str (b6 "best"),.str (b6 "rule"),.str (b6 "day")],.list [.str (b6 "zz"),.str (b6 "z"),.str (b6 "zzzzzzzz"),.str (b6 "zy")]] (v.fmod 3)=some (.list (nl.map .str))/\nl.length=4/\∀z∈nl,Nm z:=by
  generalize v.fmod 3=z at *;have:z=0\/z=1\/z=2:=by omega
  rcases this with rfl|rfl|rfl
  . exact⟨[b6 "a",b6 "ab",b6 "abc",b6 "b"],rfl,rfl,vi (by decide +kernel)⟩
  . exact⟨[b6 "show",b6 "best",b6 "rule",b6 "day"],rfl,rfl,vi (by decide +kernel)⟩
  . exact⟨[b6 "zz",b6 "z",b6 "zzzzzzzz",b6 "zy"],rfl,rfl,vi (by decide +kernel)⟩
 refine⟨nl,?_,nn⟩;unfold gN;walk_at "t";rw[ev];walk_at "t";rw[k7 (by decide)]
 walk_at "t";rw[hn];walk_at "t"
theorem kY{α:Type}{l:List α}(f:α->b5){i:Int}(h0:0<=i)(h:i<l.length):∃x∈l,O4 (l.map f) i=some (f x):=⟨_,Jy _,Vq f h0 h⟩
section
variable{E:aJ}{h:q9}{A B:Ks}{n:Nat}
noncomputable abbrev bL(x0 x1 x2 x3 x4 x6 x8:Option PV)(h:q9)(A:Ks)(x9 x10 x11:Option PV):Ds:=[x0,x1,x2,x3,x4,some (.ob none (i5 h A)),x6,some (.ob none (N1 A)),x8,x9,x10,x11]
theorem jV{x0 x1 x2 x3 x4 x6 x8 x9 x10 x11:Option PV}{Fl:Ds->Option (List AV)}{w nm z:b5}(hl:Fl (bL x0 x1 x2 x3 x4 x6 x8 h A x9 x10 x11)=some [.d w,.d nm,.d z])(hs:L6 E [.ob none (i5 h A),.ob none (N1 A),.dat w,.dat nm,.dat z]=xM h B)(G:Ds->Option Out):
  fZ (F5 (L6 E) (B1 5 (B1 7 Fl))) G (bL x0 x1 x2 x3 x4 x6 x8 h A x9 x10 x11)=some (.next (bL x0 x1 x2 x3 x4 x6 x8 h B x9 x10 x11)):=by
 have e:B1 5 (B1 7 Fl) (bL x0 x1 x2 x3 x4 x6 x8 h A x9 x10 x11)=some [.s 5,.s 7,.d w,.d nm,.d z]:=by
  show((Fl (bL x0 x1 x2 x3 x4 x6 x8 h A x9 x10 x11)).bind λl=>some (AV.s 7::l)).bind _=_
  rw[hl];rfl
 have c:F5 (L6 E) (B1 5 (B1 7 Fl)) (bL x0 x1 x2 x3 x4 x6 x8 h A x9 x10 x11)=some (.dat (.bool true),bL x0 x1 x2 x3 x4 x6 x8 h B x9 x10 x11):=by
  unfold F5;rw[e];show(if ([5,7]:List Nat).Nodup then(L6 E [.ob none (i5 h A),.ob none (N1 A),.dat w,.dat nm,.dat z]).bind _ else none)=_
  rw[d9 (by decide),hs]
  rfl
 unfold fZ;rw[c];rfl
theorem wj{x0 x1 x2 x4 x6 x8 x9 x10 x11:Option PV}(H:H5 h):F5 (fU E) (B1 5 (t6 (fC (.str (b6 "show"))) (t6 (b7 3) S8))) (bL x0 x1 x2 (some (.dat (.list (n9 h)))) x4 x6 x8 h A x9 x10 x11)=some (.dat (.bool true),bL x0 x1 x2 (some (.dat (.list (n9 h)))) x4 x6 x8 h A x9 x10 x11):=call_of (l:=[.str (b6 "show"),.list (n9 h)]) (i:=5) (w:=none) rfl rfl (Qr H)
end
section
variable{E:aJ}{h:q9}{A B:Ks}{n:Nat}
theorem Ih{ns:List Int}{nl:List Str}{R:List Rl}{j:Nat}{x0 x1 x2 x3 x4 x10 x11:Option PV}(ne:E.l≠E.k)(HA:Kp n A)(hn:n<100000)(n4:nl.length=4)(N:∀z∈nl,Nm z)(r5:R.length=5)(hR:∀r∈R,Y1 r):
  ∃B,lW E (bL x0 x1 x2 x3 x4 (some (.dat (.list (nl.map .str)))) (some (.dat (.list (G5 R)))) h A (iD (j:Int)) x10 x11)=some (.next (bL x0 x1 x2 x3 x4 (some (.dat (.list (nl.map .str)))) (some (.dat (.list (G5 R)))) h B (iD (j:Int)) x10 x11))/\Kp (n+1) B:=by
 have j0:=A8 (j:Int) (b:=5) (by decide)
 have j1:=B7 (j:Int) (b:=5) (by decide)
 obtain⟨nm,hm,em⟩:=kY (l:=nl) h7 (i:=0) (by decide) (by omega)
 obtain⟨r,hr,er⟩:=kY (l:=R) (λr=>h7 (m8 r)) j0 (by omega)
 obtain⟨B,hB,KB⟩:=step_rule (h:=h) ne HA hn (N nm hm) (hR r hr);refine⟨B,?_,KB⟩;unfold lW;refine jV ?_ hB _;simp only[t6,S8];walk_at "t";rw[em];walk_at "t";rw[k7 (by decide)]
 walk_at "t"
 erw [er]
 rfl
theorem step_any{w nm:Str}{r:Rl}(ne:E.l≠E.k)(HA:Kp n A)(hn:n<100000)(N:Nm nm)(hr:Y1 r)(hw:w=b6 "rule"\/w=b6 "drop"\/w=b6 "bad"):
  ∃B,L6 E [.ob none (i5 h A),.ob none (N1 A),.dat (.str w),.dat (.str nm),.dat (.str (m8 r))]=xM h B/\Kp (n+1) B:=by
 rcases hw with rfl|rfl|rfl
 . exact step_rule ne HA hn N hr
 . obtain⟨B,hB,KB⟩:=step_drop (E:=E) (h:=h) (z:=m8 r) HA N;exact⟨B,hB,KB.mono (lE _)⟩
 . exact⟨A,LH ne HA N hr,HA.mono (lE _)⟩
theorem Ig{ns:List Int}{nl:List Str}{R:List Rl}{j:Int}{x1 x2 x3 x4 x10 x11:Option PV}(hl:ns.length<=63)(ne:E.l≠E.k)(HA:Kp n A)(hn:n<100000)(n4:nl.length=4)(N:∀z∈nl,Nm z)(r5:R.length=5)(hR:∀r∈R,Y1 r)(j0:0<=j)(j1:j<21):
  ∃B y10 y11,lV E (bL (some (.dat (K4 ns))) x1 x2 x3 x4 (some (.dat (.list (nl.map .str)))) (some (.dat (.list (G5 R)))) h A (iD j) x10 x11)=some (.next (bL (some (.dat (K4 ns))) x1 x2 x3 x4 (some (.dat (.list (nl.map .str)))) (some (.dat (.list (G5 R)))) h B (iD j) y10 y11))/\Kp (n+1) B:=by
 obtain⟨a,ea,a0,a1⟩:=t8 (ns:=ns) (k:=1500+3*j) hl (by omega) (by omega)
 obtain⟨b,eb,b0,b1⟩:=t8 (ns:=ns) (k:=1501+3*j) hl (by omega) (by omega)
 obtain⟨c,ec,c0,c1⟩:=t8 (ns:=ns) (k:=1502+3*j) hl (by omega) (by omega)
 have p0:=A8 a (b:=5) (by decide)
 have p1:=B7 a (b:=5) (by decide)
 have q0:=A8 b (b:=4) (by decide)
 have q1:=B7 b (b:=4) (by decide)
 have s0:=A8 c (b:=5) (by decide)
 have s1:=B7 c (b:=5) (by decide)
 have u0:=A8 (c.fdiv 5) (b:=4) (by decide)
 have u1:=B7 (c.fdiv 5) (b:=4) (by decide)
 obtain⟨w,ew,hw⟩:∃w:Str,O4 [h7 (b6 "rule"),.str (b6 "rule"),.str (b6 "drop"),.str (b6 "bad"),.str (b6 "rule")] (a.fmod 5)=some (.str w)/\(w=b6 "rule"\/w=b6 "drop"\/w=b6 "bad"):=by
  generalize a.fmod 5=z at *;have:z=0\/z=1\/z=2\/z=3\/z=4:=by omega
  rcases this with rfl|rfl|rfl|rfl|rfl
  . exact⟨_,rfl,.inl rfl⟩
  . exact⟨_,rfl,.inl rfl⟩
  . exact⟨_,rfl,.inr (.inl rfl)⟩
  . exact⟨_,rfl,.inr (.inr rfl)⟩
  . exact⟨_,rfl,.inl rfl⟩
 obtain⟨nm,hm,em⟩:=kY (l:=nl) h7 q0 (by omega)
 obtain⟨n2,hm2,em2⟩:=kY (l:=nl) h7 u0 (by omega)
 obtain⟨r,hr,er⟩:=kY (l:=R) (λr=>h7 (m8 r)) s0 (by omega)
 obtain⟨B,hB,KB⟩:=step_any (h:=h) ne HA hn (N nm hm) (hR r hr) hw;have k1:=qx (E:=E) (h:=h) (z:=b6 "") KB (N nm hm);have k2:=qx (E:=E) (h:=h) (z:=b6 "") KB (N n2 hm2);have hj:O7 (.int 3) (.int j)=some (.dat (.int (3*j))):=N3 Bt.lit (Bt.dX (by omega) (by omega))
 refine⟨B,some (.dat (.str w)),some (.dat (.str nm)),?_,KB⟩;unfold lV;rw[g8 (ds':=bL (some (.dat (K4 ns))) x1 x2 x3 x4 (some (.dat (.list (nl.map .str)))) (some (.dat (.list (G5 R)))) h A (iD j) (some (.dat (.str w))) x11) (by
  walk_at "t";rw[hj];walk_at "t";rw[ea];walk_at "t";rw[k7 (by decide)]
  walk_at "t";rw[ew];walk_at "t")]
 rw[g8 (ds':=bL (some (.dat (K4 ns))) x1 x2 x3 x4 (some (.dat (.list (nl.map .str)))) (some (.dat (.list (G5 R)))) h A (iD j) (some (.dat (.str w))) (some (.dat (.str nm)))) (by
  walk_at "t";rw[hj];walk_at "t";rw[eb];walk_at "t";rw[k7 (by decide)]
  walk_at "t";rw[em];walk_at "t")]
 rw[g8 (jV (w:=.str w) (nm:=.str nm) (z:=.str (m8 r)) (by
  simp only[t6,S8];walk_at "t";rw[hj];walk_at "t";rw[ec];walk_at "t";rw[k7 (by decide)]
  walk_at "t"
  erw [er]
  rfl) hB _)]
 rw[g8 (jV (w:=.str (b6 "keeper")) (nm:=.str nm) (z:=.str (b6 "")) rfl k1 _)];refine jV (w:=.str (b6 "keeper")) (nm:=.str n2) (z:=.str (b6 "")) ?_ k2 _;simp only[t6,S8];walk_at "t";rw[hj];walk_at "t";rw[ec];walk_at "t";rw[V9 (by decide) Bt.lit]
 walk_at "t";rw[k7 (by decide)]
 walk_at "t";rw[em2];rfl
end
theorem Nk(E:aJ)(ne:E.l≠E.k)(ns:List Int)(hl:ns.length<=63):qq E [.list (ns.map .int)]=some (.dat (.bool true)):=by
 obtain⟨a,ea,a0,a1⟩:=t8 (ns:=ns) (k:=0) hl (by decide) (by decide)
 obtain⟨b,eb,b0,b1⟩:=t8 (ns:=ns) (k:=1) hl (by decide) (by decide)
 obtain⟨c,ec,c0,c1⟩:=t8 (ns:=ns) (k:=91) hl (by decide) (by decide)
 obtain⟨d,ed,d0,d1⟩:=t8 (ns:=ns) (k:=2) hl (by decide) (by decide)
 have p0:=A8 a (b:=4) (by decide)
 have p1:=B7 a (b:=4) (by decide)
 have q0:=A8 b (b:=3) (by decide)
 have q1:=B7 b (b:=3) (by decide)
 have s0:=A8 d (b:=15) (by decide)
 have s1:=B7 d (b:=15) (by decide)
 obtain⟨h,eh,H⟩:=Nw (ns:=ns) (n:=1+a.fmod 4) (m:=b.fmod 3) hl (by omega) (by omega) q0 (by omega)
 have lh:=IC H;obtain⟨nl,en,n4,N⟩:=HX (ns:=ns) hl;obtain⟨R,eR,hR,r5⟩:=Il (ns:=ns) (k:=600) (n:=1+a.fmod 4) (m:=5) hl (by decide) (by decide) (by omega) (by omega) (by decide) (by decide)
 have r5:R.length=5:=by omega
 have cm:∀ds:Ds,L8 t5 w4 vq ds (R.map L3)=some (G5 R):=λds=>comp_map λr hr=>⟨.dat (.str (m8 r)),wQ (hR r hr),rfl⟩
 unfold qq;simp only[D6,J2,pz,Nat.reduceAdd,reduceIte,bO,dA,Nat.reduceSub,w9,cG,ai];rw[g8 (ds':=[some (.dat (K4 ns)),iD (1+a.fmod 4),none,none,none,none,none,none,none,none,none,none]) (by
  walk_at "t";rw[ea];walk_at "t";rw[k7 (by decide)]
  walk_at "t")]
 rw[g8 (ds':=[some (.dat (K4 ns)),iD (1+a.fmod 4),some (.dat (o7 h)),none,none,none,none,none,none,none,none,none]) (by
  walk_at "t";rw[eb];walk_at "t";rw[k7 (by decide)]
  walk_at "t";rw[eh];walk_at "t")]
 rw[g8 (ds':=[some (.dat (K4 ns)),iD (1+a.fmod 4),some (.dat (o7 h)),some (.dat (.list (n9 h))),none,none,none,none,none,none,none,none]) (by walk_at "t";rw[lh];walk_at "t")]
 rw[g8 (ds':=[some (.dat (K4 ns)),iD (1+a.fmod 4),some (.dat (o7 h)),some (.dat (.list (n9 h))),some (.own (n9 h)),none,none,none,none,none,none,none]) rfl];rw[g8 (ds':=[some (.dat (K4 ns)),iD (1+a.fmod 4),some (.dat (o7 h)),some (.dat (.list (n9 h))),some (.own (n9 h)),some (.ob none (i5 h [])),none,none,none,none,none,none]) (by rw[vg,MV H rfl];rfl)]
 rw[g8 (ds':=[some (.dat (K4 ns)),iD (1+a.fmod 4),some (.dat (o7 h)),some (.dat (.list (n9 h))),some (.own []),some (.ob none (i5 h [])),none,none,none,none,none,none]) rfl];rw[g8 (ds':=[some (.dat (K4 ns)),iD (1+a.fmod 4),some (.dat (o7 h)),some (.dat (.list (n9 h))),some (.own []),some (.ob none (i5 h [])),some (.dat (.list (nl.map .str))),none,none,none,none,none]) (by walk_at "t";rw[en];walk_at "t")]
 rw[g8 (ds':=[some (.dat (K4 ns)),iD (1+a.fmod 4),some (.dat (o7 h)),some (.dat (.list (n9 h))),some (.own []),some (.ob none (i5 h [])),some (.dat (.list (nl.map .str))),some (.ob none (N1 [])),none,none,none,none]) rfl];rw[g8 (ds':=bL (some (.dat (K4 ns))) (iD (1+a.fmod 4)) (some (.dat (o7 h))) (some (.dat (.list (n9 h)))) (some (.own [])) (some (.dat (.list (nl.map .str)))) (some (.dat (.list (G5 R)))) h [] none none none) (by
  walk_at "t";rw[eR];walk_at "t";rw[d9 (by rw[m9];omega),cm]
  walk_at "t")]
 rw[g8 (ds':=bL (some (.dat (K4 ns))) (iD (1+a.fmod 4)) (some (.dat (o7 h))) (some (.dat (.list (n9 h)))) (some (.own [])) (some (.dat (.list (nl.map .str)))) (some (.dat (.list (G5 R)))) h [] none none none) (by unfold fZ;rw[wj H];rfl)]
 obtain⟨k,ek,k19⟩:∃k:Nat,(19*(if c.fmod 6=0 then(1:Int)else 0))=(k:Int)/\k<=19:=by
  by_cases z:c.fmod 6=0
  . rw[d9 z];exact⟨19,rfl,by decide⟩
  . rw[e7 z];exact⟨0,rfl,by decide⟩
 obtain⟨ds1,f1,A,y9,HA,rfl⟩:=iT (gt:=C3 9) (G:=lW E) (lo:=0) (n:=k) (ds:=bL (some (.dat (K4 ns))) (iD (1+a.fmod 4)) (some (.dat (o7 h))) (some (.dat (.list (n9 h)))) (some (.own [])) (some (.dat (.list (nl.map .str)))) (some (.dat (.list (G5 R)))) h [] none none none)
  (λi ds=>∃A y9,Kp i A/\ds=bL (some (.dat (K4 ns))) (iD (1+a.fmod 4)) (some (.dat (o7 h))) (some (.dat (.list (n9 h)))) (some (.own [])) (some (.dat (.list (nl.map .str)))) (some (.dat (.list (G5 R)))) h A y9 none none)
  ⟨[],none,⟨λe he=>absurd he B4,C6 _⟩,rfl⟩ (by
   rintro i ds hi ⟨A,y9,HA,rfl⟩;obtain⟨B,e,KB⟩:=Ih (ns:=ns) (j:=i) (x0:=some (.dat (K4 ns))) (x1:=iD (1+a.fmod 4)) (x2:=some (.dat (o7 h))) (x3:=some (.dat (.list (n9 h)))) (x4:=some (.own [])) (x10:=none) (x11:=none) (h:=h) ne HA (by omega) n4 N r5 hR
   exact⟨_,_,rfl,.inl (by rw[Int.zero_add];exact e),B,iD (i:Int),KB,rfl⟩)
 rw[g8 (ds':=bL (some (.dat (K4 ns))) (iD (1+a.fmod 4)) (some (.dat (o7 h))) (some (.dat (.list (n9 h)))) (some (.own [])) (some (.dat (.list (nl.map .str)))) (some (.dat (.list (G5 R)))) h A y9 none none) (by
  walk_at "t";rw[ec];walk_at "t";rw[k7 (by decide)]
  walk_at "t";rw[Cg];walk_at "t";rw[N3 Bt.lit (by split<;>exact Bt.lit),ek]
  walk_at "t";rw[dw (by omega)]
  walk_at "t";exact f1)]
 obtain⟨ds2,f2,A2,y9',y10,y11,HA2,rfl⟩:=iT (gt:=C3 9) (G:=lV E) (lo:=0) (n:=(6+d.fmod 15).toNat) (ds:=bL (some (.dat (K4 ns))) (iD (1+a.fmod 4)) (some (.dat (o7 h))) (some (.dat (.list (n9 h)))) (some (.own [])) (some (.dat (.list (nl.map .str)))) (some (.dat (.list (G5 R)))) h A y9 none none)
  (λi ds=>∃A y9 y10 y11,Kp (k+i) A/\ds=bL (some (.dat (K4 ns))) (iD (1+a.fmod 4)) (some (.dat (o7 h))) (some (.dat (.list (n9 h)))) (some (.own [])) (some (.dat (.list (nl.map .str)))) (some (.dat (.list (G5 R)))) h A y9 y10 y11)
  ⟨A,y9,none,none,HA,rfl⟩ (by
   rintro i ds hi ⟨A,y9,y10,y11,HA,rfl⟩;obtain⟨B,z10,z11,e,KB⟩:=Ig (ns:=ns) (j:=0+(i:Int)) (x1:=iD (1+a.fmod 4)) (x2:=some (.dat (o7 h))) (x3:=some (.dat (.list (n9 h)))) (x4:=some (.own [])) (x10:=y10) (x11:=y11) (h:=h) hl ne HA (by omega) n4 N r5 hR (by omega) (by omega)
   exact⟨_,_,rfl,.inl e,B,iD (0+(i:Int)),z10,z11,KB,rfl⟩)
 rw[g8 (ds':=bL (some (.dat (K4 ns))) (iD (1+a.fmod 4)) (some (.dat (o7 h))) (some (.dat (.list (n9 h)))) (some (.own [])) (some (.dat (.list (nl.map .str)))) (some (.dat (.list (G5 R)))) h A2 y9' y10 y11) (by
  walk_at "t";rw[ed];walk_at "t";rw[k7 (by decide)]
  walk_at "t";rw[dw (by omega)]
  walk_at "t";exact f2)]
 unfold xm;rw[wj H];rfl
end Law
namespace L2
open PySem PySem.Spec PyProof.Rows
section
variable{X:Cx}
theorem Ra{a b:Str}{j j2:Nat}{v:Expr}{p1 p2 p3 pos:Pos}(i:Nat)(hv:PE X v (D4 i))(ha:a.length<=1000)(hb:b.length<=1000):PE X (.JoinedStr [.Constant (.str a) j p1,.FormattedValue v (-1) none p2,.Constant (.str b) j2 p3] pos) (Xw i):=by
 intro pins s σ H Q I h;obtain⟨n,hn,hs,q⟩:=h;refine JoinedStr_many (pq ?_);refine uk ⟨?_,pq ?_⟩
 . show(aA++a).length<=j8
   rw[jw,aT];show 0+a.length<=_
   omega
 . refine Kg (m4 (hv pins _ σ H (λx H1=>x=.int n/\H1=H) (I.tok _) ⟨_,hn,rfl,rfl⟩) λu s1 ⟨x,H1,I1,r1,q1⟩=>?_)
   obtain⟨rfl,rfl⟩:=q1;obtain⟨t,rfl⟩:=r1;have L:(aA++a++b6 (bV n)).length<=10000:=by
    have e:=int_text_length_le (k:=1920) (by decide) hs
    rw[jw,jw,PySem.ofString_length];have z:Str.empty.length=0:=rfl;omega
   have L2:(aA++a++b6 (bV n)++b).length<=j8:=by rw[jw,aT];omega
   refine formatField_int_small hs ⟨by rw[aT];omega,pq ?_⟩
   exact uk ⟨L2,joinParts_nil ⟨.str _,H1,((I1.tok _).tok _).tok _,⟨_,rfl⟩,q _⟩ L2⟩
theorem Qy{K':c9}{fr:Bool}{e:Expr}{te:TE}{F:Ds->Option PV}{fld:Str}{pos:Pos}(eK:X.K=K')(he:PX X fr e te F)(hb:autoParam (jz e fld X.env (eval e X.env)=eval e X.env) e8):PX X fr (.Attribute e fld pos) (LB K' fld te) (gT fld F):=by subst eK;exact TU he hb
end
end L2
set_option maxHeartbeats 4000000
local macro_rules | `(tactic| walk_at "c") => `(tactic| exact⟨rfl, rfl, rfl, by decide +kernel, rfl, by decide +kernel, by decide +kernel⟩)
namespace Law
open PySem L2
noncomputable def top(i:Nat):Stmt:=PySem.Challenge.pw_sunstore_k80_desk_keepers.main.body.getD i (.Pass ⟨0,0,0,0⟩)
inductive Rw(K:c9)(m n:Str)(s:Stmt)(f:Addr):l9->Prop
 |mk {oc kV dc pm cd ct:b8} {od an:Option Addr} {sl:Array (Option b8)} (l:K.lookup f=some ⟨oc,od,.func (bc m n (bh s) (K6 s) (k9 s) .none kV dc pm an cd ct),sl⟩) (c:px K cd n=true) (k:Y0 K (.ref f)=true):Rw K m n s f (bc m n (bh s) (K6 s) (k9 s) .none kV dc pm an cd ct)
theorem Gq{K:c9}{m n:Str}{s:Stmt}{f:Addr}{fd:l9}(r:Rw K m n s f fd):fw K m n s f fd:=by obtain⟨l,c,k⟩:=r;exact yW l c k
theorem Yf{p:List b8->Prop}(h:p []):∀us,us.length=0->p us:=λus e=>by
 cases us with
 |nil=>exact h
 |cons _ _=>cases e
theorem Ye{k:Nat}{p:List b8->Prop}(h:∀x,∀us,us.length=k->p (x::us)):∀us,us.length=k+1->p us:=λus e=>by
 cases us with
 |nil=>cases e
 |cons x t=>exact h x t (Nat.succ.inj e)
local macro_rules | `(tactic| walk_at "b") => `(tactic| (intro _ _ _ _ _ _; repeat first|exact Yf rfl|refine Ye λ_ => ?_))
structure Dd(K:c9)(J:Prop)(n q:Str)(s:Stmt)(N:List Str)(k:Nat)(f:Addr)(fd:l9):Prop where
 F:fw K n q s f fd
 m:J
inductive De where
 |f (n:Str) (i:Nat) (N:List Str) (k:Nat)
 |a (x n:Str) (i:Nat) (N:List Str) (k:Nat)
 |m (n q:Str) (i j:Nat) (N:List Str) (k:Nat)
 |i (q:Str) (i j:Nat) (N:List Str) (k:Nat)
inductive Nd(K:c9)(C:Addr):De->Addr->l9->Prop
 |f {n:Str} {i k:Nat} {N:List Str} {f:Addr} {d:l9} (a:S0 K J5 n=some (some (.ref f))) (r:Rw K n n (top i) f d):Nd K C (.f n i N k) f d
 |a {x n:Str} {i k:Nat} {N:List Str} {f:Addr} {d:l9} (a:S0 K J5 x=some (some (.ref f))) (r:Rw K n n (top i) f d):Nd K C (.a x n i N k) f d
 |m {n q:Str} {i j k:Nat} {N:List Str} {f:Addr} {d:l9} (a:O0 K (.ref C) n=some (some (.ref f))) (b:pk K (.ref f)=true) (r:Rw K n q (inClass (top i) j) f d):Nd K C (.m n q i j N k) f d
 |i {q:Str} {i j k:Nat} {N:List Str} {f:Addr} {d:l9} (a:O0 K (.ref C) "__init__" = some (some (.ref f))) (b:pk K (.ref f)=true) (r:Rw K "__init__" q (inClass (top i) j) f d):Nd K C (.i q i j N k) f d
inductive Ns(K:c9)(C:Addr):List De->List Addr->List l9->Prop
 |n:Ns K C [] [] []
 |c {e:De} {l:List De} {f:Addr} {fs:List Addr} {d:l9} {ds:List l9}:Nd K C e f d->Ns K C l fs ds->Ns K C (e::l) (f::fs) (d::ds)
theorem Ns.at{K:c9}{C:Addr}{d0:l9}{e:De}:∀{l:List De} {fs:List Addr} {ds:List l9} {i:Nat},Ns K C l fs ds->l[i]? = some e->Nd K C e (fs.getD i 0) (ds.getD i d0)
 |_,_,_,0,.c h _,m=>by cases m;exact h
 |_,_,_,_+1,.c _ t,m=>t.at m
noncomputable abbrev Dc(n q:Str)(s:Stmt)(N:List Str)(k:Nat):Prop:=∀(kV doc pm:b8) (an:Option Addr) (cdv ct:b8) (us:List b8),us.length=k->bindArgs (bc n q (bh s) (K6 s) (k9 s) .none kV doc pm an cdv ct) ⟨us,[]⟩=pure ((N.take k).zip us)
theorem Nd.to{K:c9}{C:Addr}{n:Str}{i k:Nat}{N:List Str}{f:Addr}{d:l9}(h:Nd K C (.f n i N k) f d)(b:Dc n n (top i) N k)(s:c8)(us:List b8)(l:us.length=k):jm s d ⟨us,[]⟩ ((N.take k).zip us):=by
 cases h with
 |f a r =>
  cases r with
  |mk _ _ _=>exact .of_eq (b _ _ _ _ _ _ us l)
section
variable{K:c9}{mg:Str->Option b8}{n q:Str}{s:Stmt}{N:List Str}{k l:Nat}{f C:Addr}{fd:l9}{h:Heap}{J:Prop}{P:j3}{w:i7}{base:Heap}{G:DO}
structure Ok(P:j3)(w:i7)(mg:Str->Option b8)(base:Heap)(CX:fq)(D:Dd K J n q s N k f fd)(l:Nat)(sp:Sp):Prop where
 h:P5 P w K mg base CX l f fd (N.take k) sp
 b:Binds K fd (N.take k) []
noncomputable abbrev WY(P:j3)(w:i7)(K:c9)(mg:Str->Option b8)(base:Heap)(N:List Str)(q:Str)(s:Stmt)(f:Addr)(l:Nat)(G:DO):Prop:=∀(cdv:b8) (A:j6) (outer:List Env) (s':c8) (H:Hp) (E:XK),N.Nodup->N4 l (A.deeper (AE q (k9 s) s'.heap.objs.size f cdv))->∃t,aO (V4 s9 P w K mg base N q (k9 s) f cdv A outer s' H E).sv (K6 s) t G
theorem XZ(D:Dd K J n q s N k f fd)(b:WY P w K mg base N q s f l G)(e:autoParam ((N.take k).length<=N.length) j9)(z:Dc n q s N k:=by walk_at "b")(S:R5 N (N.take k) (k9 s):=by walk_at "c")(r:autoParam ((N.take k).length=k) e8):Ok P w mg base s9 D (l+1) (C7 K (D6 (N.take k).length N.length G)):=⟨D.F.XX S e λ_ _ _ _ _ _ hr=>b _ _ _ _ _ _ S.nd hr,D.F.binds λ_ _ _ _ _ _ us hl=>z _ _ _ _ _ _ us (hl.trans r)⟩
theorem Cm(D:Dd K J n q s N k f fd)(b:WY P w K mg base N q s f l G)(e:autoParam ((N.take k).length<=N.length) j9)(z:Dc n q s N k:=by walk_at "b")(S:R5 N (N.take k) (k9 s):=by walk_at "c")(r:autoParam ((N.take k).length=k) e8):Ok P w mg base s9 D (l+1) (kG K (ny (N.take k).length N.length G)):=⟨D.F.XW S e λ_ _ _ _ _ _ hr=>b _ _ _ _ _ _ S.nd hr,D.F.binds λ_ _ _ _ _ _ us hl=>z _ _ _ _ _ _ us (hl.trans r)⟩
noncomputable abbrev XU(P:j3)(w:i7)(K:c9)(mg:Str->Option b8)(base:Heap)(N:List Str)(q:Str)(s:Stmt)(f:Addr)(l:Nat)(G:DO):Prop:=∀(cdv:b8) (A:j6) (outer:List Env) (s':c8) (H:Hp) (E:XK),N.Nodup->N4 l (A.deeper (AE q (k9 s) s'.heap.objs.size f cdv))->∃t,aO (V4 (X4 P w) P w K mg base N q (k9 s) f cdv A outer s' H E) (K6 s) t G
noncomputable abbrev XT(P:j3)(w:i7)(K:c9)(mg:Str->Option b8)(base:Heap)(N:List Str)(q:Str)(s:Stmt)(f:Addr)(l:Nat)(G:DO):Prop:=∀(cdv:b8) (A:j6) (outer:List Env) (s':c8) (H:Hp) (E:XK),N.Nodup->N4 l (A.deeper (AE q (k9 s) s'.heap.objs.size f cdv))->∃t,aO (V4 (kB P w) P w K mg base N q (k9 s) f cdv A outer s' H E) (K6 s) t G
theorem XY(D:Dd K J n q s N k f fd)(b:XU P w K mg base N q s f l G)(e:autoParam ((N.take k).length<=N.length) j9)(z:Dc n q s N k:=by walk_at "b")(S:R5 N (N.take k) (k9 s):=by walk_at "c")(r:autoParam ((N.take k).length=k) e8):Ok P w mg base (X4 P w) D (l+1) (bI K (ku (N.take k).length N.length G)):=⟨D.F.XB S e λ_ _ _ _ _ _ hr=>b _ _ _ _ _ _ S.nd hr,D.F.binds λ_ _ _ _ _ _ us hl=>z _ _ _ _ _ _ us (hl.trans r)⟩
theorem kM(D:Dd K J n q s N k f fd)(b:XT P w K mg base N q s f l G)(e:autoParam ((N.take k).length<=N.length) j9)(z:Dc n q s N k:=by walk_at "b")(S:R5 N (N.take k) (k9 s):=by walk_at "c")(r:autoParam ((N.take k).length=k) e8):Ok P w mg base (kB P w) D (l+1) (xO K (fnX (N.take k).length N.length G)):=⟨D.F.XA S e λ_ _ _ _ _ _ hr=>b _ _ _ _ _ _ S.nd hr,D.F.binds λ_ _ _ _ _ _ us hl=>z _ _ _ _ _ _ us (hl.trans r)⟩
end
inductive Al(p:Str->Prop):List Str->Prop
 |n:Al p []
 |c {s:Str} {r:List Str}:p s->Al p r->Al p (s::r)
theorem Al.at{p:Str->Prop}{s:Str}:∀{l:List Str},Al p l->s∈l->p s
 |_::_,.c h t,m=>by
  cases m with
  |head=>exact h
  |tail _ m=>exact t.at m
section
variable{X:Cx}{K':c9}{mg':Str->Option b8}{fr:Bool}{o e:Expr}{es:List Expr}{to:TE}{t:TA}{Fo:DV}{Fl:DL}{FO:Ds->Option (List AV)}{pos p apos:Pos}{i k k' k0:Nat}{f C:Addr}{fd:l9}{N:List Str}{x q nm:Str}{st:Stmt}{f':FV}{g':List PV->Option (PV×Ds)}{pl:Sem Bool}
theorem XS{y:Str}{D:Dd K' (mg' x=some (.ref f)) y q st N k0 f fd}(G:Ok X.prog X.w mg' X.base s9 D k (C7 K' f'))(hr:N4 k' X.A)(ha:bz X fr (e::es) t Fl)(eK:autoParam (X.K=K') e8)(em:autoParam (X.mg=mg') e8)(hk:k<=k':=by omega)(hg:Gl X x:=by exact rfl)(hdb:autoParam (bA x) j9)(he:autoParam (aH X e es) e8)(hpl:autoParam (cT X pos es) e8):PX X fr (.Call (.Name x p) (e::es) [] pos) (jO (C7 K' f') [] E0 t) (d6 f' Fl):=by subst eK em;exact⟨Cf G.h (hr.mono hk) hg D.m D.F.kp G.b .nil my ha.p hdb he hpl,BH ha⟩
theorem XR{D:Dd K' (mg' x=some (.ref f)) x q st N k0 f fd}(G:Ok X.prog X.w mg' X.base s9 D k (kG K' g'))(hr:N4 k' X.A)(ha:jj X (e::es) t FO)(eK:autoParam (X.K=K') e8)(em:autoParam (X.mg=mg') e8)(hk:k<=k':=by omega)(hg:Gl X x:=by exact rfl)(hdb:autoParam (bA x) j9)(he:autoParam (aH X e es) e8)(hpl:autoParam (cT X pos es) e8):qJ X (.Call (.Name x p) (e::es) [] pos) (jO (kG K' g') [] E0 t) (F5 g' FO):=by subst eK em;exact⟨Cf G.h (hr.mono hk) hg D.m D.F.kp G.b .nil my ha.p hdb he hpl,Lp ha⟩
theorem XO{h':eQ}{D:Dd K' (Meth K' C x f) x q st N k0 f fd}(G:Ok X.prog X.w mg' X.base (X4 X.prog X.w) D k (bI K' h'))(T:fV K' nm C)(hr:N4 k' X.A)(h:PE X o (D4 i))(ha:jj X (e::es) t FO)(eK:autoParam (X.K=K') e8)(em:autoParam (X.mg=mg') e8)(hk:k<=k':=by omega)(he:autoParam (aH X e es) e8)(hpl:autoParam (cT X pos es) e8)(hq:autoParam (Dj X o x apos (e::es) pos pl) e8):qJ X (.Call (.Attribute o x apos) (e::es) [] pos) (jN C x (bI K' h') [] (λ_ _ _=>False) (D4 i) t) (gv nm x i (vd h') FO):=by subst eK em;exact GD T h D.m G.h (hr.mono hk) G.b ha he hpl hq
theorem XQ{h':eQ}{rpos:Pos}{D:Dd K' (Meth K' C x f) x q st N k0 f fd}(G:Ok X.prog X.w mg' X.base (X4 X.prog X.w) D k (bI K' h'))(P:Passes (X4 X.prog X.w) X X.ek)(T:fV K' nm C)(hr:N4 k' X.A)(h:PE X o (D4 i))(ha:jj X (e::es) t FO)(eK:autoParam (X.K=K') e8)(em:autoParam (X.mg=mg') e8)(hk:k<=k':=by omega)(he:autoParam (aH X e es) e8)(hpl:autoParam (cT X pos es) e8)(hq:autoParam (Dj X o x apos (e::es) pos pl) e8):B8 X (.Return (some (.Call (.Attribute o x apos) (e::es) [] pos)) rpos) (nR (jN C x (bI K' h') [] X.ek (D4 i) t)) (ei nm x i h' FO):=by subst eK em;exact GO P T h D.m G.h (hr.mono hk) G.b ha he hpl hq
theorem yg{a b c:Expr}{ta tb tc:TE}{Fa Fb Fc:DV}{op g:aZ}{r B:R2}{f g':b5->b5->Option PV}(ho:F4 X (C9 op) r)(hp:F4 X (C9 g) B)(M:O5 X.K r f)(s:O5 X.K B g')(N:PX X fr a ta Fa)(hb:PX X fr b tb Fb)(P:PX X fr c tc Fc)(E:lastMarks [op,g] [b,c]=false:=by with_unfolding_all rfl):PX X fr (.Compare a [op,g] [b,c] pos) (rV r B ta tb tc) (gw f g' Fa Fb Fc):=⟨yi ho hp N.p hb.p P.p E,xD M s N hb P⟩
theorem Gv{k:Nat}{A:j6}(r:N4 k A):A.units+1<D3:=by have:=r.un;omega
theorem DZ{l:List Stmt}:aO X l rT aY:=⟨GU,(vG (st:=.Pass ⟨0,0,0,0⟩)).2⟩
theorem Yd{sc:E8}(h:oR X.N X.N X.env.scope sc=true):oR X.N X.N X.env.scope sc=true:=h
end
mutual
inductive Cs(K:c9):b8->V->b5->Prop
 |i {n:Int} {t:Tok}:Cs K (.int n t) (.int n) (.int n)
 |s {x:Str} {t:Tok}:Cs K (.str x t) (.str x) (.str x)
 |f {f:Addr} {nm:Str} (h:S0 K J5 nm=some (some (.ref f))):Cs K (.ref f) (.ref f) (V1 nm)
 |t {a:Addr} {d:Option Addr} {n:Nat} {s:Array (Option b8)} {us:List b8} {vs:List V} {ds:List b5} (l:K.lookup a=some ⟨.type "tuple",d,.seq us.toArray n,s⟩) (z:us.toArray.size<=1000) (h:Cl K us vs ds):Cs K (.ref a) (.ref a) (.tuple ds)
inductive Cl(K:c9):List b8->List V->List b5->Prop
 |n:Cl K [] [] []
 |c {u:b8} {us:List b8} {v:V} {vs:List V} {d:b5} {ds:List b5} (a:Cs K u v d) (b:Cl K us vs ds):Cl K (u::us) (v::vs) (d::ds)
end
mutual
theorem Cs.to{K:c9}{u:b8}{v:V}{d:b5}(h:Cs K u v d):RelV v u/\∀H,Dt K H v d:=by
 cases h with
 |i=>exact⟨⟨_,rfl⟩,λ_=>.int _⟩
 |s=>exact⟨⟨_,rfl⟩,λ_=>.str _⟩
 |f h=>exact⟨rfl,λ_=>.fn (.inl h)⟩
 |t l z h=>exact⟨rfl,NU l z h.to.1 h.to.2⟩
theorem Cl.to{K:c9}{us:List b8}{vs:List V}{ds:List b5}(h:Cl K us vs ds):Vals vs us/\∀H,n6 K H vs ds:=by
 cases h with
 |n=>exact⟨.nil,λ_=>.nil⟩
 |c a b=>exact⟨.cons a.to.1 b.to.1,λH=>.cons (a.to.2 H) (b.to.2 H)⟩
end
inductive Ck(K:c9):List (Str×b5)->List (b8×V)->Prop
 |n:Ck K [] []
 |c {s:Str} {d:b5} {l:List (Str×b5)} {u:b8} {v:V} {as:List (b8×V)} (e:S0 K J5 s=some (some u)) (h:Cs K u v d) (r:Ck K l as):Ck K ((s,d)::l) ((u,v)::as)
theorem Ck.at{K:c9}{s:Str}{d:b5}{l:List (Str×b5)}{as:List (b8×V)}{i:Nat}(h:Ck K l as)(m:l[i]? = some (s,d)):S0 K J5 s=some (some (as.getD i (.none,.non)).1)/\Cs K (as.getD i (.none,.non)).1 (as.getD i (.none,.non)).2 d:=by
 induction h generalizing i with
 |n=>exact nE m
 |c a b _ j=>cases i with
  |zero=>cases m;exact⟨a,b⟩
  |succ i=>exact(j (i:=i) m :)
noncomputable def Xh:List (Str×b5):=[("FIGURES",oQ),("MOST_FIGURES",fO),("MOST_HOURS",oP),("MOST_WORKS",oN),("MOST_NUMBER_reading",ax),("MOST_BOTTOM",nH),("MOST_LETTERS_reading",Z9),("LETTERS_reading",cQ),("STORE_PARTS",gX),("HOUR_PARTS",W7),("LINE_PARTS",je),("WORK_PARTS",ja),("MOST_RULES",jc),("MOST_TESTS",oO),("MOST_NUMBER_rules",bt),("BARE_WORDS",jg),("AMOUNT_WORDS",fP),("PRICE_WORDS",gY),("FILL_WORDS",jf),("TAKE_WORDS",jb),("WORK_WORDS",iZ),("DEED_WORDS",eJ),("MOST_LETTERS_desk",bu),("LETTERS_desk",kW),("KEEPER_WORDS",ay)]
structure Xc(K:c9)(mg:Str->Option b8)(C CS fi:Addr)(fd:l9)(c fld prm qn:Str)(st:Stmt):Prop where
 h:Y2 K C CS fi fld
 e:bw K C
 k:Y0 K (.ref C)=true
 F:fw K "__init__" qn st fi fd
 b:Binds K fd ["self",prm] []
 m:mg c=some (.ref C)
inductive Xf(K:c9)(CS:Addr)(c fld q:Str)(st:Stmt):Addr->Addr->l9->Prop
 |mk {C f N:Addr} {nm qn:Str} {bs:List b8} {sn:List Str} {sub:List b8} {ab:Bool} {col:Option Bool} {dd:Option Addr} {k0 k1 k2 k3 k5:Option b8} {od an:Option Addr} {sl:Array (Option b8)} {kV dc pm cd ct:b8} (a:S0 K J5 c=some (some (.ref C))) (l:K.lookup C=some (fc nm qn C N bs (.ref CS::L4) true sn sub ab col dd k0 k1 k2 k3 k5 "ValueError.__new__")) (x1:PySem.W.nsOkIn K N=true) (x2:S0 K N "__init__" = some (some (.ref f))) (xt:PySem.W.tailIn K L4 (.ref CS::L4)=true) (li:K.lookup f=some ⟨.type "function",od,.func (bc "__init__" q (bh st) (K6 st) (k9 st) .none kV dc pm an cd ct),sl⟩) (ci:px K cd q=true) (ki:Y0 K (.ref f)=true) (y:(O0 K (.ref C) "__setattr__" = some (some (.builtin "object.__setattr__"))/\O0 K (.ref C) fld=some none)/\Jv K CS (.type "type")=true/\Aq K (.ref CS) "__getattribute__" = some (some (.builtin "type.__getattribute__"))/\Ju K (.ref CS) (.type "type") "__init__" = some (.val (.builtin "ValueError.__init__"))) (e:bw K C) (k:Y0 K (.ref C)=true):Xf K CS c fld q st C f (bc "__init__" q (bh st) (K6 st) (k9 st) .none kV dc pm an cd ct)
theorem Xf.to{K:c9}{h:Heap}{mg:Str->Option b8}{CS C f:Addr}{c fld q prm:Str}{st:Stmt}{d:l9}(X:K.In h)(G:h.Ns J5 mg)(x:Xf K CS c fld q st C f d)(b:Dc "__init__" q st ["self",prm] 2):Xc K mg C CS f d c fld prm q st:=by
 cases x with
 |mk a l x1 x2 xt li ci ki y e k=>exact⟨⟨⟨_,_,_,_,_,_,_,_,_,_,_,_,_,_,l,x1,x2⟩,xt,⟨_,li,rfl⟩,y.1.1,y.1.2,y.2.1,y.2.2.1,y.2.2.2⟩,e,k,yW li ci ki,(yW (K:=K) li ci ki).binds b,lG X G a⟩
structure PJ where
 f:Nat->Addr
 d:Nat->l9
 u:Nat->b8×V
 C:Addr
 E:aJ
 S:Addr
 fit:Addr
 Xd:l9
 Xb:Addr
 Xg:l9
 Xa:Addr
 Xe:l9
noncomputable def CT:List De:=[.f "common_divisor" 9 ["one","other","rest"] 2,
 .f "fraction" 10 ["top","bottom","divisor"] 2,
 .f "read_figures" 18 ["text","sign"] 1,
 .f "read_signed" 19 ["text","number"] 1,
 .f "figures_of" 16 ["number","piece","pieces","rest"] 1,
 .f "written" 17 ["one","text"] 1,
 .f "read_fraction" 20 ["text","parts","top","bottom","one"] 1,
 .f "read_whole" 101 ["word","least","one"] 2,
 .f "read_amount" 102 ["word"] 1,
 .f "read_name" 105 ["word","sign"] 1,
 .f "read_price" 103 ["word"] 1,
 .f "read_share" 104 ["word","one"] 1,
 .f "read_parts" 110 ["words","readers","parts"] 2,
 .f "read_hour" 112 ["words","amounts","line"] 1,
 .f "read_hours" 114 ["rows","hours","words","hour"] 1,
 .f "read_store" 111 ["words","store"] 1,
 .f "read_work" 113 ["words","hours","work"] 2,
 .f "read_works" 115 ["rows","hours","works","names","words","work"] 2,
 .f "read" 116 ["lines","rows","store","hours","works","place"] 1,
 .i "Desk.__init__" 154 0 ["self","lines"] 2,
 .f "_law_mixed" 156 ["_law_script","_law_k","_law_cell","_law_turn","_law_v"] 2,
 .f "_law_scale" 158 ["_law_script"] 1,
 .f "_law_number" 159 ["_law_script","_law_k"] 2,
 .f "_law_line" 161 ["_law_script","_law_k","_law_buy","_law_give"] 2,
 .f "_law_frac" 157 ["_law_top","_law_bottom","_law_one","_law_other","_law_rest"] 2,
 .f "_law_share" 160 ["_law_script","_law_k","_law_bottom","_law_some"] 2,
 .f "_law_work" 162 ["_law_script","_law_k","_law_name","_law_hours","_law_first","_law_last"] 4,
 .f "_law_house" 163 ["_law_script","_law_hours","_law_works","_law_told_here","_law_t","_law_at","_law_size","_law_start","_law_flows","_law_shares","_law_store","_law_names_here","_law_jobs"] 3,
 .f "_law_words" 167 ["_law_words_here"] 1,
 .f "_law_written" 166 ["_law_one"] 1,
 .f "_law_house_lines" 168 ["_law_house_here","_law_store","_law_shares","_law_lines","_law_hour","_law_end"] 1,
 .f "_law_test" 164 ["_law_script","_law_k","_law_hours","_law_kind"] 3,
 .f "_law_keeper" 165 ["_law_script","_law_k","_law_hours","_law_rules","_law_told_here","_law_r","_law_at","_law_many","_law_tests","_law_fill","_law_take"] 4,
 .f "_law_names" 171 ["_law_script","_law_some"] 1,
 .f "_law_rule_line" 169 ["_law_rule","_law_words_here","_law_test_here"] 1,
 .f "rule_line" 134 ["rule","words","test"] 1,
 .f "shown_keeper" 135 ["keeper"] 1,
 .m "say_keeper" "Desk.say_keeper" 154 4 ["self","word","name","keeper","plan"] 3,
 .f "read_deeds" 131 ["words","deeds"] 1,
 .f "read_bound" 128 ["word","least","one"] 2,
 .f "read_test" 129 ["words","bound"] 1,
 .f "read_tests" 130 ["words","tests","place","test"] 1,
 .f "read_rule" 132 ["line","words","tests","deeds"] 1,
 .f "read_keeper" 133 ["lines","rules","place","line","rule"] 1,
 .m "say_rule" "Desk.say_rule" 154 3 ["self","line","name","rule","lines","keeper"] 4,
 .f "is_name" 148 ["word"] 1,
 .a "whole_showing" "whole" 137 ["number"] 1,
 .f "hour_line" 140 ["hour","words"] 1,
 .f "store_line" 139 ["store","amounts","shares"] 1,
 .f "work_line" 141 ["work"] 1,
 .f "shown" 142 ["house","hours","works"] 1,
 .m "say" "Desk.say" 154 1 ["self","line","words"] 2,
 .f "_law_says" 170 ["_law_desk","_law_line_here","_law_due","_law_told_here"] 3,
 .f "_law_kept" 173 ["_law_keepers","_law_name"] 2,
 .f "_law_told" 172 ["_law_desk","_law_line_here","_law_told_here","e","_law_kept_here"] 2,
 .f "_law_step" 174 ["_law_desk","_law_keepers","_law_word","_law_name","_law_rule","_law_rules","_law_line_here","_law_due"] 5,
 .f "law" 175 ["_law_script","_law_hours","_law_house_here","_law_lines","_law_handed","_law_desk","_law_names_here","_law_keepers","_law_rules","_law_j","_law_word","_law_name"] 1]
structure Txt(K:c9)(mg:Str->Option b8)(a:PJ):Prop where
 f:∀(i:Nat) {n:Str} {t k:Nat} {N:List Str},CT[i]? = some (.f n t N k)->Dd K (mg n=some (.ref (a.f i))) n n (top t) N k (a.f i) (a.d i)
 r:∀(i:Nat) {x n:Str} {t k:Nat} {N:List Str},CT[i]? = some (.a x n t N k)->Dd K (mg x=some (.ref (a.f i))) n n (top t) N k (a.f i) (a.d i)
 m:∀(i:Nat) {n q:Str} {t j k:Nat} {N:List Str},CT[i]? = some (.m n q t j N k)->Dd K (Meth K a.C n (a.f i)) n q (inClass (top t) j) N k (a.f i) (a.d i)
 i:∀(i:Nat) {q:Str} {t j k:Nat} {N:List Str},CT[i]? = some (.i q t j N k)->Dd K (Mk K a.C (a.f i)) "__init__" q (inClass (top t) j) N k (a.f i) (a.d i)
 cn:fV K "Desk" a.C
 mc:mg "Desk" = some (.ref a.C)
 na:∀s∈(["house","keepers"]:List Str),bQ K a.C s
 n:∀s∈(["abs","all","enumerate","int","isinstance","len","list","range","str","tuple","zip"]:List Str),mg s=none
 v:∀(i:Nat) {s:Str} {d:b5},Xh[i]? = some (s,d)->mg s=some (a.u i).1/\RelV (a.u i).2 (a.u i).1/\∀H,Dt K H (a.u i).2 d
 w:∀(i:Nat) {n:Str} {t k:Nat} {N:List Str},CT[i]? = some (.f n t N k)->S0 K J5 n=some (some (.ref (a.f i)))
 xs:mg "StoreError" = some (.ref a.S)
 xt:Xc K mg a.E.t a.S a.fit a.Xd "NoText" "place" "place" "NoText.__init__" (inClass (top 3) 0)
 xk:Xc K mg a.E.k a.S a.Xb a.Xg "NoKeeper" "name" "name" "NoKeeper.__init__" (inClass (top 4) 0)
 xl:Xc K mg a.E.l a.S a.Xa a.Xe "NoLine" "line" "line" "NoLine.__init__" (inClass (top 5) 0)
 ne:a.E.l≠a.E.k/\a.S≠a.E.k
section
variable{P:j3}{w:i7}{K:c9}{mg:Str->Option b8}{base:Heap}{ad:PJ}(T:Txt K mg ad)
include T
theorem Wv(c:Bool):ir c P w K mg base s9 1 ad.fit ad.Xd ["self","place"] (cv Jo ad.E.t "place"):=by
 refine T.xt.F.Cm (k:=0) (by walk_at "c" : R5 ["self","place"] ["self","place"] (k9 (inClass (top 3) 0))) (λvs H Q E h=>?_) λcdv A outer s H vs Q E hr h=>⟨_,mx (dI (km T.xt.h rfl T.xs (T9 (pv 0) (T9 (Ra 1 (pv 1) (by decide +kernel) (by decide +kernel)) ee)) (pl:=_))) (qb (uQ T.xt.h (pv 0) (pv 1))),?_⟩
 . obtain⟨ea,v,rfl,_⟩:=h;rfl
 . obtain⟨ea,v,rfl,⟨i,rfl,hi⟩,hH,q⟩:=h;exact⟨.ref ea,rfl,i,rfl,hi,λx=>⟨ea,_,none,rfl,hH,.int i,rfl,.ref ea,rfl,ea,rfl,hH,q⟩⟩
theorem Ww(c:Bool):ir c P w K mg base s9 1 ad.Xb ad.Xg ["self","name"] (cv zA ad.E.k "name"):=by
 refine T.xk.F.Cm (k:=0) (by walk_at "c" : R5 ["self","name"] ["self","name"] (k9 (inClass (top 4) 0))) (λvs H Q E h=>?_) λcdv A outer s H vs Q E hr h=>⟨_,mx (dI (km T.xk.h rfl T.xs (T9 (pv 0) (T9 (Cd 1 (pv 1) (by decide +kernel)) ee)) (pl:=_))) (qb (uQ T.xk.h (pv 0) (pv 1))),?_⟩
 . obtain⟨ea,v,rfl,_⟩:=h;rfl
 . obtain⟨ea,v,rfl,⟨i,rfl,hi⟩,hH,q⟩:=h;exact⟨.ref ea,rfl,i,rfl,hi,λx=>⟨ea,_,none,rfl,hH,.str i,rfl,.ref ea,rfl,ea,rfl,hH,q⟩⟩
theorem OU(c:Bool):ir c P w K mg base s9 1 ad.Xa ad.Xe ["self","line"] (cv zA ad.E.l "line"):=by
 refine T.xl.F.Cm (k:=0) (by walk_at "c" : R5 ["self","line"] ["self","line"] (k9 (inClass (top 5) 0))) (λvs H Q E h=>?_) λcdv A outer s H vs Q E hr h=>⟨_,mx (dI (km T.xl.h rfl T.xs (T9 (pv 0) (T9 (Cd 1 (pv 1) (by decide +kernel)) ee)) (pl:=_))) (qb (uQ T.xl.h (pv 0) (pv 1))),?_⟩
 . obtain⟨ea,v,rfl,_⟩:=h;rfl
 . obtain⟨ea,v,rfl,⟨i,rfl,hi⟩,hH,q⟩:=h;exact⟨.ref ea,rfl,i,rfl,hi,λx=>⟨ea,_,none,rfl,hH,.str i,rfl,.ref ea,rfl,ea,rfl,hH,q⟩⟩
end
set_option hygiene false
local macro_rules | `(tactic| walk_at "n") => `(tactic| first|exact nd|(dsimp only[kX, Cx.sv, Cx.marked, Cx.quiet, V4]; decide +kernel))
local macro_rules | `(tactic| walk_at "v") => `(tactic| first|exact Or.inl rfl|exact Or.inr rfl)
local macro_rules | `(tactic| walk_at "o") => `(tactic| (first|apply qt|apply Bo|apply so|apply uS|apply wO|apply Ek|apply rb|apply wH|apply fE|apply iL|apply gS|apply gR|apply wK|apply yw|apply wL|apply wJ|apply yr|apply wG|apply Rq|apply fG|apply Ep|apply En|apply Bm|apply Ht|apply Hw|apply Em|apply Hl|apply Er|apply El|apply yx|apply ri|apply Ho|apply Bn|apply Eo|apply uU|apply yq|apply sk|apply oo|apply wM|apply wN|apply yt|apply wI|apply yu|apply uT|apply rj|apply Es|apply ra|apply yy|apply wF|apply yp|apply MR|apply kn|apply Hs|apply Hu|apply Hn|apply Hq|apply Hk)<;>exact T)
local macro_rules | `(tactic| walk_at "t") => `(tactic| first|exact Lx|exact Lw|exact Lu|exact Qf (by repeat first|exact Lv|apply FQ))
local macro_rules | `(tactic| walk_at "w") => `(tactic| first|exact IH v7|exact Ny (sF (sF IG v7) v7))
local macro_rules | `(tactic| walk_at "m") => `(tactic| first|exact(rfl : _ = [_])|exact(rfl : _ = [_, _]))
local macro_rules | `(tactic| walk_at "u") => `(tactic| first|exact Yd rfl)
local macro_rules | `(tactic| walk_at "d") => `(tactic| first|exact Uv T.cn (T.na _ v7) (pv _)|exact Uu (pv _))
local macro_rules | `(tactic| walk_at "l") => `(tactic| first|exact Qz rfl (by walk_at "u") (by walk_at "m") (by walk_at "t") (by walk_at "q") (by walk_at "w") (λ_ _ _ _ _ _ => (by walk_at "q")) (λ_ _ _ _ _ _ => (by walk_at "q")) (λ_ _ _ _ _ _ => (by walk_at "q")))
local macro_rules | `(tactic| walk_at "x") => `(tactic| first|((with_reducible show PX _ _ _ _ (K2 _)); apply TR)|apply TK|((with_reducible show PX _ _ _ _ (b7 _)); exact TF _ (pv _))|((with_reducible show PX _ _ _ _ (fC _)); first|exact TQ|exact Wj|exact TJ|exact TM|exact v9 rfl (T.v 0 rfl)|exact v9 rfl (T.v 1 rfl)|exact v9 rfl (T.v 2 rfl)|exact v9 rfl (T.v 3 rfl)|exact v9 rfl (T.v 4 rfl)|exact v9 rfl (T.v 5 rfl)|exact v9 rfl (T.v 6 rfl)|exact v9 rfl (T.v 7 rfl)|exact v9 rfl (T.v 8 rfl)|exact v9 rfl (T.v 9 rfl)|exact v9 rfl (T.v 10 rfl)|exact v9 rfl (T.v 11 rfl)|exact v9 rfl (T.v 12 rfl)|exact v9 rfl (T.v 13 rfl)|exact v9 rfl (T.v 14 rfl)|exact v9 rfl (T.v 15 rfl)|exact v9 rfl (T.v 16 rfl)|exact v9 rfl (T.v 17 rfl)|exact v9 rfl (T.v 18 rfl)|exact v9 rfl (T.v 19 rfl)|exact v9 rfl (T.v 20 rfl)|exact v9 rfl (T.v 21 rfl)|exact v9 rfl (T.v 22 rfl)|exact v9 rfl (T.v 23 rfl)|exact v9 rfl (T.v 24 rfl))|((with_reducible show PX _ _ _ _ (b9 j5 _ _)); exact Wh (r := TB K) UX Xs (by walk_at "q") (by walk_at "q") (λ_ _ => rfl))|((with_reducible show PX _ _ _ _ (b9 O7 _ _)); apply qa Rj VI)|((with_reducible show PX _ _ _ _ (b9 i6 _ _)); apply qa (r := DU K) Rp VP)|((with_reducible show PX _ _ _ _ (b9 cA _ _)); apply qa MQ SA)|((with_reducible show PX _ _ _ _ (b9 A4 _ _)); apply qa Rk VJ)|((with_reducible show PX _ _ _ _ (b9 iB _ _)); apply qa Uy VD)|((with_reducible show PX _ _ _ _ (b9 Ea _ _)); apply qa Uz VG)|((with_reducible show PX _ _ _ _ (b9 o3 _ _)); exact bK (r := uP K) (sj hr.units) Dq (O6 _) (by walk_at "q") (by walk_at "q"))|((with_reducible show PX _ _ _ _ (b9 Q4 _ _)); exact bK (r := ye K) (yn hr.units) Ll (O6 _) (by walk_at "q") (by walk_at "q"))|((with_reducible show PX _ _ _ _ (b9 hJ _ _)); apply bK OR Sy (O6 _))|((with_reducible show PX _ _ _ _ (b9 iR _ _)); apply bK Eg Lm (O6 _))|((with_reducible show PX _ _ _ _ (b9 CJ _ _)); apply bK OS Sz (O6 _))|((with_reducible show PX _ _ _ _ (b9 vT _ _)); apply bK Eh Ln (O6 _))|((with_reducible show PX _ _ _ _ (b9 aF _ _)); apply bK Hg Sv (O6 _))|((with_reducible show PX _ _ _ _ (b9 oB _ _)); apply bK Ci BD (O6 _))|((with_reducible show PX _ _ _ _ (b9 (P9 inD Z8) _ _)); exact bK (r := mv K false) yo Dp (by with_unfolding_all rfl) (by walk_at "q") (by walk_at "q"))|((with_reducible show PX _ _ _ _ (b9 (P9 V0 N6) _ _)); exact bK (r := mv K true) vK xv (by with_unfolding_all rfl) (by walk_at "q") (by walk_at "q"))|((with_reducible show PX _ _ _ _ (b9 iu _ _)); exact bK (vL (yM hr.units)) xw (by with_unfolding_all rfl) (by walk_at "q") (by walk_at "q"))|((with_reducible show PX _ _ _ _ (gw iR vT _ _ _)); exact yg Eg Eh Lm Ln (by walk_at "q") (by walk_at "q") (by walk_at "q"))|apply We SJ VH|apply TH|apply TN|apply Wi|apply TV|apply Wg|apply TL  | ((with_reducible show PX _ _ _ _ (sO _)); exact Qw (by walk_at "q"))|((with_reducible show PX _ _ _ _ (iU _)); exact Me _ (pv _) rfl (T.n _ v7) eM)|((with_reducible show PX _ _ _ _ (oE)); exact Mc)|((with_reducible show PX _ _ _ _ (oF _ _ _)); exact Md (Gv hr) (by walk_at "d") (by walk_at "q") ⟨rfl, rfl, rfl, rfl⟩)|((with_reducible show PX _ _ _ _ (fN _ _ _ _)); exact GG (Gv hr) (by walk_at "d") (by walk_at "q") (by walk_at "q") ⟨rfl, rfl, rfl, rfl⟩)|((with_reducible show PX _ _ _ _ (EU _ _ _)); exact Qu (Gv hr) (by walk_at "d") (by walk_at "q"))|((with_reducible show PX _ _ _ _ (gT _ _)); exact Qy (K' := K) rfl (by walk_at "q"))|((with_reducible show PX _ _ _ _ (xo _ _ _)); exact Mb rfl T.cn (T.na _ v7) (pv _))|((with_reducible show PX _ _ _ _ (d6 _ _)); first|((with_reducible show PX _ _ _ _ (d6 O2 _)); exact qV (r := LZ K) Jc VL rfl (T.n _ v7) eM (by walk_at "q"))|((with_reducible show PX _ _ _ _ (d6 rL _)); exact qV NX VQ rfl (T.n _ v7) eM (by walk_at "q"))|((with_reducible show PX _ _ _ _ (d6 vo _)); exact qV (r := DT K) (Jg (hr.hd rfl)) SE rfl (T.n _ v7) eM (by walk_at "q"))|((with_reducible show PX _ _ _ _ (d6 cM _)); exact gn (r := Wa K) wV PL rfl (T.n _ v7) eM (by walk_at "q"))|((with_reducible show PX _ _ _ _ (d6 cy _)); exact gn (r := GA K) oM Fz rfl (T.n _ v7) eM (by walk_at "q"))|((with_reducible show PX _ _ _ _ (d6 fx _)); exact gn oK Ou rfl (T.n _ v7) eM (by walk_at "q"))|((with_reducible show PX _ _ _ _ (d6 (nu intD jS) _)); exact gn (Je.or Jd) (VM.or Sw) rfl (T.n _ v7) eM (by walk_at "q"))|((with_reducible show PX _ _ _ _ (d6 (nu fx pX) _)); exact gn (oK.or zq) (Ou.or Sr) rfl (T.n _ v7) eM (by walk_at "q"))|exact XS (by walk_at "o") hr (by walk_at "q"))|((with_reducible show PX _ _ _ _ (O8 _ _ _ _)); exact Jp.p (by walk_at "l"))|((with_reducible show PX _ _ _ _ (ij _ _)); exact Mf rfl v7 rfl (T.n _ v7) eM (by walk_at "q") (Rg rfl (T.n _ v7) eM rfl))|apply Ma (r := LX K) Ti VE|apply GF|((with_reducible show PX _ _ _ _ (G7 R9 _ _)); exact oj (name := "join") (id := "str.join") (r := rJoin K) rfl F.slot_str_join F.type_str_join Rz Su (λ_ _ _ h => Im h) (by walk_at "q") (by walk_at "q"))|((with_reducible show PX _ _ _ _ (G7 Y5 _ _)); exact oj (name := "split") (id := "str.split") rfl tX F.type_str_split MY PM (λ_ _ _ h => DI h) (by walk_at "q") (by walk_at "q"))|((with_reducible show PX _ _ _ _ (G7 fy _ _)); exact oj (name := "startswith") (id := "str.startswith") rfl F.slot_str_startswith F.type_str_startswith HK Lj (λ_ _ _ h => Bh h) (by walk_at "q") (by walk_at "q"))|((with_reducible show PX _ _ _ _ (G7 kC _ _)); exact oj (name := "zfill") (id := "str.zfill") rfl F.slot_str_zfill F.type_str_zfill MX PK (λ_ _ _ h => Dn h) (by walk_at "q") (by walk_at "q"))|((with_reducible show PX _ _ _ _ (G7 mB _ _)); exact oj (name := "partition") (id := "str.partition") rfl Kj F.type_str_partition Ry Ss (λ_ _ _ h => He h) (by walk_at "q") (by walk_at "q"))|((with_reducible show PX _ _ _ _ (ql _ _ _)); exact Qv T.cn (T.i 19 rfl).m (fG T).h (hr.mono (by omega)) rfl T.mc (fG (P := P) (w := w) (base := base) T).b my (by walk_at "q"))|apply TY|((with_reducible show PX _ _ _ _ (eD _ _ _ _)); first|exact mw (K' := K) rfl (T.w 8 rfl) (pv _) (fE T).h (hr.mono (by omega)) (T.f 8 rfl).F.kp (fE (P := P) (w := w) (base := base) T).b my (by walk_at "q")|exact mw (K' := K) rfl (T.w 10 rfl) (pv _) (gS T).h (hr.mono (by omega)) (T.f 10 rfl).F.kp (gS (P := P) (w := w) (base := base) T).b my (by walk_at "q")|exact mw (K' := K) rfl (T.w 11 rfl) (pv _) (gR T).h (hr.mono (by omega)) (T.f 11 rfl).F.kp (gR (P := P) (w := w) (base := base) T).b my (by walk_at "q")|exact mw (K' := K) rfl (T.w 9 rfl) (pv _) (iL T).h (hr.mono (by omega)) (T.f 9 rfl).F.kp (iL (P := P) (w := w) (base := base) T).b my (by walk_at "q")))
local macro_rules | `(tactic| walk_at "y") => `(tactic| first|((with_reducible show B8 _ _ _ (f7 _ (O8 _ _ _ _))); exact GN (by walk_at "n") rfl (by walk_at "v") (by walk_at "l"))|((with_reducible show B8 _ _ _ (Q5 _ (O8 _ _ _ _))); exact GL (by walk_at "n") rfl (by walk_at "v") (by walk_at "l"))|((with_reducible show B8 _ _ _ (cz _ _)); exact GR _ (pv _))|((with_reducible show B8 _ _ _ (cz _ _)); exact QJ _ (pv _))|((with_reducible show B8 _ _ _ (f7 _ _)); exact Mm (by walk_at "n") rfl (by walk_at "v") (by walk_at "q"))|((with_reducible show B8 _ _ _ (k8 (K2 _))); exact BY (fr := false) (by walk_at "q"))|((with_reducible show B8 _ _ _ (k8 _)); exact BY (fr := true) (by walk_at "q"))|((with_reducible show B8 _ _ _ (Y9 _)); exact Mo _ (pv _))|((with_reducible show B8 _ _ _ (aL _)); exact Mp (by walk_at "q"))|apply Ub|((with_reducible show B8 _ _ _ (bq _ _ _)); exact QK (by first|exact Js|exact PassesOwn.leaving) rfl (by walk_at "t") (by walk_at "q") (by walk_at "q") (by walk_at "q"))|((with_reducible show B8 _ _ _ (Q5 _ _)); exact QI (by walk_at "n") rfl (by walk_at "v") (by walk_at "q"))|exact vG|((with_reducible show B8 _ _ _ (cP _ _)); exact QM _ (pv _) (by walk_at "q"))|((with_reducible show B8 _ _ _ (vh _ _)); exact QL _ (pv _) (by walk_at "q"))|((with_reducible show B8 _ _ _ (gq _ _ _)); exact GJ _ Js (by walk_at "q") (by walk_at "q"))|((with_reducible show B8 _ _ _ (sJ _ _ _ _ _)); exact Mq T.cn (T.na _ v7) (pv _) (by first|exact λ_ _ h => .inr h|exact λ_ _ h => .inl h) (by walk_at "q"))|((with_reducible show B8 _ _ _ (gr _ _ _ _ _)); exact GP (Gv hr) (by walk_at "d") (by walk_at "q") (by walk_at "q"))|((with_reducible show B8 _ _ _ (gu _ _ _ _)); exact GQ (by walk_at "d") (by walk_at "q") ⟨rfl, rfl, rfl, rfl⟩)|((with_reducible show B8 _ _ _ (xj _ _)); exact Ml (by walk_at "n") rfl (by walk_at "v") (by walk_at "q"))|((with_reducible show B8 _ _ _ (sI _ _)); exact GK (by walk_at "n") rfl (by walk_at "v") (by walk_at "q"))|((with_reducible show B8 _ _ _ (fZ _ _)); exact Mr (by walk_at "q") (by walk_at "q"))|((with_reducible show B8 _ _ _ (xm _)); exact Mn (by walk_at "q"))|((with_reducible show B8 _ _ _ (dO o3 _ _)); exact DX (r := uP K) (sj hr.units) Dq (O6 _) (by walk_at "q") (by walk_at "q"))|((with_reducible show B8 _ _ _ (ei _ _ _ _ _)); exact XQ (by walk_at "o") Ws T.cn hr (pv _) (by walk_at "q") (pl := _))|((with_reducible show B8 _ _ _ (ic _ ad.E.k _ _)); exact qz qT T.xk.h T.xk.e (Ww T _) (hr.mono (by omega)) T.xk.b T.xk.k (hr.hd rfl) rfl T.xk.m (by walk_at "q"))|((with_reducible show B8 _ _ _ (ic _ ad.E.l _ _)); exact qz qT T.xl.h T.xl.e (OU T _) (hr.mono (by omega)) T.xl.b T.xl.k (hr.hd rfl) rfl T.xl.m (by walk_at "q"))|((with_reducible show B8 _ _ _ (yT _ ad.E.t _ _)); exact DY (fr := true) LJ T.xt.h T.xt.e (Wv T _) (hr.mono (by omega)) T.xt.b T.xt.k (hr.hd rfl) rfl T.xt.m (by walk_at "q"))|((with_reducible show B8 _ _ _ (sH _ _ _ _ _ _ _ _)); exact Mi qT rfl (jQ T).h (hr.mono (by omega)) rfl (T.f 43 rfl).m (T.f 43 rfl).F.kp (jQ (P := P) (w := w) (base := base) T).b (by walk_at "q") T.xt.h T.xl.h T.xl.e rfl T.xt.m (by walk_at "n") rfl (by walk_at "v") (OU T _) ⟨nofun, (hr.mono (j := 2) (by omega)).dp, (hr.mono (j := 2) (by omega)).un⟩ T.xl.b T.xl.k rfl T.xl.m (λ_ => (by walk_at "q")))|((with_reducible show B8 _ _ _ (mO _ _ _ _ _ _ _ _ _ _ _)); exact Mj ⟨rfl, rfl⟩ (λ_ _ z => z) T.cn (pv _) (T.m 51 rfl).m (kn T).h (hr.mono (by omega)) (kn (P := P) (w := w) (base := base) T).b (by walk_at "q") T.xk.h T.xl.h T.ne.1 T.ne.2 rfl T.xk.m rfl T.xl.m (by walk_at "n") rfl (by walk_at "v") rfl rfl (λ_ => (by walk_at "q")) (λ_ => (by walk_at "q")) (pl := _)))
local macro_rules | `(tactic| walk_at "z") => `(tactic| first|((with_reducible show V2 _ _ _ (cR _ _)); exact qK.pt (by walk_at "q"))|((with_reducible show V2 _ _ _ (O9 _ _)); exact qK.pt (by walk_at "q"))|apply QG|((with_reducible show V2 _ _ _ (mX _ _ _)); exact Mh (fr := true) (Gv hr) (by walk_at "d") (by walk_at "q"))|((with_reducible show V2 _ _ _ (f9 (b9 o3 (K2 _) _))); exact T8 (fr := false) (r := uP K) (sj hr.units) Dq (O6 _) (by walk_at "q") (by walk_at "q"))|((with_reducible show V2 _ _ _ (f9 (b9 Q4 (K2 _) _))); exact T8 (fr := false) (r := ye K) (yn hr.units) Ll (O6 _) (by walk_at "q") (by walk_at "q"))|((with_reducible show V2 _ _ _ (f9 (b9 (P9 inD Z8) (K2 _) _))); exact T8 (fr := false) (r := mv K false) yo Dp (by with_unfolding_all rfl) (by walk_at "q") (by walk_at "q"))|((with_reducible show V2 _ _ _ (f9 (b9 o3 _ _))); exact T8 (fr := true) (r := uP K) (sj hr.units) Dq (O6 _) (by walk_at "q") (by walk_at "q"))|((with_reducible show V2 _ _ _ (f9 (b9 Q4 _ _))); exact T8 (fr := true) (r := ye K) (yn hr.units) Ll (O6 _) (by walk_at "q") (by walk_at "q"))|((with_reducible show V2 _ _ _ (f9 (b9 hJ _ _))); apply T8 (fr := true) OR Sy (O6 _))|((with_reducible show V2 _ _ _ (f9 (b9 iR _ _))); apply T8 (fr := true) Eg Lm (O6 _))|((with_reducible show V2 _ _ _ (f9 (b9 CJ _ _))); apply T8 (fr := true) OS Sz (O6 _))|((with_reducible show V2 _ _ _ (f9 (b9 vT _ _))); apply T8 (fr := true) Eh Ln (O6 _))|((with_reducible show V2 _ _ _ (f9 (b9 aF _ _))); apply T8 (fr := true) Hg Sv (O6 _))|((with_reducible show V2 _ _ _ (f9 (b9 oB _ _))); apply T8 (fr := true) Ci BD (O6 _))|((with_reducible show V2 _ _ _ (f9 (b9 (P9 inD Z8) _ _))); exact T8 (fr := true) (r := mv K false) yo Dp (by with_unfolding_all rfl) (by walk_at "q") (by walk_at "q"))|((with_reducible show V2 _ _ _ (f9 (b9 (P9 V0 N6) _ _))); exact T8 (fr := true) (r := mv K true) vK xv (by with_unfolding_all rfl) (by walk_at "q") (by walk_at "q"))|((with_reducible show V2 _ _ _ (f9 (b9 iu _ _))); exact T8 (fr := true) (vL (yM hr.units)) xw (by with_unfolding_all rfl) (by walk_at "q") (by walk_at "q"))|((with_reducible show V2 _ _ _ (f9 (K2 _))); exact BX (fr := false) (by walk_at "q"))|apply BX (fr := true))
local macro_rules | `(tactic| walk_at "q") => `(tactic| (first|((with_reducible show PX _ _ _ _ _); walk_at "x")|((with_reducible show bz _ _ _ _ (a9 _ _)); exact MM (by walk_at "q") (by walk_at "q"))|exact Rh|((with_reducible show B8 _ _ _ _); walk_at "y")|apply Ms|apply GS|exact Mt|exact DZ|((with_reducible show V2 _ _ _ _); walk_at "z")|apply Mg|apply QA|apply QB|apply TZ|((with_reducible show sS _ _ _ _ _ (fu iH _)); exact Ec rfl (T.n _ v7) (by walk_at "q"))|((with_reducible show sS _ _ _ _ _ (fu uK _)); exact QV rfl (T.n _ v7) (by walk_at "q"))|((with_reducible show sS _ _ _ _ _ (fu qm _)); exact Mz rfl (T.n _ v7) (by walk_at "q"))|apply QW|((with_reducible show PG _ _ (X6 _)); exact Ca (by walk_at "n") rfl (by walk_at "v"))|((with_reducible show PG _ _ (yU _ _ _)); exact Ui rfl (by walk_at "q"))|((with_reducible show Jq _ _ (qj _ _)); exact ME (by walk_at "q") (by walk_at "q"))|exact QY|exact GX|apply GW|exact Mx|apply Mw (fr := true)|((with_reducible show jj _ _ _ (B1 _ _)); exact MN _ (pv _) (by walk_at "q"))|((with_reducible show jj _ _ _ (t6 _ _)); exact MO (by walk_at "q") (by walk_at "q"))|exact Ri|((with_reducible show qJ _ _ _ (gv _ _ _ (vd _) _)); exact XO (by walk_at "o") T.cn hr (pv _) (by walk_at "q") (pl := _))|((with_reducible show qJ _ _ _ (F5 _ _)); exact XR (by walk_at "o") hr (by walk_at "q")))<;>walk_at "q")
local macro_rules | `(tactic| walk_at "j") => `(tactic| exact XZ _ λ_ _ _ _ _ _ nd hr => ⟨_, by walk_at "q"⟩)
local macro_rules | `(tactic| walk_at "i") => `(tactic| exact Cm _ λ_ _ _ _ _ _ nd hr => ⟨_, by walk_at "q"⟩)
local macro_rules | `(tactic| walk_at "g") => `(tactic| exact XY _ λ_ _ _ _ _ _ nd hr => ⟨_, by walk_at "q"⟩)
local macro_rules | `(tactic| walk_at "h") => `(tactic| exact kM _ λ_ _ _ _ _ _ nd hr => ⟨_, by walk_at "q"⟩)
section
variable{P:j3}{w:i7}{K:c9}{mg:Str->Option b8}{base:Heap}{ad:PJ}(T:Txt K mg ad)
theorem qt:Ok P w mg base s9 (T.f 0 rfl) 1 (C7 K X3):=by delta X3 T6 T7;walk_at "j"
theorem Bo:Ok P w mg base s9 (T.f 1 rfl) 2 (C7 K fk):=by delta fk;walk_at "j"
theorem so:Ok P w mg base s9 (T.f 2 rfl) 1 (C7 K R7):=by delta R7 C8;walk_at "j"
theorem uS:Ok P w mg base s9 (T.f 3 rfl) 2 (C7 K bf):=by delta bf;walk_at "j"
theorem wO:Ok P w mg base s9 (T.f 4 rfl) 1 (C7 K aD):=by delta aD cK lX;walk_at "j"
theorem Ek:Ok P w mg base s9 (T.f 5 rfl) 2 (C7 K Z4):=by delta Z4;walk_at "j"
theorem rb:Ok P w mg base s9 (T.f 6 rfl) 3 (C7 K P6):=by delta P6;walk_at "j"
theorem wH:Ok P w mg base s9 (T.f 7 rfl) 4 (C7 K X1):=by delta X1;walk_at "j"
theorem fE:Ok P w mg base s9 (T.f 8 rfl) 5 (C7 K U8):=by delta U8;walk_at "j"
theorem iL:Ok P w mg base s9 (T.f 9 rfl) 1 (C7 K da):=by delta da Y4;walk_at "j"
theorem gS:Ok P w mg base s9 (T.f 10 rfl) 5 (C7 K cp):=by delta cp;walk_at "j"
theorem gR:Ok P w mg base s9 (T.f 11 rfl) 4 (C7 K cj):=by delta cj;walk_at "j"
theorem wK:Ok P w mg base s9 (T.f 12 rfl) 6 (C7 K F6):=by delta F6 F8;walk_at "j"
theorem yw:Ok P w mg base s9 (T.f 13 rfl) 7 (C7 K M4):=by delta M4;walk_at "j"
theorem wL:Ok P w mg base s9 (T.f 14 rfl) 8 (C7 K cq):=by delta cq L0;walk_at "j"
theorem wJ:Ok P w mg base s9 (T.f 15 rfl) 7 (C7 K cb):=by delta cb;walk_at "j"
theorem yr:Ok P w mg base s9 (T.f 16 rfl) 7 (C7 K cZ):=by delta cZ;walk_at "j"
theorem wG:Ok P w mg base s9 (T.f 17 rfl) 8 (C7 K bZ):=by delta bZ aE;walk_at "j"
theorem Rq:Ok P w mg base s9 (T.f 18 rfl) 9 (C7 K lU):=by delta lU nt;walk_at "j"
theorem fG:Ok P w mg base s9 (T.i 19 rfl) 10 (kG K U9):=by delta U9;walk_at "i"
theorem Ep:Ok P w mg base s9 (T.f 20 rfl) 1 (C7 K l8):=by delta l8 gg;walk_at "j"
theorem En:Ok P w mg base s9 (T.f 21 rfl) 2 (C7 K gM):=by delta gM;walk_at "j"
theorem Bm:Ok P w mg base s9 (T.f 22 rfl) 3 (C7 K D8):=by delta D8;walk_at "j"
theorem Ht:Ok P w mg base s9 (T.f 23 rfl) 4 (C7 K jI):=by delta jI;walk_at "j"
theorem Hw:Ok P w mg base s9 (T.f 24 rfl) 1 (C7 K jJ):=by delta jJ fm ft;walk_at "j"
theorem Em:Ok P w mg base s9 (T.f 25 rfl) 2 (C7 K dQ):=by delta dQ;walk_at "j"
theorem Hl:Ok P w mg base s9 (T.f 26 rfl) 4 (C7 K dC):=by delta dC;walk_at "j"
theorem Er:Ok P w mg base s9 (T.f 27 rfl) 5 (C7 K gO):=by delta gO df kA;walk_at "j"
theorem El:Ok P w mg base s9 (T.f 28 rfl) 1 (C7 K T5):=by delta T5 gd;walk_at "j"
theorem yx:Ok P w mg base s9 (T.f 29 rfl) 1 (C7 K bj):=by delta bj;walk_at "j"
theorem ri:Ok P w mg base s9 (T.f 30 rfl) 2 (C7 K Z5):=by delta Z5 V3 cS;walk_at "j"
theorem Ho:Ok P w mg base s9 (T.f 31 rfl) 4 (C7 K dD):=by delta dD;walk_at "j"
theorem Bn:Ok P w mg base s9 (T.f 32 rfl) 5 (C7 K fj):=by delta fj cu jL;walk_at "j"
theorem Eo:Ok P w mg base s9 (T.f 33 rfl) 2 (C7 K gN):=by delta gN;walk_at "j"
theorem uU:Ok P w mg base s9 (T.f 34 rfl) 2 (C7 K bg):=by delta bg bD;walk_at "j"
theorem yq:Ok P w mg base s9 (T.f 35 rfl) 3 (C7 K cY):=by delta cY Q1 Y3;walk_at "j"
theorem sk:Ok P w mg base s9 (T.f 36 rfl) 4 (C7 K R6):=by delta R6 aV;walk_at "j"
theorem oo:Ok P w mg base (X4 P w) (T.m 37 rfl) 5 (bI K (G0 ad.E)):=by delta G0;walk_at "g"
theorem wM:Ok P w mg base s9 (T.f 38 rfl) 1 (C7 K X2):=by delta X2;walk_at "j"
theorem wN:Ok P w mg base s9 (T.f 39 rfl) 4 (C7 K aB):=by delta aB;walk_at "j"
theorem yt:Ok P w mg base s9 (T.f 40 rfl) 5 (C7 K K3):=by delta K3;walk_at "j"
theorem wI:Ok P w mg base s9 (T.f 41 rfl) 6 (C7 K T4):=by delta T4 E4 F9;walk_at "j"
theorem yu:Ok P w mg base s9 (T.f 42 rfl) 7 (C7 K B5):=by delta B5;walk_at "j"
theorem uT:Ok P w mg base s9 (T.f 43 rfl) 8 (C7 K nP):=by delta nP kh;walk_at "j"
theorem jQ:Ok P w mg base (kB P w) (T.f 43 rfl) 8 (xO K (E3 ad.E)):=by delta E3 B0;walk_at "h"
theorem rj:Ok P w mg base (X4 P w) (T.m 44 rfl) 9 (bI K (P7 ad.E)):=by delta P7;walk_at "g"
theorem Es:Ok P w mg base s9 (T.f 45 rfl) 1 (C7 K gP):=by delta gP gf;walk_at "j"
theorem ra:Ok P w mg base s9 (T.r 46 rfl) 3 (C7 K E6):=by delta E6;walk_at "j"
theorem yy:Ok P w mg base s9 (T.f 47 rfl) 4 (C7 K bo):=by delta bo dq;walk_at "j"
theorem wF:Ok P w mg base s9 (T.f 48 rfl) 4 (C7 K bY):=by delta bY cJ cI;walk_at "j"
theorem yp:Ok P w mg base s9 (T.f 49 rfl) 4 (C7 K cX):=by delta cX dn;walk_at "j"
theorem MR:Ok P w mg base s9 (T.f 50 rfl) 5 (C7 K iy):=by delta iy kg kf;walk_at "j"
theorem kn:Ok P w mg base (X4 P w) (T.m 51 rfl) 10 (bI K (J3 ad.E)):=by delta J3;walk_at "g"
theorem Hs:Ok P w mg base s9 (T.f 52 rfl) 11 (kG K (fU ad.E)):=by delta fU;walk_at "i"
theorem Hu:Ok P w mg base s9 (T.f 53 rfl) 1 (kG K nr):=by delta nr;walk_at "i"
theorem Hn:Ok P w mg base s9 (T.f 54 rfl) 11 (kG K (L5 ad.E)):=by delta L5;walk_at "i"
theorem Hq:Ok P w mg base s9 (T.f 55 rfl) 12 (kG K (L6 ad.E)):=by delta L6;walk_at "i"
theorem Hk:Ok P w mg base s9 (T.f 56 rfl) 13 (C7 K (qq ad.E)):=by delta qq vq lW lV;walk_at "j"
end
noncomputable abbrev Td(K:c9):Sp:=λvs H Q E'=>∀E:aJ,E.l≠E.k->C7 K (qq E) vs H Q E'
theorem all_mk{l:Ab}{w:i7}{K:c9}{h:Heap}{mg:Str->Option b8}{fa:Addr}(X:K.In h)(G:h.Ns J5 mg)(hfa:mg "law" = some (.ref fa)){C S Xt it Xk ik Xl il:Addr}{dt dk dl:l9}{fs:List Addr}{ds:List l9}{us:List (b8×V)}(aC:S0 K J5 "Desk" = some (some (.ref C)))(A:Ns K C CT fs ds)(hc:(pE K C aA=true/\pH K C=true)/\Au K C=true/\O0 K (.ref C) "__setattr__" = some (some (.builtin "object.__setattr__")))(mc:Ad K C=true)(kc:Y0 K (.ref C)=true)(na:Al (bQ K C) ["house","keepers"])(z:Al (λs=>S0 K J5 s=some none) ["abs","all","enumerate","int","isinstance","len","list","range","str","tuple","zip"])(cc:Ck K Xh us)(aS:S0 K J5 "StoreError" = some (some (.ref S)))(xt:Xf K S "NoText" "place" "NoText.__init__" (inClass (top 3) 0) Xt it dt)(xk:Xf K S "NoKeeper" "name" "NoKeeper.__init__" (inClass (top 4) 0) Xk ik dk)(xl:Xf K S "NoLine" "line" "NoLine.__init__" (inClass (top 5) 0) Xl il dl)(ne:Xl≠Xk/\S≠Xk):
  ∃fd:l9,(∀(s:c8) (v:b8),jm s fd ⟨[v],[]⟩ [("_law_script",v)])/\∀base:Heap,K.In base->base.Ns J5 mg->P5 l.prog w K mg base s9 13 fa fd ["_law_script"] (Td K):=by
 let ad:PJ:=⟨λi=>fs.getD i 0,λi=>ds.getD i (bc aA aA (bh (top 0)) (K6 (top 0)) (k9 (top 0)) .none .none .none .none none .none .none),λi=>us.getD i (.none,.non),C,⟨Xt,Xl,Xk⟩,S,it,dt,ik,dk,il,dl⟩
 have T:Txt K mg ad:=⟨λi _ _ _ _ m=>by
  cases A.at m with
  |f a r=>exact⟨Gq r,lG X G a⟩,λi _ _ _ _ _ m=>by
  cases A.at m with
  |a a r=>exact⟨Gq r,lG X G a⟩,λi _ _ _ _ _ _ m=>by
  cases A.at m with
  |m a b r=>exact⟨Gq r,a,b,(Gq r).kp⟩,λi _ _ _ _ _ m=>by
  cases A.at m with
  |i a b r=>exact⟨Gq r,mc,a,b,kc⟩,⟨aC,⟨hc.1.1,hc.1.2,hc.2.1,hc.2.2⟩⟩,lG X G aC,λ_ m=>na.at m,λ_ m=>PySem.W.mg_none_of X G (z.at m),λi _ _ m=>⟨lG X G (cc.at m).1,(cc.at m).2.to⟩,λi _ _ _ _ m=>by
  cases A.at (d0:=ad.d 0) m with
  |f a r=>exact a,lG X G aS,xt.to X G (by walk_at "b"),xk.to X G (by walk_at "b"),xl.to X G (by walk_at "b"),ne⟩
 have e:fa=ad.f 56:=tI (V6 (hfa.symm.trans (T.f 56 rfl).m));exact⟨ad.d 56,λs v=>(A.at (i:=56) rfl).to (by walk_at "b") s [v] rfl,λbase _ _=>e▸(Hk T).h.imp λvs H Q E h=>h _ ne.1⟩
theorem walk {l:Ab} {q:j3} {loose:List Str} {XP:(Str->Option b8)->Heap->Prop} {YP:i7->Heap->Prop} {d:DefRec} {K:Params->c9} (hL:∀E:aJ,E.l ≠ E.k->∀ns:List Int,ns.length<=63->qq E [.list (ns.map .int)]=some (.dat (.bool true))) (hn:l.most=some 63) (hdf:d.params.defaults=[]) (hY:∀(w:i7) (h:Heap),YP w h->(K w.params).In h) (F:∀(w:i7) (mg:Str->Option b8) (fa:Addr) (h:Heap),(K w.params).In h->h.Ns J5 mg->mg d.name=some (.ref fa) ->
   ∃fd:l9,(∀(s:c8) (u:b8),jm s fd ⟨[u],[]⟩ [("_law_script",u)])/\∀base:Heap,(K w.params).In base->base.Ns J5 mg->P5 l.prog w (K w.params) mg base s9 13 fa fd ["_law_script"] (Td (K w.params))) :
  PySem.W.WalkO q loose XP YP l.row.toRowW d [] (λf vs=>zE f vs) :=
 L2.PZ (n:=63) (k:=13) (x:="_law_script") (CX:=λ_=>s9) (sp:=λw=>Td (K w.params)) hn v7 hdf ⟨λ_=>rfl,by decide,by decide⟩ hY F (λ_ _ a ns hl _ hS E he=>⟨[],[.list (ns.map .int)],_,λa h=>absurd h q5,.cons (.lst (Qj hS) (NI ns)) .nil,hL E he ns hl,λv H' _ r=>Sa r⟩) λ_ _ _ _ _ z=>z
end Law
local macro_rules | `(tactic| walk_at "k") => `(tactic| (refine' Law.Rw.mk ?l ?c ?k; (case l => k_is); (case c => k_is); (case k => k_is)))
local macro_rules | `(tactic| walk_at "p") => `(tactic| first|exact .n|exact .c (.f (by k_is) (by walk_at "k")) (by walk_at "p")|exact .c (.a (by k_is) (by walk_at "k")) (by walk_at "p")|exact .c (.m (by k_is) (by k_is) (by walk_at "k")) (by walk_at "p")|exact .c (.i (by k_is) (by k_is) (by walk_at "k")) (by walk_at "p"))
local macro_rules | `(tactic| walk_at "e") => `(tactic| first|exact .n|exact .i|exact .s|exact .c (by k_is) (by walk_at "e") (by walk_at "e")|exact .c (by walk_at "e") (by walk_at "e")|exact .t (by k_is) q5 (by walk_at "e")|exact .f (by k_is))
local macro_rules | `(tactic| walk_at "a") => `(tactic| repeat first|exact .n|refine .c (by show _ = _; k_is) ?_)
open PySem PySem.W PyProof.Rows
set_option maxRecDepth 100000 in
set_option maxHeartbeats 0 in
theorem PySem.Challenge.cw_sunstore_k80_desk_keepers_holds : PySem.Challenge.rw_sunstore_k80_desk_keepers.Holds := by
 refine Z.topHd ?_
 k_fill
 refine Law.walk (l:=PySem.Challenge.rw_sunstore_k80_desk_keepers) Law.Nk rfl rfl (λw h Y=>PySem.W.kIn_of Y) ?F
 case F =>
  intro w mg fa h KX G hmg;exact Law.all_mk KX G hmg (by k_is) (by walk_at "p") ⟨⟨by k_is,by k_is⟩,by k_is,by k_is⟩ (by k_is) (by k_is) (by walk_at "a") (by walk_at "a") (by walk_at "e") (by k_is) (.mk (by k_is) (by k_is) (by kernel_rfl) (by k_is) (by kernel_rfl) (by k_is) (by k_is) (by k_is) ⟨⟨by k_is,by k_is⟩,by k_is,by k_is,by k_is⟩ ⟨by k_is,by k_is,by k_is,by k_is,by k_is,by k_is,by k_is,by k_is,by kit_is,by kit_is,by kit_is,by kit_is,by kit_is⟩ (by k_is)) (.mk (by k_is) (by k_is) (by kernel_rfl) (by k_is) (by kernel_rfl) (by k_is) (by k_is) (by k_is) ⟨⟨by k_is,by k_is⟩,by k_is,by k_is,by k_is⟩ ⟨by k_is,by k_is,by k_is,by k_is,by k_is,by k_is,by k_is,by k_is,by kit_is,by kit_is,by kit_is,by kit_is,by kit_is⟩ (by k_is)) (.mk (by k_is) (by k_is) (by kernel_rfl) (by k_is) (by kernel_rfl) (by k_is) (by k_is) (by k_is) ⟨⟨by k_is,by k_is⟩,by k_is,by k_is,by k_is⟩ ⟨by k_is,by k_is,by k_is,by k_is,by k_is,by k_is,by k_is,by k_is,by kit_is,by kit_is,by kit_is,by kit_is,by kit_is⟩ (by k_is)) (by decide)
