import PyProof.Rows.All
import Wide.All
import OpenK.KLine
import Wide.FinOn
import Lean
import PyProof.EqAt
import PyProof.EqKinds
import PyProof.TupleCall
import PyProof.Rows.EqDataRows
import PyProof.DictList
import PyProof.FactsAll.dict_1
import PyProof.FactsAll.subtypes_4
import KE.KTryMore
import PyProof.WalksEnum
import PyProof.EnumMake
import PyProof.ListStr
import PyProof.TupleOfStr
import PyProof.Dict
import PyProof.ToksMono
import PyProof.StrCalls6
import PyProof.StrWalks
import PyProof.ConsumeWalk
import PyProof.CallStr
import PyProof.MeetsStr
import KE.KIntText
import PyProof.StrCalls2
import PyProof.StrOps2
import KE.KSortTup
import PyProof.WalksMore
import PyProof.TupleIter
import PyProof.ListRange
import KE.KRevIter
import PyProof.Rows.Range3
import PyProof.SliceList
import PyProof.StrLawsIn
import PyProof.Rows.StrCut
import PyProof.ZipIter
import PyProof.ListNew
import KE.KDictSum
import PySem.Challenge.RW_inkloom_k34_whole_one_by_one
set_option Elab.async false
set_option linter.all false
set_option maxRecDepth 100000
set_option compiler.extract_closed false
set_option bootstrap.genMatcherCode false
set_option genSizeOf false
noncomputable section
structure PySem.W.Fast:Prop where(tw12970845719098547139 tw2154299740350034045 tw8567980866012867435 tw10971684047454619065 tw11956034501892393996 tw3364231873710622403 tw17246124228103120979 tw10506144901461075204 tw16653716284562675067 tw10300975018941207851 tw13227067039910328850 tw10955730407684001146 tw6920436723837077851 tw17256716887596071837 tw17519617151301275985 tw123476713435173287 tw2057032517510051949 tw11657080458701258021 tw3914014062859945928 tw7254402278208052392 tw9497909023770599600 tw11455040152504911343 tw2056375495687655202 tw12884053221371943845 tw842172404128854365 tw18411096407690941674 tw17182308009567286895 tw13499051632497235677 tw16418922301723113897 tw8264193937729748807 tw5287297228104875034 tw17132319426125171671 tw6293098299358191211 tw10232195394283855769 tw1583639399408655040 tw8070378494964553119 tw14438520804112159333 tw2308836902804841760 tw9421586217221028893 tw1455915467687685502 tw11687346815096217494 tw15222680221417229587 tw3333830629829663513 tw13991431906494850767 tw16212940539128468192 tw5531326024040308585 tw9001434164072089839 tw17796132868424664042 tw9608892286505652946 tw2395509869514922640 tw6171803497420005149 tw13801994558792730884 tw14034258597051158861 tw11755010829394685094 tw3811356083256092840 tw8113232175261203519 tw1483563835905519432 tw14602848574631644347 tw15748232022002853102 tw9378938747112690521 tw7791477409983094358 tw4504844650202623144 tw7318810639015152835 tw15595360308754964684 tw13960693432797375370 tw8870574018991051484 tw10313419632937662909 tw10827031111009096760 tw7650148183161329978 tw2825916925877675065 tw14259391952724721801 tw11542391032894097050 tw1269077762672374852 tw16761778114178387266 tw13066993734545733554 tw1163374916545816394 tw13545907276598933212 tw16389073861860544823 tw3027117360247890940 tw5829080531616482796 tw15479222821855291791 tw6231287982478655272 tw2433318252852363469 tw15337789894105802784 tw6512667255594208771 tw6787529885199504224 tw8636040445181763810 tw6754989942466647285 tw17185895181340849828 tw5887187262700054050 tw6991452369007786201 tw15757775768643528794 tw11232694503567676323 tw527905639990228687 tw15198023778743756205 tw18439118034648726305 tw16131393730406195080 tw14117984771887189661 tw6253771285783508674 tw3534084201891366623 tw97059902784474810 tw12856571932025967912 tw9703189054563770477 tw6187310248291289546 tw278299624693020480 tw5664393846944919615 tw8050444342478814537 tw9382101698626287263 tw1746249205776082564 tw4880595374015867729 tw9697030537811693320 tw13604910776970540384 tw373165598397815469 tw7784125694483856099 tw531237526940182212 tw12066838433457449046 tw11053812666225605386 tw16770269776336245474 tw6576018316888281028 tw1671267191549543686 tw4343599689085412944 tw16879794089845397805 tw12478537022861675997 tw15377063613896863276 tw10747936256500900795 tw11816728534831009725 tw12327127333496484419 tw3083368195028137136 tw6449230997630908758 tw11688451511631348409 tw3039212032304276423 tw7598120888834882334 tw625560994719949789 tw3511163249544852654 tw7134385036144445176 tw10230016847550812824 tw3001846927338927703 tw17292414920541393073 tw13260058379733910413 tw5502471359445501192 tw9343826994137440889 tw10311156908025347466 tw6704670361463685614 tw17896335591394426166 tw6724083566646383017 tw18009956248084862438 tw14125100127397512610 tw10398995183183183554 tw4170294981675298195 tw5054344585767976159 tw8212215378324800861 tw16203827619612848785 tw9571273871844422736 tw8513052121127389765 tw1695618789837006388 tw7291802797748704361 tw1394984764626614677 tw10715810848311091356 tw10451079559156414503 tw7860365908156371673 tw586391482935936626 tw8497698910343183906 tw7799723444372255435 tw14501738815562102216 tw11598070194641508597 tw1694660645052303049 tw17074779760409454139 tw6898967105051081382 tw9146046598609435042 tw10508514320106461588 tw10324476785063035276 tw7109371284324535520 tw18086474872684091033 tw9102844484323727806 tw10265524915090329612 tw6413794050312656606 tw5233555614609884940 tw17043630944756677731 tw15088989889438771150 tw2562433416367112197 tw8913024568562956459 tw4778538945145426652 tw6620233350354523967 tw8640631902495787147 tw9586367410348061157 tw8775269480480625739 tw9080920296287507593 tw12581842314897561754 tw13450253153388668145 tw6261308276072099638 tw3619445383934366985 tw4015571400827866538 tw5688691751209864682 tw6508656517812844060 tw11783995867729778303 tw8746748466025722977 tw8702943217700917012 tw14481638269765702953 tw9768949557589358562 tw16388106693920435365 tw10075420117542035574 tw11833516337891111514 tw17591521403190980632 tw8087315931352320755 tw5891202441232214173 tw17533040105717810826 tw15667067037292125977 tw7009030357665217451 tw5165865691718929294 tw11308286885887126333 tw18036450813106536264 tw8915621952977120144 tw12483891009379617521 tw594932433250285194 tw6353455165927894275 tw8649953517411809297 tw5634648308213589058 tw2948074285502341060 tw16869929576633839785 tw13927911749318745937 tw14839693848332453630 tw3072756241426184006 tw4853129228856786604 tw10265456357087983073 tw5600603671553601008 tw11415363708308120787 tw5346280040804367563 tw3685435337577451580 tw5139626839855400099 tw2776748089054249444 tw3894302842087468315 tw6249007250724711418 tw10250578410690218070 tw14490065889170525719 tw13583896346329724217 tw17104161449444662270 tw589294380025791179 tw5087639953571789765 tw15897650719406008845 tw14269327051320615862 tw15952935741300325335 tw8313533674766330056 tw5939461796351397602 tw11021688413601045681 tw2548334030633821691 tw3802859515845977735 tw2452282070067031109 tw11642348137397089426 tw4533384011455455995 tw8474677150968526418 tw1582649655011808825 tw16974081579965610030 tw12957559119164429477 tw12638671875309279590 tw10683605310421645893 tw7289730817686409940 tw516394834571130123 tw2826890653145047509 tw16334367242176906394 tw13115625677166055349 tw4169195448038606777 tw3112073896015636067 tw3848561038193974866 tw6514412522996568206 tw10224125787065796435 tw8941002221871662158 tw13189669091693664220 tw8704050852052933209 tw7405273514013841204 tw5849476504228781509 tw4627520586197288050 tw14461256154350428946 tw12573065725156874790 tw1228566264001159 tw11771766630500536381 tw5644346058936350605 tw11270843170083617755 tw4340653973578605720 tw3942362285007905563 tw10921228497112151709 tw12063311887440204660 tw2456070367174046697 tw12876243978620168359 tw7386294553137296203 tw2860964667336816673 tw6084030427547144220 tw15140393002845826870 tw11371227323603695251 tw10040948267542660179 tw14833624386127302516 tw12128841054203657963 tw7991710242853293388 tw17989884835268080277 tw15094608468279548815 tw14880601894519848189 tw8882342421679675011 tw7552781542852341160 tw5816086547193075690 tw4122318352328468160 tw10116541386827303139 tw6132039390371054791 tw4086963143717718860 tw3305928770237459864 tw2584538371199070493 tw1646070552040782987 tw14681345926578225818 tw12717379951026179660 tw10053668349319083584 tw36393867523691473 tw3248630291634345781 tw7017805303164349803 tw5841120465109613117 tw1695508660591047779 tw4089191586006478719 tw17998548160181932416 tw18127692593699006549 tw12964185891579025687 tw16713680566583906467 tw12928887069708712454 tw1481447682187278005 tw8651200701440460457 tw811302439054871883 tw7671846897343281893 tw4242099439498262267 tw3811280802490229764 tw2644134990637661 tw14676015176754619845 tw7365136205780293269 tw15161306363236999859 tw15280779445374443634 tw16915287931032135087 tw10439958149872118919 tw13981268687750063203 tw3748595578507861583 tw14730944049538611737 tw10099770948691392365 tw2645759630409460120 tw8562776367468584687 tw11398445811832875714 tw8686490653531386352 tw7584891517360492145 tw5485655498803756558 tw4236049177092516694 tw2644614647712324517 tw2637762703274645372 tw2258705355151322330 tw184162447482886887 tw18250968342582318909 tw18231439315191913799 tw16605917635105408882 tw14198155565695693959 tw13879298778034737052 tw12660027542653202852 tw10842966718735119342 tw10648904433120217578 tw10648739596958434976 tw10022501673151719682 tw3269895536695665412 tw5601555240619266795 tw16559619213556313607 tw521103686028116482 tw10247805515674676767 tw15584593857330025624 tw1129201053053388196 tw11160464153664379728 tw16484605512276183925 tw9028411732809954894 tw9255180169068961081 tw17935135629509431532 tw10709319979396600144 tw9099352802287300536 tw6335756495644371531 tw5738547156442395692 tw4849341975897121126 tw443148775591145729 tw2937693634784172394 tw16597688370656764015 tw15167933922006695902 tw13820405416190949398 tw12295065809325625095 tw11616628885875162764 tw10023418446790896126 tw4002899073951627678 tw14168667384951335510 tw12084333797664208500 tw3374161930260737883 tw69000736726074098 tw8066072643400507289 tw7946324806101902556 tw11732628894094716603 tw7796839848126613825 tw8440972404039179112 tw12012563827539302356 tw8396930915469787199 tw3482294644499321429 tw17626617178272131572 tw1567333337067000327 tw8938686841280801508 tw9971885389312365914 tw9235598239960459001 tw12666799192301081275 tw6641637375730271707 tw992278612714936524 tw6781379922519752296 tw13690823202719567674 tw3172186095800993780 tw10458151475368402459 tw8150893255751900769 tw3416130804489679580 tw1223157335748461998 tw1223472838697330140 tw13440472454100624029 tw4668415714088626694 tw15845329891280791578 tw17687436221440926993 tw2301521427271553713 tw9314483982078146057 tw3396901092699350944 tw15110167746307234568 tw5919614903907515687 tw4360511070456492500 tw18339793179213021772 tw1484534039884044937 tw1408197231359326616 tw5597363009369915315 tw531130534647130918 tw3055090536017043863 tw16132621647711611619 tw14233749853561168506 tw11873927477270779397 tw9758781014972375001 tw8178284636350228250 tw4615110414474198344 tw9277228287403855407 tw6477967776138386239 tw5941022480178230459 tw14932131612230957390 tw14431568915511553092 tw8896901089106379010 tw7641868024959264591 tw617128907858442689 tw18124276221929068599 tw8795802664054119651 tw18261538048555077555 tw15357788561900149333 tw10332620203791840580 tw9240960889572984258 tw8172989084169499526 tw7047111902152352508 tw6772231282230501812 tw13032003939238829896 tw6587090528230570195 tw17262791282122859018 tw15428384526256883989 tw1157089988980408239 tw2930290231415682604 tw2359094898913391401 tw15891599484313614747 tw15552801863982626860 tw12036108009438216722 tw7028155341469069012 tw6135875183704595492 tw4842666325970169234 tw3852850725728555698 tw10531008635811474686 tw8958432838613211146 tw8174835878489107117 tw347433595292134001 tw15200543747632372108 tw12423210303717389769 tw8356482486797794468 tw4538173595147804529 tw15847357847620130917 tw280453813180824611 tw959232898050131136 tw11420693062643254868 tw7460056896487549574 tw10261183805302140104 tw9625691159405615078 tw9536624127232518377 tw2514315355663534168 tw2598820101413407648 tw15026766235220254786 tw14510873149900603688 tw7653918581496929594 tw17308250568812946593 tw9253512390076910465 tw4002758451571123686 tw11419088853430460409 tw4145630407224048063 tw12412417349464234744 tw5675467838952356422 tw4699279398666731107 tw13227032715166710952 tw8768468802507542296 tw16191014130965621888 tw6424675539459763567 tw5493483914818539551 tw11953096865820293348 tw18012865539953671470 tw8022463312784177679 tw6995064141122790375 tw11078321320851331472 tw10187982586864885912 tw14033816832270175073 tw11270652068189726278 tw5003850814485944298 tw3581964511678988318 tw15304253985788835178 tw2573751260809488507 tw7840289331011041802 tw12179591894785678285 tw5648342635108032693 tw12703291829708757225 tw10763813269496746159 tw8212523268387490443 tw7585033580972723149:True)
section
open PySem.Challenge
set_option maxHeartbeats 0 in
theorem PySem.z1(h:rw_inkloom_k34_whole_one_by_one.row.wellSaid=true->rw_inkloom_k34_whole_one_by_one.row.Holds):rw_inkloom_k34_whole_one_by_one.Holds:=by w_on;o_law;exact h (by assumption)
end
theorem al{p:Prop}(h:p:=by lia):p:=h
inductive ZZ{a':Type}(p:a'->Prop):Prop|i(a:a')(_:p a)
theorem Vx:(∃a,p a)->ZZ p|⟨a1,h⟩=>⟨a1,h⟩
inductive Y9{a' b':Type}(p:a'->b'->Prop):Prop|i(a:a')(b:b')(_:p a b)
theorem Vj:(∃a b,p a b)->Y9 p|⟨a1,b1,h⟩=>⟨a1,b1,h⟩
inductive qX3{a' b' c':Type}(p:a'->b'->c'->Prop):Prop|i(a:a')(b:b')(c:c')(_:p a b c)
theorem U1:(∃a b c,p a b c)->qX3 p|⟨a1,b1,c1,h⟩=>⟨a1,b1,c1,h⟩
inductive Wl{a' b' c' d':Type}(p:a'->b'->c'->d'->Prop):Prop|i(a:a')(b:b')(c:c')(d:d')(_:p a b c d)
theorem YU:(∃a b c d,p a b c d)->Wl p|⟨a1,b1,c1,d1,h⟩=>⟨a1,b1,c1,d1,h⟩
inductive Ui{a' b' c' d' e':Type}(p:a'->b'->c'->d'->e'->Prop):Prop|i(a:a')(b:b')(c:c')(d:d')(e:e')(_:p a b c d e)
theorem VL:(∃a b c d e,p a b c d e)->Ui p|⟨a1,b1,c1,d1,e1,h⟩=>⟨a1,b1,c1,d1,e1,h⟩
inductive V0{a' b' c' d' e' f':Type}(p:a'->b'->c'->d'->e'->f'->Prop):Prop|i(a:a')(b:b')(c:c')(d:d')(e:e')(f:f')(_:p a b c d e f)
theorem ZW:(∃a b c d e f,p a b c d e f)->V0 p|⟨a1,b1,c1,d1,e1,f1,h⟩=>⟨a1,b1,c1,d1,e1,f1,h⟩
inductive qX7{a' b' c' d' e' f' g':Type}(p:a'->b'->c'->d'->e'->f'->g'->Prop):Prop|i(a:a')(b:b')(c:c')(d:d')(e:e')(f:f')(g:g')(_:p a b c d e f g)
theorem qx7:(∃a b c d e f g,p a b c d e f g)->qX7 p|⟨a1,b1,c1,d1,e1,f1,g1,h⟩=>⟨a1,b1,c1,d1,e1,f1,g1,h⟩
inductive qX9{a' b' c' d' e' f' g' h' i':Type}(p:a'->b'->c'->d'->e'->f'->g'->h'->i'->Prop):Prop|i(a:a')(b:b')(c:c')(d:d')(e:e')(f:f')(g:g')(h:h')(i:i')(_:p a b c d e f g h i)
theorem Xu:(∃a b c d e f g h i,p a b c d e f g h i)->qX9 p|⟨a1,b1,c1,d1,e1,f1,g1,h1,i1,h⟩=>⟨a1,b1,c1,d1,e1,f1,g1,h1,i1,h⟩
inductive anF{a' b' c' d' e' f' g' h' i' j':Type}(p:a'->b'->c'->d'->e'->f'->g'->h'->i'->j'->Prop):Prop|i(a:a')(b:b')(c:c')(d:d')(e:e')(f:f')(g:g')(h:h')(i:i')(j:j')(_:p a b c d e f g h i j)
theorem Vn:(∃a b c d e f g h i j,p a b c d e f g h i j)->anF p|⟨a1,b1,c1,d1,e1,f1,g1,h1,i1,j1,h⟩=>⟨a1,b1,c1,d1,e1,f1,g1,h1,i1,j1,h⟩
inductive qA3(a b c:Prop):Prop|i(_:a)(_:b)(_:c)
theorem Vk:a/\b/\c->qA3 a b c|⟨a1,b1,c1⟩=>⟨a1,b1,c1⟩
inductive ZL(a b c d:Prop):Prop|i(_:a)(_:b)(_:c)(_:d)
theorem l5:a/\b/\c/\d->ZL a b c d|⟨a1,b1,c1,d1⟩=>⟨a1,b1,c1,d1⟩
inductive YY(a b c d e:Prop):Prop|i(_:a)(_:b)(_:c)(_:d)(_:e)
theorem V_:a/\b/\c/\d/\e->YY a b c d e|⟨a1,b1,c1,d1,e1⟩=>⟨a1,b1,c1,d1,e1⟩
inductive FA(a b c d e f:Prop):Prop|i(_:a)(_:b)(_:c)(_:d)(_:e)(_:f)
theorem i2:a/\b/\c/\d/\e/\f->FA a b c d e f|⟨a1,b1,c1,d1,e1,f1⟩=>⟨a1,b1,c1,d1,e1,f1⟩
inductive UM(a b c d e f g:Prop):Prop|i(_:a)(_:b)(_:c)(_:d)(_:e)(_:f)(_:g)
theorem YL:a/\b/\c/\d/\e/\f/\g->UM a b c d e f g|⟨a1,b1,c1,d1,e1,f1,g1⟩=>⟨a1,b1,c1,d1,e1,f1,g1⟩
inductive qA8(a b c d e f g h:Prop):Prop|i(_:a)(_:b)(_:c)(_:d)(_:e)(_:f)(_:g)(_:h)
theorem V5:a/\b/\c/\d/\e/\f/\g/\h->qA8 a b c d e f g h|⟨a1,b1,c1,d1,e1,f1,g1,h1⟩=>⟨a1,b1,c1,d1,e1,f1,g1,h1⟩
inductive Uu(a b c d e f g h i:Prop):Prop|i(_:a)(_:b)(_:c)(_:d)(_:e)(_:f)(_:g)(_:h)(_:i)
theorem Ve:a/\b/\c/\d/\e/\f/\g/\h/\i->Uu a b c d e f g h i|⟨a1,b1,c1,d1,e1,f1,g1,h1,i1⟩=>⟨a1,b1,c1,d1,e1,f1,g1,h1,i1⟩
inductive aqT(a b c d e f g h i j k:Prop):Prop|i(_:a)(_:b)(_:c)(_:d)(_:e)(_:f)(_:g)(_:h)(_:i)(_:j)(_:k)
theorem Xs:a/\b/\c/\d/\e/\f/\g/\h/\i/\j/\k->aqT a b c d e f g h i j k|⟨a1,b1,c1,d1,e1,f1,g1,h1,i1,j1,k1⟩=>⟨a1,b1,c1,d1,e1,f1,g1,h1,i1,j1,k1⟩
inductive avO(a b c d e f g h i j k l m n o p:Prop):Prop|i(_:a)(_:b)(_:c)(_:d)(_:e)(_:f)(_:g)(_:h)(_:i)(_:j)(_:k)(_:l)(_:m)(_:n)(_:o)(_:p)
theorem Vm:a/\b/\c/\d/\e/\f/\g/\h/\i/\j/\k/\l/\m/\n/\o/\p->avO a b c d e f g h i j k l m n o p|⟨a1,b1,c1,d1,e1,f1,g1,h1,i1,j1,k1,l1,m1,n1,o1,p1⟩=>⟨a1,b1,c1,d1,e1,f1,g1,h1,i1,j1,k1,l1,m1,n1,o1,p1⟩
namespace Internal
theorem ap{p:Prop}(h:p:=by simp):p:=h
theorem ax{p:Prop}(h:p:=by decide):p:=h
def GM:=@if_neg
def GT:=@if_pos
def HD:=@PySem.wpAny_bind
def Id:=@PySem.Paired.length
def Ix:=@PySem.Heap.lt_size
def IN:=@PySem.wpAny_pure
def IO:=@decide_eq_true_eq
def IR:=@congrArg
def KB:=@PySem.Heap.get?_push_of_some
def KF:=@of_decide_eq_true
def KK:=@Ne.symm
def KM:=@PySem.wpAny_mono
def LE:=@or_false
def M2:=@PySem.Heap.get?_push_size
def No:=@if_true
def NE:=@PySem.wpAny_holding
def On:=@PySem.mem_of_lookup
def Op:=@if_false
def Os:=@PySem.sizeLine_eq
def Pi:=@PySem.wpAny_truthy_bool
def Ps:=@PySem.typeIs_str
def PP:=@PySem.call_meets
def Re:=@PySem.F.plainAttrs_list
def Rs:=@PySem.wpAny_passesOwn
def Sc:=@PySem.Heap.size_push
def SB:=@PySem.lookup_relabel_local
def SL:=@PySem.Heap.get?_update_other
def ST:=@PySem.intItems_at
def SZ:=@PySem.F.plainAttrs_str
def Tk:=@PySem.Heap.get?_push_ne
def Tl:=@PySem.wpAny_standAt
def Tm:=@PyProof.Rows.callWith_type1
def TD:=@PySem.codeAny_mono
def TW:=@PySem.wpAny_Call_Name_kw
def Uf:=@PySem.wpAny_newObj_type
def UF:=@PySem.Paired.snoc
def UV:=@PySem.call_gives
def Wp:=@beq_iff_eq
def WF:=@PySem.Heap.size_update
def WP:=@PySem.wpAny_eqBool_int
def W1:=@PySem.wpAny_pyIter_list
def XL:=@of_decide_eq_false
def XV:=@PyProof.Rows.subscriptTail_builtinR
def YQ:=@PySem.Heap.get?_update_self
def ZB:=@PySem.F.slot_list_append
def VW:=@List.foldl_append
def GL:=@PyProof.Rows.slot_tuple_getitem
def VU:=@List.take_succ_eq_append_getElem
abbrev D9:=PySem.Addr
abbrev Ev:=PySem.Shared
abbrev EQ:=PySem.Value
abbrev Fa:=PySem.Program
abbrev Fk:=Bool
abbrev Fr:=PySem.Stmt
abbrev FM:=PySem.World
abbrev FS:=PySem.Heap
abbrev Gc:=PySem.Around
abbrev Go:=PySem.FuncData
abbrev GE:=String
section
open PySem PySem.Spec PyProof.Rows
abbrev ac:=List Str
abbrev am:=List Nat
abbrev bi:=EQ->Ev->Prop
abbrev bn:=List (D9×Obj)
abbrev ca:=List EQ
abbrev ce:=Str->Option EQ
abbrev ga:=List (Nat×Nat×Nat)
abbrev jp:=List Expr
abbrev lv:=Option Nat
abbrev mo:=List (Str×Nat)
abbrev o0:=List (Str×D9)
abbrev pp:=List D9
abbrev re:=Option Int
abbrev sK:=List Int
abbrev ww:=Array EQ
abbrev wE:=Option D9
abbrev wP:=List (Str×NameKind)
abbrev wS:=List (Nat×Nat)
abbrev xy:=List Env
abbrev xz:=Array Nat
abbrev zn:=Unit->Ev->Prop
abbrev AT:=List (Str×EQ)
abbrev BT:=Fk->Ev->Prop
abbrev Cl:=Option EQ
abbrev Do:=List Fr
end
theorem qF{A:α->Prop}{B:α->Prop}(a:α)(h:A a)(k:B a):∃a,A a/\B a:=⟨a,h,k⟩
theorem qT{A:α->Prop}{B:α->Prop}{C:α->Prop}(a:α)(h:A a)(k:B a)(p:C a):∃a,A a/\B a/\C a:=⟨a,h,k,p⟩
theorem qY{A:α->Prop}(a:α)(h:A a):∃a,A a:=⟨a,h⟩
theorem qZ{A:α->β->γ->δ->Prop}{B:α->β->γ->δ->Prop}{C:α->β->γ->δ->Prop}{D:α->β->γ->δ->Prop}{E:α->β->γ->δ->Prop}(a:α)(b:β)(c:γ)(d:δ)(h:A a b c d)(k:B a b c d)(p:C a b c d)(q:D a b c d)(r:E a b c d):∃a,∃b,∃c,∃d,A a b c d/\B a b c d/\C a b c d/\D a b c d/\E a b c d:=⟨a,b,c,d,h,k,p,q,r⟩
theorem q8{A:α->β->Prop}{B:α->β->Prop}{C:α->β->Prop}{D:α->β->Prop}(a:α)(b:β)(h:A a b)(k:B a b)(p:C a b)(q:D a b):∃a,∃b,A a b/\B a b/\C a b/\D a b:=⟨a,b,h,k,p,q⟩
theorem rC{A:α->β->Prop}{B:α->β->Prop}{C:α->β->Prop}(a:α)(b:β)(h:A a b)(k:B a b)(p:C a b):∃a,∃b,A a b/\B a b/\C a b:=⟨a,b,h,k,p⟩
theorem rE{A:α->Prop}{B:α->Prop}{C:α->β->Prop}{D:α->β->Prop}(a:α)(h:A a)(k:B a)(b:β)(p:C a b)(q:D a b):∃a,A a/\B a/\∃b,C a b/\D a b:=⟨a,h,k,b,p,q⟩
theorem rL{A:α->Prop}{B:α->β->Prop}{C:α->β->Prop}(a:α)(h:A a)(b:β)(k:B a b)(p:C a b):∃a,A a/\∃b,B a b/\C a b:=⟨a,h,b,k,p⟩
theorem rP{A:α->β->Prop}{B:α->β->Prop}(a:α)(b:β)(h:A a b)(k:B a b):∃a,∃b,A a b/\B a b:=⟨a,b,h,k⟩
theorem sV{A:α->Prop}{B:α->β->Prop}{C:α->β->γ->Prop}{D:α->β->γ->Prop}(a:α)(h:A a)(b:β)(k:B a b)(c:γ)(p:C a b c)(q:D a b c):∃a,A a/\∃b,B a b/\∃c,C a b c/\D a b c:=⟨a,h,b,k,c,p,q⟩
theorem tA{A:α->β->Prop}{B:α->β->Prop}{C:α->β->Prop}{D:α->β->Prop}{E:α->β->Prop}(a:α)(b:β)(h:A a b)(k:B a b)(p:C a b)(q:D a b)(r:E a b):∃a,∃b,A a b/\B a b/\C a b/\D a b/\E a b:=⟨a,b,h,k,p,q,r⟩
theorem tE{A:α->Prop}{B:α->β->γ->δ->ε->Prop}{C:α->β->γ->δ->ε->Prop}{D:α->β->γ->δ->ε->Prop}{E:α->β->γ->δ->ε->Prop}{F:α->β->γ->δ->ε->Prop}{G:α->β->γ->δ->ε->Prop}(a:α)(h:A a)(b:β)(c:γ)(d:δ)(e:ε)(k:B a b c d e)(p:C a b c d e)(q:D a b c d e)(r:E a b c d e)(s:F a b c d e)(t:G a b c d e):∃a,A a/\∃b,∃c,∃d,∃e,B a b c d e/\C a b c d e/\D a b c d e/\E a b c d e/\F a b c d e/\G a b c d e:=⟨a,h,b,c,d,e,k,p,q,r,s,t⟩
theorem tG{A:α->Prop}{B:α->Prop}{C:α->Prop}{D:α->Prop}(a:α)(h:A a)(k:B a)(p:C a)(q:D a):∃a,A a/\B a/\C a/\D a:=⟨a,h,k,p,q⟩
theorem tH{A:α->β->Prop}{B:α->β->Prop}{C:α->β->Prop}{D:α->β->γ->δ->Prop}{E:α->β->γ->δ->ε->ζ->Prop}{F:α->β->γ->δ->ε->ζ->Prop}{G:α->β->γ->δ->ε->ζ->Prop}(a:α)(b:β)(h:A a b)(k:B a b)(p:C a b)(c:γ)(d:δ)(q:D a b c d)(e:ε)(f:ζ)(r:E a b c d e f)(s:F a b c d e f)(t:G a b c d e f):∃a,∃b,A a b/\B a b/\C a b/\∃c,∃d,D a b c d/\∃e,∃f,E a b c d e f/\F a b c d e f/\G a b c d e f:=⟨a,b,h,k,p,c,d,q,e,f,r,s,t⟩
theorem tQ{A:α->Prop}{B:α->β->γ->δ->ε->ζ->Prop}{C:α->β->γ->δ->ε->ζ->Prop}{D:α->β->γ->δ->ε->ζ->Prop}{E:α->β->γ->δ->ε->ζ->Prop}{F:α->β->γ->δ->ε->ζ->Prop}{G:α->β->γ->δ->ε->ζ->Prop}(a:α)(h:A a)(b:β)(c:γ)(d:δ)(e:ε)(f:ζ)(k:B a b c d e f)(p:C a b c d e f)(q:D a b c d e f)(r:E a b c d e f)(s:F a b c d e f)(t:G a b c d e f):∃a,A a/\∃b,∃c,∃d,∃e,∃f,B a b c d e f/\C a b c d e f/\D a b c d e f/\E a b c d e f/\F a b c d e f/\G a b c d e f:=⟨a,h,b,c,d,e,f,k,p,q,r,s,t⟩
theorem tR{B:α->Prop}{C:α->Prop}(h:A)(a:α)(k:B a)(p:C a):A/\∃a,B a/\C a:=⟨h,a,k,p⟩
theorem tU{A:α->β->γ->δ->Prop}{B:α->β->γ->δ->Prop}{C:α->β->γ->δ->Prop}{D:α->β->γ->δ->Prop}{E:α->β->γ->δ->Prop}{F:α->β->γ->δ->Prop}(a:α)(b:β)(c:γ)(d:δ)(h:A a b c d)(k:B a b c d)(p:C a b c d)(q:D a b c d)(r:E a b c d)(s:F a b c d):∃a,∃b,∃c,∃d,A a b c d/\B a b c d/\C a b c d/\D a b c d/\E a b c d/\F a b c d:=⟨a,b,c,d,h,k,p,q,r,s⟩
theorem tV{A:α->β->γ->δ->Prop}{B:α->β->γ->δ->Prop}{C:α->β->γ->δ->Prop}{D:α->β->γ->δ->Prop}(a:α)(b:β)(c:γ)(d:δ)(h:A a b c d)(k:B a b c d)(p:C a b c d)(q:D a b c d):∃a,∃b,∃c,∃d,A a b c d/\B a b c d/\C a b c d/\D a b c d:=⟨a,b,c,d,h,k,p,q⟩
theorem tX{A:α->β->γ->δ->ε->Prop}{B:α->β->γ->δ->ε->Prop}{C:α->β->γ->δ->ε->Prop}{D:α->β->γ->δ->ε->Prop}{E:α->β->γ->δ->ε->Prop}{F:α->β->γ->δ->ε->Prop}(a:α)(b:β)(c:γ)(d:δ)(e:ε)(h:A a b c d e)(k:B a b c d e)(p:C a b c d e)(q:D a b c d e)(r:E a b c d e)(s:F a b c d e):∃a,∃b,∃c,∃d,∃e,A a b c d e/\B a b c d e/\C a b c d e/\D a b c d e/\E a b c d e/\F a b c d e:=⟨a,b,c,d,e,h,k,p,q,r,s⟩
theorem tY{A:α->Prop}{B:α->β->Prop}{C:α->β->Prop}{D:α->β->Prop}(a:α)(h:A a)(b:β)(k:B a b)(p:C a b)(q:D a b):∃a,A a/\∃b,B a b/\C a b/\D a b:=⟨a,h,b,k,p,q⟩
theorem uF{A:α->β->Prop}{B:α->β->Prop}{C:α->β->Prop}{D:α->β->γ->δ->Prop}{E:α->β->γ->δ->ε->ζ->Prop}{F:α->β->γ->δ->ε->ζ->η->θ->Prop}{G:α->β->γ->δ->ε->ζ->η->θ->Prop}{H:α->β->γ->δ->ε->ζ->η->θ->Prop}(a:α)(b:β)(h:A a b)(k:B a b)(p:C a b)(c:γ)(d:δ)(q:D a b c d)(e:ε)(f:ζ)(r:E a b c d e f)(g:η)(i:θ)(s:F a b c d e f g i)(t:G a b c d e f g i)(u:H a b c d e f g i):∃a,∃b,A a b/\B a b/\C a b/\∃c,∃d,D a b c d/\∃e,∃f,E a b c d e f/\∃g,∃i,F a b c d e f g i/\G a b c d e f g i/\H a b c d e f g i:=⟨a,b,h,k,p,c,d,q,e,f,r,g,i,s,t,u⟩
theorem uK{A:α->Prop}{B:α->β->Prop}{C:α->β->Prop}{D:α->β->γ->Prop}{E:α->β->γ->Prop}(a:α)(h:A a)(b:β)(k:B a b)(p:C a b)(c:γ)(q:D a b c)(r:E a b c):∃a,A a/\∃b,B a b/\C a b/\∃c,D a b c/\E a b c:=⟨a,h,b,k,p,c,q,r⟩
theorem uM{A:α->β->γ->Prop}{B:α->β->γ->Prop}{C:α->β->γ->Prop}{D:α->β->γ->Prop}{E:α->β->γ->Prop}(a:α)(b:β)(c:γ)(h:A a b c)(k:B a b c)(p:C a b c)(q:D a b c)(r:E a b c):∃a,∃b,∃c,A a b c/\B a b c/\C a b c/\D a b c/\E a b c:=⟨a,b,c,h,k,p,q,r⟩
theorem uO{A:α->Prop}{B:α->Prop}{C:α->Prop}{D:α->Prop}{E:α->Prop}(a:α)(h:A a)(k:B a)(p:C a)(q:D a)(r:E a):∃a,A a/\B a/\C a/\D a/\E a:=⟨a,h,k,p,q,r⟩
theorem uP{A:α->β->γ->δ->ε->Prop}{B:α->β->γ->δ->ε->Prop}{C:α->β->γ->δ->ε->Prop}{D:α->β->γ->δ->ε->Prop}{E:α->β->γ->δ->ε->Prop}{F:α->β->γ->δ->ε->Prop}{G:α->β->γ->δ->ε->Prop}{H:α->β->γ->δ->ε->Prop}{I:α->β->γ->δ->ε->Prop}(a:α)(b:β)(c:γ)(d:δ)(e:ε)(h:A a b c d e)(k:B a b c d e)(p:C a b c d e)(q:D a b c d e)(r:E a b c d e)(s:F a b c d e)(t:G a b c d e)(u:H a b c d e)(v:I a b c d e):∃a,∃b,∃c,∃d,∃e,A a b c d e/\B a b c d e/\C a b c d e/\D a b c d e/\E a b c d e/\F a b c d e/\G a b c d e/\H a b c d e/\I a b c d e:=⟨a,b,c,d,e,h,k,p,q,r,s,t,u,v⟩
theorem O{b:Sort u}{a:b}:a=a:=rfl
theorem ew{p:Prop}(a:p:=by with_unfolding_all rfl)(b:p:=by first|rfl|decide)(c:p:=by repeat (first|exact o6|refine o7 (by first|assumption|exact YB.gv (by assumption) (by assumption)|exact YB.no (by assumption) (by assumption)|exact YB.exc (by assumption) (by assumption)|exact gL.mono (by assumption) (by first|decide|lia)|exact qC.mono (by assumption) (by first|decide|lia)|exact qD.mono (by assumption) (by first|decide|lia)|exact B6.mono (by assumption) (by first|decide|lia)) ?_)):p:=a
def dy:=ew._auto_1
def ee:=ew._auto_2
def eh:=ew._auto_3
theorem dt{p:Prop}(a:p:=by first|exact .inl O|exact .inr O|assumption)(b:p:=by decide)(c:p:=by rfl)(d:p:=by intro Y;rfl)(e:p:=by intro _;rfl)(f:p:=by kernel_rfl)(g:p:=by decide+kernel)(h:p:=by exact Ab):p:=a
def ay:=dt._auto_1
def bx:=dt._auto_2
def cl:=dt._auto_3
def cn:=dt._auto_4
def cu:=dt._auto_5
def cx:=dt._auto_6
def cy:=dt._auto_7
def dn:=dt._auto_8
theorem ib:1≤PySem.sizeLine:=by decide
theorem c_:2≤PySem.sizeLine:=by decide
theorem eE:3≤PySem.sizeLine:=by decide
theorem Fz:4≤PySem.sizeLine:=by decide
theorem Af:6≤PySem.sizeLine:=by decide
theorem SY:8≤PySem.sizeLine:=by decide
theorem arL:10≤PySem.sizeLine:=by decide
open PySem.W (Frag callWith_K callWith_K0 cellsFrom_some emptyDict exmOne handedIn hasDictIn hideAll hideAll_get instObj kia_one kitOne kitx_dict kitx_list lookIn makesIn methodObj mroIn nsIn of_hideAll plainGet plainGet_of plainOver specialIn takerIn takesIn)
theorem ZA[Decidable p](h:p):decide p=true:=decide_eq_true h
theorem XZ[Decidable p](h: ¬p):decide p=false:=decide_eq_false h
theorem Zw{c:Type}{a b:List c}:(a++b).length=a.length+b.length:=List.length_append
theorem mZ(n:Nat):n≤n:=Nat.le_refl n
theorem Wy(n:Nat):0≤n:=Nat.zero_le n
def UA:=@List.mem_cons
def jS:=@List.mem_singleton
def U6:=@List.mem_append
def VH:=@List.length_map
def Xg:=@Bool.and_eq_true
def WE:=@List.length_take
def YS:=@List.append_nil
def zG:=@List.mem_of_getElem?
def i3:=@List.size_toArray
def Ut:=@Nat.le_trans
def V9:=@Nat.ne_of_lt
def ZX:=@List.getElem?_eq_some_iff
def nB:=@List.not_mem_nil
def Xh:=@List.length_drop
def N4:=@List.mem_cons_of_mem
def UR:=@List.append_assoc
def Yx:=@Int.toNat_natCast
def Xn:=@List.map_append
def Xm:=@List.length_cons
def VP:=@List.getElem?_eq_getElem
def Yz:=@List.mem_cons_self
def Z1:=@Nat.lt_of_lt_of_le
def TB:=@List.map_cons
def Vo:=@List.take_of_length_le
def Y5:=@List.getElem?_map
def Uq:=@Option.some.inj
def U_:=@Bool.false_ne_true
def Zv:=@List.mem_map
def oQ:=@List.mem_append_right
def yx:=@Nat.lt_irrefl
def Yq:=@List.take_append_drop
def Yo:=@Int.emod_nonneg
def VI:=@Nat.zero_add
def TM:=@Int.le_refl
def Vy:=@Int.emod_lt_of_pos
def Zn:=@List.mem_append_left
def jQ:=@Bool.eq_iff_iff
def Ti:=@List.map_map
def vG:=@List.sum_cons
def YZ:=@List.cons_append
def hY:=@List.getElem?_append_right
def YN:=@Bool.false_xor
def Zl:=@List.find?_cons
def oZ:=@List.length_eq_zero_iff
def Ua:=@List.getElem_mem
def ZR:=@List.pairwise_cons
def WV:=@List.getElem?_append_left
def lA:=@List.map_nil
def VR:=@Bool.true_xor
def X5:=@List.drop_zero
def UW:=@Int.natCast_add
def WK:=@Nat.le_of_eq
def UZ:=@List.of_mem_zip
def XA:=@List.lookup_cons
def Za:=@Nat.lt_succ_of_lt
def YJ:=@Nat.le_add_right
def UX:=@Bool.not_eq_true'
def Wb:=@List.take_add_one
def Xk:=@List.drop_left
def Wu:=@List.count_append
def Zs:=@List.mem_range
def mK:=@Nat.ne_of_gt
def Vf:=@List.replicate_succ
def TH:=@List.length_nil
def Xa:=@Nat.lt_trans
def VM:=@Nat.le_of_succ_le
def kE:=@Nat.sub_zero
def Vi:=@List.pairwise_map
def UQ:=@List.mem_of_getLast?
def VO:=@Nat.min_eq_left
def Yl:=@Nat.le_of_lt
def VY:=@Nat.lt_succ_self
def XJ:=@List.all_cons
def Xv:=@List.length_singleton
def Z4:=@List.nil_append
def S_:=@Bool.false_eq_true
def VG:=@Array.eq_empty_of_size_eq_zero
def Ux:=@List.take_length
def Tz:=@List.drop_eq_getElem_cons
def TU:=@List.cons.inj
def WI:=@Nat.add_zero
def lZ:=@Int.le_of_lt
def Y3:=@List.getElem?_drop
def Ww:=@List.eq_nil_of_length_eq_zero
def WN:=@List.getElem?_zip_eq_some
def Wz:=@Array.length_toList
def Yn:=@Nat.le_succ
def YH:=@List.nodup_cons
def Uk:=@List.any_cons
def Wx:=@List.flatten_cons
def Yb:=@Option.map_eq_some_iff
def i4:=@List.all_eq_true
def Y7:=@List.getElem_of_mem
def S8:=@Nat.pos_of_ne_zero
def Xp:=@List.pairwise_iff_getElem
def g4:=@List.takeWhile_cons
def Ub:=@Int.add_comm
def YA:=@List.take_left
def TL:=@List.take_append_of_le_length
def ZM:=@List.take_take
def ZI:=@List.take_length_add_append
def UE:=@List.mem_of_mem_drop
def UI:=@List.length_pos_iff
def Yg:=@Bool.or_false
def WG:=@List.foldl_cons
def mJ:=@List.length_dropLast
def h8:=@Option.map_some
def UK:=@List.lookup_append
def U5:=@List.length_filter_le
def X8:=@List.sum_append
def Zy:=@Bool.or_eq_false_iff
def Tj:=@List.drop_of_length_le
def Yu:=@Nat.add_assoc
def Wa:=@List.filter_cons_of_neg
def TJ:=@List.drop_append_of_le_length
def Y0:=@List.dropLast_subset
def UH:=@List.dropLast_concat
def Zp:=@List.pairwise_singleton
def ZT:=@List.pairwise_append
def Z9:=@List.Pairwise.imp_of_mem
def Zr:=@List.length_zip
def Z0:=@List.filterMap_cons
def Uw:=@List.mem_filterMap
def US:=@List.getElem?_take_of_lt
def Ul:=@List.length_replicate
def YX:=@List.take_succ_cons
def VD:=@Nat.lt_of_succ_lt_succ
def YF:=@List.filter_append
def Vz:=@List.getLast?_append
def YC:=@List.map_congr_left
def Tc:=@List.filter_cons_of_pos
def Zo:=@Nat.add_right_comm
def WD:=@Int.eq_ofNat_of_zero_le
def Uo:=@List.length_reverse
def Xr:=@List.eq_nil_or_concat
def T_:=@List.concat_eq_append
def U0:=@List.replicate_succ'
def VJ:=@Nat.le_add_left
def YK:=@Int.natCast_nonneg
def ZK:=@Nat.le_of_not_lt
def ZU:=@Nat.le_succ_of_le
def Z7:=@Nat.sub_le
def Ue:=@Nat.add_le_add_right
def cV:=@Nat.le_antisymm
def TX:=@Nat.le_add_right_of_le
def UD:=@Nat.le_of_lt_succ
def XC:=@Nat.succ_le_of_lt
def TZ:=@Nat.lt_of_le_of_ne
def pL:=@Int.lt_of_lt_of_le
def ZF:=@Int.le_of_not_gt
def TK:=@Nat.lt_of_succ_le
def oY:=@Nat.not_lt_of_le
def Xz:=@Nat.add_comm
def VT:=@Nat.lt_of_not_le
def WA:=@Int.lt_irrefl
def ZS:=@Nat.lt_of_le_of_lt
def Uy:=@Nat.not_lt_zero
def i0:=@Nat.le_add_left_of_le
def Zg:=@Nat.succ_pos
def UC:=@Int.le_trans
def WU:=@Nat.lt_succ_of_le
def YG:=@Nat.add_le_add_left
def XI:=@Int.not_lt_of_ge
def ZV:=@Nat.add_le_add
def Hd:=@Int.lt_of_le_of_lt
open PySem PySem.Spec
section
open PyProof.Rows
abbrev YD:=Sum Int Str
abbrev wf:=List (YD×EQ)
abbrev ut:=List (List YD×D9×EQ)
noncomputable def r_:YD->EQ->Fk
 |.inl k,v=>Value.isInt k v
 |.inr x,v=>Value.isStrOf x v
def arC(w:FM):YD->Int
 |.inl k=>hashInt k
 |.inr x=>hashStr w x
theorem mi:∀{k:YD}{v:EQ},r_ k v=true->(∃i t,k=Sum.inl i/\v=Value.int i t)\/(∃x t,k=Sum.inr x/\v=Value.str x t)
 |.inl i,v,h=>by
  obtain⟨t,e⟩:=Value.isInt_shape (k:=i) (v:=v) h;exact .inl ⟨i,t,O,e⟩
 |.inr x,v,h=>by
  obtain⟨t,e⟩:=Value.isStrOf_shape (x:=x) (v:=v) h;exact .inr ⟨x,t,O,e⟩
theorem alN(i:Int)(t:Tok):r_ (.inl i) (.int i t)=true:=by simp[r_,Value.isInt]
theorem apP(x:Str)(t:Tok):r_ (.inr x) (.str x t)=true:=by simp[r_,Value.isStrOf]
theorem auV(a b:Int):decide ((Sum.inl a:YD)=Sum.inl b)=(a==b):=by
 by_cases e:a=b;subst e;simp;have h:¬(Sum.inl a:YD)=Sum.inl b:=λq=>e (Sum.inl.inj q);rw[XZ h];exact(beq_eq_false_iff_ne.mpr e).symm
theorem Td(a b:Str):decide ((Sum.inr a:YD)=Sum.inr b)=decide (a=b):=by
 by_cases e:a=b;subst e;simp;have h:¬(Sum.inr a:YD)=Sum.inr b:=λq=>e (Sum.inr.inj q);rw[XZ h,XZ e]
theorem aoJ(a:Int)(b:Str):decide ((Sum.inl a:YD)=Sum.inr b)=false:=XZ (λq=>nomatch q)
theorem aeN(a:Str)(b:Int):decide ((Sum.inr a:YD)=Sum.inl b)=false:=XZ (λq=>nomatch q)
def dG(p:Fa)(w:FM):PySem.KeyKind p w YD where
 is:=r_
 hash:=arC w
 inj:=λv a b l f=>by
  rcases mi l with⟨i,t,rfl,rfl⟩|⟨x,t,rfl,rfl⟩
  ·rcases mi f with⟨j,u,rfl,e⟩|⟨y,u,rfl,e⟩
   ·injection e with c _;rw[c]
   ·exact nomatch e
  ·rcases mi f with⟨j,u,rfl,e⟩|⟨y,u,rfl,e⟩
   ·exact nomatch e
   ·injection e with c _;rw[c]
 byValue:=λk v h=>by
  rcases mi h with⟨i,t,rfl,rfl⟩|⟨x,t,rfl,rfl⟩ <;>rfl
 pyHash:=λd h=>by
  rcases mi d with⟨i,t,rfl,rfl⟩|⟨x,t,rfl,rfl⟩
  ·exact wpAny_pyHash_int h
  ·exact wpAny_pyHash_str h
 eqBool:=λg d h=>by
  rcases mi g with⟨i,t,rfl,rfl⟩|⟨x,t,rfl,rfl⟩
  ·rcases mi d with⟨j,u,rfl,rfl⟩|⟨y,u,rfl,rfl⟩
   ·rw[auV] at h;exact WP h
   ·rw[aoJ] at h;exact SeqAt.EqAt.int_str i t y u _ _ _ _ h
  ·rcases mi d with⟨j,u,rfl,rfl⟩|⟨y,u,rfl,rfl⟩
   ·rw[aeN] at h;exact SeqAt.EqAt.str_int x t j u _ _ _ _ h
   ·rw[Td] at h;exact wpAny_eqBool_str h
 «strs»:=λk x t v h=>by
  rcases mi h with⟨i,u,rfl,e⟩|⟨y,u,rfl,e⟩
  ·exact nomatch e
  ·injection e with c _
   subst c;cases v<;>rfl
theorem apX(p:Fa)(w:FM)(i:Int)(t:Tok):(dG p w).is (.inl i) (.int i t)=true:=alN i t
theorem wX(p:Fa)(w:FM)(x:Str)(t:Tok):(dG p w).is (.inr x) (.str x t)=true:=apP x t
inductive V where
 |a|b (b:Fk)|i (i:Int)|s (x:Str)|g (b:Array UInt8)|lF (b:UInt64)|r (a:D9)|t (n:GE)
 deriving DecidableEq
abbrev wv:=List (List YD×V)
abbrev n6:=List (Str×V)
abbrev ld:=Option V
abbrev db:=List (YD×V)
abbrev ad:=List V
def Tf:V->EQ->Prop
 |.a,u=>u=Value.none
 |.b b,u=>u=Value.bool b
 |.i i,u=>∃t,u=Value.int i t
 |.s x,u=>∃t,u=Value.str x t
 |.g b,u=>∃t,u=Value.bytes b t
 |.lF b,u=>∃t,u=Value.float b t
 |.r a,u=>u=Value.ref a
 |.t n,u=>u=Value.type n
abbrev Cj:ad->ca->Prop:=Paired Tf
theorem Cj.length{x:ad}{u:ca}(r:Cj x u):x.length=u.length:=Id r
theorem Cj.get:∀{s:ad}{a:ca}{i:Nat}{x:V},Cj s a->s[i]?=some x->∃u,a[i]?=some u/\Tf x u:=by
 intro Y Y i x h;induction h generalizing i with
 |nil=>intro e;simp at e
 |cons r Y b=>
  intro e;cases i with
  |zero=>simp at e;subst e;exact⟨_,O,r⟩
  |succ i=>
   obtain⟨u,d,c⟩:=b (by simpa using e);exact⟨u,by simpa using d,c⟩
theorem Cj.set(r:Tf x u):∀{s:ad}{a:ca}(i:Nat),Cj s a->Cj (s.set i x) (a.set i u)
 |_,_,_,.nil=>.nil
 |_,_,0,.cons _ t=>.cons r t
 |_,_,i+1,.cons q t=>.cons q (Cj.set r i t)
theorem Cj.append:∀{x y:ad}{u w:ca},Cj x u->Cj y w->Cj (x++y) (u++w):=by
 intro Y Y Y Y h s;induction h with
 |nil=>exact s
 |cons r Y i=>exact .cons r i
theorem Cj.take:∀{x:ad}{u:ca}(n:Nat),Cj x u->Cj (x.take n) (u.take n)
 |_,_,0,_=>.nil
 |_,_,_+1,.nil=>.nil
 |_,_,n+1,.cons r t=>.cons r (Cj.take n t)
theorem Cj.drop:∀{x:ad}{u:ca}(n:Nat),Cj x u->Cj (x.drop n) (u.drop n)
 |_,_,0,r=>r
 |_,_,_+1,.nil=>.nil
 |_,_,n+1,.cons _ t=>Cj.drop n t
def gT:ld->Cl->Prop
 |some v,some u=>Tf v u
 |none,none=>True
 |_,_=>False
def KV{a:Type}:List (a×V)->List (a×EQ)->Prop:=Paired fun(p:a×V)(q:a×EQ)=>p.1=q.1/\Tf p.2 q.2
noncomputable def kV:YD->V
 |.inl i=>.i i
 |.inr x=>.s x
inductive HO where
 |l (a:ad)
 |t (a:ad)
 |d (g:db)|T (g:wv)
 |s (S:Int->Fk)(n:Nat)
 |i (C r:D9)(c:n6)
 |o (x:D9)
 |xd (c:n6)
 |m (f x:D9)
 |gU (k q:Int)
 |b (o:Obj)(u:HO)
 |G (p:ww)
 |e (h:FS->Prop)
abbrev Hp:=D9->Option HO
abbrev tz:=Fk->Hp->Prop
noncomputable def upd(H:Hp)(a:D9)(o:HO):Hp:=λb=>if b=a then some o else H b
theorem au:upd H a o a=some o:=by delta upd;rw[GT O]
theorem av(h:b≠a):upd H a o b=H b:=by delta upd;rw[GM h]
theorem se{H:Hp}(h:H a=some o)(c:H b=some u)(d:o≠u):a≠b:=by
 intro e;subst e;rw[h] at c;exact d (Uq c)
theorem a_{H:Hp}(h:H a=some o)(c:H b=none):a≠b:=by
 intro e;subst e;rw[h] at c;cases c
section
variable(P:Fa)(w:FM)
def cJ(H:Hp)(h:FS)(a:D9):HO->Prop
 |.l c=>c.length<=sizeLine/\∃(D:ca)(n:Nat),Cj c D/\h.get? a=some {cls:=.type "list",data:=.seq D.toArray n}
 |.t c=>c.length<=sizeLine/\∃D:ca,Cj c D/\IsTup h a D.toArray
 |.d j=>j.length<=sizeLine/\(a==sysModules)=false/\∃y,KV j y/\h.DictOf (dG P w) a y
 |.T j=>j.length<=sizeLine/\(a==sysModules)=false/\∃c:ut,
   Paired (fun(p:List YD×V)(q:List YD×D9×EQ)=>p.1=q.1/\H q.2.1=some (.t<|p.1.map kV)/\Tf p.2 q.2.2) j c/\
   ∃o E K,h.get? a=some o/\o.ExactDict/\o.data=.dict E K/\E.toList=c.map (entryOfKey<|tupleKind<|dG P w)/\(c.map (·.1)).Nodup
 |.s S n=>h.SetOf (intKind P w) a S n
 |.i C k g=>H k=some (.o a)/\g.length<=1000/\k≠a/\h.get? a=some (instObj C k)/\
   ∃A,h.Ns1 k A/\(∀f,gT (g.lookup f)<|A f)/\PySem.Within A (g.map (·.1))
 |.o _=>∃o,h.get? a=some o
 |.xd g=>∃A,h.Ns1 a A/\∀f,gT (g.lookup f) (A f)
 |.gU I J=>∃t u v,h.get? a=some {cls:=.type "range",data:=.fields #[.int I t,.int J u,.int 1 v]}
 |.b o u=>h.get? a=some o/\cJ H h a u
 |.G F=>h.get? a=some {cls:=.none,data:=.fields F}
 |.m f x=>h.get? a=some (methodObj (.ref f)<|.ref x)
 |.e r=>r h/\(∃o,h.get? a=some o)/\∀B z:FS,r B->(∀o,B.get? a=some o->z.get? a=some o)->r z
def cb(H:Hp)(h:FS):Prop:= ∀a o,H a=some o->cJ P w H h a o
end
section
variable{P:Fa}{w:FM}{H g:Hp}{h h':FS}{a:D9}{o:HO}
theorem cJ.lt(x:cJ P w H h a o):a<h.objs.size:=by
 cases o with
 |l c=>obtain⟨Y,Y,Y,Y,e⟩:=x;exact Ix e
 |t c=>obtain⟨Y,Y,Y,p⟩:=x;exact p.lt
 |d j=>obtain⟨Y,Y,Y,Y,o,Y,Y,e,Y⟩:=x;exact Ix e
 |T j=>obtain⟨Y,Y,Y,Y,o,Y,Y,e,Y⟩:=x;exact Ix e
 |s S n=>obtain⟨o,Y,Y,Y,e,Y⟩:=YU x;exact Ix e
 |i C A g=>obtain⟨Y,Y,Y,e,Y⟩:=V_ x;exact Ix e
 |o y=>obtain⟨Y,e⟩:=x;exact Ix e
 |xd g=>obtain⟨Y,⟨Y,Y,Y,e,Y⟩,Y⟩:=x;exact Ix e
 |gU v z=>obtain⟨Y,Y,Y,e⟩:=x;exact Ix e
 |b r u=>obtain⟨e,Y⟩:=x;exact Ix e
 |G q=>exact Ix (show h.get? a=some _ from x)
 |m f y=>exact Ix (show h.get? a=some _ from x)
 |e k=>obtain⟨Y,⟨Y,e⟩,Y⟩:=x;exact Ix e
theorem Paired.fJ:∀{c:List e}{l:List d},Paired F c l->(∀a b,F a b->G a b)->Paired G c l:=by
 intro Y Y h f;induction h with
 |nil=>exact .nil
 |cons r Y i=>exact .cons (f _ _ r) i
theorem cJ.kj(x:cJ P w H h a o)(k:∀b u,(b=a\/H b=some (.o a))->h.get? b=some u->h'.get? b=some u)(R:∀b,H b=some (.o a)->g b=some (.o a))(Q:∀b D,H b=some (.t D)->g b=some (.t D)):cJ P w g h' a o:=by
 induction o with
 |l D=>obtain⟨z,I,n,r,e⟩:=x;exact⟨z,I,n,r,k _ _ (.inl O) e⟩
 |t D=>obtain⟨z,I,r,j,e,c⟩:=x;exact⟨z,I,r,j,k _ _ (.inl O) e,c⟩
 |d W=>obtain⟨z,y,L,r,j,A,B,e,c⟩:=x;exact⟨z,y,L,r,j,A,B,k _ _ (.inl O) e,c⟩
 |T W=>
  obtain⟨z,y,D,r,j,A,B,e,c⟩:=x;exact⟨z,y,D,Paired.fJ r λp q z=>⟨z.1,Q _ _ z.2.1,z.2.2⟩,j,A,B,k _ _ (.inl O) e,c⟩
 |s S n=>obtain⟨j,A,B,t,e,c⟩:=YU x;exact⟨j,A,B,t,k _ _ (.inl O) e,c⟩
 |i C dx U=>
  obtain⟨d,z,M,e,F,⟨E,A,B,V,c⟩,r⟩:=x;exact⟨R _ d,z,M,k _ _ (.inl O) e,F,⟨E,A,B,k _ _ (.inr d) V,c⟩,r⟩
 |o y=>obtain⟨j,e⟩:=x;exact⟨j,k _ _ (.inl O) e⟩
 |xd U=>obtain⟨F,⟨E,A,B,e,c⟩,r⟩:=x;exact⟨F,⟨E,A,B,k _ _ (.inl O) e,c⟩,r⟩
 |gU Y Z=>obtain⟨t,u,v,e⟩:=x;exact⟨t,u,v,k _ _ (.inl O) e⟩
 |b j u N=>obtain⟨e,q⟩:=x;exact⟨k _ _ (.inl O) e,N q⟩
 |G K=>
  have e:h.get? a=some {cls:=.none,data:=.fields K}:=x;show h'.get? a=some {cls:=.none,data:=.fields K};exact k a _ (.inl O) e
 |m f y=>
  have e:h.get? a=some (methodObj (.ref f)<|.ref y):=x;show h'.get? a=some (methodObj (.ref f)<|.ref y);exact k a _ (.inl O) e
 |e X=>obtain⟨p,⟨o,e⟩,J⟩:=x;exact⟨J _ _ p λo q=>k _ _ (.inl O) q,⟨o,k _ _ (.inl O) e⟩,J⟩
theorem cb.lt(x:cb P w H h)(e:H a=some o):a<h.objs.size:=(x a o e).lt
theorem cb.fresh(x:cb P w H h)(e:h.objs.size<=a):H a=none:=by
 cases q:H a with
 |none=>rfl
 |some u=>exact absurd (Z1 (x.lt q) e) (yx _)
theorem cb.kept(x:cb P w H h)(k:∀b u,h.get? b=some u->h'.get? b=some u):cb P w H h':=λa o e=>
 (x a o e).kj (λb u Y q=>k b u q) (λY q=>q) λY Y q=>q
theorem cb.laid(x:cb P w H h)(k:∀b u,h.get? b=some u->h'.get? b=some u)(p:h.objs.size<=a)(n:cJ P w (upd H a o) h' a o):cb P w (upd H a o) h':=λb u e=>by
 have d:=x.fresh p;by_cases f:b=a;subst f;rw[au] at e;cases e;exact n;rw[av f] at e;exact(x b u e).kj (λc v Y q=>k c v q) (λc q=>by rw[av<|a_ q d];exact q) λc s q=>by rw[av<|a_ q d];exact q
end
noncomputable def Rd(H:Hp)(a:D9)(u:HO):Prop:=H a=some u\/∃o,H a=some (.b o u)
theorem Rd.ok(r:Rd H a u)(x:cb P w H h):cJ P w H h a u:=by
 rcases r with r|⟨o,r⟩
 exact x a u r;obtain⟨Y,q⟩:=x a _ r;exact q
def uB:Option HO->Prop
 |some (.l _)=>True
 |some (.d _)=>True
 |some (.T _)=>True
 |some (.s _ _)=>True
 |some (.i _ _ _)=>True
 |some (.e _)=>True
 |_=>False
section
variable{P:Fa}{w:FM}{H:Hp}{h a:FS}{x e:D9}{d:HO}
theorem cb.write(A:cb P w H h)(m:uB (H x))(l:e=x\/H e=some (.o x))(k:∀b u,b≠e->h.get? b=some u->a.get? b=some u)(p:∃u,a.get? e=some u)(n:cJ P w (upd H x d) a x d):cb P w (upd H x d) a:=λb u q=>by
 have F:∀c y,H c=some (.o y)->c≠x:=λc y r z=>by subst z;rw[r] at m;exact m
 have T:∀c s,H c=some (.t s)->c≠x:=λc s r z=>by subst z;rw[r] at m;exact m
 by_cases g:b=x;subst g;rw[au] at q;cases q;exact n;rw[av g] at q;by_cases j:b=e;have i:H b=some (.o x):=by
  rcases l with z|z
  exact absurd (j.trans z) g;rw[j];exact z
 rw[q] at i;cases i;obtain⟨v,B⟩:=p;exact⟨v,by rw[j];exact B⟩;refine(A b u q).kj (λc v f r=>k c v ?_ r) (λc r=>by rw[av<|F c b r];exact r) λc s r=>by rw[av<|T c s r];exact r
 rcases f with rfl|f
 exact j;rintro rfl;rcases l with z|z
 exact F c b f z;rw[f] at z;cases z;exact g O
end
structure Un(fs ex:pp)(H H':Hp)(h h':FS):Prop where
 keep:∀b o,h.get? b=some o->H b=none->b∉fs->b∉ex->h'.get? b=some o
 slot:∀b o,h.get? b=some o->H b=none->b∈fs->b∉ex->∃sl,h'.get? b=some {o with slots:=sl}
 free:∀b o,h.get? b=some o->H b=none->b∉ex->H' b=none
 there:∀b o,h.get? b=some o->b∉ex->∃o',h'.get? b=some o'
 cf:∀b xs,H b=some (.t xs)->H' b=some (.t xs)
 iQ:∀b o u,H b=some (.b o u)->H' b=some (.b o u)
 jd:∀b ps,H b=some (.G ps)->∃more,H' b=some (.G<|ps++more)
section
variable{c Th d ex':pp}{H H1 H2:Hp}{h f h2 h':FS}{a x e:D9}{o:HO}
theorem Un.any(u:Un c d H H1 h f){b:D9}{o:Obj}(q:h.get? b=some o)(n:H b=none)(x:b∉d):∃s,f.get? b=some {o with slots:=s}:=by
 by_cases a:b∈c;exact u.slot b o q n a x;exact⟨o.slots,u.keep b o q n a x⟩
theorem Un.kept(k:∀b u,h.get? b=some u->h'.get? b=some u):Un c d H H h h':=
 ⟨λb o q Y Y Y=>k b o q,λb o q Y Y Y=>⟨o.slots,k b o q⟩,λY Y Y n Y=>n,λb o q Y=>⟨o,k b o q⟩,λY Y q=>q,λY Y Y q=>q,λY p q=>⟨#[],by rw[q];simp⟩⟩
theorem Un.refl:Un c d H H h h:=Un.kept λY Y q=>q
theorem Un.laid(k:∀b u,h.get? b=some u->h'.get? b=some u)(p:h.objs.size<=a)(e:H a=none):Un c d H (upd H a o) h h' where
 keep:=λb u q Y Y Y=>k b u q
 slot:=λb u q Y Y Y=>⟨u.slots,k b u q⟩
 free:=λb u q n Y=>by rw[av<|V9<|Z1 (Ix q) p];exact n
 there:=λb u q Y=>⟨u,k b u q⟩
 cf:=λb x q=>by rw[av<|a_ q e];exact q
 iQ:=λb u x q=>by rw[av<|a_ q e];exact q
 jd:=λb s q=>⟨#[],by rw[av<|a_ q e,q];simp⟩
theorem Un.write(m:uB (H x))(p:e=x\/H e=some (.o x))(k:∀b u,b≠e->h.get? b=some u->h'.get? b=some u)(i:∃u,h'.get? e=some u):Un c d H (upd H x o) h h':=by
 have f:∀b,H b=none->b≠x:=λb n z=>by subst z;rw[n] at m;exact m
 have g:∀b,H b=none->b≠e:=λb n z=>by
  subst z;rcases p with r|r
  exact f b n r;rw[n] at r;cases r
 have a:∀b u,H b=some u-> ¬uB (some u)->b≠x:=λb u q l z=>by subst z;rw[q] at m;exact l m
 refine⟨λb u q n Y Y=>k b u (g b n) q,λb u q n Y Y=>⟨u.slots,k b u (g b n) q⟩,λb u q n Y=>by rw[av (f b n)];exact n,λb u q Y=>?_,
  λb s q=>by rw[av (a b _ q λz=>z)];exact q,λb u s q=>by rw[av (a b _ q λz=>z)];exact q,λb t q=>⟨#[],by rw[av (a b _ q λz=>z),q];simp⟩⟩
 by_cases j:b=e;subst j;exact i;exact⟨u,k b u j q⟩
end
def pT(h:FS)(H:Hp):pp:=(List.range h.objs.size).filter λa=>(H a).isSome
def mj(h:FS)(H:Hp):FS:=hideAll h (pT h H)
theorem anJ(h:FS)(H:Hp):(mj h H).objs.size=h.objs.size:=PySem.W.hideAll_size _ _
theorem atH{b:D9}(e:h.get? b=some o)(n:H b=none):(mj h H).get? b=some o:=
 hideAll_get _ e λm=>by
  have q:(H b).isSome=true:=(List.mem_filter.mp m).2;rw[n] at q;simp at q
theorem avS{b:D9}(e:(mj h H).get? b=some o):h.get? b=some o/\H b=none:=by
 have a:h.get? b=some o:=of_hideAll (pT h H) e;refine⟨a,?_⟩;cases q:H b with
 |none=>rfl
 |some x=>
  have m:b∈pT h H:=List.mem_filter.mpr ⟨Zs.mpr<|Ix a,by simp[q]⟩;have z:(mj h H).get? b=none:=PySem.W.hideAll_none (pT h H) m;rw[z] at e;cases e
structure Mod(K:Frag)(mg:ce)(base:FS):Prop where
 uC:K.In base
 glob:base.Ns mainGlobals mg
 blt:∃mb,base.Ns builtinsNs mb/\∀x:Str,x≠"__name__"->mb x=bootBuiltins x
 nolimit:base.NoLimit
structure Cx where
 prog:Fa
 w:FM
 K:Frag
 g:Str->Cl
 base:FS
 A:Gc
 N:ac
 S:Ev
 H:Hp
 env:Env
 r:xy
 stack:xy
 ex:pp
 fn:Str->Fk
 calm:Fk
 n:bn
 a:EQ->Ev->Prop
noncomputable def bP(l:xy):pp:=l.filterMap (·.frame)
abbrev Cx.fs(X:Cx):pp:=bP X.r
def wY(s:Scope)(x:Str):Prop:=s.names.lookup x=some .local\/s.names.lookup x=some .cell\/s.names.lookup x=some .free
def YE(s:Scope)(x:Str):Prop:=s.names.lookup x=some .local\/s.names.lookup x=some .cell
def auY(e:Env)(h:FS)(m:ce)(x:Str)(u:EQ):Prop:=
 (e.kindOf x=some .local/\m x=some u)\/((e.kindOf x=some .cell\/e.kindOf x=some .free)/\∃c,e.cells.lookup x=some c/\h.IsCell c (some u))
structure Cx.Ok(X:Cx):Prop where
 mod:Mod X.K X.g X.base
 kind:X.env.scope.kind=.function
 glob:X.env.globals=mainGlobals
 blt:X.env.builtins=builtinsNs
 above:X.S.heap.objs.size<=X.env.locals
 inj:∀x y c,X.env.cells.lookup x=some c->X.env.cells.lookup y=some c->x=y
 has:∀x,(X.env.kindOf x=some .cell\/X.env.kindOf x=some .free)->∃c,X.env.cells.lookup x=some c
 Ag:∀x c,X.fn x=true->X.env.cells.lookup x=some c->X.S.heap.objs.size<=c
 hd:X.calm=true->X.A.handled=none
 frames:X.A.frames=some X.stack
 uD:X.stack=X.r\/(X.stack=X.env::X.r/\X.env.frame=some X.env.locals)
 To:∀b∈X.ex,b≠X.env.locals/\∀x c,X.env.cells.lookup x=some c->c≠b
 bs:∀b o,X.base.get? b=some o->X.S.heap.get? b=some o/\X.H b=none
 sh:X.base.objs.size<=X.S.heap.objs.size
 Ah:∀b o,X.base.get? b=some o->b∉X.ex
 Ai:∀b∈X.ex,b∉X.fs
 lH:X.S.heap.FunFrames X.base X.r
 uE:∀b∈X.fs,X.H b=none
structure Yp(X:Cx)(B':bn)(σ:List ld)(H:Hp)(s:Ev):Prop where
 ok:X.Ok
 os:s.os=X.S.os
 A:AllBare s.gens
 base:Un X.fs X.ex X.H H X.S.heap s.heap
 E:∃m,s.heap.Ns X.env.locals m/\∀(i:Nat)(x:Str)(v:V),X.N[i]?=some x->σ[i]?=some (some v)->wY X.env.scope x->∃u,Tf v u/\auY X.env s.heap m x u
 cell:∀x c,X.env.cells.lookup x=some c->∃v,s.heap.IsCell c v
 free:H X.env.locals=none
 mm:∀x c,X.env.cells.lookup x=some c->H c=none
 pin:∀p∈X.n++B',s.heap.get? p.1=some p.2/\H p.1=none/\p.1≠X.env.locals/\p.1∉X.fs/\∀v,p.2.data≠ .cell v
 aB:cb X.prog X.w H s.heap
 len:σ.length=X.N.length
section
variable{X:Cx}{f:bn}{g:List ld}{H w:Hp}{s:Ev}{h':FS}
theorem Cx.Ok.Tp(k:X.Ok){b:D9}(e:X.base.get? b=some o):b∉X.fs:=λh=>by
 have:=(k.lH.mem h).1;rw[e] at this;cases this
theorem Yp.bs(I:Yp X f g H s):∀b o,X.base.get? b=some o->s.heap.get? b=some o/\H b=none:=λb o e=>
 ⟨I.base.keep b o (I.ok.bs b o e).1 (I.ok.bs b o e).2 (I.ok.Tp e)<|I.ok.Ah b o e,I.base.free b o (I.ok.bs b o e).1 (I.ok.bs b o e).2<|I.ok.Ah b o e⟩
theorem Yp.bk(I:Yp X f g H s):∀b o,X.base.get? b=some o->s.heap.get? b=some o:=λb o e=>(I.bs b o e).1
theorem Yp.mod(I:Yp X f g H s):Mod X.K X.g X.base:=I.ok.mod
theorem Yp.dg(I:Yp X f g H s):X.K.In s.heap:=I.ok.mod.uC.keeps I.bk
theorem Yp.lt(I:Yp X f g H s):X.env.locals<s.heap.objs.size:=let ⟨_,h,_⟩:=I.E;h.lt
theorem Yp.sz(I:Yp X f g H s):X.S.heap.objs.size<=s.heap.objs.size:=Ut I.ok.above (Yl I.lt)
theorem Yp.FD(I:Yp X f g H s){a:D9}(h:s.heap.objs.size<=a):a∉X.fs:=λc=>by
 obtain⟨Y,o,b,Y⟩:=I.ok.lH.mem c;exact absurd (Z1 (Ix b)<|Ut I.sz h)<|yx _
theorem Yp.pU(I:Yp X f g H s):∀x c,X.env.cells.lookup x=some c->c≠X.env.locals:=λx c e z=>by
 obtain⟨v,o,h,d⟩:=I.cell x c e;obtain⟨m,⟨a,b,p,J,A,Y⟩,Y⟩:=I.E;rw[z,J] at h;cases h;rw[A] at d;cases d
theorem Yp.lH(I:Yp X f g H s):s.heap.FunFrames X.base X.r:=by
 have d:∀(l:xy),(∀b∈bP l,b∈X.fs)->X.S.heap.FunFrames X.base l->s.heap.FunFrames X.base l:=by
  intro l;induction l with
  |nil=>intro Y Y;trivial
  |cons v r j=>
   intro i p;obtain⟨q,⟨L,o,h,n,m,t⟩,k⟩:=p;have c:L∈X.fs:=i L (by delta bP;rw[Z0,h];exact Yz);obtain⟨u,e⟩:=I.base.slot L o m (I.ok.uE L c) c λz=>I.ok.Ai L z c;exact⟨q,q8 L _ h n e t,j (λb a=>i b (by delta bP;rw[Z0,h];exact N4 _ a)) k⟩
 exact d X.r (λY a=>a) I.ok.lH
theorem Yp.stack(I:Yp X f g H s):s.heap.FunFrames X.base X.stack:=by
 rcases I.ok.uD with e|⟨e,a⟩
 rw[e];exact I.lH;rw[e];obtain⟨m,h,Y⟩:=I.E;refine .cons (by rw[I.ok.kind];decide) a h ?_ I.lH;exact Heap.get?_none_of_le<|Ut I.ok.sh I.ok.above
theorem Yp.wZ(I:Yp X f g H s):∀b∈bP X.stack,b∈X.env.locals::X.fs:=λb h=>by
 rcases I.ok.uD with e|⟨e,a⟩
 rw[e] at h;exact N4 _ h;rw[e] at h;delta bP at h;rw[Z0,a] at h;exact h
theorem Yp.w6(I:Yp X f g H s):∀b∈bP X.stack,H b=none:=λb h=>by
 rcases UA.mp (I.wZ b h) with e|h
 rw[e];exact I.free;obtain⟨Y,o,a,Y⟩:=I.ok.lH.mem h;exact I.base.free b o a (I.ok.uE b h) λz=>I.ok.Ai b z h
theorem Yp.step{ch:pp}(I:Yp X f g H s)(P:∀b∈ch,(b∈X.ex\/X.S.heap.objs.size<=b)/\b≠X.env.locals/\(∀x c,X.env.cells.lookup x=some c->c≠b)/\∀p∈X.n++f,p.1≠b)(j:∀b o,b≠X.env.locals->b∉X.fs->b∉ch->s.heap.get? b=some o->H b=none->h'.get? b=some o)(B:∀b o,b≠X.env.locals->b∈X.fs->b∉ch->s.heap.get? b=some o->H b=none->∃T,h'.get? b=some {o with slots:=T})(a:∀b o,b∉ch->s.heap.get? b=some o->H b=none->w b=none)(C:∀b o,b∉ch->s.heap.get? b=some o->∃L,h'.get? b=some L)(cf:∀b A,H b=some (.t A)->w b=some (.t A))(iQ:∀b o u,H b=some (.b o u)->w b=some (.b o u))(jd:∀b R,H b=some (.G R)->∃M,w b=some (.G<|R++M))(ns:∀m,s.heap.Ns X.env.locals m->h'.Ns X.env.locals m)(aB:cb X.prog X.w w h')(hg:AllBare g'):
  Yp X f g w {s with heap:=h',gens:=g',drawn:=d',toks:=t'}:=by
 have FE:∀b o,X.S.heap.get? b=some o->b≠X.env.locals:=λb o e=>V9 (Z1 (Ix e) I.ok.above);have Q:∀b o,X.S.heap.get? b=some o->b∉X.ex->b∉ch:=λb o e h D=>by
  rcases (P b D).1 with z|z
  exact h z;exact absurd (Z1 (Ix e) z) (yx _)
 have K:∀x c,X.env.cells.lookup x=some c->∀v,s.heap.IsCell c v->h'.IsCell c v:=λx c e v ⟨o,F,U⟩=>by
  have J:c∉ch:=λz=>(P c z).2.2.1 x c e O;by_cases Z:c∈X.fs;obtain⟨T,q⟩:=B c o (I.pU x c e) Z J F (I.mm x c e);exact qF _ q U;exact qF o (j c o (I.pU x c e) Z J F<|I.mm x c e) U
 refine⟨I.ok,I.os,hg,⟨λb o e n D h=>?_,λb o e n D h=>?_,λb o e n h=>?_,λb o e h=>?_,λb A e=>cf b A<|I.base.cf b A e,λb o A e=>iQ b o A<|I.base.iQ b o A e,λb R e=>?_⟩,?_,λx c e=>?_,?_,λx c e=>?_,λp Y=>?_,aB,I.len⟩;exact j b o (FE b o e) D (Q b o e h) (I.base.keep b o e n D h) (I.base.free b o e n h);obtain⟨T,y⟩:=I.base.slot b o e n D h;obtain⟨Tq,N⟩:=B b _ (FE b o e) D (Q b o e h) y (I.base.free b o e n h);exact qY Tq N;obtain⟨L,y⟩:=I.base.there b o e h;exact a b L (Q b o e h) y<|I.base.free b o e n h;obtain⟨L,y⟩:=I.base.there b o e h;exact C b L (Q b o e h) y;obtain⟨m1,y⟩:=I.base.jd b R e;obtain⟨m2,N⟩:=jd b _ y;exact qY (m1++m2) (by rw[N,Array.append_assoc]);obtain⟨m,hn,hl⟩:=I.E;refine qF m (ns m hn) (λi x v y N e3=>?_);obtain⟨u,r,l⟩:=hl i x v y N e3;refine qF u r ?_;rcases l with l|⟨k,c,e,z⟩
 exact .inl l;exact .inr (tR k c e (K x c e _ z));obtain⟨v,z⟩:=I.cell x c e;exact qY v (K x c e v z);obtain⟨m,⟨o,_,_,F,_⟩,_⟩:=I.E;exact a _ o (λz=>(P _ z).2.1 O) F I.free;obtain⟨v,o,F,U⟩:=I.cell x c e;exact a c o (λz=>(P c z).2.2.1 x c e O) F<|I.mm x c e;obtain⟨e,n,W,V,d⟩:=V_ (I.pin p Y);have J:p.1∉ch:=λz=>(P p.1 z).2.2.2 p Y O;exact⟨j p.1 p.2 W V J e n,a p.1 p.2 J e n,W,V,d⟩
theorem Yp.un(I:Yp X f g H s)(u:Un X.fs [] H w s.heap h')(B:cb X.prog X.w w h'):Yp X f g w {s with heap:=h',toks:=t'}:=by
 obtain⟨m,⟨o,q,t,a,r⟩,Y⟩:=id I.E;obtain⟨i,L⟩:=u.any a I.free ap;exact I.step (g':=s.gens) (d':=s.drawn) (ch:=[]) (λY z=>nomatch z) (λb o Y h Y e n=>u.keep b o e n h ap) (λb o Y h Y e n=>u.slot b o e n h ap) (λb o Y e n=>u.free b o e n ap) (λb o Y e=>u.there b o e ap) u.cf u.iQ u.jd (λp d=>by
  obtain⟨j,k,l,J,c⟩:=d;rw[a] at J;cases J;exact⟨_,k,l,L,c⟩) B I.A
theorem Yp.call(I:Yp X f g H s)(u:Un (bP X.stack) ch H w s.heap h')(B:cb X.prog X.w w h')(j:AllBare g')(K:∀b∈ch,(b∈X.ex\/X.S.heap.objs.size<=b)/\b≠X.env.locals/\(∀x c,X.env.cells.lookup x=some c->c≠b)/\∀p∈X.n++f,p.1≠b):
  Yp X f g w {s with heap:=h',gens:=g',drawn:=d',toks:=t'}:=by
 obtain⟨m,⟨o,y,C,a,r⟩,Y⟩:=id I.E;obtain⟨q,L⟩:=u.any a I.free λz=>(K _ z).2.1 O;exact I.step (ch:=ch) K (λb o L k h e n=>u.keep b o e n (λz=>(UA.mp (I.wZ b z)).elim L k) h) (λb o Y Y h e n=>u.any e n h) (λb o h e n=>u.free b o e n h) (λb o h e=>u.there b o e h) u.cf u.iQ u.jd (λv i=>by
  obtain⟨t,l,A,J,d⟩:=i;rw[a] at J;cases J;exact⟨_,l,A,L,d⟩) B j
theorem Yp.turned{it:D9}(I:Yp X f g H s)(k:∀b o,b≠it->s.heap.get? b=some o->h'.get? b=some o)(d:H it=none)(L:it≠X.env.locals)(w:it∈X.ex\/X.S.heap.objs.size<=it)(t:∀x c,X.env.cells.lookup x=some c->c≠it)(l:∀p∈X.n++f,p.1≠it):Yp X f g H {s with heap:=h',toks:=t'}:=by
 have F:∀b u,H b=some u->b≠it:=λb u e z=>by rw[z,d] at e;cases e
 refine I.step (g':=s.gens) (d':=s.drawn) (ch:=[it]) (λb j=>?_) (λb o Y Y h e Y=>k b o (λz=>h (by simp[z])) e) (λb o Y Y h e Y=>⟨o.slots,k b o (λz=>h (by simp[z])) e⟩) (λY Y Y Y n=>n)
  (λb o h e=>⟨o,k b o (λz=>h (by simp[z])) e⟩) (λY Y e=>e) (λY Y Y e=>e) (λb C e=>⟨#[],by rw[e];simp⟩) (λm i=>?_) (λb u e=>?_) I.A
 have e:b=it:=by simpa using j
 subst e;exact⟨w,L,t,l⟩;obtain⟨o,y,B,a,r⟩:=i;exact⟨o,y,B,k _ o (KK L) a,r⟩;refine(I.aB b u e).kj (λc v h q=>k c v ?_ q) (λY q=>q) λY Y q=>q;rcases h with z|z
 rw[z];exact F b u e;exact F c _ z
theorem Yp.tok(I:Yp X f g H s)(t:Nat):Yp X f g H {s with toks:=t}:=I.un (h':=s.heap) (t':=t) Un.refl I.aB
theorem Yp.kept(I:Yp X f g H s)(k:∀b u,s.heap.get? b=some u->h'.get? b=some u):Yp X f g H {s with heap:=h',toks:=t'}:=I.un (Un.kept k) (I.aB.kept k)
theorem Yp.laid{a:D9}(I:Yp X f g H s)(k:∀b u,s.heap.get? b=some u->h'.get? b=some u)(h:s.heap.objs.size<=a)(n:cJ X.prog X.w (upd H a o) h' a o):
  Yp X f g (upd H a o) {s with heap:=h',toks:=t'}:=I.un (Un.laid k h<|I.aB.fresh h) (I.aB.laid k h n)
theorem Yp.write(I:Yp X f g H s)(m:uB (H x))(h:e=x\/H e=some (.o x))(k:∀b u,b≠e->s.heap.get? b=some u->h'.get? b=some u)(a:∃u,h'.get? e=some u)(n:cJ X.prog X.w (upd H x o) h' x o):Yp X f g (upd H x o) {s with heap:=h',toks:=t}:=I.un (Un.write m h k a) (I.aB.write m h k a n)
theorem Yp.si{pins':bn}(I:Yp X f g H s)(h:∀p∈pins',s.heap.get? p.1=some p.2/\H p.1=none/\p.1≠X.env.locals/\p.1∉X.fs/\∀v,p.2.data≠ .cell v):Yp X pins' g H s:=
 ⟨I.ok,I.os,I.A,I.base,I.E,I.cell,I.free,I.mm,λp a=>(U6.mp a).elim (λz=>I.pin p<|Zn _ z)<|h p,I.aB,I.len⟩
theorem FG{N:ac}(h:N.Nodup){j:Nat}(a:N[i]?=some x)(b:N[j]?=some x):i=j:=by
 obtain⟨f,c⟩:=ZX.mp a;obtain⟨d,e⟩:=ZX.mp b;exact(List.getElem_inj h).mp<|c.trans e.symm
theorem FH{A:Gc}{E:bi}{Q:zn}(I:Yp X f g H s)(hN:X.N.Nodup)(L:X.N[i]?=some x)(D:YE X.env.scope x)(r:Tf v u)(h:∀Y,Yp X f (g.set i<|some v) H Y->(∃a,Heap.SameBut a s.heap Y.heap/\(a=X.env.locals\/X.env.cells.lookup x=some a))->Q () Y)(hf:autoParam (X.fn x=true\/X.env.scope.names.lookup x=some .local) ay):wpAny M A (storeName X.env x u) Q E s:=by
 obtain⟨m,hn,hl⟩:=id I.E;have Tt:(X.env.scope.kind==.class ||(X.env.scope.kind==.module && X.env.locals !=X.env.globals))=false:=by rw[I.ok.kind];rfl
 have FI:i<g.length:=by rw[I.len];exact(ZX.mp L).1
 have pU:=I.pU;have t:∀{a:D9}{h':FS},(∃o,s.heap.get? a=some o/\H a=none)->Heap.SameBut a s.heap h'->cb X.prog X.w H h':=λ{a h'} ha l b ob e=>by
  obtain⟨_,_,FJ⟩:=ha;refine(I.aB b ob e).kj (λc P C q=>(l.2 c ?_).trans q) (λ_ q=>q) λ_ _ q=>q;rintro rfl;rcases C with rfl|C
  rw[FJ] at e;cases e;rw[FJ] at C;cases C
 rcases D with G|G
 refine wpAny_storeName_local G hn (λh' Tu l=>?_) Tt;obtain⟨oL,_,_,w_,_⟩:=id hn;refine h _ ⟨I.ok,I.os,I.A,⟨λb o e n K D=>?_,λb o e n K D=>?_,I.base.free,λb o e D=>?_,I.base.cf,I.base.iQ,I.base.jd⟩,qF _ Tu (λj y T B F e3=>?_),λy c e=>?_,I.free,I.mm,λp hp=>?_,t (qF oL w_ I.free) l,by simpa using I.len⟩ (qF _ l (.inl O));exact(l.2 b<|V9<|Z1 (Ix e) I.ok.above).trans (I.base.keep b o e n K D);obtain⟨W,B⟩:=I.base.slot b o e n K D;exact qY W ((l.2 b<|V9<|Z1 (Ix e) I.ok.above).trans B);obtain⟨o',B⟩:=I.base.there b o e D;exact qY o' ((l.2 b<|V9<|Z1 (Ix e) I.ok.above).trans B);by_cases J:j=i;subst J;rw[L] at B;cases B;rw[List.getElem?_set_self FI] at F;cases F;exact qF u r (.inl ⟨G,ap⟩);rw[List.getElem?_set_ne<|KK J] at F;obtain⟨U,Z,q⟩:=hl j y T B F e3;refine qF U Z ?_;rcases q with⟨k,e⟩|⟨k,c,e,z⟩
 refine .inl ⟨k,?_⟩;have:y≠x:=λe=>J (FG hN B<|e ▸ L);simp[this,e];exact .inr (tR k c e (z.sameBut l<|pU y c e));obtain⟨P,z⟩:=I.cell y c e;exact qY P (z.sameBut l<|pU y c e);obtain⟨e,n,R,nf,d⟩:=V_ (I.pin p hp);exact⟨(l.2 p.1 R).trans e,n,R,nf,d⟩;have Am:X.fn x=true:=by
  rcases hf with z|z
  exact z;rw[z] at G;cases G
 obtain⟨c,C⟩:=I.ok.has x (.inl G);obtain⟨P,z⟩:=I.cell x c C;refine wpAny_storeName_cell I.ok.kind G C z<|λh' cL l=>?_;obtain⟨oc,FK,Tv⟩:=id z;refine h {s with heap:=h'} ⟨I.ok,I.os,I.A,⟨λb o e n K D=>?_,λb o e n K D=>?_,I.base.free,λb o e D=>?_,I.base.cf,I.base.iQ,I.base.jd⟩,qF m (hn.sameBut l<|KK<|pU x c C) (λj y T B F e3=>?_),λy S e=>?_,I.free,I.mm,λp hp=>?_,t (qF oc FK (I.mm x c C)) l,by simpa using I.len⟩ (qF c l (.inr C));exact(l.2 b<|V9<|Z1 (Ix e)<|I.ok.Ag x c Am C).trans (I.base.keep b o e n K D);obtain⟨W,B⟩:=I.base.slot b o e n K D;exact qY W ((l.2 b<|V9<|Z1 (Ix e)<|I.ok.Ag x c Am C).trans B);obtain⟨o',B⟩:=I.base.there b o e D;exact qY o' ((l.2 b<|V9<|Z1 (Ix e)<|I.ok.Ag x c Am C).trans B);by_cases J:j=i;subst J;rw[L] at B;cases B;rw[List.getElem?_set_self FI] at F;cases F;exact qF u r (.inr (tR (.inl G) c C cL));rw[List.getElem?_set_ne<|KK J] at F;obtain⟨U,Z,q⟩:=hl j y T B F e3;refine qF U Z ?_;rcases q with q|⟨k,S,e,z'⟩
 exact .inl q;refine .inr (tR k S e (z'.sameBut l ?_));rintro rfl;exact J<|FG hN B<|I.ok.inj _ _ _ e C ▸ L;by_cases fK:S=c;subst fK;exact qY _ cL;obtain⟨w2,z2⟩:=I.cell y S e;exact qY w2 (z2.sameBut l fK);obtain⟨e,n,R,nf,d⟩:=V_ (I.pin p hp);refine⟨(l.2 p.1 ?_).trans e,n,R,nf,d⟩;intro q;rw[q,FK] at e;have q':oc=p.2:=Uq e;exact d P (by rw[<-q'];exact Tv)
theorem FL{A:Gc}{E:bi}{Q:zn}(I:Yp X f g H s)(e:X.N.Nodup)(c:X.N[i]?=some x)(b:YE X.env.scope x)(r:Tf v u)(h:∀a,Yp X f (g.set i<|some v) H a->Q () a)(d:autoParam (X.fn x=true\/X.env.scope.names.lookup x=some .local) ay):wpAny M A (storeName X.env x u) Q E s:=
 FH I e c b r (λa j Y=>h a j) d
theorem Yp.Tw(I:Yp X f g H s)(j:a.os=s.os)(u:Un (bP X.stack) i H w s.heap a.heap)(B:cb X.prog X.w w a.heap)(k:AllBare a.gens)(K:∀b∈i,(b∈X.ex\/X.S.heap.objs.size<=b)/\b≠X.env.locals/\(∀x c,X.env.cells.lookup x=some c->c≠b)/\∀p∈X.n++f,p.1≠b):Yp X f g w a:=by
 obtain⟨h',d,h,t,o⟩:=a;have e:o=s.os:=j;subst e;exact I.call (g':=d) (t':=t) (d':=h) u B k K
end
abbrev XK:=EQ->wE->Hp->Prop
abbrev St:=List ld
abbrev Ch:=St->Hp->Prop
abbrev VK:=V->Hp->Prop
abbrev TE:=St->Hp->VK->Prop
abbrev TT:=St->Hp->(tz)->Prop
abbrev TA:=St->Hp->(ad->Hp->Prop)->Prop
structure Xt where
 nx:St->Hp->Prop
 r:VK
 bk:St->Hp->Prop:=λ_ _=>False
 c:St->Hp->Prop:=λ_ _=>False
abbrev TS:=Xt->St->Hp->Prop
inductive EP(X:Cx)(B:bn)(a:St)(Q:VK)(u:EQ)(s:Ev):Prop|i(v H)(_:Yp X B a H s)(_:Tf v u)(_:Q v H)
inductive TP(X:Cx)(B:bn)(a:St)(Q:tz)(b:Fk)(s:Ev):Prop|i(H)(_:Yp X B a H s)(_:Q b H)
inductive AP(X:Cx)(B:bn)(a:St)(Q:ad->Hp->Prop)(u:ca)(s:Ev):Prop|i(v H)(_:Yp X B a H s)(_:Cj v u)(_:Q v H)
def SP(X:Cx)(B:bn)(D:Xt)(f:Flow)(s:Ev):Prop:=
 match f with
 |.next=>∃L H,Yp X B L H s/\D.nx L H
 |.brk=>∃L H,Yp X B L H s/\D.bk L H
 |.cont=>∃L H,Yp X B L H s/\D.c L H
 |.ret u=>∃v L H,Yp X B L H s/\Tf v u/\D.r v H
def PE(X:Cx)(e:Expr)(t:TE):Prop:=
 ∀(B:bn)(s:Ev)(b:St)(H:Hp)(Q:VK),Yp X B b H s->t b H Q->wpAny (model X.prog X.w) X.A (eval e X.env) (EP X B b Q) X.a s
def PT(X:Cx)(e:Expr)(t:TT):Prop:=
 ∀(B:bn)(s:Ev)(b:St)(H:Hp)(Q:tz),Yp X B b H s->t b H Q->wpAny (model X.prog X.w) X.A (isTrue e X.env<|eval e X.env) (TP X B b Q) X.a s
def PW(X:Cx)(e:Expr)(t:TT):Prop:=
 ∀(b:Sem EQ)(B:bn)(s:Ev)(c:St)(H:Hp)(Q:tz),Yp X B c H s->t c H Q->wpAny (model X.prog X.w) X.A (isTrue e X.env b) (TP X B c Q) X.a s
theorem PW.pt(h:PW X e t):PT X e t:=h _
def PA(X:Cx)(e:jp)(t:TA):Prop:=
 ∀(p:Pos)(B:bn)(s:Ev)(b:St)(H:Hp)(Q:ad->Hp->Prop),Yp X B b H s->t b H Q->wpAny (model X.prog X.w) X.A (spliced<|backTo p<|starEach e X.env) (AP X B b Q) X.a s
def PS(X:Cx)(c:Fr)(t:TS):Prop:=
 ∀(B:bn)(s:Ev)(b:St)(H:Hp)(D:Xt),Yp X B b H s->t D b H->wpAny (model X.prog X.w) X.A (exec c X.env) (SP X B D) X.a s
def fM(X:Cx)(c:Do)(t:TS):Prop:=
 ∀(B:bn)(s:Ev)(b:St)(H:Hp)(D:Xt),Yp X B b H s->t D b H->wpAny (model X.prog X.w) X.A (execs c X.env) (SP X B D) X.a s
theorem aL{t:Sem b}{Q c:b->Ev->Prop}{A:Gc}{E:bi}{s:Ev}(h:wpAny M A t Q E s)(d:∀a s,Q a s->c a s):wpAny M A t c E s:=KM h d λY Y x=>x
section
variable{X:Cx}
def An(i:Nat):TE:=λa H Q=>∃v,a[i]?=some (some v)/\Q v H
def tC(v:V):TE:=λ_ H Q=>Q v H
theorem arB{p:Pos}(q:X.N[i]?=some x)(f:wY X.env.scope x)(d:autoParam ((x==("__debug__":Str))=false) bx)(j:autoParam ((x==("__classdict__":Str))=false) bx):PE X (.Name x p) (An i):=by
 intro B s b H Q I h;obtain⟨v,e,h⟩:=h;obtain⟨m,n,o⟩:=I.E;obtain⟨u,r,l⟩:=o i x v q e f;have R:EP X B b Q u s:=⟨v,H,I,r,h⟩;rcases l with⟨k,g⟩|⟨k,c,a,F⟩
 exact wpAny_Name (wpAny_loadName_local I.ok.kind k n g R) d;rcases k with k|k
 exact wpAny_Name (wpAny_loadName_cell I.ok.kind k a F R) d;exact wpAny_Name (wpAny_loadName_free I.ok.kind k a F R j) d
theorem alJ:PE X (.Constant (.int i) j p) (tC<|.i i):=λY Y Y H Y I h=>wpAny_Constant_int ⟨.i i,H,I.tok _,⟨_,O⟩,h⟩
theorem arW:PE X (.Constant (.bool b) j p) (tC<|.b b):=λY Y Y H Y I h=>Constant_bool ⟨.b b,H,I,O,h⟩
theorem TF:PE X (.Constant .none j p) (tC .a):=λY Y Y H Y I h=>Constant_none ⟨.a,H,I,O,h⟩
theorem aqK:PE X (.Constant (.str x) j p) (tC<|.s x):=λY Y Y H Y I h=>Calls.Constant_str ⟨.s x,H,I.tok _,⟨_,O⟩,h⟩
def Gl(X:Cx)(x:Str):Prop:=X.env.kindOf x=some .globalImplicit
theorem xa{E:bi}{a:St}{Q:bi}(I:Yp X B a H s)(b:Gl X x)(m:X.g x=some u)(h:Q u s)(d:autoParam ((x==("__debug__":Str))=false) bx):wpAny (model X.prog X.w) X.A (eval (.Name x p) X.env) Q E s:=
 Calls.Name_function_global I.ok.kind b (Calls.loadGlobal_global (by rw[I.ok.glob];exact I.mod.glob.keeps I.bk) m h) d
theorem pV{E:bi}{a:St}{u:EQ}{p:Pos}{Q:bi}(I:Yp X B a H s)(b:Gl X x)(m:X.g x=none)(v:bootBuiltins x=some u)(h:Q u s)(n:autoParam (x≠"__name__") bx)(d:autoParam ((x==("__debug__":Str))=false) bx):wpAny (model X.prog X.w) X.A (eval (.Name x p) X.env) Q E s:=by
 obtain⟨f,e,c⟩:=I.mod.blt;exact Calls.Name_function_global I.ok.kind b (Calls.loadGlobal_builtin (by rw[I.ok.glob];exact I.mod.glob.keeps I.bk) m (by rw[I.ok.blt];exact e.keeps I.bk) ((c x n).trans v) h) d
theorem FO(a:Gl X x)(m:X.g x=some u)(r:Tf v u)(d:autoParam ((x==("__debug__":Str))=false) bx):PE X (.Name x p) (tC v):=
 λY Y Y H Y I h=>xa I a m ⟨v,H,I,r,h⟩ d
theorem asY{u:EQ}{p:Pos}(b:Gl X x)(m:X.g x=none)(a:bootBuiltins x=some u)(r:Tf v u)(n:autoParam (x≠"__name__") bx)(d:autoParam ((x==("__debug__":Str))=false) bx):PE X (.Name x p) (tC v):=
 λY Y Y H Y I h=>pV I b m a ⟨v,H,I,r,h⟩ n d
variable{a b:Expr}{g i:TE}{f:Pos}
def tB(t:TE):TT:=λa H Q=>t a H λx d=>∃c,x=.b c/\Q c d
variable{j l:TT}{k:jp}
def FP(t u:TT):TT:=λa H Q=>t a H λc b=>if c=true then u a b Q else Q false b
def FQ(t u:TT):TT:=λa H Q=>t a H λc b=>if c=true then Q true b else u a b Q
def FR(t:TT):TT:=λa H Q=>t a H λc b=>Q (!c) b
theorem atA(ha:PT X a j):PW X (.BoolOp .And [a] f) j:=by
 intro wh B' s σ H Q I h;refine isTrue_and<|aL (ha B' s σ H Q I h) λc s1 e=>?_;cases c with
 |true=>exact isTrue_and_nil e
 |false=>exact e
theorem ajT(ha:PT X a j):PW X (.BoolOp .Or [a] f) j:=by
 intro wh B' s σ H Q I h;refine isTrue_or<|aL (ha B' s σ H Q I h) λc s1 e=>?_;cases c with
 |false=>exact isTrue_or_nil e
 |true=>exact e
theorem asD(ha:PT X a j)(hb:PW X (.BoolOp .And (b::k) f) l):PW X (.BoolOp .And (a::b::k) f) (FP j l):=by
 intro wh B' s σ H Q I h;refine isTrue_and<|aL (ha B' s σ H _ I h) λc s1 ⟨H1,I1,q1⟩=>?_;cases c with
 |true=>exact hb wh B' s1 σ H1 Q I1 q1
 |false=>exact⟨H1,I1,q1⟩
theorem YW(ha:PT X a j)(hb:PW X (.BoolOp .Or (b::k) f) l):PW X (.BoolOp .Or (a::b::k) f) (FQ j l):=by
 intro wh B' s σ H Q I h;refine isTrue_or<|aL (ha B' s σ H _ I h) λc s1 ⟨H1,I1,q1⟩=>?_;cases c with
 |true=>exact⟨H1,I1,q1⟩
 |false=>exact hb wh B' s1 σ H1 Q I1 q1
theorem aqC(e:PT X a j):PT X (.UnaryOp .Not a f) (FR j):=by
 intro B s d H Q I h;exact isTrue_not (aL (e B s d H (λc g=>Q (!c) g) I h) λ_ _⟨a,b,c⟩=>⟨a,b,c⟩)
def FT(g i:TE):TE:=λa H Q=>g a H λx d=>∃c,x=.b c/\if c=true then i a d Q else Q (.b false) d
def FU(g i:TE):TE:=λa H Q=>g a H λx d=>∃c,x=.b c/\if c=true then Q (.b true) d else i a d Q
theorem FV(h:PE X a t):PE X (.BoolOp o [a] f) t:=λB s b H Q I w=>BoolOp_one (h B s b H Q I w)
theorem asK(n:PE X a g)(m:PE X (.BoolOp .And (b::k) f) i):PE X (.BoolOp .And (a::b::k) f) (FT g i):=by
 intro B s d H Q I h;refine BoolOp_and<|aL (n B s d H _ I h) λv l h=>?_;obtain⟨x,j,e,r,q⟩:=h;obtain⟨c,rfl,q⟩:=q;cases r;refine Pi ?_;cases c with
 |true=>exact m B l d j Q e q
 |false=>exact⟨.b false,j,e,O,q⟩
theorem anB(n:PE X a g)(m:PE X (.BoolOp .Or (b::k) f) i):PE X (.BoolOp .Or (a::b::k) f) (FU g i):=by
 intro B s d H Q I h;refine BoolOp_or<|aL (n B s d H _ I h) λv l h=>?_;obtain⟨x,j,e,r,q⟩:=h;obtain⟨c,rfl,q⟩:=q;cases r;refine Pi ?_;cases c with
 |false=>exact m B l d j Q e q
 |true=>exact⟨.b true,j,e,O,q⟩
def FW(t:TT)(g i:TE):TE:=λa H Q=>t a H λc b=>if c=true then g a b Q else i a b Q
theorem asI(n:PT X c j)(p:PE X a g)(o:PE X b i):PE X (.IfExp c a b f) (FW j g i):=by
 intro B s e H Q I h;refine wpAny_IfExp<|aL (n B s e H _ I h) λd k h=>?_;obtain⟨m,l,q⟩:=h;cases d with
 |true=>exact p B k e m Q l q
 |false=>exact o B k e m Q l q
end
def ak(K:Frag)(H:Hp)(a:D9)(x:ad):Prop:=
 Rd H a (.l x)\/
  ∃(o:Obj)(D:ww)(n:Nat),K.lookup a=some o/\o.cls=.type "list"/\o.dict=none/\o.data=.seq D n/\D.size<=sizeLine/\Cj x D.toList
def aM(K:Frag)(H:Hp)(a:D9)(x:ad):Prop:=
 Rd H a (.t x)\/
  ∃(o:Obj)(D:ww)(n:Nat),K.lookup a=some o/\o.cls=.type "tuple"/\o.data=.seq D n/\D.size<=sizeLine/\Cj x D.toList
noncomputable def anA:EQ->ld
 |.none=>some .a
 |.bool b=>some (.b b)
 |.int i _=>some (.i i)
 |.str x _=>some (.s x)
 |.bytes b _=>some (.g b)
 |.float b _=>some (.lF b)
 |.ref a=>some (.r a)
 |.type n=>some (.t n)
 |_=>none
theorem Tf.abs(r:Tf x u):anA u=some x:=by
 cases x with
 |a=>cases r;rfl
 |b Y=>cases r;rfl
 |i Y=>obtain⟨t,rfl⟩:=r;rfl
 |s Y=>obtain⟨t,rfl⟩:=r;rfl
 |g Y=>obtain⟨t,rfl⟩:=r;rfl
 |lF Y=>obtain⟨t,rfl⟩:=r;rfl
 |r Y=>cases r;rfl
 |t Y=>cases r;rfl
theorem Tf.inj{x y:V}{u:EQ}(r:Tf x u)(q:Tf y u):x=y:=Uq (r.abs.symm.trans q.abs)
theorem Cj.inj:∀{x y:ad}{u:ca},Cj x u->Cj y u->x=y:=by
 intro x y u h;induction h generalizing y with
 |nil=>intro k;cases k;rfl
 |cons r Y i=>
  intro k;cases k with
  |cons a t=>rw[r.inj a,i t]
section
variable{X:Cx}{c:bn}{f:St}{H:Hp}{s:Ev}{a:D9}{b g:ad}
theorem ak.of{K:Frag}(h:H a=some (.l b)):ak K H a b:=.inl (.inl h)
theorem aM.of{K:Frag}(h:H a=some (.t b)):aM K H a b:=.inl (.inl h)
theorem Yp.list(I:Yp X c f H s)(h:ak X.K H a b):∃D:ca,Cj b D/\PlainL s.heap a D.toArray/\b.length<=sizeLine:=by
 rcases h with h|⟨o,D,n,k,i,g,d,j,r⟩
 obtain⟨z,D,n,r,e⟩:=h.ok I.aB;exact qT D r (q8 _ n e O O O) z;refine qT D.toList r (q8 o n (I.dg a o k) i g (by simpa using d)) ?_;have e:=r.length;simp only[Wz] at e;exact Ut (WK e) j
theorem Yp.tuple(I:Yp X c f H s)(h:aM X.K H a b):∃D:ca,Cj b D/\IsTup s.heap a D.toArray/\b.length<=sizeLine:=by
 rcases h with h|⟨o,D,n,k,g,d,i,r⟩
 obtain⟨z,D,r,p⟩:=h.ok I.aB;exact qT D r p z;refine qT D.toList r (qT o (I.dg a o k) g ⟨n,by simpa using d⟩) ?_;have e:=r.length;simp only[Wz] at e;exact Ut (WK e) i
theorem Yp.xf(I:Yp X c f H s)(h:ak X.K H a b)(m:ak X.K H a g):b=g:=by
 obtain⟨D,r,⟨o,n,e,Y,Y,d⟩,Y⟩:=I.list h;obtain⟨i,l,⟨q,t,j,Y,Y,k⟩,Y⟩:=I.list m;rw[e] at j;cases j;rw[d] at k;injection k with p _
 have:D=i:=by simpa using IR Array.toList p
 subst this;exact r.inj l
end
section
variable{X:Cx}{j:Fr}{k:Do}{t u:TS}{e:Expr}{g:TE}{i:Pos}
def Ao:TS:=λD a H=>D.nx a H
def FX(t u:TS):TS:=λD a H=>t {D with nx:=u D} a H
theorem aqV:fM X [] Ao:=λY Y a H Y I h=>wpAny_execs_nil ⟨a,H,I,h⟩
theorem amR(d:PS X j t)(c:fM X k u):fM X (j::k) (FX t u):=by
 intro B s a H D I h;refine wpAny_execs_cons<|aL (d B s a H {D with nx:=u D} I h) λf b q=>?_;cases f with
 |next=>
  obtain⟨L,g,e,q⟩:=q;exact c B b L g D e q
 |ret v=>exact q
 |brk=>exact q
 |cont=>exact q
def anR:TS:=λD a H=>D.bk a H
def FY:TS:=λD a H=>D.c a H
theorem TY:PS X (.Continue i) FY:=λY Y a H Y I h=>wpAny_Continue ⟨a,H,I,h⟩
theorem Yp.quiet{a:St}(I:Yp X B a H s):interactive X.env=false:=by simp[interactive,I.ok.kind]
def FZ(g:TE):TS:=λD a H=>g a H λ_ b=>D.nx a b
theorem apH(c:PE X e g)(b:autoParam (swapsWith e none i.line X.env=pure false) cl):PS X (.Expr e i) (FZ g):=by
 intro B s a H D I h;exact wpAny_Expr_any (aL (c B s a H _ I h) (by rintro v j ⟨x,f,d,r,q⟩;exact ⟨a,f,d,q⟩)) I.quiet b
def F0(g:TE):TS:=λD a H=>g a H D.r
theorem auS(b:PE X e g):PS X (.Return (some e) i) (F0 g):=by
 intro B s a H D I h;exact wpAny_Return_some<|aL (b B s a H _ I h) (by rintro v f ⟨x,d,c,r,q⟩;exact ⟨x,a,d,c,r,q⟩)
def apD:TS:=λD _ H=>D.r .a H
def F1(c:TT)(t u:TS):TS:=λD a H=>c a H λb d=>if b=true then t D a d else u D a d
theorem asL(l:PT X c f)(n:fM X a t)(m:fM X b u):PS X (.If c a b i) (F1 f t u):=by
 intro B s e H D I h;refine wpAny_If<|aL (l B s e H _ I h) λd g h=>?_;obtain⟨k,j,q⟩:=h;cases d with
 |true=>exact n B g e k D j q
 |false=>exact m B g e k D j q
def Uc:TS:=λ_ _ _=>False
end
abbrev TG:=V->St->Hp->(Ch)->Prop
abbrev lI:=ad->St->Hp->(Ch)->Prop
def PG(X:Cx)(b:Expr)(t:TG):Prop:=
 ∀(B:bn)(s:Ev)(c:St)(H:Hp)(v:V)(u:EQ)(Q:Ch),Yp X B c H s->Tf v u->t v c H Q->
  wpAny (model X.prog X.w) X.A (assign b X.env u) (λ_ e=>∃L d,Yp X B L d e/\Q L d) X.a s
def sj(X:Cx)(d:jp)(t:lI):Prop:=
 ∀(B:bn)(s:Ev)(b:St)(H:Hp)(v:ad)(u:ca)(Q:Ch),Yp X B b H s->Cj v u->t v b H Q->
  wpAny (model X.prog X.w) X.A (assignInOrder ((assignEach d X.env).map (·.2)) u) (λ_ e=>∃L c,Yp X B L c e/\Q L c) X.a s
abbrev Ap:=V->V->V->Hp->(Hp->Prop)->Prop
def F2(X:Cx)(t:Ap):Prop:=
 ∀(B:bn)(s:Ev)(b:St)(H:Hp)(o i v:V)(c d u:EQ)(Q:Hp->Prop),Yp X B b H s->Tf o c->Tf i d->Tf v u->t o i v H Q->
  wpAny (model X.prog X.w) X.A (setItem c d u) (λ_ f=>∃e,Yp X B b e f/\Q e) X.a s
section
variable{X:Cx}{d:Pos}
def dB(i:Nat):TG:=λv a H Q=>Q (a.set i<|some v) H
theorem pW(c:X.N.Nodup)(b:X.N[i]?=some x)(a:YE X.env.scope x)(f:autoParam (X.fn x=true\/X.env.scope.names.lookup x=some .local) ay):PG X (.Name x d) (dB i):=by
 intro B s g H v u Q I r h;exact wpAny_assign_Name<|FL I c b a r (λj e=>⟨_,H,e,h⟩) f
def xg:lI:=λv a H Q=>v=[]/\Q a H
def pX(t:TG)(u:lI):lI:=λs a H Q=>∃v r,s=v::r/\t v a H λL b=>u r L b Q
theorem Aq:sj X [] xg:=by
 intro B s a H v u Q I r h;obtain⟨e,h⟩:=h;subst e;cases r;exact assignInOrder_nil ⟨a,H,I,h⟩
theorem sk(j:PG X e t)(i:sj X a u)(g:autoParam ((assignEach (e::a) X.env).map (·.2)=assign e X.env::(assignEach a X.env).map (·.2)) cl):sj X (e::a) (pX t u):=by
 intro B s c H n p Q I r h;obtain⟨v,o,k,h⟩:=h;subst k;cases r with
 |cons r f=>
  rw[g];refine assignInOrder_cons<|aL (j B s c H _ _ _ I r h) λ_ d h=>?_;obtain⟨b,m,l,q⟩:=h;exact i B d b m _ _ Q l f q
def Ar(K:Frag)(n:Nat)(t:lI):TG:=λv b H Q=>∃a x,v=.r a/\aM K H a x/\x.length=n/\t x b H Q
theorem As{k:Nat}(y:X.calm=true)(h:sj X c t)(m:autoParam ((assignEach c X.env).length=n) cl)(i:autoParam ((assignEach c X.env).findIdx? (·.1)=none) cl):PG X (.Tuple c k d) (Ar X.K n t):=by
 intro B s f H v u Q I r w;obtain⟨a,x,A,q,p,w⟩:=w;subst A;cases r;obtain⟨E,g,l,D⟩:=I.tuple q;refine assign_Tuple_tuple (I.ok.hd y) l (by simp[m,<-p,g.length]) i λz j=>?_;have C:Yp X B f H {s with heap:=z}:=I.kept (t':=s.toks) λb o e=>j b o (V9<|Ix e) e;exact h B _ f H x _ Q C (by simpa using g) w
def F3(b c:TE)(t:Ap):TG:=λv a H Q=>b a H λo f=>c a f λi e=>t o i v e λd=>Q a d
theorem Ud(w:PE X o e)(z:PE X i f)(p:F2 X t)(A:autoParam (∀v,assign (.Subscript o i d) X.env v=(do
   let a <-holding [v] (eval o X.env)
   let b <-holding [v,a] (eval i X.env)
   standAt d
   holding [v,a,b] (setItem a b v)
   release [v,a,b] [])) cn):PG X (.Subscript o i d) (F3 e f t):=by
 intro B s c H v u Q I r h;rw[A];refine HD<|NE<|aL (w B s c H _ I h) λa j h=>?_;obtain⟨x,J,E,l,n⟩:=h;refine HD<|NE<|aL (z B j c J _ E n) λb g h=>?_;obtain⟨y,G,D,k,m⟩:=h;refine HD<|Tl<|HD<|NE<|aL (p B g c G x y v a b u _ D l k r m) λ_ K h=>?_;obtain⟨F,C,q⟩:=h;exact wpAny_release ⟨c,F,C,q⟩
def km(t:TE)(g:TG):TS:=λD a H=>t a H λx b=>g x a b D.nx
theorem F4(k:PE X e b)(j:PG X t g)(i:autoParam (swapsWithSole [t] e d.line X.env=pure false) cl)(w:autoParam (swappedStores [t] e X.env=pure none) cl)(l:autoParam ((assignEach [t] X.env).map (·.2)=[assign t X.env]) cl):PS X (.Assign [t] e d) (km b g):=by
 intro B s a H D I h;refine wpAny_Assign_stores (aL (k B s a H _ I h) λv c h=>?_) i w;obtain⟨x,n,m,r,f⟩:=h;rw[l];exact aL (j B c a n x v _ m r f) λY o q=>q
theorem anD(k:X.N.Nodup)(f:X.N[i]?=some x)(b:YE X.env.scope x)(j:PE X e t)(c:autoParam (swapsWith e (some<|.Name x p) d.line X.env=pure false) cl)(g:autoParam (X.fn x=true\/X.env.scope.names.lookup x=some .local) ay):
  PS X (.Assign [.Name x p] e d) (km t<|dB i):=by
 intro B s a H D I h;refine wpAny_Assign_Name (aL (j B s a H _ I h) λv u h=>?_) c;obtain⟨y,n,m,r,q⟩:=h;exact FL m k f b r (λo l=>rP _ n l q) g
def F5(c:TT)(t:TS):TS:=λD a H=>∃W:Nat->St->Hp->Prop,(∃m,W m a H)/\∀m a H,W m a H->
 c a H λb e=>if b=true then ∃N:St->Hp->Prop,(∀L f,N L f->∃d,d<m/\W d L f)/\t {D with nx:=N,c:=N,bk:=D.nx} a e else D.nx a e
theorem atD(x:PassesOwn (model X.prog X.w) X.A X.env X.a)(T:PT X c r)(U:fM X y u):PS X (.While c y [] d) (F5 r u):=by
 intro B s J H D I h;obtain⟨W,⟨S,M⟩,t⟩:=h;refine wpAny_While<|codeAny_whileLoop (λn R=>∃L G,Yp X B L G R/\W n L G) ?_ S (rP J H I M);rintro n Q zq;obtain⟨g,F,V,K⟩:=Vj zq;refine Rs x<|aL (T B Q g F _ V<|t n g F K) λb P h=>?_;obtain⟨E,C,j⟩:=h;cases b with
 |true=>
  obtain⟨N,z,j⟩:=j;rw[GT O];refine Rs x<|aL (U B P g E _ C j) λf Y q=>?_;cases f with
  |next=>
   obtain⟨e,i,p,l⟩:=q;obtain⟨m,o,k⟩:=z e i l;exact qF m o ⟨e,i,p,k⟩
  |cont=>
   obtain⟨e,i,p,l⟩:=q;obtain⟨m,o,k⟩:=z e i l;exact qF m o ⟨e,i,p,k⟩
  |brk=>exact q
  |ret v=>exact q
 |false=>
  rw[GM U_];exact wpAny_execs_nil (rP g E C j)
end
structure It where
 go:Nat->Hp->Prop
 dH:Nat->Hp->V->Hp->Prop
 stop:Nat->Hp->Prop
def jK(X:Cx)(B:bn)(H:Hp)(b:D9):Prop:=
 H b=none/\b≠X.env.locals/\b∉X.fs/\(b∈X.ex\/X.S.heap.objs.size<=b)/\(∀x c,X.env.cells.lookup x=some c->c≠b)/\∀p∈X.n++B,p.1≠b
theorem Yp.uG{a:St}{b:D9}(I:Yp X B a H s)(h:s.heap.objs.size<=b)(n:H' b=none):jK X B H' b:=by
 refine⟨n,mK<|Z1 I.lt h,I.FD h,.inr<|Ut I.sz h,λx c e z=>?_,λp d z=>?_⟩;obtain⟨v,q⟩:=I.cell x c e;exact absurd (Z1 q.lt (by rw[z];exact h))<|yx _;exact absurd (Z1 (Ix (I.pin p d).1) (by rw[z];exact h)) (yx _)
structure mR(P:Fa)(w:FM)(K:Frag)(tg:Expr)(J:It)(fp:pp)(it:D9)(tn:Nat->FS->Prop):Prop where
 mem:it∈fp
 obj:∀i h,tn i h->∀b∈fp,∃o,h.get? b=some o/\∀v,o.data≠ .cell v
 keep:∀i h h',tn i h->(∀b∈fp,∀o,h.get? b=some o->h'.get? b=some o)->tn i h'
 item:∀(X:Cx),X.prog=P->X.w=w->X.K=K->X.calm=true->∀(i:Nat)(B':bn)(s:Ev)(σ:St)(H:Hp)(E:bi),Yp X B' σ H s->(∀b∈fp,jK X B' H b)->tn i s.heap->J.go i H->
  wpAny (model P w) X.A (pyNext (.ref it)) (λr s1=>∃u,r=some u/\
   wpAny (model P w) X.A (letOwnedTupleGo tg (.ref it) u) (λ_ s2=>∃x H',Yp X B' σ H' s2/\Tf x u/\J.dH i H x H'/\tn (i+1) s2.heap/\∀b∈fp,H' b=none) E s1) E s
 done:∀(X:Cx),X.prog=P->X.w=w->X.K=K->X.calm=true->∀(i:Nat)(B':bn)(s:Ev)(σ:St)(H:Hp)(E:bi),Yp X B' σ H s->(∀b∈fp,jK X B' H b)->tn i s.heap->J.stop i H->
  wpAny (model P w) X.A (pyNext<|.ref it) (λr s1=>r=none/\Yp X B' σ H s1) E s
 self:∀(A:Gc)(i:Nat)(s:Ev)(Q:bi)(E:bi),tn i s.heap->Q (.ref it) s->wpAny (model P w) A (pyIter<|.ref it) Q E s
abbrev TI:=St->Hp->(It->Hp->Prop)->Prop
def F6(X:Cx)(B:bn)(a:St)(g:Expr)(R:It->Hp->Prop)(p:EQ)(s:Ev):Prop:=
 ∃(i:D9)(f:pp)(t:Nat->FS->Prop)(J:It)(H:Hp),p=.ref i/\Yp X B a H s/\mR X.prog X.w X.K g J f i t/\t 0 s.heap/\(∀b∈f,jK X B H b)/\R J H
def PI(X:Cx)(t i:Expr)(c:TI):Prop:=
 ∀(B:bn)(s:Ev)(b:St)(H:Hp)(R:It->Hp->Prop),Yp X B b H s->c b H R->
  wpAny (model X.prog X.w) X.A (eval i X.env) (λv d=>wpAny (model X.prog X.w) X.A (pyIter v) (F6 X B b t R) X.a d) X.a s
theorem Au{A:Gc}{E:bi}{i:D9}{u:EQ}{n:GE}{v:ww}{Q:zn}(b:s.heap.get? i=some o)(e:o.cls=.type n)(d:o.data=.fields v)(c:["enumerate","zip","dict_itemiterator","dict_reverseitemiterator","odict_iterator","itertools.zip_longest","itertools.pairwise"].contains n=false)(a:Q () s):wpAny M A (letOwnedTupleGo t (.ref i) u) Q E s:=by
  delta letOwnedTupleGo;cases t<;>first
    |exact IN a
    | (cases u<;>first
        |exact IN a
        | (refine HD (wpAny_load b ?_)
           rw[e,d];show wpAny M A (if (["enumerate","zip","dict_itemiterator","dict_reverseitemiterator","odict_iterator","itertools.zip_longest","itertools.pairwise"].contains n && v[0]?==some (rawInt _))=true then _ else _) Q E s;rw[GM (by intro h;rw[c,Bool.false_and] at h;cases h)];exact IN a))
def cX(K:Frag)(a:D9):It:=
 ⟨λi H=>∃s x,ak K H a s/\s[i]?=some x,λi H x b=>b=H/\∀s,ak K H a s->s[i]?=some x,λi H=>∃s,ak K H a s/\s.length<=i⟩
def Uh(K:Frag)(a:D9):It:=
 ⟨λi H=>∃s x,aM K H a s/\s[i]?=some x,λi H x b=>b=H/\∀s,aM K H a s->s[i]?=some x,λi H=>∃s,aM K H a s/\s.length<=i⟩
def gW(l:Int)(n:Nat):It:=⟨λi _=>i<n,λi H x a=>a=H/\x=.i (l+i),λi _=>n<=i⟩
theorem auA{K:Frag}(a f:D9):mR P w K S (cX K a) [f] f (λi h=>h.IsListIter f a i) where
 mem:=by simp
 obj:=λi h t b g=>by
  have e:b=f:=by simpa using g
  subst e;obtain⟨o,e,c,d⟩:=t;exact qF o e (λv z=>by rw[d] at z;cases z)
 keep:=λi h l t k=>t.at λo e=>k f ap o e
 item:=by
  intro X A n B M i Q s L H E I j t y;subst A n B;obtain⟨R,x,q,m⟩:=y;obtain⟨D',r,p,V⟩:=I.list q;obtain⟨u,Y,U⟩:=r.get m;obtain⟨J,G,Z,F,D,C⟩:=i2 (j f ap);refine wpAny_pyNext_list_item t p.isList (x:=u) (by simpa using Y) λl N T=>?_;have I1:Yp X Q L H {s with heap:=l}:=I.turned (t':=s.toks) (λb o g e=>(T.2 b g).trans e) J G F D C;obtain⟨o,e,c,d⟩:=id N;exact qF u O (Au (s:={s with heap:=l}) e c d ax (tA x H I1 U ⟨O,λys W=>by rw[I.xf W q];exact m⟩ N (λb g=>(j b g).1)))
 done:=by
  intro X A n B M i Q s L H E I j t y;subst A n B;obtain⟨R,q,m⟩:=y;obtain⟨D',r,p,V⟩:=I.list q;obtain⟨J,G,Z,F,D,C⟩:=i2 (j f ap);have hl:=r.length;exact wpAny_pyNext_list_end (I.ok.hd M) t p.isList (by simp;lia) λl eb=>⟨O,I.turned (t':=s.toks) (λb o g e=>eb b o g e) J G F D C⟩
 self:=λ_ _ _ _ _ t h=>wpAny_pyIter_listiter t h
theorem Uj{K:Frag}(c:D9)(l:Int)(n:Nat):mR P w K L (gW l n) [c] c (λi h=>IsRangeIter h c (l+(i:Nat)*1) ((n:Int) - (i:Nat)) 1) where
 mem:=by simp
 obj:=λi h a b d=>by
  have e:b=c:=by simpa using d
  subst e;exact qF _ a (λv z=>by
   have J:Data.fields _=Data.cell v:=z;cases J)
 keep:=λi h g a k=>k c ap _ a
 item:=by
  intro X q j r p i G s C H E I f a m;subst q j r;obtain⟨B,A,Q,y,x,u⟩:=i2 (f c ap);have W:=Walks.range (prog:=X.prog) (w:=X.w) (I.ok.hd p) c l 1 n;refine W.item i s _ _ m a λv g D N F M=>?_;obtain⟨t,rfl⟩:=N;have S:Yp X G C H {s with heap:=g,toks:=D}:=I.turned (λb o d e=>M b o (by simpa using d) e) B A y x u;refine qF _ O (Au (s:={s with heap:=g,toks:=D}) (n:="range_iterator") F O O ax (tA (.i<|l+i) H S ⟨t,?_⟩ ⟨O,O⟩ F (λb d=>(f b d).1)));rw[Int.mul_one]
 done:=by
  intro X q j r p i G s C H E I f a m;subst q j r;obtain⟨B,A,Q,y,x,u⟩:=f c ap;exact wpAny_pyNext_range_end (I.ok.hd p) a (by have:n<=i:=m;lia) λg R=>⟨O,I.turned (t':=s.toks) (λb o d e=>R b o d e) B A y x u⟩
 self:=λY Y Y Y Y a h=>wpAny_pyIter_rangeiter a h
section
variable{X:Cx}{c:Expr}
def Av(K:Frag)(t:TE):TI:=λc H R=>t c H λx b=>∃a,x=.r a/\(∃s,ak K b a s)/\R (cX K a) b
def asH(K:Frag)(t:TE):TI:=λc H R=>t c H λx b=>∃a,x=.r a/\(∃s,aM K b a s)/\R (Uh K a) b
theorem auO(k:PE X l t):PI X c l (Av X.K t):=by
 intro B s g H R I h;refine aL (k B s g H _ I h) λv d h=>?_;obtain⟨x,n,f,r,i⟩:=h;obtain⟨a,e,⟨u,j⟩,q⟩:=i;subst e;cases r;obtain⟨D,w,p,z⟩:=f.list j;refine W1 p.isList ?_;refine tX d.heap.objs.size [d.heap.objs.size] _ _ n O (f.kept (t':=d.toks) λb o e=>KB _ e) (auA a _) (qT _ (M2 _ O) O O) (λb m=>?_) q;have e:b=d.heap.objs.size:=by simpa using m
 subst e;exact f.uG (mZ _)<|f.aB.fresh<|mZ _
theorem anT{a:St}{E:bi}(I:Yp X B a H s)(m: -(2 ^ 62)<=l)(j:l<2 ^ 62)(i: -(2 ^ 62)<=h)(g:h<2 ^ 62)(q:R (gW l (h - l).toNat) H):wpAny (model X.prog X.w) X.A (pyIter<|.ref s.heap.objs.size) (F6 X B a c R) E {s with heap:=s.heap.push {cls:=.type "range",data:=.fields #[.int l t,.int h u,.int 1 v]},toks:=k}:=by
 refine wpAny_pyIter_range (IsRange.new ..) (small_one m j i g) ?_;have d:Yp X B a H {s with heap:=s.heap.push {cls:=.type "range",data:=.fields #[.int l t,.int h u,.int 1 v]},toks:=k}:=I.kept λb o e=>KB _ e;refine tX ((s.heap.push {cls:=.type "range",data:=.fields #[.int l t,.int h u,.int 1 v]}).objs.size) [(s.heap.push {cls:=.type "range",data:=.fields #[.int l t,.int h u,.int 1 v]}).objs.size] _ _ H O (d.kept (t':=k) λb o e=>KB _ e) (Uj _ l (h - l).toNat) ?_ (λb f=>?_) q
 have p:l+((0:Nat):Int)*1=l:=by simp
 have n:(((h - l).toNat:Nat):Int) - ((0:Nat):Int)=Builtin.Range.rangeSize l h 1:=by rw[rangeSize_one];split<;>omega
 show IsRangeIter _ _ (l+((0:Nat):Int)*1) ((((h - l).toNat:Nat):Int) - ((0:Nat):Int)) 1;rw[p,n];exact M2 _ O;have e:b=(s.heap.push {cls:=.type "range",data:=.fields #[.int l t,.int h u,.int 1 v]}).objs.size:=by simpa using f
 subst e;exact d.uG (mZ _)<|d.aB.fresh<|mZ _
def F7(t:TA):TI:=λa H R=>t a H λv b=>∃j:Int,v=[.i j]/\ -(2 ^ 62)<=j/\j<2 ^ 62/\R (gW 0 j.toNat) b
def auL(t:TA):TI:=λa H R=>t a H λv b=>∃i j:Int,v=[.i i,.i j]/\(-(2 ^ 62)<=i/\i<2 ^ 62/\ -(2 ^ 62)<=j/\j<2 ^ 62)/\R (gW i (j - i).toNat) b
theorem alL(u:Gl X "range")(o:X.g "range"=none)(v:PA X [a] f)(n:autoParam (starEach [a] X.env=[(false,eval a X.env)]) cl):PI X c (.Call (.Name "range" p) [a] [] b) (F7 f):=by
 intro B s i H R I h;refine Call_<|pV I u o boot_range<|Tm (aL (v b B s i H _ I h) λy z h=>?_) n O;obtain⟨x,A,w,l,d⟩:=h;obtain⟨j,e,d,m,q⟩:=d;subst e;cases l with
 |cons r k=>
  cases k;obtain⟨t,rfl⟩:=r;exact call_range_1<|anT w al al d m (by simpa using q)
def xh(w:TI)(g:TG)(t:TS):TS:=λD a H=>w a H λJ h=>∃W:Nat->Nat->St->Hp->Prop,(∃m,W 0 m a h)/\∀i m a H,W i m a H->
 (J.stop i H/\D.nx a H)\/(J.go i H/\∃N:St->Hp->Prop,(∀L b,N L b->∃e,e<m/\W (i+1) e L b)/\∀x b,J.dH i H x b->g x a b λd f=>t {D with nx:=N,c:=N,bk:=D.nx} d f)
def sq(f:pp)(h:FS):bn:=f.filterMap λb=>(h.get? b).map λo=>(b,o)
theorem xi(a:b∈f)(e:h.get? b=some o):(b,o)∈sq f h:=Uw.mpr ⟨b,a,by rw[e];rfl⟩
theorem apG(a:p∈sq f h):p.1∈f/\h.get? p.1=some p.2:=by
 obtain⟨b,c,e⟩:=Uw.mp a;cases q:h.get? b with
 |none=>rw[q] at e;cases e
 |some o=>
  rw[q] at e;have d:(b,o)=p:=Uq e;subst d;exact⟨c,q⟩
theorem Yp.pinned{a:St}{f:pp}(I:Yp X B a H s)(j:∀b∈f,jK X B H b)(i:∀b∈f,∃o,s.heap.get? b=some o/\∀v,o.data≠ .cell v):Yp X (B++sq f s.heap) a H s:=
 I.si λp g=>(U6.mp g).elim (λz=>I.pin p<|oQ _ z) λz=>by
  obtain⟨h,e⟩:=apG z;obtain⟨m,l,k,Y⟩:=l5 (j p.1 h);obtain⟨o,c,d⟩:=i p.1 h;rw[e] at c;cases c;exact⟨e,m,l,k,d⟩
theorem Yp.Aw{a:St}(I:Yp X (B++l) a H s):Yp X B a H s:=I.si λp h=>I.pin p (oQ _<|Zn _ h)
theorem F8{V:Pos}(M:PassesOwn (model X.prog X.w) X.A X.env X.a)(hc:X.calm=true)(hi:PI X c l wi)(hg:PG X c g)(p:fM X C tb)(hs:autoParam (∀x,foldedSetIterable l X.env x=pure x) cu):PS X (.For c l C [] V) (xh wi g tb):=by
 intro E s σ H D I h;refine wpAny_For (aL (hi E s σ H _ I h) λv s1 h1=>aL h1 λpY s2 h2=>?_) hs;obtain⟨it,P,tn,J,H2,e,I2,T,uH,f2,W,⟨m0,w0⟩,F⟩:=h2;subst e;have Z:∀{z:Hp},(∀b∈P,z b=none)->∀b∈P,jK X E z b:=λhn b p=>⟨hn b p,(f2 b p).2⟩;refine codeAny_forLoop_any (λn s'=>∃i Q z,Yp X E Q z s'/\tn i s'.heap/\(∀b∈P,z b=none)/\W i n Q z) ?_ m0 (qY 0 ⟨σ,H2,I2,uH,λb p=>(f2 b p).1,w0⟩);rintro n s3 zq;obtain⟨i,k,R,zq⟩:=U1 zq;obtain⟨I3,F9,F_,w3⟩:=l5 zq;rcases F i n k R w3 with⟨G,qn⟩|⟨go,N,hN,K⟩
 refine Rs M (aL (T.done X O O O hc i E s3 k R X.a I3 (Z F_) F9 G) λr s4 h=>?_);obtain⟨hr,I4⟩:=h;subst hr;exact wpAny_execs_nil (rP k R I4 qn);refine Rs M (aL (T.item X O O O hc i E s3 k R X.a I3 (Z F_) F9 go) λr s4 h=>?_);obtain⟨u,hr,h4⟩:=h;subst hr;refine Rs M<|aL h4 λ_ s5 h=>?_;obtain⟨x,H5,I5,r5,y5,Y,Ax⟩:=h;have Ay:=I5.pinned (Z Ax) (T.obj _ _ Y);refine Rs M<|aL (hg _ s5 k H5 x u _ Ay r5<|K x H5 y5) λ_ s6 h=>?_;obtain⟨S,H6,I6,q6⟩:=h;refine Rs M<|aL (p _ s6 S H6 _ I6 q6) λf U B=>?_;have q:∀{j:St}{y:Hp},Yp X (E++sq P s5.heap) j y U->N j y->∃m,m<n/\∃i Q z,Yp X E Q z U/\tn i U.heap/\(∀b∈P,z b=none)/\W i m Q z:=λ{j y} t L=>by
  obtain⟨m',hm,w7⟩:=hN j y L;refine qF m' hm ⟨i+1,j,y,t.Aw,T.keep _ _ _ Y λb p o e=>(t.pin (b,o)<|oQ _<|oQ _<|xi p e).1,λb p=>?_,w7⟩;obtain⟨o,e,d⟩:=T.obj _ _ Y b p;exact(t.pin (b,o)<|oQ _<|oQ _<|xi p e).2.1
 cases f with
 |next=>obtain⟨j,y,t,L⟩:=B;exact q t L
 |cont=>obtain⟨j,y,t,L⟩:=B;exact q t L
 |brk=>obtain⟨j,y,t,B⟩:=B;exact rP j y t.Aw B
 |ret v=>obtain⟨x7,j,y,zq⟩:=U1 B;obtain⟨t,r7,B⟩:=Vk zq;exact qY x7 ⟨j,y,t.Aw,r7,B⟩
end
theorem ic{K:Frag}{g:TG}{t:TS}{D:Xt}(P:Nat->St->Hp->Prop)(r:P 0 b H)(l:∀i b H,i<=xs.length->P i b H->ak K H a xs)(s:∀i x b H,xs[i]?=some x->P i b H->g x b H λd h=>t {D with nx:=P (i+1),c:=P (i+1),bk:=D.nx} d h)(o:∀b H,P xs.length b H->D.nx b H):
  ∃W:Nat->Nat->St->Hp->Prop,(∃m,W 0 m b H)/\∀i m b H,W i m b H->
   ((cX K a).stop i H/\D.nx b H)\/((cX K a).go i H/\∃N:St->Hp->Prop,(∀L f,N L f->∃j,j<m/\W (i+1) j L f)/\∀x f,(cX K a).dH i H x f->g x b f λd h=>t {D with nx:=N,c:=N,bk:=D.nx} d h):=by
 refine qF (λi m b H=>m=xs.length - i/\i<=xs.length/\P i b H) (qT xs.length ap (Wy _) r) ?_;rintro i m b H ⟨rfl,n,p⟩;have q:=l i b H n p;by_cases F:i<xs.length;refine .inr (tR (rP xs (xs[i]) q (by simp[F])) (P<|i+1) (λL f k=>tG (xs.length - (i+1)) (by omega) O F k) (λx f y=>?_));obtain⟨e,y⟩:=y;subst e;exact s i x b _ (y xs q) p;have e:i=xs.length:=by omega
 subst e;exact .inl ⟨qF xs q (mZ _),o b H p⟩
theorem Ga{lo:Int}{g:TG}{t:TS}{D:Xt}(P:Nat->St->Hp->Prop)(l:P 0 a H)(s:∀i a H,i<n->P i a H->g (.i<|lo+i) a H λb f=>t {D with nx:=P (i+1),c:=P (i+1),bk:=D.nx} b f)(k:∀a H,P n a H->D.nx a H):
  ∃W:Nat->Nat->St->Hp->Prop,(∃m,W 0 m a H)/\∀i m a H,W i m a H->
   ((gW lo n).stop i H/\D.nx a H)\/((gW lo n).go i H/\∃N:St->Hp->Prop,(∀L d,N L d->∃h,h<m/\W (i+1) h L d)/\∀x d,(gW lo n).dH i H x d->g x a d λb f=>t {D with nx:=N,c:=N,bk:=D.nx} b f):=by
 refine qF (λi m a H=>m=n - i/\i<=n/\P i a H) (qT n ap (Wy _) l) ?_;rintro i m a H ⟨rfl,o,p⟩;by_cases F:i<n;refine .inr (tR F (P<|i+1) (λL d j=>tG (n - (i+1)) al O F j) (λx d y=>?_));obtain⟨e,y⟩:=y;subst e y;exact s i a _ F p;have e:i=n:=cV o (ZK F)
 subst e;exact .inl ⟨mZ _,k a H p⟩
abbrev R2:=V->V->Hp->VK->Prop
def ba(X:Cx)(f:EQ->EQ->Sem EQ)(r:R2):Prop:=
 ∀(B:bn)(s:Ev)(b:St)(H:Hp)(x y:V)(v u:EQ)(Q:VK),Yp X B b H s->Tf x v->Tf y u->r x y H Q->
  wpAny (model X.prog X.w) X.A (f v u) (EP X B b Q) X.a s
def xj(X:Cx)(f:EQ->Sem EQ)(r:V->Hp->VK->Prop):Prop:=
 ∀(B:bn)(s:Ev)(b:St)(H:Hp)(x:V)(v:EQ)(Q:VK),Yp X B b H s->Tf x v->r x H Q->
  wpAny (model X.prog X.w) X.A (f v) (EP X B b Q) X.a s
def cE(X:Cx)(f:EQ)(r:ad->Hp->VK->Prop):Prop:=
 ∀(B:bn)(s:Ev)(b:St)(H:Hp)(x:ad)(u:ca)(Q:VK),Yp X B b H s->Cj x u->r x H Q->
  wpAny (model X.prog X.w) X.A (call f u) (EP X B b Q) X.a s
def Us(X:Cx)(r:V->Hp->(tz)->Prop):Prop:=
 ∀(B:bn)(s:Ev)(b:St)(H:Hp)(x:V)(v:EQ)(Q:tz),Yp X B b H s->Tf x v->r x H Q->
  wpAny (model X.prog X.w) X.A (truthy v) (TP X B b Q) X.a s
def fN(r:R2)(b t:TE):TE:=λa H Q=>b a H λx d=>t a d λy c=>r x y c Q
def Gb(r:V->Hp->VK->Prop)(t:TE):TE:=λa H Q=>t a H λx b=>r x b Q
def rI(C:Int->Int->Prop)(g:Int->Int->V):R2:=λx y H Q=>∃i j,x=.i i/\y=.i j/\C i j/\Q (g i j) H
def mq(g:Int->Int->V):R2:=λx y H Q=>∃i j,x=.i i/\y=.i j/\Q (g i j) H
def rU(g:Int->V):V->Hp->VK->Prop:=λx H Q=>∃i,x=.i i/\Q (g i) H
section
variable{X:Cx}{a b c:Expr}{d e tc:TE}{k:Pos}
theorem Az(p:PE X a d)(o:PE X b e){c:St}{R:V->V->Hp->Prop}(I:Yp X B c H s)(h:d c H λx j=>e c j λy g=>R x y g){Q:bi}{f:EQ->EQ->Sem EQ}(n:∀v u i x y g,Yp X B c g i->Tf x v->Tf y u->R x y g->wpAny (model X.prog X.w) X.A (f v u) Q X.a i):
  wpAny (model X.prog X.w) X.A (eval a X.env) (λv K=>wpAny (model X.prog X.w) X.A (eval b X.env) (λu J=>wpAny (model X.prog X.w) X.A (f v u) Q X.a J) X.a K) X.a s:=by
 refine aL (p B s c H _ I h) λv k h=>?_;obtain⟨x,j,z,l,m⟩:=h;refine aL (o B k c j _ z m) λu i h=>?_;obtain⟨y,g,t,r,q⟩:=h;exact n v u i x y g t l r q
theorem abG(j:ba X (binaryOp o) r)(m:PE X a d)(l:PE X b e):PE X (.BinOp a o b k) (fN r d e):=by
 intro B s c H Q I h;exact wpAny_BinOp<|Az m l I h λv u f x y p n i g q=>j B f c p x y v u Q n i g q
theorem avP(f:xj X (unaryOp o) r)(g:PE X a d):PE X (.UnaryOp o a k) (Gb r d):=by
 intro B s b H Q I h;exact UnaryOp_<|aL (g B s b H _ I h) (by rintro v c ⟨x,j,i,e,q⟩;exact f B c b j x v Q i e q)
theorem xk{g:Int->Int->Int}(r:∀(i j:Int)(t u:Tok)(s:Ev)(Q:bi)(E:bi),C i j->Q (.int (g i j) s.toks) {s with toks:=s.toks+1}->wpAny (model X.prog X.w) X.A (f (.int i t)<|.int j u) Q E s):
  ba X f (rI C λi j=>.i (g i j)):=by
 intro B s e H x y v u Q I c b h;obtain⟨i,j,rfl,rfl,d,q⟩:=h;obtain⟨t,rfl⟩:=c;obtain⟨a,rfl⟩:=b;exact r i j t a s _ _ d ⟨.i<|g i j,H,I.tok _,⟨_,O⟩,q⟩
theorem Gd{g:Int->Int->Int}(r:∀(i j:Int)(t u:Tok)(s:Ev)(Q:bi)(E:bi),Q (.int (g i j) s.toks) {s with toks:=s.toks+1}->wpAny (model X.prog X.w) X.A (f (.int i t)<|.int j u) Q E s):
  ba X f (mq λi j=>.i (g i j)):=by
 intro B s d H x y v u Q I c b h;obtain⟨i,j,rfl,rfl,q⟩:=h;obtain⟨t,rfl⟩:=c;obtain⟨a,rfl⟩:=b;exact r i j t a s _ _ ⟨.i<|g i j,H,I.tok _,⟨_,O⟩,q⟩
theorem xl{g:Int->Int->Fk}(r:∀(i j:Int)(t u:Tok)(s:Ev)(Q:bi)(E:bi),Q (.bool<|g i j) s->wpAny (model X.prog X.w) X.A (f (.int i t)<|.int j u) Q E s):
  ba X f (mq λi j=>.b (g i j)):=by
 intro B s e H x y v u Q I d c h;obtain⟨i,j,rfl,rfl,q⟩:=h;obtain⟨t,rfl⟩:=d;obtain⟨a,rfl⟩:=c;exact r i j t a s _ _ ⟨.b<|g i j,H,I,O,q⟩
def AA(i j:Int):Prop:=0<j/\j<1073741824
def Ge(i j:Int):Prop:=0<=j/\j<=1000000/\i.natAbs<2 ^ 64
def xn(i j:Int):Prop:=(-(2 ^ 64) <i/\i<2 ^ 64)\/(-(2 ^ 64) <j/\j<2 ^ 64)
theorem xn.ok(h:xn i j):IntMulOk i j:=by
 rcases h with⟨b,a⟩|⟨b,a⟩
 exact .of_left (intBits_le_64 b a);exact .of_right (intBits_le_64 b a)
theorem aoC:ba X (binaryOp .Add) (mq λi j=>.i (i+j)):=Gd λY Y Y Y Y Y Y q=>add_int q
theorem auI:ba X (binaryOp .Sub) (mq λi j=>.i (i - j)):=Gd λY Y Y Y Y Y Y q=>sub_int q
theorem arO:ba X (binaryOp .Mult) (rI xn λi j=>.i (i*j)):=xk λY Y Y Y Y Y Y h q=>mul_int q h.ok
theorem atP:ba X (binaryOp .FloorDiv) (rI AA λi j=>.i (i / j)):=xk λi j Y Y Y Y Y h q=>by
 have b:(0:Int) <j:=h.1;have a:j<1073741824:=h.2;exact floordiv_int (by omega) (by rw[Int.fdiv_eq_ediv_of_nonneg i (by omega)];exact q)<|.inl<|PyProof.noPylong_small (by omega)
theorem apV:ba X (binaryOp .Mod) (rI (λY j=>0<j) λi j=>.i (i % j)):=xk λi j Y Y Y Y Y h q=>by
 have a:(0:Int) <j:=h;exact mod_int' (by omega) (by rw[Int.fmod_eq_emod_of_nonneg i (by omega)];exact q)
theorem aeR:ba X (binaryOp .Pow) (rI Ge λi j=>.i (i ^ j.toNat)):=xk λY Y Y Y Y Y Y h q=>pow_int_small h.1 h.2.1 h.2.2 q
theorem UB{g:Int->Int}(r:∀(i:Int)(t:Tok)(s:Ev)(Q:bi)(E:bi),Q (.int (g i) s.toks) {s with toks:=s.toks+1}->wpAny (model X.prog X.w) X.A (f<|.int i t) Q E s):
  xj X f (rU λi=>.i (g i)):=by
 intro B s b H x v Q I a h;obtain⟨i,rfl,q⟩:=h;obtain⟨t,rfl⟩:=a;exact r i t s _ _ ⟨.i<|g i,H,I.tok _,⟨_,O⟩,q⟩
theorem auT:xj X (unaryOp .USub) (rU λi=>.i (-i)):=UB λY Y Y Y Y q=>neg_int q
end
noncomputable def lJ:V->V->Fk
 |.a,.a=>true|.a,.i _=>true|.i _,.a=>true|.a,.b _=>true|.b _,.a=>true|.a,.s _=>true|.s _,.a=>true
 |.i _,.i _=>true|.b _,.b _=>true|.s _,.s _=>true|.g _,.g _=>true
 |.i _,.s _=>true|.s _,.i _=>true|.b _,.s _=>true|.s _,.b _=>true
 |_,_=>false
def aoB:R2:=λx y H Q=>lJ x y=true/\Q (.b<|decide<|x=y) H
def asP:R2:=λx y H Q=>lJ x y=true/\Q (.b<|!decide (x=y)) H
theorem Gf:decide (V.i i=V.i j)=(i==j):=by
 rw[jQ];simp
theorem Gg:decide (V.b i=V.b j)=(i==j):=by
 rw[jQ];simp
theorem ie:decide (V.s i=V.s j)=(i==j):=by
 rw[jQ];simp
theorem Gh:decide (V.g i=V.g j)=(i.toList==j.toList):=by
 rw[jQ];cases i;cases j;simp
section
variable{X:Cx}{a b c:Expr}{g l o:TE}{w:Pos}
theorem bY{a:St}{c:Fk}(I:Yp X B a H s)(q:Q (.b k) H)(e:k=c):EP X B a Q (.bool c) s:=by
 subst e;exact⟨.b k,H,I,O,q⟩
theorem avU:ba X (compareOp .Eq) aoB:=by
 intro B s f H x y v u Q I e r h;obtain⟨d,q⟩:=h;cases x with
 |a=>
  cases e;cases y with
  |a=>cases r;exact PySem.EqNone.eq_none_none (bY I q ap)
  |b j=>cases r;exact PySem.EqNone.eq_none_bool (bY I q ap)
  |i j=>obtain⟨c,rfl⟩:=r;exact PySem.EqNone.eq_none_int (bY I q ap)
  |s j=>obtain⟨c,rfl⟩:=r;exact PySem.EqNone.eq_none_str (bY I q ap)
  |_=>exact absurd (show false=true from d) U_
 |b i=>
  cases e;cases y with
  |a=>cases r;exact PySem.EqNone.eq_bool_none (bY I q ap)
  |b j=>cases r;exact eq_bool (bY I q Gg)
  |s j=>obtain⟨c,rfl⟩:=r;exact PySem.EqMixed.eq_bool_str (bY I q ap)
  |_=>exact absurd (show false=true from d) U_
 |i i=>
  obtain⟨t,rfl⟩:=e;cases y with
  |a=>cases r;exact PySem.EqNone.eq_int_none (bY I q ap)
  |i j=>obtain⟨c,rfl⟩:=r;exact eq_int (bY I q Gf)
  |s j=>obtain⟨c,rfl⟩:=r;exact PySem.EqMixed.eq_int_str (bY I q ap)
  |_=>exact absurd (show false=true from d) U_
 |s i=>
  obtain⟨t,rfl⟩:=e;cases y with
  |a=>cases r;exact PySem.EqNone.eq_str_none (bY I q ap)
  |b j=>cases r;exact PySem.EqMixed.eq_str_bool (bY I q ap)
  |i j=>obtain⟨c,rfl⟩:=r;exact PySem.EqMixed.eq_str_int (bY I q ap)
  |s j=>obtain⟨c,rfl⟩:=r;exact eq_str (bY I q ie)
  |_=>exact absurd (show false=true from d) U_
 |g i=>
  obtain⟨t,rfl⟩:=e;cases y with
  |g j=>obtain⟨c,rfl⟩:=r;exact PySem.W.eq_bytes (bY I q Gh)
  |_=>exact absurd (show false=true from d) U_
 |_=>cases y<;>exact absurd (show false=true from d) U_
theorem atN:ba X (compareOp .NotEq) asP:=by
 intro B s f H x y v u Q I e r h;obtain⟨d,q⟩:=h;cases x with
 |a=>
  cases e;cases y with
  |a=>cases r;exact PySem.EqNone.ne_none_none (bY I q ap)
  |b j=>cases r;exact PySem.EqNone.ne_none_bool (bY I q ap)
  |i j=>obtain⟨c,rfl⟩:=r;exact PySem.EqNone.ne_none_int (bY I q ap)
  |s j=>obtain⟨c,rfl⟩:=r;exact PySem.EqNone.ne_none_str (bY I q ap)
  |_=>exact absurd (show false=true from d) U_
 |b i=>
  cases e;cases y with
  |a=>cases r;exact PySem.EqNone.ne_bool_none (bY I q ap)
  |b j=>cases r;exact ne_bool (bY I q<|IR not Gg)
  |s j=>obtain⟨c,rfl⟩:=r;exact PySem.EqMixed.ne_bool_str (bY I q ap)
  |_=>exact absurd (show false=true from d) U_
 |i i=>
  obtain⟨t,rfl⟩:=e;cases y with
  |a=>cases r;exact PySem.EqNone.ne_int_none (bY I q ap)
  |i j=>obtain⟨c,rfl⟩:=r;exact ne_int (bY I q<|IR not Gf)
  |s j=>obtain⟨c,rfl⟩:=r;exact PySem.EqMixed.ne_int_str (bY I q ap)
  |_=>exact absurd (show false=true from d) U_
 |s i=>
  obtain⟨t,rfl⟩:=e;cases y with
  |a=>cases r;exact PySem.EqNone.ne_str_none (bY I q ap)
  |b j=>cases r;exact PySem.EqMixed.ne_str_bool (bY I q ap)
  |i j=>obtain⟨c,rfl⟩:=r;exact PySem.EqMixed.ne_str_int (bY I q ap)
  |s j=>obtain⟨c,rfl⟩:=r;exact ne_str (bY I q<|IR not ie)
  |_=>exact absurd (show false=true from d) U_
 |g i=>
  obtain⟨t,rfl⟩:=e;cases y with
  |g j=>obtain⟨c,rfl⟩:=r;exact PySem.W.ne_bytes (bY I q<|IR not Gh)
  |_=>exact absurd (show false=true from d) U_
 |_=>cases y<;>exact absurd (show false=true from d) U_
theorem asF:ba X (compareOp .Lt) (mq λi j=>.b (decide<|i<j)):=xl λY Y Y Y Y Y Y q=>lt_int q
theorem UJ:ba X (compareOp .LtE) (mq λi j=>.b (decide<|i<=j)):=xl λY Y Y Y Y Y Y q=>le_int q
theorem asU:ba X (compareOp .Gt) (mq λi j=>.b (decide<|j<i)):=xl λY Y Y Y Y Y Y q=>gt_int q
theorem UL:ba X (compareOp .GtE) (mq λi j=>.b (decide<|j<=i)):=xl λY Y Y Y Y Y Y q=>ge_int q
theorem avM:ba X (compareOp .In) (λx y H Q=>∃i j,x=.s i/\y=.s j/\Q (.b<|!(Builtin.Str.occurrences j i 0 j.length 1).isEmpty) H):=by
 intro B s c H x y v u Q I a r h;obtain⟨i,j,rfl,rfl,q⟩:=h;obtain⟨t,rfl⟩:=a;obtain⟨d,rfl⟩:=r;exact in_str<|bY I q O
theorem avE:ba X (compareOp .Is) (λx y H Q=>y=.a/\Q (.b<|decide<|x=.a) H):=by
 intro B s d H x y v u Q I r c h;obtain⟨rfl,q⟩:=h;cases c;refine is_none_gen<|bY I q ?_;cases x<;>first
  | (cases r;rfl)
  | (obtain⟨t,rfl⟩:=r;rfl)
theorem UO:ba X (compareOp .IsNot) (λx y H Q=>y=.a/\Q (.b<|!decide (x=.a)) H):=by
 intro B s d H x y v u Q I r c h;obtain⟨rfl,q⟩:=h;cases c;refine isnot_none_gen<|bY I q ?_;cases x<;>first
  | (cases r;rfl)
  | (obtain⟨t,rfl⟩:=r;rfl)
theorem atK:ba X (compareOp .NotIn) (λx y H Q=>∃i j,x=.s i/\y=.s j/\Q (.b<|!(!(Builtin.Str.occurrences j i 0 j.length 1).isEmpty)) H):=by
 intro B s c H x y v u Q I a r h;obtain⟨i,j,rfl,rfl,q⟩:=h;obtain⟨t,rfl⟩:=a;obtain⟨d,rfl⟩:=r;exact notIn_str<|bY I q O
theorem ba.or(h:ba X f r)(e:ba X f d):ba X f (λx y H Q=>r x y H Q\/d x y H Q):=by
 intro B s a H x y v u Q I c b q;rcases q with q|q
 exact h B s a H x y v u Q I c b q;exact e B s a H x y v u Q I c b q
theorem aqB{o:CmpOp}(i:ba X (compareOp o) r)(k:PE X a g)(j:PE X b l)(m:behindInMarks o b=false):PE X (.Compare a [o] [b] w) (fN r g l):=by
 intro B s c H Q I h;exact wpAny_Compare1 (Az k j I h λv u d x y p n f e q=>i B d c p x y v u Q n f e q) m
def nN(t:TE):TT:=λa H Q=>t a H λx c=>∃k,x=.b k/\Q k c
theorem akF{o:CmpOp}(A:ba X (compareOp o) r)(E:PE X a g)(D:PE X b l)(C:behindInMarks o b=false):PT X (.Compare a [o] [b] w) (nN<|fN r g l):=by
 intro B s d H Q I h;refine wpAny_isTrue_Compare1 (aL (E B s d H _ I h) λv i h=>?_) C;obtain⟨x,M,J,n,t⟩:=h;refine aL (D B i d M _ J t) λu f h=>?_;obtain⟨y,L,G,m,p⟩:=h;refine aL (A B f d L x y v u _ G n m p) λc N h=>?_;obtain⟨z,K,F,j,k,e,q⟩:=h;subst e;cases j;exact Pi ⟨K,F,q⟩
def sr(r d:R2)(g l o:TE):TE:=λa H Q=>g a H λx h=>l a h λy f=>r x y f λz c=>∃k,z=.b k/\
 (if k=true then o a c λw e=>d y w e Q else Q (.b false) c)
theorem auF(R:ba X (compareOp p) r)(W:ba X (compareOp m) j)(V:PE X a g)(U:PE X b l)(T:PE X c o)(S:autoParam (lastMarks [p,m] [b,c]=false) dy):PE X (.Compare a [p,m] [b,c] w) (sr r j g l o):=by
 intro B s f H Q I h;refine Compare_chain (aL (V B s f H _ I h) λv G h=>?_) S;obtain⟨x,H1,I1,L,P⟩:=h;refine chain_link (aL (U B G f H1 _ I1 P) λu F h=>?_);obtain⟨y,H2,Z,i,N⟩:=h;refine aL (R B F f H2 x y v u _ Z L i N) λd E h=>?_;obtain⟨z,t,n,K,k,e,q⟩:=h;subst e;cases K;refine Pi ?_;cases k with
 |false=>exact ite_ff ⟨.b false,t,n,O,q⟩
 |true=>exact ite_tt (chain_last<|aL (T B E f t _ n q) (by rintro C D ⟨A,H4,Y,J,M⟩;exact W B D f H4 y A u C Q Y i J M))
theorem UT(U:ba X (compareOp p) r)(gJ:ba X (compareOp m) j)(Z:PE X a g)(Y:PE X b l)(W:PE X c o)(V:autoParam (lastMarks [p,m] [b,c]=false) dy):PT X (.Compare a [p,m] [b,c] w) (nN<|sr r j g l o):=by
 intro B s f H Q I h;refine isTrue_chain (aL (Z B s f H _ I h) λv G h=>?_) V;obtain⟨x,H1,I1,M,S⟩:=h;refine test_link (aL (Y B G f H1 _ I1 S) λu F h=>?_);obtain⟨y,H2,I2,i,R⟩:=h;refine aL (U B F f H2 x y v u _ I2 M i R) λd E h=>?_;obtain⟨z,t,n,L,k,e,q⟩:=h;subst e;cases L;refine Pi ?_;cases k with
 |false=>
  obtain⟨k',e',T⟩:=q;cases e';exact ite_ff ⟨t,n,T⟩
 |true=>
  refine ite_tt<|test_last<|aL (W B E f t _ n q) λC D h=>?_;obtain⟨A,H4,I4,K,P⟩:=h;refine aL (gJ B D f H4 y A u C _ I4 i K P) λd' s5 h=>?_;obtain⟨z2,H5,I5,J,k2,e2,N⟩:=h;subst e2;cases J;exact Pi ⟨H5,I5,N⟩
def Gi(K:Frag)(x:V)(H:Hp)(k:Fk):Prop:=
 match x with
 |.a=>k=false
 |.b b=>k=b
 |.i i=>k=(i !=0)
 |.s y=>y.length<=sizeLine/\k=((y.length:Int) !=0)
 |.g y=>y.size<=sizeLine/\k=((y.size:Int) !=0)
 |.r p=>(∃c,ak K H p c/\k= !c.isEmpty)\/(∃c,aM K H p c/\k= !c.isEmpty)\/∃G,H p=some (.d G)/\k= !G.isEmpty
 |_=>False
theorem avG(r:KV G v):(!v.isEmpty)= !G.isEmpty:=by
 cases r<;>rfl
theorem Gj(r:Cj x D):(!D.toArray.isEmpty)= !x.isEmpty:=by
 cases r<;>simp
theorem p_:(sizeLine:Nat) <2 ^ 63:=by rw[Os];decide
theorem Gk:Us X (λx H Q=>∃k,Gi X.K x H k/\Q k H):=by
 intro F s B H x v Q I j h;obtain⟨k,e,q⟩:=h;have E:=p_;have C:sizeLine=16777216:=Os;cases x with
 |a=>
  cases j;have c:k=false:=e;subst c;exact truthy_none ⟨H,I,q⟩
 |b b=>
  cases j;have c:k=b:=e;subst c;exact Pi ⟨H,I,q⟩
 |i i=>
  obtain⟨t,rfl⟩:=j;have c:k=(i !=0):=e;subst c;exact PySem.P.truthy_int ⟨H,I,q⟩
 |s y=>
  obtain⟨t,rfl⟩:=j;obtain⟨A,c⟩:y.length<=sizeLine/\k=((y.length:Int) !=0):=e;subst c;exact PySem.P.truthy_str al ⟨H,I.tok _,q⟩
 |g y=>
  obtain⟨t,rfl⟩:=j;obtain⟨A,c⟩:y.size<=sizeLine/\k=((y.size:Int) !=0):=e;subst c;exact PySem.W.truthy_bytes al ⟨H,I.tok _,q⟩
 |r p=>
  cases j;have c:(∃f,ak X.K H p f/\k= !f.isEmpty)\/(∃f,aM X.K H p f/\k= !f.isEmpty)\/∃G,H p=some (.d G)/\k= !G.isEmpty:=e;rcases c with⟨f,l,c⟩|⟨f,l,c⟩|⟨G,l,c⟩
  subst c;obtain⟨D,r,u,z⟩:=I.list l;have n:=r.length;exact wpAny_truthy_list u.isList (by simp only[i3];lia) ⟨H,I.tok _,by rw[Gj r];exact q⟩;subst c;obtain⟨D,r,u,z⟩:=I.tuple l;have n:=r.length;exact truthy_tuple u (by simp only[i3];lia) ⟨H,I.tok _,by rw[Gj r];exact q⟩;subst c;obtain⟨z,S,o,r,m⟩:G.length<=sizeLine/\(p==sysModules)=false/\∃o,KV G o/\s.heap.DictOf (dG X.prog X.w) p o:=I.aB p _ l;have n:G.length=o.length:=Id r;exact wpAny_truthy_dict S m al ⟨H,I.tok _,by rw[avG r];exact q⟩
 |_=>exact(show False from e).elim
theorem apK:ba X (binaryOp .Add) (λx y H Q=>∃i j,x=.s i/\y=.s j/\i.length+j.length<=sizeLine/\Q (.s<|i++j) H):=by
 intro B s c H x y v u Q I b r h;obtain⟨i,j,rfl,rfl,z,q⟩:=h;obtain⟨t,rfl⟩:=b;obtain⟨a,rfl⟩:=r;exact add_str (λa k=>⟨.s<|i++j,H,I.tok _,⟨_,O⟩,q⟩) z
theorem Z5(r:Cj [x] s):∃u,s=[u]/\Tf x u:=by
 cases r with
 |cons b a=>cases a;exact⟨_,O,b⟩
theorem zI(r:Cj [x,y] s):∃u w,s=[u,w]/\Tf x u/\Tf y w:=by
 cases r with
 |cons d c=>
  cases c with
  |cons b a=>cases a;exact⟨_,_,O,d,b⟩
theorem apZ(c:X.calm=true):cE X (.builtin "max") (λx H Q=>∃i j,x=[.i i,.i j]/\Q (.i (if j>i then j else i)) H):=by
 intro B s b H x d Q I r h;obtain⟨i,j,rfl,q⟩:=h;obtain⟨u,w,rfl,⟨t,rfl⟩,⟨f,rfl⟩⟩:=zI r;refine max_two_ints (I.ok.hd c) λg e k=>⟨_,H,I.kept k,?_,q⟩;by_cases a:j>i;rw[GT a,GT a];exact⟨_,O⟩;rw[GM a,GM a];exact⟨_,O⟩
theorem UY(c:X.calm=true):cE X (.builtin "min") (λx H Q=>∃i j,x=[.i i,.i j]/\Q (.i (if j<i then j else i)) H):=by
 intro B s b H x d Q I r h;obtain⟨i,j,rfl,q⟩:=h;obtain⟨u,w,rfl,⟨t,rfl⟩,⟨f,rfl⟩⟩:=zI r;refine min_two_ints (I.ok.hd c) λg e k=>⟨_,H,I.kept k,?_,q⟩;by_cases a:j<i;rw[GT a,GT a];exact⟨_,O⟩;rw[GM a,GM a];exact⟨_,O⟩
theorem apW:cE X (.type "int") (λx H Q=>(∃i,x=[.i i]/\Q (.i i) H)\/∃k,x=[.b k]/\Q (.i (if k then 1 else 0)) H):=by
 intro B s c H x d Q I r h;rcases h with⟨i,rfl,q⟩|⟨k,rfl,q⟩
 obtain⟨u,rfl,t,rfl⟩:=Z5 r;exact call_int_int ⟨.i i,H,I,⟨_,O⟩,q⟩;obtain⟨u,rfl,a⟩:=Z5 r;cases a;exact call_int_bool ⟨.i (if k then 1 else 0),H,I.tok _,⟨_,O⟩,q⟩
def Gm(K:Frag)(x:V)(H:Hp)(n:Nat):Prop:=
 match x with
 |.s y=>y.length<=sizeLine/\n=y.length
 |.g y=>y.size<=sizeLine/\n=y.size
 |.r p=>(∃a,ak K H p a/\n=a.length)\/∃a,aM K H p a/\n=a.length
 |_=>False
theorem atX:cE X (.builtin "len") (λa H Q=>∃x n,a=[x]/\Gm X.K x H n/\Q (.i n) H):=by
 intro B s m H a o Q I r h;obtain⟨x,n,rfl,e,q⟩:=h;obtain⟨u,rfl,d⟩:=Z5 r;have w:=p_;have v:sizeLine=16777216:=Os;cases x with
 |s y=>
  obtain⟨t,rfl⟩:=d;obtain⟨k,c⟩:y.length<=sizeLine/\n=y.length:=e;subst c;exact len_str al ⟨.i _,H,I.tok _,⟨_,O⟩,q⟩
 |g y=>
  obtain⟨t,rfl⟩:=d;obtain⟨k,c⟩:y.size<=sizeLine/\n=y.size:=e;subst c;exact PySem.W.len_bytes al ⟨.i _,H,I.tok _,⟨_,O⟩,q⟩
 |r p=>
  cases d;have c:(∃a,ak X.K H p a/\n=a.length)\/∃a,aM X.K H p a/\n=a.length:=e;rcases c with⟨a,j,c⟩|⟨a,j,c⟩
  subst c;obtain⟨D,f,l,z⟩:=I.list j;have b:=f.length;exact Calls.call_len_list l.isList (by simp only[i3];lia) ⟨.i a.length,H,I.tok _,⟨_,by simp only[i3];rw[b]⟩,q⟩;subst c;obtain⟨D,f,l,z⟩:=I.tuple j;have b:=f.length;exact len_tuple l (by simp only[i3];lia) ⟨.i a.length,H,I.tok _,⟨_,by simp only[i3];rw[b]⟩,q⟩
 |_=>exact(show False from e).elim
end
structure qd(h:FS)(x dx C:D9)(mA:ce):Prop where
 obj:h.get? x=some (instObj C dx)
 ns:h.Ns1 dx mA
 ne:dx≠x
theorem amP{h:FS}{x:D9}{m:ce}(n:h.Ns1 x m):∃d,h.get? x=some d/\∀b,lookIn b d=some (m b):=by
 obtain⟨o,s,p,zq⟩:=U1 n;obtain⟨f,i,k,Y,g⟩:=V_ zq;refine⟨o,f,λb=>?_⟩;have e:=g b;unfold nsFind findBy at e;rw[<-Array.find?_toList] at e;unfold lookIn;rw[i];dsimp only;split;rename_i y q;rw[q] at e;exact IR some e;rename_i q;rw[q] at e;have a:s.toList.any (·.refKey)=false:=by
  rw[List.any_eq_false];intro y c;obtain⟨z,t,U⟩:=k y (Array.mem_toList_iff.mp c);simp[DictEntry.refKey,U]
 have j:¬s.toList.any (·.refKey)=true:=by rw[a];exact U_
 rw[GM j];exact IR some e
theorem qd.look(I:qd h x d C m):∃o,PySem.W.InstAt h x (instObj C d) C (some o)/\∀n,lookIn n o=some (m n):=
 let ⟨o,a,l⟩:=amP I.ns
 ⟨o,⟨I.obj,O,O,a⟩,l⟩
section
variable{j:Fa}{w:FM}{A:Gc}{E:bi}{s:Ev}{K:Frag}{x e C f:D9}{i:ce}{c:Str}{v:EQ}
theorem anK{r:Fk}{Q:bi}(X:K.In s.heap)(I:qd s.heap x e C i)(g:plainGet K C c=true)(b:hasDictIn K C=true)(d:PySem.W.findIn K (.ref C) c=some none)(a:i c=some v)(U:handedIn v=true)(h:Q v {s with toks:=s.toks+1}):
  wpAny (model j w) A (getAttr (.ref x) c r) Q E s:=by
 obtain⟨o,J,l⟩:=I.look;exact PySem.W.get_value X J (plainGet_of g).1 (PySem.W.findObj_own b d O (by rw[l,a])) U h
theorem atF{p:Sem Fk}{Q:EQ×ca->Ev->Prop}(X:K.In s.heap)(I:qd s.heap x e C i)(g:plainGet K C c=true)(a:PySem.W.findIn K (.ref C) c=some (some<|.ref f))(t:PySem.W.isFn K (.ref f)=true)(v:i c=none)(h:Q (.ref f,[.ref x]) s):
  wpAny (model j w) A (getMethod (.ref x) c p) Q E s:=by
 obtain⟨o,J,l⟩:=I.look;exact PySem.W.method_fn X J (plainGet_of g).1 (plainGet_of g).2 a (beq_iff_eq.mp t) (by show(lookIn c o).map (·.isSome)=some false;rw[l,v];rfl) h
theorem agP{n:ac}{Q:zn}(X:K.In s.heap)(I:qd s.heap x e C i)(k:PySem.W.findIn K (.ref C) "__setattr__"=some (some<|.builtin "object.__setattr__"))(p:plainOver K C=true)(t:takerIn K C c=some none)(l:hasDictIn K C=true)(g:PySem.Within i n)(z:n.length<=sizeLine)(h:∀d,qd d x e C (λy=>if y=c then some v else i y)->Heap.SameBut e s.heap d->Q () {s with heap:=d,toks:=s.toks+2}):
  wpAny (model j w) A (setAttr (.ref x) c v) Q E s:=by
 obtain⟨G,J,L⟩:=I.look;refine PySem.W.set_plain X J k<|PySem.W.osa_open (s:={s with toks:=s.toks+1}) (r:=none) X J p t λb=>?_;obtain⟨M,o,F⟩:=PySem.W.any_some l;have f:s.heap.get? x=some ⟨.ref C,some e,.plain,#[]⟩:=I.obj;refine HD<|IN<|HD<|HD<|wpAny_loadPart f<|HD<|PySem.W.Looks.here (s:={s with toks:=s.toks+1}) (PySem.W.looks_clsIn X o) ?_;rw[F];refine IN (a:=some e)<|HD<|IN<|HD ?_;refine wpAny_nsSet1 (s:={s with toks:=s.toks+1}) I.ns λd P m=>?_;obtain⟨H,D,q,zq⟩:=U1 (P.count (PySem.Within.cons c v g));obtain⟨B,u,U⟩:=Vk zq;refine HD<|wpAny_lookBehind B (by rw[u];exact pastItsLine_dict (Ut U (by rw[Xm];exact Ue z _))) ?_;exact IN<|h _ ⟨(m.2 _<|KK I.ne).trans I.obj,P,I.ne⟩ m
theorem alM{R:Result->Ev->Prop}{v:ca}{k:AT}(X:K.In s.heap)(m:makesIn K C=true)(i:PySem.W.findIn K (.ref C) "__init__"=some (some<|.ref f))(b:PySem.W.typeIn K (.ref f)=some (.type "function"))(h:codeAny (model j w) (A.under (.builtin "type.__call__" ⟨.ref C::v,k⟩)) (.call (.ref f) ⟨.ref (s.heap.objs.size+1)::v,k⟩) (PySem.W.InitBack (s.heap.objs.size+1) R)
   {s with heap:=(s.heap.push emptyDict).push (instObj C s.heap.objs.size)}):
  codeAny (model j w) A (.call (.ref C) ⟨v,k⟩) R s:=by
 obtain⟨c,g,d,t,o⟩:=s;exact PySem.W.make_core (PySem.W.makes_of X m) (PySem.W.looks_findIn X i) (λa=>PySem.W.bind_fn X a b) (.inl O) h
end
noncomputable def bC(f:Str)(v:V):n6->n6
 |[]=>[(f,v)]
 |(g,x)::r=>if g=f then (g,v)::r else (g,x)::bC f v r
theorem Gn(f g:Str)(v:V):∀s:n6,(bC f v s).lookup g=if g=f then some v else s.lookup g:=by
 intro s;induction s with
 |nil=>
  show List.lookup g [(f,v)]=_;by_cases h:g=f;have b:(g==f)=true:=beq_iff_eq.mpr h;simp only[List.lookup,b,GT h];have b:(g==f)=false:=beq_eq_false_iff_ne.mpr h;simp only[List.lookup,b,GM h]
 |cons y r i=>
  obtain⟨k,x⟩:=y;rw[show bC f v ((k,x)::r)=(if k=f then (k,v)::r else (k,x)::bC f v r) from O];by_cases a:k=f;rw[GT a];by_cases h:g=k;have b:(g==k)=true:=beq_iff_eq.mpr h;simp only[List.lookup,b,GT<|h.trans a];have b:(g==k)=false:=beq_eq_false_iff_ne.mpr h;simp only[List.lookup,b,GM (λe:g=f=>h (e.trans a.symm))];rw[GM a];by_cases h:g=k;have b:(g==k)=true:=beq_iff_eq.mpr h;simp only[List.lookup,b,GM (λe:g=f=>a (h.symm.trans e))];have b:(g==k)=false:=beq_eq_false_iff_ne.mpr h;simp only[List.lookup,b];exact i
theorem AB(f:Str)(v:V):∀s:n6,f∈ (bC f v s).map (·.1)/\∀g,g∈s.map (·.1)->g∈ (bC f v s).map (·.1):=by
 intro s;induction s with
 |nil=>exact⟨by simp[bC],λg h=>by simp at h⟩
 |cons y r i=>
  obtain⟨k,x⟩:=y;obtain⟨b,i⟩:=i;rw[show bC f v ((k,x)::r)=(if k=f then (k,v)::r else (k,x)::bC f v r) from O];by_cases a:k=f;rw[GT a];subst a;exact⟨ap,λg h=>by simpa using h⟩;rw[GM a];refine⟨?_,λg h=>?_⟩;rw[TB];exact N4 _ b;rw[TB] at h⊢;rcases UA.mp h with e|e
  exact UA.mpr (.inl e);exact N4 _ (i g e)
theorem Gp(f:Str)(v:V):∀s:n6,(bC f v s).length<=s.length+1:=by
 intro s;induction s with
 |nil=>simp[bC]
 |cons y r i=>
  obtain⟨k,x⟩:=y;rw[show bC f v ((k,x)::r)=(if k=f then (k,v)::r else (k,x)::bC f v r) from O];by_cases h:k=f;rw[GT h,Xm,Xm];exact Yn _;rw[GM h,Xm,Xm];exact Ue i _
theorem gT.some_of(r:gT (some v) o):∃u,o=some u/\Tf v u:=by
 cases o with
 |none=>exact(show False from r).elim
 |some u=>exact⟨u,O,r⟩
theorem gT.none_of(r:gT none o):o=none:=by
 cases o with
 |none=>rfl
 |some u=>exact(show False from r).elim
theorem Va(r:Tf v u):handedIn u=true:=by
 cases v with
 |a=>cases (show u=Value.none from r);rfl
 |b b=>cases (show u=Value.bool b from r);rfl
 |i i=>obtain⟨t,e⟩:=(show ∃t,u=Value.int i t from r);cases e;rfl
 |s x=>obtain⟨t,e⟩:=(show ∃t,u=Value.str x t from r);cases e;rfl
 |g b=>obtain⟨t,e⟩:=(show ∃t,u=Value.bytes b t from r);cases e;rfl
 |lF b=>obtain⟨t,e⟩:=(show ∃t,u=Value.float b t from r);cases e;rfl
 |r a=>cases (show u=Value.ref a from r);rfl
 |t n=>cases (show u=Value.type n from r);rfl
section
variable{P:Fa}{w:FM}{H H':Hp}{h h':FS}{a C c:D9}{b Th:n6}
theorem xo(B:cb P w H h)(e:H a=some (.i C c b)):∃m,qd h a c C m/\(∀f,gT (b.lookup f)<|m f)/\PySem.Within m (b.map (·.1))/\b.length<=1000/\H c=some (.o a):=by
 obtain⟨d,z,j,g,m,n,r,q⟩:=(show cJ P w H h a (.i C c b) from B a _ e);exact⟨m,⟨g,n,j⟩,r,q,z,d⟩
end
structure fP(K:Frag)(C:D9):Prop where
 pg:plainGet K C Str.empty=true
 hd:hasDictIn K C=true
 po:plainOver K C=true
 sa:PySem.W.findIn K (.ref C) "__setattr__"=some (some<|.builtin "object.__setattr__")
theorem fP.get{K:Frag}{C:D9}(c:fP K C)(f:Str):plainGet K C f=true:=c.pg
def eY(K:Frag)(C:D9)(f:Str):Prop:=PySem.W.findIn K (.ref C) f=some none
theorem eY.Vb{K:Frag}(n:eY K C f):takerIn K C f=some none:=by
 delta takerIn;rw[show PySem.W.findIn K (.ref C) f=some none from n];rfl
structure gS(K:Frag)(C:D9)(m:Str)(f:D9):Prop where
 at_:PySem.W.findIn K (.ref C) m=some (some<|.ref f)
 fn:PySem.W.isFn K (.ref f)=true
 kp:PySem.W.keepIn K (.ref f)=true
section
variable{X:Cx}{i:bn}{j:St}{H:Hp}{s:Ev}{a C p:D9}{d:n6}{f:Str}{v:V}{A:Gc}{E:bi}
theorem amZ{b:Fk}{Q:bi}(I:Yp X i j H s)(e:H a=some (.i C p d))(c:fP X.K C)(n:eY X.K C f)(l:d.lookup f=some v)(h:∀u k,Yp X i j H k->Tf v u->Q u k):wpAny (model X.prog X.w) A (getAttr (.ref a) f b) Q E s:=by
 obtain⟨q,zq⟩:=Vx (xo I.aB e);obtain⟨g,r,Y,Y,Y⟩:=V_ zq;obtain⟨u,t,m⟩:=gT.some_of (v:=v) (o:=q f) (by rw[<-l];exact r f);exact anK I.dg g (c.get f) c.hd n t (Va m)<|h u _ (I.tok _) m
theorem Gq{f:Sem Fk}{Q:EQ×ca->Ev->Prop}(I:Yp X i j H s)(e:H a=some (.i C p d))(c:fP X.K C)(k:gS X.K C m g)(l:d.lookup m=none)(h:Q (.ref g,[.ref a]) s):wpAny (model X.prog X.w) A (getMethod (.ref a) m f) Q E s:=by
 obtain⟨n,zq⟩:=Vx (xo I.aB e);obtain⟨b,r,Y,Y,Y⟩:=V_ zq;have o:n m=none:=gT.none_of (by rw[<-l];exact r m);exact atF I.dg b (c.get m) k.at_ k.fn o h
theorem Vd{Q:zn}(I:Yp X i j H s)(e:H a=some (.i C p d))(c:fP X.K C)(n:eY X.K C f)(R:d.length<1000)(F:Tf y u)(h:∀t,Yp X i j (upd H a<|.i C p<|bC f y d) t->Q () t):wpAny (model X.prog X.w) A (setAttr (.ref a) f u) Q E s:=by
 obtain⟨v,k,r,m,Y,B⟩:=xo I.aB e;have G:(d.map (·.1)).length<=sizeLine:=by rw[VH,Os];exact Ut Y (VJ _ _)
 refine agP I.dg k c.sa c.po n.Vb c.hd m G λN l D=>h _ ?_;have L:∃o,N.get? p=some o:=let ⟨o,_,_,P,_⟩:=l.ns;⟨o,P⟩;refine I.write (x:=a) (e:=p) (by rw[e];exact True.intro) (.inr B) (λb q M z=>(D.2 b M).trans z) L ?_;refine⟨by rw[av k.ne];exact B,?_,k.ne,l.obj,_,l.ns,λg=>?_,λg J=>?_⟩;have:=Gp f y d;exact Ut this (XC R);show gT ((bC f y d).lookup g) (if g=f then some u else v g);rw[Gn];by_cases q:g=f;rw[GT q,GT q];exact F;rw[GM q,GM q];exact r g;by_cases q:g=f;rw[q];exact(AB f y d).1;refine(AB f y d).2 g (m g λz=>J ?_);show(if g=f then some u else v g)=none;rw[GM q];exact z
theorem Yp.made(I:Yp X i j H s):Yp X i j (upd (upd H s.heap.objs.size<|.o<|s.heap.objs.size+1) (s.heap.objs.size+1)<|.i C s.heap.objs.size [])
  {s with heap:=(s.heap.push emptyDict).push (instObj C s.heap.objs.size)}:=by
 have c:(s.heap.push emptyDict).get? s.heap.objs.size=some emptyDict:=M2 s.heap O;have g:((s.heap.push emptyDict).push<|instObj C s.heap.objs.size).get? (s.heap.objs.size+1)=some (instObj C s.heap.objs.size):=by
  have:=M2 (s.heap.push emptyDict) (o:=instObj C s.heap.objs.size) O
  rwa [Sc] at this
 have f:(s.heap.push emptyDict).Ns s.heap.objs.size (λY=>none):=⟨emptyDict,#[],_,c,O,(λe d=>absurd d ap),λY=>O⟩;have k:=I.laid (a:=s.heap.objs.size) (o:=.o (s.heap.objs.size+1)) (h':=s.heap.push emptyDict) (t':=s.toks) (λb u q=>KB _ q) (mZ _) ⟨_,c⟩;refine k.laid (a:=s.heap.objs.size+1) (o:=.i C s.heap.objs.size []) (t':=s.toks) (λb u q=>KB _ q) (WK<|Sc _ _) ?_;have n:s.heap.objs.size≠s.heap.objs.size+1:=V9 (VY _);refine⟨by rw[av n,au],Wy _,n,g,λY=>none,(Heap.Ns1.of_empty f).at λo q=>KB _ q,λY=>True.intro,λy h=>absurd O h⟩
theorem aqG{p:Fa}{w:FM}{v:Env}{a:Pos}{Q:bi}(b:attributeBase e f v (eval e v)=eval e v)(h:wpAny (model p w) A (eval e v) (λo K=>wpAny (model p w) A (getAttr o f true) Q E K) E s):wpAny (model p w) A (eval (.Attribute e f a) v) Q E s:=
 Attribute_any_ h (by rw[arm_eval_Attribute,b])
end
def xp(K:Frag)(t:TE)(f:Str):TE:=λc H Q=>t c H λx b=>∃a C d s v,x=.r a/\b a=some (.i C d s)/\fP K C/\eY K C f/\s.lookup f=some v/\Q v b
def AD(K:Frag)(e t:TE)(f:Str):TS:=λD b H=>t b H λy g=>e b g λx c=>∃a C d s,x=.r a/\c a=some (.i C d s)/\fP K C/\eY K C f/\s.length<1000/\
 D.nx b (upd c a<|.i C d<|bC f y s)
section
variable{X:Cx}{o e d:Expr}{f:Str}{g i uJ:Pos}{b j:TE}
theorem aqM(j:PE X e b)(k:attributeBase e f X.env (eval e X.env)=eval e X.env):PE X (.Attribute e f g) (xp X.K b f):=by
 intro B s d H Q I h;refine aqG k<|aL (j B s d H _ I h) λu A h=>?_;obtain⟨x,w,t,r,a,C,E,D,v,m,o,c,n,l,q⟩:=h;subst m;obtain rfl:u=Value.ref a:=r;exact amZ t o c n l λy z p i=>⟨v,w,p,i,q⟩
theorem Vg(z:PE X o b)(t:PE X d j)(w:swapsWith d (some<|.Attribute o f i) g.line X.env=pure false):PS X (.Assign [.Attribute o f i] d g) (AD X.K b j f):=by
 intro B s e H D I h;refine plainObj_wpAny_Assign_Attribute (aL (t B s e H _ I h) λu k h=>?_) w;obtain⟨y,L,J,r,q⟩:=h;refine aL (z B k e L _ J q) λv N h=>?_;obtain⟨x,R,G,m,a,C,Q,P,A,E,c,n,l,p⟩:=h;subst A;obtain rfl:v=Value.ref a:=m;exact Vd G E c n l r λM F=>⟨e,_,F,p⟩
end
section
variable{X:Cx}{B':bn}{σ:St}{H:Hp}{s:Ev}{A:Gc}{E:bi}{Q:bi}{c:EQ}{b:Fk}
inductive jL(K:Frag)(H:Hp):V->EQ->Prop where
 |ar:jL K H .a (.type "NoneType")
 |bl (x:Fk):jL K H (.b x) (.type "bool")
 |int (i:Int):jL K H (.i i) (.type "int")
 |str (x:Str):jL K H (.s x) (.type "str")
 |lF (x:UInt64):jL K H (.lF x) (.type "float")
 |lst {a:D9}{c:ad} (e:H a=some (.l c)):jL K H (.r a) (.type "list")
 |bX {a:D9}{o:Obj}{c:ad} (e:H a=some (.b o<|.l c)):jL K H (.r a) (.type "list")
 |tup {a:D9}{c:ad} (e:H a=some (.t c)):jL K H (.r a) (.type "tuple")
 |dK {a:D9}{G:db} (e:H a=some (.d G)):jL K H (.r a) (.type "dict")
 |dT {a:D9}{G:wv} (e:H a=some (.T G)):jL K H (.r a) (.type "dict")
 |ins {a C m:D9}{k:n6} (e:H a=some (.i C m k)) (y:fP K C) (u:PySem.W.findIn K (.ref C) "__class__"=some (some<|.builtin "object.__class__"))
   (n:specialIn K (.builtin "object.__class__") "__get__"=some (some<|.builtin "getset_descriptor.__get__")) (E:takesIn K (.builtin "object.__class__")=some true)
   (q:mroIn K C (.type "object")=some true):jL K H (.r a) (.ref C)
theorem mv(I:Yp X B' σ H s)(r:Tf x u)(B:jL X.K H x t)(e:kitOne X.K t c=some b)(h:∀D,Q (.bool b) {s with toks:=D}):
  wpAny (model X.prog X.w) A (call (.builtin "isinstance") [u,c]) Q E s:=by
 cases B with
 |ar=>cases (show u=Value.none from r);exact kia_one PySem.W.kitx_none I.dg True.intro e (λz=>nomatch z) h
 |bl y=>cases (show u=Value.bool y from r);exact kia_one PySem.W.kitx_bool I.dg True.intro e (λz=>nomatch z) h
 |int i=>obtain⟨t,q⟩:=(show ∃t,u=Value.int i t from r);cases q;exact kia_one PySem.W.kitx_int I.dg True.intro e (λz=>nomatch z) h
 |str y=>obtain⟨t,q⟩:=(show ∃t,u=Value.str y t from r);cases q;exact kia_one PySem.W.kitx_str I.dg True.intro e (λz=>nomatch z) h
 |lF y=>obtain⟨t,q⟩:=(show ∃t,u=Value.float y t from r);cases q;exact kia_one PySem.W.kitx_float I.dg True.intro e (λz=>nomatch z) h
 | @lst a k g=>
  cases (show u=Value.ref a from r);obtain⟨_,_,n,_,j⟩:=(show cJ X.prog X.w H s.heap a (.l k) from I.aB a _ g);exact kia_one kitx_list I.dg ⟨_,j,O⟩ e (λz=>nomatch z) h
 | @bX a F k g=>
  cases (show u=Value.ref a from r);obtain⟨_,_,_,n,_,j⟩:=(show cJ X.prog X.w H s.heap a (.b F<|.l k) from I.aB a _ g);exact kia_one kitx_list I.dg ⟨_,j,O⟩ e (λz=>nomatch z) h
 | @tup a k g=>
  cases (show u=Value.ref a from r);obtain⟨_,_,_,p⟩:=(show cJ X.prog X.w H s.heap a (.t k) from I.aB a _ g);obtain⟨o,j,m,_⟩:=p;exact kia_one PySem.W.kitx_tuple I.dg ⟨o,j,m⟩ e (λz=>nomatch z) h
 | @dK a G g=>
  cases (show u=Value.ref a from r);obtain⟨_,_,U,_,p⟩:=(show cJ X.prog X.w H s.heap a (.d G) from I.aB a _ g);obtain⟨o,P,R,j,m,_⟩:=p;exact kia_one kitx_dict I.dg ⟨o,j,m.1⟩ e (λz=>nomatch z) h
 | @dT a G g=>
  cases (show u=Value.ref a from r);obtain⟨_,_,k,_,o,P,R,j,m,_⟩:=(show cJ X.prog X.w H s.heap a (.T G) from I.aB a _ g);exact kia_one kitx_dict I.dg ⟨o,j,m.1⟩ e (λz=>nomatch z) h
 | @ins a C dx fs g v N L S M=>
  cases (show u=Value.ref a from r);obtain⟨Z,f,_⟩:=xo I.aB g;obtain⟨Y,J,_⟩:=f.look;exact kia_one (PySem.W.kitx_own (v.get _) v.hd N L S M) I.dg J e (λz=>nomatch z) h
end
structure dh(k:Nat)(A:Gc):Prop where
 hd:A.handled=none
 dp:A.depth+3*k+5<recursionLimit
 un:A.units+16*k+200<cLine
 gd:A.guards=some []:=by rfl
theorem dh.mono(r:dh k A)(h:j<=k):dh j A:=⟨r.hd,by have:=r.dp;lia,by have:=r.un;lia,r.gd⟩
theorem dh.deeper(r:dh (k+1) A)(e:Env):dh k (A.deeper e):=
 ⟨r.hd,by have:=r.dp;show A.depth+1+3*k+5<_;lia,by have:=r.un;show A.units+3+16*k+200<_;lia,r.gd⟩
theorem avW{A:Gc}{C:D9}{u:ca}{k:AT}:(A.under<|.builtin "type.__call__" ⟨.ref C::u,k⟩).depth=A.depth+1:=by
 first|rfl|simp[Around.under,Code.weight,Code.isCreation,Code.isGuard,Code.isCaller,Code.frames,Code.isFrame,guardIds]
theorem aqE{A:Gc}{C:D9}{u:ca}{k:AT}:(A.under<|.builtin "type.__call__" ⟨.ref C::u,k⟩).units=A.units+1:=by
 first|rfl|simp[Around.under,Code.cUnits,Code.frames,Code.isFrame]
theorem dh.make(r:dh (k+1) A)(C:D9)(u:ca)(w:AT):dh k (A.under<|.builtin "type.__call__" ⟨.ref C::u,w⟩):=
 ⟨r.hd,by have:=r.dp;rw[avW];lia,by have:=r.un;rw[aqE];lia,by first|exact r.gd|simp[Around.under,Code.guards,Code.isGuard,guardIds,pushGuards,r.gd]⟩
theorem dh.depth(r:dh k A):A.depth<recursionLimit:=by have:=r.dp;lia
theorem dh.units(r:dh k A):A.units+64<cLine:=by have:=r.un;lia
def je:TA:=λ_ H Q=>Q [] H
def dU(b:TE)(t:TA):TA:=λa H Q=>b a H λx d=>t a d λs c=>Q (x::s) c
section
variable{X:Cx}{e:Expr}{a:jp}{d:TE}{t:TA}{c:Pos}
theorem sv:PA X [] je:=λY Y Y Y H Q I h=>Calls.spliced_nil ⟨[],H,I,.nil,h⟩
theorem lK(m:PE X e d)(l:PA X a t)(k:autoParam (starEach (e::a) X.env=(false,eval e X.env)::starEach a X.env) cl):PA X (e::a) (dU d t):=by
 intro c B s b H Q I h;rw[k];show wpAny _ _ (spliced ((false,eval e X.env)::backTo c (starEach a X.env))) _ _ s;refine Calls.spliced_cons<|aL (m B s b H _ I h) λu g h=>?_;obtain⟨x,v,o,i,j⟩:=h;exact aL (l c B g b v _ o j) (by rintro w y ⟨f,p,n,r,q⟩;exact ⟨x::f,p,n,.cons i r,q⟩)
def Gs(t:TA):TE:=λb H Q=>t b H λx a=>x.length<=sizeLine/\∀p,a p=none->Q (.r p) (upd a p<|.t x)
def Gu(t:TA):TE:=λb H Q=>t b H λx a=>x.length<=sizeLine/\∀p,a p=none->Q (.r p) (upd a p<|.l x)
theorem anC(h:PA X a t):PE X (.Tuple a j c) (Gs t):=by
 intro B s i H Q I l;refine wpAny_Tuple_spliced<|aL (h c B s i H _ I l) λk d h=>?_;obtain⟨x,g,f,r,z,q⟩:=h;refine ⟨by rw[<-r.length];exact z,?_⟩;have m:g d.heap.objs.size=none:=f.aB.fresh (mZ _);refine⟨.r d.heap.objs.size,upd g d.heap.objs.size<|.t x,f.laid (t':=d.toks) (λb u e=>KB _ e) (mZ _) ?_,O,q _ m⟩;exact⟨z,k,r,⟨_,M2 _ O,O,_,O⟩⟩
theorem amE(h:PA X a t):PE X (.List a c) (Gu t):=by
 intro B s i H Q I k;refine wpAny_List_spliced<|aL (h c B s i H _ I k) λj d h=>?_;obtain⟨x,g,f,r,z,q⟩:=h;refine ⟨by rw[<-r.length];exact z,?_⟩;have m:g d.heap.objs.size=none:=f.aB.fresh (mZ _);refine⟨.r d.heap.objs.size,upd g d.heap.objs.size<|.l x,f.laid (t':=d.toks) (λb u e=>KB _ e) (mZ _) ?_,O,q _ m⟩;exact⟨z,j,0,r,M2 _ O⟩
end
abbrev Sp:=ad->Hp->VK->XK->Prop
abbrev wT:=List (Str×D9×Sp)
abbrev io:=List (Str×Sp)
abbrev cg:=xy->Hp->Ev->XK->EQ->Ev->Prop
structure nQ(P:Fa)(w:FM)(K:Frag)(mg:ce)(base:FS)(A:Gc)(outer:xy)(s:Ev)(H:Hp):Prop where
 frames:A.frames=some outer
 mod:Mod K mg base
 bs:∀b o,base.get? b=some o->s.heap.get? b=some o/\H b=none
 sh:base.objs.size<=s.heap.objs.size
 lH:s.heap.FunFrames base outer
 uE:∀b∈bP outer,H b=none
 aB:cb P w H s.heap
 B:AllBare s.gens
def CE(o:xy)(P:Fa)(w:FM)(H:Hp)(s:Ev)(Q:VK)(u:EQ)(a:Ev):Prop:=
 ∃v b,a.os=s.os/\AllBare a.gens/\Un (bP o) [] H b s.heap a.heap/\cb P w b a.heap/\Tf v u/\Q v b
def CR(C:cg)(o:xy)(P:Fa)(w:FM)(H:Hp)(s:Ev)(Q:VK)(E:XK)(r:Result)(a:Ev):Prop:=
 match r with
 |.ok (.ret u)=>CE o P w H s Q u a
 |.ok _=>False
 |.error e=>C o H s E e a
structure cY(P:Fa)(w:FM)(K:Frag)(mg:ce)(base:FS)(CX:cg)(k:Nat)(f:D9)(fd:Go)(ps:ac)(sp:Sp):Prop where
 len:∀vs H Q E,sp vs H Q E->vs.length=ps.length
 run:∀(A:Gc)(outer:xy)(s:Ev)(H:Hp)(args:Args)(us:ca)(vs:ad)(Q:VK)(E:XK),dh k A->nQ P w K mg base A outer s H->BindsTo s fd args (ps.zip us)->Cj vs us->sp vs H Q E->
  codeAny (model P w) A (.call (.ref f) args) (CR CX outer P w H s Q E) s
theorem cY.mono{K:Frag}(F:cY P w K m b C j f d c p)(h:j<=k):
  cY P w K m b C k f d c p:=⟨F.len,λA o s H a u v Q E r=>F.run A o s H a u v Q E<|r.mono h⟩
theorem nQ.make{K:Frag}(e:nQ P w K m b A o s H)(C:D9)(u:ca)(k:AT):
  nQ P w K m b (A.under<|.builtin "type.__call__" ⟨.ref C::u,k⟩) o s H:=⟨by first|exact e.frames| (simpa[Around.under,Code.envs,Code.isFrame,pushEnvs] using e.frames),e.mod,e.bs,e.sh,e.lH,e.uE,e.aB,e.B⟩
section
variable{X:Cx}{a:bn}{c:St}{H:Hp}{s e:Ev}
theorem Yp.Gv(I:Yp X a c H s):nQ X.prog X.w X.K X.g X.base X.A X.stack s H:=
 ⟨I.ok.frames,I.ok.mod,I.bs,Ut I.ok.sh I.sz,I.stack,I.w6,I.aB,I.A⟩
theorem Yp.after(I:Yp X a c H s)(h:CE X.stack X.prog X.w H s Q u e):EP X a c Q u e:=by
 obtain⟨v,j,o,f,n,B,r,q⟩:=h;obtain⟨i,g,d,t,V⟩:=e;obtain rfl:V=s.os:=o;exact⟨v,j,I.call (h':=i) (g':=g) (d':=d) (t':=t) (ch:=[]) n B f<|λb z=>absurd z ap,r,q⟩
end
def AF(s:Sp)(f:ad)(E:XK)(t:TA):TE:=λa H Q=>t a H λv b=>s (v++f) b Q E
def qe(C:D9)(m:Str)(s:Sp)(e:ad)(E:XK)(d:TE)(t:TA):TE:=λb H Q=>d b H λx c=>∃a g f,x=.r a/\c a=some (.i C g f)/\f.lookup m=none/\
 t b c λv h=>s (x::(v++e)) h Q E
def sx(C:D9)(p:Sp)(f:ad)(E:XK)(t:TA):TE:=λc H Q=>t c H λs b=>∀x d,b x=none->b d=none->d≠x->
 p (.r x::(s++f)) (upd (upd b d<|.o x) x<|.i C d []) (λv e=>v=.a/\Q (.r x) e) E
def TV(K:Frag)(f:Go)(p:ac)(d:ca):Prop:=
 ∀(s:Ev)(u:ca),K.In s.heap->(u++d).length=p.length->BindsTo s f ⟨u,[]⟩ (p.zip<|u++d)
theorem TV.all{K:Frag}{f:Go}{p:ac}(h:∀u:ca,u.length=p.length->bindArgs f ⟨u,[]⟩=pure (p.zip u)):TV K f p []:=λs u Y l=>by
 rw[YS] at l⊢;exact .of_eq<|h u l
def Xb(C:cg)(X:Cx)(E:XK):Prop:= ∀(B:bn)(c:St)(H:Hp)(s:Ev)(e:EQ)(b:Ev),Yp X B c H s->C X.stack H s E e b->X.a e b
section
variable{X:Cx}{d:cg}{k:Nat}{f C:D9}{g:Go}{c:ac}{i:Sp}{b:ad}{a:ca}{E:XK}{x m:Str}{p l V':Pos}{e o:Expr}{j:jp}{ta:TE}{t:TA}
theorem AG{j:St}(F:cY X.prog X.w X.K X.g X.base d k f g c i)(n:dh k X.A)(t:TV X.K g c a)(p:Cj b a)(x:Xb d X E)(I:Yp X B j H s)(r:Cj vs us)(h:i (vs++b) H Q E):wpAny (model X.prog X.w) X.A (call (.ref f) us) (EP X B j Q) X.a s:=by
 have l:Cj (vs++b) (us++a):=r.append p;have o:(us++a).length=c.length:=by rw[<-l.length];exact F.len _ _ _ _ h
 refine wpAny_call<|TD (F.run X.A X.stack s H ⟨us,[]⟩ (us++a) (vs++b) Q E n I.Gv (t s us I.dg o) l h) λr m q=>?_;cases r with
 |error e=>exact x B j H s e m I q
 |ok v=>
  cases v with
  |ret u=>exact I.after q
  |next=>exact False.elim q
  |brk=>exact False.elim q
  |cont=>exact False.elim q
theorem avQ(F:cY X.prog X.w X.K X.g X.base d k f g c i)(y:dh k X.A)(C:Gl X x)(z:X.g x=some (.ref f))(B:PySem.W.keepIn X.K (.ref f)=true)(J:TV X.K g c a)(G:Cj b a)(v:Xb d X E)(L:PA X (e::j) t)(o:autoParam ((x==("__debug__":Str))=false) bx)(D:autoParam (starEach (e::j) X.env=(false,eval e X.env)::starEach j X.env) cl)(u:autoParam ((backTo l<|starEach j X.env).any (·.1)=false) cl):
  PE X (.Call (.Name x p) (e::j) [] l) (AF i b E t):=by
 intro M s n H Q I h;refine TW<|xa I C z ?_ o;refine callWith_K (h₀:=X.base) I.ok.mod.uC B (aL (L l M s n H _ I h) λP R h=>?_) D u;obtain⟨N,S,m,r,q⟩:=h;refine ⟨m.dg,?_⟩;exact AG F y J G v m r q
structure Mk(K:Frag)(C f:D9):Prop where
 m:makesIn K C=true
 init:PySem.W.findIn K (.ref C) "__init__"=some (some<|.ref f)
 fn:PySem.W.isFn K (.ref f)=true
 kp:PySem.W.keepIn K (.ref C)=true
theorem Gw{p:St}(M:Mk X.K C f)(F:cY X.prog X.w X.K X.g X.base d k f g c i)(L:dh (k+1) X.A)(R:TV X.K g c a)(P:Cj b a)(J:Xb d X E)(I:Yp X B p H s)(r:Cj q us)(h:∀x l,H x=none->H l=none->l≠x->i (.r x::(q++b)) (upd (upd H l<|.o x) x<|.i C l []) (λv W=>v=.a/\Q (.r x) W) E):
  wpAny (model X.prog X.w) X.A (call (.ref C) us) (EP X B p Q) X.a s:=by
 have y:=h (s.heap.objs.size+1) s.heap.objs.size (I.aB.fresh<|Yn _) (I.aB.fresh<|mZ _) (V9<|VY _);have n:=Yp.made (C:=C) I;have t:Cj (V.r (s.heap.objs.size+1)::(q++b)) (Value.ref (s.heap.objs.size+1)::(us++a)):=.cons O (r.append P);have N:(Value.ref (s.heap.objs.size+1)::us++a).length=c.length:=by
  have e:=t.length;rw[F.len _ _ _ _ y] at e;exact e.symm
 refine wpAny_call (alM (f:=f) I.dg M.m M.init (beq_iff_eq.mp M.fn) (TD (F.run _ X.stack _ _ ⟨Value.ref (s.heap.objs.size+1)::us,[]⟩ (Value.ref (s.heap.objs.size+1)::(us++a)) _ _ E (L.make C us [])
  (n.Gv.make C us []) (R _ (Value.ref (s.heap.objs.size+1)::us) n.dg N) t y) λr z j=>?_))
 cases r with
 |error e=>exact J B p _ _ e z n j
 |ok S=>
  cases S with
  |ret u=>
   obtain⟨v,Y,U,D,T,G⟩:=n.after j;subst T;exact⟨D,⟨V.r<|s.heap.objs.size+1,Y,U,O,G⟩⟩
  |next=>exact False.elim j
  |brk=>exact False.elim j
  |cont=>exact False.elim j
theorem atJ(M:Mk X.K C f)(F:cY X.prog X.w X.K X.g X.base d k f g c i)(y:dh (k+1) X.A)(B:Gl X x)(z:X.g x=some (.ref C))(J:TV X.K g c a)(G:Cj b a)(v:Xb d X E)(L:PA X (e::j) t)(o:autoParam ((x==("__debug__":Str))=false) bx)(D:autoParam (starEach (e::j) X.env=(false,eval e X.env)::starEach j X.env) cl)(u:autoParam ((backTo l<|starEach j X.env).any (·.1)=false) cl):
  PE X (.Call (.Name x p) (e::j) [] l) (sx C i b E t):=by
 intro N s n H Q I h;refine TW<|xa I B z ?_ o;refine callWith_K (h₀:=X.base) I.ok.mod.uC M.kp (aL (L l N s n H _ I h) λR S h=>?_) D u;obtain⟨P,T,m,r,q⟩:=h;refine ⟨m.dg,?_⟩;exact Gw M F y J G v m r q
theorem alI(M:Mk X.K C f)(F:cY X.prog X.w X.K X.g X.base d k f g c i)(r:dh (k+1) X.A)(n:Gl X x)(j:X.g x=some (.ref C))(q:TV X.K g c a)(o:Cj b a)(e:Xb d X E)(m:autoParam ((x==("__debug__":Str))=false) bx):PE X (.Call (.Name x p) [] [] l) (sx C i b E je):=by
 intro B s t H Q I h;refine TW<|xa I n j ?_ m;exact callWith_K0 I.dg M.kp<|Gw (us:=[]) M F r q o e I .nil h
end
structure qf(N P:ac)(sc:Scope):Prop where
 kind:sc.kind=.function
 co:sc.isCoroutine=false
 gen:sc.isGenerator=false
 nd:N.Nodup
 pre:N.take P.length=P
 par:∀x∈P,sc.names.lookup x=some .local\/sc.names.lookup x=some .cell
 Vp:∀y∈sc.names,y.2≠ .free
theorem Gx:∀{b:AT}{m:ce},(∀v,(x,v)∉b)->bindL k b m x=m x
 |[],_,_=>O
 |(n,v)::r,m,h=>by
  unfold bindL;rw[Gx λw a=>h w (N4 _ a)];split;have:x≠n:=by rintro rfl;exact h v Yz
  simp[this];rfl
theorem Gy:∀{b:AT}{m:ce},(∀v,(x,v)∉b)->bindC k b m x=m x
 |[],_,_=>O
 |(n,v)::r,m,h=>by
  unfold bindC;rw[Gy λw a=>h w (N4 _ a)];split;rfl;have:x≠n:=by rintro rfl;exact h v Yz
  simp[this]
theorem Gz:∀{P:ac}{s:ca}{i:Nat}{m:ce},P.Nodup->P[i]?=some x->s[i]?=some v->k x=some .local->
  bindL k (P.zip s) m x=some v:=by
 intro P;induction P with
 |nil=>intro s i m _ h;cases h
 |cons p P t=>
  intro s i m n b a c;cases s with
  |nil=>cases a
  |cons w s=>
   cases i with
   |zero=>
    simp at b a;subst b;subst a;show bindL k ((p,w)::P.zip s) m p=_;unfold bindL;rw[Gx λv d=>(YH.mp n).1 (UZ d).1,GT c];simp
   |succ i=>unfold bindL;exact t (YH.mp n).2 (by simpa using b) (by simpa using a) c
theorem GA:∀{P:ac}{s:ca}{i:Nat}{m:ce},P.Nodup->P[i]?=some x->s[i]?=some v->k x≠some .local->
  bindC k (P.zip s) m x=some v:=by
 intro P;induction P with
 |nil=>intro s i m _ h;cases h
 |cons p P t=>
  intro s i m n b a c;cases s with
  |nil=>cases a
  |cons w s=>
   cases i with
   |zero=>
    simp at b a;subst b;subst a;show bindC k ((p,w)::P.zip s) m p=_;unfold bindC;rw[Gy λv d=>(YH.mp n).1 (UZ d).1,GM c];simp
   |succ i=>unfold bindC;exact t (YH.mp n).2 (by simpa using b) (by simpa using a) c
noncomputable def ZQ(N:ac)(v:ad):St:=v.map some++List.replicate (N.length - v.length) none
def qg(C:cg)(P:Fa)(w:FM)(K:Frag)(i:ce)(c:FS)(N:ac)(q:Str)(b:Scope)(f:D9)(d:EQ)(A:Gc)(o:xy)(s:Ev)(H:Hp)(E:XK):Cx where
 prog:=P
 w:=w
 K:=K
 g:=i
 base:=c
 A:=A.deeper (envOfC q b s.heap.objs.size f d)
 N:=N
 S:=s
 H:=H
 env:=envOfC q b s.heap.objs.size f d
 r:=o
 stack:=envOfC q b s.heap.objs.size f d::o
 ex:=[]
 calm:=true
 fn:=λ_=>true
 n:=[]
 a:=λe h=>wpAny (model P w) (A.deeper<|envOfC q b s.heap.objs.size f d) (leaving (envOfC q b s.heap.objs.size f d) e) (λ_ m=>C o H s E e m) (λj m=>C o H s E j m) h
theorem GB{s:Scope}(h:s.names.lookup x=some .cell):∃c,(cellsFrom n s.names []).lookup x=some c:=by
 have q:=cellsFrom_some s.names n [] (.inl h);exact Option.isSome_iff_exists.mp q
theorem anH{K:Frag}{f:D9}{J:EQ}{R:Ev}(S:qf N C d)(Y:A.handled=none)(m:nQ P w K Q j A o s H)(hl:t.length=C.length)(r:Cj t L)(x:InCallC s s.heap.objs.size (bindL (envOfC l d s.heap.objs.size f J).kindOf (C.zip L) λ_=>none) (cellsFrom (s.heap.objs.size+1) d.names []) (bindC (envOfC l d s.heap.objs.size f J).kindOf (C.zip L) λ_=>none) R):
  Yp (qg X P w K Q j N l d f J A o s H E) [] (ZQ N t) H R:=by
 have ko:C.length<=N.length:=by have:=IR List.length S.pre;rw[WE] at this;lia
 obtain⟨I,tk,rfl,U⟩:=x.done;have M:∀b:D9,b∉ (qg X P w K Q j N l d f J A o s H E).ex:=λb z=>absurd (show b∈ ([]:pp) from z) ap;refine⟨⟨m.mod,S.kind,O,O,mZ _,λy z c I g=>?_,λy D=>?_,λy c _ h=>?_,λ_=>Y,Around.frames_deeper m.frames,.inr ⟨O,O⟩,λb z=>absurd z (M b),m.bs,m.sh,λb _ _=>M b,λb z=>absurd z (M b),m.lH,m.uE⟩,
  rfl,m.B,Un.kept U,qF _ x.toInCall.ns (λi y v I g h3=>?_),λy c h=>qY _ (x.cell y c h),m.aB.fresh (mZ _),λy c h=>?_,λp F=>absurd (show p∈ ([]:bn) from F) ap,m.aB.kept U,?_⟩
 exact name_of_addr x.apart (On I) (On g);have D:d.names.lookup y=some .cell\/d.names.lookup y=some .free:=D;rcases D with D|D
 exact GB D;exact absurd O (S.Vp _<|On D);exact Yl (x.above y c<|On h);have G:i<t.length:=by
  unfold ZQ at g;by_cases G:i<t.length;exact G;rw[hY (by simpa using G)] at g;rw[List.getElem?_replicate] at g;split at g<;>cases g
 have Z:t[i]?=some v:=by
  unfold ZQ at g;rw[WV (by simpa using G),Y5] at g;cases e:t[i]? with
  |none=>rw[e] at g;cases g
  |some a=>rw[e] at g;cases g;rfl
 obtain⟨u,T,W⟩:=r.get Z;have F:C[i]?=some y:=by
  rw[<-S.pre,US (Z1 G (WK hl))];exact I
 have V:C.Nodup:=by rw[<-S.pre];exact S.nd.sublist (List.take_sublist _ _)
 refine qF u W ?_;rcases S.par y (zG F) with k|k
 exact .inl ⟨k,Gz V F T k⟩;obtain⟨c,e⟩:=GB (n:=s.heap.objs.size+1) k;refine .inr (tR (.inl k) c e ?_);have q:=x.cell y c e;rw[GA V F T (by show d.names.lookup y≠_;rw[k];decide)] at q;exact q;exact m.aB.fresh (Yl<|x.above y c<|On h);unfold ZQ;show _=N.length;rw[Zw,VH,Ul];lia
theorem GD{K:Frag}{f:D9}{h:Do}{dV kV T' pm z ct oc:EQ}{an od:wE}{iR:Array Cl}(lk:K.lookup f=some ⟨oc,od,.func<|PySem.W.fnOf j l p h c dV kV T' pm an z ct,iR⟩)(jJ:PySem.W.codeIn K z l=true)(S:qf N F c)(C:∀i H Q E,M i H Q E->i.length=F.length)(Vr:∀(A:Gc)(d:xy)(s:Ev)(H:Hp)(i:ad)(Q:VK)(E:XK),dh k (A.deeper (envOfC l c s.heap.objs.size f z))->M i H Q E->
   ∃t,fM (qg X P w K G g N l c f z A d s H E) h t/\t {nx:=λ_ m=>Q .a m,r:=Q} (ZQ N i) H):
  cY P w K G g X (k+1) f (PySem.W.fnOf j l p h c dV kV T' pm an z ct) F M:=by
 refine⟨C,λA d s H a' us i Q E Y D hb r nS=>?_⟩;have hl:=C _ _ _ _ nS;have KX:K.In s.heap:=D.mod.uC.keeps λb o e=>(D.bs b o e).1;have U:s.heap.NoLimit:=D.mod.nolimit.keeps λb o e=>(D.bs b o e).1;have Vs:∀y∈F.zip us,c.names.lookup y.1=some .local\/(c.names.lookup y.1=some .cell/\((cellsFrom (s.heap.objs.size+1) c.names []).lookup y.1).isSome=true):=λ⟨n,v⟩ hy=>by
  rcases S.par n (UZ hy).1 with q|q
  exact .inl q;exact .inr ⟨q,cellsFrom_some _ _ _<|.inl q⟩
 refine codeAny_call_function Y.depth (KX _ _ lk) O S.co S.gen O (PySem.W.codeRec_of KX jJ)<|hb _ _ _ _ ?_;refine wpAny_newFunctionEnv_cells S.kind Vs λb' he Z x=>?_;subst he;refine⟨U.keeps x.toInCall.keep,codeAny_func ?_⟩;obtain⟨t,ht,hq⟩:=Vr A d s H i Q E (Y.deeper _) nS;have I:Yp (qg X P w K G g N l c f z A d s H E) [] (ZQ N i) H Z:=anH S Y.hd D hl r x;refine KM (ht [] Z (ZQ N i) H _ I hq) (λfl R B=>?_) λe R B=>B;have R':∀{L:St}{m:Hp}{v:V}{u:EQ},Yp (qg X P w K G g N l c f z A d s H E) [] L m R->Tf v u->Q v m->CE d P w H s Q u R:=
  λ{L m v u} J T q=>tA v m J.os J.A J.base J.aB ⟨T,q⟩
 cases fl with
 |ret u=>
  obtain⟨v,L,m,zq⟩:=U1 B;obtain⟨J,T,q⟩:=Vk zq;exact R' J T q
 |next=>
  obtain⟨L,m,J,q⟩:=B;exact R' (v:=V.a) (u:=Value.none) J O q
 |brk=>
  obtain⟨_,_,_,q⟩:=B;exact False.elim q
 |cont=>
  obtain⟨_,_,_,q⟩:=B;exact False.elim q
section
variable{X:Cx}{x:Str}{p b:Pos}{e:Expr}{a:jp}{t:TA}{c T:GE}{r:ad->Hp->VK->Prop}
def eZ(r:ad->Hp->VK->Prop)(t:TA):TE:=λa H Q=>t a H λv b=>r v b Q
theorem qh(y:cE X (.builtin c) r)(o:Gl X x)(l:X.g x=none)(j:bootBuiltins x=some (.builtin c))(z:PA X (e::a) t)(n:autoParam (x≠"__name__") bx)(m:autoParam ((x==("__debug__":Str))=false) bx)(w:autoParam (starEach (e::a) X.env=(false,eval e X.env)::starEach a X.env) cl)(k:autoParam ((backTo b<|starEach a X.env).any (·.1)=false) cl):PE X (.Call (.Name x p) (e::a) [] b) (eZ r t):=by
 intro B s d H Q I h;refine TW<|pV I o l j ?_ n m;exact PyProof.Rows.callWith_builtin1 (aL (z b B s d H _ I h) (by rintro u f ⟨v,C,A,i,q⟩;exact y B f d C v u Q A i q)) w k
theorem avZ(w:cE X (.type T) r)(l:Gl X x)(j:X.g x=none)(i:bootBuiltins x=some (.type T))(y:PA X (e::a) t)(n:autoParam (x≠"__name__") bx)(m:autoParam ((x==("__debug__":Str))=false) bx)(o:autoParam (starEach (e::a) X.env=(false,eval e X.env)::starEach a X.env) cl)(k:autoParam ((backTo b<|starEach a X.env).any (·.1)=false) cl):PE X (.Call (.Name x p) (e::a) [] b) (eZ r t):=by
 intro B s c H Q I h;refine TW<|pV I l j i ?_ n m;exact Tm (aL (y b B s c H _ I h) (by rintro u d ⟨v,A,z,f,q⟩;exact w B d c A v u Q z f q)) o k
end
end
namespace HT
open PySem PyProof.Rows
section
variable{a:Fa}{w:FM}{A:Gc}{E:bi}{s:Ev}
theorem Vu{t b:D9}{v c:ca}{Q:bi}(r:IsTup s.heap t v.toArray)(u:IsTup s.heap b c.toArray)(k:v≠ [])(y:c=[]->Q (.ref t) s)(x:c≠ []->Q (.ref s.heap.objs.size) {s with heap:=s.heap.push {cls:=.type "tuple",data:=.seq (v++c).toArray}})(z:v.length+c.length<=sizeLine):wpAny (model a w) A (binaryOp .Add (.ref t)<|.ref b) Q E s:=by
 obtain⟨⟨i,q,d,l⟩,o,p,n,m⟩:=id r;obtain⟨⟨B,G,g,H⟩,U,W,j,h⟩:=id u;simp only at p m W h;subst p m W h;have e:v.toArray++c.toArray=(v++c).toArray:=by simp
 by_cases f:c=[];exact concat_meets ⟨_,o,O⟩ ⟨_,U,O⟩ noFill_tuple_add seq_tuple_add PySem.F.slot_tuple_add PySem.F.entry_tuple_add (PySem.F.args_tuple_add_2 _ _)
  (tuple_addW1 t b v.toArray c.toArray n j q G l H (by simpa using k) (by simp[f])) ⟨o,U,y f⟩
 refine concat_meets ⟨_,o,O⟩ ⟨_,U,O⟩ noFill_tuple_add seq_tuple_add PySem.F.slot_tuple_add PySem.F.entry_tuple_add (PySem.F.args_tuple_add_2 _ _)
  (tuple_addW2 t b v.toArray c.toArray n j q G l H (by simpa using k) (by simpa using f) (by rw[i3,i3];exact z)) ⟨o,U,?_⟩
 rw[e];exact x f
def aU(n d:Nat):re->Nat
 |none=>d
 |some v=>if v<0 then (v+(n:Int)).toNat else min v.toNat n
theorem Vv(n d:Nat):aU n d none=d:=O
theorem qk(n d k:Nat):aU n d (some (k:Int))=min k n:=by
 show(if (k:Int) <0 then ((k:Int)+(n:Int)).toNat else min (k:Int).toNat n)=min k n;rw[GM (XI (YK _)),Yx]
theorem AI(n d:Nat)(a:d<=n)(o:re):aU n d o<=n:=by
 cases o with
 |none=>exact a
 |some v=>
  show(if v<0 then (v+(n:Int)).toNat else min v.toNat n)<=n;by_cases h:v<0;rw[GT h];lia;rw[GM h];exact Nat.min_le_right _ _
theorem GG(v:Int)(n d:Nat):(if v<0 then max (v+(n:Int)) 0 else min v (n:Int))=((aU n d (some v):Nat):Int):=by
 show(if v<0 then max (v+(n:Int)) 0 else min v (n:Int))=(((if v<0 then (v+(n:Int)).toNat else min v.toNat n):Nat):Int);by_cases h:v<0;simp only[GT h];lia;simp only[GM h];lia
theorem Vw(l h:re)(n:Nat):Builtin.Slice.sliceAdjust l h 1 (n:Int)=(((aU n 0 l:Nat):Int),((aU n n h:Nat):Int)):=by
 have a:¬((1:Int) <0):=XI (YK _)
 delta Builtin.Slice.sliceAdjust;simp only[a,Op];refine Prod.ext ?_ ?_;cases l with
 |none=>rfl
 |some v=>exact GG v n 0
 cases h with
 |none=>rfl
 |some v=>exact GG v n n
theorem arE(i j:Nat):Builtin.Slice.slicePlaces (i:Int) (j:Int) 1=j - i:=by
 delta Builtin.Slice.slicePlaces;have h:(1:Int) >0:=by lia
 simp only[h,No,Int.ediv_one];split<;>lia
theorem GH{v:EQ}{o:re}{Q:re->Ev->Prop}(p:IsPart v o)(h:Q o s):wpAny (model a w) A (Builtin.Slice.slicePartIndex v) Q E s:=by
 cases p with
 |none=>exact slicePart_none h
 |int i t=>exact slicePart_int h
theorem amY{c:D9}{b v:EQ}{l i:re}{Q:Int×Int×Nat->Ev->Prop}(e:s.heap.IsSliceOf c b v .none)(d:IsPart b l)(p:IsPart v i)(h:Q (((aU n 0 l:Nat):Int),1,aU n n i - aU n 0 l) s):wpAny (model a w) A (Builtin.Slice.sliceApplied (.ref c)<|pure (n:Int)) Q E s:=by
 obtain⟨o,u,J,X⟩:=id e;delta Builtin.Slice.sliceApplied Builtin.Slice.sliceFields;refine HD<|HD<|wpAny_field u X (x:=b) O<|HD<|wpAny_field u X (x:=v) O<|HD<|wpAny_field u X (x:=.none) O<|IN ?_;refine HD<|slicePart_none ?_;show wpAny _ _ (if ((1:Int)==0)=true then _ else _) _ _ s;rw[GM ax];refine HD<|GH d<|HD<|GH p<|HD<|IN ?_;show wpAny _ _ (match Builtin.Slice.sliceAdjust l i 1 (n:Int) with|(l,i)=>pure (l,(1:Int),Builtin.Slice.slicePlaces l i 1)) _ _ s;rw[Vw l i n];show wpAny _ _ (pure (((aU n 0 l:Nat):Int),(1:Int),Builtin.Slice.slicePlaces ((aU n 0 l:Nat):Int) ((aU n n i:Nat):Int) 1)) _ _ s;rw[arE];exact IN h
theorem atW(s:ww)(i k:Nat):((List.range k).filterMap fun(m:Nat)=>s[((i:Int)+(m:Int)*1).toNat]?).toArray=((s.toList.drop i).take k).toArray:=by
 have e:(fun(m:Nat)=>s[((i:Int)+(m:Int)*1).toNat]?)=λm=>s[i+m]?:=by
  funext m;have:((i:Int)+(m:Int)*1).toNat=i+m:=by lia
  rw[this]
 rw[e];have:=pick_run s i k;rw[List.filterMap_map] at this;have a:((λx=>s[x]?)∘λx=>i+x)=λm=>s[i+m]?:=O;rw[a] at this;rw[this]
theorem VA{t d:D9}{i:ww}{e v:EQ}{l b:re}{Q:bi}(c:IsTup s.heap t i)(f:s.heap.IsSliceOf d e v .none)(g:IsPart e l)(p:IsPart v b)(j:¬(aU i.size 0 l=0/\aU i.size i.size b=i.size))(h:Q (.ref s.heap.objs.size) {s with heap:=s.heap.push {cls:=.type "tuple",data:=.seq ((i.toList.drop<|aU i.size 0 l).take<|aU i.size i.size b - aU i.size 0 l).toArray}})(z:i.size<=sizeLine):wpAny (model a w) A (getItem (.ref t)<|.ref d) Q E s:=by
 have x:sizeOk (.seq ((i.toList.drop<|aU i.size 0 l).take<|aU i.size i.size b - aU i.size 0 l).toArray):=by
  show((i.toList.drop<|aU i.size 0 l).take<|aU i.size i.size b - aU i.size 0 l).toArray.size<=sizeLine;rw[i3,WE,Xh,Wz];omega
 have r:aU i.size i.size b<=i.size:=AI _ _ (mZ _) b;obtain⟨o,u,J,X⟩:=id f;have B:s.TypeIs (.ref d) "slice":=⟨o,u,J⟩;delta getItem
 try with_reducible refine NE ?_
 first|refine HD (IN ?_)|skip
 refine HD<|wpAny_sequenceKey c.typeIs ax ?_;refine HD (wpAny_callSpecial?_slot (name:=Str.ofString "__getitem__") c.typeIs GL
  (wpAny_call_entry GL c.typeIs entry_tuple_getitem ?_ (args_tuple_getitem _ _)))
 show wpAny _ _ (Builtin.Tuple.tupleItemsOf (.ref t) >>=_) _ _ s;refine HD<|tupleItemsOf_ c ?_;refine HD<|wpAny_typeOf B ?_;rw[GT ax];refine HD<|amY f g p ?_;have V:¬((((aU i.size 0 l:Nat):Int)==0 && (1:Int)==1 && (aU i.size i.size b - aU i.size 0 l)==i.size)=true):=by
  intro q;rw[Xg,Xg] at q;have n:((aU i.size 0 l:Nat):Int)=0:=eq_of_beq q.1.1;have k:aU i.size i.size b - aU i.size 0 l=i.size:=eq_of_beq q.2;exact j ⟨by omega,by omega⟩
 show wpAny _ _ (if (((aU i.size 0 l:Nat):Int)==0 && (1:Int)==1 && (aU i.size i.size b - aU i.size 0 l)==i.size)=true then _ else _) _ _ s;rw[GM V,atW]
 first
  |exact HD (m:=Builtin.Tuple.tupleExact _) (Uf (IN ⟨_,O,IN h⟩) x)
  |exact HD (m:=Builtin.Tuple.tupleExact _) (Uf (HD<|IN<|IN ⟨_,O,IN h⟩) x)
  |exact HD (HD (m:=Builtin.Tuple.tupleExact _)<|Uf (IN<|IN ⟨_,O,IN h⟩) x)
  |exact HD (HD (m:=Builtin.Tuple.tupleExact _)<|Uf (IN ⟨_,O,IN h⟩) x)
end
end HT
section
open PyProof.Rows
abbrev TO:=St->Hp->(re->Hp->Prop)->Prop
def PO(X:Cx)(e:Option Expr)(t:TO):Prop:=
 ∀(B:bn)(s:Ev)(b:St)(H:Hp)(Q:re->Hp->Prop),Yp X B b H s->t b H Q->
  wpAny (model X.prog X.w) X.A (evalPart e X.env) (λu d=>∃o c,Yp X B b c d/\IsPart u o/\Q o c) X.a s
def GJ:TO:=λ_ H Q=>Q none H
def xr(t:TE):TO:=λa H Q=>t a H λx b=>∃i,x=.i i/\Q (some i) b
theorem VX{s:sK}:∀{u:ca},Cj (s.map V.i) u->IntsAre u s:=by
 induction s with
 |nil=>intro u r;rw[lA] at r;cases r;exact .nil
 |cons n s h=>
  intro u r;rw[TB] at r;cases r with
  |cons b a=>
   obtain⟨t,e⟩:=b;subst e;exact .cons n t<|h a
section
variable{X:Cx}{e:Expr}{f:TE}{c d:Option Expr}{g j:TO}{pos k:Pos}
theorem asA:PO X none GJ:=by
 intro B s a H Q I h;rw[evalPart_none];exact IN ⟨none,H,I,.none,h⟩
theorem VE(h:PE X e f):PO X (some e) (xr f):=by
 intro B s a H Q I w;rw[evalPart_some];refine aL (h B s a H _ I w) λu g h=>?_;obtain⟨x,d,c,r,b⟩:=h;obtain⟨i,rfl,q⟩:=b;obtain⟨t,rfl⟩:=r;exact rC (some i) d c (.int i t) q
def xu(X:Cx)(r:V->re->re->Hp->VK->Prop):Prop:=
 ∀(B:bn)(s:Ev)(b:St)(H:Hp)(x:V)(v l u:EQ)(c d:re)(e:D9)(Q:VK),Yp X B b H s->Tf x v->s.heap.IsSliceOf e l u .none->IsPart l c->IsPart u d->r x c d H Q->
  ∃T i,typeLookup (.type T) "__getitem__"=pure (some<|.builtin i)/\s.TypeIs v T/\wpAny (model X.prog X.w) X.A (getItem v<|.ref e) (EP X B b Q) X.a s
def AJ(r:V->re->re->Hp->VK->Prop)(f:TE)(g j:TO):TE:=λa H Q=>f a H λx d=>g a d λl c=>j a c λu b=>r x l u b Q
theorem VF(L:xu X r)(P:PE X e f)(M:PO X c g)(J:PO X d j):PE X (.Subscript e (.Slice c d none k) pos) (AJ r f g j):=by
 intro B s m H Q I h;refine Subscript_<|aL (P B s m H _ I h) λv y h=>?_;obtain⟨x,H1,Y,z,E⟩:=h;refine wpAny_Slice<|aL (M B y m H1 _ Y E) λo t h=>?_;obtain⟨l,Z,W,G,D⟩:=h;refine aL (J B t m Z _ W D) λn i h=>?_;obtain⟨u,p,U,F,C⟩:=h;rw[evalPart_none];refine IN ?_;have S:Yp X B m p {i with heap:=i.heap.push {cls:=.type "slice",data:=.fields #[o,n,.none]}}:=U.kept (t':=i.toks) λb ob q=>KB _ q;obtain⟨T,id,zq⟩:=Vj (L B {i with heap:=i.heap.push {cls:=.type "slice",data:=.fields #[o,n,.none]}} m p x v o n l u i.heap.objs.size Q S z (Heap.IsSliceOf.new ..) G F C);obtain⟨R,K,N⟩:=Vk zq;show wpAny (model X.prog X.w) X.A (subscriptTail e (.Slice c d none k) v<|.ref i.heap.objs.size) (EP X B m Q) X.a {i with heap:=i.heap.push {cls:=.type "slice",data:=.fields #[o,n,.none]}};exact tail_any (ops:=[.ref i.heap.objs.size,v]) K R N (by with_unfolding_all rfl)
noncomputable def ig(x:ad)(c d:re):ad:=(x.drop<|HT.aU x.length 0 c).take (HT.aU x.length x.length d - HT.aU x.length 0 c)
theorem GK(x:ad)(c d:re):(ig x c d).length<=x.length:=by
 delta ig;rw[WE,Xh];lia
def aqQ(K:Frag):V->re->re->Hp->VK->Prop:=λx c d H Q=>∃a s,x=.r a/\aM K H a s/\
 ¬(HT.aU s.length 0 c=0/\HT.aU s.length s.length d=s.length)/\∀p,H p=none->Q (.r p) (upd H p<|.t<|ig s c d)
theorem agO:xu X (aqQ X.K):=by
 intro B s k H x v m u c d y Q I g j l p h;obtain⟨a,e,zq⟩:=Vj h;obtain⟨rfl,i,w,q⟩:=l5 zq;cases g;obtain⟨D,r,f,z⟩:=I.tuple i;have n:D.toArray.size=e.length:=by rw[i3];exact r.length.symm
 refine rC ("tuple") _ PyProof.Rows.slot_tuple_getitem.lookup f.typeIs ?_;refine HT.VA f j l p (by rw[n];exact w) ?_ (by rw[n];exact z);rw[n];refine⟨.r s.heap.objs.size,_,I.laid (t':=s.toks) (o:=.t (ig e c d)) (λb A q=>KB _ q) (mZ _) ?_,O,q _<|I.aB.fresh<|mZ _⟩;exact tR (Ut (GK e c d) z) _ ((r.drop<|HT.aU e.length 0 c).take<|HT.aU e.length e.length d - HT.aU e.length 0 c) (IsTup.new _ _)
def GN(K:Frag):R2:=λx y H Q=>∃a b c s,x=.r a/\y=.r b/\aM K H a c/\aM K H b s/\c≠ []/\c.length+s.length<=sizeLine/\
 (s=[]->Q (.r a) H)/\(s≠ []->∀p,H p=none->Q (.r p) (upd H p<|.t<|c++s))
theorem Cj.AK(r:Cj x u):u=[]↔x=[]:=by
 cases r with
 |nil=>simp
 |cons Y Y=>simp
theorem amM:ba X (binaryOp .Add) (GN X.K):=by
 intro G s C H x y v u Q I j i h;obtain⟨a,b,g,f,zq⟩:=YU h;obtain⟨rfl,rfl,B,A,n,e,m,l⟩:=V5 zq;cases j;cases i;obtain⟨F,d,p,Y⟩:=I.tuple B;obtain⟨E,c,k,Y⟩:=I.tuple A;refine HT.Vu p k (λz=>n<|d.AK.mp z) (λz=>⟨.r a,H,I,O,m<|c.AK.mp z⟩) (λz=>?_) (by rw[<-d.length,<-c.length];exact e);refine⟨.r s.heap.objs.size,_,I.laid (t':=s.toks) (o:=.t (g++f)) (λb D q=>KB _ q) (mZ _) ?_,O,l (λw=>z<|c.AK.mpr w) _<|I.aB.fresh<|mZ _⟩;exact⟨by rw[Zw];exact e,_,d.append c,IsTup.new _ _⟩
end
noncomputable def ij(n:Nat)(i:Int):lv:=if 0<=i then (if i<n then some i.toNat else none) else if -(n:Int)<=i then some (i+n).toNat else none
def di{a:Type}(x:List a)(i:Int):Option a:=(ij x.length i).bind λj=>x[j]?
theorem GO(h:ij n i=some j):seqIndex? i n=some j/\j<n/\ -(n:Int)<=i/\i<n:=by
 delta ij at h;by_cases b:0<=i;rw[GT b] at h;by_cases a:i<n;rw[GT a] at h;have e:i.toNat=j:=Uq h;exact⟨by rw[seqIndex_of b a,e],al,al,a⟩;rw[GM a] at h;cases h;rw[GM b] at h;by_cases a: -(n:Int)<=i;rw[GT a] at h;have e:(i+n).toNat=j:=Uq h;exact⟨by rw[seqIndex_neg al a,e],al,a,al⟩;rw[GM a] at h;cases h
theorem AL(h:di x i=some v):∃j,seqIndex? i x.length=some j/\x[j]?=some v/\j<x.length/\ -(x.length:Int)<=i/\i<x.length:=by
 delta di at h;cases e:ij x.length i with
 |none=>rw[e] at h;cases h
 |some j=>
  rw[e] at h;obtain⟨f,d,c,b⟩:=GO e;exact⟨j,f,h,d,c,b⟩
theorem gu{xs:List a}{j:Nat}{v:a}(h:xs[j]?=some v):di xs (j:Int)=some v:=by
 have b:j<xs.length:=(ZX.mp h).1;have e:ij xs.length (j:Int)=some j:=by
  delta ij;rw[GT (YK _),GT al];simp
 delta di;rw[e];exact h
theorem agQ(x:List a)(v:a):di (x++[v]) (-1)=some v:=by
 have h:(x++[v]).length=x.length+1:=by simp
 have e:ij (x++[v]).length (-1)=some x.length:=by
  delta ij;rw[h,GM ax,GT al];congr 1;lia
 delta di;rw[e];show(x++[v])[x.length]?=some v;simp
def GP(b:Expr):Prop:= ∀o i,subscripted b false o i=operate [o,i] (getItem o i)
def lL(X:Cx)(r:R2):Prop:=
 ∀(e U:Expr)(B:bn)(s:Ev)(b:St)(H:Hp)(x y:V)(v u:EQ)(Q:VK),Yp X B b H s->Tf x v->Tf y u->r x y H Q->
  subscripted U false v u=operate [v,u] (getItem v u)->wpAny (model X.prog X.w) X.A (subscriptTail e U v u) (EP X B b Q) X.a s
def qm(X:Cx)(i:GE)(r:V->ad->Hp->VK->Prop):Prop:=
 ∀(B:bn)(s:Ev)(b:St)(H:Hp)(x:V)(c:ad)(v:EQ)(u:ca)(Q:VK),Yp X B b H s->Tf x v->Cj c u->r x c H Q->
  wpAny (model X.prog X.w) X.A (call (.builtin i) (v::u)) (EP X B b Q) X.a s
section
variable{X:Cx}{a b:Expr}{d g:TE}{pos:Pos}
theorem lL.or{d:R2}(h:lL X r)(g:lL X d):lL X (λx y H Q=>r x y H Q\/d x y H Q):=by
 intro e U B s a H x y v u Q I c b q f;rcases q with q|q
 exact h e U B s a H x y v u Q I c b q f;exact g e U B s a H x y v u Q I c b q f
theorem amO(k:lL X r)(m:PE X a d)(l:PE X b g)(j:GP b):PE X (.Subscript a b pos) (fN r d g):=by
 intro B s c H Q I h;exact Subscript_<|Az m l I h λv u e x y o n i f q=>k a b B e c o x y v u Q n i f q (j _ _)
def GQ(K:Frag):R2:=λx y H Q=>∃p s i v,x=.r p/\y=.i i/\ak K H p s/\di s i=some v/\Q v H
def GR(K:Frag):R2:=λx y H Q=>∃p s i v,x=.r p/\y=.i i/\aM K H p s/\di s i=some v/\Q v H
def GS:R2:=λx y H Q=>∃z i c,x=.s z/\y=.i i/\z.length<=sizeLine/\di z.cps.toList i=some c/\Q (.s ⟨#[c]⟩) H
theorem apC:lL X (GQ X.K):=by
 intro e U B s c H x y v u Q I n m h d;obtain⟨p,L,i,z,zq⟩:=YU h;obtain⟨rfl,rfl,A,D,q⟩:=V_ zq;cases n;obtain⟨t,rfl⟩:=m;obtain⟨J,r,l,M⟩:=I.list A;obtain⟨j,a,G,P,F,E⟩:=AL D;obtain⟨w,g,o⟩:=r.get G;have C:=r.length;have N:=p_;have R:EP X B c Q w s:=⟨z,H,I,o,q⟩;by_cases f:0<=i;have b:i.toNat=j:=by
  rw[seqIndex_of f E] at a;exact Uq a
 exact item_listR l.isList f al (by rw[b];simpa using g) R d;have b:(i+(J.toArray.size:Int)).toNat=j:=by
  rw[seqIndex_neg al F] at a;rw[i3,<-C];exact Uq a
 exact XV (x:=w) l.isList.typeIs slot_list_getitem.lookup
  (wpAny_getItem_list_neg (Q:=λr k=>r=w/\EP X B c Q r k) l.isList al (by rw[i3] <;>lia) al (by rw[b];simpa using g) ⟨O,R⟩) d
theorem VN:lL X (GR X.K):=by
 intro e U B s a H x y v u Q I d c h g;obtain⟨p,D,i,z,zq⟩:=YU h;obtain⟨rfl,rfl,k,n,q⟩:=V_ zq;cases d;obtain⟨t,rfl⟩:=c;obtain⟨M,r,l,E⟩:=I.tuple k;obtain⟨j,A,o,L,J,G⟩:=AL n;obtain⟨w,C,f⟩:=r.get o;have m:=r.length;have F:=p_;have R:EP X B a Q w s:=⟨z,H,I,f,q⟩;exact XV (x:=w) l.typeIs slot_tuple_getitem.lookup
  (getItem_tuple (j:=j) (Q:=λr b=>r=w/\EP X B a Q r b) l al al (by rw[i3,<-m];exact A) (by simpa using C) ⟨O,R⟩) g
theorem aqN:lL X GS:=by
 intro e U D s p H x y v u Q I b r h d;obtain⟨z,i,c,zq⟩:=U1 h;obtain⟨rfl,rfl,A,f,q⟩:=V_ zq;obtain⟨t,rfl⟩:=b;obtain⟨w,rfl⟩:=r;obtain⟨j,zq⟩:=Vx (AL f);obtain⟨a,m,C,k,g⟩:=V_ zq;have l:z.cps.toList.length=z.length:=by simp[Str.length]
 rw[l] at a k g;have B:=p_;exact tail_any (Ps s z t) slot_str_getitem.lookup (getItem_str (c:=c) (by
  have o:decide (i< -(2 ^ 63:Int))=false:=XZ al;have n:decide (i≥2 ^ 63)=false:=XZ al;rw[o,n,Yg]) (by rw[a];simpa using m) ⟨.s ⟨#[c]⟩,H,I.tok _,⟨_,O⟩,q⟩) d
theorem alE(D:ca)(n j:Nat)(u:EQ):Obj.mapSeq (·.setIfInBounds j u) {cls:=.type "list",data:=.seq D.toArray n}={cls:=.type "list",data:=.seq (D.set j u).toArray n}:=by
 simp[Obj.mapSeq]
theorem Yp.lst{B:bn}{a:St}{H:Hp}{s:Ev}{p:D9}{x:ad}(I:Yp X B a H s)(h:H p=some (.l x)):
  ∃(D:ca)(n:Nat),Cj x D/\s.heap.get? p=some {cls:=.type "list",data:=.seq D.toArray n}/\x.length<=sizeLine:=by
 obtain⟨z,D,n,r,e⟩:=I.aB p _ h;exact⟨D,n,r,e,z⟩
theorem Yp.VQ{c:St}{g:ad}{D:ca}{a:Nat}(I:Yp X B c H s)(h:H p=some (.l g))(o:s.heap.get? p=some {cls:=.type "list",data:=.seq D.toArray n})(d:f {cls:=.type "list",data:=.seq D.toArray n}={cls:=.type "list",data:=.seq i.toArray a})(r:Cj y i)(z:y.length<=sizeLine)(t:Nat):
  Yp X B c (upd H p<|.l y) {s with heap:=s.heap.update p f,toks:=t}:=by
 have e:(s.heap.update p f).get? p=some {cls:=.type "list",data:=.seq i.toArray a}:=by
  rw[YQ f o (by rw[d] <;>rfl),d]
 refine I.write (x:=p) (e:=p) (by rw[h];trivial) (.inl O) (λb u j q=>(SL _ _<|KK j).trans q) ⟨_,e⟩ ?_;exact⟨z,i,a,r,e⟩
def xv:V->V->V->Hp->(Hp->Prop)->Prop:=λo i v H Q=>∃p x k j,o=.r p/\i=.i k/\H p=some (.l x)/\ij x.length k=some j/\Q (upd H p<|.l<|x.set j v)
theorem aqR:F2 X xv:=by
 intro F s x H o i v G J u Q I A B z h;obtain⟨p,y,k,j,zq⟩:=YU h;obtain⟨rfl,rfl,e,E,q⟩:=V_ zq;cases A;obtain⟨t,rfl⟩:=B;obtain⟨D,n,r,b,C⟩:=I.lst e;obtain⟨a,L,g,f⟩:=l5 (GO E);have c:=r.length;have K:=p_;have w:Yp X F x (upd H p<|.l<|y.set j v) {s with heap:=s.heap.update p (Obj.mapSeq (·.setIfInBounds j u))}:=
  I.VQ e b (alE D n j u) (r.set z j) (by rw[List.length_set];exact C) s.toks
 by_cases m:0<=k;have d:k.toNat=j:=by
  rw[seqIndex_of m f] at a;exact Uq a
 exact PySem.W.ki_setAt b m al (by rw[i3,<-c];exact f) (by rw[d];exact⟨_,w,q⟩);have d:(k+(D.toArray.size:Int)).toNat=j:=by
  rw[seqIndex_neg al g] at a;rw[i3,<-c];exact Uq a
 exact PySem.W.ki_setBack b al (by rw[i3,<-c];exact g) al (by rw[d];exact⟨_,w,q⟩)
theorem AM(l a:re)(n:Nat):(sliceBounds l a none n).1=((HT.aU n 0 l:Nat):Int)/\(sliceBounds l a none n).2.1=((HT.aU n n a:Nat):Int)/\(sliceBounds l a none n).2.2=1:=by
 refine⟨?_,?_,O⟩;cases l with
 |none=>simp[sliceBounds,HT.aU]
 |some i=>
  simp only[sliceBounds,HT.aU,Option.getD_none,show(1:Int) >0 by decide,No];by_cases h:i<0;simp only[h,No] <;>lia
  simp only[h,Op] <;>lia
 cases a with
 |none=>simp[sliceBounds,HT.aU]
 |some i=>
  simp only[sliceBounds,HT.aU,Option.getD_none,show(1:Int) >0 by decide,No];by_cases h:i<0;simp only[h,No] <;>lia
  simp only[h,Op] <;>lia
theorem apQ(D:ca)(l h:re):slicePick D.toArray l h none=((D.drop<|HT.aU D.length 0 l).take<|HT.aU D.length D.length h - HT.aU D.length 0 l).toArray:=by
 obtain⟨c,b,a⟩:=AM l h D.toArray.size;delta slicePick;rw[c,b,a];simp only[sliceRange_one,pick_run,i3] <;>rfl
def avF(K:Frag):V->re->re->Hp->VK->Prop:=λx o h H Q=>∃a s,x=.r a/\ak K H a s/\∀p,H p=none->Q (.r p) (upd H p<|.l<|ig s o h)
theorem aqU:xu X (avF X.K):=by
 intro B s k H x v m u d i w Q I e j f p h;obtain⟨a,c,rfl,g,q⟩:=h;cases e;obtain⟨D,r,t,z⟩:=I.list g;have n:=r.length;refine rC ("list") _ slot_list_getitem.lookup t.isList.typeIs ?_;refine wpAny_getItem_list_slice t.isList j f p .none ap ?_ (by rw[i3] <;>lia);rw[apQ,<-n];refine⟨.r s.heap.objs.size,_,I.laid (t':=s.toks) (o:=.l (ig c d i)) (λb y q=>KB _ q) (mZ _) ?_,O,q _<|I.aB.fresh<|mZ _⟩;exact⟨Ut (GK c d i) z,rP _ 0 ((r.drop<|HT.aU c.length 0 d).take<|HT.aU c.length c.length i - HT.aU c.length 0 d) (M2 _ O)⟩
noncomputable def iS:V->Fk
 |.a=>true
 |.b _=>true
 |.i _=>true
 |.s _=>true
 |_=>false
noncomputable def ip:V->V->Fk
 |.a,.a=>true
 |.b a,.b b=>a==b
 |.b a,.i b=>(if a then 1 else 0)==b
 |.i a,.b b=>a==(if b then 1 else 0)
 |.i a,.i b=>a==b
 |.s a,.s b=>a==b
 |_,_=>false
theorem avN{A:Gc}{s:Ev}(d:Tf y u)(r:Tf x v)(e:iS y=true)(f:iS x=true):SeqAt.EqAt A s u v (ip y x):=by
 cases y with
 |a=>
  cases d;cases x with
  |a=>cases r;exact SeqAt.EqAt.same _
  |b b=>cases r;exact SeqAt.EqAt.none_bool b
  |i b=>obtain⟨t,rfl⟩:=r;exact SeqAt.EqAt.none_int b t
  |s b=>obtain⟨t,rfl⟩:=r;exact SeqAt.EqAt.none_str b t
  |_=>exact absurd (show false=true from f) U_
 |b a=>
  cases d;cases x with
  |a=>cases r;exact SeqAt.EqAt.bool_none a
  |b b=>cases r;exact SeqAt.EqAt.bool_bool a b
  |i b=>obtain⟨t,rfl⟩:=r;exact SeqAt.EqAt.bool_int a b t
  |s b=>obtain⟨t,rfl⟩:=r;exact SeqAt.EqAt.bool_str a b t
  |_=>exact absurd (show false=true from f) U_
 |i a=>
  obtain⟨c,rfl⟩:=d;cases x with
  |a=>cases r;exact SeqAt.EqAt.int_none a c
  |b b=>cases r;exact SeqAt.EqAt.int_bool a c b
  |i b=>obtain⟨t,rfl⟩:=r;exact SeqAt.EqAt.int_int a c b t
  |s b=>obtain⟨t,rfl⟩:=r;exact SeqAt.EqAt.int_str a c b t
  |_=>exact absurd (show false=true from f) U_
 |s a=>
  obtain⟨c,rfl⟩:=d;cases x with
  |a=>cases r;exact SeqAt.EqAt.str_none a c
  |b b=>cases r;exact SeqAt.EqAt.str_bool a c b
  |i b=>obtain⟨t,rfl⟩:=r;exact SeqAt.EqAt.str_int a c b t
  |s b=>obtain⟨t,rfl⟩:=r;exact SeqAt.EqAt.str_str a c b t
  |_=>exact absurd (show false=true from f) U_
 |_=>exact absurd (show false=true from e) U_
def fS(x:V)(u:EQ):Fk:=match u with
 |.none=>ip .a x
 |.bool b=>ip (.b b) x
 |.int i _=>ip (.i i) x
 |.str z _=>ip (.s z) x
 |_=>false
theorem AN(r:Tf y u)(f:iS y=true):fS x u=ip y x:=by
 cases y with
 |a=>cases r;rfl
 |b b=>cases r;rfl
 |i i=>obtain⟨t,rfl⟩:=r;rfl
 |s z=>obtain⟨t,rfl⟩:=r;rfl
 |_=>exact absurd (show false=true from f) U_
theorem xx:∀{s:ad}{u:ca},Cj s u->s.all iS=true->u.any (fS x)=s.any λy=>ip y x:=by
 intro Y Y h;induction h with
 |nil=>exact λY=>O
 |cons r Y i=>
  intro f;rw[XJ,Xg] at f;rw[Uk,Uk,AN r f.1,i f.2]
theorem uN{A:Gc}{s:Ev}(e:Tf x v)(g:iS x=true):∀{b:ad}{c:ca},Cj b c->b.all iS=true->∀u∈c,SeqAt.EqAt A s u v (fS x u):=by
 intro Y Y h;induction h with
 |nil=>exact λY u a=>by cases a
 |cons r Y i=>
  intro f d a;rw[XJ,Xg] at f;rcases UA.mp a with rfl|a
  rw[AN r f.1];exact avN r e f.1 g;exact i f.2 d a
def e7(x:V)(s:ad):Fk:=s.any λy=>ip y x
def AO(K:Frag)(n:Fk):R2:=λx y H Q=>∃p s,y=.r p/\(ak K H p s\/aM K H p s)/\iS x=true/\s.all iS=true/\Q (.b (if n then !e7 x s else e7 x s)) H
theorem auX:ba X (compareOp .In) (AO X.K false):=by
 intro B s i H x y v u Q I d g h;obtain⟨p,j,zq⟩:=Vj h;obtain⟨rfl,a,e,f,q⟩:=V_ zq;cases g;rcases a with a|a
 obtain⟨D,r,l,z⟩:=I.list a;refine SeqAt.in_listAt (fS x) l.isList (λw c=>uN d e r f w (by simpa using c)) ⟨.b _,H,I,O,?_⟩;rw[show D.toArray.any (fS x)=D.any (fS x) by simp,xx r f];exact q;obtain⟨D,r,l,z⟩:=I.tuple a;refine SeqAt.in_tupleAt (fS x) l (λw c=>uN d e r f w (by simpa using c)) ⟨.b _,H,I,O,?_⟩;rw[show D.toArray.any (fS x)=D.any (fS x) by simp,xx r f];exact q
theorem auQ:ba X (compareOp .NotIn) (AO X.K true):=by
 intro B s i H x y v u Q I d g h;obtain⟨p,j,zq⟩:=Vj h;obtain⟨rfl,a,e,f,q⟩:=V_ zq;cases g;rcases a with a|a
 obtain⟨D,r,l,z⟩:=I.list a;refine SeqAt.notIn_listAt (fS x) l.isList (λw c=>uN d e r f w (by simpa using c)) ⟨.b _,H,I,O,?_⟩;rw[show D.toArray.any (fS x)=D.any (fS x) by simp,xx r f];exact q;obtain⟨D,r,l,z⟩:=I.tuple a;refine SeqAt.notIn_tupleAt (fS x) l (λw c=>uN d e r f w (by simpa using c)) ⟨.b _,H,I,O,?_⟩;rw[show D.toArray.any (fS x)=D.any (fS x) by simp,xx r f];exact q
theorem cE.or(h:cE X f r)(d:cE X f c):cE X f (λx H Q=>r x H Q\/c x H Q):=by
 intro B s a H x u Q I b q;rcases q with q|q
 exact h B s a H x u Q I b q;exact d B s a H x u Q I b q
theorem aoE:cE X (.type "list") (λx H Q=>∃p y,x=[.r p]/\(ak X.K H p y\/aM X.K H p y)/\∀l,H l=none->Q (.r l) (upd H l<|.l y)):=by
 intro C s A H x E Q I r h;obtain⟨p,y,rfl,f,q⟩:=h;obtain⟨u,rfl,B⟩:=Z5 r;cases B;have R:∀(D:ca),Cj y D->y.length<=sizeLine->∀(a:FS)(d:Nat),(∀b v,s.heap.get? b=some v->a.get? b=some v)->
   a.get? s.heap.objs.size=some {cls:=.type "list",dict:=none,data:=.seq D.toArray d,slots:= #[]}->EP X C A Q (.ref s.heap.objs.size) {s with heap:=a}:=λD c z a d k e=>
  ⟨.r s.heap.objs.size,_,I.laid (t':=s.toks) k (mZ _) (show cJ X.prog X.w _ a _ (.l y) from⟨z,D,d,c,e⟩),O,q _<|I.aB.fresh<|mZ _⟩
 rcases f with f|f
 obtain⟨D,c,i,z⟩:=I.list f;have g:=c.length;obtain⟨o,j,t,n,m⟩:=i.isList;exact call_list_seq p (.inl O) j t m (λa d k e=>R D c z a d k e) (by simp only[i3] <;>lia);obtain⟨D,c,i,z⟩:=I.tuple f;have g:=c.length;obtain⟨o,j,t,n,m⟩:=i;exact call_list_seq p (.inr O) j t m (λa d k e=>R D c z a d k e) (by simp only[i3] <;>lia)
def sy(K:Frag)(T:GE)(x:V)(H:Hp):Prop:=match x with
 |.s _=>T="str"
 |.i _=>T="int"
 |.r p=>(T="list"/\∃a,ak K H p a)\/(T="tuple"/\∃o,K.lookup p=some o/\o.cls=.type "tuple"/\o.dict=none)\/
   (T="dict"/\((∃G,H p=some (.d G))\/∃G,H p=some (.T G)))\/(T="set"/\∃S n,H p=some (.s S n))
 |_=>False
theorem GU{j:St}(I:Yp X B j H s)(r:Tf x v)(y:sy X.K T x H):
  s.TypeIs v T/\∀a,v=.ref a->∃g,s.heap.get? a=some g/\g.dict=none:=by
 cases x with
 |s z=>
  obtain⟨t,rfl⟩:=r;cases (show T="str" from y);exact⟨Ps s z t,λY e=>nomatch e⟩
 |i i=>
  obtain⟨t,rfl⟩:=r;cases (show T="int" from y);exact⟨typeIs_int s i t,λY e=>nomatch e⟩
 |r p=>
  cases r;rcases y with⟨rfl,m,q⟩|⟨rfl,o,h,k,d⟩|⟨rfl,h⟩|⟨rfl,S,n,h⟩
  obtain⟨D,zq⟩:=Vx (I.list q);obtain⟨Y,l,Y⟩:=Vk zq;refine⟨l.isList.typeIs,λa e=>?_⟩;cases e;obtain⟨o,n,e,c,d,Y⟩:=l;exact qF o e d;refine⟨qF o (I.dg p o h) k,λa e=>?_⟩;cases e;exact qF o (I.dg _ o h) d;have z:∃o,s.heap.get? p=some o/\o.ExactDict:=by
   rcases h with⟨G,h⟩|⟨G,h⟩
   obtain⟨Y,Y,Y,Y,o,Y,Y,e,b,Y⟩:=I.aB p _ h;exact qF o e b;obtain⟨Y,Y,Y,Y,o,Y,Y,e,b,Y⟩:=I.aB p _ h;exact qF o e b
  obtain⟨o,e,b⟩:=z;refine⟨qF o e b.1,λa f=>?_⟩;cases f;exact qF o e b.2.1;obtain⟨o,Y,Y,Y,zq⟩:=YU (I.aB p _ h);obtain⟨e,b,Y⟩:=Vk zq;refine⟨qF o e b.1,λa f=>?_⟩;cases f;exact qF o e b.2.1
 |_=>exact False.elim y
def VZ(K:Frag)(T:GE)(r:V->ad->Hp->VK->Prop)(t:TE):TE:=λb H Q=>t b H λx a=>sy K T x a/\r x [] a Q
def AQ(K:Frag)(T:GE)(r:V->ad->Hp->VK->Prop)(o:TE)(t:TA):TE:=λa H Q=>o a H λx b=>sy K T x b/\t a b λs c=>r x s c Q
variable{o e:Expr}{f:jp}{k:TE}{t:TA}{j:Str}{l c:Pos}{T i:GE}{r:V->ad->Hp->VK->Prop}
theorem arH(p:PlainAttrs T)(t:Slot T j i)(R:typeOf (.builtin i)=pure (.type "method_descriptor"))(m:qm X i r)(f:PE X o k)(S:autoParam (attributeBase o j X.env (eval o X.env)=eval o X.env) cl)(A:autoParam ((l.endLine==c.line)=true) cl):PE X (.Call (.Attribute o j l) [] [] c) (VZ X.K T r k):=by
 intro B s a H Q I h;refine wpAny_Call_method0_late S A<|aL (f B s a H _ I h) λv e h=>?_;obtain⟨x,u,d,b,y,q⟩:=h;obtain⟨n,g⟩:=GU d b y;exact tA T i p t R n ⟨g,Calls.callWith_builtin O<|PySem.evalArgs_none<|m B e a u x [] v [] Q d b .nil q⟩
theorem GV(C:PlainAttrs T)(a:Slot T j i)(W:typeOf (.builtin i)=pure (.type "method_descriptor"))(F:qm X i r)(E:PE X o k)(G:PA X (e::f) t)(S:autoParam (attributeBase o j X.env (eval o X.env)=eval o X.env) cl)(M:autoParam (((backTo c (starEach (e::f) X.env)).all (λx=> !x.1) && (backToKw c (keywordEach [] X.env)).all (λx=>x.1.isSome)
   && decide ((e::f).length+([]:List Keyword).length+(if ([]:List Keyword).isEmpty then 0 else 1) <30))=true) cl)(U:autoParam ((l.endLine==c.line)=true) cl)(D:autoParam (starEach (e::f) X.env=(false,eval e X.env)::starEach f X.env) cl)(V:autoParam ((backTo c<|starEach f X.env).any (·.1)=false) cl):
  PE X (.Call (.Attribute o j l) (e::f) [] c) (AQ X.K T r k t):=by
 intro B s b H Q I h;refine wpAny_Call_method_late S M U O<|aL (E B s b H _ I h) λv p h=>?_;obtain⟨x,R,g,d,y,z⟩:=h;obtain⟨L,J⟩:=GU g d y;refine tA T i C a W L ⟨J,?_⟩;have A:=G c B p b R _ g z;rw[D] at A⊢;refine Calls.callWith_builtin (by show(false ||(backTo c<|starEach f X.env).any (·.1))=false;rw[V] <;>rfl)<|Calls.evalArgs_plain ?_;exact aL A (by rintro u n ⟨m,P,N,q,w⟩;exact F B n b P x m v u Q N d q w)
end
theorem Cj.one:∀{x:V}{s:ca},Cj [x] s->∃u,s=[u]/\Tf x u:=by
 intro Y Y h;cases h with
 |cons r k=>cases k;exact⟨_,O,r⟩
theorem Cj.zero:∀{u:ca},Cj [] u->u=[]
 |_,.nil=>O
theorem Cj.dropLast(h:Cj x u):Cj x.dropLast u.dropLast:=by
 induction h with
 |nil=>exact .nil
 |cons r t i=>
  cases t with
  |nil=>exact .nil
  |cons q a=>exact .cons r i
theorem Cj.rep(h:Cj x u):∀k:Nat,Cj (List.replicate k x).flatten (List.replicate k u).flatten:=by
 intro l;induction l with
 |zero=>
  exact .nil
 |succ k i=>
  rw[Vf,Vf,Wx,Wx];exact Cj.append h<|i
theorem awB{c:Type}(l:List c):l.eraseIdx (l.length - 1)=l.dropLast:=by
 induction l with
 |nil=>rfl
 |cons a r i=>
  cases r with
  |nil=>rfl
  |cons b r=>
   have e:(a::b::r).length - 1=((b::r).length - 1)+1:=by
    have d:(a::b::r).length=r.length+2:=O;have h:(b::r).length=r.length+1:=O;lia
   rw[e,List.eraseIdx_cons_succ,i]
   all_goals rfl
theorem auE(D:ca):∀(k:Nat)(a:ca),
  List.foldl (λb x=>b++x) a.toArray (List.replicate k D.toArray)=(a++(List.replicate k D).flatten).toArray:=by
 intro l;induction l with
 |zero=>
  rintro a;simp
 |succ k i=>
  rintro a;have e:a.toArray++D.toArray=(a++D).toArray:=by simp
  have c:(a++D)++(List.replicate k D).flatten=a++(List.replicate (k+1) D).flatten:=by
   rw[Vf,Wx,UR]
  rw[<-c,<-i (a++D),<-e,Vf,WG]
section
variable{X:Cx}{a:bn}{c:St}{H:Hp}{s:Ev}{l b:D9}{g d zs:ad}
theorem Yp.xB{D:ca}{f:ww->ww}(I:Yp X a c H s)(k:H l=some (.l g))(e:s.heap.get? l=some {cls:=.type "list",data:=.seq D.toArray n})(i:f D.toArray=its'.toArray)(v:Cj d its')(h:d.length<=sizeLine):
  Yp X a c (upd H l<|.l d) {s with heap:=s.heap.update l (Obj.mapSeq f),toks:=t}:=by
 have q:=PySem.IsL.update e f;rw[i] at q;refine I.write (x:=l) (e:=l) (by rw[k];exact trivial) (.inl O) (λm u j b=>(SL s.heap (Obj.mapSeq f)<|KK j).trans b) ⟨_,q⟩ ?_;exact⟨h,its',_,v,q⟩
theorem Yp.GW(I:Yp X a c H s)(v:Cj d D)(h:d.length<=sizeLine):
  Yp X a c (upd H s.heap.objs.size<|.l d) {s with heap:=s.heap.push {cls:=.type "list",data:=.seq D.toArray},toks:=t'}:=
 I.laid (λY Y q=>KB _ q) (mZ _) ⟨h,D,0,v,M2 _ O⟩
theorem Yp.fresh(I:Yp X a c H s):H s.heap.objs.size=none:=I.aB.fresh (mZ _)
theorem Yp.nY(I:Yp X a c H s)(h:H l=some (.l g)):g.length<=sizeLine/\∃(D:ca)(n:Nat),Cj g D/\g.length=D.length/\s.heap.get? l=some {cls:=.type "list",data:=.seq D.toArray n}:=by
 obtain⟨z,D,n,r,e⟩:=I.aB l _ h;exact⟨z,D,n,r,r.length,e⟩
theorem GX(h:n<=sizeLine):Builtin.List.listTooLong n=false:=by
 delta Builtin.List.listTooLong;exact XZ (oY h)
end
section
variable{X:Cx}
def avD:V->ad->Hp->VK->Prop:=λx v H Q=>∃l s y,x=.r l/\v=[y]/\H l=some (.l s)/\s.length<sizeLine/\Q .a (upd H l<|.l<|s++[y])
theorem akN:qm X "list.append" avD:=by
 intro B s g H x j v k Q I c d h;obtain⟨l,i,y,rfl,rfl,b,m,q⟩:=h;cases c;obtain⟨u,rfl,f⟩:=d.one;obtain⟨z,D,n,r,o,e⟩:=I.nY b;refine PP ZB ⟨_,e,O⟩ F.entry_list_append (F.args_list_append_2 _ _) (PySem.list_append l D.toArray n u (by rw[i3];lia)) ⟨e,?_⟩;refine⟨.a,_,I.xB (its':=D++[u]) b e ap (r.append<|.cons f .nil) ?_,O,q⟩;rw[Zw,Xv];exact XC m
def avR:V->ad->Hp->VK->Prop:=λx v H Q=>∃l b s z,x=.r l/\v=[.r b]/\H l=some (.l s)/\H b=some (.l z)/\s.length+z.length<=sizeLine/\Q .a (upd H l<|.l<|s++z)
theorem avX:qm X "list.extend" avR:=by
 intro L s p H x C v E Q I f i h;obtain⟨l,b,y,t,zq⟩:=YU h;obtain⟨rfl,rfl,d,B,J,q⟩:=i2 zq;cases f;obtain⟨u,rfl,j⟩:=i.one;cases j;obtain⟨z,D,n,r,K,e⟩:=I.nY d;obtain⟨w,g,m,k,G,o⟩:=I.nY B;have c:D.toArray.size+g.toArray.size<=sizeLine:=by rw[i3,i3];lia
 have A:¬(!D.toArray.isEmpty && Builtin.List.listTooLong (D.toArray.size+g.toArray.size))=true:=by
  rw[GX c,Bool.and_false];exact U_
 refine PP F.slot_list_extend ⟨_,e,O⟩ F.entry_list_extend (F.args_list_extend_2 _ _)
  (AutoSeq1.list_extend_list_list_0 l D.toArray n b g.toArray m A (by rw[i3];exact Ut (YJ _ _) c) (ZU c)) ⟨e,o,?_⟩
 refine⟨.a,_,I.xB (its':=D++g) d e ap (r.append k) ?_,O,q⟩;rw[Zw];exact J
def ahU:V->ad->Hp->VK->Prop:=λx v H Q=>∃l s y,x=.r l/\v=[]/\H l=some (.l s)/\s[s.length - 1]?=some y/\Q y (upd H l<|.l s.dropLast)
theorem agC:qm X "list.pop" ahU:=by
 intro B s j H x m v o Q I b c h;obtain⟨l,k,y,zq⟩:=U1 h;obtain⟨rfl,rfl,a,f,q⟩:=V_ zq;cases b;have W:=c.zero;subst W;obtain⟨z,D,n,r,i,e⟩:=I.nY a;obtain⟨u,g,d⟩:=r.get f;have A:D.toArray[D.toArray.size - 1]?=some u:=by
  show D.toArray[D.length - 1]?=some u;rw[<-Array.getElem?_toList,<-i];exact g
 refine PP F.slot_list_pop ⟨_,e,O⟩ F.entry_list_pop (F.args_list_pop_1 _) (MeetsSeq.list_pop_last l D.toArray n u A (by rw[i3];lia)) ⟨e,?_⟩;refine⟨y,_,I.xB (its':=D.dropLast) a e ?_ r.dropLast ?_,d,q⟩;show D.toArray.eraseIdxIfInBounds (D.toArray.size - 1)=D.dropLast.toArray;rw[i3,List.eraseIdxIfInBounds_toArray,awB];rw[mJ];exact Ut (Z7 _ _) z
def asR:V->ad->Hp->VK->Prop:=λx v H Q=>∃l s,x=.r l/\v=[]/\H l=some (.l s)/\Q .a (upd H l<|.l [])
theorem aqA:qm X "list.clear" asR:=by
 intro B s g H x j v u Q I c f h;obtain⟨l,i,rfl,rfl,b,q⟩:=h;cases c;have A:=f.zero;subst A;obtain⟨z,D,n,r,k,e⟩:=I.nY b;refine PP F.slot_list_clear ⟨_,e,O⟩ F.entry_list_clear (F.args_list_clear_1 _) (AutoSeq1.list_clear_list_0 l D.toArray n (by rw[i3];lia)) ⟨e,?_⟩;exact⟨.a,_,I.xB (its':=[]) (d:=[]) b e O .nil<|Wy _,O,q⟩
def GY:R2:=λx y H Q=>∃l b s z,x=.r l/\y=.r b/\H l=some (.l s)/\H b=some (.l z)/\s.length+z.length<=sizeLine/\∀p,H p=none->Q (.r p) (upd H p<|.l<|s++z)
theorem Wc:ba X (binaryOp .Add) GY:=by
 intro E s k H x y v u Q I c a h;obtain⟨l,b,p,m,zq⟩:=YU h;obtain⟨rfl,rfl,f,B,A,q⟩:=i2 zq;cases c;cases a;obtain⟨z,D,n,r,C,e⟩:=I.nY f;obtain⟨o,g,t,d,w,j⟩:=I.nY B;refine PySem.P.add_list e j ?_ (by rw[i3,i3];lia);have i:D.toArray++g.toArray=(D++g).toArray:=by simp
 rw[i];exact⟨.r _,_,I.GW (t':=s.toks) (r.append d) (by rw[Zw];exact A),O,q _ I.fresh⟩
def GZ:R2:=λx y H Q=>∃l k s,x=.r l/\y=.i k/\H l=some (.l s)/\ -(2 ^ 63)<=k/\k<2 ^ 63/\s.length*k.toNat<=sizeLine/\
 ∀p,H p=none->Q (.r p) (upd H p<|.l (List.replicate k.toNat s).flatten)
theorem aqH{a:Type}(x:List a)(k:Nat):(List.replicate k x).flatten.length=k*x.length:=by
 induction k with
 |zero=>simp
 |succ k i=>rw[Vf,Wx,Zw,i,Nat.succ_mul,Nat.add_comm]
theorem aoF:ba X (binaryOp .Mult) GZ:=by
 intro L s G H x y v u Q I j i h;obtain⟨l,k,J,zq⟩:=U1 h;obtain⟨rfl,rfl,p,A,w,f,q⟩:=YL zq;cases j;obtain⟨t,rfl⟩:=i;obtain⟨z,D,n,r,o,e⟩:=I.nY p;have b:D.toArray.size*k.toNat<=sizeLine:=by rw[i3,<-o];exact f
 have E:¬D.toArray.size*k.toNat>(2 ^ 63 - 1) / 8:=by
  have:(sizeLine:Nat)<= (2 ^ 63 - 1) / 8:=by decide
  exact oY (Ut b this)
 have C:¬(!Builtin.List.listFitsIndex k)=true:=by
  rw[fitsIndex_both A w];exact U_
 have V:¬Builtin.List.listTooLong (D.toArray.size*k.toNat)=true:=by
  rw[GX b];exact U_
 have W:List.foldl (λd c=>d++c) #[] (List.replicate (if D.toArray.isEmpty=true then 0 else k.toNat) D.toArray)=(List.replicate k.toNat D).flatten.toArray:=by
  have B:∀m:Nat,List.foldl (λd c=>d++c) #[] (List.replicate m D.toArray)=(List.replicate m D).flatten.toArray:=λm=>by
   have:=auE D m [];rw[Z4] at this;exact this
  rw[B];cases D with
  |nil=>simp
  |cons a K=>rw[GM ap]
 refine wpAny_binaryOp_repeat_ref (T:="list") (U:="int") ax ⟨_,e,O⟩ (λg=>typeIs_int g k t) noFill_list_mul F.fills_int_mul F.slot_int_rmul repeat_list F.slot_int_index.lookup
  (PP F.slot_int_rmul (typeIs_int s k t) F.entry_int_rmul (F.args_int_rmul_2 _ _) (int___rmul___int_list k t l D.toArray n)
   ⟨e,O,⟨_,e,O⟩,PP F.slot_list_mul ⟨_,e,O⟩ F.entry_list_mul (F.args_list_mul_2 _ _) (AutoListH.list___mul___list_int_3 l D.toArray n k t C E V) ⟨e,?_⟩⟩)
 rw[W];exact⟨.r _,_,I.GW (t':=s.toks) (r.rep k.toNat) (by rw[aqH,Nat.mul_comm];exact f),O,q _ I.fresh⟩
end
end
namespace G0
open PySem PySem.W PySem.Calls PyProof.Rows
theorem Wi{h:FS}:∀(s:sK)(v:ca),WellAll P h v (s.map WData.int)->IntsAre v s:=by
 intro s;induction s with
 |nil=>
  intro v w;rw[lA] at w;cases w;exact .nil
 |cons n s i=>
  intro v w;rw[TB] at w;cases w with
  |cons a b=>
   cases a;exact .cons _ _<|i _ b
theorem afJ{l:OpenLaw}(p:l.most=some n){h:FS}{v:ca}(m:l.row.toRowW.claim.pre s=true)(A:WellAll P h v s):
  ∃a g b,v=[Value.ref a]/\s=[WData.list<|b.map WData.int]/\h.get? a=some {cls:=.type "list",data:=.seq g.toArray}/\IntsAre g b/\b.length<=n:=by
 have W:WShape.hasAll [] s [.list .int]=true:=(pre_splitW m).1;have i:l.pre.holds [] {args:=s}=true:=(pre_splitW m).2;obtain⟨d,r,rfl,y,x⟩:=hasAllW_cons W;obtain rfl:=hasAllW_nil x;obtain⟨z,rfl,t⟩:=hasW_list y;obtain⟨b,rfl⟩:=items_int t;have c:b.length<=n:=by
  delta OpenLaw.pre at i;have f:(WTm.not<|.lt (.lit<|.int (n:Int))<|.len<|.arg 0).holds [] {args:=[.list<|b.map .int]}=true:=by
   have f:=(holds_andW i).1;rw[p] at f;exact f
  have e:=condW_of f (w_not<|w_lt w_lit<|w_len_list<|w_arg O);rw[VH] at e;refine Nat.le_of_not_lt λq=>?_;have k:(n:Int) < ((b.length:Nat):Int):=by omega
  first
   | (rw[ZA k] at e;exact absurd e ax)
   | (simp at e;omega)
 cases A with
 |cons j w=>
  cases w;cases j with
  |list o u=>exact uM _ _ b O O o (Wi b _ u) c
theorem asN(l:OpenLaw)(a:List WData):l.row.toRowW.claim.post a (.bool true) a=true:=
 postW_of (r:=l.row.toRowW) (X:=(true==true))
  (show WShape.has [] (.bool true) .bool=true by first|rfl|decide|simp[WShape.has,WShape.arms,WShape.armsAll])
  (show(WTm.eq .res<|.lit<|.bool true).value [] {args:=a,res:=some (.bool true),after:=a}=some (.bool<|true==true) from w_eq_bool (w_res O) w_lit) O
theorem Wm{l:OpenLaw}{q:Fa}{e:ac}{X:(ce)->FS->Prop}{P:FM->FS->Prop}(F:l.most=some n)(y:d.params.defaults=[])(g:∀(w:FM)(s K:Ev)(m t:ce)(c:D9)(o:Obj)(p k T:EQ)(a:D9)(v:ca)(j:sK),
   Ground q e [] X w s m t K.heap->P w K.heap->
   K.heap.get? c=some o->o.data=.func (docDef d.name d.params d.body d.scope p k T)->K.heap.CodeRec k d.name->m d.name=some (.ref c)->
   K.heap.get? a=some {cls:=.type "list",data:=.seq v.toArray}->IntsAre v j->j.length<=n->K.gens= #[]->
   codeAny (model l.prog w) callerA (.call (.ref c) ⟨[.ref a],[]⟩) (λr i=>r=.ok (.ret (.bool true))/\OldK K.heap i.heap/\i.os=K.os/\AllBare i.gens) K):
  WalkO q e X P l.row.toRowW d [] (λf v=>PySem.call f v):=by
 intro w s K m t G Y c o p k T R V E L J D z I x u as B U A W nZ;obtain rfl:R=.none:=Dflts.none D y;obtain rfl:V=.none:=Dflts.noKw D;obtain⟨a,v,j,zq⟩:=U1 (afJ F B W);obtain⟨rfl,rfl,Z,h,b⟩:=V_ zq;refine enter_call<|TD (g w s K m t c o p k T a v j G Y E (fd_plain L) J z Z h b I) λr i C=>?_;obtain⟨rfl,Q,N,M⟩:=C;exact⟨.inl (uM (.bool true) (.bool true) [] O (λS=>O) (.bool true) (asN l _) (λS=> ⟨List.Pairwise.nil,λS H=>(nomatch H)⟩)),Q,N,M⟩
section
variable{prog:Fa}{w:FM}{A:Gc}{E:bi}{s:Ev}{K:Frag}
end
end G0
section
open PyProof.Rows
theorem Wn:∀{v:ca}{s:sK},IntsAre v s->Cj (s.map V.i) v:=by
 intro Y Y h;induction h with
 |nil=>exact .nil
 |cons n t Y i=>exact .cons ⟨t,O⟩ i
def A4(H:Hp):Prop:= ∀b,H b=none\/∃o x,H b=some (.b o<|.l x)
theorem auR{K:Frag}{B J:ce}{t:ca}{A:sK}(KX:K.In c.heap)(Q:c.heap.Ns mainGlobals B)(f:c.heap.Ns builtinsNs J)(Wq:∀x:Str,x≠"__name__"->J x=bootBuiltins x)(Wr:c.heap.NoLimit)(hg:c.gens= #[])(I:c.heap.get? a=some {cls:=.type "list",data:=.seq t.toArray})(X:IntsAre t A)(W:A.length<=sizeLine)(hr:dh k callerA)(F:∀j:FS,K.In j->j.Ns mainGlobals B->cY P w K B j CX k M fd [x] S)(Ws:∀(s:Ev)(u:EQ),BindsTo s fd ⟨[u],[]⟩ [(x,u)])(nS:∀H:Hp,A4 H->ak K H a (A.map V.i)->S [.r a] H (λv _=>v=.b true) λ_ _ _=>False)(A5:∀H e g,CX [] H c (λ_ _ _=>False) e g->False):
  codeAny (model P w) callerA (.call (.ref M) ⟨[.ref a],[]⟩) (λr g=>r=.ok (.ret<|.bool true)/\OldK c.heap g.heap/\g.os=c.os/\AllBare g.gens) c:=by
 have T:=Wn X;have uQ:=X.length;have p:∀H:Hp,A4 H->ak K H a (A.map V.i)->cb P w H c.heap->(∀b,H b≠none->b=a)->(H a≠none->K.lookup a=none)->
   codeAny (model P w) callerA (.call (.ref M) ⟨[.ref a],[]⟩) (λr g=>r=.ok (.ret<|.bool true)/\OldK c.heap g.heap/\g.os=c.os/\AllBare g.gens) c:=by
  intro H Y hS aB Z hK;have U:∀{b:D9}{o:Obj},c.heap.get? b=some o->H b=none->(mj c.heap H).get? b=some o:=λe n=>atH e n;have uL:∀{b:D9}{o:Obj}{C:Array DictEntry}{D:Nat},c.heap.get? b=some o->o.data=.dict C D->H b=none:=λ{b o C D} e d=>by
   cases q:H b with
   |none=>rfl
   |some u=>
    have N:b=a:=Z b (by rw[q];simp);subst N;rw[I] at e;cases e;have d':Data.seq t.toArray _=Data.dict C D:=d;cases d'
  have G:∀{b:D9}{m:ce},c.heap.Ns b m->(mj c.heap H).Ns b m:=λ{b m} ⟨o,C,D,e,d,r⟩=>qY o ⟨C,D,U e<|uL e d,d,r⟩;have G1:K.In (mj c.heap H):=λb o e=>U (KX b o e) (by
   cases q:H b with
   |none=>rfl
   |some u=>
    have N:b=a:=Z b (by rw[q];simp);subst N;rw[hK (by rw[q];simp)] at e;cases e)
  have hM:Mod K B (mj c.heap H):=⟨G1,G Q,qF J (G f) Wq,let ⟨mc,h1,h2⟩:=Wr;(qF mc (G h1) h2)⟩;have e0:nQ P w K B (mj c.heap H) callerA [] c H:=⟨O,hM,λb o e=>avS e,WK<|anJ _ _,trivial,λb f=>absurd (show b∈ ([]:pp) from f) ap,aB,.of_eq hg⟩;refine TD ((F _ G1<|G Q).run callerA [] c H ⟨[.ref a],[]⟩ [.ref a] [.r a] _ _ hr e0 (Ws c<|.ref a) (.cons O .nil)<|nS H Y hS) λr g h=>?_;cases r with
  |error e=>exact(A5 H e g h).elim
  |ok fl=>
   cases fl with
   |next=>exact False.elim h
   |brk=>exact False.elim h
   |cont=>exact False.elim h
   |ret u=>
    obtain⟨v,H',zq⟩:=Vj h;obtain⟨os,E,R,Wt,r',q⟩:=i2 zq;have q':v=.b true:=q;subst q';obtain rfl:u=Value.bool true:=r';refine⟨O,OldK.of_keep λb o e=>?_,os,E⟩;cases q:H b with
    |none=>exact R.keep b o e q (by intro z;exact absurd (show b∈ ([]:pp) from z) ap) ap
    |some u=>
     rcases Y b with z|⟨ob,xs,z⟩
     rw[q] at z;cases z;have z2:=R.iQ b ob _ z;obtain⟨e1,_⟩:=aB b _ z;obtain⟨e2,_⟩:=Wt b _ z2;rw[e] at e1;cases e1;exact e2
 cases L:K.lookup a with
 |some o=>
  have e:=KX a o L;rw[I] at e;cases e;refine p (λ_=>none) (λ_=>.inl O) (.inr (uM _ t.toArray _ L O O O ⟨by rw[i3,uQ];exact W,by simpa using T⟩)) (λb u z=>by have y:(none:Option HO)=some u:=z;cases y) (λb z=>absurd O z) λz=>absurd O z
 |none=>
  refine p (λb=>if b=a then some (.b {cls:=.type "list",data:=.seq t.toArray}<|.l<|A.map V.i) else none) (λb=>?_) (.inl<|.inr ⟨{cls:=.type "list",data:=.seq t.toArray},GT O⟩) (λb u z=>?_) (λb z=>?_) λ_=>L;by_cases f:b=a;exact .inr (qY _ ⟨_,GT f⟩);exact .inl (GM f);by_cases f:b=a;have y:=(GT f).symm.trans z;cases y;subst f;exact⟨I,by rw[VH];exact W,rP t _ T I⟩;have y:=(GM f).symm.trans z;cases y;by_cases f:b=a;exact f;exact absurd (GM f) z
theorem apS{l:PySem.W.OpenLaw}{q:Fa}{m:ac}{XP:(ce)->FS->Prop}{P:FM->FS->Prop}{K:Params->Frag}{CX:FM->cg}{sp:FM->Sp}(M:l.most=some n)(J:n<=sizeLine)(E:d.params.defaults=[])(L:dh k callerA)(R:∀(w:FM)(h:FS),P w h->(K w.params).In h)(F:∀(w:FM)(t:ce)(z:D9)(h:FS),(K w.params).In h->h.Ns mainGlobals t->t d.name=some (.ref z)->
   ∃B:Go,(∀(s:Ev)(u:EQ),BindsTo s B ⟨[u],[]⟩ [(x,u)])/\
    ∀c:FS,(K w.params).In c->c.Ns mainGlobals t->cY l.prog w (K w.params) t c (CX w) k z B [x] (sp w))(S:∀(w:FM)(H:Hp)(a:D9)(y:sK),y.length<=n->A4 H->ak (K w.params) H a (y.map V.i)->sp w [.r a] H (λv O=>v=.b true) λO O O=>False)(A5:∀(w:FM)(H:Hp)(s:Ev)(e:EQ)(A:Ev),CX w [] H s (λO O O=>False) e A->False):
  PySem.W.WalkO q m XP P l.row.toRowW d [] (λf C=>PySem.call f C):=by
 refine G0.Wm M E λw D K' t mb z o pm cd T' a C y G Y ho hd jJ I AZ p j N=>?_;have X:=R w _ Y;obtain⟨B,Q,hF⟩:=F w t z _ X G.T.g I;exact auR X G.T.g G.T.b G.T.builtins G.T.nolimit N AZ p (Ut j J) L hF Q (λH Z U=>S w H a y j Z U) λH e A=>A5 w H K' e A
noncomputable def oK(s:Fr)(j:Nat):Fr:=match s with
 |.ClassDef _ _ _ b _ _ _ _ _ _ _=>b.getD j (.Pass ⟨0,0,0,0⟩)
 |_=>.Pass ⟨0,0,0,0⟩
noncomputable def jg(s:Fr):Arguments:=match s with
 |.FunctionDef _ a _ _ _ _ _ _ _ _=>a
 |_=> {posonlyargs:=[],args:=[],vararg:=none,kwonlyargs:=[],kw_defaults:=[],kwarg:=none,defaults:=[]}
noncomputable def fU(s:Fr):Do:=match s with
 |.FunctionDef _ _ b _ _ _ _ _ _ _=>b
 |_=>[]
noncomputable def e8(s:Fr):Scope:=match s with
 |.FunctionDef _ _ _ _ _ _ c _ _ _=>c
 |_=> {kind:=.function,names:=[],isGenerator:=false,isCoroutine:=false}
abbrev uR:cg:=λ_ _ _ _ _ _=>False
abbrev E0:XK:=λ_ _ _=>False
structure oe(K:Frag)(x qual:Str)(st:Fr)(f:D9)(fd:Go):Prop where
 ex:∃(oc:EQ)(od:wE)(kV T' pm:EQ)(an:wE)(bz ct:EQ)(iR:Array Cl),
  fd=PySem.W.fnOf x qual (jg st) (fU st) (e8 st) .none kV T' pm an bz ct/\K.lookup f=some ⟨oc,od,.func fd,iR⟩/\PySem.W.codeIn K bz qual=true
 kp:PySem.W.keepIn K (.ref f)=true
section
variable{P:Fa}{w:FM}{K:Frag}{mg:ce}{base:FS}
theorem oe.binds{p:ac}(F:oe K x q s f d)(h:∀(k T m:EQ)(a:wE)(b c:EQ)(u:ca),u.length=p.length->bindArgs (PySem.W.fnOf x q (jg s) (fU s) (e8 s) .none k T m a b c) ⟨u,[]⟩=pure (p.zip u)):TV K d p []:=by
 obtain⟨e,o,k,T,m,a,b,c,i,zq⟩:=Xu F.ex;obtain⟨rfl,l,j⟩:=Vk zq;exact .all<|h k T m a b c
theorem G3{f:D9}{d:EQ}{o a:wE}{i:Array Cl}{V T p b t:EQ}(l:K.lookup f=some ⟨d,o,.func<|PySem.W.fnOf x q (jg s) (fU s) (e8 s) .none V T p a b t,i⟩)(c:PySem.W.codeIn K b q=true)(k:PySem.W.keepIn K (.ref f)=true):oe K x q s f (PySem.W.fnOf x q (jg s) (fU s) (e8 s) .none V T p a b t):=⟨⟨d,o,V,T,p,a,b,t,i,O,l,c⟩,k⟩
end
theorem lM{B:Prop}(h:B):if false=true then A else B:=by
 rw[GM U_];exact h
theorem iq{B:Prop}(h:A):if true=true then A else B:=by
 rw[GT O];exact h
theorem cT{B:Prop}[Decidable c](b:c->A)(a:¬c->B):if c then A else B:=by
 by_cases h:c;rw[GT h];exact b h;rw[GM h];exact a h
def aq(H a:Hp):Prop:= ∀b o,H b=some o->a b=some o
theorem aq.refl(H:Hp):aq H H:=λY Y h=>h
theorem aq.trans(a:aq H e)(b:aq e d):aq H d:=λc o h=>b c o (a c o h)
theorem aq.free(e:aq H a)(h:a l=Option.none):H l=Option.none:=by
 cases q:H l with
 |none=>rfl
 |some o=>
  rw[e l o q] at h;cases h
theorem aq.seq{K:Frag}(e:aq H b)(h:ak K H a x):ak K b a x:=by
 rcases h with(h|⟨o,h⟩)|h
 exact .inl (.inl<|e _ _ h);exact .inl (.inr ⟨o,e _ _ h⟩);exact .inr h
section
variable{a:Type}[DecidableEq a]
noncomputable def jM(G:List (a×V))(k:a):ld:=(G.find? λv=>decide (v.1=k)).map (·.2)
noncomputable def Ta(G:List (a×V))(k:a)(v:V):List (a×V):=
 if (G.any λb=>decide (b.1=k))=true then G.map (λb=>if b.1=k then (b.1,v) else b) else G++[(k,v)]
theorem sI{p:a×V}(e:p.1=k):jM (p::r) k=some p.2:=by simp[jM,Zl,e]
theorem mD{p:a×V}(e:¬p.1=k):jM (p::r) k=jM r k:=by simp[jM,Zl,e]
theorem G4(k:a):∀G:List (a×V),(G.any λv=>decide (v.1=k))=(jM G k).isSome:=by
 intro l;induction l with
 |nil=>
  exact O
 |cons p r i=>
  rw[Uk];by_cases e:p.1=k;simp only[sI e,ZA e,Bool.true_or,Option.isSome_some];rw[mD e,XZ e,Bool.false_or];exact i
theorem A6(G:List (a×V))(k:a)(v:V):(Ta G k v).length<=G.length+1:=by
 delta Ta;split;rw[VH];exact Yn _;rw[Zw,Xm,TH];exact mZ _
theorem A7{G':List (a×V)}(v:V)(h:jM G' k=none):Ta G' k v=G'++[(k,v)]:=by
 delta Ta;rw[G4,h];exact GM ax
theorem gT.Wv(r:gT o u):o.isSome=u.isSome:=by
 cases o with
 |none=>cases u with
  |none=>rfl
  |some Y=>exact(show False from r).elim
 |some Y=>cases u with
  |none=>exact(show False from r).elim
  |some Y=>rfl
theorem KV.val(r:KV G v)(k:a):gT (jM G k) (valueAt v k):=by
 delta KV at r;induction r with
 |nil=>exact True.intro
 | @cons p q g s h t i=>
  obtain⟨d,f⟩:=h;by_cases e:p.1=k;have c:q.1=k:=d.symm.trans e;have b:valueAt (q::s) k=some q.2:=by simp[valueAt,Zl,c]
  rw[sI e,b];exact f;have c:¬q.1=k:=λz=>e (d.trans z);have b:valueAt (q::s) k=valueAt s k:=by simp[valueAt,Zl,c]
  rw[mD e,b];exact i
theorem KV.any(r:KV G s)(k:a):(G.any λv=>decide (v.1=k))=s.any λv=>decide (v.1=k):=by
 delta KV at r;induction r with
 |nil=>rfl
 |cons h t i=>rw[Uk,Uk,i,h.1]
theorem KV.A8(r:KV G s)(k:a)(c:Tf y u):
  KV (G.map λv=>if v.1=k then (v.1,y) else v) (s.map λv=>if v.1=k then (v.1,u) else v):=by
 delta KV at r⊢;induction r with
 |nil=>exact .nil
 | @cons p q g f h t i=>
  rw[TB,TB];refine .cons ?_ i;obtain⟨b,d⟩:=h;by_cases e:p.1=k;rw[GT e,GT<|b.symm.trans e];exact⟨b,c⟩;rw[GM e,GM<|λz=>e<|b.trans z];exact⟨b,d⟩
theorem KV.put(r:KV G v)(k:a)(b:Tf y u):KV (Ta G k y) (stored v k u):=by
 delta Ta stored;rw[r.any k];by_cases e:(v.any λc=>decide (c.1=k))=true;rw[GT e,GT e];exact r.A8 k b;rw[GM e,GM e];exact UF r ⟨O,b⟩
theorem KV.length{G:List (a×V)}{v:List (a×EQ)}(r:KV G v):G.length=v.length:=Id r
end
theorem xE(r:Tf (kV k) u):(dG P w).is k u=true:=by
 cases k with
 |inl i=>obtain⟨t,e⟩:=(show ∃t,u=Value.int i t from r);subst e;exact apX P w i t
 |inr x=>obtain⟨t,e⟩:=(show ∃t,u=Value.str x t from r);subst e;exact wX P w x t
theorem G5:∀{s:List YD}{u:ca},Cj (s.map kV) u->ItemsAre (dG P w) s u
 |[],_,r=>by rw[lA] at r;cases r;exact .nil
 |k::s,_,r=>by
  rw[TB] at r;cases r with
  |cons h t=>exact .cons (xE h) (G5 t)
abbrev KT(H:Hp):wv->ut->Prop:=Paired λp q=>p.1=q.1/\H q.2.1=some (.t<|p.1.map kV)/\Tf p.2 q.2.2
theorem KT.val(r:KT H G x)(k:List YD):gT (jM G k) ((atKey x k).map (·.2)):=by
 induction r with
 |nil=>exact True.intro
 | @cons p q f s h t i=>
  obtain⟨c,Y,d⟩:=h;by_cases e:p.1=k;have a:q.1=k:=c.symm.trans e;have b:atKey (q::s) k=some q.2:=by simp[atKey,Zl,a]
  rw[sI e,b];exact d;have a:¬q.1=k:=λz=>e (c.trans z);have b:atKey (q::s) k=atKey s k:=by simp[atKey,Zl,a]
  rw[mD e,b];exact i
theorem KT.A8(r:KT H G x)(k:List YD)(c:Tf y u):
  KT H (G.map λv=>if v.1=k then (v.1,y) else v) (x.map<|putAt k u):=by
 induction r with
 |nil=>exact .nil
 | @cons p q f s h t i=>
  rw[TB,TB];refine .cons ?_ i;obtain⟨a,b,d⟩:=h;delta putAt;by_cases e:p.1=k;rw[GT e,GT<|a.symm.trans e];exact⟨a,b,c⟩;rw[GM e,GM<|λz=>e<|a.trans z];exact⟨a,b,d⟩
theorem KT.put(r:KT H G x)(k:List YD)(h:H b=some (.t<|k.map kV))(a:Tf y u):
  KT H (Ta G k y) (storedH x k b u):=by
 have e:(G.any λv=>decide (v.1=k))=(atKey x k).isSome:=by
  rw[G4,(r.val k).Wv,Option.isSome_map]
 delta Ta storedH;rw[e];by_cases q:(atKey x k).isSome=true;rw[GT q,GT q];exact r.A8 k a;rw[GM q,GM q];exact UF r ⟨O,h,a⟩
theorem KT.keeps(r:KT H G x)(h:∀b y,H b=some (.t y)->a b=some (.t y)):KT a G x:=
 Paired.fJ r λY Y z=>⟨z.1,h _ _ z.2.1,z.2.2⟩
section
variable{P:Fa}{w:FM}{H:Hp}{h:FS}{a:D9}
theorem G6(o:cb P w H h)(e:Rd H a u):cJ P w H h a u:=e.ok o
theorem A9(o:cb P w H h)(e:Rd H a (.d G)):G.length<=sizeLine/\(a==sysModules)=false/\∃v,KV G v/\h.DictOf (dG P w) a v:=
 show cJ P w H h a (.d G) from G6 o e
theorem G7(o:cb P w H h)(e:H a=some (.d G)):G.length<=sizeLine/\(a==sysModules)=false/\∃v,KV G v/\h.DictOf (dG P w) a v:=A9 o (.inl e)
theorem A_(b:cb P w H h)(e:H a=some (.t<|k.map kV)):(tupleKind<|dG P w).is h k a:=by
 obtain⟨Y,D,r,o,f,d,n,c⟩:=(show cJ P w H h a (.t<|k.map kV) from b a _ e);exact⟨o,D.toArray,n,f,d,c,by simpa using G5 r⟩
theorem Ba(k:cb P w H h)(e:Rd H a (.T G)):G.length<=sizeLine/\(a==sysModules)=false/\
  ∃s,KT H G s/\h.DictOfH (tupleKind<|dG P w) a s:=by
 obtain⟨z,y,s,r,o,v,A,u,n,j,g,f⟩:=(show cJ P w H h a (.T G) from G6 k e);refine⟨z,y,s,r,o,v,A,u,n,j,g,λx b=>?_,f⟩;have c:∀{l:wv}{m:ut},KT H l m->∀x∈m,(tupleKind<|dG P w).is h x.1 x.2.1:=by
  intro l m q;induction q with
  |nil=>intro x b;exact nomatch b
  | @cons p q C B d t i=>
   intro x b;rcases UA.mp b with e|b
   subst e;exact A_ k (by rw[<-d.1];exact d.2.1);exact i x b
 exact c r x b
theorem arG(o:cb P w H h)(e:H a=some (.T G)):G.length<=sizeLine/\(a==sysModules)=false/\
  ∃x,KT H G x/\h.DictOfH (tupleKind<|dG P w) a x:=Ba o (.inl e)
end
def iu(H:Hp)(a:D9)(y:V)(r:ld):Prop:=
 (∃G k,Rd H a (.d G)/\y=kV k/\r=jM G k)\/∃G k b,Rd H a (.T G)/\y=.r b/\H b=some (.t<|k.map kV)/\r=jM G k
def jN(H:Hp)(a:D9)(y v:V)(c:Hp):Prop:=
 (∃G k,H a=some (.d G)/\y=kV k/\G.length<sizeLine/\c=upd H a (.d<|Ta G k v))\/
 ∃G k b,H a=some (.T G)/\y=.r b/\H b=some (.t<|k.map kV)/\G.length<sizeLine/\c=upd H a (.T<|Ta G k v)
theorem iu.k{H:Hp}{a:D9}{G:db}{k:YD}(e:H a=some (.d G)):iu H a (kV k) (jM G k):=.inl ⟨G,k,.inl e,O,O⟩
theorem jN.k{H:Hp}{a:D9}{G:db}{k:YD}{v:V}(e:H a=some (.d G))(h:G.length<sizeLine):jN H a (kV k) v (upd H a<|.d<|Ta G k v):=.inl ⟨G,k,e,O,h,O⟩
section
variable{X:Cx}{d:bn}{f:St}{H:Hp}{s:Ev}{a:D9}{y v:V}{u r:EQ}{o:ld}{A:Gc}{E:bi}
theorem Yp.big(I:Yp X d f H s):sysModules<s.heap.objs.size:=by
 have h:mainGlobals<s.heap.objs.size:=(I.mod.glob.keeps I.bk).lt;exact Xa ax h
theorem asE{Q:bi}(C:A.units+1<cLine)(I:Yp X d f H s)(g:iu H a y (some v))(t:Tf y u)(h:∀c q,Yp X d f H q->Tf v c->Q c q):
  wpAny (model X.prog X.w) A (getItem (.ref a) u) Q E s:=by
 rcases g with⟨J,k,e,m,l⟩|⟨J,k,b,e,m,G,l⟩
 subst m;obtain⟨z,F,B,r,n⟩:=A9 I.aB e;obtain⟨c,i,j⟩:=gT.some_of (v:=v) (o:=valueAt B k) (by rw[l];exact r.val k);exact wpAny_getItem_of (xE t) n.mapOf i<|h c _ (I.tok _) j;subst m;cases (show u=Value.ref b from t);obtain⟨z,F,x,r,n⟩:=Ba I.aB e;obtain⟨c,i,j⟩:=gT.some_of (v:=v) (o:=(atKey x k).map (·.2)) (by rw[l];exact r.val k);obtain⟨p,D,L⟩:=Yb.mp i;refine wpAny_getItem_heap (tupleKind_room_in1 C) (A_ I.aB G) n D ?_;rw[L];exact h c _ (I.tok _) j
theorem Bb{h:FS}{o:HO}(I:Yp X d f H s)(m:uB (H a))(c:Heap.SameBut a s.heap h)(g:∃q,h.get? a=some q)(n:cJ X.prog X.w (upd H a o) h a o):
  Yp X d f (upd H a o) {s with heap:=h,toks:=t}:=
 I.write (x:=a) (e:=a) m (.inl O) (λb q i z=>(c.2 b i).trans z) g n
theorem G8{G:db}{v:wf}(z:G.length<=sizeLine)(b:(a==sysModules)=false)(r:KV G v)(c:h.DictOf (dG P w) a v):
  cJ P w H h a (.d G):=⟨z,b,v,r,c⟩
theorem aeJ{Q:zn}(S:A.units+1<cLine)(I:Yp X d f H s)(g:jN H a y v N)(F:Tf y u)(J:Tf v r)(h:∀D,Yp X d f N D->Q () D):
  wpAny (model X.prog X.w) A (setItem (.ref a) u r) Q E s:=by
 rcases g with⟨G,k,e,x,l,B⟩|⟨G,k,b,e,x,M,l,B⟩
 subst x B;obtain⟨z,t,R,i,C⟩:=G7 I.aB e;have m:R.length<=sizeLine:=by rw[<-i.length];exact z
 have o:(Ta G k v).length<=sizeLine:=by have:=A6 G k v;omega
 refine wpAny_setItem_pairs (hsz:=m) (xE F) C λK p n=>h _ ?_;have T:∃q,K.get? a=some q:=let ⟨q,_,_,j,_⟩:=p;⟨q,j⟩;exact Bb I (by rw[e];exact True.intro) n T<|G8 o t (i.put k J) p;subst x B;cases (show u=Value.ref b from F);obtain⟨z,t,P,i,C⟩:=arG I.aB e;have m:P.length<=sizeLine:=by rw[<-Id i];exact z
 have o:(Ta G k v).length<=sizeLine:=by have:=A6 G k v;omega
 refine wpAny_setItem_heap (hsz:=m) (tupleKind_room_in1 S) (A_ I.aB M) C λK p n=>h _ ?_;obtain⟨q,Z,ep,zq⟩:=U1 p;obtain⟨j,Y,W,V,O,U⟩:=i2 zq;refine Bb I (by rw[e];exact True.intro) n ⟨q,j⟩ ⟨o,t,_,(i.put k M J).keeps λc ys L=>?_,q,Z,ep,j,Y,W,V,U⟩;rw[av<|se L e<|λz=>nomatch z];exact L
end
def Bc(i:Expr):Prop:= ∀o v,subscripted i false o v=operate [o,v] (getItem o v)
theorem arQ{p:Fa}{w:FM}{A:Gc}{E:bi}{s:Ev}{T f:GE}{Q:bi}(l:typeLookup (.type T) "__getitem__"=pure (some<|.builtin f))(g:Bc U)(h:wpAny (model p w) A (eval v e) (λo K=>wpAny (model p w) A (eval U e) (λi J=>J.TypeIs o T/\wpAny (model p w) A (getItem o i) Q E J) E K) E s):
  wpAny (model p w) A (eval (.Subscript v U c) e) Q E s:=by
 refine Subscript_<|KM h (λo K W=>KM W (λi J a=>?_) λY Y x=>x) λY Y x=>x;obtain⟨d,a⟩:=a;delta subscriptTail;refine HD ?_;rw[getitemInPython_of_ne d.not_modules];refine HD<|wpAny_specialOf d l ?_;have R:wpAny (model p w) A (subscripted U false o i) (λr N=>wpAny (model p w) A (letTemporaryGo v o r>>=λY=>pure r) Q E N) E J:=by
  rw[g o i];exact wpAny_operating<|KM a (λr N b=>HD<|wpAny_letTemporaryGo<|IN b) λY Y x=>x
 first
  |exact IN (HD R)
  |exact HD (IN<|HD R)
  |exact HD R
theorem arD{c:St}(I:Yp X B c H s)(g:iu H a y o):s.TypeIs (.ref a) "dict":=by
 rcases g with⟨G,k,e,Y,Y⟩|⟨G,k,b,e,Y,Y,Y⟩
 obtain⟨Y,Y,v,Y,d⟩:=A9 I.aB e;exact d.typeIs;obtain⟨Y,Y,x,Y,d⟩:=Ba I.aB e;exact d.typeIs
def G9(d t:TE):TE:=λb H Q=>d b H λx e=>t b e λy c=>∃a v,x=.r a/\iu c a y (some v)/\Q v c
def G_(t e:TE):TE:=λc H Q=>t c H λy f=>e c f λx d=>∃a o,x=.r a/\iu d a y o/\Q (.b o.isSome) d
def Ha(t e:TE):TE:=λc H Q=>t c H λy f=>e c f λx d=>∃a o,x=.r a/\iu d a y o/\Q (.b<|!o.isSome) d
def Hb(e t d:TE):TS:=λD b H=>d b H λv h=>e b h λx g=>t b g λy f=>∃a c,x=.r a/\jN f a y v c/\D.nx b c
section
variable{X:Cx}{o i e d:Expr}{f j uJ:Pos}{b c k:TE}
theorem avH(n:X.A.units+1<cLine)(t:PE X o b)(w:PE X i c)(p:Bc i):PE X (.Subscript o i f) (G9 b c):=by
 intro B s d H Q I h;refine arQ PySem.F.slot_dict_getitem.lookup p<|aL (t B s d H _ I h) λu j h=>?_;obtain⟨x,G,D,k,l⟩:=h;refine aL (w B j d G _ D l) λM L h=>?_;obtain⟨y,E,e,r,a,v,z,g,q⟩:=h;subst z;obtain rfl:u=Value.ref a:=k;exact⟨arD e g,asE n e g r λJ K C m=>⟨v,E,C,m,q⟩⟩
theorem atZ(E:X.A.units+1<cLine)(G:PE X o b)(J:PE X i c)(C:PE X d k)(F:swapsWith d (some<|.Subscript o i j) f.line X.env=pure false):
  PS X (.Assign [.Subscript o i j] d f) (Hb b c k):=by
 intro B s e H D I h;refine wpAny_Assign_Subscript (aL (C B s e H _ I h) λr m h=>?_) F;obtain⟨v,S,P,q,z⟩:=h;refine aL (G B m e S _ P z) λu l h=>?_;obtain⟨x,R,N,p,w⟩:=h;refine aL (J B l e R _ N w) λV U h=>?_;obtain⟨y,W,M,n,a,Q,K,g,t⟩:=h;subst K;obtain rfl:u=Value.ref a:=p;exact aeJ E M g n q λT L=>⟨e,Q,L,t⟩
end
theorem ahT(h:FS)(b:sysModules<h.objs.size):cJ P w H (h.push {cls:=.type "dict",data:=.dict #[]}) h.objs.size (.d []):=
 ⟨Wy _,beq_eq_false_iff_ne.mpr<|KK<|V9 b,[],.nil,Heap.DictOf.new h⟩
def atC:TE:=λ_ H Q=>∀p,H p=none->Q (.r p) (upd H p<|.T [])
def WH(H:Hp)(a:D9):Prop:=(∃G,Rd H a<|.d G)\/∃G,Rd H a (.T G)
def aqL(f t e:TE):TE:=λb H Q=>f b H λx d=>∃a,x=.r a/\WH d a/\t b d λy g=>e b g λz c=>∃o,iu c a y o/\Q (o.getD z) c
end
set_option maxHeartbeats 4000000
section
open PyProof.Rows
theorem sM:∀(s:wP)(n:Nat)(a:o0),cellsFrom n s a=cellsFrom n s []++a:=by
 intro s;induction s with
 |nil=>intros;rfl
 |cons y r i=>
  intro n a;obtain⟨e,k⟩:=y;unfold cellsFrom;split;rw[i (n+1) ((e,n)::a),i (n+1) [(e,n)],UR];rfl;exact i n a
theorem akP{c:D9}:∀(s:wP)(n:Nat),(x,c)∈cellsFrom n s []->(x,NameKind.cell)∈s:=by
 intro s;induction s with
 |nil=>intro n h;cases h
 |cons y r i=>
  intro n h;obtain⟨e,k⟩:=y;unfold cellsFrom at h;split at h;rename_i hk;rw[sM] at h;rcases U6.mp h with h|h
  exact N4 _ (i _ h);cases jS.mp h;rw[show k=.cell by simpa using hk];exact Yz;exact N4 _ (i _ h)
theorem Hc:∀(l:o0),(x,c)∈l->∃c,l.lookup x=some c:=by
 intro l;induction l with
 |nil=>intro h;cases h
 |cons y r i=>
  intro h;rw[XA];cases e:x==y.1 with
  |true=>exact⟨_,O⟩
  |false=>
   rcases UA.mp h with h|h
   rw[<-h] at e;simp at e;exact i h
theorem He:∀(s:wP)(n:Nat),(x,NameKind.cell)∈s->∃c,(x,c)∈cellsFrom n s []:=by
 intro s;induction s with
 |nil=>intro n h;cases h
 |cons y r i=>
  intro n h;obtain⟨e,k⟩:=y;unfold cellsFrom;split;rw[sM];rcases UA.mp h with h|h
  cases h;exact⟨n,oQ _<|.head _⟩;obtain⟨c,b⟩:=i (n+1) h;exact⟨c,Zn _ b⟩;rename_i a;rcases UA.mp h with h|h
  cases h;exact absurd O a;exact i n h
theorem ajW{A:Gc}{E:bi}{s:Ev}{g:D9}{c:o0}{Q:Env->Ev->Prop}(j:∀h,h.Ns s.heap.objs.size (λY=>none)->(∀b o,s.heap.get? b=some o->h.get? b=some o)->CellsOk h (s.heap.objs.size+1) (cellsFrom (s.heap.objs.size+1) a.names [])->
   Q (newEnv a s.heap.objs.size g (cellsFrom (s.heap.objs.size+1) a.names c) q none .none (some r) builtinsNs) {s with heap:=h}):
  wpAny M A (newFunctionEnv a g c [] q none .none<|some r) Q E s:=by
 simp only[newFunctionEnv,Option.isSome_some,No];refine HD<|wpAny_alloc ?_;refine HD<|wpAny_layCells _ (λn k f=>by cases W:k==NameKind.cell<;>simp[W]) _ _ _ _ ?_;rw[show({s with heap:=s.heap.push {cls:=.type "dict",data:=.dict #[]}}:Ev).heap.objs.size=s.heap.objs.size+1 from Sc ..];have i:=cellsFrom_ok a.names (s.heap.push {cls:=.type "dict",data:=.dict #[]}) (s.heap.objs.size+1) [] ⟨λY Y m=>(nomatch m),List.Pairwise.nil⟩ (by rw[Sc];exact mZ _);rw[Sc] at i;refine HD ?_;rw[List.forIn_nil];exact IN<|IN<|j _ ((Heap.Ns.new s.heap<|.type "dict").keeps<|pushCells_keeps _ _) (λb o e=>pushCells_keeps _ _ b o<|KB _ e) i
section
variable{X:Cx}{d:bn}{f:St}{H:Hp}{s:Ev}{a:D9}{o:HO}
theorem Yp.Be(I:Yp X d f H s)(B:H a=none)(D:X.S.heap.objs.size<=a)(L:a≠X.env.locals)(C:∀x c,X.env.cells.lookup x=some c->c≠a)(y:∀p∈X.n++d,p.1≠a)(i:cJ X.prog X.w (upd H a o) s.heap a o):Yp X d f (upd H a o) s:=by
 have W:∀b u,X.S.heap.get? b=some u->b≠a:=λb u e=>V9 (Z1 (Ix e) D);have g:∀b u,H b=some u->b≠a:=λb u e=>a_ e B;refine⟨I.ok,I.os,I.A,⟨I.base.keep,I.base.slot,λb u e n v=>?_,I.base.there,λb h e=>?_,λb u h e=>?_,λb t e=>?_⟩,I.E,I.cell,?_,λx c e=>?_,λp q=>?_,λb u e=>?_,I.len⟩;rw[av<|W b u e];exact I.base.free b u e n v;have z:=I.base.cf b h e;rw[av<|g b _ z];exact z;have z:=I.base.iQ b u h e;rw[av<|g b _ z];exact z;obtain⟨m,z⟩:=I.base.jd b t e;exact⟨m,by rw[av<|g b _ z];exact z⟩;rw[av<|KK L];exact I.free;rw[av<|C x c e];exact I.mm x c e;obtain⟨r,l,k⟩:=I.pin p q;exact⟨r,by rw[av<|y p q];exact l,k⟩;by_cases j:b=a;subst j;rw[au] at e;cases e;exact i;rw[av j] at e;exact(I.aB b u e).kj (λY Y Y q=>q) (λc q=>by rw[av<|g c _ q];exact q) λc h q=>by rw[av<|g c _ q];exact q
end
noncomputable def cZ(c:o0):wP->o0->o0
 |[],a=>a
 |(n,k)::r,a=>cZ c r (if k=.free then (n,(c.lookup n).getD 0)::a else a)
theorem Hf(v:Env):∀(s:wP)(b:o0),(∀y∈s,y.2=.free->∃c,v.cells.lookup y.1=some c)->
  (forIn s b (fun(x:Str×NameKind)(l:o0)=>match x with
   |(d,f)=>if (f==NameKind.free)=true then do let a <-cellOf v d;pure (ForInStep.yield ((d,a)::l)) else pure (ForInStep.yield l)):Sem o0)=pure (cZ v.cells s b)
 |[],b,_=>O
 |(n,k)::r,b,h=>by
  have j:=λB=>Hf v r B λy m=>h y (N4 _ m);rw[List.forIn_cons];by_cases g:k=.free;subst g;obtain⟨c,e⟩:=h (n,.free) Yz O;have p:cellOf v n=pure c:=by delta cellOf;rw[e]
  have i:cZ v.cells ((n,.free)::r) b=cZ v.cells r ((n,c)::b):=by simp[cZ,e]
  rw[i,<-j];simp[p];have o:(k==NameKind.free)=false:=by simpa using g
  have i:cZ v.cells ((n,k)::r) b=cZ v.cells r b:=by simp[cZ,g]
  rw[i,<-j];simp[o]
theorem aqP(h:∀y∈s.names,y.2=.free->∃c,e.cells.lookup y.1=some c):closureFor s e=pure (cZ e.cells s.names []):=by
 have:=Hf e s.names [] h;simp only[closureFor];rw[<-this];simp
theorem Hg:∀(s:wP)(b:o0)(x:Str)(c:D9),(cZ a s b).lookup x=some c->(b.lookup x=some c)\/((x,.free)∈s/\(a.lookup x).getD 0=c):=by
 intro s;induction s with
 |nil=>exact λ_ _ _ h=>.inl h
 |cons y r i=>
  intro b x c h;obtain⟨n,k⟩:=y
  simp only[cZ] at h;rcases i _ x c h with z|⟨g,f⟩
  by_cases e:k=.free;subst e;simp only[No] at z;rw[XA] at z;by_cases d:x==n;simp only[d] at z;have W:x=n:=eq_of_beq d;subst W;exact .inr ⟨Yz,Uq z⟩;have V:(x==n)=false:=by simpa using d
  simp only[V] at z;exact .inl z;simp only[GM e] at z;exact .inl z;exact .inr ⟨N4 _ g,f⟩
theorem Bg:∀(s:wP)(a:o0)(x:Str),((x,NameKind.free)∈s\/∃c,a.lookup x=some c)->∃c,(cZ cells s a).lookup x=some c:=by
 intro s;induction s with
 |nil=>
  intro a x h;rcases h with h|h
  cases h;exact h
 |cons y r i=>
  intro a x h;obtain⟨n,k⟩:=y
  simp only[cZ];refine i _ x ?_;rcases h with h|⟨c,h⟩
  rcases UA.mp h with e|h
  cases e;refine .inr ?_;simp[XA];exact .inl h;refine .inr ?_;by_cases b:k=.free;simp only[GT b,XA];cases d:x==n;exact⟨c,h⟩;exact⟨_,O⟩;simp only[GM b];exact⟨c,h⟩
theorem Bh{env:Env}:∀(s:wP)(x:Str),
  (s.map fun(n,k)=>if (k==NameKind.free && env.scope.kind==.function && env.kindOf n==some .cell) then (n,NameKind.cell) else (n,k)).lookup x=
   (s.lookup x).map λk=>if (k==NameKind.free && env.scope.kind==.function && env.kindOf x==some .cell) then NameKind.cell else k
 |[],_=>O
 |(n,k)::r,x=>by
  have i:=Bh (env:=env) r x;show List.lookup x ((if (k==NameKind.free && env.scope.kind==.function && env.kindOf n==some .cell)=true then (n,NameKind.cell) else (n,k))::_)=_;cases a:x==n with
  |true=>
   have e:x=n:=eq_of_beq a;subst e;by_cases h:(k==NameKind.free && env.scope.kind==.function && env.kindOf x==some .cell)=true;rw[GT h];simp only[XA,beq_self_eq_true,h8];rw[GT h];rw[GM h];simp only[XA,beq_self_eq_true,h8];rw[GM h]
  |false=>
   by_cases h:(k==NameKind.free && env.scope.kind==.function && env.kindOf n==some .cell)=true;rw[GT h];simp only[XA,a];exact i;rw[GM h];simp only[XA,a];exact i
section
variable{a:Fa}{w:FM}{A:Gc}{R:Result->Ev->Prop}{s:Ev}
theorem WQ{k:jp}{C o:EQ}(I:Nat->Ev->Prop)(p:∀n s,I n s->wpAny (model a w) A (pyNext C) (λr K=>match r with
   |none=>R (.ok .next) K
   |some v=>wpAny (model a w) A (letOwnedTupleGo t C v) (λY H=>wpAny (model a w) A (assign t e v) (λY J=>
     wpAny (model a w) A (forIn k true λc r=>if r=true then do let u <-isTrue c e (eval c e);pure (ForInStep.yield u) else pure (ForInStep.yield r)) (λu N=>
      if u=true then wpAny (model a w) A (eval l e) (λx g=>
       wpAny (model a w) A (call (.builtin "list.append") [o,x]) (λY f=>∃m,m<n/\I m f) (λY Y=>False) g) (λY Y=>False) N
      else ∃m,m<n/\I m N) (λY Y=>False) J) (λY Y=>False) H) (λY Y=>False) K) (λY Y=>False) s)(n:Nat)(h:I n s):codeAny (model a w) A (.compLoop (.ListComp l [⟨t,i,k,0⟩] b q) 0 C o e) R s:=by
 refine codeAny_loop O I (λn s D=>?_) n h;show wpAny _ A ((compTurn (.ListComp l [⟨t,i,k,0⟩] b q) 0 C o e).onRaise (λx=>do noteFrame x e;theTreesLotGoes x)) _ _ s;refine wpAny_noted ?_;rw[compTurn_list];refine HD<|Tl<|HD<|KM (p n s D) (λr K W=>?_) λY Y d=>d.elim;cases r with
 |none=>exact IN W
 |some v=>
  refine HD<|KM W (λY H E=>?_) λY Y d=>d.elim;refine HD<|KM E (λY J B=>HD<|KM B (λu N j=>?_) λY Y d=>d.elim) λY Y d=>d.elim;cases u with
  |false=>exact IN ⟨O,j⟩
  |true=>
   exact HD<|HD<|KM j (λx g z=>HD<|KM z (λY f y=>IN<|IN ⟨O,y⟩) λY Y d=>d.elim) λY Y d=>d.elim
end
def gY(X:Cx)(e:Scope)(N:ac)(b:pp)(C:D9)(s:Ev)(H:Hp):Cx where
 prog:=X.prog
 w:=X.w
 K:=X.K
 g:=X.g
 base:=X.base
 A:=X.A
 N:=N
 S:=s
 H:=H
 env:=compEnvC e (cellsFrom (C+1) e.names<|cZ X.env.cells e.names []) C X.env
 r:=X.stack
 stack:=X.stack
 ex:=b
 fn:=λx=>decide (e.names.lookup x=some .cell)
 calm:=X.calm
 n:=[]
 a:=λ_ _=>False
structure kq(X:Cx)(scope:Scope)(ln:ac)(fv:mo):Prop where
 kind:scope.kind=.function
 own:∀y∈scope.names,y.2=.cell->scope.names.lookup y.1=some .cell
 locals:∀y∈scope.names,y.2=.local->scope.names.lookup y.1=some .local
 free:∀y∈scope.names,y.2=.free->(X.env.kindOf y.1=some .cell\/X.env.kindOf y.1=some .free)
 WT:∀p∈fv,X.N[p.2]?=some p.1/\scope.names.lookup p.1=some .free
noncomputable def bJ(a:St)(f:mo):St:=f.map λp=>(a[p.2]?).join
def gZ(K:Frag):lv->V->Hp->(ad->Prop)->Prop
 |none,x,_,Q=>Q [x]
 |some n,x,H,Q=>if n=102 then ∃a s,x=.r a/\ak K H a s/\s.length=2/\Q s else ∃a s,x=.r a/\aM K H a s/\s.length=n/\Q s
theorem atE{K:Frag}(h:gZ K (some n) x H P)(k:∀s,P s->Q s):gZ K (some n) x H Q:=by
 by_cases e:n=102;have h:if n=102 then ∃a s,x=.r a/\ak K H a s/\s.length=2/\P s else ∃a s,x=.r a/\aM K H a s/\s.length=n/\P s:=h
 show if n=102 then ∃a s,x=.r a/\ak K H a s/\s.length=2/\Q s else ∃a s,x=.r a/\aM K H a s/\s.length=n/\Q s
 rw[GT e] at h⊢;obtain⟨a,s,d,c,b,q⟩:=h;exact q8 a s d c b (k _ q);have h:if n=102 then ∃a s,x=.r a/\ak K H a s/\s.length=2/\P s else ∃a s,x=.r a/\aM K H a s/\s.length=n/\P s:=h
 show if n=102 then ∃a s,x=.r a/\ak K H a s/\s.length=2/\Q s else ∃a s,x=.r a/\aM K H a s/\s.length=n/\Q s
 rw[GM e] at h⊢;obtain⟨a,s,d,c,b,q⟩:=h;exact q8 a s d c b (k _ q)
def iU:Option TT->TT
 |none=>λ_ H k=>k true H
 |some t=>t
def og(K:Frag)(w:TI)(t:lv)(v:mo)(j:Option TT)(h:TE):TE:=λd H Q=>
 w d H λJ n=>∃W:Nat->Nat->ad->Hp->Prop,(∃m,W 0 m [] n)/\∀i m s a,W i m s a->
  (J.stop i a/\∀p,a p=none->Q (.r p) (upd a p<|.l s))\/
  (J.go i a/\∀x e,J.dH i a x e->gZ K t x e λf=>
   iU j (f.map some++bJ d v) e λb g=>
    if b=true then h (f.map some++bJ d v) g λy k=>s.length<sizeLine/\∃c,c<m/\W (i+1) c (s++[y]) k
    else ∃c,c<m/\W (i+1) c s g)
section
variable{X:Cx}{A:bn}{s:St}{H:Hp}{f j:Ev}{a:Scope}{g:ac}{n:mo}{w:pp}{B:FS}{D C:D9}{m:ce}{t:Nat}
theorem kq.cells(S:kq X a g n)(I:Yp X A s H f)(h:(cZ X.env.cells a.names []).lookup x=some c):X.env.cells.lookup x=some c/\(x,NameKind.free)∈a.names:=by
 rcases Hg _ _ _ _ h with z|⟨d,b⟩
 cases z;obtain⟨j,e⟩:=I.ok.has x (S.free _ d O);rw[e] at b;have i:j=c:=b;subst i;exact⟨e,d⟩
theorem kq.Hi(S:kq X a g n)(I:Yp X A s H f):closureFor a X.env=pure (cZ X.env.cells a.names []):=
 aqP λy h k=>I.ok.has y.1 (S.free y h k)
theorem apJ(S:kq X a g n)(I:Yp X A s H f)(f2:∀b∈w,jK X A H b)(kr:∀b∈w,∃o,f.heap.get? b=some o)(os:j.os=f.os)(Y:j.gens=f.gens)(U:∀b o,f.heap.get? b=some o->j.heap.get? b=some o)(V:D=f.heap.objs.size)(h3:j.heap.objs.size=f.heap.objs.size+1)(W:C=j.heap.objs.size)(k4:∀b o,j.heap.get? b=some o->B.get? b=some o)(xC:B.Ns C m)(M:CellsOk B (C+1) (cellsFrom (C+1) a.names [])):
  Yp (gY X a (g++n.map (·.1)) (D::w) C j H) [] (g.map (λ_=>none)++bJ s n) H {j with heap:=B,toks:=t}:=by
 have L:∀{x c},(cZ X.env.cells a.names []).lookup x=some c->X.env.cells.lookup x=some c:=λh=>(S.cells I h).1;have Bi:∀{x c},(cZ X.env.cells a.names []).lookup x=some c->c<f.heap.objs.size:=λh=>by
  obtain⟨v,q⟩:=I.cell _ _ (L h);exact q.lt
 have WW:∀b∈w,b<f.heap.objs.size:=λb F=>by obtain⟨o,e⟩:=kr b F;exact Ix e
 have Hj:∀b∈D::w,b<=f.heap.objs.size:=λb F=>by
  rcases UA.mp F with e|F
  rw[e,V];exact mZ _;exact Yl (WW b F)
 have Hk:∀x,(relabel a X.env).names.lookup x=(a.names.lookup x).map λk=>if (k==NameKind.free && X.env.scope.kind==.function && X.env.kindOf x==some .cell) then NameKind.cell else k:=λx=>Bh a.names x
 have WX:∀x,a.names.lookup x=some .free->((relabel a X.env).names.lookup x=some .cell\/(relabel a X.env).names.lookup x=some .free):=λx e=>by
  rw[Hk,e];simp only[h8];split;exact .inl O;exact .inr O
 have WY:∀x,((relabel a X.env).names.lookup x=some .cell\/(relabel a X.env).names.lookup x=some .free)->(x,NameKind.free)∈a.names\/(x,NameKind.cell)∈a.names:=λx e=>by
  rw[Hk] at e;cases q:a.names.lookup x with
  |none=>rw[q] at e;rcases e with e|e<;>cases e
  |some k=>
   rw[q] at e;have hm:(x,k)∈a.names:=On q;simp only[h8] at e;by_cases N:k=.free;rw[N] at hm;exact .inl hm;have F:(k==NameKind.free)=false:=by simpa using N
   simp only[F,Bool.false_and,S_,Op] at e;rcases e with e|e
   rw[Uq e] at hm;exact .inr hm;exact absurd (Uq e) N
 have T:∀{x c},(cellsFrom (C+1) a.names<|cZ X.env.cells a.names []).lookup x=some c->(x,c)∈cellsFrom (C+1) a.names []\/(cZ X.env.cells a.names []).lookup x=some c:=λ{x c} h=>by
  rw[sM,UK] at h;cases e:(cellsFrom (C+1) a.names []).lookup x with
  |none=>rw[e] at h;exact .inr h
  |some d=>rw[e] at h;cases h;exact .inl (On e)
 have lo:∀{x c},(x,NameKind.cell)∈a.names->(cellsFrom (C+1) a.names<|cZ X.env.cells a.names []).lookup x=some c->(x,c)∈cellsFrom (C+1) a.names []:=λ{x c} J h=>by
  obtain⟨d,K⟩:=He a.names (C+1) J;obtain⟨d',e⟩:=Hc _ K;rw[sM,UK,e] at h;cases h;exact On e
 have lh:∀{x},(x,NameKind.free)∈a.names\/(x,NameKind.cell)∈a.names->∃c,(cellsFrom (C+1) a.names<|cZ X.env.cells a.names []).lookup x=some c:=λ{x} J=>by
  rw[sM,UK];cases e:(cellsFrom (C+1) a.names []).lookup x with
  |some d=>exact qY d O
  |none=>
   rcases J with J|J
   exact Bg _ _ x (.inl J);obtain⟨d,K⟩:=He a.names (C+1) J;obtain⟨d',e'⟩:=Hc _ K;rw[e] at e';cases e'
 have lf:∀{x c},a.names.lookup x=some .free->(cZ X.env.cells a.names []).lookup x=some c->(cellsFrom (C+1) a.names<|cZ X.env.cells a.names []).lookup x=some c:=λ{x c} J h=>by
  rw[sM,UK];cases e:(cellsFrom (C+1) a.names []).lookup x with
  |none=>exact h
  |some d=>
   have:=S.own _ (akP _ _<|On e) O;rw[J] at this;cases this
 have sC:f.heap.objs.size<C:=by rw[W,h3];exact VY _
 refine⟨⟨I.ok.mod,S.kind,I.ok.glob,I.ok.blt,WK W.symm,λx y c h1 h2=>?_,λx J=>lh (WY x J),λx c h e=>?_,I.ok.hd,I.ok.frames,.inl O,λb F=>⟨?_,λx c e=>?_⟩,λb o e=>⟨U b o (I.bs b o e).1,(I.bs b o e).2⟩,?_,λb o e F=>?_,λb F hf=>?_,?_,I.w6⟩,
  rfl,?_,Un.kept λb u e=>k4 b u e,qF m xC (λi x v e1 G e3=>?_),λx c e=>?_,I.aB.fresh ?_,λx c e=>(T e).elim (λz=>I.aB.fresh (Yl (Z1 sC (VM (M.empty x c z).2)))) λz=>I.mm x c (L z),λp hp=>absurd (show p∈ ([]:bn) from hp) ap,I.aB.kept λb u e=>k4 b u (U b u e),?_⟩
 rcases T h1 with Q|Q<;>rcases T h2 with P|P
 exact PySem.name_of_addr M.apart Q P;exact absurd (Xa (Bi P) sC) (Nat.not_lt_of_le<|VM (M.empty _ _ Q).2);exact absurd (Xa (Bi Q) sC) (Nat.not_lt_of_le<|VM (M.empty _ _ P).2);exact I.ok.inj x y c (L Q) (L P);exact Ut (WK W.symm) (VM (M.empty x c<|lo (On<|KF h) e).2);show b≠C;have:=Hj b F;rw[W,h3];exact V9 (Nat.lt_succ_of_le this);rcases T e with e|e
 exact mK (Nat.lt_of_le_of_lt (Hj b F)<|Z1 sC<|VM (M.empty x c e).2);have q1:=Bi e;rcases UA.mp F with z|z
 rw[z,V];exact V9 q1;exact(f2 b z).2.2.2.2.1 x c (L e);show X.base.objs.size<=j.heap.objs.size;have:=Ut I.ok.sh I.sz;lia;have G:=(I.bs b o e).1;have xF:b∈D::w:=F;rcases UA.mp xF with z|z
 have:=Ix G;rw[z,V] at this;exact yx _ this;rcases (f2 b z).2.2.2.1 with q|q
 exact I.ok.Ah b o e q;exact absurd (Z1 (Ix (I.ok.bs b o e).1) q) (yx _);have Hl:b∈bP X.stack:=hf;have xF:b∈D::w:=F;rcases UA.mp xF with z|z
 rcases UA.mp (I.wZ b Hl) with q|q
 have:=I.lt;rw[<-q,z,V] at this;exact yx _ this;exact I.FD (by rw[z,V];exact mZ _) q;rcases UA.mp (I.wZ b Hl) with q|q
 exact(f2 b z).2.1 q;exact(f2 b z).2.2.1 q;exact PySem.Heap.FunFrames.of_keeps (λb o e _=>qF o (U b o e) O) I.stack;show AllBare j.gens;rw[Y];exact I.A;have hi:g.length<=i:=by
  by_cases hi:i<g.length;exfalso;rw[WV (by simpa using hi),Y5] at G;cases q:g[i]? with
  |none=>rw[q] at G;cases G
  |some y=>rw[q] at G;cases G
  exact ZK hi
 have R:(g++n.map (·.1))[i]?=some x:=e1;rw[hY hi,Y5] at R;rw[hY (by simpa using hi),VH] at G;delta bJ at G;rw[Y5] at G;cases q:n[i - g.length]? with
 |none=>rw[q] at R;cases R
 |some p=>
  rw[q] at R G;have ex:p.1=x:=Uq R;have ev:(s[p.2]?).join=some v:=Uq G;obtain⟨g1,Z⟩:=S.WT p (zG q);rw[ex] at g1 Z;have WZ:s[p.2]?=some (some v):=by
   cases z:s[p.2]? with
   |none=>rw[z] at ev;cases ev
   |some o=>rw[z] at ev;rw[show o=some v from ev]
  have N:=S.free _ (On Z) O;obtain⟨m2,nP,hl⟩:=I.E;obtain⟨u,r,l⟩:=hl p.2 x v g1 WZ (by rcases N with k|k;exact .inr (.inl k);exact .inr (.inr k));refine qF u r (.inr ?_);rcases l with⟨k,_⟩|⟨_,c,ec,z⟩
  rcases N with k'|k'<;>(rw[k] at k';cases k')
  refine tR (WX x Z) c ?_ ?_;obtain⟨c',e'⟩:=Bg (cells:=X.env.cells) a.names [] x (.inl<|On Z);have:=L e';rw[ec] at this;cases this;exact lf Z e';obtain⟨o,ho,K⟩:=z;exact qF o (k4 c o<|U c o ho) K
 rcases T e with e|e
 exact qY none ((M.empty x c e).1);obtain⟨v,o,ho,K⟩:=I.cell x c (L e);exact rP v o (k4 c o<|U c o ho) K;show f.heap.objs.size<=C;rw[W,h3];exact Yn _;show(g.map (λ_=>none)++bJ s n).length=(g++n.map (·.1)).length;simp[bJ]
end
structure Hn(Φ:Cx->Prop)(P:Fa)(w:FM)(K:Frag)(tg:Expr)(J:It)(fp:pp)(it:D9)(tn:Nat->FS->Prop):Prop where
 mem:it∈fp
 obj:∀i h,tn i h->∀b∈fp,∃o,h.get? b=some o/\∀v,o.data≠ .cell v
 keep:∀i h h',tn i h->(∀b∈fp,∀o,h.get? b=some o->h'.get? b=some o)->tn i h'
 item:∀(X:Cx),X.prog=P->X.w=w->X.K=K->Φ X->∀(i:Nat)(B':bn)(s:Ev)(σ:St)(H:Hp)(E:bi),Yp X B' σ H s->(∀b∈fp,jK X B' H b)->tn i s.heap->J.go i H->
  wpAny (model P w) X.A (pyNext (.ref it)) (λr s1=>∃u,r=some u/\
   wpAny (model P w) X.A (letOwnedTupleGo tg (.ref it) u) (λ_ s2=>∃x H',Yp X B' σ H' s2/\Tf x u/\J.dH i H x H'/\tn (i+1) s2.heap/\∀b∈fp,H' b=none) E s1) E s
 done:∀(X:Cx),X.prog=P->X.w=w->X.K=K->Φ X->∀(i:Nat)(B':bn)(s:Ev)(σ:St)(H:Hp)(E:bi),Yp X B' σ H s->(∀b∈fp,jK X B' H b)->tn i s.heap->J.stop i H->
  wpAny (model P w) X.A (pyNext<|.ref it) (λr s1=>r=none/\Yp X B' σ H s1) E s
 self:∀(A:Gc)(i:Nat)(s:Ev)(Q:bi)(E:bi),tn i s.heap->Q (.ref it) s->wpAny (model P w) A (pyIter<|.ref it) Q E s
def Bj(g:Cx->Prop)(X:Cx)(j i:Expr)(h:TI):Prop:=
 ∀(B:bn)(s:Ev)(c:St)(H:Hp)(R:It->Hp->Prop),Yp X B c H s->h c H R->
  wpAny (model X.prog X.w) X.A (eval i X.env) (λv k=>wpAny (model X.prog X.w) X.A (pyIter v) (λY e=>
   ∃(f:D9)(p:pp)(t:Nat->FS->Prop)(J:It)(d:Hp),Y=.ref f/\Yp X B c d e/\Hn g X.prog X.w X.K j J p f t/\t 0 e.heap/\(∀b∈p,jK X B d b)/\R J d) X.a k) X.a s
abbrev X6(X:Cx):Prop:=X.calm=true
theorem PI.p(h:PI X t i w):Bj X6 X t i w:=λB s a H R I q=>
 aL (h B s a H R I q) λv m d=>aL d (by rintro Y l ⟨c,g,n,J,k,e,j,T,b,f,r⟩;exact tX c g n J k e j ⟨T.mem,T.obj,T.keep,T.item,T.done,T.self⟩ b f r)
section
variable{X:Cx}{G:bn}{A:St}{H:Hp}{w:Ev}{a:Scope}{l:ac}{f:mo}{Y K N:Expr}{B:jp}{d:Pos}{J:It}{j:pp}{R:D9}{P:Nat->FS->Prop}{L:lv}{M:Option TT}{U:TE}{k:VK}{Z:EQ->D9->Result->Ev->Prop}{E:bi}
def Bk(e:Hp->Prop)(X:Cx)(a:Scope)(l:ac)(f:mo)(K:Expr)(L:lv):Prop:=
 ∀(h:pp)(C:D9)(s:Ev)(H:Hp),e H->∃g,PG (gY X a (l++f.map (·.1)) h C s H) K g/\
  ∀(x:V)(p c:St)(b:Hp)(Q:Ch),p.length=l.length->gZ X.K L x b (λd=>d.length=l.length->Q (d.map some++c) b)->g x (p++c) b Q
def sN(X:Cx)(a:Scope)(l:ac)(f:mo)(K:Expr)(L:lv):Prop:=
 ∀(e:pp)(C:D9)(s:Ev)(H:Hp),∃g,PG (gY X a (l++f.map (·.1)) e C s H) K g/\
  ∀(x:V)(p c:St)(b:Hp)(Q:Ch),p.length=l.length->gZ X.K L x b (λd=>d.length=l.length->Q (d.map some++c) b)->g x (p++c) b Q
def uT(X:Cx)(a:Scope)(N:ac)(B:jp)(M:Option TT):Prop:=
 match M with
 |none=>B=[]
 |some t=>∃c,B=[c]/\∀(e:pp)(C:D9)(s:Ev)(H:Hp),PT (gY X a N e C s H) c t
theorem Ho(S:kq X a l f)(hc:∀V:Cx,V.A=X.A->V.calm=X.calm->V.H=H->Φ V)(k':Ψ H)(hg:Bk Ψ X a l f K L)(ht:uT X a (l++f.map (·.1)) B M)(he:∀(ex:pp)(C:D9)(s:Ev)(H:Hp),PE (gY X a (l++f.map (·.1)) ex C s H) Y U)(I:Yp X G A H w)(T:Hn Φ X.prog X.w X.K K J j R P)(st:P 0 w.heap)(f2:∀b∈j,jK X G H b)(h:∃W:Nat->Nat->ad->Hp->Prop,(∃m,W 0 m [] H)/\∀i m ys H2,W i m ys H2->
   (J.stop i H2/\∀p,H2 p=none->k (.r p) (upd H2 p<|.l ys))\/
   (J.go i H2/\∀x H3,J.dH i H2 x H3->gZ X.K L x H3 λxs=>
    iU M (xs.map some++bJ A f) H3 λb H5=>
     if b=true then U (xs.map some++bJ A f) H5 λy H6=>ys.length<sizeLine/\∃m',m'<m/\W (i+1) m' (ys++[y]) H6
     else ∃m',m'<m/\W (i+1) m' ys H5))(W0:∀D C H' s' m,Yp X G A H' s'->s'.heap.Ns C m->H' C=none->C≠X.env.locals->X.S.heap.objs.size<=C->(∀x c,X.env.cells.lookup x=some c->c≠C)->(∀p∈X.n++G,p.1≠C)->k (.r D) H'->Z (.ref D) C (.ok .next) s'):
  wpAny (model X.prog X.w) X.A (newList []) (λj' N'=>wpAny (model X.prog X.w) X.A (newFunctionEnv a X.env.globals (cZ X.env.cells a.names []) [] X.env.qual none .none (some X.env)) (λHq a'=>
   codeAny (model X.prog X.w) X.A (.compStart (.ListComp Y [⟨K,N,B,0⟩] a d) 0 (.ref R) j' {Hq with scope:=relabel a X.env}) (Z j' Hq.locals) a') E N') E w:=by
 obtain⟨W,⟨m0,w0⟩,g'⟩:=h;refine Uf<|ajW λW' xG xH ck=>?_;dsimp only at xG xH ck⊢;generalize oh:({w with heap:=w.heap.push {cls:=.type "list",dict:=none,data:=.seq ([]:ca).toArray}}:Ev)=N';have ku:w.heap.push {cls:=.type "list",dict:=none,data:=.seq ([]:ca).toArray}=N'.heap:=by rw[<-oh]
 rw[ku] at xG xH ck⊢;have Hr:N'.os=w.os:=by rw[<-oh]
 have W2:N'.gens=w.gens:=by rw[<-oh]
 have qv:N'.heap.objs.size=w.heap.objs.size+1:=by rw[<-ku,Sc]
 have k3:∀b o,w.heap.get? b=some o->N'.heap.get? b=some o:=λb o e=>by rw[<-ku];exact KB _ e
 have k4:=xH;have gD:N'.heap.get? w.heap.objs.size=some {cls:=.type "list",dict:=none,data:=.seq ([]:ca).toArray}:=by rw[<-ku];exact M2 _ O
 generalize eD:w.heap.objs.size=D at gD;generalize eC:N'.heap.objs.size=C at xG xH ck⊢;have xI:D≠C:=by rw[<-eD,<-eC,qv];exact V9 (VY _)
 have kr:∀b∈j,∃o,w.heap.get? b=some o:=λb Q=>by obtain⟨o,e,_⟩:=T.obj 0 _ st b Q;exact qY o e
 have Hs:∀b∈j,b≠D:=λb Q=>by obtain⟨o,e⟩:=kr b Q;rw[<-eD];exact V9 (Ix e)
 have W3:∀b∈j,b≠C:=λb Q=>by
  obtain⟨o,e⟩:=kr b Q;have:=Ix e;rw[<-eC,qv];exact V9 (Za this)
 generalize eX:gY X a (l++f.map (·.1)) (D::j) C N' H=V;have I4:∀t,Yp V [] (l.map (λ_=>none)++bJ A f) H {N' with heap:=W',toks:=t}:=λt=>by
  rw[<-eX];exact apJ S I f2 kr Hr W2 k3 eD.symm qv eC.symm k4 xG ck
 have xL:V.env.locals=C:=by rw[<-eX];rfl
 have uU:V.ex=D::j:=by rw[<-eX];rfl
 have W4:V.fs=bP X.stack:=by rw[<-eX];rfl
 have xP:V.prog=X.prog:=by rw[<-eX];rfl
 have xw:V.w=X.w:=by rw[<-eX];rfl
 have xK:V.K=X.K:=by rw[<-eX];rfl
 have xA:V.A=X.A:=by rw[<-eX];rfl
 have xc:Φ V:=hc V xA (by rw[<-eX];rfl) (by rw[<-eX];rfl);have Ht:V.n=[]:=by rw[<-eX];rfl
 have Bl:V.a=λ_ _=>False:=by rw[<-eX];rfl
 have Bm:V.env=compEnvC a (cellsFrom (C+1) a.names<|cZ X.env.cells a.names []) C X.env:=by rw[<-eX];rfl
 have cF:∀x c,V.env.cells.lookup x=some c->∀b∈D::j,c≠b:=λx c e b Q=>((I4 0).ok.To b (by rw[uU];exact Q)).2 x c e;have sF:∀b∈D::j,b∉V.fs:=λb Q hf=>by
  have:=(I4 0).ok.Ai b (by rw[uU];exact Q);exact this hf
 have pZ:∀{H':Hp}{oD:Obj},(∀b∈j,H' b=none)->∀b∈j,jK V [(D,oD)] H' b:=λhn b Q=>
  ⟨hn b Q,by rw[xL];exact W3 b Q,sF b (N4 _ Q),.inl (by rw[uU];exact N4 _ Q),λx c e=>cF x c e b (N4 _ Q),λp hp=>by
   rw[Ht] at hp;rcases jS.mp (show p∈ [(D,_)] from hp) with rfl
   exact(Hs b Q).symm⟩
 have c':∀a':Ev,a'={N' with heap:=W'}->
   codeAny (model X.prog X.w) X.A (.compLoop (.ListComp Y [⟨K,N,B,0⟩] a d) 0 (.ref R) (.ref D)<|compEnvC a (cellsFrom (C+1) a.names<|cZ X.env.cells a.names []) C X.env) (Z (.ref D) C) a':=by
  rintro a' rfl;refine WQ (λn s'=>V0 λi b' ys D' nn H'=>UM (Yp V [(D,{cls:=.type "list",data:=.seq (List.toArray D') nn})] (b'++bJ A f) H' s') (b'.length=l.length) (P i s'.heap) (∀b∈j,H' b=none) (Cj ys D') (ys.length<=sizeLine) (W i n ys H')) ?_ m0
   ⟨0,l.map<|λ_=>none,[],[],0,H,(I4 _).si<|λp hp=>?_,ap,T.keep 0 _ _ st<|λb _ o e=>k4 b o<|k3 b o e,λb Q=>(f2 b Q).1,.nil,Wy _,w0⟩
  rotate_left
  have Bn:=jS.mp hp;subst Bn;refine⟨k4 _ _ gD,I.aB.fresh<|WK eD,by rw[xL];exact xI,sF D Yz,λv z=>by cases z⟩;rintro n s' ⟨i,b',ys,D',nn,H',I',mB,dr,Hu,hv,hz,w'⟩;have l':=I'.pin (D,_) (oQ _ Yz);rcases g' i n ys H' w' with⟨h',qn⟩|⟨go,i'⟩
  have td:=T.done V xP xw xK xc i _ s' _ H' (λ_ _=>False) I' (pZ Hu) dr h';rw[xA] at td;refine aL td λr s1 h=>?_;obtain⟨hr,I1⟩:=h;subst hr;have Bo:=I1.pin (D,_) (oQ _ Yz);have b1:=I1.base;rw[W4,uU] at b1;have Hv:V.S=N':=by rw[<-eX];rfl
  have W5:V.H=H:=by rw[<-eX];rfl
  rw[Hv,W5] at b1;have nD:∀b o,w.heap.get? b=some o->b∉j->b∉D::j:=λb o e Q hm=>by
   rcases UA.mp hm with z|z
   have:=Ix e;rw[z,eD] at this;exact yx _ this;exact Q z
  have un:Un (bP X.stack) j H H' w.heap s1.heap:=⟨λb o e nb Q hx=>b1.keep b o (k3 b o e) nb Q (nD b o e hx),λb o e nb Q hx=>b1.slot b o (k3 b o e) nb Q (nD b o e hx),λb o e nb hx=>b1.free b o (k3 b o e) nb (nD b o e hx),
   λb o e hx=>b1.there b o (k3 b o e) (nD b o e hx),b1.cf,b1.iQ,b1.jd⟩
  have W6:s1.os=w.os:=by rw[I1.os,Hv,Hr]
  have sO:=I1.aB;rw[xP,xw] at sO;have J1:Yp X G A H' s1:=I.Tw W6 un sO I1.A λb Q=>⟨(f2 b Q).2.2.2.1,(f2 b Q).2.1,(f2 b Q).2.2.2.2.1,(f2 b Q).2.2.2.2.2⟩;have W7:∀x c,X.env.cells.lookup x=some c->c≠D:=λx c e=>by
   obtain⟨v,q⟩:=I.cell x c e;rw[<-eD];exact V9 q.lt
  have W8:∀x c,X.env.cells.lookup x=some c->c≠C:=λx c e=>by
   obtain⟨v,q⟩:=I.cell x c e;rw[<-eC,qv];exact V9 (Za q.lt)
  have pD:∀p∈X.n++G,p.1≠D:=λp hp=>by rw[<-eD];exact V9 (Ix (I.pin p hp).1)
  have pC:∀p∈X.n++G,p.1≠C:=λp hp=>by
   rw[<-eC,qv];exact V9 (Za<|Ix (I.pin p hp).1)
  have lD:D≠X.env.locals:=by rw[<-eD];exact mK I.lt
  have lC:C≠X.env.locals:=by
   rw[<-eC,qv];exact mK (Za I.lt)
  have J2:Yp X G A (upd H' D<|.l ys) s1:=Yp.Be J1 Bo.2.1 (by rw[<-eD];exact I.sz) lD W7 pD ⟨hz,rP D' nn hv Bo.1⟩;obtain⟨mC,Hw,_⟩:=I1.E;rw[xL] at Hw;have fC:H' C=none:=by have:=I1.free;rw[xL] at this;exact this
  exact W0 D C _ s1 mC J2 Hw (by rw[av<|KK xI];exact fC) lC (by rw[<-eC,qv];exact Nat.le_succ_of_le I.sz) W8 pC<|qn D Bo.2.1;have ti:=T.item V xP xw xK xc i _ s' _ H' (λ_ _=>False) I' (pZ Hu) dr go;rw[xA] at ti;refine aL ti λr s4 h=>?_;obtain⟨u,hr,h4⟩:=h;subst hr;refine aL h4 λ_ s5 h=>?_;obtain⟨x,H5,I5,r5,y5,p9,Ax⟩:=h;have Ay:=I5.pinned (pZ Ax) (T.obj _ _ p9);obtain⟨g,pg,gq⟩:=hg (D::j) C N' H k';rw[eX] at pg;have rd:=i' x H5 y5;have Hx:=pg _ s5 _ H5 x u (λf' H6=>ZZ λ(xs:ad)=>ZL (f'=xs.map some++bJ A f) (xs.length=l.length) (H6=H5) (iU M (xs.map some++bJ A f) H5 λb H5=>
    if b=true then U (xs.map some++bJ A f) H5 λy H6=>ys.length<sizeLine/\∃m',m'<n/\W (i+1) m' (ys++[y]) H6
    else ∃m',m'<n/\W (i+1) m' ys H5)) Ay r5 (gq x b' (bJ A f) H5 _ mB (by
     cases L with
     |none=>exact λhl=>⟨_,O,hl,O,rd⟩
     |some k0=>exact atE rd λxs rd hl=>⟨xs,O,hl,O,rd⟩))
  rw[xA,xP,xw,Bl,Bm] at Hx;refine aL Hx λ_ s6 h=>?_;obtain⟨f',H6,I6,xs,e6,Hy,eH,Hz⟩:=h;subst e6 eH;have HK:∀{H7:Hp}{e':St}{s7:Ev},Yp V ([(D,{cls:=.type "list",data:=.seq (List.toArray D') nn})]++sq j s5.heap) e' H7 s7->P (i+1) s7.heap/\(∀b∈j,H7 b=none)/\s7.heap.get? D=some {cls:=.type "list",data:=.seq (List.toArray D') nn}/\H7 D=none:=λ{H7 e' s7} I7=>by
   refine⟨T.keep _ _ _ p9 λb Q o e=>(I7.pin (b,o)<|oQ _<|oQ _<|xi Q e).1,λb Q=>?_,?_,?_⟩;obtain⟨o,e,d1⟩:=T.obj _ _ p9 b Q;exact(I7.pin (b,o)<|oQ _<|oQ _<|xi Q e).2.1;exact(I7.pin (D,_)<|oQ _<|Zn _ Yz).1;exact(I7.pin (D,_)<|oQ _<|Zn _ Yz).2.1
  have d':wpAny (model X.prog X.w) X.A (forIn B true λc r=>if r=true then do let ok <-isTrue c (compEnvC a (cellsFrom (C+1) a.names<|cZ X.env.cells a.names []) C X.env) (eval c<|compEnvC a (cellsFrom (C+1) a.names<|cZ X.env.cells a.names []) C X.env);pure (ForInStep.yield ok) else pure (ForInStep.yield r))
    (λok s7=>∃H7,Yp V ([(D,{cls:=.type "list",data:=.seq (List.toArray D') nn})]++sq j s5.heap) (xs.map some++bJ A f) H7 s7/\
     if ok=true then U (xs.map some++bJ A f) H7 λy H6=>ys.length<sizeLine/\∃m',m'<n/\W (i+1) m' (ys++[y]) H6
     else ∃m',m'<n/\W (i+1) m' ys H7) (λ_ _=>False) s6:=by
   cases M with
   |none=>
    have Bp:B=[]:=ht;subst Bp;exact wpAny_tests_nil (qF _ I6 Hz)
   |some t=>
    obtain⟨c,Bp,pt⟩:=(show ∃c,B=[c]/\∀(ex:pp)(C:D9)(s:Ev)(H:Hp),PT (gY X a (l++f.map (·.1)) ex C s H) c t from ht);subst Bp;have HL:=pt (D::j) C N' H;rw[eX] at HL;have q:=HL _ s6 _ _ _ I6 Hz;rw[xA,xP,xw,Bl,Bm] at q;exact wpAny_tests_one<|aL q (by rintro b s7 ⟨H7,I7,q7⟩;exact qF H7 I7 q7)
  refine aL d' λok s7 h=>?_;obtain⟨H7,I7,q7⟩:=h;cases ok with
  |false=>
   simp only[S_,Op] at q7⊢;obtain⟨m',hm,w7⟩:=q7;obtain⟨t7,f7,d7,n7⟩:=l5 (HK I7);refine qF m' hm ⟨i+1,xs.map some,ys,D',nn,H7,I7.si<|λp hp=>?_,by simpa using Hy,t7,f7,hv,hz,w7⟩;exact I7.pin p<|oQ _<|Zn _ hp
  |true=>
   simp only[No] at q7⊢;have q:=he (D::j) C N' H;rw[eX] at q;have q:=q _ s7 _ H7 _ I7 q7;rw[xA,xP,xw,Bl,Bm] at q;refine aL q λuy s8 h=>?_;obtain⟨y,H8,I8,r8,aF,m',hm,w8⟩:=h;obtain⟨t8,f8,d8,n8⟩:=l5 (HK I8);have hl:=hv.length;refine PP ZB (qF _ d8 O) F.entry_list_append (F.args_list_append_2 _ _) (PySem.list_append D D'.toArray nn uy (by rw[i3];lia)) ⟨d8,?_⟩;have I9:∀t,Yp V [] (xs.map some++bJ A f) H8 {s8 with heap:=s8.heap.update D (Obj.mapSeq (·.push uy)),toks:=t}:=λt=>
    (I8.si (pins':=[])<|λp hp=>absurd hp ap).turned (it:=D) (t':=t) (λb o Q e=>(SL s8.heap (Obj.mapSeq (·.push uy))<|KK Q).trans e) n8 (by rw[xL];exact xI) (.inl (by rw[uU];exact Yz)) (λx c e=>cF x c e D Yz)
     (λp hp=>by rw[Ht] at hp;exact absurd hp ap)
   have g9:=PySem.IsL.update d8 (·.push uy);obtain⟨n9,W9⟩:∃n9,(s8.heap.update D (Obj.mapSeq (·.push uy))).get? D=some {cls:=.type "list",data:=.seq (D'++[uy]).toArray n9}:=
    qY _ (by rw[show(D'++[uy]).toArray=D'.toArray.push uy by simp];exact g9)
   refine qF m' hm ⟨i+1,xs.map some,ys++[y],D'++[uy],n9,H8,(I9 _).si<|λp hp=>?_,by simpa using Hy,?_,f8,hv.append<|.cons r8 .nil,?_,w8⟩;have Bn:=jS.mp hp;subst Bn;exact⟨W9,n8,by rw[xL];exact xI,sF D Yz,λv z=>by cases z⟩;exact T.keep _ _ _ t8 λb Q o e=>(SL s8.heap (Obj.mapSeq (·.push uy))<|KK<|Hs b Q).trans e;rw[Zw,Xv];exact XC aF
 have W_:P 0 W':=T.keep 0 _ _ st λb _ o e=>k4 b o (k3 b o e);have e4:({w with heap:=W'}:Ev)={N' with heap:=W'}:=by rw[<-oh]
 exact codeAny_compStart_list (c' _ e4)<|T.self X.A 0 _ _ _ W_<|c' _ e4
end
section
variable{X:Cx}{c:Scope}{f:ac}{d:mo}{l j g:Expr}{n:jp}{w:Pos}{p:TI}{r:lv}{t:Option TT}{u:TE}
theorem anY(S:kq X c f d)(hc:∀H,Ψ H->∀y:Cx,y.A=X.A->y.calm=X.calm->y.H=H->Φ y)(i:∀B k H s,Yp X B k H s->Ψ H)(Y:Bj Φ X j g p)(hg:Bk Ψ X c f d j r)(R:uT X c (f++d.map (·.1)) n t)(he:∀(ex:pp)(C:D9)(s:Ev)(H:Hp),PE (gY X c (f++d.map (·.1)) ex C s H) l u)(U:autoParam (∀x,foldedSetIterable g X.env x=pure x) cu):
  PE X (.ListComp l [⟨j,g,n,0⟩] c w) (og X.K p r d t u):=by
 intro B s k H Q I h;rw[eval_ListComp];refine wpAny_comprehension_free (use:=none) O U (S.Hi I) S.kind S.locals<|aL (Y B s k H _ I h) λv s1 h1=>aL h1 λpY s2 h2=>?_;obtain⟨P,fp,tn,J,H2,zq⟩:=VL h2;obtain⟨e,E,T,G,f2,hW⟩:=i2 zq;subst e;refine Ho (Z:=λz C=>compPost (model X.prog X.w) X.A X.a none (EP X B k Q) z C) S (hc H2<|i _ _ _ _ E) (i _ _ _ _ E) hg R he E T G f2 hW ?_;intro D C H' M m I' N W hL h0 F V q;refine⟨m,N,λh' L=>⟨.r D,H',?_,O,q⟩⟩;exact I'.turned (it:=C) (t':=M.toks) (λb o hb e=>L.extBut b o hb e) W hL (.inr h0) F V
theorem apR{V:Pos}(hN:X.N.Nodup)(cp:X.N[i]?=some y)(hy:YE X.env.scope y)(Bq:swapsWith (.ListComp l [⟨j,g,n,0⟩] c w) (some<|.Name y B) V.line X.env=pure true)(S:kq X c f d)(hc:∀H,Ψ H->∀M:Cx,M.A=X.A->M.calm=X.calm->M.H=H->Φ M)(F:∀G L H s,Yp X G L H s->Ψ H)(hi:Bj Φ X j g p)(hg:Bk Ψ X c f d j r)(ht:uT X c (f++d.map (·.1)) n t)(he:∀(ex:pp)(C:D9)(s:Ev)(H:Hp),PE (gY X c (f++d.map (·.1)) ex C s H) l u)(hs:autoParam (∀x,foldedSetIterable g X.env x=pure x) cu)(hf:autoParam (X.fn y=true\/X.env.scope.names.lookup y=some .local) ay):
  PS X (.Assign [.Name y B] (.ListComp l [⟨j,g,n,0⟩] c w) V) (km (og X.K p r d t u)<|dB i):=by
 intro G s L H D I h;rw[exec_Assign_Name_used _ _ _ _ Bq];refine HD<|Tl<|HD ?_;show wpAny _ X.A (do let _ <-comprehension (.ListComp l [⟨j,g,n,0⟩] c w) c X.env _ (newList []) false (eval g X.env) (some<|assign (.Name y B) X.env)) _ _ s;refine HD (KM (wpAny_comprehension_free (use:=some (assign (.Name y B) X.env)) (Q:=λ_ E=>SP X G D .next E) O hs (S.Hi I) S.kind S.locals
  (aL (hi G s L H _ I h) λv s1 h1=>aL h1 λpY s2 h2=>?_)) (λ_ E hq=>IN (IN hq)) λ_ _ e=>e)
 obtain⟨it,fp,tn,J,H2,zq⟩:=VL h2;obtain⟨e,R,T,uH,f2,hW⟩:=i2 zq;subst e;refine Ho (k:=λx H1=>dB i x L H1 D.nx) (Z:=λP C=>compPost (model X.prog X.w) X.A X.a (some<|assign (.Name y B) X.env) (λ_ E=>SP X G D .next E) P C) S (hc H2<|F _ _ _ _ R) (F _ _ _ _ R) hg ht he R T uH f2 hW ?_;intro Y C H' E m I' ns hn W h0 U hp q;show wpAny _ X.A (assign (.Name y B) X.env<|.ref Y) _ _ _;refine wpAny_assign_Name<|FH I' hN cp hy (v:=.r Y) O (λs4 I4 h=>?_) hf;obtain⟨a,sb,ha⟩:=h;have Xd:C≠a:=by
  rcases ha with z|z
  rw[z];exact W;exact KK (U _ _ z)
 refine qF m (ns.sameBut sb Xd) (λh' Xe=>rP _ H' ?_ q);exact I4.turned (it:=C) (t':=s4.toks) (λb o hb e=>Xe.extBut b o hb e) hn W (.inr h0) U hp
theorem HM(S:kq X c f d)(o:X.calm=true)(i:PI X j g p)(k:sN X c f d j r)(h:uT X c (f++d.map (·.1)) n t)(m:∀(a:pp)(C:D9)(s:Ev)(H:Hp),PE (gY X c (f++d.map (·.1)) a C s H) l u)(b:autoParam (∀x,foldedSetIterable g X.env x=pure x) cn):
  PE X (.ListComp l [⟨j,g,n,0⟩] c w) (og X.K p r d t u):=
 anY (Φ:=X6) (Ψ:=λY=>True) S (λY Y q Y e Y=>e.trans o) (λY Y Y Y Y=>trivial) i.p (λa C s H Y=>k a C s H) h m b
theorem Xf{V:Pos}(B:X.N.Nodup)(D:X.N[i]?=some y)(h:YE X.env.scope y)(E:swapsWith (.ListComp l [⟨j,g,n,0⟩] c w) (some<|.Name y b) V.line X.env=pure true)(S:kq X c f d)(A:X.calm=true)(o:PI X j g p)(q:sN X c f d j r)(k:uT X c (f++d.map (·.1)) n t)(z:∀(a:pp)(C:D9)(s:Ev)(H:Hp),PE (gY X c (f++d.map (·.1)) a C s H) l u)(m:autoParam (∀x,foldedSetIterable g X.env x=pure x) cn)(v:autoParam (X.fn y=true\/X.env.scope.names.lookup y=some .local) ay):
  PS X (.Assign [.Name y b] (.ListComp l [⟨j,g,n,0⟩] c w) V) (km (og X.K p r d t u)<|dB i):=
 apR (Φ:=X6) (Ψ:=λY=>True) B D h E S (λY Y F Y e Y=>e.trans A) (λY Y Y Y Y=>trivial) o.p (λa C s H Y=>q a C s H) k z m v
end
section
variable{X:Cx}{c:Scope}{m:mo}
theorem ahQ(h:c.names.lookup x=some .cell):(relabel c e).names.lookup x=some .cell:=(Bh c.names x).trans (by rw[h];rfl)
theorem akD(l:YE c x)(o:(x::m.map (·.1)).Nodup):sN X c [x] m (.Name x b) none:=by
 intro e C s H;have i:YE (gY X c ([x]++m.map (·.1)) e C s H).env.scope x:=l.imp SB ahQ;refine⟨dB 0,pW (X:=gY X c ([x]++m.map (·.1)) e C s H) o O i<|l.elim (λl=>.inr<|SB l) λl=>.inl (ZA l),λv p f g Q d h=>?_⟩;obtain⟨a,rfl⟩:∃a,p=[a]:=by
  rcases p with Y|⟨a,Y|Y⟩ <;>first|exact⟨a,O⟩|cases d
 exact h O
theorem Xj(E:X.calm=true)(B:c.names.lookup x=some .local)(A:c.names.lookup y=some .local)(o:(x::y::m.map (·.1)).Nodup):sN X c [x,y] m (.Tuple [.Name x l,.Name y j] k g) (some 2):=by
 intro F C s H;generalize eX:gY X c ([x,y]++m.map (·.1)) F C s H=Xc;have f:Xc.N=x::y::m.map (·.1):=by rw[<-eX];rfl
 have t:Xc.calm=true:=by rw[<-eX];exact E
 have r:Xc.env.scope.names.lookup x=some .local:=by rw[<-eX];exact SB B
 have n:Xc.env.scope.names.lookup y=some .local:=by rw[<-eX];exact SB A
 have z:PG Xc (.Name x l) (dB 0):=pW (by rw[f];exact o) (by rw[f];rfl) (.inl r) (.inr r);have w:PG Xc (.Name y j) (dB 1):=pW (by rw[f];exact o) (by rw[f];rfl) (.inl n) (.inr n);have u:Xc.K=X.K:=by rw[<-eX];rfl
 refine qF (Ar Xc.K 2<|pX (dB 0)<|pX (dB 1) xg) (As t<|sk z<|sk w Aq) (λv p L M Q D h=>?_);obtain⟨a,b,rfl⟩:∃a b,p=[a,b]:=by
  rcases p with Y|⟨a,Y|⟨b,Y|Y⟩⟩ <;>first|exact⟨a,b,O⟩|cases D
 obtain⟨J,i,rfl,I,G,q⟩:=h;obtain⟨e,d,rfl⟩:∃e d,i=[e,d]:=by
  rcases i with Y|⟨e,Y|⟨d,Y|Y⟩⟩ <;>first|exact⟨e,d,O⟩|cases G
 exact tH J _ O (by rw[u];exact I) O e _ O d _ O O (q O)
theorem ba.imp(h:ba X f r)(i:∀x y H Q,a x y H Q->r x y H Q):ba X f a:=λB s b H x y v u Q I d c q=>h B s b H x y v u Q I d c (i _ _ _ _ q)
theorem cE.imp(h:cE X f r)(i:∀x H Q,a x H Q->r x H Q):cE X f a:=λB s b H x u Q I v q=>h B s b H x u Q I v (i _ _ _ q)
def HN(K:Frag):R2:=λx y H Q=>match x,y with
 |.i i,.i j=>Q (.i<|i+j) H
 |.s i,.s j=>i.length+j.length<=sizeLine/\Q (.s<|i++j) H
 |.r l,.r b=>GY (.r l) (.r b) H Q\/GN K (.r l) (.r b) H Q
 |_,_=>False
theorem apT:ba X (binaryOp .Add) (HN X.K):=by
 refine ba.imp ((aoC.or apK).or<|Wc.or amM) λx y H Q h=>?_;cases x<;>cases y<;>first
  |exact False.elim h
  |exact .inl (.inl ⟨_,_,O,O,h⟩)
  |exact .inl (.inr ⟨_,_,O,O,h⟩)
  |exact .inr h
def lN(C:Int->Int->Prop)(g:Int->Int->V):R2:=λx y H Q=>match x,y with
 |.i i,.i j=>C i j/\Q (g i j) H
 |_,_=>False
theorem Br(x y:V)(H:Hp)(Q:VK)(h:lN C g x y H Q):rI C g x y H Q:=by
 cases x<;>cases y<;>first
  |exact False.elim h
  |exact⟨_,_,O,O,h⟩
theorem uW(x y:V)(H:Hp)(Q:VK)(h:lN (λY Y=>True) g x y H Q):mq g x y H Q:=by
 cases x<;>cases y<;>first
  |exact False.elim h
  |exact⟨_,_,O,O,h.2⟩
def HP:R2:=λx y H Q=>match x,y with
 |.i i,.i j=>xn i j/\Q (.i<|i*j) H
 |.r l,.i k=>GZ (.r l) (.i k) H Q
 |_,_=>False
theorem arJ:ba X (binaryOp .Mult) HP:=by
 refine ba.imp (arO.or aoF) λx y H Q h=>?_;cases x<;>cases y<;>first
  |exact False.elim h
  |exact .inl ⟨_,_,O,O,h⟩
  |exact .inr h
def lO(K:Frag):Operator->R2
 |.Add=>HN K
 |.Sub=>lN (λ_ _=>True) λi j=>.i (i - j)
 |.Mult=>HP
 |.FloorDiv=>lN AA λi j=>.i (i / j)
 |.Mod=>lN (λ_ j=>0<j) λi j=>.i (i % j)
 |.Pow=>lN Ge λi j=>.i (i ^ j.toNat)
 |_=>λ_ _ _ _=>False
theorem akZ(o:Operator):ba X (binaryOp o) (lO X.K o):=by
 cases o<;>first
  |exact apT
  |exact ba.imp auI uW
  |exact arJ
  |exact ba.imp atP Br
  |exact ba.imp apV Br
  |exact ba.imp aeR Br
  |exact λY Y Y Y Y Y Y Y Y Y Y Y h=>False.elim h
mutual
def Is(H:Hp):PyData->V->Prop
 |.none,v=>v=.a
 |.bool b,v=>v=.b b
 |.int i,v=>v=.i i
 |.str x,v=>v=.s x
 |.list xs,v=>∃a vs,v=.r a/\H a=some (.l vs)/\IsL H xs vs
 |.tuple xs,v=>∃a vs,v=.r a/\H a=some (.t vs)/\IsL H xs vs
 |.dict _,_=>False
def IsL(H:Hp):List PyData->ad->Prop
 |[],vs=>vs=[]
 |d::ds,vs=>∃v r,vs=v::r/\Is H d v/\IsL H ds r
end
mutual
theorem Is.reads{B':bn}{σ:St}{H:Hp}{s:Ev}(I:Yp X B' σ H s):∀(d:PyData)(v:V)(u:EQ),Is H d v->Tf v u->∃as,Reads s.heap u d as
 |.none,v,u,h,r=>by rw[show v=.a from h] at r;rw[show u=.none from r];exact⟨_,.none⟩
 |.bool b,v,u,h,r=>by rw[show v=.b b from h] at r;rw[show u=.bool b from r];exact⟨_,.bool b⟩
 |.int i,v,u,h,r=>by rw[show v=.i i from h] at r;obtain⟨t,e⟩:=r;rw[e];exact⟨_,.int i t⟩
 |.str x,v,u,h,r=>by rw[show v=.s x from h] at r;obtain⟨t,e⟩:=r;rw[e];exact⟨_,.str x t⟩
 |.list xs,v,u,h,r=>by
  obtain⟨a,vs,e,hH,hl⟩:=(show ∃a vs,v=.r a/\H a=some (.l vs)/\IsL H xs vs by simpa only[Is] using h);rw[e] at r;rw[show u=.ref a from r];obtain⟨Y,D',n,hv,hg⟩:=I.aB a _ hH;obtain⟨as,q⟩:=IsL.reads I xs vs D' hl hv;exact⟨_,.list hg rfl rfl (by simpa using q)⟩
 |.tuple xs,v,u,h,r=>by
  obtain⟨a,vs,e,hH,hl⟩:=(show ∃a vs,v=.r a/\H a=some (.t vs)/\IsL H xs vs by simpa only[Is] using h);rw[e] at r;rw[show u=.ref a from r];obtain⟨Y,D',hv,o,hg,hc,n,hd⟩:=I.aB a _ hH;obtain⟨as,q⟩:=IsL.reads I xs vs D' hl hv;exact⟨_,.tuple hg hc hd (by simpa using q)⟩
 |.dict _,v,u,h,r=>by simp only[Is] at h
theorem IsL.reads{B':bn}{σ:St}{H:Hp}{s:Ev}(I:Yp X B' σ H s):∀(ds:List PyData)(vs:ad)(us:ca),IsL H ds vs->Cj vs us->∃as,ReadsAll s.heap us ds as
 |[],vs,us,h,r=>by
  rw[show vs=[] from h] at r;cases r;exact⟨_,.nil⟩
 |d::ds,vs,us,h,r=>by
  obtain⟨v,q,e,h1,h2⟩:=(show ∃v r,vs=v::r/\Is H d v/\IsL H ds r by simpa only[IsL] using h);rw[e] at r;cases r with
  |cons r1 r2=>
   obtain⟨as,q1⟩:=Is.reads I d v _ h1 r1;obtain⟨bs,q2⟩:=IsL.reads I ds q _ h2 r2;exact⟨_,.cons q1 q2⟩
end
def akO:V->Fk
 |.lF _=>false
 |.g _=>false
 |_=>true
def abP:R2:=λx y H Q=>∃a b s,x=.r a/\y=.r b/\H a=some (.l s)/\H b=some (.l s)/\s.all akO=true/\Q (.b true) H
def mE(n:Fk):R2:=λx y H Q=>match lJ x y with
 |true=>Q (.b<|n ^^ decide (x=y)) H
 |false=>∃d e,Is H d x/\Is H e y/\SeqAt.shaped d=true/\SeqAt.shaped e=true/\Q (.b<|n ^^ PyData.eqv d e) H
def asC:R2:=λx y H Q=>mE false x y H Q\/abP x y H Q
theorem Xq(j:X.A.units+64<cLine):ba X (compareOp .Eq) (mE false):=by
 intro B s f H x y v u Q I c r h;delta mE at h;by_cases a:lJ x y=true;rw[a] at h;simp only[YN] at h;exact avU B s f H x y v u Q I c r ⟨a,h⟩;rw[show lJ x y=false by simpa using a] at h;obtain⟨d,e,zq⟩:=Vj h;obtain⟨n,m,l,k,q⟩:=V_ zq;rw[YN] at q;obtain⟨p,i⟩:=Is.reads I d x v n c;obtain⟨o,g⟩:=Is.reads I e y u m r;exact eq_dataH i g l k j ⟨.b _,H,I,O,q⟩
theorem auG(j:X.A.units+64<cLine):ba X (compareOp .NotEq) (mE true):=by
 intro B s f H x y v u Q I c r h;delta mE at h;by_cases a:lJ x y=true;rw[a] at h;simp only[VR] at h;exact atN B s f H x y v u Q I c r ⟨a,h⟩;rw[show lJ x y=false by simpa using a] at h;obtain⟨d,e,zq⟩:=Vj h;obtain⟨n,m,l,k,q⟩:=V_ zq;rw[VR] at q;obtain⟨p,i⟩:=Is.reads I d x v n c;obtain⟨o,g⟩:=Is.reads I e y u m r;exact ne_dataH i g l k j ⟨.b _,H,I,O,q⟩
def an4(K:Frag)(H:Hp)(a:D9):Prop:=(∃x,ak K H a x)\/(∃x,aM K H a x)\/∃G,H a=some (.d G)
def xM(K:Frag)(n:Fk):R2:=λx y H Q=>match y with
 |.s j=>∃i,x=.s i/\Q (.b (if n then !(!(Builtin.Str.occurrences j i 0 j.length 1).isEmpty) else !(Builtin.Str.occurrences j i 0 j.length 1).isEmpty)) H
 |.r p=>match x with
  |.r _=>False
  |x=>AO K n x (.r p) H Q
 |_=>False
theorem avI(f:X.A.units+64<cLine):ba X (compareOp .In) (xM X.K false):=by
 intro B s b H x y v u Q I d c h;cases y with
 |s j=>
  obtain⟨i,e,q⟩:=h;exact avM B s b H x _ v u Q I d c (rC i j e O q)
 |r p=>
  cases x with
  |r a=>exact False.elim h
  |_=>exact auX B s b H _ _ v u Q I d c h
 |_=>exact False.elim h
theorem ajX(f:X.A.units+64<cLine):ba X (compareOp .NotIn) (xM X.K true):=by
 intro B s b H x y v u Q I d c h;cases y with
 |s j=>
  obtain⟨i,e,q⟩:=h;exact atK B s b H x _ v u Q I d c (rC i j e O q)
 |r p=>
  cases x with
  |r a=>exact False.elim h
  |_=>exact auQ B s b H _ _ v u Q I d c h
 |_=>exact False.elim h
theorem atT{A:Gc}{E:bi}{Q:bi}{v:EQ}{d:Fk}(a:∀i,v≠ .builtin i)(h:Q (.bool<|v==.bool d) s):wpAny M A (compareOp .Is v<|.bool d) Q E s:=by
 cases v<;>first|exact IN h|exact absurd O (a _)
theorem arI{A:Gc}{E:bi}{Q:bi}{v:EQ}{d:Fk}(a:∀i,v≠ .builtin i)(h:Q (.bool<|!(v==.bool d)) s):wpAny M A (compareOp .IsNot v<|.bool d) Q E s:=by
 cases v<;>first|exact IN h|exact absurd O (a _)
def HQ:R2:=λx y H Q=>match y with
 |.b b=>Q (.b<|decide<|x=.b b) H
 |_=>y=.a/\Q (.b<|decide<|x=.a) H
def HR:R2:=λx y H Q=>match y with
 |.b b=>Q (.b<|!decide (x=.b b)) H
 |_=>y=.a/\Q (.b<|!decide (x=.a)) H
theorem aeQ:ba X (compareOp .Is) HQ:=by
 intro B s d H x y v u Q I r c h;cases y with
 |b b=>
  cases c;have n:∀i,v≠ .builtin i:=λi z=>by
   subst z;cases x<;>first
    | (obtain⟨t,e⟩:=r;cases e;done)
    | (cases r;done)
  refine atT n<|bY I (show Q (.b<|decide<|x=.b b) H from h) ?_;cases x<;>first
   | (cases r;rfl)
   | (obtain⟨t,rfl⟩:=r;rfl)
   | (cases r;rename_i a;cases a<;>cases b<;>rfl)
 |_=>exact avE B s d H x _ v u Q I r c h
theorem Xx:ba X (compareOp .IsNot) HR:=by
 intro B s d H x y v u Q I r c h;cases y with
 |b b=>
  cases c;have n:∀i,v≠ .builtin i:=λi z=>by
   subst z;cases x<;>first
    | (obtain⟨t,e⟩:=r;cases e;done)
    | (cases r;done)
  refine arI n<|bY I (show Q (.b<|!decide (x=.b b)) H from h) ?_;cases x<;>first
   | (cases r;rfl)
   | (obtain⟨t,rfl⟩:=r;rfl)
   | (cases r;rename_i a;cases a<;>cases b<;>rfl)
 |_=>exact UO B s d H x _ v u Q I r c h
def bW(K:Frag):CmpOp->R2
 |.Eq=>mE false
 |.NotEq=>mE true
 |.Lt=>lN (λ_ _=>True) λi j=>.b (decide<|i<j)
 |.LtE=>lN (λ_ _=>True) λi j=>.b (decide<|i<=j)
 |.Gt=>lN (λ_ _=>True) λi j=>.b (decide<|j<i)
 |.GtE=>lN (λ_ _=>True) λi j=>.b (decide<|j<=i)
 |.In=>xM K false
 |.NotIn=>xM K true
 |.Is=>HQ
 |.IsNot=>HR
theorem sP(h:X.A.units+64<cLine)(o:CmpOp):ba X (compareOp o) (bW X.K o):=by
 cases o with
 |Eq=>exact Xq h
 |NotEq=>exact auG h
 |Lt=>exact ba.imp asF uW
 |LtE=>exact ba.imp UJ uW
 |Gt=>exact ba.imp asU uW
 |GtE=>exact ba.imp UL uW
 |In=>exact avI h
 |NotIn=>exact ajX h
 |Is=>exact aeQ
 |IsNot=>exact Xx
inductive Ty where|i|s|b|l|t|d
 deriving DecidableEq
noncomputable def Ty.nm:Ty->GE
 |.i=> "int" |.s=> "str" |.b=> "bool" |.l=> "list" |.t=> "tuple" |.d=> "dict"
def bS(T:Ty)(x:V)(H:Hp)(Q:Fk->Prop):Prop:=match x with
 |.a=>Q false
 |.b _=>Q (T==.b ||T==.i)
 |.i _=>Q (T==.i)
 |.s _=>Q (T==.s)
 |.r a=>match H a with
  |some (.l _)=>Q (T==.l)
  |some (.b _<|.l _)=>Q (T==.l)
  |some (.t _)=>Q (T==.t)
  |some (.d _)=>Q (T==.d)
  |some (.T _)=>Q (T==.d)
  |_=>False
 |_=>False
theorem oj(K:Frag)(S T:Ty):kitOne K (.type S.nm) (.type T.nm)=some (S==T ||(S==.b && T==.i)):=by
 cases S<;>cases T<;>rfl
theorem awC(K:Frag)(T:Ty):kitOne K (.type "NoneType") (.type T.nm)=some false:=by
 cases T<;>rfl
theorem aqS(f:X.calm=true):cE X (.builtin "sum") (λx H Q=>∃(p:D9)(n:sK),x=[.r p]/\ak X.K H p (n.map V.i)/\Q (.i n.sum) H):=by
 intro B s m H x o Q I r h;obtain⟨p,n,rfl,d,q⟩:=h;obtain⟨u,rfl,c⟩:=Z5 r;cases c;obtain⟨D,v,l,z⟩:=I.list d;have b:=VX v;obtain⟨x,a⟩:=b.allInts.items;have w:s.heap.IsList p (intItems x):=a ▸ l.isList;refine sum_intListG (I.ok.hd f) w λy k t e=>?_;have j:n=x.toList.map (·.1):=by
  rw[<-nums_intItems,<-a];exact(show numsOf D.toArray.toList=n from b.numsOf).symm
 have g:preSum (numAt x) x.size=n.sum:=by
  rw[preSum_eq,Vo ap,j]
 rw[g];exact⟨.i n.sum,H,I.kept (t':=k) e,⟨t,O⟩,q⟩
theorem apY:∀{a:ac}{u:ca},Cj (a.map V.s) u->∃l:List (Str×Tok),u=strValues l/\l.map (·.1)=a:=by
 intro a;induction a with
 |nil=>intro u h;cases h;exact⟨[],O,O⟩
 |cons x a i=>
  intro u h;rcases h with Y|⟨⟨t,e⟩,r⟩
  obtain⟨l,c,b⟩:=i r;subst e c;exact⟨(x,t)::l,O,by simp[b]⟩
def aqX(K:Frag):V->ad->Hp->VK->Prop:=λx v H Q=>∃(a:Str)(p:D9)(t:ac),x=.s a/\v=[.r p]/\ak K H p (t.map V.s)/\JoinOk a t=true/\Q (.s<|Txt.join a t) H
theorem XB:qm X "str.join" (aqX X.K):=by
 intro B s i H x m v n Q I c r h;obtain⟨b,p,o,zq⟩:=U1 h;obtain⟨rfl,rfl,f,j,q⟩:=V_ zq;obtain⟨t,rfl⟩:=c;obtain⟨u,rfl,d⟩:=Z5 r;cases d;obtain⟨D,r,e,z⟩:=I.list f;obtain⟨l,rfl,g⟩:=apY r;exact SC.join e.isList g j λa k=>⟨.s _,H,I.tok k,⟨a,O⟩,q⟩
def apE:V->ad->Hp->VK->Prop:=λx v H Q=>∃z y,x=.s z/\v=[.s y]/\z.length<=sizeLine/\Q (.s<|Txt.lstripChars z y) H
theorem amN:qm X "str.lstrip" apE:=by
 intro B s e H x f v g Q I r c h;obtain⟨z,y,rfl,rfl,d,q⟩:=h;obtain⟨t,rfl⟩:=r;obtain⟨u,rfl,⟨a,rfl⟩⟩:=Z5 c;refine UV F.slot_str_lstrip (Ps _ _ _) F.entry_str_lstrip (F.args_str_lstrip_2 _ _) (gives_str_lstrip_chars z y t a)<|post_val_or_made (λY=>fits_stripped _ _ _ d) λb k=>?_;exact⟨.s _,H,I.tok k,⟨b,O⟩,q⟩
def mF{a:Type}(x:List a)(l h:re):List a:=(x.drop<|HT.aU x.length 0 l).take (HT.aU x.length x.length h - HT.aU x.length 0 l)
def mG(z:Str)(l h:re):Str:=⟨(mF z.cps.toList l h).toArray⟩
theorem anZ(z:Str)(l h:re):((Builtin.Str.strSliceIndices l h 1 z.length).filterMap (z.cps[·]?))=mF z.cps.toList l h:=by
 obtain⟨d,c,b⟩:=AM l h z.length;have e:Builtin.Str.strSliceIndices l h 1 z.length=sliceRange (sliceBounds l h none z.length).1 (sliceBounds l h none z.length).2.1 (sliceBounds l h none z.length).2.2:=O;have a:z.cps.toList.length=z.length:=by simp[Str.length]
 rw[e,d,c,b,sliceRange_one,pick_run];delta mF;rw[a]
def xO(K:Frag)(n:Fk):R2:=λx y H Q=>∃p a d s,y=.r p/\ak K H p a/\Is H d x/\IsL H s a/\SeqAt.shaped d=true/\d.depth<=60/\(∀e∈s,SeqAt.shaped e=true)/\Q (.b<|n ^^ s.any λe=>PyData.eqv e d) H
open Classical in
end
def Bs:HO:=.e λ_=>True
structure Bt(ob:Obj)(cls:EQ)(vs:ww):Prop where
 cls:ob.cls=cls
 data:ob.data=.fields vs
 an5:vs[2]?=some .none
 dict:ob.dict=none
def Wo(H:Hp)(e D:D9):Prop:= ∃o v,H e=some (.b o Bs)/\Bt o (.ref D) v
structure XF(K:Frag)(D:D9):Prop where
 hga:PySem.W.findIn K (.ref D) "__getattribute__"=some (some<|.builtin "BaseException.__getattribute__")
 hgn:PySem.W.findIn K (.ref D) "__getattr__"=some none
 hk:(PySem.W.clsIn K D).isSome=true
 ha:PySem.W.findIn K (.ref D) "__class__"=some (some<|.builtin "object.__class__")
 hn:specialIn K (.builtin "object.__class__") "__get__"=some (some<|.builtin "getset_descriptor.__get__")
 AE:takesIn K (.builtin "object.__class__")=some true
 hm:mroIn K D (.type "object")=some true
 hb:mroIn K D (.type "BaseException")=some true
noncomputable def anE:V->EQ
 |.r a=>.ref a
 |.t n=>.type n
 |_=>.none
def HS(K:Frag):ad->Hp->VK->Prop
 |[.r e,c],H,Q=>∃D b,Wo H e D/\XF K D/\((∃C,c=.r C)\/∃n,c=.t n)/\kitOne K (.ref D) (anE c)=some b/\Q (.b b) H
 |_,_,_=>False
def atG(s:Sp)(h:wE)(t:TA):TE:=λb H Q=>t b H λv a=>(∃e D,h=some e/\Wo a e D)/\s v a Q E0
def Bu(C:D9)(E:XK)(t:TA):TS:=λ_ a H=>t a H λv b=>v.length<=sizeLine/\E (.ref C) none b
def arN(K:Frag)(C:D9)(i n:Nat)(t:D9->TS)(D:Xt):XK:=λc _ H=>exmOne K c (.ref C)=some true/\
 ∀(e:D9)(o:Obj)(v:ww)(L:St),H e=none->L.length=n->Bt o c v->t e {nx:=λ_ _=>False,r:=D.r} (L.set i<|some<|.r e) (upd H e<|.b o Bs)
def auD(K:Frag)(C:D9)(i n:Nat)(b:XK->TS)(t:D9->TS):TS:=λD a H=>b (arN K C i n t D) {nx:=D.nx,r:=D.r} a H
def aqY(K:Frag)(C:D9)(i:Nat)(t:D9->TS)(D:Xt)(a:St):XK:=λc _ H=>exmOne K c (.ref C)=some true/\
 ∀(e:D9)(o:Obj)(v:ww),H e=none->Bt o c v->t e {nx:=λ_ _=>False,r:=D.r} (a.set i<|some<|.r e) (upd H e<|.b o Bs)
def avK(K:Frag)(C:D9)(i k:Nat)(p:Sp)(b:TA)(t:D9->TS):TS:=λD a H=>b a H λs d=>p s d (λv c=>D.nx (a.set k<|some v) c) (aqY K C i t D a)
inductive mH where|l|n|m|s|i|t|e|abs
 deriving DecidableEq
inductive ji where|a|p|e|j|l|s|r|C|i|f|c|HU|Bv
 deriving DecidableEq
inductive IK where|l|tup|g|XN|z|xQ|txt|XO|xR
 deriving DecidableEq
inductive RE where
 |v (i:Nat)|c (x:V)|g (j:Nat)
 |b (q:Operator)(a b:RE)|N (a:RE)
 |p (q:CmpOp)(a b:RE)|P (q z:CmpOp) (a b d:RE)|HV (q z W:CmpOp) (a b d f:RE)
 |d (h:List RE)|o (h:List RE)|n (a:RE)|e (t a b:RE)
 |l (j:Nat)(h:List RE)|t (b:mH) (h:List RE)|G (T:Ty) (a:RE)
 |Y (m:ji)(o:RE)(h:List RE)
 |i (a b:RE)|s (a:RE) (E F:Option RE)
 |T (h:List RE)|L (h:List RE)
 |C (B:lv)(H:mo)(k:IK)(U:List RE)(u:Option RE)(y:RE)
 |HX (a c:RE)|XQ (j:Nat) (a:RE)|XR|same (a b:RE)
 |XS|D (a b:RE)|HY (a b:RE)|HZ (a b:RE)|XT (o a b:RE)|inD (a b:RE)|H_ (a b:RE)
 |x (T:Frag->TA->TE)(h:List RE)|xm (T:Frag->TE->TA->TE) (o:RE) (h:List RE)
 |f (o:RE)(f:Str)|a (j:Nat) (m:Str) (o:RE) (h:List RE)|m (j:Nat) (h:List RE)
abbrev sB:=List RE
structure aV where
 K:Frag
 fs:Nat->Sp
 gv:Nat->V
 E:XK
 sd:D9->db->Prop
 ms:Nat->D9×Sp
 kt:Nat->D9×Sp
 ex:Nat->D9
 hs:Nat->Sp
 hv:wE
abbrev aV.calm(a:aV):aV:={a with E:=E0}
inductive RS where
 |a (i:Nat)(e:RE)|sQ (i:Nat) (e:RE)|s (o v e:RE)
 |d (e:RE)|r (e:RE)|XU
 |i (c:RE)(t e:List RS)
 |y (i:Nat)(k:IK)(D:sB)(b:List RS)
 |j (g:am)(k:IK)(D:sB)(b:List RS)
 |l (c:RE)(b:List RS)
 |pass|brk|c|n
 |XW (o q w e:RE)|z (o:RE) (f:Str) (e:RE)
 |sR (g:am)(e:RE)|t (o i e:RE)|e (j:Nat) (m:sB)|XX (n i j:Nat) (b u:List RS)|XY (k i j f:Nat) (m:sB) (u:List RS)
 |xs (T:aV->TS)
abbrev bv:=List RS
def kx(K:Frag)(x:V)(H:Hp)(Q:Fk->Prop):Prop:=match x with
 |.a=>Q false
 |.b b=>Q b
 |.i i=>Q (i !=0)
 |.s y=>y.length<=sizeLine/\Q ((y.length:Int) !=0)
 |.r p=>(∃c,ak K H p c/\Q (!c.isEmpty))\/(∃c,aM K H p c/\Q (!c.isEmpty))\/∃G,H p=some (.d G)/\Q (!G.isEmpty)
 |_=>False
theorem Ia{K:Frag}(h:kx K x H Q):∃k,Gi K x H k/\Q k:=by
 cases x with
 |a=>exact qF _ O h
 |b b=>exact qF _ O h
 |i i=>exact qF _ O h
 |s y=>exact qF _ ⟨h.1,O⟩ h.2
 |r p=>
  rcases h with⟨c,e,d⟩|⟨c,e,d⟩|⟨c,e,d⟩
  exact qF _ (.inl (qF c e O)) d;exact qF _ (.inr<|.inl ⟨c,e,O⟩) d;exact qF _ (.inr<|.inr ⟨c,e,O⟩) d
 |_=>exact False.elim h
def gK(K:Frag)(t:TE):TT:=λc H Q=>t c H λx a=>kx K x a λb=>Q b a
def Bw(K:Frag)(t:TE):TE:=λc H Q=>t c H λx a=>kx K x a λb=>Q (.b<|!b) a
def Ib:V->Hp->VK->Prop:=λx H Q=>match x with|.i i=>Q (.i<|-i) H|_=>False
def uQ(K:Frag)(x:V)(H:Hp)(Q:Nat->Prop):Prop:=match x with
 |.s y=>y.length<=sizeLine/\Q y.length
 |.r p=>(∃a,ak K H p a/\Q a.length)\/∃a,aM K H p a/\Q a.length
 |_=>False
noncomputable def Yf(x:Str):ad:=x.cps.toList.map λc=>V.s ⟨#[c]⟩
def afT:TE:=λ_ H Q=>∀p,H p=none->Q (.r p) (upd H p<|.d [])
def jO(K:Frag):mH->ad->Hp->VK->Prop
 |.l,[x],H,Q=>uQ K x H λn=>Q (.i n) H
 |.n,[.i i,.i j],H,Q=>Q (.i (if j<i then j else i)) H
 |.m,[.i i,.i j],H,Q=>Q (.i (if j>i then j else i)) H
 |.n,[.r p],H,Q=>∃a:sK,ak K H p (a.map V.i)/\a≠ []/\∀m:Int,m∈a->(∀n∈a,m<=n)->Q (.i m) H
 |.m,[.r p],H,Q=>∃a:sK,ak K H p (a.map V.i)/\a≠ []/\∀m:Int,m∈a->(∀n∈a,n<=m)->Q (.i m) H
 |.s,[.r p],H,Q=>∃a:sK,ak K H p (a.map V.i)/\Q (.i a.sum) H
 |.i,[.i i],H,Q=>Q (.i i) H
 |.i,[.b k],H,Q=>Q (.i (if k then 1 else 0)) H
 |.t,[.r p],H,Q=>∃y,(ak K H p y\/aM K H p y)/\∀l,H l=none->Q (.r l) (upd H l<|.l y)
 |.t,[.s x],H,Q=>x.length<=sizeLine/\∀l,H l=none->Q (.r l) (upd H l<|.l<|Yf x)
 |_,_,_,_=>False
def om(T:Ty):ad->Hp->VK->Prop
 |[x,.t n],H,Q=>n=T.nm/\bS T x H λb=>Q (.b b) H
 |_,_,_=>False
def sS(K:Frag):ji->V->ad->Hp->VK->Prop
 |.a,.r l,[y],H,Q=>∃x,H l=some (.l x)/\x.length<sizeLine/\Q .a (upd H l<|.l<|x++[y])
 |.p,.r l,[],H,Q=>∃x y,H l=some (.l x)/\x[x.length - 1]?=some y/\Q y (upd H l<|.l x.dropLast)
 |.e,.r l,[.r b],H,Q=>∃x g,H l=some (.l x)/\H b=some (.l g)/\x.length+g.length<=sizeLine/\Q .a (upd H l<|.l<|x++g)
 |.j,.s d,[.r p],H,Q=>∃t:ac,ak K H p (t.map V.s)/\JoinOk d t=true/\Q (.s<|Txt.join d t) H
 |.l,.s z,[.s y],H,Q=>z.length<=sizeLine/\Q (.s<|Txt.lstripChars z y) H
 |.f,.s z,[.s y],H,Q=>Q (.i (match Builtin.Str.occurrences z y 0 z.length 1 with|i::_=>(i:Int)|[]=> -1)) H
 |.f,.s z,[.s y,.i i],H,Q=>Q (.i (match Builtin.Str.occurrences z y (fromIndex z.length i) z.length 1 with|k::_=>(k:Int)|[]=> -1)) H
 |.c,.s z,[.s y],H,Q=>Q (.i (Builtin.Str.occurrences z y 0 z.length<|z.length+1).length) H
 |.C,.r l,[],H,Q=>∃x,H l=some (.l x)/\Q .a (upd H l<|.l [])
 |.Bv,.r l,[y],H,Q=>∃x,ak K H l x/\iS y=true/\x.all iS=true/\e7 y x=true/\Q (.i (x.findIdx (λz=>ip z y):Nat)) H
 |_,_,_,_,_=>False
def xS:ji->GE
 |.j|.l|.s|.f|.c=> "str"
 |_=> "list"
def sT(K:Frag)(m:ji)(o:TE)(t:TA):TE:=λa H Q=>o a H λx b=>sy K (xS m) x b/\t a b λs c=>sS K m x s c Q
def uX(K:Frag):V->re->re->Hp->VK->Prop:=λx o h H Q=>match x with
 |.s z=>z.length<=sizeLine/\Q (.s<|mG z o h) H
 |.r a=>(∃b,ak K H a b/\∀p,H p=none->Q (.r p) (upd H p<|.l<|ig b o h))\/
  (∃b,aM K H a b/\ ¬(HT.aU b.length 0 o=0/\HT.aU b.length b.length h=b.length)/\∀p,H p=none->Q (.r p) (upd H p<|.t<|ig b o h))
 |_=>False
noncomputable def mI(G:db)(k:YD):ld:=(G.find? λv=>decide (v.1=k)).map (·.2)
def Ic(s:D9->db->Prop):R2:=λx y H Q=>∃p G k v,x=.r p/\y=kV k/\s p G/\mI G k=some v/\Q v H
def oo(K:Frag)(s:D9->db->Prop):R2:=λx y H Q=>GQ K x y H Q\/GR K x y H Q\/GS x y H Q\/Ic s x y H Q
def X0(r n m:R2)(l j i t:TE):TT:=λa H Q=>l a H λx v=>j a v λy s=>r x y s λz f=>∃k,z=.b k/\
 (if k=true then i a f λw q=>n y w q λh e=>∃d,h=.b d/\(if d=true then t a e λu p=>m w u p λg o=>∃c,g=.b c/\Q c o else Q false e) else Q false f)
def ky(K:Frag)(a b:D9):It:=
  ⟨λi H=>∃s y,ak K H a s/\ak K H b y/\i<s.length/\i<y.length,
   λi H x c=>∃T,H T=none/\x=.r T/\∀s y u v,ak K H a s->ak K H b y->s[i]?=some u->y[i]?=some v->c=upd H T (.t [u,v]),
   λi H=>∃s y,ak K H a s/\ak K H b y/\i=min s.length y.length⟩
def uY(K:Frag)(a:D9):It:=
  ⟨λi H=>∃s,ak K H a s/\i<s.length,
   λi H x b=>∃T,H T=none/\x=.r T/\∀s u,ak K H a s->s[i]?=some u->b=upd H T (.t [.i (i:Nat),u]),
   λi H=>∃s,ak K H a s/\i=s.length⟩
def Bx(K:Frag)(t:TA):TI:=λc H R=>t c H λv b=>∃a,v=[.r a]/\(∃x,ak K b a x)/\R (uY K a) b
def By(K:Frag)(t:TA):TI:=λd H R=>t d H λv c=>∃a b,v=[.r a,.r b]/\(∃x,ak K c a x)/\(∃y,ak K c b y)/\R (ky K a b) c
def X1(K:Frag)(a b:D9):It:=
  ⟨λi H=>∃s y,aM K H a s/\aM K H b y/\i<s.length/\i<y.length,
   λi H x c=>∃T,H T=none/\x=.r T/\∀s y u v,aM K H a s->aM K H b y->s[i]?=some u->y[i]?=some v->c=upd H T (.t [u,v]),
   λi H=>∃s y,aM K H a s/\aM K H b y/\i=min s.length y.length⟩
def avV(K:Frag)(t:TA):TI:=λd H R=>t d H λv c=>∃a b,v=[.r a,.r b]/\(∃x,aM K c a x)/\(∃y,aM K c b y)/\R (X1 K a b) c
def X4(z:Str):It:=⟨λi _=>i<z.length,λi H x a=>a=H/\∃c,z.cps[i]?=some c/\x=.s ⟨#[c]⟩,λi _=>i=z.length⟩
def apM(t:TE):TI:=λa H R=>t a H λx b=>∃z,x=.s z/\R (X4 z) b
def ot(l c:Int)(n:Nat):It:=⟨λi _=>i<n,λi H x a=>a=H/\x=.i (l+i*c),λi _=>n<=i⟩
def Ie(t:TA):TI:=λa H R=>t a H λv b=>∃(i j c:Int)(n:Nat),v=[.i i,.i j,.i c]/\c≠0/\Builtin.Range.small i j c=true/\Builtin.divisionGoesByPylong (j - i) c=false/\Builtin.Range.rangeSize i j c=n/\R (ot i c n) b
mutual
def ag(Γ:aV):RE->TE
 |.v i=>An i
 |.c x=>tC x
 |.g j=>tC (Γ.gv j)
 |.b op a b=>fN (lO Γ.K op) (ag Γ a) (ag Γ b)
 |.N a=>Gb Ib (ag Γ a)
 |.p op a b=>fN (bW Γ.K op) (ag Γ a) (ag Γ b)
 |.P op cm a b d=>sr (bW Γ.K op) (bW Γ.K cm) (ag Γ a) (ag Γ b) (ag Γ d)
 |.HV _ _ _ _ _ _ _=>λ_ _ _=>False
 |.d as=>Ig Γ as
 |.o as=>Ih Γ as
 |.n a=>Bw Γ.K (ag Γ a)
 |.e t a b=>FW (bj Γ t) (ag Γ a) (ag Γ b)
 |.l j as=>AF (Γ.fs j) [] Γ.E (aO Γ as)
 |.t b as=>eZ (jO Γ.K b) (aO Γ as)
 |.G T a=>eZ (om T) (dU (ag Γ a)<|dU (tC<|.t T.nm) je)
 |.Y m o as=>sT Γ.K m (ag Γ o) (aO Γ as)
 |.i a b=>fN (oo Γ.K Γ.sd) (ag Γ a) (ag Γ b)
 |.s a lo hi=>AJ (uX Γ.K) (ag Γ a) (ou Γ lo) (ou Γ hi)
 |.T as=>Gs (aO Γ as)
 |.L as=>Gu (aO Γ as)
 |.C tk fv k D' cond elt=>og Γ.K (gw Γ k D') tk fv (uZ Γ.calm cond) (ag Γ.calm elt)
 |.HX a c=>eZ (HS Γ.K) (dU (ag Γ a)<|dU (ag Γ c) je)
 |.XR=>afT
 |.same a b=>fN asC (ag Γ a) (ag Γ b)
 |.inD a b=>fN (xO Γ.K false) (ag Γ a) (ag Γ b)
 |.H_ a b=>fN (xO Γ.K true) (ag Γ a) (ag Γ b)
 |.XS=>atC
 |.D a b=>G9 (ag Γ a) (ag Γ b)
 |.HY a b=>G_ (ag Γ a) (ag Γ b)
 |.HZ a b=>Ha (ag Γ a) (ag Γ b)
 |.XT o a b=>aqL (ag Γ o) (ag Γ a) (ag Γ b)
 |.x T as=>T Γ.K (aO Γ as)
 |.xm T o as=>T Γ.K (ag Γ o) (aO Γ as)
 |.XQ j a=>atG (Γ.hs j) Γ.hv (dU (ag Γ a) je)
 |.f o f=>xp Γ.K (ag Γ o) f
 |.a j m o as=>qe (Γ.ms j).1 m (Γ.ms j).2 [] Γ.E (ag Γ o) (aO Γ as)
 |.m j as=>sx (Γ.kt j).1 (Γ.kt j).2 [] Γ.E (aO Γ as)
def bj(Γ:aV):RE->TT
 |.n a=>FR (bj Γ a)
 |.inD a b=>nN (fN (xO Γ.K false) (ag Γ a)<|ag Γ b)
 |.H_ a b=>nN (fN (xO Γ.K true) (ag Γ a)<|ag Γ b)
 |.HY a b=>tB (G_ (ag Γ a)<|ag Γ b)
 |.HZ a b=>tB (Ha (ag Γ a)<|ag Γ b)
 |.d as=>Ii Γ as
 |.o as=>Ij Γ as
 |.p op a b=>nN (fN (bW Γ.K op) (ag Γ a)<|ag Γ b)
 |.P op cm a b d=>nN (sr (bW Γ.K op) (bW Γ.K cm) (ag Γ a) (ag Γ b)<|ag Γ d)
 |.HV op cm HW a b d f=>X0 (bW Γ.K op) (bW Γ.K cm) (bW Γ.K HW) (ag Γ a) (ag Γ b) (ag Γ d) (ag Γ f)
 |.v i=>gK Γ.K (An i)
 |.l j as=>gK Γ.K (AF (Γ.fs j) [] Γ.E<|aO Γ as)
 |.G T a=>gK Γ.K (eZ (om T)<|dU (ag Γ a)<|dU (tC<|.t T.nm) je)
 |.HX a c=>gK Γ.K (eZ (HS Γ.K)<|dU (ag Γ a)<|dU (ag Γ c) je)
 |.Y m o as=>gK Γ.K (sT Γ.K m (ag Γ o)<|aO Γ as)
 |.i a b=>gK Γ.K (fN (oo Γ.K Γ.sd) (ag Γ a)<|ag Γ b)
 |.b op a b=>gK Γ.K (fN (lO Γ.K op) (ag Γ a)<|ag Γ b)
 |.f o f=>gK Γ.K (xp Γ.K (ag Γ o) f)
 |.x T as=>gK Γ.K (T Γ.K<|aO Γ as)
 |.xm T o as=>gK Γ.K (T Γ.K (ag Γ o)<|aO Γ as)
 |.a j m o as=>gK Γ.K (qe (Γ.ms j).1 m (Γ.ms j).2 [] Γ.E (ag Γ o)<|aO Γ as)
 |_=>λ_ _ _=>False
def aO(Γ:aV):sB->TA
 |[]=>je
 |a::r=>dU (ag Γ a) (aO Γ r)
def Ig(Γ:aV):sB->TE
 |[]=>λ_ _ _=>False
 |[a]=>ag Γ a
 |a::r=>FT (ag Γ a) (Ig Γ r)
def Ih(Γ:aV):sB->TE
 |[]=>λ_ _ _=>False
 |[a]=>ag Γ a
 |a::r=>FU (ag Γ a) (Ih Γ r)
def Ii(Γ:aV):sB->TT
 |[]=>λ_ _ _=>False
 |[a]=>bj Γ a
 |a::r=>FP (bj Γ a) (Ii Γ r)
def Ij(Γ:aV):sB->TT
 |[]=>λ_ _ _=>False
 |[a]=>bj Γ a
 |a::r=>FQ (bj Γ a) (Ij Γ r)
def ou(Γ:aV):Option RE->TO
 |none=>GJ
 |some a=>xr (ag Γ a)
def uZ(Γ:aV):Option RE->Option TT
 |none=>none
 |some a=>some (bj Γ a)
def gw(Γ:aV)(k:IK):sB->TI
 |[]=>λ_ _ _=>False
 |a::r=>match k with
  |.l=>Av Γ.K (ag Γ a)
  |.tup=>asH Γ.K (ag Γ a)
  |.g=>F7 (dU (ag Γ a)<|aO Γ r)
  |.XN=>auL (dU (ag Γ a)<|aO Γ r)
  |.z=>By Γ.K (dU (ag Γ a)<|aO Γ r)
  |.xQ=>Bx Γ.K (dU (ag Γ a)<|aO Γ r)
  |.txt=>apM (ag Γ a)
  |.XO=>avV Γ.K (dU (ag Γ a)<|aO Γ r)
  |.xR=>Ie (dU (ag Γ a)<|aO Γ r)
end
structure c0 where
 N:ac
 sc:Scope
 fn:ac
 gn:ac
 bl:ac
 mn:ac
 kn:ac
 en:ac
 hn:ac
 m:Nat
noncomputable def Bz(s:Scope)(x:Str):Fk:=match s.names.lookup x with
 |some .local=>true|some .cell=>true|some .free=>true|_=>false
noncomputable def Ug(s:Scope)(x:Str):Fk:=match s.names.lookup x with
 |some .local=>true|some .cell=>true|_=>false
noncomputable def ow(s:Scope)(x:Str):Fk:=match s.names.lookup x with
 |some .globalImplicit=>true|_=>false
theorem auJ(h:Bz s x=true):wY s x:=by
 delta Bz at h;delta wY;cases e:s.names.lookup x with
 |none=>rw[e] at h;cases h
 |some k=>rw[e] at h;cases k<;>first|exact .inl O|exact .inr (.inl O)|exact .inr (.inr O)|cases h
theorem BA(h:Ug s x=true):YE s x:=by
 delta Ug at h;delta YE;cases e:s.names.lookup x with
 |none=>rw[e] at h;cases h
 |some k=>rw[e] at h;cases k<;>first|exact .inl O|exact .inr O|cases h
theorem arY(h:ow s x=true):s.names.lookup x=some .globalImplicit:=by
 delta ow at h;cases e:s.names.lookup x with
 |none=>rw[e] at h;cases h
 |some k=>rw[e] at h;cases k<;>first|rfl|cases h
structure u_ where
 elt:Expr
 tg:Expr
 i:Expr
 ifs:jp
 sc:Scope
noncomputable def mH.nm:mH->Str
 |.l=> "len" |.n=> "min" |.m=> "max" |.s=> "sum" |.i=> "int" |.t=> "list" |.e=> "tuple" |.abs=> "abs"
noncomputable def ji.nm:ji->Str
 |.a=> "append" |.p=> "pop" |.e=> "extend" |.j=> "join" |.l=> "lstrip" |.s=> "startswith" |.r=> "reverse" |.C=> "clear" |.i=> "index" |.f=> "find" |.c=> "count" |.HU=> "count" |.Bv=> "index"
noncomputable def oz:Expr->Fk
 |.Call (.Name _ _) [] [] _=>false
 |_=>true
noncomputable def Ys:Expr->Fk
 |.Starred ..=>false
 |_=>true
noncomputable def vd:Expr->Fk
 |.Set ..=>false
 |_=>true
noncomputable def BB(I s:Scope):Scope:=
 {I with names:=I.names.map fun(n,k)=>if (k==.free && s.kind==.function && s.names.lookup n==some .cell) then (n,.cell) else (n,k)}
noncomputable def sU(t:lv)(g:Expr):Option ac:=match t,g with
 |none,.Name x _=>some [x]
 |some 2,.Tuple [.Name x _,.Name y _] _ _=>some [x,y]
 |_,_=>none
def Il(S:c0)(c:u_)(l:ac)(f:mo):c0:={S with N:=l++f.map (·.1),sc:=BB c.sc S.sc,en:=[],m:=if S.m=0 then 0 else 2}
def xT(S:c0)(c:u_)(l:ac)(f:mo):Fk:=
 decide (c.sc.kind=.function) && c.sc.names.all (λy=>decide (y.2≠ .cell)||decide (c.sc.names.lookup y.1=some .cell)) && c.sc.names.all (λy=>decide (y.2≠ .local)||decide (c.sc.names.lookup y.1=some .local))
 && c.sc.names.all (λy=>decide (y.2≠ .free)||decide (S.sc.names.lookup y.1=some .cell)||decide (S.sc.names.lookup y.1=some .free))
 && f.all (λp=>decide (S.N[p.2]?=some p.1) && decide (c.sc.names.lookup p.1=some .free))
 && l.all (λx=>decide (c.sc.names.lookup x=some .local)||(decide (l.length=1) && decide (c.sc.names.lookup x=some .cell))) && decide ((l++f.map (·.1)).Nodup) && vd c.i
theorem asT{K:Frag}{Y':jp}{z B j g f U S:D9}(D:ZipApart z B j g f U S)(dl:U≠B/\S≠B):
  mR P w K (.Tuple Y' k c') (ky K U S) [z,B,j,g,f] z
   (λi h=>IsZip h z B j .none/\IsPair h B (.ref g) (.ref f)/\(∃a b,IsPair h j a b)/\h.IsListIter g U i/\h.IsListIter f S i) where
 mem:=by simp
 obj:=λi h C b d=>by
  obtain⟨G,J,⟨a,b',F⟩,⟨o1,e1,c1,d1⟩,⟨o2,e2,c2,d2⟩⟩:=C;simp only[UA,nB,LE] at d;rcases d with rfl|rfl|rfl|rfl|rfl
  exact qF _ G (λv q=>by cases q);exact qF _ J (λv q=>by cases q);exact qF _ F (λv q=>by cases q);exact qF _ e1 (λv q=>by rw[d1] at q;cases q);exact qF _ e2 (λv q=>by rw[d2] at q;cases q)
 keep:=λi h h' C y=>by
  obtain⟨G,J,⟨a,b',F⟩,h1,h2⟩:=C;exact⟨y z ap _ G,y B ap _ J,qY a ⟨b',y j ap _ F⟩,h1.at λo e=>y g ap o e,h2.at λo e=>y f ap o e⟩
 item:=by
  intro X hP hw hK l i B' s σ H E I N C hg;subst hP hw hK;obtain⟨xs,ys,hx,hy,X9,j'⟩:=hg;obtain⟨Y,r1,p1,z1⟩:=I.list hx;obtain⟨Z,r2,p2,z2⟩:=I.list hy;have oA:=r1.length;have mz:=r2.length;have W:=WalksT.zip2 (prog:=X.prog) (w:=X.w) (A:=X.A) (I.ok.hd l) z B j g f U S D Y.toArray Z.toArray;obtain⟨G,J,F,h1,h2⟩:=V_ (id C);have hn:i<min Y.toArray.size Z.toArray.size:=by simp only[i3];lia
  refine W.item i s _ _ hn ⟨G,J,F,h1,h2,p1.isList,p2.isList⟩ λT i' h' tk hv hT BC f' y=>?_;refine qF (.ref T) O ?_;refine W.go Y' k c' i T _ _ _ f' λmL BD ve=>?_;obtain⟨u,v,zq⟩:=Vj hv;obtain⟨eu,ev,rfl⟩:=Vk zq;have R:∀b∈ [z,j,g,f],b∈ [z,B,j,g,f]:=λb d=>by
   simp only[UA,nB,LE] at d⊢;rcases d with rfl|rfl|rfl|rfl<;>simp
  have kk:∀b o,b∉ [z,j,g,f]->s.heap.get? b=some o->mL.get? b=some o:=λb o d e=>ve b o d (y b o d e);have I1:Yp X B' σ H {s with heap:=mL,toks:=tk}:=by
   refine I.step (g':=s.gens) (d':=s.drawn) (ch:=[z,j,g,f]) (λb d=>?_) (λb o _ _ l e _=>kk b o l e) (λb o _ _ l e _=>qY o.slots (kk b o l e)) (λ_ _ _ _ n=>n)
    (λb o l e=>qY o (kk b o l e)) (λ_ _ e=>e) (λ_ _ _ e=>e) (λb ps e=>qY (#[]) (by rw[e];simp)) (λm hm=>?_) (λb o e=>?_) I.A
   obtain⟨f0,f1,f2,f3,f4,f5⟩:=i2 (N b (R b d));exact⟨f3,f1,f4,f5⟩;obtain⟨o,es,ep,ho,r⟩:=hm;exact qY o ⟨es,ep,kk _ o (λd=>(N _<|R _ d).2.1 O) ho,r⟩;have nb:∀c o',H c=some o'->c∉ [z,j,g,f]:=λc o' e d=>by
    rw[(N c<|R c d).1] at e;cases e
   refine(I.aB b o e).kj (λc q L M=>kk c q ?_ M) (λ_ q=>q) λ_ _ q=>q;rcases L with rfl|L
   exact nb _ _ e;exact nb _ _ L
  have V:s.heap.objs.size<=T:=hT;have fT:H T=none:=I.aB.fresh V;have aT:T∉ [z,j,g,f]:=W.apart i T h' f';have tT:mL.IsTuple T #[u,v]:=by
   obtain⟨o,ho,q⟩:=BC;exact qF o (ve T o aT ho) q
  obtain⟨a,BE,ra⟩:∃a,xs[i]?=some a/\Tf a u:=by
   have e:Y[i]?=some u:=by simpa using eu
   have:i<xs.length:=X9
   obtain⟨u',M,r'⟩:=r1.get (i:=i) (x:=xs[i]) (by simp[this]);rw[e] at M;cases M;exact qF (xs[i]) (by simp[this]) r'
  obtain⟨b,X_,rb⟩:∃b,ys[i]?=some b/\Tf b v:=by
   have e:Z[i]?=some v:=by simpa using ev
   have:i<ys.length:=j'
   obtain⟨u',M,r'⟩:=r2.get (i:=i) (x:=ys[i]) (by simp[this]);rw[e] at M;cases M;exact qF (ys[i]) (by simp[this]) r'
  have Ya:=I.sz;have I2:Yp X B' σ (upd H T<|.t [a,b]) {s with heap:=mL,toks:=tk}:=by
   refine Yp.Be I1 fT (Ut I.sz V) (mK<|Z1 I.lt V) (λx c e q=>?_) (λp hp q=>?_) (tR (by show 2<=sizeLine;decide) [u,v] (.cons ra<|.cons rb .nil) tT);obtain⟨v',q'⟩:=I.cell x c e;have:=q'.lt;rw[q] at this;exact absurd (Z1 this V)<|yx _;have:=Ix (I.pin p hp).1;rw[q] at this;exact absurd (Z1 this V)<|yx _
  refine tA (.r T) _ I2 O (qT T fT O (λjl jm a' b' fV AX ea eb=>?_)) ?_ (λc L=>?_);rw[I.xf fV hx,BE] at ea;rw[I.xf AX hy,X_] at eb;cases ea;cases eb;rfl;obtain⟨q1,q2,q3,q4,q5,_⟩:=i2 BD;exact⟨q1,q2,q3,q4,q5⟩;have n0:=(N c L).1;have:c≠T:=λq=>by
   obtain⟨o,e,_⟩:∃o,s.heap.get? c=some o/\True:=by
    obtain⟨G,J,⟨a',b',F⟩,⟨o1,e1,_⟩,⟨o2,e2,_⟩⟩:=C;simp only[UA,nB,LE] at L;rcases L with rfl|rfl|rfl|rfl|rfl
    exact qF _ G trivial;exact qF _ J trivial;exact qF _ F trivial;exact qF _ e1 trivial;exact qF _ e2 trivial
   have:=Ix e;rw[q] at this;exact absurd (Z1 this V)<|yx _
  rw[av this];exact n0
 done:=by
  intro X hP hw hK l i B' s σ H E I N C hg;subst hP hw hK;obtain⟨xs,ys,hx,hy,hi⟩:=hg;obtain⟨Y,r1,p1,z1⟩:=I.list hx;obtain⟨Z,r2,p2,z2⟩:=I.list hy;have oA:=r1.length;have mz:=r2.length;have W:=WalksT.zip2 (prog:=X.prog) (w:=X.w) (A:=X.A) (I.ok.hd l) z B j g f U S D Y.toArray Z.toArray;obtain⟨G,J,F,h1,h2⟩:=V_ (id C);have hn:i=min Y.toArray.size Z.toArray.size:=by simp only[i3];lia
  subst hn;refine W.done s _ _ ⟨G,J,F,h1,h2,p1.isList,p2.isList⟩ λh' tk y=>⟨O,?_⟩;have R:∀b∈ [z,j,g,f],b∈ [z,B,j,g,f]:=λb d=>by
   simp only[UA,nB,LE] at d⊢;rcases d with rfl|rfl|rfl|rfl<;>simp
  refine I.step (g':=s.gens) (d':=s.drawn) (ch:=[z,j,g,f]) (λb d=>?_) (λb o _ _ l e _=>y b o l e) (λb o _ _ l e _=>qY o.slots (y b o l e)) (λ_ _ _ _ n=>n)
   (λb o l e=>qY o (y b o l e)) (λ_ _ e=>e) (λ_ _ _ e=>e) (λb ps e=>qY (#[]) (by rw[e];simp)) (λm hm=>?_) (λb o e=>?_) I.A
  obtain⟨f0,f1,f2,f3,f4,f5⟩:=i2 (N b (R b d));exact⟨f3,f1,f4,f5⟩;obtain⟨o,es,ep,ho,r⟩:=hm;exact qY o ⟨es,ep,y _ o (λd=>(N _<|R _ d).2.1 O) ho,r⟩;have nb:∀c o',H c=some o'->c∉ [z,j,g,f]:=λc o' e d=>by
   rw[(N c<|R c d).1] at e;cases e
  refine(I.aB b o e).kj (λc q L M=>y c q ?_ M) (λ_ q=>q) λ_ _ q=>q;rcases L with rfl|L
  exact nb _ _ e;exact nb _ _ L
 self:=λA i s Q E C hQ=>wpAny_pyIter_zip C.1 hQ
theorem amQ:bootBuiltins "zip"=some (.type "zip"):=by decide+kernel
theorem arS{Y':jp}(S:Gl X "zip")(P:X.g "zip"=none)(T:PA X [a,b] t)(N:starEach [a,b] X.env=(false,eval a X.env)::starEach [b] X.env)(G:(backTo d<|starEach [b] X.env).any (·.1)=false):
  PI X (.Tuple Y' k J) (.Call (.Name "zip" p) [a,b] [] d) (By X.K t):=by
 intro B s l H R I h;refine Call_<|pV I S P amQ<|Tm (aL (T d B s l H _ I h) λus c h=>?_) N G;obtain⟨vs,j,i,E,F⟩:=h;obtain⟨r,o,e,⟨xs,M⟩,⟨ys,L⟩,q⟩:=F;subst e;obtain⟨u,v,rfl,A,z⟩:=zI E;cases A;cases z;obtain⟨iB,Yc,n,z1⟩:=i.list M;obtain⟨gX,C,m,z2⟩:=i.list L;refine call_zip_2 n.isList m.isList λU y Z Y W V a6 Q=>?_;refine wpAny_pyIter_zip y ?_;have Yd: @LT.lt Nat _ r c.heap.objs.size:=by obtain⟨_,e,_⟩:=n.isList;exact Ix e
 have Ye: @LT.lt Nat _ o c.heap.objs.size:=by obtain⟨_,e,_⟩:=m.isList;exact Ix e
 have D:ZipApart (c.heap.objs.size+4) (c.heap.objs.size+2) (c.heap.objs.size+3) c.heap.objs.size (c.heap.objs.size+1) r o:=by
  constructor<;>(show @Ne Nat _ _;lia)
 have I2:Yp X B l j {c with heap:=U}:=i.kept (t':=c.toks) Q;refine tX _ _ _ _ j O I2 (asT D ⟨by show @Ne Nat _ _;lia,by show @Ne Nat _ _;lia⟩) ⟨y,Z,qY _ ⟨_,Y⟩,W,V⟩ (λx w=>?_) q;have f:c.heap.objs.size<=x:=by
  simp only[UA,nB,LE] at w;rcases w with rfl|rfl|rfl|rfl|rfl
  exact YJ _ _;exact YJ _ _;exact YJ _ _;exact mZ _;exact YJ _ _
 have:=i.uG (b:=x) (H':=j) f (i.aB.fresh f);exact this
theorem arF{K:Frag}{Y':jp}(d1:z≠it)(d2:l≠z)(d3:l≠it):
  mR P w K (.Tuple Y' k M) (uY K l) [z,it] z
   (λi h=>(∃g,IsEnum h z it i g)/\h.IsListIter it l i) where
 mem:=by simp
 obj:=λi h y b d=>by
  obtain⟨⟨g,j⟩,⟨o2,e2,c2,d2⟩⟩:=y;simp only[UA,nB,LE] at d;rcases d with rfl|rfl
  exact qF _ j (λv q=>by cases q);exact qF _ e2 (λv q=>by rw[d2] at q;cases q)
 keep:=λi h h' y B=>by
  obtain⟨⟨g,j⟩,Y⟩:=y;exact⟨qY g (B z ap _ j),Y.at λo e=>B it ap o e⟩
 item:=by
  intro X hP hw hK f i B' s σ H E I C y hg;subst hP hw hK;obtain⟨J,hx,X9⟩:=hg;obtain⟨F,Z,p1,z1⟩:=I.list hx;have oA:=Z.length;have W:=WalksT.enumerate (prog:=X.prog) (w:=X.w) (A:=X.A) (I.ok.hd f) z it l d1 d2 d3 F.toArray;obtain⟨j,Y⟩:=id y;have hn:i<F.toArray.size:=by simp only[i3];exact Z1 X9 (WK oA)
  refine W.item i s _ _ hn ⟨j,Y,p1.isList⟩ λT b' h' tk hv hT BC S B=>?_;refine qF (.ref T) O ?_;refine W.go Y' k M i T _ _ _ S λmL BD ve=>?_;obtain⟨t0,u,eu,rfl⟩:=hv;have U:∀b o,b∉ [z,it]->s.heap.get? b=some o->mL.get? b=some o:=λb o d e=>ve b o d (B b o d e);have I1:Yp X B' σ H {s with heap:=mL,toks:=tk}:=by
   refine I.step (g':=s.gens) (d':=s.drawn) (ch:=[z,it]) (λb d=>?_) (λb o _ _ f e _=>U b o f e) (λb o _ _ f e _=>qY o.slots (U b o f e)) (λ_ _ _ _ n=>n)
    (λb o f e=>qY o (U b o f e)) (λ_ _ e=>e) (λ_ _ _ e=>e) (λb ps e=>qY (#[]) (by rw[e];simp)) (λm hm=>?_) (λb o e=>?_) I.A
   obtain⟨f0,f1,f2,f3,f4,f5⟩:=i2 (C b d);exact⟨f3,f1,f4,f5⟩;obtain⟨o,es,ep,V,r⟩:=hm;exact qY o ⟨es,ep,U _ o (λd=>(C _ d).2.1 O) V,r⟩;have R:∀c N,H c=some N->c∉ [z,it]:=λc N e d=>by
    rw[(C c d).1] at e;cases e
   refine(I.aB b o e).kj (λc q L G=>U c q ?_ G) (λ_ q=>q) λ_ _ q=>q;rcases L with rfl|L
   exact R _ _ e;exact R _ _ L
  have D:s.heap.objs.size<=T:=hT;have fT:H T=none:=I.aB.fresh D;have aT:T∉ [z,it]:=W.apart i T h' S;have tT:mL.IsTuple T #[.int (i:Nat) t0,u]:=by
   obtain⟨o,V,q⟩:=BC;exact qF o (ve T o aT V) q
  obtain⟨a,BE,ra⟩:∃a,J[i]?=some a/\Tf a u:=by
   have e:F[i]?=some u:=by simpa using eu
   have:i<J.length:=X9
   obtain⟨u',G,r'⟩:=Z.get (i:=i) (x:=J[i]) (by simp[this]);rw[e] at G;cases G;exact qF (J[i]) (by simp[this]) r'
  have Ya:=I.sz;have I2:Yp X B' σ (upd H T<|.t [.i (i:Nat),a]) {s with heap:=mL,toks:=tk}:=by
   refine Yp.Be I1 fT (Ut I.sz D) (mK<|Z1 I.lt D) (λx c e q=>?_) (λp hp q=>?_) (tR (by show 2<=sizeLine;decide) [.int (i:Nat) t0,u] (.cons (qY t0 O)<|.cons ra .nil) tT);obtain⟨v',q'⟩:=I.cell x c e;have:=q'.lt;rw[q] at this;exact absurd (Z1 this D)<|yx _;have:=Ix (I.pin p hp).1;rw[q] at this;exact absurd (Z1 this D)<|yx _
  refine tA (.r T) _ I2 O (qT T fT O (λjl a' fV ea=>?_)) ?_ (λc L=>?_);rw[I.xf fV hx,BE] at ea;cases ea;rfl;obtain⟨⟨q0,q1⟩,q2,_⟩:=BD;exact⟨qY q0 q1,q2⟩;have n0:=(C c L).1;have:c≠T:=λq=>by
   obtain⟨o,e,_⟩:∃o,s.heap.get? c=some o/\True:=by
    obtain⟨⟨g,j⟩,⟨o2,e2,_⟩⟩:=y;simp only[UA,nB,LE] at L;rcases L with rfl|rfl
    exact qF _ j trivial;exact qF _ e2 trivial
   have:=Ix e;rw[q] at this;exact absurd (Z1 this D)<|yx _
  rw[av this];exact n0
 done:=by
  intro X hP hw hK f i B' s σ H E I C y hg;subst hP hw hK;obtain⟨J,hx,hi⟩:=hg;obtain⟨F,Z,p1,z1⟩:=I.list hx;have oA:=Z.length;have W:=WalksT.enumerate (prog:=X.prog) (w:=X.w) (A:=X.A) (I.ok.hd f) z it l d1 d2 d3 F.toArray;obtain⟨j,Y⟩:=id y;have hn:i=F.toArray.size:=by simp only[i3];lia
  subst hn;refine W.done s _ _ ⟨j,Y,p1.isList⟩ λh' tk B=>⟨O,?_⟩;refine I.step (g':=s.gens) (d':=s.drawn) (ch:=[z,it]) (λb d=>?_) (λb o _ _ f e _=>B b o f e) (λb o _ _ f e _=>qY o.slots (B b o f e)) (λ_ _ _ _ n=>n)
   (λb o f e=>qY o (B b o f e)) (λ_ _ e=>e) (λ_ _ _ e=>e) (λb ps e=>qY (#[]) (by rw[e];simp)) (λm hm=>?_) (λb o e=>?_) I.A
  obtain⟨f0,f1,f2,f3,f4,f5⟩:=i2 (C b d);exact⟨f3,f1,f4,f5⟩;obtain⟨o,es,ep,V,r⟩:=hm;exact qY o ⟨es,ep,B _ o (λd=>(C _ d).2.1 O) V,r⟩;have R:∀c N,H c=some N->c∉ [z,it]:=λc N e d=>by
   rw[(C c d).1] at e;cases e
  refine(I.aB b o e).kj (λc q L G=>B c q ?_ G) (λ_ q=>q) λ_ _ q=>q;rcases L with rfl|L
  exact R _ _ e;exact R _ _ L
 self:=λA i s Q E y hQ=>by
  obtain⟨⟨g,j⟩,_⟩:=y;exact wpAny_pyIter_enum j hQ
theorem atQ:bootBuiltins "enumerate"=some (.type "enumerate"):=by decide+kernel
theorem avC{Y:jp}(G:Gl X "enumerate")(E:X.g "enumerate"=none)(L:PA X [a] t)(D:starEach [a] X.env=[(false,eval a X.env)]):PI X (.Tuple Y k J) (.Call (.Name "enumerate" p) [a] [] d) (Bx X.K t):=by
 intro B s m H R I h;refine Call_<|pV I G E atQ<|Tm (aL (L d B s m H _ I h) λU c h=>?_) D O;obtain⟨T,j,i,y,A⟩:=h;obtain⟨o,e,⟨S,C⟩,q⟩:=A;subst e;obtain⟨u,rfl,x⟩:=Z5 y;cases x;obtain⟨W,Yc,n,Q⟩:=i.list C;refine call_enumerate_list n.isList λM w N Z F=>?_;refine wpAny_pyIter_enum w ?_;have Yd: @LT.lt Nat _ o c.heap.objs.size:=by obtain⟨V,e,V⟩:=n.isList;exact Ix e
 have P:Yp X B m j {c with heap:=M}:=i.kept (t':=c.toks) F;refine tX _ _ _ _ j O P (arF (z:=c.heap.objs.size+1) (it:=c.heap.objs.size) (l:=o) (by show @Ne Nat _ _;exact mK (VY _)) (by show @Ne Nat _ _;exact V9 (Za Yd)) (by show @Ne Nat _ _;exact V9 Yd)) ⟨qY _ w,N⟩ (λv r=>?_) q;have f:c.heap.objs.size<=v:=by
  simp only[UA,nB,LE] at r;rcases r with rfl|rfl
  exact YJ _ _;exact mZ _
 have:=i.uG (b:=v) (H':=j) f (i.aB.fresh f);exact this
end
set_option maxHeartbeats 400000
section
open PyProof.Rows
end
set_option maxHeartbeats 1000000
set_option maxHeartbeats 400000
section
open PyProof.Rows
inductive bM(J:Ev->Prop){b:Type}:Sem b->Prop
 |p (a:b):bM J (.pure a)
 |r (e:EQ):bM J (.raise e)
 |u (w:GE):bM J (.unsupported w)
 |R {t:GE}{k:Unit->Sem b}:bM J (k ())->bM J (.rule t k)
 |l {a:D9}{p:Cl}{k:Obj->Sem b}:(∀o,bM J<|k o)->bM J (.load a p k)
 |U {a:D9}{p:Cl}{f:Obj->Obj}{k:Unit->Sem b}:(∀s,J s->J {s with heap:=s.heap.update a f})->bM J (k ())->bM J (.update a p f k)
 |c {o:Obj}{k:D9->Sem b}:(∀s,J s->J {s with heap:=s.heap.push o})->(∀a,bM J<|k a)->bM J (.alloc o k)
 |s {k:List (Code×Pos)->Sem b}:(∀t,bM J<|k t)->bM J (.stack k)
theorem avT{t:Sem b}(k:bM J t):∀{Q:b->Pos->Ev->Prop}{E:EQ->Pos->Ev->Prop}{p:Pos}{s:Ev},J s->Sem.wp M d t Q E p s->
  Sem.wp M d t (λa p s=>Q a p s/\J s) (λe p s=>E e p s/\J s) p s:=by
 induction k with
 |p a=>intro Q E p s j h;rw[Sem.wp] at h⊢;exact⟨h,j⟩
 |r e=>intro Q E p s j h;rw[Sem.wp] at h⊢;exact⟨h,j⟩
 |u w=>intro Q E p s j h;rw[Sem.wp] at h;exact h.elim
 |R Y i=>intro Q E p s j h;rw[Sem.wp] at h⊢;exact i j h
 |l Y i=>intro Q E p s j h;rw[Sem.wp] at h⊢;obtain⟨o,e,h⟩:=h;exact⟨o,e,i o j h⟩
 |U f Y i=>intro Q E p s j h;rw[Sem.wp] at h⊢;exact⟨h.1,i (f _ j) h.2⟩
 |c f Y i=>intro Q E p s j h;rw[Sem.wp] at h⊢;exact i _ (f _ j) h
 |s Y i=>intro Q E p s j h;rw[Sem.wp] at h⊢;exact i _ j h
theorem Im{A:Gc}{t:Sem c}{Q:c->Ev->Prop}{E:bi}(k:bM J t)(j:J s)(h:wpAny M A t Q E s):
  wpAny M A t (λa s=>Q a s/\J s) (λe s=>E e s/\J s) s:=λd p b=>avT k j (h d p b)
def eF(e:D9)(s:Ev):Prop:= ∃o v,s.heap.get? e=some o/\o.data=.fields v/\v[2]?=some .none/\o.dict=none
theorem Yj(f:ww->ww)(o:Obj):(Obj.mapFields f o).dict=o.dict:=by
 delta Obj.mapFields;split<;>rfl
theorem Yk{a:D9}{v:EQ}(k:i≠2)(s:Ev)(j:eF e s):eF e {s with heap:=s.heap.update a (Obj.mapFields (·.setIfInBounds i v))}:=by
 obtain⟨o,g,f,c,b,h⟩:=j;by_cases z:a=e;subst z;have d:=Obj.data_mapFields c (·.setIfInBounds i v);exact q8 _ _ (YQ _ f<|Obj.isFreed_of_fields d) d (by rw[Array.getElem?_setIfInBounds_ne k];exact b) ((Yj _ _).trans h);exact q8 o g ((SL _ _ z).trans f) c b h
theorem amU{a:D9}(h:∀o,(f o).data=o.data/\(f o).dict=o.dict)(s:Ev)(j:eF e s):eF e {s with heap:=s.heap.update a f}:=by
 obtain⟨o,v,g,b,d,c⟩:=j;by_cases z:a=e;subst z;exact q8 _ v (YQ _ g<|Obj.isFreed_of_fields<|(h o).1.trans b) ((h o).1.trans b) d ((h o).2.trans c);exact q8 o v ((SL _ _ z).trans g) b d c
theorem Ym(s:Ev)(j:eF e s):eF e {s with heap:=s.heap.push b}:=by
 obtain⟨o,v,zq⟩:=Vj j;obtain⟨d,c,a,h⟩:=l5 zq;exact⟨o,v,KB _ d,c,a,h⟩
theorem bM.bind{t:Sem b}{f:b->Sem d}(k:bM J t)(h:∀a,bM J<|f a):bM J (t>>=f):=by
 show bM J (t.bind f);induction k with
 |p a=>exact h a
 |r e=>exact .r e
 |u w=>exact .u w
 |R Y i=>exact .R i
 |l Y i=>exact .l i
 |U g Y i=>exact .U g i
 |c g Y i=>exact .c g i
 |s Y i=>exact .s i
section
variable{e:D9}
theorem BF{a:D9}:bM (eF e) (load a):=.l λo=>.p o
theorem BG{v x:EQ}(h:i≠2):bM (eF e) (setField v i x):=by
 delta setField;split;rename_i a;delta updateField;refine BF.bind λo=>?_;split;split;exact .U (λs j=>Yk h s j) (.p ());exact .u _;exact .u _;exact .u _
theorem aoD{v:EQ}:bM (eF e) (fieldsOf v):=by
 delta fieldsOf;split;refine BF.bind λo=>?_;split;exact .p _;exact .u _;exact .u _
theorem xU{v:EQ}:bM (eF e) (field v i):=by
 delta field;refine aoD.bind λs=>?_;split;exact .p _;exact .u _
theorem amW{v:EQ}{f:wE}:bM (eF e) (setFlight v f):=by
 delta setFlight;refine xU.bind λt=>?_;split;exact BG ax;exact .p _
theorem BH:bM (eF e) stack:=.s λt=>.p t
theorem aaZ{t:GE}{v:ca}:bM (eF e) (newFields t v):=by
 delta newFields newObj newObjAsIs;show bM (eF e) (if v.toArray.size>sizeLine+2 then (unsupported "record:memory" >>=_) else _);split;exact .u _;exact bM.bind (.c (λs j=>Ym s j) λa=>.p a) λa=>.p _
theorem amL{f:D9}{b:Fk}:bM (eF e) (entryPlaceOf f b):=by
 delta entryPlaceOf;refine BH.bind λa=>?_;split;exact .p _;exact .p _
theorem auN:∀l:xy,bM (eF e) (readyFrames l):=by
 intro l;induction l with
 |nil=>
  exact .p _
 |cons v r i=>
  unfold readyFrames;split;refine BF.bind λo=>?_;split;exact .p _;refine bM.bind ?_ λm=>bM.bind ?_ λb=>bM.bind (.U (λs j=>amU (by intro o;exact⟨O,O⟩) s j)<|.p ()) λY=>i;unfold behindIsImport;split;exact .p _;split;exact .p _;exact xU.bind λY=>.p _;unfold keptBack;split;split;exact .p _;unfold underTheClaimsCaller;exact bM.bind (BH.bind λY=>.p _) λY=>.p _;exact .p _;exact .u _
theorem aoG:bM (eF e) (PySem.frameOf v):=by
 delta PySem.frameOf frameEnvs;refine bM.bind (BH.bind λY=>.p _) λl=>?_;refine bM.bind ?_ λr=>?_;delta frameObject;split;exact .p _;exact(auN _).bind λY=>.p _;split;exact .p _;exact .u _
theorem Yt{v:EQ}:bM (eF e) (noteFrame v c):=by
 delta noteFrame;split;rename_i x d hq;refine xU.bind λh=>?_;have t:bM (eF e) (do let a <-PySem.frameOf c;let l <-entryPlaceOf d (h !=.none);let b <-EntryCells.newEntry h a .none (rawInt d) .none l;setField v 1 b):=
  aoG.bind λa=>amL.bind λl=>bM.bind aaZ λb=>BG ax
 dsimp only;split;refine xU.bind λx=>?_;split;exact .p _;exact(BG ax).bind λY=>t;exact t;exact .u _
theorem Io{v:EQ}:bM (eF e) (leaving a v):=by
 delta leaving;exact Yt.bind λY=>amW
end
end
set_option maxHeartbeats 4000000
section
open PyProof.Rows
theorem cJ.BI(x:cJ P w H h a o):∃c,h.get? a=some c:=by
 cases o with
 |l g=>obtain⟨Y,Y,Y,Y,e⟩:=x;exact⟨_,e⟩
 |t g=>obtain⟨Y,Y,Y,c,e,Y⟩:=x;exact⟨_,e⟩
 |d k=>obtain⟨Y,Y,Y,Y,o,Y,Y,e,Y⟩:=x;exact⟨_,e⟩
 |T k=>obtain⟨Y,Y,Y,Y,o,Y,Y,e,Y⟩:=x;exact⟨_,e⟩
 |s S n=>obtain⟨o,Y,Y,Y,e,Y⟩:=YU x;exact⟨_,e⟩
 |i C z j=>obtain⟨Y,Y,Y,e,Y⟩:=V_ x;exact⟨_,e⟩
 |o y=>obtain⟨Y,e⟩:=x;exact⟨_,e⟩
 |xd j=>obtain⟨Y,⟨Y,Y,Y,e,Y⟩,Y⟩:=x;exact⟨_,e⟩
 |gU r v=>obtain⟨Y,Y,Y,e⟩:=x;exact⟨_,e⟩
 |b c u=>obtain⟨e,Y⟩:=x;exact⟨_,e⟩
 |G q=>exact⟨_,(show h.get? a=some _ from x)⟩
 |m f y=>exact⟨_,(show h.get? a=some _ from x)⟩
 |e p=>obtain⟨Y,⟨Y,e⟩,Y⟩:=x;exact⟨_,e⟩
theorem cb.Ip(f:cb P w H h)(k:∀b u,H b≠none->h.get? b=some u->d.get? b=some u):cb P w H d:=λa o e=>
 (f a o e).kj (λb u c g=>k b u (by
  rcases c with rfl|c
  rw[e];exact Option.some_ne_none _;rw[c];exact Option.some_ne_none _) g) (λY z=>z) (λY Y z=>z)
def iC(P:Fa)(w:FM):cg:=λr H s E e a=>∃(f:D9)(c:EQ)(t:D9)(B:FS)(d:Hp),
 e=.ref f/\a.os=s.os/\AllBare a.gens/\Un (bP r) [] H d s.heap a.heap/\cb P w d a.heap/\Heap.FlyingW B r f c (.ref t) a.heap/\eF f a/\d f=none/\
 (∀b,d b≠none->∀o,a.heap.get? b=some o->B.get? b=some o)/\(∀b o,s.heap.get? b=some o->b∉bP r->∀g,a.heap.get? b=some g->B.get? b=some g)/\E c none d
theorem Iq(h:iC P w o H s E0 e a):False:=by
 obtain⟨Y,Y,Y,Y,Y,zq⟩:=VL h;obtain⟨Y,Y,Y,Y,Y,Y,Y,Y,Y,Y,h⟩:=Xs zq;exact h
section
variable{P:Fa}{w:FM}{K:Frag}{j:ce}{k:FS}{N:ac}{d:Str}{g:Scope}{f:D9}{i:EQ}{A:Gc}{c:xy}{a:Ev}{l:Hp}{E:XK}
theorem aqF:Xb (iC P w) (qg (iC P w) P w K j k N d g f i A c a l E) E:=by
 intro B' σ H s e M I hx;obtain⟨ea,T,t,B,H',zq⟩:=VL hx;obtain⟨rfl,os,U,u,aB,fl,BJ,Yv,c1,c2,hE⟩:=Xs zq;have BK:=I.ok.frames;have hL:a.heap.objs.size<= (envOfC d g a.heap.objs.size f i).locals:=I.ok.above;have nL:∀b o,a.heap.get? b=some o->b∉bP c->b∉bP (envOfC d g a.heap.objs.size f i::c):=λb o h r V=>by
  have jP:b∈ (envOfC d g a.heap.objs.size f i).locals::bP c:=V;rcases UA.mp jP with rfl|z
  exact absurd (Ix h) (Nat.not_lt.mpr hL);exact r z
 have uD:∀b∈bP (envOfC d g a.heap.objs.size f i::c),H' b=none:=λb h=>by
  obtain⟨o,C,_⟩:=(I.stack.mem h).2;exact u.free b o C (I.w6 b h) nB
 refine KM (Im Io BJ<|wpAny_leaves_onW (Q:=λ_ my=>∃x,my={M with heap:=x}/\Heap.FlyingW B c ea T (.ref t) x/\M.heap.UpToSlots x) (E:=λ_ _=>False) BK O fl λx R W=>qT x O R W)
  (λ_ my hq=>?_) (λ_ _ z=>z.1.elim)
 obtain⟨⟨x,rfl,R,W⟩,BL⟩:=hq;have p:∀b o,s.heap.get? b=some o->b∉bP (envOfC d g a.heap.objs.size f i::c)->∀L,M.heap.get? b=some L->x.get? b=some L:=λb o h r L Z=>R.1 b L (c2 b o h r L Z);have pT:∀b o,H' b≠none->M.heap.get? b=some o->x.get? b=some o:=λb o h C=>R.1 b o (c1 b h o C);have qw:∀b∈bP (envOfC d g a.heap.objs.size f i::c),∀o,M.heap.get? b=some o->∃X,x.get? b=some {o with slots:=X}:=λb h o C=>by
  obtain⟨D,oB,hd⟩:=(fl.2.2.1.mem h).2;rw[C] at oB;cases oB;exact W b o C hd
 refine uP ea T t B H' O (os.trans I.os) U ⟨λb o q n r _=>?_,λb o q n r _=>?_,λb o q n _=>?_,λb o q _=>?_,λb xs q=>u.cf b xs (I.base.cf b xs q),λb o v q=>u.iQ b o v (I.base.iQ b o v q),λb ps q=>?_⟩ (aB.Ip (λb o h C=>pT b o h C)) R BL Yv ⟨λb h o C=>?_,λb o q r L Z=>?_,hE⟩
 have m:=I.base.keep b o q n r nB;have Y:=I.base.free b o q n nB;have F:=nL b o q r;exact p b o m F o<|u.keep b o m Y F nB;obtain⟨X,m⟩:=I.base.slot b o q n r nB;have Y:=I.base.free b o q n nB;have F:b∈bP (envOfC d g a.heap.objs.size f i::c):=N4 _ r;obtain⟨AH,y⟩:=u.slot b _ m Y F nB;obtain⟨BM,G⟩:=qw b F _ y;exact qY BM G;obtain⟨D,m⟩:=I.base.there b o q nB;exact u.free b D m (I.base.free b o q n nB) nB;obtain⟨D,m⟩:=I.base.there b o q nB;obtain⟨J,y⟩:=u.there b D m nB;by_cases V:b∈bP (envOfC d g a.heap.objs.size f i::c);obtain⟨X,G⟩:=qw b V J y;exact qY _ G;exact qY J (p b D m V J y);obtain⟨m1,e1⟩:=I.base.jd b ps q;obtain⟨m2,e2⟩:=u.jd b _ e1;exact qY (m1++m2) (by rw[e2,Array.append_assoc]);obtain⟨nU,hH⟩:=Option.ne_none_iff_exists'.mp h;obtain⟨J,y⟩:=(aB b nU hH).BI;have G:=pT b J h y;have S:x.get? b=some o:=C;rw[G] at S;cases S;exact c1 b h _ y;obtain⟨D,m⟩:=I.base.there b o q nB;obtain⟨J,y⟩:=u.there b D m nB;have F:=nL b o q r;have G:=p b D m F J y;have S:x.get? b=some L:=Z;rw[G] at S;cases S;exact c2 b D m F _ y
def Yr(X:Cx)(E:XK):Prop:= ∀(B:bn)(b:St)(H:Hp)(s:Ev)(h:FS)(e:D9)(c:EQ)(v:ca),Yp X B b H s->Heap.MadeExcOf s.heap h e c v->E c none H->X.a (.ref e) {s with heap:=h}
theorem Yw:Yr (qg (iC P w) P w K j k N d g f i A c a l E) E:=by
 intro B' σ H s h1 e G vs I J hE;have BK:=I.ok.frames;have hL:a.heap.objs.size<= (envOfC d g a.heap.objs.size f i).locals:=I.ok.above;have X:∀b o,a.heap.get? b=some o->b∉bP c->b∉bP (envOfC d g a.heap.objs.size f i::c):=λb o m p C=>by
  have jP:b∈ (envOfC d g a.heap.objs.size f i).locals::bP c:=C;rcases UA.mp jP with rfl|z
  exact absurd (Ix m) (Nat.not_lt.mpr hL);exact p z
 have cG:∀y∈ (envOfC d g a.heap.objs.size f i::c),∀b,y.frame=some b->b∈bP (envOfC d g a.heap.objs.size f i::c):=λy he b m=>Uw.mpr (qF y he m);have BJ:eF e {s with heap:=h1}:=by
  obtain⟨t,ht,_,_⟩:=J.there;exact q8 _ _ ht O O O
 refine KM (Im Io BJ (wpAny_leaves_madeW (Q:=λ_ Y=>∃r t,Y={s with heap:=r}/\Heap.FlyingW (hideAll s.heap (bP (envOfC d g a.heap.objs.size f i::c))) c e G (.ref t) r/\h1.UpToSlots r) (E:=λ_ _=>False)
  BK O (λb o q=>of_hideAll _ q) (PySem.W.funFrames_hide I.stack cG) J λr t R _ _ L=>rC r t O R L)) (λ_ Y hq=>?_) (λ_ _ z=>z.1.elim)
 obtain⟨⟨r,t,rfl,R,L⟩,BL⟩:=hq;have h:∀b o,s.heap.get? b=some o->b∉bP (envOfC d g a.heap.objs.size f i::c)->r.get? b=some o:=λb o m p=>R.1 b o (hideAll_get _ m p);have S:∀b,H b≠none->b∉bP (envOfC d g a.heap.objs.size f i::c):=λb m C=>m (I.w6 b C);have T:∀b∈bP (envOfC d g a.heap.objs.size f i::c),∀o,s.heap.get? b=some o->∃M,r.get? b=some {o with slots:=M}:=λb m o u=>by
  obtain⟨B,U,hd⟩:=(I.stack.mem m).2;rw[u] at U;cases U;exact L b o (J.keeps b o u) hd
 refine uP e G t _ H O I.os I.A ⟨λb o q n p _=>?_,λb o q n p _=>?_,λb o q n _=>I.base.free b o q n nB,λb o q _=>?_,I.base.cf,I.base.iQ,I.base.jd⟩ (I.aB.Ip (λb o m u=>h b o u (S b m))) R BL ?_ ⟨λb m o u=>?_,λb o q p o' gJ=>?_,hE⟩
 exact h b o (I.base.keep b o q n p nB) (X b o q p);obtain⟨M,x⟩:=I.base.slot b o q n p nB;obtain⟨BM,v⟩:=T b (N4 _ p) _ x;exact qY BM v;obtain⟨B,x⟩:=I.base.there b o q nB;by_cases C:b∈bP (envOfC d g a.heap.objs.size f i::c);obtain⟨M,v⟩:=T b C B x;exact qY _ v;exact qY B (h b B x C);cases q:H e with
 |none=>rfl
 |some u=>
  obtain⟨V,D⟩:=(I.aB e u q).BI;rw[J.new] at D;cases D
 obtain⟨nU,hH⟩:=Option.ne_none_iff_exists'.mp m;obtain⟨V,D⟩:=(I.aB b nU hH).BI;have v:=h b V D (S b m);have F:r.get? b=some o:=u;rw[v] at F;cases F;exact hideAll_get _ D<|S b m;obtain⟨B,x⟩:=I.base.there b o q nB;have Z:=X b o q p;have v:=h b B x Z;have F:r.get? b=some o':=gJ;rw[v] at F;cases F;exact hideAll_get _ x Z
end
section
variable{X:Cx}
theorem akT{C:D9}{m:ca}{B Z Y:GE}{c:jp}(hc:X.calm=true)(a:OwnCls x C m Z X.g X.base)(S:ExcBaseFacts B Z Y m)(Yy:Gl X x)(hd:(x==("__debug__":Str))=false)(ha:PA X (e::c) t)(L:starEach (e::c) X.env=(false,eval e X.env)::starEach c X.env)(h1:(backTo j<|starEach c X.env).any (·.1)=false)(hR:Yr X E):
  PS X (.Raise (some<|.Call (.Name x w) (e::c) [] j) none p) (Bu C E t):=by
 intro o s i H D I h;obtain⟨W,N,y,q,Q,b,u,d,R,l,P,K,J,G,F,A,z,hC,hN,V,T⟩:=a.obj;have hg:PE X (.Name x w) (tC<|.r C):=FO Yy a.bound O hd;refine wpAny_Raise_call_subT (C:=C) (nm:=y) (q:=q) (N:=N) (bs:=Q) (bm:=W) (hdct:=b) (sn:=u) (sub:=d) (ab:=R) (col:=l) (dd:=P) (k0:=K) (k1:=J) (k2:=G) (k3:=F) (k5:=A)
  S (mN:=z) (T.hasType S.hasBase) (I.ok.hd hc) (by rw[L];show(false ||(backTo j<|starEach c X.env).any (·.1))=false;rw[h1];rfl) V
  (aL (hg o s i H (λv n=>v=.r C/\Bu C E t D i n) I ⟨O,h⟩) λf s1 ⟨v,n,I1,r1,ev,q1⟩=>?_)
 subst ev;obtain rfl:f=Value.ref C:=r1;refine⟨O,?_⟩;have M:=ha j o s1 i n _ I1 q1;rw[L] at M⊢;refine Calls.evalArgs_plain<|aL M λU s2 h=>?_;obtain⟨vs,H2,k,r2,hl,q2⟩:=h;refine ⟨O,?_,k.bk _ _ hC,hN.keeps k.bk,T.keeps k.bk,λh' e' hm=>hR o i H2 s2 h' e' _ _ k hm q2⟩;have:=r2.length;show U.length<=sizeLine;lia
end
def Ir(A:Gc)(H:Hp):Prop:= ∃e D,A.handled=some (.ref e)/\Wo H e D
def avA(X:Cx):Prop:=Ir X.A X.H
structure BO(k:Nat)(A:Gc):Prop where
 dp:A.depth+3*k+5<recursionLimit
 un:A.units+16*k+200<cLine
 gd:A.guards=some []:=by rfl
theorem dh.h(r:dh k A):BO k A:=⟨r.dp,r.un,r.gd⟩
def alG(o:xy)(P:Fa)(w:FM)(H:Hp)(s:Ev)(Q:VK)(r:Result)(a:Ev):Prop:=
 match r with
 |.ok (.ret u)=>CE o P w H s Q u a
 |_=>False
structure Iu(P:Fa)(w:FM)(K:Frag)(mg:ce)(base:FS)(k:Nat)(f:D9)(fd:Go)(ps:ac)(sp:Sp):Prop where
 len:∀vs H Q E,sp vs H Q E->vs.length=ps.length
 run:∀(A:Gc)(outer:xy)(s:Ev)(H:Hp)(args:Args)(us:ca)(vs:ad)(Q:VK),BO k A->Ir A H->nQ P w K mg base A outer s H->BindsTo s fd args (ps.zip us)->Cj vs us->sp vs H Q E0->
  codeAny (model P w) A (.call (.ref f) args) (alG outer P w H s Q) s
def Iv(C:cg)(X:Cx)(x:Str)(s:Sp):Prop:=
 ∃k f d p,cY X.prog X.w X.K X.g X.base C k f d p s/\dh k X.A/\X.g x=some (.ref f)/\PySem.W.keepIn X.K (.ref f)=true/\TV X.K d p []
def xW(a:cg)(X:Cx)(C:D9)(m:Str)(s:Sp):Prop:=
 fP X.K C/\∃k f d p,gS X.K C m f/\cY X.prog X.w X.K X.g X.base a k f d p s/\dh k X.A/\TV X.K d p []
def Iw(a:cg)(X:Cx)(x:Str)(C:D9)(s:Sp):Prop:=
 ∃k f d p,Mk X.K C f/\cY X.prog X.w X.K X.g X.base a k f d p s/\dh (k+1) X.A/\X.g x=some (.ref C)/\TV X.K d p []
def Iy(X:Cx)(x:Str)(s:Sp):Prop:=
 ∃k f d p,Iu X.prog X.w X.K X.g X.base k f d p s/\BO k X.A/\X.g x=some (.ref f)/\PySem.W.keepIn X.K (.ref f)=true/\TV X.K d p []
def Iz(X:Cx)(x:Str)(C:D9):Prop:= ∃b B Z s,OwnCls x C b Z X.g X.base/\ExcBaseFacts B Z s b
structure Good(CX:cg)(S:c0)(Γ:aV)(X:Cx):Prop where
 N:X.N=S.N
 sc:X.env.scope=S.sc
 K:X.K=Γ.K
 calm:S.m=0->X.calm=true
 units:X.A.units+64<cLine
 gd:X.A.guards=some []
 fns:S.m=0->∀j x,S.fn[j]?=some x->Iv CX X x (Γ.fs j)
 xX:∀j x,S.gn[j]?=some x->∃u,X.g x=some u/\Tf (Γ.gv j) u
 g6:∀x,S.bl.contains x=true->X.g x=none
 P:Xb CX X Γ.E
 xY:∀outer H s e s',CX outer H s E0 e s'->False
 xZ:∀p G',Γ.sd p G'->∀h:FS,X.K.In h->∃vs,KV G' vs/\h.DictOf (dG X.prog X.w) p vs
 vf:S.m=0->∀j m,S.mn[j]?=some m->xW CX X (Γ.ms j).1 m (Γ.ms j).2
 vg:S.m=0->∀j x,S.kn[j]?=some x->Iw CX X x (Γ.kt j).1 (Γ.kt j).2
 dP:∀j x,S.en[j]?=some x->Iz X x (Γ.ex j)
 BP:∀j x,S.hn[j]?=some x->Iy X x (Γ.hs j)
 BQ:∀e,Γ.hv=some e->X.A.handled=some (.ref e)
 IA:S.m=1->avA X
theorem x9{S:c0}(h:(if S.m=0 then 0 else 2)=0):S.m=0:=by
 split at h;assumption;cases h
section
variable{d:cg}{S:c0}{g:aV}{X:Cx}
theorem Good.inner(G:Good d S g X)(c:u_)(l:ac)(f:mo)(b:pp)(C:D9)(s:Ev)(H:Hp):
  Good d (Il S c l f) g.calm (gY X c.sc (l++f.map (·.1)) b C s H) where
 N:=O
 sc:=by
  show relabel c.sc X.env=BB c.sc S.sc;rw[<-G.sc];rfl
 K:=G.K
 calm:=λh=>G.calm (x9 h)
 units:=G.units
 gd:=G.gd
 fns:=λm j x h=>G.fns (x9 m) j x h
 xX:=G.xX
 g6:=G.g6
 P:=λY Y Y Y Y Y Y h=>(G.xY _ _ _ _ _ h).elim
 xY:=G.xY
 xZ:=G.xZ
 vf:=λz j m h=>G.vf (x9 z) j m h
 vg:=λz j x h=>G.vg (x9 z) j x h
 dP:=λj x h=>by simp[Il] at h
 BP:=λj x h=>G.BP j x h
 BQ:=λe h=>G.BQ e h
 IA:=λh=>by
  have a:(if S.m=0 then 0 else 2)=1:=h;split at a<;>cases a
theorem Good.gl(G:Good d S g X)(h:ow S.sc x=true):Gl X x:=by
 show X.env.scope.names.lookup x=_;rw[G.sc];exact arY h
theorem cq{s:jp}(h:Ys e=true):starEach (e::s) v=(false,eval e v)::starEach s v:=by
 cases e<;>first|rfl|cases h
theorem n_(h:oz o=true):attributeBase o x e (eval o e)=eval o e:=by
 cases o with
 |Call f a k p=>
  cases f with
  |Name i q=>
   cases a with
   |nil=>
    cases k with
    |nil=>first|rfl|cases h|(delta attributeBase;split<;>first|rfl|cases h|contradiction)
    |cons=>rfl
   |cons=>rfl
  |_=>rfl
 |_=>rfl
theorem vh(h:vd e=true):∀x,foldedSetIterable e v x=pure x:=by
 intro x;cases e<;>first|rfl|cases h
def e_(e:jp):Fk:=e.all Ys
theorem iV(v:Env)(p:Pos):∀(s:jp),e_ s=true->(backTo p<|starEach s v).any (·.1)=false:=by
 intro l;induction l with
 |nil=>
  rintro h;exact O
 |cons e s i=>
  rintro h;simp only[e_,XJ,Xg] at h;rw[cq h.1];have i:=i h.2;show(false ||(backTo p<|starEach s v).any (·.1))=false;rw[i];rfl
theorem BR(v:Env)(p:Pos):∀(s:jp),e_ s=true->(backTo p<|starEach s v).all (λx=> !x.1)=true:=by
 intro l;induction l with
 |nil=>
  rintro h;exact O
 |cons e s i=>
  rintro h;simp only[e_,XJ,Xg] at h;rw[cq h.1];have i:=i h.2;show(!false && (backTo p<|starEach s v).all (λx=> !x.1))=true;rw[i];rfl
theorem cM{s:jp}(h:e_ (e::s)=true):Ys e=true/\e_ s=true:=by
 simp only[e_,XJ,Xg] at h;exact h
theorem BS(G:Good d S g X)(h:xT S c l f=true):
  kq X c.sc l f/\(∀x∈l,if l.length=1 then YE c.sc x else c.sc.names.lookup x=some .local)/\(l++f.map (·.1)).Nodup/\vd c.i=true:=by
 simp only[xT,Xg,IO,i4,Bool.or_eq_true] at h;obtain⟨⟨⟨⟨⟨⟨⟨u,t⟩,s⟩,r⟩,q⟩,o⟩,n⟩,m⟩:=h;refine⟨⟨u,λy a b=>(t y a).resolve_left λz=>z b,λy a b=>?_,λy a k=>?_,λp j=>?_⟩,λx e=>?_,n,m⟩;rcases s y a with z|z
 exact absurd b z;exact z;show X.env.scope.names.lookup y.1=_\/X.env.scope.names.lookup y.1=_;rw[G.sc];rcases r y a with(z|z)|z
 exact absurd k z;exact .inl z;exact .inr z;rw[G.N];exact q p j;rcases o x e with z|z
 split;exact .inl z;exact z;rw[GT z.1];exact .inr z.2
theorem IB(d:X.calm=true){c:u_}{f:mo}(h:sU t c.tg=some l)(a:∀x∈l,if l.length=1 then YE c.sc x else c.sc.names.lookup x=some .local)(n:(l++f.map (·.1)).Nodup):
  sN X c.sc l f c.tg t:=by
 delta sU at h;split at h;rename_i x p he;cases h;rw[he];exact akD (a x ap) n;rename_i x p y q k b he;cases h;rw[he];exact Xj d (a x ap) (a y ap) n;cases h
theorem arT{K:Frag}(h:jO K .i s H Q):(∃i,s=[.i i]/\Q (.i i) H)\/∃k,s=[.b k]/\Q (.i (if k then 1 else 0)) H:=by
 rcases s with Y|⟨x,Y|⟨Y,Y⟩⟩ <;>(try exact False.elim h) <;>cases x<;>first|exact False.elim h|exact .inl ⟨_,O,h⟩|exact .inr ⟨_,O,h⟩
theorem anI{K:Frag}(h:uQ K x H Q):∃n,Gm K x H n/\Q n:=by
 cases x with
 |s y=>exact⟨_,⟨h.1,O⟩,h.2⟩
 |r p=>
  rcases h with⟨c,a,b⟩|⟨c,a,b⟩
  exact⟨_,.inl ⟨c,a,O⟩,b⟩;exact⟨_,.inr ⟨c,a,O⟩,b⟩
 |_=>exact False.elim h
inductive auZ(X:Cx)(b:mH):Prop where
 |fn (i:GE)(h:bootBuiltins b.nm=some (.builtin i))(c:cE X (.builtin i) (jO X.K b))
 |ty (T:GE)(h:bootBuiltins b.nm=some (.type T))(c:cE X (.type T) (jO X.K b))
theorem WC:bootBuiltins "min"=some (.builtin "min"):=by decide+kernel
theorem V7:bootBuiltins "max"=some (.builtin "max"):=by decide+kernel
theorem xN:bootBuiltins "abs"=some (.builtin "abs"):=by decide+kernel
theorem amT:bootBuiltins "sum"=some (.builtin "sum"):=by decide+kernel
theorem ahB:bootBuiltins "isinstance"=some (.builtin "isinstance"):=by decide+kernel
theorem anX:bootBuiltins "int"=some (.type "int"):=by decide+kernel
theorem auP:bootBuiltins "list"=some (.type "list"):=by decide+kernel
theorem atR:bootBuiltins "tuple"=some (.type "tuple"):=by decide+kernel
theorem x_(f:Nat->Int)(t:Nat->Nat->Fk)(h:∀i j,t i j=decide (f i<f j)):∀n,argBest t n<=n/\∀i,i<=n->f (argBest t n)<=f i:=by
 intro l;induction l with
 |zero=>
  exact⟨mZ _,λi c=>by
   obtain rfl:i=0:=cV c (Wy _)
   exact TM _⟩
 |succ n d=>
  obtain⟨a,b⟩:=d;have e:argBest t (n+1)=if t (n+1) (argBest t n)=true then n+1 else argBest t n:=O
  rw[e,h];split;rename_i q;have q:=KF q;refine⟨mZ _,λi c=>?_⟩;by_cases z:i=n+1;rw[z];exact TM _;have:=b i (UD (TZ c z));exact lZ (pL q this);rename_i q;have q:¬f (n+1) <f (argBest t n):=λz=>q (ZA z);refine⟨(ZU a),λi c=>?_⟩;by_cases z:i=n+1;rw[z];exact ZF q;exact b i (UD (TZ c z))
theorem IC(h:i<x.size):numAt x i=x[i].1:=by
 delta numAt;rw[Array.getElem?_eq_getElem h];rfl
theorem ya(h:i<x.size):numAt x i∈x.toList.map (·.1):=by
 rw[IC h];exact Zv.mpr ⟨x[i],ap,O⟩
theorem yb(h:n∈x.toList.map (·.1)):∃i,i<x.size/\n=numAt x i:=by
 obtain⟨y,a,rfl⟩:=Zv.mp h;obtain⟨i,b,rfl⟩:=Y7 a;have c:i<x.size:=by simpa using b
 exact⟨i,c,by rw[IC c];simp⟩
theorem ID{b:St}{n:sK}(I:Yp X B b H s)(q:ak X.K H p (n.map V.i)):∃x:Array (Int×Tok),s.heap.IsList p (intItems x)/\n=x.toList.map (·.1):=by
 obtain⟨D,r,l,z⟩:=I.list q;have a:=VX r;obtain⟨x,h⟩:=a.allInts.items;refine⟨x,h ▸ l.isList,?_⟩;rw[<-nums_intItems,<-h];exact(show numsOf D.toArray.toList=n from a.numsOf).symm
theorem arV(o:X.calm=true):cE X (.builtin "min") (λx H Q=>∃(p:D9)(a:sK),x=[.r p]/\ak X.K H p (a.map V.i)/\a≠ []/\∀m:Int,m∈a->(∀n∈a,m<=n)->Q (.i m) H):=by
 intro E s y H x A Q I r h;obtain⟨p,a,rfl,e,N,q⟩:=h;obtain⟨u,rfl,c⟩:=Z5 r;cases c;obtain⟨x,l,rfl⟩:=ID I e;have b:0<x.size:=S8 λz=>N (by rw[VG z];rfl);refine min_intList (I.ok.hd o) l b λv C k d g=>?_;obtain⟨t,rfl⟩:=ST d;obtain⟨D,w⟩:=x_ (numAt x) (λi j=>decide<|numAt x i<numAt x j) (λY Y=>O) (x.size - 1);refine⟨.i _,H,I.kept (t':=k) g,⟨t,O⟩,q _ (ya al) λn f=>?_⟩;obtain⟨i,B,rfl⟩:=yb f;exact w i al
theorem awD(o:X.calm=true):cE X (.builtin "max") (λx H Q=>∃(p:D9)(a:sK),x=[.r p]/\ak X.K H p (a.map V.i)/\a≠ []/\∀m:Int,m∈a->(∀n∈a,n<=m)->Q (.i m) H):=by
 intro E s y H x A Q I r h;obtain⟨p,a,rfl,e,N,q⟩:=h;obtain⟨u,rfl,c⟩:=Z5 r;cases c;obtain⟨x,l,rfl⟩:=ID I e;have b:0<x.size:=S8 λz=>N (by rw[VG z];rfl);refine max_intList (I.ok.hd o) l b λv C k d g=>?_;obtain⟨t,rfl⟩:=ST d;obtain⟨D,w⟩:=x_ (λi=> - numAt x i) (λi j=>decide<|numAt x i>numAt x j) (λi j=>decide_eq_decide.mpr al) (x.size - 1);refine⟨.i _,H,I.kept (t':=k) g,⟨t,O⟩,q _ (ya al) λn f=>?_⟩;obtain⟨i,B,rfl⟩:=yb f;have:=w i al;lia
theorem ajC{b:ww}(h:ItemsOf (SignAt x) b x.cps.size):Cj (Yf x) b.toList:=by
 have o:∀(l:am)(a:ca),a.length=l.length->(∀(j:Nat)(v:EQ),a[j]?=some v->∃(c:Nat)(t:Tok),l[j]?=some c/\v=Value.str ⟨#[c]⟩ t)->Cj (l.map λc=>V.s ⟨#[c]⟩) a:=by
  intro l;induction l with
  |nil=>
   intro a d Y;rw[oZ.mp d];exact .nil
  |cons c l m=>
   intro a d i;cases a with
   |nil=>cases d
   |cons u a=>
    obtain⟨w,t,g,f⟩:=i 0 u O;have q:c=w:=by simpa using g
    subst q;exact .cons (qY t f) (m a (by simpa using d) λj v e=>by
     obtain⟨r,k,p,n⟩:=i (j+1) v (by simpa using e);exact rP r k (by simpa using p) n)
 refine o x.cps.toList b.toList ?_ λj v e=>?_;have:=h.1;simpa using this;obtain⟨c,t,g,f⟩:=h.2 j v (by simpa using e);exact rP c t (by simpa using g) f
theorem alH(x:Str):(Yf x).length=x.length:=by simp[Yf,Str.length]
theorem auW(d:X.calm=true):cE X (.type "list") (λa H Q=>∃x,a=[.s x]/\x.length<=sizeLine/\∀l,H l=none->Q (.r l) (upd H l<|.l<|Yf x)):=by
 intro m s i H a j Q I r h;obtain⟨x,rfl,b,q⟩:=h;obtain⟨u,rfl,t,rfl⟩:=Z5 r;refine call_list_str (I.ok.hd d) x t (λf k B g c e Y=>?_) b;have v:=ajC Y;exact⟨.r s.heap.objs.size,_,I.laid (t':=k) c (mZ _) (show cJ X.prog X.w _ f _ (.l<|Yf x) from⟨by rw[alH];exact b,B.toList,g,v,by simpa using e⟩),O,q _<|I.aB.fresh<|mZ _⟩
theorem aoH(f:X.calm=true)(b:mH):auZ X b:=by
 cases b with
 |l=>exact .fn "len" boot_len (cE.imp atX λa H Q h=>by
   rcases a with Y|⟨x,Y|⟨Y,Y⟩⟩ <;>(try exact False.elim h)
   obtain⟨n,d,c⟩:=anI (Q:=λn=>Q (.i n) H) h;exact rC x n O d c)
 |n=>exact .fn "min" WC (cE.imp ((UY f).or (arV f)) λa H Q h=>by
   rcases a with Y|⟨x,Y|⟨y,Y|⟨z,l⟩⟩⟩
   exact False.elim h
   cases x<;>first|exact False.elim h|(obtain⟨g,d,c,k⟩:=h;exact .inr (q8 _ g O d c k))
   cases x<;>cases y<;>first|exact False.elim h|exact .inl (rP _ _ O h)
   cases x<;>first|exact False.elim h|(cases y<;>exact False.elim h))
 |m=>exact .fn "max" V7 (cE.imp ((apZ f).or (awD f)) λa H Q h=>by
   rcases a with Y|⟨x,Y|⟨y,Y|⟨z,l⟩⟩⟩
   exact False.elim h
   cases x<;>first|exact False.elim h|(obtain⟨g,d,c,k⟩:=h;exact .inr (q8 _ g O d c k))
   cases x<;>cases y<;>first|exact False.elim h|exact .inl (rP _ _ O h)
   cases x<;>first|exact False.elim h|(cases y<;>exact False.elim h))
 |s=>exact .fn "sum" amT (cE.imp (aqS f) λa H Q h=>by
   rcases a with Y|⟨x,Y|⟨Y,Y⟩⟩ <;>(try exact False.elim h) <;>cases x<;>(try exact False.elim h)
   obtain⟨g,d,c⟩:=h;exact rC _ g O d c)
 |abs=>exact .fn "abs" xN λY Y Y Y a Y Y Y Y h=>by rcases a with Y|⟨y,Y|⟨q,Y⟩⟩ <;>first|exact False.elim h| (cases y<;>exact False.elim h)
 |i=>exact .ty "int" anX (cE.imp apW λa H Q h=>arT h)
 |t=>exact .ty "list" auP (cE.imp (aoE.or (auW f)) λa H Q h=>by
   rcases a with Y|⟨x,Y|⟨Y,Y⟩⟩ <;>(try exact False.elim h) <;>cases x<;>(try exact False.elim h)
   exact .inr (qT _ O h.1 h.2);obtain⟨o,d,c⟩:=h;exact .inl (rC _ o O d c))
 |e=>exact .ty "tuple" atR λY Y Y Y a Y Y Y Y h=>by rcases a with Y|⟨y,Y|⟨q,Y⟩⟩ <;>first|exact False.elim h| (cases y<;>exact False.elim h)
structure YO(X:Cx)(m:ji)(id:GE):Prop where
 pa:PlainAttrs (xS m)
 slot:Slot (xS m) m.nm id
 ty:typeOf (.builtin id)=pure (.type "method_descriptor")
 mt:qm X id (sS X.K m)
theorem YR{G:db}{f:wf}(r:KV G f)(k:YD)(h:mI G k=some v):∃u,valueAt f k=some u/\Tf v u:=by
 delta KV at r;induction r with
 |nil=>cases h
 | @cons p q c s j t i=>
  obtain⟨g,l⟩:=j;by_cases e:p.1=k;have d:q.1=k:=g.symm.trans e;have b:valueAt (q::s) k=some q.2:=by simp[valueAt,Zl,d]
  have a:mI (p::c) k=some p.2:=by simp[mI,Zl,e]
  rw[a] at h;cases h;exact⟨_,b,l⟩;have d:¬q.1=k:=λz=>e (g.trans z);have b:valueAt (q::s) k=valueAt s k:=by simp[valueAt,Zl,d]
  have a:mI (p::c) k=mI c k:=by simp[mI,Zl,e]
  rw[a] at h;rw[b];exact i h
theorem ajD{d:D9->db->Prop}(B:∀p G,d p G->∀h:FS,X.K.In h->∃a,KV G a/\h.DictOf (dG X.prog X.w) p a):lL X (Ic d):=by
 intro e U t s c H x y v u Q I i g h l;obtain⟨p,G,k,z,zq⟩:=YU h;obtain⟨rfl,rfl,m,n,q⟩:=V_ zq;cases i;obtain⟨a,r,b⟩:=B p G m s.heap I.dg;obtain⟨w,o,j⟩:=YR r k n;exact XV (x:=w) b.mapOf.typeIs PySem.F.slot_dict_getitem.lookup
  (wpAny_getItem_of (Q:=λr f=>r=w/\EP X t c Q r f) (xE g) b.mapOf o ⟨O,z,H,I.tok _,j,q⟩) l
theorem ahS{s:D9->db->Prop}(B:∀p G,s p G->∀h:FS,X.K.In h->∃v,KV G v/\h.DictOf (dG X.prog X.w) p v):lL X (oo X.K s):=apC.or (VN.or<|aqN.or<|ajD B)
theorem aiM:qm X "list.index" (λx c H Q=>∃(l:D9)(y:V)(a:ad),x=.r l/\c=[y]/\ak X.K H l a/\iS y=true/\a.all iS=true/\e7 y a=true/\Q (.i (a.findIdx (λz=>ip z y):Nat)) H):=by
 intro B' s Z H x c v us Q I C E h;obtain⟨l,y,a,zq⟩:=U1 h;obtain⟨rfl,rfl,L,N,p,T,q⟩:=YL zq;cases C;obtain⟨u,rfl,G⟩:=Z5 E;obtain⟨D,r,⟨⟨S,R,A,B⟩,n,o,k,M,g⟩,hz⟩:=I.list L;simp only at k g;subst k g;have d:=r.length;have e:∀j (m:j<D.length) (b:j<a.length),fS y D[j]=ip a[j] y:=λj m b=>by
  obtain⟨w,P,J⟩:=r.get (i:=j) (x:=a[j]) (by simp[b]);have t:=VP m;rw[P] at t;rw[<-Uq t];exact AN J<|i4.mp p _<|Ua b
 have f:a.findIdx (λz=>ip z y) <a.length:=List.findIdx_lt_length.mpr (List.any_eq_true.mp T);have hn:=p_;refine PP PySem.F.slot_list_index ⟨_,o,O⟩ PySem.F.entry_list_index (PySem.F.args_list_index_2 _ _)
  (PySem.SeqAt.list_indexAt l D.toArray n R B u (fS y) (a.findIdx λz=>ip z y) (by simp;exact Z1 f (WK d)) al ?_ ?_) ⟨o,λz W=>uN G N r p z (by simpa using W),⟨.i _,H,I.tok _,⟨_,O⟩,q⟩⟩
 show fS y D[a.findIdx λz=>ip z y]=true;rw[e _ (Z1 f (WK d)) f];exact List.findIdx_getElem (w:=f);intro j Y U;show fS y D[j]=false;rw[e j (by simpa using Y) (Xa U f)];simpa using List.not_of_lt_findIdx U
theorem IE(m:ji):∃N,YO X m N:=by
 cases m with
 |a=>exact qY _ ⟨Re,ZB,F.type_list_append,λB s n H x b v q Q I g k h=>by
   cases x<;>(try exact False.elim h) <;>rcases b with Y| ⟨o,Y| ⟨Y,Y⟩⟩ <;>(try exact False.elim h)
   obtain ⟨A,d,w,D⟩:=h;exact akN B s n H _ _ v q Q I g k (uM _ A _ O O d w D)⟩
 |p=>exact qY _ ⟨Re,F.slot_list_pop,F.type_list_pop,λB s n H x b v q Q I g k h=>by
   cases x<;>(try exact False.elim h) <;>rcases b with Y| ⟨Y,Y⟩ <;>(try exact False.elim h)
   obtain ⟨A,y,d,w,D⟩:=h;exact agC B s n H _ _ v q Q I g k (uM _ A y O O d w D)⟩
 |e=>exact qY _ ⟨Re,F.slot_list_extend,F.type_list_extend,λB s n H x b v q Q I g k h=>by
   cases x<;>(try exact False.elim h) <;>rcases b with Y| ⟨o,Y| ⟨Y,Y⟩⟩ <;>(try exact False.elim h) <;>cases o<;>(try exact False.elim h)
   obtain ⟨K,A,zq⟩:=Vj h;obtain ⟨d,w,D,J⟩:=l5 zq;exact avX B s n H _ _ v q Q I g k (tU _ _ K A O O d w D J)⟩
 |j=>exact qY _ ⟨SZ,F.slot_str_join,F.type_str_join,λB s n H x b v q Q I g k h=>by
   cases x<;>(try exact False.elim h) <;>rcases b with Y| ⟨o,Y| ⟨Y,Y⟩⟩ <;>(try exact False.elim h) <;>cases o<;>(try exact False.elim h)
   obtain ⟨L,d,w,D⟩:=h;exact XB B s n H _ _ v q Q I g k (uM _ _ L O O d w D)⟩
 |l=>exact qY _ ⟨SZ,F.slot_str_lstrip,F.type_str_lstrip,λB s n H x b v q Q I g k h=>by
   cases x<;>(try exact False.elim h) <;>rcases b with Y| ⟨o,Y| ⟨Y,Y⟩⟩ <;>(try exact False.elim h) <;>cases o<;>(try exact False.elim h)
   obtain ⟨d,w⟩:=h;exact amN B s n H _ _ v q Q I g k (q8 _ _ O O d w)⟩
 |s=>exact qY _ ⟨SZ,F.slot_str_startswith,F.type_str_startswith,λY Y Y Y x b Y Y Y Y Y Y h=>by cases x<;>rcases b with Y| ⟨o,Y| ⟨G,Y⟩⟩ <;>first|exact False.elim h| (cases o<;>exact False.elim h)⟩
 |f=>exact qY _ ⟨SZ,F.slot_str_find,F.type_str_find,λB s n H x b v q Q I g k h=>by
   match x,b,h with
   |.s z,[.s y],d=>
    obtain ⟨t,rfl⟩:=g;obtain ⟨u,rfl, ⟨E,rfl⟩⟩:=Z5 k;exact UV F.slot_str_find (Ps _ _ _) F.entry_str_find (F.args_str_find_2 _ _) (gives_str_find z y t E) ⟨.i _,H,I.tok _,qY _ O,d⟩
   |.s z,[.s y,.i i],d=>
    obtain ⟨t,rfl⟩:=g;obtain ⟨u,R,rfl, ⟨E,rfl⟩, ⟨M,rfl⟩⟩:=zI k;exact UV F.slot_str_find (Ps _ _ _) F.entry_str_find (F.args_str_find_3 _ _ _) (gives_str_find_from z y i t E M) ⟨.i _,H,I.tok _,qY _ O,d⟩⟩
 |c=>exact qY _ ⟨SZ,F.slot_str_count,F.type_str_count,λB s n H x b v q Q I g k h=>by
   match x,b,h with
   |.s z,[.s y],d=>
    obtain ⟨t,rfl⟩:=g;obtain ⟨u,rfl, ⟨E,rfl⟩⟩:=Z5 k;exact UV F.slot_str_count (Ps _ _ _) F.entry_str_count (F.args_str_count_2 _ _) (gives_str_count z y t E) ⟨.i _,H,I.tok _,qY _ O,d⟩⟩
 |r=>exact qY _ ⟨Re,F.slot_list_reverse,F.type_list_reverse,λY Y Y Y x b Y Y Y Y Y Y h=>by cases x<;>rcases b with Y| ⟨o,Y| ⟨G,Y⟩⟩ <;>first|exact False.elim h| (cases o<;>exact False.elim h)⟩
 |i=>exact qY _ ⟨Re,F.slot_list_index,F.type_list_index,λY Y Y Y x b Y Y Y Y Y Y h=>by cases x<;>rcases b with Y| ⟨o,Y| ⟨G,Y⟩⟩ <;>first|exact False.elim h| (cases o<;>exact False.elim h)⟩
 |HU=>exact qY _ ⟨Re,F.slot_list_count,F.type_list_count,λY Y Y Y x b Y Y Y Y Y Y h=>by cases x<;>rcases b with Y| ⟨o,Y| ⟨G,Y⟩⟩ <;>first|exact False.elim h| (cases o<;>exact False.elim h)⟩
 |Bv=>exact qY _ ⟨Re,F.slot_list_index,F.type_list_index,λB s n H x b v q Q I g k h=>by
   cases x<;>(try exact False.elim h) <;>rcases b with Y| ⟨o,Y| ⟨Y,Y⟩⟩ <;>(try exact False.elim h)
   obtain ⟨A,zq⟩:=Vx h;obtain ⟨d,w,D,J,P⟩:=V_ zq;exact aiM B s n H _ _ v q Q I g k (uM _ _ A O O d w ⟨D,J,P⟩)⟩
 |C=>exact qY _ ⟨Re,F.slot_list_clear,F.type_list_clear,λB s n H x b v q Q I g k h=>by
   cases x<;>(try exact False.elim h) <;>rcases b with Y| ⟨Y,Y⟩ <;>(try exact False.elim h)
   obtain ⟨A,d,w⟩:=h;exact aqA B s n H _ _ v q Q I g k (q8 _ A O O d w)⟩
theorem auB{n:St}{Q:bi}{E:bi}(I:Yp X B n H s)(c:Tf x u)(h:bS T x H j)(q:∀b k,j b->Q (.bool b) {s with toks:=k}):wpAny (model X.prog X.w) X.A (call (.builtin "isinstance") [u,.type T.nm]) Q E s:=by
 cases x with
 |a=>exact mv I c (.ar) (awC _ T) λk=>q _ _ h
 |b b=>exact mv I c (.bl b) (oj X.K .b T) λk=>q _ _ (by cases T<;>exact h)
 |i i=>exact mv I c (.int i) (oj X.K .i T) λk=>q _ _ (by cases T<;>exact h)
 |s i=>exact mv I c (.str i) (oj X.K .s T) λk=>q _ _ (by cases T<;>exact h)
 |r a=>
  delta bS at h;simp only at h;cases e:H a with
  |none=>rw[e] at h;cases h
  |some o=>
   rw[e] at h;cases o with
   |l g=>exact mv I c (.lst e) (oj X.K .l T) λk=>q _ _ (by cases T<;>exact h)
   |t g=>exact mv I c (.tup e) (oj X.K .t T) λk=>q _ _ (by cases T<;>exact h)
   |d g=>exact mv I c (.dK e) (oj X.K .d T) λk=>q _ _ (by cases T<;>exact h)
   |T g=>exact mv I c (.dT e) (oj X.K .d T) λk=>q _ _ (by cases T<;>exact h)
   |b f o=>
    cases o with
    |l g=>exact mv I c (.bX e) (oj X.K .l T) λk=>q _ _ (by cases T<;>exact h)
    |_=>cases h
   |_=>cases h
 |_=>exact False.elim h
theorem avJ(T:Ty):bootBuiltins (Str.ofString T.nm)=some (.type T.nm):=by cases T<;>decide+kernel
theorem anU(T:Ty):cE X (.builtin "isinstance") (om T):=by
 intro B s f H a g Q I r h;rcases a with _|⟨x,_|⟨y,_|_⟩⟩ <;>(try exact False.elim h) <;>cases y<;>try exact False.elim h
 obtain⟨e,h⟩:=h;subst e;obtain⟨u,w,rfl,c,j⟩:=zI r;cases j;exact auB I c h λb k d=>⟨.b b,H,I.tok k,O,d⟩
theorem atO(d:PE X a b)(h:Ys a=true)(c:Gl X "isinstance")(m:X.g "isinstance"=none)(f:Gl X (Str.ofString T.nm))(Y:X.g (Str.ofString T.nm)=none):
  PE X (.Call (.Name "isinstance" p) [a,.Name (Str.ofString T.nm) q] [] s) (eZ (om T)<|dU b<|dU (tC<|.t T.nm) je):=by
 have e:PE X (.Name (Str.ofString T.nm) q) (tC<|.t T.nm):=asY f Y (avJ T) O (by cases T<;>decide) (by cases T<;>decide);exact qh (anU T) c m ahB (lK d (lK e sv O)<|cq h) ax ax (cq h) O
theorem arM:xu X (uX X.K):=by
 intro E s w H x v j g o b y Q I m q n p h;cases x with
 |r a=>
  rcases h with⟨f,d,c⟩|⟨f,d,c,L⟩
  exact aqU E s w H _ v j g o b y Q I m q n p (rC a f O d c);exact agO E s w H _ v j g o b y Q I m q n p (q8 a f O d c L)
 |s z=>
  obtain⟨d,c⟩:=h;obtain⟨t,rfl⟩:=m;obtain⟨l,N,B⟩:∃l:Option (Int×Tok),j=partValue l/\l.map (·.1)=o:=by
   cases n with
   |none=>exact qF none O O
   |int i t=>exact qF (some (i,t)) O O
  obtain⟨u,M,A⟩:∃u:Option (Int×Tok),g=partValue u/\u.map (·.1)=b:=by
   cases p with
   |none=>exact qF none O O
   |int i t=>exact qF (some (i,t)) O O
  subst N M;refine rC ("str") _ F.slot_str_getitem.lookup (Ps _ _ _) ?_;refine wpAny_getItem_str_slice (l:=l) (u:=u) (st:=none) q O ?_;obtain⟨T,S,R⟩:=AM o b z.length;have J:slicePicked z l u none=(List.range<|HT.aU z.length z.length b - HT.aU z.length 0 o).map (HT.aU z.length 0 o+ ·):=by
   show Builtin.Str.strSliceIndices (l.map (·.1)) (u.map (·.1)) 1 z.length=_;rw[B,A];have P:Builtin.Str.strSliceIndices o b 1 z.length=sliceRange (sliceBounds o b none z.length).1 (sliceBounds o b none z.length).2.1 (sliceBounds o b none z.length).2.2:=O;rw[P,T,S,R,sliceRange_one]
  have D:((slicePicked z l u none).filterMap (z.cps[·]?))=mF z.cps.toList o b:=by
   show(Builtin.Str.strSliceIndices (l.map (·.1)) (u.map (·.1)) 1 z.length).filterMap (z.cps[·]?)=_;rw[B,A,anZ]
  have C:z.cps.toList.length=z.length:=by simp[Str.length]
  have Z:=HT.AI z.length 0 (Wy _) o;have Y:=HT.AI z.length z.length (mZ _) b;delta sliceMade;refine post_val_or_made (λ_=>?_) λG k=>?_;show(List.toArray ((slicePicked z l u none).filterMap (z.cps[·]?))).size<=sizeLine;rw[D,i3];have:(mF z.cps.toList o b).length<=z.cps.toList.length:=by delta mF;simp only[WE,Xh];lia
  lia;have e:(if (((none:Option (Int×Tok)).map (·.1)).getD 1==1 && (slicePicked z l u none).length==z.length)=true then z else ⟨((slicePicked z l u none).filterMap (z.cps[·]?)).toArray⟩)=mG z o b:=by
   split;rename_i hq;simp only[Xg,Wp] at hq;have W:=hq.2;rw[J,VH,List.length_range] at W;have V:HT.aU z.length 0 o=0:=by lia
   have U:HT.aU z.length z.length b=z.length:=by lia
   delta mG mF;rw[C,V,U,<-C,kE,X5,Ux];rw[D];rfl
  rw[e];exact⟨.s _,H,I.tok k,qY G O,c⟩
 |_=>exact False.elim h
theorem Y4:xj X (unaryOp .USub) Ib:=by
 intro B s a H x v Q I r h;cases x with
 |i i=>exact auT B s a H _ v Q I r ⟨i,O,h⟩
 |_=>exact False.elim h
theorem alK(g:PE X a t):PE X (.UnaryOp .Not a p) (Bw X.K t):=by
 intro B s d H Q I h;refine UnaryOp_<|aL (g B s d H _ I h) λv e h=>?_;obtain⟨x,k,j,r,f⟩:=h;refine not_of ?_;exact aL (Gk B e d k x v (λb c=>Q (.b<|!b) c) j r<|Ia f) (by rintro b l ⟨c,i,q⟩;exact ⟨.b<|!b,c,i,O,q⟩)
theorem yc(d:PE X a t)(e:∀w,isTrue a X.env w=(do let v <-w;standAt a.pos;holding [v] (truthy v))):PT X a (gK X.K t):=by
 intro B s b H Q I h;exact isTrue_plain (aL (d B s b H _ I h) (by rintro v c ⟨x,g,f,r,q⟩;exact Gk B c b g x v Q f r (Ia q)))<|e _
theorem awA{s:jp}{V d:Pos}(b:PE X o a)(f:PA X (e::s) t)(c:oz o=true)(l:(V.endLine==d.line)=true)(n:(e::s).length<29)(h:starEach (e::s) X.env=(false,eval e X.env)::starEach s X.env)(i:(backTo d<|starEach s X.env).any (·.1)=false)(g:(backTo d<|starEach (e::s) X.env).all (λx=> !x.1)=true):
  PE X (.Call (.Attribute o m.nm V) (e::s) [] d) (sT X.K m a t):=by
 obtain⟨j,M⟩:=IE (X:=X) m;exact GV M.pa M.slot M.ty M.mt b f (n_ c) (by
  rw[g];show(true && true && decide ((e::s).length+0+0<30))=true;rw[ZA al];rfl) l h i
theorem asM{V d:Pos}(h:PE X o t)(b:oz o=true)(l:(V.endLine==d.line)=true):
  PE X (.Call (.Attribute o m.nm V) [] [] d) (sT X.K m t je):=by
 obtain⟨i,M⟩:=IE (X:=X) m;exact arH M.pa M.slot M.ty M.mt h (n_ b) l
theorem IF{V:Pos}{a:jp}{Q:bi}{E:bi}{A:Gc}{s:Ev}{g:Fa}{w:FM}(n:oz o=true)(j:(V.endLine==p.line)=true)(t:a.length<29)(k:(backTo p<|starEach a v).all (λx=> !x.1)=true)(h:wpAny (model g w) A (eval o v) (λd c=>∀i,wpAny (model g w) A (getMethod d m i) (λf b=>wpAny (model g w) A (callWith p f.1 f.2 (backTo p<|starEach a v)<|backToKw p<|keywordEach [] v) Q E b) E c) E s):
  wpAny (model g w) A (eval (.Call (.Attribute o m V) a [] p) v) Q E s:=by
 have Y:methodCallForm (a.length+0) (backTo p<|starEach a v) (backToKw p<|keywordEach [] v)=true:=by
  show((backTo p<|starEach a v).all (λx=> !x.1) && true && decide (a.length+0+0<30))=true;rw[k,ZA al];rfl
 have l:methodCallPos true o v V p=pure p:=by delta methodCallPos;simp[j]
 rw[arm_eval_Call,n_ n];refine HD<|KM h (λd c r=>HD<|Tl ?_) λZ Z e=>e;delta methodCall;rw[show([]:List Keyword).length=0 from O,Y];refine HD<|NE<|KM (r _) (λf b q=>?_) λZ Z e=>e;exact HD<|wpAny_of_eq l q
theorem auC{b:jp}{V:Pos}(M:xW d X C m n)(K:Xb d X E)(P:PE X o j)(U:PA X (e::b) t)(T:oz o=true)(S:(V.endLine==p.line)=true)(R:(e::b).length<29)(L:starEach (e::b) X.env=(false,eval e X.env)::starEach b X.env)(Y:(backTo p<|starEach b X.env).any (·.1)=false)(W:(backTo p<|starEach (e::b) X.env).all (λx=> !x.1)=true):
  PE X (.Call (.Attribute o m V) (e::b) [] p) (qe C m n [] E j t):=by
 obtain⟨c,k,f,fd,ps,w,F,N,A⟩:=M;intro B s g H Q I h;refine IF T S R W<|aL (P B s g H _ I h) λu D h=>?_;obtain⟨x,H1,z,G,a,dx,fs,Z,ea,l,q⟩:=h;refine λpl=>?_;subst Z;obtain rfl:u=Value.ref a:=G;refine Gq z ea c w l ?_;refine callWith_K (first:=[.ref a]) (h₀:=X.base) I.ok.mod.uC w.kp (aL (U p B D g H1 _ z q) λi s2 h=>?_) L Y;obtain⟨v,H2,y,r,J⟩:=h;refine ⟨y.dg,?_⟩;exact AG (us:=.ref a::i) (vs:=.r a::v) F N A .nil K y (.cons O r) J
theorem auH{V:Pos}(M:xW d X C m e)(n:Xb d X E)(y:PE X o t)(A:oz o=true)(z:(V.endLine==p.line)=true):
  PE X (.Call (.Attribute o m V) [] [] p) (qe C m e [] E t je):=by
 obtain⟨c,k,f,R,L,g,F,w,v⟩:=M;intro G s i H Q I h;refine IF A z ax O<|aL (y G s i H _ I h) λu K h=>?_;obtain⟨x,T,b,j,a,S,P,B,D,l,q⟩:=h;refine λN=>?_;subst B;obtain rfl:u=Value.ref a:=j;refine Gq b D c g l ?_;exact callWith_K0 (first:=[.ref a]) b.dg g.kp<|AG (us:=[.ref a]) (vs:=[.r a]) F w v .nil n b (.cons O .nil) q
variable{a:Fa}{w:FM}{A:Gc}{E:bi}{s:Ev}
theorem apO{l:D9}{b:ww}(N:l≠t):∀(n i:Nat)(s:Ev)(Q:ca->Ev->Prop),s.heap.IsListIter t l i->s.heap.IsList l b->i+n<=b.size->
  (∀e,e.IsListIter t l (i+n)->Heap.SameBut t s.heap e->Q ((b.toList.drop i).take n) {s with heap:=e})->wpAny (model a w) A (draw (.ref t) n) Q E s:=by
 intro l;induction l with
 |zero=>
  rintro i s Q h Y Y d;show wpAny _ _ (pure []) Q E s;exact IN (by simpa using d s.heap h (Heap.SameBut.refl ..))
 |succ n g=>
  rintro i s Q h f j d;have F:i<b.size:=by lia
  show wpAny _ _ (pyNext (.ref t) >>=_) Q E s;refine HD<|wpAny_pyNext_list_item h f (x:=b[i]) (by simp[F]) λW B v=>?_;refine HD<|NE<|g (i+1) _ _ B (f.extBut v.extBut N) al λc m Z=>IN ?_;have k:b.toList.drop i=b[i]::b.toList.drop (i+1):=by simp[Tz,F]
  have:=d c (by rw[show i+(n+1)=i+1+n by lia];exact m) (v.trans Z);rw[k,YX] at this;exact this
theorem amD{t:D9}{i:ww}{Q:ca->Ev->Prop}(j:A.handled=none)(c:s.heap.IsList t i)(k:∀f,Heap.ExtBut s.heap.objs.size s.heap f->Q i.toList {s with heap:=f}):wpAny (model a w) A (unpackItems (.ref t) i.size none) Q E s:=by
 have F:t≠s.heap.objs.size:=by obtain⟨o,g,Y⟩:=c;exact V9 (Ix g)
 delta unpackItems;refine HD ?_;delta notIterableAtAll;refine HD<|wpAny_specialOf c.typeIs slot_list_iter.lookup ?_;refine IN ?_;simp only[S_,Op];refine HD<|NE<|W1 c ?_;refine HD<|NE<|apO F i.size 0 _ _ ⟨_,M2 _ O,O,O⟩ (c.push _) (WK (Xz _ _)) λW B v=>?_;have u:List.take i.size (List.drop 0 i.toList)=i.toList:=by
  rw[X5];exact Vo ap
 rw[u];rw[GM ap];have l:W.IsList t i:=(c.push _).extBut v.extBut F;refine HD<|NE<|wpAny_pyNext_list_end j B l ap λh Z=>?_;simp only[Option.isSome_none,S_,Op];refine IN<|k h λb o d e=>Z b o d (v.extBut b o d<|KB _ e)
theorem atB{Y:jp}{t:D9}{i:ww}{Q:zn}(d:A.handled=none)(c:s.heap.IsList t i)
  (n:(assignEach Y e).length=i.size) (Z:(assignEach Y e).findIdx? (·.1)=none)
  (h:∀b,Heap.ExtBut s.heap.objs.size s.heap b->wpAny (model a w) A (assignInOrder ((assignEach Y e).map (·.2)) i.toList) Q E {s with heap:=b}):
  wpAny (model a w) A (assign (.Tuple Y x p) e<|.ref t) Q E s:=by
 rw[assign_Tuple];refine HD<|Tl ?_;delta unpack;rw[n,Z];exact HD<|NE<|amD d c h
end
def kA(K:Frag)(n:Nat)(t:lI):TG:=λv b H Q=>∃a x,v=.r a/\(aM K H a x\/ak K H a x)/\x.length=n/\t x b H Q
theorem IG{X:Cx}(j:X.calm=true)(h:sj X c t)(i:(assignEach c X.env).length=n)(f:(assignEach c X.env).findIdx? (·.1)=none):PG X (.Tuple c k p) (kA X.K n t):=by
 intro B s d H v u Q I r w;obtain⟨a,x,m,q,l,w⟩:=w;rcases q with q|q
 exact As j h i f B s d H v u Q I r (q8 a x m q l w);subst m;cases r;obtain⟨E,g,z,D⟩:=I.list q;refine atB (I.ok.hd j) z.isList (by simp[i,<-l,g.length]) f λA y=>?_;have C:Yp X B d H {s with heap:=A}:=I.kept (t':=s.toks) λb o e=>y b o (V9<|Ix e) e;exact h B _ d H x _ Q C (by simpa using g) w
def jR:am->lI
 |[]=>xg
 |i::r=>pX (dB i) (jR r)
def avY(t:TE)(f h:TO):TG:=λv d H Q=>t d H λo k=>f d k λi g=>h d g λj e=>∃l b x y a c,o=.r l/\v=.r b/\i=some a/\j=some c/\e l=some (.l x)/\e b=some (.l y)/\l≠b/\
 0<=a/\a<=c/\c<=x.length/\x.length+y.length<=sizeLine/\Q d (upd e l<|.l<|x.take a.toNat++y++x.drop c.toNat)
mutual
def cO(Γ:aV):RS->TS
 |.a i e=>km (ag Γ e) (dB i)
 |.sQ i e=>km (ag Γ e) (dB i)
 |.s o ix e=>km (ag Γ e) (F3 (ag Γ o) (ag Γ ix) xv)
 |.t o i e=>Hb (ag Γ o) (ag Γ i) (ag Γ e)
 |.d e=>FZ (ag Γ e)
 |.r e=>F0 (ag Γ e)
 |.XU=>apD
 |.i c t e=>F1 (bj Γ c) (aw Γ t) (aw Γ e)
 |.y i k D' body=>xh (gw Γ k D') (dB i) (aw Γ body)
 |.j is k D' body=>xh (gw Γ k D') (kA Γ.K is.length<|jR is) (aw Γ body)
 |.l c body=>F5 (bj Γ c) (aw Γ body)
 |.pass=>Ao
 |.brk=>anR
 |.c=>FY
 |.n=>Uc
 |.XW o lo hi e=>km (ag Γ e) (avY (ag Γ o) (xr<|ag Γ lo)<|xr<|ag Γ hi)
 |.z o f e=>AD Γ.K (ag Γ o) (ag Γ e) f
 |.sR is e=>km (ag Γ e) (kA Γ.K is.length<|jR is)
 |.e j as=>Bu (Γ.ex j) Γ.E (aO Γ as)
 |.XX n i j body su=>λD σ H=>∃C,Γ.gv j=.r C/\auD Γ.K C i n (λE=>aw {Γ with E:=E} body) (λea=>aw {Γ with E:=E0,hv:=some ea} su) D σ H
 |.XY k i j f as su=>λD σ H=>∃C,Γ.gv j=.r C/\avK Γ.K C i k (Γ.fs f) (aO {Γ with E:=E0} as) (λea=>aw {Γ with E:=E0,hv:=some ea} su) D σ H
 |.xs T=>T Γ
def aw(Γ:aV):bv->TS
 |[]=>Ao
 |s::r=>FX (cO Γ s) (aw Γ r)
end
def vk:Expr->Fk
 |.Slice ..=>false|_=>true
noncomputable def vm:Expr->Fk
 |.ListComp ..=>false|.SetComp ..=>false|.DictComp ..=>false|_=>true
noncomputable def IH(c:Scope)(x:Str)(l:Nat)(s:Scope)(p:Pos):Fk:=
 decide (c.kind=.function) && decide (c.names.lookup x=some .local) && (l==p.line) && !(s.names.any fun(n,k)=>n==x && (k==.local ||k==.cell))
def qx(N:ac)(c:Scope):am->ac->Fk
 |[],s=>s.isEmpty
 |i::r,s=>match s with
  |[]=>false
  |x::t=>decide (N[i]?=some x) && Ug c x && qx N c r t
structure g7(CX:cg)(S:c0)(Γ:aV)(X:Cx):Prop extends Good CX S Γ X where
 nd:S.N.Nodup
 yd:∀x,X.fn x=true
 own:PassesOwn (model X.prog X.w) X.A X.env X.a
 II:X.env.scope.kind=.function
 rs:∀(j:Nat)(x:Str),S.en[j]?=some x->Yr X Γ.E
 uD:X.stack=X.env::X.r
 qw:X.env.frame=some X.env.locals
 Zj:X.ex=[]
 Zk:CX=iC X.prog X.w
def qV(S:c0)(i:Nat)(x:Str):Fk:=decide (S.N[i]?=some x) && Bz S.sc x && !(x==("__debug__":Str)) && !(x==("__classdict__":Str))
def kG(S:c0)(j:Nat)(x:Str):Fk:=decide (S.gn[j]?=some x) && ow S.sc x && !(x==("__debug__":Str))
def kF(S:c0)(j:Nat)(x:Str):Fk:=decide (S.fn[j]?=some x) && ow S.sc x && !(x==("__debug__":Str))
def kK(S:c0)(j:Nat)(x:Str):Fk:=decide (S.kn[j]?=some x) && ow S.sc x && !(x==("__debug__":Str))
def kB(S:c0)(x y:Str):Fk:=decide (x=y) && ow S.sc x && S.bl.contains x
def kM(o:Expr)(m:Str)(x:Str)(n:Nat)(a c:Pos):Fk:=decide (x=m) && oz o && (a.endLine==c.line) && decide (n<29)
def kL(S:c0)(i:Nat)(x:Str):Fk:=decide (S.N[i]?=some x) && Ug S.sc x
section
variable{w:cg}{S:c0}{g:aV}{X:Cx}{e D a b c d:Expr}{n:jp}{x:Str}{p q B:Pos}{r l A E:RE}{z:sB}{i j:Nat}
theorem aQ(G:Good w S g X)(h:autoParam (qV S i x=true) cx):PE X (.Name x p) (ag g<|.v i):=by
 simp only[qV,Xg,IO,UX] at h;exact arB (by rw[G.N];exact h.1.1.1) (by rw[G.sc];exact auJ h.1.1.2) h.1.2 h.2
theorem eI:PE X (.Constant (.int v) k p) (ag g<|.c<|.i v):=alJ
theorem dW:PE X (.Constant (.str v) k p) (ag g<|.c<|.s v):=aqK
theorem BW{v:Fk}:PE X (.Constant (.bool v) k p) (ag g<|.c<|.b v):=arW
theorem sW:PE X (.Constant .none k p) (ag g<|.c .a):=TF
theorem IJ(G:Good w S g X)(h:autoParam (kG S j x=true) cx):PE X (.Name x p) (ag g<|.g j):=by
 simp only[kG,Xg,IO,UX] at h;obtain⟨u,m,r⟩:=G.xX j x h.1.1;exact FO (G.gl h.1.2) m r h.2
theorem mM(G:Good w S g X)(c:PE X a (ag g l))(h:PE X b (ag g A)):PE X (.BinOp a o b p) (ag g<|.b o l A):=by
 show PE X _ (fN (lO g.K o) (ag g l)<|ag g A);rw[<-G.K];exact abG (akZ o) c h
theorem apA(h:PE X a (ag g l)):PE X (.UnaryOp .USub a p) (ag g<|.N l):=avP Y4 h
theorem qy(G:Good w S g X)(d:PE X a (ag g l))(c:PE X b (ag g A))(h:autoParam (behindInMarks o b=false) cx):PE X (.Compare a [o] [b] p) (ag g<|.p o l A):=by
 show PE X _ (fN (bW g.K o) (ag g l)<|ag g A);rw[<-G.K];exact aqB (sP G.units o) d c h
theorem Zm(G:Good w S g X)(f:PE X a (ag g l))(e:PE X b (ag g A))(d:PE X c (ag g E))(h:autoParam (lastMarks [o,m] [b,c]=false) cx):PE X (.Compare a [o,m] [b,c] p) (ag g<|.P o m l A E):=by
 show PE X _ (sr (bW g.K o) (bW g.K m) (ag g l) (ag g A)<|ag g E);rw[<-G.K];exact auF (sP G.units o) (sP G.units m) f e d h
theorem IL(h:PE X e (ag g r)):PE X (.BoolOp .And [e] p) (ag g<|.d [r]):=FV h
theorem IM{a:RE}(h:PE X e (ag g r))(t:PE X (.BoolOp .And (D::n) p) (ag g<|.d (a::z))):PE X (.BoolOp .And (e::D::n) p) (ag g<|.d (r::a::z)):=asK h t
theorem anG(h:PE X e (ag g r)):PE X (.BoolOp .Or [e] p) (ag g<|.o [r]):=FV h
theorem atU{a:RE}(h:PE X e (ag g r))(t:PE X (.BoolOp .Or (D::n) p) (ag g<|.o (a::z))):PE X (.BoolOp .Or (e::D::n) p) (ag g<|.o (r::a::z)):=anB h t
theorem asV(G:Good w S g X)(h:PE X a (ag g l)):PE X (.UnaryOp .Not a p) (ag g<|.n l):=by
 show PE X _ (Bw g.K<|ag g l);rw[<-G.K];exact alK h
theorem IP(h:PT X c (bj g E))(f:PE X a (ag g l))(d:PE X b (ag g A)):PE X (.IfExp c a b p) (ag g<|.e E l A):=asI h f d
theorem bZ:PA X [] (aO g []):=sv
theorem aW(h:PE X e (ag g r))(t:PA X n (aO g z))(s:autoParam (Ys e=true) cx):PA X (e::n) (aO g (r::z)):=lK h t (cq s)
theorem gA(G:Good w S g X)(A:PA X (e::n) (aO g (r::z)))(h:autoParam (kF S j x=true) cx)(a:autoParam (e_ (e::n)=true) cx)(q:autoParam (S.m=0) cl):PE X (.Call (.Name x p) (e::n) [] B) (ag g<|.l j (r::z)):=by
 simp only[kF,Xg,IO,UX] at h;obtain⟨k,f,o,s,zq⟩:=YU (G.fns q j x h.1.1);obtain⟨F,b,c,d,i⟩:=V_ zq;exact avQ F b (G.gl h.1.2) c d i .nil G.P A h.2 (cq (cM a).1)<|iV _ _ n (cM a).2
theorem Zq(G:Good w S g X)(h:autoParam (kK S j x=true) cx)(q:autoParam (S.m=0) cl):PE X (.Call (.Name x p) [] [] B) (ag g<|.m j []):=by
 simp only[kK,Xg,IO,UX] at h;obtain⟨k,f,d,s,zq⟩:=YU (G.vg q j x h.1.1);obtain⟨M,F,r,a,b⟩:=V_ zq;exact alI M F r (G.gl h.1.2) a b .nil G.P h.2
theorem IQ(G:Good w S g X)(A:PA X (e::n) (aO g (r::z)))(h:autoParam (kK S j x=true) cx)(a:autoParam (e_ (e::n)=true) cx)(q:autoParam (S.m=0) cl):PE X (.Call (.Name x p) (e::n) [] B) (ag g<|.m j (r::z)):=by
 simp only[kK,Xg,IO,UX] at h;obtain⟨k,f,i,s,zq⟩:=YU (G.vg q j x h.1.1);obtain⟨M,F,b,c,d⟩:=V_ zq;exact atJ M F b (G.gl h.1.2) c d .nil G.P A h.2 (cq (cM a).1)<|iV _ _ n (cM a).2
theorem qz{t:mH}(G:Good w S g X)(A:PA X (e::n) (aO g (r::z)))(h:autoParam (kB S x t.nm=true) cx)(a:autoParam (e_ (e::n)=true) cx)(hq:autoParam (S.m=0) cl):PE X (.Call (.Name x p) (e::n) [] B) (ag g<|.t t (r::z)):=by
 simp only[kB,Xg,IO] at h;obtain⟨⟨rfl,i⟩,f⟩:=h;have d:t.nm≠"__name__":=by cases t<;>decide
 have b:(t.nm==("__debug__":Str))=false:=by cases t<;>decide
 show PE X _ (eZ (jO g.K t)<|aO g (r::z));rw[<-G.K];cases aoH (X:=X) (G.calm hq) t with
 |fn j v c=>exact qh c (G.gl i) (G.g6 _ f) v A d b (cq (cM a).1) (iV _ _ n (cM a).2)
 |ty T v c=>exact avZ c (G.gl i) (G.g6 _ f) v A d b (cq (cM a).1) (iV _ _ n (cM a).2)
theorem asZ{T:Ty}{y:Str}(G:Good w S g X)(d:PE X a (ag g l))(h:autoParam (kB S x "isinstance"=true) cx)(b:autoParam (kB S y (Str.ofString T.nm)=true) cx)(s:autoParam (Ys a=true) cx):PE X (.Call (.Name x p) [a,.Name y q] [] B) (ag g<|.G T l):=by
 simp only[kB,Xg,IO] at h b;obtain⟨⟨rfl,f⟩,e⟩:=h;obtain⟨⟨rfl,c⟩,k⟩:=b;exact atO d s (G.gl f) (G.g6 _ e) (G.gl c)<|G.g6 _ k
theorem aqD{a:Pos}(G:Good w S g X)(b:PE X o (ag g r))(h:autoParam (kM o m.nm x 0 a B=true) cx):PE X (.Call (.Attribute o x a) [] [] B) (ag g<|.Y m r []):=by
 simp only[kM,Xg,IO] at h;obtain⟨⟨⟨rfl,d⟩,c⟩, -⟩:=h;show PE X _ (sT g.K m (ag g r) je);rw[<-G.K];exact asM b d c
theorem Zt{m:ji}{a:RE}(G:Good w S g X)(c:PE X o (ag g a))(A:PA X (e::n) (aO g (r::z)))(h:autoParam (kM o m.nm x (n.length+1) p B=true) cx)(b:autoParam (e_ (e::n)=true) cx):PE X (.Call (.Attribute o x p) (e::n) [] B) (ag g<|.Y m a (r::z)):=by
 simp only[kM,Xg,IO] at h;obtain⟨⟨⟨rfl,i⟩,f⟩,d⟩:=h;show PE X _ (sT g.K m (ag g a)<|aO g (r::z));rw[<-G.K];exact awA c A i f d (cq (cM b).1) (iV _ _ n (cM b).2)<|BR _ _ (e::n) b
theorem IS(G:Good w S g X)(o:PE X a (ag g r))(h:autoParam (oz a=true) cx):PE X (.Attribute a f p) (ag g<|.f r f):=by
 show PE X _ (xp g.K (ag g r) f);rw[<-G.K];exact aqM o<|n_ h
theorem vo(G:Good w S g X)(b:PE X o (ag g r))(h:autoParam ((kM o m m 0 p B && decide (S.mn[j]?=some m))=true) cx)(q:autoParam (S.m=0) cl):PE X (.Call (.Attribute o m p) [] [] B) (ag g<|.a j m r []):=by
 simp only[kM,Xg,IO] at h;obtain⟨⟨⟨⟨-,e⟩,d⟩, -⟩,c⟩:=h;exact auH (G.vf q j _ c) G.P b e d
theorem ye{c:RE}(G:Good w S g X)(d:PE X o (ag g c))(A:PA X (e::n) (aO g (r::z)))(h:autoParam ((kM o m m (n.length+1) p B && decide (S.mn[j]?=some m))=true) cx)(b:autoParam (e_ (e::n)=true) cx)(q:autoParam (S.m=0) cl):PE X (.Call (.Attribute o m p) (e::n) [] B) (ag g<|.a j m c (r::z)):=by
 simp only[kM,Xg,IO] at h;obtain⟨⟨⟨⟨-,l⟩,k⟩,i⟩,f⟩:=h;exact auC (G.vf q j _ f) G.P d A l k i (cq (cM b).1) (iV _ _ n (cM b).2)<|BR _ _ (e::n) b
theorem Zu(h:vk b=true):GP b:=λo i=>by cases b<;>first|rfl|cases h
theorem qA(G:Good w S g X)(d:PE X a (ag g l))(c:PE X b (ag g A))(h:autoParam (vk b=true) cx):PE X (.Subscript a b p) (ag g<|.i l A):=by
 show PE X _ (fN (oo g.K g.sd) (ag g l)<|ag g A);rw[<-G.K];exact amO (ahS G.xZ) d c<|Zu h
theorem amA(h:vk b=true):Bc b:=λo i=>by cases b<;>first|rfl|cases h
theorem lS(G:Good w S g X)(d:PE X a (ag g l))(c:PE X b (ag g A))(h:autoParam (vk b=true) cx):PE X (.Subscript a b p) (ag g<|.D l A):=
 avH (by have:=G.units;lia) d c (amA h)
theorem IT{i:Option Expr}{r:Option RE}(G:Good w S g X)(d:PE X a (ag g l))(b:PO X o (ou g r))(c:PO X i (ou g h)):PE X (.Subscript a (.Slice o i none q) p) (ag g<|.s l r h):=by
 show PE X _ (AJ (uX g.K) (ag g l) (ou g r)<|ou g h);rw[<-G.K];exact VF arM d b c
theorem aeK:PO X none (ou g none):=asA
theorem BX(h:PE X a (ag g l)):PO X (some a) (ou g<|some l):=VE h
theorem IU(h:PA X n (aO g z)):PE X (.Tuple n k p) (ag g<|.T z):=anC h
theorem qB(h:PA X n (aO g z)):PE X (.List n p) (ag g<|.L z):=amE h
def vp(w:cg)(S:c0)(g:aV)(c:Option RE)(i:jp):Prop:=match c with
 |none=>i=[]
 |some r=>∃e,i=[e]/\∀X,Good w S g X->PT X e (bj g r)
theorem oC:vp w S g none []:=O
theorem BY(h:∀X,Good w S g X->PT X e (bj g r)):vp w S g (some r) [e]:=⟨e,O,h⟩
def kC(S:c0)(t:lv)(g i:Expr)(s:Scope)(k:IK)(l:ac)(f:mo):Fk:=decide (sU t g=some l) && (decide (k≠ .z)||t.isSome) && xT S ⟨.Constant .none 0 ⟨0,0,0,0⟩,g,i,[],s⟩ l f
abbrev cS(S:c0)(s:Scope)(l:ac)(f:mo):c0:={S with N:=l++f.map (·.1),sc:=BB s S.sc,en:=[],m:=if S.m=0 then 0 else 2}
theorem sX{l:lv}{D:sB}{d:Option RE}{e:RE}{i:Expr}{b:jp}{a:Scope}(G:Good w S g X)(h:kC S l t i a k ln f=true)(A:PI X t i (gw g k D))(n:vp w (cS S a ln f) g.calm d b)(B:∀X,Good w (cS S a ln f) g.calm X->PE X o (ag g.calm e))(j:autoParam (S.m=0) cl):PE X (.ListComp o [⟨t,i,b,0⟩] a p) (ag g<|.C l f k D d e):=by
 simp only[kC,Xg,IO] at h;obtain⟨⟨F,J⟩,E⟩:=h;obtain⟨z,y,v,u⟩:=l5 (BS (c:=⟨.Constant .none 0 ⟨0,0,0,0⟩,t,i,[],a⟩) G E);show PE X _ (og g.K (gw g k D) l f (uZ g.calm d)<|ag g.calm e);rw[<-G.K];refine HM z (G.calm j) A (IB (c:=⟨.Constant .none 0 ⟨0,0,0,0⟩,t,i,[],a⟩) (G.calm j) F y v) ?_ (λx C s H=>B _<|G.inner ⟨.Constant .none 0 ⟨0,0,0,0⟩,t,i,[],a⟩ ln f x C s H)<|vh u;cases d with
 |none=>exact n
 |some r=>
  obtain⟨I,q,j⟩:=n;exact⟨I,q,λx C s H=>j _<|G.inner ⟨.Constant .none 0 ⟨0,0,0,0⟩,t,i,[],a⟩ ln f x C s H⟩
theorem auU{a:lv}{D:sB}{c:Option RE}{e:RE}{l i:Expr}{b:Scope}(G:Good w S g X)(d:PI X t i (gw g k D))(n:vp w (cS S b ((sU a t).getD []) f) g.calm c s)(j:∀X,Good w (cS S b ((sU a t).getD []) f) g.calm X->PE X l (ag g.calm e))(h:autoParam (kC S a t i b k ((sU a t).getD []) f=true) cx)(q:autoParam (S.m=0) cl):PE X (.ListComp l [⟨t,i,s,0⟩] b p) (ag g<|.C a f k D c e):=sX G h d n j q
theorem IV(h:PT X a (bj g l)):PT X (.UnaryOp .Not a p) (bj g<|.n l):=aqC h
theorem asX(h:PT X e (bj g r)):PW X (.BoolOp .And [e] p) (bj g<|.d [r]):=atA h
theorem Zz{a:RE}(h:PT X e (bj g r))(t:PW X (.BoolOp .And (D::n) p) (bj g<|.d (a::z))):PW X (.BoolOp .And (e::D::n) p) (bj g<|.d (r::a::z)):=asD h t
theorem IW(h:PT X e (bj g r)):PW X (.BoolOp .Or [e] p) (bj g<|.o [r]):=ajT h
theorem IX{a:RE}(h:PT X e (bj g r))(t:PW X (.BoolOp .Or (D::n) p) (bj g<|.o (a::z))):PW X (.BoolOp .Or (e::D::n) p) (bj g<|.o (r::a::z)):=YW h t
theorem sY(G:Good w S g X)(d:PE X a (ag g l))(c:PE X b (ag g A))(h:autoParam (behindInMarks o b=false) cx):PT X (.Compare a [o] [b] p) (bj g<|.p o l A):=by
 show PT X _ (nN<|fN (bW g.K o) (ag g l)<|ag g A);rw[<-G.K];exact akF (sP G.units o) d c h
theorem aeO(G:Good w S g X)(f:PE X a (ag g l))(e:PE X b (ag g A))(d:PE X c (ag g E))(h:autoParam (lastMarks [o,m] [b,c]=false) cx):PT X (.Compare a [o,m] [b,c] p) (bj g<|.P o m l A E):=by
 show PT X _ (nN<|sr (bW g.K o) (bW g.K m) (ag g l) (ag g A)<|ag g E);rw[<-G.K];exact UT (sP G.units o) (sP G.units m) f e d h
theorem anV(G:Good w S g X)(h:PE X (.Name x p) (ag g<|.v i)):PT X (.Name x p) (bj g<|.v i):=by
 show PT X _ (gK g.K<|ag g<|.v i);rw[<-G.K];exact yc h λY=>O
theorem BZ(G:Good w S g X)(h:PE X (.Call a n [] p) (ag g<|.l j z)):PT X (.Call a n [] p) (bj g<|.l j z):=by
 show PT X _ (gK g.K<|ag g<|.l j z);rw[<-G.K];exact yc h λY=>O
theorem ZD(G:Good w S g X)(h:PE X (.Call a n [] p) (ag g<|.G T l)):PT X (.Call a n [] p) (bj g<|.G T l):=by
 show PT X _ (gK g.K<|ag g<|.G T l);rw[<-G.K];exact yc h λY=>O
theorem lT(G:Good w S g X)(h:PE X a (ag g l)):PI X t a (gw g .l [l]):=by
 show PI X t a (Av g.K<|ag g l);rw[<-G.K];exact auO h
theorem IY{t:Expr}(G:Good w S g X)(b:PE X a (ag g l))(h:autoParam (kB S x "range"=true) cx)(s:autoParam (Ys a=true) cx):PI X t (.Call (.Name x p) [a] [] B) (gw g .g [l]):=by
 simp only[kB,Xg,IO] at h;obtain⟨⟨rfl,d⟩,c⟩:=h;exact alL (G.gl d) (G.g6 _ c) (lK b sv<|cq s)<|cq s
theorem ZE{t:jp}{k}{b:Pos}(G:Good w S g X)(c:PE X a (ag g l))(h:autoParam (kB S x "enumerate"=true) cx)(s:autoParam (Ys a=true) cx):PI X (.Tuple t k b) (.Call (.Name x p) [a] [] B) (gw g .xQ [l]):=by
 simp only[kB,Xg,IO] at h;obtain⟨⟨rfl,e⟩,d⟩:=h;show PI X _ _ (Bx g.K<|dU (ag g l)<|aO g []);rw[<-G.K];exact avC (G.gl e) (G.g6 _ d) (lK c sv<|cq s)<|cq s
theorem aqO{t:jp}{k}{c:Pos}(G:Good w S g X)(e:PE X a (ag g l))(d:PE X b (ag g A))(h:autoParam (kB S x "zip"=true) cx)(n:autoParam (e_ [a,b]=true) cx):PI X (.Tuple t k c) (.Call (.Name x p) [a,b] [] B) (gw g .z [l,A]):=by
 simp only[kB,Xg,IO] at h;obtain⟨⟨rfl,i⟩,f⟩:=h;show PI X _ _ (By g.K<|dU (ag g l)<|aO g [A]);rw[<-G.K];exact arS (G.gl i) (G.g6 _ f) (lK e (lK d sv<|cq (cM (cM n).2).1)<|cq (cM n).1) (cq (cM n).1)<|iV _ _ _ (cM n).2
end
section
variable{g:cg}{S:c0}{d:aV}{X:Cx}{e a b c v:Expr}{n:jp}{x:Str}{p q pos:Pos}{r m z A:RE}{i j:Nat}{D:Fr}{E:Do}{s:RS}{I t u:bv}
theorem yf{t:Option Expr}{e:Env}(h:vm v=true):swapsWith v t l e=pure false:=by
 cases v<;>first|rfl|cases h
theorem ZG{e:Env}(h:e.kindOf x=some .cell):swapsWith v (some<|.Name x p) l e=pure false:=by
 cases v<;>first
  |rfl
  |(delta swapsWith;simp only[h];have q:(some NameKind.cell==some NameKind.local)=false:=O;simp only[q,Bool.and_false,Bool.false_and])
theorem I0{i:Expr}:swapsWith v (some<|.Subscript o i p) l env=pure false:=by
 cases v<;>rfl
theorem auK{i:Expr}{e:Env}:swappedStores [.Subscript o i p] v e=pure none:=by
 cases v<;>rfl
theorem g7.name(G:g7 g S d X)(h:kL S i x=true):PG X (.Name x p) (dB i):=by
 simp only[kL,Xg,IO] at h;exact pW (by rw[G.N];exact G.nd) (by rw[G.N];exact h.1) (by rw[G.sc];exact BA h.2)<|.inl<|G.yd x
theorem iD:fM X [] (aw d []):=aqV
theorem bD(h:PS X D (cO d s))(t:fM X E (aw d I)):fM X (D::E) (aw d (s::I)):=amR h t
theorem jn(G:g7 g S d X)(e:PE X v (ag d r))(h:autoParam (kL S i x=true) cx)(c:autoParam ((vm v ||decide (S.sc.names.lookup x=some .cell))=true) cx):PS X (.Assign [.Name x p] v q) (cO d<|.a i r):=by
 simp only[kL,Xg,IO,Bool.or_eq_true] at h c;refine anD (by rw[G.N];exact G.nd) (by rw[G.N];exact h.1) (by rw[G.sc];exact BA h.2) e ?_<|.inl<|G.yd x;rcases c with b|b
 exact yf b;exact ZG (by show X.env.scope.names.lookup x=_;rw[G.sc];exact b)
theorem B0{v:lv}{D:sB}{b:Option RE}{j:RE}{A t:Expr}{e:Scope}{n:Pos}(G:g7 g S d X)(w:kL S i x=true)(o:IH S.sc x p.line e n=true)(h:kC S v t a e k ln f=true)(J:PI X t a (gw d k D))(z:vp g (cS S e ln f) d.calm b l)(L:∀X,Good g (cS S e ln f) d.calm X->PE X A (ag d.calm j))(u:autoParam (S.m=0) cl):PS X (.Assign [.Name x p] (.ListComp A [⟨t,a,l,0⟩] e n) q) (cO d<|.sQ i<|.C v f k D b j):=by
 simp only[kC,kL,IH,Xg,IO,Wp,UX] at h w o;obtain⟨⟨P,U⟩,M⟩:=h;obtain⟨I,F,E,B⟩:=l5 (BS (c:=⟨.Constant .none 0 ⟨0,0,0,0⟩,t,a,[],e⟩) G.toGood M);show PS X _ (km (og d.K (gw d k D) v f (uZ d.calm b)<|ag d.calm j)<|dB i);rw[<-G.K];refine Xf (by rw[G.N];exact G.nd) (by rw[G.N];exact w.1) (by rw[G.sc];exact BA w.2) ?_ I (G.calm u) J (IB (c:=⟨.Constant .none 0 ⟨0,0,0,0⟩,t,a,[],e⟩) (G.calm u) P F E) ?_ (λy C s H=>L _<|G.toGood.inner ⟨.Constant .none 0 ⟨0,0,0,0⟩,t,a,[],e⟩ ln f y C s H) (vh B)<|.inl<|G.yd x;have R:X.env.kindOf x=some .local:=by show X.env.scope.names.lookup x=_;rw[G.sc];exact o.1.1.2
 have Q:X.env.blockKind=.function:=by delta Env.blockKind;rw[G.II];rfl
 delta swapsWith;simp only[R,Q,o.1.2,o.2];show pure (true && true && (n.line==n.line) && !false)=pure true;rw[beq_self_eq_true];rfl;cases b with
 |none=>exact z
 |some r=>
  obtain⟨T,q,u⟩:=z;exact⟨T,q,λy C s H=>u _<|G.toGood.inner ⟨.Constant .none 0 ⟨0,0,0,0⟩,t,a,[],e⟩ ln f y C s H⟩
theorem asB(e:PE X v (ag d r))(f:PE X a (ag d m))(c:PE X b (ag d z))(h:autoParam (vk b=true) cx):PS X (.Assign [.Subscript a b p] v q) (cO d<|.s m z r):=
 F4 e (Ud f c aqR (by intro w;cases b<;>first|rfl|cases h)) (by exact I0 (o:=a) (i:=b) (p:=p) (l:=q.line) (env:=X.env)) auK O
theorem I_(G:g7 g S d X)(h:PE X v (ag d r))(e:PE X a (ag d m))(c:PE X b (ag d z)):PS X (.Assign [.Subscript a b p] v q) (cO d<|.t m z r):=
 atZ (by have:=G.toGood.units;lia) e c h (by exact I0 (o:=a) (i:=b) (p:=p) (l:=q.line) (env:=X.env))
theorem ZJ(G:g7 g S d X)(o:PE X a (ag d m))(e:PE X v (ag d r))(h:autoParam (vm v=true) cx):PS X (.Assign [.Attribute a f p] v q) (cO d<|.z m f r):=by
 show PS X _ (AD d.K (ag d m) (ag d r) f);rw[<-G.K];exact Vg o e<|yf h
theorem B3(e:PE X v (ag d r))(h:autoParam (vm v=true) cx):PS X (.Expr v p) (cO d<|.d r):=apH e (yf h)
theorem lU(h:PE X v (ag d r)):PS X (.Return (some v) p) (cO d<|.r r):=auS h
theorem yg{a b:Do}(h:PT X c (bj d A))(f:fM X a (aw d t))(e:fM X b (aw d u)):PS X (.If c a b p) (cO d<|.i A t u):=asL h f e
theorem amC{a:Do}(G:g7 g S d X)(h:PT X c (bj d A))(b:fM X a (aw d t)):PS X (.While c a [] p) (cO d<|.l A t):=atD G.own h b
theorem Ja{D:sB}{r:Expr}{a:Do}(G:g7 g S d X)(c:PI X (.Name x p) r (gw d k D))(e:fM X a (aw d t))(h:autoParam (kL S i x=true) cx)(s:autoParam (vd r=true) cx)(b:autoParam (S.m=0) cl):PS X (.For (.Name x p) r a [] q) (cO d<|.y i k D t):=
 F8 G.own (G.calm b) c (G.name h) e (vh s)
theorem B4(G:g7 g S d X):∀(s:am)(x:List (Str×Pos)),qx S.N S.sc s (x.map (·.1))=true->
  sj X (x.map λy=>.Name y.1 y.2) (jR s)/\(assignEach (x.map λy=>Expr.Name y.1 y.2) X.env).length=s.length/\(assignEach (x.map λy=>Expr.Name y.1 y.2) X.env).findIdx? (·.1)=none
 |[],x,h=>by
  simp only[qx,List.isEmpty_iff,List.map_eq_nil_iff] at h;subst h;exact⟨Aq,O,O⟩
 |i::r,[],h=>by simp only[lA,qx] at h;cases h
 |i::r,y::t,h=>by
  simp only[TB,qx,Xg] at h;obtain⟨c,b,a⟩:=B4 G r t h.2;refine⟨sk (G.name (by simp only[kL,Xg];exact h.1)) c O,?_,?_⟩;show(assignEach _ X.env).length+1=r.length+1;rw[b];show List.findIdx? (·.1) ((false,assign (.Name y.1 y.2) X.env)::assignEach _ X.env)=none;rw[List.findIdx?_cons,a];rfl
theorem Jb{s:am}{D:sB}{i:Expr}{c:Do}{a}(x:List (Str×Pos))(G:g7 g S d X)(o:PI X (.Tuple (x.map λy=>.Name y.1 y.2) a p) i (gw d k D))(r:fM X c (aw d t))(h:autoParam (qx S.N S.sc s (x.map (·.1))=true) cx)(n:autoParam (vd i=true) cx)(b:autoParam (S.m=0) cl):
  PS X (.For (.Tuple (x.map λy=>.Name y.1 y.2) a p) i c [] q) (cO d<|.j s k D t):=by
 obtain⟨l,f,e⟩:=B4 G s x h;show PS X _ (xh (gw d k D) (kA d.K s.length<|jR s)<|aw d t);rw[<-G.K];exact F8 G.own (G.calm b) o (IG (G.calm b) l f e) r<|vh n
def asJ:Expr->Fk
 |.Tuple ..=>false|_=>true
theorem Jc{i:am}{k}{t:Pos}(x:List (Str×Pos))(G:g7 g S d X)(j:PE X v (ag d r))(h:autoParam (qx S.N S.sc i (x.map (·.1))=true) cx)(c:autoParam ((vm v && asJ v)=true) cx)(f:autoParam (S.m=0) cl):
  PS X (.Assign [.Tuple (x.map λy=>.Name y.1 y.2) k t] v q) (cO d<|.sR i r):=by
 simp only[Xg] at c;obtain⟨e,b,a⟩:=B4 G i x h;show PS X _ (km (ag d r)<|kA d.K i.length<|jR i);rw[<-G.K];refine F4 j (IG (G.calm f) e b a) (by show swapsWith v (some<|.Tuple (x.map λy=>Expr.Name y.1 y.2) k t) q.line X.env=pure false;exact yf c.1) ?_ O;have l:=c.2;cases v<;>first|rfl|cases l
def kX(S:c0)(j:Nat)(x:Str):Fk:=decide (S.en[j]?=some x) && ow S.sc x && !(x==("__debug__":Str))
theorem Jd{s:sB}{c:Pos}(G:g7 g S d X)(A:PA X (e::n) (aO d (r::s)))(h:autoParam (kX S j x=true) cx)(b:autoParam (e_ (e::n)=true) cx)(q:autoParam (S.m=0) cl):PS X (.Raise (some<|.Call (.Name x p) (e::n) [] c) none pos) (cO d<|.e j (r::s)):=by
 simp only[kX,Xg,IO,UX] at h;obtain⟨f,B,Z,V,a,F⟩:=YU (G.dP j x h.1.1);exact akT (G.calm q) a F (G.gl h.1.2) h.2 A (cq (cM b).1) (iV _ _ n (cM b).2)<|G.rs j x h.1.1
theorem arU:PS X (.Continue p) (cO d .c):=TY
end
section
variable{P:Fa}{w:FM}{K:Frag}{a:ce}{d:FS}
def gL(P:Fa)(w:FM)(K:Frag)(a:ce)(d:FS)(k:Nat)(x:Str)(s:Sp):Prop:=
 ∃f b p,cY P w K a d (iC P w) k f b p s/\a x=some (.ref f)/\PySem.W.keepIn K (.ref f)=true/\TV K b p []
theorem gL.mono(h:gL P w K a d j x s)(b:j<=k):gL P w K a d k x s:=by
 obtain⟨f,c,p,F,r⟩:=h;exact⟨f,c,p,F.mono b,r⟩
def oE(t:io)(j:Nat):Sp:=match t[j]? with
 |some p=>p.2
 |none=>λ_ _ _ _=>False
noncomputable def yh(t:n6)(j:Nat):V:=match t[j]? with
 |some p=>p.2
 |none=>.a
structure B5(a:ce)(p:Str×V):Prop where
 ex:∃u,a p.1=some u/\Tf p.2 u
noncomputable def lV(t:wT)(j:Nat):D9×Sp:=match t[j]? with
 |some p=>p.2
 |none=>(0,λ_ _ _ _=>False)
def yi(t:o0)(j:Nat):D9:=match t[j]? with
 |some p=>p.2
 |none=>0
abbrev aA(K:Frag)(t:io)(g:n6)(d:List (D9×db):=[])(m k:wT:=[])(et:o0:=[])(h:io:=[])(E:XK:=E0):aV:=
 {K:=K,fs:=oE t,gv:=yh g,E:=E,sd:=λp G=>(p,G)∈d,ms:=lV m,kt:=lV k,ex:=yi et,hs:=oE h,hv:=none}
def qC(P:Fa)(w:FM)(K:Frag)(a:ce)(d:FS)(k:Nat)(p:Str×D9×Sp):Prop:=
 fP K p.2.1/\∃f b s,gS K p.2.1 p.1 f/\cY P w K a d (iC P w) k f b s p.2.2/\TV K b s []
def qD(P:Fa)(w:FM)(K:Frag)(a:ce)(d:FS)(k:Nat)(p:Str×D9×Sp):Prop:=
 ∃j f b s,j+1<=k/\Mk K p.2.1 f/\cY P w K a d (iC P w) j f b s p.2.2/\a p.1=some (.ref p.2.1)/\TV K b s []
theorem qC.mono(h:qC P w K a d j p)(e:j<=k):qC P w K a d k p:=by
 obtain⟨c,f,g,s,m,F,b⟩:=h;exact⟨c,f,g,s,m,F.mono e,b⟩
theorem qD.mono(h:qD P w K a d j p)(b:j<=k):qD P w K a d k p:=by
 obtain⟨i,f,c,s,m,r⟩:=YU h;exact⟨i,f,c,s,Ut m b,r⟩
def yj(P:Fa)(w:FM)(K:Frag)(q:D9×db):Prop:= ∀h:FS,K.In h->∃v,KV q.2 v/\h.DictOf (dG P w) q.1 v
abbrev yk(N:ac)(s:Scope)(t:ac)(g:ac)(b:ac)(n k:ac:=[])(e h:ac:=[])(d:Nat:=0):c0:={N:=N,sc:=s,fn:=t,gn:=g,bl:=b,mn:=n,kn:=k,en:=e,hn:=h,m:=d}
def yl(a:ce)(d:FS)(p:Str×D9):Prop:= ∃b B Z s,OwnCls p.1 p.2 b Z a d/\ExcBaseFacts B Z s b
def B6(P:Fa)(w:FM)(K:Frag)(a:ce)(d:FS)(k:Nat)(x:Str)(s:Sp):Prop:=
 ∃f b p,Iu P w K a d k f b p s/\a x=some (.ref f)/\PySem.W.keepIn K (.ref f)=true/\TV K b p []
theorem arR(F:oe K x T U f fd)(S:qf N Y (e8 U))(t:io)(v:n6)(bl:ac)(m n:wT)(z:o0)(o:io)(B:bv)(hm:∀{CX:cg}{Γ:aV}{X:Cx},g7 CX (yk N (e8 U) (t.map (·.1)) (v.map (·.1)) bl (m.map (·.1)) (n.map (·.1)) (z.map (·.1)) (o.map (·.1))) Γ X->fM X (fU U) (aw Γ B))(B7:∀p∈t,gL P w K a d k p.1 p.2)(B8:∀p∈v,B5 a p)(B9:∀y∈bl,a y=none)(dk:List (D9×db))(B_:∀q∈dk,yj P w K q)(Ca:∀p∈m,qC P w K a d k p)(Cb:∀p∈n,qD P w K a d k p)(c':∀p∈z,yl a d p)(Cc:∀p∈o,B6 P w K a d k p.1 p.2)(a':∀C H Q E,W C H Q E->C.length=Y.length)(Cd:∀C H Q E,W C H Q E->aw (aA K t v dk m n z o E) B {nx:=λV H'=>Q .a H',r:=Q} (ZQ N C) H):cY P w K a d (iC P w) (k+1) f fd Y W:=by
 obtain⟨oc,od,kV,T',pm,an,bz,ct,iR,zq⟩:=Xu F.ex;obtain⟨rfl,lk,jJ⟩:=Vk zq;refine GD lk jJ S a' λA Z s H C Q E R nS=>qF _ (hm (CX:=iC P w) (Γ:=aA K t v dk m n z o E) ?_) (Cd C H Q E nS);refine {N:=O,sc:=O,K:=O,calm:=λV=>O,units:=R.units,gd:=R.gd,fns:=λV j y g=>?_,xX:=λj y g=>?_,g6:=λy hy=>?_,P:=aqF,xY:=λV V V V V h=>Iq h,xZ:=λp G' h=>B_ _ h,vf:=λV j y g=>?_,vg:=λV j y g=>?_,dP:=λj y g=>?_,BP:=λj y g=>?_,BQ:=λV h=>(nomatch h),IA:=λh=>(nomatch h),nd:=S.nd,yd:=λV=>O,own:=PassesOwn.leaving,II:=S.kind,rs:=λV V V=>Yw,uD:=O,qw:=O,Zj:=O,Zk:=O};have b:(t.map (·.1))[j]?=some y:=g;rw[Y5] at b;cases q:t[j]? with
 |none=>rw[q] at b;cases b
 |some p=>
  rw[q] at b;have e:p.1=y:=Uq b;obtain⟨J,G,D,zq⟩:=U1 (B7 p (zG q));obtain⟨M,I,k',L⟩:=l5 zq;have l:oE t j=p.2:=by delta oE;rw[q]
  show Iv (iC P w) _ y (oE t j);rw[l,<-e];exact qZ k J G D M R I k' L
 have b:(v.map (·.1))[j]?=some y:=g;rw[Y5] at b;cases q:v[j]? with
 |none=>rw[q] at b;cases b
 |some p=>
  rw[q] at b;have e:p.1=y:=Uq b;obtain⟨u,h1,h2⟩:=(B8 p<|zG q).ex;have l:yh v j=p.2:=by delta yh;rw[q]
  show ∃u,a y=some u/\Tf (yh v j) u;rw[l,<-e];exact qF u h1 h2
 exact B9 y (by simpa using hy);have b:(m.map (·.1))[j]?=some y:=g;rw[Y5] at b;cases q:m[j]? with
 |none=>rw[q] at b;cases b
 |some p=>
  rw[q] at b;have e:p.1=y:=Uq b;obtain⟨c,J,G,D,I,M,L⟩:=Ca p (zG q);have l:lV m j=p.2:=by delta lV;rw[q]
  show xW (iC P w) _ (lV m j).1 y (lV m j).2;rw[l,<-e];exact⟨c,tV k J G D I M R L⟩
 have b:(n.map (·.1))[j]?=some y:=g;rw[Y5] at b;cases q:n[j]? with
 |none=>rw[q] at b;cases b
 |some p=>
  rw[q] at b;have e:p.1=y:=Uq b;obtain⟨i,J,G,D,zq⟩:=YU (Cb p (zG q));obtain⟨hi,I,M,g',L⟩:=V_ zq;have l:lV n j=p.2:=by delta lV;rw[q]
  show Iw (iC P w) _ y (lV n j).1 (lV n j).2;rw[l,<-e];exact qZ i J G D I M (R.mono hi) g' L
 have b:(z.map (·.1))[j]?=some y:=g;rw[Y5] at b;cases q:z[j]? with
 |none=>rw[q] at b;cases b
 |some p=>
  rw[q] at b;have e:p.1=y:=Uq b;have l:yi z j=p.2:=by delta yi;rw[q]
  show Iz _ y (yi z j);rw[l,<-e];exact c' p<|zG q
 have b:(o.map (·.1))[j]?=some y:=g;rw[Y5] at b;cases q:o[j]? with
 |none=>rw[q] at b;cases b
 |some p=>
  rw[q] at b;have e:p.1=y:=Uq b;obtain⟨J,G,D,zq⟩:=U1 (Cc p (zG q));obtain⟨M,I,k',L⟩:=l5 zq;have l:oE o j=p.2:=by delta oE;rw[q]
  show Iy _ y (oE o j);rw[l,<-e];exact qZ k J G D M R.h I k' L
theorem ZO(F:oe K x q t f c)(S:qf N p (e8 t))(e:a x=some (.ref f))(g:TV K c p [])(n:∀v H Q E,¬b v H Q E):gL P w K a d (k+1) x b:=
 by
 obtain⟨r,i,V,T,m,B,z,y,R,zq⟩:=Xu F.ex;obtain⟨rfl,l,j⟩:=Vk zq;exact⟨f,_,p,GD l j S (λv H Q E h=>(n v H Q E h).elim)<|λA o s H v Q E u h=>(n v H Q E h).elim,e,F.kp,g⟩
variable{x qual:Str}{st:Fr}{f:D9}{b:Go}{N c:ac}{k:Nat}{g:Sp}
theorem cY.top(F:cY P w K a d (iC P w) k f b c g):cY P w K a d uR k f b c (λv H Q Y=>g v H Q E0):=
 ⟨λv H Q E h=>F.len v H Q E0 h,λA o s H i u v Q E m q n j l=>TD (F.run A o s H i u v Q E0 m q n j l) λr t h=>by
  cases r with
  |error e=>exact(Iq h).elim
  |ok p=>cases p<;>exact h⟩
end
section
variable{c:aV}{D:Xt}{d:St}{H:Hp}{r:bv}{Q:VK}
theorem Je(h:ag c e d H λx b=>aw c r D (d.set i<|some x) b):aw c (.a i e::r) D d H:=h
theorem Jf(h:aO c a d H λv e=>jO c.K b v e Q):ag c (.t b a) d H Q:=h
theorem Jg{Q:ad->Hp->Prop}(h:ag c a d H λx b=>Q [x] b):aO c [a] d H Q:=h
end
end
variable{H I L:Hp}{J:St}{l S r:am}{v:V}{T Z C W ll s dx:PySem.Addr}{Q:VK}{B:aV}{Y U:ad}{n j b:Nat}{as:sB}{D:Xt}{fv:List (PySem.Str×Nat)}{body:bv}{y:PySem.Str}{e:RE}
section
open PyProof.Rows
def iE:ac:=["thing"]
noncomputable def Jh:bv:=
 [.r<|.d [(.G .i<|.v 0),(.n<|.G .b<|.v 0)]]
def aa:ac:=[]
noncomputable def amK:ac:=["isinstance","int","bool"]
def Ce:ac:=["thing","words"]
noncomputable def Cf:bv:=
 [.r<|.d [(.G .s<|.v 0),(.p .In (.v 0)<|.v 1)]]
def Ji:ac:=["isinstance","str"]
noncomputable def Cg:bv:=
 [.r<|.d [(.G .s<|.v 0),(.p .Eq (.Y .l (.v 0) [.g 0])<|.c<|.s "")]]
def aeS:ac:=["SIGNS"]
noncomputable def Jj:bv:=
 [.i (.n<|.l 0 [.v 0]) [.e 0 [(.c<|.s "a text is a str of signs from the blank to the tilde, and line feeds")]] []]
def apB:ac:=["is_text"]
def asO:ac:=["BadText"]
noncomputable def ym:bv:=
 [.i (.o [(.n (.G .t (.v 0))),(.p .NotEq (.t .l [.v 0]) (.c (.i 2)))]) [.r (.c (.b false))] [],
 .i (.l 0 [(.i (.v 0)<|.c<|.i 0),(.T [(.c<|.s "keep")])]) [.r<|.d [(.l 1 [(.i (.v 0)<|.c<|.i 1)]),(.p .GtE (.i (.v 0)<|.c<|.i 1)<|.c<|.i 1)]] [],
 .r (.d [(.l 0 [(.i (.v 0) (.c (.i 0))),(.T [(.c (.s "cut")),(.c (.s "put"))])]),(.l 2 [(.i (.v 0) (.c (.i 1)))]),(.p .NotEq (.i (.v 0) (.c (.i 1))) (.c (.s "")))])]
noncomputable def asW:ac:=["is_word","is_whole","is_text"]
noncomputable def Jk:ac:=["isinstance","tuple","len"]
def Jl:ac:=["word","ahead"]
noncomputable def Jm:bv:=
 [.r<|.d [(.p .NotEq (.v 0)<|.v 1),(.n<|.d [(.p .Eq (.v 1)<|.c<|.s "cut"),(.p .Eq (.v 0)<|.c<|.s "put")])]]
noncomputable def Jo:ac:=["change","ahead","part"]
noncomputable def Jp:bv:=
 [.i (.n (.G .l (.v 0))) [.e 0 [(.c (.s "a change is a list"))]] [],
 .a 1 (.c<|.s ""),
 .y 2 .l [.v 0] [.i (.n (.l 0 [.v 2])) [.e 0 [(.c (.s "a part is a keep of 1 sign or more, or a cut or put of a text that is not empty"))]] [],
  .i (.n<|.l 1 [(.i (.v 2)<|.c<|.i 0),.v 1]) [.e 0 [(.c<|.s "neighbours have two words, and no put stands right behind a cut")]] [],
  .a 1 (.i (.v 2) (.c (.i 0)))]]
def amF:ac:=["is_part","may_follow"]
def atY:ac:=["isinstance","list"]
def apU:ac:=["BadChange"]
def Ci:ac:=["part"]
noncomputable def Jq:bv:=
 [.r<|.e (.p .Eq (.i (.v 0)<|.c<|.i 0)<|.c<|.s "keep") (.i (.v 0)<|.c<|.i 1)<|.t .l [(.i (.v 0)<|.c<|.i 1)]]
def kD:ac:=["len"]
noncomputable def Jr:ac:=["change","over","gives"]
noncomputable def Js:bv:=
 [.d (.l 0 [.v 0]),
 .a 1 (.t .s [(.C none [] .l [.v 0] (some<|.p .NotEq (.i (.v 0)<|.c<|.i 0)<|.c<|.s "put")<|.l 1 [.v 0])]),
 .a 2 (.t .s [(.C none [] .l [.v 0] (some<|.p .NotEq (.i (.v 0)<|.c<|.i 0)<|.c<|.s "cut")<|.l 1 [.v 0])]),
 .r (.T [.v 1,.v 2])]
def ajZ:ac:=["need_change","part_size"]
def arK:ac:=["sum"]
def Jt:ac:=["change","size"]
noncomputable def Ju:bv:=
 [.i (.d [(.p .Gt (.t .l [.v 0]) (.c (.i 0))),(.p .Eq (.i (.i (.v 0) (.N (.c (.i 1)))) (.c (.i 0))) (.c (.s "keep")))]) [.a 1 (.b .Add (.v 1) (.i (.Y .p (.v 0) []) (.c (.i 1))))] [],
 .d (.Y .a (.v 0) [(.T [(.c (.s "keep")),.v 1])])]
noncomputable def Jv:ac:=["change","puts","cuts","put","cut"]
noncomputable def Jw:bv:=
 [.a 3 (.Y .j (.c (.s "")) [.v 1]),
 .a 4 (.Y .j (.c<|.s "") [.v 2]),
 .i (.p .NotEq (.v 3)<|.c<|.s "") [.d<|.Y .a (.v 0) [(.T [(.c<|.s "put"),.v 3])]] [],
 .i (.p .NotEq (.v 4) (.c (.s ""))) [.d (.Y .a (.v 0) [(.T [(.c (.s "cut")),.v 4])])] []]
noncomputable def Jx:ac:=["parts","change","puts","cuts","word","what"]
noncomputable def Jy:bv:=
 [.a 1 (.L []),
 .a 2 (.L []),
 .a 3 (.L []),
 .j [4,5] .l [.v 0] [.i (.p .Eq (.v 4) (.c (.s "put"))) [.d (.Y .a (.v 2) [.v 5])] [.i (.p .Eq (.v 4) (.c (.s "cut"))) [.d (.Y .a (.v 3) [.v 5])] [.i (.p .Gt (.v 5) (.c (.i 0))) [.d (.l 0 [.v 1,.v 2,.v 3]),
     .a 2 (.L []),
     .a 3 (.L []),
     .d (.l 1 [.v 1,.v 5])] []]]],
 .d (.l 0 [.v 1,.v 2,.v 3]),
 .r (.v 1)]
def avB:ac:=["add_texts","add_keep"]
def Jz:ac:=["change"]
noncomputable def JA:bv:=
 [.d (.l 0 [.v 0]),
 .r (.l 1 [(.C (some 2) [] .l [.v 0] none (.T [(.i (.g 0) (.v 0)),.v 1]))])]
def atV:ac:=["need_change","neat"]
def ahR:ac:=["WAYS_BACK"]
def JB:ac:=["_law_script","_law_k"]
noncomputable def JC:bv:=
 [.i (.p .Lt (.v 1) (.t .l [.v 0])) [.r (.i (.v 0) (.v 1))] [],
 .r (.c (.i 0))]
noncomputable def JD:ac:=["_law_cell","_law_k","_law_number"]
noncomputable def JE:bv:=
 [.a 2 (.b .Mod (.b .Add (.b .Add (.b .Mult (.v 0) (.c (.i 48271))) (.b .Mult (.c (.i 7919)) (.v 1))) (.c (.i 11))) (.c (.i 1000003))),
 .r (.b .Mod (.b .Mult (.b .Mod (.b .Mult (.v 2) (.v 2)) (.c (.i 1000003))) (.v 2)) (.c (.i 1000003)))]
noncomputable def JF:ac:=["_law_cell","_law_size_here","_law_some"]
noncomputable def JG:bv:=
 [.a 2 (.c (.s " !\"#$&'()*+,-./0123456789:;<=>?@ABCDEFGHIJKLMNOPQRSTUVWXYZ[\\]^_`")),
 .a 2 (.b .Add (.v 2)<|.c<|.s "abcdefghijklmnopqrstuvwxyz{|}~\n"),
 .i (.p .Eq (.b .Mod (.v 0)<|.c<|.i 3)<|.c<|.i 0) [.a 2<|.c<|.s "ab\n"] [],
 .r (.Y .j (.c (.s "")) [(.C none [("_law_some",2),("_law_cell",0)] .g [.v 1] none (.i (.v 1) (.b .Mod (.b .FloorDiv (.l 0 [.v 2,.v 0]) (.c (.i 7))) (.t .l [.v 1]))))])]
def JH:ac:=["_law_mixed"]
def JI:ac:=["range","len"]
def JJ:ac:=["_law_cell"]
noncomputable def JK:bv:=
 [.i (.p .Eq (.b .Mod (.v 0) (.c (.i 8))) (.c (.i 1))) [.r (.b .Mod (.b .FloorDiv (.v 0) (.c (.i 8))) (.c (.i 401)))] [],
 .r (.b .Mod (.b .FloorDiv (.v 0) (.c (.i 8))) (.c (.i 25)))]
noncomputable def JL:ac:=["_law_cell","_law_text_here","_law_many","_law_parts_here","_law_at","_law_k","_law_number","_law_size_here","_law_left"]
noncomputable def JM:bv:=
 [.a 3 (.L []),
 .a 4 (.c<|.i 0),
 .y 5 .g [.v 2] [.a 6 (.l 0 [.v 0,(.b .Add (.c (.i 50)) (.v 5))]),
  .a 7 (.i (.L [(.c<|.i 1),(.c<|.i 2),(.c<|.i 0),(.c<|.i 3),(.c<|.i 5),(.c<|.i 40)])<|.b .Mod (.b .FloorDiv (.v 6)<|.c<|.i 4)<|.c<|.i 6),
  .a 8 (.t .n [.v 7,(.b .Sub (.t .l [.v 1])<|.v 4)]),
  .i (.p .Eq (.b .Mod (.v 6)<|.c<|.i 4)<|.c<|.i 3) [.d<|.Y .a (.v 3) [(.T [(.c<|.s "put"),(.l 1 [.v 6,.v 7])])]] [.i (.p .Eq (.b .Mod (.v 6)<|.c<|.i 4)<|.c<|.i 2) [.d<|.Y .a (.v 3) [(.T [(.c<|.s "cut"),(.s (.v 1) (some<|.v 4)<|some<|.b .Add (.v 4)<|.v 8)])]] [.d<|.Y .a (.v 3) [(.T [(.c<|.s "keep"),.v 8])]]],
  .i (.p .Lt (.b .Mod (.v 6) (.c (.i 4))) (.c (.i 3))) [.a 4 (.b .Add (.v 4) (.v 8))] []],
 .r (.b .Add (.v 3) (.L [(.T [(.c (.s "keep")),(.b .Sub (.t .l [.v 1]) (.v 4))])]))]
def JN:ac:=["_law_mixed","_law_text"]
noncomputable def Z2:ac:=["range","min","len"]
noncomputable def JO:ac:=["_law_parts_here","_law_rows","_law_word","_law_thing","_law_found","_law_put","_law_cut","_law_keep","_law_some"]
noncomputable def JP:bv:=
 [.a 1 (.L [(.L [(.c (.s "")),(.c (.s "")),(.c (.i 0))])]),
 .j [2,3] .l [.v 0] [.i (.p .Eq (.v 2) (.c (.s "keep"))) [.s (.i (.v 1) (.N (.c (.i 1)))) (.c (.i 2)) (.b .Add (.i (.i (.v 1) (.N (.c (.i 1)))) (.c (.i 2))) (.v 3))] [.i (.p .NotEq (.v 3) (.c (.s ""))) [.i (.p .Gt (.i (.i (.v 1) (.N (.c (.i 1)))) (.c (.i 2))) (.c (.i 0))) [.d (.Y .a (.v 1) [(.L [(.c (.s "")),(.c (.s "")),(.c (.i 0))])])] [],
    .s (.i (.v 1) (.N (.c (.i 1)))) (.t .i [(.p .Eq (.v 2) (.c (.s "cut")))]) (.b .Add (.i (.i (.v 1) (.N (.c (.i 1)))) (.t .i [(.p .Eq (.v 2) (.c (.s "cut")))])) (.v 3))] []]],
 .a 4 (.L []),
 .j [5,6,7] .l [.v 1] [.a 8 (.L [(.T [(.c (.s "put")),.v 5]),(.T [(.c (.s "cut")),.v 6]),(.T [(.c (.s "keep")),.v 7])]),
  .a 4 (.b .Add (.v 4) (.C none [] .l [.v 8] (some (.d [(.p .NotEq (.i (.v 0) (.c (.i 1))) (.c (.s ""))),(.p .NotEq (.i (.v 0) (.c (.i 1))) (.c (.i 0)))])) (.v 0)))],
 .r (.v 4)]
def Z3:ac:=["int"]
noncomputable def JQ:ac:=["_law_cell","_law_text_here","_law_many"]
noncomputable def JR:bv:=
 [.r<|.l 0 [(.l 1 [.v 0,.v 1,.v 2])]]
def aqZ:ac:=["_law_neat","_law_parts"]
noncomputable def aeM:ac:=["_law_text_here","_law_change_here","_law_found_here","_law_at","_law_word_here","_law_thing"]
noncomputable def JS:bv:=
 [.a 2 (.c (.s "")),
 .a 3 (.c<|.i 0),
 .j [4,5] .l [.v 1] [.i (.p .Eq (.v 4) (.c (.s "put"))) [.a 2 (.b .Add (.v 2) (.v 5))] [.i (.p .Eq (.v 4) (.c (.s "cut"))) [.a 3 (.b .Add (.v 3) (.t .l [.v 5]))] [.a 2 (.b .Add (.v 2) (.s (.v 0) (some (.v 3)) (some (.b .Add (.v 3) (.v 5))))),
    .a 3 (.b .Add (.v 3) (.v 5))]]],
 .r (.v 2)]
noncomputable def JT:ac:=["thing","least","most"]
noncomputable def JU:bv:=
 [.r<|.d [(.l 0 [.v 0]),(.P .LtE .LtE (.v 1) (.v 0)<|.v 2)]]
def JV:ac:=["is_whole"]
noncomputable def JW:ac:=["row","most","least","beyond","middle"]
noncomputable def JX:bv:=
 [.a 2 (.c (.i 0)),
 .a 3 (.t .l [.v 0]),
 .l (.p .Lt (.v 2) (.v 3)) [.a 4 (.b .FloorDiv (.b .Add (.v 2) (.v 3)) (.c (.i 2))),
  .i (.p .LtE (.i (.v 0) (.v 4)) (.v 1)) [.a 2 (.b .Add (.v 4) (.c (.i 1)))] [.a 3 (.v 4)]],
 .r (.v 2)]
noncomputable def JY:ac:=["self","change","old","new","word","what"]
noncomputable def JZ:bv:=
 [.d (.l 0 [.v 1]),
 .z (.v 0) "olds" (.L []),
 .z (.v 0) "news" (.L []),
 .z (.v 0) "lengths" (.L []),
 .a 2 (.c<|.i 0),
 .a 3 (.c<|.i 0),
 .j [4,5] .l [.v 1] [.i (.p .Eq (.v 4) (.c (.s "put"))) [.a 3 (.b .Add (.v 3) (.t .l [.v 5]))] [.i (.p .Eq (.v 4) (.c (.s "cut"))) [.a 2 (.b .Add (.v 2) (.t .l [.v 5]))] [.d (.Y .a (.f (.v 0) "olds") [.v 2]),
    .d (.Y .a (.f (.v 0) "news") [.v 3]),
    .d (.Y .a (.f (.v 0) "lengths") [.v 5]),
    .a 2 (.b .Add (.v 2)<|.v 5),
    .a 3 (.b .Add (.v 3) (.v 5))]]],
 .z (.v 0) "over" (.v 2),
 .z (.v 0) "gives" (.v 3)]
def amI:ac:=["need_change"]
noncomputable def J0:ac:=["self","place","run"]
noncomputable def J3:bv:=
 [.a 2 (.b .Sub (.l 0 [(.f (.v 0) "olds"),(.b .Sub (.v 1) (.c (.i 1)))]) (.c (.i 1))),
 .i (.p .Lt (.v 2)<|.c<|.i 0) [.r<|.c<|.i 0] [],
 .r (.b .Add (.i (.f (.v 0) "news") (.v 2)) (.t .n [(.i (.f (.v 0) "lengths") (.v 2)),(.b .Sub (.v 1) (.i (.f (.v 0) "olds") (.v 2)))]))]
def J4:ac:=["many_upto"]
def Ck:ac:=["min"]
structure vq(K:Frag)(C:D9):Prop where
 c:fP K C
 yn:eY K C "olds"
 Cm:eY K C "news"
 Cn:eY K C "lengths"
 J5:eY K C "over"
 Z6:eY K C "gives"
def oF:ac:=["self"]
noncomputable def J6:bv:=
 [.z (.v 0) "texts" (.L []),
 .z (.v 0) "begins" (.L []),
 .z (.v 0) "feeds" (.L []),
 .z (.v 0) "signs" (.c (.i 0))]
noncomputable def Co:ac:=["self","text","begin","feed"]
noncomputable def J7:bv:=
 [.d (.l 0 [.v 1]),
 .a 2 (.f (.v 0) "signs"),
 .d (.Y .a (.f (.v 0) "texts") [.v 1]),
 .d (.Y .a (.f (.v 0) "begins") [.v 2]),
 .z (.v 0) "signs" (.b .Add (.v 2)<|.t .l [.v 1]),
 .a 3 (.Y .f (.v 1) [(.c<|.s "\n")]),
 .l (.p .GtE (.v 3) (.c (.i 0))) [.d (.Y .a (.f (.v 0) "feeds") [(.b .Add (.v 2) (.v 3))]),
  .a 3 (.Y .f (.v 1) [(.c (.s "\n")),(.b .Add (.v 3) (.c (.i 1)))])],
 .r (.v 2)]
def amX:ac:=["need_text"]
noncomputable def J8:ac:=["self","begin","size","pieces","number","end","offset","piece"]
noncomputable def J9:bv:=
 [.i (.o [(.n (.l 0 [.v 1,(.c (.i 0)),(.f (.v 0) "signs")])),(.n (.l 0 [.v 2,(.c (.i 0)),(.b .Sub (.f (.v 0) "signs") (.v 1))]))]) [.e 0 [(.c (.s "what is read lies within the stock"))]] [],
 .a 3 (.L []),
 .a 4 (.b .Sub (.l 1 [(.f (.v 0) "begins"),.v 1])<|.c<|.i 1),
 .a 5 (.b .Add (.v 1)<|.v 2),
 .l (.p .Lt (.v 1) (.v 5)) [.a 6 (.b .Sub (.v 1) (.i (.f (.v 0) "begins") (.v 4))),
  .a 7 (.s (.i (.f (.v 0) "texts")<|.v 4) (some<|.v 6)<|some<|.b .Sub (.b .Add (.v 6)<|.v 5)<|.v 1),
  .d (.Y .a (.v 3) [.v 7]),
  .a 1 (.b .Add (.v 1)<|.t .l [.v 7]),
  .a 4 (.b .Add (.v 4) (.c (.i 1)))],
 .r (.Y .j (.c (.s "")) [.v 3])]
def Z8:ac:=["is_between","many_upto"]
def vv:ac:=["NoPlace"]
structure qG(K:Frag)(C:D9):Prop where
 c:fP K C
 vw:eY K C "texts"
 yo:eY K C "begins"
 yp:eY K C "feeds"
 yq:eY K C "signs"
def sZ:ac:=["node"]
noncomputable def J_:bv:=
 [.r<|.e (.p .Is (.v 0)<|.c .a) (.c<|.i 0)<|.i (.v 0)<|.c<|.i 3]
noncomputable def Ka:bv:=
 [.r<|.e (.p .Is (.v 0)<|.c .a) (.c<|.i 0)<|.i (.v 0)<|.c<|.i 4]
noncomputable def Kb:bv:=
 [.r<|.e (.p .Is (.v 0)<|.c .a) (.c<|.i 0)<|.i (.v 0)<|.c<|.i 5]
noncomputable def Kc:ac:=["left","piece","right","height","size"]
noncomputable def Kd:bv:=
 [.a 3 (.b .Add (.c (.i 1)) (.t .m [(.l 0 [.v 0]),(.l 0 [.v 2])])),
 .a 4 (.b .Add (.b .Add (.l 1 [.v 0])<|.i (.v 1)<|.c<|.i 1)<|.l 1 [.v 2]),
 .r (.T [.v 0,.v 1,.v 2,.v 3,.v 4,(.b .Add (.b .Add (.l 2 [.v 0]) (.i (.v 1) (.c (.i 2)))) (.l 2 [.v 2]))])]
noncomputable def atI:ac:=["height_of","size_of","ends_of"]
def Ke:ac:=["max"]
noncomputable def yr:ac:=["left","piece","right","inner"]
noncomputable def Kf:bv:=
 [.a 3 (.i (.v 0) (.c (.i 2))),
 .i (.p .GtE (.l 0 [(.i (.v 0)<|.c<|.i 0)])<|.l 0 [.v 3]) [.r<|.l 1 [(.i (.v 0)<|.c<|.i 0),(.i (.v 0)<|.c<|.i 1),(.l 1 [.v 3,.v 1,.v 2])]] [],
 .r (.l 1 [(.l 1 [(.i (.v 0) (.c (.i 0))),(.i (.v 0) (.c (.i 1))),(.i (.v 3) (.c (.i 0)))]),(.i (.v 3) (.c (.i 1))),(.l 1 [(.i (.v 3) (.c (.i 2))),.v 1,.v 2])])]
def Kg:ac:=["height_of","made"]
noncomputable def Kh:bv:=
 [.a 3 (.i (.v 2) (.c (.i 0))),
 .i (.p .GtE (.l 0 [(.i (.v 2)<|.c<|.i 2)])<|.l 0 [.v 3]) [.r<|.l 1 [(.l 1 [.v 0,.v 1,.v 3]),(.i (.v 2)<|.c<|.i 1),(.i (.v 2)<|.c<|.i 2)]] [],
 .r (.l 1 [(.l 1 [.v 0,.v 1,(.i (.v 3) (.c (.i 0)))]),(.i (.v 3) (.c (.i 1))),(.l 1 [(.i (.v 3) (.c (.i 2))),(.i (.v 2) (.c (.i 1))),(.i (.v 2) (.c (.i 2)))])])]
noncomputable def vx:ac:=["left","piece","right"]
noncomputable def Ki:bv:=
 [.i (.p .Gt (.l 0 [.v 0]) (.b .Add (.l 0 [.v 2]) (.c (.i 1)))) [.r (.l 1 [.v 0,.v 1,.v 2])] [],
 .i (.p .Gt (.l 0 [.v 2])<|.b .Add (.l 0 [.v 0])<|.c<|.i 1) [.r<|.l 2 [.v 0,.v 1,.v 2]] [],
 .r (.l 3 [.v 0,.v 1,.v 2])]
noncomputable def Z_:ac:=["height_of","turned_right","turned_left","made"]
noncomputable def Kj:bv:=
 [.i (.p .Gt (.l 0 [.v 0]) (.b .Add (.l 0 [.v 2]) (.c (.i 1)))) [.r (.l 1 [(.i (.v 0) (.c (.i 0))),(.i (.v 0) (.c (.i 1))),(.l 2 [(.i (.v 0) (.c (.i 2))),.v 1,.v 2])])] [],
 .i (.p .Gt (.l 0 [.v 2])<|.b .Add (.l 0 [.v 0])<|.c<|.i 1) [.r<|.l 1 [(.l 2 [.v 0,.v 1,(.i (.v 2)<|.c<|.i 0)]),(.i (.v 2)<|.c<|.i 1),(.i (.v 2)<|.c<|.i 2)]] [],
 .r (.l 3 [.v 0,.v 1,.v 2])]
noncomputable def aaa:ac:=["height_of","leveled","joined","made"]
def s_:ac:=["node","out"]
noncomputable def Kk:bv:=
 [.i (.p .Is (.i (.v 0) (.c (.i 2))) (.c .a)) [.r (.T [(.i (.v 0) (.c (.i 0))),(.i (.v 0) (.c (.i 1)))])] [],
 .a 1 (.l 0 [(.i (.v 0)<|.c<|.i 2)]),
 .r (.T [(.l 1 [(.i (.v 0) (.c (.i 0))),(.i (.v 0) (.c (.i 1))),(.i (.v 1) (.c (.i 0)))]),(.i (.v 1) (.c (.i 1)))])]
def BU:ac:=["last_out","joined"]
noncomputable def Kl:bv:=
 [.i (.p .Is (.i (.v 0) (.c (.i 0))) (.c .a)) [.r (.T [(.i (.v 0) (.c (.i 1))),(.i (.v 0) (.c (.i 2)))])] [],
 .a 1 (.l 0 [(.i (.v 0)<|.c<|.i 0)]),
 .r (.T [(.i (.v 1) (.c (.i 0))),(.l 1 [(.i (.v 1) (.c (.i 1))),(.i (.v 0) (.c (.i 1))),(.i (.v 0) (.c (.i 2)))])])]
def aac:ac:=["first_out","joined"]
noncomputable def Km:ac:=["left","right","last","first","one","other"]
noncomputable def Kn:bv:=
 [.i (.p .Is (.v 0) (.c .a)) [.r (.v 1)] [],
 .a 2 (.l 0 [.v 0]),
 .a 3 (.l 1 [.v 1]),
 .a 4 (.i (.v 2)<|.c<|.i 1),
 .a 5 (.i (.v 3)<|.c<|.i 0),
 .i (.p .Eq (.b .Add (.i (.v 4)<|.c<|.i 0)<|.i (.v 4)<|.c<|.i 1)<|.i (.v 5)<|.c<|.i 0) [.r<|.l 2 [(.i (.v 2)<|.c<|.i 0),(.T [(.i (.v 4)<|.c<|.i 0),(.b .Add (.i (.v 4)<|.c<|.i 1)<|.i (.v 5)<|.c<|.i 1),(.b .Add (.i (.v 4)<|.c<|.i 2)<|.i (.v 5)<|.c<|.i 2)]),(.i (.v 3)<|.c<|.i 1)]] [],
 .r (.l 2 [(.i (.v 2) (.c (.i 0))),.v 4,.v 1])]
noncomputable def aad:ac:=["last_out","first_out","joined"]
noncomputable def Ko:ac:=["piece","size","stock","middle","ends"]
noncomputable def Kp:bv:=
 [.a 3 (.b .Add (.i (.v 0) (.c (.i 0))) (.v 1)),
 .a 4 (.b .Sub (.a 0 "ends_ahead" (.v 2) [.v 3])<|.a 0 "ends_ahead" (.v 2) [(.i (.v 0)<|.c<|.i 0)]),
 .r (.T [(.T [(.i (.v 0) (.c (.i 0))),.v 1,.v 4]),(.T [.v 3,(.b .Sub (.i (.v 0) (.c (.i 1))) (.v 1)),(.b .Sub (.i (.v 0) (.c (.i 2))) (.v 4))])])]
def Kq:ac:=["ends_ahead"]
noncomputable def Cp:ac:=["node","place","stock","piece","begin","end","sides","halves"]
noncomputable def Kr:bv:=
 [.i (.p .Is (.v 0) (.c .a)) [.r (.T [.c .a,.c .a])] [],
 .a 3 (.i (.v 0)<|.c<|.i 1),
 .a 4 (.l 0 [(.i (.v 0)<|.c<|.i 0)]),
 .a 5 (.b .Add (.v 4)<|.i (.v 3)<|.c<|.i 1),
 .i (.p .LtE (.v 1) (.v 4)) [.a 6 (.l 1 [(.i (.v 0) (.c (.i 0))),.v 1,.v 2]),
  .r (.T [(.i (.v 6) (.c (.i 0))),(.l 2 [(.i (.v 6) (.c (.i 1))),.v 3,(.i (.v 0) (.c (.i 2)))])])] [],
 .i (.p .GtE (.v 1) (.v 5)) [.a 6 (.l 1 [(.i (.v 0) (.c (.i 2))),(.b .Sub (.v 1) (.v 5)),.v 2]),
  .r (.T [(.l 2 [(.i (.v 0) (.c (.i 0))),.v 3,(.i (.v 6) (.c (.i 0)))]),(.i (.v 6) (.c (.i 1)))])] [],
 .a 7 (.l 3 [.v 3,(.b .Sub (.v 1)<|.v 4),.v 2]),
 .r (.T [(.l 2 [(.i (.v 0) (.c (.i 0))),(.i (.v 7) (.c (.i 0))),.c .a]),(.l 2 [.c .a,(.i (.v 7) (.c (.i 1))),(.i (.v 0) (.c (.i 2)))])])]
noncomputable def KE:ac:=["size_of","parted","joined","cut_in_two"]
def Cq:ac:=["node","pieces"]
noncomputable def Ks:bv:=
 [.i (.p .Is (.v 0) (.c .a)) [.r (.L [])] [],
 .a 1 (.l 0 [(.i (.v 0)<|.c<|.i 0)]),
 .d (.Y .a (.v 1) [(.i (.v 0)<|.c<|.i 1)]),
 .d (.Y .e (.v 1) [(.l 0 [(.i (.v 0)<|.c<|.i 2)])]),
 .r (.v 1)]
def Kt:ac:=["pieces_of"]
def Ku:ac:=["self","place"]
noncomputable def Kv:bv:=
 [.r<|.l 0 [(.f (.v 0) "feeds"),(.b .Sub (.v 1)<|.c<|.i 1)]]
def Kw:ac:=["stock","text"]
noncomputable def Kx:bv:=
 [.i (.p .Eq (.v 1) (.c (.s ""))) [.r (.c .a)] [],
 .r (.l 0 [.c .a,(.T [(.a 0 "put" (.v 0) [.v 1]),(.t .l [.v 1]),(.Y .c (.v 1) [(.c (.s "\n"))])]),.c .a])]
def aaf:ac:=["joined"]
def aag:ac:=["put"]
def Ky:ac:=["text","stock"]
noncomputable def Kz:bv:=
 [.d (.l 0 [.v 0]),
 .a 1 (.m 0 []),
 .r (.m 1 [.v 1,(.l 1 [.v 1,.v 0])])]
def aah:ac:=["need_text","node_put"]
def aai:ac:=["Stock","Paper"]
noncomputable def KA:ac:=["paper","change","place","part"]
noncomputable def KC:bv:=
 [.i (.p .NotEq (.i (.l 0 [.v 1]) (.c (.i 0))) (.a 0 "size" (.v 0) [])) [.e 0 [(.c (.s "the change is over a text of another number of signs"))]] [],
 .a 2 (.c<|.i 0),
 .y 3 .l [.v 1] [.i (.d [(.p .Eq (.i (.v 3) (.c (.i 0))) (.c (.s "cut"))),(.p .NotEq (.a 1 "part" (.v 0) [.v 2,(.b .Add (.v 2) (.t .l [(.i (.v 3) (.c (.i 1)))]))]) (.i (.v 3) (.c (.i 1))))]) [.e 0 [(.c (.s "what is cut is not what stands there"))]] [],
  .i (.p .NotEq (.i (.v 3) (.c (.i 0))) (.c (.s "put"))) [.a 2 (.b .Add (.v 2) (.l 1 [.v 3]))] []]]
def aaj:ac:=["sizes","part_size"]
def Cr:ac:=["size","part"]
def aak:ac:=["BadFit"]
def KD:ac:=["stock","node"]
noncomputable def KG:bv:=
 [.r<|.C none [("stock",0)] .l [(.l 0 [.v 1])] none<|.a 0 "read" (.v 1) [(.i (.v 0)<|.c<|.i 0),(.i (.v 0)<|.c<|.i 1)]]
def aal:ac:=["read"]
noncomputable def KH:ac:=["self","stock","node"]
noncomputable def KI:bv:=
 [.z (.v 0) "stock" (.v 1),
 .z (.v 0) "node" (.v 2)]
noncomputable def KJ:bv:=
 [.r<|.l 0 [(.f (.v 0) "node")]]
def aam:ac:=["size_of"]
noncomputable def KL:bv:=
 [.r<|.b .Add (.l 0 [(.f (.v 0) "node")])<|.c<|.i 1]
def VC:ac:=["ends_of"]
noncomputable def KN:bv:=
 [.r<|.Y .j (.c<|.s "") [(.l 0 [(.f (.v 0) "stock"),(.f (.v 0) "node")])]]
def y1:ac:=["texts_of"]
noncomputable def KO:ac:=["self","begin","end","ahead"]
noncomputable def KP:bv:=
 [.i (.o [(.n (.l 0 [.v 1,(.c (.i 0)),(.a 0 "size" (.v 0) [])])),(.n (.l 0 [.v 2,.v 1,(.a 0 "size" (.v 0) [])]))]) [.e 0 [(.c (.s "a part leads from a place of the text to one that is no less"))]] [],
 .a 3 (.i (.l 1 [(.f (.v 0) "node"),.v 2,(.f (.v 0) "stock")])<|.c<|.i 0),
 .r (.Y .j (.c (.s "")) [(.l 2 [(.f (.v 0) "stock"),(.i (.l 1 [.v 3,.v 1,(.f (.v 0) "stock")]) (.c (.i 1)))])])]
noncomputable def aap:ac:=["is_between","parted","texts_of"]
def vy:ac:=["size"]
noncomputable def KQ:ac:=["self","change","ahead","rest","part","sides"]
noncomputable def KR:bv:=
 [.d (.l 0 [.v 0,.v 1]),
 .a 2 (.c .a),
 .a 3 (.f (.v 0) "node"),
 .y 4 .l [.v 1] [.i (.p .Eq (.i (.v 4) (.c (.i 0))) (.c (.s "put"))) [.a 2 (.l 1 [.v 2,(.l 2 [(.f (.v 0) "stock"),(.i (.v 4) (.c (.i 1)))])]),
   .c] [],
  .a 5 (.l 3 [.v 3,(.l 4 [.v 4]),(.f (.v 0) "stock")]),
  .a 3 (.i (.v 5)<|.c<|.i 1),
  .i (.p .Eq (.i (.v 4) (.c (.i 0))) (.c (.s "keep"))) [.a 2 (.l 1 [.v 2,(.i (.v 5) (.c (.i 0)))])] []],
 .r (.m 0 [(.f (.v 0) "stock"),.v 2])]
noncomputable def aaq:ac:=["need_fit","sewn","node_put","parted","part_size"]
def aar:ac:=["Paper"]
structure jo(K:Frag)(C:D9):Prop where
 c:fP K C
 j:eY K C "stock"
 m:eY K C "node"
section
variable{X:Cx}
def yt(K:Frag):ad->Hp->VK->Prop:=λY H Q=>∃(p:D9)(s:List Fk),Y=[.r p]/\ak K H p (s.map V.b)/\Q (.b<|s.all id) H
theorem Ct:∀{s:List Fk}{u:ca},Cj (s.map V.b) u->u=s.map Value.bool
 |[],_,.nil=>O
 |b::r,_,.cons e t=>by
  have a:_=Value.bool b:=e;rw[TB,<-Ct t,a]
theorem alF(s:List Fk):((List.range s.length).all λi=>(s[i]?).getD true)=s.all id:=by
 rw[jQ,i4,i4];constructor;intro h b c;obtain⟨i,a,rfl⟩:=Y7 c;have:=h i (Zs.mpr a);simpa[a] using this;intro h i a;have a:=Zs.mp a;have:=h _ (Ua a);simpa[a] using this
theorem aas(w:X.calm=true):cE X (.builtin "all") (yt X.K):=by
 intro M s J H Y C Q I r h;obtain⟨p,a,rfl,j,q⟩:=h;obtain⟨u,rfl,g⟩:=Z5 r;cases g;obtain⟨L,f,l,D⟩:=I.list j;have e:=Ct f;subst e;have F: @LT.lt Nat _ p s.heap.objs.size:=by obtain⟨Z,e,Z⟩:=l.isList;exact Ix e
 refine call_all_walk<|W1 l.isList ?_;refine⟨s.heap.objs.size,[s.heap.objs.size,p],[s.heap.objs.size],(a.map Value.bool).toArray.size,_,_,λi=>(a[i]?).getD true,O,
  Walks.list (A:=X.A.in1) (I.ok.hd w) _ p (V9 F) _,⟨⟨_,M2 _ O,O,O⟩,l.isList.push _⟩,λi v d B G P x=>?_,λE t n=>?_⟩
 have k:(a.map Value.bool)[i]?=some v:=by simpa using P
 rw[Y5] at k;cases c:a[i]? with
 |none=>rw[c] at k;cases k
 |some b=>
  rw[c] at k;cases k;have z:B ((a[i]?).getD true) d:=x;rw[c] at z;exact Pi z
 have e:((List.range (a.map Value.bool).toArray.size).all λi=>(a[i]?).getD true)=a.all id:=by
  have y:(a.map Value.bool).toArray.size=a.length:=by simp
  rw[y];exact alF a
 rw[e];refine⟨.b _,H,I.kept (t':=t) λb o e=>?_,O,q⟩;exact n b o (λm=>by rw[jS.mp m] at e;exact yx _ (Ix e))<|KB _ e
theorem amH:bootBuiltins "all"=some (.builtin "all"):=by decide+kernel
end
def Cv:Frag->TA->TE:=λK t=>eZ (yt K) t
section
variable{m:cg}{S:c0}{B:aV}{X:Cx}{e e2 a b c d:Expr}{f:jp}{x:Str}{p q k:Pos}{r ra rb rc:RE}{g:sB}{i j:Nat}
theorem aat(G:Good m S B X)(A:PA X (e::f) (aO B (r::g)))(h:autoParam (kB S x "all"=true) cx)(n:autoParam (e_ (e::f)=true) cx)(q:autoParam (S.m=0) cl):PE X (.Call (.Name x p) (e::f) [] k) (ag B<|.x Cv (r::g)):=by
 simp only[kB,Xg,IO] at h;obtain⟨⟨rfl,b⟩,a⟩:=h;show PE X _ (eZ (yt B.K)<|aO B (r::g));rw[<-G.K];exact qh (aas<|G.calm q) (G.gl b) (G.g6 _ a) amH A ax ax (cq (cM n).1)<|iV _ _ f (cM n).2
theorem aau(b:n<29)(a:(backTo k (starEach f X.env)).all (λx=> !x.1)=true)(h:n=f.length):((backTo k (starEach f X.env)).all (λx=> !x.1) && (backToKw k (keywordEach [] X.env)).all (λx=>x.1.isSome)
   && decide (f.length+([]:List Keyword).length+(if ([]:List Keyword).isEmpty then 0 else 1) <30))=true:=by
 subst h;rw[a];show(true && true && decide (f.length+0+0<30))=true;rw[ZA al];rfl
theorem t_x{T:Frag->TA->TE}(G:Good m S B X)(h:PE X (.Call a f [] p) (ag B<|.x T g)):PT X (.Call a f [] p) (bj B<|.x T g):=by
 show PT X _ (gK B.K<|ag B<|.x T g);rw[<-G.K];exact yc h λY=>O
end
noncomputable def KS:ac:=["node","place","stock","ends","piece","begin","end","ahead"]
noncomputable def KU:bv:=
 [.a 3 (.c (.i 0)),
 .l (.p .IsNot (.v 0) (.c .a)) [.a 4 (.i (.v 0) (.c (.i 1))),
  .a 5 (.l 0 [(.i (.v 0)<|.c<|.i 0)]),
  .a 6 (.b .Add (.v 5)<|.i (.v 4)<|.c<|.i 1),
  .i (.p .LtE (.v 1) (.v 5)) [.a 0 (.i (.v 0) (.c (.i 0)))] [.i (.p .Lt (.v 1) (.v 6)) [.a 7 (.b .Sub (.a 0 "ends_ahead" (.v 2) [(.b .Sub (.b .Add (.i (.v 4) (.c (.i 0))) (.v 1)) (.v 5))]) (.a 0 "ends_ahead" (.v 2) [(.i (.v 4) (.c (.i 0)))])),
    .r (.b .Add (.b .Add (.v 3) (.l 1 [(.i (.v 0) (.c (.i 0)))])) (.v 7))] [.a 3 (.b .Add (.b .Add (.v 3) (.l 1 [(.i (.v 0) (.c (.i 0)))])) (.i (.v 4) (.c (.i 2)))),
    .a 1 (.b .Sub (.v 1)<|.v 6),
    .a 0 (.i (.v 0) (.c (.i 2)))]]],
 .r (.v 3)]
def aaw:ac:=["size_of","ends_of"]
noncomputable def KW:ac:=["node","number","stock","place","begin","end"]
noncomputable def KY:bv:=
 [.a 3 (.c (.i 0)),
 .l (.o [(.p .Lt (.v 1) (.l 0 [(.i (.v 0) (.c (.i 0)))])),(.p .GtE (.v 1) (.b .Add (.l 0 [(.i (.v 0) (.c (.i 0)))]) (.i (.i (.v 0) (.c (.i 1))) (.c (.i 2)))))]) [.i (.p .Lt (.v 1) (.l 0 [(.i (.v 0) (.c (.i 0)))])) [.a 0 (.i (.v 0) (.c (.i 0)))] [.a 1 (.b .Sub (.b .Sub (.v 1) (.l 0 [(.i (.v 0) (.c (.i 0)))])) (.i (.i (.v 0) (.c (.i 1))) (.c (.i 2)))),
   .a 3 (.b .Add (.b .Add (.v 3)<|.l 1 [(.i (.v 0)<|.c<|.i 0)])<|.i (.i (.v 0)<|.c<|.i 1)<|.c<|.i 1),
   .a 0 (.i (.v 0) (.c (.i 2)))]],
 .a 4 (.i (.i (.v 0)<|.c<|.i 1)<|.c<|.i 0),
 .a 5 (.a 0 "end_place" (.v 2) [(.b .Sub (.b .Add (.a 1 "ends_ahead" (.v 2) [.v 4])<|.v 1)<|.l 0 [(.i (.v 0)<|.c<|.i 0)])]),
 .r (.b .Sub (.b .Add (.b .Add (.v 3) (.l 1 [(.i (.v 0) (.c (.i 0)))])) (.v 5)) (.v 4))]
def X3:ac:=["ends_of","size_of"]
def aay:ac:=["end_place","ends_ahead"]
def KZ:ac:=["self","number"]
noncomputable def K0:bv:=
 [.r<|.i (.f (.v 0) "feeds")<|.v 1]
def K2:ac:=["self","line"]
noncomputable def K3:bv:=
 [.r<|.e (.p .Eq (.v 1)<|.c<|.i 0) (.c<|.i 0)<|.b .Add (.l 0 [(.f (.v 0) "node"),(.b .Sub (.v 1)<|.c<|.i 1),(.f (.v 0) "stock")])<|.c<|.i 1]
def aaz:ac:=["place_of_end"]
noncomputable def K4:ac:=["self","line","last","end"]
noncomputable def K5:bv:=
 [.i (.n (.l 0 [.v 1,(.c (.i 0)),(.b .Sub (.a 0 "lines" (.v 0) []) (.c (.i 1)))])) [.e 0 [(.c (.s "the text has no such line"))]] [],
 .a 2 (.p .Eq (.v 1)<|.b .Sub (.a 0 "lines" (.v 0) [])<|.c<|.i 1),
 .a 3 (.e (.v 2) (.a 1 "size" (.v 0) [])<|.l 1 [(.f (.v 0) "node"),.v 1,(.f (.v 0) "stock")]),
 .r (.b .Sub (.v 3) (.a 2 "line_begin" (.v 0) [.v 1]))]
def aaA:ac:=["is_between","place_of_end"]
noncomputable def aaB:ac:=["lines","size","line_begin"]
noncomputable def K6:ac:=["self","place","line"]
noncomputable def K7:bv:=
 [.i (.n (.l 0 [.v 1,(.c (.i 0)),(.a 0 "size" (.v 0) [])])) [.e 0 [(.c (.s "the text has no such place"))]] [],
 .a 2 (.l 1 [(.f (.v 0) "node"),.v 1,(.f (.v 0) "stock")]),
 .r (.T [.v 2,(.b .Sub (.v 1) (.a 1 "line_begin" (.v 0) [.v 2]))])]
def aaC:ac:=["is_between","ends_ahead_of"]
def EK:ac:=["size","line_begin"]
noncomputable def K8:ac:=["self","line","column"]
noncomputable def K9:bv:=
 [.i (.n (.l 0 [.v 2,(.c (.i 0)),(.a 0 "line_size" (.v 0) [.v 1])])) [.e 0 [(.c (.s "the line has no such column"))]] [],
 .r (.b .Add (.a 1 "line_begin" (.v 0) [.v 1]) (.v 2))]
def aaE:ac:=["is_between"]
def aaF:ac:=["line_size","line_begin"]
section
variable{X:Cx}
def yu(K:Frag):ad->Hp->VK->Prop:=λY H Q=>∃(p:D9)(s:List Fk),Y=[.r p]/\ak K H p (s.map V.b)/\Q (.b<|s.any id) H
theorem asG(s:List Fk):((List.range s.length).any λi=>(s[i]?).getD false)=s.any id:=by
 rw[jQ,List.any_eq_true,List.any_eq_true];constructor;rintro⟨i,a,h⟩;have a:=Zs.mp a;exact⟨_,Ua a,by simpa[a] using h⟩;rintro⟨b,c,h⟩;obtain⟨i,a,rfl⟩:=Y7 c;exact⟨i,Zs.mpr a,by simpa[a] using h⟩
theorem aaG(w:X.calm=true):cE X (.builtin "any") (yu X.K):=by
 intro M s J H Y C Q I r h;obtain⟨p,a,rfl,j,q⟩:=h;obtain⟨u,rfl,g⟩:=Z5 r;cases g;obtain⟨L,f,l,D⟩:=I.list j;have e:=Ct f;subst e;have F: @LT.lt Nat _ p s.heap.objs.size:=by obtain⟨Z,e,Z⟩:=l.isList;exact Ix e
 refine call_any_walk<|W1 l.isList ?_;refine⟨s.heap.objs.size,[s.heap.objs.size,p],[s.heap.objs.size],(a.map Value.bool).toArray.size,_,_,λi=>(a[i]?).getD false,O,
  Walks.list (A:=X.A.in1) (I.ok.hd w) _ p (V9 F) _,⟨⟨_,M2 _ O,O,O⟩,l.isList.push _⟩,λi v d B G P x=>?_,λE t n=>?_⟩
 have k:(a.map Value.bool)[i]?=some v:=by simpa using P
 rw[Y5] at k;cases c:a[i]? with
 |none=>rw[c] at k;cases k
 |some b=>
  rw[c] at k;cases k;have z:B ((a[i]?).getD false) d:=x;rw[c] at z;exact Pi z
 have e:((List.range (a.map Value.bool).toArray.size).any λi=>(a[i]?).getD false)=a.any id:=by
  have y:(a.map Value.bool).toArray.size=a.length:=by simp
  rw[y];exact asG a
 rw[e];refine⟨.b _,H,I.kept (t':=t) λb o e=>?_,O,q⟩;exact n b o (λm=>by rw[jS.mp m] at e;exact yx _ (Ix e))<|KB _ e
theorem aaH:bootBuiltins "any"=some (.builtin "any"):=by decide+kernel
def yv:V->ad->Hp->VK->Prop:=λx U H Q=>∃z y,x=.s z/\U=[.s y]/\z.length<=sizeLine/\Q (.s<|Txt.rstripChars z y) H
theorem aaI:qm X "str.rstrip" yv:=by
 intro B s J H x U v e Q I r c h;obtain⟨z,y,rfl,rfl,d,q⟩:=h;obtain⟨t,rfl⟩:=r;obtain⟨u,rfl,⟨a,rfl⟩⟩:=Z5 c;refine UV F.slot_str_rstrip (Ps _ _ _) F.entry_str_rstrip (F.args_str_rstrip_2 _ _) (gives_str_rstrip_chars z y t a)<|post_val_or_made (λY=>fits_stripped _ _ _ d) λb k=>?_;exact⟨.s _,H,I.tok k,⟨b,O⟩,q⟩
end
def Cw:Frag->TA->TE:=λK t=>eZ (yu K) t
def Cy:Frag->TE->TA->TE:=λK o t=>AQ K "str" yv o t
section
variable{f:cg}{S:c0}{B:aV}{X:Cx}{e:Expr}{a:jp}{x:Str}{p d:Pos}{r:RE}{c:sB}
theorem aaJ(G:Good f S B X)(A:PA X (e::a) (aO B (r::c)))(h:autoParam (kB S x "any"=true) cx)(n:autoParam (e_ (e::a)=true) cx)(q:autoParam (S.m=0) cl):PE X (.Call (.Name x p) (e::a) [] d) (ag B<|.x Cw (r::c)):=by
 simp only[kB,Xg,IO] at h;obtain⟨⟨rfl,g⟩,b⟩:=h;show PE X _ (eZ (yu B.K)<|aO B (r::c));rw[<-G.K];exact qh (aaG<|G.calm q) (G.gl g) (G.g6 _ b) aaH A ax ax (cq (cM n).1)<|iV _ _ a (cM n).2
theorem aaK{b:RE}(G:Good f S B X)(g:PE X o (ag B b))(A:PA X (e::a) (aO B (r::c)))(h:autoParam (kM o "rstrip" x (a.length+1) p d=true) cx)(n:autoParam (e_ (e::a)=true) cx):PE X (.Call (.Attribute o x p) (e::a) [] d) (ag B<|.xm Cy b (r::c)):=by
 simp only[kM,Xg,IO] at h;obtain⟨⟨⟨rfl,k⟩,j⟩,i⟩:=h;show PE X _ (AQ B.K "str" yv (ag B b)<|aO B (r::c));rw[<-G.K];exact GV SZ F.slot_str_rstrip F.type_str_rstrip aaI g A (n_ k) (aau i (BR _ _ (e::a) n) O) j (cq (cM n).1)<|iV _ _ a (cM n).2
end
noncomputable def K_:bv:=
 [.r<|.o [(.p .Is (.v 0)<|.c<|.b true),(.p .Is (.v 0)<|.c<|.b false)]]
def oG:ac:=["cursor"]
noncomputable def La:bv:=
 [.r<|.t .n [(.i (.v 0)<|.c<|.i 0),(.i (.v 0)<|.c<|.i 1)]]
noncomputable def Lb:bv:=
 [.r<|.t .m [(.i (.v 0)<|.c<|.i 0),(.i (.v 0)<|.c<|.i 1)]]
noncomputable def Lc:bv:=
 [.r<|.p .Eq (.i (.v 0)<|.c<|.i 0)<|.i (.v 0)<|.c<|.i 1]
noncomputable def Ld:bv:=
 [.r<|.o [(.p .Is (.v 0)<|.c .a),(.d [(.l 0 [.v 0]),(.p .GtE (.v 0)<|.c<|.i 0)])]]
def Le:ac:=["thing","size"]
noncomputable def Lf:bv:=
 [.i (.o [(.n (.G .t (.v 0))),(.p .NotEq (.t .l [.v 0]) (.c (.i 3)))]) [.r (.c (.b false))] [],
 .r (.d [(.l 0 [(.i (.v 0) (.c (.i 0))),(.c (.i 0)),.v 1]),(.l 0 [(.i (.v 0) (.c (.i 1))),(.c (.i 0)),.v 1]),(.l 1 [(.i (.v 0) (.c (.i 2)))])])]
def aaL:ac:=["is_between","is_goal"]
noncomputable def Lg:ac:=["begin","end","cursor"]
noncomputable def Lh:bv:=
 [.i (.p .Eq (.l 0 [.v 2]) (.v 1)) [.r (.o [(.p .Eq (.v 0) (.v 1)),(.l 1 [.v 2])])] [],
 .r (.p .Lt (.l 0 [.v 2]) (.v 1))]
def aaM:ac:=["begin_of","is_empty"]
def Li:ac:=["size","cursors"]
noncomputable def Lj:bv:=
 [.i (.o [(.n (.G .l (.v 1))),(.n (.P .LtE .LtE (.c (.i 1)) (.t .l [.v 1]) (.g 0)))]) [.e 0 [(.c (.s "cursors are a list of 1 to 40"))]] [],
 .i (.n<|.x Cv [(.C none [("size",0)] .l [.v 1] none<|.l 0 [.v 0,.v 1])]) [.e 0 [(.c<|.s "a cursor is a tuple of two places of the text and a goal")]] [],
 .i (.x Cw [(.C (some 2) [] .z [.v 1,(.s (.v 1) (some (.c (.i 1))) none)] none (.l 1 [(.l 2 [.v 0]),(.l 3 [.v 0]),.v 1]))]) [.e 0 [(.c (.s "cursors rise by their begins, and no two neighbours meet"))]] []]
noncomputable def aaN:ac:=["is_cursor","meet","begin_of","end_of"]
def aaO:ac:=["MOST_CURSORS"]
noncomputable def aaP:ac:=["isinstance","list","len","all","any","zip"]
def aaQ:ac:=["NoCursor"]
def Lk:ac:=["word","hold"]
noncomputable def Ll:bv:=
 [.i (.n (.l 0 [.v 0,.g 0])) [.e 0 [(.c (.s "no cursor steps by this word"))]] [],
 .i (.n (.l 1 [.v 1])) [.e 0 [(.c (.s "hold is True or False"))]] []]
def Wf:ac:=["is_word","is_truth"]
def aaS:ac:=["STEP_WORDS"]
def Cz:ac:=["BadDeed"]
noncomputable def Lm:ac:=["paper","place","signs","stride","begin","rest"]
noncomputable def Ln:bv:=
 [.a 3 (.g 0),
 .l (.p .Gt (.v 1) (.c (.i 0))) [.a 4 (.t .m [(.c (.i 0)),(.b .Sub (.v 1) (.v 3))]),
  .a 5 (.xm Cy (.a 0 "part" (.v 0) [.v 4,.v 1]) [.v 2]),
  .i (.p .NotEq (.v 5)<|.c<|.s "") [.r<|.b .Add (.v 4)<|.t .l [.v 5]] [],
  .a 1 (.v 4),
  .a 3 (.b .Mult (.c (.i 2)) (.v 3))],
 .r (.v 1)]
def Lo:ac:=["FIRST_STRIDE"]
def Lp:ac:=["max","len"]
noncomputable def Lq:ac:=["paper","place","signs","stride","end","rest"]
noncomputable def Lr:bv:=
 [.a 3 (.g 0),
 .l (.p .Lt (.v 1) (.a 0 "size" (.v 0) [])) [.a 4 (.t .n [(.a 0 "size" (.v 0) []),(.b .Add (.v 1) (.v 3))]),
  .a 5 (.Y .l (.a 1 "part" (.v 0) [.v 1,.v 4]) [.v 2]),
  .i (.p .NotEq (.v 5)<|.c<|.s "") [.r<|.b .Sub (.v 4)<|.t .l [.v 5]] [],
  .a 1 (.v 4),
  .a 3 (.b .Mult (.c (.i 2)) (.v 3))],
 .r (.v 1)]
def Ls:ac:=["min","len"]
noncomputable def Lu:ac:=["paper","place","word","spot","begin"]
noncomputable def Lv:bv:=
 [.a 3 (.a 0 "line_at" (.v 0) [.v 1]),
 .a 4 (.b .Sub (.v 1)<|.i (.v 3)<|.c<|.i 1),
 .r (.e (.p .Eq (.v 2) (.c (.s "home"))) (.v 4) (.b .Add (.v 4) (.a 1 "line_size" (.v 0) [(.i (.v 3) (.c (.i 0)))])))]
def aaT:ac:=["line_at","line_size"]
noncomputable def Lw:ac:=["paper","place","word"]
noncomputable def Lx:bv:=
 [.i (.p .Eq (.v 2) (.c (.s "left"))) [.r (.t .m [(.c (.i 0)),(.b .Sub (.v 1) (.c (.i 1)))])] [],
 .i (.p .Eq (.v 2)<|.c<|.s "right") [.r<|.t .n [(.a 0 "size" (.v 0) []),(.b .Add (.v 1)<|.c<|.i 1)]] [],
 .i (.p .Eq (.v 2)<|.c<|.s "top") [.r<|.c<|.i 0] [],
 .i (.p .Eq (.v 2)<|.c<|.s "bottom") [.r<|.a 0 "size" (.v 0) []] [],
 .i (.p .Eq (.v 2)<|.c<|.s "back") [.r<|.l 0 [.v 0,(.l 0 [.v 0,.v 1,.g 0]),.g 1]] [],
 .i (.p .Eq (.v 2)<|.c<|.s "on") [.r<|.l 1 [.v 0,(.l 1 [.v 0,.v 1,.g 0]),.g 1]] [],
 .r (.l 2 [.v 0,.v 1,.v 2])]
noncomputable def aaU:ac:=["left_over","right_over","place_in_line"]
def aaV:ac:=["OTHER_SIGNS","WORD_SIGNS"]
def Ly:ac:=["max","min"]
noncomputable def Lz:ac:=["paper","line","goal","word","other"]
noncomputable def qH:bv:=
 [.a 4 (.e (.p .Eq (.v 3) (.c (.s "up"))) (.b .Sub (.v 1) (.c (.i 1))) (.b .Add (.v 1) (.c (.i 1)))),
 .i (.p .Lt (.v 4)<|.c<|.i 0) [.r<|.c<|.i 0] [],
 .i (.p .Eq (.v 4)<|.a 0 "lines" (.v 0) []) [.r<|.a 1 "size" (.v 0) []] [],
 .r (.a 2 "place_at" (.v 0) [.v 4,(.t .n [.v 2,(.a 3 "line_size" (.v 0) [.v 4])])])]
noncomputable def aaW:ac:=["lines","size","place_at","line_size"]
noncomputable def LB:ac:=["cursor","head","goal","hold"]
noncomputable def LC:bv:=
 [.r<|.T [(.e (.v 3) (.i (.v 0)<|.c<|.i 0)<|.v 1),.v 1,.v 2]]
noncomputable def LD:ac:=["paper","cursor","word","hold","spot","goal"]
noncomputable def yw:bv:=
 [.i (.p .In (.v 2) (.T [(.c (.s "up")),(.c (.s "down"))])) [.a 4 (.a 0 "line_at" (.v 0) [(.i (.v 1) (.c (.i 1)))]),
  .a 5 (.e (.p .Is (.i (.v 1)<|.c<|.i 2)<|.c .a) (.i (.v 4)<|.c<|.i 1)<|.i (.v 1)<|.c<|.i 2),
  .r (.l 0 [.v 1,(.l 1 [.v 0,(.i (.v 4) (.c (.i 0))),.v 5,.v 2]),.v 5,.v 3])] [],
 .i (.d [(.p .In (.v 2)<|.T [(.c<|.s "left"),(.c<|.s "right")]),(.n<|.v 3),(.n<|.l 2 [.v 1])]) [.r<|.l 0 [.v 1,(.e (.p .Eq (.v 2)<|.c<|.s "left") (.l 3 [.v 1])<|.l 4 [.v 1]),.c .a,.v 3]] [],
 .r (.l 0 [.v 1,(.l 5 [.v 0,(.i (.v 1) (.c (.i 1))),.v 2]),.c .a,.v 3])]
noncomputable def Tx:ac:=["with_head","place_in_next_line","is_empty","begin_of","end_of","place_by_word"]
def aaY:ac:=["line_at"]
end
section
open PySem.W PyProof.Rows
structure Tb(n:Nat)(lt:Nat->Nat->Fk):Prop where
 aG:∀i j,i<n->j<n->i≠j->lt i j=true\/lt j i=true
 asy:∀i j,i<n->j<n->lt i j=true->lt j i=false
 tr:∀i j k,i<n->j<n->k<n->lt i j=true->lt j k=true->lt i k=true
def lQ(p:xz)(i:Nat):Nat:=p.getD i 0
structure Pm(n:Nat)(p:xz):Prop where
 sz:p.size=n
 pm:p.toList.Perm (List.range n)
theorem vA(h:i<p.size):lQ p i=p[i]:=by simp[lQ,Array.getD,h]
theorem vB(h:p[i]?=q[j]?):lQ p i=lQ q j:=by
 delta lQ;rw[Array.getD_eq_getD_getElem?,Array.getD_eq_getD_getElem?,h]
section
variable{n:Nat}{o:Nat->Nat->Fk}{p:xz}
theorem Pm.inR(P:Pm n p)(h:i<n):lQ p i<n:=by
 have s:i<p.size:=by rw[P.sz];exact h
 rw[vA s];have m:p[i]∈p.toList:=by simp
 exact Zs.mp<|P.pm.subset m
theorem Pm.ne(P:Pm n p)(b:i<n)(a:j<n)(h:i≠j):lQ p i≠lQ p j:=by
 have s:i<p.size:=by rw[P.sz];exact b
 have q:j<p.size:=by rw[P.sz];exact a
 rw[vA s,vA q];have d:p.toList.Nodup:=P.pm.nodup_iff.mpr List.nodup_range;intro e;have c:p.toList[i]'(by simpa using s)=p.toList[j]'(by simpa using q):=by simpa using e
 exact h<|(List.getElem_inj d).mp c
theorem Pm.perm(P:Pm n p)(h:q.Perm p):Pm n q:=⟨by rw[h.size_eq,P.sz],h.toList.trans P.pm⟩
def Up(o:Nat->Nat->Fk)(p:xz)(k:Nat):Prop:= ∀i j,i<j->j<k->o (lQ p i) (lQ p j)=true
def Db(o:Nat->Nat->Fk)(p:xz)(k:Nat):Prop:= ∀i j,i<j->j<k->o (lQ p j) (lQ p i)=true
theorem Up.snoc(a:Tb n o)(P:Pm n p){k:Nat}(U:Up o p k)(b:k<n)(f:1<=k)(h:o (lQ p k) (lQ p<|k - 1)=false):Up o p (k+1):=by
 intro i j H d;by_cases e:j=k;subst e;have l:o (lQ p<|j - 1) (lQ p j)=true:=by
  rcases a.aG _ _ (P.inR (i:=j - 1) (ZS (Z7 _ _) b)) (P.inR b) (P.ne (ZS (Z7 _ _) b) b al) with z|z
  exact z;rw[z] at h;cases h
 by_cases c:i=j - 1;rw[c];exact l;exact a.tr _ _ _ (P.inR (Xa H b)) (P.inR (ZS (Z7 _ _) b)) (P.inR b) (U i (j - 1) al al) l;exact U i j H (TZ (UD d) e)
theorem Db.snoc(a:Tb n o)(P:Pm n p){k:Nat}(U:Db o p k)(b:k<n)(f:1<=k)(h:o (lQ p k) (lQ p<|k - 1)=true):Db o p (k+1):=by
 intro i j H d;by_cases e:j=k;subst e;by_cases c:i=j - 1;rw[c];exact h;exact a.tr _ _ _ (P.inR b) (P.inR (ZS (Z7 _ _) b)) (P.inR (Xa H b)) h (U i (j - 1) al al);exact U i j H (TZ (UD d) e)
theorem Up.one:Up o p 1:=λi j k h=>(Uy _ (Z1 k (UD h))).elim
variable{u:Nat->Nat->(BT)->Ev->Prop}{R:Ev->Prop}
def oH(n:Nat)(o:Nat->Nat->Fk)(u:Nat->Nat->(BT)->Ev->Prop)(R:Ev->Prop):Prop:=
 ∀i j (C:BT),i<n->j<n->i≠j->(∀s,R s->C (o i j) s)->∀s,R s->u i j C s
def TR(u:Nat->Nat->(BT)->Ev->Prop)(R:Ev->Prop){b:Type}(t:KasT b)(P:b->Prop):Prop:= ∀Q:b->Ev->Prop,(∀a s,P a->R s->Q a s)->∀s,R s->t.kasWp u Q s
theorem TR.ret{b:Type}{a:b}{P:b->Prop}(h:P a):TR u R (.ret a) P:=λQ q s r=>q a s h r
theorem TR.ask{k:Fk->KasT a}{P:a->Prop}(A:oH n o u R)(f:i<n)(d:j<n)(e:i≠j)(h:TR u R (k<|o i j) P):TR u R (.ask i j k) P:=λQ q s r=>A i j _ f d e (λb c=>h Q q b c) s r
theorem TR.bind{b:Type}{t:KasT b}{f:b->KasT c}{d:b->Prop}{P:c->Prop}(h:TR u R t d)(i:∀a,d a->TR u R (f a) P):TR u R (t.bind f) P:=λQ q s r=>by
 rw[KasT.kasWp_bind];exact h _ (λa e p g=>i a p Q q e g) s r
theorem TR.mono(h:TR u R t P)(f:∀a,P a->c a):TR u R t c:=λQ q s r=>h Q (λa d p e=>q a d (f a p) e) s r
theorem LF(a:Tb n o)(A:oH n o u R)(P:Pm n p):∀(f k:Nat),1<=k->k+f=n->Up o p k->TR u R (kas_asc p f k) λm=>k<=m/\m<=n/\Up o p m/\(m=n\/o (lQ p m) (lQ p<|m - 1)=true):=by
 intro f;induction f with
 |zero=>exact λk b d U=>TR.ret ⟨mZ _,(WK d),U,.inl d⟩
 |succ f i=>
  intro k b d U;refine TR.ask A (P.inR al) (P.inR al) (P.ne al al al) ?_;cases c:o (p.getD k 0) (p.getD (k - 1) 0) with
  |true=>exact TR.ret ⟨mZ _,al,U,.inr c⟩
  |false=>exact(i (k+1) (ZU b) al<|U.snoc a P al b c).mono λm h=>⟨VM h.1,h.2⟩
theorem aa0(a:Tb n o)(A:oH n o u R)(P:Pm n p):∀(f k:Nat),1<=k->k+f=n->Db o p k->TR u R (kas_desc f p k 0) λr=>r.1=p/\r.2.2=0/\k<=r.2.1/\r.2.1<=n/\Db o p r.2.1:=by
 intro f;induction f with
 |zero=>exact λk l t U=>TR.ret ⟨O,O,mZ _,by show k<=n;exact WK t,U⟩
 |succ f s=>
  intro k l t U;have e:=P.inR (i:=k) al;have c:=P.inR (i:=k - 1) al;have b:=P.ne (i:=k) (j:=k - 1) al al al;refine TR.ask A e c b ?_;cases g:o (p.getD k 0) (p.getD (k - 1) 0) with
  |true=>exact(s (k+1) (ZU l) al<|U.snoc a P al l g).mono λr h=>⟨h.1,h.2.1,VM h.2.2.1,h.2.2.2⟩
  |false=>
   have q:o (p.getD (k - 1) 0) (p.getD k 0)=true:=by
    rcases a.aG _ _ c e (KK b) with z|z
    exact z;have m:o (p.getD k 0) (p.getD (k - 1) 0)=true:=z;rw[m] at g;cases g
   show TR u R (.ask (p.getD (k - 1) 0) (p.getD k 0) λd=>if d=true then .ret (p,k,0) else kas_desc f p (k+1) (0+1)) _;refine TR.ask A c e (KK b) ?_;rw[q];exact TR.ret ⟨O,O,mZ _,by show k<=n;lia,U⟩
theorem LG(a:m<=p.size):lQ (kas_rev p 0 m) i=if i<m then lQ p (m - 1 - i) else lQ p i:=by
 have e:=getElem?_mirror_all (xs:=p) (i:=0) a i;by_cases h:i<m;rw[GT ⟨Wy _,h⟩,show 0+m - 1 - i=m - 1 - i by lia] at e;rw[GT h];exact vB e;rw[GM λz=>h z.2] at e;rw[GM h];exact vB e
theorem Db.rev(h:m<=p.size)(U:Db o p m):Up o (kas_rev p 0 m) m:=by
 intro i j k a;rw[LG h,LG h,GT (Xa k a),GT a];exact U (m - 1 - j) (m - 1 - i) al al
theorem Pm.rev(P:Pm n p)(m:Nat):Pm n (kas_rev p 0 m):=P.perm (mirror_perm _ _ _ _)
def zcH(n:Nat)(o:Nat->Nat->Fk)(r:Nat×xz):Prop:=1<=r.1/\r.1<=n/\Pm n r.2/\Up o r.2 r.1
theorem S9(k:Tb n o)(A:oH n o u R)(P:Pm n p)(G:1<=n):TR u R (kas_count n p) (zcH n o):=by
 refine TR.bind (LF k A P (n - 1) 1 (mZ _) al Up.one) λm w=>?_;obtain⟨s,q,U,y⟩:=w;by_cases e:m=n;rw[GT (by simp[e])];exact TR.ret ⟨s,q,P,U⟩;rw[GM (by simp[e])];have x:o (lQ p m) (lQ p<|m - 1)=true:=by rcases y with h|h;exact absurd h e;exact h
 by_cases g:m>1;rw[GT g];refine TR.ask A (P.inR (TK G)) (P.inR al) (P.ne (TK G) al al) ?_;have c:=U 0 (m - 1) al al;have D:o (p.getD 0 0) (p.getD (m - 1) 0)=true:=c;rw[D];exact TR.ret ⟨s,q,P,U⟩;rw[GM g];have z:m=1:=by lia
 subst z;have F:Db o p 2:=by
  intro i j H I;have C:i=0:=by lia
  have B:j=1:=by lia
  subst C B;exact x
 refine TR.bind (aa0 k A P (n - (1+1)) (1+1) (ZU s) al F) λr v=>?_;obtain⟨a,b,c,d,f⟩:=v;rw[GM (oY (WK b)),a];have E:=f.rev (by rw[P.sz];exact d);refine TR.bind (LF k A (P.rev r.2.1) (n - r.2.1) r.2.1 (VM c) al E) λt l=>?_;exact TR.ret ⟨by have:=l.1;show 1<=t;exact VM (Ut c this),l.2.1,P.rev _,l.2.2.1⟩
theorem CB(a:Tb n o)(A:oH n o u R)(P:Pm n p)(b:k<n)(U:Up o p k):∀(f l r:Nat),r<=k->l<=r->r - l<=f->(∀i,i<l->o (lQ p i) (lQ p k)=true)->(∀i,r<=i->i<k->o (lQ p k) (lQ p i)=true)->
  TR u R (kas_place p k f l r) λm=>m<=k/\(∀i,i<m->o (lQ p i) (lQ p k)=true)/\∀i,m<=i->i<k->o (lQ p k) (lQ p i)=true:=by
 intro f;induction f with
 |zero=>exact λl r y F E q j=>TR.ret ⟨(Ut F y),q,λi t=>j i al⟩
 |succ f x=>
  intro l r y F E q j;unfold kas_place;by_cases e:l≥r;rw[GT e];exact TR.ret ⟨(Ut F y),q,λi t=>j i (Ut e t)⟩;rw[GM e];have h:(l+r) / 2<k:=by lia
  have J:l<= (l+r) / 2:=by lia
  have s:(l+r) / 2<r:=by lia
  generalize (l+r) / 2=m at*;have c:=P.inR (Xa h b);have d:=P.inR b;have D:=P.ne (Xa h b) b (V9 h);refine TR.ask A d c (P.ne b (Xa h b)<|mK h) ?_;cases g:o (p.getD k 0) (p.getD m 0) with
  |true=>
   refine x l m (Yl h) J al q λi t C=>?_;by_cases v:i=m;rw[v];exact g;exact a.tr _ _ _ d c (P.inR<|Xa C b) g (U _ i al C)
  |false=>
   have w:o (lQ p m) (lQ p k)=true:=by
    rcases a.aG _ _ c d D with z|z
    exact z;have B:o (p.getD k 0) (p.getD m 0)=true:=z;rw[B] at g;cases g
   refine x (m+1) r y s al (λi t=>?_) j;by_cases v:i=m;rw[v];exact w;exact a.tr _ _ _ (P.inR al) c d (U i _ (TZ (UD t) v) h) w
theorem LH(a:k<p.size)(b:m<=k):lQ (bubble p k<|k - m) i=if i=m then lQ p k else if m<i/\i<=k then lQ p (i - 1) else lQ p i:=by
 have e:=getElem?_bubble a (k - m) (Z7 _ _) i;rw[show k - (k - m)=m by lia] at e;by_cases h:i=m;rw[GT h] at e⊢;exact vB e;rw[GM h] at e⊢;by_cases g:m<i/\i<=k;rw[GT g] at e⊢;exact vB e;rw[GM g] at e⊢;exact vB e
theorem aa4(a:Tb n o)(A:oH n o u R):∀(f k:Nat)(p:xz),Pm n p->k+f=n->Up o p k->TR u R (kas_bin f p k) λq=>Pm n q/\Up o q n:=by
 intro f;induction f with
 |zero=>exact λk p P h U=>TR.ret ⟨P,by rw[show n=k by lia];exact U⟩
 |succ f r=>
  intro k p P h U;have c:k<n:=by lia
  refine TR.bind (CB a A P c U k 0 k (mZ _) (Wy _) (mZ _) (λi t=>(Uy _ t).elim) (λi t C=>(yx _ (Z1 C t)).elim)) λm b=>?_;obtain⟨b,w,v⟩:=b;refine r (k+1) _ (P.perm<|bubble_perm _ _ _) al ?_;intro i j H x;have s:k<p.size:=by rw[P.sz];exact c
  rw[LH s b,LH s b];by_cases l:i=m;rw[GT l,GM al,GT al];exact v (j - 1) al al;rw[GM l];by_cases g:j=m;rw[GT g,GM al];exact w i (Z1 H (WK g));rw[GM g];by_cases d:m<i/\i<=k;rw[GT d,GT al];exact U (i - 1) (j - 1) al al;rw[GM d];by_cases e:m<j/\j<=k;rw[GT e];exact U i (j - 1) al al;rw[GM e];exact U i j H al
theorem aa5(a:Tb n o)(A:oH n o u R)(h:1<=n):TR u R (kas_sort n) λq=>Pm n q/\Up o q n:=by
 have b:Pm n (List.toArray<|List.range n):=⟨ap,List.Perm.refl _⟩;refine TR.bind (S9 a A b h) λr h=>?_;obtain⟨d,c,P,U⟩:=h;by_cases e:r.1<n;rw[GT e,show max r.1 1=r.1 by lia];exact aa4 a A _ _ _ P al U;rw[GM e];exact TR.ret ⟨P,by rw[show n=r.1 by lia];exact U⟩
end
end
section
open PyProof.Rows PySem.W
abbrev T3:=Int×Int×Int
abbrev wn:=List T3
noncomputable def dQ(a b:T3):Fk:=decide (a.1<b.1)||(a.1==b.1 && (decide (a.2.1<b.2.1)||(a.2.1==b.2.1 && decide (a.2.2<b.2.2))))
def oJ(t:wn)(i j:Nat):Fk:=dQ (t.getD i (0,0,0)) (t.getD j (0,0,0))
theorem tm{b:T3}:dQ a b=true↔a.1<b.1\/(a.1=b.1/\(a.2.1<b.2.1\/(a.2.1=b.2.1/\a.2.2<b.2.2))):=by
 delta dQ;simp
theorem aa6{b:T3}(d:dQ a b=true)(h:dQ b c=true):dQ a c=true:=by
 rw[tm] at*;lia
theorem LI{b:T3}(h:dQ a b=true):dQ b a=false:=by
 cases e:dQ b a with
 |false=>rfl
 |true=>rw[tm] at*;lia
theorem aa7{b:T3}(h:a≠b):dQ a b=true\/dQ b a=true:=by
 rw[tm,tm];obtain⟨i,g,f⟩:=a;obtain⟨e,d,c⟩:=b;have:¬(i=e/\g=d/\f=c):=(by rintro ⟨x,y,z⟩;exact h (by rw[x,y,z]));simp only;lia
theorem amB(d:t.Nodup):Tb t.length (oJ t) where
 aG i j b a n:=by
  delta oJ;refine aa7 ?_;have l:t.getD i (0,0,0)=t[i]:=by simp[b]
  have g:t.getD j (0,0,0)=t[j]:=by simp[a]
  rw[l,g];exact λe=>n<|(List.getElem_inj d).mp e
 asy i j _ _ h:=LI h
 tr i j k _ _ _ f c:=aa6 f c
def ZC(h:FS)(v:EQ)(t:T3):Prop:= ∃a o n d c b,v=.ref a/\h.get? a=some o/\o.cls=.type "tuple"/\o.data=.seq #[.int t.1 d,.int t.2.1 c,.int t.2.2 b] n
theorem ZC.kept{v:EQ}(x:ZC h v t)(k:∀b o,h.get? b=some o->o.cls=.type "tuple"->f.get? b=some o):ZC f v t:=by
 obtain⟨a,o,n,j,i,g,zq⟩:=ZW x;obtain⟨rfl,e,c,d⟩:=l5 zq;exact⟨a,o,n,j,i,g,O,k _ _ e c,c,d⟩
section
variable{K:Fa}{w:FM}{A:Gc}{E:bi}{s:Ev}{U:ca}{g:wn}
theorem aa8:∀{U:ca}{g:wn},Paired (ZC s.heap) U g->∃b,KatTups s.heap U b/\b.length=g.length/\∀v∈b,∃n t,v=.int n t:=by
 intro U g h;induction h with
 |nil=>exact qT [] KatTups.nil O (λv h=>by cases h)
 | @cons v t U g x r m=>
  obtain⟨a,o,n,j,q,p,zq⟩:=ZW x;obtain⟨rfl,e,c,d⟩:=l5 zq;obtain⟨b,k,l,f⟩:=m;refine qT (.int t.1 j::b) (KatTups.cons e c d ap k) (IR (· +1) l) (λv i=>?_);rcases UA.mp i with rfl|i
  exact qY _ ⟨_,O⟩;exact f v i
theorem LJ:∀{U:ca}{g:wn},Paired (ZC h) U g->∀i,i<g.length->ZC h (U.getD i Value.none) (g.getD i (0,0,0)):=by
 intro U g h;induction h with
 |nil=>exact λY a=>absurd a (Nat.not_lt_zero _)
 |cons x Y b=>
  intro i a;cases i with
  |zero=>exact x
  |succ i=>exact b i (VD a)
theorem aa9{y:EQ}{b:T3}{Q:BT}(g:ZC s.heap x a)(f:ZC s.heap y b)(q:Q (dQ a b) s):wpAny (model K w) A (keyLt' (tuples' true) x y) Q E s:=by
 obtain⟨M,H,n,F,D,C,zq⟩:=ZW g;obtain⟨rfl,j,J,dx⟩:=l5 zq;obtain⟨L,G,m,B,z,v,zq⟩:=ZW f;obtain⟨rfl,i,I,o⟩:=l5 zq;refine kat_lt j dx i o ?_;have l:∀{p r:Int}{t u:Tok}{Q:BT},Q (decide<|p<r) s->wpAny (model K w) A (oneLt' false (.int p t) (.int r u)) Q (λY Y=>False) s:=λh=>kat_one _ _ (PyProof.Rows.lt_int h);refine kat_cons<|WP<|kat_go (λe=>kat_yes ?_) λe=>kat_no (oneLt_int ?_);have c:a.1=b.1:=by simpa using e
 refine kat_cons<|WP<|kat_go (λe=>kat_yes ?_) λe=>kat_no (l ?_);have d:a.2.1=b.2.1:=by simpa using e
 refine kat_cons<|WP<|kat_go (λe=>kat_yes<|kat_nil ?_) λe=>kat_no (l ?_);have k:a.2.2=b.2.2:=by simpa using e
 have:dQ a b=false:=by delta dQ;simp[c,d,k]
 rw[this] at q;exact q;have:dQ a b=decide (a.2.2<b.2.2):=by delta dQ;simp[c,d]
 rw[this] at q;exact q;have d:¬a.2.1=b.2.1:=by simpa using e
 have:dQ a b=decide (a.2.1<b.2.1):=by delta dQ;simp[c,d]
 rw[this] at q;exact q;have c:¬a.1=b.1:=by simpa using e
 have:dQ a b=decide (a.1<b.1):=by delta dQ;simp[c]
 rw[this] at q;exact q
noncomputable def vC(U:ca)(p:xz):ca:=p.toList.map λi=>U.getD i Value.none
theorem aa_{a:D9}{P:PySem.Fin->Ev->Prop}(m:s.heap.get? a=some (seqObj "list" U.toArray n))(M:Paired (ZC s.heap) U g)(Y:g.Nodup)(W:U.length<64)(h:∀p,Pm g.length p->Up (oJ g) p g.length->P (.done<|.ret .none) {s with heap:=sortedHeap s.heap a U (vC U p).toArray}):
  wpAny (model K w) A (Builtin.«list.sort» ⟨[.ref a],[]⟩) P E s:=by
 have d:U.length=g.length:=Id M;rw[list_sort_plain];have S:a<s.heap.objs.size:=Ix m;refine HD<|listItems_at m O ?_;refine HD<|listUpdate_at m O ?_ (by rw[i3,Os];lia)<|Wy _;obtain⟨F,L⟩:∃F,(s.heap.update a<|Obj.mapSeq λ_=> #[]).get? a=some (seqObj "list" #[] F):=⟨_,get?_update_seq m<|λ_=> #[]⟩;refine HD<|seqEpoch_at L O ?_;refine HD<|wpAny_newTuple ?_ (by show U.length<=_;rw[Os];lia);refine HD<|wpAny_newList ?_<|Wy _;refine NE ?_;have y:(((s.heap.update a<|Obj.mapSeq λ_=> #[]).push<|seqObj "tuple" U.toArray 0).push<|seqObj "list" #[] 0).get? a=some (seqObj "list" #[] F):=by
  rw[Tk _ _ _ (by rw[size_push',WF];exact V9 (Za S)),Tk _ _ _ (by rw[WF];exact V9 S)];exact L
 have l:∀b o,s.heap.get? b=some o->o.cls=.type "tuple"->(((s.heap.update a<|Obj.mapSeq λ_=> #[]).push<|seqObj "tuple" U.toArray 0).push<|seqObj "list" #[] 0).get? b=some o:=λb o e c=>by
  have hb:b≠a:=λz=>by
   subst z;rw[m] at e;cases e;exact absurd c (by show Value.type "list"≠Value.type "tuple";decide+kernel)
  have V:b<s.heap.objs.size:=Ix e;rw[Tk _ _ _ (by rw[size_push',WF];exact V9 (Za V)),Tk _ _ _ (by rw[WF];exact V9 V),Heap.get?_update_ne _ _ _ _ hb];exact e
 show wpAny (model K w) A _ P E {s with heap:=((s.heap.update a<|Obj.mapSeq λ_=> #[]).push<|seqObj "tuple" U.toArray 0).push (seqObj "list" #[] 0)};dsimp only;have a':U.toArray.size=U.length:=by simp
 by_cases q:U.toArray.size<2;rw[GT q,GT q];refine HD<|IN ?_;rw[StateT.run_pure];refine HD<|IN ?_;dsimp only;refine HD<|seqEpoch_at y O ?_;refine HD<|listUpdate_at y O ?_ (hsz2:=by rw[Array.size_map];show(pairsOf U).size<=_;rw[pairsOf_size,Os];exact i0 (UD q));simp only[bne_self_eq_false,S_,Op];refine IN ?_;have h':=h (List.toArray<|List.range g.length) ⟨ap,List.Perm.refl _⟩ (λi j kH R=>by lia);have e:(arrOf<|SortSt.mk' general' (U.toArray.zip U.toArray) #[] 7 none).map (·.2)=(vC U<|List.toArray<|List.range g.length).toArray:=by
  have hz:(U.toArray.zip U.toArray).size=g.length:=by rw[<-d];simp
  have N:=kas_range (U.toArray.zip U.toArray);rw[hz] at N;exact kat_snds (ks:=U) (vs:=U) (st:=SortSt.mk' general' (U.toArray.zip U.toArray) #[] 7 none) O N.symm
 rw[e];exact h';rw[GM q,GM q];have D:Paired (ZC<|((s.heap.update a<|Obj.mapSeq λ_=> #[]).push<|seqObj "tuple" U.toArray 0).push<|seqObj "list" #[] 0) U g:=Paired.fJ M λv t x=>x.kept l;obtain⟨fs,Z,kl,kf⟩:=aa8 (s:={s with heap:=((s.heap.update a<|Obj.mapSeq λ_=> #[]).push<|seqObj "tuple" U.toArray 0).push (seqObj "list" #[] 0)}) D;refine HD<|kat_kind Z al (T:=.type "int") (λv hv=>?_) (by rfl) ?_;obtain⟨k,t,rfl⟩:=kf v hv;exact Looks.now;have as:oH g.length (oJ g) (kas_ask K w A (tuples' true) U) (λz=>z={s with heap:=((s.heap.update a<|Obj.mapSeq λ_=> #[]).push<|seqObj "tuple" U.toArray 0).push (seqObj "list" #[] 0)}):=by
  rintro i j C hi R ne hC z rfl;exact aa9 (LJ D i hi) (LJ D j R)<|hC _ O
 have u:=aa5 (amB Y) as al;refine HD (KM (kat_run (κ:=tuples' true) (ks:=U) (Q:=λr f=>∃p,Pm g.length p/\Up (oJ g) p g.length/\arrOf r=p.map (kas_item (U.toArray.zip U.toArray))/\failedOf r=none/\f={s with heap:=((s.heap.update a (Obj.mapSeq λ_=> #[])).push (seqObj "tuple" U.toArray 0)).push (seqObj "list" #[] 0)})
  (G:=λp f=>(Pm g.length p/\Up (oJ g) p g.length)/\f={s with heap:=((s.heap.update a<|Obj.mapSeq λ_=> #[]).push<|seqObj "tuple" U.toArray 0).push (seqObj "list" #[] 0)})
  rfl (ZK q) W (λp r f a1 a2 a3 I=>⟨p,I.1.1,I.1.2,a2,a3,I.2⟩) (by rw[d];exact u _ (λp f hp hs=>⟨hp,hs⟩) _ O)) ?_ λ_ _ e=>e)
 rintro⟨⟨⟩,r⟩ f ⟨p,J,X,B,hf,rfl⟩;dsimp only;have H:=kat_snds (ks:=U) (vs:=U) O B;rw[H];refine HD<|seqEpoch_at y O ?_;refine HD<|listUpdate_at y O ?_ (hsz2:=by rw[i3,VH,Wz,J.sz,Os];lia);rw[hf];simp only[bne_self_eq_false,S_,Op];exact IN<|h p J X
theorem abd{l:D9}{Q:bi}(e:s.heap.IsList l U.toArray)(d:Paired (ZC s.heap) U g)(n:g.Nodup)(y:U.length<64)(h:∀p,Pm g.length p->Up (oJ g) p g.length->Q (.ref<|s.heap.objs.size+1) {s with heap:=sortedAll s.heap U (vC U p).toArray}):
  wpAny (model K w) A (call (.builtin "sorted") [.ref l]) Q E s:=by
 refine Calls.call_function_entry kind_sorted plain_sorted entry_sorted (args_sorted1 _) ?_;delta Builtin.«sorted»;refine HD (m:=checkCount "sorted" 1 1 _)<|IN ?_;refine HD<|collect_list e ?_ (by rw[Os];lia);refine HD<|wpAny_newList ?_ (by rw[Os];lia);have z:((s.heap.push<|seqObj "list" #[] 0).update s.heap.objs.size (Obj.mapSeq (· ++U.toArray))).objs.size=s.heap.objs.size+1:=by
  rw[WF,size_push']
 have c:(((s.heap.push<|seqObj "list" #[] 0).update s.heap.objs.size (Obj.mapSeq (· ++U.toArray))).push<|seqObj "list" U.toArray 0).get? (s.heap.objs.size+1)=some (seqObj "list" U.toArray 0):=by
  rw[<-z];exact M2 _ O
 have k:∀b o,s.heap.get? b=some o->o.cls=.type "tuple"->(((s.heap.push<|seqObj "list" #[] 0).update s.heap.objs.size (Obj.mapSeq (· ++U.toArray))).push<|seqObj "list" U.toArray 0).get? b=some o:=λb o q Y=>by
  have a:b<s.heap.objs.size:=Ix q;rw[Tk _ _ _ (by rw[z];exact V9 (Za a)),Heap.get?_update_ne _ _ _ _<|V9 a,Tk _ _ _<|V9 a];exact q
 show wpAny _ _ _ _ _ {s with heap:=((s.heap.push<|seqObj "list" #[] 0).update s.heap.objs.size (Obj.mapSeq (· ++U.toArray))).push (seqObj "list" U.toArray 0)};rw[z];refine HD<|NE<|wpAny_call_entry slot_list_sort ⟨_,c,O⟩ entry_list_sort (aa_ c (Paired.fJ d λv t x=>x.kept k) n y λp i f=>⟨_,O,?_⟩)<|args_list_sort _;exact IN ⟨_,O,h p i f⟩
end
def V3(H:Hp)(v:V)(t:T3):Prop:= ∃a,v=.r a/\H a=some (.t [.i t.1,.i t.2.1,.i t.2.2])
def yA(K:Frag):ad->Hp->VK->Prop:=λY H Q=>∃(p:D9)(U:ad)(t:wn),Y=[.r p]/\ak K H p U/\Paired (V3 H) U t/\t.Nodup/\t.length<64/\
 ∀(q:D9)(z:ad)(u:wn),H q=none->Paired (V3 H) z u->u.Perm t->u.Pairwise (λa b=>dQ a b=true)->Q (.r q) (upd H q<|.l z)
section
variable{X:Cx}
theorem abe:∀{U:ad}{D:ca},Cj U D->∀i,Tf (U.getD i .a) (D.getD i Value.none):=by
 intro U D h;induction h with
 |nil=>exact λY=>O
 |cons x Y b=>
  intro i;cases i with
  |zero=>exact x
  |succ i=>exact b i
theorem abf{D:ca}(h:Cj U D):∀l:am,Cj (l.map λi=>U.getD i .a) (l.map λi=>D.getD i Value.none):=by
 intro l;induction l with
 |nil=>
  exact .nil
 |cons i l b=>
  exact .cons (abe h i)<|b
theorem abg:∀{U:ad}{t:wn},Paired (V3 H) U t->∀i,i<t.length->V3 H (U.getD i .a) (t.getD i (0,0,0)):=by
 intro U t h;induction h with
 |nil=>exact λY b=>absurd b (Nat.not_lt_zero _)
 |cons x Y c=>
  intro i b;cases i with
  |zero=>exact x
  |succ i=>exact c i (VD b)
theorem abh{t:wn}(h:Paired (V3 H) U t):∀l:am,(∀i∈l,i<t.length)->Paired (V3 H) (l.map λi=>U.getD i .a) (l.map λi=>t.getD i (0,0,0)):=by
 intro l;induction l with
 |nil=>
  rintro Y;exact .nil
 |cons i l c=>
  rintro b;exact .cons (abg h i<|b i<|.head _)<|c λj d=>b j (.tail _ d)
theorem GF(t:wn):((List.range t.length).map λi=>t.getD i (0,0,0))=t:=by
 refine List.ext_getElem ap λi a h=>?_;have C:i<t.length:=h;simp[C]
theorem abj{B:bn}{s:Ev}(I:Yp X B J H s):∀{U:ad}{D:ca}{t:wn},Cj U D->Paired (V3 H) U t->Paired (ZC s.heap) D t:=by
 intro U D t p h;induction p generalizing t with
 |nil=>cases h;exact .nil
 |cons x r m=>
  rename_i v u U us;rcases h with Y|⟨⟨a,rfl,q⟩,h⟩
  refine .cons ?_<|m h;cases x;obtain⟨Y,D,b,o,e,c,n,d⟩:=I.aB a _ q;rcases b with Y|⟨i,b⟩
  rcases b with Y|⟨g,b⟩
  rcases b with Y|⟨f,b⟩
  cases b;obtain⟨l,rfl⟩:=i;obtain⟨k,rfl⟩:=g;obtain⟨j,rfl⟩:=f;exact⟨a,o,n,l,k,j,O,e,c,d⟩
theorem y2:cE X (.builtin "sorted") (yA X.K):=by
 intro S s J H Y M Q I r h;obtain⟨p,U,t,zq⟩:=U1 h;obtain⟨rfl,z,f,x,L,q⟩:=i2 zq;obtain⟨u,rfl,k⟩:=Z5 r;cases k;obtain⟨D,v,n,R⟩:=I.list z;have P:=v.length;have N:=Id f;refine abd n.isList (abj I v f) x al λc m g=>?_;obtain⟨e,C⟩:=sortedAll_at s.heap D (vC D c).toArray;have A:c.toList.length=t.length:=by rw[Wz,m.sz]
 have G:∀i∈c.toList,i<t.length:=λi d=>Zs.mp (m.pm.subset d);refine⟨.r<|s.heap.objs.size+1,_,I.laid (t':=s.toks) (λb o e=>sortedAll_old e) (Yn _) (show cJ X.prog X.w _ _ _ (.l<|c.toList.map λi=>U.getD i .a) from⟨by rw[VH];lia,rP (vC D c) e (abf v _) C⟩),O,?_⟩;refine q _ _ (c.toList.map λi=>t.getD i (0,0,0)) (I.aB.fresh<|Yn _) (abh f _ G) ?_ ?_;have:=m.pm.map λi=>t.getD i ((0,0,0):T3)
 rwa [GF] at this
 rw[Vi];rw[Xp];intro i j d B y;have F:i<c.size:=by simpa using d
 have E:j<c.size:=by simpa using B
 have:=g i j y (by rw[<-m.sz];exact E);rw[vA F,vA E] at this;simpa[oJ] using this
theorem abl:bootBuiltins "sorted"=some (.builtin "sorted"):=by decide+kernel
end
def yB:Frag->TA->TE:=λK t=>eZ (yA K) t
section
variable{CX:cg}{S:c0}{B:aV}{X:Cx}{e:Expr}{a:jp}{x:Str}{p pos:Pos}{r:RE}{c:sB}
theorem abm(G:Good CX S B X)(A:PA X (e::a) (aO B (r::c)))(h:autoParam (kB S x "sorted"=true) cx)(n:autoParam (e_ (e::a)=true) cx):PE X (.Call (.Name x p) (e::a) [] pos) (ag B<|.x yB (r::c)):=by
 simp only[kB,Xg,IO] at h;obtain⟨⟨rfl,d⟩,b⟩:=h;show PE X _ (eZ (yA B.K)<|aO B (r::c));rw[<-G.K];exact qh y2 (G.gl d) (G.g6 _ b) abl A ax ax (cq (cM n).1)<|iV _ _ a (cM n).2
end
end
section
open PyProof.Rows
section
variable{a:Fa}{w:FM}{A:Gc}{E:bi}{s:Ev}{l:D9}{Y:Array (Int×Tok)}
theorem LK{Q:bi}(d:s.heap.IsTuple l (intItems Y))(h:∀J:Ev,J={s with heap:=s.heap.push {cls:=.type "tuple_iterator",data:=.fields #[.ref l,.int 0 0]}}->
   (J.heap.IsTupleIter s.heap.objs.size l 0/\J.heap.IsTuple l (intItems Y))->(∀b∈ [s.heap.objs.size,l],b<J.heap.objs.size)->l≠s.heap.objs.size->Q (.ref s.heap.objs.size) J):
  wpAny (model a w) A (pyIter<|.ref l) Q E s:=by
 have F:l<s.heap.objs.size:=by obtain⟨Z,e,Z⟩:=d;exact Ix e
 refine wpAny_pyIter_tuple d<|h _ O ⟨⟨_,M2 _ O,O,O⟩,d.push _⟩ (λb c=>?_)<|V9 F;show b< (s.heap.push _).objs.size;rw[Sc];rcases UA.mp c with rfl|c
 exact VY _;rcases UA.mp c with rfl|c
 exact Za F;cases c
theorem LL{a:FS}(k:∀b o,b∉ [s.heap.objs.size]->(s.heap.push {cls:=.type "tuple_iterator",data:=.fields #[.ref l,.int 0 0]}).get? b=some o->a.get? b=some o):
  ∀b o,s.heap.get? b=some o->a.get? b=some o:=λb o e=>by
 refine k b o (λh=>?_)<|KB _ e;rcases UA.mp h with c|h
 exact absurd (c ▸ Ix e) (yx _);cases h
theorem abn{Q:bi}(g:A.handled=none)(f:s.heap.IsTuple l (intItems Y))(N:0<Y.size)(h:∀v c t,(intItems Y)[argBest (λi j=>decide<|numAt Y i>numAt Y j)<|Y.size - 1]?=some v->(∀b o,s.heap.get? b=some o->c.get? b=some o)->Q v {s with heap:=c,toks:=t}):
  wpAny (model a w) A (call (.builtin "max") [.ref l]) Q E s:=by
 refine call_max_walk<|LK f λJ e d G C=>?_;subst e;refine⟨_,_,_,_,_,_,_,O,Walks.tuple (A:=A.in1) g _ l C<|intItems Y,d,G,by simpa[intItems] using N,CmpOf.ints_gt (numAt Y)<|λZ Z=>ST,λv c t P k=>?_⟩;exact h v c t (by simpa[intItems] using P)<|LL k
theorem abo{Q:bi}(g:A.handled=none)(f:s.heap.IsTuple l (intItems Y))(N:0<Y.size)(h:∀v c t,(intItems Y)[argBest (λi j=>decide<|numAt Y i<numAt Y j)<|Y.size - 1]?=some v->(∀b o,s.heap.get? b=some o->c.get? b=some o)->Q v {s with heap:=c,toks:=t}):
  wpAny (model a w) A (call (.builtin "min") [.ref l]) Q E s:=by
 refine call_min_walk<|LK f λJ e d G C=>?_;subst e;refine⟨_,_,_,_,_,_,_,O,Walks.tuple (A:=A.in1) g _ l C<|intItems Y,d,G,by simpa[intItems] using N,CmpOf.ints_lt (numAt Y)<|λZ Z=>ST,λv c t P k=>?_⟩;exact h v c t (by simpa[intItems] using P)<|LL k
end
section
variable{X:Cx}
theorem LM{B:bn}{s:Ev}{n:sK}(I:Yp X B J H s)(q:aM X.K H p (n.map V.i)):∃Y:Array (Int×Tok),s.heap.IsTuple p (intItems Y)/\n=Y.toList.map (·.1):=by
 obtain⟨D,r,l,z⟩:=I.tuple q;have a:=VX r;obtain⟨Y,h⟩:=a.allInts.items;refine⟨Y,h ▸ l,?_⟩;rw[<-nums_intItems,<-h];exact(show numsOf D.toArray.toList=n from a.numsOf).symm
def yC(K:Frag):ad->Hp->VK->Prop:=λY H Q=>∃(p:D9)(s:sK),Y=[.r p]/\aM K H p (s.map V.i)/\s≠ []/\∀m:Int,m∈s->(∀n∈s,m<=n)->Q (.i m) H
def yD(K:Frag):ad->Hp->VK->Prop:=λY H Q=>∃(p:D9)(s:sK),Y=[.r p]/\aM K H p (s.map V.i)/\s≠ []/\∀m:Int,m∈s->(∀n∈s,n<=m)->Q (.i m) H
theorem abp(g:X.calm=true):cE X (.builtin "min") (yC X.K):=by
 intro B s J H Y o Q I r h;obtain⟨p,w,rfl,d,N,q⟩:=h;obtain⟨u,rfl,b⟩:=Z5 r;cases b;obtain⟨Y,l,rfl⟩:=LM I d;have a:0<Y.size:=S8 λz=>N (by rw[VG z];rfl);refine abo (I.ok.hd g) l a λv y k c f=>?_;obtain⟨t,rfl⟩:=ST c;obtain⟨A,m⟩:=x_ (numAt Y) (λi j=>decide<|numAt Y i<numAt Y j) (λZ Z=>O) (Y.size - 1);refine⟨.i _,H,I.kept (t':=k) f,⟨t,O⟩,q _ (ya al) λn e=>?_⟩;obtain⟨i,x,rfl⟩:=yb e;exact m i al
theorem abq(g:X.calm=true):cE X (.builtin "max") (yD X.K):=by
 intro B s J H Y o Q I r h;obtain⟨p,w,rfl,d,N,q⟩:=h;obtain⟨u,rfl,b⟩:=Z5 r;cases b;obtain⟨Y,l,rfl⟩:=LM I d;have a:0<Y.size:=S8 λz=>N (by rw[VG z];rfl);refine abn (I.ok.hd g) l a λv y k c f=>?_;obtain⟨t,rfl⟩:=ST c;obtain⟨A,m⟩:=x_ (λi=> - numAt Y i) (λi j=>decide<|numAt Y i>numAt Y j) (λi j=>decide_eq_decide.mpr al) (Y.size - 1);refine⟨.i _,H,I.kept (t':=k) f,⟨t,O⟩,q _ (ya al) λn e=>?_⟩;obtain⟨i,x,rfl⟩:=yb e;have:=m i al;lia
end
def CJ:Frag->TA->TE:=λK t=>eZ (yC K) t
def CK:Frag->TA->TE:=λK t=>eZ (yD K) t
section
variable{d:cg}{S:c0}{B:aV}{X:Cx}{e:Expr}{a:jp}{x:Str}{p f:Pos}{r:RE}{c:sB}
theorem abr(G:Good d S B X)(A:PA X (e::a) (aO B (r::c)))(h:autoParam (kB S x "min"=true) cx)(n:autoParam (e_ (e::a)=true) cx)(q:autoParam (S.m=0) cl):PE X (.Call (.Name x p) (e::a) [] f) (ag B<|.x CJ (r::c)):=by
 simp only[kB,Xg,IO] at h;obtain⟨⟨rfl,g⟩,b⟩:=h;show PE X _ (eZ (yC B.K)<|aO B (r::c));rw[<-G.K];exact qh (abp<|G.calm q) (G.gl g) (G.g6 _ b) WC A ax ax (cq (cM n).1)<|iV _ _ a (cM n).2
theorem Rj(G:Good d S B X)(A:PA X (e::a) (aO B (r::c)))(h:autoParam (kB S x "max"=true) cx)(n:autoParam (e_ (e::a)=true) cx)(q:autoParam (S.m=0) cl):PE X (.Call (.Name x p) (e::a) [] f) (ag B<|.x CK (r::c)):=by
 simp only[kB,Xg,IO] at h;obtain⟨⟨rfl,g⟩,b⟩:=h;show PE X _ (eZ (yD B.K)<|aO B (r::c));rw[<-G.K];exact qh (abq<|G.calm q) (G.gl g) (G.g6 _ b) V7 A ax ax (cq (cM n).1)<|iV _ _ a (cM n).2
end
noncomputable def LN:bv:=
 [.r<|.p .Lt (.i (.v 0)<|.c<|.i 1)<|.i (.v 0)<|.c<|.i 0]
noncomputable def LO:ac:=["cursors","order","groups","begin","end","number","group"]
noncomputable def LP:bv:=
 [.a 1 (.x yB [(.C (some 2) [] .xQ [.v 0] none (.T [(.l 0 [.v 1]),(.l 1 [.v 1]),.v 0]))]),
 .a 2 (.L []),
 .j [3,4,5] .l [.v 1] [.i (.d [(.p .Gt (.t .l [.v 2]) (.c (.i 0))),(.l 2 [(.i (.i (.v 2) (.N (.c (.i 1)))) (.c (.i 0))),(.i (.i (.v 2) (.N (.c (.i 1)))) (.c (.i 1))),(.i (.v 0) (.v 5))])]) [.a 6 (.Y .p (.v 2) []),
   .d (.Y .a (.v 2) [(.T [(.i (.v 6) (.c (.i 0))),(.t .m [(.i (.v 6) (.c (.i 1))),.v 4]),(.b .Add (.i (.v 6) (.c (.i 2))) (.L [.v 5]))])])] [.d (.Y .a (.v 2) [(.T [.v 3,.v 4,(.L [.v 5])])])]],
 .r (.v 2)]
noncomputable def abu:ac:=["begin_of","end_of","meet"]
noncomputable def abv:ac:=["sorted","enumerate","len","max"]
noncomputable def LQ:ac:=["cursors","group","first"]
noncomputable def LR:bv:=
 [.a 2 (.i (.v 0) (.t .n [(.i (.v 1) (.c (.i 2)))])),
 .i (.p .Eq (.t .l [(.i (.v 1)<|.c<|.i 2)])<|.c<|.i 1) [.r<|.v 2] [],
 .r (.e (.l 0 [.v 2]) (.T [(.i (.v 1) (.c (.i 1))),(.i (.v 1) (.c (.i 0))),.c .a]) (.T [(.i (.v 1) (.c (.i 0))),(.i (.v 1) (.c (.i 1))),.c .a]))]
def abw:ac:=["is_backward"]
def LS:ac:=["cursors"]
noncomputable def LU:bv:=
 [.r<|.C none [("cursors",0)] .l [(.l 0 [.v 0])] none<|.l 1 [.v 1,.v 0]]
def OU:ac:=["gathered","as_one"]
noncomputable def LV:ac:=["paper","cursors","word","hold"]
noncomputable def LW:bv:=
 [.d (.l 0 [(.a 0 "size" (.v 0) []),.v 1]),
 .d (.l 1 [.v 2,.v 3]),
 .r (.l 2 [(.C none [("paper",0),("word",2),("hold",3)] .l [.v 1] none (.l 3 [.v 1,.v 0,.v 2,.v 3]))])]
noncomputable def aby:ac:=["need_cursors","need_step","settled","step"]
noncomputable def amV:ac:=["_law_cursors_here","_law_rows_now","_law_begin","_law_end","_law_k","_law_touch","_law_low","_law_high","_law_some","_law_found","_law_first"]
noncomputable def jq:bv:=
 [.a 1 (.L []),
 .j [2,3,4] .l [(.x yB [(.C (some 2) [] .xQ [.v 0] none (.T [(.x CJ [(.s (.v 1) none (some (.c (.i 2))))]),(.x CK [(.s (.v 1) none (some (.c (.i 2))))]),.v 0]))])] [.a 5 (.c (.b false)),
  .i (.p .NotEq (.v 1) (.L [])) [.sR [6,7,8] (.i (.v 1) (.N (.c (.i 1)))),
   .a 5 (.o [(.p .Lt (.v 2) (.v 7)),(.d [(.p .Eq (.v 2) (.v 7)),(.o [(.p .Eq (.v 6) (.v 7)),(.p .Eq (.v 2) (.v 3))])])])] [],
  .i (.v 5) [.s (.v 1) (.N (.c (.i 1))) (.L [.v 6,(.t .m [.v 7,.v 3]),(.b .Add (.v 8) (.L [.v 4]))])] [.d (.Y .a (.v 1) [(.L [.v 2,.v 3,(.L [.v 4])])])]],
 .a 9 (.L []),
 .j [2,3,8] .l [.v 1] [.a 10 (.i (.v 0) (.t .n [.v 8])),
  .i (.p .Eq (.t .l [.v 8]) (.c (.i 1))) [.d (.Y .a (.v 9) [.v 10])] [.i (.p .Lt (.i (.v 10) (.c (.i 1))) (.i (.v 10) (.c (.i 0)))) [.d (.Y .a (.v 9) [(.T [.v 3,.v 2,.c .a])])] [.d (.Y .a (.v 9) [(.T [.v 2,.v 3,.c .a])])]]],
 .r (.v 9)]
noncomputable def tq:ac:=["sorted","enumerate","min","max","len"]
noncomputable def LX:ac:=["change","cursors","track"]
noncomputable def LY:bv:=
 [.a 2 (.m 0 [.v 0]),
 .d (.l 0 [(.f (.v 2) "over"),.v 1]),
 .r (.l 1 [(.C (some 3) [("track",2)] .l [.v 1] none (.T [(.a 0 "to_left" (.v 3) [.v 0]),(.a 0 "to_left" (.v 3) [.v 1]),.c .a]))])]
def Tg:ac:=["need_cursors","settled"]
def FN:ac:=["to_left"]
def abB:ac:=["Track"]
noncomputable def LZ:ac:=["_law_cell","_law_size_here","_law_number","_law_anchor","_law_head"]
noncomputable def CL:bv:=
 [.a 2 (.l 0 [.v 0,(.c (.i 3))]),
 .a 3 (.i (.L [(.b .Mod (.v 2)<|.b .Add (.v 1)<|.c<|.i 1),(.c<|.i 0),.v 1,(.b .Mod (.b .FloorDiv (.v 2)<|.c<|.i 7)<|.b .Add (.v 1)<|.c<|.i 1)])<|.b .Mod (.b .FloorDiv (.v 2)<|.c<|.i 5)<|.c<|.i 4),
 .a 4 (.t .m [(.c<|.i 0),(.t .n [.v 1,(.b .Add (.v 3)<|.i (.L [(.c<|.i 0),(.c<|.i 0),(.c<|.i 1),(.N<|.c<|.i 1),(.c<|.i 3),(.N<|.c<|.i 4),(.c<|.i 9),.v 1])<|.b .Mod (.b .FloorDiv (.v 2)<|.c<|.i 23)<|.c<|.i 8)])]),
 .r (.T [.v 3,.v 4,(.i (.L [.c .a,.c .a,(.b .Mod (.b .FloorDiv (.v 2) (.c (.i 3))) (.c (.i 9))),.v 2]) (.b .Mod (.b .FloorDiv (.v 2) (.c (.i 11))) (.c (.i 4))))])]
def vD:List (TE×TE)->St->Hp->(List (V×V)->Hp->Prop)->Prop
 |[],_,H,Q=>Q [] H
 |(k,t)::r,J,H,Q=>k J H λx b=>t J b λy L=>vD r J L λp a=>Q ((x,y)::p) a
abbrev VV:List (V×V)->List (EQ×EQ)->Prop:=Paired λp q=>Tf p.1 q.1/\Tf p.2 q.2
def oM(X:Cx)(p:Pos)(k:List (Option Expr))(d:jp)(m:List (TE×TE)):Prop:=
 ∀(B:bn)(s:Ev)(J:St)(H:Hp)(Q:List (V×V)->Hp->Prop),Yp X B J H s->vD m J H Q->
  wpAny (model X.prog X.w) X.A (evalPairs<|pairTrees k d X.env p) (λU c=>∃b I,Yp X B J I c/\VV b U/\Q b I) X.a s
theorem abC:oM X p [] [] []:=λB s J H Q I h=>pairTrees_nil_walk ⟨[],H,I,.nil,h⟩
theorem abD{v:Expr}{b:List (Option Expr)}{U:jp}(o:PE X k a)(l:PE X v t)(n:oM X p b U m):
  oM X p (some k::b) (v::U) ((a,t)::m):=by
 intro B s J H Q I h;refine pairTrees_cons_walk (aL (o B s J H _ I h) λu d h=>?_);obtain⟨x,D,A,f,i⟩:=h;refine aL (l B d J D _ A i) λF c h=>?_;obtain⟨y,L,z,e,g⟩:=h;refine aL (n B c J L _ z g) λE G h=>?_;obtain⟨j,C,w,r,q⟩:=h;exact rC ((x,y)::j) C w (.cons ⟨f,e⟩ r) q
def jT(G m:db):db:=m.foldl (λa k=>Ta a k.1 k.2) G
theorem KV.merge:∀{m:db}{s:wf}{G:db}{U:wf},KV m s->KV G U->KV (jT G m) (merged U s):=by
 intro m s G U r;delta KV at r;induction r generalizing G U with
 |nil=>intro q;exact q
 | @cons p q c b h t i=>
  intro a;have e:KV (Ta G p.1 p.2) (stored U q.1 q.2):=by
   have:=a.put p.1 h.2;rw[<-h.1];exact this
  exact i e
theorem abE:∀(m G:db),(jT G m).length<=G.length+m.length:=by
 intro l;induction l with
 |nil=>
  rintro G;show G.length<=G.length+0;exact mZ _
 |cons p r i=>
  rintro G;have a:=i (Ta G p.1 p.2);have h:=A6 G p.1 p.2;show(jT (Ta G p.1 p.2) r).length<=_;rw[Xm];lia
theorem L0:∀{G:db}{d:List (EQ×EQ)},VV (G.map λk=>(kV k.1,k.2)) d->∃s,Carries (dG P w) d s/\KV G s
 |[],_,r=>by rw[lA] at r;cases r;exact⟨[],True.intro,.nil⟩
 |p::G,_,r=>by
  rw[TB] at r;cases r with
  | @cons a b as f h t=>
   obtain⟨s,c,q⟩:=L0 (P:=P) (w:=w) t;obtain⟨g,e⟩:=b;exact⟨(p.1,e)::s,⟨xE h.1,O,c⟩,.cons ⟨O,h.2⟩ q⟩
def CM(m:List (TE×TE)):TE:=λJ H Q=>∀p,H p=none->vD m J (upd H p<|.d []) λs L=>L p=some (.d [])/\∃G:db,s=G.map (λk=>(kV k.1,k.2))/\G.length<=15/\Q (.r p) (upd L p<|.d<|jT [] G)
theorem CH(h:oM X p k f m)(u:k.all (·.isSome)=true)(E:k.length=f.length)(N:k≠ [])(b:k.length<=15):PE X (.Dict k f p) (CM m):=by
 intro U s J H Q I q;have D:=I.aB.fresh (mZ s.heap.objs.size);have T:=I.laid (a:=s.heap.objs.size) (o:=.d []) (h':=s.heap.push {cls:=.type "dict",data:=.dict #[]}) (t':=s.toks) (λ_ _ q=>KB _ q) (mZ _) (ahT s.heap I.big);refine wpAny_Dict_walk (knd:=dG X.prog X.w) u E N b<|aL (h U _ J _ _ T<|q _ D) λV W h=>?_;obtain⟨Y,L,j,l,e,G,R,Z,y⟩:=h;subst R;obtain⟨n,c,t⟩:=L0 (P:=X.prog) (w:=X.w) l;obtain⟨z,K,v,x,S⟩:=G7 j.aB e;cases x;refine⟨n,c,S,λi g B=>⟨.r s.heap.objs.size,_,?_,O,y⟩⟩;have A:(jT [] G).length<=sizeLine:=by
  have M:=abE G [];rw[TH] at M;rw[Os];lia
 have F:∃q,i.get? s.heap.objs.size=some q:=let ⟨q,_,_,C,_⟩:=g;⟨q,C⟩;exact Bb j (by rw[e];exact True.intro) B F<|G8 A K (t.merge .nil) g
def qK:db->ad
 |[]=>[]
 |k::r=>kV k.1::k.2::qK r
noncomputable def qL:List (V×V)->ad
 |[]=>[]
 |p::r=>p.1::p.2::qL r
def tw:Frag->TA->TE:=λ_ t J H Q=>∀p,H p=none->t J (upd H p<|.d []) λU L=>L p=some (.d [])/\∃G:db,U=qK G/\G.length<=15/\Q (.r p) (upd L p<|.d<|jT [] G)
def oN(B:aV):sB->List (TE×TE)
 |a::b::r=>(ag B a,ag B b)::oN B r
 |_=>[]
theorem CN:∀(s:sB)(H:Hp)(Q:ad->Hp->Prop),s.length % 2=0->aO B s J H Q=vD (oN B s) J H λp L=>Q (qL p) L
 |[],H,Q,_=>O
 |[a],H,Q,e=>absurd e (by show ¬(1 % 2=0);decide)
 |a::b::r,H,Q,e=>by
  have f:r.length % 2=0:=by
   have:(r.length+1+1) % 2=0:=e;lia
  show(ag B a J H λx d=>ag B b J d λy L=>aO B r J L λU c=>Q (x::y::U) c)=ag B a J H λx d=>ag B b J d λy L=>vD (oN B r) J L λp c=>Q (x::y::qL p) c;congr 1;funext x d;congr 1;funext y L;exact CN r L (λU c=>Q (x::y::U) c) f
theorem yE:∀(s:List (V×V))(G:db),qL s=qK G↔s=G.map λk=>(kV k.1,k.2)
 |[],[]=>⟨λY=>O,λY=>O⟩
 |[],k::r=>⟨(λh=>by cases h),(λh=>by cases h)⟩
 |p::s,[]=>⟨(λh=>by cases h),(λh=>by cases h)⟩
 |p::s,k::r=>by
  constructor;intro h;have b:p.1=kV k.1:=(TU h).1;have a:p.2=k.2:=(TU (TU h).2).1;have c:=(yE s r).mp (TU (TU h).2).2;rw[c,TB,<-b,<-a];intro h;rw[TB] at h;obtain⟨b,a⟩:=TU h;show p.1::p.2::qL s=kV k.1::k.2::qK r;rw[(yE s r).mpr a,b]
theorem Wk{K:Frag}(a:sB)(e:a.length % 2=0):tw K (aO B a)=CM (oN B a):=by
 funext J H Q;delta tw CM;apply propext;constructor;intro h p b;have:=h p b;rw[CN a _ _ e] at this;have c:(fun(s:List (V×V))(L:Hp)=>L p=some (.d [])/\∃G:db,qL s=qK G/\G.length<=15/\Q (.r p) (upd L p<|.d<|jT [] G))=λs L=>L p=some (.d [])/\∃G:db,s=G.map (λk=>(kV k.1,k.2))/\G.length<=15/\Q (.r p) (upd L p<|.d<|jT [] G):=by
  funext s L;simp only[yE]
 rw[c] at this;exact this;intro h p b;have:=h p b;rw[CN a _ _ e];have c:(fun(s:List (V×V))(L:Hp)=>L p=some (.d [])/\∃G:db,qL s=qK G/\G.length<=15/\Q (.r p) (upd L p<|.d<|jT [] G))=λs L=>L p=some (.d [])/\∃G:db,s=G.map (λk=>(kV k.1,k.2))/\G.length<=15/\Q (.r p) (upd L p<|.d<|jT [] G):=by
  funext s L;simp only[yE]
 rw[c];exact this
section
variable{CX:cg}{S:c0}{B:aV}{X:Cx}{c:Pos}{k v:Expr}{d:List (Option Expr)}{U:jp}{f g:RE}{a:sB}
theorem abI:oM X c [] [] (oN B []):=abC
theorem abJ(e:PE X k (ag B f))(b:PE X v (ag B g))(h:oM X c d U (oN B a)):oM X c (some k::d) (v::U) (oN B (f::g::a)):=abD e b h
noncomputable def L3(k:List (Option Expr))(X:jp)(a:sB):Fk:=k.all (·.isSome) && decide (k.length=X.length) && decide (k.length≠0) && decide (k.length<=15) && decide (a.length % 2=0)
theorem abK(p:oM X c d U (oN B a))(h:autoParam (L3 d U a=true) cx):PE X (.Dict d U c) (ag B<|.x tw a):=by
 simp only[L3,Xg,IO] at h;obtain⟨⟨⟨⟨i,g⟩,f⟩,e⟩,b⟩:=h;show PE X _ (tw B.K<|aO B a);rw[Wk a b];exact CH p i g (λz=>f (by rw[z];rfl)) e
end
theorem S5{K:Frag}(d:D9)(l c:Int)(n:Nat):mR P w K M (ot l c n) [d] d (λi h=>IsRangeIter h d (l+(i:Nat)*c) ((n:Int) - (i:Nat)) c) where
 mem:=by simp
 obj:=λi h a b f=>by
  have e:b=d:=by simpa using f
  subst e;exact qF _ a (λv z=>by
   have L:Data.fields _=Data.cell v:=z;cases L)
 keep:=λi h j a k=>k d ap _ a
 item:=by
  intro X r m u q i G s J H E I g a p;subst r m u;obtain⟨C,B,R,A,y,x⟩:=i2 (g d ap);have W:=Walks.range (prog:=X.prog) (w:=X.w) (I.ok.hd q) d l c n;refine W.item i s _ _ p a λv j D Q F N=>?_;obtain⟨t,rfl⟩:=Q;have T:Yp X G J H {s with heap:=j,toks:=D}:=I.turned (λb o f e=>N b o (by simpa using f) e) C B A y x;exact qF _ O (Au (s:={s with heap:=j,toks:=D}) (n:="range_iterator") F O O ax (tA (.i<|l+i*c) H T ⟨t,O⟩ ⟨O,O⟩ F (λb f=>(g b f).1)))
 done:=by
  intro X r m u q i G s J H E I g a p;subst r m u;obtain⟨C,B,R,A,y,x⟩:=g d ap;exact wpAny_pyNext_range_end (I.ok.hd q) a (by have:n<=i:=p;lia) λj S=>⟨O,I.turned (t':=s.toks) (λb o f e=>S b o f e) C B A y x⟩
 self:=λY Y Y Y Y a h=>wpAny_pyIter_rangeiter a h
section
variable{X:Cx}{d:Expr}
theorem abM{b:Expr}(L:Gl X "range")(G:X.g "range"=none)(N:PA X [a,b,c] w)(F:starEach [a,b,c] X.env=[(false,eval a X.env),(false,eval b X.env),(false,eval c X.env)])(x:starEach [b,c] X.env=[(false,eval b X.env),(false,eval c X.env)]):
  PI X d (.Call (.Name "range" p) [a,b,c] [] u) (Ie w):=by
 intro B s J H R y h;refine Call_<|pV y L G boot_range<|Tm (aL (N u B s J H _ y h) λV f ⟨U,z,T,C,E⟩=>?_) (by rw[F,x]) (by rw[x];rfl);obtain⟨i,j,k,n,zq⟩:=YU E;obtain⟨e,K,S,Q,P,q⟩:=i2 zq;subst e;cases C with
 |cons r m=>
  cases m with
  |cons D m=>
   cases m with
   |cons A m=>
    cases m;obtain⟨t,rfl⟩:=r;obtain⟨l,rfl⟩:=D;obtain⟨v,rfl⟩:=A;refine call_range_3 K ?_<|.inl Q;refine wpAny_pyIter_range (IsRange.new ..) S ?_;have I:Yp X B J z {f with heap:=f.heap.push {cls:=.type "range",data:=.fields #[.int i t,.int j l,.int k v]},toks:=f.toks}:=T.kept λb o e=>KB _ e;refine tX ((f.heap.push {cls:=.type "range",data:=.fields #[.int i t,.int j l,.int k v]}).objs.size) [(f.heap.push {cls:=.type "range",data:=.fields #[.int i t,.int j l,.int k v]}).objs.size] _ _ z O (I.kept (t':=f.toks) λb o e=>KB _ e) (S5 _ i k n) ?_ (λb M=>?_) q
    show IsRangeIter _ _ (i+((0:Nat):Int)*k) ((n:Int) - ((0:Nat):Int)) k;rw[show i+((0:Nat):Int)*k=i by simp,show(n:Int) - ((0:Nat):Int)=Builtin.Range.rangeSize i j k by rw[P];simp];exact M2 _ O;have e:b=(f.heap.push {cls:=.type "range",data:=.fields #[.int i t,.int j l,.int k v]}).objs.size:=by simpa using M
    subst e;exact I.uG (mZ _)<|I.aB.fresh<|mZ _
theorem U7{C:cg}{S:c0}{b:Expr}{p s:Pos}{r:RE}(G:Good C S B X)(k:PE X a (ag B f))(j:PE X b (ag B e))(i:PE X c (ag B r))(h:autoParam (kB S x "range"=true) cx)(g:autoParam (Ys a=true) cx)(m:autoParam (Ys b=true) cx)(o:autoParam (Ys c=true) cx):PI X d (.Call (.Name x p) [a,b,c] [] s) (gw B .xR [f,e,r]):=by
 simp only[kB,Xg,IO] at h;obtain⟨⟨rfl,n⟩,l⟩:=h;exact abM (G.gl n) (G.g6 _ l) (lK k (lK j (lK i sv<|cq o)<|cq m)<|cq g) (by rw[cq g,cq m,cq o];rfl) (by rw[cq m,cq o];rfl)
variable{f:Scope}{g:mo}
theorem abO{r n l:Pos}(P:X.calm=true)(L:f.names.lookup x=some .local)(J:f.names.lookup y=some .local)(G:f.names.lookup z=some .local)(o:(x::y::z::g.map (·.1)).Nodup):sN X f [x,y,z] g (.Tuple [.Name x r,.Name y n,.Name z m] k l) (some 3):=by
 intro R C s H;generalize eX:gY X f ([x,y,z]++g.map (·.1)) R C s H=Xc;have d:Xc.N=x::y::z::g.map (·.1):=by rw[<-eX];rfl
 have A:Xc.calm=true:=by rw[<-eX];exact P
 have w:Xc.env.scope.names.lookup x=some .local:=by rw[<-eX];exact SB L
 have u:Xc.env.scope.names.lookup y=some .local:=by rw[<-eX];exact SB J
 have t:Xc.env.scope.names.lookup z=some .local:=by rw[<-eX];exact SB G
 have F:PG Xc (.Name x r) (dB 0):=pW (by rw[d];exact o) (by rw[d];rfl) (.inl w) (.inr w);have E:PG Xc (.Name y n) (dB 1):=pW (by rw[d];exact o) (by rw[d];rfl) (.inl u) (.inr u);have D:PG Xc (.Name z m) (dB 2):=pW (by rw[d];exact o) (by rw[d];rfl) (.inl t) (.inr t);have B:Xc.K=X.K:=by rw[<-eX];rfl
 refine qF (Ar Xc.K 3<|pX (dB 0)<|pX (dB 1)<|pX (dB 2) xg) (As A<|sk F<|sk E<|sk D Aq) (λv p V I Q M h=>?_);obtain⟨a,b,c,rfl⟩:∃a b c,p=[a,b,c]:=by
  rcases p with _|⟨a,_|⟨b,_|⟨c,_|_⟩⟩⟩ <;>first|exact qY a ⟨b,c,O⟩|cases M
 obtain⟨U,Y,rfl,T,S,q⟩:=h;obtain⟨j,i,e,rfl⟩:∃j i e,Y=[j,i,e]:=by
  rcases Y with _|⟨j,_|⟨i,_|⟨e,_|_⟩⟩⟩ <;>first|exact qY j ⟨i,e,O⟩|cases S
 exact uF U _ O (by rw[B];exact T) O j _ O i _ O e _ O O (q O)
end
section
variable{a:cg}{S:c0}{B:aV}{X:Cx}{p:Pos}
def kC3(S:c0)(b a n:Str)(t i:Expr)(s:Scope)(fv:mo):Fk:=xT S ⟨.Constant .none 0 ⟨0,0,0,0⟩,t,i,[],s⟩ [b,a,n] fv
theorem abQ{D:sB}{v:Expr}{b n:Str}{j:Pos}(G:Good a S B X)(h:kC3 S d b n (.Tuple [.Name d o,.Name b k,.Name n j] q t) i f fv=true)(A:PI X (.Tuple [.Name d o,.Name b k,.Name n j] q t) i (gw B .l D))(E:∀X,Good a (cS S f [d,b,n] fv) B.calm X->PE X v (ag B.calm e))(u:autoParam (S.m=0) cl):PE X (.ListComp v [⟨.Tuple [.Name d o,.Name b k,.Name n j] q t,i,[],0⟩] f p) (ag B<|.C (some 3) fv .l D none e):=by
 obtain⟨z,r,y,x⟩:=l5 (BS (c:=⟨.Constant .none 0 ⟨0,0,0,0⟩,.Tuple [.Name d o,.Name b k,.Name n j] q t,i,[],f⟩) G h);show PE X _ (og B.K (gw B .l D) (some 3) fv (uZ B.calm none)<|ag B.calm e);rw[<-G.K];refine HM z (G.calm u) A (abO (G.calm u) (r d ap) (r b ap) (r n ap) y) ?_ (λF C s H=>E _<|G.inner ⟨.Constant .none 0 ⟨0,0,0,0⟩,.Tuple [.Name d o,.Name b k,.Name n j] q t,i,[],f⟩ [d,b,n] fv F C s H)<|vh x;exact oC (w:=a) (S:=cS S f [d,b,n] fv) (g:=B.calm)
end
noncomputable def aK(i:Nat):Fr:=(PySem.Challenge.pw_inkloom_k34_whole_one_by_one.main.body).getD i (.Pass ⟨0,0,0,0⟩)
def L4:Fr:=aK 11
abbrev c7(s:Fr)(k:Nat):Fr:=(fU s).getD k (.Pass ⟨0,0,0,0⟩)
abbrev c8(b:bv)(k:Nat):RS:=b.getD k (.r<|.c .a)
abbrev MX(N:ac)(s:Fr)(f g l m k e h:ac)(b:bv)(d:Nat):Prop:= ∀{C:cg}{B:aV}{X:Cx},g7 C (yk N (e8 s) f g l m k e h d) B X->fM X (fU s) (aw B b)
abbrev MY(N:ac)(s:Fr)(f g l m n e h:ac)(b:bv)(d k:Nat):Prop:= ∀{C:cg}{B:aV}{X:Cx},g7 C (yk N (e8 s) f g l m n e h d) B X->PS X (c7 s k) (cO B<|c8 b k)
theorem aE{P:Prop}(H:P:=by intro G;have g:=G.toGood;repeat' first|exact aQ g|refine aW ?_ ?_|apply bD|exact bZ|exact eI|exact iD|refine qA g ?_ ?_|refine gA g ?_|apply mM g|refine jn G ?_|exact dW|apply lU|refine sY g ?_ ?_|apply yg|refine qz g ?_|apply IU|refine B3 ?_|apply qB|refine Zt g ?_ ?_|refine IS g ?_|apply lT g|exact sW|refine vo g ?_|refine ye g ?_ ?_|refine qy g ?_ ?_|apply IV|apply BZ g|refine Jd G ?_|exact oC|apply apA|apply IM|exact BW|apply IP|apply BX|refine ZJ G ?_ ?_|apply IL|exact IJ g|apply IX|apply IW|refine Ja G ?_ ?_|refine asZ g ?_|refine Jb [(_,_),(_,_)] G ?_ ?_|refine Jb [(_,_),(_,_),(_,_)] G ?_ ?_|apply IT g|refine lS g ?_ ?_|apply amC G|apply I_ G|apply Zz|apply atU|apply anG|apply ZD g|apply asX|apply anV g|refine IY g ?_|exact aeK|refine IQ g ?_|refine asB ?_ ?_ ?_|apply abJ|apply asV g|refine aqD g ?_|apply t_x g|refine aqO g ?_ ?_|refine abm g ?_|refine ZE g ?_|refine Jc [(_,_),(_,_)] G ?_|refine Jc [(_,_),(_,_),(_,_)] G ?_|refine Zm g ?_ ?_ ?_|refine aeO g ?_ ?_ ?_|refine aat g ?_|refine aaJ g ?_|refine aaK g ?_ ?_|exact Zq g|exact arU|refine abr g ?_|refine Rj g ?_|refine U7 g ?_ ?_ ?_|refine abK ?_|exact abI|refine auU g ?_ ?_ λY g=>?_|refine BY λY g=>?_|apply PW.pt):P:=H
theorem abR:MX iE L4 aa aa amK aa aa aa aa Jh 0:=aE
def L5:Fr:=aK 12
theorem Ik:MX JT L5 JV aa aa aa aa aa aa JU 0:=aE
def L6:Fr:=aK 13
theorem abT:MX iE L6 aa aa aa aa aa aa aa K_ 0:=aE
def L7:Fr:=aK 14
theorem abU:MX Ce L7 aa aa Ji aa aa aa aa Cf 0:=aE
def L8:Fr:=aK 15
theorem abV:MX iE L8 aa aeS Ji aa aa aa aa Cg 0:=aE
def L9:Fr:=aK 16
theorem abW:MX iE L9 apB aa aa aa aa asO aa Jj 0:=aE
def L_:Fr:=aK 19
theorem abX:MX iE L_ asW aa Jk aa aa aa aa ym 0:=aE
def Ma:Fr:=aK 20
theorem abY:MX Jl Ma aa aa aa aa aa aa aa Jm 0:=aE
def Mb:Fr:=aK 21
theorem abZ:MX Jo Mb amF aa atY aa aa apU aa Jp 0:=aE
def Mc:Fr:=aK 22
theorem ab0:MX Ci Mc aa aa kD aa aa aa aa Jq 0:=aE
def Md:Fr:=aK 23
theorem ab1:MX Jr Md ajZ aa arK aa aa aa aa Js 0:=aE
def Me:Fr:=aK 24
theorem ab2:MX Jt Me aa aa kD aa aa aa aa Ju 0:=aE
def Mf:Fr:=aK 25
theorem yY:MX Jv Mf aa aa aa aa aa aa aa Jw 0:=aE
def Mg:Fr:=aK 26
theorem ab4:MX Jx Mg avB aa aa aa aa aa aa Jy 0:=aE
def Mh:Fr:=aK 27
theorem ab5:MX Jz Mh atV ahR aa aa aa aa aa JA 0:=aE
def Mi:Fr:=aK 29
theorem ab6:MX JW Mi aa aa kD aa aa aa aa JX 0:=aE
def Mj:Fr:=oK (aK 31) 0
theorem ab7:MX JY Mj amI aa kD aa aa aa aa JZ 0:=aE
def Ml:Fr:=oK (aK 31) 1
theorem ab8:MX J0 Ml J4 aa Ck aa aa aa aa J3 0:=aE
def Mm:Fr:=aK 34
theorem VB:MX oG Mm aa aa Ck aa aa aa aa La 0:=aE
def Mn:Fr:=aK 35
theorem ab_:MX oG Mn aa aa Ke aa aa aa aa Lb 0:=aE
def Mo:Fr:=aK 36
theorem aca:MX oG Mo aa aa aa aa aa aa aa Lc 0:=aE
def Mp:Fr:=aK 37
theorem acb:MX oG Mp aa aa aa aa aa aa aa LN 0:=aE
def Mq:Fr:=aK 38
theorem acd:MX iE Mq JV aa aa aa aa aa aa Ld 0:=aE
def Mr:Fr:=aK 39
theorem ace:MX Le Mr aaL aa Jk aa aa aa aa Lf 0:=aE
def Ms:Fr:=aK 40
theorem RR:MX Lg Ms aaM aa aa aa aa aa aa Lh 0:=aE
def Mt:Fr:=aK 41
theorem acg:MX Li Mt aaN aaO aaP aa aa aaQ aa Lj 0:=aE
def Mu:Fr:=aK 42
theorem Zi:MX LO Mu abu aa abv aa aa aa aa LP 0:=aE
def Mv:Fr:=aK 43
theorem aci:MX LQ Mv abw aa Ls aa aa aa aa LR 0:=aE
def Mw:Fr:=aK 44
theorem acj:MX LS Mw OU aa aa aa aa aa aa LU 0:=aE
def Mx:Fr:=aK 45
theorem ack:MX LX Mx Tg aa aa FN abB aa aa LY 0:=λG=>have g:=G.toGood;(bD (jn G<|IQ g<|aW (aQ g) bZ)<|bD (B3<|gA g<|aW (IS g<|aQ g)<|aW (aQ g) bZ)<|bD (lU<|gA g<|aW (abQ g (by kernel_rfl) (lT g<|aQ g)<|λY g=>(IU<|aW (ye g (aQ g)<|aW (aQ g) bZ)<|aW (ye g (aQ g)<|aW (aQ g) bZ)<|aW sW bZ)) bZ) iD)
def My:Fr:=aK 51
theorem acm:MX Lk My Wf aaS aa aa aa Cz aa Ll 0:=aE
def Mz:Fr:=aK 52
theorem acn:MX Lm Mz aa Lo Lp Ci aa aa aa Ln 0:=aE
def MA:Fr:=aK 53
theorem CP:MX Lq MA aa Lo Ls Cr aa aa aa Lr 0:=aE
def MB:Fr:=aK 54
theorem acp:MX Lu MB aa aa aa aaT aa aa aa Lv 0:=aE
def MC:Fr:=aK 55
theorem Rh:MX Lw MC aaU aaV Ly vy aa aa aa Lx 0:=aE
def MD:Fr:=aK 56
theorem X2:MX Lz MD aa aa Ck aaW aa aa aa qH 0:=aE
def ME:Fr:=aK 57
theorem acs:MX LB ME aa aa aa aa aa aa aa LC 0:=aE
def MF:Fr:=aK 58
theorem acu:MX LD MF Tx aa aa aaY aa aa aa yw 0:=aE
def MG:Fr:=aK 59
theorem acv:MX LV MG aby aa aa vy aa aa aa LW 0:=aE
def MH:ac:=["paper","cursors"]
noncomputable def MI:bv:=
 [.d (.l 0 [(.a 0 "size" (.v 0) []),.v 1]),
 .r (.C none [("paper",0)] .l [.v 1] none (.a 1 "part" (.v 1) [(.l 1 [.v 0]),(.l 2 [.v 0])]))]
noncomputable def acw:ac:=["need_cursors","begin_of","end_of"]
def MJ:Fr:=aK 62
theorem acx:MX MH MJ acw aa aa Cr aa aa aa MI 0:=aE
noncomputable def MK:ac:=["paper","cursors","texts","parts","behind","place","size","cursor","text","begin","end"]
noncomputable def ML:bv:=
 [.a 3 (.L []),
 .a 4 (.L []),
 .a 5 (.c<|.i 0),
 .a 6 (.c<|.i 0),
 .j [7,8] .z [.v 1,.v 2] [.a 9 (.l 0 [.v 7]),
  .a 10 (.l 1 [.v 7]),
  .d (.Y .e (.v 3) [(.L [(.T [(.c<|.s "keep"),(.b .Sub (.v 9)<|.v 5)]),(.T [(.c<|.s "put"),.v 8]),(.T [(.c<|.s "cut"),(.a 0 "part" (.v 0) [.v 9,.v 10])])])]),
  .a 6 (.b .Add (.b .Sub (.b .Add (.v 6)<|.v 9)<|.v 5)<|.t .l [.v 8]),
  .d (.Y .a (.v 4) [(.T [.v 6,.v 6,.c .a])]),
  .a 5 (.v 10)],
 .d (.Y .a (.v 3) [(.T [(.c<|.s "keep"),(.b .Sub (.a 1 "size" (.v 0) [])<|.v 5)])]),
 .r (.T [(.l 2 [.v 3]),(.l 3 [.v 4])])]
noncomputable def acy:ac:=["begin_of","end_of","neat","settled"]
def acz:ac:=["zip","len"]
def acA:ac:=["part","size"]
def MM:Fr:=aK 63
theorem acB:MX MK MM acy aa acz acA aa aa aa ML 0:=aE
noncomputable def MN:ac:=["paper","cursors","texts","text"]
noncomputable def MO:bv:=
 [.d (.l 0 [(.a 0 "size" (.v 0) []),.v 1]),
 .i (.o [(.n<|.G .l<|.v 2),(.p .NotEq (.t .l [.v 2])<|.t .l [.v 1])]) [.e 0 [(.c<|.s "there is one text for each cursor, in a list")]] [],
 .y 3 .l [.v 2] [.d<|.l 1 [.v 3]],
 .r (.l 2 [.v 0,.v 1,.v 2])]
noncomputable def acC:ac:=["need_cursors","need_text","enter"]
noncomputable def acD:ac:=["isinstance","list","len"]
def MP:Fr:=aK 64
theorem acE:MX MN MP acC aa acD vy aa Cz aa MO 0:=aE
noncomputable def MQ:ac:=["paper","cursors","word","full","one_by_one"]
noncomputable def MR:bv:=
 [.d (.l 0 [(.a 0 "size" (.v 0) []),.v 1]),
 .i (.n<|.l 1 [.v 2,.g 0]) [.e 0 [(.c<|.s "nothing is erased by this word")]] [],
 .sQ 3 (.C none [("paper",0),("word",2)] .l [.v 1] none<|.e (.l 2 [.v 0]) (.l 3 [.v 1,.v 0,.v 2,(.c<|.b true)])<|.v 0),
 .a 4 (.l 4 [.v 3]),
 .r (.l 5 [.v 0,.v 4,(.C none [] .l [.v 4] none (.c (.s "")))])]
noncomputable def WL:ac:=["need_cursors","is_word","is_empty","step","settled","enter"]
def acG:ac:=["ERASE_WORDS"]
def MS:Fr:=aK 65
theorem acH:MX MQ MS WL acG aa vy aa Cz aa MR 0:=λG=>have g:=G.toGood;(bD (B3<|gA g<|aW (vo g<|aQ g)<|aW (aQ g) bZ)<|bD (yg (IV<|BZ g<|gA g<|aW (aQ g)<|aW (IJ g) bZ) (bD (Jd G<|aW dW bZ) iD) iD)<|bD (B0 (ln:=["cursor"]) G (by kernel_rfl) (by kernel_rfl) (by kernel_rfl) (lT g<|aQ g) oC<|λY g=>(IP (BZ g<|gA g<|aW (aQ g) bZ) (gA g<|aW (aQ g)<|aW (aQ g)<|aW (aQ g)<|aW BW bZ)<|aQ g))<|bD (jn G<|gA g<|aW (aQ g) bZ)<|bD (lU<|gA g<|aW (aQ g)<|aW (aQ g)<|aW (sX (ln:=["cursor"]) g (by kernel_rfl) (lT g<|aQ g) oC<|λY g=>dW) bZ) iD)
def MT:Fr:=aK 67
theorem acI:MX sZ MT aa aa aa aa aa aa aa J_ 0:=aE
def MU:Fr:=aK 68
theorem acJ:MX sZ MU aa aa aa aa aa aa aa Ka 0:=aE
def MV:Fr:=aK 69
theorem acK:MX sZ MV aa aa aa aa aa aa aa Kb 0:=aE
def MW:Fr:=aK 70
theorem u2:MX Kc MW atI aa Ke aa aa aa aa Kd 0:=aE
def MZ:Fr:=aK 71
theorem acM:MX yr MZ Kg aa aa aa aa aa aa Kf 0:=aE
def M0:Fr:=aK 72
theorem Y2:MX yr M0 Kg aa aa aa aa aa aa Kh 0:=aE
def M1:Fr:=aK 73
theorem x8:MX vx M1 Z_ aa aa aa aa aa aa Ki 0:=aE
def M3:Fr:=aK 74
theorem U3:MX vx M3 aaa aa aa aa aa aa aa Kj 0:=aE
def M4:Fr:=aK 75
theorem D2:MX s_ M4 BU aa aa aa aa aa aa Kk 0:=aE
def M5:Fr:=aK 76
theorem acR:MX s_ M5 aac aa aa aa aa aa aa Kl 0:=aE
def M6:Fr:=aK 77
theorem acS:MX Km M6 aad aa aa aa aa aa aa Kn 0:=aE
def M7:Fr:=aK 78
theorem acT:MX Ko M7 aa aa aa Kq aa aa aa Kp 0:=aE
def M8:Fr:=aK 79
theorem acU:MX Cp M8 KE aa aa aa aa aa aa Kr 0:=aE
def M9:Fr:=aK 80
theorem Sl:MX Cq M9 Kt aa aa aa aa aa aa Ks 0:=aE
def M_:Fr:=aK 81
theorem acW:MX KS M_ aaw aa aa Kq aa aa aa KU 0:=aE
def Na:Fr:=aK 82
theorem acX:MX KW Na X3 aa aa aay aa aa aa KY 0:=aE
def Nb:Fr:=oK (aK 84) 0
theorem acY:MX oF Nb aa aa aa aa aa aa aa J6 0:=aE
def Nc:Fr:=oK (aK 84) 1
theorem Y6:MX Co Nc amX aa kD aa aa aa aa J7 0:=aE
def Nf:Fr:=oK (aK 84) 2
theorem ac0:MX J8 Nf Z8 aa kD aa aa vv aa J9 0:=aE
def Ng:Fr:=oK (aK 84) 4
theorem ac1:MX Ku Ng J4 aa aa aa aa aa aa Kv 0:=aE
def Nh:Fr:=oK (aK 84) 5
theorem ac2:MX KZ Nh aa aa aa aa aa aa aa K0 0:=aE
def Ni:Fr:=aK 86
theorem ac3:MX Kw Ni aaf aa kD aag aa aa aa Kx 0:=aE
def Nj:Fr:=aK 87
theorem ac4:MX Ky Nj aah aa aa aa aai aa aa Kz 0:=aE
def Nk:Fr:=aK 88
theorem YM:MX KA Nk aaj aa kD Cr aa aak aa KC 0:=aE
def Nl:Fr:=aK 89
theorem ac6:MX KD Nl Kt aa aa aal aa aa aa KG 0:=aE
def Nm:Fr:=oK (aK 90) 0
theorem N_:MX KH Nm aa aa aa aa aa aa aa KI 0:=aE
def Nn:Fr:=oK (aK 90) 1
theorem Ak:MX oF Nn aam aa aa aa aa aa aa KJ 0:=aE
def Np:Fr:=oK (aK 90) 2
theorem ac9:MX oF Np VC aa aa aa aa aa aa KL 0:=aE
def Nq:Fr:=oK (aK 90) 3
theorem ac_:MX oF Nq y1 aa aa aa aa aa aa KN 0:=aE
def Nr:Fr:=oK (aK 90) 6
theorem ada:MX KO Nr aap aa aa vy aa vv aa KP 0:=aE
def Nt:Fr:=oK (aK 90) 7
theorem adb:MX KQ Nt aaq aa aa aa aar aa aa KR 0:=aE
def Nu:Fr:=oK (aK 90) 8
theorem ade:MX K2 Nu aaz aa aa aa aa aa aa K3 0:=aE
def Nv:Fr:=oK (aK 90) 9
theorem AY:MX K4 Nv aaA aa aa aaB aa vv aa K5 0:=aE
def Nw:Fr:=oK (aK 90) 10
theorem adg:MX K6 Nw aaC aa aa EK aa vv aa K7 0:=aE
def Nx:Fr:=oK (aK 90) 11
theorem adh:MX K8 Nx aaE aa aa aaF aa vv aa K9 0:=aE
def Ny:Fr:=aK 92
theorem adi:MX JB Ny aa aa kD aa aa aa aa JC 0:=aE
def Nz:Fr:=aK 94
theorem adj:MX JD Nz aa aa aa aa aa aa aa JE 0:=aE
def NA:Fr:=aK 95
theorem adk:MX JF NA JH aa JI aa aa aa aa JG 0:=aE
def NB:Fr:=aK 96
theorem adl:MX JJ NB aa aa aa aa aa aa aa JK 0:=aE
def NC:Fr:=aK 97
theorem adm:MX JL NC JN aa Z2 aa aa aa aa JM 0:=aE
def ND:Fr:=aK 98
theorem yM:MX JO ND aa aa Z3 aa aa aa aa JP 0:=aE
def NF:Fr:=aK 99
theorem YI:MX JQ NF aqZ aa aa aa aa aa aa JR 0:=aE
noncomputable def zcJ:ac:=["_law_text_here","_law_change_here","_law_found","_law_at","_law_word","_law_thing"]
def NG:Fr:=aK 100
theorem adp:MX zcJ NG aa aa kD aa aa aa aa JS 0:=aE
def NH:Fr:=aK 101
theorem adq:MX LZ NH JH aa Ly aa aa aa aa CL 0:=aE
noncomputable def NI:ac:=["_law_script","_law_start","_law_size_here","_law_many","_law_found","_law_k","_law_cell"]
noncomputable def CO:bv:=
 [.a 3 (.b .Add (.c (.i 1)) (.b .Mod (.l 0 [.v 0,.v 1]) (.c (.i 6)))),
 .i (.p .Eq (.b .Mod (.b .FloorDiv (.l 0 [.v 0,.v 1])<|.c<|.i 6)<|.c<|.i 9)<|.c<|.i 1) [.a 3<|.c<|.i 40] [],
 .a 4 (.L []),
 .y 5 .g [.v 3] [.a 6 (.l 0 [.v 0,(.b .Add (.b .Add (.v 1) (.c (.i 1))) (.b .Mod (.v 5) (.c (.i 6))))]),
  .d (.Y .a (.v 4) [(.l 1 [(.b .Add (.l 2 [.v 6,(.b .FloorDiv (.v 5) (.c (.i 6)))]) (.v 5)),.v 2])])],
 .r (.v 4)]
noncomputable def ads:ac:=["_law_cell_at","_law_cursor","_law_mixed"]
def NJ:ac:=["range"]
def NK:Fr:=aK 102
theorem adt:MX NI NK ads aa NJ aa aa aa aa CO 0:=aE
noncomputable def XH:ac:=["_law_cursors","_law_groups","_law_begin","_law_end","_law_k","_law_is_near","_law_low","_law_high","_law_some","_law_found","_law_first"]
def jr:Fr:=aK 103
theorem Xi:MY XH jr aa aa tq aa aa aa aa jq 0 0:=by
 intro C B X G;have g:=G.toGood;show PS X (.Assign [.Name "_law_groups" _] _ _) (cO B<|.a 1 _)
 with_reducible exact(jn G<|qB bZ)
theorem adv:MY XH jr aa aa tq aa aa aa aa jq 0 1:=aE
theorem Ze:MY XH jr aa aa tq aa aa aa aa jq 0 2:=by
 intro C B X G;have g:=G.toGood;show PS X (.Assign [.Name "_law_found" _] _ _) (cO B<|.a 9 _)
 with_reducible exact(jn G<|qB bZ)
theorem adx:MY XH jr aa aa tq aa aa aa aa jq 0 3:=aE
theorem Wh:MY XH jr aa aa tq aa aa aa aa jq 0 4:=by
 intro C B X G;have g:=G.toGood;show PS X (.Return (some _) _) (cO B<|.r _)
 with_reducible exact(lU<|aQ g)
theorem adz:MX XH jr aa aa tq aa aa aa aa jq 0:=by
 intro C B X G;have e:fU jr=[c7 jr 0,c7 jr 1,c7 jr 2,c7 jr 3,c7 jr 4]:=by kernel_rfl
 have a:jq=[c8 jq 0,c8 jq 1,c8 jq 2,c8 jq 3,c8 jq 4]:=by kernel_rfl
 rw[e,a]
 with_reducible exact bD (Xi G) (bD (adv G)<|bD (Ze G)<|bD (adx G)<|bD (Wh G)<|iD)
noncomputable def NL:ac:=["_law_cell","_law_many","_law_numbers"]
noncomputable def NM:bv:=
 [.sQ 2 (.C none [("_law_cell",0)] .g [.v 1] none (.l 0 [.v 1,(.b .Add (.c (.i 30)) (.v 0))])),
 .r (.C none [] .l [.v 2] none (.l 1 [.v 0,(.i (.L [(.c (.i 0)),(.c (.i 1)),(.c (.i 1)),(.c (.i 2)),(.c (.i 4)),(.c (.i 0))]) (.b .Mod (.v 0) (.c (.i 6))))]))]
def NN:Fr:=aK 104
theorem adA:MX NL NN JN aa NJ aa aa aa aa NM 0:=λG=>have g:=G.toGood;(bD (B0 (ln:=["_law_k"]) G (by kernel_rfl) (by kernel_rfl) (by kernel_rfl) (IY g<|aQ g) oC<|λY g=>(gA g<|aW (aQ g)<|aW (mM g eI<|aQ g) bZ))<|bD (lU<|sX (ln:=["_law_number"]) g (by kernel_rfl) (lT g<|aQ g) oC<|λY g=>(gA g<|aW (aQ g)<|aW (qA g (qB<|aW eI<|aW eI<|aW eI<|aW eI<|aW eI<|aW eI bZ)<|mM g (aQ g) eI) bZ)) iD)
noncomputable def NO:ac:=["_law_paper","_law_cursors","_law_word","_law_found","_law_one"]
noncomputable def NP:bv:=
 [.a 3 (.L []),
 .y 4 .l [.v 1] [.i (.p .Eq (.i (.v 4)<|.c<|.i 0)<|.i (.v 4)<|.c<|.i 1) [.d<|.Y .a (.v 3) [(.i (.l 0 [.v 0,(.L [.v 4]),.v 2,(.c<|.b true)])<|.c<|.i 0)]] [.d<|.Y .a (.v 3) [.v 4]]],
 .r (.l 1 [.v 3])]
def adB:ac:=["all_stepped","_law_settled"]
def NQ:Fr:=aK 105
theorem adC:MX NO NQ adB aa aa aa aa aa aa NP 0:=aE
noncomputable def NR:ac:=["_law_paper","_law_cursors","_law_texts_here","_law_found","_law_k"]
noncomputable def NT:bv:=
 [.a 3 (.v 0),
 .y 4 .xR [(.b .Sub (.t .l [.v 1])<|.c<|.i 1),(.N<|.c<|.i 1),(.N<|.c<|.i 1)] [.a 3<|.a 0 "changed" (.v 3) [(.i (.l 0 [.v 3,(.L [(.i (.v 1)<|.v 4)]),(.L [(.i (.v 2)<|.v 4)])])<|.c<|.i 0)]],
 .r (.v 3)]
def adD:ac:=["entered"]
def AU:ac:=["changed"]
def NU:Fr:=aK 106
theorem adF:MX NR NU adD aa JI AU aa aa aa NT 0:=aE
noncomputable def NV:ac:=["_law_later","_law_cursors","_law_texts_here","_law_places","_law_put"]
noncomputable def NW:bv:=
 [.sQ 3 (.C none [] .l [.v 1] none (.i (.v 0) (.c (.i 1)))),
 .y 4 .l [.v 2] [.i (.p .Eq (.C none [("_law_put",4),("_law_later",0)] .l [.v 3] (some<|.p .Eq (.s (.v 2) (some<|.t .m [(.c<|.i 0),(.b .Sub (.v 0)<|.t .l [.v 1])])<|some<|.v 0)<|.v 1)<|.v 0)<|.L []) [.r<|.c<|.b false] []],
 .r (.p .Eq (.C none [] .l [.v 1] (some (.o [(.p .NotEq (.i (.v 0) (.c (.i 0))) (.i (.v 0) (.c (.i 1)))),(.p .IsNot (.i (.v 0) (.c (.i 2))) (.c .a))])) (.v 0)) (.L []))]
def NX:Fr:=aK 107
theorem adG:MX NV NX aa aa Lp aa aa aa aa NW 0:=λG=>have g:=G.toGood;(bD (B0 (ln:=["_law_one"]) G (by kernel_rfl) (by kernel_rfl) (by kernel_rfl) (lT g<|aQ g) oC<|λY g=>(qA g (aQ g) eI))<|bD (Ja G (lT g<|aQ g)<|bD (yg (sY g (sX (ln:=["_law_at"]) g (by kernel_rfl) (lT g<|aQ g) (BY λY g=>(sY g (IT g (aQ g) (BX<|qz g<|aW eI<|aW (mM g (aQ g)<|qz g<|aW (aQ g) bZ) bZ)<|BX<|aQ g)<|aQ g))<|λY g=>(aQ g))<|qB bZ) (bD (lU BW) iD) iD) iD)<|bD (lU<|qy g (sX (ln:=["_law_one"]) g (by kernel_rfl) (lT g<|aQ g) (BY λY g=>(PW.pt<|IX (sY g (qA g (aQ g) eI)<|qA g (aQ g) eI)<|IW<|sY g (qA g (aQ g) eI) sW))<|λY g=>(aQ g))<|qB bZ) iD)
noncomputable def iX:ac:=["_law_state","_law_texts_here","_law_cursors","_law_pair","_law_paper","_law_change_here","_law_places","_law_lost","_law_later"]
noncomputable def dj:bv:=
 [.a 4 (.D (.v 0) (.c (.s "paper"))),
 .sR [5,6] (.v 3),
 .a 7 (.t .s [(.C none [] .l [(.l 0 [.v 4,.v 2])] none<|.t .l [.v 0])]),
 .a 8 (.a 0 "changed" (.v 4) [.v 5]),
 .i (.o [(.p .NotEq (.a 1 "text" (.v 8) [])<|.a 1 "text" (.l 1 [.v 4,.v 2,.v 1]) []),(.p .NotEq (.a 1 "text" (.v 4) [])<|.D (.v 0)<|.c<|.s "text")]) [.r<|.c<|.b false] [],
 .i (.p .NotEq (.a 2 "size" (.v 8) [])<|.b .Add (.b .Sub (.a 2 "size" (.v 4) [])<|.v 7)<|.t .s [(.C none [] .l [.v 1] none<|.t .l [.v 0])]) [.r<|.c<|.b false] [],
 .i (.o [(.p .NotEq (.a 1 "text" (.v 8) [])<|.l 2 [(.D (.v 0)<|.c<|.s "text"),.v 5]),(.p .NotEq (.a 1 "text" (.a 0 "changed" (.v 8) [(.l 3 [.v 5])]) [])<|.D (.v 0)<|.c<|.s "text")]) [.r<|.c<|.b false] [],
 .i (.n<|.l 4 [(.a 1 "text" (.v 8) []),.v 6,.v 1]) [.r<|.c<|.b false] [],
 .t (.v 0) (.c<|.s "paper") (.v 8),
 .t (.v 0) (.c<|.s "text") (.a 1 "text" (.v 8) []),
 .t (.v 0) (.c<|.s "cursors") (.v 6),
 .r (.p .Is (.l 5 [(.a 2 "size" (.v 8) []),.v 6]) (.c .a))]
noncomputable def js:ac:=["taken","_law_one_by_one","_law_done","back","_law_at_places","need_cursors"]
def jt:ac:=["sum","len"]
noncomputable def ju:ac:=["changed","text","size"]
def dm:Fr:=aK 108
theorem adH:MY iX dm js aa jt ju aa aa aa dj 0 0:=by
 intro C B X G;have g:=G.toGood;show PS X (.Assign [.Name "_law_paper" _] _ _) (cO B<|.a 4 _)
 with_reducible exact(jn G<|lS g (aQ g) dW)
theorem adI:MY iX dm js aa jt ju aa aa aa dj 0 1:=aE
theorem adJ:MY iX dm js aa jt ju aa aa aa dj 0 2:=by
 intro C B X G;have g:=G.toGood;show PS X (.Assign [.Name "_law_lost" _] _ _) (cO B<|.a 7 _)
 with_reducible exact(jn G<|qz g<|aW (sX (ln:=["_law_one"]) g (by kernel_rfl) (lT g<|gA g<|aW (aQ g)<|aW (aQ g) bZ) oC<|λY g=>(qz g (aW (aQ g) bZ) (hq:=by kernel_rfl))) bZ)
theorem adK:MY iX dm js aa jt ju aa aa aa dj 0 3:=by
 intro C B X G;have g:=G.toGood;show PS X (.Assign [.Name "_law_later" _] _ _) (cO B<|.a 8 _)
 with_reducible exact(jn G<|ye g (aQ g)<|aW (aQ g) bZ)
theorem adL:MY iX dm js aa jt ju aa aa aa dj 0 4:=aE
theorem adM:MY iX dm js aa jt ju aa aa aa dj 0 5:=aE
theorem Bf:MY iX dm js aa jt ju aa aa aa dj 0 6:=aE
theorem adO:MY iX dm js aa jt ju aa aa aa dj 0 7:=aE
theorem adP:MY iX dm js aa jt ju aa aa aa dj 0 8:=aE
theorem wK:MY iX dm js aa jt ju aa aa aa dj 0 9:=aE
theorem adR:MY iX dm js aa jt ju aa aa aa dj 0 10:=aE
theorem adS:MY iX dm js aa jt ju aa aa aa dj 0 11:=by
 intro C B X G;have g:=G.toGood;show PS X (.Return (some _) _) (cO B<|.r _)
 with_reducible exact(lU<|qy g (gA g<|aW (vo g<|aQ g)<|aW (aQ g) bZ) sW)
theorem adT:MX iX dm js aa jt ju aa aa aa dj 0:=by
 intro C B X G;have e:fU dm=[c7 dm 0,c7 dm 1,c7 dm 2,c7 dm 3,c7 dm 4,c7 dm 5,c7 dm 6,c7 dm 7,c7 dm 8,c7 dm 9,c7 dm 10,c7 dm 11]:=by kernel_rfl
 have a:dj=[c8 dj 0,c8 dj 1,c8 dj 2,c8 dj 3,c8 dj 4,c8 dj 5,c8 dj 6,c8 dj 7,c8 dj 8,c8 dj 9,c8 dj 10,c8 dj 11]:=by kernel_rfl
 rw[e,a]
 with_reducible exact bD (adH G) (bD (adI G)<|bD (adJ G)<|bD (adK G)<|bD (adL G)<|bD (adM G)<|bD (Bf G)<|bD (adO G)<|bD (adP G)<|bD (wK G)<|bD (adR G)<|bD (adS G)<|iD)
noncomputable def jw:ac:=["_law_state","_law_cell","_law_paper","_law_cursors","_law_more","_law_texts_here","_law_word","_law_wide_here","_law_change_here"]
noncomputable def dC:bv:=
 [.a 2 (.D (.v 0) (.c (.s "paper"))),
 .a 3 (.D (.v 0)<|.c<|.s "cursors"),
 .a 4 (.l 0 [.v 1,(.c<|.i 8)]),
 .i (.p .Lt (.b .Mod (.v 1) (.c (.i 5))) (.c (.i 2))) [.a 5 (.l 1 [.v 1,(.t .l [.v 3])]),
  .r (.l 2 [.v 0,.v 5,.v 3,(.l 3 [.v 2,(.t .t [.v 3]),(.t .t [.v 5])])])] [],
 .i (.p .Eq (.b .Mod (.v 1) (.c (.i 5))) (.c (.i 2))) [.a 6 (.i (.L [(.c (.s "left")),(.c (.s "right")),(.c (.s "back")),(.c (.s "on")),(.c (.s "home")),(.c (.s "end"))]) (.b .Mod (.v 4) (.c (.i 6)))),
  .a 7 (.l 4 [.v 2,.v 3,.v 6]),
  .r (.l 2 [.v 0,(.b .Mult (.L [(.c (.s ""))]) (.t .l [.v 7])),.v 7,(.l 5 [.v 2,(.t .t [.v 3]),.v 6])])] [],
 .i (.p .Eq (.b .Mod (.v 1) (.c (.i 5))) (.c (.i 3))) [.a 6 (.i (.L [(.c (.s "left")),(.c (.s "right")),(.c (.s "up")),(.c (.s "down")),(.c (.s "home")),(.c (.s "end")),(.c (.s "top")),(.c (.s "bottom")),(.c (.s "back")),(.c (.s "on"))]) (.b .Mod (.v 4) (.c (.i 10)))),
  .t (.v 0) (.c<|.s "cursors") (.l 6 [.v 2,(.t .t [.v 3]),.v 6,(.p .Gt (.b .Mod (.b .FloorDiv (.v 4)<|.c<|.i 10)<|.c<|.i 3)<|.c<|.i 0)]),
  .r (.p .Is (.l 7 [(.a 0 "size" (.v 2) []),(.D (.v 0) (.c (.s "cursors")))]) (.c .a))] [],
 .a 8 (.l 8 [.v 1,(.D (.v 0)<|.c<|.s "text"),(.b .Mod (.v 4)<|.c<|.i 9)]),
 .t (.v 0) (.c<|.s "cursors") (.l 9 [.v 8,.v 3]),
 .t (.v 0) (.c<|.s "paper") (.a 1 "changed" (.v 2) [.v 8]),
 .t (.v 0) (.c<|.s "text") (.l 10 [(.D (.v 0)<|.c<|.s "text"),.v 8]),
 .r (.d [(.p .Is (.l 7 [(.t .l [(.D (.v 0) (.c (.s "text")))]),(.D (.v 0) (.c (.s "cursors")))]) (.c .a)),(.p .Eq (.a 2 "text" (.D (.v 0) (.c (.s "paper"))) []) (.D (.v 0) (.c (.s "text"))))])]
noncomputable def jV:ac:=["_law_mixed","_law_texts","_law_entered","entered","_law_wide","erased","all_stepped","need_cursors","_law_change","carried","_law_done"]
def jW:ac:=["len","list"]
noncomputable def jX:ac:=["size","changed","text"]
def dD:Fr:=aK 109
theorem adU:MY jw dD jV aa jW jX aa aa aa dC 0 0:=by
 intro C B X G;have g:=G.toGood;show PS X (.Assign [.Name "_law_paper" _] _ _) (cO B<|.a 2 _)
 with_reducible exact(jn G<|lS g (aQ g) dW)
theorem adV:MY jw dD jV aa jW jX aa aa aa dC 0 1:=by
 intro C B X G;have g:=G.toGood;show PS X (.Assign [.Name "_law_cursors" _] _ _) (cO B<|.a 3 _)
 with_reducible exact(jn G<|lS g (aQ g) dW)
theorem adW:MY jw dD jV aa jW jX aa aa aa dC 0 2:=by
 intro C B X G;have g:=G.toGood;show PS X (.Assign [.Name "_law_more" _] _ _) (cO B<|.a 4 _)
 with_reducible exact(jn G<|gA g<|aW (aQ g)<|aW eI bZ)
theorem adX:MY jw dD jV aa jW jX aa aa aa dC 0 3:=aE
theorem adY:MY jw dD jV aa jW jX aa aa aa dC 0 4:=aE
theorem adZ:MY jw dD jV aa jW jX aa aa aa dC 0 5:=λG=>have g:=G.toGood;(yg (sY g (mM g (aQ g) eI) eI) (bD (jn G<|qA g (qB<|aW dW<|aW dW<|aW dW<|aW dW<|aW dW<|aW dW<|aW dW<|aW dW<|aW dW<|aW dW bZ)<|mM g (aQ g) eI)<|bD (I_ G (gA g<|aW (aQ g)<|aW (qz g<|aW (aQ g) bZ)<|aW (aQ g)<|aW (qy g (mM g (mM g (aQ g) eI) eI) eI) bZ) (aQ g) dW)<|bD (lU<|qy g (gA g<|aW (vo g<|aQ g)<|aW (lS g (aQ g) dW) bZ) sW) iD) iD)
theorem Y1:MY jw dD jV aa jW jX aa aa aa dC 0 6:=by
 intro C B X G;have g:=G.toGood;show PS X (.Assign [.Name "_law_change_here" _] _ _) (cO B<|.a 8 _)
 with_reducible exact(jn G<|gA g<|aW (aQ g)<|aW (lS g (aQ g) dW)<|aW (mM g (aQ g) eI) bZ)
theorem ad1:MY jw dD jV aa jW jX aa aa aa dC 0 7:=aE
theorem ad2:MY jw dD jV aa jW jX aa aa aa dC 0 8:=aE
theorem ad3:MY jw dD jV aa jW jX aa aa aa dC 0 9:=aE
theorem U2:MY jw dD jV aa jW jX aa aa aa dC 0 10:=by
 intro C B X G;have g:=G.toGood;show PS X (.Return (some _) _) (cO B<|.r _)
 with_reducible exact(lU<|IM (qy g (gA g<|aW (qz g<|aW (lS g (aQ g) dW) bZ)<|aW (lS g (aQ g) dW) bZ) sW)<|IL<|qy g (vo g<|lS g (aQ g) dW)<|lS g (aQ g) dW)
theorem ad5:MX jw dD jV aa jW jX aa aa aa dC 0:=by
 intro C B X G;have e:fU dD=[c7 dD 0,c7 dD 1,c7 dD 2,c7 dD 3,c7 dD 4,c7 dD 5,c7 dD 6,c7 dD 7,c7 dD 8,c7 dD 9,c7 dD 10]:=by kernel_rfl
 have a:dC=[c8 dC 0,c8 dC 1,c8 dC 2,c8 dC 3,c8 dC 4,c8 dC 5,c8 dC 6,c8 dC 7,c8 dC 8,c8 dC 9,c8 dC 10]:=by kernel_rfl
 rw[e,a]
 with_reducible exact bD (adU G) (bD (adV G)<|bD (adW G)<|bD (adX G)<|bD (adY G)<|bD (adZ G)<|bD (Y1 G)<|bD (ad1 G)<|bD (ad2 G)<|bD (ad3 G)<|bD (U2 G)<|iD)
noncomputable def NY:ac:=["_law_script","_law_text_here","_law_state","_law_first","_law_cell"]
noncomputable def NZ:bv:=
 [.a 1 (.l 0 [(.l 1 [.v 0,(.c (.i 1))]),(.l 2 [(.l 1 [.v 0,(.c (.i 0))])])]),
 .a 2 (.x tw [(.c<|.s "paper"),(.l 3 [.v 1]),(.c<|.s "text"),.v 1,(.c<|.s "cursors"),(.l 4 [(.l 5 [.v 0,(.c<|.i 2),(.t .l [.v 1])])])]),
 .a 3 (.D (.v 2)<|.c<|.s "paper"),
 .y 4 .l [(.s (.v 0) (some<|.c<|.i 9)<|some<|.c<|.i 19)] [.i (.o [(.n<|.l 6 [.v 2,.v 4]),(.p .NotEq (.a 0 "text" (.D (.v 2)<|.c<|.s "paper") [])<|.D (.v 2)<|.c<|.s "text")]) [.r<|.c<|.b false] []],
 .r (.p .Eq (.a 0 "text" (.v 3) []) (.v 1))]
noncomputable def FB:ac:=["_law_text","_law_cell_at","_law_size","paper_of","_law_settled","_law_drawn","_law_deed"]
def ad7:ac:=["text"]
def N1:Fr:=aK 110
theorem ad8:MX NY N1 FB aa kD ad7 aa aa aa NZ 0:=aE
def gB(H I:Hp):Prop:= ∀b Y,H b=some (.t Y)->I b=some (.t Y)
theorem aR(h:aq H I):gB H I:=λb Y e=>h b _ e
theorem Xo(h:H p=none):aq H (upd H p o):=λb u e=>by rw[av<|a_ e h];exact e
theorem eL(h:H p=none)(z:upd H p o=I):aq H I:=z ▸ Xo h
theorem eM(z:upd H p o=I):I p=some o:=z ▸ au
def aH(c:D9)(H I:Hp):Prop:= ∀b o,H b=some o->b≠c->I b=some o
theorem aH.upd:aH c H (upd H c o):=λb u e n=>by rw[av n];exact e
theorem aH.trans(a:aH c H f)(b:aH c f L):aH c H L:=λd o e n=>b d o (a d o e n) n
theorem sameBut(a:aq H f)(b:aH c f L):aH c H L:=λd o e n=>b d o (a d o e) n
theorem mQ(a:aq H f)(h:H c=none)(b:aH c f L):aq H L:=λd o e=>b d o (a d o e) (a_ e h)
theorem aH.cf(h:aH c H I)(a:H c=some (.l Y)):gB H I:=λb y e=>h b _ e (λz=>by rw[z,a] at e;cases e)
theorem iF{c:Fk}{B:Prop}(q:B)(h:autoParam (c=false) ee):if c=true then A else B:=by
 rw[h];exact lM q
theorem iT{c:Fk}{B:Prop}(q:A)(h:autoParam (c=true) ee):if c=true then A else B:=by
 rw[h];exact iq q
inductive Pt where|k (n:Int)|p (s:Str)|c (s:Str)
 deriving DecidableEq
noncomputable def Pt.word:Pt->Str|.k _=> "keep" |.p _=> "put" |.c _=> "cut"
noncomputable def Pt.val:Pt->V|.k n=>.i n|.p s=>.s s|.c s=>.s s
def kJ(H:Hp)(v:V)(p:Pt):Prop:= ∃a,v=.r a/\H a=some (.t [.s p.word,p.val])
abbrev aX(H:Hp):ad->List Pt->Prop:=Paired (kJ H)
theorem kJ.mono(t:gB H I)(h:kJ H v p):kJ I v p:=by
 obtain⟨a,e,h⟩:=h;exact⟨a,e,t _ _ h⟩
theorem aX.mono(t:gB H I):∀{U:ad}{p:List Pt},aX H U p->aX I U p:=by
 intro Y Y h;exact Paired.fJ h λY Y x=>x.mono t
theorem aX.get{H:Hp}:∀{U:ad}{s:List Pt}{i:Nat}{v:V},aX H U s->U[i]?=some v->∃p,s[i]?=some p/\kJ H v p:=by
 intro Y Y i v h;induction h generalizing i with
 |nil=>intro e;simp at e
 |cons x Y c=>
  intro e;cases i with
  |zero=>simp at e;subst e;exact⟨_,O,x⟩
  |succ i=>
   obtain⟨p,a,b⟩:=c (by simpa using e);exact⟨p,by simpa using a,b⟩
theorem aX.snoc{s:List Pt}{p:Pt}(h:aX H U s)(q:kJ H v p):aX H (U++[v]) (s++[p]):=UF h q
theorem aX.dropLast:∀{U:ad}{p:List Pt},aX H U p->aX H U.dropLast p.dropLast:=by
 intro Y Y h;induction h with
 |nil=>exact .nil
 |cons x k i=>
  cases k with
  |nil=>exact .nil
  |cons Y Y=>exact .cons x i
noncomputable def vE(w a:Str):Fk:=w !=a && !(a=="cut" && w=="put")
inductive N2(U:ad)(H:Hp)(Q:VK)(E:XK):Prop|i(w a:_)(_:U=[.s w,.s a])(_:Q (.b<|vE w a) H)
abbrev aP(K:Frag)(E:XK):aV:=aA K [] [] (E:=E)
theorem ad9{K:Frag}(U:ad)(H:Hp)(Q:VK)(E:XK)(h:N2 U H Q E):aw (aP K E) Jm {nx:=λY I=>Q .a I,r:=Q} (ZQ Jl U) H:=by
 obtain⟨w,a,rfl,q⟩:=h;refine⟨_,O,_,O,_,O,?_⟩;delta vE at q;refine cT (λh=>?_)<|λh=>?_;rw[VR,ie] at h;have e:(w !=a)=true:=h;rw[e] at q;refine⟨_,O,_,O,?_⟩;refine cT (λc=>?_)<|λc=>?_;rw[YN,ie] at c;rw[c] at q;refine⟨_,O,?_⟩;show Q (.b<|!(false ^^ decide (V.s w=V.s "put"))) H;rw[YN,ie];exact q;rw[YN,ie] at c;have d:(a=="cut")=false:=by simpa using c
 rw[d] at q;exact q;rw[VR,ie] at h;have e:(w !=a)=false:=by simpa using h
 rw[e] at q;exact q
noncomputable def vF:Pt->Int|.k n=>n|.p s=>s.length|.c s=>s.length
def CQ:Pt->Prop|.k _=>True|.p s=>s.length<=1000000|.c s=>s.length<=1000000
theorem bQ(h:n<=1000000):n<=sizeLine:=Ut h ax
theorem bR(h:n<=1000000):n<sizeLine:=Nat.lt_of_le_of_lt h ax
inductive oO(U:ad)(H:Hp)(Q:VK)(E:XK):Prop|i(v p:_)(_:U=[v])(_:kJ H v p)(_:CQ p)(_:Q (.i<|vF p) H)
theorem ad_{K:Frag}(U:ad)(H:Hp)(Q:VK)(E:XK)(h:oO U H Q E):aw (aP K E) Jq {nx:=λY I=>Q .a I,r:=Q} (ZQ Ci U) H:=by
 obtain⟨v,p,rfl,⟨a,rfl,b⟩,o,q⟩:=h;refine qF _ O (.inr<|.inl ⟨_,_,_,_,O,O,aM.of b,O,_,O,?_⟩);rw[YN,ie];cases p with
 |k n=>exact iq (qF _ O (.inr<|.inl ⟨_,_,_,_,O,O,aM.of b,O,q⟩))
 |p s=>exact lM (qF _ O (.inr<|.inl ⟨_,_,_,_,O,O,aM.of b,O,bQ o,q⟩))
 |c s=>exact lM (qF _ O (.inr<|.inl ⟨_,_,_,_,O,O,aM.of b,O,bQ o,q⟩))
def cell(n:sK)(k:Nat):Int:=n.getD k 0
inductive qM(K:Frag)(U:ad)(H:Hp)(Q:VK)(E:XK):Prop|i(a:D9)(n:sK)(k:Int)(_:U=[.r a,.i k])(_:ak K H a (n.map V.i))(_:0<=k)(_:Q (.i<|cell n k.toNat) H)
theorem Zb{K:Frag}(U:ad)(H:Hp)(Q:VK)(E:XK)(h:qM K U H Q E):aw (aP K E) JC {nx:=λY I=>Q .a I,r:=Q} (ZQ JB U) H:=by
 obtain⟨a,n,k,rfl,b,c,q⟩:=h;refine rL _ O _ O (.inl (rE _ b trivial _ O ?_));rw[VH];refine cT (λh=>?_)<|λh=>?_;have F:k< (n.length:Int):=KF h;refine rL _ O _ O (.inl (qZ _ _ _ _ O O b ?_ q));have e:=gu (xs:=n.map V.i) (j:=k.toNat) (v:=.i (cell n k.toNat)) (by
  have:k.toNat<n.length:=by lia
  simp[cell,this])
 rw[show((k.toNat:Nat):Int)=k by lia] at e;exact e;have N:¬k< (n.length:Int):=λz=>h (ZA z);have e:cell n k.toNat=0:=by
  have z:n[k.toNat]?=none:=List.getElem?_eq_none_iff.mpr al;delta cell;rw[List.getD_eq_getElem?_getD,z];rfl
 rw[e] at q;exact q
theorem CS:(0:Int) <1000003:=by decide
noncomputable def mixed(c k:Int):Int:=let n:=(c*48271+7919*k+11) % 1000003;n*n % 1000003*n % 1000003
inductive kN(U:ad)(H:Hp)(Q:VK)(E:XK):Prop|i(c k:_)(_:U=[.i c,.i k])(_:Q (.i<|mixed c k) H)
theorem aeb{K:Frag}(U:ad)(H:Hp)(Q:VK)(E:XK)(h:kN U H Q E):aw (aP K E) JE {nx:=λY I=>Q .a I,r:=Q} (ZQ JD U) H:=by
 obtain⟨c,k,rfl,q⟩:=h;have b:∀z:Int,0<=z % 1000003/\z % 1000003<1000003:=λz=>⟨Yo _ ax,Vy _ ax⟩;have e:=b (c*48271+7919*k+11);have d:=b ((c*48271+7919*k+11) % 1000003* ((c*48271+7919*k+11) % 1000003));refine⟨_,O,.inr ⟨ax,ax⟩,_,O,.inl ⟨ax,ax⟩,CS,?_⟩;refine⟨_,O,_,O,.inl ⟨al,al⟩,CS,_,O,.inl ⟨al,al⟩,CS,?_⟩;exact q
theorem CU(c k:Int):0<=mixed c k/\mixed c k<1000003:=⟨Yo _ ax,Vy _ ax⟩
noncomputable def SG:Str:=" !\"#$&'()*+,-./0123456789:;<=>?@ABCDEFGHIJKLMNOPQRSTUVWXYZ[\\]^_`abcdefghijklmnopqrstuvwxyz{|}~\n"
def good(x:Str):Prop:=x.length<=1000000/\∀c∈x.cps.toList,SG.cps.contains c=true
theorem ahP{a:Type}(p:a->Fk):∀l:List a,(∀c∈l,p c=true)->l.takeWhile p=l:=by
 intro l;induction l with
 |nil=>
  rintro Y;exact O
 |cons c l i=>
  rintro h;rw[g4,h c Yz,i λd b=>h d (N4 _ b)];rfl
theorem aec(x y:Str)(h:∀c∈x.cps.toList,y.cps.contains c=true):Txt.lstripChars x y="":=by
 have b:stripLo y.cps.contains true x=x.length:=by
  delta stripLo;rw[GT O,ahP _ _ h];simp[Str.length]
 have a:stripHi y.cps.contains false x x.length=x.length:=O;delta Txt.lstripChars Txt.stripBy stripSame stripped;rw[b,a];split;rename_i q;simp only[Xg,Wp] at q;have:x.cps= #[]:=VG q.1;obtain⟨c⟩:=x;have e:c= #[]:=this;subst e;rfl;show(⟨x.cps.extract x.length x.length⟩:Str)=_;have:x.cps.extract x.length x.length= #[]:=by simp[Str.length]
 rw[this];rfl
theorem CV(h:H a=some (.t Y))(q:k (c==.t)):bS c (.r a) H k:=by
 show(match H a with|some (.l _)=>k (c==.l)|some (.b _<|.l _)=>k (c==.l)|some (.t _)=>k (c==.t)|some (.d _)=>k (c==.d)|some (.T _)=>k (c==.d)|_=>False);rw[h];exact q
theorem CW(h:H a=some (.l Y))(q:k (c==.l)):bS c (.r a) H k:=by
 show(match H a with|some (.l _)=>k (c==.l)|some (.b _<|.l _)=>k (c==.l)|some (.t _)=>k (c==.t)|some (.d _)=>k (c==.d)|some (.T _)=>k (c==.d)|_=>False);rw[h];exact q
abbrev auM:n6:=[("SIGNS",.s SG)]
inductive C6(U:ad)(H:Hp)(Q:VK)(E:XK):Prop|i(x:_)(_:U=[.s x])(_:good x)(_:Q (.b true) H)
abbrev aY(K:Frag)(E:XK):aV:=aA K [] auM (E:=E)
theorem aee{K:Frag}(U:ad)(H:Hp)(Q:VK)(E:XK)(h:C6 U H Q E):aw (aY K E) Cg {nx:=λY I=>Q .a I,r:=Q} (ZQ iE U) H:=by
 obtain⟨x,rfl,c,q⟩:=h;refine⟨_,O,O,_,O,iq ⟨_,O,O,bQ c.1,?_⟩⟩;show Q (.b<|false ^^ decide (V.s (Txt.lstripChars x SG)=V.s "")) H;rw[aec x SG c.2,ZA O];exact q
def fh:Pt->Prop|.k n=>1<=n|.p s=>good s/\s≠"" |.c s=>good s/\s≠""
inductive aef(K:Frag)(U:ad)(H:Hp)(Q:VK)(E:XK):Prop|i(w p Y:_)(_:U=[.s w,.r p])(_:aM K H p Y)(_:Y.all iS=true)(_:Q (.b<|e7 (.s w) Y) H)
theorem aeg{K:Frag}(U:ad)(H:Hp)(Q:VK)(E:XK)(h:aef K U H Q E):aw (aP K E) Cf {nx:=λZ I=>Q .a I,r:=Q} (ZQ Ce U) H:=by
 obtain⟨w,p,Y,rfl,b,f,q⟩:=h;exact⟨_,O,O,_,O,iq (rL _ O _ O ⟨p,Y,O,.inr b,O,f,q⟩)⟩
inductive CY(U:ad)(H:Hp)(Q:VK)(E:XK):Prop|i(v p:_)(_:U=[v])(_:kJ H v p)(_:fh p)(_:∀I,aq H I->Q (.b true) I)
def ZP:Str->List Pt->Fk
 |_,[]=>true
 |a,p::r=>vE p.word a && ZP p.word r
noncomputable def qO(a:Str)(s:List Pt):Nat->Str
 | 0=>a
 |i+1=>match s[i]? with|some p=>p.word|none=> ""
theorem N3:∀(s:List Pt)(a:Str)(i:Nat)(p:Pt),ZP a s=true->s[i]?=some p->vE p.word (qO a s i)=true:=by
 intro s;induction s with
 |nil=>intro a i p _ h;simp at h
 |cons q r t=>
  intro a i p h e;simp only[ZP,Xg] at h;cases i with
  |zero=>simp at e;subst e;exact h.1
  |succ i=>
   have b:=t q.word i p h.2 (by simpa using e);cases i with
   |zero=>simpa[qO] using b
   |succ i=>simpa[qO] using b
abbrev aeh:io:=[("is_part",CY),("may_follow",N2)]
inductive yF(U:ad)(H:Hp)(Q:VK)(E:XK):Prop|i(a Y s:_)(_:U=[.r a])(_:H a=some (.l Y))(_:aX H Y s)(_:(∀p∈s,fh p))(_:ZP "" s=true)(_:∀I,aq H I->Q .a I)
abbrev bE(K:Frag)(et:o0)(E:XK):aV:=aA K aeh [] (et:=et) (E:=E)
theorem aei{K:Frag}(U:ad)(H:Hp)(Q:VK)(E:XK)(h:yF U H Q E):aw (bE K et E) Jp {nx:=λZ I=>Q .a I,r:=Q} (ZQ Jo U) H:=by
 obtain⟨a,Y,f,rfl,l,t,B,o,q⟩:=h;refine qT _ O O (CW l (tY _ O a O (qY _ (ak.of l)) (ic (K:=K) (a:=a) (xs:=Y) (λi J L=>∃v,J=[some (.r a),some (.s (qO "" f i)),v]/\aq H L) (qF none O (aq.refl _))
  (by rintro i J L _ ⟨_,_,d⟩;exact ak.of (d _ _ l)) ?_ ?_)))
 rintro i x J L m ⟨v,rfl,d⟩;obtain⟨p,j,G⟩:=t.get m;obtain⟨b,rfl,k⟩:=G.mono (aR d);refine qF _ O ⟨_,p,O,qF b O k,B p<|zG j,λu g=>?_⟩;refine qF _ O (.inr<|.inl ⟨_,_,_,_,O,O,aM.of<|g _ _ k,O,_,O,p.word,_,O,?_⟩);have e:=N3 f "" i p o j;show(λc y=>if (!c)=true then _ else _) (vE p.word<|qO "" f i) u;rw[e];refine qF _ O (.inr<|.inl ⟨_,_,_,_,O,O,aM.of<|g _ _ k,O,some<|.r b,?_,d.trans g⟩);show[some<|V.r a,some<|V.s p.word,some<|V.r b]=_;have n:qO "" f (i+1)=p.word:=by simp only[qO,j]
 rw[n];rintro J L ⟨v,rfl,d⟩;exact q L d
def Uz(s:List Pt):sK:=(s.filter λp=>decide (p.word≠ ("put":Str))).map vF
def aej(s:List Pt):sK:=(s.filter λp=>decide (p.word≠ ("cut":Str))).map vF
abbrev akE:io:=[("need_change",yF),("part_size",oO)]
inductive CZ(U:ad)(H:Hp)(Q:VK)(E:XK):Prop|i(a Y s:_)(_:U=[.r a])(_:H a=some (.l Y))(_:aX H Y s)(_:(∀p∈s,fh p))(_:ZP "" s=true)(_:s.length<=1000000)(_:∀t I,aq H I->I t=some (.t [.i (Uz s).sum,.i (aej s).sum])->Q (.r t) I)
theorem C0(h:fh p):CQ p:=by
 cases p with
 |k n=>trivial
 |p s=>exact h.1.1
 |c s=>exact h.1.1
theorem aek{a:Type}(p:a->Fk)(l:List a)(i:Nat)(v:a)(h:l[i]?=some v):(l.take<|i+1).filter p=(l.take i).filter p++(if p v then [v] else []):=by
 rw[Wb,h,YF];cases b:p v<;>simp[b]
abbrev b0(K:Frag)(E:XK):aV:=aA K akE [] (E:=E)
theorem ael{K:Frag}(U:ad)(H:Hp)(Q:VK)(E:XK)(h:CZ U H Q E):aw (b0 K E) Js {nx:=λ_ I=>Q .a I,r:=Q} (ZQ Jr U) H:=by
 obtain⟨a,Y,g,rfl,j,y,M,cK,D,q⟩:=h;refine qF _ O ⟨a,Y,g,O,j,y,M,cK,λk n=>?_⟩;have hl:=Id y;have f:∀(w:Str)(k:Hp)(z:VK)(J:St),aq H k->J[0]?=some (some<|.r a)->
   (∀b L,aq H L->L b=some (.l<|((g.filter λp=>decide (p.word≠w)).map vF).map V.i)->z (.r b) L)->
   ag (b0 K E) (.C none [] .l [.v 0] (some<|.p .NotEq (.i (.v 0)<|.c<|.i 0)<|.c<|.s w)<|.l 1 [.v 0]) J k z:=by
  intro w k z J n u T;refine uK _ u a O (qY _ (ak.of<|n _ _ j)) (λi m A L=>m=Y.length - i/\i<=Y.length/\aq H L/\A=(((g.take i).filter λp=>decide (p.word≠w)).map vF).map V.i) (tG _ O (Wy _) n O) ?_;rintro i m A L ⟨rfl,hi,d,rfl⟩;by_cases F:i<Y.length;refine .inr ⟨rP Y (Y[i]) (ak.of<|d _ _ j) (by simp[F]),?_⟩;rintro x H3 ⟨rfl,R⟩;have Z:=R Y (ak.of<|d _ _ j);obtain⟨p,o,P⟩:=y.get Z;obtain⟨b,rfl,G⟩:=P.mono (aR d);refine qF _ O (.inr<|.inl ⟨_,_,_,_,O,O,aM.of G,O,_,O,?_⟩);rw[VR,ie];have B:=aek (λp=>decide<|p.word≠w) g i p o;have W:((g.take i).filter λp=>decide (p.word≠w)).length<=1000000:=Ut (U5 _ _) (Ut (List.length_take_le _ _) al);refine cT (λh=>?_)<|λh=>?_;have e:decide (p.word≠w)=true:=by simpa using h
  refine qF _ O ⟨_,p,O,qF b O G,C0<|M p<|zG o,?_,Y.length - (i+1),al,O,F,d,?_⟩;rw[VH,VH];exact bR W;rw[B,e];simp;have e:decide (p.word≠w)=false:=by simpa using h
  refine uO (Y.length - (i+1)) al O F d ?_;rw[B,e];simp;have X:i=Y.length:=cV hi (ZK F)
  subst X;refine .inl ⟨qF Y (ak.of<|d _ _ j) (mZ _),λp o=>?_⟩;have e:g.take Y.length=g:=Vo al;rw[e];exact T p _ (d.trans<|Xo o) au
 refine Je<|Jf<|Jg<|f "put" k _ _ n O λb1 L d e2=>qF _ (ak.of e2) ?_;refine Je<|Jf<|Jg<|f "cut" L _ _ d O λb2 H3 N e3=>qF _ (ak.of e3) ?_;refine tY _ O _ O c_ (λt S=>?_);exact q t _ (N.trans<|Xo S) au
def qE(t:ac):Str:=Txt.join "" t
def sz(t:ac):Nat:=(t.map Str.length).sum
theorem Ec:(Str.ofString "")=⟨#[]⟩:=O
theorem qP(s:ac):(qE s).cps.toList=(s.map λt=>t.cps.toList).flatten:=by
 have e:(Str.ofString "").cps= #[]:=O;cases s with
 |nil=>rfl
 |cons t r=>
  show(r.foldl (λa p=>a++(Str.ofString "").cps++p.cps) t.cps).toList=_;rw[e];have g:∀(r:ac)(a:xz),(r.foldl (λa p=>a++ #[]++p.cps) a).toList=a.toList++(r.map λt=>t.cps.toList).flatten:=by
   intro r;induction r with
   |nil=>intro a;simp
   |cons q r i=>
    intro a;show(r.foldl (λa p=>a++ #[]++p.cps)<|a++ #[]++q.cps).toList=_;rw[i];simp
  rw[g];simp
theorem iY(h:x.cps.toList=y.cps.toList):x=y:=by
 obtain⟨x⟩:=x;obtain⟨y⟩:=y;exact IR Str.mk<|Array.toList_inj.mp h
theorem XE(x y:Str):(x++y).cps.toList=x.cps.toList++y.cps.toList:=by
 show(x.cps++y.cps).toList=_;simp
theorem N5(a b:ac):qE (a++b)=qE a++qE b:=iY (by rw[XE,qP,qP,qP];simp)
theorem N6(x:Str):qE [x]=x:=iY (by rw[qP];simp)
theorem aem:qE []="":=O
theorem Wj(x:Str):x.length=x.cps.toList.length:=by simp[Str.length]
theorem yG(t:ac):(qE t).length=sz t:=by
 rw[Wj,qP,List.length_flatten];delta sz;rw[Ti];congr 1
theorem N7(x:Str):x++(Str.ofString "")=x:=iY (by rw[XE];simp[Ec])
theorem tD(x:Str):(Str.ofString "")++x=x:=iY (by rw[XE];simp[Ec])
theorem N8(a b:ac):sz (a++b)=sz a+sz b:=by simp[sz]
theorem X7{s:ac}(h:sz s<=1000000):JoinOk "" s=true:=by
 have g:∀(l:ac)(n:Nat),l.foldl (· + ·.length+(Str.ofString "").length) n=n+sz l:=by
  intro l;induction l with
  |nil=>intro n;rfl
  |cons t r i=>
   intro n;show r.foldl _ (n+t.length+0)=_;rw[i];show n+t.length+0+sz r=n+(t.length+sz r);lia
 delta JoinOk;have e:s.toArray.foldl (· + ·.length+(Str.ofString "").length) 0=sz s:=by
  rw[List.foldl_toArray,g,VI]
 rw[e];show(!decide (sz s>sizeLine))=true;rw[XZ (by have:=bQ h;exact oY this)];rfl
noncomputable def txt(m:Str->Pt)(x:Str):List Pt:=if x="" then [] else [m x]
def cH(h:List Pt)(A P:ac):List Pt:=h++txt .p (qE A)++txt .c (qE P)
inductive jY(U:ad)(H:Hp)(Q:VK)(E:XK):Prop|i(c p q Y b A P:_)(_:U=[.r c,.r p,.r q])(_:H c=some (.l Y))(_:aX H Y b)(_:H p=some (.l<|A.map .s))(_:H q=some (.l<|P.map .s))(_:sz A<=1000000)(_:sz P<=1000000)(_:b.length<=900000)(_:∀I j,aH c H I->I c=some (.l j)->aX I j (cH b A P)->Q .a I)
theorem anL{K:Frag}(U:ad)(H:Hp)(Q:VK)(E:XK)(h:jY U H Q E):aw (aP K E) Jw {nx:=λ_ I=>Q .a I,r:=Q} (ZQ Jv U) H:=by
 obtain⟨c,p,q,Y,F,A,P,rfl,hc,S,hp,hq,C8,z,hl,k⟩:=h;have M:=Id S;refine tR O _ O ⟨A,ak.of hp,X7 C8,?_⟩;refine tR O _ O ⟨P,ak.of hq,X7 z,?_⟩;have W:∀(i:Nat)(w x:Str)(n:Str->Pt)(f:Hp)(j:ad)(R:List Pt)(J:St)(D:Xt),(∀y,(n y).word=w/\(n y).val=.s y)->f c=some (.l j)->aX f j R->R.length<=950000->J[0]?=some (some<|.r c)->J[i]?=some (some<|.s x)->
   (∀L m,aH c f L->L c=some (.l m)->aX L m (R++txt n x)->D.nx J L)->
   cO (aP K E) (.i (.p .NotEq (.v i)<|.c<|.s "") [.d<|.Y .a (.v 0) [(.T [(.c<|.s w),.v i])]] []) D J f:=by
  intro i w x n f j R J D V g u oA h0 N G;have a':=Id u;refine⟨_,N,_,O,?_⟩;rw[VR,ie];refine cT (λh=>?_)<|λh=>?_;have ne:x≠"":=by simpa using h
  refine rE _ h0 (.inl ⟨O,qY _ (ak.of g)⟩) _ N ⟨c_,λt B=>?_⟩;have Z:c≠t:=a_ g B;refine qT j (by rw[av Z];exact g) (bR al) (G _ (j++[.r t]) ((sameBut (Xo B) aH.upd)) au ?_);have X:gB f (upd (upd f t<|.t [.s w,.s x]) c<|.l<|j++[.r t]):=(sameBut (Xo B) aH.upd).cf g;delta txt;rw[GM ne];refine aX.snoc (u.mono X) (qF t O ?_);rw[av Z.symm,au,(V x).1,(V x).2];have e:x="":=by simpa using h
  refine G f j (λb o e _=>e) g ?_;delta txt;rw[GT e,YS];exact u
 refine W 3 "put" (qE A) .p H Y F _ _ (λ_=>⟨O,O⟩) hc S (Ut hl (VJ _ _)) O O λL m b2 nW C=>?_;have l2:(F++txt .p (qE A)).length<=950000:=by
  rw[Zw];have:(txt .p<|qE A).length<=1:=by delta txt;split<;>simp
  lia
 refine W 4 "cut" (qE P) .c L m _ _ _ (λ_=>⟨O,O⟩) nW C l2 O O λH3 qQ b3 C9 tF=>?_;exact k H3 qQ (b2.trans b3) C9 tF
noncomputable def dE(c:List Pt)(n:Int):List Pt:=match c.getLast? with
 |some (.k m)=>c.dropLast++[.k<|n+m]
 |_=>c++[.k n]
inductive Oa(U:ad)(H:Hp)(Q:VK)(E:XK):Prop|i(c n Y p:_)(_:U=[.r c,.i n])(_:H c=some (.l Y))(_:aX H Y p)(_:p.length<=900000)(_:∀I j,aH c H I->I c=some (.l j)->aX I j (dE p n)->Q .a I)
theorem aX.last{s:List Pt}(h:aX H Y s)(n:Y.length≠0):∃v p,Y[Y.length - 1]?=some v/\di Y (-1)=some v/\s.getLast?=some p/\kJ H v p:=by
 have a:Y.length - 1<Y.length:=by lia
 obtain⟨p,c,b⟩:=h.get (i:=Y.length - 1) (v:=Y[Y.length - 1]) (by simp[a]);refine⟨Y[Y.length - 1],p,by simp[a],?_,?_,b⟩;delta di ij;have:¬(0:Int)<= -1:=by decide
 rw[GM this,GT al];have e:((-1:Int)+(Y.length:Int)).toNat=Y.length - 1:=by lia
 show Y[((-1:Int)+(Y.length:Int)).toNat]?=_;rw[e];simp[a];rw[List.getLast?_eq_getElem?,<-Id h];exact c
theorem aeq{K:Frag}(U:ad)(H:Hp)(Q:VK)(E:XK)(h:Oa U H Q E):aw (aP K E) Ju {nx:=λW I=>Q .a I,r:=Q} (ZQ Jt U) H:=by
 obtain⟨c,n,Y,g,rfl,f,j,A,k⟩:=h;have G:=Id j;have w:∀(m:Int)(q:Hp)(x:ad)(R:List Pt),aH c H q->q c=some (.l x)->aX q x R->R.length<=900000->dE g n=R++[.k m]->
   aw (aP K E) [.d<|.Y .a (.v 0) [(.T [(.c<|.s "keep"),.v 1])]] {nx:=λW I=>Q .a I,r:=Q} [some<|.r c,some<|.i m] q:=by
  intro m q x R P u F V e;have S:=Id F;refine rE _ O (.inl ⟨O,qY _ (ak.of u)⟩) _ O ⟨c_,λt y=>?_⟩;have Z:c≠t:=a_ u y;refine qT x (by rw[av Z];exact u) (bR al) (k _ (x++[.r t]) (P.trans<|sameBut (Xo y) aH.upd) au ?_);rw[e];refine aX.snoc (F.mono<|(sameBut (Xo y) aH.upd).cf u) ⟨t,O,?_⟩;rw[av Z.symm,au];rfl
 refine qF _ O (.inl (rE _ (ak.of f) trivial _ O ?_));refine cT (λh=>?_)<|λh=>?_;have J:Y.length≠0:=by
  have:=KF h;lia
 obtain⟨v,p,M,L,D,a,rfl,C⟩:=j.last J;refine qF _ O (.inl (qZ _ _ _ _ O O (ak.of f) L (.inr<|.inl ⟨_,_,_,_,O,O,aM.of C,O,_,O,?_⟩)));rw[YN,ie];cases p with
 |k m=>
  have B:upd H c (.l Y.dropLast) a=some (.t [.s "keep",.i m]):=by rw[av<|se C f (by intro z;cases z)];exact C
  refine tY _ O _ O (.inl ⟨O,qY _ (ak.of f)⟩) ⟨Y,_,f,M,.inr<|.inl ⟨_,_,_,_,O,O,aM.of B,O,?_⟩⟩;refine w (n+m) _ Y.dropLast g.dropLast aH.upd au (j.dropLast.mono<|aH.upd.cf f) (by rw[mJ];exact Ut (Z7 _ _) A) ?_;delta dE;rw[D]
 |p s=>exact w n H Y g (λb o e W=>e) f j A (by delta dE;rw[D])
 |c s=>exact w n H Y g (λb o e W=>e) f j A (by delta dE;rw[D])
 have N:g=[]:=by
  have:¬(0:Int) < (Y.length:Int):=λz=>h (ZA z);exact oZ.mp al
 exact w n H Y g (λb o e W=>e) f j A (by rw[N];rfl)
abbrev NS:=List Pt×ac×ac
def bT:NS->Pt->NS
 |(h,p,c),.p s=>(h,p++[s],c)
 |(h,p,c),.c s=>(h,p,c++[s])
 |(h,p,c),.k n=>if 0<n then (dE (cH h p c) n,[],[]) else (h,p,c)
def mS(p:List Pt):List Pt:=let s:=p.foldl bT ([],[],[]);cH s.1 s.2.1 s.2.2
noncomputable def dX:Pt->Nat|.k _=>0|.p s=>s.length|.c s=>s.length
def aG(p:List Pt):Nat:=(p.map dX).sum
theorem C_(p:List Pt)(i:Nat):aG (p.take i)<=aG p:=by
 have:aG p=aG (p.take i)+aG (p.drop i):=by
  delta aG;rw[<-X8,<-Xn,Yq]
 lia
theorem Ob{s:List Pt}(h:s[i]?=some p):aG (s.take<|i+1)=aG (s.take i)+dX p:=by
 rw[Wb,h];simp[aG]
theorem Oc{c a:Type}{f:a->c->a}{b:a}{l:List c}{p:c}(h:l[i]?=some p):(l.take<|i+1).foldl f b=f ((l.take i).foldl f b) p:=by
 rw[Wb,h,VW];rfl
theorem lW(m:Str->Pt)(x:Str):(txt m x).length<=1:=by delta txt;split<;>simp
theorem yI(h:List Pt)(p c:ac):(cH h p c).length<=h.length+2:=by
 delta cH;have:=lW .p (qE p);have:=lW .c (qE c);simp only[Zw];lia
theorem Dc(c:List Pt)(n:Int):(dE c n).length<=c.length+1:=by
 delta dE;split;simp only[Zw,mJ,Xv];exact Ue (Z7 _ _) _;simp
abbrev Du:io:=[("add_texts",jY),("add_keep",Oa)]
inductive yJ(U:ad)(H:Hp)(Q:VK)(E:XK):Prop|i(a Y p:_)(_:U=[.r a])(_:H a=some (.l Y))(_:aX H Y p)(_:p.length<=200000)(_:aG p<=100000)(_:∀b I y,aq H I->H b=none->I b=some (.l y)->aX I y (mS p)->Q (.r b) I)
inductive Od(a c:D9)(H:Hp)(b:List Pt)(i:Nat)(J:St)(L:Hp):Prop|i(p q:D9)(h:List Pt)(A P:ac)(m:ad)(w x:ld)(_:J=[some<|.r a,some<|.r c,some<|.r p,some<|.r q,w,x])(_:H p=none)(_:H q=none)(_:p≠c)(_:q≠c)(_:p≠q)(_:aq H L)(_:L c=some (.l m))(_:aX L m h)(_:L p=some (.l<|A.map .s))(_:L q=some (.l<|P.map .s))(_:(b.take i).foldl bT ([],[],[])=(h,A,P))(_:h.length<=3*i)(_:A.length<=i)(_:P.length<=i)(_:sz A+sz P<=aG (b.take i)):Od a c H b i J L
abbrev b4(K:Frag)(E:XK):aV:=aA K Du [] (E:=E)
theorem Wg{K:Frag}(U:ad)(H:Hp)(Q:VK)(E:XK)(h:yJ U H Q E):aw (b4 K E) Jy {nx:=λ_ I=>Q .a I,r:=Q} (ZQ Jx U) H:=by
 obtain⟨a,Y,g,rfl,ha,bp,hl,ht,k⟩:=h;have g':=Id bp;refine⟨Wy _,λc m=>⟨Wy _,λW R=>⟨Wy _,λN G=>?_⟩⟩⟩;have Dd:c≠W:=λz=>by rw[<-z,au] at R;cases R
 have Oe:c≠N:=λz=>by rw[<-z,av Dd,au] at G;cases G
 have Of:W≠N:=λz=>by rw[<-z,au] at G;cases G
 have s0:aq H (upd (upd (upd H c<|.l []) W<|.l []) N<|.l []):=(Xo m).trans ((Xo R).trans<|Xo G);have e':H W=none:=(Xo m).free R;have d':H N=none:=((Xo m).trans<|Xo R).free G;refine tY _ O a O (qY _ (ak.of (s0 _ _ ha))) (ic (K:=K) (a:=a) (xs:=Y) (Od a c H g)
 ⟨W,N,[],[],[],[],none,none,O,e',d',Dd.symm,Oe.symm,Of,s0,(by rw[av Oe,av Dd,au]),.nil,(by rw[av Of,au];rfl),au,O,ap,ap,ap,by simp[sz]⟩
  (by rintro i J L _ ⟨_,_,_,_,_,_,_,_,_,_,_,_,_,_,f,_,_,_,_,_,_,_,_,_⟩;exact ak.of (f _ _ ha)) ?_ ?_)
 rintro i x J L hi ⟨p,q,d,A,P,T,w,x',rfl,fp,Z,S,D,y,f,v,C,j,o,ef,l1,l2,l3,l4⟩;obtain⟨pt,fY,iG⟩:=bp.get hi;obtain⟨b,rfl,hb⟩:=iG.mono (aR f);have cp:i<g.length:=(ZX.mp fY).1;have oR:(g.take<|i+1).foldl bT ([],[],[])=bT (d,A,P) pt:=by rw[Oc fY,ef]
 have et:=Ob fY;have tb:=C_ g i;refine tH b _ O (.inl<|aM.of hb) O _ _ O _ _ O O ?_;cases pt with
 |p s=>
  refine⟨_,O,_,O,_,O,.inl ⟨O,_,ak.of j⟩,_,O,_,j,bR (by rw[VH];lia),?_⟩;have t:aH p L (upd L p<|.l<|A.map V.s++[.s s]):=aH.upd;refine⟨p,q,d,A++[s],P,T,_,_,O,fp,Z,S,D,y,mQ f fp t,t _ _ v S.symm,C.mono<|t.cf j,(by rw[au,Xn];rfl),t _ _ o y.symm,oR,(TX l1),by simp;exact l2,(ZU l3),?_⟩;rw[N8,et];show sz A+(s.length+0)+sz P<=aG (g.take i)+s.length;lia
 |c s=>
  refine⟨_,O,_,O,_,O,_,O,_,O,.inl ⟨O,_,ak.of o⟩,_,O,_,o,bR (by rw[VH];lia),?_⟩;have t:aH q L (upd L q<|.l<|P.map V.s++[.s s]):=aH.upd;refine⟨p,q,d,A,P++[s],T,_,_,O,fp,Z,S,D,y,mQ f Z t,t _ _ v D.symm,C.mono<|t.cf o,t _ _ j y,(by rw[au,Xn];rfl),oR,(TX l1),(ZU l2),by simp;exact l3,?_⟩;rw[N8,et];show sz A+(sz P+(s.length+0))<=aG (g.take i)+s.length;lia
 |k n=>
  refine⟨_,O,_,O,_,O,_,O,_,O,trivial,_,O,?_⟩;refine cT (λh=>?_)<|λh=>?_;have hn:0<n:=KF h;have e2:bT (d,A,P) (.k n)=(dE (cH d A P) n,[],[]):=GT hn;refine sV _ O _ O _ O ⟨c,p,q,T,d,A,P,O,v,C,j,o,al,al,al,λu F b3 yK De=>?_⟩;have s3:aq H u:=mQ f m b3;refine⟨Wy _,λB dR=>⟨Wy _,λM X=>?_⟩⟩;have Df:c≠B:=a_ yK dR;have Og:upd u B (.l []) c=some (.l F):=by rw[av Df];exact yK
  have Dg:c≠M:=a_ Og X;have Oh:B≠M:=λz=>by rw[<-z,au] at X;cases X
  have c':upd (upd u B<|.l []) M (.l []) c=some (.l F):=by rw[av Dg];exact Og
  have s5:aq u (upd (upd u B<|.l []) M<|.l []):=(Xo dR).trans (Xo X);refine rL _ O _ O ⟨c,n,F,_,O,c',De.mono<|aR s5,?_,λH6 a' b6 b' f'=>?_⟩;have:=yI d A P;lia;refine⟨B,M,_,[],[],a',_,_,O,s3.free dR,(s3.trans<|Xo dR).free X,Df.symm,Dg.symm,Oh,mQ (s3.trans s5) m b6,b',f',b6 _ _ (by rw[av Oh,au];rfl) Df.symm,b6 _ _ (by rw[au];rfl) Dg.symm,oR.trans e2,?_,ap,ap,by simp[sz]⟩;have:=yI d A P;have:=Dc (cH d A P) n;lia;have hn:¬0<n:=λz=>h (ZA z);have e2:bT (d,A,P) (.k n)=(d,A,P):=GM hn;refine⟨p,q,d,A,P,T,_,_,O,fp,Z,S,D,y,f,v,C,j,o,oR.trans e2,(TX l1),(ZU l2),(ZU l3),al⟩
 rintro J L ⟨p,q,d,A,P,T,w,x',rfl,fp,Z,S,D,y,f,v,C,j,o,ef,l1,l2,l3,l4⟩;have e:g.take Y.length=g:=Vo al;rw[e] at ef l4;refine sV _ O _ O _ O ⟨c,p,q,T,d,A,P,O,v,C,j,o,al,al,al,λu F b3 yK De=>?_⟩;refine qF _ O (k c u F (mQ f m b3) m yK ?_);delta mS;rw[ef];exact De
def A1:Str:=" !\"#$&'()*+,-./0123456789:;<=>?@ABCDEFGHIJKLMNOPQRSTUVWXYZ[\\]^_`"
def A2:Str:="abcdefghijklmnopqrstuvwxyz{|}~\n"
def A3:Str:="ab\n"
def yL(a:Str):Prop:=0<a.length/\a.length<=1000/\∀c∈a.cps.toList,SG.cps.contains c=true
theorem Oi(h:(decide (0<a.length) && decide (a.length<=1000) && a.cps.toList.all λc=>SG.cps.contains c)=true):yL a:=by
 simp only[Xg,IO,i4] at h;exact⟨h.1.1,h.1.2,h.2⟩
theorem aeA:yL (A1++A2):=Oi (by decide+kernel)
theorem al3:yL A3:=Oi (by decide+kernel)
theorem aeC:A1.length+A2.length<=sizeLine:=by decide+kernel
abbrev Oj:io:=[("_law_mixed",kN)]
inductive tI(U:ad)(H:Hp)(Q:VK)(E:XK):Prop|i(c n:_)(_:U=[.i c,.i n])(_:0<=n)(_:n<=1000)(_:∀x I,good x->x.length=n.toNat->aq H I->Q (.s x) I)
def Dh(t:Str):Prop:=t.length=1/\∀c∈t.cps.toList,SG.cps.contains c=true
theorem Di:∀(s:ac),(∀t∈s,Dh t)->sz s=s.length:=by
 intro l;induction l with
 |nil=>
  rintro Y;exact O
 |cons t r i=>
  rintro h;show t.length+sz r=r.length+1;rw[(h t Yz).1,i λq a=>h q (N4 _ a)];exact Xz _ _
theorem aeD{s:ac}(h:∀t∈s,Dh t)(b:s.length<=1000):good (qE s):=by
 refine⟨by rw[yG,Di s h];exact Ut b (VJ _ _),λc a=>?_⟩;rw[qP,List.mem_flatten] at a;obtain⟨l,b,a⟩:=a;obtain⟨t,d,rfl⟩:=Zv.mp b;exact(h t d).2 c a
abbrev cA(K:Frag)(E:XK):aV:=aA K Oj [] (E:=E)
theorem aeE{K:Frag}(U:ad)(H:Hp)(Q:VK)(E:XK)(h:tI U H Q E):aw (cA K E) JG {nx:=λP I=>Q .a I,r:=Q} (ZQ JF U) H:=by
 obtain⟨c,n,rfl,N,S,k⟩:=h;have R:∀(f:Str),yL f->aw (cA K E) [.r<|.Y .j (.c<|.s "") [(.C none [("_law_some",2),("_law_cell",0)] .g [.v 1] none<|.i (.v 1)<|.b .Mod (.b .FloorDiv (.l 0 [.v 2,.v 0])<|.c<|.i 7)<|.t .l [.v 1])]]
   {nx:=λP I=>Q .a I,r:=Q} [some<|.i c,some<|.i n,some<|.s f] H:=by
  intro f q;refine tR O _ O ⟨n,O,al,al,λi m y L=>m=n.toNat - i/\i<=n.toNat/\L=H/\∃o:ac,y=o.map V.s/\o.length=i/\∀t∈o,Dh t,tG _ O (Wy _) O ⟨[],O,O,λt u=>by cases u⟩,?_⟩;rintro i m y L ⟨rfl,Z,rfl,o,rfl,B,T⟩;by_cases F:i<n.toNat;refine .inr ⟨F,?_⟩;rintro x H3 ⟨rfl,rfl⟩;refine sV _ O _ O _ O ⟨_,_,O, ⟨ax,ax⟩,_,O,bQ (by have:=q.2.1;exact Ut this (VJ _ _)),(by show(0:Int) < (f.length:Int);have:=q.1;lia),?_⟩;have X:=CU c (0+(i:Int));have w:0<=mixed c (0+(i:Int)) / 7 % (f.length:Int):=Yo _ (by have:=q.1;lia);have M:mixed c (0+(i:Int)) / 7 % (f.length:Int) < (f.length:Int):=Vy _ (by have:=q.1;lia);obtain⟨j,D⟩:∃j,j=mixed c (0+(i:Int)) / 7 % (f.length:Int):=⟨_,O⟩;rw[<-D] at w M;have A:j.toNat<f.cps.toList.length:=by rw[<-Wj];lia
  refine .inr<|.inr<|.inl ⟨f,j,f.cps.toList[j.toNat],O,(by rw[D]),bQ (by have:=q.2.1;exact Ut this (VJ _ _)),?_,?_,n.toNat - (i+1),al,O,F,O,o++[⟨#[f.cps.toList[j.toNat]]⟩],(by rw[Xn];rfl),by simp[B],?_⟩;have e:=gu (xs:=f.cps.toList) (j:=j.toNat) (v:=f.cps.toList[j.toNat]) (by simp[A]);rw[show((j.toNat:Nat):Int)=j by lia] at e;exact e;rw[VH];exact bR al;intro t u;rcases U6.mp u with z|z
  exact T t z;rw[jS.mp z];refine⟨O,λd J=>?_⟩;have:d=f.cps.toList[j.toNat]:=by simpa using J
  rw[this];exact q.2.2 _<|Ua A;have W:i=n.toNat:=cV Z (ZK F)
  refine .inl ⟨by show n.toNat<=i;exact ZK F,λp G=>?_⟩;refine qT o (ak.of au) (X7 (by rw[Di o T];lia)) ?_;exact k (qE o) _ (aeD T al) (by rw[yG,Di o T,B,W])<|Xo G
 refine⟨_,O,aeC,_,O,(by show(0:Int) <3;decide),_,O,?_⟩;refine cT (λh=>?_)<|λh=>?_;exact R A3 al3;exact R (A1++A2) aeA
def eN:Pt->Prop|.k n=>0<=n|.p s=>good s/\s.length<=100000|.c s=>good s/\s.length<=100000
abbrev Xw:=Str×Str×Int
abbrev ul:=List Xw
noncomputable def kO(r:Xw):ad:=[.s r.1,.s r.2.1,.i r.2.2]
def Ol(H:Hp)(v:V)(r:Xw):Prop:= ∃b,v=.r b/\H b=some (.l<|kO r)
abbrev qS(H:Hp):ad->ul->Prop:=Paired (Ol H)
theorem qS.mono:∀{U:ad}{p:ul},qS H U p->(∀v∈U,∀b,v=.r b->∀o,H b=some o->I b=some o)->qS I U p:=by
 intro Y Y h;induction h with
 |nil=>exact λY=>.nil
 |cons x Y i=>
  obtain⟨b,e,h⟩:=x;exact λk=>.cons ⟨b,e,k _ Yz b e _ h⟩<|i λv a=>k v (N4 _ a)
theorem qS.get{H:Hp}:∀{U:ad}{s:ul}{i:Nat}{v:V},qS H U s->U[i]?=some v->∃p,s[i]?=some p/\Ol H v p:=by
 intro Y Y i v h;induction h generalizing i with
 |nil=>intro e;simp at e
 |cons x Y c=>
  intro e;cases i with
  |zero=>simp at e;subst e;exact⟨_,O,x⟩
  |succ i=>
   obtain⟨p,a,b⟩:=c (by simpa using e);exact⟨p,by simpa using a,b⟩
noncomputable def aZ:ul×Xw->Pt->ul×Xw
 |(e,r),.k n=>(e,(r.1,r.2.1,r.2.2+n))
 |(e,r),.p s=>if s="" then (e,r) else if 0<r.2.2 then (e++[r],(Str.ofString ""++s,"",0)) else (e,(r.1++s,r.2.1,r.2.2))
 |(e,r),.c s=>if s="" then (e,r) else if 0<r.2.2 then (e++[r],("",Str.ofString ""++s,0)) else (e,(r.1,r.2.1++s,r.2.2))
def dY(r:Xw):List Pt:=txt .p r.1++txt .c r.2.1++(if r.2.2=0 then [] else [.k r.2.2])
def cB(r:ul):List Pt:=(r.map dY).flatten
def tJ(p:List Pt):ul:=let s:=p.foldl aZ ([],("","",0));s.1++[s.2]
def iZ(p:List Pt):List Pt:=cB (tJ p)
structure j4(H L:Hp)(R:D9)(rs:ad)(b:D9)(pre:ul)(r:Xw):Prop where
 same:aq H L
 lst:L R=some (.l<|rs++[.r b])
 fr:H R=none
 c:qS L rs pre
 last:L b=some (.l<|kO r)
 fb:H b=none
 bP:∀v∈rs,∀x,v=.r x->H x=none/\x≠b/\x≠R
 ne:b≠R
theorem vH(Y:ad)(v:V):di (Y++[v]) (-1)=some v:=agQ Y v
theorem j4.set{b:D9}{s:ad}{r:Xw}(S:j4 H L R s b p r):j4 H (upd L b<|.l<|kO r') R s b p r' where
 same:=mQ S.same S.fb aH.upd
 lst:=by rw[av S.ne.symm];exact S.lst
 fr:=S.fr
 c:=S.c.mono λv a x e o h=>by rw[av (S.bP v a x e).2.1];exact h
 last:=au
 fb:=S.fb
 bP:=S.bP
 ne:=S.ne
theorem j4.grow{b:D9}{s:ad}{r:Xw}(S:j4 H L R s b d r)(a:L t=none):
  j4 H (upd (upd L t<|.l<|kO r') R<|.l<|s++[.r b]++[.r t]) R (s++[.r b]) t (d++[r]) r':=by
 have N:t≠R:=λz=>by rw[z,S.lst] at a;cases a
 have D:b≠t:=a_ S.last a;have k:∀x o,L x=some o->x≠R->upd (upd L t<|.l<|kO r') R (.l<|s++[.r b]++[.r t]) x=some o:=λx o e n=>by rw[av n,av<|a_ e a];exact e
 exact {
  same:=λx o e=>k x o (S.same x o e) (a_ e S.fr)
  lst:=au
  fr:=S.fr
  c:=UF (S.c.mono λv f x e o h=>k x o h (S.bP v f x e).2.2) ⟨b,O,k b _ S.last S.ne⟩
  last:=by rw[av N,au]
  fb:=S.same.free a
  bP:=λv f x e=>by
   rcases U6.mp f with z|z
   obtain⟨w,A,u⟩:=S.bP v z x e;refine⟨w,λq=>?_,u⟩;obtain⟨i,m⟩:=List.getElem?_of_mem z;obtain⟨p,Y,y,j,g⟩:=S.c.get m;rw[e] at j;cases j;rw[q,a] at g;cases g;rw[jS.mp z] at e;cases e;exact⟨S.fb,D,S.ne⟩
  ne:=N}
abbrev Dn(Q:VK):Xt:={nx:=λ_ I=>Q .a I,r:=Q}
abbrev bw(s:Sp)(B:XK->aV)(b:bv)(N:ac):Prop:= ∀U H Q E,s U H Q E->aw (B E) b (Dn Q) (ZQ N U) H
inductive Om(U:ad)(H:Hp)(Q:VK)(E:XK):Prop|i(a Y p:_)(_:U=[.r a])(_:H a=some (.l Y))(_:aX H Y p)(_:p.length<=100000)(_:aG p<=100000)(_:∀b I y,aq H I->H b=none->I b=some (.l y)->aX I y (iZ p)->Q (.r b) I)
theorem yO{K:Frag}{b:D9}{j:ad}{e:ul}{r l:Xw}{w s:Str}(S:j4 H L R j b e r)(i:Nat)(A:i<2)(q:(if (w=="cut")=true then 1 else 0:Int)=(i:Int))(o:Str)(z:(kO r)[i]?=some (.s o))(y:(kO r).set i (.s<|o++s)=kO l)(u:o.length+s.length<=sizeLine)(k:∀n,j4 H n R j b e l->D.nx [some<|.r a,some<|.r R,some<|.s w,some<|.s s,h,g,f,d,x] n):
  cO (aP K E) (.s (.i (.v 1)<|.N<|.c<|.i 1) (.t .i [(.p .Eq (.v 2)<|.c<|.s "cut")])<|.b .Add (.i (.i (.v 1)<|.N<|.c<|.i 1)<|.t .i [(.p .Eq (.v 2)<|.c<|.s "cut")])<|.v 3) D
   [some<|.r a,some<|.r R,some<|.s w,some<|.s s,h,g,f,d,x] L:=by
 have T:ak K L b (kO r):=ak.of S.last;have m:(if (false ^^ decide (V.s w=V.s "cut"))=true then 1 else 0:Int)=(i:Int):=by rw[YN,ie];exact q
 refine qF _ O (.inl (qZ _ _ _ _ O O (ak.of S.lst) (vH _ _) ⟨_,O,?_⟩));show oo K (aP K E).sd (.r b) (.i (if (false ^^ decide (V.s w=V.s "cut"))=true then 1 else 0)) L _;rw[m];refine .inl (qZ b _ _ _ O O T (gu z) ⟨_,O,u,_,O,.inl (qZ _ _ _ _ O O (ak.of S.lst) (vH _ _) ⟨_,O,?_⟩)⟩);show xv (.r b) (.i (if (false ^^ decide (V.s w=V.s "cut"))=true then 1 else 0)) (.s<|o++s) L _;rw[m];refine qZ b (kO r) (i:Int) i O O S.last ?_ ?_;delta ij;rw[GT (YK _),GT (by show(i:Int) < ((3:Nat):Int);lia)];simp;rw[y];exact k _ S.set
theorem aeG{s:ul}{r:Xw}(h:s[i]?=some r):cB (s.take<|i+1)=cB (s.take i)++dY r:=by
 delta cB;rw[Wb,h];simp
theorem Oo{K:Frag}{b:D9}{r:Xw}{w s:Str}{C B y:ld}(S:j4 H L R q b f r)(p:Pt)(x:(p=.p s/\w="put")\/(p=.c s/\w="cut"))(W:s.length<=100000)(T:r.1.length<=100000)(Q:r.2.1.length<=100000)(P:q.length<=100000)(k:∀g U V,j4 H g R U V (aZ (f,r) p).1 (aZ (f,r) p).2->U.length<=q.length+1->D.nx [some<|.r a,some<|.r R,some<|.s w,some<|.s s,F,C,B,A,y] g):
  aw (aP K E) [.i (.p .NotEq (.v 3) (.c (.s ""))) [.i (.p .Gt (.i (.i (.v 1) (.N (.c (.i 1)))) (.c (.i 2))) (.c (.i 0))) [.d (.Y .a (.v 1) [(.L [(.c (.s "")),(.c (.s "")),(.c (.i 0))])])] [],
    .s (.i (.v 1) (.N (.c (.i 1)))) (.t .i [(.p .Eq (.v 2) (.c (.s "cut")))]) (.b .Add (.i (.i (.v 1) (.N (.c (.i 1)))) (.t .i [(.p .Eq (.v 2) (.c (.s "cut")))])) (.v 3))] []] D
   [some<|.r a,some<|.r R,some<|.s w,some<|.s s,F,C,B,A,y] L:=by
 refine⟨_,O,_,O,?_⟩;rw[VR,ie];refine cT (λh=>?_)<|λh=>?_;have u:s≠"":=by simpa using h
 refine qF _ O (.inl (qZ _ _ _ _ O O (ak.of S.lst) (vH _ _) (.inl ⟨_,_,_,_,O,O,ak.of S.last,O,trivial,_,O,?_⟩)));have l:∀n:Nat,n<=100000->n+s.length<=sizeLine:=λn P=>bQ al;have I:(Str.ofString "").length=0:=O;refine cT (λh=>?_)<|λh=>?_;have o:0<r.2.2:=KF h;refine tG _ O (.inl ⟨O,qY _ (ak.of S.lst)⟩) eE (λt G=>?_);have M:R≠t:=a_ S.lst G;refine qT _ (by rw[av M];exact S.lst) (bR (by rw[Zw,Xv];lia)) ?_;have J:=S.grow (r':=((Str.ofString "",Str.ofString "",0):Xw)) G;rcases x with⟨rfl,rfl⟩|⟨rfl,rfl⟩
 have j:aZ (f,r) (.p s)=(f++[r],((Str.ofString ""++s,Str.ofString "",0):Xw)):=by show(if s="" then _ else if 0<r.2.2 then _ else _)=_;rw[GM u,GT o]
 rw[j] at k;exact yO J 0 (Zg _) O "" O O (l _ (by rw[I];exact Wy _)) λg m=>k g _ t m ap;have j:aZ (f,r) (.c s)=(f++[r],((Str.ofString "",Str.ofString ""++s,0):Xw)):=by show(if s="" then _ else if 0<r.2.2 then _ else _)=_;rw[GM u,GT o]
 rw[j] at k;exact yO J 1 (VY _) O "" O O (l _ (by rw[I];exact Wy _)) λg m=>k g _ t m ap;have o:¬0<r.2.2:=λz=>h (ZA z);rcases x with⟨rfl,rfl⟩|⟨rfl,rfl⟩
 have j:aZ (f,r) (.p s)=(f,(r.1++s,r.2.1,r.2.2)):=by show(if s="" then _ else if 0<r.2.2 then _ else _)=_;rw[GM u,GM o]
 rw[j] at k;exact yO S 0 (Zg _) O r.1 O O (l _ T) λg m=>k g _ b m (Yn _);have j:aZ (f,r) (.c s)=(f,(r.1,r.2.1++s,r.2.2)):=by show(if s="" then _ else if 0<r.2.2 then _ else _)=_;rw[GM u,GM o]
 rw[j] at k;exact yO S 1 (VY _) O r.2.1 O O (l _ Q) λg m=>k g _ b m (Yn _);have e:s="":=by simpa using h
 have j:aZ (f,r) p=(f,r):=by
  rcases x with⟨rfl,rfl⟩|⟨rfl,rfl⟩
  show(if s="" then _ else _)=_;rw[GT e];show(if s="" then _ else _)=_;rw[GT e]
 rw[j] at k;exact k L q b S (Yn _)
theorem kP(x y:Str):(x++y).length=x.length+y.length:=by rw[Wj,XE,Zw,<-Wj,<-Wj]
theorem aeH(e:ul)(r:Xw)(p:Pt)(n:Nat)(b:r.1.length<=n)(h:r.2.1.length<=n):(aZ (e,r) p).2.1.length<=n+dX p/\(aZ (e,r) p).2.2.1.length<=n+dX p:=by
 have a:(Str.ofString "").length=0:=O;cases p with
 |k m=>exact⟨by show r.1.length<=n+0;exact b,by show r.2.1.length<=n+0;exact h⟩
 |p s=>
  show(if s="" then (e,r) else if 0<r.2.2 then (e++[r],((Str.ofString ""++s,Str.ofString "",0):Xw)) else (e,(r.1++s,r.2.1,r.2.2))).2.1.length<=n+s.length/\
   (if s="" then (e,r) else if 0<r.2.2 then (e++[r],((Str.ofString ""++s,Str.ofString "",0):Xw)) else (e,(r.1++s,r.2.1,r.2.2))).2.2.1.length<=n+s.length
  split;exact⟨by show r.1.length<=_;exact TX b,by show r.2.1.length<=_;exact TX h⟩;split;exact⟨by show(Str.ofString ""++s).length<=_;rw[kP,a];exact Ue (Wy _) _,by show(Str.ofString "").length<=_;rw[a];exact Wy _⟩;exact⟨by show(r.1++s).length<=_;rw[kP];exact Ue b _,by show r.2.1.length<=_;exact TX h⟩
 |c s=>
  show(if s="" then (e,r) else if 0<r.2.2 then (e++[r],((Str.ofString "",Str.ofString ""++s,0):Xw)) else (e,(r.1,r.2.1++s,r.2.2))).2.1.length<=n+s.length/\
   (if s="" then (e,r) else if 0<r.2.2 then (e++[r],((Str.ofString "",Str.ofString ""++s,0):Xw)) else (e,(r.1,r.2.1++s,r.2.2))).2.2.1.length<=n+s.length
  split;exact⟨by show r.1.length<=_;exact TX b,by show r.2.1.length<=_;exact TX h⟩;split;exact⟨by show(Str.ofString "").length<=_;rw[a];exact Wy _,by show(Str.ofString ""++s).length<=_;rw[kP,a];exact Ue (Wy _) _⟩;exact⟨by show r.1.length<=_;exact TX b,by show(r.2.1++s).length<=_;rw[kP];exact Ue h _⟩
theorem Oq(h:bW B.K o x v H Q):ag B (.c v) J H λy L=>bW B.K o x y L Q:=h
theorem Ot{K:Frag}{y:V}(h:lJ x y=true)(q:Q (.b<|true ^^ decide (x=y)) H):bW K .NotEq x y H Q:=by
 show mE true x y H Q;delta mE;rw[h];exact q
theorem aeI{K:Frag}{l:D9}{r:Xw}{S:VK}(Z:H l=some (.l [.r t1,.r t2,.r t3]))(h1:H t1=some (.t [.s "put",.s r.1]))(h2:H t2=some (.t [.s "cut",.s r.2.1]))(h3:H t3=some (.t [.s "keep",.i r.2.2]))(I:J[8]?=some (some<|.r l))(k:∀p a,H p=none->aX H a (dY r)->a.length<=3->S (.r p) (upd H p<|.l a)):
  ag (aP K E) (.C none [] .l [.v 8] (some<|.d [(.p .NotEq (.i (.v 0)<|.c<|.i 1)<|.c<|.s ""),(.p .NotEq (.i (.v 0)<|.c<|.i 1)<|.c<|.i 0)])<|.v 0) J H S:=by
 have D:ak K H l [.r t1,.r t2,.r t3]:=ak.of Z
 let q:Nat->List Pt:=λi=>match i with| 0=>[]| 1=>txt .p r.1| 2=>txt .p r.1++txt .c r.2.1|_=>dY r
 refine uK _ I l O (qY _ D) (λi m a L=>m=3 - i/\i<=3/\L=H/\aX H a (q i)/\a.length<=i) (uO _ O (Wy _) O .nil (mZ _)) ?_;rintro i m a L ⟨rfl,hi,rfl,W,U⟩;have g:a.length<sizeLine:=bR al;have P:∀(t:D9)(p:Pt)(j:Nat),L t=some (.t [.s p.word,p.val])->i=j->j<3->(q (j+1)=q j++[p]/\p.val≠ .s ""/\p.val≠ .i 0\/q (j+1)=q j/\(p.val=.s ""\/p.val=.i 0))->
   (∃s,p.val=.s s)\/(∃n,p.val=.i n)->
   iU (uZ (aP K E).calm<|some<|.d [(.p .NotEq (.i (.v 0)<|.c<|.i 1)<|.c<|.s ""),(.p .NotEq (.i (.v 0)<|.c<|.i 1)<|.c<|.i 0)]) ([V.r t].map some++bJ J []) L λb T=>
    if b=true then ag (aP K E).calm (.v 0) ([V.r t].map some++bJ J []) T λy H6=>a.length<sizeLine/\∃u,u<3 - i/\u=3 - (i+1)/\i+1<=3/\H6=L/\aX L (a++[y]) (q<|i+1)/\(a++[y]).length<=i+1
    else ∃u,u<3 - i/\u=3 - (i+1)/\i+1<=3/\T=L/\aX L a (q<|i+1)/\a.length<=i+1:=by
  intro t p j M ej hj N h;subst ej;have G:lJ p.val (.s "")=true:=by rcases h with⟨s,e⟩|⟨n,e⟩ <;>rw[e] <;>rfl
  have F:lJ p.val (.i 0)=true:=by rcases h with⟨s,e⟩|⟨n,e⟩ <;>rw[e] <;>rfl
  refine qF _ O (.inr<|.inl ⟨_,_,_,_,O,O,aM.of M,O,Oq<|Ot G ⟨_,O,?_⟩⟩);by_cases B:p.val=.s "";rw[ZA B];rcases N with⟨_,z,_⟩|⟨e,_⟩
  exact absurd B z;exact uO (3 - (i+1)) al O (XC hj) O ⟨by rw[e];exact W,(ZU U)⟩;rw[XZ B];refine qF _ O (.inr<|.inl ⟨_,_,_,_,O,O,aM.of M,O,Oq<|Ot F ⟨_,O,?_⟩⟩);by_cases A:p.val=.i 0;rw[ZA A];rcases N with⟨_,_,z⟩|⟨e,_⟩
  exact absurd A z;exact uO (3 - (i+1)) al O (XC hj) O ⟨by rw[e];exact W,(ZU U)⟩;rw[XZ A];rcases N with⟨e,_,_⟩|⟨_,z⟩
  refine rE _ O g (3 - (i+1)) al ⟨O,(XC hj),O,?_,by simp;exact U⟩;rw[e];exact aX.snoc W (qF t O M);rcases z with z|z
  exact absurd z B;exact absurd z A
 have R:∀(f:Str->Pt)(x:Str)(l:List Pt),(f x).val=.s x->(l++txt f x=l++[f x]/\(f x).val≠ .s ""/\(f x).val≠ .i 0\/l++txt f x=l/\((f x).val=.s ""\/(f x).val=.i 0)):=by
  intro f x l h;delta txt;by_cases e:x="";rw[GT e];exact .inr ⟨ap,.inl (by rw[h,e])⟩;rw[GM e];exact .inl ⟨O,by rw[h];exact λz=>e (by injection z),by rw[h];exact λz=>by cases z⟩
 by_cases aF:i<3;refine .inr ⟨rP _ ([V.r t1,V.r t2,V.r t3][i]) D (by simp[aF]),?_⟩;rintro x H3 ⟨rfl,X⟩;have Q:=X _ D;have:i=0\/i=1\/i=2:=by lia
 rcases this with rfl|rfl|rfl
 have w:x=.r t1:=by simpa using Q.symm
 subst w;exact P t1 (.p r.1) 0 h1 O aF (R .p r.1 [] O)<|.inl ⟨_,O⟩;have w:x=.r t2:=by simpa using Q.symm
 subst w;exact P t2 (.c r.2.1) 1 h2 O aF (R .c r.2.1 _ O)<|.inl ⟨_,O⟩;have w:x=.r t3:=by simpa using Q.symm
 subst w;refine P t3 (.k r.2.2) 2 h3 O aF ?_<|.inr ⟨_,O⟩;by_cases e:r.2.2=0;refine .inr ⟨?_,.inr (by show V.i r.2.2=_;rw[e])⟩;show dY r=txt .p r.1++txt .c r.2.1;delta dY;rw[GT e,YS];refine .inl ⟨?_,?_,?_⟩;show dY r=txt .p r.1++txt .c r.2.1++[.k r.2.2];delta dY;rw[GM e];intro z;have o:V.i r.2.2=V.s "":=z;cases o;intro z;have o:V.i r.2.2=V.i 0:=z;injection o with o
 exact e o;have fW:i=3:=cV hi (ZK aF)
 subst fW;refine .inl ⟨qF _ D ap,λp Y=>?_⟩;exact k p a Y W U
theorem Vl{K:Frag}(U:ad)(H:Hp)(Q:VK)(E:XK)(h:Om U H Q E):aw (aP K E) JP {nx:=λ_ I=>Q .a I,r:=Q} (ZQ JO U) H:=by
 obtain⟨a,Y,g,rfl,ha,bp,hl,ht,k⟩:=h;have j':=Id bp;refine⟨eE,λX Dl=>⟨ib,λR hR=>?_⟩⟩;have Ou:X≠R:=λz=>by rw[<-z,au] at hR;cases hR
 have fR:H R=none:=(Xo Dl).free hR;have S0:j4 H (upd (upd H X<|.l [.s "",.s "",.i 0]) R<|.l [.r X]) R [] X [] ((Str.ofString "",Str.ofString "",0):Xw):=
  {same:=(Xo Dl).trans (Xo hR),lst:=au,fr:=fR,c:=.nil,last:=(by rw[av Ou,au];rfl),fb:=Dl,bP:=(λv hv=>by cases hv),ne:=Ou}
 refine tY _ O a O (qY _ (ak.of (S0.same _ _ ha))) (ic (K:=K) (a:=a) (xs:=Y) (λi J L=>V0 λu v m b d r=>FA (J=[some (.r a),some (.r R),u,v,none,none,none,none,none]) (j4 H L R m b d r) ((g.take i).foldl aZ ([],((Str.ofString "",Str.ofString "",0):Xw))=(d,r)) (m.length<=i) (r.1.length<=aG (g.take i)) (r.2.1.length<=aG (g.take i)))
 ⟨none,none,[],X,[],_,O,S0,O,mZ _,Wy _,Wy _⟩ (by rintro i J L _ ⟨_,_,_,_,_,_,_,S,_,_,_,_⟩;exact ak.of (S.same _ _ ha)) ?_ ?_)
 rintro i x J L hi ⟨u,v,m,b,d,r,rfl,S,ef,l1,l2,l3⟩;obtain⟨pt,fY,iG⟩:=bp.get hi;obtain⟨t,rfl,hb⟩:=iG.mono (aR S.same);have cp:i<g.length:=(ZX.mp fY).1;have oR:(g.take<|i+1).foldl aZ ([],((Str.ofString "",Str.ofString "",0):Xw))=aZ (d,r) pt:=by rw[Oc fY,ef]
 have et:=Ob fY;have tb:=C_ g i;have k':=C_ g (i+1);have sl:=aeH d r pt _ l2 l3;refine tH t _ O (.inl<|aM.of hb) O _ _ O _ _ O O ?_;refine⟨_,O,_,O,?_⟩;cases pt with
 |k n=>
  refine qF _ O (.inl (qZ _ _ _ _ O O (ak.of S.lst) (vH _ _) (.inl (qZ _ _ _ _ O O (ak.of S.last) O ⟨_,O,_,O,.inl (qZ _ _ _ _ O O (ak.of S.lst) (vH _ _) ⟨b,kO r,2,2,O,O,S.last,O,?_⟩)⟩))));refine⟨_,_,m,b,d,(r.1,r.2.1,r.2.2+n),O,S.set (r':=(r.1,r.2.1,r.2.2+n)),oR,(ZU l1),?_,?_⟩;show r.1.length<=_;lia;show r.2.1.length<=_;lia
 |p s=>
  refine Oo S (.p s) (.inl ⟨O,O⟩) ?_ (Ut l2 (Ut tb ht)) (Ut l3 (Ut tb ht)) al λN oU b' S' a'=>⟨_,_,oU,b',_,_,O,S',oR,(Ut a' (Ue l1 _)),al,al⟩;have:dX (.p s)=s.length:=O;lia
 |c s=>
  refine Oo S (.c s) (.inr ⟨O,O⟩) ?_ (Ut l2 (Ut tb ht)) (Ut l3 (Ut tb ht)) al λN oU b' S' a'=>⟨_,_,oU,b',_,_,O,S',oR,(Ut a' (Ue l1 _)),al,al⟩;have:dX (.c s)=s.length:=O;lia
 rintro J Hm ⟨u,v,m,b,d,r,rfl,S,ef,l1,l2,l3⟩;have e:g.take Y.length=g:=Vo al;rw[e] at ef;have i':tJ g=d++[r]:=by
  show(g.foldl aZ ([],((Str.ofString "",Str.ofString "",0):Xw))).1++[(g.foldl aZ ([],((Str.ofString "",Str.ofString "",0):Xw))).2]=_;rw[ef]
 have Ov:qS Hm (m++[.r b]) (tJ g):=by rw[i'];exact UF S.c (qF b O S.last)
 have kQ:=Id Ov;refine⟨Wy _,λf0 Dm=>?_⟩;refine tY _ O R O (qY _ (ak.of (Xo Dm _ _ S.lst))) (ic (K:=K) (a:=R) (xs:=m++[.r b]) (λi J L=>V0 λf y p5 p6 p7 p8=>FA (J=[some (.r a),some (.r R),u,v,some (.r f),p5,p6,p7,p8]) (aq Hm L) (H f=none) (L f=some (.l y)) (aX L y (cB ((tJ g).take i))) (y.length<=3*i))
 ⟨f0,[],none,none,none,none,O,Xo Dm,S.same.free Dm,au,.nil,mZ _⟩ (by rintro i J L _ ⟨_,_,_,_,_,_,_,F,_,_,_,_⟩;exact ak.of (F _ _ S.lst)) ?_ ?_)
 rintro i x J L hi ⟨f,y,p5,p6,p7,p8,rfl,F,ff,Dp,Z,yP⟩;obtain⟨j,h',w,rfl,hw⟩:=Ov.get hi;have vI:=F _ _ hw;have cp:i< (m++[V.r b]).length:=(ZX.mp hi).1;have vJ:m.length<=100000:=by lia
 have yQ:i<=100000:=by simp only[Zw,Xv] at cp;exact Ut (UD cp) vJ
 refine uF w _ O (.inr<|ak.of vI) O _ _ O _ _ O _ _ O O ?_;refine qT _ O c_ (λC mX=>qT _ O c_ (λB eK=>qT _ O c_ (λA T=> ⟨eE,λl M=>?_⟩)));have c1:C≠B:=λz=>by rw[<-z,au] at eK;cases eK
 have Ow:C≠A:=λz=>by rw[<-z,av c1,au] at T;cases T
 have Ox:B≠A:=λz=>by rw[<-z,au] at T;cases T
 have f':C≠l:=λz=>by rw[<-z,av Ow,av c1,au] at M;cases M
 have e':B≠l:=λz=>by rw[<-z,av Ox,au] at M;cases M
 have d':A≠l:=λz=>by rw[<-z,au] at M;cases M
 have P:=((Xo (o:=.t [.s "put",.s j.1]) mX).trans<|Xo (o:=.t [.s "cut",.s j.2.1]) eK).trans ((Xo (o:=.t [.s "keep",.i j.2.2]) T).trans<|Xo (o:=.l [.r C,.r B,.r A]) M);refine qF _ O (aeI (r:=j) (l:=l) (t1:=C) (t2:=B) (t3:=A) au (by rw[av f',av Ow,av c1,au]) (by rw[av e',av Ox,au]) (by rw[av d',au]) O λp D W Oy l'=>?_);generalize ku:upd (upd (upd (upd L C<|.t [.s "put",.s j.1]) B<|.t [.s "cut",.s j.2.1]) A<|.t [.s "keep",.i j.2.2]) l (.l [.r C,.r B,.r A])=N at P W Oy;have Oz:=P _ _ Dp;have c':upd N p (.l D) f=some (.l y):=by rw[av<|a_ Oz W];exact Oz
 refine .inl (tU f p y D O O c' au (bQ al) (λq hq=>?_));have s5:aq Hm (upd (upd N p<|.l D) q<|.l<|y++D):=F.trans (P.trans<|(Xo W).trans<|Xo hq);have t5:gB N (upd (upd N p<|.l D) q<|.l<|y++D):=aR ((Xo W).trans<|Xo hq);refine⟨q,y++D,_,_,_,_,O,s5,S.same.free<|(F.trans<|P.trans<|Xo W).free hq,au,?_,by rw[Zw];exact ZV yP l'⟩;rw[aeG h'];have g':∀{U:ad}{as:List Pt}{ws:ad}{bs:List Pt}{G:Hp},aX G U as->aX G ws bs->aX G (U++ws) (as++bs):=λ{U as ws bs G} h1 h2=>by
  induction h1 with
  |nil=>exact h2
  |cons a _ ih=>exact .cons a ih
 exact g' ((Z.mono<|aR P).mono t5)<|Oy.mono t5;rintro J L ⟨f,y,p5,p6,p7,p8,rfl,F,ff,Dp,Z,yP⟩;have e2:(tJ g).take (m++[V.r b]).length=tJ g:=Vo al;rw[e2] at Z;exact qF _ O (k f L y (S.same.trans F) ff Dp Z)
theorem yR(a b:ul):cB (a++b)=cB a++cB b:=by simp[cB]
theorem vK(r:Xw):cB [r]=dY r:=by simp[cB]
theorem Dq{r:Xw}(h:0<r.2.2):dY r=txt .p r.1++txt .c r.2.1++[.k r.2.2]:=by
 delta dY;rw[GM (Int.ne_of_gt h)]
theorem OA{r:Xw}(h:r.2.2=0):dY r=txt .p r.1++txt .c r.2.1:=by
 delta dY;rw[GT h,YS]
def OB:Pt->Fk|.k _=>true|_=>false
theorem aeT{n:Int}(h:∀p,c.getLast?=some p->OB p=false):dE c n=c++[.k n]:=by
 delta dE;split;rename_i m e;have:=h _ e;cases this;rfl
theorem aeU(c:List Pt)(m n:Int):dE (c++[.k m]) n=c++[.k<|n+m]:=by
 delta dE;rw[Vz];simp
theorem Vc(m:Str->Pt):txt m ""=[]:=GT O
theorem cI{x:Str}(h:x≠""):txt m x=[m x]:=GM h
theorem y0{e:ul}{r:Xw}(h:e≠ []->r.1≠""\/r.2.1≠""):∀p,(cB e++txt .p r.1++txt .c r.2.1).getLast?=some p->OB p=false:=by
 intro p a;by_cases b:r.2.1="";rw[b,Vc,YS] at a;by_cases d:r.1="";rw[d,Vc,YS] at a;by_cases m:e=[];rw[m] at a;simp[cB] at a;rcases h m with z|z
 exact absurd d z;exact absurd b z;rw[cI d,Vz] at a;simp at a;subst a;rfl;rw[cI b,Vz] at a;simp at a;subst a;rfl
def iH(s:NS)(t:ul×Xw):Prop:=
 (∀x∈t.1,0<x.2.2)/\(t.1≠ []->t.2.1≠""\/t.2.2.1≠"")/\0<=t.2.2.2/\
  ((t.2.2.2=0/\s.1=cB t.1/\qE s.2.1=t.2.1/\qE s.2.2=t.2.2.1)\/(0<t.2.2.2/\s.1=cB (t.1++[t.2])/\qE s.2.1=""/\qE s.2.2=""))
theorem oV(a:ac)(s:Str):qE (a++[s])=qE a++s:=by rw[N5,N6]
theorem aeW{s:NS}(R:iH s t)(F:eN p):iH (bT s p) (aZ t p):=by
 obtain⟨m,u,d⟩:=s;obtain⟨a,r⟩:=t;obtain⟨l,w,v,j⟩:=l5 R;simp only at l w v j;cases p with
 |k n=>
  have M:0<=n:=F;by_cases E:0<n;have D:bT (m,u,d) (.k n)=(dE (cH m u d) n,[],[]):=GT E;rw[D];refine⟨l,w,by show 0<=r.2.2+n;lia,.inr ⟨by show 0<r.2.2+n;lia,?_,O,O⟩⟩;show dE (cH m u d) n=cB (a++[(r.1,r.2.1,r.2.2+n)]);rw[yR,vK,Dq (r:=(r.1,r.2.1,r.2.2+n)) (by show 0<r.2.2+n;lia)];rcases j with⟨f,b,i,g⟩|⟨f,b,i,g⟩
  have C:cH m u d=cB a++txt .p r.1++txt .c r.2.1:=by delta cH;rw[b,i,g]
  rw[C,aeT<|y0 w];show _=cB a++(txt .p r.1++txt .c r.2.1++[.k<|r.2.2+n]);rw[f,Int.zero_add];simp;have C:cH m u d=cB a++(txt .p r.1++txt .c r.2.1)++[.k r.2.2]:=by
   delta cH;rw[b,i,g,Vc,Vc,YS,YS,yR,vK,Dq f];simp
  rw[C,aeU];show _=cB a++(txt .p r.1++txt .c r.2.1++[.k<|r.2.2+n]);rw[Ub n];simp;have G:n=0:=by lia
  have D:bT (m,u,d) (.k n)=(m,u,d):=GM E;have b:aZ (a,r) (.k n)=(a,r):=by show(a,(r.1,r.2.1,r.2.2+n))=_;rw[G,Int.add_zero]
  rw[D,b];exact⟨l,w,v,j⟩
 |p x=>
  show iH (m,u++[x],d) (aZ (a,r)<|.p x);by_cases h:x="";have b:aZ (a,r) (.p x)=(a,r):=GT h;rw[b];refine⟨l,w,v,?_⟩;have e:qE (u++[x])=qE u:=by rw[oV,h];exact N7 _
  show _\/_;simp only[e];exact j;by_cases o:0<r.2.2;have b:aZ (a,r) (.p x)=(a++[r],((Str.ofString ""++x,Str.ofString "",0):Xw)):=by show(if x="" then _ else if 0<r.2.2 then _ else _)=_;rw[GM h,GT o]
  rw[b];rcases j with⟨f,Y⟩|⟨Y,q,i,g⟩
  lia;refine⟨λy B=>?_,λY=>.inl (by rw[tD];exact h),TM _,.inl ⟨O,q,?_,g⟩⟩;rcases U6.mp B with z|z
  exact l y z;rw[jS.mp z];exact o;show qE (u++[x])=_;rw[oV,i];have b:aZ (a,r) (.p x)=(a,(r.1++x,r.2.1,r.2.2)):=by show(if x="" then _ else if 0<r.2.2 then _ else _)=_;rw[GM h,GM o]
  rw[b];rcases j with⟨f,q,i,g⟩|⟨f,Y⟩
  refine⟨l,λY=>.inl ?_,v,.inl ⟨f,q,?_,g⟩⟩;intro z;have:=IR Str.length z;rw[kP] at this;have A:(Str.ofString "").length=0:=O;rw[A] at this;have W:x.length=0:=by lia
  exact h<|iY (by rw[Wj] at W;rw[oZ.mp W];rfl);show qE (u++[x])=_;rw[oV,i];exact (WA _ (pL f (ZF o))).elim
 |c x=>
  show iH (m,u,d++[x]) (aZ (a,r)<|.c x);by_cases h:x="";have b:aZ (a,r) (.c x)=(a,r):=GT h;rw[b];refine⟨l,w,v,?_⟩;have e:qE (d++[x])=qE d:=by rw[oV,h];exact N7 _
  show _\/_;simp only[e];exact j;by_cases o:0<r.2.2;have b:aZ (a,r) (.c x)=(a++[r],((Str.ofString "",Str.ofString ""++x,0):Xw)):=by show(if x="" then _ else if 0<r.2.2 then _ else _)=_;rw[GM h,GT o]
  rw[b];rcases j with⟨f,Y⟩|⟨Y,q,i,g⟩
  lia;refine⟨λy B=>?_,λY=>.inr (by rw[tD];exact h),TM _,.inl ⟨O,q,i,?_⟩⟩;rcases U6.mp B with z|z
  exact l y z;rw[jS.mp z];exact o;show qE (d++[x])=_;rw[oV,g];have b:aZ (a,r) (.c x)=(a,(r.1,r.2.1++x,r.2.2)):=by show(if x="" then _ else if 0<r.2.2 then _ else _)=_;rw[GM h,GM o]
  rw[b];rcases j with⟨f,q,i,g⟩|⟨f,Y⟩
  refine⟨l,λY=>.inr ?_,v,.inl ⟨f,q,i,?_⟩⟩;intro z;have:=IR Str.length z;rw[kP] at this;have A:(Str.ofString "").length=0:=O;rw[A] at this;have W:x.length=0:=by lia
  exact h<|iY (by rw[Wj] at W;rw[oZ.mp W];rfl);show qE (d++[x])=_;rw[oV,g];exact (WA _ (pL f (ZF o))).elim
theorem aeX:∀(a:List Pt)(s:NS)(t:ul×Xw),iH s t->(∀p∈a,eN p)->iH (a.foldl bT s) (a.foldl aZ t):=by
 intro l;induction l with
 |nil=>
  rintro s t R Y;exact R
 |cons p r i=>
  rintro s t R h;exact i _ _ (aeW R<|h p Yz) λq b=>h q (N4 _ b)
theorem Xy(s:List Pt)(h:∀p∈s,eN p):iH (s.foldl bT ([],[],[])) (s.foldl aZ ([],((Str.ofString "",Str.ofString "",0):Xw))):=
 aeX s _ _ ⟨(λx a=>by cases a),λz=>absurd O z,TM _,.inl ⟨O,O,O,O⟩⟩ h
theorem vL(a:List Pt)(h:∀p∈a,eN p):mS a=iZ a:=by
 obtain⟨g,f,d,r⟩:=l5 (Xy a h);show cH _ _ _=cB (_++[_]);generalize a.foldl bT ([],[],[])=s at r⊢;generalize a.foldl aZ ([],((Str.ofString "",Str.ofString "",0):Xw))=t at g f d r⊢;delta cH;rcases r with⟨k,e,c,b⟩|⟨k,e,c,b⟩
 rw[e,c,b,yR,vK,OA k];simp;rw[e,c,b,Vc,Vc];simp
def sg(x:Str):Prop:= ∀c∈x.cps.toList,SG.cps.contains c=true
theorem yS(a:sg x)(b:sg y):sg (x++y):=λc h=>by
 rw[XE] at h;rcases U6.mp h with z|z
 exact a c z;exact b c z
theorem oX:sg (Str.ofString ""):=λc h=>by cases h
def kR(r:Xw):Nat:=r.1.length+r.2.1.length
structure RI(n:Nat)(t:ul×Xw):Prop where
 pos:∀x∈t.1,0<x.2.2
 nn:0<=t.2.2.2
 s1:∀x∈t.1++[t.2],sg x.1/\sg x.2.1
 tl:∀x∈ (t.1++[t.2]).tail,x.1≠""\/x.2.1≠""
 aG:((t.1++[t.2]).map kR).sum=n
theorem OC{x:Str}(h:x≠""):x++y≠"":=λz=>by
 have:=IR Str.length z;rw[kP] at this;have l:(Str.ofString "").length=0:=O;rw[l] at this;have o:x.length=0:=by lia
 exact h<|iY (by rw[Wj] at o;rw[oZ.mp o];rfl)
theorem OD{c:Type}(l:List c)(a:c):(l++[a]).tail=if l=[] then [] else l.tail++[a]:=by
 cases l with
 |nil=>rfl
 |cons b r=>simp
theorem Dr{r a:Xw}(I:RI n (p,r))(e:0<=a.2.2)(d:sg a.1/\sg a.2.1)(c:(r.1≠""->a.1≠"")/\(r.2.1≠""->a.2.1≠""))(f:kR a=kR r+m):RI (n+m) (p,a):=by
 refine⟨I.pos,e,λx h=>?_,λx h=>?_,?_⟩;rcases U6.mp h with z|z
 exact I.s1 x (Zn _ z);rw[jS.mp z];exact d;have t:=I.tl;simp only at t h;rw[OD] at h t;by_cases b:p=[];rw[GT b] at h;cases h;rw[GM b] at h t;rcases U6.mp h with z|z
 exact t x (Zn _ z);rw[jS.mp z];rcases t r ap with q|q
 exact .inl (c.1 q);exact .inr (c.2 q);have:=I.aG;simp only[Xn,X8,TB,lA,vG,List.sum_nil] at this⊢;lia
theorem OE{r a:Xw}(I:RI n (p,r))(k:0<r.2.2)(d:0<=a.2.2)(c:sg a.1/\sg a.2.1)(b:a.1≠""\/a.2.1≠"")(e:kR a=m):RI (n+m) (p++[r],a):=by
 refine⟨λx h=>?_,d,λx h=>?_,λx h=>?_,?_⟩;rcases U6.mp h with z|z
 exact I.pos x z;rw[jS.mp z];exact k;rcases U6.mp h with z|z
 exact I.s1 x z;rw[jS.mp z];exact c;have t:=I.tl;simp only at t h;rw[OD,GM ap] at h;rcases U6.mp h with z|z
 exact t x z;rw[jS.mp z];exact b;have:=I.aG;simp only[Xn,X8,TB,lA,vG,List.sum_nil] at this⊢;lia
theorem aeZ(I:RI n t)(d:eN p):RI (n+dX p) (aZ t p):=by
 obtain⟨e,r⟩:=t;have s:=I.s1 r ap;have F:0<=r.2.2:=I.nn;have i:(Str.ofString "").length=0:=O;cases p with
 |k m=>exact Dr I (by show 0<=r.2.2+m;have:0<=m:=d;lia) s ⟨λz=>z,λz=>z⟩ O
 |p x=>
  have g:sg x:=d.1.2;by_cases h:x="";have a:aZ (e,r) (.p x)=(e,r):=GT h;have f:dX (.p x)=0:=by show x.length=0;rw[h];rfl
  rw[a,f];exact I;by_cases b:0<r.2.2;have a:aZ (e,r) (.p x)=(e++[r],((Str.ofString ""++x,Str.ofString "",0):Xw)):=by show(if x="" then _ else if 0<r.2.2 then _ else _)=_;rw[GM h,GT b]
  rw[a];refine OE I b (TM _) ⟨yS oX g,oX⟩ (.inl (by rw[tD];exact h)) ?_;show(Str.ofString ""++x).length+(Str.ofString "").length=x.length;rw[kP,i];exact VI _;have a:aZ (e,r) (.p x)=(e,(r.1++x,r.2.1,r.2.2)):=by show(if x="" then _ else if 0<r.2.2 then _ else _)=_;rw[GM h,GM b]
  rw[a];refine Dr I F ⟨yS s.1 g,s.2⟩ ⟨OC,λz=>z⟩ ?_;show(r.1++x).length+r.2.1.length=r.1.length+r.2.1.length+x.length;rw[kP];lia
 |c x=>
  have g:sg x:=d.1.2;by_cases h:x="";have a:aZ (e,r) (.c x)=(e,r):=GT h;have f:dX (.c x)=0:=by show x.length=0;rw[h];rfl
  rw[a,f];exact I;by_cases b:0<r.2.2;have a:aZ (e,r) (.c x)=(e++[r],((Str.ofString "",Str.ofString ""++x,0):Xw)):=by show(if x="" then _ else if 0<r.2.2 then _ else _)=_;rw[GM h,GT b]
  rw[a];refine OE I b (TM _) ⟨oX,yS oX g⟩ (.inr (by rw[tD];exact h)) ?_;show(Str.ofString "").length+(Str.ofString ""++x).length=x.length;rw[kP,i];lia;have a:aZ (e,r) (.c x)=(e,(r.1,r.2.1++x,r.2.2)):=by show(if x="" then _ else if 0<r.2.2 then _ else _)=_;rw[GM h,GM b]
  rw[a];refine Dr I F ⟨s.1,yS s.2 g⟩ ⟨λz=>z,OC⟩ ?_;show r.1.length+(r.2.1++x).length=r.1.length+r.2.1.length+x.length;rw[kP];lia
theorem OG:∀(s:List Pt)(n:Nat)(t:ul×Xw),RI n t->(∀p∈s,eN p)->RI (n+aG s) (s.foldl aZ t):=by
 intro l;induction l with
 |nil=>
  rintro n t I Y;exact I
 |cons p r i=>
  rintro n t I h;have:=i _ _ (aeZ I<|h p Yz) λq a=>h q (N4 _ a);have e:n+dX p+aG r=n+aG (p::r):=by show _=n+(dX p+aG r);exact Yu _ _ _
  rw[e] at this;exact this
theorem OH{r:Xw}{a:Str}(d:a=""\/(a="keep"/\(r.1≠""\/r.2.1≠"")))(k:0<r.2.2)(h:ZP "keep" M'=true):ZP a (dY r++M')=true:=by
 rw[Dq k];by_cases c:r.1="" <;>by_cases b:r.2.1=""
 rw[c,b,Vc,Vc];rcases d with rfl|⟨Y,z|z⟩
 exact h;exact absurd c z;exact absurd b z;rw[c,Vc,cI b];rcases d with rfl|⟨rfl,Y⟩ <;>exact h
 rw[b,Vc,cI c];rcases d with rfl|⟨rfl,Y⟩ <;>exact h
 rw[cI c,cI b];rcases d with rfl|⟨rfl,Y⟩ <;>exact h
theorem chain_last{r:Xw}{a:Str}(h:a=""\/(a="keep"/\(r.1≠""\/r.2.1≠"")))(k:0<=r.2.2):ZP a (dY r)=true:=by
 by_cases d:0<r.2.2;have:=OH (M':=[]) h d O;rw[YS] at this;exact this;rw[OA al];by_cases c:r.1="" <;>by_cases b:r.2.1=""
 rw[c,b,Vc,Vc];rfl;rw[c,Vc,cI b];rcases h with rfl|⟨rfl,Y⟩ <;>rfl
 rw[b,Vc,cI c];rcases h with rfl|⟨rfl,Y⟩ <;>rfl
 rw[cI c,cI b];rcases h with rfl|⟨rfl,Y⟩ <;>rfl
theorem ae0:∀(p:ul)(r:Xw)(a:Str),(∀x∈p,0<x.2.2)->0<=r.2.2->(a=""\/(a="keep"/\∀x,(p++[r]).head?=some x->x.1≠""\/x.2.1≠""))->(∀x∈ (p++[r]).tail,x.1≠""\/x.2.1≠"")->
  ZP a (cB<|p++[r])=true:=by
 intro l;induction l with
 |nil=>
  rintro r a Y k b Y;rw[Z4,vK];exact chain_last (b.imp id (by rintro ⟨x,y⟩;exact ⟨x,y r O⟩)) k
 |cons q p i=>
  rintro r a c k b t;have e:cB (q::p++[r])=dY q++cB (p++[r]):=by simp[cB]
  rw[e];refine OH (b.imp id (by rintro ⟨x,y⟩;exact ⟨x,y q O⟩)) (c q Yz) ?_;refine i r "keep" (λx h=>c x<|N4 _ h) k (.inr ⟨O,λx h=>t x ?_⟩) λx h=>t x (List.mem_of_mem_tail h);show x∈p++[r];exact List.mem_of_mem_head? h
theorem YV{r:Xw}(s:sg r.1/\sg r.2.1)(l:kR r<=1000000)(k:0<=r.2.2)(h:p∈dY r):fh p:=by
 delta dY txt at h;delta kR at l;rcases U6.mp h with h|h
 rcases U6.mp h with h|h
 split at h;cases h;rename_i ne;rw[jS.mp h];exact⟨⟨(Ut (YJ _ _) l),s.1⟩,ne⟩;split at h;cases h;rename_i ne;rw[jS.mp h];exact⟨⟨(Ut (VJ _ _) l),s.2⟩,ne⟩;split at h;cases h;rw[jS.mp h];show 1<=r.2.2;lia
theorem ae2(r:Xw):aG (dY r)=kR r:=by
 have d:∀(m:Str->Pt)(x:Str),(∀y,dX (m y)=y.length)->aG (txt m x)=x.length:=by
  intro m x h;delta txt;by_cases e:x="";rw[GT e,e];rfl;rw[GM e];show dX (m x)+0=_;rw[h,WI]
 have t:∀a b:List Pt,aG (a++b)=aG a+aG b:=λa b=>by simp[aG]
 delta dY kR;rw[t,t,d .p _ λY=>O,d .c _ λY=>O];split;rfl;rfl
theorem OI:∀s:ul,aG (cB s)=(s.map kR).sum:=by
 intro l;induction l with
 |nil=>
  exact O
 |cons r s i=>
  have e:cB (r::s)=dY r++cB s:=by simp[cB]
  have t:∀a b:List Pt,aG (a++b)=aG a+aG b:=λa b=>by simp[aG]
  rw[e,t,ae2,i];rfl
theorem V1{l:ul}(h:x∈l):kR x<= (l.map kR).sum:=by
 induction l with
 |nil=>cases h
 |cons a l i=>
  rw[TB,vG];rcases UA.mp h with rfl|h
  exact YJ _ _;have:=i h;exact i0 this
theorem yT(s:List Pt)(h:∀p∈s,eN p)(d:aG s<=100000):ZP "" (iZ s)=true/\(∀p∈iZ s,fh p)/\aG (iZ s)<=100000:=by
 have I:=OG s 0 ([],((Str.ofString "",Str.ofString "",0):Xw)) ⟨(λx a=>by cases a),TM _,(λx a=>by rw[jS.mp a];exact⟨oX,oX⟩),(λx a=>by cases a),O⟩ h;rw[VI] at I;have e:iZ s=cB ((s.foldl aZ ([],((Str.ofString "",Str.ofString "",0):Xw))).1++[(s.foldl aZ ([],((Str.ofString "",Str.ofString "",0):Xw))).2]):=O;rw[e];generalize s.foldl aZ ([],((Str.ofString "",Str.ofString "",0):Xw))=t at I;refine⟨ae0 t.1 t.2 "" I.pos I.nn (.inl O) I.tl,λp b=>?_,by rw[OI,I.aG];exact d⟩;unfold cB at b;rw[List.mem_flatten] at b;obtain⟨l,f,b⟩:=b;obtain⟨x,a,rfl⟩:=Zv.mp f;have c:=V1 a;rw[I.aG] at c;refine YV (I.s1 x a) al ?_ b;rcases U6.mp a with z|z
 have:=I.pos x z;exact lZ this;rw[jS.mp z];exact I.nn
theorem OJ(b:List Pt):(mS b).length<=3*b.length+2:=by
 have o:∀(l:List Pt)(s:NS),(l.foldl bT s).1.length<=s.1.length+3*l.length:=by
  intro l;induction l with
  |nil=>intro s;simp
  |cons p l i=>
   intro s;have f:=i (bT s p);have g:(bT s p).1.length<=s.1.length+3:=by
    obtain⟨h,u,a⟩:=s;cases p with
    |k n=>
     by_cases d:0<n;have e:bT (h,u,a) (.k n)=(dE (cH h u a) n,[],[]):=GT d;rw[e];have:=yI h u a;have:=Dc (cH h u a) n;show(dE (cH h u a) n).length<=h.length+3;lia;have e:bT (h,u,a) (.k n)=(h,u,a):=GM d;rw[e];show h.length<=h.length+3;exact YJ _ _
    |p x=>show h.length<=h.length+3;exact YJ _ _
    |c x=>show h.length<=h.length+3;exact YJ _ _
   rw[WG,Xm];lia
 have f:=o b ([],[],[]);have g:=yI (b.foldl bT ([],[],[])).1 (b.foldl bT ([],[],[])).2.1 (b.foldl bT ([],[],[])).2.2;show(cH _ _ _).length<=_;simp only[TH] at f;lia
def Ds:Pt->Prop|.k _=>True|.p s=>sg s|.c s=>sg s
noncomputable def Pt.qW:Pt->Pt|.k n=>.k n|.p s=>.c s|.c s=>.p s
abbrev cr:=List Pt
def cU(p:cr):cr:=p.map Pt.qW
theorem ae4{s:cr}(h:∀p∈s,eN p):∀p∈cU s,eN p:=by
 intro p b;obtain⟨q,a,rfl⟩:=Zv.mp b;have:=h q a;cases q<;>exact this
theorem Dt(s:cr):aG (cU s)=aG s:=by
 delta aG cU;rw[Ti];congr 1;refine YC λp Y=>?_;cases p<;>rfl
theorem zU(s:cr)(h:∀p∈s,eN p):RI (aG s) (s.foldl aZ ([],((Str.ofString "",Str.ofString "",0):Xw))):=by
 have I:=OG s 0 ([],((Str.ofString "",Str.ofString "",0):Xw)) ⟨(λx a=>by cases a),TM _,(λx a=>by rw[jS.mp a];exact⟨oX,oX⟩),(λx a=>by cases a),O⟩ h
 rwa [VI] at I
theorem ae6(h:fh p)(t:dX p<=100000):eN p:=by
 cases p with
 |k n=>exact Int.le_trans ax (show(1:Int)<=n from h)
 |p s=>exact⟨h.1,t⟩
 |c s=>exact⟨h.1,t⟩
theorem Vt{s:cr}(h:p∈s):dX p<=aG s:=by
 induction s with
 |nil=>cases h
 |cons q s i=>
  have e:aG (q::s)=dX q+aG s:=by simp[aG]
  rw[e];rcases UA.mp h with rfl|h
  exact YJ _ _;have:=i h;exact i0 this
theorem ae8{s:cr}(h:∀p∈s,fh p)(t:aG s<=100000):∀p∈s,eN p:=λp a=>ae6 (h p a) (Ut (Vt a) t)
inductive oW:am->cr->am->Prop
 |N:oW [] [] []
 |k {a l r:am}{n:Int}{b:cr}:n=a.length->oW l b r->oW (a++l) (.k n::b) (a++r)
 |t {s:Str}{l r:am}{b:cr}:oW l b r->oW l (.p s::b) (s.cps.toList++r)
 |C {s:Str}{l r:am}{b:cr}:oW l b r->oW (s.cps.toList++l) (.c s::b) r
theorem oW.qW(h:oW l p r):oW r (cU p) l:=by
 induction h with
 |N=>exact .N
 |k e Y i=>exact .k e i
 |t Y i=>exact .C i
 |C Y i=>exact .t i
theorem oW.app{b:am}(h:oW l p r)(c:oW b q a):oW (l++b) (p++q) (r++a):=by
 induction h with
 |N=>exact c
 |k e Y i=>rw[UR,UR];exact .k e i
 |t Y i=>rw[UR];exact .t i
 |C Y i=>rw[UR];exact .C i
theorem oW.over{b:cr}(h:oW l b r):(Uz b).sum=l.length:=by
 induction h with
 |N=>rfl
 | @k a l r n b e _ i=>
  have d:Uz (.k n::b)=n::Uz b:=O;rw[d,vG,i,e,Zw];simp
 | @t s l r b _ i=>
  have d:Uz (.p s::b)=Uz b:=O;rw[d,i]
 | @C s l r b _ i=>
  have d:Uz (.c s::b)=(s.length:Int)::Uz b:=O;rw[d,vG,i,Zw,Wj];simp
def qX(r:Xw)(l q:am):Prop:= ∃k:am,r.2.2=k.length/\l=r.2.1.cps.toList++k/\q=r.1.cps.toList++k
inductive mY:ul->am->am->Prop
 |nil:mY [] [] []
 |snoc {a:ul}{r:Xw}{l q c b:am}:mY a l q->qX r c b->mY (a++[r]) (l++c) (q++b)
theorem OK{s:Str}:oW [] (txt .p s) s.cps.toList:=by
 by_cases h:s="";rw[h,Vc];exact .N;rw[cI h];have:=oW.t (s:=s) oW.N
 rwa [YS] at this
theorem ae9{s:Str}:oW s.cps.toList (txt .c s) []:=by
 have:=(OK (s:=s)).qW;have e:cU (txt .p s)=txt .c s:=by
  delta txt;split<;>rfl
 rwa [e] at this
theorem qX.run{r:Xw}(h:qX r l q):oW l (dY r) q:=by
 obtain⟨k,b,rfl,rfl⟩:=h;have c:oW k (if r.2.2=0 then [] else [.k r.2.2]) k:=by
  split;rename_i h;have:k=[]:=oZ.mp al;rw[this];exact .N;have:=oW.k (a:=k) b oW.N
  rwa [YS] at this
 have:=((OK (s:=r.1)).app<|ae9 (s:=r.2.1)).app c;simpa[dY] using this
theorem mY.run{r:ul}(h:mY r l q):oW l (cB r) q:=by
 induction h with
 |nil=>exact .N
 |snoc Y a i=>rw[yR,vK];exact i.app a.run
def XM:Pt->am->am->Prop
 |.k n,l,q=>l=q/\n=l.length
 |.p s,l,q=>l=[]/\q=s.cps.toList
 |.c s,l,q=>l=s.cps.toList/\q=[]
theorem OL{s:cr}(h:oW l (p::s) q):∃d c b a,l=d++c/\q=b++a/\oW c s a/\
  XM p d b:=by
 cases h with
 |k e h=>exact qZ _ _ _ _ O O h O e
 |t h=>exact qZ [] _ _ _ O O h O O
 |C h=>exact qZ _ _ [] _ O O h O O
theorem ae_{r:Xw}{j:am}(f:mY a l q)(d:qX r i g)(m:XM p j t):
  ∃Y Z u o,mY (aZ (a,r) p).1 Y Z/\qX (aZ (a,r) p).2 u o/\l++i++j=Y++u/\q++g++t=Z++o:=by
 cases p with
 |k n=>
  obtain⟨rfl,rfl⟩:=m;obtain⟨k,b,rfl,rfl⟩:=d;refine tV l q _ _ f (qT (k++j) ?_ O O) (by simp[aZ]) (by simp[aZ]);show r.2.2+(j.length:Int)=_;rw[b,Zw];simp
 |p s=>
  obtain⟨rfl,rfl⟩:=m;by_cases h:s="";have e:aZ (a,r) (.p s)=(a,r):=by simp only[aZ,GT h]
  rw[e];refine tV l q i g f d ap ?_;rw[h];show q++g++(Str.ofString "").cps.toList=_;rw[Ec];simp;by_cases b:0<r.2.2;have e:aZ (a,r) (.p s)=(a++[r],((Str.ofString ""++s,"",0):Xw)):=by simp only[aZ,GM h,GT b]
  rw[e];refine tV _ _ [] s.cps.toList (f.snoc d) (qT [] O O ?_) ap ap;show s.cps.toList=(Str.ofString ""++s).cps.toList++[];rw[tD];simp;have e:aZ (a,r) (.p s)=(a,(r.1++s,r.2.1,r.2.2)):=by simp only[aZ,GM h,GM b]
  rw[e];obtain⟨k,D,rfl,rfl⟩:=d;have:k=[]:=oZ.mp al;subst this;refine tV l q r.2.1.cps.toList (r.1.cps.toList++s.cps.toList) f (qT [] D ap (by simp[XE])) ap ap
 |c s=>
  obtain⟨rfl,rfl⟩:=m;by_cases h:s="";have e:aZ (a,r) (.c s)=(a,r):=by simp only[aZ,GT h]
  rw[e];refine tV l q i g f d ?_ ap;rw[h];show l++i++(Str.ofString "").cps.toList=_;rw[Ec];simp;by_cases b:0<r.2.2;have e:aZ (a,r) (.c s)=(a++[r],(("",Str.ofString ""++s,0):Xw)):=by simp only[aZ,GM h,GT b]
  rw[e];refine tV _ _ s.cps.toList [] (f.snoc d) (qT [] O ?_ O) ap ap;show s.cps.toList=(Str.ofString ""++s).cps.toList++[];rw[tD];simp;have e:aZ (a,r) (.c s)=(a,(r.1,r.2.1++s,r.2.2)):=by simp only[aZ,GM h,GM b]
  rw[e];obtain⟨k,D,rfl,rfl⟩:=d;have:k=[]:=oZ.mp al;subst this;refine tV l q (r.2.1.cps.toList++s.cps.toList) r.1.cps.toList f (qT [] D (by simp[XE]) ap) ap ap
theorem Zh:∀(s:cr)(e:ul)(r:Xw)(g f l q j i:am),mY e g f->qX r l q->oW j s i->
  ∃Y Z m h,mY (s.foldl aZ (e,r)).1 Y Z/\qX (s.foldl aZ (e,r)).2 m h/\g++l++j=Y++m/\f++q++i=Z++h:=by
 intro s;induction s with
 |nil=>
  intro e r g f l q j i o n k;cases k;exact tV g f l q o n ap ap
 |cons p s x=>
  intro e r g f l q j i o n k;obtain⟨a,b,c,d,zq⟩:=YU (OL k);obtain⟨rfl,rfl,z,y⟩:=l5 zq;obtain⟨Y,Z,m,h,zq⟩:=YU (ae_ o n y);obtain⟨B,A,H,G⟩:=l5 zq;obtain⟨w,v,u,t,zq⟩:=YU (x _ _ Y Z m h b d B A z);obtain⟨D,C,F,E⟩:=l5 zq;refine tV w v u t D C ?_ ?_;rw[<-F,<-H];simp;rw[<-E,<-G];simp
theorem yU(h:oW l p q):oW l (iZ p) q:=by
 obtain⟨i,f,g,d,zq⟩:=YU (Zh p [] ("","",0) [] [] [] [] l q .nil ⟨[],O,O,O⟩ h);obtain⟨b,a,c,e⟩:=l5 zq;have:=(b.snoc a).run;rw[<-c,<-e] at this;exact this
inductive Dv(U:ad)(H:Hp)(Q:VK)(E:XK):Prop|i(c:_)(_:U=[.i c])(_:∀n,0<=n->n<=400->Q (.i n) H)
theorem aff{K:Frag}(U:ad)(H:Hp)(Q:VK)(E:XK)(h:Dv U H Q E):aw (aP K E) JK {nx:=λY I=>Q .a I,r:=Q} (ZQ JJ U) H:=by
 obtain⟨c,rfl,q⟩:=h;refine⟨_,O,by show(0:Int) <8;decide,_,O,?_⟩;refine cT (λY=>?_)<|λY=>?_;exact⟨_,O,⟨ax,ax⟩,by show(0:Int) <401;decide,q _ (Yo _ ax) (by have:=Vy (c / 8) (show(0:Int) <401 by decide);lia)⟩;exact⟨_,O,⟨ax,ax⟩,by show(0:Int) <25;decide,q _ (Yo _ ax) (by have:=Vy (c / 8) (show(0:Int) <25 by decide);lia)⟩
noncomputable def WB:db:=[(.inr "keep",.s "keep"),(.inr "cut",.s "put"),(.inr "put",.s "cut")]
abbrev afg:io:=[("need_change",yF),("neat",yJ)]
inductive Dw(U:ad)(H:Hp)(Q:VK)(E:XK):Prop|i(a Y s:_)(_:U=[.r a])(_:H a=some (.l Y))(_:aX H Y s)(_:(∀p∈s,fh p))(_:ZP "" s=true)(_:s.length<=100000)(_:aG s<=100000)(_:∀b I y,aq H I->H b=none->I b=some (.l y)->aX I y (mS<|cU s)->Q (.r b) I)
abbrev aeF(K:Frag)(p:D9)(E:XK):aV:=aA K afg [("WAYS_BACK",.r p)] [(p,WB)] (E:=E)
theorem afh{K:Frag}(U:ad)(H:Hp)(Q:VK)(E:XK)(h:Dw U H Q E):aw (aeF K p E) JA {nx:=λ_ I=>Q .a I,r:=Q} (ZQ Jz U) H:=by
 obtain⟨a,Y,d,rfl,j,w,Z,X,hl,P,q⟩:=h;refine qF _ O ⟨a,Y,d,O,j,w,Z,X,λH1 z=>?_⟩;have n:=Id w;refine uK _ O a O (qY _ (ak.of<|z _ _ j)) (λi m y L=>m=Y.length - i/\i<=Y.length/\aq H L/\aX L y (cU<|d.take i)) ⟨_,O,Wy _,z,.nil⟩ ?_;rintro i m y L ⟨rfl,hi,f,k⟩;by_cases F:i<Y.length;refine .inr ⟨rP Y (Y[i]) (ak.of<|f _ _ j) (by simp[F]),?_⟩;rintro x A ⟨rfl,J⟩;have V:=J Y (ak.of<|f _ _ j);obtain⟨g,R,G⟩:=w.get V;obtain⟨b,rfl,v⟩:=G.mono (aR f);have yP:=Id k;have N:mI WB (.inr g.word)=some (.s g.qW.word):=by
  cases g<;>first|rfl| (show mI WB _=_;decide+kernel)
 refine q8 b _ O (aM.of v) O ⟨_,O,.inr<|.inr<|.inr ⟨p,WB,.inr g.word,_,O,O,jS.2 O,N,?_⟩⟩;refine qT _ O (by show 2<=sizeLine;decide) (λt M=>tR ?_ (Y.length - (i+1)) al ⟨O,F,f.trans<|Xo M,?_⟩);have:(cU<|d.take i).length=i:=by simp[cU];lia
 exact bR al;have e:cU (d.take<|i+1)=cU (d.take i)++[g.qW]:=by
  rw[Wb,R];simp[cU]
 rw[e];refine(k.mono<|aR<|Xo M).snoc ⟨t,O,?_⟩;rw[au];cases g<;>rfl
 have W:i=Y.length:=cV hi (ZK F)
 subst W;refine .inl ⟨qF Y (ak.of<|f _ _ j) (mZ _),λb v=>?_⟩;have e:cU (d.take Y.length)=cU d:=by rw[n,Ux]
 rw[e] at k;have u:=Xo (o:=.l y) v;refine⟨b,y,cU d,O,au,k.mono<|aR u,by simp[cU];exact Ut hl (VJ _ _),by rw[Dt];exact P,λc A B C S T D=>?_⟩;exact q c A B (f.trans<|u.trans C) ((f.trans u).free S) T D
theorem Dx{x:Str}{a b c:am}(h:x.cps.toList=a++(b++c))(n:Int)(e:n=b.length):mG x (some (a.length:Int)) (some<|(a.length:Int)+n)=⟨b.toArray⟩:=by
 have f:(a.length:Int)+n=((a.length+b.length:Nat):Int):=by rw[e];simp
 delta mG mF;rw[f,HT.qk,HT.qk,h];have l:(a++(b++c)).length=a.length+(b.length+c.length):=by simp
 rw[l];have d:min a.length (a.length+(b.length+c.length))=a.length:=by lia
 have m:min (a.length+b.length) (a.length+(b.length+c.length))=a.length+b.length:=by lia
 rw[d,m,Xk,show a.length+b.length - a.length=b.length by lia,YA]
theorem afi(j:Int)(a:0<=j)(h:j<6):∃n:Int,di [V.i 1,V.i 2,V.i 0,V.i 3,V.i 5,V.i 40] j=some (.i n)/\0<=n/\n<=40:=by
 obtain rfl|rfl|rfl|rfl|rfl|rfl:j=0\/j=1\/j=2\/j=3\/j=4\/j=5:=by lia
 all_goals exact qT _ O ax ax
theorem vM(a b:cr):aG (a++b)=aG a+aG b:=by simp[aG]
abbrev afj:io:=[("_law_mixed",kN),("_law_text",tI)]
theorem OM(s:cr)(h:∀p∈s,eN p):aG (iZ s)=aG s:=by
 have I:=zU s h;have e:iZ s=cB ((s.foldl aZ ([],((Str.ofString "",Str.ofString "",0):Xw))).1++[(s.foldl aZ ([],((Str.ofString "",Str.ofString "",0):Xw))).2]):=O;rw[e,OI,I.aG]
inductive At where|K|P (c:Nat)|C (c:Nat)
 deriving DecidableEq
abbrev ZN:=am×am×List (am×am)
noncomputable def nb:List At->ZN
 |[]=>([],[],[])
 |.P c::Y=>(c::(nb Y).1,(nb Y).2.1,(nb Y).2.2)
 |.C c::Y=>((nb Y).1,c::(nb Y).2.1,(nb Y).2.2)
 |.K::Y=>([],[],((nb Y).1,(nb Y).2.1)::(nb Y).2.2)
def sw:At->At|.K=>.K|.P c=>.C c|.C c=>.P c
noncomputable def jy:am->am->List (am×am)->ZN->ZN
 |p,q,[],F=>(p++F.1,q++F.2.1,F.2.2)
 |p,q,(a,b)::r,F=>(p,q,((jy a b r F).1,(jy a b r F).2.1)::(jy a b r F).2.2)
theorem afk(c:Nat)(p q:am)(r:List (am×am))(F:ZN):jy (c::p) q r F=(c::(jy p q r F).1,(jy p q r F).2.1,(jy p q r F).2.2):=by
 cases r<;>rfl
theorem afl(c:Nat)(p q:am)(r:List (am×am))(F:ZN):jy p (c::q) r F=((jy p q r F).1,c::(jy p q r F).2.1,(jy p q r F).2.2):=by
 cases r<;>rfl
theorem q9:∀(Y y:List At),nb (Y++y)=jy (nb Y).1 (nb Y).2.1 (nb Y).2.2 (nb y):=by
 intro Y y;induction Y with
 |nil=>exact O
 |cons c Y i=>
  cases c with
  |K=>simp only[YZ,nb,i];rfl
  |P c=>simp only[YZ,nb,i,afk]
  |C c=>simp only[YZ,nb,i,afl]
theorem Dy{Y l y j:List At}(h:nb Y=nb l)(a:nb y=nb j):nb (Y++y)=nb (l++j):=by rw[q9,q9,h,a]
theorem QB:∀(p:am),nb (p.map .P)=(p,[],[]):=by
 intro l;induction l with
 |nil=>
  exact O
 |cons c p i=>
  simp only[TB,nb,i]
theorem afn:∀(p:am),nb (p.map .C)=([],p,[]):=by
 intro l;induction l with
 |nil=>
  exact O
 |cons c p i=>
  simp only[TB,nb,i]
theorem afo(p q:am):nb (q.map .C++p.map .P)=nb (p.map .P++q.map .C):=by
 rw[q9,q9,QB,afn];simp[jy]
noncomputable def rK(n:Nat):List At:=List.replicate n .K
end
variable{ps:cr}{most a' b' c' ov:Int}{ys:ad}{t:PySem.Str}
section
open PyProof.Rows
def q_:Pt->List At
 |.k n=>rK n.toNat
 |.p s=>s.cps.toList.map .P
 |.c s=>s.cps.toList.map .C
def bV(ps:cr):List At:=(ps.map q_).flatten
theorem m4(p:Pt)(ps:cr):bV (p::ps)=q_ p++bV ps:=O
theorem vN(ps q:cr):bV (ps++q)=bV ps++bV q:=by simp[bV]
theorem yV(p:Pt):bV [p]=q_ p:=by simp[bV]
def i5:Pt->Prop|.k n=>0<=n|_=>True
theorem afp(h:eN p):i5 p:=by cases p<;>first|exact h|trivial
def kS(s:NS):List At:=bV s.1++((qE s.2.1).cps.toList.map .P++(qE s.2.2).cps.toList.map .C)
theorem ON(m:Str->Pt)(f:Nat->At)(h:∀s,q_ (m s)=s.cps.toList.map f)(x:Str):bV (txt m x)=x.cps.toList.map f:=by
 by_cases a:x="";rw[a,Vc];rfl;rw[cI a,yV,h]
theorem OO(h:cr)(p c:ac):bV (cH h p c)=kS (h,p,c):=by
 delta cH kS;rw[vN,vN,ON .p .P<|λY=>O,ON .c .C<|λY=>O,UR]
theorem CA(m n:Nat):rK m++rK n=rK (m+n):=by delta rK;rw[List.replicate_append_replicate]
theorem afr(c:cr)(n:Int)(f:0<=n)(h:∀p∈c,i5 p):bV (dE c n)=bV c++rK n.toNat:=by
 delta dE;split;rename_i m e;have a:Pt.k m∈c:=UQ e;have y:0<=m:=h _ a;have b:c=c.dropLast++[.k m]:=by
  have N:c≠ []:=by intro z;rw[z] at a;cases a
  rw[List.getLast?_eq_some_getLast N] at e;have d:=Uq e;rw[<-d,List.dropLast_concat_getLast]
 conv=>rhs;rw[b]
 rw[vN,vN,yV,yV,UR];show _++rK (n+m).toNat=_++(rK m.toNat++rK n.toNat);rw[CA,show(n+m).toNat=m.toNat+n.toNat by lia];rw[vN,yV];rfl
theorem OP(h:∀s,i5<|mk s)(x:Str):∀p∈txt mk x,i5 p:=by
 intro p a;delta txt at a;split at a;cases a;rw[jS.mp a];exact h x
theorem OQ{b:cr}(p c:ac)(h:∀p∈b,i5 p):∀q∈cH b p c,i5 q:=by
 intro q a;delta cH at a;rcases U6.mp a with z|z
 rcases U6.mp z with z|z
 exact h q z;exact OP (mk:=.p) (λY=>trivial) _ q z;exact OP (mk:=.c) (λY=>trivial) _ q z
theorem afs{c:cr}{n:Int}(b:0<=n)(h:∀p∈c,i5 p):∀q∈dE c n,i5 q:=by
 intro q a;delta dE at a;split at a;rename_i m e;rcases U6.mp a with z|z
 exact h q ((List.dropLast_sublist c).subset z);rw[jS.mp z];have y:0<=m:=h _ (UQ e);show 0<=n+m;lia;rcases U6.mp a with z|z
 exact h q z;rw[jS.mp z];exact b
theorem aft(s:NS)(p:Pt)(f:i5 p)(h:∀q∈s.1,i5 q):nb (kS<|bT s p)=nb (kS s++q_ p)/\∀q∈ (bT s p).1,i5 q:=by
 obtain⟨b,u,a⟩:=s;cases p with
 |p x=>
  refine⟨?_,h⟩;show nb (bV b++((qE<|u++[x]).cps.toList.map .P++(qE a).cps.toList.map .C))=nb (bV b++((qE u).cps.toList.map .P++(qE a).cps.toList.map .C)++x.cps.toList.map .P);rw[oV,XE,Xn,UR,UR,UR];refine Dy O<|Dy O ?_;exact(afo _ _).symm
 |c x=>
  refine⟨?_,h⟩;show nb (bV b++((qE u).cps.toList.map .P++(qE<|a++[x]).cps.toList.map .C))=nb (bV b++((qE u).cps.toList.map .P++(qE a).cps.toList.map .C)++x.cps.toList.map .C);rw[oV,XE,Xn,UR,UR]
 |k n=>
  have y:0<=n:=f;by_cases d:0<n;have e:bT (b,u,a) (.k n)=(dE (cH b u a) n,[],[]):=GT d;rw[e];refine⟨?_,afs y<|OQ _ _ h⟩;show nb (bV (dE (cH b u a) n)++[])=nb (kS (b,u,a)++rK n.toNat);rw[YS,afr _ _ y<|OQ _ _ h,OO];have e:bT (b,u,a) (.k n)=(b,u,a):=GM d;rw[e];refine⟨?_,h⟩;show _=nb (kS (b,u,a)++rK n.toNat);rw[show n.toNat=0 by lia];show _=nb (_++[]);rw[YS]
theorem afu:∀(ps:cr)(s:NS),(∀p∈ps,i5 p)->(∀q∈s.1,i5 q)->nb (kS<|ps.foldl bT s)=nb (kS s++bV ps):=by
 intro l;induction l with
 |nil=>
  rintro s Y Y;show nb (kS s)=nb (kS s++[]);rw[YS]
 |cons p ps i=>
  rintro s h c;obtain⟨a,b⟩:=aft s p (h p<|.head _) c;show nb (kS<|ps.foldl bT<|bT s p)=_;rw[i _ (λq d=>h q<|.tail _ d) b,m4,<-UR];exact Dy a O
theorem afv(ps:cr)(h:∀p∈ps,i5 p):nb (bV<|mS ps)=nb (bV ps):=by
 delta mS;have e:=afu ps ([],[],[]) h (λq a=>by cases a);generalize ps.foldl bT ([],[],[])=s at e⊢;show nb (bV<|cH s.1 s.2.1 s.2.2)=_;rw[OO];exact e
theorem jz{r:n6}:((k,v)::r).lookup k=some v:=by simp[List.lookup]
theorem dq{j:Str}{r:n6}(h:¬k=j):((j,v)::r).lookup k=r.lookup k:=by
 have:(k==j)=false:=by simpa using h
 simp[List.lookup,this]
theorem afw{r:n6}:bC k v ((k,w)::r)=(k,v)::r:=by simp[bC]
theorem fi{j:Str}{r:n6}(h:¬j=k):bC k v ((j,w)::r)=(j,w)::bC k v r:=by simp[bC,h]
theorem afx{T:Ty}{Q:Fk->Prop}(h:bS T v H P)(i:∀b,P b->Q b):bS T v H Q:=by
 cases v with
 |r a=>
  delta bS at h⊢;simp only at h⊢;cases e:H a with
  |none=>rw[e] at h;cases h
  |some o=>
   rw[e] at h;cases o with
   |b f u=>cases u<;>first|exact i _ h|cases h
   |_=>first|exact i _ h|cases h
 |a=>exact i _ h
 |b b=>exact i _ h
 |i Y=>exact i _ h
 |s Y=>exact i _ h
 |_=>exact False.elim h
theorem afy{T:Ty}(h:bS T v H P)(s:aq H I):bS T v I P:=by
 cases v with
 |r a=>
  delta bS at h⊢;simp only at h⊢;cases e:H a with
  |none=>rw[e] at h;exact h.elim
  |some o=>rw[e] at h;rw[s _ _ e];exact h
 |a=>exact h
 |b b=>exact h
 |i Y=>exact h
 |s Y=>exact h
 |_=>exact False.elim h
def j5(T:Ty)(v:V)(H:Hp):Prop:=bS T v H λb=>b=false
theorem j5.same{T:Ty}(h:j5 T v H)(s:aq H I):j5 T v I:=afy h s
theorem j5.go{T:Ty}{Q:Fk->Prop}(h:j5 T v H)(q:Q false):bS T v H Q:=afx h λb e=>by rw[e];exact q
noncomputable def afz(x:Str):Fk:=x.cps.toList.all λc=>SG.cps.contains c
theorem afA{a:Type}(p:a->Fk):∀l:List a,l.all p=false->(l.takeWhile p).length<l.length:=by
 intro l;induction l with
 |nil=>
  rintro h;cases h
 |cons c l i=>
  rintro h;rw[g4];cases b:p c with
  |false=>simp
  |true=>
   rw[XJ,b,Bool.true_and] at h;have:=i h;simp;exact this
theorem Aa(x y:Str)(h:(x.cps.toList.all λc=>y.cps.contains c)=false):Txt.lstripChars x y≠"":=by
 have t:=afA _ _ h;have d:stripLo y.cps.contains true x=(x.cps.toList.takeWhile y.cps.contains).length:=by
  delta stripLo;rw[GT O]
 have e:∀n,stripHi y.cps.contains false x n=x.length:=λn=>O;intro z;have a:=IR Str.length z;have l:(Str.ofString "").length=0:=O;rw[l] at a;delta Txt.lstripChars Txt.stripBy stripSame stripped at a;rw[d,e] at a;have g:x.cps.size=x.cps.toList.length:=by simp
 split at a;have:x.cps.size=0:=a;exact (Uy _ (Z1 t (WK this))).elim;have b:(x.cps.extract (x.cps.toList.takeWhile y.cps.contains).length x.cps.size).size=0:=a;rw[Array.size_extract,Nat.min_self] at b;have f:x.cps.size - (List.takeWhile (λc=>y.cps.contains c) x.cps.toList).length=0:=b;lia
def rg(v:V)(H:Hp):Prop:=(∃x,v=.s x/\x.length<=1000000/\afz x=false)\/j5 .s v H
theorem rg.same(h:rg v H)(s:aq H I):rg v I:=by
 rcases h with h|h
 exact .inl h;exact .inr (h.same s)
def tK(v:V)(H:Hp):Prop:=(∃b,v=.b b)\/j5 .i v H
theorem tK.same(h:tK v H)(s:aq H I):tK v I:=by
 rcases h with h|h
 exact .inl h;exact .inr (h.same s)
inductive tL(U:ad)(H:Hp)(Q:VK)(E:XK):Prop|i(v:_)(_:U=[v])(_:((∃i,v=.i i/\Q (.b true) H)\/(tK v H/\Q (.b false) H)))
theorem afC{K:Frag}:bw (tL) (λE=>aP K E) Jh iE:=by
 intro U H Q E h;obtain⟨v,rfl,⟨i,rfl,q⟩|⟨⟨b,rfl⟩|n,q⟩⟩:=h;exact⟨_,O,O,_,O,iq (qT _ O O q)⟩;exact⟨_,O,O,_,O,iq (qT _ O O q)⟩;exact qT _ O O (n.go (qF _ O (lM q)))
inductive Dz(U:ad)(H:Hp)(Q:VK)(E:XK):Prop|i(v:_)(_:U=[v])(_:((∃x,v=.s x/\good x/\Q (.b true) H)\/(rg v H/\Q (.b false) H)))
theorem afD{K:Frag}:bw (Dz) (λE=>aY K E) Cg iE:=by
 intro U H Q E h;obtain⟨v,rfl,⟨x,rfl,a,q⟩|⟨⟨x,rfl,l,a⟩|n,q⟩⟩:=h;exact aee _ _ _ _ ⟨x,O,a,q⟩;refine⟨_,O,O,_,O,iq ⟨_,O,O,bQ l,?_⟩⟩;show Q (.b<|false ^^ decide (V.s (Txt.lstripChars x SG)=V.s "")) H;rw[XZ<|λz=>Aa x SG a (by injection z)];exact q;exact qT _ O O (n.go (qF _ O (lM q)))
abbrev afE:io:=[("is_text",Dz)]
inductive tM(C:D9)(U:ad)(H:Hp)(Q:VK)(E:XK):Prop|i(v:_)(_:U=[v])(_:((∃x,v=.s x/\good x/\Q .a H)\/(rg v H/\E (.ref C) none H)))
abbrev c6(K:Frag)(C:D9)(E:XK):aV:=aA K afE [] (et:=[("BadText",C)]) (E:=E)
theorem afF{K:Frag}:bw (tM C) (λE=>c6 K C E) Jj iE:=by
 intro U H Q E h;obtain⟨v,rfl,⟨x,rfl,a,q⟩|⟨n,q⟩⟩:=h;exact qF _ O ⟨_,O,.inl (qT x O a q)⟩;exact qF _ O ⟨_,O,.inr ⟨n,ib,q⟩⟩
inductive tN(K:Frag)(U:ad)(H:Hp)(Q:VK)(E:XK):Prop|i(v p Y:_)(_:U=[v,.r p])(_:aM K H p Y)(_:Y.all iS=true)(_:((∃w,v=.s w/\Q (.b<|e7 (.s w) Y) H)\/(j5 .s v H/\Q (.b false) H)))
theorem afG{K:Frag}:bw (tN K) (λE=>aP K E) Cf Ce:=by
 intro U H Q E h;obtain⟨v,p,Y,rfl,a,f,⟨w,rfl,q⟩|⟨n,q⟩⟩:=h;exact aeg _ _ _ _ ⟨w,p,Y,O,a,f,q⟩;exact qT _ O O (n.go (qF _ O (lM q)))
def afH(v:V)(H:Hp):Prop:=j5 .t v H\/∃a Y,v=.r a/\H a=some (.t Y)/\Y.length<=1000000/\(Y.length≠2\/∃w t,Y=[w,t]/\
 (j5 .s w H\/(∃s,w=.s s/\s≠"keep"/\s≠"cut"/\s≠"put")\/(w=.s "keep"/\(tK t H\/∃n,t=.i n/\n<1))\/((w=.s "cut"\/w=.s "put")/\(rg t H\/t=.s ""))))
abbrev anS(K:Frag):io:=[("is_word",tN K),("is_whole",tL),("is_text",Dz)]
inductive OR(U:ad)(H:Hp)(Q:VK)(E:XK):Prop|i(v:_)(_:U=[v])(_:((∃p,kJ H v p/\fh p/\∀I,aq H I->Q (.b true) I)\/(afH v H/\∀I,aq H I->Q (.b false) I)))
theorem OT(s t:Str):e7 (.s s) [.s t]=(t==s):=by
 delta e7;show(ip (.s t) (.s s)||false)=_;rw[Yg];rfl
abbrev dO(K:Frag)(E:XK):aV:=aA K (anS K) [] (E:=E)
theorem afI{K:Frag}:bw (OR) (λE=>dO K E) ym iE:=by
 intro U H Q E h;have x:∀(a:D9)(w t:V)(S:VK)(f:Hp)(J:St),J[0]?=some (some<|.r a)->f a=some (.t [w,t])->
   (∀(I:D9) L,aq f L->∀b:Fk,(b=true->w=.s "cut"\/w=.s "put")->(b=false->w≠ .s "cut"/\w≠ .s "put")->S (.b b) L)->(j5 .s w f\/∃s,w=.s s)->
   ag (dO K E) (.l 0 [(.i (.v 0)<|.c<|.i 0),(.T [(.c<|.s "cut"),(.c<|.s "put")])]) J f S:=by
  intro a w t S f J h0 m q j;refine qF _ h0 (.inr<|.inl ⟨_,_,_,_,O,O,aM.of m,O,c_,λt ht=>?_⟩);have g:=Xo (o:=.t [V.s "cut",V.s "put"]) ht;refine⟨w,t,_,O,aM.of au,O,?_⟩;rcases j with j|⟨s,rfl⟩
  refine .inr ⟨j.same g,q t _ g false (λz=>by cases z) λ_=>⟨?_,?_⟩⟩;rintro rfl;cases (show true=false from j);rintro rfl;cases (show true=false from j);refine .inl (qF s O (q t _ g _ (λz=>?_) λz=>?_));have u:((Str.ofString "cut"==s)||((Str.ofString "put"==s)||false))=true:=z;simp only[Yg,Bool.or_eq_true,Wp] at u;rcases u with u|u<;>subst u
  exact .inl O;exact .inr O;have u:((Str.ofString "cut"==s)||((Str.ofString "put"==s)||false))=false:=z;simp only[Yg,Zy,beq_eq_false_iff_ne] at u;exact⟨λy=>u.1 (by injection y with y;exact y.symm),λy=>u.2 (by injection y with y;exact y.symm)⟩
 obtain⟨v,rfl,⟨p,⟨a,rfl,m⟩,B,q⟩|⟨hn|⟨a,Y,rfl,m,hl,d⟩,q⟩⟩:=h;refine qT _ O O (CV m (qF _ O (.inr (rL _ (aM.of m) _ O ?_))));refine qF _ O (.inr<|.inl ⟨_,_,_,_,O,O,aM.of m,O,ib,λA X=>?_⟩);have e:=Xo (o:=.t [V.s "keep"]) X;refine⟨.s p.word,A,[.s "keep"],O,aM.of au,O,.inl (qF p.word O ?_)⟩;have Z:=e _ _ m;generalize upd H A (.t [V.s "keep"])=f at e Z;have R':∀(s:Str),good s->s≠""->f a=some (.t [.s p.word,.s s])->p.word="put"\/p.word="cut"->aw (dO K E) (ym.drop 2) (Dn Q) (ZQ iE [.r a]) f:=by
  intro s gs ns hs j;refine x a (.s p.word) (.s s) _ f _ O hs (λI L g b M D=>?_)<|.inr ⟨_,O⟩;have C:b=true:=by
   cases b with
   |true=>rfl
   |false=>
    obtain⟨G,F⟩:=D O;rcases j with z|z
    exact absurd (IR V.s z) F;exact absurd (IR V.s z) G
  subst C;have W:=g _ _ hs;refine qF _ O (iq (qF _ O (.inr<|.inl ⟨_,_,_,_,O,O,aM.of W,O,.s s,O,.inl ⟨s,O,gs,_,O,?_⟩⟩)));refine iq (qF _ O (.inr<|.inl ⟨_,_,_,_,O,O,aM.of W,O,?_⟩));show Q (.b<|true ^^ decide (V.s s=V.s "")) _;rw[XZ<|λz=>ns (by injection z)];exact q _<|e.trans g
 cases p with
 |k n=>
  rw[show e7 (.s (Pt.k n).word) [.s "keep"]=true by show e7 (.s "keep") [.s "keep"]=true;decide];refine qF _ O (.inr<|.inl ⟨_,_,_,_,O,O,aM.of Z,O,.i n,O,.inl ⟨n,O,_,O,?_⟩⟩);refine iq (qF _ O (.inr<|.inl ⟨_,_,_,_,O,O,aM.of Z,O,trivial,?_⟩));show Q (.b<|decide<|1<=n) f;rw[ZA (show(1:Int)<=n from B)];exact q _ e
 |p s=>
  rw[show e7 (.s (Pt.p s).word) [.s "keep"]=false by show e7 (.s "put") [.s "keep"]=false;decide];exact R' s B.1 B.2 Z<|.inl O
 |c s=>
  rw[show e7 (.s (Pt.c s).word) [.s "keep"]=false by show e7 (.s "cut") [.s "keep"]=false;decide];exact R' s B.1 B.2 Z<|.inr O
 exact qT _ O O (hn.go<|q _<|aq.refl _);refine qT _ O O (CV m (qF _ O (.inr (rL _ (aM.of m) _ O ?_))));show if (true ^^ decide (V.i (Y.length:Int)=V.i 2))=true then _ else _
 rcases d with d|⟨w,t,rfl,d⟩
 rw[XZ<|λz=>d (by injection z with z;lia)];exact q _<|aq.refl _;refine qF _ O (.inr<|.inl ⟨_,_,_,_,O,O,aM.of m,O,ib,λA X=>?_⟩);have e:=Xo (o:=.t [V.s "keep"]) X;refine⟨w,A,[.s "keep"],O,aM.of au,O,?_⟩;have Z:=e _ _ m;generalize upd H A (.t [V.s "keep"])=f at e Z;have no:(j5 .s w f\/∃s,w=.s s)->w≠ .s "cut"->w≠ .s "put"->aw (dO K E) (ym.drop 2) (Dn Q) (ZQ iE [.r a]) f:=by
  intro j P N;refine x a w t _ f _ O Z (λI L g b M D=>?_) j;have C:b=false:=by
   cases b with
   |false=>rfl
   |true=>rcases M rfl with z|z;exact absurd z P;exact absurd z N
  subst C;exact qF _ O (lM<|q _<|e.trans g)
 rcases d with d|⟨s,rfl,n0,P,N⟩|⟨rfl,d⟩|⟨j,d⟩
 refine .inr ⟨d.same e,no (.inl<|d.same e) ?_ ?_⟩;rintro rfl;cases (show true=false from d);rintro rfl;cases (show true=false from d);refine .inl (qF s O ?_);rw[OT,beq_eq_false_iff_ne.mpr<|KK n0];exact no (.inr (qY s O)) (λz=>P (by injection z))<|λz=>N (by injection z);refine .inl (qF _ O ?_);rw[show e7 (.s "keep") [.s "keep"]=true by decide];refine qF _ O (.inr<|.inl ⟨_,_,_,_,O,O,aM.of Z,O,t,O,?_⟩);rcases d with d|⟨n,rfl,hn⟩
 exact .inr (tR (d.same e) _ O (lM<|q _ e));refine .inl (rL n O _ O (iq (qF _ O (.inr<|.inl ⟨_,_,_,_,O,O,aM.of Z,O,trivial,?_⟩))));show Q (.b<|decide<|1<=n) f;rw[XZ al];exact q _ e;have R:∃s,w=.s s/\(Str.ofString "keep"==s)=false:=by
  rcases j with rfl|rfl
  exact qF _ O ax;exact qF _ O ax
 obtain⟨s,rfl,hk⟩:=R;refine .inl (qF s O ?_);rw[OT,hk];refine x a (.s s) t _ f _ O Z (λI L g b M D=>?_)<|.inr ⟨s,O⟩;have C:b=true:=by
  cases b with
  |true=>rfl
  |false=>
   obtain⟨G,F⟩:=D O;rcases j with z|z
   exact absurd z G;exact absurd z F
 subst C;have gN:=g _ _ Z;refine qF _ O (iq (qF _ O (.inr<|.inl ⟨_,_,_,_,O,O,aM.of gN,O,t,O,?_⟩)));rcases d with d|rfl
 exact .inr (tR (d.same<|e.trans g) _ O (lM<|q _<|e.trans g));refine .inl (rE _ O ⟨ax,λc hc=>by cases hc⟩ _ O (iq (qF _ O (.inr<|.inl ⟨_,_,_,_,O,O,aM.of gN,O,?_⟩))));exact q _<|e.trans g
theorem afK(h:CY U H Q E):OR U H Q E:=by
 obtain⟨v,p,rfl,a,o,q⟩:=h;exact⟨_,O,.inl ⟨p,a,o,q⟩⟩
section
variable{B:aV}{D:Xt}{J:St}{H:Hp}{r:bv}{Q:VK}{c:ad->Hp->Prop}{QT:tz}
theorem ae{i:Nat}(h:J[i]?=some (some v))(q:Q v H):ag B (.v i) J H Q:=⟨_,h,q⟩
theorem ah(q:Q v H):ag B (.c v) J H Q:=q
theorem m5(q:Q (B.gv j) H):ag B (.g j) J H Q:=q
theorem aI{b:RE}(h:ag B a J H λx c=>ag B b J c λy L=>lO B.K o x y L Q):ag B (.b o a b) J H Q:=h
theorem fj{b:RE}(h:ag B a J H λx c=>ag B b J c λy L=>bW B.K o x y L Q):ag B (.p o a b) J H Q:=h
theorem aD{b:RE}(h:ag B a J H λx c=>ag B b J c λy L=>oo B.K B.sd x y L Q):ag B (.i a b) J H Q:=h
theorem afL(h:aO B as J H λU a=>B.fs j (U++[]) a Q B.E):ag B (.l j as) J H Q:=h
theorem aC(s:Sp)(b:B.fs j=s)(h:aO B as J H λU a=>s U a Q B.E):ag B (.l j as) J H Q:=by
 subst b;refine afL ?_;have e:(fun(U:ad)(a:Hp)=>B.fs j (U++[]) a Q B.E)=λU a=>B.fs j U a Q B.E:=by
  funext U a;rw[YS]
 rw[e];exact h
theorem i6{b:mH}(h:aO B as J H λU a=>jO B.K b U a Q):ag B (.t b as) J H Q:=h
theorem eO(h:aO B as J H λY a=>Y.length<=sizeLine/\∀p,a p=none->Q (.r p) (upd a p<|.t Y)):ag B (.T as) J H Q:=h
theorem du(h:aO B as J H λY a=>Y.length<=sizeLine/\∀p,a p=none->Q (.r p) (upd a p<|.l Y)):ag B (.L as) J H Q:=h
theorem ao(q:c [] H):aO B [] J H c:=q
theorem af(h:ag B a J H λx b=>aO B as J b λY L=>c (x::Y) L):aO B (a::as) J H c:=h
theorem aJ(h:ag B e J H λx b=>aw B r D (J.set i<|some x) b):aw B (.a i e::r) D J H:=h
theorem eQ(h:ag B e J H λY a=>aw B r D J a):aw B (.d e::r) D J H:=h
theorem aS(h:ag B e J H D.r):aw B (.r e::r) D J H:=h
end
theorem oW.good(h:oW l ps r)(a:∀c∈l,SG.cps.contains c=true)(b:∀p∈ps,Ds p):∀c∈r,SG.cps.contains c=true:=by
 induction h with
 |N=>exact a
 |k e Y i=>
  intro c g;rcases U6.mp g with z|z
  exact a c (U6.mpr<|.inl z);exact i (λd f=>a d<|U6.mpr<|.inr f) (λp h=>b p<|.tail _ h) c z
 |t Y i=>
  intro c g;rcases U6.mp g with z|z
  exact(b _ (.head _):sg _) c z;exact i a (λp h=>b p<|.tail _ h) c z
 |C Y i=>exact i (λd f=>a d<|U6.mpr<|.inr f) (λp h=>b p<|.tail _ h)
theorem oW.len(h:oW l ps r):r.length<=l.length+aG ps:=by
 induction h with
 |N=>simp
 | @k a l r n ps e _ i=>
  have:aG (.k n::ps)=0+aG ps:=by simp[aG,dX]
  simp only[Zw];lia
 | @t s l r ps _ i=>
  have:aG (.p s::ps)=s.length+aG ps:=by simp[aG,dX]
  have e:=Wj s;simp only[Zw];lia
 | @C s l r ps _ i=>
  have:aG (.c s::ps)=s.length+aG ps:=by simp[aG,dX]
  simp only[Zw];lia
theorem afM(k:Nat)(n:Int)(m:Nat)(a:n=m):mG x (some (k:Int)) (some<|(k:Int)+n)=⟨((x.cps.toList.drop k).take m).toArray⟩:=by
 have e:(k:Int)+n=((k+m:Nat):Int):=by rw[a];simp
 delta mG mF;rw[e,HT.qk,HT.qk];congr 1;by_cases h:k<=x.cps.toList.length;rw[show min k x.cps.toList.length=k by lia];by_cases b:k+m<=x.cps.toList.length;rw[show min (k+m) x.cps.toList.length=k+m by lia,Nat.add_sub_cancel_left];rw[show min (k+m) x.cps.toList.length=x.cps.toList.length by lia,Vo (by rw[Xh];exact mZ _),Vo (by rw[Xh];lia)];rw[show min k x.cps.toList.length=x.cps.toList.length by lia,List.drop_length,Tj (Yl (VT h)),List.take_nil,List.take_nil]
inductive vO(U:ad)(H:Hp)(Q:VK)(E:XK):Prop|i(x a Y ps r:_)(_:U=[.s x,.r a])(_:good x)(_:H a=some (.l Y))(_:aX H Y ps)(_:(∀p∈ps,CQ p))(_:oW x.cps.toList ps r)(_:r.length<=1000000)(_:Q (.s ⟨r.toArray⟩) H)
theorem afN{K:Frag}:bw (vO) (λE=>aP K E) JS aeM:=by
 intro U H Q E h;obtain⟨x,a,Y,ps,r,rfl,W,N,R,aB,X,I,q⟩:=h;have j:=Id R;refine tY _ O a O (qY _ (ak.of N)) (ic (K:=K) (a:=a) (xs:=Y) (λi J L=>V0 λl z d u w v=>YY (J=[some (.s x),some (.r a),some (.s ⟨d.toArray⟩),some (.i ((l.length:Nat):Int)),w,v]) (L=H) (x.cps.toList=l++z) (r=d++u) (oW z (ps.drop i) u))
 ⟨[],x.cps.toList,[],r,none,none,O,O,O,O,X⟩ (by rintro i J L _ ⟨_,_,_,_,_,_,_,e,_,_,_⟩;exact e ▸ ak.of N) ?_ ?_)
 rintro i y J L Z ⟨l,z,d,u,w,v,rfl,rfl,m,f,t⟩;obtain⟨B,D,b,rfl,hb⟩:=R.get Z;have P:i<ps.length:=(ZX.mp D).1;have ed:ps.drop i=B::ps.drop (i+1):=by
  rw[Tz P];congr 1;exact Uq<|(VP P).symm.trans D
 rw[ed] at t;obtain⟨g,T,S,A,rfl,rfl,F,o⟩:=OL t;have C:=aB B (zG D);have G:d.length+S.length<=1000000:=by rw[f] at I;simp at I;lia
 refine tH b _ O (.inl<|aM.of hb) O _ _ O _ _ O O ?_;cases B with
 |p s=>
  obtain⟨rfl,rfl⟩:=o;refine⟨_,O,_,O,_,O,_,O,bQ (by rw[Wj,Wj];exact G),?_⟩;refine⟨l,T,d++s.cps.toList,A,some<|.s "put",some<|.s s,?_,O,m,by rw[f];simp,F⟩;show[_,_,some<|V.s<|⟨d.toArray⟩++s,_,_,_]=_;rw[show(⟨d.toArray⟩++s:Str)=⟨(d++s.cps.toList).toArray⟩ from iY (by rw[XE])];rfl
 |c s=>
  obtain⟨rfl,rfl⟩:=o;refine⟨_,O,_,O,_,O,_,O,_,O,_,O,bQ C,?_⟩;refine⟨l++s.cps.toList,T,d,A,some<|.s "cut",some<|.s s,?_,O,by rw[m];simp,f,F⟩;show[_,_,_,some<|V.i<|(l.length:Int)+(s.length:Int),_,_]=_;rw[Zw,<-Wj,UW];rfl
 |k n=>
  obtain⟨rfl,M⟩:=o;refine⟨_,O,_,O,_,O,_,O,?_⟩;refine sV _ O _ O _ O ⟨_,O,_,O,_,O,_,O,bQ W.1,?_⟩;rw[Dx m n M];refine⟨bQ (by rw[Wj,Wj];exact G),?_⟩;refine rL _ O _ O ?_;refine⟨l++g,T,d++g,A,some<|.s "keep",some<|.i n,?_,O,by rw[m];simp,by rw[f];simp,F⟩;show[_,_,some<|V.s<|⟨d.toArray⟩++ ⟨g.toArray⟩,some<|V.i<|(l.length:Int)+n,_,_]=_;rw[show(⟨d.toArray⟩++ ⟨g.toArray⟩:Str)=⟨(d++g).toArray⟩ from iY (by rw[XE]),Zw,M,UW];rfl
 rintro J L ⟨l,z,d,u,w,v,rfl,rfl,m,f,t⟩;rw[j,List.drop_length] at t;cases t;rw[YS] at f;subst f;exact qF _ O q
section
variable{B:aV}{D:Xt}{J:St}{H:Hp}{r:bv}{Q:VK}{QA:ad->Hp->Prop}{d:tz}
theorem g_(C:D9)(s:Sp)(c:B.ms j=(C,s))(h:ag B o J H λx b=>∃a dx f,x=.r a/\b a=some (.i C dx f)/\f.lookup m=none/\s [x] b Q B.E):ag B (.a j m o []) J H Q:=by
 show qe (B.ms j).1 m (B.ms j).2 [] B.E (ag B o) (aO B []) J H Q;rw[c];exact h
theorem fZ(C:D9)(s:Sp)(c:B.ms j=(C,s))(h:ag B o J H λx b=>∃p dx f,x=.r p/\b p=some (.i C dx f)/\f.lookup m=none/\ag B a J b λy L=>s [x,y] L Q B.E):ag B (.a j m o [a]) J H Q:=by
 show qe (B.ms j).1 m (B.ms j).2 [] B.E (ag B o) (aO B [a]) J H Q;rw[c];exact h
theorem afP(C:D9)(s:Sp)(c:B.kt j=(C,s))(h:ag B a J H λy b=>∀x dx,b x=none->b dx=none->dx≠x->s [.r x,y] (upd (upd b dx<|.o x) x<|.i C dx []) (λv L=>v=.a/\Q (.r x) L) B.E):ag B (.m j [a]) J H Q:=by
 show sx (B.kt j).1 (B.kt j).2 [] B.E (aO B [a]) J H Q;rw[c];exact h
theorem vP(W:Nat->St->Hp->Prop)(e:∃m,W m J H)(h:∀m J H,W m J H->bj B c J H λb d=>if b=true then ∃N:St->Hp->Prop,(∀L I,N L I->∃a,a<m/\W a L I)/\aw B body {{D with nx:=aw B r D} with nx:=N,c:=N,bk:=aw B r D} J d else aw B r D J d):aw B (.l c body::r) D J H:=⟨W,e,h⟩
theorem bh{t e:bv}(h:bj B c J H λb a=>if b=true then aw B t {D with nx:=aw B r D} J a else aw B e {D with nx:=aw B r D} J a):aw B (.i c t e::r) D J H:=h
theorem bf{b:RE}(h:ag B a J H λx e=>ag B b J e λy L=>bW B.K o x y L λz c=>∃k,z=.b k/\d k c):bj B (.p o a b) J H d:=h
theorem fk(h:ag B o J H λx b=>∃a C dx s v,x=.r a/\b a=some (.i C dx s)/\fP B.K C/\eY B.K C f/\s.lookup f=some v/\Q v b):ag B (.f o f) J H Q:=h
theorem gC(h:ag B o J H λx b=>sy B.K (xS m) x b/\ag B a J b λy L=>sS B.K m x [y] L Q):ag B (.Y m o [a]) J H Q:=h
theorem m7{K:Frag}(q:Q (.b<|x==y) H):bW K .Eq (.s x) (.s y) H Q:=by
 show Q (.b<|false ^^ decide (V.s x=V.s y)) H;rw[YN,ie];exact q
theorem kT{K:Frag}(q:Q (.b<|x !=y) H):bW K .NotEq (.s x) (.s y) H Q:=by
 show Q (.b<|true ^^ decide (V.s x=V.s y)) H;rw[VR,ie];exact q
end
theorem afQ{K:Frag}{b:D9}{g:TG}{j:TS}(w:Y.length=ys.length)(P:Nat->St->Hp->Prop)(v:P 0 J H)(o:∀i J H,P i J H->ak K H a Y/\ak K H b ys)(s:∀i x y J H T,Y[i]?=some x->ys[i]?=some y->P i J H->H T=none->g (.r T) J (upd H T<|.t [x,y]) λd L=>j {D with nx:=P (i+1),c:=P (i+1),bk:=D.nx} d L)(n:∀J H,P Y.length J H->D.nx J H):
  ∃W:Nat->Nat->St->Hp->Prop,(∃m,W 0 m J H)/\∀i m J H,W i m J H->
   ((ky K a b).stop i H/\D.nx J H)\/((ky K a b).go i H/\∃N:St->Hp->Prop,(∀h I,N h I->∃k,k<m/\W (i+1) k h I)/\∀x I,(ky K a b).dH i H x I->g x J I λd L=>j {D with nx:=N,c:=N,bk:=D.nx} d L):=by
 refine qF (λi m J H=>m=Y.length - i/\i<=Y.length/\P i J H) (qT Y.length ap (Wy _) v) ?_;rintro i m J H ⟨rfl,z,p⟩;obtain⟨f,q⟩:=o i J H p;by_cases F:i<Y.length;have B:i<ys.length:=Z1 F (WK w)
 refine .inr (tR (q8 Y ys f q F B) (P<|i+1) (λh I l=>tG (Y.length - (i+1)) al O F l) (λx I y=>?_));obtain⟨T,u,rfl,y⟩:=y;have e:=y Y ys Y[i] ys[i] f q (by simp[F]) (by simp[B]);subst e;exact s i Y[i] ys[i] J H T (by simp[F]) (by simp[B]) p u;have e:i=Y.length:=cV z (ZK F)
 subst e;exact .inl ⟨rC Y ys f q al,n J H p⟩
theorem Zf(ps:cr):bV (cU ps)=(bV ps).map sw:=by
 induction ps with
 |nil=>rfl
 |cons p ps i=>
  have e:cU (p::ps)=p.qW::cU ps:=O;rw[e,m4,m4,Xn,i];congr 1;cases p with
  |k n=>show rK n.toNat=(rK n.toNat).map sw;delta rK;rw[List.map_replicate];rfl
  |p s=>show s.cps.toList.map At.C=(s.cps.toList.map At.P).map sw;rw[Ti];rfl
  |c s=>show s.cps.toList.map At.P=(s.cps.toList.map At.C).map sw;rw[Ti];rfl
structure yZ(ps:cr)(l r:am):Prop where
 ok:∀p∈ps,fh p
 ch:ZP "" ps=true
 run:oW l ps r
def bk(ps:cr):cr:=mS (cU ps)
theorem yZ.bk(h:yZ ps l r)(t:aG ps<=100000):yZ (bk ps) r l/\aG (bk ps)=aG ps/\(bk ps).length<=3*ps.length+2/\nb (bV<|bk ps)=nb ((bV ps).map sw):=by
 have a:=ae8 h.ok t;have v:=ae4 a;have o:aG (cU ps)<=100000:=by rw[Dt];exact t
 obtain⟨d,g,Y⟩:=yT (cU ps) v o;have q:=vL (cU ps) v;have e:=OJ (cU ps);have b:(cU ps).length=ps.length:=by simp[cU]
 have U:=afv (cU ps) λp c=>afp (v p c);rw[Zf] at U;refine⟨⟨?_,?_,?_⟩,?_,?_,U⟩;delta Internal.bk;rw[q];exact g;delta Internal.bk;rw[q];exact d;delta Internal.bk;rw[q];exact yU h.run.qW;delta Internal.bk;rw[q,OM _ v,Dt];delta Internal.bk;lia
end
inductive Tr where
 |nil|node (l:Tr) (a b c:Int) (r:Tr)
namespace Tr
noncomputable def h:Tr->Int
 |nil=>0
 |node l _ _ _ r=>1+(if r.h>l.h then r.h else l.h)
noncomputable def sz:Tr->Int
 |nil=>0
 |node l _ b _ r=>l.sz+b+r.sz
def en:Tr->Int
 |nil=>0
 |node l _ _ c r=>l.en+c+r.en
def ai:Tr->List (Int×Int×Int)
 |nil=>[]
 |node l a b c r=>l.ai++(a,b,c)::r.ai
def ok:Tr->Prop
 |nil=>True
 |node l _ _ _ r=>l.ok/\r.ok/\l.h<=r.h+1/\r.h<=l.h+1
theorem h0:∀t:Tr,0<=t.h
 |nil=>TM _
 |node l _ _ _ r=>by
  have:=h0 l;have:=h0 r;show 0<=1+(if r.h>l.h then r.h else l.h)
  split<;>lia
theorem tP:∀{t:Tr},0<t.h->∃l a b c r,t=node l a b c r
 |nil,h=>absurd h ax
 |node l a b c r,_=>⟨l,a,b,c,r,O⟩
theorem gE(l:Tr)(a b c:Int)(r:Tr):(node l a b c r).h=1+(if r.h>l.h then r.h else l.h):=O
theorem afU:∀{t:Tr}(n:Nat),t.ok->(n:Int)<=t.h->2 ^ (n / 2)<=t.ai.length+1:=by
 intro t;induction t with
 |nil=>
  intro n Y d;have:(n:Int)<=0:=d;obtain rfl:n=0:=by lia
  decide
 |node l a b c r e i=>
  intro n m d;obtain⟨f,o,j,g⟩:=m;rw[gE] at d;simp only[ai,Zw,Xm];rcases n with Y|Y|n
  simp;simp;rw[show(n+1+1) / 2=n / 2+1 by lia,Nat.pow_succ];have k:(n:Int)<=l.h/\(n:Int)<=r.h:=by
   clear e i f o;split at d<;>lia
  have e:=e n f k.1;have i:=i n o k.2;clear d j g k;lia
theorem j6{t:Tr}(o:t.ok)(n:t.ai.length<=4000):t.h<=23:=by
 by_cases a:t.h<=23;exact a;have:=afU 24 o al;lia
structure lX(l:Tr)(a b c:Int)(r t:Tr):Prop where
 ok:t.ok
 ai:t.ai=l.ai++(a,b,c)::r.ai
 near:l.h<=r.h+1->r.h<=l.h+1->t.h=1+(if r.h>l.h then r.h else l.h)
 lo:l.h<=t.h/\r.h<=t.h
 hi:t.h<=l.h+1\/t.h<=r.h+1
theorem OV{l r:Tr}{b:Int}(d:l.ok)(o:r.ok)(f:l.h<=r.h+1)(e:r.h<=l.h+1):lX l a b c r (node l a b c r):=by
 refine⟨⟨d,o,f,e⟩,O,λY Y=>O,?_,?_⟩
 all_goals rw[gE];split<;>lia
theorem hA{l r:Tr}{b n:Int}(h:r.h<=l.h)(e:l.h=n):(node l a b c r).h=n+1:=by
 rw[gE,GM<|Int.not_lt.mpr h,e,Ub]
theorem hB{l r:Tr}{b n:Int}(h:l.h<=r.h)(e:r.h=n):(node l a b c r).h=n+1:=by
 rw[gE];split;rw[e,Ub];rename_i g;rw[Int.le_antisymm h<|Int.not_lt.mp g,e,Ub]
theorem iA{n:Int}:n+2<=n+1+1/\n<=n+1+1/\n+1+1<=n+2+1/\ ¬n+2<=n+1:=by lia
theorem OW{y r:Int}(e:r+2=1+x)(h:y<=x)(p:x<=y+1):(r<=y/\x<=y+1)/\(y<=r+1/\r<=y+1)/\(x<=y+1+1/\y+1<=x+1)/\(r+2<=y+1+1/\r<=y+1+1)/\y+1+1<=r+2+1:=by lia
theorem OX{j r n:Int}(e:r+2=1+n)(h:x<n)(p:n<=x+1)(a:n=1+(if j>i then j else i))(b:i<=j+1)(q:j<=i+1):x=r/\(i<=x/\j<=x)/\(x<=i+1/\i<=x+1)/\j<=x+1/\x<=j+1:=by split at a<;>lia
theorem afV{ll l r:Tr}{b:Int}(m:(node ll a b c l).ok)(o:r.ok)(d:(node ll a b c l).h=r.h+2)(e:l.h<=ll.h):
  lX (node ll a b c l) a' b' c' r (node ll a b c<|node l a' b' c' r):=by
 obtain⟨k,j,p,y⟩:=m;have i:=gE ll a b c l;rw[d,GM<|Int.not_lt.mpr e] at i;obtain⟨⟨w,v⟩,u,t,s,n⟩:=V_ (OW i e p);have f:(node l a' b' c' r).h=l.h+1:=hA w O;have g:(node ll a b c<|node l a' b' c' r).h=l.h+1+1:=hB (by rw[f];exact v) f;refine⟨⟨k,⟨j,o,u⟩,?_⟩,by simp[ai],λq x=>?_,?_,.inl ?_⟩;rw[f];exact t;rw[d] at q;exact absurd q iA.2.2.2;rw[g,d];exact s;rw[g,d];exact n
theorem afW{ll l r:Tr}{b y:Int}(A:(node ll a b c<|node l x y z i).ok)(w:r.ok)(d:(node ll a b c<|node l x y z i).h=r.h+2)(g:ll.h< (node l x y z i).h):
  lX (node ll a b c<|node l x y z i) a' b' c' r (node (node ll a b c l) x y z<|node i a' b' c' r):=by
 obtain⟨v,⟨t,s,o,p⟩,E,u⟩:=l5 A;have n:=gE ll a b c (node l x y z i);rw[d,GT g] at n;obtain⟨k,e,C,B⟩:=l5 (OX n g u (gE l x y z i) o p);have f:(node ll a b c l).h=r.h+1:=hA e.1 k;have m:(node i a' b' c' r).h=r.h+1:=hB (by rw[<-k];exact e.2) O;have j:(node (node ll a b c l) x y z<|node i a' b' c' r).h=r.h+1+1:=hA (by rw[f,m];exact TM _) f;refine⟨⟨⟨v,t,C⟩,⟨s,w,by rw[<-k];exact B⟩,?_⟩,by simp[ai],λq D=>?_,?_,.inl ?_⟩;rw[f,m];exact⟨lZ<|Int.lt_succ _,lZ<|Int.lt_succ _⟩;rw[d] at q;exact absurd q iA.2.2.2;rw[j,d];exact⟨iA.1,iA.2.1⟩;rw[j,d];exact iA.2.2.1
theorem afX{l r:Tr}{b:Int}(t:l.ok)(s:(node r a' b' c' d).ok)(e:(node r a' b' c' d).h=l.h+2)(j:r.h<=d.h):
  lX l a b c (node r a' b' c' d) (node (node l a b c r) a' b' c' d):=by
 obtain⟨o,n,z,p⟩:=s;have x:l.h+2=1+d.h:=by rw[<-e,hB j O,Ub]
 obtain⟨⟨w,v⟩,i,g,k,u⟩:=V_ (OW x j p);have f:(node l a b c r).h=r.h+1:=hB w O;have m:(node (node l a b c r) a' b' c' d).h=r.h+1+1:=hA (by rw[f];exact v) f;refine⟨⟨⟨t,o,i.2,i.1⟩,n,?_⟩,by simp[ai],λy q=>?_,?_,.inr ?_⟩;rw[f];exact⟨g.2,g.1⟩;rw[e] at q;exact absurd q iA.2.2.2;rw[m,e];exact⟨k.2,k.1⟩;rw[m,e];exact u
theorem afY{l r:Tr}{b y:Int}(B:l.ok)(A:(node (node d x y z i) a' b' c' r).ok)(e:(node (node d x y z i) a' b' c' r).h=l.h+2)(j:r.h< (node d x y z i).h):
  lX l a b c (node (node d x y z i) a' b' c' r) (node (node l a b c d) x y z<|node i a' b' c' r):=by
 obtain⟨⟨u,t,s,p⟩,w,v,F⟩:=l5 A;have o:=gE (node d x y z i) a' b' c' r;rw[e,GM<|Int.not_lt.mpr<|lZ j] at o;obtain⟨k,g,D,C⟩:=l5 (OX o j v (gE d x y z i) s p);have f:(node l a b c d).h=l.h+1:=hA (by rw[<-k];exact g.1) O;have n:(node i a' b' c' r).h=l.h+1:=hB g.2 k;have m:(node (node l a b c d) x y z<|node i a' b' c' r).h=l.h+1+1:=hA (by rw[f,n];exact TM _) f;refine⟨⟨⟨B,u,by rw[<-k];exact D⟩,⟨t,w,C⟩,?_⟩,by simp[ai],λE q=>?_,?_,.inr ?_⟩;rw[f,n];exact⟨lZ<|Int.lt_succ _,lZ<|Int.lt_succ _⟩;rw[e] at q;exact absurd q iA.2.2.2;rw[m,e];exact⟨iA.2.1,iA.1⟩;rw[m,e];exact iA.2.2.1
structure Jn(l:Tr)(a b c:Int)(r t:Tr):Prop where
 ok:t.ok
 ai:t.ai=l.ai++(a,b,c)::r.ai
 lo:l.h<=t.h/\r.h<=t.h
 hi:t.h<=l.h+1\/t.h<=r.h+1
theorem afZ{l r:Tr}{b:Int}(d:l.ok)(o:r.ok)(f:l.h<=r.h+1)(e:r.h<=l.h+1):Jn l a b c r (node l a b c r):=
 let L:=OV (a:=a) (b:=b) (c:=c) d o f e
 ⟨L.ok,L.ai,L.lo,L.hi⟩
theorem jv{y r j t n:Int}(e:n=1+x/\y<=x\/n=1+y/\x<=y)(m:r+1<n)(h:x<=y+1)(p:y<=x+1)(k:y<=j/\r<=j)(i:j<=y+1\/j<=r+1)(g:x<=t/\j<=t)(f:t<=x+1\/t<=j+1)(c:x<=j+1->j<=x+1->t=1+x\/t=1+j)(l:x<=j+1->j<=x+1->1+x<=t/\1+j<=t):(n<=t/\r<=t)/\t<=n+1:=by
 by_cases d:x<=j+1;by_cases q:j<=x+1;have a:=c d q;have b:=l d q;clear g f c l;lia;clear c l;lia;clear c l;lia
theorem DC{y:Int}:((1:Int)+(if y>x then y else x)=1+x/\y<=x)\/((1:Int)+(if y>x then y else x)=1+y/\x<=y):=by
 split;exact .inr ⟨O,lZ ‹_›⟩;exact .inl ⟨O,Int.not_lt.mp ‹_›⟩
theorem y9{y t:Int}(h:t=1+(if y>x then y else x)):(t=1+x\/t=1+y)/\1+x<=t/\1+y<=t:=by
 subst h;rcases DC (x:=x) (y:=y) with⟨e,g⟩|⟨e,g⟩ <;>rw[e]
 exact⟨.inl O,TM _,Int.add_le_add_left g 1⟩;exact⟨.inr O,Int.add_le_add_left g 1,TM _⟩
theorem af0{ll l r j t:Tr}{b:Int}(o:(node ll a b c l).ok)(e:r.h+1< (node ll a b c l).h)(J:Jn l a' b' c' r j)(L:lX ll a b c j t):
  Jn (node ll a b c l) a' b' c' r t:=by
 obtain⟨g,f,d,p⟩:=o;have k:=jv (by rw[gE];exact DC) e d p J.lo J.hi L.lo L.hi (λa b=>(y9<|L.near a b).1) λa b=>(y9<|L.near a b).2;exact⟨L.ok,by rw[L.ai,J.ai];simp[ai],k.1,.inl k.2⟩
theorem af1{l r j t:Tr}{b:Int}(o:(node d a' b' c' r).ok)(f:l.h+1< (node d a' b' c' r).h)(J:Jn l a b c d j)(L:lX j a' b' c' r t):
  Jn l a b c (node d a' b' c' r) t:=by
 obtain⟨i,g,e,p⟩:=o;have k:=jv (x:=r.h) (y:=d.h) (by rw[gE];exact DC.symm) f p e J.lo.symm J.hi.symm L.lo.symm L.hi.symm (λa b=>(y9<|L.near b a).1.symm) λa b=>(y9<|L.near b a).2.symm;exact⟨L.ok,by rw[L.ai,J.ai];simp[ai],k.1.symm,.inr k.2⟩
theorem af2{ll l r j:Tr}{b:Int}(o:(node ll a b c l).ok)(d:r.h+1< (node ll a b c l).h)(J:Jn l a' b' c' r j):ll.h<=j.h+2/\j.h<=ll.h+2:=by
 obtain⟨i,g,f,p⟩:=o;have e:=gE ll a b c l;have n:=J.lo;have k:=J.hi;have m:r.h<=l.h:=by rw[e] at d;split at d<;>lia
 lia
theorem af3{l r j:Tr}{b:Int}(o:(node d a' b' c' r).ok)(e:l.h+1< (node d a' b' c' r).h)(J:Jn l a b c d j):j.h<=r.h+2/\r.h<=j.h+2:=by
 obtain⟨k,i,g,p⟩:=o;have f:=gE d a' b' c' r;have q:=J.lo;have n:=J.hi;have m:l.h<=d.h:=by rw[f] at e;split at e<;>lia
 lia
end Tr
abbrev P3:=Int×Int×Int
abbrev v6:=List P3
noncomputable def dw(ps:v6):Int:=(ps.map λp=>p.2.1).sum
noncomputable def da(F:Int->Int):v6->Int->v6
 |[],_=>[]
 |p::ps,n=>if n<=0 then [] else if p.2.1<=n then p::da F ps (n - p.2.1) else [(p.1,n,F (p.1+n) - F p.1)]
noncomputable def dc(F:Int->Int):v6->Int->v6
 |[],_=>[]
 |p::ps,n=>if n<=0 then p::ps else if p.2.1<=n then dc F ps (n - p.2.1) else (p.1+n,p.2.1 - n,p.2.2 - (F (p.1+n) - F p.1))::ps
theorem OY:dw []=0:=O
theorem rm(p:P3)(ps:v6):dw (p::ps)=p.2.1+dw ps:=by simp[dw]
theorem OZ(a b:v6):dw (a++b)=dw a+dw b:=by simp[dw]
theorem DD(F:Int->Int){n:Int}(h:n<=0):∀ps:v6,da F ps n=[]/\dc F ps n=ps:=by
 intro l;induction l with
 |nil=>
  exact⟨O,O⟩
 |cons p ps i=>
  simp[da,dc,h]
theorem O0:∀{ps:v6},(∀p∈ps,1<=p.2.1)->0<=dw ps
 |[],_=>TM _
 |p::ps,h=>by
  have:=O0 (ps:=ps) λq a=>h q (N4 _ a);have:=h p Yz;rw[rm];lia
theorem af4(F:Int->Int)(ys:v6):∀(Y:v6)(n:Int),(∀p∈Y,1<=p.2.1)->n<=dw Y->da F (Y++ys) n=da F Y n/\dc F (Y++ys) n=dc F Y n++ys:=by
 intro l;induction l with
 |nil=>
  rintro n Z h;have h:n<=0:=h;obtain⟨a,b⟩:=DD F h ys;exact⟨a,b⟩
 |cons p Y i=>
  rintro n d h;rw[rm] at h;have i:=i (n - p.2.1) (λq c=>d q<|N4 _ c) al;simp only[YZ,da,dc];rw[i.1,i.2];constructor;rfl;split;rfl;split<;>rfl
theorem O2(F:Int->Int)(ys:v6):∀(Y:v6)(n:Int),(∀p∈Y,1<=p.2.1)->dw Y<=n->da F (Y++ys) n=Y++da F ys (n - dw Y)/\dc F (Y++ys) n=dc F ys (n - dw Y):=by
 intro l;induction l with
 |nil=>
  rintro n Z h;rw[OY,Int.sub_zero];exact⟨O,O⟩
 |cons p Y i=>
  rintro n b h;have d:=b p Yz;have c:=O0 λq a=>b q (N4 _ a);rw[rm] at h⊢;have i:=i (n - p.2.1) (λq a=>b q<|N4 _ a) al;have e:n - p.2.1 - dw Y=n - (p.2.1+dw Y):=by lia
  rw[e] at i;simp only[YZ,da,dc];rw[GM al,GT al,GM al,GT al,i.1,i.2];exact⟨O,O⟩
theorem y_(F:Int->Int):∀(Y:v6)(n:Int),(da F Y n).length<=Y.length/\(dc F Y n).length<=Y.length:=by
 intro l;induction l with
 |nil=>
  rintro n;exact⟨mZ _,mZ _⟩
 |cons p Y i=>
  rintro n;obtain⟨a,b⟩:=i (n - p.2.1);simp only[da,dc];split;exact⟨Wy _,mZ _⟩;split<;>simp<;>lia
section
noncomputable def de(Y:sK)(most:Int):Nat:=(Y.filter λx=>decide (x<=most)).length
def rn(Y:sK):Prop:=Y.Pairwise (· <= ·)
theorem DE(Y:sK)(most:Int):de Y most<=Y.length:=U5 _ _
theorem DF(a b:sK)(most:Int):de (a++b) most=de a most+de b most:=by simp[de]
theorem O3{Y:sK}(h:∀x∈Y,x<=most):de Y most=Y.length:=by
 delta de;rw[List.filter_eq_self.mpr λx a=>by simpa using h x a]
theorem O4{Y:sK}(h:∀x∈Y,most<x):de Y most=0:=by
 delta de;rw[oZ,List.filter_eq_nil_iff];intro x a;have:=h x a;simp;exact this
theorem DG{Y:sK}(h:rn Y)(g:Y[m]?=some x)(f:x<=most):m+1<=de Y most:=by
 have c:=(ZX.mp g).1;have e:Y=Y.take (m+1)++Y.drop (m+1):=(Yq _ _).symm;have a:∀y∈Y.take (m+1),y<=most:=by
  intro y b;obtain⟨j,d,rfl⟩:=Y7 b;rw[WE] at d;rw[List.getElem_take];have i:Y[m]=x:=(ZX.mp g).2;by_cases q:j=m;subst q;lia;have:=Xp.mp h j m al c al;lia
 have:de Y most=de (Y.take<|m+1) most+de (Y.drop<|m+1) most:=by rw[<-DF,<-e]
 rw[this,O3 a,WE];lia
theorem DH{Y:sK}(h:rn Y)(g:Y[m]?=some x)(f:¬x<=most):de Y most<=m:=by
 have c:=(ZX.mp g).1;have e:Y=Y.take m++Y.drop m:=(Yq _ _).symm;have a:∀y∈Y.drop m,most<y:=by
  intro y b;obtain⟨j,d,rfl⟩:=Y7 b;rw[Xh] at d;rw[List.getElem_drop];have i:Y[m]=x:=(ZX.mp g).2;by_cases q:j=0;subst q;simp;lia;have:=Xp.mp h m (m+j) c al al;lia
 have:de Y most=de (Y.take m) most+de (Y.drop m) most:=by rw[<-DF,<-e]
 have l:=DE (Y.take m) most;rw[this,O4 a];rw[WE] at l;lia
open PySem.StrLaws
noncomputable def pos(c:Nat):am->Nat->am
 |[],_=>[]
 |d::r,k=>if d=c then k::pos c r (k+1) else pos c r (k+1)
theorem rq(c:Nat):∀(a b:am)(k:Nat),pos c (a++b) k=pos c a k++pos c b (k+a.length):=by
 intro l;induction l with
 |nil=>
  rintro b k;simp[pos]
 |cons d r i=>
  rintro b k;have i:=i b (k+1);rw[show k+1+r.length=k+(d::r).length by simp;lia] at i;simp only[YZ,pos];split;rw[i];rfl;rw[i]
theorem lY(c:Nat):∀(a:am)(k:Nat),(pos c a k).length=a.count c:=by
 intro l;induction l with
 |nil=>
  rintro k;exact O
 |cons d r i=>
  rintro k;simp only[pos];rw[List.count_cons];split;rename_i h;subst h;simp[i<|k+1];rename_i h;have:(d==c)=false:=by simpa using h
  rw[i<|k+1,this];simp
theorem m_(c:Nat):∀(a:am)(k i:Nat),i∈pos c a k->k<=i/\i<k+a.length:=by
 intro l;induction l with
 |nil=>
  rintro k i h;simp[pos] at h
 |cons d r b=>
  rintro k i h;simp only[pos] at h;have g:i∈pos c r (k+1)->k<=i/\i<k+(d::r).length:=λz=>by
   have:=b (k+1) i z;simp;lia
  split at h;rcases UA.mp h with rfl|z
  simp;exact g z;exact g h
theorem O5(c:Nat):∀(a:am)(k:Nat),(pos c a k).Pairwise (· < ·):=by
 intro l;induction l with
 |nil=>
  rintro k;simp[pos]
 |cons d r h=>
  rintro k;simp only[pos];split;rw[ZR];exact⟨λi b=>by have:=m_ c r (k+1) i b;lia,h<|k+1⟩;exact h (k+1)
def hJ(c:Nat)(a:am):sK:=(pos c a 0).map fun(i:Nat)=>(i:Int)
theorem af5(c:Nat)(a:am):rn (hJ c a):=by
 delta rn hJ;rw[Vi];exact(O5 c a 0).imp λh=>by lia
theorem af6(c:Nat)(a:am)(n:Nat):de (hJ c a) ((n:Int) - 1)=(a.take n).count c:=by
 have e:a=a.take n++a.drop n:=(Yq _ _).symm;have f:hJ c a=hJ c (a.take n)++((pos c (a.drop n) (a.take n).length).map fun(i:Nat)=>(i:Int)):=by
  delta hJ
  conv=>lhs;rw[e]
  rw[rq,Xn,VI]
 rw[f,DF,O3,O4];delta hJ;rw[VH,lY];simp;intro x b;obtain⟨i,d,rfl⟩:=Zv.mp b;have h:=m_ _ _ _ _ d;rw[WE,Xh] at h;lia;intro x b;obtain⟨i,d,rfl⟩:=Zv.mp b;have h:=m_ _ _ _ _ d;rw[WE] at h;lia
theorem U9(c:Nat):∀(l:am)(k i:Nat)(a M:am),pos c l k=a++i::M->pos c (l.drop<|i+1 - k) (i+1)=M:=by
 intro l;induction l with
 |nil=>
  rintro k i a M h;simp[pos] at h
 |cons d r b=>
  rintro k i a M h;have j:=m_ c (d::r) k i (by rw[h];simp);simp only[pos] at h;have g:∀n,pos c r (k+1)=n++i::M->pos c ((d::r).drop<|i+1 - k) (i+1)=M:=λn f=>by
   have m:=m_ c r (k+1) i (by rw[f];simp);have b:=b (k+1) i n M f;rw[show i+1 - k=(i+1 - (k+1))+1 by lia,List.drop_succ_cons];exact b
  split at h;cases a with
  |nil=>
   simp only[Z4,List.cons.injEq] at h;obtain⟨rfl,h⟩:=h;rw[show k+1 - k=1 by lia,List.drop_succ_cons,X5];exact h
  |cons e n=>
   simp only[YZ,List.cons.injEq] at h;exact g n h.2
  exact g a h
theorem zc(c:Nat):∀(l:am)(k j:Nat),pos c l (k+j)=(pos c l j).map (k+ ·):=by
 intro l;induction l with
 |nil=>
  rintro k j;exact O
 |cons d r i=>
  rintro k j;have i:=i k (j+1);rw[<-Yu] at i;simp only[pos];split;rw[i];rfl;exact i
theorem af8(c:Nat)(a b:am):hJ c (a++b)=hJ c a++((pos c b 0).map fun(i:Nat)=>((a.length:Nat):Int)+(i:Int)):=by
 delta hJ;rw[rq,Xn,VI];congr 1;have:=zc c b a.length 0;rw[WI] at this;rw[this,Ti];apply YC;intro i Y;show((a.length+i:Nat):Int)=_;lia
theorem af9(x y:Str)(c:y.length=1)(b m:Nat):∀(n o:Nat)(a:xz)(f:Nat),f<=o->
  ((forIn (List.range' o n) (a,f)<|occBody x y b m).run.fst.toList=a.toList++((List.range' o n).filter λi=>decide (i+1<=b) && Builtin.Str.subAt x y i).take (m - a.size)):=by
 intro l;induction l with
 |zero=>
  rintro o a f g;simp
 |succ n h=>
  rintro o a f g;rw[List.range'_succ,List.forIn_cons];unfold occBody;rw[c];by_cases p:o+1<=b/\Builtin.Str.subAt x y o=true;have e:(decide (o+1<=b) && Builtin.Str.subAt x y o)=true:=by simp[p.1,p.2]
  by_cases s:a.size<m;rw[GT ⟨⟨⟨s,g⟩,p.1⟩,p.2⟩];have h:=h (o+1) (a.push o) (o+1) (mZ _);unfold occBody at h;rw[c] at h;refine Eq.trans h ?_;rw[Tc (by exact e)];have d:m - a.size=(m - (a.push o).size)+1:=by rw[Array.size_push];lia
  rw[d,YX];simp;rw[GM<|λz=>s z.1.1.1];have h:=h (o+1) a f (ZU g);unfold occBody at h;rw[c] at h;refine Eq.trans h ?_;have d:m - a.size=0:=by lia
  rw[d];simp;rw[GM<|λz=>p ⟨z.1.2,z.2⟩];have e:¬(decide (o+1<=b) && Builtin.Str.subAt x y o)=true:=by
   intro z;simp only[Xg,IO] at z;exact p z
  have h:=h (o+1) a f (ZU g);unfold occBody at h;rw[c] at h;refine Eq.trans h ?_;rw[Wa (by exact e)]
theorem af_(x:Str)(c i:Nat):Builtin.Str.subAt x ⟨#[c]⟩ i=decide (x.cps[i]?=some c):=by
 delta Builtin.Str.subAt;have e:(⟨#[c]⟩:Str).length=1:=O;rw[e,show(⟨#[c]⟩:Str).cps= #[c] from O];by_cases h:i<x.cps.size;have a:x.cps.extract i (i+1)= #[x.cps[i]]:=by
  apply Array.ext;simp;lia;intro j d b;simp at d b⊢;have:j=0:=b
  subst this;rfl
 rw[a,Array.getElem?_eq_getElem h];by_cases q:x.cps[i]=c;subst q;simp;have:¬(#[x.cps[i]]= #[c]):=λz=>q (by injection z with z;injection z);simp[q];have a:x.cps.extract i (i+1)= #[]:=by
  apply VG;simp;lia
 rw[a,Array.getElem?_eq_none (ZK h)];simp
theorem aga(c:Nat):∀(l:am)(k:Nat)(p:Nat->Fk),(∀i,i<l.length->p (k+i)=decide (l[i]?=some c))->(List.range' k l.length).filter p=pos c l k:=by
 intro l;induction l with
 |nil=>
  rintro k p h;exact O
 |cons d r a=>
  rintro k p h;rw[Xm,List.range'_succ];have b:p k=decide (d=c):=by
   have:=h 0 (Nat.zero_lt_succ _);simpa using this
  have a:=a (k+1) p λi f=>by
   have:=h (i+1) (Nat.succ_lt_succ f);rw[show k+1+i=k+(i+1) by lia,this];simp
  by_cases e:d=c;rw[Tc (by rw[b];simpa using e),a,pos,GT e];rw[Wa (by rw[b];simpa using e),a,pos,GM e]
theorem O6(x:Str)(c l m:Nat)(b:l<=x.length):Builtin.Str.occurrences x ⟨#[c]⟩ l x.length m=(pos c (x.cps.toList.drop l) l).take m:=by
 have h:x.cps.toList.length=x.length:=by simp[Str.length]
 rw[occ_eq,af9 x _ O x.length m _ l #[] l (mZ _)];simp only[Z4,Array.size_empty,kE];congr 1;have e:x.length+1 - l=(x.cps.toList.drop l).length+1:=by rw[Xh,h];lia
 rw[e,List.range'_concat,YF];rw[aga c (x.cps.toList.drop l) l];have:¬(l+1* (x.cps.toList.drop l).length+1<=x.length):=by rw[Xh,h];lia
 rw[Wa (by rw[XZ this];simp)];simp;intro i a;rw[af_];rw[Xh,h] at a;rw[ZA (show l+i+1<=x.length by lia),Bool.true_and,Y3,Array.getElem?_toList]
def kU:Nat->Nat->wS->Prop
 |_,_,[]=>True
 |a,b,x::r=>a<=x.1/\b<=x.2/\kU (x.1+1) (x.2+1) r
theorem kU.low:∀{a b a' b':Nat}{k:wS},kU a b k->a'<=a->b'<=b->kU a' b' k
 |_,_,_,_,[],_,_,_=>trivial
 |_,_,_,_,_::_,h,d,c=>⟨Ut d h.1,Ut c h.2.1,h.2.2⟩
noncomputable def f9:Nat->wS->Nat->Nat
 |a,[],_=>a
 |a,x::r,p=>if x.1<p then f9 (x.2+1) r p else a
theorem O7:∀{a:Nat}{k:wS}{g p:Nat},a<=g->(∀x∈k,x.2<g)->f9 a k p<=g:=by
 intro a k;induction k generalizing a with
 |nil=>exact λh _=>h
 |cons x r i=>
  intro g p h b;simp only[f9];split;exact i (b x Yz) λy c=>b y (N4 _ c);exact h
noncomputable def j7(o n:Nat):Nat->wS
 | 0=>[]
 |k+1=>(o,n)::j7 (o+1) (n+1) k
def dP:ga->wS
 |[]=>[]
 |x::r=>j7 x.1 x.2.1 x.2.2++dP r
def jA:Nat->Nat->ga->Prop
 |_,_,[]=>True
 |a,b,x::r=>a<=x.1/\b<=x.2.1/\1<=x.2.2/\jA (x.1+x.2.2) (x.2.1+x.2.2) r
theorem agb:∀(k o n:Nat){r:wS},kU (o+k) (n+k) r->kU o n (j7 o n k++r):=by
 intro l;induction l with
 |zero=>
  rintro o n r h;exact h
 |succ k i=>
  rintro o n r h;exact⟨mZ _,mZ _,i (o+1) (n+1) (by rw[Zo o 1 k,Zo n 1 k];exact h)⟩
theorem zd:∀{rs:ga}{a b:Nat},jA a b rs->kU a b (dP rs)
 |[],_,_,_=>trivial
 |x::r,a,b,h=>(agb x.2.2 x.1 x.2.1<|zd h.2.2.2).low h.1 h.2.1
theorem O8:∀{c p:Nat}{k:wS}{a b:Nat},kU a b k->p<=a->f9 c k p=c
 |_,_,[],_,_,_,_=>O
 |c,p,x::r,a,b,h,d=>by
  simp only[f9];rw[GM (by have:=h.1;exact oY (Ut d this))]
theorem agc:∀(k o n a p:Nat)(r:wS){b:Nat},kU (o+k) b r->o<p->p<=o+k->f9 a (j7 o n k++r) p=n+(p - o):=by
 intro l;induction l with
 |zero=>
  rintro o n a p r Y Y c d;exact (yx _ (Z1 c d)).elim
 |succ k i=>
  rintro o n a p r b h c d;show(if o<p then f9 (n+1) (j7 (o+1) (n+1) k++r) p else a)=_;rw[GT c];have e:kU (o+1+k) b r:=by rw[Zo o 1 k];exact h
  by_cases q:o+1<p;rw[i (o+1) (n+1) (n+1) p r e q al];lia;obtain rfl:p=o+1:=by lia
  cases k with
  |zero=>
   show f9 (n+1) r (o+1)=_;rw[O8 h<|mZ _];lia
  |succ k=>
   show(if o+1<o+1 then _ else n+1)=_;rw[GM q];lia
theorem FF:∀(k o n a p:Nat)(r:wS),o+(k+1) <p->f9 a (j7 o n (k+1)++r) p=f9 (n+(k+1)) r p:=by
 intro l;induction l with
 |zero=>
  rintro o n a p r h;show(if o<p then f9 (n+1) r p else a)=_;rw[GT (TK (Yl h))]
 |succ k i=>
  rintro o n a p r h;show(if o<p then f9 (n+1) (j7 (o+1) (n+1) (k+1)++r) p else a)=_;rw[GT (ZS (YJ _ _) h),i (o+1) (n+1) (n+1) p r al,show n+1+(k+1)=n+(k+1+1) by lia]
noncomputable def c9(q:Nat->Fk)(r:ga):Nat:=(r.filter λx=>q x.1).length
def ng(a:Nat)(r:ga)(p:Nat):Nat:=match c9 (λo=>decide<|o<p) r with
 | 0=>a
 |c+1=>match r[c]? with
  |some x=>x.2.1+min x.2.2 (p - x.1)
  |none=>a
theorem O9(q:Nat->Fk)(x:Nat×Nat×Nat)(r:ga):c9 q (x::r)=(if q x.1 then 1 else 0)+c9 q r:=by
 delta c9;by_cases h:q x.1=true;rw[Tc (by exact h),GT h,Xm];exact Xz _ _;rw[Wa (by exact h),GM h];lia
theorem DI{q:Nat->Fk}:∀{s:ga}{a b:Nat},jA a b s->(∀o,a<=o->q o=false)->c9 q s=0
 |[],_,_,_,_=>O
 |x::r,a,b,h,c=>by
  rw[O9,c x.1 h.1,DI h.2.2.2 λo d=>c o (by have:=h.1;exact Ut (TX this) d)];rfl
theorem O_(q:Nat->Fk)(r:ga):c9 q r<=r.length:=U5 _ _
theorem age:∀{s:ga}{acc a p:Nat},jA a acc s->ng acc s p=f9 acc (dP s) p:=by
 intro s;induction s with
 |nil=>exact λY=>O
 |cons x r t=>
  intro acc a p h;obtain⟨o,n,k⟩:=x;have f:jA (o+k) (n+k) r:=h.2.2.2;have l:1<=k:=h.2.2.1;show ng acc ((o,n,k)::r) p=f9 acc (j7 o n k++dP r) p;by_cases m:o<p;have j:c9 (λo=>decide<|o<p) ((o,n,k)::r)=c9 (λo=>decide<|o<p) r+1:=by
   rw[O9,GT (by simpa using m)];exact Xz _ _
  by_cases w:p<=o+k;have y:c9 (λo=>decide<|o<p) r=0:=DI f λq v=>by simp;exact Ut w v
  rw[agc k o n acc p (dP r) (zd f) m w];delta ng;rw[j,y];show n+min k (p - o)=_;lia;obtain⟨e,rfl⟩:∃e,k=e+1:=⟨k - 1,al⟩;rw[FF e o n acc p (dP r) (VT w),<-t (acc:=n+(e+1)) f];delta ng;rw[j];show(match ((o,n,e+1)::r)[c9 (λo=>decide<|o<p) r]? with|some x=>x.2.1+min x.2.2 (p - x.1)|none=>acc)=_;cases A:c9 (λo=>decide<|o<p) r with
  |zero=>
   show n+min (e+1) (p - o)=n+(e+1);lia
  |succ c=>
   have z:=O_ (λo=>decide<|o<p) r;have g:r[c]?=some (r[c]'al):=VP _;rw[List.getElem?_cons_succ];show(match r[c]? with|some x=>_|none=>_)=(match r[c]? with|some x=>_|none=>_);rw[g]
  have j:c9 (λo=>decide<|o<p) ((o,n,k)::r)=0:=DI (a:=o) (b:=n) ⟨mZ _,mZ _,l,f⟩ λq v=>by simp;exact Ut (ZK m) v
  have i:=zd (rs:=(o,n,k)::r) h;delta ng;rw[j];show acc=f9 acc (dP ((o,n,k)::r)) p;have u:kU o n (dP ((o,n,k)::r)):=zd (rs:=(o,n,k)::r) ⟨mZ _,mZ _,l,f⟩;rw[O8 u (ZK m)]
end
section
open PyProof.Rows
noncomputable def bG:cr->Nat->Nat->ga
 |[],_,_=>[]
 |.k k::r,o,n=>(o,n,k.toNat)::bG r (o+k.toNat) (n+k.toNat)
 |.p s::r,o,n=>bG r o (n+s.length)
 |.c s::r,o,n=>bG r (o+s.length) n
noncomputable def bK:cr->Nat
 |[]=>0
 |.k k::r=>k.toNat+bK r
 |.p _::r=>bK r
 |.c s::r=>s.length+bK r
noncomputable def cj:cr->Nat
 |[]=>0
 |.k k::r=>k.toNat+cj r
 |.p s::r=>s.length+cj r
 |.c _::r=>cj r
theorem jA.low{s:ga}{a' b':Nat}(i:jA a b s)(c:a'<=a)(h:b'<=b):jA a' b' s:=by
 cases s with
 |nil=>trivial
 |cons x r=>exact⟨Ut c i.1,Ut h i.2.1,i.2.2⟩
theorem ze:∀(ps:cr)(o n:Nat),(∀p∈ps,fh p)->jA o n (bG ps o n):=by
 intro s;induction s with
 |nil=>exact λ_ _ _=>trivial
 |cons p r i=>
  intro o n h;have t:=λo n=>i o n λp a=>h p (N4 _ a);cases p with
  |k k=>exact⟨mZ _,mZ _,by have:(1:Int)<=k:=h _ Yz;show 1<=k.toNat;lia,t _ _⟩
  |p s=>exact(t o (n+s.length)).low (mZ _) (YJ _ _)
  |c s=>exact(t (o+s.length) n).low (YJ _ _) (mZ _)
theorem zf:∀(a b:cr)(o n:Nat),bG (a++b) o n=bG a o n++bG b (o+bK a) (n+cj a):=by
 intro a;induction a with
 |nil=>intro b o n;simp[bG,bK,cj]
 |cons p r i=>intro b o n;cases p<;>simp only[YZ,bG,bK,cj,i,Yu]
theorem wG(a b:cr):bK (a++b)=bK a+bK b:=by
 induction a with
 |nil=>simp[bK]
 |cons p r i=>cases p<;>simp[bK,i] <;>lia
theorem agg(a b:cr):cj (a++b)=cj a+cj b:=by
 induction a with
 |nil=>simp[cj]
 |cons p r i=>cases p<;>simp[cj,i] <;>lia
theorem zg:∀(ps:cr)(o n:Nat),(bG ps o n).length<=ps.length:=by
 intro a;induction a with
 |nil=>exact λ_ _=>mZ _
 |cons p r i=>
  intro o n;cases p with
  |k k=>simp only[bG,Xm];exact Ue (i _ _) _
  |p s=>simp only[bG,Xm];exact ZU (i _ _)
  |c s=>simp only[bG,Xm];exact ZU (i _ _)
noncomputable def t3(l n ll:D9):n6:=[("olds",.r l),("news",.r n),("lengths",.r ll)]
noncomputable def t5(l n ll:D9)(ov g:Int):n6:=[("olds",.r l),("news",.r n),("lengths",.r ll),("over",.i ov),("gives",.i g)]
theorem Zc{l n:D9}:bC "lengths" (.r ll) (bC "news" (.r n)<|bC "olds" (.r l) [])=t3 l n ll:=by
 have a:bC "olds" (V.r l) []=[(("olds":Str),V.r l)]:=O;have e:bC "news" (V.r n) []=[(("news":Str),V.r n)]:=O;delta t3;rw[a,fi (by decide+kernel),e,fi (by decide+kernel),fi (by decide+kernel)];rfl
theorem agi{l n:D9}:bC "gives" (.i g) (bC "over" (.i ov)<|t3 l n ll)=t5 l n ll ov g:=by
 have e:bC "over" (V.i ov) []=[(("over":Str),V.i ov)]:=O;delta t3 t5;rw[fi (by decide+kernel),fi (by decide+kernel),fi (by decide+kernel),fi (by decide+kernel),fi (by decide+kernel),e,fi (by decide+kernel),fi (by decide+kernel)];rfl
theorem agj{l n:D9}:(t3 l n ll).lookup ("olds":Str)=some (V.r l):=jz
theorem FC{l:D9}:(t3 o l ll).lookup ("news":Str)=some (V.r l):=(dq (by decide+kernel)).trans jz
theorem agl{l n:D9}:(t3 l n ll).lookup ("lengths":Str)=some (V.r ll):=(dq (by decide+kernel)).trans ((dq (by decide+kernel)).trans jz)
theorem Pa{l n:D9}:(t5 l n ll ov g).lookup ("olds":Str)=some (V.r l):=jz
theorem U4{l:D9}:(t5 o l ll ov g).lookup ("news":Str)=some (V.r l):=(dq (by decide+kernel)).trans jz
theorem agn{l n:D9}:(t5 l n ll ov g).lookup ("lengths":Str)=some (V.r ll):=(dq (by decide+kernel)).trans ((dq (by decide+kernel)).trans jz)
theorem ago{l n:D9}:(t5 l n ll ov g).lookup ("over":Str)=some (V.i ov):=(dq (by decide+kernel)).trans ((dq (by decide+kernel)).trans<|(dq (by decide+kernel)).trans jz)
theorem Pb{l n:D9}{m:Str}(d:¬m="olds")(c:¬m="news")(b:¬m="lengths")(a:¬m="over")(h:¬m="gives"):(t5 l n ll ov g).lookup m=none:=
 (dq d).trans ((dq c).trans<|(dq b).trans<|(dq a).trans<|(dq h).trans O)
abbrev oI(r:ga):ad:=(r.map λx=>((x.1:Nat):Int)).map V.i
abbrev nI(r:ga):ad:=(r.map λx=>((x.2.1:Nat):Int)).map V.i
abbrev kI(r:ga):ad:=(r.map λx=>((x.2.2:Nat):Int)).map V.i
structure rA(C:D9)(H:Hp)(p dx lo ln ll:D9)(rs:ga)(ov gv:Nat):Prop where
 ob:H p=some (.i C dx<|t5 lo ln ll ov gv)
 ol:H lo=some (.l<|oI rs)
 nw:H ln=some (.l<|nI rs)
 le:H ll=some (.l<|kI rs)
abbrev agp:io:=[("need_change",yF)]
inductive DJ(C:D9)(U:ad)(H:Hp)(Q:VK)(E:XK):Prop|i(p dx a:D9)(Y:ad)(ps:cr)(_:U=[.r p,.r a])(_:H p=some (.i C dx []))(_:H a=some (.l Y))(_:aX H Y ps)(_:(∀q∈ps,fh q))(_:ZP "" ps=true)(_:ps.length<=1000)(_:∀(c n ll:D9)(I:Hp),rA C I p dx c n ll (bG ps 0 0) (bK ps) (cj ps)->(∀b o,H b=some o->b≠p->I b=some o)->Q .a I)
abbrev eA(K:Frag)(E:XK):aV:=aA K agp [] (E:=E)
theorem agq{K:Frag}(T:vq K C)(U:ad)(H:Hp)(Q:VK)(E:XK)(h:DJ C U H Q E):aw (eA K E) JZ {nx:=λ_ I=>Q .a I,r:=Q} (ZQ JY U) H:=by
 obtain⟨p,dx,a,Y,ps,rfl,hp,ha,bp,aB,cK,hl,k⟩:=h;have lx:=Id bp;refine qF _ O ⟨a,Y,ps,O,ha,bp,aB,cK,λN P=>?_⟩;have dR:=P _ _ hp;refine⟨Wy _,λd f1=>?_⟩;have j:p≠d:=a_ dR f1;refine tE _ O p C dx [] O (by rw[av j];exact dR) T.c T.yn (by show 0<1000;decide) ?_;refine⟨Wy _,λg M=>?_⟩;have v:p≠g:=λz=>by rw[<-z,au] at M;cases M
 have Z:d≠g:=λz=>by rw[<-z,av j.symm,au] at M;cases M
 refine tE _ O p C dx _ O (by rw[av v,au]) T.c T.Cm (by show 1<1000;decide) ?_;refine⟨Wy _,λll w=>?_⟩;have B:p≠ll:=λz=>by rw[<-z,au] at w;cases w
 have W:g≠ll:=λz=>by rw[<-z,av v.symm,au] at w;cases w
 have S:d≠ll:=λz=>by rw[<-z,av j.symm,av Z,av j.symm,au] at w;cases w
 refine tE _ O p C dx _ O (by rw[av B,au]) T.c T.Cn (by show 2<1000;decide) ?_;have fb:N g=none:=by
  rw[av v.symm,av Z.symm] at M;exact M
 have ff:N ll=none:=by
  rw[av B.symm,av W.symm,av B.symm,av S.symm] at w;exact w
 generalize rB:upd (upd (upd (upd (upd (upd N d<|.l []) p<|.i C dx<|bC "olds" (.r d) []) g<|.l []) p<|.i C dx<|bC "news" (.r g)<|bC "olds" (.r d) []) ll<|.l []) p (.i C dx<|bC "lengths" (.r ll)<|bC "news" (.r g)<|bC "olds" (.r d) [])=L;have b':L p=some (.i C dx<|t3 d g ll):=by
  rw[<-rB,au];exact IR (λl=>some<|HO.i C dx l) Zc
 have a':L d=some (.l []):=by rw[<-rB,av j.symm,av S,av j.symm,av Z,av j.symm,au]
 have c':L g=some (.l []):=by rw[<-rB,av v.symm,av W,av v.symm,au]
 have Pd:L ll=some (.l []):=by rw[<-rB,av B.symm,au]
 have b2:∀b o,N b=some o->b≠p->L b=some o:=λb o e q=>by
  rw[<-rB,av q,av<|a_ e ff,av q,av<|a_ e fb,av q,av<|a_ e f1];exact e
 have Pe:p≠a:=se hp ha (by intro z;cases z);have dZ:=P _ _ ha;have gN:=b2 _ _ dZ Pe.symm;have fr:∀{f:Hp},(∀b o,L b=some o->b≠p->b≠d->b≠g->b≠ll->f b=some o)->∀b o,N b=some o->b≠p->f b=some o:=λ{f} h b o e q=>h b o (b2 b o e q) q (a_ e f1) (a_ e fb) (a_ e ff);have d':∀{f:Hp},(∀b o,N b=some o->b≠p->f b=some o)->gB H f:=λ{f} h b zs e=>h b _ (P _ _ e) (λz=>by rw[z,hp] at e;cases e);refine tY _ O a O (qY _ (ak.of gN)) (ic (K:=K) (a:=a) (xs:=Y) (λi J f=>Y9 λ(u X:ld)=>FA (J=[some (.r p),some (.r a),some (.i ((bK (ps.take i):Nat):Int)),some (.i ((cj (ps.take i):Nat):Int)),u,X]) (∀b o,L b=some o->b≠p->b≠d->b≠g->b≠ll->f b=some o) (f p=some (.i C dx (t3 d g ll))) (f d=some (.l (oI (bG (ps.take i) 0 0)))) (f g=some (.l (nI (bG (ps.take i) 0 0)))) (f ll=some (.l (kI (bG (ps.take i) 0 0)))))
 ⟨none,none,O,λb o e _ _ _ _=>e,b',a',c',Pd⟩ (by rintro i J f _ ⟨_,_,_,x,_,_,_,_⟩;exact ak.of (fr x _ _ dZ Pe.symm)) ?_ ?_)
 rintro i y J f hi ⟨u,X,rfl,x,G,A,D,R⟩;obtain⟨F,fY,iG⟩:=bp.get hi;obtain⟨c,rfl,C9⟩:=iG.mono (d'<|fr x);have sO:=aB F (zG fY);have cp:i<ps.length:=(ZX.mp fY).1;have et:ps.take (i+1)=ps.take i++[F]:=by rw[Wb,fY];rfl
 have t:bG (ps.take<|i+1) 0 0=bG (ps.take i) 0 0++bG [F] (bK<|ps.take i) (cj<|ps.take i):=by
  rw[et,zf,VI,VI]
 have eo:bK (ps.take<|i+1)=bK (ps.take i)+bK [F]:=by rw[et,wG]
 have eg:cj (ps.take<|i+1)=cj (ps.take i)+cj [F]:=by rw[et,agg]
 have rl:=zg (ps.take i) 0 0;rw[WE] at rl;refine tH c _ O (.inl<|aM.of C9) O _ _ O _ _ O O ?_;cases F with
 |p s=>
  refine⟨_,O,_,O,_,O,_,O,bQ sO.1.1,?_⟩;refine⟨some<|.s "put",some<|.s s,?_,x,G,?_,?_,?_⟩;rw[eo,eg];show[_,_,_,some<|V.i<|(cj (ps.take i):Int)+(s.length:Int),_,_]=_;rw[show bK [Pt.p s]=0 from O,show cj [Pt.p s]=s.length from O,WI,UW];rfl;rw[t,show bG [Pt.p s] (bK<|ps.take i) (cj<|ps.take i)=[] from O,YS];exact A;rw[t,show bG [Pt.p s] (bK<|ps.take i) (cj<|ps.take i)=[] from O,YS];exact D;rw[t,show bG [Pt.p s] (bK<|ps.take i) (cj<|ps.take i)=[] from O,YS];exact R
 |c s=>
  refine⟨_,O,_,O,_,O,_,O,_,O,_,O,bQ sO.1.1,?_⟩;refine⟨some<|.s "cut",some<|.s s,?_,x,G,?_,?_,?_⟩;rw[eo,eg];show[_,_,some<|V.i<|(bK (ps.take i):Int)+(s.length:Int),_,_,_]=_;rw[show bK [Pt.c s]=s.length from O,show cj [Pt.c s]=0 from O,WI,UW];rfl;rw[t,show bG [Pt.c s] (bK<|ps.take i) (cj<|ps.take i)=[] from O,YS];exact A;rw[t,show bG [Pt.c s] (bK<|ps.take i) (cj<|ps.take i)=[] from O,YS];exact D;rw[t,show bG [Pt.c s] (bK<|ps.take i) (cj<|ps.take i)=[] from O,YS];exact R
 |k n=>
  have hn:(1:Int)<=n:=sO;obtain⟨m,rfl⟩:=WD (show(0:Int)<=n by lia);refine⟨_,O,_,O,_,O,_,O,?_⟩;refine⟨_,O,p,C,dx,_,_,O,G,T.c,T.yn,agj,.inl ⟨O,_,ak.of A⟩,_,O,_,A,bR (by simp;lia),?_⟩;have vQ:upd f d (.l<|oI (bG (ps.take i) 0 0)++[V.i (bK (ps.take i):Int)]) p=some (.i C dx<|t3 d g ll):=by rw[av j];exact G
  have Pf:upd f d (.l<|oI (bG (ps.take i) 0 0)++[V.i (bK (ps.take i):Int)]) g=some (.l<|nI<|bG (ps.take i) 0 0):=by rw[av Z.symm];exact D
  refine⟨_,O,p,C,dx,_,_,O,vQ,T.c,T.Cm,FC,.inl ⟨O,_,ak.of Pf⟩,_,O,_,Pf,bR (by simp;lia),?_⟩;have Pg:upd (upd f d<|.l<|oI (bG (ps.take i) 0 0)++[V.i (bK (ps.take i):Int)]) g (.l<|nI (bG (ps.take i) 0 0)++[V.i (cj (ps.take i):Int)]) p=some (.i C dx<|t3 d g ll):=by rw[av v];exact vQ
  have Ph:upd (upd f d<|.l<|oI (bG (ps.take i) 0 0)++[V.i (bK (ps.take i):Int)]) g (.l<|nI (bG (ps.take i) 0 0)++[V.i (cj (ps.take i):Int)]) ll=some (.l<|kI<|bG (ps.take i) 0 0):=by rw[av W.symm,av S.symm];exact R
  refine⟨_,O,p,C,dx,_,_,O,Pg,T.c,T.Cn,agl,.inl ⟨O,_,ak.of Ph⟩,_,O,_,Ph,bR (by simp;lia),?_⟩;refine⟨_,O,_,O,?_⟩;refine⟨_,O,_,O,?_⟩;have ek:bG [Pt.k (m:Int)] (bK<|ps.take i) (cj<|ps.take i)=[(bK<|ps.take i,cj<|ps.take i,m)]:=O;refine⟨some<|.s "keep",some<|.i m,?_,λb o e n1 n2 n3 n4=>?_,?_,?_,?_,?_⟩;rw[eo,eg];show[_,_,some<|V.i<|(bK (ps.take i):Int)+(m:Int),some<|V.i<|(cj (ps.take i):Int)+(m:Int),_,_]=_;rw[show bK [Pt.k (m:Int)]=m from O,show cj [Pt.k (m:Int)]=m from O,UW,UW];rfl;rw[av n4,av n3,av n2];exact x b o e n1 n2 n3 n4;rw[av B];exact Pg;rw[av S,av Z,au,t,ek];simp[oI];rw[av W,au,t,ek];simp[nI];rw[au,t,ek];simp[kI];rfl
 rintro J f ⟨u,X,rfl,x,G,A,D,R⟩;rw[lx,Ux] at A D R⊢;refine⟨_,O,_,O,p,C,dx,_,O,G,T.c,T.J5,(by show 3<1000;decide),?_⟩;refine⟨_,O,_,O,p,C,dx,_,O,au,T.c,T.Z6,(by show 4<1000;decide),?_⟩;refine k d g ll _ ⟨?_,?_,?_,?_⟩ λb o e q=>?_;rw[au];exact IR (λl=>some<|HO.i C dx l) agi;rw[av j.symm,av j.symm];exact A;rw[av v.symm,av v.symm];exact D;rw[av B.symm,av B.symm];exact R;rw[av q,av q];exact fr x b o (P _ _ e) q
theorem fo{K:Frag}{s:D9->db->Prop}(h:H a=some (.l Y))(e:di Y i=some v)(q:Q v H):oo K s (.r a) (.i i) H Q:=
 .inl ⟨_,_,_,_,O,O,ak.of h,e,q⟩
inductive vR(U:ad)(H:Hp)(Q:VK)(E:XK):Prop|i(a:D9)(Y:sK)(most:Int)(_:U=[.r a,.i most])(_:H a=some (.l<|Y.map V.i))(_:rn Y)(_:Q (.i<|de Y most) H)
theorem Qb{K:Frag}(U:ad)(H:Hp)(Q:VK)(E:XK)(h:vR U H Q E):aw (aP K E) JX {nx:=λZ I=>Q .a I,r:=Q} (ZQ JW U) H:=by
 obtain⟨a,Y,most,rfl,n,f,q⟩:=h;have t:=DE Y most;refine qF _ O (.inl ⟨_,ak.of n,?_⟩);rw[VH];refine⟨λm J I=>∃(l b:Nat)(w:ld),m=b - l/\J=[some (.r a),some (.i most),some (.i l),some (.i b),w]/\l<=de Y most/\de Y most<=b/\b<=Y.length/\I=H,
  tU _ 0 Y.length none O O (Wy _) t (mZ _) O,?_⟩
 rintro m J I ⟨l,b,w,rfl,rfl,x,v,u,rfl⟩;refine⟨_,O,_,O,trivial,_,O,?_⟩;refine cT (λh=>?_)<|λh=>?_;have F:(l:Int) < (b:Int):=KF h;refine qF _ (λL P q=>q) ?_;refine⟨_,O,_,O,⟨ax,ax⟩,?_⟩;have j:(l+b) / 2<Y.length:=by lia
 generalize s:(l+b) / 2=k at j;have p:((l:Int)+(b:Int)) / 2=(k:Int):=by lia
 show aw _ _ _ [some<|V.r a,some<|V.i most,some<|V.i l,some<|V.i b,some<|V.i<|((l:Int)+(b:Int)) / 2] _;rw[p];have d:Y[k]?=some Y[k]:=VP j;have o:di (Y.map V.i) (k:Int)=some (.i Y[k]):=gu (by rw[Y5,d];rfl);refine⟨_,O,_,O,fo n o ⟨_,O,trivial,_,O,?_⟩⟩;refine cT (λg=>?_)<|λg=>?_;have c:Y[k]<=most:=KF g;exact⟨_,O,b - (k+1),al,k+1,b,some<|V.i k,O,O,DG f d c,v,u,O⟩;have c:¬Y[k]<=most:=λz=>g (ZA z);exact⟨_,O,k - l,al,l,k,some<|V.i k,O,O,x,DH f d c,(Yl j),O⟩;have c:¬(l:Int) < (b:Int):=λz=>h (ZA z);have e:de Y most=l:=by lia
 rw[e] at q;exact⟨_,O,q⟩
theorem Pk(r:ga)(most:Int)(q:Nat->Fk)(h:∀o:Nat,decide ((o:Int)<=most)=q o):de (r.map λx=>((x.1:Nat):Int)) most=c9 q r:=by
 delta de c9;rw[List.filter_map,VH];congr 1;exact List.filter_congr λx Y=>h x.1
theorem Pl:∀{s:ga}{a b:Nat},jA a b s->∀y∈s.map (λx=>((x.1:Nat):Int)),(a:Int)<=y
 |[],_,_,_,y,c=>by cases c
 |x::r,a,b,h,y,c=>by
  rcases UA.mp c with rfl|z
  have:=h.1;show(a:Int)<= (x.1:Int);lia;have:=Pl h.2.2.2 y z;have:=h.1;lia
theorem DK:∀{s:ga}{a b:Nat},jA a b s->rn (s.map λx=>((x.1:Nat):Int))
 |[],_,_,_=>List.Pairwise.nil
 |x::r,a,b,h=>List.Pairwise.cons (λy c=>by have:=Pl h.2.2.2 y c;show(x.1:Int)<=y;lia) (DK h.2.2.2)
theorem agw{r:ga}(i:jA 0 0 r)(a:∀o:Nat,decide ((o:Int)<=most)=q o)(e:c9 q r=c+1)(g:r[c]?=some x):(x.1:Int)<=most:=by
 apply Decidable.byContradiction;intro h;have:=DH (DK i) (show(r.map λx=>((x.1:Nat):Int))[c]?=some (x.1:Int) by rw[Y5,g];rfl) h;rw[Pk r most q a,e] at this;exact (yx _ (WU this)).elim
theorem agx{r:ga}(h:c9 (λo=>decide<|o<p) r=0):ng a r p=a:=by delta ng;rw[h]
theorem agy{r:ga}(h:c9 (λo=>decide<|o<p) r=c+1)(g:r[c]?=some x):ng a r p=x.2.1+min x.2.2 (p - x.1):=by
 delta ng;rw[h];show(match r[c]? with|some x=>x.2.1+min x.2.2 (p - x.1)|none=>a)=_;rw[g]
theorem agz{r:ga}{c:Nat}{i:Int}(g:r[c]?=some x)(h:i=c):di (oI r) i=some (.i (x.1:Nat)):=by
 rw[h];exact gu (by simp[oI,g])
theorem C3{r:ga}{c:Nat}{i:Int}(g:r[c]?=some x)(h:i=c):di (nI r) i=some (.i (x.2.1:Nat)):=by
 rw[h];exact gu (by simp[nI,g])
theorem agB{r:ga}{c:Nat}{i:Int}(g:r[c]?=some x)(h:i=c):di (kI r) i=some (.i (x.2.2:Nat)):=by
 rw[h];exact gu (by simp[kI,g])
abbrev tUp:io:=[("many_upto",vR)]
inductive zh(C:D9)(U:ad)(H:Hp)(Q:VK)(E:XK):Prop|i(p dx o n ll:D9)(s:ga)(ov g l:Nat)(_:U=[.r p,.i l])(_:rA C H p dx o n ll s ov g)(_:jA 0 0 s)(_:Q (.i (f9 0 (dP s) l:Nat)) H)
abbrev e9(K:Frag)(E:XK):aV:=aA K tUp [] (E:=E)
theorem agD{K:Frag}(T:vq K C)(U:ad)(H:Hp)(Q:VK)(E:XK)(h:zh C U H Q E):aw (e9 K E) J3 {nx:=λY I=>Q .a I,r:=Q} (ZQ J0 U) H:=by
 obtain⟨p,dx,j,t,ll,s,ov,v,l,rfl,S,b,q⟩:=h;refine tQ _ O p C dx _ _ O S.ob T.c T.yn Pa ⟨_,O,trivial,j,_,_,O,S.ol,DK b,?_⟩;have f:∀o:Nat,decide ((o:Int)<= (l:Int) - 1)=(λo=>decide<|o<l) o:=λo=>by simp only[decide_eq_decide];lia
 rw[Pk s _ _ f];rw[<-age b] at q;have m:=O_ (λo=>decide<|o<l) s;cases e:c9 (λo=>decide<|o<l) s with
 |zero=>
  rw[agx e] at q;exact tR trivial _ O ⟨trivial,_,O,q⟩
 |succ c=>
  rw[e] at m;have g:s[c]?=some (s[c]'(TK m)):=VP _;generalize hx:s[c]'(TK m)=x at g;have k:=agw b f e g;rw[agy e g] at q;have d:((c+1:Nat):Int) - 1=(c:Int):=by lia
  refine tR trivial _ O ⟨trivial,_,O,iF ?_ ap⟩;refine tQ _ O p C dx _ _ O S.ob T.c T.Cm U4 ⟨_,O,fo S.nw (C3 g d) ?_⟩;refine tQ _ O p C dx _ _ O S.ob T.c T.Cn agn ⟨_,O,fo S.le (agB g d) ?_⟩;refine rL _ O _ O ⟨p,C,dx,_,_,O,S.ob,T.c,T.yn,Pa,_,O,fo S.ol (agz g d) ?_⟩;refine⟨trivial,?_⟩;show Q (V.i<|(x.2.1:Int)+(if (l:Int) - (x.1:Int) < (x.2.2:Int) then (l:Int) - (x.1:Int) else (x.2.2:Int))) H;have n:((x.2.1:Int)+(if (l:Int) - (x.1:Int) < (x.2.2:Int) then (l:Int) - (x.1:Int) else (x.2.2:Int)))=((x.2.1+min x.2.2 (l - x.1):Nat):Int):=by
   split<;>lia
  rw[n];exact q
def Pn(K:Frag)(p:D9)(Y:ad):Prop:= ∀H,aM K H p Y
theorem o6{p:a->Prop}:∀x∈ ([]:List a),p x:=λY h=>nomatch h
theorem o7{b:Type _}{p:b->Prop}{a:b}{l:List b}(h:p a)(t:∀x∈l,p x):∀x∈a::l,p x:=List.forall_mem_cons.2 ⟨h,t⟩
inductive j8(w:FM):List DictEntry->db->wf->Prop
 |n:j8 w [] [] []
 |c {x:Str}{t:Tok}{v:V}{u:EQ}{e:List DictEntry}{G:db}{U:wf}:Tf v u->j8 w e G U->
   j8 w (⟨PyData.keyHash w.params x,.str x t,u⟩::e) ((.inr x,v)::G) ((.inr x,u)::U)
section
variable{P:Fa}{w:FM}{K:Frag}
theorem j8.kv{e:List DictEntry}{U:wf}(h:j8 w e G U):KV G U:=by
 induction h with
 |n=>exact .nil
 |c r Y i=>exact .cons ⟨O,r⟩ i
theorem j8.pairs{e:List DictEntry}{U:wf}(h:j8 w e G U):Pairs (dG P w) e U:=by
 induction h with
 |n=>exact .nil
 |c r Y i=>exact .cons (wX P w _ _) O i
theorem j8.keys{s:List DictEntry}{U:wf}(h:j8 w s G U):∀e∈s,∃k,(dG P w).is k e.key=true/\e.hash=(dG P w).hash k:=by
 induction h with
 |n=>intro e a;cases a
 | @c x t v u s G U r _ i=>
  intro e a;rcases UA.mp a with rfl|a
  exact⟨.inr x,wX P w _ _,O⟩;exact i e a
theorem j8.same{e:List DictEntry}{U:wf}(h:j8 w e G U):U.map (·.1)=G.map (·.1):=by
 induction h with
 |n=>rfl
 |c r Y i=>simp only[TB,i]
theorem agE{p:D9}{s:Array DictEntry}{U:wf}(l:K.lookup p=some ⟨.type "dict",none,.dict s n,#[]⟩)(k:j8 w s.toList G U)(d:(G.map (·.1)).Nodup):yj P w K (p,G):=λh X=>
 ⟨U,k.kv,_,s,n,X p _ l,⟨O,O,O⟩,O,(λe a=>k.keys e (by simpa using a)),k.pairs,by rw[k.same];exact d⟩
variable{d:ce}{c:FS}{k:Nat}
theorem cY.weak{C:cg}{ps:ac}{b:Sp}(A:cY P w K d c C k f g ps b)(h:∀U H Q E,a U H Q E->b U H Q E):cY P w K d c C k f g ps a:=
 ⟨λU H Q E q=>A.len U H Q E<|h _ _ _ _ q,λm o s H e u U Q E r l j v i=>A.run m o s H e u U Q E r l j v<|h _ _ _ _ i⟩
theorem gL.weak{b:Sp}(T:gL P w K d c k x b)(h:∀U H Q E,a U H Q E->b U H Q E):gL P w K d c k x a:=by
 obtain⟨f,e,ps,F,r⟩:=T;exact⟨f,e,ps,F.weak h,r⟩
open PySem.W in
theorem agF{x:Str}(X:K.In c)(G:c.Ns mainGlobals d)(e:nsIn K mainGlobals x=some (some<|.ref C))(q:excIn K C [.type "ValueError",.type "Exception",.type "BaseException",.type "object"] "ValueError.__new__"=true):yl d c (x,C):=by
 refine⟨_,_,_,_,⟨mg_of X G e,?_⟩,PySem.F.excBase_ValueError⟩;delta excIn at q;split at q;rename_i dd cd sl ho;split at q;rename_i C' bm k0 k1 k2 k3 n k5 hm hs;simp only[Xg,Wp,UX] at q;obtain⟨⟨⟨⟨⟨rfl,rfl⟩,Po⟩,ht⟩,aB⟩,xV⟩:=q;obtain⟨nm,bs,mro,ns,qn,hd,sn,sub,ab,col,del⟩:=cd;dsimp only at hm Po aB xV;subst hm Po;obtain⟨sl⟩:=sl;have qI:sl=_:=hs;subst qI;exact⟨bm,ns,nm,qn,bs,hd,sn,sub,ab,col,dd,k0,k1,k2,k3,k5,_,X _ _ ho,.of_isNs<|isNs_of_in X aB,nsMap_none_of_in X aB xV,tail_of_in X ht⟩;cases q;cases q
end
def DL(v:V)(l h:Int)(H:Hp):Prop:=tK v H\/∃i,v=.i i/\(i<l\/h<i)
inductive fD(U:ad)(H:Hp)(Q:VK)(E:XK):Prop|i(v:V)(l h:Int)(_:U=[v,.i l,.i h])(_:((∃i,v=.i i/\l<=i/\i<=h/\Q (.b true) H)\/(DL v l h H/\Q (.b false) H)))
abbrev fQ(K:Frag)(E:XK):aV:=aA K [("is_whole",tL)] [] (E:=E)
theorem agG{K:Frag}:bw (fD) (λE=>fQ K E) JU JT:=by
 intro U H Q E h;have c:∀(i l d:Int)(b:Fk)(H:Hp),decide (l<=i/\i<=d)=b->Q (.b b) H->ag (fQ K E) (.P .LtE .LtE (.v 1) (.v 0)<|.v 2) [some<|.i i,some<|.i l,some<|.i d] H Q:=by
  intro i l d b H g q;refine⟨_,O,_,O,trivial,_,O,?_⟩;refine cT (λf=>?_)<|λf=>?_;refine⟨_,O,trivial,?_⟩;have n:l<=i:=KF f;have e:decide (i<=d)=b:=by rw[<-g];simp[n]
  show Q (.b<|decide<|i<=d) H;rw[e];exact q;have n:¬l<=i:=λz=>f (ZA z);have e:b=false:=by rw[<-g];simp[n]
  have m:decide (l<=i)=false:=XZ n;rw[e] at q
  first
   |exact q
   | (show Q (.bl<|decide<|l<=i) H;rw[m];exact q)
 obtain⟨v,l,d,rfl,⟨i,rfl,f,k,q⟩|⟨j|⟨i,rfl,g⟩,q⟩⟩:=h;exact qF _ O ⟨_,O,.inl (rL i O _ O (iq<|c i l d true H (by simp[f,k]) q))⟩;exact qF _ O ⟨_,O,.inr (tR j _ O (lM q))⟩;exact qF _ O ⟨_,O,.inl (rL i O _ O (iq<|c i l d false H (by rw[XZ];rintro ⟨a,b⟩;lia) q))⟩
def agH(v:V)(H:Hp)(ps:cr):Prop:= ∃a Y,v=.r a/\H a=some (.l Y)/\aX H Y ps/\(∀q∈ps,fh q)/\ZP "" ps=true/\ps.length<=1000
noncomputable def fE(l T Z:D9)(n:Int):n6:=[("texts",.r l),("begins",.r T),("feeds",.r Z),("signs",.i n)]
theorem zj{l:D9}{n:Int}:(fE l T Z n).lookup ("texts":Str)=some (V.r l):=jz
theorem DM{l:D9}{n:Int}:(fE l T Z n).lookup ("begins":Str)=some (V.r T):=(dq (by decide+kernel)).trans jz
theorem DN{l:D9}{n:Int}:(fE l T Z n).lookup ("feeds":Str)=some (V.r Z):=(dq (by decide+kernel)).trans ((dq (by decide+kernel)).trans jz)
theorem Pp{l:D9}{n:Int}:(fE l T Z n).lookup ("signs":Str)=some (V.i n):=(dq (by decide+kernel)).trans ((dq (by decide+kernel)).trans<|(dq (by decide+kernel)).trans jz)
theorem vS{l:D9}{n:Int}{m:Str}(c:¬m="texts")(b:¬m="begins")(a:¬m="feeds")(h:¬m="signs"):(fE l T Z n).lookup m=none:=
 (dq c).trans ((dq b).trans<|(dq a).trans<|(dq h).trans O)
theorem agI{l:D9}{n:Int}:bC "signs" (.i k) (fE l T Z n)=fE l T Z k:=by
 delta fE;rw[fi (by decide+kernel),fi (by decide+kernel),fi (by decide+kernel),afw]
theorem agJ{l:D9}{n:Int}:bC "signs" (.i n) (bC "feeds" (.r Z)<|bC "begins" (.r T)<|bC "texts" (.r l) [])=fE l T Z n:=by
 have b:bC "texts" (V.r l) []=[(("texts":Str),V.r l)]:=O;have a:bC "begins" (V.r T) []=[(("begins":Str),V.r T)]:=O;have e:bC "feeds" (V.r Z) []=[(("feeds":Str),V.r Z)]:=O;delta fE;rw[b,fi (by decide+kernel),a,fi (by decide+kernel),fi (by decide+kernel),fi (by decide+kernel),e,fi (by decide+kernel),fi (by decide+kernel)];rfl
noncomputable def aj(s:ac):am:=(s.map λt=>t.cps.toList).flatten
theorem jC(a b:ac):aj (a++b)=aj a++aj b:=by simp[aj]
theorem o8(t:Str):aj [t]=t.cps.toList:=by simp[aj]
noncomputable def dS:ac->Nat->sK
 |[],_=>[]
 |t::r,k=>(k:Int)::dS r (k+t.length)
theorem agK:∀(a b:ac)(k:Nat),dS (a++b) k=dS a k++dS b (k+(aj a).length):=by
 intro l;induction l with
 |nil=>
  rintro b k;simp[dS,aj]
 |cons t a i=>
  rintro b k;have i:=i b (k+t.length);have e:k+t.length+(aj a).length=k+(aj (t::a)).length:=by
   simp[aj,Str.length];exact Yu _ _ _
  rw[e] at i;simp only[YZ,dS,i]
structure b_(C:D9)(H:Hp)(p dx lt T Z:D9)(ts:ac):Prop where
 ob:H p=some (.i C dx<|fE lt T Z (aj ts).length)
 t:H lt=some (.l<|ts.map V.s)
 b:H T=some (.l<|(dS ts 0).map V.i)
 f:H Z=some (.l<|(hJ 10<|aj ts).map V.i)
 n1:lt≠T
 n2:lt≠Z
 n3:T≠Z
def dz(p l T Z:D9)(H I:Hp):Prop:= ∀b o,H b=some o->b≠p->b≠l->b≠T->b≠Z->I b=some o
theorem dz.trans{l:D9}(a:dz p l T Z H h)(b:dz p l T Z h L):dz p l T Z H L:=λc o e g f d n=>b c o (a c o e g f d n) g f d n
theorem b_.same{l:D9}(S:b_ C H p dx l T Z a)(s:aq H I):b_ C I p dx l T Z a:=
 ⟨s _ _ S.ob,s _ _ S.t,s _ _ S.b,s _ _ S.f,S.n1,S.n2,S.n3⟩
inductive DO(C:D9)(U:ad)(H:Hp)(Q:VK)(E:XK):Prop|i(p dx:D9)(_:U=[.r p])(_:H p=some (.i C dx []))(_:∀(l T Z:D9)(I:Hp),b_ C I p dx l T Z []->H l=none->H T=none->H Z=none->(∀b o,H b=some o->b≠p->I b=some o)->Q .a I)
theorem agL{K:Frag}(g:qG K C)(U:ad)(H:Hp)(Q:VK)(E:XK)(h:DO C U H Q E):aw (aP K E) J6 {nx:=λW I=>Q .a I,r:=Q} (ZQ oF U) H:=by
 obtain⟨p,dx,rfl,v,k⟩:=h;refine⟨Wy _,λt u=>?_⟩;have f:p≠t:=a_ v u;refine tE _ O p C dx [] O (by rw[av f];exact v) g.c g.vw (by show 0<1000;decide) ?_;refine⟨Wy _,λT m=>?_⟩;have j:p≠T:=λz=>by rw[<-z,au] at m;cases m
 have q:t≠T:=λz=>by rw[<-z,av f.symm,au] at m;cases m
 refine tE _ O p C dx _ O (by rw[av j,au]) g.c g.yo (by show 1<1000;decide) ?_;refine⟨Wy _,λZ d=>?_⟩;have B:p≠Z:=λz=>by rw[<-z,au] at d;cases d
 have Y:T≠Z:=λz=>by rw[<-z,av j.symm,au] at d;cases d
 have s:t≠Z:=λz=>by rw[<-z,av f.symm,av q,av f.symm,au] at d;cases d
 refine tE _ O p C dx _ O (by rw[av B,au]) g.c g.yp (by show 2<1000;decide) ?_;refine tE _ O p C dx _ O au g.c g.yq (by show 3<1000;decide) ?_;have x:H T=none:=by
  rw[av j.symm,av q.symm] at m;exact m
 have w:H Z=none:=by
  rw[av B.symm,av Y.symm,av B.symm,av s.symm] at d;exact d
 refine k t T Z _ ⟨?_,?_,?_,?_,q,s,Y⟩ u x w λb o e n=>?_;rw[au];exact IR (λl=>some<|HO.i C dx l) agJ;rw[av f.symm,av f.symm,av s,av f.symm,av q,av f.symm,au];rfl;rw[av j.symm,av j.symm,av Y,av j.symm,au];rfl;rw[av B.symm,av B.symm,au];rfl;rw[av n,av n,av<|a_ e w,av n,av<|a_ e x,av n,av<|a_ e u];exact e
theorem agM:(Str.ofString "\n")=⟨#[10]⟩:=by rfl
def o9(l:am):Int:=match l with|i::_=>(i:Int)|[]=> -1
theorem Pq(x:Str)(l:Nat)(h:l<=x.length):(match Builtin.Str.occurrences x (Str.ofString "\n") l x.length 1 with|i::_=>(i:Int)|[]=> -1)=o9 (pos 10 (x.cps.toList.drop l) l):=by
 rw[agM,O6 x 10 l 1 h];cases pos 10 (x.cps.toList.drop l) l<;>rfl
inductive DP(a C:D9)(U:ad)(H:Hp)(Q:VK)(E:XK):Prop|i(p dx l T Z:D9)(t:ac)(v:V)(_:U=[.r p,v])(_:b_ C H p dx l T Z t)(_:((rg v H/\E (.ref a) none H)\/∃x,v=.s x/\good x/\t.length<=100000/\(aj t).length<=1000000/\
 ∀I,dz p l T Z H I->b_ C I p dx l T Z (t++[x])->Q (.i (aj t).length) I))
theorem Pr:∀(s:ac)(k:Nat),(dS s k).length=s.length:=by
 intro l;induction l with
 |nil=>
  rintro Y;exact O
 |cons t r i=>
  rintro k;simp[dS,i]
theorem Pu(c:Nat)(a:am)(k:Nat):(pos c a k).length<=a.length:=by
 rw[lY];exact List.count_le_length
abbrev f_(K:Frag)(CT:D9)(E:XK):aV:=aA K [("need_text",tM CT)] [] (E:=E)
theorem agN{K:Frag}(j:qG K C)(U:ad)(H:Hp)(Q:VK)(E:XK)(h:DP CT C U H Q E):aw (f_ K CT E) J7 {nx:=λ_ I=>Q .a I,r:=Q} (ZQ Co U) H:=by
 obtain⟨p,dx,n,T,Z,g,v,rfl,S,⟨hb,q⟩|⟨x,rfl,L,ht,hs,k⟩⟩:=h;exact qF _ O ⟨_,O,.inr ⟨hb,q⟩⟩;have Pw:p≠n:=se S.ob S.t (by intro z;cases z);have Px:p≠T:=se S.ob S.b (by intro z;cases z);have Py:p≠Z:=se S.ob S.f (by intro z;cases z);refine qF _ O ⟨_,O,.inl (qT x O L ?_)⟩;refine tQ _ O p C dx _ _ O S.ob j.c j.yq Pp ?_;refine⟨_,O,p,C,dx,_,_,O,S.ob,j.c,j.vw,zj,.inl ⟨O,_,ak.of S.t⟩,_,O,_,S.t,bR (by simp;exact Ut ht (VJ _ _)),?_⟩;have o1:upd H n (.l<|g.map V.s++[V.s x]) p=some (.i C dx<|fE n T Z (aj g).length):=by rw[av Pw];exact S.ob
 have Y:upd H n (.l<|g.map V.s++[V.s x]) T=some (.l<|(dS g 0).map V.i):=by rw[av S.n1.symm];exact S.b
 refine⟨_,O,p,C,dx,_,_,O,o1,j.c,j.yo,DM,.inl ⟨O,_,ak.of Y⟩,_,O,_,Y,bR (by rw[VH,Pr];exact Ut ht (VJ _ _)),?_⟩;refine⟨_,O,_,O,bQ L.1,_,O,p,C,dx,_,O,(by rw[av Px];exact o1),j.c,j.yq,(by show 4<1000;decide),?_⟩;generalize ku:upd (upd (upd H n<|.l<|g.map V.s++[V.s x]) T<|.l<|(dS g 0).map V.i++[V.i ((aj g).length:Int)]) p (.i C dx<|bC "signs" (.i<|((aj g).length:Int)+(x.length:Int))<|fE n T Z ((aj g).length:Int))=H3;have b3:dz p n T Z H H3:=λb o e G F D B=>by
  rw[<-ku,av G,av D,av F];exact e
 have o5:H3 p=some (.i C dx<|fE n T Z<|((aj g).length:Int)+(x.length:Int)):=by
  rw[<-ku,au];exact IR (λl=>some<|HO.i C dx l) agI
 have y:H3 n=some (.l<|g.map V.s++[V.s x]):=by rw[<-ku,av Pw.symm,av S.n1,au]
 have W:H3 T=some (.l<|(dS g 0).map V.i++[V.i ((aj g).length:Int)]):=by rw[<-ku,av Px.symm,au]
 have N:H3 Z=some (.l<|(hJ 10<|aj g).map V.i):=by rw[<-ku,av Py.symm,av S.n3.symm,av S.n2.symm];exact S.f
 have zk:=Wj x;have l0:=Pu 10 (aj g) 0;have l1:=Pu 10 x.cps.toList 0;refine⟨_,O,O,?_⟩;show aw _ _ _ ((ZQ Co [V.r p,V.s x]).set 2 _|>.set 3 (some<|V.i (match Builtin.Str.occurrences x (Str.ofString "\n") 0 x.length 1 with|i::_=>(i:Int)|[]=> -1))) H3;rw[Pq x 0<|Wy _,X5];refine⟨λm J I=>∃(d M:am),m=M.length/\pos 10 x.cps.toList 0=d++M/\J=[some (.r p),some (.s x),some (.i ((aj g).length:Int)),some (.i (o9 M))]/\aH Z H3 I/\I Z=some (.l ((hJ 10 (aj g)++d.map fun(i:Nat)=>((aj g).length:Int)+(i:Int)).map V.i)),
  ⟨_,[],pos 10 x.cps.toList 0,O,O,O,λb o e _=>e,by rw[lA,YS];exact N⟩,?_⟩
 rintro m J I ⟨d,M,rfl,u,rfl,w,P⟩;have X:=w _ _ o5 Py;refine⟨_,O,trivial,_,O,?_⟩;cases M with
 |nil=>
  refine iF ⟨_,O,?_⟩;rw[YS] at u;refine k I (λb o e G F D B=>w b o (b3 b o e G F D B) B) ⟨?_,?_,?_,?_,S.n1,S.n2,S.n3⟩;rw[jC,o8,Zw,<-zk,UW];exact X;rw[Xn];exact w _ _ y S.n2;rw[agK,Xn,VI];exact w _ _ W S.n3;rw[jC,o8,af8,u];exact P
 |cons i M=>
  have hi:=m_ 10 x.cps.toList 0 i (by rw[u];simp);have hl:d.length+(M.length+1)<=x.cps.toList.length:=by
   have:=IR List.length u;simp at this;lia
  have qN:decide ((0:Int)<=o9 (i::M))=true:=ZA (by show(0:Int)<= (i:Int);exact YK _);refine iT ?_ qN;refine⟨_,λL' Pj q=>q,?_⟩;refine⟨_,O,p,C,dx,_,_,O,X,j.c,j.yp,DN,.inl ⟨O,_,ak.of P⟩,_,O,_,O,_,P,(by have e:sizeLine=16777216:=O;have:=L.1;simp[hJ];lia),?_⟩;refine⟨_,O,O,_,O,?_⟩;have e1:fromIndex x.length (o9 (i::M)+1)=i+1:=by
   show fromIndex x.length ((i:Int)+1)=i+1;delta fromIndex;rw[GM al];lia
  have A:=U9 10 x.cps.toList 0 i d M u;rw[kE] at A;have R:=Pq x (i+1) al;rw[A] at R;rw[<-e1] at R;refine⟨M.length,VY _,d++[i],M,O,by rw[u];simp,?_,w.trans aH.upd,?_⟩;show[_,_,_,some<|V.i (match Builtin.Str.occurrences x (Str.ofString "\n") (fromIndex x.length<|o9 (i::M)+1) x.length 1 with|k::_=>(k:Int)|[]=> -1)]=_;rw[R];rw[au];simp[o9]
section
variable{B:aV}{D:Xt}{J:St}{H:Hp}{r:bv}{Q:VK}{QA:ad->Hp->Prop}{d:tz}
theorem eT{K:Frag}{b:Fk}{Q:Fk->Prop}(h:Q b):kx K (.b b) H Q:=h
theorem eR(h:bj B a J H λb c=>d (!b) c):bj B (.n a) J H d:=h
theorem gb(s:Sp)(c:B.fs j=s)(h:aO B as J H λU a=>s U a (λx L=>kx B.K x L λb=>d b L) B.E):bj B (.l j as) J H d:=by
 subst c;show aO B as J H λU a=>B.fs j (U++[]) a (λx L=>kx B.K x L λb=>d b L) B.E;have e:(fun(U:ad)(a:Hp)=>B.fs j (U++[]) a (λx L=>kx B.K x L λb=>d b L) B.E)=λU a=>B.fs j U a (λx L=>kx B.K x L λb=>d b L) B.E:=by
  funext U a;rw[YS]
 rw[e];exact h
theorem j9{b:RE}(h:bj B a J H λc e=>if c=true then d true e else bj B b J e d):bj B (.o [a,b]) J H d:=h
theorem Pz{b:RE}(h:bj B a J H λc e=>if c=true then bj B b J e d else d false e):bj B (.d [a,b]) J H d:=h
end
section
variable{B:aV}{J:St}{H:Hp}{Q:VK}{d:tz}{K:Frag}
theorem PC{b:RE}{r:sB}(h:bj B a J H λc e=>if c=true then bj B (.d (b::r)) J e d else d false e):bj B (.d (a::b::r)) J H d:=h
theorem agR(h:bj B a J H d):bj B (.d [a]) J H d:=h
theorem DQ{T:Ty}(h:ag B a J H λx c=>bS T x c λb=>d b c):bj B (.G T a) J H d:=by
 show gK B.K (eZ (om T)<|dU (ag B a)<|dU (tC<|.t T.nm) je) J H d;have e:∀(q:VK),(fun(x:V)(c:Hp)=>bS T x c λb=>q (.b b) c)=λx c=>om T [x,.t T.nm] c q:=by
  intro q;funext x c;simp[om]
 show ag B a J H λx c=>om T [x,.t T.nm] c λv L=>kx B.K v L λb=>d b L;rw[<-e];exact h
theorem az{s:D9->db->Prop}(h:H a=some (.t Y))(e:di Y i=some v)(q:Q v H):oo K s (.r a) (.i i) H Q:=
 .inr (.inl ⟨_,_,_,_,O,O,aM.of h,e,q⟩)
theorem gO{y:Int}(q:Q (.b<|decide<|x=y) H):bW K .Eq (.i x) (.i y) H Q:=by
 show Q (.b<|false ^^ decide (V.i x=V.i y)) H;rw[YN,show decide (V.i x=V.i y)=decide (x=y) from decide_eq_decide.mpr ⟨λz=>by injection z,λz=>by rw[z]⟩];exact q
theorem vT{y:Int}(q:Q (.b<|!decide (x=y)) H):bW K .NotEq (.i x) (.i y) H Q:=by
 show Q (.b<|true ^^ decide (V.i x=V.i y)) H;rw[VR,show decide (V.i x=V.i y)=decide (x=y) from decide_eq_decide.mpr ⟨λz=>by injection z,λz=>by rw[z]⟩];exact q
theorem bU{j:Int}(h:Q (.i<|i+j) H):lO K .Add (.i i) (.i j) H Q:=h
end
theorem Um{K:Frag}{y:Int}(q:Q (.b<|decide<|x<y) H):bW K .Lt (.i x) (.i y) H Q:=⟨trivial,q⟩
theorem agT(ps:ac)(z:Str):(qE<|ps++[z]).cps.toList=(qE ps).cps.toList++z.cps.toList:=by rw[N5,N6,XE]
def pre(t:ac)(k:Nat):Nat:=(aj<|t.take k).length
theorem PD(t:Str)(r:ac):aj (t::r)=t.cps.toList++aj r:=by simp[aj]
theorem PJ(h:ts.length<=k):pre ts k=(aj ts).length:=by delta pre;rw[Vo h]
theorem BV{s:ac}(h:s[k]?=some t):aj s=aj (s.take k)++(t.cps.toList++aj (s.drop<|k+1)):=by
 obtain⟨b,a⟩:=ZX.mp h
 conv=>lhs;rw[<-Yq k s,Tz b,a]
 rw[jC,PD]
theorem PK{s:ac}(h:s[k]?=some t):pre s (k+1)=pre s k+t.length:=by
 delta pre;rw[Wb,h,jC,Zw];show _+(aj [t]).length=_;rw[o8,Wj]
theorem agV(t:ac)(k:Nat):pre t k<= (aj t).length:=by
 have e:aj t=aj (t.take k)++aj (t.drop k):=by rw[<-jC,Yq]
 rw[e,Zw];delta pre;exact YJ _ _
theorem agW(t:ac):pre t 0=0:=O
theorem vU:∀(s:ac)(k j:Nat),j<s.length->(dS s k)[j]?=some (((k+pre s j:Nat):Int)):=by
 intro s;induction s with
 |nil=>intro k j h;cases h
 |cons t r u=>
  intro k j h;cases j with
  |zero=>simp[dS,pre,aj]
  |succ j=>
   have i:=u (k+t.length) j (VD h);show(dS r<|k+t.length)[j]?=_;rw[i];have:pre (t::r) (j+1)=t.length+pre r j:=by
    delta pre;rw[YX,PD,Zw,Wj]
   rw[this];congr 1;lia
theorem agX:∀(s:ac)(k:Nat),∀x∈dS s k,(k:Int)<=x:=by
 intro l;induction l with
 |nil=>
  rintro k x h;cases h
 |cons t r i=>
  rintro k x h;rcases UA.mp h with rfl|h
  exact TM _;have:=i (k+t.length) x h;lia
theorem PL:∀(s:ac)(k:Nat),rn (dS s k):=by
 intro l;induction l with
 |nil=>
  rintro k;exact List.Pairwise.nil
 |cons t r i=>
  rintro k;exact List.Pairwise.cons (λx h=>by have:=agX r (k+t.length) x h;lia)<|i<|k+t.length
theorem Da(h:b< (aj ts).length):∃k,de (dS ts 0) (b:Int)=k+1/\k<ts.length/\pre ts k<=b/\b<=pre ts (k+1):=by
 have l:=Pr ts 0;have d:=DE (dS ts 0) (b:Int);have a:=PL ts 0;have Z:0<ts.length:=by
  cases ts with
  |nil=>simp[aj] at h
  |cons t r=>exact Nat.zero_lt_succ _
 have e:=DG (most:=(b:Int)) a (vU ts 0 0 Z) (by rw[agW];exact YK _);obtain⟨k,c⟩:∃k,de (dS ts 0) (b:Int)=k+1:=⟨de (dS ts 0) (b:Int) - 1,al⟩;have P:k<ts.length:=by lia
 refine⟨k,c,P,?_,?_⟩;by_cases q:pre ts k<=b;exact q;have:=DH (most:=(b:Int)) a (vU ts 0 k P) al;lia;by_cases q:k+1<ts.length;by_cases z:b<=pre ts (k+1);exact z;have:=DG (most:=(b:Int)) a (vU ts 0 (k+1) q) al;lia;rw[PJ (ZK q)];exact Yl h
theorem ag0{s:ac}(h:s[k]?=some t)(a:pre s k<=c)(d:c<=pre s (k+1)):(t.cps.toList.drop<|c - pre s k).take m=((aj s).drop c).take (min m<|pre s (k+1) - c):=by
 rw[BV h];have p:=PK h;have b:=Wj t;have e:(aj (s.take k)++(t.cps.toList++aj (s.drop<|k+1))).drop c=t.cps.toList.drop (c - pre s k)++aj (s.drop<|k+1):=by
  rw[List.drop_append,Tj (show(aj<|s.take k).length<=c from a),Z4];show(t.cps.toList++_).drop (c - pre s k)=_;rw[TJ al]
 rw[e];have l:(t.cps.toList.drop<|c - pre s k).length=pre s (k+1) - c:=by rw[Xh];lia
 rw[TL (by rw[l];lia),<-l,<-ZM,Ux]
theorem AR(b c m:Nat)(h:b<=c):(l.drop b).take (c - b)++(l.drop c).take m=(l.drop b).take (c+m - b):=by
 rw[show c+m - b=(c - b)+m by lia,List.take_add,List.drop_drop,show b+(c - b)=c by lia]
def ag2(v a:V)(n:Nat)(H:Hp):Prop:=DL v 0 (n:Int) H\/∃b:Int,v=.i b/\0<=b/\b<= (n:Int)/\DL a 0 ((n:Int) - b) H
inductive DR(W C:D9)(U:ad)(H:Hp)(Q:VK)(E:XK):Prop|i(p dx l T Z:D9)(a:ac)(c v:V)(_:U=[.r p,c,v])(_:b_ C H p dx l T Z a)(_:((ag2 c v (aj a).length H/\E (.ref W) none H)\/
 ∃b n:Nat,c=.i (b:Nat)/\v=.i (n:Nat)/\b+n<= (aj a).length/\a.length<=100000/\(aj a).length<=1000000/\(∀t∈a,t.length<=1000000)/\∀I,aq H I->Q (.s ⟨(((aj a).drop b).take n).toArray⟩) I))
abbrev tS:io:=[("is_between",fD),("many_upto",vR)]
abbrev gI(K:Frag)(W:D9)(E:XK):aV:=aA K tS [] (et:=[("NoPlace",W)]) (E:=E)
theorem u3{K:Frag}(w:qG K C):bw (DR W C) (λE=>gI K W E) J9 J8:=by
 intro U H Q E h;obtain⟨p,dx,lt,T,Z,g,vb,vn,rfl,S,h⟩:=h;have F:∀{y:Hp}{J:St}{u:VK},aq H y->J[0]?=some (some<|.r p)->u (.i (aj g).length) y->ag (gI K W E) (.f (.v 0) "signs") J y u:=λs e q=>tQ _ e p C dx _ _ O (s _ _ S.ob) w.c w.yq Pp q;have fb:∀{y:Hp}{J:St}{u:VK},aq H y->J[0]?=some (some<|.r p)->u (.r T) y->ag (gI K W E) (.f (.v 0) "begins") J y u:=λs e q=>tQ _ e p C dx _ _ O (s _ _ S.ob) w.c w.yo DM q;have ft:∀{y:Hp}{J:St}{u:VK},aq H y->J[0]?=some (some<|.r p)->u (.r lt) y->ag (gI K W E) (.f (.v 0) "texts") J y u:=λs e q=>tQ _ e p C dx _ _ O (s _ _ S.ob) w.c w.vw zj q;have B:=aq.refl H;rcases h with⟨X|⟨b,rfl,h1,Y,X⟩,q⟩|⟨b,n,rfl,rfl,f',zm,c',oT,q⟩
 refine bh (j9<|eR<|gb fD O<|af<|ae O<|af<|ah<|af<|F B O<|ao ⟨_,_,_,O,.inr ⟨X,eT<|iT (iT ?_ O) O⟩⟩);exact⟨ib,q⟩;refine bh (j9<|eR<|gb fD O<|af<|ae O<|af<|ah<|af<|F B O<|ao ⟨_,_,_,O,.inl ⟨b,O,h1,Y,eT<|iF ?_ O⟩⟩);refine eR<|gb fD O<|af<|ae O<|af<|ah<|af<|aI<|F B O<|ae O ⟨trivial,ao ⟨_,_,_,O,.inr ⟨X,eT<|iT ?_ O⟩⟩⟩;exact⟨ib,q⟩;refine bh (j9<|eR<|gb fD O<|af<|ae O<|af<|ah<|af<|F B O<|ao ⟨_,_,_,O,.inl ⟨_,O,(YK _),al,eT<|iF ?_ O⟩⟩);refine eR<|gb fD O<|af<|ae O<|af<|ah<|af<|aI<|F B O<|ae O ⟨trivial,ao ⟨_,_,_,O,.inl ⟨_,O,(YK _),al,eT<|iF ?_ O⟩⟩⟩;refine aJ<|du<|ao ⟨Wy _,λd P=>?_⟩;have s1:=Xo (o:=.l []) P;refine aJ<|aI<|aC vR O<|af<|fb s1 O<|af<|ae O<|ao ⟨T,dS g 0,_,O,s1 _ _ S.b,PL g 0,ah ⟨trivial,?_⟩⟩;refine aJ<|aI<|ae O<|ae O<|bU ?_;have o9:upd H d (.l []) d=some (.l<|([]:ac).map V.s):=au;refine vP (λm J L=>Ui λ(c:Nat)(k:Int)(ps:ac)(u6 u7:ld)=>Uu (m=g.length+1 - k.toNat) (J=[some (.r p),some (.i (c:Nat)),some (.i (n:Nat)),some (.r d),some (.i k),some (.i ((b:Int)+(n:Int))),u6,u7]) (aH d H L) (L d=some (.l (ps.map V.s))) (b<=c) (c<=b+n) ((qE ps).cps.toList=((aj g).drop b).take (c - b)) (ps.length<=k.toNat+1) (c<b+n->∃j:Nat,k=(j:Int)/\j<g.length/\pre g j<=c/\c<=pre g (j+1)))
  (qY _ ⟨b,((de (dS g 0) (b:Int):Nat):Int) - 1,[],none,none,O,O,λx o e nx=>by rw[av nx];exact e,o9,mZ _,(YJ _ _),by rw[aem,Nat.sub_self,List.take_zero];rfl,Wy _,λI=>?_⟩) ?_
 obtain⟨j,e,h1,Y,h3⟩:=Da (ts:=g) (b:=b) (Z1 I f');exact tG j al h1 Y h3;rintro m J L ⟨c,k,ps,u6,u7,rfl,rfl,b2,A,R,e',G,ko,cG⟩;refine bf<|ae O<|ae O<|Um ⟨_,O,?_⟩;refine cT (λI=>?_)<|λI=>?_;have DS:c<b+n:=by have:=KF I;lia
 obtain⟨j,zq⟩:=Vx (cG DS);obtain⟨rfl,N,Dj,DT⟩:=l5 zq;clear cG;have D:∀{a:D9}{o:HO},H a=some o->L a=some o:=λ{a o} e=>b2 a o e (λz=>by rw[z,P] at e;cases e);have tj:g[j]?=some g[j]:=VP N;have a':∀{J:St}{u:VK},J[0]?=some (some<|.r p)->u (.r T) L->ag (gI K W E) (.f (.v 0) "begins") J L u:=λe q=>tQ _ e p C dx _ _ O (D S.ob) w.c w.yo DM q;have g':∀{J:St}{u:VK},J[0]?=some (some<|.r p)->u (.r lt) L->ag (gI K W E) (.f (.v 0) "texts") J L u:=λe q=>tQ _ e p C dx _ _ O (D S.ob) w.c w.vw zj q;have ab:di ((dS g 0).map V.i) (j:Int)=some (.i (pre g j:Nat)):=gu (by rw[Y5,vU g 0 j N,VI];rfl);have b':di (g.map V.s) (j:Int)=some (.s g[j]):=gu (by rw[Y5,tj];rfl);have M:=oT _ (Ua N);refine qF _ (λL' Pj q=>q) ?_;refine aJ<|aI<|ae O<|aD<|a' O<|ae O<|fo (D S.b) ab ⟨trivial,?_⟩;refine aJ ?_;refine tQ _ O p C dx _ _ O (D S.ob) w.c w.vw zj ⟨_,O,fo (D S.t) b' ?_⟩;refine sV _ O _ O _ O ⟨_,O,_,O,trivial,_,O,bQ M,?_⟩;have ec:mG g[j] (some<|(c:Int) - (pre g j:Nat)) (some<|(c:Int) - (pre g j:Nat)+((b:Int)+(n:Int)) - (c:Int))=⟨((aj g).drop c).take (min (b+n - c)<|pre g (j+1) - c)|>.toArray⟩:=by
  rw[show(c:Int) - (pre g j:Nat)=((c - pre g j:Nat):Int) by lia,show((c - pre g j:Nat):Int)+((b:Int)+(n:Int)) - (c:Int)=((c - pre g j:Nat):Int)+((b+n - c:Nat):Int) by lia,afM (c - pre g j) ((b+n - c:Nat):Int) (b+n - c) O,ag0 tj Dj DT]
 rw[ec];have d':=agV g (j+1);have lz:(⟨(((aj g).drop c).take<|min (b+n - c)<|pre g (j+1) - c).toArray⟩:Str).length=min (b+n - c) (pre g (j+1) - c):=by
  rw[Wj];show(((aj g).drop c).take _).length=_;rw[WE,Xh];lia
 generalize hz:(⟨(((aj g).drop c).take<|min (b+n - c)<|pre g (j+1) - c).toArray⟩:Str)=z at lz⊢;refine eQ<|gC<|ae O ⟨.inl ⟨O,_,ak.of A⟩,ae O ⟨_,A,bR (by rw[VH];lia),?_⟩⟩;refine aJ<|aI<|ae O<|i6<|af<|ae O<|ao ⟨bQ al,bU ?_⟩;refine aJ<|aI<|ae O<|ah<|bU ?_;refine qF _ ?_ ⟨c+z.length,((j:Int)+1),ps++[z],some<|.i<|(c:Int) - (pre g j:Nat),some<|.s z,O,?_,b2.trans aH.upd,?_,(TX R),al,?_,?_,?_⟩;lia;show[_,some<|V.i<|(c:Int)+(z.length:Int),_,_,_,_,_,_]=_;rw[UW];rw[au,Xn];rfl;rw[agT,G,<-hz];show _++((aj g).drop c).take _=_;rw[AR b c _ R,hz,lz];rw[Zw];show ps.length+1<=_;lia;intro mz;have e3:c+z.length=pre g (j+1):=by lia
 have PN:j+1<g.length:=by
  by_cases q:j+1<g.length;exact q;have:=PJ (ts:=g) (k:=j+1) (ZK q);lia
 have sL:=PK (VP PN);exact tG (j+1) al PN al al;have DS:c=b+n:=by
  have:¬((c:Int) < (b:Int)+(n:Int)):=λz=>I (ZA z);lia
 subst DS;rw[show b+n - b=n by lia] at G;have lc:(qE ps).length<=1000000:=by rw[Wj,G,WE,Xh];lia
 refine aS<|gC<|ah ⟨O,ae O ⟨ps,ak.of A,X7 (by rw[<-yG];exact lc),?_⟩⟩;have es:Txt.join "" ps=⟨(((aj g).drop b).take n).toArray⟩:=iY G;rw[es];exact q L λa o e=>b2 a o e (λz=>by rw[z,P] at e;cases e)
abbrev tp(p:P3):HO:=.t [.i p.1,.i p.2.1,.i p.2.2]
def Pc(H:Hp)(v:V)(p:P3):Prop:= ∃q,v=.r q/\H q=some (tp p)
abbrev kW(H:Hp):ad->v6->Prop:=Paired (Pc H)
theorem Pc.mono(t:gB H I)(h:Pc H v p):Pc I v p:=by
 obtain⟨a,e,h⟩:=h;exact⟨a,e,t _ _ h⟩
theorem kW.mono(t:gB H I):∀{U:ad}{ps:v6},kW H U ps->kW I U ps:=by
 intro U ps h;induction h with
 |nil=>exact .nil
 |cons h _ i=>exact .cons (h.mono t) i
theorem kW.app:∀{U w:ad}{ps q:v6},kW H U ps->kW H w q->kW H (U++w) (ps++q):=by
 intro U w ps q h b;induction h with
 |nil=>exact b
 |cons h _ i=>exact .cons h i
def Nd(H:Hp):Tr->V->Prop
 |.nil,v=>v=.a
 |.node l a b c r,v=>∃p q e d,v=.r p/\H p=some (.t [e,.r q,d,.i (Tr.node l a b c r).h,.i (Tr.node l a b c r).sz,.i (Tr.node l a b c r).en])/\H q=some (tp (a,b,c))/\Nd H l e/\Nd H r d
theorem Nd.mono(t:gB H I):∀{x:Tr}{v:V},Nd H x v->Nd I x v:=by
 intro x;induction x with
 |nil=>exact λh=>h
 |node l a b c r m n=>
  intro v h;obtain⟨p,q,f,d,e,k,j,i,g⟩:=h;exact qZ p q f d e (t _ _ k) (t _ _ j) (m i) (n g)
inductive vV(U:ad)(H:Hp)(Q:VK)(E:XK):Prop|i(v t:_)(_:U=[v])(_:Nd H t v)(_:Q (.i t.h) H)
inductive kY(U:ad)(H:Hp)(Q:VK)(E:XK):Prop|i(v t:_)(_:U=[v])(_:Nd H t v)(_:Q (.i t.sz) H)
inductive kZ(U:ad)(H:Hp)(Q:VK)(E:XK):Prop|i(v t:_)(_:U=[v])(_:Nd H t v)(_:Q (.i t.en) H)
theorem w9{K:Frag}(U:ad)(H:Hp)(Q:VK)(E:XK)(h:vV U H Q E):aw (aP K E) J_ {nx:=λY I=>Q .a I,r:=Q} (ZQ sZ U) H:=by
 obtain⟨v,t,rfl,n,q⟩:=h;refine rE _ O O _ O ?_;cases t with
 |nil=>cases n;exact iT q
 |node l a b c r=>
  obtain⟨p,g,f,e,zq⟩:=YU n;obtain⟨rfl,d, -⟩:=Vk zq;exact iF (qF _ O (az d O q))
theorem z4{K:Frag}(U:ad)(H:Hp)(Q:VK)(E:XK)(h:kY U H Q E):aw (aP K E) Ka {nx:=λY I=>Q .a I,r:=Q} (ZQ sZ U) H:=by
 obtain⟨v,t,rfl,n,q⟩:=h;refine rE _ O O _ O ?_;cases t with
 |nil=>cases n;exact iT q
 |node l a b c r=>
  obtain⟨p,g,f,e,zq⟩:=YU n;obtain⟨rfl,d, -⟩:=Vk zq;exact iF (qF _ O (az d O q))
theorem rT{K:Frag}(U:ad)(H:Hp)(Q:VK)(E:XK)(h:kZ U H Q E):aw (aP K E) Kb {nx:=λY I=>Q .a I,r:=Q} (ZQ sZ U) H:=by
 obtain⟨v,t,rfl,n,q⟩:=h;refine rE _ O O _ O ?_;cases t with
 |nil=>cases n;exact iT q
 |node l a b c r=>
  obtain⟨p,g,f,e,zq⟩:=YU n;obtain⟨rfl,d, -⟩:=Vk zq;exact iF (qF _ O (az d O q))
abbrev y3:io:=[("height_of",vV),("size_of",kY),("ends_of",kZ)]
inductive zo(U:ad)(H:Hp)(Q:VK)(E:XK):Prop|i(e q d l r a b c:_)(_:U=[e,.r q,d])(_:Nd H l e)(_:Nd H r d)(_:H q=some (tp (a,b,c)))(_:∀v I,aq H I->Nd I (.node l a b c r) v->Q v I)
abbrev arX(K:Frag)(E:XK):aV:=aA K y3 [] (E:=E)
theorem aha{K:Frag}(U:ad)(H:Hp)(Q:VK)(E:XK)(h:zo U H Q E):aw (arX K E) Kd {nx:=λY I=>Q .a I,r:=Q} (ZQ Kc U) H:=by
 obtain⟨d,q,v,l,r,a,b,c,rfl,f,e,g,k⟩:=h;refine qF _ O ⟨d,l,O,f,_,O,v,r,O,e,?_⟩;refine qF _ O ⟨d,l,O,f,_,O,az g O (qF _ O ⟨v,r,O,e,?_⟩)⟩;refine sV _ O _ O _ O ⟨_,O,_,O,_,O,d,l,O,f,_,O,az g O (qF _ O ⟨v,r,O,e,Af,λt j=>?_⟩)⟩;have s:=Xo (o:=.t [d,.r q,v,.i<|1+(if r.h>l.h then r.h else l.h),.i<|l.sz+b+r.sz,.i<|l.en+c+r.en]) j;exact k _ _ s (qZ t q d v O au (s _ _ g) (f.mono<|aR s) (e.mono<|aR s))
abbrev PQ:io:=[("height_of",vV),("made",zo)]
inductive PR(U:ad)(H:Hp)(Q:VK)(E:XK):Prop|i(e q d l r a b c:_)(_:U=[e,.r q,d])(_:Nd H l e)(_:Nd H r d)(_:H q=some (tp (a,b,c)))(_:l.ok)(_:r.ok)(_:l.h=r.h+2)(_:∀v I t,aq H I->Nd I t v->Tr.lX l a b c r t->Q v I)
inductive PU(U:ad)(H:Hp)(Q:VK)(E:XK):Prop|i(e q d l r a b c:_)(_:U=[e,.r q,d])(_:Nd H l e)(_:Nd H r d)(_:H q=some (tp (a,b,c)))(_:l.ok)(_:r.ok)(_:r.h=l.h+2)(_:∀v I t,aq H I->Nd I t v->Tr.lX l a b c r t->Q v I)
abbrev g5(K:Frag)(E:XK):aV:=aA K PQ [] (E:=E)
theorem ahb{K:Frag}(U:ad)(H:Hp)(Q:VK)(E:XK)(h:PR U H Q E):aw (g5 K E) Kf {nx:=λ_ I=>Q .a I,r:=Q} (ZQ yr U) H:=by
 obtain⟨vl,q,o,l,r,a',b',c',rfl,X,G,J,F,C,M,k⟩:=h;have r0:=Tr.h0 r;obtain⟨ll,a,b,c,d,rfl⟩:=Tr.tP (t:=l) al;obtain⟨p,B,D,w,rfl,e,A,j,m⟩:=X;refine qF _ O (az e O ?_);refine qF _ O (az e O ⟨D,ll,O,j,_,O,w,d,O,m,trivial,_,O,?_⟩);refine cT (λh=>?_)<|λh=>?_;have S:d.h<=ll.h:=KF h;refine qF _ O (az e O (qF _ O (az e O (sV _ O _ O _ O ⟨w,q,o,d,r,a',b',c',O,m,G,J,λv Z s i=>?_⟩))));refine⟨D,B,v,ll,_,a,b,c,O,j.mono<|aR s,i,s _ _ A,λu L f n=>?_⟩;exact k _ _ _ (s.trans f) n<|Tr.afV F C M S;have Y:ll.h<d.h:=by
  have:¬d.h<=ll.h:=λz=>h (ZA z);lia
 have l0:=Tr.h0 ll;obtain⟨W,x,y,z,V,rfl⟩:=Tr.tP (t:=d) (Hd l0 Y);obtain⟨pi,R,DU,DV,zq⟩:=YU m;obtain⟨rfl,g,DW,N,DX⟩:=V_ zq;refine qF _ O (az e O (qF _ O (az e O (qF _ O (az g O ⟨D,B,DU,ll,W,a,b,c,O,j,N,A,λv Z s i=>?_⟩)))));refine qF _ O (az (s _ _ g) O (qF _ O (az (s _ _ g) O (rL _ O _ O ⟨DV,q,o,V,r,a',b',c',O,DX.mono<|aR s,G.mono<|aR s,s _ _ J,λu L f n=>?_⟩))));refine⟨v,R,u,_,_,x,y,z,O,i.mono<|aR f,n,f _ _<|s _ _ DW,λv3 H3 P T=>?_⟩;exact k _ _ _ (s.trans<|f.trans P) T<|Tr.afW F C M Y
theorem v_{K:Frag}(U:ad)(H:Hp)(Q:VK)(E:XK)(h:PU U H Q E):aw (g5 K E) Kh {nx:=λ_ I=>Q .a I,r:=Q} (ZQ yr U) H:=by
 obtain⟨u,q,vr,l,r,a,b,c,rfl,J,Y,D,C,B,M,k⟩:=h;have r0:=Tr.h0 l;obtain⟨e,a',b',c',d,rfl⟩:=Tr.tP (t:=r) al;obtain⟨p,A,V,F,rfl,f,o,m,G⟩:=Y;refine qF _ O (az f O ?_);refine qF _ O (az f O ⟨F,d,O,G,_,O,V,e,O,m,trivial,_,O,?_⟩);refine cT (λh=>?_)<|λh=>?_;have S:e.h<=d.h:=KF h;refine sV _ O _ O _ O ⟨u,q,V,l,e,a,b,c,O,J,m,D,λv H1 s j=>?_⟩;refine qF _ O (az (s _ _ f) O (qF _ O (az (s _ _ f) O ⟨v,A,F,_,d,a',b',c',O,j,G.mono<|aR s,s _ _ o,λw L g n=>?_⟩)));exact k _ _ _ (s.trans g) n<|Tr.afX C B M S;have Z:d.h<e.h:=by
  have:¬e.h<=d.h:=λz=>h (ZA z);lia
 have l0:=Tr.h0 d;obtain⟨X,x,y,z,W,rfl⟩:=Tr.tP (t:=e) (Hd l0 Z);obtain⟨pi,R,DU,DV,zq⟩:=YU m;obtain⟨rfl,i,DW,N,DX⟩:=V_ zq;refine sV _ O _ O _ O (az i O ⟨u,q,DU,l,X,a,b,c,O,J,N,D,λv H1 s j=>?_⟩);refine qF _ O (az (s _ _ i) O (qF _ O (az (s _ _ i) O (qF _ O (az (s _ _ f) O (qF _ O (az (s _ _ f) O ⟨DV,A,F,W,d,a',b',c',O,DX.mono<|aR s,G.mono<|aR s,s _ _ o,λw L g n=>?_⟩)))))));refine⟨v,R,w,_,_,x,y,z,O,j.mono<|aR g,n,g _ _<|s _ _ DW,λv3 H3 P T=>?_⟩;exact k _ _ _ (s.trans<|g.trans P) T<|Tr.afY C B M Z
abbrev ahd:io:=[("height_of",vV),("turned_right",PR),("turned_left",PU),("made",zo)]
inductive PV(U:ad)(H:Hp)(Q:VK)(E:XK):Prop|i(e q d l r a b c:_)(_:U=[e,.r q,d])(_:Nd H l e)(_:Nd H r d)(_:H q=some (tp (a,b,c)))(_:l.ok)(_:r.ok)(_:l.h<=r.h+2)(_:r.h<=l.h+2)(_:∀v I t,aq H I->Nd I t v->Tr.lX l a b c r t->Q v I)
abbrev hI(K:Frag)(E:XK):aV:=aA K ahd [] (E:=E)
theorem ahe{K:Frag}(U:ad)(H:Hp)(Q:VK)(E:XK)(h:PV U H Q E):aw (hI K E) Ki {nx:=λY I=>Q .a I,r:=Q} (ZQ vx U) H:=by
 obtain⟨e,q,d,l,r,a,b,c,rfl,i,f,m,j,o,t,p,k⟩:=h;refine qF _ O ⟨e,l,O,i,_,O,d,r,O,f,trivial,_,O,?_⟩;refine cT (λh=>?_)<|λh=>?_;have g:r.h+1<l.h:=KF h;exact sV _ O _ O _ O ⟨e,q,d,l,r,a,b,c,O,i,f,m,j,o,al,k⟩;have g:¬r.h+1<l.h:=λz=>h (ZA z);refine qF _ O ⟨d,r,O,f,_,O,e,l,O,i,trivial,_,O,?_⟩;refine cT (λh=>?_)<|λh=>?_;have u:l.h+1<r.h:=KF h;exact sV _ O _ O _ O ⟨e,q,d,l,r,a,b,c,O,i,f,m,j,o,al,k⟩;have u:¬l.h+1<r.h:=λz=>h (ZA z);exact sV _ O _ O _ O ⟨e,q,d,l,r,a,b,c,O,i,f,m,λv I s n=>k _ _ _ s n<|Tr.OV j o (ZF g) (ZF u)⟩
inductive j_(n:Nat)(U:ad)(H:Hp)(Q:VK)(E:XK):Prop|i(e q d l r a b c:_)(_:U=[e,.r q,d])(_:Nd H l e)(_:Nd H r d)(_:H q=some (tp (a,b,c)))(_:l.ok)(_:r.ok)(_:l.h+r.h<n)(_:∀v I t,aq H I->Nd I t v->Tr.Jn l a b c r t->Q v I)
theorem ahg(U:ad)(H:Hp)(Q:VK)(E:XK):¬j_ 0 U H Q E:=by
 rintro⟨d,q,v,l,r,a,b,c, -, -, -, -, -, -,h, -⟩;have:=Tr.h0 l;have:=Tr.h0 r;lia
abbrev ahh(n:Nat):io:=[("height_of",vV),("leveled",PV),("joined",j_ n),("made",zo)]
abbrev aoA(K:Frag)(n:D9)(E:XK):aV:=aA K (ahh n) [] (E:=E)
theorem ahi{K:Frag}(n:Nat)(U:ad)(H:Hp)(Q:VK)(E:XK)(h:j_ (n+1) U H Q E):aw (aoA K n E) Kj {nx:=λ_ I=>Q .a I,r:=Q} (ZQ vx U) H:=by
 obtain⟨C,q,B,l,r,a,b,c,rfl,y,x,N,m,o,hh,k⟩:=h;have r0:=Tr.h0 r;have l0:=Tr.h0 l;refine qF _ O ⟨C,l,O,y,_,O,B,r,O,x,trivial,_,O,?_⟩;refine cT (λh=>?_)<|λh=>?_;have g:r.h+1<l.h:=KF h;obtain⟨ll,j,i,f,w,rfl⟩:=Tr.tP (t:=l) al;obtain⟨p,ql,rD,X,zq⟩:=YU y;obtain⟨rfl,e,Z,jD,m8⟩:=V_ zq;have P:=Tr.gE ll j i f w;have R:w.h+r.h<n:=by
  have:w.h< (Tr.node ll j i f w).h:=by rw[P];split<;>lia
  lia
 refine qF _ O (az e O (qF _ O (az e O (qF _ O (az e O (rL _ O _ O ⟨X,q,B,w,r,a,b,c,O,m8,x,N,m.2.1,o,R,λv H1 t d M J=>?_⟩))))));obtain⟨g1,A⟩:=Tr.af2 m g J;refine⟨rD,ql,v,ll,t,j,i,f,O,jD.mono<|aR d,M,d _ _ Z,m.1,J.ok,g1,A,λV L Y D G S=>?_⟩;exact k _ _ _ (d.trans D) G<|Tr.af0 m g J S;have g:¬r.h+1<l.h:=λz=>h (ZA z);refine qF _ O ⟨B,r,O,x,_,O,C,l,O,y,trivial,_,O,?_⟩;refine cT (λh=>?_)<|λh=>?_;have A:l.h+1<r.h:=KF h;obtain⟨u,j,i,f,F,rfl⟩:=Tr.tP (t:=r) al;obtain⟨p,qr,W,rF,zq⟩:=YU x;obtain⟨rfl,e,T,kQ,rG⟩:=V_ zq;have P:=Tr.gE u j i f F;have R:l.h+u.h<n:=by
  have:u.h< (Tr.node u j i f F).h:=by rw[P];split<;>lia
  lia
 refine sV _ O _ O _ O (az e O ⟨C,q,W,l,u,a,b,c,O,y,kQ,N,m,o.1,R,λv H1 t d M J=>?_⟩);obtain⟨k1,k2⟩:=Tr.af3 o A J;refine qF _ O (az (d _ _ e) O (qF _ O (az (d _ _ e) O ⟨v,qr,rF,t,F,j,i,f,O,M,rG.mono<|aR d,d _ _ T,J.ok,o.2.1,k1,k2,λV L Y D G S=>?_⟩)));exact k _ _ _ (d.trans D) G<|Tr.af1 o A J S;have A:¬l.h+1<r.h:=λz=>h (ZA z);exact sV _ O _ O _ O ⟨C,q,B,l,r,a,b,c,O,y,x,N,λv I s n=>k _ _ _ s n<|Tr.afZ m o (ZF g) (ZF A)⟩
inductive vW(n:Nat)(U:ad)(H:Hp)(Q:VK)(E:XK):Prop|i(v l a b c r:_)(_:U=[v])(_:Nd H (.node l a b c r) v)(_:(Tr.node l a b c r).ok)(_:(Tr.node l a b c r).h<n)(_:(Tr.node l a b c r).h<=30)(_:∀w I q d t a' b' c',aq H I->I w=some (.t [d,.r q])->Nd I t d->I q=some (tp (a',b',c'))->t.ok->(Tr.node l a b c r).ai=t.ai++[(a',b',c')]->t.h<= (Tr.node l a b c r).h->Q (.r w) I)
theorem DA(U:ad)(H:Hp)(Q:VK)(E:XK):¬vW 0 U H Q E:=by
 rintro⟨v,l,a,b,c,r, -, -, -,h, -⟩;have:=Tr.h0 (.node l a b c r);exact (WA _ (pL h this)).elim
abbrev ahk(n:Nat):io:=[("last_out",vW n),("joined",j_ 64)]
abbrev hZ(K:Frag)(n:D9)(E:XK):aV:=aA K (ahk n) [] (E:=E)
theorem ahl{K:Frag}(n:Nat)(U:ad)(H:Hp)(Q:VK)(E:XK)(h:vW (n+1) U H Q E):aw (hZ K n E) Kk {nx:=λ_ I=>Q .a I,r:=Q} (ZQ s_ U) H:=by
 obtain⟨v,l,a,b,c,r,rfl,⟨p,q,x,vr,rfl,d,M,N,G⟩,A,hh,b',k⟩:=h;have B:=Tr.gE l a b c r;have l0:=Tr.h0 l;refine qF _ O (az d O (tR O _ O ?_));cases r with
 |nil=>
  cases G;refine iT (qF _ O (az d O (qF _ O (az d O ⟨c_,λw i=>?_⟩))));have s:=Xo (o:=.t [x,.r q]) i;exact k w _ q x l a b c s au (N.mono<|aR s) (s _ _ M) A.1 O (by rw[B];split<;>lia)
 |node g u m j f=>
  obtain⟨F,q2,V,Z,zq⟩:=YU G;obtain⟨rfl,X,iW,kQ,Y⟩:=V_ zq;have aF:(Tr.node g u m j f).h< (Tr.node l a b c<|.node g u m j f).h:=by rw[B];split<;>lia
  have a':l.h< (Tr.node l a b c<|.node g u m j f).h:=by rw[B];split<;>lia
  refine iF (qF _ O (az d O ⟨.r F,g,u,m,j,f,O,qZ F q2 V Z O X iW kQ Y,A.2.1,al,(lZ (pL aF b')),λw H1 D S t a2 b2 c2 e i ht DY T P th=>?_⟩));refine qF _ O (az (e _ _ d) O (qF _ O (az (e _ _ d) O (qF _ O (az i O ⟨x,q,S,l,t,a,b,c,O,N.mono<|aR e,ht,e _ _ M,A.1,T,(by show l.h+t.h< (64:Nat);lia),λC L W z n2 J=>?_⟩)))));refine qF _ O (az (z _ _ i) O ⟨c_,λR o_=>?_⟩);have y:=Xo (o:=.t [C,.r D]) o_;have jh:=J.hi;refine k R _ D C W a2 b2 c2 (e.trans<|z.trans y) au (n2.mono<|aR y) (y _ _<|z _ _ DY) J.ok ?_ ?_;rw[J.ai,Tr.ai,P];simp;have:=J.hi;lia
inductive tW(n:Nat)(U:ad)(H:Hp)(Q:VK)(E:XK):Prop|i(v t:_)(_:U=[v])(_:Nd H t v)(_:t.h<n)(_:t.ai.length<=4000)(_:∀w I Y,aq H I->H w=none->I w=some (.l Y)->kW I Y t.ai->Q (.r w) I)
theorem ahn(U:ad)(H:Hp)(Q:VK)(E:XK):¬tW 0 U H Q E:=by
 rintro⟨v,t, -, -,h, -⟩;have:=Tr.h0 t;exact (WA _ (pL h this)).elim
theorem PX{l r:Tr}{b:Int}(h:(Tr.node l a b c r).ai.length<=n):l.ai.length+r.ai.length+1<=n:=by
 simp only[Tr.ai,Zw,Xm] at h;exact h
theorem PY(l r:Tr)(a b c:Int):l.h< (Tr.node l a b c r).h/\r.h< (Tr.node l a b c r).h:=by
 rw[Tr.gE];split<;>lia
abbrev amJ(K:Frag)(n:D9)(E:XK):aV:=aA K [("pieces_of",tW n)] [] (E:=E)
theorem AV{K:Frag}(n:Nat)(U:ad)(H:Hp)(Q:VK)(E:XK)(h:tW (n+1) U H Q E):aw (amJ K n E) Ks {nx:=λ_ I=>Q .a I,r:=Q} (ZQ Cq U) H:=by
 obtain⟨v,t,rfl,z,Z,P,k⟩:=h;refine rE _ O O _ O ?_;cases t with
 |nil=>
  cases z;exact iT ⟨Wy _,λw d=>k w _ [] (Xo d) d au .nil⟩
 |node l a b c r=>
  obtain⟨p,q,F,D,zq⟩:=YU z;obtain⟨rfl,o,N,M,X⟩:=V_ zq;have e1:=PX P;obtain⟨e2,e3⟩:=PY l r a b c;refine iF (qF _ O (az o O ⟨F,l,O,M,al,al,λw g Y m u d x=>?_⟩));have W:=Id x;refine rE _ O (.inl ⟨O,qY _ (ak.of d)⟩) _ O (az (m _ _ o) O (qT _ d (bR al) ?_));have B:aH w g (upd g w<|.l<|Y++[V.r q]):=aH.upd;have f:aq H (upd g w<|.l<|Y++[V.r q]):=mQ m u B;have j:=B.cf d;generalize rB:upd g w (.l<|Y++[V.r q])=L at f j;have i:L w=some (.l<|Y++[V.r q]):=by rw[<-rB,au]
  refine rE _ O (.inl ⟨O,qY _ (ak.of i)⟩) _ O (az (f _ _ o) O ⟨D,r,O,X.mono<|aR f,al,al,λR C ys s S J y=>?_⟩);have T:=Id y;refine q8 _ _ (s _ _ i) J (bQ (by simp;lia)) ?_;have A:aH w C (upd C w<|.l<|Y++[V.r q]++ys):=aH.upd;have G:=A.cf (s _ _ i);refine qF _ O (k w _ (Y++[V.r q]++ys) (mQ (f.trans s) u A) u au ?_);have e:(Tr.node l a b c r).ai=l.ai++[(a,b,c)]++r.ai:=by simp[Tr.ai]
  rw[e];refine((((x.mono j).mono<|aR s).app<|.cons ⟨q,O,s _ _<|j _ _<|m _ _ N⟩ .nil).app y).mono G
def ends(t:ac)(n:Int):Int:=(((aj t).take n.toNat).count 10:Nat)
inductive rH(C:D9)(U:ad)(H:Hp)(Q:VK)(E:XK):Prop|i(p dx l T Z:D9)(t:ac)(n:Int)(_:U=[.r p,.i n])(_:b_ C H p dx l T Z t)(_:0<=n)(_:Q (.i<|ends t n) H)
abbrev atM(K:Frag)(E:XK):aV:=aA K [("many_upto",vR)] [] (E:=E)
theorem YP{K:Frag}(b:qG K C)(U:ad)(H:Hp)(Q:VK)(E:XK)(h:rH C U H Q E):aw (atM K E) Kv {nx:=λY I=>Q .a I,r:=Q} (ZQ Ku U) H:=by
 obtain⟨p,dx,l,T,Z,t,n,rfl,S,d,q⟩:=h;refine tQ _ O p C dx _ _ O S.ob b.c b.yp DN ⟨_,O,trivial,Z,_,_,O,S.f,af5 _ _,?_⟩;obtain⟨m,rfl⟩:=WD d;rw[af6];exact q
abbrev ahq(C:D9):wT:=[("ends_ahead",C,rH C)]
theorem PZ{l:D9}{n:Int}:(fE l T Z n).lookup ("ends_ahead":Str)=none:=vS (by decide+kernel) (by decide+kernel) (by decide+kernel) (by decide+kernel)
inductive P8(C:D9)(U:ad)(H:Hp)(Q:VK)(E:XK):Prop|i(q:D9)(a b c n:Int)(p dx l T Z:D9)(s:ac)(_:U=[.r q,.i n,.r p])(_:H q=some (tp (a,b,c)))(_:b_ C H p dx l T Z s)(_:0<=a)(_:0<=n)(_:∀(w e d:D9)(I:Hp),aq H I->I w=some (.t [.r e,.r d])->I e=some (tp (a,n,ends s (a+n) - ends s a))->I d=some (tp (a+n,b - n,c - (ends s (a+n) - ends s a)))->Q (.r w) I)
abbrev aqI(K:Frag)(C:D9)(E:XK):aV:=aA K [] [] [] (ahq C) (E:=E)
theorem ahr{K:Frag}(U:ad)(H:Hp)(Q:VK)(E:XK)(h:P8 C U H Q E):aw (aqI K C E) Kp {nx:=λY I=>Q .a I,r:=Q} (ZQ Ko U) H:=by
 obtain⟨q,a,b,c,n,p,dx,l,T,Z,s,rfl,d,S,m,y,k⟩:=h;refine qF _ O (az d O (qF _ O ?_));refine qF _ O ⟨p,dx,_,O,S.ob,PZ,_,O,p,dx,l,T,Z,s,_,O,S,(by show 0<=a+n;lia),?_⟩;refine qF _ O ⟨p,dx,_,O,S.ob,PZ,_,O,az d O ⟨p,dx,l,T,Z,s,a,O,S,m,trivial,?_⟩⟩;refine qF _ O (az d O (tY _ O _ O eE (λj x=>?_)));have f:=Xo (o:=tp (a,n,ends s (a+n) - ends s a)) x;refine rL _ O _ O (az (f _ _ d) O ⟨_,O,trivial,_,O,az (f _ _ d) O ⟨_,O,trivial,eE,λi v=>?_⟩⟩);have g:=Xo (o:=tp (a+n,b - n,c - (ends s (a+n) - ends s a))) v;refine⟨c_,λw u=>?_⟩;have e:=Xo (o:=.t [V.r j,V.r i]) u;exact k w j i _ (f.trans<|g.trans e) au (e _ _<|g _ _ au)<|e _ _ au
theorem jE:∀t:Tr,t.sz=dw t.ai
 |.nil=>O
 |.node l a b c r=>by
  show l.sz+b+r.sz=dw (l.ai++(a,b,c)::r.ai);rw[OZ,rm,jE l,jE r];show dw l.ai+b+dw r.ai=dw l.ai+(b+dw r.ai);lia
def vY(p:P3):Prop:=0<=p.1/\1<=p.2.1
inductive l7(C:D9)(n:Nat)(U:ad)(H:Hp)(Q:VK)(E:XK):Prop|i(v:V)(t:Tr)(l:Int)(p dx e T Z:D9)(s:ac)(_:U=[v,.i l,.r p])(_:Nd H t v)(_:t.ok)(_:b_ C H p dx e T Z s)(_:(∀q∈t.ai,vY q))(_:t.h<n)(_:t.ai.length<=4000)(_:0<=l)(_:l<=t.sz)(_:∀(w:D9)(d c:V)(b a:Tr)(I:Hp),aq H I->I w=some (.t [d,c])->Nd I b d->Nd I a c->b.ok->a.ok->b.ai=da (ends s) t.ai l->a.ai=dc (ends s) t.ai l->Q (.r w) I)
theorem ahs(C:D9)(U:ad)(H:Hp)(Q:VK)(E:XK):¬l7 C 0 U H Q E:=by
 rintro⟨v,t,l,p,dx,a,T,Z,s, -, -, -, -, -,h, -⟩;have:=Tr.h0 t;exact (WA _ (pL h this)).elim
abbrev DB(C:D9)(n:Nat):io:=[("size_of",kY),("parted",l7 C n),("joined",j_ 64),("cut_in_two",P8 C)]
abbrev iO(K:Frag)(C:D9)(n:D9)(E:XK):aV:=aA K (DB C n) [] (E:=E)
theorem ahu{K:Frag}(n:Nat)(U:ad)(H:Hp)(Q:VK)(E:XK)(h:l7 C (n+1) U H Q E):aw (iO K C n E) Kr {nx:=λ_ I=>Q .a I,r:=Q} (ZQ Cp U) H:=by
 obtain⟨v,t,d,p,dx,lt,T,Z,u,rfl,hn,ho,S,DZ,hh,P,qR,dR,k⟩:=h;refine rE _ O O _ O ?_;cases t with
 |nil=>
  cases hn;exact iT ⟨c_,λw i=>k w .a .a .nil .nil _ (Xo i) au O O trivial trivial O O⟩
 |node l a b c r=>
  obtain⟨pa,q,R,vr,zq⟩:=YU hn;obtain⟨rfl,y,hq,hl,hr⟩:=V_ zq;obtain⟨o1,Y,o3,o4⟩:=l5 ho;obtain⟨e2,e3⟩:=PY l r a b c;have e1:=PX P;have N:=jE l;have f':=jE r;have iI:∀x∈l.ai,vY x:=λx j=>DZ x (by simp[Tr.ai,j]);have vZ:∀x∈r.ai,vY x:=λx j=>DZ x (by simp[Tr.ai,j]);have pm:vY (a,b,c):=DZ _ (by simp[Tr.ai]);have F:(Tr.node l a b c r).ai=l.ai++(a,b,c)::r.ai:=O;have e':(Tr.node l a b c r).sz=l.sz+b+r.sz:=O;have d':=Tr.j6 o1 (by lia:l.ai.length<=4000);have c':=Tr.j6 Y (by lia:r.ai.length<=4000);refine iF (qF _ O (az y O ?_));refine qF _ O (az y O ⟨R,l,O,hl,?_⟩);refine rL _ O _ O (az hq O ?_);refine⟨_,O,_,O,trivial,_,O,?_⟩;refine cT (λg=>?_)<|λg=>?_;have a':d<=l.sz:=KF g;refine qF _ O (az y O (rL _ O _ O ⟨R,l,d,p,dx,lt,T,Z,u,O,hl,o1,S,iI,al,al,qR,a',λw W V t1 t2 H1 s i n1 n2 k1 k2 c1 c2=>?_⟩));obtain⟨B,A⟩:=af4 (ends u) ((a,b,c)::r.ai) l.ai d (λx j=>(iI x j).2) al;have l2:=(y_ (ends u) l.ai d).2;have h2:=Tr.j6 k2 (by rw[c2];lia);refine qF _ O (az i O (qF _ O (az i O (rL _ O _ O (az (s _ _ y) O ⟨V,q,vr,t2,r,a,b,c,O,n2,hr.mono<|aR s,s _ _ hq,k2,Y,(by show _< ((64:Nat):Int);lia),λm L G e M J=> ⟨c_,λD X=>?_⟩⟩)))));have f:=Xo (o:=.t [W,m]) X;refine k D W m t1 G _ (s.trans<|e.trans f) au ((n1.mono<|aR e).mono<|aR f) (M.mono<|aR f) k1 J.ok ?_ ?_;rw[F,B,c1];rw[F,A,J.ai,c2];have b':¬d<=l.sz:=λz=>g (ZA z);refine⟨_,O,_,O,trivial,_,O,?_⟩;refine cT (λg=>?_)<|λg=>?_;have qN:l.sz+b<=d:=KF g;refine qF _ O (az y O ⟨_,O,_,O,trivial,_,O,vr,r,d - (l.sz+b),p,dx,lt,T,Z,u,O,hr,Y,S,vZ,al,al,al,al,λw W V t1 t2 H1 s i n1 n2 k1 k2 c1 c2=>?_⟩);have ez:dw (l.ai++[(a,b,c)])=l.sz+b:=by
   rw[OZ,rm,OY,N];show dw l.ai+(b+0)=_;lia
  obtain⟨B,A⟩:=O2 (ends u) r.ai (l.ai++[(a,b,c)]) d (λx j=>by
   rcases U6.mp j with z|z
   exact(iI x z).2;rw[jS.mp z];exact pm.2) al
  have l1:=(y_ (ends u) r.ai<|d - (l.sz+b)).1;have h1:=Tr.j6 k1 (by rw[c1];lia);refine⟨_,O,az (s _ _ y) O ⟨_,O,_,O,az i O ⟨R,q,W,l,t1,a,b,c,O,hl.mono<|aR s,n1,s _ _ hq,o1,k1,(by show _< ((64:Nat):Int);lia),λm L G e M J=>?_⟩⟩⟩;refine⟨_,O,az (e _ _ i) O ⟨c_,λD X=>?_⟩⟩;have f:=Xo (o:=.t [m,V]) X;have e5:(Tr.node l a b c r).ai=(l.ai++[(a,b,c)])++r.ai:=by rw[F];simp
  refine k D m V G t2 _ (s.trans<|e.trans f) au (M.mono<|aR f) ((n2.mono<|aR e).mono<|aR f) J.ok k2 ?_ ?_;rw[e5,B,ez,J.ai,c1];simp;rw[e5,A,ez,c2];have aF:¬l.sz+b<=d:=λz=>g (ZA z);refine⟨_,O,_,O,_,O,trivial,_,O,q,a,b,c,d - l.sz,p,dx,lt,T,Z,u,O,hq,S,pm.1,al,λw q1 q2 H1 s i h1 h2=>?_⟩;obtain⟨B,A⟩:=O2 (ends u) ((a,b,c)::r.ai) l.ai d (λx j=>(iI x j).2) al;rw[<-N] at B A;refine⟨_,O,az (s _ _ y) O ⟨_,O,az i O ⟨R,q1,.a,l,.nil,a,d - l.sz,_,O,hl.mono<|aR s,O,h1,o1,trivial,(by show _< ((64:Nat):Int);show l.h+0<64;lia),λm L G e M J=>?_⟩⟩⟩;refine⟨_,O,az (e _ _ i) O ⟨_,O,az (e _ _<|s _ _ y) O ⟨.a,q2,vr,.nil,r,_,_,_,O,O,(hr.mono<|aR s).mono<|aR e,e _ _ h2,trivial,Y,(by show _< ((64:Nat):Int);show 0+r.h<64;lia),λv4 H3 t4 f n4 J2=>⟨c_,λD X=>?_⟩⟩⟩⟩;have s4:=Xo (o:=.t [m,v4]) X;refine k D m v4 G t4 _ (s.trans<|e.trans<|f.trans s4) au ((M.mono<|aR f).mono<|aR s4) (n4.mono<|aR s4) J.ok J2.ok ?_ ?_;rw[F,B,J.ai];simp only[da];rw[GM al,GM (by show ¬b<=d - l.sz;lia)];rfl;rw[F,A,J2.ai];simp only[dc];rw[GM al,GM (by show ¬b<=d - l.sz;lia)];rfl
end
noncomputable def lG(S:am)(q:P3):am:=(S.drop q.1.toNat).take q.2.1.toNat
def cP(S:am)(ps:v6):am:=ps.flatMap (lG S)
theorem TN(S:am):cP S []=[]:=O
theorem h6(S:am)(p:P3)(r:v6):cP S (p::r)=lG S p++cP S r:=O
theorem v7(S:am)(a b:v6):cP S (a++b)=cP S a++cP S b:=List.flatMap_append
structure bO(S:am)(q:P3):Prop where
 p0:0<=q.1
 p1:1<=q.2.1
 a:q.1+q.2.1<=S.length
 p3:q.2.2=((lG S q).count 10:Nat)
theorem bO.len(h:bO S q):((lG S q).length:Int)=q.2.1:=by
 have d:=h.p0;have c:=h.p1;have b:=h.a;delta lG;rw[WE,Xh];lia
theorem bO.grow{T:am}(h:bO S q):bO (S++T) q/\lG (S++T) q=lG S q:=by
 have c:=h.p0;have b:=h.p1;have d:=h.a;have e:lG (S++T) q=lG S q:=by
  delta lG;rw[TJ al,TL (by rw[Xh];lia)]
 exact⟨⟨c,b,by rw[Zw];lia,by rw[e];exact h.p3⟩,e⟩
theorem zr{T:am}:∀{ps:v6},(∀q∈ps,bO S q)->cP (S++T) ps=cP S ps
 |[],_=>O
 |p::r,h=>by
  rw[h6,h6,(h p Yz).grow.2,zr λq a=>h q (N4 _ a)]
theorem Xl:∀{ps:v6},(∀q∈ps,bO S q)->((cP S ps).length:Int)=dw ps:=by
 intro s;induction s with
 |nil=>exact λ_=>O
 |cons p r i=>
  intro h;rw[h6,Zw,rm,<-i λq a=>h q (N4 _ a),<-(h p Yz).len];lia
theorem zt:∀t:Tr,t.en=((t.ai.map λp=>p.2.2).sum)
 |.nil=>O
 |.node l a b c r=>by
  show l.en+c+r.en=((l.ai++(a,b,c)::r.ai).map λp=>p.2.2).sum;rw[Xn,X8,TB,vG,zt l,zt r];show(l.ai.map λp=>p.2.2).sum+c+(r.ai.map λp=>p.2.2).sum=(l.ai.map λp=>p.2.2).sum+(c+(r.ai.map λp=>p.2.2).sum);lia
theorem D0:∀{ps:v6},(∀q∈ps,bO S q)->(ps.map λp=>p.2.2).sum=((cP S ps).count 10:Nat):=by
 intro s;induction s with
 |nil=>exact λ_=>O
 |cons p r i=>
  intro h;rw[h6,Wu,TB,vG,i λq a=>h q (N4 _ a),(h p Yz).p3];lia
theorem P_{b n:Int}(k:0<=a)(j:0<=n)(i:n<=b)(h:a+b<=S.length)(g f d:Int):lG S (a,n,g)++lG S (a+n,b - n,f)=lG S (a,b,d):=by
 delta lG;show(S.drop a.toNat).take n.toNat++(S.drop (a+n).toNat).take (b - n).toNat=(S.drop a.toNat).take b.toNat;have c:(a+n).toNat=a.toNat+n.toNat:=by lia
 have e:b.toNat=n.toNat+(b - n).toNat:=by lia
 rw[c,e,<-List.drop_drop,List.take_add]
theorem Qa{n:Int}(b:0<=a)(h:0<=n)(c:Int):((S.take (a+n).toNat).count 10:Int) - ((S.take a.toNat).count 10:Nat)=((lG S (a,n,c)).count 10:Nat):=by
 have e:(a+n).toNat=a.toNat+n.toNat:=by lia
 delta lG;show((S.take (a+n).toNat).count 10:Int) - ((S.take a.toNat).count 10:Nat)=((((S.drop a.toNat).take n.toNat).count 10:Nat):Int);rw[e,List.take_add,Wu];lia
theorem zu{t:ac}:∀(ps:v6)(n:Int),(∀q∈ps,bO (aj t) q)->0<=n->n<=dw ps->
  (∀q∈da (ends t) ps n,bO (aj t) q)/\(∀q∈dc (ends t) ps n,bO (aj t) q)/\cP (aj t) (da (ends t) ps n)=(cP (aj t) ps).take n.toNat/\cP (aj t) (dc (ends t) ps n)=(cP (aj t) ps).drop n.toNat:=by
 intro ps;induction ps with
 |nil=>
  intro n Y o m;exact⟨λq d=>(by cases d),λq d=>(by cases d),by simp[da,cP],by simp[dc,cP]⟩
 |cons p r A=>
  intro n h o m;obtain⟨a,b,c⟩:=p;have e:=h _ Yz;have u:∀q∈r,bO (aj t) q:=λq d=>h q (N4 _ d);have j:0<=a:=e.p0;have G:1<=b:=e.p1;have w:a+b<= (aj t).length:=e.a;have F:=e.len;have J:((lG (aj t) (a,b,c)).length:Int)=b:=F;by_cases z:n<=0;obtain⟨i,f⟩:=DD (ends t) z ((a,b,c)::r);rw[i,f];have:n.toNat=0:=by lia
  rw[this];exact⟨λq d=>(by cases d),h,by simp[cP],ap⟩;by_cases g:b<=n;have i:da (ends t) ((a,b,c)::r) n=(a,b,c)::da (ends t) r (n - b):=by simp only[da];rw[GM z,GT g]
  have f:dc (ends t) ((a,b,c)::r) n=dc (ends t) r (n - b):=by simp only[dc];rw[GM z,GT g]
  rw[rm] at m;have H:n<=b+dw r:=m;obtain⟨E,D,C,B⟩:=l5 (A (n - b) u al al);rw[i,f];refine⟨λq d=>?_,D,?_,?_⟩;rcases UA.mp d with rfl|d
  exact e;exact E q d;rw[h6,h6,C];have:n.toNat=(lG (aj t) (a,b,c)).length+(n - b).toNat:=by lia
  rw[this,ZI];rw[h6,B];have:n.toNat=(lG (aj t) (a,b,c)).length+(n - b).toNat:=by lia
  rw[this,List.drop_length_add_append];have i:da (ends t) ((a,b,c)::r) n=[(a,n,ends t (a+n) - ends t a)]:=by simp only[da];rw[GM z,GM g]
  have f:dc (ends t) ((a,b,c)::r) n=(a+n,b - n,c - (ends t (a+n) - ends t a))::r:=by simp only[dc];rw[GM z,GM g]
  rw[i,f];have k:bO (aj t) (a,n,ends t (a+n) - ends t a):=⟨j,by show 1<=n;lia,by show a+n<=_;lia,Qa j o _⟩;have s:=P_ (S:=aj t) j o (by lia:n<=b) w (ends t (a+n) - ends t a) (c - (ends t (a+n) - ends t a)) c;have y:bO (aj t) (a+n,b - n,c - (ends t (a+n) - ends t a)):=by
   refine⟨by show 0<=a+n;lia,by show 1<=b - n;lia,by show a+n+(b - n)<=_;lia,?_⟩;have L:c=ends t (a+n) - ends t a+((lG (aj t) (a+n,b - n,c - (ends t (a+n) - ends t a))).count 10:Nat):=by
    have x:=k.p3;have v:=e.p3;rw[<-s,Wu] at v;have K:c=(((lG (aj t) (a,n,ends t (a+n) - ends t a)).count 10+(lG (aj t) (a+n,b - n,c - (ends t (a+n) - ends t a))).count 10:Nat):Int):=v;have I:ends t (a+n) - ends t a=((lG (aj t) (a,n,ends t (a+n) - ends t a)).count 10:Nat):=x;lia
   show c - (ends t (a+n) - ends t a)=_;lia
  refine⟨λq d=>?_,λq d=>?_,?_,?_⟩;rw[jS.mp d];exact k;rcases UA.mp d with rfl|d
  exact y;exact u q d;rw[h6,TN,YS,h6,<-s];have l:=k.len;have:n.toNat=(lG (aj t) (a,n,ends t (a+n) - ends t a)).length:=by have Z:((lG (aj t) (a,n,ends t (a+n) - ends t a)).length:Int)=n:=l;lia
  rw[this,UR,YA];rw[h6,h6,<-s];have l:=k.len;have:n.toNat=(lG (aj t) (a,n,ends t (a+n) - ends t a)).length:=by have Z:((lG (aj t) (a,n,ends t (a+n) - ends t a)).length:Int)=n:=l;lia
  rw[this,UR,Xk]
theorem bL{r:bv}(h:aw B r D J H):aw B [] {D with nx:=aw B r D} J H:=h
inductive v8(n:Nat)(U:ad)(H:Hp)(Q:VK)(E:XK):Prop|i(v l a b c r:_)(_:U=[v])(_:Nd H (.node l a b c r) v)(_:(Tr.node l a b c r).ok)(_:(Tr.node l a b c r).h<n)(_:(Tr.node l a b c r).h<=30)(_:∀w I q d t a' b' c',aq H I->I w=some (.t [.r q,d])->Nd I t d->I q=some (tp (a',b',c'))->t.ok->(Tr.node l a b c r).ai=(a',b',c')::t.ai->t.h<= (Tr.node l a b c r).h->Q (.r w) I)
theorem ahv(U:ad)(H:Hp)(Q:VK)(E:XK):¬v8 0 U H Q E:=by
 rintro⟨v,l,a,b,c,r, -, -, -,h, -⟩;have:=Tr.h0 (.node l a b c r);exact (WA _ (pL h this)).elim
abbrev ahw(n:Nat):io:=[("first_out",v8 n),("joined",j_ 64)]
abbrev asS(K:Frag)(n:D9)(E:XK):aV:=aA K (ahw n) [] (E:=E)
theorem ahx(n:Nat)(U:ad)(H:Hp)(Q:VK)(E:XK)(h:v8 (n+1) U H Q E):aw (asS K n E) Kl {nx:=λ_ I=>Q .a I,r:=Q} (ZQ s_ U) H:=by
 obtain⟨v,l,a,b,c,r,rfl,⟨p,q,vl,u,rfl,d,G,M,F⟩,y,hh,b',k⟩:=h;have z:=Tr.gE l a b c r;have r0:=Tr.h0 r;refine qF _ O (az d O (tR O _ O ?_));cases l with
 |nil=>
  cases M;refine iT (qF _ O (az d O (qF _ O (az d O ⟨c_,λw g=>?_⟩))));have s:=Xo (o:=.t [.r q,u]) g;exact k w _ q u r a b c s au (F.mono<|aR s) (s _ _ G) y.2.1 O (by rw[z];split<;>lia)
 |node ll m j i f=>
  obtain⟨D,Y,X,T,zq⟩:=YU M;obtain⟨rfl,W,iW,jD,m8⟩:=V_ zq;have aF:(Tr.node ll m j i f).h< (Tr.node (.node ll m j i f) a b c r).h:=by rw[z];split<;>lia
  have a':r.h< (Tr.node (.node ll m j i f) a b c r).h:=by rw[z];split<;>lia
  refine iF (qF _ O (az d O ⟨.r D,ll,m,j,i,f,O,qZ D Y X T O W iW jD m8,y.1,al,(lZ (pL aF b')),λw H1 C R t a2 b2 c2 e g ht DY S N th=>?_⟩));refine qF _ O (az g O (qF _ O (az g O (qF _ O (az (e _ _ d) O (qF _ O (az (e _ _ d) O ⟨R,q,u,t,r,a,b,c,O,ht,F.mono<|aR e,e _ _ G,S,y.2.1,(by show t.h+r.h< (64:Nat);lia),λA L V B n2 J=>?_⟩)))))));refine⟨c_,λP Z=>?_⟩;have x:=Xo (o:=.t [.r C,A]) Z;have jh:=J.hi;refine k P _ C A V a2 b2 c2 (e.trans<|B.trans x) au (n2.mono<|aR x) (x _ _<|B _ _ DY) J.ok ?_ ?_;rw[J.ai,Tr.ai,N];simp;have:=J.hi;lia
inductive zv(U:ad)(H:Hp)(Q:VK)(E:XK):Prop|i(b a:V)(l r:Tr)(S:am)(_:U=[b,a])(_:Nd H l b)(_:Nd H r a)(_:l.ok)(_:r.ok)(_:(∀q∈l.ai,bO S q))(_:(∀q∈r.ai,bO S q))(_:(l≠ .nil->r≠ .nil))(_:l.ai.length<=4000)(_:r.ai.length<=4000)(_:∀v I t,aq H I->Nd I t v->t.ok->(∀q∈t.ai,bO S q)->cP S t.ai=cP S l.ai++cP S r.ai->t.ai.length<=l.ai.length+r.ai.length->Q v I)
abbrev C5:io:=[("last_out",vW 32),("first_out",v8 32),("joined",j_ 64)]
abbrev amS(K:Frag)(E:XK):aV:=aA K C5 [] (E:=E)
theorem ahz:bw (zv) (λE=>amS K E) Kn Km:=by
 intro U H Q E h;obtain⟨vl,G,l,r,S,rfl,hl,Z,ol,i,pl,D,cN,ll,lr,k⟩:=h;refine rE _ O O _ O ?_;cases l with
 |nil=>
  cases hl;exact iT (qF _ O (k G H r (aq.refl _) Z i D O (by show _<=0+_;exact VJ _ _)))
 |node l1 a b c l2=>
  cases r with
  |nil=>exact absurd O (cN ap)
  |node T a' b' c' R=>
   have h1:=Tr.j6 ol ll;have h2:=Tr.j6 i lr;have v9:=hl;obtain⟨p,q,wl,wr,zq⟩:=YU v9;obtain⟨rfl,hp, -⟩:=Vk zq;refine iF (qF _ O ⟨.r p,l1,a,b,c,l2,O,hl,ol,al,al,λw H1 q1 vt t x y z C hw ht mU to j th=>?_⟩);refine qF _ O ⟨G,T,a',b',c',R,O,Z.mono<|aR C,i,al,al,λw2 L q2 vu u A e f s o_ hu X uo m uh=>?_⟩;have I:=s _ _ hw;have Y:=s _ _ mU;refine qF _ O (az I O (qF _ O (az o_ O ?_)));have F:bO S (x,y,z):=pl _ (by rw[j];simp);have V:bO S (A,e,f):=D _ (by rw[m];simp);have pt:∀q∈t.ai,bO S q:=λq d=>pl q (by rw[j];simp[d]);have pu:∀q∈u.ai,bO S q:=λq d=>D q (by rw[m];simp[d]);have el:(Tr.node l1 a b c l2).ai.length=t.ai.length+1:=by rw[j];simp
   have er:(Tr.node T a' b' c' R).ai.length=u.ai.length+1:=by rw[m];simp
   have t0:=Tr.h0 t;have u0:=Tr.h0 u;refine bh<|bf<|aI<|aD<|ae O<|ah<|az Y O<|aD<|ae O<|ah<|az Y O<|bU<|aD<|ae O<|ah<|az X O<|gO ⟨_,O,?_⟩;by_cases g:x+y=A;refine iT ?_ (ZA g);refine aS<|aC (j_ 64) O<|af<|aD<|ae O<|ah<|az I O<|af<|eO<|af<|aD<|ae O<|ah<|az Y O ?_;refine af<|aI<|aD<|ae O<|ah<|az Y O<|aD<|ae O<|ah<|az X O<|bU ?_;refine af<|aI<|aD<|ae O<|ah<|az Y O<|aD<|ae O<|ah<|az X O<|bU<|ao ⟨eE,λq3 f3=>?_⟩;have B:=Xo (o:=tp (x,y+e,z+f)) f3;refine af<|aD<|ae O<|ah<|az (B _ _ o_) O<|ao ?_;refine⟨vt,q3,vu,t,u,x,y+e,z+f,O,(ht.mono<|aR s).mono<|aR B,hu.mono<|aR B,au,to,uo,(by show t.h+u.h< (64:Nat);lia),λv H3 M P W J=>?_⟩;have j0:=F.p0;have j1:=F.p1;have j2:=V.a;have j3:=V.p1;have Qc:0<=x:=j0;have f':1<=y:=j1;have e':A+e<=S.length:=j2;have d':1<=e:=j3;have N:=P_ (S:=S) (a:=x) (b:=y+e) (n:=y) Qc (UC (YK _) f') al al z f (z+f);rw[g,show y+e - y=e by lia] at N;have p3:bO S (x,y+e,z+f):=by
    refine⟨Qc,by show 1<=y+e;lia,by show x+(y+e)<=_;lia,?_⟩;have c1:=F.p3;have c2:=V.p3;have h':z=((lG S (x,y,z)).count 10:Nat):=c1;have g':f=((lG S (A,e,f)).count 10:Nat):=c2;show z+f=_;rw[<-N,Wu];lia
   refine k v H3 M (C.trans<|s.trans<|B.trans P) W J.ok (λq d=>?_) ?_ ?_;rw[J.ai] at d;rcases U6.mp d with d|d
   exact pt q d;rcases UA.mp d with rfl|d
   exact p3;exact pu q d;rw[J.ai,j,m,v7,v7,h6,h6,h6,TN,<-N];simp;rw[J.ai,el,er,Zw,Xm];exact Ue (Yn _) _;refine iF (bL ?_) (XZ g);refine aS<|aC (j_ 64) O<|af<|aD<|ae O<|ah<|az I O<|af<|ae O<|af<|ae O<|ao ?_;have h3:=Tr.j6 i lr;refine⟨vt,q1,G,t,.node T a' b' c' R,x,y,z,O,ht.mono<|aR s,(Z.mono<|aR C).mono<|aR s,Y,to,i,(by show t.h+_< ((64:Nat):Int);lia),λv H3 M P W J=>?_⟩;refine k v H3 M (C.trans<|s.trans P) W J.ok (λq d=>?_) ?_ ?_;rw[J.ai] at d;rcases U6.mp d with d|d
   exact pt q d;rcases UA.mp d with rfl|d
   exact F;exact D q d;rw[J.ai,j,v7,v7,h6,h6,TN];simp;rw[J.ai,el,Zw,Xm];lia
section
open PyProof.Rows
theorem l8{K:Frag}{QQ:ad->Hp->D9->Prop}{t:TE}(h:H a=some (.l Y))(w:Y.length<=1000000)(P:Nat->ad->Hp->Prop)(k:P 0 [] H)(d:∀i x ys L,Y[i]?=some x->aq H L->P i ys L->∀Q:VK,(∀y c,aq L c->P (i+1) (ys++[y]) c->Q y c)->t (some x::bJ J fv) L Q)(R:∀ys L p,aq H L->P Y.length ys L->L p=none->QQ ys L p):∃W:Nat->Nat->ad->Hp->Prop,(∃m,W 0 m [] H)/\∀i m ys L,W i m ys L->
   ((cX K a).stop i L/\∀p,L p=none->QQ ys L p)\/
   ((cX K a).go i L/\∀x c,(cX K a).dH i L x c->gZ K none x c λz=>iU none (z.map some++bJ J fv) c λb f=>
    if b=true then t (z.map some++bJ J fv) f λy v=>ys.length<sizeLine/\∃e,e<m/\W (i+1) e (ys++[y]) v else ∃e,e<m/\W (i+1) e ys f):=by
 refine qF (λi m ys L=>m=Y.length - i/\i<=Y.length/\ys.length=i/\aq H L/\P i ys L) (uO _ O (Wy _) O (aq.refl _) k) ?_;rintro i m ys L zq;obtain⟨rfl,A,n,s,p⟩:=V_ zq;by_cases F:i<Y.length;refine .inr ⟨rP Y (Y[i]) (ak.of<|s _ _ h) (by simp[F]),?_⟩;rintro x c ⟨rfl,o⟩;have V:=o Y (ak.of<|s _ _ h);exact d i x ys _ V s p _ λy B g j=>tR (bR al) (Y.length - (i+1)) al ⟨O,F,by simp[n],s.trans g,j⟩;have u:i=Y.length:=cV A (ZK F)
 subst u;exact .inl ⟨qF Y (ak.of<|s _ _ h) (mZ _),λq r=>R ys _ q s p r⟩
theorem BN{K:Frag}{Q:ad->Hp->D9->Prop}{t:TE}{l:Int}(v:n<=1000000)(P:Nat->ad->Hp->Prop)(j:P 0 [] H)(c:∀i ys L,i<n->aq H L->P i ys L->∀e:VK,(∀y a,aq L a->P (i+1) (ys++[y]) a->e y a)->t (some (.i<|l+i)::bJ J fv) L e)(R:∀ys L p,aq H L->P n ys L->L p=none->Q ys L p):∃W:Nat->Nat->ad->Hp->Prop,(∃m,W 0 m [] H)/\∀i m ys L,W i m ys L->
   ((gW l n).stop i L/\∀p,L p=none->Q ys L p)\/
   ((gW l n).go i L/\∀x a,(gW l n).dH i L x a->gZ K none x a λz=>iU none (z.map some++bJ J fv) a λb f=>
    if b=true then t (z.map some++bJ J fv) f λy u=>ys.length<sizeLine/\∃d,d<m/\W (i+1) d (ys++[y]) u else ∃d,d<m/\W (i+1) d ys f):=by
 refine qF (λi m ys L=>m=n - i/\i<=n/\ys.length=i/\aq H L/\P i ys L) (uO _ O (Wy _) O (aq.refl _) j) ?_;rintro i m ys L zq;obtain⟨rfl,w,k,s,p⟩:=V_ zq;by_cases F:i<n;refine .inr ⟨F,?_⟩;rintro x a ⟨rfl,rfl⟩;exact c i ys _ F s p _ λy A g h=>tR (bR al) (n - (i+1)) al ⟨O,F,by simp[k],s.trans g,h⟩;have r:i=n:=cV w (ZK F)
 subst r;exact .inl ⟨mZ _,λq o=>R ys _ q s p o⟩
end
section
variable{B:aV}{D:Xt}{J:St}{H:Hp}{r:bv}{Q:VK}
theorem wa(A b:VK)(h:∀v a,A v a↔b v a)(c:ag B x J H A):ag B x J H b:=by
 have:A=b:=funext λx=>funext λa=>propext (h x a);rw[<-this];exact c
theorem k7(h:ag B x J H λv g=>∃a,v=.r a/\(∃Y,ak B.K g a Y)/\∃W:Nat->Nat->ad->Hp->Prop,(∃m,W 0 m [] g)/\∀i m ys L,W i m ys L->
   ((cX B.K a).stop i L/\∀p,L p=none->Q (.r p) (upd L p<|.l ys))\/
   ((cX B.K a).go i L/\∀x d,(cX B.K a).dH i L x d->gZ B.K none x d λz=>iU none (z.map some++bJ J fv) d λb f=>
    if b=true then ag B.calm e (z.map some++bJ J fv) f λy j=>ys.length<sizeLine/\∃c,c<m/\W (i+1) c (ys++[y]) j else ∃c,c<m/\W (i+1) c ys f)):ag B (.C none fv .l [x] none e) J H Q:=wa (x:=x) _ _ (λZ Z=>Iff.rfl) h
theorem tZ{b:RE}(C:D9)(s:Sp)(d:B.ms j=(C,s))(h:ag B o J H λx c=>∃p dx f,x=.r p/\c p=some (.i C dx f)/\f.lookup m=none/\ag B a J c λy L=>ag B b J L λz e=>s [x,y,z] e Q B.E):ag B (.a j m o [a,b]) J H Q:=by
 show qe (B.ms j).1 m (B.ms j).2 [] B.E (ag B o) (aO B [a,b]) J H Q;rw[d];exact h
theorem gf(h:ag B x J H λv a=>uQ B.K v a λn=>Q (.i n) a):ag B (.t .l [x]) J H Q:=h
end
theorem dz.cf{l:D9}{s:ac}(b:dz p l T Z H I)(S:b_ C H p dx l T Z s):gB H I:=λc Y e=>
 b c _ e (λz=>by rw[z,S.ob] at e;cases e) (λz=>by rw[z,S.t] at e;cases e) (λz=>by rw[z,S.b] at e;cases e) (λz=>by rw[z,S.f] at e;cases e)
theorem pe{l:D9}(s:aq H I):dz p l T Z H I:=λb o e Y Y Y Y=>s b o e
theorem ahC(x:Str):(Builtin.Str.occurrences x (Str.ofString "\n") 0 x.length<|x.length+1).length=x.cps.toList.count 10:=by
 have:=O6 x 10 0 (x.length+1) (Wy _);rw[X5] at this;show(Builtin.Str.occurrences x ⟨#[10]⟩ 0 x.length<|x.length+1).length=_;rw[this,WE,lY];have:x.cps.toList.count 10<=x.length:=by rw[Wj];exact List.count_le_length
 lia
theorem Al(q:Q (.i ((x.cps.toList.count 10:Nat):Int)) H):sS K .c (.s x) [.s "\n"] H Q:=by
 show Q (.i ((Builtin.Str.occurrences x (Str.ofString "\n") 0 x.length<|x.length+1).length:Nat)) H;rw[ahC];exact q
theorem Qd:∀{U:ad}{ps:v6}{i:Nat}{v:V},kW H U ps->U[i]?=some v->∃p,ps[i]?=some p/\Pc H v p:=by
 intro U ps i v h;induction h generalizing i with
 |nil=>exact λh=>by cases h
 |cons a _ t=>
  cases i with
  |zero=>exact λh=>by cases h;exact⟨_,O,a⟩
  |succ i=>exact λh=>t h
theorem ahE{l:D9}{n:Int}:(fE l T Z n).lookup ("put":Str)=none:=vS (by decide+kernel) (by decide+kernel) (by decide+kernel) (by decide+kernel)
theorem ahF{l:D9}{n:Int}:(fE l T Z n).lookup ("read":Str)=none:=vS (by decide+kernel) (by decide+kernel) (by decide+kernel) (by decide+kernel)
inductive wb(C:D9)(U:ad)(H:Hp)(Q:VK)(E:XK):Prop|i(s dx l T Z:D9)(b:ac)(x:Str)(_:U=[.r s,.s x])(_:b_ C H s dx l T Z b)(_:good x)(_:b.length<=10000)(_:(aj b).length<=1000000)(_:((x=""/\Q .a H)\/(x≠""/\∀v I t,dz s l T Z H I->b_ C I s dx l T Z (b++[x])->Nd I t v->t.ok->t.ai=[(((aj b).length:Int),(x.length:Int),(x.cps.toList.count 10:Int))]->Q v I)))
abbrev ajJ(K:Frag)(C:D9)(e:D9)(E:XK):aV:=aA K [("joined",j_ 64)] [] [] [("put",C,DP e C)] (E:=E)
theorem ahG{e:D9}:bw (wb C) (λE=>ajJ K C e E) Kx Kw:=by
 intro U H Q E h;obtain⟨s,dx,l,T,Z,b,x,rfl,S,g,r,p,h⟩:=h;refine bh<|bf<|ae O<|ah<|m7 ⟨_,O,?_⟩;rcases h with⟨rfl,q⟩|⟨i,k⟩
 exact iT (aS<|ah q) ax;refine iF (bL ?_) (beq_eq_false_iff_ne.mpr i);refine aS<|aC (j_ 64) O<|af<|ah<|af<|eO<|af<|fZ C (DP e C) O<|ae O ⟨s,dx,_,O,S.ob,ahE,ae O ⟨s,dx,l,T,Z,b,_,O,S,.inr ⟨x,O,g,(Ut r (VJ _ _)),p,λu j m=>?_⟩⟩⟩;refine af<|gf<|ae O ⟨bQ g.1,?_⟩;refine af<|gC<|ae O ⟨O,ah<|Al ?_⟩;refine ao ⟨eE,λq f=>af<|ah<|ao ?_⟩;have d:=Xo (o:=tp (((aj b).length:Int),(x.length:Int),((x.cps.toList.count 10:Nat):Int))) f;refine⟨.a,q,.a,.nil,.nil,_,_,_,O,O,O,au,trivial,trivial,(by show(0:Int)+0< (64:Nat);decide),λv L t c n J=>?_⟩;exact k v L t (j.trans<|pe<|d.trans c) (m.same<|d.trans c) n J.ok J.ai
def l_(S:am)(q:P3):Str:=⟨(lG S q).toArray⟩
inductive TC(C:D9)(U:ad)(H:Hp)(Q:VK)(E:XK):Prop|i(s dx b T Z:D9)(a:ac)(v:V)(t:Tr)(_:U=[.r s,v])(_:b_ C H s dx b T Z a)(_:Nd H t v)(_:t.ok)(_:(∀q∈t.ai,bO (aj a) q))(_:t.ai.length<=4000)(_:a.length<=10000)(_:(aj a).length<=1000000)(_:∀w I,aq H I->H w=none->I w=some (.l<|(t.ai.map<|l_<|aj a).map V.s)->Q (.r w) I)
theorem zcS{s:ac}:∀t∈s,t.length<= (aj s).length:=by
 induction s with
 |nil=>intro t h;cases h
 |cons a r i=>
  intro t h;have e:(aj (a::r)).length=a.length+(aj r).length:=by simp[aj,Str.length]
  rw[e];rcases UA.mp h with rfl|h
  exact YJ _ _;have:=i t h;exact i0 this
abbrev arZ(K:Frag)(C:D9)(W:D9)(E:XK):aV:=aA K [("pieces_of",tW 32)] [] [] [("read",C,DR W C)] (E:=E)
theorem zcQ:bw (TC C) (λE=>arZ K C W E) KG KD:=by
 intro U H Q E h;obtain⟨s,dx,B,T,Z,f,v,t,rfl,S,N,M,J,o,l2,l3,k⟩:=h;have hh:=Tr.j6 M o;refine aS<|k7<|aC (tW 32) O<|af<|ae O<|ao ⟨v,t,O,N,al,o,λw H1 Y l fw y m=>qT w O (qY _ (ak.of y)) ?_⟩;have A:=Id m;refine l8 y al (λi ys _=>ys=((t.ai.take i).map<|l_<|aj f).map V.s) ap ?_ ?_;intro i x ys L F d e Q' D;obtain⟨b,j,⟨q,rfl,I⟩⟩:=Qd m F;have P:i<t.ai.length:=(ZX.mp j).1;have g:=J b (zG j);have p0:=g.p0;have p1:=g.p1;have X:=g.a;have z:=(S.same l).same d;have r:=d _ _ I;refine tZ C (DR W C) O<|ae O ⟨s,dx,_,O,z.ob,ahF,aD<|ae O<|ah<|az r O<|aD<|ae O<|ah<|az r O ?_⟩;refine⟨s,dx,B,T,Z,f,_,_,O,z,.inr (tA b.1.toNat b.2.1.toNat ?_ ?_ al (Ut l2 (VJ _ _)) ⟨l3,λu G=>by have:=zcS u G;exact Ut this l3,λH3 c=>D _ _ c ?_⟩)⟩;rw[show((b.1.toNat:Nat):Int)=b.1 by lia];rw[show((b.2.1.toNat:Nat):Int)=b.2.1 by lia];rw[e,VU P,(ZX.mp j).2,Xn,Xn];rfl;intro ys L p d e n;have R:ys=(t.ai.map<|l_<|aj f).map V.s:=by rw[e,A,Ux]
 have c:aq H L:=l.trans d;exact k p _ (c.trans<|Xo n) (c.free n) (by rw[au,R])
theorem Qe(S:am)(ps:v6):qE (ps.map (l_ S))=⟨(cP S ps).toArray⟩:=iY (by
 rw[qP,Ti];show(ps.map λq=>(l_ S q).cps.toList).flatten=(cP S ps).toArray.toList;simp only[l_,List.toList_toArray];rfl)
theorem Aj{ps:v6}:sz (ps.map<|l_ S)=(cP S ps).length:=by
 have:=IR Str.length (Qe S ps);rw[yG] at this;rw[this];simp[Str.length]
section
variable{B:aV}{D:Xt}{J:St}{H:Hp}{r:bv}{Q:VK}{QT:tz}
theorem ahI(C:D9)(s:Sp)(b:B.kt j=(C,s))(h:∀x dx,H x=none->H dx=none->dx≠x->s [.r x] (upd (upd H dx<|.o x) x<|.i C dx []) (λv L=>v=.a/\Q (.r x) L) B.E):ag B (.m j []) J H Q:=by
 show sx (B.kt j).1 (B.kt j).2 [] B.E (aO B []) J H Q;rw[b];exact h
theorem Qf{b:RE}(C:D9)(s:Sp)(d:B.kt j=(C,s))(h:ag B a J H λy e=>ag B b J e λz c=>∀x dx,c x=none->c dx=none->dx≠x->s [.r x,y,z] (upd (upd c dx<|.o x) x<|.i C dx []) (λv L=>v=.a/\Q (.r x) L) B.E):ag B (.m j [a,b]) J H Q:=by
 show sx (B.kt j).1 (B.kt j).2 [] B.E (aO B [a,b]) J H Q;rw[d];exact h
theorem Qg(h:ag B e J H λv b=>ag B o J b λx L=>∃a C dx s,x=.r a/\L a=some (.i C dx s)/\fP B.K C/\eY B.K C f/\s.length<1000/\aw B r D J (upd L a<|.i C dx<|bC f v s)):aw B (.z o f e::r) D J H:=h
end
noncomputable def eU(s:D9)(v:V):n6:=[("stock",.r s),("node",v)]
theorem k8:(eU s v).lookup ("stock":Str)=some (V.r s):=jz
theorem ph:(eU s v).lookup ("node":Str)=some v:=(dq (by decide+kernel)).trans jz
theorem d0{m:Str}(a:¬m="stock")(h:¬m="node"):(eU s v).lookup m=none:=(dq a).trans ((dq h).trans O)
theorem ahJ:bC "node" v (bC "stock" (.r s) [])=eU s v:=by
 have e:bC "stock" (V.r s) []=[(("stock":Str),V.r s)]:=O;delta eU;rw[e,fi (by decide+kernel)];rfl
structure cW(W:D9)(H:Hp)(p dp s:D9)(v:V)(t:Tr)(S:am):Prop where
 ob:H p=some (.i W dp<|eU s v)
 nd:Nd H t v
 ok:t.ok
 c:∀q∈t.ai,bO S q
theorem cW.same{t:Tr}(P:cW W H p d s v t S)(h:aq H I):cW W I p d s v t S:=⟨h _ _ P.ob,P.nd.mono<|aR h,P.ok,P.c⟩
inductive rJ(W:D9)(U:ad)(H:Hp)(Q:VK)(E:XK):Prop|i(p d s:D9)(v:V)(_:U=[.r p,.r s,v])(_:H p=some (.i W d []))(_:∀I,I p=some (.i W d<|eU s v)->(∀b o,H b=some o->b≠p->I b=some o)->Q .a I)
theorem ahK(T:jo K W):bw (rJ W) (λE=>aP K E) KI KH:=by
 intro U H Q E h;obtain⟨p,d,s,v,rfl,a,k⟩:=h;refine Qg<|ae O<|ae O ⟨p,W,d,[],O,a,T.c,T.j,(by show 0<1000;decide),?_⟩;refine Qg<|ae O<|ae O ⟨p,W,d,_,O,au,T.c,T.m,(by show 1<1000;decide),?_⟩;refine k _ ?_ λb o e n=>?_;rw[au];exact IR (λl=>some<|HO.i W d l) ahJ;rw[av n,av n];exact e
inductive cC(W:D9)(U:ad)(H:Hp)(Q:VK)(E:XK):Prop|i(p d s:D9)(v:V)(t:Tr)(S:am)(_:U=[.r p])(_:cW W H p d s v t S)(_:Q (.i ((cP S t.ai).length:Nat)) H)
inductive k9(W:D9)(U:ad)(H:Hp)(Q:VK)(E:XK):Prop|i(p d s:D9)(v:V)(t:Tr)(S:am)(_:U=[.r p])(_:cW W H p d s v t S)(_:Q (.i ((cP S t.ai).count 10+1:Nat)) H)
theorem cW.sz{t:Tr}(P:cW W H p d s v t S):t.sz=((cP S t.ai).length:Nat):=by rw[jE,<-Xl P.c]
theorem cW.en{t:Tr}(P:cW W H p d s v t S):t.en=((cP S t.ai).count 10:Nat):=by rw[zt,D0 P.c]
abbrev apI(K:Frag)(E:XK):aV:=aA K [("size_of",kY)] [] (E:=E)
theorem v0(T:jo K W):bw (cC W) (λE=>apI K E) KJ oF:=by
 intro U H Q E h;obtain⟨p,d,s,v,t,S,rfl,P,q⟩:=h;refine aS<|aC kY O<|af<|fk<|ae O ⟨p,W,d,_,_,O,P.ob,T.c,T.m,ph,ao ⟨v,t,O,P.nd,?_⟩⟩;rw[P.sz];exact q
abbrev anW(K:Frag)(E:XK):aV:=aA K [("ends_of",kZ)] [] (E:=E)
theorem Qv(T:jo K W):bw (k9 W) (λE=>anW K E) KL oF:=by
 intro U H Q E h;obtain⟨p,d,s,v,t,S,rfl,P,q⟩:=h;refine aS<|aI<|aC kZ O<|af<|fk<|ae O ⟨p,W,d,_,_,O,P.ob,T.c,T.m,ph,ao ⟨v,t,O,P.nd,ah<|bU ?_⟩⟩;rw[P.en];exact q
def tx(S:am)(ps:v6):Str:=⟨(cP S ps).toArray⟩
inductive nj(W C:D9)(U:ad)(H:Hp)(Q:VK)(E:XK):Prop|i(p d s dx l T Z:D9)(v:V)(t:Tr)(a:ac)(_:U=[.r p])(_:cW W H p d s v t (aj a))(_:b_ C H s dx l T Z a)(_:t.ai.length<=4000)(_:a.length<=10000)(_:(aj a).length<=1000000)(_:(cP (aj a) t.ai).length<=1000000)(_:∀I,aq H I->Q (.s<|tx (aj a) t.ai) I)
theorem Qh{ps:v6}(h:H w=some (.l<|(ps.map<|l_ S).map V.s))(a:(cP S ps).length<=1000000)(q:Q (.s<|tx S ps) H):sS K .j (.s "") [.r w] H Q:=by
 refine⟨ps.map<|l_ S,ak.of h,X7 (by rw[Aj];exact a),?_⟩;have e:Txt.join "" (ps.map<|l_ S)=tx S ps:=Qe S ps;rw[e];exact q
abbrev afS(K:Frag)(C:D9)(E:XK):aV:=aA K [("texts_of",TC C)] [] (E:=E)
theorem V4(a:jo K W):bw (nj W C) (λE=>afS K C E) KN oF:=by
 intro U H Q E h;obtain⟨p,d,s,dx,l,T,Z,v,t,b,rfl,P,S,n,i,g,f,k⟩:=h;exact aS<|gC<|ah ⟨O,aC (TC C) O<|af<|fk<|ae O ⟨p,W,d,_,_,O,P.ob,a.c,a.j,k8,af<|fk<|ae O ⟨p,W,d,_,_,O,P.ob,a.c,a.m,ph,ao ⟨s,dx,l,T,Z,b,v,t,O,S,P.nd,P.ok,P.c,n,i,g,λw q e r o=>Qh o f<|k q e⟩⟩⟩⟩
theorem zx{ps:v6}(h:∀q∈ps,bO S q):∀q∈ps,vY q:=λq a=>⟨(h q a).p0,(h q a).p1⟩
noncomputable def cQ(l:am)(a b:Nat):Str:=⟨((l.take b).drop a).toArray⟩
inductive kc(W C:D9)(U:ad)(H:Hp)(Q:VK)(E:XK):Prop|i(p d s dx l T Z:D9)(v:V)(t:Tr)(c:ac)(a b:Nat)(_:U=[.r p,.i a,.i b])(_:cW W H p d s v t (aj c))(_:b_ C H s dx l T Z c)(_:t.ai.length<=4000)(_:c.length<=10000)(_:(aj c).length<=1000000)(_:(cP (aj c) t.ai).length<=1000000)(_:a<=b)(_:b<= (cP (aj c) t.ai).length)(_:∀I,aq H I->Q (.s<|cQ (cP (aj c) t.ai) a b) I)
theorem ahO{CE:D9}(g:jo K W):bw (kc W C) (λE=>aA K [("is_between",fD),("parted",l7 C 32),("texts_of",TC C)] [] [] [("size",W,cC W)] (et:=[("NoPlace",CE)]) (E:=E)) KP KO:=by
 intro U H Q E h;obtain⟨p,f,s,dx,r,T,Z,v,t,d,a,b,rfl,P,S,A,l2,l3,l4,h1,h2,k⟩:=h;have hz:=P.sz;have hh:=Tr.j6 P.ok A;have z:(eU s v).lookup ("size":Str)=none:=d0 (by decide+kernel) (by decide+kernel);refine bh<|j9<|eR<|gb fD O<|af<|ae O<|af<|ah<|af<|g_ W (cC W) O<|ae O ⟨p,f,_,O,P.ob,z,p,f,s,v,t,_,O,P,ao ⟨_,_,_,O,.inl ⟨_,O,(YK _),al,eT<|iF ?_ O⟩⟩⟩;refine eR<|gb fD O<|af<|ae O<|af<|ae O<|af<|g_ W (cC W) O<|ae O ⟨p,f,_,O,P.ob,z,p,f,s,v,t,_,O,P,ao ⟨_,_,_,O,.inl ⟨_,O,al,al,eT<|iF ?_ O⟩⟩⟩;refine bL<|aJ<|aD<|aC (l7 C 32) O<|af<|fk<|ae O ⟨p,W,f,_,_,O,P.ob,g.c,g.m,ph,af<|ae O<|af<|fk<|ae O ⟨p,W,f,_,_,O,P.ob,g.c,g.j,k8,ao ?_⟩⟩;refine⟨v,t,b,s,dx,r,T,Z,d,O,P.nd,P.ok,S,zx P.c,al,A,(YK _),al,λw R v2 i t2 H1 q hw Y n2 y o2 D e2=>ah<|az hw O ?_⟩;obtain⟨n,c2,l,c4⟩:=l5 (zu t.ai (b:Int) P.c (YK _) (by rw[<-jE,hz];lia));rw[<-D] at n l;have J:=P.same q;have I:=S.same q;have B:i.ai.length<=4000:=by rw[D];have:=(y_ (ends d) t.ai b).1;exact Ut this A
 have a':=Tr.j6 y B;have C8:i.sz=((cP (aj d) i.ai).length:Nat):=by rw[jE,<-Xl n]
 rw[Yx] at l;have lz:(cP (aj d) i.ai).length=b:=by rw[l,WE];lia
 refine aS<|gC<|ah ⟨O,aC (TC C) O<|af<|fk<|ae O ⟨p,W,f,_,_,O,J.ob,g.c,g.j,k8,af<|aD<|aC (l7 C 32) O<|af<|ae O<|af<|ae O<|af<|fk<|ae O ⟨p,W,f,_,_,O,J.ob,g.c,g.j,k8,ao ?_⟩⟩⟩;refine⟨R,i,a,s,dx,r,T,Z,d,O,Y,y,I,zx n,al,B,(YK _),al,λw' w1 M u1 u L x N m1 m2 p1 X d1 F=>ah<|az N O<|ao ?_⟩;obtain⟨b1,G,b3,o⟩:=l5 (zu i.ai (a:Int) n (YK _) (by rw[<-jE,C8];lia));rw[<-F] at G o;rw[Yx] at o;have g2:u.ai.length<=4000:=by rw[F];have:=(y_ (ends d) i.ai a).2;exact Ut this B
 have g3:(cP (aj d) u.ai).length<=1000000:=by rw[o,Xh];lia
 refine⟨s,dx,r,T,Z,d,M,u,O,I.same x,m2,X,G,g2,l2,l3,λw3 H3 V f3 h3=>Qh h3 g3 ?_⟩;have e:tx (aj d) u.ai=cQ (cP (aj d) t.ai) a b:=by delta tx cQ;rw[o,l]
 rw[e];exact k H3<|q.trans<|x.trans V
theorem t6{r:bv}(h:ag B x J H λv f=>∃a,v=.r a/\(∃Y,ak B.K f a Y)/\∃W:Nat->Nat->St->Hp->Prop,(∃m,W 0 m J f)/\∀j m J H,W j m J H->
  ((cX B.K a).stop j H/\({D with nx:=aw B r D}:Xt).nx J H)\/((cX B.K a).go j H/\∃N:St->Hp->Prop,(∀e I,N e I->∃d,d<m/\W (j+1) d e I)/\∀x I,(cX B.K a).dH j H x I->dB i x J I λb L=>aw B body {({D with nx:=aw B r D}:Xt) with nx:=N,c:=N,bk:=({D with nx:=aw B r D}:Xt).nx} b L)):
  aw B (.y i .l [x] body::r) D J H:=wa (x:=x) _ _ (λZ Z=>Iff.rfl) h
theorem wKC:(("keep":Str)==("cut":Str))=false:=by decide+kernel
theorem wPC:(("put":Str)==("cut":Str))=false:=by decide+kernel
theorem wCC:(("cut":Str)==("cut":Str))=true:=by decide+kernel
theorem G2:(("keep":Str) !=("put":Str))=true:=by decide+kernel
theorem wPP:(("put":Str) !=("put":Str))=false:=by decide+kernel
theorem wCP:(("cut":Str) !=("put":Str))=true:=by decide+kernel
theorem Qi{n:Int}(h:oW l (.k n::ps) r):∃a c b,l=a++c/\r=a++b/\n=a.length/\oW c ps b:=by
 cases h with|k e h=>exact⟨_,_,_,rfl,rfl,e,h⟩
theorem Qj{s:Str}(h:oW l (.p s::ps) r):∃a,r=s.cps.toList++a/\oW l ps a:=by
 cases h with|t h=>exact⟨_,rfl,h⟩
theorem Qk{s:Str}(h:oW l (.c s::ps) r):∃a,l=s.cps.toList++a/\oW a ps r:=by
 cases h with|C h=>exact⟨_,rfl,h⟩
inductive D1(W C:D9)(U:ad)(H:Hp)(Q:VK)(E:XK):Prop|i(p d s dx c T Z a:D9)(v:V)(t:Tr)(b:ac)(Y:ad)(ps:cr)(r:am)(_:U=[.r p,.r a])(_:cW W H p d s v t (aj b))(_:b_ C H s dx c T Z b)(_:t.ai.length<=4000)(_:b.length<=10000)(_:(aj b).length<=1000000)(_:(cP (aj b) t.ai).length<=1000000)(_:H a=some (.l Y))(_:aX H Y ps)(_:(∀p∈ps,fh p))(_:ZP "" ps=true)(_:ps.length<=1000000)(_:oW (cP (aj b) t.ai) ps r)(_:∀I,aq H I->Q .a I)
abbrev ahV(W C:D9):wT:=[("size",W,cC W),("part",W,kc W C)]
abbrev aqJ(K:Frag)(W:D9)(C:D9)(CF:D9)(E:XK):aV:=aA K [("sizes",CZ),("part_size",oO)] [] [] (ahV W C) (et:=[("BadFit",CF)]) (E:=E)
theorem ahW(T0:jo K W):bw (D1 W C) (λE=>aqJ K W C CF E) KC KA:=by
 intro U H Q E h;obtain⟨p,A,s,dx,lt,T,Z,a,v,t,g,Y,ps,r,rfl,P,S,l1,l2,l3,l4,N,R,aB,cK,hl,hr,k⟩:=h;have lx:=Id R;have zy:(eU s v).lookup ("size":Str)=none:=d0 (by decide+kernel) (by decide+kernel);have X:(eU s v).lookup ("part":Str)=none:=d0 (by decide+kernel) (by decide+kernel);refine bh<|bf<|aD<|aC CZ O<|af<|ae O<|ao ⟨a,Y,ps,O,N,R,aB,cK,hl,λw H1 B hw=>ah<|az hw O ?_⟩;have P1:=P.same B;refine g_ W (cC W) O<|ae O ⟨p,A,_,O,P1.ob,zy,p,A,s,v,t,_,O,P1,vT ⟨_,O,iF (bL ?_) (by rw[hr.over];simp)⟩⟩;refine aJ<|ah ?_;refine t6 (ae O (qT a O (qY _ (ak.of (B _ _ N))) (ic (K:=K) (a:=a) (xs:=Y) (λi J L=>Wl λ(x:ld)(m e D:am)=>ZL (J=[some (.r p),some (.r a),some (.i (m.length:Nat)),x]) (aq H L) (cP (aj g) t.ai=m++e) (oW e (ps.drop i) D))
 ⟨none,[],_,r,O,B,O,hr⟩ (by rintro i J L _ ⟨_,_,_,_,_,d,_,_⟩;exact ak.of (d _ _ N)) ?_ ?_)))
 rintro i x J L hi ⟨x0,m,e,D,rfl,d,l,y⟩;obtain⟨q,M,iG⟩:=R.get hi;obtain⟨b,rfl,f⟩:=iG.mono (aR d);have aF:i<ps.length:=(ZX.mp M).1;have ed:ps.drop i=q::ps.drop (i+1):=by rw[Tz aF,(ZX.mp M).2]
 have oq:=aB q (zG M);rw[ed] at y;have P2:=P.same d;have S2:=S.same d;have lm:(cP (aj g) t.ai).length=m.length+e.length:=by rw[l,Zw]
 refine bh<|Pz<|bf<|aD<|ae O<|ah<|az f O<|ah<|m7 ⟨_,O,?_⟩;cases q with
 |k n=>
  obtain⟨c,u,F,zq⟩:=U1 (Qi y);obtain⟨o,e2,e3,j⟩:=l5 zq;refine iF (iF (bL ?_) O) wKC;refine bh<|bf<|aD<|ae O<|ah<|az f O<|ah<|kT ⟨_,O,iT ?_ G2⟩;refine aJ<|aI<|ae O<|aC oO O<|af<|ae O<|ao ⟨_,.k n,O,⟨b,O,f⟩,trivial,bU ?_⟩;refine⟨some<|.r b,m++c,u,F,?_,d,by rw[l,o,UR],j⟩;show[some<|V.r p,some<|V.r a,some<|V.i<|(m.length:Int)+n,some<|V.r b]=_;rw[Zw,e3];rfl
 |p z=>
  obtain⟨F,e2,j⟩:=Qj y;refine iF (iF (bL ?_) O) wPC;refine bh<|bf<|aD<|ae O<|ah<|az f O<|ah<|kT ⟨_,O,iF ?_ wPP⟩;exact⟨some<|.r b,m,e,F,O,d,l,j⟩
 |c z=>
  obtain⟨u,o,j⟩:=Qk y;have I:=Wj z;have a':e.length=z.length+u.length:=by rw[o,Zw,<-I]
  refine iT ?_ wCC;refine bf<|tZ W (kc W C) O<|ae O ⟨p,A,_,O,P2.ob,X,ae O<|aI<|ae O<|gf<|aD<|ae O<|ah<|az f O ⟨bQ oq.1.1,bU ?_⟩⟩;refine⟨p,A,s,dx,lt,T,Z,v,t,g,m.length,m.length+z.length,O,P2,S2,l1,l2,l3,l4,(YJ _ _),al,λH3 s3=>?_⟩;have ec:cQ (cP (aj g) t.ai) m.length (m.length+z.length)=z:=by
   apply iY;show(((cP (aj g) t.ai).take _).drop _).toArray.toList=_;rw[l,o,ZI,I,YA,Xk]
  have G:=s3 _ _ f;refine aD<|ae O<|ah<|az G O<|kT ⟨_,O,iF (bL ?_) (by rw[ec];simp[Pt.val])⟩;refine bh<|bf<|aD<|ae O<|ah<|az G O<|ah<|kT ⟨_,O,iT ?_ wCP⟩;refine aJ<|aI<|ae O<|aC oO O<|af<|ae O<|ao ⟨_,.c z,O,⟨b,O,G⟩,oq.1.1,bU ?_⟩;refine⟨some<|.r b,m++z.cps.toList,u,D,?_,d.trans s3,by rw[l,o,UR],j⟩;show[some<|V.r p,some<|V.r a,some<|V.i<|(m.length:Int)+(z.length:Nat),some<|V.r b]=_;rw[Zw,<-I];rfl
 rintro J L ⟨_,_,_,_,rfl,d,_,_⟩;exact k L d
theorem Ql(F:Int->Int):∀(Y:v6)(n:Int),(da F Y n).length+(dc F Y n).length<=Y.length+1:=by
 intro l;induction l with
 |nil=>
  rintro n;simp[da,dc]
 |cons p Y i=>
  rintro n;have i:=i (n - p.2.1);by_cases z:n<=0;obtain⟨d,e⟩:=DD F z (p::Y);rw[d,e];simp;by_cases g:p.2.1<=n;have d:da F (p::Y) n=p::da F Y (n - p.2.1):=by obtain⟨a,b,c⟩:=p;simp only[da];rw[GM z,GT g]
  have e:dc F (p::Y) n=dc F Y (n - p.2.1):=by obtain⟨a,b,c⟩:=p;simp only[dc];rw[GM z,GT g]
  rw[d,e,Xm,Xm];lia;have d:(da F (p::Y) n).length=1:=by obtain⟨a,b,c⟩:=p;simp only[da];rw[GM z,GM g];rfl
  have e:(dc F (p::Y) n).length=Y.length+1:=by obtain⟨a,b,c⟩:=p;simp only[dc];rw[GM z,GM g];rfl
  rw[d,e,Xm];exact WK (Xz _ _)
theorem cW.ne{c l:D9}{t:Tr}(P:cW W H p g c v t S)(St:b_ C H s dx l T Z a):p≠s/\p≠l/\p≠T/\p≠Z:=by
 refine⟨λz=>?_,λz=>?_,λz=>?_,λz=>?_⟩;have e:=P.ob;rw[z,St.ob] at e;injection e with e
 injection e with i h d
 have:=IR List.length d;simp[fE,eU] at this;have e:=P.ob;rw[z,St.t] at e;cases e;have e:=P.ob;rw[z,St.b] at e;cases e;have e:=P.ob;rw[z,St.f] at e;cases e
theorem cW.but{l:D9}{t:Tr}{e:ac}(P:cW W H p d a v t S)(St:b_ C H s dx l T Z e)(b:dz s l T Z H I):cW W I p d a v t S:=by
 obtain⟨h,g,f,n⟩:=P.ne St;exact⟨b _ _ P.ob h g f n,P.nd.mono<|b.cf St,P.ok,P.c⟩
theorem cW.grow{t:Tr}(T:am)(P:cW W H p d s v t S):cW W H p d s v t (S++T):=⟨P.ob,P.nd,P.ok,λq h=>(P.c q h).grow.1⟩
theorem Qm{z:Str}(h:z≠""):bO (aj<|ts++[z]) (((aj ts).length:Int),(z.length:Int),(z.cps.toList.count 10:Int))/\lG (aj<|ts++[z]) (((aj ts).length:Int),(z.length:Int),(z.cps.toList.count 10:Int))=z.cps.toList:=by
 have e:lG (aj<|ts++[z]) (((aj ts).length:Int),(z.length:Int),(z.cps.toList.count 10:Int))=z.cps.toList:=by
  delta lG;rw[jC,o8];show((aj ts++z.cps.toList).drop (((aj ts).length:Nat):Int).toNat).take ((z.length:Nat):Int).toNat=_;rw[Yx,Yx,Xk,Wj,Ux]
 have l:1<=z.length:=by
  by_cases q:z.length=0;have b:z.cps.toList=[]:=Ww (by rw[<-Wj];exact q);have a:z="":=iY (by rw[b];rfl);exact absurd a h;exact XC (S8 q)
 refine⟨⟨by show(0:Int)<= ((aj ts).length:Int);exact YK _,by show(1:Int)<= (z.length:Int);lia,?_,by rw[e]⟩,e⟩;rw[jC,o8,Zw,<-Wj];show((aj ts).length:Int)+(z.length:Int)<=_;lia
def zA(C:D9)(H:Hp)(p a s dx l T Z:D9)(N:Nat)(t:ac)(ps:cr)(r:am)(i:Nat)(J:St)(L:Hp):Prop:=
 ∃(g x:ld)(e v:V)(c b:Tr)(u:ac)(m d f:am),J=[some<|.r p,some<|.r a,some e,some v,g,x]/\dz s l T Z H L/\b_ C L s dx l T Z (t++u)/\Nd L c e/\Nd L b v/\c.ok/\b.ok/\
  (∀q∈c.ai,bO (aj<|t++u) q)/\(∀q∈b.ai,bO (aj<|t++u) q)/\cP (aj<|t++u) c.ai=d/\cP (aj<|t++u) b.ai=m/\r=d++f/\oW m (ps.drop i) f/\
  c.ai.length+b.ai.length<=N+i/\u.length<=i/\(aj u).length<=d.length
inductive nk(W C:D9)(U:ad)(H:Hp)(Q:VK)(E:XK):Prop|i(p h s dx c T Z a:D9)(v:V)(t:Tr)(b:ac)(Y:ad)(ps:cr)(r:am)(_:U=[.r p,.r a])(_:cW W H p h s v t (aj b))(_:b_ C H s dx c T Z b)(_:t.ai.length+ps.length<=4000)(_:b.length+ps.length<=10000)(_:(aj b).length+r.length<=1000000)(_:(cP (aj b) t.ai).length<=1000000)(_:H a=some (.l Y))(_:a≠c)(_:a≠T)(_:a≠Z)(_:aX H Y ps)(_:(∀p∈ps,fh p))(_:ZP "" ps=true)(_:oW (cP (aj b) t.ai) ps r)(_:∀e g f d u I,dz s c T Z H I->H e=none->b_ C I s dx c T Z (b++u)->cW W I e g s f d (aj<|b++u)->cP (aj<|b++u) d.ai=r->d.ai.length<=t.ai.length+ps.length->u.length<=ps.length->(aj u).length<=r.length->Q (.r e) I)
abbrev asQ(W C:D9):io:=[("need_fit",D1 W C),("sewn",zv),("node_put",wb C),("parted",l7 C 32),("part_size",oO)]
theorem ahY:(("put":Str)==("put":Str))=true:=by decide+kernel
theorem ahZ:(("keep":Str)==("put":Str))=false:=by decide+kernel
theorem ah0:(("cut":Str)==("put":Str))=false:=by decide+kernel
theorem ah1:(("keep":Str)==("keep":Str))=true:=by decide+kernel
theorem Rx:(("cut":Str)==("keep":Str))=false:=by decide+kernel
abbrev k6(K:Frag)(W:D9)(C:D9)(E:XK):aV:=aA K (asQ W C) [] [] [] [("Paper",W,rJ W)] (E:=E)
theorem ah3(Q:jo K W){t:Tr}(P:cW W H p dp s v t (aj d))(S0:b_ C H s dx F T Z d)(m:ps[i]?=some q)(U:fh q)(hx:kJ L x q)(bN:N+ps.length<=4000)(bt:d.length+ps.length<=10000)(bs:(aj d).length+r.length<=1000000)(I1:zA C H p a s dx F T Z N d ps r i J L)(hD:D.nx=zA C H p a s dx F T Z N d ps r (i+1))(hC:D.c=zA C H p a s dx F T Z N d ps r (i+1)):
  aw (k6 K W C E) [.i (.p .Eq (.i (.v 4) (.c (.i 0))) (.c (.s "put"))) [.a 2 (.l 1 [.v 2,(.l 2 [(.f (.v 0) "stock"),(.i (.v 4) (.c (.i 1)))])]),
   .c] [],
  .a 5 (.l 3 [.v 3,(.l 4 [.v 4]),(.f (.v 0) "stock")]),
  .a 3 (.i (.v 5)<|.c<|.i 1),
  .i (.p .Eq (.i (.v 4) (.c (.i 0))) (.c (.s "keep"))) [.a 2 (.l 1 [.v 2,(.i (.v 5) (.c (.i 0)))])] []] D (J.set 4 (some x)) L:=by
 obtain⟨x4,x5,va,vr,ta,e,u,m2,r1,r2,zq⟩:=Vn I1;obtain⟨rfl,bu,S,na,nr,oa,o,pa,A,ea,M,pj,dv,bl,e',D3⟩:=Vm zq;obtain⟨b,rfl,I⟩:=hx;have aF:i<ps.length:=(ZX.mp m).1;have ed:ps.drop i=q::ps.drop (i+1):=by rw[Tz aF,(ZX.mp m).2]
 rw[ed] at dv;have P2:=P.but S0 bu;have lr:r.length=r1.length+r2.length:=by rw[pj,Zw]
 have ls:(aj<|d++u).length=(aj d).length+(aj u).length:=by rw[jC,Zw]
 have Ye:(d++u).length=d.length+u.length:=Zw;refine bh<|bf<|aD<|ae O<|ah<|az I O<|ah<|m7 ⟨_,O,?_⟩;cases q with
 |p z=>
  obtain⟨r',e2,X⟩:=Qj dv;refine iT ?_ ahY;have lz:=Wj z;have d':r2.length=z.length+r'.length:=by rw[e2,Zw,<-lz]
  refine aJ<|aC zv O<|af<|ae O<|af<|aC (wb C) O<|af<|fk<|ae O ⟨p,W,dp,_,_,O,P2.ob,Q.c,Q.j,k8,af<|aD<|ae O<|ah<|az I O<|ao ?_⟩;refine⟨s,dx,F,T,Z,d++u,z,O,S,U.1,al,al,.inr ⟨U.2,λv1 H3 y b3 S3 n1 o1 g=>ao ?_⟩⟩;rw[UR] at S3;obtain⟨pz,ez⟩:=Qm (ts:=d++u) U.2;rw[UR] at pz ez;have eg:aj (d++(u++[z]))=aj (d++u)++z.cps.toList:=by rw[<-UR,jC,o8]
  have p1:∀q∈y.ai,bO (aj<|d++(u++[z])) q:=λq m=>by
   rw[g] at m;rw[jS.mp m];exact pz
  have tu:=b3.cf S;refine⟨va,v1,ta,y,aj<|d++(u++[z]),O,na.mono tu,n1,oa,o1,λq m=>by rw[eg];exact(pa q m).grow.1,p1,λ_ hh=>?_,al,by rw[g];exact Nat.le_of_ble_eq_true O,λv4 H4 t4 B n4 o4 p4 e4 l4=>?_⟩;rw[hh] at g;cases g;have a':=aR B;show D.c _ _;rw[hC];have c':cP (aj<|d++(u++[z])) y.ai=z.cps.toList:=by rw[g,h6,TN,YS];exact ez
  refine⟨some<|.r b,x5,v4,vr,t4,e,u++[z],m2,r1++z.cps.toList,r',O,(bu.trans b3).trans<|pe B,S3.same B,n4,(nr.mono tu).mono a',o4,o,p4,λq m=>by rw[eg];exact(A q m).grow.1,?_,?_,?_,X,?_,?_,?_⟩;rw[e4,c',eg,zr pa,ea];rw[eg,zr A,M];rw[pj,e2,UR];have:y.ai.length=1:=by rw[g];rfl
  lia;rw[Zw];show u.length+1<=i+1;exact Ue e' _;rw[jC,o8,Zw,Zw];exact Ue D3 _
 |k n=>
  obtain⟨c,G,r',g,e2,e3,X⟩:=Qi dv;refine iF (bL ?_) ahZ;have n1:1<=n:=U;have hz:e.sz=((cP (aj<|d++u) e.ai).length:Nat):=by rw[jE,<-Xl A]
  have lm:(cP (aj<|d++u) e.ai).length=c.length+G.length:=by rw[M,g,Zw]
  have hh:=Tr.j6 o al;refine aJ<|aC (l7 C 32) O<|af<|ae O<|af<|aC oO O<|af<|ae O<|ao ⟨_,.k n,O,⟨b,O,I⟩,trivial,af<|fk<|ae O ⟨p,W,dp,_,_,O,P2.ob,Q.c,Q.j,k8,ao ?_⟩⟩;refine⟨vr,e,n,s,dx,F,T,Z,d++u,O,nr,o,S,zx A,al,al,(UC (YK _) n1),al,λw v1 v2 y R H3 h hw Qo n2 o1 o2 d1 Y=>?_⟩;obtain⟨c1,c2,c3,c4⟩:=l5 (zu e.ai n A (UC (YK _) n1) (by rw[<-jE,hz];lia));have cs:=Ql (ends<|d++u) e.ai n;rw[<-d1] at c1 c3;rw[<-Y] at c2 c4;rw[<-d1,<-Y] at cs;have en:n.toNat=c.length:=by lia
  have D4:cP (aj<|d++u) y.ai=c:=by rw[c3,M,g,en,YA]
  have D5:cP (aj<|d++u) R.ai=G:=by rw[c4,M,g,en,Xk]
  have ma:=h _ _ I;have b':=aR h;refine aJ<|aD<|ae O<|ah<|az hw O ?_;refine bh<|bf<|aD<|ae O<|ah<|az ma O<|ah<|m7 ⟨_,O,iT ?_ ah1⟩;refine aJ<|aC zv O<|af<|ae O<|af<|aD<|ae O<|ah<|az hw O<|ao ?_;refine⟨va,v1,ta,y,aj<|d++u,O,na.mono b',Qo,oa,o1,pa,c1,λ_ z=>?_,al,al,λv4 H4 t4 B n4 o4 p4 e4 l4=>?_⟩;rw[z] at D4;have:c=[]:=by rw[<-D4];rfl
  rw[this] at e3;simp at e3;lia;show D.nx _ _;rw[hD];refine⟨some<|.r b,some<|.r w,v4,v2,t4,R,u,G,r1++c,r',O,(bu.trans<|pe h).trans<|pe B,(S.same h).same B,n4,n2.mono<|aR B,o4,o2,p4,c2,?_,D5,?_,X,al,(ZU e'),?_⟩;rw[e4,ea,D4];rw[pj,e2,UR];rw[Zw];exact TX D3
 |c z=>
  obtain⟨G,g,X⟩:=Qk dv;refine iF (bL ?_) ah0;have lz:=Wj z;have hz:e.sz=((cP (aj<|d++u) e.ai).length:Nat):=by rw[jE,<-Xl A]
  have lm:(cP (aj<|d++u) e.ai).length=z.length+G.length:=by rw[M,g,Zw,<-lz]
  have hh:=Tr.j6 o al;refine aJ<|aC (l7 C 32) O<|af<|ae O<|af<|aC oO O<|af<|ae O<|ao ⟨_,.c z,O,⟨b,O,I⟩,U.1.1,af<|fk<|ae O ⟨p,W,dp,_,_,O,P2.ob,Q.c,Q.j,k8,ao ?_⟩⟩;refine⟨vr,e,(z.length:Nat),s,dx,F,T,Z,d++u,O,nr,o,S,zx A,al,al,(YK _),al,λw v1 v2 y R H3 h hw Qo n2 o1 o2 d1 Y=>?_⟩;obtain⟨c1,c2,c3,c4⟩:=l5 (zu e.ai (z.length:Nat) A (YK _) (by rw[<-jE,hz];lia));have cs:=Ql (ends<|d++u) e.ai (z.length:Nat);rw[<-Y] at c2 c4;rw[<-d1,<-Y] at cs;have D5:cP (aj<|d++u) R.ai=G:=by rw[c4,M,g,Yx,lz,Xk]
  have ma:=h _ _ I;refine aJ<|aD<|ae O<|ah<|az hw O ?_;refine bh<|bf<|aD<|ae O<|ah<|az ma O<|ah<|m7 ⟨_,O,iF (bL ?_) Rx⟩;show D.nx _ _;rw[hD];exact⟨some<|.r b,some<|.r w,va,v2,ta,R,u,G,r1,r2,O,bu.trans<|pe h,S.same h,na.mono<|aR h,n2,oa,o2,pa,c2,ea,D5,pj,X,al,(ZU e'),D3⟩
theorem ah8(w:jo K W):bw (nk W C) (λE=>k6 K W C E) KR KQ:=by
 intro U H Q E h;obtain⟨p,G,s,dx,B,T,Z,a,v,t,ts,Y,ps,r,rfl,P,S,l1,l2,l3,l4,n,a1,a2,a3,I,aB,cK,hr,k⟩:=h;have lx:=Id I;have a0:a≠s:=λz=>by rw[z,S.ob] at n;cases n
 refine eQ<|aC (D1 W C) O<|af<|ae O<|af<|ae O<|ao ⟨p,G,s,dx,B,T,Z,a,v,t,ts,Y,ps,r,O,P,S,(Ut (YJ _ _) l1),(Ut (YJ _ _) l2),(Ut (YJ _ _) l3),l4,n,I,aB,cK,al,hr,λH1 A=>?_⟩;have P1:=P.same A;have S1:=S.same A;refine aJ<|ah<|aJ<|fk<|ae O ⟨p,W,G,_,_,O,P1.ob,w.c,w.m,ph,?_⟩;refine t6<|ae O ⟨a,O,⟨_,ak.of<|A _ _ n⟩,ic (K:=K) (a:=a) (xs:=Y) (zA C H p a s dx B T Z t.ai.length ts ps r) ?_ ?_ ?_ ?_⟩;exact⟨none,none,.a,v,.nil,t,[],_,[],r,O,pe A,by rw[YS];exact S1,O,P1.nd,trivial,P.ok,λq l=>(by cases l),by rw[YS];exact P.c,O,by rw[YS],O,hr,by show 0+_<=_;exact WK (Xz _ _),Wy _,Wy _⟩;rintro i J L _ zq;obtain⟨_,_,_,_,_,_,_,_,_,_,zq⟩:=Vn zq;obtain⟨_,u,_⟩:=Vk zq;exact ak.of<|u _ _ n a0 a1 a2 a3;intro i x J L hi I1;obtain⟨q,l,iG⟩:=I.get hi;have u:dz s B T Z H L:=by obtain⟨_,_,_,_,_,_,_,_,_,_,zq⟩:=Vn I1;obtain⟨_,u,_⟩:=Vk zq;exact u
 exact ah3 w P S l (aB q<|zG l) (iG.mono<|u.cf S) l1 l2 l3 I1 O O;rintro J L zq;obtain⟨x4,x5,X,vr,ta,tr,us,m2,r1,r2,zq⟩:=Vn zq;obtain⟨rfl,u,y,na,nr,oa,a',pa,pr,ea,er,F,dv,bl,b',D3⟩:=Vm zq;rw[lx,List.drop_length] at dv;have e2:r2=[]:=by cases dv;rfl
 rw[e2,YS] at F;have P2:=P.but S u;refine aS<|Qf W (rJ W) O<|fk<|ae O ⟨p,W,G,_,_,O,P2.ob,w.c,w.j,k8,ae O λg t_ d f2 f3=>?_⟩;refine⟨g,t_,s,X,O,au,λH3 h3 hk=>⟨O,?_⟩⟩;have D:aq L H3:=λb o e=>hk b o (by rw[av<|a_ e d,av<|a_ e f2];exact e) (a_ e d);have fp:H g=none:=by
  cases l:H g with
  |none=>rfl
  |some o=>
   exfalso;by_cases V:g=s;rw[V,y.ob] at d;cases d;by_cases R:g=B;rw[R,y.t] at d;cases d;by_cases N:g=T;rw[N,y.b] at d;cases d;by_cases M:g=Z;rw[M,y.f] at d;cases d;rw[u _ _ l V R N M] at d;cases d
 exact k g t_ X ta us H3 (u.trans<|pe D) fp (y.same D) ⟨h3,na.mono<|aR D,oa,pa⟩ (by rw[ea,F]) al (Ut b' (WK lx)) (by rw[F];exact D3)
inductive D6(W C:D9)(U:ad)(H:Hp)(Q:VK)(E:XK):Prop|i(x:Str)(_:U=[.s x])(_:good x)(_:∀p d s dx l T Z v t a I,aq H I->b_ C I s dx l T Z a->cW W I p d s v t (aj a)->cP (aj a) t.ai=x.cps.toList->t.ai.length<=1->a.length<=1->(aj a).length<=x.length->H p=none->H s=none->H l=none->H T=none->H Z=none->Q (.r p) I)
abbrev apL(K:Frag)(CT:D9)(C:D9)(W:D9)(E:XK):aV:=aA K [("need_text",tM CT),("node_put",wb C)] [] [] [] [("Stock",C,DO C),("Paper",W,rJ W)] (E:=E)
theorem ah9:bw (D6 W C) (λE=>apL K CT C W E) Kz Ky:=by
 intro U H Q E h;obtain⟨x,rfl,N,k⟩:=h;refine eQ<|aC (tM CT) O<|af<|ae O<|ao ⟨_,O,.inl ⟨x,O,N,?_⟩⟩;refine aJ<|ahI C (DO C) O λs dx g P f3=>⟨s,dx,O,au,λl T Z D R g1 g2 g3 y=>⟨O,?_⟩⟩;have s1:aq H D:=λb o e=>y b o (by rw[av<|a_ e g,av<|a_ e P];exact e) (a_ e g);have A:∀b,upd (upd H dx<|.o s) s (.i C dx []) b=none->H b=none:=λb e=>by
  cases d:H b with
  |none=>rfl
  |some o=>rw[av<|a_ d g,av<|a_ d P,d] at e;cases e
 have J:=A l g1;have I:=A T g2;have G:=A Z g3;have X:∀(L:Hp)(v:V)(t:Tr)(c:ac),dz s l T Z D L->b_ C L s dx l T Z c->Nd L t v->t.ok->(∀q∈t.ai,bO (aj c) q)->cP (aj c) t.ai=x.cps.toList->t.ai.length<=1->c.length<=1->(aj c).length<=x.length->
   ∀p f,L p=none->L f=none->f≠p->rJ W [.r p,.r s,v] (upd (upd L f<|.o p) p<|.i W f []) (λv L=>v=.a/\Q (.r p) L) E:=by
  intro L v t c B S w u p2 j l2 l3 l4 p f z h2 M;have F:aq H L:=λb o e=>B b o (s1 _ _ e) (a_ e g) (a_ e J) (a_ e I) (a_ e G);refine⟨p,f,s,v,O,au,λY M y=>⟨O,?_⟩⟩;have n:aq L Y:=λb o e=>y b o (by rw[av<|a_ e z,av<|a_ e h2];exact e) (a_ e z);exact k p f s dx l T Z v t c Y (F.trans n) (S.same n) ⟨M,w.mono<|aR n,u,p2⟩ j l2 l3 l4 (F.free z) g J I G
 refine aS<|Qf W (rJ W) O<|ae O<|aC (wb C) O<|af<|ae O<|af<|ae O<|ao ⟨s,dx,l,T,Z,[],x,O,R,N,Wy _,Wy _,?_⟩;by_cases m:x="";refine .inl ⟨m,X D .a .nil [] (pe<|aq.refl _) R O trivial (λq d=>(by cases d)) (by rw[m];rfl) (Wy _) (Wy _)<|Wy _⟩;obtain⟨pz,ez⟩:=Qm (ts:=[]) m;refine .inr ⟨m,λv L t B S w u j=>X L v t [x] B S w u (λq d=>?_) ?_ ?_ (mZ _) ?_⟩;rw[j] at d;rw[jS.mp d];exact pz;rw[j,h6,TN,YS];exact ez;rw[j];exact mZ _;rw[o8,Wj];exact mZ _
theorem Zx{D':ad}{j:Int}(a:0<=j)(h:j<D'.length):∃v∈D',di D' j=some v:=by
 have m:j.toNat<D'.length:=by lia
 refine⟨D'[j.toNat],Ua m,?_⟩;have e:=gu (xs:=D') (j:=j.toNat) (v:=D'[j.toNat]) (by simp[m]);rw[show((j.toNat:Nat):Int)=j by lia] at e;exact e
theorem Qp:∀{ps:List c}{p:c}{Y:List d},Paired R Y (ps++[p])->∃k x,Y=k++[x]/\Paired R k ps/\R x p:=by
 intro ps;induction ps with
 |nil=>
  intro p Y h;rcases h with Z|⟨h,r⟩
  cases r;exact rC [] _ O .nil h
 |cons q ps i=>
  intro p Y h;rcases h with Z|⟨h,r⟩
  obtain⟨k,x,e,a,b⟩:=i r;exact rC (_::k) x (by rw[e];rfl) (.cons h a) b
section
variable{B:aV}{D:Xt}{J:St}{H:Hp}{r:bv}{Q:VK}
theorem pE(h:Q (.i<|-i) H):ag B (.N<|.c<|.i i) J H Q:=h
theorem ah_(h:ag B e J H λv c=>ag B o J c λx L=>ag B i J L λy b=>xv x y v b λa=>aw B r D J a):aw B (.s o i e::r) D J H:=h
theorem D7(h:ag B x J H λv f=>∃a,v=.r a/\(∃Y,ak B.K f a Y)/\∃W:Nat->Nat->St->Hp->Prop,(∃m,W 0 m J f)/\∀j m J H,W j m J H->
  ((cX B.K a).stop j H/\({D with nx:=aw B r D}:Xt).nx J H)\/((cX B.K a).go j H/\∃N:St->Hp->Prop,(∀e I,N e I->∃d,d<m/\W (j+1) d e I)/\∀x I,(cX B.K a).dH j H x I->kA B.K i.length (jR i) x J I λb L=>aw B body {({D with nx:=aw B r D}:Xt) with nx:=N,c:=N,bk:=({D with nx:=aw B r D}:Xt).nx} b L)):
  aw B (.j i .l [x] body::r) D J H:=wa (x:=x) _ _ (λZ Z=>Iff.rfl) h
end
theorem D8(n:Nat):ij (n+1) (-1)=some n:=by
 delta ij;have:¬(0:Int)<= -1:=by decide
 rw[GM this,GT al];congr 1;lia
theorem aia(h:fh p):Ds p:=by
 cases p with
 |k n=>trivial
 |p s=>exact h.1.2
 |c s=>exact h.1.2
theorem Qq{y:Int}(q:Q (.b<|decide<|y<x) H):bW K .Gt (.i x) (.i y) H Q:=⟨trivial,q⟩
section
variable{B:aV}{D:Xt}{J:St}{H:Hp}{r:bv}{Q:VK}
theorem Qr{l:RE}(h:ag B a J H λx f=>ag B l J f λi L=>∃c:Int,i=.i c/\ag B d J L λj e=>∃b:Int,j=.i b/\uX B.K x (some c) (some b) e Q):ag B (.s a (some l)<|some d) J H Q:=h
theorem V2(h:ag B x J H λv e=>∃n:Int,[v]=[.i n]/\ -(2 ^ 62)<=n/\n<2 ^ 62/\∃W:Nat->Nat->St->Hp->Prop,(∃m,W 0 m J e)/\∀j m J H,W j m J H->
  ((gW 0 n.toNat).stop j H/\({D with nx:=aw B r D}:Xt).nx J H)\/((gW 0 n.toNat).go j H/\∃N:St->Hp->Prop,(∀d I,N d I->∃b,b<m/\W (j+1) b d I)/\∀x I,(gW 0 n.toNat).dH j H x I->dB i x J I λa L=>aw B body {({D with nx:=aw B r D}:Xt) with nx:=N,c:=N,bk:=({D with nx:=aw B r D}:Xt).nx} a L)):
  aw B (.y i .g [x] body::r) D J H:=wa (x:=x) _ _ (λY Y=>Iff.rfl) h
end
theorem Qs(S:am)(l:Tr)(a b c:Int)(r:Tr):cP S (Tr.node l a b c r).ai=cP S l.ai++(lG S (a,b,c)++cP S r.ai):=by rw[Tr.ai,v7,h6]
theorem Qt{t:Tr}(h:∀q∈t.ai,bO S q):t.en=((cP S t.ai).count 10:Nat):=by rw[zt,D0 h]
theorem Qu{t:Tr}(h:∀q∈t.ai,bO S q):t.sz=((cP S t.ai).length:Nat):=by rw[jE,<-Xl h]
theorem aic{l:D9}{n:Int}:(fE l T Z n).lookup ("end_place":Str)=none:=vS (by decide+kernel) (by decide+kernel) (by decide+kernel) (by decide+kernel)
theorem d9{j:Int}(h:Q (.i<|i - j) H):lO K .Sub (.i i) (.i j) H Q:=⟨trivial,h⟩
theorem D_{y:Int}(q:Q (.b<|decide<|x<=y) H):bW K .LtE (.i x) (.i y) H Q:=⟨trivial,q⟩
theorem Qw{y:Int}(q:Q (.b<|decide<|y<=x) H):bW K .GtE (.i x) (.i y) H Q:=⟨trivial,q⟩
inductive Ea(C:D9)(U:ad)(H:Hp)(Q:VK)(E:XK):Prop|i(v:V)(t:Tr)(p:Int)(s dx l T Z:D9)(a:ac)(_:U=[v,.i p,.r s])(_:Nd H t v)(_:(∀q∈t.ai,bO (aj a) q))(_:b_ C H s dx l T Z a)(_:0<=p)(_:p<=t.sz)(_:Q (.i ((((cP (aj a) t.ai).take p.toNat).count 10:Nat):Int)) H)
abbrev afO(K:Frag)(C:D9)(E:XK):aV:=aA K [("size_of",kY),("ends_of",kZ)] [] [] [("ends_ahead",C,rH C)] (E:=E)
theorem aid:bw (Ea C) (λE=>afO K C E) KU KS:=by
 intro U H Q E h;obtain⟨v,t,d,s,dx,lt,T,Z,f,rfl,F,o,S,X,W,k⟩:=h;obtain⟨G,g⟩:∃G:Int,G=((((cP (aj f) t.ai).take d.toNat).count 10:Nat):Int):=qY _ O;rw[<-g] at k;refine aJ<|ah ?_;refine vP (λm J L=>∃(v:V)(t:Tr)(d e:Int)(A z y w:ld),J=[some v,some<|.i d,some<|.r s,some<|.i e,A,z,y,w]/\L=H/\Nd H t v/\(∀q∈t.ai,bO (aj f) q)/\0<=d/\d<=t.sz/\G=e+((((cP (aj f) t.ai).take d.toNat).count 10:Nat):Int)/\m=t.ai.length)
  (qY _ ⟨v,t,d,0,none,none,none,none,O,O,F,o,X,W,al,O⟩) ?_
 rintro m J L ⟨v,t,d,e,A,z,y,w,rfl,rfl,F,o,X,W,g,rfl⟩;refine bf<|ae O<|ah ?_;cases t with
 |nil=>
  cases F;refine tR O _ O (iF ?_ O);refine aS<|ae O ?_;have:G=e:=by rw[g];show e+(((([]:am).take d.toNat).count 10:Nat):Int)=e;simp
  rw[<-this];exact k
 |node l a b c r=>
  obtain⟨p,q,u,vr,zq⟩:=YU F;obtain⟨rfl,R,D,B,vX⟩:=V_ zq;have N:∀x∈l.ai,bO (aj f) x:=λx P=>o x (by simp[Tr.ai,P]);have vZ:∀x∈r.ai,bO (aj f) x:=λx P=>o x (by simp[Tr.ai,P]);have j:=o (a,b,c) (by simp[Tr.ai]);have q0:0<=a:=j.p0;have q1:1<=b:=j.p1;have q2:a+b<= (aj f).length:=j.a;have q3:c=((lG (aj f) (a,b,c)).count 10:Nat):=j.p3;have ql:((lG (aj f) (a,b,c)).length:Int)=b:=j.len;have zl:=Qu N;have el:=Qt N;have zs:(Tr.node l a b c r).sz=l.sz+b+r.sz:=O;rw[zs] at W;rw[Qs] at g;refine tR O _ O (iT ?_ O);refine⟨λL' I=>∃m',m'< (Tr.node l a b c r).ai.length/\∃(v:V)(t:Tr)(d e:Int)(A z y w:ld),L'=[some v,some<|.i d,some<|.r s,some<|.i e,A,z,y,w]/\I=L/\Nd L t v/\(∀q∈t.ai,bO (aj f) q)/\0<=d/\d<=t.sz/\G=e+((((cP (aj f) t.ai).take d.toNat).count 10:Nat):Int)/\m'=t.ai.length,λL' I h=>h,?_⟩;refine aJ<|aD<|ae O<|ah<|az R O ?_;refine aJ<|aC kY O<|af<|aD<|ae O<|ah<|az R O<|ao ⟨u,l,O,B,?_⟩;refine aJ<|aI<|ae O<|aD<|ae O<|ah<|az D O<|bU ?_;refine bh<|bf<|ae O<|ae O<|D_ ⟨_,O,?_⟩;by_cases Y:d<=l.sz;refine iT ?_ (ZA Y);refine aJ<|aD<|ae O<|ah<|az R O ?_;refine⟨_,(by rw[Tr.ai,Zw,Xm];exact WU (YJ _ _)),u,l,d,e,_,_,_,_,O,O,B,N,X,Y,?_,O⟩;rw[g,TL al];refine iF ?_ (XZ Y);refine bh<|bf<|ae O<|ae O<|Um ⟨_,O,?_⟩;by_cases g2:d<l.sz+b;refine iT ?_ (ZA g2);refine aJ<|aI<|fZ C (rH C) O<|ae O ⟨s,dx,_,O,S.ob,PZ,aI<|aI<|aD<|ae O<|ah<|az D O<|ae O<|bU<|ae O<|d9 ?_⟩;refine⟨s,dx,lt,T,Z,f,_,O,S,al,?_⟩;refine fZ C (rH C) O<|ae O ⟨s,dx,_,O,S.ob,PZ,aD<|ae O<|ah<|az D O ⟨s,dx,lt,T,Z,f,_,O,S,q0,d9 ?_⟩⟩;refine aS<|aI<|aI<|ae O<|aC kZ O<|af<|aD<|ae O<|ah<|az R O<|ao ⟨u,l,O,B,bU<|ae O<|bU ?_⟩;have cc:=Qa (S:=aj f) (a:=a) (n:=d - l.sz) q0 al c;have e1:a+d - l.sz=a+(d - l.sz):=by lia
  have M:e+l.en+(ends f (a+d - l.sz) - ends f a)=G:=by
   rw[e1,g];have e2:ends f (a+(d - l.sz)) - ends f a=((lG (aj f) (a,d - l.sz,c)).count 10:Nat):=cc;rw[e2,el];have e3:(cP (aj f) l.ai++(lG (aj f) (a,b,c)++cP (aj f) r.ai)).take d.toNat=cP (aj f) l.ai++(lG (aj f) (a,b,c)).take (d - l.sz).toNat:=by
    rw[show d.toNat=(cP (aj f) l.ai).length+(d - l.sz).toNat by lia,ZI,TL al]
   rw[e3,Wu];have e4:(lG (aj f) (a,b,c)).take (d - l.sz).toNat=lG (aj f) (a,d - l.sz,c):=by
    delta lG;show(((aj f).drop a.toNat).take b.toNat).take (d - l.sz).toNat=((aj f).drop a.toNat).take (d - l.sz).toNat;rw[ZM];congr 1;lia
   rw[e4];lia
  rw[M];exact k;refine iF ?_ (XZ g2);refine aJ<|aI<|aI<|ae O<|aC kZ O<|af<|aD<|ae O<|ah<|az R O<|ao ⟨u,l,O,B,bU<|aD<|ae O<|ah<|az D O<|bU ?_⟩;refine aJ<|aI<|ae O<|ae O<|d9 ?_;refine aJ<|aD<|ae O<|ah<|az R O ?_;refine⟨_,(by rw[Tr.ai,Zw,Xm];exact WU (VJ _ _)),vr,r,d - (l.sz+b),e+l.en+c,_,_,_,_,O,O,vX,vZ,al,al,?_,O⟩;rw[g,show d.toNat=(cP (aj f) l.ai).length+((lG (aj f) (a,b,c)).length+(d - (l.sz+b)).toNat) by lia,ZI,ZI,Wu,Wu,el];lia
inductive Eb(C:D9)(U:ad)(H:Hp)(Q:VK)(E:XK):Prop|i(p dx l T Z:D9)(t:ac)(n:Int)(j:Nat)(_:U=[.r p,.i n])(_:b_ C H p dx l T Z t)(_:0<=n)(_:(pos 10 (aj t) 0)[n.toNat]?=some j)(_:Q (.i j) H)
theorem aie(a:qG K C):bw (Eb C) (λE=>aP K E) K0 KZ:=by
 intro U H Q E h;obtain⟨p,dx,l,T,Z,t,n,j,rfl,S,d,b,q⟩:=h;refine aS<|aD<|fk<|ae O ⟨p,C,dx,_,_,O,S.ob,a.c,a.yp,DN,ae O<|fo S.f ?_ q⟩;have e:=gu (xs:=(hJ 10<|aj t).map V.i) (j:=n.toNat) (v:=.i j) (by rw[Y5,hJ,Y5,b];rfl);rw[show((n.toNat:Nat):Int)=n by lia] at e;exact e
theorem aif{l r:Tr}{b:Int}:pos 10 (cP S (Tr.node l a b c r).ai) 0=pos 10 (cP S l.ai) 0++((pos 10 (lG S (a,b,c)) 0).map ((cP S l.ai).length+ ·)++(pos 10 (cP S r.ai) 0).map ((cP S l.ai).length+(lG S (a,b,c)).length+ ·)):=by
 rw[Qs,rq,rq];have d:=zc 10 (lG S (a,b,c)) (cP S l.ai).length 0;have e:=zc 10 (cP S r.ai) ((cP S l.ai).length+(lG S (a,b,c)).length) 0;rw[WI] at d e;rw[VI,d,e]
inductive ua(C:D9)(U:ad)(H:Hp)(Q:VK)(E:XK):Prop|i(v:V)(t:Tr)(n:Int)(s dx l T Z:D9)(a:ac)(j:Nat)(_:U=[v,.i n,.r s])(_:Nd H t v)(_:(∀q∈t.ai,bO (aj a) q))(_:b_ C H s dx l T Z a)(_:0<=n)(_:(pos 10 (cP (aj a) t.ai) 0)[n.toNat]?=some j)(_:Q (.i j) H)
def wc(H:Hp)(s:D9)(S:am)(G:Int)(m:Nat)(J:St)(L:Hp):Prop:=
 ∃(v:V)(t:Tr)(n e:Int)(j:Nat)(a u:ld),J=[some v,some<|.i n,some<|.r s,some<|.i e,a,u]/\L=H/\Nd H t v/\(∀q∈t.ai,bO S q)/\0<=n/\(pos 10 (cP S t.ai) 0)[n.toNat]?=some j/\G=e+j/\m=t.ai.length
abbrev atS(C:D9):wT:=[("end_place",C,Eb C),("ends_ahead",C,rH C)]
abbrev lP(K:Frag)(C:D9)(E:XK):aV:=aA K [("ends_of",kZ),("size_of",kY)] [] [] (atS C) (E:=E)
theorem OF:bw (ua C) (λE=>lP K C E) KY KW:=by
 intro U H Q E h;obtain⟨v,t,n,s,dx,lt,T,Z,d,j,rfl,W,z,S,X,hj,k⟩:=h;refine aJ<|ah ?_;refine vP (wc H s (aj d) (j:Int)) ⟨_,v,t,n,0,j,none,none,O,O,W,z,X,hj,al,O⟩ ?_;rintro m J L zq;obtain⟨v,t,n,e,j',u4,u5,zq⟩:=qx7 zq;obtain⟨rfl,rfl,W,z,X,f,et,rfl⟩:=V5 zq;cases t with
 |nil=>exact absurd f (by show ¬([]:am)[n.toNat]?=some j';simp)
 |node l a b c r=>
  obtain⟨p,q,F,vr,zq⟩:=YU W;obtain⟨rfl,R,B,M,vX⟩:=V_ zq;have P:∀x∈l.ai,bO (aj d) x:=λx V=>z x (by simp[Tr.ai,V]);have vZ:∀x∈r.ai,bO (aj d) x:=λx V=>z x (by simp[Tr.ai,V]);have y:=z (a,b,c) (by simp[Tr.ai]);have q0:0<=a:=y.p0;have q1:1<=b:=y.p1;have q2:a+b<= (aj d).length:=y.a;have q3:c=((lG (aj d) (a,b,c)).count 10:Nat):=y.p3;have ql:((lG (aj d) (a,b,c)).length:Int)=b:=y.len;have zl:=Qu P;have el:=Qt P;rw[aif] at f;have L1:=lY 10 (cP (aj d) l.ai) 0;have L2:((pos 10 (lG (aj d) (a,b,c)) 0).map ((cP (aj d) l.ai).length+ ·)).length=(lG (aj d) (a,b,c)).count 10:=by rw[VH,lY]
  have w:∀{J:St}{A:VK},J[0]?=some (some<|.r p)->A (.i l.en) L->ag (lP K C E) (.l 0 [(.i (.v 0)<|.c<|.i 0)]) J L A:=λY q=>aC kZ O (af<|aD<|ae Y<|ah<|az R O<|ao ⟨F,l,O,M,q⟩);have rZ:∀{J:St}{A:VK},J[0]?=some (some<|.r p)->A (.i l.sz) L->ag (lP K C E) (.l 1 [(.i (.v 0)<|.c<|.i 0)]) J L A:=λY q=>aC kY O (af<|aD<|ae Y<|ah<|az R O<|ao ⟨F,l,O,M,q⟩);refine j9<|bf<|ae O<|w O<|Um ⟨_,O,?_⟩;have o:∀u,u< (Tr.node l a b c r).ai.length->∀L' I,wc L s (aj d) (j:Int) u L' I->∃u,u< (Tr.node l a b c r).ai.length/\wc L s (aj d) (j:Int) u L' I:=λu h L' I x=>⟨u,h,x⟩;have a':(Tr.node l a b c r).ai.length=l.ai.length+(r.ai.length+1):=by rw[Tr.ai,Zw,Xm]
  by_cases D:n<l.en;refine iT (iT ?_ O) (ZA D);refine⟨wc L s (aj d) (j:Int) l.ai.length,o _ al,?_⟩;refine bh<|bf<|ae O<|w O<|Um ⟨_,O,iT ?_<|ZA D⟩;refine aJ<|aD<|ae O<|ah<|az R O ?_;refine⟨F,l,n,e,j',u4,u5,O,O,M,P,X,?_,et,O⟩;rw[WV al] at f;exact f;refine iF ?_ (XZ D);rw[hY al,L1] at f;refine bf<|ae O<|aI<|w O<|aD<|aD<|ae O<|ah<|az R O<|ah<|az B O<|bU<|Qw ⟨_,O,?_⟩;by_cases g2:l.en+c<=n;refine iT ?_ (ZA g2);refine⟨wc L s (aj d) (j:Int) r.ai.length,o _ al,?_⟩;refine bh<|bf<|ae O<|w O<|Um ⟨_,O,iF ?_<|XZ D⟩;refine aJ<|aI<|aI<|ae O<|w O<|d9<|aD<|aD<|ae O<|ah<|az R O<|ah<|az B O<|d9 ?_;refine aJ<|aI<|aI<|ae O<|rZ O<|bU<|aD<|aD<|ae O<|ah<|az R O<|ah<|az B O<|bU ?_;refine aJ<|aD<|ae O<|ah<|az R O ?_;rw[hY al,L2,Y5] at f;obtain⟨j2,DT,e2⟩:=Yb.mp f;refine⟨vr,r,n - l.en - c,e+l.sz+b,j2,u4,u5,O,O,vX,vZ,al,?_,al,O⟩;rw[show(n - l.en - c).toNat=n.toNat - (cP (aj d) l.ai).count 10 - (lG (aj d) (a,b,c)).count 10 by lia];exact DT;refine iF ?_ (XZ g2);rw[WV al,Y5] at f;obtain⟨g,hg,e2⟩:=Yb.mp f;refine aJ<|aD<|aD<|ae O<|ah<|az R O<|ah<|az B O ?_;have ea:ends d a=(((aj d).take a.toNat).count 10:Nat):=O;refine aJ<|fZ C (Eb C) O<|ae O ⟨s,dx,_,O,S.ob,aic,aI<|aI<|fZ C (rH C) O<|ae O ⟨s,dx,_,O,S.ob,PZ,ae O ⟨s,dx,lt,T,Z,d,a,O,S,q0,ae O<|bU<|w O<|d9 ?_⟩⟩⟩;have es:aj d=(aj d).take a.toNat++(lG (aj d) (a,b,c)++((aj d).drop a.toNat).drop b.toNat):=by
   show aj d=(aj d).take a.toNat++(((aj d).drop a.toNat).take b.toNat++((aj d).drop a.toNat).drop b.toNat);rw[Yq,Yq]
  have G:((aj d).take a.toNat).length=a.toNat:=by rw[WE];lia
  have N:(pos 10 (aj d) 0)[(ends d a+n - l.en).toNat]?=some (a.toNat+g):=by
   have e3:pos 10 (aj d) 0=pos 10 ((aj d).take a.toNat) 0++((pos 10 (lG (aj d) (a,b,c)) 0).map (a.toNat+ ·)++pos 10 (((aj d).drop a.toNat).drop b.toNat) (a.toNat+(lG (aj d) (a,b,c)).length)):=by
    have p1:=zc 10 (lG (aj d) (a,b,c)) a.toNat 0;rw[WI] at p1;rw[<-p1]
    conv=>lhs;rw[es,rq,rq,G,VI]
   rw[e3,hY (by rw[lY];lia),lY,WV (by rw[VH,lY];lia),Y5];rw[show(ends d a+n - l.en).toNat - ((aj d).take a.toNat).count 10=n.toNat - (cP (aj d) l.ai).count 10 by lia,hg];rfl
  refine⟨s,dx,lt,T,Z,d,_,a.toNat+g,O,S,al,N,?_⟩;refine aS<|aI<|aI<|aI<|ae O<|rZ O<|bU<|ae O<|bU<|ae O<|d9 ?_;rw[show e+l.sz+((a.toNat+g:Nat):Int) - a=(j:Int) by lia];exact k
theorem nq{t b:RE}(h:bj B t J H λc d=>if c=true then ag B a J d Q else ag B b J d Q):ag B (.e t a b) J H Q:=h
def cR(l:am)(i:Nat):Nat:=if i=0 then 0 else ((pos 10 l 0)[i - 1]?).getD 0+1
def nv(l:am)(i:Nat):Int:=(if i=l.count 10 then (l.length:Int) else ((((pos 10 l 0)[i]?).getD 0:Nat):Int)) - cR l i
theorem rM(h:i<l.count 10):(pos 10 l 0)[i]?=some (((pos 10 l 0)[i]?).getD 0):=by
 have:i< (pos 10 l 0).length:=by rw[lY];exact h
 simp[this]
section
variable{K:Frag}{W C:D9}
inductive pF(W C:D9)(U:ad)(H:Hp)(Q:VK)(E:XK):Prop|i(p d s dx l T Z:D9)(v:V)(t:Tr)(a:ac)(i:Nat)(_:U=[.r p,.i i])(_:cW W H p d s v t (aj a))(_:b_ C H s dx l T Z a)(_:i<= (cP (aj a) t.ai).count 10)(_:Q (.i<|cR (cP (aj a) t.ai) i) H)
abbrev ajV(K:Frag)(C:D9)(E:XK):aV:=aA K [("place_of_end",ua C)] [] (E:=E)
theorem aii(a:jo K W):bw (pF W C) (λE=>ajV K C E) K3 K2:=by
 intro U H Q E h;obtain⟨p,d,s,dx,e,T,Z,v,t,b,i,rfl,P,S,g,q⟩:=h;delta cR at q;refine aS<|nq<|bf<|ae O<|ah<|gO ⟨_,O,?_⟩;by_cases z:i=0;rw[GT z] at q;exact iT (ah q)<|ZA al;rw[GM z] at q;refine iF ?_<|XZ al;refine aI<|aC (ua C) O<|af<|fk<|ae O ⟨p,W,d,_,_,O,P.ob,a.c,a.m,ph,af<|aI<|ae O<|ah<|d9<|af<|fk<|ae O ⟨p,W,d,_,_,O,P.ob,a.c,a.j,k8,ao ?_⟩⟩;have f:=rM (l:=cP (aj b) t.ai) (i:=i - 1) al;refine⟨v,t,(i:Int) - 1,s,dx,e,T,Z,b,_,O,P.nd,P.c,S,al,by rw[show((i:Int) - 1).toNat=i - 1 by lia];exact f,ah<|bU ?_⟩;exact q
inductive k_(W C:D9)(U:ad)(H:Hp)(Q:VK)(E:XK):Prop|i(p d s dx l T Z:D9)(v:V)(t:Tr)(a:ac)(i:Nat)(_:U=[.r p,.i i])(_:cW W H p d s v t (aj a))(_:b_ C H s dx l T Z a)(_:i<= (cP (aj a) t.ai).count 10)(_:Q (.i<|nv (cP (aj a) t.ai) i) H)
abbrev lR(K:Frag)(C:D9)(W:D9)(o:D9)(E:XK):aV:=aA K [("is_between",fD),("place_of_end",ua C)] [] [] [("lines",W,k9 W),("size",W,cC W),("line_begin",W,pF W C)] (et:=[("NoPlace",o)]) (E:=E)
theorem aij(g:jo K W):bw (k_ W C) (λE=>lR K C W o E) K5 K4:=by
 intro U H Q E h;obtain⟨p,d,s,dx,k,T,Z,v,t,f,i,rfl,P,S,A,q⟩:=h;have n:(eU s v).lookup ("lines":Str)=none:=d0 (by decide+kernel) (by decide+kernel);have x:(eU s v).lookup ("size":Str)=none:=d0 (by decide+kernel) (by decide+kernel);have w:(eU s v).lookup ("line_begin":Str)=none:=d0 (by decide+kernel) (by decide+kernel);refine bh<|eR<|gb fD O<|af<|ae O<|af<|ah<|af<|aI<|g_ W (k9 W) O<|ae O ⟨p,d,_,O,P.ob,n,p,d,s,v,t,_,O,P,ah<|d9<|ao ⟨_,_,_,O,.inl ⟨_,O,(YK _),al,eT<|iF (bL ?_) O⟩⟩⟩;refine aJ<|fj<|ae O<|aI<|g_ W (k9 W) O<|ae O ⟨p,d,_,O,P.ob,n,p,d,s,v,t,_,O,P,ah<|d9<|gO ?_⟩;have R:∀(e:Int)(u:ld),e - cR (cP (aj f) t.ai) i=nv (cP (aj f) t.ai) i->aw (lR K C W o E) [.r<|.b .Sub (.v 3)<|.a 2 "line_begin" (.v 0) [.v 1]] (Dn Q) [some<|.r p,some<|.i i,u,some<|.i e] H:=by
  intro e u B;refine aS<|aI<|ae O<|fZ W (pF W C) O<|ae O ⟨p,d,_,O,P.ob,w,ae O ⟨p,d,s,dx,k,T,Z,v,t,f,i,O,P,S,A,d9 ?_⟩⟩;rw[B];exact q
 refine aJ<|nq ?_;refine⟨_,O,?_⟩;by_cases z:i=(cP (aj f) t.ai).count 10;refine iT ?_ (ZA al);refine g_ W (cC W) O<|ae O ⟨p,d,_,O,P.ob,x,p,d,s,v,t,_,O,P,R _ _ ?_⟩;delta nv;rw[GT z];refine iF ?_ (XZ al);refine aC (ua C) O<|af<|fk<|ae O ⟨p,W,d,_,_,O,P.ob,g.c,g.m,ph,af<|ae O<|af<|fk<|ae O ⟨p,W,d,_,_,O,P.ob,g.c,g.j,k8,ao ?_⟩⟩;have y:=rM (l:=cP (aj f) t.ai) (i:=i) (TZ A z);refine⟨v,t,(i:Int),s,dx,k,T,Z,f,_,O,P.nd,P.c,S,(YK _),y,R _ _ ?_⟩;delta nv;rw[GM z]
def df(l:am)(p:Nat):Nat:=(l.take p).count 10
theorem rN(l:am)(p:Nat):df l p<=l.count 10:=by
 delta df;have:l.count 10=(l.take p).count 10+(l.drop p).count 10:=by rw[<-Wu,Yq]
 lia
inductive pG(W C:D9)(U:ad)(H:Hp)(Q:VK)(E:XK):Prop|i(p d s dx b T Z:D9)(v:V)(t:Tr)(a:ac)(l:Nat)(_:U=[.r p,.i l])(_:cW W H p d s v t (aj a))(_:b_ C H s dx b T Z a)(_:l<= (cP (aj a) t.ai).length)(_:∀w I,aq H I->H w=none->I w=some (.t [.i (df (cP (aj a) t.ai) l:Nat),.i<|(l:Int) - cR (cP (aj a) t.ai) (df (cP (aj a) t.ai) l)])->Q (.r w) I)
abbrev aoI(K:Frag)(C:D9)(W:D9)(i:D9)(E:XK):aV:=aA K [("is_between",fD),("ends_ahead_of",Ea C)] [] [] [("size",W,cC W),("line_begin",W,pF W C)] (et:=[("NoPlace",i)]) (E:=E)
theorem aik(b:jo K W):bw (pG W C) (λE=>aoI K C W i E) K7 K6:=by
 intro U H Q E h;obtain⟨p,d,s,dx,e,T,Z,v,t,a,l,rfl,P,S,k,q⟩:=h;have g:(eU s v).lookup ("size":Str)=none:=d0 (by decide+kernel) (by decide+kernel);have n:(eU s v).lookup ("line_begin":Str)=none:=d0 (by decide+kernel) (by decide+kernel);have z:=P.sz;refine bh<|eR<|gb fD O<|af<|ae O<|af<|ah<|af<|g_ W (cC W) O<|ae O ⟨p,d,_,O,P.ob,g,p,d,s,v,t,_,O,P,ao ⟨_,_,_,O,.inl ⟨_,O,(YK _),al,eT<|iF (bL ?_) O⟩⟩⟩;refine aJ<|aC (Ea C) O<|af<|fk<|ae O ⟨p,W,d,_,_,O,P.ob,b.c,b.m,ph,af<|ae O<|af<|fk<|ae O ⟨p,W,d,_,_,O,P.ob,b.c,b.j,k8,ao ?_⟩⟩;refine⟨v,t,l,s,dx,e,T,Z,a,O,P.nd,P.c,S,(YK _),al,?_⟩;have ll:=rN (cP (aj a) t.ai) l;refine aS<|eO<|af<|ae O<|af<|aI<|ae O<|fZ W (pF W C) O<|ae O ⟨p,d,_,O,P.ob,n,ae O ⟨p,d,s,dx,e,T,Z,v,t,a,df (cP (aj a) t.ai) l,O,P,S,ll,d9<|ao ⟨c_,λw f=>?_⟩⟩⟩;exact q w _ (Xo f) f au
inductive rO(W C:D9)(U:ad)(H:Hp)(Q:VK)(E:XK):Prop|i(p d s dx l T Z:D9)(v:V)(t:Tr)(a:ac)(i:Nat)(c:Int)(_:U=[.r p,.i i,.i c])(_:cW W H p d s v t (aj a))(_:b_ C H s dx l T Z a)(_:i<= (cP (aj a) t.ai).count 10)(_:0<=c)(_:c<=nv (cP (aj a) t.ai) i)(_:Q (.i<|cR (cP (aj a) t.ai) i+c) H)
abbrev ahX(K:Frag)(W:D9)(C:D9)(f:D9)(E:XK):aV:=aA K [("is_between",fD)] [] [] [("line_size",W,k_ W C),("line_begin",W,pF W C)] (et:=[("NoPlace",f)]) (E:=E)
theorem ail:bw (rO W C) (λE=>ahX K W C f E) K9 K8:=by
 intro U H Q E h;obtain⟨p,d,s,dx,l,T,Z,v,t,a,i,c,rfl,P,S,b,j,g,q⟩:=h;have e:(eU s v).lookup ("line_size":Str)=none:=d0 (by decide+kernel) (by decide+kernel);have n:(eU s v).lookup ("line_begin":Str)=none:=d0 (by decide+kernel) (by decide+kernel);refine bh<|eR<|gb fD O<|af<|ae O<|af<|ah<|af<|fZ W (k_ W C) O<|ae O ⟨p,d,_,O,P.ob,e,ae O ⟨p,d,s,dx,l,T,Z,v,t,a,i,O,P,S,b,ao ⟨_,_,_,O,.inl ⟨_,O,j,g,eT<|iF (bL ?_) O⟩⟩⟩⟩;exact aS<|aI<|fZ W (pF W C) O<|ae O ⟨p,d,_,O,P.ob,n,ae O ⟨p,d,s,dx,l,T,Z,v,t,a,i,O,P,S,b,ae O<|bU q⟩⟩
end
def Zd(l:am)(i:Nat):Nat:=if i=l.count 10 then l.length else ((pos 10 l 0)[i]?).getD 0
theorem Qx(l:am)(i:Nat):nv l i=(Zd l i:Int) - cR l i:=by
 delta nv Zd;split<;>rfl
theorem Ed{i:Nat}(h:(pos 10 l 0)[i]?=some j):j<l.length:=by
 have:=(m_ 10 l 0 j<|zG h).2;lia
theorem aim(h:(pos 10 l 0)[i]?=some j)(c:(pos 10 l 0)[i+1]?=some k):j<k:=by
 obtain⟨a,rfl⟩:=ZX.mp h;obtain⟨b,rfl⟩:=ZX.mp c;exact Xp.mp (O5 10 l 0) i (i+1) a b (VY _)
theorem wd(h:i<=l.count 10):cR l i<=Zd l i/\Zd l i<=l.length:=by
 delta cR Zd;by_cases z:i=0;rw[GT z];by_cases g:i=l.count 10;rw[GT g];lia;rw[GM g];have:=Ed (rM (l:=l) (i:=i) (TZ h g));lia;rw[GM z];have a:=rM (l:=l) (i:=i - 1) al;have c:=Ed a;by_cases g:i=l.count 10;rw[GT g];lia;rw[GM g];have p:=rM (l:=l) (i:=i) (TZ h g);have b:=Ed p;have:=aim a (by rw[show i - 1+1=i by lia];exact p);lia
theorem EI(h:i<l.count 10):cR l (i+1)=Zd l i+1:=by
 delta cR Zd;rw[GM (mK (Zg _)),GM (V9 h)];rfl
theorem aio(l:am):Zd l (l.count 10)=l.length:=by delta Zd;rw[GT O]
theorem aip(h:i<=l.count 10)(f:cR l i<=m)(d:m<=Zd l i):df l m=i:=by
 have o:=wd h;have b:m<=l.length:=by lia
 have t:(l.take m).length=m:=by rw[WE];lia
 have s:pos 10 l 0=pos 10 (l.take m) 0++pos 10 (l.drop m) m:=by
  conv=>lhs;rw[<-Yq m l,rq,t,VI]
 have L:(pos 10 (l.take m) 0).length=df l m:=lY 10 _ 0;have c:=rN l m;by_cases g:df l m<i;exfalso;obtain⟨j,a⟩:∃j,(pos 10 l 0)[i - 1]?=some j:=⟨_,rM al⟩;have e:cR l i=j+1:=by delta cR;rw[GM al,a];rfl
 rw[s,hY al] at a;have:=(m_ 10 _ m _<|zG a).1;lia;by_cases k:i<df l m;exfalso;have n:¬i=l.count 10:=V9 (Z1 k c)
 obtain⟨j,a⟩:∃j,(pos 10 l 0)[i]?=some j:=⟨_,rM (Z1 k c)⟩;have e:Zd l i=j:=by delta Zd;rw[GM n,a];rfl
 rw[s,WV al] at a;have:=(m_ 10 _ 0 _<|zG a).2;rw[t] at this;lia;lia
section
open PyProof.Rows
theorem Qy{r:bv}(h:ag B e J H λx a=>kA B.K i.length (jR i) x J a (aw B r D)):aw B (.sR i e::r) D J H:=h
theorem Qz{K:Frag}{t:D9}{Q:Ch}(h:H t=some (.t [v,w]))(q:Q ((J.set i<|some v).set j<|some w) H):kA K [i,j].length (jR [i,j]) (.r t) J H Q:=
 ⟨t,_,O,.inl<|aM.of h,O,_,_,O,_,_,O,O,q⟩
end
structure kd(W C:D9)(H:Hp)(p dp s dx lt T Z:D9)(v:V)(t:Tr)(ts:ac)(x:Str):Prop where
 P:cW W H p dp s v t (aj ts)
 st:b_ C H s dx lt T Z ts
 l1:t.ai.length<=4000
 l2:ts.length<=10000
 l3:(aj ts).length<=1000000
 b:cP (aj ts) t.ai=x.cps.toList
 go:good x
theorem kd.same{l:D9}{t:Tr}(B:kd W C H p d s dx l T Z v t a x)(h:aq H I):kd W C I p d s dx l T Z v t a x:=⟨B.P.same h,B.st.same h,B.l1,B.l2,B.l3,B.b,B.go⟩
section
variable{K:Frag}{W C:D9}{H I:Hp}{p dp s dx lt T Z:D9}{v:V}{t:Tr}{a:ac}{x:Str}
theorem kd.l4(B:kd W C H p dp s dx lt T Z v t a x):(cP (aj a) t.ai).length<=1000000:=by rw[B.b,<-Wj];exact B.go.1
end
inductive Wd where|l|r|u|d|P|en|t|we|b|on
 deriving DecidableEq
noncomputable def Wd.str:Wd->Str
 |.l=> "left" |.r=> "right" |.u=> "up" |.d=> "down" |.P=> "home" |.en=> "end" |.t=> "top" |.we=> "bottom" |.b=> "back" |.on=> "on"
theorem y4(w v:Wd):(w.str==v.str)=decide (w=v):=by cases w<;>cases v<;>decide+kernel
section
variable{K:Frag}{H:Hp}{Q:VK}{B:aV}{J:St}{D:Xt}
theorem cw(v:Wd)(h:v.str=z)(q:Q (.b<|decide<|w=v) H):bW K .Eq (.s w.str) (.s z) H Q:=by
 subst h;refine m7 ?_;rw[y4];exact q
theorem ub{i:Nat}(v:Wd)(b:v.str=z){r:bv}(a:J[i]?=some (some<|.s w.str))(e:w=v->aw B A {D with nx:=aw B r D} J H)(d:w≠v->aw B r D J H):aw B (.i (.p .Eq (.v i)<|.c<|.s z) A []::r) D J H:=by
 refine bh<|bf<|ae a<|ah<|cw v b ⟨_,O,?_⟩;by_cases h:w=v;exact iT (e h) (ZA h);exact iF (bL<|d h) (XZ h)
theorem wg{b:RE}{r:sB}(h:ag B a J H λx e=>∃c,x=.b c/\if c=true then ag B (.d (b::r)) J e Q else Q (.b false) e):ag B (.d (a::b::r)) J H Q:=h
theorem zB(h:ag B a J H Q):ag B (.d [a]) J H Q:=h
theorem wj{b:RE}(h:ag B a J H λx d=>∃c,x=.b c/\if c=true then Q (.b true) d else ag B b J d Q):ag B (.o [a,b]) J H Q:=h
theorem air{b:RE}(h:ag B a J H λx g=>ag B b J g λy L=>bW B.K o x y L λz e=>∃k,z=.b k/\(if k=true then ag B d J e λw f=>bW B.K c y w f Q else Q (.b false) e)):ag B (.P o c a b d) J H Q:=h
theorem Hh{b:RE}{Q:tz}(h:ag B (.P o c a b d) J H λz e=>∃k,z=.b k/\Q k e):bj B (.P o c a b d) J H Q:=h
theorem ait{Q:tz}(h:aO B as J H λU a=>yt B.K U a λx L=>kx B.K x L λb=>Q b L):bj B (.x Cv as) J H Q:=h
theorem aiu{Q:tz}(h:aO B as J H λU a=>yu B.K U a λx L=>kx B.K x L λb=>Q b L):bj B (.x Cw as) J H Q:=h
end
def gV:lv->V
 |none=>.a
 |some n=>.i n
def i7(H:Hp)(t:D9)(a h:Nat)(g:lv):Prop:=H t=some (.t [.i a,.i h,gV g])
theorem QC(g:lv):decide (gV g=.a)=g.isNone:=by cases g<;>simp[gV]
section
variable{K:Frag}
inductive i8(U:ad)(H:Hp)(Q:VK)(E:XK):Prop|i(t:D9)(a h:Nat)(g:lv)(_:U=[.r t])(_:i7 H t a h g)(_:Q (.i (min a h:Nat)) H)
theorem aiv:bw (i8) (λE=>aP K E) La oG:=by
 intro U H Q E h;obtain⟨t,a,h,g,rfl,b,q⟩:=h;refine aS<|i6<|af<|aD<|ae O<|ah<|az b O<|af<|aD<|ae O<|ah<|az b O<|ao ?_;show Q (.i (if (h:Int) < (a:Int) then (h:Int) else (a:Int))) H;rw[show(if (h:Int) < (a:Int) then (h:Int) else (a:Int))=((min a h:Nat):Int) by split<;>lia];exact q
inductive lj(U:ad)(H:Hp)(Q:VK)(E:XK):Prop|i(t:D9)(a h:Nat)(g:lv)(_:U=[.r t])(_:i7 H t a h g)(_:Q (.i (max a h:Nat)) H)
theorem aiw:bw (lj) (λE=>aP K E) Lb oG:=by
 intro U H Q E h;obtain⟨t,a,h,g,rfl,b,q⟩:=h;refine aS<|i6<|af<|aD<|ae O<|ah<|az b O<|af<|aD<|ae O<|ah<|az b O<|ao ?_;show Q (.i (if (h:Int) >(a:Int) then (h:Int) else (a:Int))) H;rw[show(if (h:Int) >(a:Int) then (h:Int) else (a:Int))=((max a h:Nat):Int) by split<;>lia];exact q
inductive rQ(U:ad)(H:Hp)(Q:VK)(E:XK):Prop|i(t:D9)(a h:Nat)(g:lv)(_:U=[.r t])(_:i7 H t a h g)(_:Q (.b<|decide<|a=h) H)
theorem aix:bw (rQ) (λE=>aP K E) Lc oG:=by
 intro U H Q E h;obtain⟨t,a,h,g,rfl,b,q⟩:=h;refine aS<|fj<|aD<|ae O<|ah<|az b O<|aD<|ae O<|ah<|az b O<|gO ?_;rw[show decide ((a:Int)=(h:Int))=decide (a=h) by rw[jQ];simp only[IO];lia];exact q
inductive Ee(U:ad)(H:Hp)(Q:VK)(E:XK):Prop|i(g:lv)(_:U=[gV g])(_:Q (.b true) H)
theorem aiy:bw (Ee) (λE=>fQ K E) Ld iE:=by
 intro U H Q E h;obtain⟨g,rfl,q⟩:=h;refine aS<|wj<|fj<|ae O<|ah ⟨O,_,O,?_⟩;rw[QC];cases g with
 |none=>exact iT q O
 |some n=>
  refine iF ?_ O;refine wg<|aC tL O<|af<|ae O<|ao ⟨_,O,.inl ⟨_,O,_,O,iT ?_ O⟩⟩;refine zB<|fj<|ae O<|ah<|Qw ?_;rw[ZA (show(0:Int)<= (n:Nat) by lia)];exact q
inductive Ef(U:ad)(H:Hp)(Q:VK)(E:XK):Prop|i(t:D9)(a h:Nat)(g:lv)(n:Nat)(_:U=[.r t,.i n])(_:i7 H t a h g)(_:a<=n)(_:h<=n)(_:Q (.b true) H)
abbrev atL(K:Frag)(E:XK):aV:=aA K [("is_between",fD),("is_goal",Ee)] [] (E:=E)
theorem aiz:bw (Ef) (λE=>atL K E) Lf Le:=by
 intro U H Q E h;obtain⟨t,a,h,g,n,rfl,b,d,c,q⟩:=h;refine bh<|j9<|eR<|DQ<|ae O<|CV b<|iF ?_ O;refine bf<|gf<|ae O<|.inr ⟨_,aM.of b,ah<|vT ⟨_,O,iF (bL ?_) ap⟩⟩;refine aS<|wg<|aC fD O<|af<|aD<|ae O<|ah<|az b O<|af<|ah<|af<|ae O<|ao ⟨_,_,_,O,.inl ⟨_,O,(YK _),al,_,O,iT ?_ O⟩⟩;refine wg<|aC fD O<|af<|aD<|ae O<|ah<|az b O<|af<|ah<|af<|ae O<|ao ⟨_,_,_,O,.inl ⟨_,O,(YK _),al,_,O,iT ?_ O⟩⟩;exact zB<|aC Ee O<|af<|aD<|ae O<|ah<|az b O<|ao ⟨g,O,q⟩
inductive Eg(U:ad)(H:Hp)(Q:VK)(E:XK):Prop|i(b:Fk)(_:U=[.b b])(_:Q (.b true) H)
theorem aiA:bw (Eg) (λE=>aP K E) K_ iE:=by
 intro U H Q E h;obtain⟨b,rfl,q⟩:=h;refine aS<|wj<|fj<|ae O<|ah ?_;show ∃c,V.b (decide<|V.b b=V.b true)=.b c/\_;refine⟨_,O,?_⟩;cases b with
 |true=>exact iT q ap
 |false=>
  refine iF (fj<|ae O<|ah ?_) ap;show Q (.b<|decide<|V.b false=V.b false) H;rw[ZA O];exact q
noncomputable def QD:ad:=[.s "left",.s "right",.s "home",.s "end",.s "top",.s "bottom",.s "back",.s "on",.s "up",.s "down"]
theorem aiB(w:Wd):e7 (.s w.str) QD=true:=by cases w<;>decide+kernel
inductive Eh(U:ad)(H:Hp)(Q:VK)(E:XK):Prop|i(w:Wd)(b:Fk)(_:U=[.s w.str,.b b])(_:Q .a H)
abbrev aoK(K:Frag)(p:D9)(C:D9)(E:XK):aV:=aA K [("is_word",tN K),("is_truth",Eg)] [("STEP_WORDS",.r p)] (et:=[("BadDeed",C)]) (E:=E)
theorem aiC{C:D9}(a:∀H:Hp,aM K H p QD):bw (Eh) (λE=>aoK K p C E) Ll Lk:=by
 intro U H Q E h;obtain⟨w,b,rfl,q⟩:=h;refine bh<|eR<|gb (tN K) O<|af<|ae O<|af<|m5<|ao ⟨_,p,_,O,a H,O,.inl ⟨_,O,eT<|iF (bL ?_) ?_⟩⟩;exact bh (eR<|gb Eg O<|af<|ae O<|ao ⟨b,O,eT<|iF q O⟩);rw[aiB];rfl
end
noncomputable def eV(p:Nat->Fk)(m:am):Nat:=(m.takeWhile p).length
theorem uc(p:Nat->Fk):∀m:am,eV p m<=m.length:=by
 intro l;induction l with
 |nil=>
  exact mZ _
 |cons c m i=>
  have:=i;unfold eV at this⊢;rw[g4];split;simp;exact this;simp
theorem zC(p:Nat->Fk):∀a b:am,(eV p a<a.length->eV p (a++b)=eV p a)/\(eV p a=a.length->eV p (a++b)=a.length+eV p b):=by
 intro l;induction l with
 |nil=>
  rintro b;exact⟨λh=>absurd h<|yx _,λY=>by simp⟩
 |cons c a i=>
  rintro b;obtain⟨e,d⟩:=i b;delta eV at e d⊢;rw[YZ,g4,g4];cases f:p c with
  |false=>simp
  |true=>
   simp only[No,Xm];exact⟨λh=>by rw[e (VD h)],λh=>by rw[d al];lia⟩
def ro(p:Nat->Fk)(l:am)(n:Nat):Nat:=n+eV p (l.drop n)
def lo(p:Nat->Fk)(l:am)(n:Nat):Nat:=n - eV p (l.take n).reverse
theorem UP(h:n<=l.length):n<=ro p l n/\ro p l n<=l.length:=by
 have:=uc p (l.drop n);rw[Xh] at this;delta ro;lia
theorem Y_:lo p l n<=n:=by delta lo;exact Z7 _ _
theorem Yi(l:am)(h:a<=b):l.drop a=(l.take b).drop a++l.drop b:=by
 have e:l=l.take b++l.drop b:=(Yq _ _).symm;by_cases c:b<=l.length
 conv=>lhs;rw[e]
 rw[TJ (by rw[WE];lia)];rw[Vo (Yl (VT c)),Tj (i:=b) (Yl (VT c)),YS]
theorem zD(l:am)(h:a<=b):l.take b=l.take a++(l.take b).drop a:=by
 have:=(Yq a<|l.take b).symm
 rwa [ZM,VO h] at this
theorem aiD(h:a<=b)(c:b<=l.length)(r:eV p ((l.take b).drop a) <b - a):ro p l a=a+eV p ((l.take b).drop a):=by
 delta ro;rw[Yi l h,(zC p _ _).1 (by rw[Xh,WE];lia)]
theorem N0(h:a<=b)(d:b<=l.length)(r:¬eV p ((l.take b).drop a) <b - a):ro p l a=ro p l b:=by
 have c:((l.take b).drop a).length=b - a:=by rw[Xh,WE];lia
 have:=uc p ((l.take b).drop a);delta ro;rw[Yi l h,(zC p _ _).2 al,c];lia
theorem aiF(h:a<=b)(d:b<=l.length)(r:eV p ((l.take b).drop a).reverse<b - a):lo p l b=b - eV p ((l.take b).drop a).reverse:=by
 have c:((l.take b).drop a).reverse.length=b - a:=by rw[Uo,Xh,WE];lia
 have e:(l.take b).reverse=((l.take b).drop a).reverse++(l.take a).reverse:=by rw[<-List.reverse_append,<-zD l h]
 delta lo;rw[e,(zC p _ _).1 al]
theorem IZ(h:a<=b)(d:b<=l.length)(r:¬eV p ((l.take b).drop a).reverse<b - a):lo p l b=lo p l a:=by
 have c:((l.take b).drop a).reverse.length=b - a:=by rw[Uo,Xh,WE];lia
 have e:(l.take b).reverse=((l.take b).drop a).reverse++(l.take a).reverse:=by rw[<-List.reverse_append,<-zD l h]
 have:=uc p ((l.take b).drop a).reverse;delta lo;rw[e,(zC p _ _).2 al,c];lia
theorem UU(d:a<=b)(h:b<=x.length):(Builtin.Str.strSub x a b).length=b - a:=by
 have c:b<=x.cps.size:=h;show(x.cps.extract a b).size=_;rw[Array.size_extract];lia
theorem aiH(z y:Str):(Txt.rstripChars z y).length=z.length - eV y.cps.contains z.cps.toList.reverse:=by
 delta Txt.rstripChars;rw[PyProof.Rows.stripBy_eq];have a:stripLo y.cps.contains false z=0:=O;have e:stripHi y.cps.contains true z 0=z.length - eV y.cps.contains z.cps.toList.reverse:=O;rw[a,e,UU (Wy _)<|Nat.sub_le _ _];rfl
theorem aiI(z y:Str):(Txt.lstripChars z y).length=z.length - eV y.cps.contains z.cps.toList:=by
 delta Txt.lstripChars;rw[PyProof.Rows.stripBy_eq];have a:stripLo y.cps.contains true z=eV y.cps.contains z.cps.toList:=O;have e:∀n,stripHi y.cps.contains false z n=z.length:=λn=>O;have:=uc y.cps.contains z.cps.toList;have ll:=Wj z;rw[a,e,UU al<|mZ _]
theorem QE(z:Str):(z !=("":Str))=decide (0<z.length):=by
 rw[jQ];simp only[bne_iff_ne,ne_eq,IO];constructor;intro h;exact S8 λe=>h (iY (by rw[Wj] at e;rw[Ww e];decide+kernel));intro h e;rw[e] at h;exact absurd h (by decide+kernel)
theorem rR(c:a<=b)(h:b<=l.length):(cQ l a b).length=b - a:=by
 show(((l.take b).drop a).toArray).size=_;simp;lia
section
variable{K:Frag}{W C:D9}{H:Hp}{Q:VK}{B:aV}{J:St}
theorem aiJ(h:ag B o J H λx b=>sy B.K "str" x b/\ag B a J b λy L=>yv x [y] L Q):ag B (.xm Cy o [a]) J H Q:=h
inductive me(W C:D9)(f:(Nat->Fk)->am->Nat->Nat)(U:ad)(H:Hp)(Q:VK)(E:XK):Prop|i(p d s dx l T Z:D9)(v:V)(t:Tr)(a:ac)(x y:Str)(n:Nat)(_:U=[.r p,.i n,.s y])(_:kd W C H p d s dx l T Z v t a x)(_:n<=x.length)(_:x.length<=100000)(_:∀I,aq H I->Q (.i (f y.cps.contains x.cps.toList n:Nat)) I)
abbrev mO(K:Frag)(W:D9)(C:D9)(E:XK):aV:=aA K [] [("FIRST_STRIDE",.i 64)] [] [("part",W,kc W C)] (E:=E)
theorem GC:bw (me W C lo) (λE=>mO K W C E) Ln Lm:=by
 intro U H Q E h;obtain⟨p,F,s,dx,Y,T,Z,v,t,R,x,y,n,rfl,B,hn,hx,q⟩:=h;have lx:=Wj x;refine aJ<|m5 ?_;refine vP (λk J L=>Wl λ(m:Nat)(c:Nat)(e u:ld)=>FA (J=[some<|.r p,some<|.i m,some<|.s y,some<|.i c,e,u]) (aq H L) (m<=x.length) (1<=c) (m=k) (lo y.cps.contains x.cps.toList m=lo y.cps.contains x.cps.toList n)) ⟨n,n,64,none,none,O,aq.refl _,hn,ax,O,O⟩ ?_;rintro k J L ⟨m,c,e,u,rfl,f,hm,so,rfl,o⟩;refine bf<|ae O<|ah<|Qq ⟨_,O,?_⟩;by_cases g:(0:Int) < (m:Nat);refine iT ⟨λG I=>∃(d j:Nat)(e u:ld),G=[some<|.r p,some<|.i d,some<|.s y,some<|.i j,e,u]/\aq H I/\d<m/\1<=j/\lo y.cps.contains x.cps.toList d=lo y.cps.contains x.cps.toList n,?_,?_⟩ (ZA g);rintro G I zq;obtain⟨d,j,N,M,zq⟩:=YU zq;obtain⟨rfl,S,h1,h2,h3⟩:=V_ zq;exact qF d h1 ⟨d,j,N,M,O,S,(Yl (Z1 h1 hm)),h2,O,h3⟩;refine aJ (i6<|af<|ah<|af<|aI<|ae O<|ae O<|d9<|ao ?_);have eb:(if ((m:Nat):Int) - (c:Nat) >0 then ((m:Nat):Int) - (c:Nat) else 0)=((m - c:Nat):Int):=by split<;>lia
 show aw _ _ _ [some<|.r p,some<|.i m,some<|.s y,some<|.i c,some<|.i (if ((m:Nat):Int) - (c:Nat) >0 then ((m:Nat):Int) - (c:Nat) else 0),u] L;rw[eb];have z:=B.same f;refine aJ<|aiJ<|tZ W (kc W C) O<|ae O ⟨p,F,_,O,z.P.ob,d0 (by decide+kernel) (by decide+kernel),ae O<|ae O ⟨p,F,s,dx,Y,T,Z,v,t,R,m - c,m,O,z.P,z.st,B.l1,B.l2,B.l3,B.l4,(Z7 _ _),by rw[B.b];exact Ut hm (WK lx),λH3 A=>?_⟩⟩;rw[B.b];have lc:(cQ x.cps.toList (m - c) m).length=m - (m - c):=rR (Z7 _ _) (Ut hm (WK lx));refine⟨O,ae O (q8 _ y O O (bQ al) ?_)⟩;have X:=aiH (cQ x.cps.toList (m - c) m) y;have Ei:(cQ x.cps.toList (m - c) m).cps.toList=(x.cps.toList.take m).drop (m - c):=by simp[cQ]
 rw[Ei,lc] at X;have Ej:=uc y.cps.contains ((x.cps.toList.take m).drop<|m - c).reverse;rw[Uo,Xh,WE] at Ej;refine bh<|bf<|ae O<|ah<|kT ⟨_,O,?_⟩;rw[QE];by_cases D:0< (Txt.rstripChars (cQ x.cps.toList (m - c) m) y).length;refine iT ?_ (ZA D);refine aS<|aI<|ae O<|gf<|ae O ⟨bQ al,bU ?_⟩;have w:=aiF (p:=y.cps.contains) (l:=x.cps.toList) (a:=m - c) (b:=m) (Z7 _ _) (Ut hm (WK lx)) al;rw[show((m - c:Nat):Int)+((Txt.rstripChars (cQ x.cps.toList (m - c) m) y).length:Nat)=((lo y.cps.contains x.cps.toList n:Nat):Int) by rw[<-o,w];lia];exact q _<|f.trans A;refine iF (bL ?_) (XZ D);refine aJ<|ae O<|aJ<|aI<|ah<|ae O ⟨.inl ⟨ax,ax⟩,?_⟩;have w:=IZ (p:=y.cps.contains) (l:=x.cps.toList) (a:=m - c) (b:=m) (Z7 _ _) (Ut hm (WK lx)) al;refine qZ (m - c) (2*c) (some<|.i ((m - c:Nat):Int)) (some<|.s<|Txt.rstripChars (cQ x.cps.toList (m - c) m) y) ?_ (f.trans A) al al (by rw[<-w];exact o);show[some<|V.r p,some<|V.i ((m - c:Nat):Int),some<|V.s y,some<|V.i<|2* ((c:Nat):Int),_,_]=_;rw[show 2* ((c:Nat):Int)=((2*c:Nat):Int) by lia];refine iF ?_ (XZ g);have e0:m=0:=by lia
 subst e0;refine aS<|ae O ?_;have:lo y.cps.contains x.cps.toList 0=0:=by delta lo;lia
 rw[<-o,this] at q;exact q _ f
abbrev mP(K:Frag)(W:D9)(C:D9)(E:XK):aV:=aA K [] [("FIRST_STRIDE",.i 64)] [] [("size",W,cC W),("part",W,kc W C)] (E:=E)
theorem aiL:bw (me W C ro) (λE=>mP K W C E) Lr Lq:=by
 intro U H Q E h;obtain⟨p,dp,s,dx,lt,T,Z,v,t,ts,x,y,n,rfl,B1,hn,hx,q⟩:=h;have lx:=Wj x;refine aJ<|m5 ?_;have wk:∀{J:St}{L:Hp}{Q1:VK},aq H L->J[0]?=some (some<|.r p)->Q1 (.i (x.length:Nat)) L->ag (mP K W C E) (.a 0 "size" (.v 0) []) J L Q1:=by
  intro J L Q1 s2 e q1;have B2:=B1.same s2;refine g_ W (cC W) rfl<|ae e ⟨p,dp,_,rfl,B2.P.ob,d0 (by decide+kernel) (by decide+kernel),p,dp,s,v,t,_,rfl,B2.P,?_⟩
  rw[B1.b,<-lx];exact q1
 refine vP (λk J L=>Wl λ(m:Nat) (st:Nat) (u4 u5:ld)=>FA (J=[some<|.r p,some<|.i m,some<|.s y,some<|.i st,u4,u5]) (aq H L) (m<=x.length) (1<=st) (k=x.length - m) (ro y.cps.contains x.cps.toList m=ro y.cps.contains x.cps.toList n)) ⟨_,n,64,none,none,rfl,aq.refl _,hn,by decide,rfl,rfl⟩ ?_
 rintro k J L ⟨m,st,u4,u5,rfl,s2,hm,so,rfl,nZ⟩;refine bf<|ae rfl<|wk s2 rfl<|Um ⟨_,rfl,?_⟩;by_cases g:((m:Nat):Int) < (x.length:Nat)
 ·refine iT ⟨λL' I=>∃(m' dr:Nat) (u4 u5:ld),L'=[some<|.r p,some<|.i m',some<|.s y,some<|.i dr,u4,u5]/\aq H I/\m<m'/\m'<=x.length/\1<=dr/\ro y.cps.contains x.cps.toList m'=ro y.cps.contains x.cps.toList n,?_,?_⟩ (ZA g)
  ·rintro L' I ⟨m',dr,w4,w5,rfl,s',h1,nh,h2,h3⟩;exact qF (x.length - m') al ⟨m',dr,w4,w5,rfl,s',nh,h2,rfl,h3⟩
  ·refine aJ (i6<|af<|wk s2 rfl<|af<|aI<|ae rfl<|ae rfl<|bU<|ao ?_);have eb:(if ((m:Nat):Int)+(st:Nat) < (x.length:Nat) then ((m:Nat):Int)+(st:Nat) else (x.length:Nat))=((min x.length (m+st):Nat):Int):=by split<;>lia
   show aw _ _ _ [some<|.r p,some<|.i m,some<|.s y,some<|.i st,some<|.i (if ((m:Nat):Int)+(st:Nat) < (x.length:Nat) then ((m:Nat):Int)+(st:Nat) else (x.length:Nat)),u5] L
   rw[eb];obtain⟨b,eb2⟩:∃b,b=min x.length (m+st):=qY _ rfl;rw[<-eb2];have B2:=B1.same s2;refine aJ<|gC<|tZ W (kc W C) rfl<|ae rfl ⟨p,dp,_,rfl,B2.P.ob,d0 (by decide+kernel) (by decide+kernel),ae rfl<|ae rfl ⟨p,dp,s,dx,lt,T,Z,v,t,ts,m,b,rfl,B2.P,B2.st,B1.l1,B1.l2,B1.l3,B1.l4,al,by rw[B1.b];lia,λH3 s3=>?_⟩⟩
   rw[B1.b];have lc:(cQ x.cps.toList m b).length=b - m:=rR al al
   refine⟨rfl,ae rfl ⟨bQ al,?_⟩⟩
   have rl:=aiI (cQ x.cps.toList m b) y;have Ei:(cQ x.cps.toList m b).cps.toList=(x.cps.toList.take b).drop m:=by simp[cQ]
   rw[Ei,lc] at rl;have Ej:=uc y.cps.contains ((x.cps.toList.take b).drop m);rw[Xh,WE] at Ej;refine bh<|bf<|ae rfl<|ah<|kT ⟨_,rfl,?_⟩;rw[QE];by_cases g2:0< (Txt.lstripChars (cQ x.cps.toList m b) y).length
   ·refine iT ?_ (ZA g2);refine aS<|aI<|ae rfl<|gf<|ae rfl ⟨bQ al,d9 ?_⟩
    have hl:=aiD (p:=y.cps.contains) (l:=x.cps.toList) (a:=m) (b:=b) al al al
    rw[show((b:Nat):Int) - ((Txt.lstripChars (cQ x.cps.toList m b) y).length:Nat)=((ro y.cps.contains x.cps.toList n:Nat):Int) by rw[<-nZ,hl];lia]
    exact q _<|s2.trans s3
   ·refine iF (bL ?_) (XZ g2);refine aJ<|ae rfl<|aJ<|aI<|ah<|ae rfl ⟨.inl ⟨by decide,by decide⟩,?_⟩
    have hl:=N0 (p:=y.cps.contains) (l:=x.cps.toList) (a:=m) (b:=b) al al al
    refine tU b (2*st) (some<|.i ((b:Nat):Int)) (some<|.s<|Txt.lstripChars (cQ x.cps.toList m b) y) ?_ (s2.trans s3) al al al (by rw[<-hl];exact nZ)
    show[some<|V.r p,some<|V.i ((b:Nat):Int),some<|V.s y,some<|V.i<|2* ((st:Nat):Int),_,_]=_;rw[show 2* ((st:Nat):Int)=((2*st:Nat):Int) by lia]
 ·refine iF ?_ (XZ g);have e0:m=x.length:=by lia
  refine aS<|ae rfl ?_;have:ro y.cps.contains x.cps.toList m=m:=by
   have:=UP (p:=y.cps.contains) (l:=x.cps.toList) (n:=m) (Ut hm (WK lx))
   lia
  rw[<-nZ,this] at q;exact q _ s2
end
def WS:Str:="0123456789ABCDEFGHIJKLMNOPQRSTUVWXYZabcdefghijklmnopqrstuvwxyz"
def OS:Str:=" !\"#$&'()*+,-./:;<=>?\x40[\\]^_`{|}~\n"
def wm(l:am)(n:Nat):Wd->Nat
 |.l=>n - 1
 |.r=>min l.length (n+1)
 |.t=>0
 |.we=>l.length
 |.b=>lo WS.cps.contains l (lo OS.cps.contains l n)
 |.on=>ro WS.cps.contains l (ro OS.cps.contains l n)
 |.P=>cR l (df l n)
 |.en=>Zd l (df l n)
 |_=>0
def col(l:am)(n:Nat):Nat:=n - cR l (df l n)
def inl(l:am)(i g:Nat):Nat:=cR l i+min g (Zd l i - cR l i)
def wo(l:am)(i g:Nat)(w:Wd):Nat:=if w=.u then (if i=0 then 0 else inl l (i - 1) g) else (if i=l.count 10 then l.length else inl l (i+1) g)
def Vq(l:am)(a h:Nat)(g:lv)(w:Wd)(b:Fk):Nat:=
 if w=.u\/w=.d then wo l (df l h) (g.getD<|col l h) w else if (w=.l\/w=.r)/\b=false/\a≠h then (if w=.l then min a h else max a h) else wm l h w
def ue(l:am)(h:Nat)(g:lv)(w:Wd):lv:=if w=.u\/w=.d then some (g.getD<|col l h) else none
theorem QF{l:am}{n:Nat}:∀i,i<=l.count 10->n<=Zd l i->∃j,j<=i/\cR l j<=n/\n<=Zd l j
 | 0,_,h=>⟨0,mZ _,by delta cR;simp,h⟩
 |i+1,d,h=>by
  by_cases c:cR l (i+1)<=n;exact⟨i+1,mZ _,c,h⟩;rw[EI (TK d)] at c;obtain⟨j,e,b,a⟩:=QF (l:=l) (n:=n) i (VM d) (UD (VT c));exact⟨j,(ZU e),b,a⟩
theorem QG(h:n<=l.length):cR l (df l n)<=n/\n<=Zd l (df l n):=by
 obtain⟨j,c,b,a⟩:=QF (l:=l) (n:=n) (l.count 10) (mZ _) (by rw[aio];exact h);rw[aip c b a];exact⟨b,a⟩
theorem QH(h:i<=l.count 10):inl l i g<=l.length:=by
 have:=wd h;delta inl;lia
section
variable{K:Frag}{W C:D9}
theorem zE{i:Nat}{b:Fk}{Q:tz}(h:J[i]?=some (some<|.b b))(q:Q b H):bj B (.v i) J H Q:=⟨_,h,q⟩
inductive zF(W C:D9)(U:ad)(H:Hp)(Q:VK)(E:XK):Prop|i(p d s dx l T Z:D9)(v:V)(t:Tr)(a:ac)(x:Str)(n:Nat)(w:Wd)(_:U=[.r p,.i n,.s w.str])(_:kd W C H p d s dx l T Z v t a x)(_:n<=x.length)(_:(w=.P\/w=.en))(_:∀I,aq H I->Q (.i (wm x.cps.toList n w:Nat)) I)
abbrev arA(K:Frag)(W:D9)(C:D9)(E:XK):aV:=aA K [] [] [] [("line_at",W,pG W C),("line_size",W,k_ W C)] (E:=E)
theorem aiN:bw (zF W C) (λE=>arA K W C E) Lv Lu:=by
 intro U H Q E h;obtain⟨p,d,s,dx,j,T,Z,v,t,g,x,n,w,rfl,B,A,k,q⟩:=h;have y:=Wj x;have F:=QG (l:=x.cps.toList) (n:=n) (Ut A (WK y));have o:=wd (rN x.cps.toList n);have z:=Qx x.cps.toList (df x.cps.toList n);refine aJ<|fZ W (pG W C) O<|ae O ⟨p,d,_,O,B.P.ob,d0 (by decide+kernel) (by decide+kernel),ae O ⟨p,d,s,dx,j,T,Z,v,t,g,n,O,B.P,B.st,by rw[B.b];exact Ut A (WK y),λu m a D c=>?_⟩⟩;rw[B.b] at c;refine aJ<|aI<|ae O<|aD<|ae O<|ah<|az c O<|d9 ?_;have e:((n:Nat):Int) - (((n:Nat):Int) - (cR x.cps.toList (df x.cps.toList n):Nat))=(cR x.cps.toList (df x.cps.toList n):Nat):=by lia
 show aw _ _ _ [some<|.r p,some<|.i n,some<|.s w.str,some<|.r u,some<|.i<|((n:Nat):Int) - (((n:Nat):Int) - (cR x.cps.toList (df x.cps.toList n):Nat))] m;rw[e];refine aS<|nq<|bf<|ae O<|ah<|cw .P O ⟨_,O,?_⟩;rcases k with rfl|rfl
 exact iT (ae O<|q _ a) O;refine iF ?_ O;have f:=B.same a;refine aI<|ae O<|fZ W (k_ W C) O<|ae O ⟨p,d,_,O,f.P.ob,d0 (by decide+kernel) (by decide+kernel),aD<|ae O<|ah<|az c O ⟨p,d,s,dx,j,T,Z,v,t,g,_,O,f.P,f.st,by rw[B.b];exact rN _ _,?_⟩⟩;rw[B.b,z];refine bU ?_;rw[show((cR x.cps.toList (df x.cps.toList n):Nat):Int)+((Zd x.cps.toList (df x.cps.toList n):Nat) - (cR x.cps.toList (df x.cps.toList n):Nat))=(Zd x.cps.toList (df x.cps.toList n):Nat) by lia];exact q _ a
inductive Ek(W C:D9)(U:ad)(H:Hp)(Q:VK)(E:XK):Prop|i(p b s dx l T Z:D9)(v:V)(t:Tr)(a:ac)(x:Str)(n:Nat)(w:Wd)(_:U=[.r p,.i n,.s w.str])(_:kd W C H p b s dx l T Z v t a x)(_:n<=x.length)(_:x.length<=100000)(_:w≠ .u)(_:w≠ .d)(_:∀I,aq H I->Q (.i (wm x.cps.toList n w:Nat)) I)
abbrev mT(K:Frag)(W:D9)(C:D9)(E:XK):aV:=aA K [("left_over",me W C lo),("right_over",me W C ro),("place_in_line",zF W C)] [("OTHER_SIGNS",.s OS),("WORD_SIGNS",.s WS)] [] [("size",W,cC W)] (E:=E)
theorem aiO:bw (Ek W C) (λE=>mT K W C E) Lx Lw:=by
 intro U H Q E h;obtain⟨p,d,s,dx,g,T,Z,v,t,c,x,n,w,rfl,B,o,k,F,G,q⟩:=h;have z:=Wj x;have j:=q H (aq.refl _);have y:∀{J:St}{u:VK},J[0]?=some (some<|.r p)->u (.i (x.length:Nat)) H->ag (mT K W C E) (.a 0 "size" (.v 0) []) J H u:=by
  intro J u e A;refine g_ W (cC W) O<|ae e ⟨p,d,_,O,B.P.ob,d0 (by decide+kernel) (by decide+kernel),p,d,s,v,t,_,O,B.P,?_⟩;rw[B.b,<-z];exact A
 refine ub .l O O (λe=>?_) λV=>?_;subst e;refine aS<|i6<|af<|ah<|af<|aI<|ae O<|ah<|d9<|ao ?_;show Q (.i (if ((n:Nat):Int) - 1>0 then ((n:Nat):Int) - 1 else 0)) H;rw[show(if ((n:Nat):Int) - 1>0 then ((n:Nat):Int) - 1 else 0)=((n - 1:Nat):Int) by split<;>lia];exact j;refine ub .r O O (λe=>?_) λS=>?_;subst e;refine aS<|i6<|af<|y O<|af<|aI<|ae O<|ah<|bU<|ao ?_;show Q (.i (if ((n:Nat):Int)+1< (x.length:Nat) then ((n:Nat):Int)+1 else (x.length:Nat))) H;rw[show(if ((n:Nat):Int)+1< (x.length:Nat) then ((n:Nat):Int)+1 else ((x.length:Nat):Int))=((min x.cps.toList.length (n+1):Nat):Int) by split<;>lia];exact j;refine ub .t O O (λe=>?_) λR=>?_;subst e;exact aS (ah j);refine ub .we O O (λe=>?_) λN=>?_;subst e;refine aS<|y O ?_;rw[z];exact j;refine ub .b O O (λe=>?_) λM=>?_;subst e;refine aS<|aC (me W C lo) O<|af<|ae O<|af<|aC (me W C lo) O<|af<|ae O<|af<|ae O<|af<|m5<|ao ⟨p,d,s,dx,g,T,Z,v,t,c,x,OS,n,O,B,o,k,λD f=>?_⟩;have:=Y_ (p:=OS.cps.contains) (l:=x.cps.toList) (n:=n);exact af<|m5<|ao ⟨p,d,s,dx,g,T,Z,v,t,c,x,WS,_,O,B.same f,(Ut this o),k,λL m=>q _<|f.trans m⟩;refine ub .on O O (λe=>?_) λI=>?_;subst e;refine aS<|aC (me W C ro) O<|af<|ae O<|af<|aC (me W C ro) O<|af<|ae O<|af<|ae O<|af<|m5<|ao ⟨p,d,s,dx,g,T,Z,v,t,c,x,OS,n,O,B,o,k,λD f=>?_⟩;have:=UP (p:=OS.cps.contains) (l:=x.cps.toList) (n:=n) (Ut o (WK z));exact af<|m5<|ao ⟨p,d,s,dx,g,T,Z,v,t,c,x,WS,_,O,B.same f,al,k,λL m=>q _<|f.trans m⟩;refine aS<|aC (zF W C) O<|af<|ae O<|af<|ae O<|af<|ae O<|ao ⟨p,d,s,dx,g,T,Z,v,t,c,x,n,w,O,B,o,?_,q⟩;cases w<;>first|exact .inl O|exact .inr O|contradiction
inductive El(W C:D9)(U:ad)(H:Hp)(Q:VK)(E:XK):Prop|i(p b s dx l T Z:D9)(v:V)(t:Tr)(a:ac)(x:Str)(i g:Nat)(w:Wd)(_:U=[.r p,.i i,.i g,.s w.str])(_:kd W C H p b s dx l T Z v t a x)(_:i<=x.cps.toList.count 10)(_:(w=.u\/w=.d))(_:Q (.i (wo x.cps.toList i g w:Nat)) H)
abbrev mV(K:Frag)(W:D9)(C:D9)(E:XK):aV:=aA K [] [] [] [("lines",W,k9 W),("size",W,cC W),("place_at",W,rO W C),("line_size",W,k_ W C)] (E:=E)
theorem yH:bw (El W C) (λE=>mV K W C E) qH Lz:=by
 intro U H Q E h;obtain⟨p,dp,s,dx,lt,T,Z,v,t,ts,x,i,g,w,rfl,B1,hi,hw,q⟩:=h;have lx:=Wj x;have last:∀j:Nat,j<=x.cps.toList.count 10->Q (.i (inl x.cps.toList j g:Nat)) H->aw (mV K W C E) (qH.drop 3) (Dn Q) [some<|.r p,some<|.i i,some<|.i g,some<|.s w.str,some<|.i (j:Nat)] H:=by
  intro j hj qj;have ok:=wd hj;have zi:=Qx x.cps.toList j;refine aS<|tZ W (rO W C) rfl<|ae rfl ⟨p,dp,_,rfl,B1.P.ob,d0 (by decide+kernel) (by decide+kernel),ae rfl<|i6<|af<|ae rfl<|af<|fZ W (k_ W C) rfl<|ae rfl ⟨p,dp,_,rfl,B1.P.ob,d0 (by decide+kernel) (by decide+kernel),ae rfl ⟨p,dp,s,dx,lt,T,Z,v,t,ts,j,rfl,B1.P,B1.st,by rw[B1.b];exact hj,ao ?_⟩⟩⟩;rw[B1.b];have e:(if nv x.cps.toList j< ((g:Nat):Int) then nv x.cps.toList j else ((g:Nat):Int))=((min g (Zd x.cps.toList j - cR x.cps.toList j):Nat):Int):=by rw[zi];split<;>lia
  refine⟨p,dp,s,dx,lt,T,Z,v,t,ts,j,_,rfl,B1.P,B1.st,by rw[B1.b];exact hj,?_,?_,?_⟩;rw[e];exact YK _;rw[e,B1.b,zi];lia;rw[e,B1.b];exact qj
 have QI:∀j:Nat,aw (mV K W C E) (qH.drop 2) (Dn Q) [some<|.r p,some<|.i i,some<|.i g,some<|.s w.str,some<|.i (j:Nat)] H->aw (mV K W C E) (qH.drop 1) (Dn Q) [some<|.r p,some<|.i i,some<|.i g,some<|.s w.str,some<|.i (j:Nat)] H:=λj k=>
  bh (bf<|ae rfl<|ah<|Um ⟨_,rfl,iF (bL k)<|XZ (XI (YK _))⟩)
 have rl:∀{J:St}{Q1:VK},J[0]?=some (some<|.r p)->Q1 (.i (x.cps.toList.count 10+1:Nat)) H->ag (mV K W C E) (.a 0 "lines" (.v 0) []) J H Q1:=by
  intro J Q1 e q1;refine g_ W (k9 W) rfl<|ae e ⟨p,dp,_,rfl,B1.P.ob,d0 (by decide+kernel) (by decide+kernel),p,dp,s,v,t,_,rfl,B1.P,?_⟩;rw[B1.b];exact q1
 refine aJ<|nq<|bf<|ae rfl<|ah<|cw .u rfl ⟨_,rfl,?_⟩;rcases hw with rfl|rfl
 refine iT (aI<|ae rfl<|ah<|d9 ?_) rfl;have qu:Q (.i ((if i=0 then 0 else inl x.cps.toList (i - 1) g:Nat):Int)) H:=q;by_cases z:i=0;rw[GT z] at qu;refine bh<|bf<|ae rfl<|ah<|Um ⟨_,rfl,iT ?_<|ZA al⟩;exact aS<|ah qu;rw[GM z] at qu;show aw _ (qH.drop 1) _ [some<|.r p,some<|.i i,some<|.i g,some<|.s Wd.u.str,some<|.i<|((i:Nat):Int) - 1] H;rw[show((i:Nat):Int) - 1=((i - 1:Nat):Int) by lia];refine QI _<|bh<|bf<|ae rfl<|rl rfl<|gO ⟨_,rfl,iF (bL<|last _ (Ut (Z7 _ _) hi) qu)<|XZ al⟩;refine iF (aI<|ae rfl<|ah<|bU ?_) rfl;have qu:Q (.i ((if i=x.cps.toList.count 10 then x.cps.toList.length else inl x.cps.toList (i+1) g:Nat):Int)) H:=q;show aw _ (qH.drop 1) _ [some<|.r p,some<|.i i,some<|.i g,some<|.s Wd.d.str,some<|.i<|((i:Nat):Int)+1] H;rw[show((i:Nat):Int)+1=((i+1:Nat):Int) by lia];refine QI _<|bh<|bf<|ae rfl<|rl rfl<|gO ⟨_,rfl,?_⟩;by_cases z:i=x.cps.toList.count 10;rw[GT z] at qu;refine iT ?_<|ZA al;refine aS<|g_ W (cC W) rfl<|ae rfl ⟨p,dp,_,rfl,B1.P.ob,d0 (by decide+kernel) (by decide+kernel),p,dp,s,v,t,_,rfl,B1.P,?_⟩;rw[B1.b];exact qu;rw[GM z] at qu;exact iF (bL<|last _ (XC (TZ hi z)) qu)<|XZ al
inductive wq(U:ad)(H:Hp)(Q:VK)(E:XK):Prop|i(t:D9)(a h:Nat)(g:lv)(n:Nat)(d:lv)(b:Fk)(_:U=[.r t,.i n,gV d,.b b])(_:i7 H t a h g)(_:∀c I,aq H I->i7 I c (if b=true then a else n) n d->Q (.r c) I)
theorem aiQ:bw (wq) (λE=>aP K E) LC LB:=by
 intro U H Q E h;obtain⟨t,a,h,g,n,e,b,rfl,d,q⟩:=h;refine aS<|eO<|af<|nq<|zE O ?_;cases b with
 |true=>
  refine iT (aD<|ae O<|ah<|az d O<|af<|ae O<|af<|ae O<|ao ⟨eE,λc f=>?_⟩) O;exact q c _ (Xo f) au
 |false=>
  refine iF (ae O<|af<|ae O<|af<|ae O<|ao ⟨eE,λc f=>?_⟩) O;exact q c _ (Xo f) au
theorem QJ(w:Wd):e7 (.s w.str) [.s "up",.s "down"]=decide (w=.u\/w=.d):=by cases w<;>decide+kernel
theorem QK(w:Wd):e7 (.s w.str) [.s "left",.s "right"]=decide (w=.l\/w=.r):=by cases w<;>decide+kernel
inductive wt(W C:D9)(U:ad)(H:Hp)(Q:VK)(E:XK):Prop|i(p e s dx l T Z:D9)(v:V)(t:Tr)(d:ac)(x:Str)(u:D9)(a h:Nat)(g:lv)(w:Wd)(b:Fk)(_:U=[.r p,.r u,.s w.str,.b b])(_:kd W C H p e s dx l T Z v t d x)(_:i7 H u a h g)(_:a<=x.length)(_:h<=x.length)(_:x.length<=100000)(_:∀c I,aq H I->i7 I c (if b=true then a else Vq x.cps.toList a h g w b) (Vq x.cps.toList a h g w b) (ue x.cps.toList h g w)->Q (.r c) I)
abbrev ajI(W C:D9):io:=[("with_head",wq),("place_in_next_line",El W C),("is_empty",rQ),("begin_of",i8),("end_of",lj),("place_by_word",Ek W C)]
abbrev mW(K:Frag)(W:D9)(C:D9)(E:XK):aV:=aA K (ajI W C) [] [] [("line_at",W,pG W C)] (E:=E)
theorem aiR:bw (wt W C) (λE=>mW K W C E) yw LD:=by
 intro U H Q E h;obtain⟨p,M,s,dx,X,T,Z,v,t,S,x,k,a,h,g,w,b,rfl,B7,ha,h1,h2,hx,q⟩:=h;have lx:=Wj x;refine bh<|bf<|ae O<|eO<|af<|ah<|af<|ah<|ao ⟨c_,λt1 f1=>?_⟩;have F:=Xo (o:=.t [V.s "up",V.s "down"]) f1;refine tA t1 _ O (.inr<|aM.of au) O O ⟨_,O,?_⟩;have D:=B7.same F;have R:=F _ _ ha;generalize upd H t1 (.t [V.s "up",V.s "down"])=H1 at F D R⊢;by_cases j:w=.u\/w=.d;have J:Vq x.cps.toList a h g w b=wo x.cps.toList (df x.cps.toList h) (g.getD<|col x.cps.toList h) w:=by delta Vq;rw[GT j]
 have eg:ue x.cps.toList h g w=some (g.getD<|col x.cps.toList h):=by delta ue;rw[GT j]
 rw[J,eg] at q;refine iT ?_<|(QJ w).trans<|ZA j;refine aJ<|fZ W (pG W C) O<|ae O ⟨p,M,_,O,D.P.ob,d0 (by decide+kernel) (by decide+kernel),aD<|ae O<|ah<|az R O ⟨p,M,s,dx,X,T,Z,v,t,S,h,O,D.P,D.st,by rw[B7.b];exact Ut h2 (WK lx),λu L m fu hu=>?_⟩⟩;rw[B7.b] at hu;have bd:=QG (l:=x.cps.toList) (n:=h) (Ut h2 (WK lx));have N:=m _ _ R;have go:aw (mW K W C E) [.r<|.l 0 [.v 1,(.l 1 [.v 0,(.i (.v 4)<|.c<|.i 0),.v 5,.v 2]),.v 5,.v 3]] {(Dn Q) with nx:=aw (mW K W C E) (yw.drop 1) (Dn Q)} [some<|.r p,some<|.r k,some<|.s w.str,some<|.b b,some<|.r u,some<|.i (g.getD (col x.cps.toList h):Nat)] L:=by
  refine aS<|aC wq O<|af<|ae O<|af<|aC (El W C) O<|af<|ae O<|af<|aD<|ae O<|ah<|az hu O<|af<|ae O<|af<|ae O<|ao ⟨p,M,s,dx,X,T,Z,v,t,S,x,_,_,w,O,D.same m,rN _ _,j,?_⟩;exact af<|ae O<|af<|ae O<|ao ⟨k,a,h,g,_,some<|g.getD<|col x.cps.toList h,b,O,N,λy I A B=>q y I ((F.trans m).trans A) B⟩
 refine aJ<|nq<|bf<|aD<|ae O<|ah<|az N O<|ah ⟨O,_,O,?_⟩;rw[QC];cases g with
 |none=>
  refine iT (aD<|ae O<|ah<|az hu O ?_) O;have e:((h:Nat):Int) - (cR x.cps.toList (df x.cps.toList h):Nat)=(col x.cps.toList h:Nat):=by delta col;lia
  show aw _ _ _ [some<|.r p,some<|.r k,some<|.s w.str,some<|.b b,some<|.r u,some<|.i<|((h:Nat):Int) - (cR x.cps.toList (df x.cps.toList h):Nat)] L;rw[e];exact go
 |some n=>exact iF (aD<|ae O<|ah<|az N O go) O
 have eg:ue x.cps.toList h g w=none:=by delta ue;rw[GM j]
 rw[eg] at q;refine iF (bL ?_)<|(QJ w).trans<|XZ j;have nu:w≠ .u:=λe=>j (.inl e);have nd:w≠ .d:=λe=>j (.inr e);refine bh<|PC<|bf<|ae O<|eO<|af<|ah<|af<|ah<|ao ⟨c_,λt2 f2=>?_⟩;have m:=Xo (o:=.t [V.s "left",V.s "right"]) f2;refine tA t2 _ O (.inr<|aM.of au) O O ⟨_,O,?_⟩;have B2:=D.same m;have N:=m _ _ R;generalize upd H1 t2 (.t [V.s "left",V.s "right"])=L at m B2 N⊢;have Y:=F.trans m;have f:¬((w=.l\/w=.r)/\b=false/\a≠h)->aw (mW K W C E) (yw.drop 2) (Dn Q) [some<|.r p,some<|.r k,some<|.s w.str,some<|.b b,none,none] L:=by
  intro no;have J:Vq x.cps.toList a h g w b=wm x.cps.toList h w:=by delta Vq;rw[GM j,GM no]
  rw[J] at q;refine aS<|aC wq O<|af<|ae O<|af<|aC (Ek W C) O<|af<|ae O<|af<|aD<|ae O<|ah<|az N O<|af<|ae O<|ao ⟨p,M,s,dx,X,T,Z,v,t,S,x,h,w,O,B2,h2,hx,nu,nd,λH3 s3=>?_⟩;exact af<|ah<|af<|ae O<|ao ⟨k,a,h,g,_,none,b,O,s3 _ _ N,λy I A B=>q y I ((Y.trans s3).trans A) B⟩
 by_cases G:w=.l\/w=.r;refine iT ?_ ((QK w).trans<|ZA G);refine PC<|eR<|zE O ?_;cases b with
 |true=>exact iF (iF (bL (f λz=>by cases z.2.1)) O) O
 |false=>
  refine iT ?_ O;refine agR<|eR<|gb rQ O<|af<|ae O<|ao ⟨k,a,h,g,O,N,eT ?_⟩;by_cases e:a=h;rw[ZA e];exact iF (bL<|f λz=>z.2.2 e) O;rw[XZ e];refine iT ?_ O;have J:Vq x.cps.toList a h g w false=if w=.l then min a h else max a h:=by delta Vq;rw[GM j,GT ⟨G,O,e⟩]
  rw[J] at q;refine aS<|aC wq O<|af<|ae O<|af<|nq<|bf<|ae O<|ah<|cw .l O ⟨_,O,?_⟩;rcases G with rfl|rfl
  refine iT (aC i8 O<|af<|ae O<|ao ⟨k,a,h,g,O,N,?_⟩) O;exact af<|ah<|af<|ae O<|ao ⟨k,a,h,g,_,none,false,O,N,λy I A B=>q y I (Y.trans A) B⟩;refine iF (aC lj O<|af<|ae O<|ao ⟨k,a,h,g,O,N,?_⟩) O;exact af<|ah<|af<|ae O<|ao ⟨k,a,h,g,_,none,false,O,N,λy I A B=>q y I (Y.trans A) B⟩
 exact iF (iF (bL<|f λz=>G z.1) O) ((QK w).trans<|XZ G)
end
theorem QL{t:D9}{Q:Ch}(h:H t=some (.t [u,v,w]))(q:Q (((J.set i<|some u).set j<|some v).set k<|some w) H):kA K [i,j,k].length (jR [i,j,k]) (.r t) J H Q:=
 ⟨t,_,O,.inl<|aM.of h,O,_,_,O,_,_,O,_,_,O,O,q⟩
theorem QM(h:ag B a J H λx e=>ag B c J e λj d=>∃b:Int,j=.i b/\uX B.K x none (some b) d Q):ag B (.s a none<|some c) J H Q:=h
section
variable{K:Frag}
noncomputable def gD:lv->PyData
 |none=>.none
 |some n=>.int n
theorem aiS(H:Hp)(g:lv):Is H (gD g) (gV g):=by cases g<;>rfl
theorem aiT{t:D9}(b:i7 H t a h g):Is H (.tuple [.int a,.int h,gD g]) (.r t):=⟨t,_,O,b,.i a,[.i h,gV g],O,O,.i h,[gV g],O,O,gV g,[],O,aiS H g,O⟩
end
abbrev Cu:=Nat×Nat×lv
abbrev jU:=List (Cu×Str)
abbrev ii:=List Cu
def gP(H:Hp)(v:V)(c:Cu):Prop:= ∃t,v=.r t/\i7 H t c.1 c.2.1 c.2.2
theorem gP.same(h:gP H v c)(s:aq H I):gP I v c:=by
 obtain⟨t,e,h⟩:=h;exact⟨t,e,s _ _ h⟩
abbrev bq(H:Hp):ad->ii->Prop:=Paired (gP H)
theorem bq.same(h:bq H U c)(s:aq H I):bq I U c:=Paired.fJ h λY Y x=>x.same s
theorem mf:∀{U:ad}{s:ii}{i:Nat}{v:V},bq H U s->U[i]?=some v->∃c,s[i]?=some c/\gP H v c:=by
 intro Y ys i x h;induction h generalizing i with
 |nil=>exact λh=>by cases h
 |cons a Z b=>
  cases i with
  |zero=>exact λh=>by cases h;exact⟨_,O,a⟩
  |succ i=>exact λh=>b h
theorem Em:∀{U:ad}{s:ii}{i:Nat}{c:Cu},bq H U s->s[i]?=some c->∃v,U[i]?=some v/\gP H v c:=by
 intro Y ys i x h;induction h generalizing i with
 |nil=>exact λh=>by cases h
 |cons a Z b=>
  cases i with
  |zero=>exact λh=>by cases h;exact⟨_,O,a⟩
  |succ i=>exact λh=>b h
noncomputable def Ur(c:Cu)(k:Nat):T3:=((min c.1 c.2.1:Nat),(max c.1 c.2.1:Nat),(k:Nat))
def gh:Nat->ii->wn
 |_,[]=>[]
 |k,c::s=>Ur c k::gh (k+1) s
theorem rS:∀(k:Nat)(s:ii),(gh k s).length=s.length:=by
 intro k l;induction l generalizing k with
 |nil=>
  exact O
 |cons c s i=>
  simp[gh,i<|k+1]
theorem En:∀{k:Nat}{s:ii}{t:T3},t∈gh k s->∃i c,s[i]?=some c/\t=Ur c (k+i)
 |k,c::s,t,h=>by
  rcases UA.mp h with rfl|h
  exact rP 0 c O O;obtain⟨i,c',e,rfl⟩:=En h;exact rP (i+1) c' (by simpa using e) (by rw[show k+1+i=k+(i+1) by lia])
theorem UN:∀(k:Nat)(s:ii),(gh k s).Nodup:=by
 intro k l;induction l generalizing k with
 |nil=>
  exact List.nodup_nil
 |cons c s a=>
  refine YH.mpr ⟨λh=>?_,a<|k+1⟩;obtain⟨i,c',Y,e⟩:=En h;have:((k:Nat):Int)=((k+1+i:Nat):Int):=IR (λt:T3=>t.2.2) e;lia
theorem QN:∀(k:Nat)(s:ii)(c:Cu),gh k (s++[c])=gh k s++[Ur c<|k+s.length]:=by
 intro k l;induction l generalizing k with
 |nil=>
  rintro c;exact O
 |cons d s i=>
  rintro c;show Ur d k::gh (k+1) (s++[c])=_;rw[i (k+1) c];show _=Ur d k::(gh (k+1) s++[Ur c<|k+(s.length+1)]);rw[show k+1+s.length=k+(s.length+1) by lia]
def eJ(c:ii)(u:wn):Prop:=u.Perm (gh 0 c)/\u.Pairwise λa b=>dQ a b=true
theorem QO:∀{c s:wn},c.Perm s->(c.Pairwise λa b=>dQ a b=true)->(s.Pairwise λa b=>dQ a b=true)->c=s
 |[],s,h,_,_=>(List.nil_perm.mp h).symm
 |u::c,[],h,_,_=>absurd h.length_eq ap
 |u::c,w::s,h,f,d=>by
  have e:u=w:=by
   by_cases z:u=w;exact z;have i:u∈s:=by
    rcases UA.mp (h.subset<|.head _) with x|x
    exact absurd x z;exact x
   have g:w∈c:=by
    rcases UA.mp (h.symm.subset<|.head _) with x|x
    exact absurd x.symm z;exact x
   have a:=(ZR.mp d).1 u i;have b:=(ZR.mp f).1 w g;rw[LI a] at b;cases b
  subst e;rw[QO (List.Perm.cons_inv h) (ZR.mp f).2 (ZR.mp d).2]
theorem eJ.eq(h:eJ c u)(a:eJ c w):u=w:=QO (h.1.trans a.1.symm) h.2 a.2
def near(l h b e:Nat):Fk:=if b=h then (decide (l=h)||decide (b=e)) else decide (b<h)
abbrev Gr:=Nat×Nat×am
abbrev AC:=List Gr
def bA(s:AC)(t:T3):AC:=match s.getLast? with
 |none=>s++[(t.1.toNat,t.2.1.toNat,[t.2.2.toNat])]
 |some g=>if near g.1 g.2.1 t.1.toNat t.2.1.toNat=true then s.dropLast++[(g.1,max g.2.1 t.2.1.toNat,g.2.2++[t.2.2.toNat])] else s++[(t.1.toNat,t.2.1.toNat,[t.2.2.toNat])]
def groups(u:wn):AC:=u.foldl bA []
theorem QP(u:wn)(t:T3):groups (u++[t])=bA (groups u) t:=by delta groups;rw[VW];rfl
theorem QR(n:Nat):∀(u:wn)(s:AC),(∀t∈u,t.2.2.toNat<n)->(∀g∈s,g.2.2≠ []/\∀k∈g.2.2,k<n)->∀g∈u.foldl bA s,g.2.2≠ []/\∀k∈g.2.2,k<n
 |[],s,_,h=>h
 |t::u,s,c,h=>by
  refine QR n u _ (λx e=>c x<|.tail _ e) ?_;have d:=c t (.head _);have o:∀g∈s++[((t.1.toNat,t.2.1.toNat,[t.2.2.toNat]):Gr)],g.2.2≠ []/\∀k∈g.2.2,k<n:=by
   intro g a;rcases U6.mp a with a|a
   exact h g a;rw[jS.mp a];exact⟨ap,λk b=>by rw[jS.mp b];exact d⟩
  delta bA;split;exact o;rename_i g0 e0;split;intro g a;rcases U6.mp a with a|a
  exact h g (Y0 _ a);rw[jS.mp a];have w:=h g0 (UQ e0);refine⟨ap,λk b=>?_⟩;rcases U6.mp b with b|b
  exact w.2 k b;rw[jS.mp b];exact d;exact o
noncomputable def least:am->Nat
 |[]=>0
 |k::r=>r.foldl min k
theorem aiU:∀(r:am)(k:Nat),r.foldl min k<=k/\(∀x∈r,r.foldl min k<=x)/\(r.foldl min k=k\/r.foldl min k∈r):=by
 intro l;induction l with
 |nil=>
  rintro k;exact⟨mZ _,(λx h=>by cases h),.inl O⟩
 |cons x r i=>
  rintro k;obtain⟨a,b,c⟩:=i (min k x);refine⟨Ut a<|Nat.min_le_left _ _,λy d=>?_,?_⟩;rcases UA.mp d with rfl|d
  exact Ut a (Nat.min_le_right _ _);exact b y d;rcases c with c|c
  have e:(x::r).foldl min k=min k x:=c;by_cases z:k<=x;exact .inl (by rw[e];exact VO z);exact .inr (by rw[e,Nat.min_eq_right (Yl (VT z))];exact .head _);exact .inr (.tail _ c)
theorem Eo{m:am}(h:m≠ []):least m∈m/\∀x∈m,least m<=x:=by
 cases m with
 |nil=>exact absurd O h
 |cons k r=>
  obtain⟨a,b,c⟩:=aiU r k;refine⟨?_,λx d=>?_⟩;rcases c with c|c
  show r.foldl min k∈k::r;rw[c];exact .head _;exact .tail _ c;rcases UA.mp d with rfl|d
  exact a;exact b x d
def TQ(c:ii)(g:Gr):Cu:=
 let f:=(c[least g.2.2]?).getD (0,0,none)
 if g.2.2.length=1 then f else if f.2.1<f.1 then (g.2.1,g.1,none) else (g.1,g.2.1,none)
def WJ(c:ii)(u:wn):ii:=(groups u).map (TQ c)
theorem QS{Q:ad->Hp->D9->Prop}{g:TE}(h:H a=some (.l Y))(I:Y.length<=1000000)(P:Nat->ad->Hp->Prop)(v:P 0 [] H)(r:∀i ys L c,P i ys L->aq L c->P i ys c)(d:∀i x ys L,Y[i]?=some x->aq H L->P i ys L->∀j:VK,(∀y c,aq L c->P (i+1) (ys++[y]) c->j y c)->g (some (.i (i:Nat))::some x::bJ J fv) L j)(R:∀ys L p,aq H L->P Y.length ys L->L p=none->Q ys L p):∃W:Nat->Nat->ad->Hp->Prop,(∃m,W 0 m [] H)/\∀i m ys L,W i m ys L->
   ((uY K a).stop i L/\∀p,L p=none->Q ys L p)\/
   ((uY K a).go i L/\∀x c,(uY K a).dH i L x c->gZ K (some 2) x c λz=>iU none (z.map some++bJ J fv) c λb k=>
    if b=true then g (z.map some++bJ J fv) k λy G=>ys.length<sizeLine/\∃e,e<m/\W (i+1) e (ys++[y]) G else ∃e,e<m/\W (i+1) e ys k):=by
 refine qF (λi m ys L=>m=Y.length - i/\i<=Y.length/\ys.length=i/\aq H L/\P i ys L) (uO _ O (Wy _) O (aq.refl _) v) ?_;rintro i m ys L zq;obtain⟨rfl,M,w,s,p⟩:=V_ zq;by_cases F:i<Y.length;refine .inr ⟨qF Y (ak.of<|s _ _ h) F,?_⟩;rintro x c ⟨E,T,rfl,A⟩;have D:=A Y Y[i] (ak.of<|s _ _ h) (VP F);subst D;have f:=Xo (o:=.t [V.i (i:Nat),Y[i]]) T;refine q8 E _ O (aM.of au) O ?_;exact d i Y[i] ys _ (VP F) (s.trans f) (r _ _ _ _ p f) _ λy N n u=>tR (bR al) (Y.length - (i+1)) al ⟨O,F,by simp[w],(s.trans f).trans n,u⟩;have C:i=Y.length:=cV M (ZK F)
 subst C;exact .inl ⟨qF Y (ak.of<|s _ _ h) O,λq B=>R ys _ q s p B⟩
section
variable{K:Frag}
inductive wx(U:ad)(H:Hp)(Q:VK)(E:XK):Prop|i(l c:Nat)(t:D9)(a h:Nat)(g:lv)(_:U=[.i l,.i c,.r t])(_:i7 H t a h g)(_:Q (.b<|near l c (min a h)<|max a h) H)
abbrev aeB(K:Frag)(E:XK):aV:=aA K [("begin_of",i8),("is_empty",rQ)] [] (E:=E)
theorem aiV(U:ad)(H:Hp)(Q:VK)(E:XK)(hh:wx U H Q E):aw (aeB K E) Lh (Dn Q) (ZQ Lg U) H:=by
 obtain⟨lo,hi,t,a,h,g,rfl,ha,q⟩:=hh;refine bh<|bf<|aC i8 rfl<|af<|ae rfl<|ao ⟨t,a,h,g,rfl,ha,ae rfl<|gO ⟨_,rfl,?_⟩⟩;delta near at q;by_cases e:min a h=hi;rw[GT e] at q;refine iT ?_<|ZA al;refine aS<|wj<|fj<|ae rfl<|ae rfl<|gO ⟨_,rfl,?_⟩;by_cases e2:lo=hi;rw[ZA e2] at q;exact iT q<|ZA al;rw[XZ e2] at q;refine iF (aC rQ rfl<|af<|ae rfl<|ao ⟨t,a,h,g,rfl,ha,?_⟩)<|XZ al;rw[show decide (a=h)=(false ||decide (min a h=max a h)) by rw[Bool.false_or,jQ];simp only[IO];lia];exact q;rw[GM e] at q;refine iF (bL ?_)<|XZ al;refine aS<|fj<|aC i8 rfl<|af<|ae rfl<|ao ⟨t,a,h,g,rfl,ha,ae rfl<|Um ?_⟩;rw[show decide (((min a h:Nat):Int) < (hi:Nat))=decide (min a h<hi) by rw[jQ];simp only[IO];lia];exact q
inductive Ep(U:ad)(H:Hp)(Q:VK)(E:XK):Prop|i(t:D9)(a h:Nat)(g:lv)(_:U=[.r t])(_:i7 H t a h g)(_:Q (.b<|decide<|h<a) H)
theorem aiW(U:ad)(H:Hp)(Q:VK)(E:XK)(hh:Ep U H Q E):aw (aP K E) LN (Dn Q) (ZQ oG U) H:=by
 obtain⟨t,a,h,g,rfl,ha,q⟩:=hh;refine aS<|fj<|aD<|ae rfl<|ah<|az ha rfl<|aD<|ae rfl<|ah<|az ha rfl<|Um ?_;rw[show decide (((h:Nat):Int) < (a:Nat))=decide (h<a) by rw[jQ];simp only[IO];lia];exact q
noncomputable def nums(m:am):ad:=m.map λk=>V.i (k:Nat)
def zH(k:ad->HO)(G:D9)(H:Hp)(v:V)(g:Gr):Prop:= ∃t m,v=.r t/\H t=some (k [.i (g.1:Nat),.i (g.2.1:Nat),.r m])/\H m=some (.l<|nums g.2.2)/\t≠G/\m≠G
theorem zH.but(x:zH k G H v g)(b:aH G H I):zH k G I v g:=by
 obtain⟨t,m,zq⟩:=Vj x;obtain⟨e,c,h,a,n⟩:=V_ zq;exact⟨t,m,e,b _ _ c a,b _ _ h n,a,n⟩
abbrev fH(m:ad->HO)(G:D9)(H:Hp):ad->AC->Prop:=Paired (zH m G H)
theorem fH.but(x:fH m G H U g)(b:aH G H I):fH m G I U g:=Paired.fJ x λY Y y=>y.but b
theorem hU{b:Type}{R:c->b->Prop}:∀{Y:List c}{ys:List b}{x:c}{y:b},Paired R Y ys->R x y->Paired R (Y++[x]) (ys++[y]):=by
 intro Y ys x y h k;induction h with
 |nil=>exact .cons k .nil
 |cons a Z i=>exact .cons a i
theorem pH(s:aq H I):aH c H I:=λb o e Y=>s b o e
theorem QU(h:aO B as J H λU a=>yA B.K U a Q):ag B (.x yB as) J H Q:=h
structure ny(cs:ii)(t:T3)(c:Cu):Prop where
 a:cs[t.2.2.toNat]?=some c
 e1:t.1=((min c.1 c.2.1:Nat):Int)
 e:t.2.1=((max c.1 c.2.1:Nat):Int)
 e3:t.2.2=((t.2.2.toNat:Nat):Int)
theorem uf{s:ii}(S:eJ s u){t:T3}(h:t∈u):∃c,ny s t c:=by
 obtain⟨i,c,e,rfl⟩:=En (S.1.subset h);rw[VI];exact⟨c,by show s[(((i:Nat):Int)).toNat]?=some c;rw[Yx];exact e,O,O,by show((i:Nat):Int)=(((i:Nat):Int).toNat:Nat);rw[Yx]⟩
abbrev arP:io:=[("begin_of",i8),("end_of",lj),("meet",wx)]
noncomputable def QV:bv:=[.i (.d [(.p .Gt (.t .l [.v 2]) (.c (.i 0))),(.l 2 [(.i (.i (.v 2) (.N (.c (.i 1)))) (.c (.i 0))),(.i (.i (.v 2) (.N (.c (.i 1)))) (.c (.i 1))),(.i (.v 0) (.v 5))])]) [.a 6 (.Y .p (.v 2) []),
   .d (.Y .a (.v 2) [(.T [(.i (.v 6) (.c (.i 0))),(.t .m [(.i (.v 6) (.c (.i 1))),.v 4]),(.b .Add (.i (.v 6) (.c (.i 2))) (.L [.v 5]))])])] [.d (.Y .a (.v 2) [(.T [.v 3,.v 4,(.L [.v 5])])])]]
theorem aiX{t:T3}:(bA g t).length<=g.length+1:=by
 delta bA;split;simp;split;simp[mJ];simp
theorem aiY{i:Nat}{l:D9}{y:V}(h:J[i]?=some (some<|.r l))(a:H l=some (.l<|Y++[y]))(q:Q y (upd H l<|.l Y)):ag B (.Y .p (.v i) []) J H Q:=by
 refine qT _ h (.inl ⟨O,qY _ (ak.of a)⟩) ⟨_,y,a,ap,?_⟩;rw[UH];exact q
abbrev m3(K:Frag)(E:XK):aV:=aA K arP [] (E:=E)
theorem aiZ{l b:D9}{t:T3}{s:AC}(hl:H l=some (.l U))(dJ:bq H U cs)(nl:l≠G)(k:ny cs t c)(p:H G=some (.l u))(N:fH .t G H u s)(hn:s.length<=1000)(aB:∀g∈s,g.2.2.length<=1000)(hD:∀(y6:ld)(dA:ad) I,aH G H I->I G=some (.l dA)->fH .t G I dA (bA s t)->D.nx [some<|.r l,some<|.r b,some<|.r G,some<|.i t.1,some<|.i t.2.1,some<|.i t.2.2,y6] I):
  aw (m3 K E) QV D [some<|.r l,some<|.r b,some<|.r G,some<|.i t.1,some<|.i t.2.1,some<|.i t.2.2,R] H:=by
 have lz:=Id N;have h:bA s t=s++[(t.1.toNat,t.2.1.toNat,[t.2.2.toNat])]->aw (m3 K E) [.d<|.Y .a (.v 2) [(.T [.v 3,.v 4,(.L [.v 5])])]] {D with nx:=aw (m3 K E) [] D} [some<|.r l,some<|.r b,some<|.r G,some<|.i t.1,some<|.i t.2.1,some<|.i t.2.2,R] H:=by
  intro e;refine eQ<|gC<|ae O ⟨.inl ⟨O,_,ak.of p⟩,eO<|af<|ae O<|af<|ae O<|af<|du<|af<|ae O<|ao ⟨ib,λm Z=>ao ⟨eE,λn fT=>?_⟩⟩⟩;have s1:=Xo (o:=.l [V.i t.2.2]) Z;have w:=Xo (o:=.t [V.i t.1,V.i t.2.1,V.r m]) fT;have iJ:=s1.trans w;have C:m≠G:=λz=>by rw[z,p] at Z;cases Z
  have M:n≠G:=λz=>by rw[z,s1 _ _ p] at fT;cases fT
  refine qT u (iJ _ _ p) (bR al) ?_;have b3:aH G (upd (upd H m<|.l [V.i t.2.2]) n<|.t [V.i t.1,V.i t.2.1,V.r m]) (upd (upd (upd H m<|.l [V.i t.2.2]) n<|.t [V.i t.1,V.i t.2.1,V.r m]) G<|.l<|u++[.r n]):=aH.upd;have A:aH G H (upd (upd (upd H m<|.l [V.i t.2.2]) n<|.t [V.i t.1,V.i t.2.1,V.r m]) G<|.l<|u++[.r n]):=(pH iJ).trans b3;refine hD R (u++[.r n]) _ A au ?_;rw[e];refine hU (N.but A) (tA n m O ?_ ?_ M C);rw[b3 _ _ au M,show t.1=((t.1.toNat:Nat):Int) by rw[k.e1,Yx],show t.2.1=((t.2.1.toNat:Nat):Int) by rw[k.e,Yx]];simp only[Yx];rw[b3 _ _ (w _ _ au) C];show some (HO.l [V.i t.2.2])=some (HO.l [V.i ((t.2.2.toNat:Nat):Int)]);rw[<-k.e3]
 refine bh<|Pz<|bf<|gf<|ae O<|.inl ⟨_,ak.of p,ah<|Qq ⟨_,O,?_⟩⟩;rcases Xr s with P|⟨S,g,P⟩
 subst P;cases N;refine iF (iF (h ?_) O) O;delta bA;rfl;rw[T_] at P;subst P;obtain⟨F,z,rfl,ug,gz⟩:=Qp N;obtain⟨n,m,zq⟩:=Vj gz;obtain⟨rfl,W,hm,M,C⟩:=V_ zq;have wy:(S++[g]).getLast?=some g:=by simp
 refine iT ?_<|ZA (by rw[Zw];simp);have pI:di (F++[V.r n]) (-1)=some (V.r n):=by
  delta di;rw[Zw];show(ij (F.length+1)<|-1).bind _=_;rw[D8];simp
 obtain⟨v,hv,tc,rfl,hc⟩:=Em dJ k.a;have b':di U t.2.2=some (.r tc):=by rw[k.e3];exact gu hv
 refine gb wx O<|af<|aD<|aD<|ae O<|pE<|fo p pI<|ah<|az W O<|af<|aD<|aD<|ae O<|pE<|fo p pI<|ah<|az W O<|af<|aD<|ae O<|ae O<|fo hl b'<|ao ?_;refine⟨g.1,g.2.1,tc,_,_,_,O,hc,eT ?_⟩;have en:near g.1 g.2.1 (min c.1 c.2.1) (max c.1 c.2.1)=near g.1 g.2.1 t.1.toNat t.2.1.toNat:=by rw[k.e1,k.e,Yx,Yx]
 rw[en];cases QW:near g.1 g.2.1 t.1.toNat t.2.1.toNat with
 |false=>
  refine iF (h ?_) O;delta bA;rw[wy];simp only[QW];rfl
 |true=>
  refine iT ?_ O;have a':bA (S++[g]) t=S++[(g.1,max g.2.1 t.2.1.toNat,g.2.2++[t.2.2.toNat])]:=by
   delta bA;rw[wy];simp only[QW,No,UH]
  refine aJ<|aiY O p ?_;have Q:aH G H (upd H G<|.l F):=aH.upd;have y:upd H G (.l F) G=some (.l F):=au;have J:=Q _ _ W M;have qJ:=Q _ _ hm C;generalize upd H G (.l F)=B at Q y J qJ⊢;refine eQ<|gC<|ae O ⟨.inl ⟨O,_,ak.of y⟩,eO<|af<|aD<|ae O<|ah<|az J O<|af<|i6<|af<|aD<|ae O<|ah<|az J O<|af<|ae O<|ao ?_⟩;have lg:=aB g ap;refine af<|aI<|aD<|ae O<|ah<|az J O<|du<|af<|ae O<|ao ⟨ib,λx f1=>?_⟩;have w:=Xo (o:=.l [V.i t.2.2]) f1;refine .inl (tU m x (nums g.2.2) [V.i t.2.2] O O (w _ _ qJ) au (bQ (by show(nums g.2.2).length+1<=_;delta nums;rw[VH];lia)) (λf f2=>ao ⟨eE,λj f3=>?_⟩));have s3:=Xo (o:=.l (nums g.2.2++[V.i t.2.2])) f2;have i9:=w.trans s3;obtain⟨q,wz⟩:∃q:Int,q=(if t.2.1>((g.2.1:Nat):Int) then t.2.1 else ((g.2.1:Nat):Int)):=qY _ O;have Er:q=((max g.2.1 t.2.1.toNat:Nat):Int):=by
   rw[wz,k.e,Yx];split<;>lia
  have Es:(upd (upd B x<|.l [V.i t.2.2]) f<|.l<|nums g.2.2++[V.i t.2.2]) j=none:=f3;have s4:=Xo (o:=.t [V.i (g.1:Nat),V.i q,V.r f]) Es;have X:=i9.trans s4;have wA:f≠G:=λz=>by rw[z,w _ _ y] at f2;cases f2
  have wB:j≠G:=λz=>by rw[z,i9 _ _ y] at Es;cases Es
  show sS K .a (.r G) [.r j] (upd (upd (upd B x<|.l [V.i t.2.2]) f<|.l<|nums g.2.2++[V.i t.2.2]) j<|.t [V.i (g.1:Nat),V.i (if t.2.1>((g.2.1:Nat):Int) then t.2.1 else ((g.2.1:Nat):Int)),V.r f]) _;rw[<-wz];refine qT F (X _ _ y) (bR (by rw[Zw] at hn;have:=Id ug;lia)) ?_;have wC:=s4 _ _ (au (H:=upd B x (.l [V.i t.2.2])) (a:=f) (o:=.l (nums g.2.2++[V.i t.2.2])));have wD:(upd (upd (upd B x<|.l [V.i t.2.2]) f<|.l<|nums g.2.2++[V.i t.2.2]) j<|.t [V.i (g.1:Nat),V.i q,V.r f]) j=some (.t [V.i (g.1:Nat),V.i q,V.r f]):=au;generalize (upd (upd (upd B x<|.l [V.i t.2.2]) f<|.l<|nums g.2.2++[V.i t.2.2]) j<|.t [V.i (g.1:Nat),V.i q,V.r f])=H4 at X wC wD⊢;have b5:aH G H4 (upd H4 G<|.l<|F++[.r j]):=aH.upd;have A:aH G H (upd H4 G<|.l<|F++[.r j]):=(Q.trans<|pH X).trans b5;refine hD _ (F++[.r j]) _ A au ?_;rw[a'];refine hU (fH.but ug A) (tA j f O ?_ ?_ wB wA);rw[b5 _ _ wD wB,Er];rw[b5 _ _ wC wA];show some (HO.l<|nums g.2.2++[V.i t.2.2])=some (HO.l<|nums<|g.2.2++[t.2.2.toNat]);delta nums;rw[Xn];show some (HO.l<|_++[V.i t.2.2])=some (HO.l<|_++[V.i ((t.2.2.toNat:Nat):Int)]);rw[<-k.e3]
end
theorem pJ{b:Type}{R:b->c->Prop}:∀{Y:List b}{ys:List c}{i:Nat}{x:b},Paired R Y ys->Y[i]?=some x->∃y,ys[i]?=some y/\R x y:=by
 intro Y ys i x h;induction h generalizing i with
 |nil=>exact λh=>by cases h
 |cons a Z d=>
  cases i with
  |zero=>exact λh=>by cases h;exact⟨_,O,a⟩
  |succ i=>exact λh=>d h
theorem QX:∀(u:wn)(s:AC)(n:Nat),(∀g∈s,g.2.2.length<=n)->s.length<=n->(∀g∈u.foldl bA s,g.2.2.length<=n+u.length)/\(u.foldl bA s).length<=n+u.length:=by
 intro l;induction l with
 |nil=>
  rintro s n c e;exact⟨c,e⟩
 |cons t u i=>
  rintro s n c e;have C:(bA s t).length<=n+1:=Ut aiX (Ue e _);have f:∀g∈bA s t,g.2.2.length<=n+1:=by
   have o:∀g∈s++[((t.1.toNat,t.2.1.toNat,[t.2.2.toNat]):Gr)],g.2.2.length<=n+1:=by
    intro g h;rcases U6.mp h with h|h
    have:=c g h;exact ZU this;rw[jS.mp h];show 1<=n+1;exact VJ _ _
   delta bA;split;exact o;rename_i d e0;split;intro g h;rcases U6.mp h with h|h
   have:=c g (Y0 _ h);exact ZU this;rw[jS.mp h];have:=c d (UQ e0);show(d.2.2++[t.2.2.toNat]).length<=n+1;rw[Zw];show d.2.2.length+1<=n+1;exact Ue this _;exact o
  obtain⟨a,b⟩:=i (bA s t) (n+1) f C;rw[Xm];exact⟨λg h=>by have:=a g h;lia,by show(u.foldl bA<|bA s t).length<=_;lia⟩
theorem zK(u:wn):(∀g∈groups u,g.2.2.length<=u.length)/\(groups u).length<=u.length:=by
 have:=QX u [] 0 (λg h=>by cases h) (mZ _)
 rwa [VI] at this
theorem iK{a:Type}{l:List a}{x:a}(h:l[i]?=some x):l.take (i+1)=l.take i++[x]:=by
 have F:i<l.length:=(ZX.mp h).1;rw[VU F,(ZX.mp h).2]
section
variable{K:Frag}
inductive Et(U:ad)(H:Hp)(Q:VK)(E:XK):Prop|i(l:D9)(Y:ad)(c:ii)(_:U=[.r l])(_:H l=some (.l Y))(_:bq H Y c)(_:c.length<64)(_:∀u G z I,eJ c u->aq H I->H G=none->I G=some (.l z)->fH .t G I z (groups u)->Q (.r G) I)
theorem UG(U:ad)(H:Hp)(Q:VK)(E:XK)(hh:Et U H Q E):aw (m3 K E) LP (Dn Q) (ZQ LO U) H:=by
 obtain⟨l,Y,j,rfl,T,Z,hn,q⟩:=hh;have lx:Y.length=j.length:=Id Z;refine aJ<|QU<|af ?_;refine tY _ O l O (qY _ (ak.of T)) ?_;refine QS T al (λi ys L=>Paired (V3 L) ys<|gh 0<|j.take i) .nil (λi ys L H3 p s=>Paired.fJ p (by rintro v t ⟨a,e,h⟩;exact qF a e (s _ _ h))) ?_ ?_;intro i x ys L hx P p Q' kk;obtain⟨c,hc,t,rfl,I⟩:=mf Z hx;have eK:=P _ _ I;have hi:i<j.length:=(ZX.mp hc).1;refine eO<|af<|aC i8 O<|af<|ae O<|ao ⟨t,_,_,_,O,eK,af<|aC lj O<|af<|ae O<|ao ⟨t,_,_,_,O,eK,af<|ae O<|ao ⟨eE,λT0 fT=>?_⟩⟩⟩;have n:=Xo (o:=.t [V.i (min c.1 c.2.1:Nat),V.i (max c.1 c.2.1:Nat),V.i (i:Nat)]) fT;refine kk _ _ n ?_;rw[iK hc,QN,VI,WE,VO (show i<=j.length by lia)];exact hU (Paired.fJ p (by rintro v t ⟨a,e,h⟩;exact qF a e (n _ _ h))) (qF T0 O au);intro ys L D P p f2;rw[lx,Vo<|mZ _] at p;have n:=Xo (o:=.l ys) f2;refine ao (uM D ys (gh 0 j) O (ak.of au) (Paired.fJ p (by rintro v t ⟨a,e,h⟩;exact qF a e (n _ _ h))) (UN 0 j) ⟨by rw[rS];exact hn,λd z u fO p3 pm pw=>?_⟩);have S:eJ j u:=⟨pm,pw⟩;have s4:=Xo (o:=.l z) fO;have F:=(P.trans n).trans s4;have W:(upd (upd L D<|.l ys) d<|.l z) d=some (.l z):=au;have R:Paired (V3<|upd (upd L D<|.l ys) d<|.l z) z u:=Paired.fJ p3 (by rintro v t ⟨a,e,h⟩;exact qF a e (s4 _ _ h));generalize (upd (upd L D<|.l ys) d<|.l z)=H3 at F W R⊢;have pK:=F _ _ T;have QY:=Z.same F;have lu:u.length=j.length:=by rw[pm.length_eq,rS]
 have lz:z.length=u.length:=Id R;refine aJ<|du<|ao ⟨Wy _,λG N=>?_⟩;have s5:=Xo (o:=.l []) N;refine D7 (body:=QV)<|ae O ⟨d,O,⟨_,ak.of<|s5 _ _ W⟩,ic (K:=K) (a:=d) (xs:=z) (λi J m=>Ui λ(w:ad)(C B A y:ld)=>ZL (J=[some<|.r l,some<|.r d,some<|.r G,C,B,A,y]) (aq H3 m) (m G=some (.l w)) (fH .t G m w (groups<|u.take i))) ?_ ?_ ?_ ?_⟩;exact⟨[],none,none,none,none,O,s5,au,.nil⟩;rintro i J m _ ⟨w,C,B,A,y,rfl,f,_,_⟩;exact ak.of<|f _ _ W;rintro i x J m hi ⟨w,C,B,A,y,rfl,f,X,M⟩;obtain⟨t,I,T0,rfl,hT⟩:=pJ R hi;refine QL (f _ _ hT) ?_;obtain⟨c,k⟩:=uf S (zG I);have bd:=zK (u.take i);have li:(u.take i).length<=64:=by rw[WE];lia
 refine aiZ (f _ _ pK) (QY.same f) (a_ pK N) k X M al (λg hg=>by have:=bd.1 g hg;lia) λz6 dA H6 b6 Eu Ew=>⟨dA,_,_,_,z6,O,λb o e=>b6 _ _ (f _ _ e)<|a_ e N,Eu,?_⟩;rw[iK I,QP];exact Ew;rintro J m ⟨w,C,B,A,y,rfl,f,X,M⟩;rw[lz,Vo<|mZ _] at M;exact aS<|ae O<|q u G w m S (F.trans f) (F.free N) X M
inductive Ex(U:ad)(H:Hp)(Q:VK)(E:XK):Prop|i(l:D9)(Y:ad)(c:ii)(T m:D9)(g:Gr)(_:U=[.r l,.r T])(_:H l=some (.l Y))(_:bq H Y c)(_:H T=some (.t [.i (g.1:Nat),.i (g.2.1:Nat),.r m]))(_:H m=some (.l<|nums g.2.2))(_:g.2.2≠ [])(_:(∀k∈g.2.2,k<c.length))(_:∀r I,aq H I->gP I r (TQ c g)->Q r I)
theorem QZ(m:am):nums m=(m.map λk=>((k:Nat):Int)).map V.i:=by delta nums;rw[Ti];rfl
theorem Q0{m:am}(h:m≠ [])(c:x∈m.map λk=>((k:Nat):Int))(d:∀n∈m.map λk=>((k:Nat):Int),x<=n):x=((least m:Nat):Int):=by
 obtain⟨k,e,rfl⟩:=Zv.mp c;obtain⟨a,b⟩:=Eo h;have g:=b k e;have f:=d _ (Zv.mpr ⟨least m,a,O⟩);lia
abbrev ajY(K:Frag)(E:XK):aV:=aA K [("is_backward",Ep)] [] (E:=E)
theorem ai3(U:ad)(H:Hp)(Q:VK)(E:XK)(s:Ex U H Q E):aw (ajY K E) LR (Dn Q) (ZQ LQ U) H:=by
 obtain⟨l,Y,c,T,m,g,rfl,p,J,h,d,N,G,q⟩:=s;have P:=d;rw[QZ] at P;refine aJ<|aD<|ae O<|i6<|af<|aD<|ae O<|ah<|az h O<|ao ⟨_,ak.of P,by simpa using N,λx k y=>?_⟩;rw[Q0 N k y];have r:=G _ (Eo N).1;have i:c[least g.2.2]?=some c[least g.2.2]:=VP r;obtain⟨v,o,a,rfl,j⟩:=Em J i;refine fo p (gu o) ?_;delta TQ at q;rw[i,Option.getD_some] at q;refine bh<|bf<|gf<|aD<|ae O<|ah<|az h O<|.inl ⟨_,ak.of d,ah<|gO ⟨_,O,?_⟩⟩;have n:(nums g.2.2).length=g.2.2.length:=by delta nums;rw[VH]
 rw[n];by_cases e:g.2.2.length=1;simp only[e,No] at q;refine iT ?_<|ZA al;exact aS<|ae O<|q _ _ (aq.refl _) ⟨a,O,j⟩;simp only[e,Op] at q;refine iF (bL ?_)<|XZ al;refine aS<|nq<|gb Ep O<|af<|ae O<|ao ⟨a,_,_,_,O,j,eT ?_⟩;by_cases b:(c[least g.2.2]).2.1< (c[least g.2.2]).1;simp only[b,No] at q;refine iT ?_<|ZA b;refine eO<|af<|aD<|ae O<|ah<|az h O<|af<|aD<|ae O<|ah<|az h O<|af<|ah<|ao ⟨eE,λt f=>?_⟩;exact q _ _ (Xo f) ⟨t,O,au⟩;simp only[b,Op] at q;refine iF ?_<|XZ b;refine eO<|af<|aD<|ae O<|ah<|az h O<|af<|aD<|ae O<|ah<|az h O<|af<|ah<|ao ⟨eE,λt f=>?_⟩;exact q _ _ (Xo f) ⟨t,O,au⟩
inductive i_(U:ad)(H:Hp)(Q:VK)(E:XK):Prop|i(l:D9)(Y:ad)(c:ii)(_:U=[.r l])(_:H l=some (.l Y))(_:bq H Y c)(_:c.length<64)(_:∀u r z I,eJ c u->aq H I->H r=none->I r=some (.l z)->bq I z (WJ c u)->Q (.r r) I)
theorem Q2{s:ii}(S:eJ s u):∀g∈groups u,g.2.2≠ []/\∀k∈g.2.2,k<s.length:=
 QR s.length u [] (λt h=>by
  obtain⟨c,k⟩:=uf S h;exact(ZX.mp k.a).1) λg b=>by cases b
abbrev nE(K:Frag)(E:XK):aV:=aA K [("gathered",Et),("as_one",Ex)] [] (E:=E)
theorem ai4(U:ad)(H:Hp)(Q:VK)(E:XK)(D:i_ U H Q E):aw (nE K E) LU (Dn Q) (ZQ LS U) H:=by
 obtain⟨l,Y,c,rfl,h,j,B,q⟩:=D;refine aS<|k7<|aC Et O<|af<|ae O<|ao ⟨l,Y,c,O,h,j,B,λu G z V S b M e v=>qT G O (qY _ (ak.of e)) ?_⟩;have I:u.length=c.length:=by rw[S.1.length_eq,rS]
 have N:=zK u;have t:z.length=(groups u).length:=Id v;refine l8 e al (λi ys L=>bq L ys<|((groups u).take i).map<|TQ c) .nil ?_ ?_;intro i x ys L y s p P w;obtain⟨g,d,F,m,rfl,T,C,Z,Z⟩:=pJ v y;have k:=Q2 S g (zG d);have J:=b.trans s;refine aC Ex O<|af<|ae O<|af<|ae O<|ao ⟨l,Y,c,F,m,g,O,J _ _ h,j.same J,s _ _ T,s _ _ C,k.1,k.2,λr R a A=>w _ _ a ?_⟩;rw[iK d,Xn];exact hU (bq.same p a) A;intro ys L n s p f;rw[t,Vo<|mZ _] at p;have a:=Xo (o:=.l ys) f;exact q u n ys _ S ((b.trans s).trans a) ((b.trans s).free f) au<|bq.same p a
end
noncomputable def iL(g:Gr):PyData:=.list [.int (g.1:Nat),.int (g.2.1:Nat),.list<|(g.2.2.map λk=>((k:Nat):Int)).map .int]
theorem ai5(g:Gr):(iL g).canLay0=true/\(iL g).depth<=2:=by
 constructor;show(true && (true && (PyData.canLayAll0 ((g.2.2.map λk=>((k:Nat):Int)).map .int) && true)))=true;rw[PyProof.Rows.canLayAll_ints];rfl;show max 0 (max 0<|max (PyData.depthAll ((g.2.2.map λk=>((k:Nat):Int)).map .int)+1) 0)+1<=2;rw[PyProof.Rows.depthAll_ints];decide
theorem WM:∀(s:AC),PyData.canLayAll0 (s.map iL)=true/\PyData.depthAll (s.map iL)<=2:=by
 intro l;induction l with
 |nil=>
  exact⟨O,Wy _⟩
 |cons g r i=>
  obtain⟨a,b⟩:=ai5 g;obtain⟨c,d⟩:=i;refine⟨?_,?_⟩;show((iL g).canLay0 && PyData.canLayAll0 (r.map iL))=true;rw[a,c];rfl;show max (iL g).depth (PyData.depthAll<|r.map iL)<=2;lia
theorem ai7(g:AC):SeqAt.shaped (.list<|g.map iL)=true:=by
 obtain⟨c,d⟩:=WM g;delta SeqAt.shaped;have e:(PyData.list<|g.map iL).canLay0=true:=c;have a:(PyData.list<|g.map iL).depth<=64:=by show PyData.depthAll (g.map iL)+1<=64;lia
 rw[e,ZA a];rfl
theorem ai8(H:Hp):∀m:am,IsL H ((m.map λk=>((k:Nat):Int)).map PyData.int) (nums m):=by
 intro l;induction l with
 |nil=>
  exact O
 |cons k r i=>
  exact⟨_,_,O,O,i⟩
theorem Y8:∀{z:ad}{g:AC},fH .l G H z g->IsL H (g.map iL) z:=by
 intro z g h;induction h with
 |nil=>exact O
 |cons x Y i=>
  obtain⟨t,m,zq⟩:=Vj x;obtain⟨rfl,b,a,Y,Y⟩:=V_ zq;exact rC _ _ O (rC t _ O b ⟨_,_,O,O,_,_,O,O,_,_,O,rC m _ O a (ai8 H _),O⟩) i
section
variable{K:Frag}
theorem A0{b:D9}(d:H a=some (.l Y))(c:H b=some (.l []))(h:fH .l G H Y g)(q:Q (.b<|decide<|g≠ []) H):bW K .NotEq (.r a) (.r b) H Q:=by
 refine tA (.list<|g.map iL) (.list []) ⟨a,Y,O,d,Y8 h⟩ ⟨b,[],O,c,O⟩ (ai7 g) ax ?_;have e:(true ^^ PyData.eqv (.list<|g.map iL) (.list []))=decide (g≠ []):=by
  cases g with
  |nil=>rfl
  |cons p r=>rfl
 rw[e];exact q
theorem Q3{t:D9}{Q:Ch}(h:H t=some (.l [u,v,w]))(q:Q (((J.set i<|some u).set j<|some v).set k<|some w) H):kA K [i,j,k].length (jR [i,j,k]) (.r t) J H Q:=
 ⟨t,_,O,.inr<|ak.of h,O,_,_,O,_,_,O,_,_,O,O,q⟩
noncomputable def Tn:bv:=[.a 5 (.c (.b false)),
  .i (.p .NotEq (.v 1) (.L [])) [.sR [6,7,8] (.i (.v 1) (.N (.c (.i 1)))),
   .a 5 (.o [(.p .Lt (.v 2) (.v 7)),(.d [(.p .Eq (.v 2) (.v 7)),(.o [(.p .Eq (.v 6) (.v 7)),(.p .Eq (.v 2) (.v 3))])])])] [],
  .i (.v 5) [.s (.v 1) (.N (.c (.i 1))) (.L [.v 6,(.t .m [.v 7,.v 3]),(.b .Add (.v 8) (.L [.v 4]))])] [.d (.Y .a (.v 1) [(.L [.v 2,.v 3,(.L [.v 4])])])]]
noncomputable def Ez:bv:=[.i (.v 5) [.s (.v 1) (.N<|.c<|.i 1)<|.L [.v 6,(.t .m [.v 7,.v 3]),(.b .Add (.v 8)<|.L [.v 4])]] [.d<|.Y .a (.v 1) [(.L [.v 2,.v 3,(.L [.v 4])])]]]
theorem Q4{L:ii}{t:T3}{s:ad}{n j Q:ld}(k:ny L t c)(h:H G=some (.l s))(A:fH .l G H s g)(N:g.length<=1000)(e:bA g t=g++[(t.1.toNat,t.2.1.toNat,[t.2.2.toNat])])(F:∀(B:ad) I,aH G H I->I G=some (.l B)->fH .l G I B (bA g t)->D.nx [q,some<|.r G,some<|.i t.1,some<|.i t.2.1,some<|.i t.2.2,some<|.b false,p,n,j,u,Q] I):
  aw (aP K E) Ez D [q,some<|.r G,some<|.i t.1,some<|.i t.2.1,some<|.i t.2.2,some<|.b false,p,n,j,u,Q] H:=by
 have M:=Id A;refine bh<|zE O<|iF ?_ O;refine eQ<|gC<|ae O ⟨.inl ⟨O,_,ak.of h⟩,du<|af<|ae O<|af<|ae O<|af<|du<|af<|ae O<|ao ⟨ib,λm f=>ao ⟨eE,λT a=>?_⟩⟩⟩;have w:=Xo (o:=.l [V.i t.2.2]) f;have v:=Xo (o:=.l [V.i t.1,V.i t.2.1,V.r m]) a;have J:=w.trans v;have x:m≠G:=λz=>by rw[z,h] at f;cases f
 have y:T≠G:=λz=>by rw[z,w _ _ h] at a;cases a
 refine qT s (J _ _ h) (bR al) ?_;have d:aH G (upd (upd H m<|.l [V.i t.2.2]) T<|.l [V.i t.1,V.i t.2.1,V.r m]) (upd (upd (upd H m<|.l [V.i t.2.2]) T<|.l [V.i t.1,V.i t.2.1,V.r m]) G<|.l<|s++[.r T]):=aH.upd;have C:aH G H (upd (upd (upd H m<|.l [V.i t.2.2]) T<|.l [V.i t.1,V.i t.2.1,V.r m]) G<|.l<|s++[.r T]):=(pH J).trans d;refine F (s++[.r T]) _ C au ?_;rw[e];refine hU (A.but C) (tA T m O ?_ ?_ y x);rw[d _ _ au y,show t.1=((t.1.toNat:Nat):Int) by rw[k.e1,Yx],show t.2.1=((t.2.1.toNat:Nat):Int) by rw[k.e,Yx]];simp only[Yx];rw[d _ _ (v _ _ au) x];show some (HO.l [V.i t.2.2])=some (HO.l [V.i ((t.2.2.toNat:Nat):Int)]);rw[<-k.e3]
theorem aja{t:T3}{g:Gr}{Q:ld}(k:ny cs t c)(j:H G=some (.l<|F++[.r A]))(Y:fH .l G H F f)(hm:H m=some (.l<|nums g.2.2))(nm:m≠G)(hn:g.2.2.length<=1000)(e:bA (f++[g]) t=f++[(g.1,max g.2.1 t.2.1.toNat,g.2.2++[t.2.2.toNat])])(hD:∀(W:ad) I,aH G H I->I G=some (.l W)->fH .l G I W (bA (f++[g]) t)->D.nx [h,some<|.r G,some<|.i t.1,some<|.i t.2.1,some<|.i t.2.2,some<|.b true,some<|.i (g.1:Nat),some<|.i (g.2.1:Nat),some<|.r m,u,Q] I):
  aw (aP K E) Ez D [h,some<|.r G,some<|.i t.1,some<|.i t.2.1,some<|.i t.2.2,some<|.b true,some<|.i (g.1:Nat),some<|.i (g.2.1:Nat),some<|.r m,u,Q] H:=by
 refine bh<|zE O<|iT ?_ O;obtain⟨p,C⟩:∃p:Int,p=(if t.2.1>((g.2.1:Nat):Int) then t.2.1 else ((g.2.1:Nat):Int)):=qY _ O;have Er:p=((max g.2.1 t.2.1.toNat:Nat):Int):=by
  rw[C,k.e,Yx];split<;>lia
 refine ah_<|du<|af<|ae O<|af<|i6<|af<|ae O<|af<|ae O<|ao ?_;show aO (aP K E) [.b .Add (.v 8)<|.L [.v 4]] _ H _;refine af<|aI<|ae O<|du<|af<|ae O<|ao ⟨ib,λn f1=>?_⟩;have s:=Xo (o:=.l [V.i t.2.2]) f1;refine .inl (tU m n (nums g.2.2) [V.i t.2.2] O O (s _ _ hm) au (bQ (by show(nums g.2.2).length+1<=_;delta nums;rw[VH];lia)) (λd x=>ao ⟨eE,λT w=>?_⟩));have Z:=Xo (o:=.l (nums g.2.2++[V.i t.2.2])) x;have S:=s.trans Z;have R:=Xo (o:=.l [V.i (g.1:Nat),V.i p,V.r d]) w;have q:=S.trans R;have P:d≠G:=λz=>by rw[z,s _ _ j] at x;cases x
 have N:T≠G:=λz=>by rw[z,S _ _ j] at w;cases w
 have M:=R _ _ (au (H:=upd H n (.l [V.i t.2.2])) (a:=d) (o:=.l (nums g.2.2++[V.i t.2.2])));have J:(upd (upd (upd H n<|.l [V.i t.2.2]) d<|.l<|nums g.2.2++[V.i t.2.2]) T<|.l [V.i (g.1:Nat),V.i p,V.r d]) T=some (.l [V.i (g.1:Nat),V.i p,V.r d]):=au;have U:(HO.l [V.i (g.1:Nat),V.i (if t.2.1>((g.2.1:Nat):Int) then t.2.1 else ((g.2.1:Nat):Int)),V.r d])=HO.l [V.i (g.1:Nat),V.i p,V.r d]:=by rw[C]
 refine ae O<|pE ⟨G,_, -1,F.length,O,O,(show(upd (upd (upd H n<|.l [V.i t.2.2]) d<|.l<|nums g.2.2++[V.i t.2.2]) T<|.l [V.i (g.1:Nat),V.i (if t.2.1>((g.2.1:Nat):Int) then t.2.1 else ((g.2.1:Nat):Int)),V.r d]) G=some (.l<|F++[.r A]) by rw[U];exact q _ _ j),by rw[Zw];exact D8 _,?_⟩;have es:(F++[V.r A]).set F.length (.r T)=F++[.r T]:=by rw[List.set_append_right _ _<|mZ _,Nat.sub_self];rfl
 rw[es];show D.nx [h,some<|.r G,some<|.i t.1,some<|.i t.2.1,some<|.i t.2.2,some<|.b true,some<|.i (g.1:Nat),some<|.i (g.2.1:Nat),some<|.r m,u,Q] (upd (upd (upd (upd H n<|.l [V.i t.2.2]) d<|.l<|nums g.2.2++[V.i t.2.2]) T<|.l [V.i (g.1:Nat),V.i (if t.2.1>((g.2.1:Nat):Int) then t.2.1 else ((g.2.1:Nat):Int)),V.r d]) G<|.l<|F++[.r T]);rw[U];generalize (upd (upd (upd H n<|.l [V.i t.2.2]) d<|.l<|nums g.2.2++[V.i t.2.2]) T<|.l [V.i (g.1:Nat),V.i p,V.r d])=B at q M J⊢;have y:aH G B (upd B G<|.l<|F++[.r T]):=aH.upd;have X:aH G H (upd B G<|.l<|F++[.r T]):=(pH q).trans y;refine hD (F++[.r T]) _ X au ?_;rw[e];refine hU (fH.but Y X) (tA T d O ?_ ?_ N P);rw[y _ _ J N,Er];rw[y _ _ M P];show some (HO.l<|nums g.2.2++[V.i t.2.2])=some (HO.l<|nums<|g.2.2++[t.2.2.toNat]);delta nums;rw[Xn];show some (HO.l<|_++[V.i t.2.2])=some (HO.l<|_++[V.i ((t.2.2.toNat:Nat):Int)]);rw[<-k.e3]
theorem ajb{t:T3}(k:ny cs t c)(hG:H G=some (.l zs))(gv:fH .l G H zs gs)(hn:gs.length<=1000)(aB:∀g∈gs,g.2.2.length<=1000)(hD:∀(y5 y6 y7 y8:ld)(dA:ad) I,aH G H I->I G=some (.l dA)->fH .l G I dA (bA gs t)->D.nx [u0,some<|.r G,some<|.i t.1,some<|.i t.2.1,some<|.i t.2.2,y5,y6,y7,y8,u9,gQ] I):
  aw (aP K E) Tn D [u0,some<|.r G,some<|.i t.1,some<|.i t.2.1,some<|.i t.2.2,u5,u6,u7,u8,u9,gQ] H:=by
 refine aJ<|ah ?_;refine bh<|bf<|ae rfl<|du<|ao ⟨Wy _,λe0 fe=>?_⟩;have s1:=Xo (o:=.l []) fe;have wF:=fH.but gv (pH s1);have kg:=s1 _ _ hG;refine A0 kg au wF ⟨_,rfl,?_⟩;generalize upd H e0 (.l [])=H1 at s1 wF kg⊢;have EA:∀(y5 y6 y7 y8:ld)(dA:ad) I,aH G H1 I->I G=some (.l dA)->fH .l G I dA (bA gs t)->D.nx [u0,some<|.r G,some<|.i t.1,some<|.i t.2.1,some<|.i t.2.2,y5,y6,y7,y8,u9,gQ] I:=λy5 y6 y7 y8 dA I b=>hD y5 y6 y7 y8 dA I ((pH s1).trans b);rcases Xr gs with eg|⟨ke,g,eg⟩
 subst eg;refine iF (bL ?_) rfl;exact Q4 k kg wF hn (by delta bA;rfl) λdA I b h1 h2=>EA _ _ _ _ dA I b h1 h2;rw[T_] at eg;subst eg;refine iT ?_ ap;obtain⟨dF,z,rfl,ug,gz⟩:=Qp wF;obtain⟨T0,m,zq⟩:=Vj gz;obtain⟨rfl,hT,hm,nT,nm⟩:=V_ zq;have wy:(ke++[g]).getLast?=some g:=by simp
 have pI:di (dF++[V.r T0]) (-1)=some (V.r T0):=by
  delta di;rw[Zw];show(ij (dF.length+1)<|-1).bind _=_;rw[D8];simp
 refine Qy<|aD<|ae rfl<|pE<|fo kg pI<|Q3 hT ?_;have cont:∀nb:Fk,nb=near g.1 g.2.1 t.1.toNat t.2.1.toNat->aw (aP K E) Ez D [u0,some<|.r G,some<|.i t.1,some<|.i t.2.1,some<|.i t.2.2,some<|.b nb,some<|.i (g.1:Nat),some<|.i (g.2.1:Nat),some<|.r m,u9,gQ] H1:=by
  intro nb Q5;cases nb with
  |true=>exact aja k kg ug hm nm (aB g ap) (by delta bA;rw[wy];simp only[<-Q5,No,UH]) λdA I b h1 h2=>EA _ _ _ _ dA I b h1 h2
  |false=>exact Q4 k kg wF hn (by delta bA;rw[wy];simp only[<-Q5];rfl) λdA I b h1 h2=>EA _ _ _ _ dA I b h1 h2
 have q1:t.1=((t.1.toNat:Nat):Int):=by rw[k.e1,Yx]
 have q2:t.2.1=((t.2.1.toNat:Nat):Int):=by rw[k.e,Yx]
 refine aJ<|wj<|fj<|ae rfl<|ae rfl<|Um ⟨_,rfl,?_⟩;by_cases c1:t.1< ((g.2.1:Nat):Int);refine iT (cont true ?_) (ZA c1);delta near;rw[GM al,ZA al];refine iF ?_ (XZ c1);refine wg<|fj<|ae rfl<|ae rfl<|gO ⟨_,rfl,?_⟩;by_cases c2:t.1=((g.2.1:Nat):Int);refine iT (zB<|wj<|fj<|ae rfl<|ae rfl<|gO ⟨_,rfl,?_⟩) (ZA c2);by_cases c3:((g.1:Nat):Int)=((g.2.1:Nat):Int);refine iT (cont true ?_) (ZA c3);delta near;rw[GT al,ZA (show g.1=g.2.1 by lia)];rfl;refine iF (fj<|ae rfl<|ae rfl<|gO<|cont _ ?_) (XZ c3);delta near;rw[GT al,XZ (show ¬g.1=g.2.1 by lia),Bool.false_or,jQ];simp only[IO];lia;refine iF (cont false ?_) (XZ c2);delta near;rw[GM al,XZ al]
theorem uV(h:aO B as J H λU a=>yC B.K U a Q):ag B (.x CJ as) J H Q:=h
theorem ajd(h:aO B as J H λU a=>yD B.K U a Q):ag B (.x CK as) J H Q:=h
theorem Q6:¬(HT.aU 3 0 none=0/\HT.aU 3 3 (some 2)=3):=by decide
theorem gP.but(x:gP H v c)(d:H F=some (.l w))(b:aH F H I):gP I v c:=by
 obtain⟨t,e,h⟩:=x;refine⟨t,e,b _ _ h λz=>?_⟩;have a:H t=some (.t _):=h;rw[z,d] at a;cases a
noncomputable def Q7:bv:=[.a 10 (.i (.v 0) (.t .n [.v 8])),
  .i (.p .Eq (.t .l [.v 8]) (.c (.i 1))) [.d (.Y .a (.v 9) [.v 10])] [.i (.p .Lt (.i (.v 10) (.c (.i 1))) (.i (.v 10) (.c (.i 0)))) [.d (.Y .a (.v 9) [(.T [.v 3,.v 2,.c .a])])] [.d (.Y .a (.v 9) [(.T [.v 2,.v 3,.c .a])])]]]
theorem aje{l:D9}{g:Gr}(hl:H l=some (.l Y))(dJ:bq H Y cs)(hm:H m=some (.l<|nums g.2.2))(cN:g.2.2≠ [])(cG:∀k∈g.2.2,k<cs.length)(hF:H F=some (.l ws))(nX:bq H ws ds)(hn:ds.length<=1000)(hD:∀(EB:ld)(Q8:ad) I,aH F H I->I F=some (.l Q8)->bq I Q8 (ds++[TQ cs g])->D.nx [some<|.r l,u1,some<|.i (g.1:Nat),some<|.i (g.2.1:Nat),u4,u5,u6,u7,some<|.r m,some<|.r F,EB] I):
  aw (aP K E) Q7 D [some<|.r l,u1,some<|.i (g.1:Nat),some<|.i (g.2.1:Nat),u4,u5,u6,u7,some<|.r m,some<|.r F,gQ] H:=by
 have lw:=Id nX;have jP:=hm;rw[QZ] at jP;refine aJ<|aD<|ae rfl<|i6<|af<|ae rfl<|ao ⟨_,ak.of jP,by simpa using cN,λx hx Ey=>?_⟩;rw[Q0 cN hx Ey];have hk:=cG _ (Eo cN).1;have hc:cs[least g.2.2]?=some cs[least g.2.2]:=VP hk;obtain⟨v,hv,tc,rfl,jZ⟩:=Em dJ hc;refine fo hl (gu hv) ?_;have eo:TQ cs g=(if g.2.2.length=1 then cs[least g.2.2] else if (cs[least g.2.2]).2.1< (cs[least g.2.2]).1 then (g.2.1,g.1,none) else (g.1,g.2.1,none)):=by
  delta TQ;rw[hc,Option.getD_some]
 have ln:(nums g.2.2).length=g.2.2.length:=by delta nums;rw[VH]
 refine bh<|bf<|gf<|ae rfl<|.inl ⟨_,ak.of hm,ah<|gO ⟨_,rfl,?_⟩⟩;rw[ln];have new:∀a b:Nat,TQ cs g=(a,b,none)->∀(t':D9),H t'=none->D.nx [some<|.r l,u1,some<|.i (g.1:Nat),some<|.i (g.2.1:Nat),u4,u5,u6,u7,some<|.r m,some<|.r F,some<|.r tc] (upd (upd H t'<|.t [.i (a:Nat),.i (b:Nat),.a]) F<|.l<|ws++[.r t']):=by
  intro a b e t' ft;have s1:=Xo (o:=.t [V.i (a:Nat),V.i (b:Nat),V.a]) ft;have nt:t'≠F:=λz=>by rw[z,hF] at ft;cases ft
  have b2:aH F (upd H t'<|.t [.i (a:Nat),.i (b:Nat),.a]) (upd (upd H t'<|.t [.i (a:Nat),.i (b:Nat),.a]) F<|.l<|ws++[.r t']):=aH.upd;have bb:=(pH s1 (c:=F)).trans b2;refine hD _ (ws++[.r t']) _ bb au ?_;rw[e];exact hU (Paired.fJ nX λZ Z x=>x.but hF bb) ⟨t',rfl,b2 _ _ au nt⟩
 by_cases e:g.2.2.length=1;rw[GT e] at eo;refine iT ?_<|ZA al;refine eQ<|gC<|ae rfl ⟨.inl ⟨rfl,_,ak.of hF⟩,ae rfl ⟨ws,hF,bR al,?_⟩⟩;have bb:aH F H (upd H F<|.l<|ws++[.r tc]):=aH.upd;refine hD _ (ws++[.r tc]) _ bb au ?_;rw[eo];exact hU (Paired.fJ nX λZ Z x=>x.but hF bb)<|gP.but ⟨tc,rfl,jZ⟩ hF bb;rw[GM e] at eo;refine iF ?_<|XZ al;refine bh<|bf<|aD<|ae rfl<|ah<|az jZ rfl<|aD<|ae rfl<|ah<|az jZ rfl<|Um ⟨_,rfl,?_⟩;by_cases b:(cs[least g.2.2]).2.1< (cs[least g.2.2]).1;rw[GT b] at eo;refine iT ?_<|ZA al;refine eQ<|gC<|ae rfl ⟨.inl ⟨rfl,_,ak.of hF⟩,eO<|af<|ae rfl<|af<|ae rfl<|af<|ah<|ao ⟨eE,λt' f'=>?_⟩⟩;exact⟨ws,Xo f' _ _ hF,bR al,new _ _ eo t' f'⟩;rw[GM b] at eo;refine iF ?_<|XZ al;refine eQ<|gC<|ae rfl ⟨.inl ⟨rfl,_,ak.of hF⟩,eO<|af<|ae rfl<|af<|ae rfl<|af<|ah<|ao ⟨eE,λt' f'=>?_⟩⟩;exact⟨ws,Xo f' _ _ hF,bR al,new _ _ eo t' f'⟩
theorem x6(U:ad)(H:Hp)(Q:VK)(E:XK)(hh:i_ U H Q E):aw (aP K E) jq (Dn Q) (ZQ amV U) H:=by
 obtain⟨l,Y,j,rfl,hl,dJ,hn,q⟩:=hh;have lx:Y.length=j.length:=Id dJ;refine aJ<|du<|ao ⟨Wy _,λG fG=>?_⟩;generalize zz:upd _ G _=H0;have s0:=eL fG zz;have Q9:=eM zz;have v9:=s0 _ _ hl;have Q_:=dJ.same s0;refine D7 (body:=Tn)<|QU<|af ?_;refine tY _ O l O (qY _ (ak.of v9)) ?_;refine QS v9 al (λi ys L=>Paired (V3 L) ys<|gh 0<|j.take i) .nil (λi ys L H3 p s=>Paired.fJ p (by rintro v t ⟨a,e,h⟩;exact qF a e (s _ _ h))) ?_ ?_;intro i x ys L hx s2 p Q' kk;obtain⟨c,hc,t,rfl,ht⟩:=mf Q_ hx;have eK:L t=some (.t [.i (c.1:Nat),.i (c.2.1:Nat),gV c.2.2]):=s2 _ _ ht;have hi:i<j.length:=(ZX.mp hc).1;refine eO<|af<|uV<|af<|QM<|ae O<|ah ⟨2,O,.inr ⟨_,aM.of eK,Q6,λc1 f1=>ao (q8 c1 [(c.1:Int),(c.2.1:Int)] O (aM.of au) ap (λmn b' Ra=>?_))⟩⟩;have M:=Xo (o:=.t (ig [V.i (c.1:Nat),V.i (c.2.1:Nat),gV c.2.2] none<|some 2)) f1;have qU:=M _ _ eK;refine af<|ajd<|af<|QM<|ae O<|ah ⟨2,O,.inr ⟨_,aM.of qU,Q6,λc2 f2=>ao (q8 c2 [(c.1:Int),(c.2.1:Int)] O (aM.of au) ap (λmx a' Rb=>?_))⟩⟩;have s4:=Xo (o:=.t (ig [V.i (c.1:Nat),V.i (c.2.1:Nat),gV c.2.2] none<|some 2)) f2;have e1:mn=((min c.1 c.2.1:Nat):Int):=by
  have a1:=Ra (c.1:Int) ap;have a2:=Ra (c.2.1:Int) ap;simp only[UA,nB,LE] at b';lia
 have e2:mx=((max c.1 c.2.1:Nat):Int):=by
  have a1:=Rb (c.1:Int) ap;have a2:=Rb (c.2.1:Int) ap;simp only[UA,nB,LE] at a';lia
 rw[e1,e2];refine af<|ae O<|ao ⟨eE,λT0 fT=>?_⟩;have s5:=Xo (o:=.t [V.i (min c.1 c.2.1:Nat),V.i (max c.1 c.2.1:Nat),V.i (i:Nat)]) fT;have Rc:=(M.trans s4).trans s5;refine kk _ _ Rc ?_;rw[iK hc,QN,VI,WE,VO (show i<=j.length by lia)];exact hU (Paired.fJ p (by rintro v t ⟨a,e,h⟩;exact qF a e (Rc _ _ h))) (qF T0 O au);intro ys L p2 s2 p f2;rw[lx,Vo<|mZ _] at p;have M:=Xo (o:=.l ys) f2;refine ao (uM p2 ys (gh 0 j) O (ak.of au) (Paired.fJ p (by rintro v t ⟨a,e,h⟩;exact qF a e (M _ _ h))) (UN 0 j) ⟨by rw[rS];exact hn,λd n u fO p3 pm pw=>?_⟩);have S:eJ j u:=⟨pm,pw⟩;have s4:=Xo (o:=.l n) fO;have Z:=(s2.trans M).trans s4;have nO:d≠G:=λz=>by rw[z,(s2.trans M) _ _ Q9] at fO;cases fO
 have hO:(upd (upd L p2<|.l ys) d<|.l n) d=some (.l n):=au;have p4:Paired (V3<|upd (upd L p2<|.l ys) d<|.l n) n u:=Paired.fJ p3 (by rintro v t ⟨a,e,h⟩;exact qF a e (s4 _ _ h));generalize (upd (upd L p2<|.l ys) d<|.l n)=H3 at Z hO p4⊢;have Rf:=Z _ _ Q9;have pK:=Z _ _ v9;have QY:=Q_.same Z;have lu:u.length=j.length:=by rw[pm.length_eq,rS]
 have lz:n.length=u.length:=Id p4;have nl:l≠G:=a_ hl fG;refine qT d O (qY _ (ak.of hO)) (ic (K:=K) (a:=d) (xs:=n) (λi J w=>∃(D:ad)(C B X W T R A:ld),J=[some<|.r l,some<|.r G,C,B,X,W,T,R,A,none,none]/\aH G H3 w/\w G=some (.l D)/\fH .l G w D (groups<|u.take i)) ?_ ?_ ?_ ?_);exact qY [] ⟨none,none,none,none,none,none,none,O,pH<|aq.refl _,Rf,.nil⟩;rintro i J w _ ⟨D,C,B,X,W,T,R,A,rfl,P,_⟩;exact ak.of<|P _ _ hO nO;rintro i x J w hi ⟨D,C,B,X,W,T,R,A,rfl,P,hG,gv⟩;obtain⟨t,ht,T0,rfl,hT⟩:=pJ p4 hi;have nT:T0≠G:=λz=>by rw[z,Rf] at hT;cases hT
 refine QL (P _ _ hT nT) ?_;obtain⟨c,k⟩:=uf S (zG ht);have bd:=zK (u.take i);have li:(u.take i).length<=64:=by rw[WE];lia
 refine ajb k hG gv al (λg hg=>by have:=bd.1 g hg;lia) λz5 z6 z7 z8 dA H6 b6 Eu Ew=>qY dA ⟨_,_,_,z5,z6,z7,z8,O,P.trans b6,Eu,?_⟩;rw[iK ht,QP];exact Ew;rintro J w ⟨D,C,B,X,W,T,R,A,rfl,P,hG,gv⟩;rw[lz,Vo<|mZ _] at gv;have bd:=zK u;have lg:D.length=(groups u).length:=Id gv;have sH:aq H w:=λb o e=>P _ _ (Z _ _<|s0 _ _ e) (a_ e fG);have c':=sH _ _ hl;have f':=dJ.same sH;refine aJ<|du<|ao ⟨Wy _,λF fF=>?_⟩;have s6:=Xo (o:=.l []) fF;refine D7 (body:=Q7)<|ae O ⟨G,O,⟨_,ak.of<|s6 _ _ hG⟩,ic (K:=K) (a:=G) (xs:=D) (λi J I=>∃(N:ad)(C B A EB:ld),J=[some<|.r l,some<|.r G,C,B,X,W,T,R,A,some<|.r F,EB]/\aq w I/\I F=some (.l N)/\bq I N (((groups u).take i).map<|TQ j)) ?_ ?_ ?_ ?_⟩;exact qY [] ⟨C,B,A,none,O,s6,au,.nil⟩;rintro i J I _ ⟨N,z2,z3,z8,Rg,rfl,f,_⟩;exact ak.of<|f _ _ hG;rintro i x J I hi ⟨N,z2,z3,z8,Rg,rfl,f,hF,ds⟩;obtain⟨g,hg,T0,m,rfl,hT,hm,_,_⟩:=pJ gv hi;have ok:=Q2 S g (zG hg);refine Q3 (f _ _ hT) ?_;refine aje (f _ _ c') (f'.same f) (f _ _ hm) ok.1 ok.2 hF ds (by rw[VH,WE];lia) λy oU H8 b8 d' e'=>qY oU ⟨_,_,_,y,O,λb o e=>b8 _ _ (f _ _ e)<|a_ e fF,d',?_⟩;rw[iK hg,Xn];exact e';rintro J I zq;obtain⟨N,z2,z3,z8,Rg,zq⟩:=VL zq;obtain⟨rfl,f,hF,ds⟩:=l5 zq;rw[lg,Vo<|mZ _] at ds;exact aS<|ae O<|q u F N I S (sH.trans f) (sH.free fF) hF ds
end
theorem ajm{Q:ad->Hp->D9->Prop}{r:TE}{b:D9}(j:H a=some (.l Y))(h:H b=some (.l ys))(U:Y.length<=1000000)(P:Nat->ad->Hp->Prop)(D:P 0 [] H)(B:∀i c L d,P i c L->aq L d->P i c d)(e:∀i x y c L,Y[i]?=some x->ys[i]?=some y->aq H L->P i c L->∀u:VK,(∀z d,aq L d->P (i+1) (c++[z]) d->u z d)->r (some x::some y::bJ J fv) L u)(R:∀c L p,aq H L->P (min Y.length ys.length) c L->L p=none->Q c L p):∃W:Nat->Nat->ad->Hp->Prop,(∃m,W 0 m [] H)/\∀i m c L,W i m c L->
   ((ky K a b).stop i L/\∀p,L p=none->Q c L p)\/
   ((ky K a b).go i L/\∀x d,(ky K a b).dH i L x d->gZ K (some 2) x d λw=>iU none (w.map some++bJ J fv) d λb v=>
    if b=true then r (w.map some++bJ J fv) v λy S=>c.length<sizeLine/\∃f,f<m/\W (i+1) f (c++[y]) S else ∃f,f<m/\W (i+1) f c v):=by
 refine qF (λi m c L=>m=min Y.length ys.length - i/\i<=min Y.length ys.length/\c.length=i/\aq H L/\P i c L) (uO _ O (Wy _) O (aq.refl _) D) ?_;rintro i m c L zq;obtain⟨rfl,X,E,s,p⟩:=V_ zq;by_cases M:i<min Y.length ys.length;have n:i<Y.length:=by lia
 have k:i<ys.length:=by lia
 refine .inr ⟨q8 Y ys (ak.of<|s _ _ j) (ak.of<|s _ _ h) n k,?_⟩;rintro x d ⟨N,T,rfl,F⟩;have V:=F Y ys Y[i] ys[i] (ak.of<|s _ _ j) (ak.of<|s _ _ h) (VP n) (VP k);subst V;have g:=Xo (o:=.t [Y[i],ys[i]]) T;refine q8 N _ O (aM.of au) O ?_;exact e i Y[i] ys[i] c _ (VP n) (VP k) (s.trans g) (B _ _ _ _ p g) _ λy Z A C=>tR (bR al) (min Y.length ys.length - (i+1)) al ⟨O,M,by simp[E],(s.trans g).trans A,C⟩;have I:i=min Y.length ys.length:=cV X (ZK M)
 subst I;exact .inl ⟨rC Y ys (ak.of<|s _ _ j) (ak.of<|s _ _ h) O,λq G=>R c _ q s p G⟩
def We(s:ii):Prop:= ∀i c d,s[i]?=some c->s[i+1]?=some d->near (min c.1 c.2.1) (max c.1 c.2.1) (min d.1 d.2.1) (max d.1 d.2.1)=false
theorem ajn(Y:ad):ig Y (some 1) none=Y.drop 1:=by
 delta ig;have h:=HT.qk Y.length 0 1;rw[show((1:Nat):Int)=1 from O] at h;rw[h,HT.Vv];by_cases z:1<=Y.length;rw[VO z,Vo (by rw[Xh];exact mZ _)];have:Y=[]:=Ww al;subst this;rfl
section
variable{K:Frag}
inductive hV(U:ad)(H:Hp)(Q:VK)(E:XK):Prop|i(n:Nat)(l:D9)(Y:ad)(s:ii)(_:U=[.i n,.r l])(_:H l=some (.l Y))(_:bq H Y s)(_:1<=s.length)(_:s.length<=40)(_:(∀c∈s,c.1<=n/\c.2.1<=n))(_:We s)(_:∀I,aq H I->Q .a I)
theorem ajo{CE:D9}(U:ad)(H:Hp)(Q:VK)(E:XK)(T:hV U H Q E):aw (aA K [("is_cursor",Ef),("meet",wx),("begin_of",i8),("end_of",lj)] [("MOST_CURSORS",.i 40)] (et:=[("NoCursor",CE)]) (E:=E)) Lj (Dn Q) (ZQ Li U) H:=by
 obtain⟨n,l,Y,cs,rfl,h,J,h1,h2,cG,G,q⟩:=T;have lx:Y.length=cs.length:=Id J;refine bh<|j9<|eR<|DQ<|ae O<|CW h<|iF ?_ O;refine eR<|Hh<|air<|ah<|gf<|ae O<|.inl ⟨_,ak.of h,D_ ⟨_,O,iT (m5<|D_ ⟨_,O,?_⟩)<|ZA al⟩⟩;rw[show decide (((Y.length:Nat):Int)<=40)=true from ZA al];refine iF (bL ?_) O;refine bh<|eR<|ait<|af<|k7<|ae O ⟨l,O,⟨_,ak.of h⟩,?_⟩;refine l8 h al (λi ys _=>ys=(List.replicate i true).map V.b) O ?_ ?_;intro i x ys L j f e Q' k;obtain⟨c,u,t,rfl,m⟩:=mf J j;have b:=cG c (zG u);refine aC Ef O<|af<|ae O<|af<|ae O<|ao ⟨t,_,_,_,n,O,f _ _ m,b.1,b.2,k _ _ (aq.refl _) ?_⟩;rw[e,U0,Xn];rfl;intro ys L C f e f2;subst e;have N:=Xo (o:=.l ((List.replicate Y.length true).map V.b)) f2;refine ao (rC C (List.replicate Y.length true) O (ak.of au) (eT<|iF (bL ?_) ap));have g:=f.trans N;have a:=g _ _ h;generalize upd L C (.l<|(List.replicate Y.length true).map V.b)=H3 at g a⊢;refine bh<|aiu<|af ?_;refine sV _ O _ O _ O (.inl (qF _ (ak.of a) (λw F=>q8 l w O (qY _ (ak.of<|Xo F _ _ a)) ⟨_,ak.of au⟩ ?_)));rw[ajn];generalize zz:upd _ w _=H4;have B:=eL F zz;have S:=eM zz;have r:=B _ _ a;have v:=g.trans B;refine ajm r S al (λi z _=>z=(List.replicate i false).map V.b) O (λ_ _ _ _ p _=>p) ?_ ?_;intro i x y z H5 j D s e Q' k;rw[Y3,Nat.add_comm] at D;obtain⟨c,u,t,rfl,m⟩:=mf J j;obtain⟨d,W,I,rfl,X⟩:=mf J D;have R:=s _ _ (v _ _ m);have A:=s _ _ (v _ _ X);refine aC wx O<|af<|aC i8 O<|af<|ae O<|ao ⟨t,_,_,_,O,R,af<|aC lj O<|af<|ae O<|ao ⟨t,_,_,_,O,R,af<|ae O<|ao ⟨_,_,I,_,_,_,O,A,?_⟩⟩⟩;rw[G i c d u W];refine k _ _ (aq.refl _) ?_;rw[e,U0,Xn];rfl;intro z H5 P s e Z;subst e;have M:=Xo (o:=.l ((List.replicate (min Y.length (Y.drop 1).length) false).map V.b)) Z;refine ao (rC P (List.replicate (min Y.length (Y.drop 1).length) false) O (ak.of au) (eT<|iF ?_ ap));exact q _<|(v.trans s).trans M
end
def bg(c:Cu):Nat:=min c.1 c.2.1
def en(c:Cu):Nat:=max c.1 c.2.1
theorem EC(c:Cu):bg c<=en c:=by delta bg en;lia
theorem ED{l e:Nat}(c:l<=i)(a:b<=e)(h:near l i b e=false):i<=b/\l<b:=by
 delta near at h;split at h;rw[Zy] at h;have:=XL h.1;lia;have:=XL h;lia
theorem ajr{l e:Nat}(h:i<b):near l i b e=false:=by
 delta near;rw[GM (mK h)];exact XZ (oY (Yl h))
theorem yN{l e:Nat}(d:b<=e)(c:e<=a)(h:near l i b e=false):near l i b a=false:=by
 delta near at h⊢;split;rename_i z;rw[GT z,Zy] at h;have:=XL h.2;rw[Zy];exact⟨h.1,XZ al⟩;rename_i z;rw[GM z] at h;exact h
def nz(s:ii):Prop:=s.Pairwise λc d=>near (bg c) (en c) (bg d) (en d)=false
theorem nz.apart{s:ii}(h:nz s):We s:=by
 intro i c d b a;obtain⟨f,j⟩:=ZX.mp b;obtain⟨e,g⟩:=ZX.mp a;have:=Xp.mp h i (i+1) f e (VY _);rw[j,g] at this;exact this
theorem nz.rise{s:ii}(h:nz s):s.Pairwise λc d=>bg c<bg d:=List.Pairwise.imp (λ{c d} x=>(ED (EC c) (EC d) x).2) h
def GI(s:ii)(n:Nat)(g:Gr):Prop:=g.1<=g.2.1/\g.2.1<=n/\g.2.2≠ []/\∀k,g.2.2=[k]->∃c,s[k]?=some c/\g.1=bg c/\g.2.1=en c
def EE(a b:Gr):Prop:=near a.1 a.2.1 b.1 b.2.1=false
theorem ajt{s:ii}{t:T3}(k:ny s t c)(h:en c<=n):GI s n (t.1.toNat,t.2.1.toNat,[t.2.2.toNat]):=by
 have d:t.1.toNat=bg c:=by rw[k.e1];exact Yx _
 have b:t.2.1.toNat=en c:=by rw[k.e];exact Yx _
 refine⟨?_,?_,ap,λm f=>?_⟩;show t.1.toNat<=t.2.1.toNat;rw[d,b];exact EC c;show t.2.1.toNat<=n;rw[b];exact h;cases f;exact⟨c,k.a,d,b⟩
theorem Ri(r:ii)(n:Nat):∀(u:wn)(s:AC),(∀t∈u,∃c,ny r t c/\en c<=n)->(∀g∈s,GI r n g)->s.Pairwise EE->(∀g∈u.foldl bA s,GI r n g)/\(u.foldl bA s).Pairwise EE:=by
 intro l;induction l with
 |nil=>
  rintro s Y e i;exact⟨e,i⟩
 |cons t u C=>
  rintro s v e i;obtain⟨c,k,E⟩:=v t (.head _);have j:=ajt k E;refine C _ (λx D=>v x<|.tail _ D) ?_ ?_;delta bA;split;intro g h;rcases U6.mp h with h|h
  exact e g h;rw[jS.mp h];exact j;rename_i f e0;split;intro g h;rcases U6.mp h with h|h
  exact e g (Y0 _ h);rw[jS.mp h];have w:=e f (UQ e0);refine⟨?_,?_,ap,λm A=>?_⟩;show f.1<=max f.2.1 t.2.1.toNat;have:=w.1;lia;show max f.2.1 t.2.1.toNat<=n;have:=w.2.1;have:=j.2.1;have G:t.2.1.toNat<=n:=this;lia;have F:=IR List.length A;have N:=w.2.2.1;cases z:f.2.2 with
  |nil=>exact absurd z N
  |cons a b=>
   have P:f.2.2++[t.2.2.toNat]=[m]:=A;rw[z] at P;simp at P
  intro g h;rcases U6.mp h with h|h
  exact e g h;rw[jS.mp h];exact j;rcases Xr s with o|⟨B,g,o⟩
  subst o;exact Zp _ _;rw[T_] at o;subst o;have h:=e g ap;have p:=ZT.mp i;delta bA;rw[show(B++[g]).getLast?=some g by simp];show List.Pairwise EE (if near g.1 g.2.1 t.1.toNat t.2.1.toNat=true then _ else _);split;rw[UH];refine ZT.mpr ⟨p.1,Zp _ _,λa d b q=>?_⟩;rw[jS.mp q];exact yN h.1 (Nat.le_max_left _ _)<|p.2.2 a d g<|.head _;rename_i nn;have R:near g.1 g.2.1 t.1.toNat t.2.1.toNat=false:=by simpa using nn
  refine ZT.mpr ⟨i,Zp _ _,λa d b q=>?_⟩;rw[jS.mp q];rcases U6.mp d with d|d
  have x:=ED (e a<|Zn _ d).1 h.1 (p.2.2 a d g<|.head _);have y:=ED h.1 (show t.1.toNat<=t.2.1.toNat from j.1) R;exact ajr (show a.2.1<t.1.toNat by lia);rw[jS.mp d];exact R
theorem ui{s:ii}(h:GI s n g):bg (TQ s g)=g.1/\en (TQ s g)=g.2.1:=by
 obtain⟨a,b,c,d⟩:=l5 h;delta TQ;by_cases e:g.2.2.length=1;obtain⟨k,f⟩:=List.length_eq_one_iff.mp e;obtain⟨x,i,l,j⟩:=d k f;simp only[f,Xv,No];show bg ((s[k]?).getD _)=g.1/\en ((s[k]?).getD _)=g.2.1;rw[i];exact⟨l.symm,j.symm⟩;simp only[e,Op];split;exact⟨by show min g.2.1 g.1=g.1;lia,by show max g.2.1 g.1=g.2.1;lia⟩;exact⟨by show min g.1 g.2.1=g.1;lia,by show max g.1 g.2.1=g.2.1;lia⟩
theorem Vh(g:AC)(t:T3):bA g t≠ []:=by
 delta bA;split;simp;split<;>simp
theorem WR:∀(u:wn)(g:AC),(u≠ []\/g≠ [])->u.foldl bA g≠ []:=by
 intro l;induction l with
 |nil=>
  rintro g h;rcases h with h|h;exact absurd O h;exact h
 |cons t u i=>
  rintro g Y;exact i _<|.inr<|Vh g t
structure ajw(cs ds:ii)(n:Nat):Prop where
 uj:nz ds
 p:∀c∈ds,c.1<=n/\c.2.1<=n
 len:ds.length<=cs.length
 ne:cs≠ []->ds≠ []
theorem uk{s:ii}(S:eJ s u)(l:∀c∈s,c.1<=n/\c.2.1<=n):ajw s (WJ s u) n:=by
 obtain⟨e,p⟩:=Ri s n u [] (λt j=>by
  obtain⟨c,k⟩:=uf S j;have:=l c (zG k.a);exact⟨c,k,by unfold en;lia⟩) (λg d=>by cases d) List.Pairwise.nil
 refine⟨?_,?_,?_,?_⟩;unfold nz WJ;rw[Vi];refine Z9 (λ{a b} i f x=>?_) p;rw[(ui<|e a i).1,(ui<|e a i).2,(ui<|e b f).1,(ui<|e b f).2];exact x;intro c m;obtain⟨g,d,rfl⟩:=Zv.mp m;have o:=ui (e g d);have:=(e g d).2.1;unfold en at o;lia;unfold WJ;rw[VH];have:=(QX u [] 0 (λg d=>by cases d)<|mZ _).2;rw[S.1.length_eq,rS] at this;unfold groups;lia;intro h;have:u≠ []:=λz=>by
  have:=S.1.length_eq;rw[z,rS] at this;exact h<|Ww this.symm
 unfold WJ;intro z;exact WR u [] (.inl this)<|List.map_eq_nil_iff.mp z
theorem Rk:∀{c s:ii},c.Perm s->(c.Pairwise λa b=>bg a<bg b)->(s.Pairwise λa b=>bg a<bg b)->c=s
 |[],s,h,_,_=>(List.nil_perm.mp h).symm
 |u::c,[],h,_,_=>absurd h.length_eq ap
 |u::c,w::s,h,f,d=>by
  have e:u=w:=by
   by_cases z:u=w;exact z;have i:u∈s:=by
    rcases UA.mp (h.subset<|.head _) with x|x
    exact absurd x z;exact x
   have g:w∈c:=by
    rcases UA.mp (h.symm.subset<|.head _) with x|x
    exact absurd x.symm z;exact x
   have a:=(ZR.mp d).1 u i;have b:=(ZR.mp f).1 w g;exact (yx _ (Xa b a)).elim
  subst e;rw[Rk (List.Perm.cons_inv h) (ZR.mp f).2 (ZR.mp d).2]
noncomputable def yX(c:ii)(t:T3):Cu:=(c[t.2.2.toNat]?).getD (0,0,none)
theorem PM:∀(s p:ii),(gh p.length s).map (yX<|p++s)=s:=by
 intro l;induction l with
 |nil=>
  rintro p;exact O
 |cons c s i=>
  rintro p;show yX (p++c::s) (Ur c p.length)::(gh (p.length+1) s).map _=_;have h:=i (p++[c]);rw[Zw,UR] at h;rw[show(gh (p.length+1) s).map (yX (p++c::s))=s from h];congr 1;show((p++c::s)[((p.length:Nat):Int).toNat]?).getD _=c;rw[Yx];simp
noncomputable def ZY(t:T3):Gr:=(t.1.toNat,t.2.1.toNat,[t.2.2.toNat])
theorem ajy:∀(u a:wn),((a++u).Pairwise λt b=>near t.1.toNat t.2.1.toNat b.1.toNat b.2.1.toNat=false)->u.foldl bA (a.map ZY)=(a++u).map ZY:=by
 intro l;induction l with
 |nil=>
  rintro a Y;simp
 |cons t u i=>
  rintro a h;have e:bA (a.map ZY) t=(a++[t]).map ZY:=by
   rw[Xn];delta bA;split;rfl;rename_i g d;obtain⟨p,c,rfl⟩:=Zv.mp (UQ d);have:=(ZT.mp h).2.2 p c t (.head _);rw[GM];rfl;show ¬near p.1.toNat p.2.1.toNat t.1.toNat t.2.1.toNat=true;rw[this];simp
  show u.foldl bA (bA (a.map ZY) t)=_;rw[e,i (a++[t]) (by rw[UR];exact h),UR];rfl
theorem ajz(F:nz d)(P:h.Perm d)(S:eJ h u):WJ h u=d:=by
 have v:∀t∈u,ny h t (yX h t):=λt B=>by
  obtain⟨c,k⟩:=uf S B;have e:yX h t=c:=by unfold yX;rw[k.a];rfl
  rw[e];exact k
 have D:(u.map<|yX h).Perm h:=by
  have:=PM h [];have p:=S.1.map (yX h);rw[show(gh 0 h).map (yX h)=h from this] at p;exact p
 have q:=D.trans P;have w:(u.map<|yX h).Pairwise λa b=>bg a<=bg b:=by
  rw[Vi];refine Z9 (λ{a b} j i x=>?_) S.2;have g:=(v a j).e1;have f:=(v b i).e1;have l:=tm.mp x;unfold bg;lia
 have s:(u.map<|yX h).Pairwise λa b=>bg a≠bg b:=by
  have A:(d.map bg).Nodup:=by
   rw[List.nodup_iff_pairwise_ne,Vi];exact List.Pairwise.imp (λx=>V9 x) F.rise
  have o:=(q.map bg).nodup_iff.mpr A;rw[List.nodup_iff_pairwise_ne,Vi] at o;exact o
 have r:(u.map<|yX h).Pairwise λa b=>bg a<bg b:=List.Pairwise.imp₂ (λY Y x y=>Nat.lt_of_le_of_ne x y) w s;have e:=Rk q r F.rise;have z:u.Pairwise λt n=>near t.1.toNat t.2.1.toNat n.1.toNat n.2.1.toNat=false:=by
  have m:=F;unfold nz at m;rw[<-e,Vi] at m;refine Z9 (λ{a b} j i x=>?_) m;have g:=v a j;have f:=v b i;rw[g.e1,g.e,f.e1,f.e,Yx,Yx,Yx,Yx];exact x
 have C:groups u=u.map ZY:=ajy u [] z;unfold WJ;rw[C,Ti];exact e
theorem ajA(F:nz d)(S:eJ d u):WJ d u=d:=ajz F (List.Perm.refl _) S
section
variable{K:Frag}
inductive EF(U:ad)(H:Hp)(Q:VK)(E:XK):Prop|i(c:Int)(n:Nat)(_:U=[.i c,.i n])(_:∀t a h g I,aq H I->i7 I t a h g->a<=n->h<=n->Q (.r t) I)
theorem Rl:∃a:Nat,c % ((n:Nat)+1:Int)=(a:Nat)/\a<=n:=by
 have b:=Yo c (show((n:Nat)+1:Int)≠0 by lia);have h:=Vy c (show(0:Int) < (n:Nat)+1 by lia);exact⟨(c % ((n:Nat)+1:Int)).toNat,al,al⟩
abbrev n5(K:Frag)(E:XK):aV:=aA K [("_law_mixed",kN)] [] (E:=E)
theorem ajB(U:ad)(H:Hp)(Q:VK)(E:XK)(G:EF U H Q E):aw (n5 K E) CL (Dn Q) (ZQ LZ U) H:=by
 obtain⟨c,n,rfl,q⟩:=G;refine aJ<|aC kN O<|af<|ae O<|af<|ah<|ao ⟨_,_,O,?_⟩;have F:=(CU c 3).1;generalize mixed c 3=m at F⊢;have u:(0:Int) < (n:Nat)+1:=by lia
 refine aJ<|aD<|du<|af<|aI<|ae O<|aI<|ae O<|ah<|bU ⟨u,?_⟩;refine af<|ah<|af<|ae O<|af<|aI<|aI<|ae O<|ah ⟨⟨ax,ax⟩,aI<|ae O<|ah<|bU ⟨u,ao ⟨Fz,λl k=>?_⟩⟩⟩;have r:=Xo (o:=.l [V.i<|m % ((n:Nat)+1:Int),V.i 0,V.i (n:Nat),V.i<|m / 7 % ((n:Nat)+1:Int)]) k;obtain⟨v,b,p⟩:=Zx (D':=[V.i<|m % ((n:Nat)+1:Int),V.i 0,V.i (n:Nat),V.i<|m / 7 % ((n:Nat)+1:Int)]) (j:=m / 5 % 4) (Yo _ ax) (Vy _ ax);obtain⟨a,rfl,B⟩:∃a:Nat,v=.i a/\a<=n:=by
  simp only[UA,nB,LE] at b;rcases b with rfl|rfl|rfl|rfl
  obtain⟨x,e,l⟩:=Rl (c:=m) (n:=n);exact⟨x,by rw[e],l⟩;exact⟨0,O,Wy _⟩;exact⟨n,O,mZ _⟩;obtain⟨x,e,l⟩:=Rl (c:=m / 7) (n:=n);exact⟨x,by rw[e],l⟩
 refine aI<|aI<|ae O<|ah ⟨⟨ax,ax⟩,ah ⟨(by show(0:Int) <4;decide),fo au p ?_⟩⟩;generalize upd H l (.l [V.i<|m % ((n:Nat)+1:Int),V.i 0,V.i (n:Nat),V.i<|m / 7 % ((n:Nat)+1:Int)])=M at r⊢;refine aJ<|i6<|af<|ah<|af<|i6<|af<|ae O<|af<|aI<|ae O<|aD<|du<|af<|ah<|af<|ah<|af<|ah<|af<|pE<|af<|ah<|af<|pE<|af<|ah<|af<|ae O<|ao ⟨SY,λC f=>?_⟩;have s:=Xo (o:=.l [V.i 0,V.i 0,V.i 1,V.i<|-1,V.i 3,V.i<|-4,V.i 9,V.i (n:Nat)]) f;obtain⟨w,y,D⟩:=Zx (D':=[V.i 0,V.i 0,V.i 1,V.i<|-1,V.i 3,V.i<|-4,V.i 9,V.i (n:Nat)]) (j:=m / 23 % 8) (Yo _ ax) (Vy _ ax);obtain⟨d,rfl⟩:∃d:Int,w=.i d:=by
  simp only[UA,nB,LE] at y;rcases y with rfl|rfl|rfl|rfl|rfl|rfl|rfl|rfl<;>exact⟨_,O⟩
 refine aI<|aI<|ae O<|ah ⟨⟨ax,ax⟩,ah ⟨(by show(0:Int) <8;decide),fo au D<|bU<|ao ?_⟩⟩;obtain⟨h,A,J⟩:∃h:Nat,h<=n/\(if (if ((a:Nat):Int)+d< ((n:Nat):Int) then ((a:Nat):Int)+d else ((n:Nat):Int)) >0 then (if ((a:Nat):Int)+d< ((n:Nat):Int) then ((a:Nat):Int)+d else ((n:Nat):Int)) else (0:Int))=((h:Nat):Int):=by
  refine⟨(if (if ((a:Nat):Int)+d< ((n:Nat):Int) then ((a:Nat):Int)+d else ((n:Nat):Int)) >0 then (if ((a:Nat):Int)+d< ((n:Nat):Int) then ((a:Nat):Int)+d else ((n:Nat):Int)) else (0:Int)).toNat,?_,?_⟩;split<;>split<;>lia
  split<;>split<;>lia
 show aw _ (CL.drop 3) _ [some<|.i c,some<|.i n,some<|.i m,some<|.i a,some<|.i (if (if ((a:Nat):Int)+d< ((n:Nat):Int) then ((a:Nat):Int)+d else ((n:Nat):Int)) >0 then (if ((a:Nat):Int)+d< ((n:Nat):Int) then ((a:Nat):Int)+d else ((n:Nat):Int)) else (0:Int))] _;rw[J];generalize upd M C (.l [V.i 0,V.i 0,V.i 1,V.i<|-1,V.i 3,V.i<|-4,V.i 9,V.i (n:Nat)])=L at s⊢;have N:0<=m / 3 % 9:=Yo _ ax;refine aS<|eO<|af<|ae O<|af<|ae O<|af<|aD<|du<|af<|ah<|af<|ah<|af<|aI<|aI<|ae O<|ah ⟨⟨ax,ax⟩,ah ⟨(by show(0:Int) <9;decide),af<|ae O<|ao ⟨Fz,λl k=>?_⟩⟩⟩;have z:=Xo (o:=.l [V.a,V.a,V.i<|m / 3 % 9,V.i m]) k;obtain⟨v,b,p⟩:=Zx (D':=[V.a,V.a,V.i<|m / 3 % 9,V.i m]) (j:=m / 11 % 4) (Yo _ ax) (Vy _ ax);obtain⟨g,rfl⟩:∃g:lv,v=gV g:=by
  simp only[UA,nB,LE] at b;rcases b with rfl|rfl|rfl|rfl
  exact⟨none,O⟩;exact⟨none,O⟩;exact⟨some (m / 3 % 9).toNat,by show V.i _=V.i _;rw[show(((m / 3 % 9).toNat:Nat):Int)=m / 3 % 9 by lia]⟩;exact⟨some m.toNat,by show V.i _=V.i _;rw[show((m.toNat:Nat):Int)=m by lia]⟩
 refine aI<|aI<|ae O<|ah ⟨⟨ax,ax⟩,ah ⟨(by show(0:Int) <4;decide),fo au p<|ao ⟨eE,λt I=>?_⟩⟩⟩;exact q t a h g _ ((((r.trans s).trans z)).trans<|Xo I) au B A
def cD(c:Cu):PyData:=.tuple [.int (c.1:Nat),.int (c.2.1:Nat),gD c.2.2]
theorem ajE(c:Cu):(cD c).canLay0=true/\(cD c).depth<=1:=by
 obtain⟨a,h,g⟩:=c;cases g<;>exact⟨O,mZ _⟩
theorem ajF:∀(s:ii),PyData.canLayAll0 (s.map cD)=true/\PyData.depthAll (s.map cD)<=1:=by
 intro l;induction l with
 |nil=>
  exact⟨O,Wy _⟩
 |cons g r i=>
  obtain⟨a,b⟩:=ajE g;obtain⟨c,d⟩:=i;refine⟨?_,?_⟩;show((cD g).canLay0 && PyData.canLayAll0 (r.map cD))=true;rw[a,c];rfl;show max (cD g).depth (PyData.depthAll<|r.map cD)<=1;lia
theorem EG(s:ii):SeqAt.shaped (.list<|s.map cD)=true:=by
 obtain⟨c,d⟩:=ajF s;delta SeqAt.shaped;have e:(PyData.list<|s.map cD).canLay0=true:=c;have a:(PyData.list<|s.map cD).depth<=64:=by show PyData.depthAll (s.map cD)+1<=64;lia
 rw[e,ZA a];rfl
theorem Rm:∀{z:ad}{c:ii},bq H z c->IsL H (c.map cD) z:=by
 intro z c h;induction h with
 |nil=>exact O
 |cons x Y i=>
  obtain⟨t,rfl,a⟩:=x;exact⟨_,_,O,aiT a,i⟩
theorem ajG{b:D9}(e:H a=some (.l Y))(d:H b=some (.l ys))(x:bq H Y c)(h:bq H ys c)(q:Q (.b true) H):bW K .Eq (.r a) (.r b) H Q:=by
 refine⟨.list<|c.map cD,.list<|c.map cD,⟨a,Y,O,e,Rm x⟩,⟨b,ys,O,d,Rm h⟩,EG c,EG c,?_⟩;rw[SeqAt.eqv_refl _<|SeqAt.canLay_of_shaped<|EG c];exact q
abbrev wH(K:Frag):io:=[("_law_cell_at",qM K),("_law_cursor",EF),("_law_mixed",kN)]
noncomputable def EH:bv:=[.a 6 (.l 0 [.v 0,(.b .Add (.b .Add (.v 1) (.c (.i 1))) (.b .Mod (.v 5) (.c (.i 6))))]),
  .d (.Y .a (.v 4) [(.l 1 [(.b .Add (.l 2 [.v 6,(.b .FloorDiv (.v 5) (.c (.i 6)))]) (.v 5)),.v 2])])]
theorem wI(x:bq H U c)(h:H F=some (.l w))(b:aH F H I):bq I U c:=Paired.fJ x λY Y y=>gP.but y h b
abbrev oP(K:Frag)(E:XK):aV:=aA K (wH K) [] (E:=E)
theorem ajH{v:Nat}{L:D9}{x:sK}{j:ii}(N:ak K d a (x.map V.i))(w:aq d H)(P:d L=none)(B:H L=some (.l ys))(A:bq H ys j)(S:j.length<=1000)(k:∀(C:ld)(y:ad)(c:Cu)(I:Hp),aq d I->I L=some (.l y)->bq I y (j++[c])->c.1<=n->c.2.1<=n->D.nx [some<|.r a,some<|.i v,some<|.i n,u,some<|.r L,some<|.i (i:Nat),C] I):
  aw (oP K E) EH D [some<|.r a,some<|.i v,some<|.i n,u,some<|.r L,some<|.i (i:Nat),F] H:=by
 have Q:0<= ((i:Nat):Int) % 6:=Yo _ ax;refine aJ<|aC (qM K) O<|af<|ae O<|af<|aI<|aI<|ae O<|ah<|bU<|aI<|ae O<|ah ⟨(by show(0:Int) <6;decide),bU<|ao ⟨a,x,_,O,w.seq N,al,?_⟩⟩;refine eQ<|gC<|ae O ⟨.inl ⟨O,_,ak.of B⟩,aC EF O<|af<|aI<|aC kN O<|af<|ae O<|af<|aI<|ae O<|ah ⟨⟨ax,ax⟩,ao ⟨_,_,O,ae O<|bU<|af<|ae O<|ao ⟨_,n,O,λt a' h g p f b M J=>?_⟩⟩⟩⟩;have q:=f _ _ B;have R:=Id A;refine qT ys q (bR al) ?_;have m:aH L p (upd p L<|.l<|ys++[.r t]):=aH.upd;have G:t≠L:=λz=>by rw[z] at b;delta i7 at b;rw[q] at b;cases b
 have s:aq d (upd p L<|.l<|ys++[.r t]):=λc o e=>m c o (f _ _<|w _ _ e) (a_ e P);refine k _ (ys++[.r t]) (a',h,g) _ s au ?_ M J;exact hU (wI (A.same f) q m) (qF t O (m _ _ b G))
end
section
open PyProof.Rows
end
section
variable{K:Frag}
theorem Rn{Q:ad->Hp->D9->Prop}{t:TE}{j:TT}(f:V->Fk)(h:H a=some (.l Y))(C:Y.length<=1000000)(g:∀(x:V)(k:tz),x∈Y->k (f x) H->j (some x::bJ J fv) H k)(e:∀(x:V)(k:VK),x∈Y->k x H->t (some x::bJ J fv) H k)(A:∀p,H p=none->Q (Y.filter f) H p):∃W:Nat->Nat->ad->Hp->Prop,(∃m,W 0 m [] H)/\∀i m ys L,W i m ys L->
   ((cX K a).stop i L/\∀p,L p=none->Q ys L p)\/
   ((cX K a).go i L/\∀x d,(cX K a).dH i L x d->gZ K none x d λz=>iU (some j) (z.map some++bJ J fv) d λb s=>
    if b=true then t (z.map some++bJ J fv) s λy B=>ys.length<sizeLine/\∃c,c<m/\W (i+1) c (ys++[y]) B else ∃c,c<m/\W (i+1) c ys s):=by
 refine qF (λi m ys L=>m=Y.length - i/\i<=Y.length/\ys=(Y.take i).filter f/\L=H) (tG _ O (Wy _) O O) ?_;rintro i m ys L ⟨rfl,D,rfl,rfl⟩;by_cases F:i<Y.length;refine .inr ⟨rP Y (Y[i]) (ak.of h) (by simp[F]),?_⟩;rintro x d ⟨rfl,u⟩;have R:=u Y (ak.of h);have n:=zG R;have r:(Y.take<|i+1).filter f=(Y.take i).filter f++[x].filter f:=by rw[iK R,YF]
 refine g x _ n ?_;cases o:f x with
 |true=>
  refine iT ?_ O;refine e x _ n (tR (bR ?_) (Y.length - (i+1)) al ⟨O,F,?_,O⟩);have:=U5 f (Y.take i);rw[WE] at this;lia;rw[r];simp[o]
 |false=>
  refine iF (uO (Y.length - (i+1)) al O F ?_ O) O;rw[r];simp[o]
 have w:i=Y.length:=cV D (ZK F)
 subst w;refine .inl ⟨qF Y (ak.of h) (mZ _),λq v=>?_⟩;rw[Vo<|mZ _];exact A q v
theorem ajK{r:bv}{y:RE}(h:aO B [x,y] J H λU e=>∃a b,U=[.r a,.r b]/\(∃Y,ak B.K e a Y)/\(∃ys,ak B.K e b ys)/\∃W:Nat->Nat->St->Hp->Prop,(∃m,W 0 m J e)/\∀j m J H,W j m J H->
  ((ky B.K a b).stop j H/\({D with nx:=aw B r D}:Xt).nx J H)\/((ky B.K a b).go j H/\∃N:St->Hp->Prop,(∀g I,N g I->∃f,f<m/\W (j+1) f g I)/\∀x I,(ky B.K a b).dH j H x I->kA B.K i.length (jR i) x J I λd L=>aw B body {({D with nx:=aw B r D}:Xt) with nx:=N,c:=N,bk:=({D with nx:=aw B r D}:Xt).nx} d L)):
  aw B (.j i .z [x,y] body::r) D J H:=h
end
theorem U8(h:n<=l.length)(w:Wd):wm l n w<=l.length:=by
 have o:=wd (rN l n);cases w with
 |l=>show n - 1<=_;exact Ut (Z7 _ _) h
 |r=>show min l.length (n+1)<=_;lia
 |u=>exact Wy _
 |d=>exact Wy _
 |P=>show cR l (df l n)<=_;lia
 |en=>show Zd l (df l n)<=_;lia
 |t=>exact Wy _
 |we=>exact mZ _
 |b=>
  have a:=Y_ (p:=OS.cps.contains) (l:=l) (n:=n);have b:=Y_ (p:=WS.cps.contains) (l:=l) (n:=lo OS.cps.contains l n);show lo WS.cps.contains l (lo OS.cps.contains l n)<=_;exact Ut b (Ut a h)
 |on=>
  have a:=UP (p:=OS.cps.contains) h;have b:=UP (p:=WS.cps.contains) a.2;exact b.2
theorem AS(h:i<=l.count 10):wo l i g w<=l.length:=by
 delta wo;by_cases c:w=.u;rw[GT c];by_cases z:i=0;rw[GT z];exact Wy _;rw[GM z];exact QH (Ut (Z7 _ _) h);rw[GM c];by_cases z:i=l.count 10;rw[GT z];exact mZ _;rw[GM z];exact QH (XC (TZ h z))
theorem ajN{b:Fk}(i:a<=l.length)(f:h<=l.length):Vq l a h g w b<=l.length:=by
 delta Vq;by_cases c:w=.u\/w=.d;rw[GT c];exact AS (rN _ _);rw[GM c];by_cases d:(w=.l\/w=.r)/\b=false/\a≠h;rw[GT d];by_cases e:w=.l;rw[GT e];lia;rw[GM e];lia;rw[GM d];exact U8 f w
section
variable{K:Frag}{W C CE CD:D9}
def kh(x:Str)(w:Wd)(b:Fk)(c:Cu):Cu:=(if b=true then c.1 else Vq x.cps.toList c.1 c.2.1 c.2.2 w b,Vq x.cps.toList c.1 c.2.1 c.2.2 w b,ue x.cps.toList c.2.1 c.2.2 w)
theorem Rp{b:Fk}(h:c.1<=x.length)(d:c.2.1<=x.length):(kh x w b c).1<=x.length/\(kh x w b c).2.1<=x.length:=by
 have a:=Wj x;have l:=ajN (l:=x.cps.toList) (g:=c.2.2) (w:=w) (b:=b) (show c.1<=x.cps.toList.length by lia) (show c.2.1<=x.cps.toList.length by lia);delta kh;refine⟨?_,by show Vq _ _ _ _ _ _<=_;lia⟩;show(if b=true then c.1 else Vq x.cps.toList c.1 c.2.1 c.2.2 w b)<=_;split;exact h;lia
inductive wJ(W C:D9)(U:ad)(H:Hp)(Q:VK)(E:XK):Prop|i(p f s dx e T Z:D9)(v:V)(t:Tr)(d:ac)(x:Str)(l:D9)(Y:ad)(a:ii)(w:Wd)(b:Fk)(_:U=[.r p,.r l,.s w.str,.b b])(_:kd W C H p f s dx e T Z v t d x)(_:x.length<=100000)(_:H l=some (.l Y))(_:bq H Y a)(_:1<=a.length)(_:a.length<=40)(_:(∀c∈a,c.1<=x.length/\c.2.1<=x.length))(_:We a)(_:∀u r z I,eJ (a.map<|kh x w b) u->aq H I->H r=none->I r=some (.l z)->bq I z (WJ (a.map<|kh x w b) u)->Q (.r r) I)
abbrev amG(K:Frag)(W:D9)(C:D9)(E:XK):aV:=aA K [("need_cursors",hV),("need_step",Eh),("settled",i_),("step",wt W C)] [] [] [("size",W,cC W)] (E:=E)
theorem ajO:bw (wJ W C) (λE=>amG K W C E) LW LV:=by
 intro U H Q E h;obtain⟨p,m,s,dx,lt,T,Z,v,t,V,x,l,Y,d,w,b,rfl,B,hx,z,k,h1,h2,G,M,q⟩:=h;have lx:=Wj x;have lc:Y.length=d.length:=Id k;refine eQ<|aC hV O<|af<|g_ W (cC W) O<|ae O ⟨p,m,_,O,B.P.ob,d0 (by decide+kernel) (by decide+kernel),p,m,s,v,t,_,O,B.P,af<|ae O<|ao ⟨_,l,Y,d,O,z,k,h1,h2,λc f=>by rw[B.b,<-lx];exact G c f,M,λH1 j=>?_⟩⟩;refine eQ<|aC Eh O<|af<|ae O<|af<|ae O<|ao ⟨w,b,O,?_⟩;have A:=j _ _ z;refine aS<|aC i_ O<|af<|k7<|ae O ⟨l,O,⟨_,ak.of A⟩,?_⟩;refine l8 A al (λi ys L=>bq L ys<|(d.take i).map<|kh x w b) .nil ?_ ?_;intro i y ys L hy g e Q' kk;obtain⟨c,f,X,rfl,R⟩:=mf k hy;have J:=j.trans g;have D:=G c (zG f);refine aC (wt W C) O<|af<|ae O<|af<|ae O<|af<|ae O<|af<|ae O<|ao ⟨p,m,s,dx,lt,T,Z,v,t,V,x,X,_,_,_,w,b,O,B.same J,J _ _ R,D.1,D.2,hx,λt' I a gM=>kk _ _ a ?_⟩;rw[iK f,Xn];exact hU (bq.same e a) ⟨t',O,gM⟩;intro ys L p2 g e f2;rw[lc,Vo<|mZ _] at e;have n:=Xo (o:=.l ys) f2;refine ao ⟨p2,ys,d.map<|kh x w b,O,au,bq.same e n,by rw[VH];lia,λN r F I S a fr hr hz=>?_⟩;have u:=(j.trans g).trans n;exact q N r F I S (u.trans a) (u.free fr) hr hz
end
section
open PyProof.Rows
abbrev iM:=YD×Nat×Nat
noncomputable def lq(b:YD):Nat->am->List iM
 |_,[]=>[]
 |m,c::l=>(b,m,c)::lq b (m+1) l
theorem Rq(b:YD):∀(m:Nat)(l:am),(lq b m l).length=l.length:=by
 intro m l;induction l generalizing m with
 |nil=>
  exact O
 |cons c l i=>
  simp[lq,i<|m+1]
theorem Rr(b:YD):∀(m:Nat)(l:am)(i c:Nat),l[i]?=some c->(lq b m l)[i]?=some (b,m+i,c)
 |m,[],i,c,h=>by simp at h
 |m,d::l,0,c,h=>by simp at h;subst h;rfl
 |m,d::l,i+1,c,h=>by
  have:=Rr b (m+1) l i c (by simpa using h);show(lq b (m+1) l)[i]?=_;rw[this,show m+1+i=m+(i+1) by lia]
noncomputable def eS(b:YD):List iM->Nat->List At->List iM
 |_,_,[]=>[]
 |s,m,.P c::Y=>(b,m,c)::eS b s (m+1) Y
 |r::s,m,.K::Y=>r::eS b s m Y
 |[],m,.K::Y=>eS b [] m Y
 |_::s,m,.C _::Y=>eS b s m Y
 |[],m,.C _::Y=>eS b [] m Y
theorem Rt(b:YD)(r:List iM)(Y:List At):∀(s:am)(m:Nat),eS b r m (s.map .P++Y)=lq b m s++eS b r (m+s.length) Y:=by
 intro l;induction l with
 |nil=>
  rintro m;exact O
 |cons c s i=>
  rintro m;show(b,m,c)::eS b r (m+1) (s.map .P++Y)=_;rw[i<|m+1,Xm,show m+1+s.length=m+(s.length+1) by omega];rfl
theorem Ru(b:YD)(s:List iM)(m:Nat)(Y:List At):∀(a:List iM),eS b (a++s) m (rK a.length++Y)=a++eS b s m Y:=by
 intro l;induction l with
 |nil=>
  exact O
 |cons r a i=>
  show r::eS b (a++s) m (rK a.length++Y)=_;rw[i];rfl
theorem EJ(x:YD)(b:List iM)(m:Nat)(Y:List At):∀(a:List iM)(s:am),a.length=s.length->eS x (a++b) m (s.map .C++Y)=eS x b m Y
 |[],[],_=>O
 |r::a,c::s,h=>EJ x b m Y a s (by simpa using h)
 |[],c::s,h=>by simp at h
 |r::a,[],h=>by simp at h
theorem ajP:∀(k o n i j:Nat),(i,j)∈j7 o n k->∃t,t<k/\i=o+t/\j=n+t:=by
 intro l;induction l with
 |zero=>
  rintro o n i j h;cases h
 |succ k a=>
  rintro o n i j h;rcases UA.mp h with e|h
  cases e;exact⟨0,(Zg _),O,O⟩;obtain⟨t,d,c,b⟩:=a _ _ _ _ h;exact⟨t+1,(Nat.add_lt_add_right d _),al,al⟩
theorem Rv:∀(k o n t:Nat),t<k->(o+t,n+t)∈j7 o n k
 | 0,o,n,t,h=>(Uy _ h).elim
 |k+1,o,n,0,h=>.head _
 |k+1,o,n,t+1,h=>by
  have:=Rv k (o+1) (n+1) t (VD h);rw[show o+(t+1)=o+1+t by lia,show n+(t+1)=n+1+t by lia];exact .tail _ this
theorem ajQ(h:oW l ps r)(x:YD):∀(b:List iM)(o n m:Nat),l.length=b.length->
  (∀i j,(i,j)∈dP (bG ps o n)->o<=i/\n<=j/\i - o<b.length/\(eS x b m<|bV ps)[j - n]?=b[i - o]?)/\
  (∀j w,(eS x b m<|bV ps)[j]?=some w->(∃i,(o+i,n+j)∈dP (bG ps o n)/\b[i]?=some w)\/w.1=x):=by
 induction h with
 |N=>
  intro b o n m q;have:b=[]:=Ww q.symm;subst this;exact⟨(λi j h=>by cases h),(λj w h=>by cases h)⟩
 | @k a l r k ps e _ u=>
  intro b o n m q;have J:q_ (.k k)=rK k.toNat:=O;have G:k.toNat=a.length:=by lia
  rw[Zw] at q;have B:(b.take a.length).length=a.length:=by rw[WE];lia
  have v:=Ru x (b.drop a.length) m (bV ps) (b.take a.length);rw[B,Yq] at v;obtain⟨z,y⟩:=u (b.drop a.length) (o+a.length) (n+a.length) m (by rw[Xh];lia);rw[m4,J,G,v];show(∀i j,(i,j)∈j7 o n k.toNat++dP (bG ps (o+k.toNat)<|n+k.toNat)->_)/\(∀j w,_->(∃i,(o+i,n+j)∈j7 o n k.toNat++dP (bG ps (o+k.toNat)<|n+k.toNat)/\_)\/_);rw[G];refine⟨λi j g=>?_,λj w d=>?_⟩;rcases U6.mp g with g|g
  obtain⟨t,H,rfl,rfl⟩:=ajP _ _ _ _ _ g;refine⟨(YJ _ _),(YJ _ _),al,?_⟩;rw[show n+t - n=t by lia,show o+t - o=t by lia,WV al,US H];obtain⟨p,f,D,A⟩:=z i j g;rw[Xh] at D;refine⟨(Ut (YJ _ _) p),(Ut (YJ _ _) f),al,?_⟩;rw[hY al,B,show j - n - a.length=j - (n+a.length) by lia,A,Y3,show a.length+(i - (o+a.length))=i - o by lia];by_cases K:j<a.length;rw[WV al,US K] at d;exact .inl ⟨j,Zn _<|Rv _ _ _ _ K,d⟩;rw[hY al,B] at d;rcases y _ _ d with⟨i,p,f⟩|c
  refine .inl ⟨a.length+i,oQ _ ?_,by rw[Y3] at f;exact f⟩;rw[show o+(a.length+i)=o+a.length+i by lia,show n+j=n+a.length+(j - a.length) by lia];exact p;exact .inr c
 | @t s l r ps _ u=>
  intro b o n m q;have E:=Wj s;obtain⟨z,y⟩:=u b o (n+s.length) (m+s.length) q;rw[m4];show(∀i j,(i,j)∈dP (bG ps o<|n+s.length)->_/\_/\_/\(eS x b m<|s.cps.toList.map At.P++bV ps)[j - n]?=_)/\(∀j w,(eS x b m<|s.cps.toList.map At.P++bV ps)[j]?=_->(∃i,(o+i,n+j)∈dP (bG ps o<|n+s.length)/\_)\/_);rw[Rt,<-E];have F:(lq x m s.cps.toList).length=s.length:=by rw[Rq,<-E]
  refine⟨λi j g=>?_,λj w d=>?_⟩;obtain⟨p,f,D,A⟩:=z i j g;refine⟨p,(Ut (YJ _ _) f),D,?_⟩;rw[hY al,F,show j - n - s.length=j - (n+s.length) by lia,A];by_cases K:j<s.length;rw[WV al] at d;have I:s.cps.toList[j]?=some s.cps.toList[j]:=VP (Z1 K (WK E));rw[Rr x m _ j _ I] at d;cases d;exact .inr O;rw[hY al,F] at d;rcases y _ _ d with⟨i,p,f⟩|c
  refine .inl ⟨i,?_,f⟩;rw[show n+j=n+s.length+(j - s.length) by lia];exact p;exact .inr c
 | @C s l r ps _ u=>
  intro b o n m q;have E:=Wj s;rw[Zw] at q;have B:(b.take s.length).length=s.cps.toList.length:=by rw[WE];lia
  have v:=EJ x (b.drop s.length) m (bV ps) (b.take s.length) s.cps.toList B;rw[Yq] at v;obtain⟨z,y⟩:=u (b.drop s.length) (o+s.length) n m (by rw[Xh];lia);rw[m4];show(∀i j,(i,j)∈dP (bG ps (o+s.length) n)->_/\_/\_/\(eS x b m<|s.cps.toList.map At.C++bV ps)[j - n]?=_)/\(∀j w,(eS x b m<|s.cps.toList.map At.C++bV ps)[j]?=_->(∃i,(o+i,n+j)∈dP (bG ps (o+s.length) n)/\_)\/_);rw[v];refine⟨λi j g=>?_,λj w d=>?_⟩;obtain⟨p,f,D,A⟩:=z i j g;rw[Xh] at D;refine⟨(Ut (YJ _ _) p),f,al,?_⟩;rw[A,Y3,show s.length+(i - (o+s.length))=i - o by lia];rcases y _ _ d with⟨i,p,f⟩|c
  refine .inl ⟨s.length+i,?_,by rw[Y3] at f;exact f⟩;rw[show o+(s.length+i)=o+s.length+i by lia];exact p;exact .inr c
end
theorem rA.Rw{l n:D9}{r:ga}{ov:Nat}(S:rA C H p dx l n ll r ov g)(s:aq H I):rA C I p dx l n ll r ov g:=by
 cases S;constructor<;>first|assumption|(apply s;assumption)
def uq(ps:cr)(c:Cu):Cu:=(f9 0 (dP<|bG ps 0 0) c.1,f9 0 (dP<|bG ps 0 0) c.2.1,none)
section
variable{K:Frag}{C CC CE:D9}
theorem ajR{Q:ad->Hp->D9->Prop}{j:TE}(h:H a=some (.l Y))(k:bq H Y g)(M:g.length<=1000000)(P:Nat->ad->Hp->Prop)(v:P 0 [] H)(e:∀i c ys L,g[i]?=some c->aq H L->P i ys L->∀n:VK,(∀y d,aq L d->P (i+1) (ys++[y]) d->n y d)->j (some (.i (c.1:Nat))::some (.i (c.2.1:Nat))::some (gV c.2.2)::bJ J fv) L n)(R:∀ys L p,aq H L->P g.length ys L->L p=none->Q ys L p):∃W:Nat->Nat->ad->Hp->Prop,(∃m,W 0 m [] H)/\∀i m ys L,W i m ys L->
   ((cX K a).stop i L/\∀p,L p=none->Q ys L p)\/
   ((cX K a).go i L/\∀x d,(cX K a).dH i L x d->gZ K (some 3) x d λz=>iU none (z.map some++bJ J fv) d λb o=>
    if b=true then j (z.map some++bJ J fv) o λy I=>ys.length<sizeLine/\∃f,f<m/\W (i+1) f (ys++[y]) I else ∃f,f<m/\W (i+1) f ys o):=by
 have w:Y.length=g.length:=Id k;refine qF (λi m ys L=>m=Y.length - i/\i<=Y.length/\ys.length=i/\aq H L/\P i ys L) (uO _ O (Wy _) O (aq.refl _) v) ?_;rintro i m ys L zq;obtain⟨rfl,N,A,s,p⟩:=V_ zq;by_cases F:i<Y.length;refine .inr ⟨rP Y (Y[i]) (ak.of<|s _ _ h) (by simp[F]),?_⟩;rintro x d ⟨rfl,B⟩;obtain⟨c,G,t,rfl,C⟩:=mf k (B Y<|ak.of<|s _ _ h);refine q8 t _ O (aM.of<|s _ _ C) O ?_;exact e i c ys _ G s p _ λy S r u=>tR (bR al) (Y.length - (i+1)) al ⟨O,F,by simp[A],s.trans r,u⟩;have E:i=Y.length:=cV N (ZK F)
 subst E;refine .inl ⟨qF Y (ak.of<|s _ _ h) (mZ _),λq D=>R ys _ q s ?_ D⟩;rw[<-w];exact p
inductive EL(U:ad)(H:Hp)(Q:VK)(E:XK):Prop|i(v:V)(ps:cr)(l:D9)(Y:ad)(s:ii)(_:U=[v,.r l])(_:agH v H ps)(_:H l=some (.l Y))(_:bq H Y s)(_:1<=s.length)(_:s.length<=40)(_:(∀c∈s,c.1<=bK ps/\c.2.1<=bK ps))(_:We s)(_:∀u r z I,eJ (s.map<|uq ps) u->aq H I->H r=none->I r=some (.l z)->bq I z (WJ (s.map<|uq ps) u)->Q (.r r) I)
abbrev aeP(K:Frag)(C:D9)(E:XK):aV:=aA K [("need_cursors",hV),("settled",i_)] [] [] [("to_left",C,zh C)] [("Track",C,DJ C)] (E:=E)
theorem N9(T:vq K C):bw (EL) (λE=>aeP K C E) LY LX:=by
 intro U H Q E h;obtain⟨vc,ps,l,Y,s,rfl,⟨a,y,rfl,ha,bp,F,cK,Z⟩,D,n,h1,h2,cG,J,q⟩:=h;have lc:Y.length=s.length:=Id n;refine aJ<|afP C (DJ C) O<|ae O λx dx A hd cN=>?_;have m:aq H (upd (upd H dx<|.o x) x<|.i C dx []):=λb o e=>by rw[av<|a_ e A,av<|a_ e hd];exact e
 refine⟨x,dx,a,y,ps,O,au,m _ _ ha,bp.mono<|aR m,F,cK,Z,λw z ll H1 S b1=>⟨O,?_⟩⟩;have k:aq H H1:=λb o e=>b1 b o (m b o e) (a_ e A);refine eQ<|aC hV O<|af ⟨_,O,x,C,dx,_,_,O,S.ob,T.c,T.J5,ago,af<|ae O<|ao ⟨bK ps,l,Y,s,O,k _ _ D,n.same k,h1,h2,cG,J,λL v=>?_⟩⟩;have f:=k.trans v;have S2:=rA.Rw S v;have d:=ze ps 0 0 F;refine aS<|aC i_ O<|af ?_;refine tY _ O l O (qY _ (ak.of<|f _ _ D)) (ajR (f _ _ D) (n.same f) (Ut h2 (VJ _ _)) (λi ys p=>bq p ys<|(s.take i).map<|uq ps) .nil ?_ ?_);intro i c ys p fK j e Q' V;have g:=rA.Rw S2 j;refine eO<|af<|fZ C (zh C) O<|ae O ⟨x,dx,_,O,g.ob,Pb (by decide+kernel) (by decide+kernel) (by decide+kernel) (by decide+kernel) (by decide+kernel),ae O ⟨x,dx,w,z,ll,_,_,_,c.1,O,g,d,?_⟩⟩;refine af<|fZ C (zh C) O<|ae O ⟨x,dx,_,O,g.ob,Pb (by decide+kernel) (by decide+kernel) (by decide+kernel) (by decide+kernel) (by decide+kernel),ae O ⟨x,dx,w,z,ll,_,_,_,c.2.1,O,g,d,?_⟩⟩;refine af<|ah<|ao ⟨eE,λt B=>V _ _ (Xo B) ?_⟩;rw[iK fK,Xn];exact hU (bq.same e<|Xo B) ⟨t,O,au⟩;intro ys p P j e f3;rw[Vo<|mZ _] at e;have u:=Xo (o:=.l ys) f3;refine ao ⟨P,ys,s.map<|uq ps,O,au,bq.same e u,by rw[VH];lia,λM r G I Sr N fr X W=>?_⟩;have R:=(f.trans j).trans u;exact q M r G I Sr (R.trans N) (R.free fr) X W
end
section
open PyProof.Rows
inductive Ry(U:ad)(H:Hp)(Q:VK)(E:XK):Prop|i(c:Int)(x:Str)(m:Int)(_:U=[.i c,.s x,.i m])(_:good x)(_:x.length<=16000)(_:0<=m)(_:m<=100)(_:∀b I ys ps q,aq H I->H b=none->I b=some (.l ys)->aX I ys ps->(∀p∈ps,eN p)->ps.length<=101->aG ps<=40*m.toNat->oW x.cps.toList ps q->Q (.r b) I)
inductive EM(b:D9)(H:Hp)(c m:Int)(x:Str)(i:Nat)(J:St)(L:Hp):Prop|i(u v w z:ld)(ys:ad)(ps:cr)(a d q:am)(_:J=[some<|.i c,some<|.s x,some<|.i m,some<|.r b,some<|.i ((a.length:Nat):Int),u,v,w,z])(_:aq H L)(_:L b=some (.l ys))(_:aX L ys ps)(_:ps.length=i)(_:(∀p∈ps,eN p))(_:aG ps<=40*i)(_:x.cps.toList=a++d)(_:oW a ps q):EM b H c m x i J L
abbrev aqW(K:Frag)(E:XK):aV:=aA K afj [] (E:=E)
theorem AW{K:Frag}(U:ad)(H:Hp)(Q:VK)(E:XK)(h:Ry U H Q E):aw (aqW K E) JM {nx:=λ_ I=>Q .a I,r:=Q} (ZQ JL U) H:=by
 obtain⟨c,x,m,rfl,hx,zk,yW,qJ,k⟩:=h;refine⟨Wy _,λb hb=>?_⟩;refine tY _ O m O al ⟨al,Ga (lo:=0) (n:=m.toNat) (EM b H c m x)
 ⟨none,none,none,none,[],[],[],x.cps.toList,[],O,Xo hb,au,.nil,O,(λp hp=>by cases hp),mZ _,O,.N⟩ ?_ ?_⟩
 rintro i J L hi ⟨u,v,w,z,ys,ps,f,B,q,rfl,s2,X,bp,hl,aB,Y,G,dv⟩;have a':=Id bp;have e':x.length=f.length+B.length:=by rw[Wj,G];simp
 refine rL _ O _ O ⟨c,_,O,?_⟩;generalize mixed c (50+(0+(i:Int)))=g;refine⟨Af,λt1 mX=>?_⟩;have j0:0<=g / 4 % 6:=Yo _ ax;have j1:g / 4 % 6<6:=Vy _ ax;obtain⟨F,e5,c',j'⟩:=afi (g / 4 % 6) j0 j1;refine⟨_,O,⟨ax,ax⟩,(by show(0:Int) <6;decide),.inl (qZ _ _ _ _ O O (ak.of au) e5 ?_)⟩;have s3:aq H (upd L t1<|.l [.i 1,.i 2,.i 0,.i 3,.i 5,.i 40]):=s2.trans (Xo mX);have R:upd L t1 (.l [.i 1,.i 2,.i 0,.i 3,.i 5,.i 40]) b=some (.l ys):=by rw[av<|a_ X mX];exact X
 have tF:=bp.mono (aR<|Xo (o:=.l [.i 1,.i 2,.i 0,.i 3,.i 5,.i 40]) mX);generalize upd L t1 (.l [.i 1,.i 2,.i 0,.i 3,.i 5,.i 40])=H3 at s3 R tF;refine⟨_,O,_,O,bQ (Ut zk (VJ _ _)),_,O,trivial,?_⟩;obtain⟨Z,Rz⟩:∃Z,Z=(if (x.length:Int) - (f.length:Int) <F then (x.length:Int) - (f.length:Int) else F):=⟨_,O⟩;have d':0<=Z/\Z<=40/\Z<= (B.length:Int):=by
  rw[Rz];split<;>lia
 show aw _ _ _ [some<|V.i c,some<|V.s x,some<|V.i m,some<|V.r b,some<|V.i ((f.length:Nat):Int),some<|V.i<|0+(i:Int),some<|V.i g,some<|V.i F,some<|V.i (if (x.length:Int) - (f.length:Int) <F then (x.length:Int) - (f.length:Int) else F)] H3;rw[<-Rz];obtain⟨j,T,e2,EN⟩:∃j T,B=j++T/\Z=(j.length:Int):=⟨B.take Z.toNat,B.drop Z.toNat,(Yq _ _).symm,by rw[WE];lia⟩;have S:∀(p:Pt)(P:Hp),aq H P->P b=some (.l ys)->aX P ys ps->∀t,P t=none->
   upd P t (.t [.s p.word,p.val]) b=some (.l ys)/\ys.length<sizeLine/\
    aq H (upd (upd P t<|.t [.s p.word,p.val]) b<|.l<|ys++[.r t])/\aX (upd (upd P t<|.t [.s p.word,p.val]) b<|.l<|ys++[.r t]) (ys++[.r t]) (ps++[p]):=by
  intro p P s4 EO i' t Y;have zL:b≠t:=a_ EO Y;refine⟨(by rw[av zL];exact EO),bR al,mQ s4 hb<|sameBut (Xo Y) aH.upd,?_⟩;refine aX.snoc (i'.mono<|(sameBut (Xo Y) aH.upd).cf EO) ⟨t,O,?_⟩;rw[av zL.symm,au]
 have RA:∀p,eN p->∀q∈ps++[p],eN q:=by
  intro p hp q hq;rcases U6.mp hq with z|z
  exact aB q z;rw[jS.mp z];exact hp
 have b':∀c∈j,SG.cps.contains c=true:=λc hc=>hx.2 c (by rw[G,e2];simp[hc]);refine⟨_,O,(by show(0:Int) <4;decide),_,O,?_⟩;refine cT (λh=>?_)<|λh=>?_;have h3:g % 4=3:=by
  have:=KF (show decide (V.i (g % 4)=V.i 3)=true from by rw[<-YN (decide _)];exact h);injection this
 refine⟨_,O,.inl ⟨O,_,ak.of R⟩,_,O,_,O,g,F,O,c',al,λy W gy ly D=>⟨c_,λt M=>?_⟩⟩;obtain⟨a1,a2,a3,a4⟩:=l5 (S (.p y) W (s3.trans D) (D _ _ R) (tF.mono<|aR D) t M);refine⟨ys,a1,a2,?_⟩;refine⟨_,O,(by show(0:Int) <4;decide),trivial,_,O,iF ?_<|XZ al⟩;have A:=dv.app (oW.t (s:=y) oW.N);rw[YS,YS] at A;refine⟨_,_,_,_,ys++[V.r t],ps++[Pt.p y],f,B,_,O,a3,au,a4,by simp[hl],RA _ ⟨gy,al⟩,?_,G,A⟩;rw[vM];show aG ps+(y.length+0)<=_;lia;have h3:g % 4≠3:=λz=>h (by show(false ^^ decide (V.i (g % 4)=V.i 3))=true;rw[z];rfl);have h4:g % 4<3:=by have:=Vy g (show(0:Int) <4 by decide);lia
 have R':∀(p:Pt)(W:Hp)(jm:ad)(q':am),aq H W->W b=some (.l jm)->aX W jm (ps++[p])->eN p->dX p<=40->oW (f++j) (ps++[p]) q'->
   EM b H c m x (i+1) [some<|V.i c,some<|V.s x,some<|V.i m,some<|V.r b,some<|V.i<|(f.length:Int)+Z,some<|V.i<|0+(i:Int),some<|V.i g,some<|V.i F,some<|V.i Z] W:=by
  intro p W jm q' D h5 g' rp tp A;refine⟨some<|.i<|0+(i:Int),some<|.i g,some<|.i F,some<|.i Z,jm,ps++[p],f++j,T,q',?_,D,h5,g',by simp[hl],RA p rp,?_,by rw[G,e2];simp,A⟩;rw[Zw,EN,UW];rw[vM];have:aG [p]=dX p:=by simp[aG]
  lia
 refine⟨_,O,(by show(0:Int) <4;decide),_,O,?_⟩;refine cT (λh5=>?_)<|λh5=>?_;refine⟨_,O,.inl ⟨O,_,ak.of R⟩,_,O,_,O,_,O,_,O,_,O,_,O,bQ (Ut zk (VJ _ _)),?_⟩;rw[Dx (by rw[G,e2]) Z EN];refine⟨c_,λt M=>?_⟩;obtain⟨a1,a2,a3,a4⟩:=S (.c ⟨j.toArray⟩) H3 s3 R tF t M;refine⟨ys,a1,a2,?_⟩;refine⟨_,O,(by show(0:Int) <4;decide),trivial,_,O,iT ?_<|ZA h4⟩;refine⟨_,O,_,O,?_⟩;have A:=dv.app (oW.C (s:=⟨j.toArray⟩) oW.N);rw[YS] at A;have ll:(⟨j.toArray⟩:Str).length=j.length:=by rw[Wj]
 exact R' (.c ⟨j.toArray⟩) _ _ _ a3 au a4 ⟨⟨by rw[ll];lia,b'⟩,by rw[ll];lia⟩ (by show(⟨j.toArray⟩:Str).length<=40;rw[ll];lia) A;refine⟨_,O,.inl ⟨O,_,ak.of R⟩,_,O,c_,λt M=>?_⟩;obtain⟨a1,a2,a3,a4⟩:=S (.k Z) H3 s3 R tF t M;refine⟨ys,a1,a2,?_⟩;refine⟨_,O,(by show(0:Int) <4;decide),trivial,_,O,iT ?_<|ZA h4⟩;refine⟨_,O,_,O,?_⟩;have A:=dv.app (oW.k (a:=j) EN oW.N);rw[YS] at A;exact R' (.k Z) _ _ _ a3 au a4 d'.1 (by show 0<=40;decide) A;rintro J L ⟨u,v,w,z,ys,ps,f,B,q,rfl,s2,X,bp,hl,aB,Y,G,dv⟩;have a':=Id bp;have e':x.length=f.length+B.length:=by rw[Wj,G];simp
 refine⟨_,O,_,O,bQ (Ut zk (VJ _ _)),_,O,trivial,c_,λt M=>⟨ib,λd hd=>?_⟩⟩;have zL:b≠t:=a_ X M;have tO:upd L t (.t [.s "keep",.i<|(x.length:Int) - (f.length:Int)]) b=some (.l ys):=by rw[av zL];exact X
 have vi:b≠d:=a_ tO hd;have RB:t≠d:=λz=>by rw[<-z,au] at hd;cases hd
 have s4:aq L (upd (upd L t<|.t [.s "keep",.i<|(x.length:Int) - (f.length:Int)]) d<|.l [.r t]):=(Xo M).trans (Xo hd);refine .inl ⟨b,d,ys,[.r t],O,O,(by rw[av vi];exact tO),au,bQ (by simp;lia),λe he=>?_⟩;have D:=s4.trans (Xo (o:=.l (ys++[.r t])) he);have h':L e=none:=s4.free he;have A:=dv.app (oW.k (a:=B) (n:=(x.length:Int) - (f.length:Int)) al oW.N);rw[YS,<-G] at A;have f':t≠e:=λz=>by rw[<-z,av RB,au] at he;cases he
 refine k e _ (ys++[.r t]) (ps++[.k<|(x.length:Int) - (f.length:Int)]) _ (s2.trans D) (s2.free h') au (aX.snoc (bp.mono<|aR D) ⟨t,O,?_⟩) ?_ (by simp;lia) ?_ A;rw[av f',av RB,au];rfl;intro p hp;rcases U6.mp hp with z|z
 exact aB p z;rw[jS.mp z];show(0:Int)<=_;lia;rw[vM];show aG ps+(0+0)<=40*m.toNat;exact Y
abbrev WO:io:=[("_law_neat",Om),("_law_parts",Ry)]
inductive ER(U:ad)(H:Hp)(Q:VK)(E:XK):Prop|i(c:Int)(x:Str)(m:Int)(_:U=[.i c,.s x,.i m])(_:good x)(_:x.length<=16000)(_:0<=m)(_:m<=100)(_:∀b I ys ps q,aq H I->H b=none->I b=some (.l ys)->aX I ys ps->(∀p∈ps,fh p)->ZP "" ps=true->ps.length<=305->aG ps<=40*m.toNat->oW x.cps.toList ps q->Q (.r b) I)
abbrev apF(K:Frag)(E:XK):aV:=aA K WO [] (E:=E)
theorem aj4{K:Frag}(U:ad)(H:Hp)(Q:VK)(E:XK)(h:ER U H Q E):aw (apF K E) JR {nx:=λY I=>Q .a I,r:=Q} (ZQ JQ U) H:=by
 obtain⟨c,x,m,rfl,l,f,y,J,k⟩:=h;refine sV _ O _ O _ O ⟨c,x,m,O,l,f,y,J,λb D ys ps q s C o p e B t A=>?_⟩;refine⟨b,ys,ps,O,o,p,(Ut B (VJ _ _)),al,λd L z g w n j=>?_⟩;obtain⟨v,u,Y⟩:=yT ps e al;have i:=OJ ps;rw[vL ps e] at i;exact k d L z (iZ ps) q (s.trans g) (s.free w) n j u v al (by rw[OM ps e];exact t)<|yU A
end
theorem zM(s:aq d H)(f:d a=none)(b:aH a H I):aq d I:=λc o e=>b c o (s _ _ e) (a_ e f)
theorem ES{b:D9}(h:H a=some o)(f:H b=none):b≠a:=λz=>by rw[z,h] at f;cases f
noncomputable def gF(R:List iM):am:=R.map (·.2.2)
theorem zN(R:List iM):(gF R).length=R.length:=by delta gF;rw[VH]
theorem RC(b:YD):∀(l:am)(m:Nat),gF (lq b m l)=l:=by
 intro l;induction l with
 |nil=>
  rintro Y;exact O
 |cons c l i=>
  rintro m;show c::gF (lq b (m+1) l)=_;rw[i<|m+1]
theorem zJ(R:List iM)(k:Nat):gF (R.take k)=(gF R).take k:=by delta gF;rw[List.map_take]
theorem RD(R:List iM)(k:Nat):gF (R.drop k)=(gF R).drop k:=by delta gF;rw[List.map_drop]
theorem RF(A B:List iM):gF (A++B)=gF A++gF B:=by delta gF;rw[Xn]
theorem aj6(h:oW l ps r)(x:YD):∀(b:List iM)(m:Nat),gF b=l->gF (eS x b m<|bV ps)=r:=by
 induction h with
 |N=>
  intro b m c;have:b=[]:=Ww (by rw[<-zN,c];rfl);subst this;rfl
 | @k a l r k ps e _ i=>
  intro b m c;have d:q_ (.k k)=rK k.toNat:=O;have f:k.toNat=a.length:=by lia
  have j:b.length=a.length+l.length:=by rw[<-zN,c,Zw]
  have n:(b.take a.length).length=a.length:=by rw[WE];lia
  have g:=Ru x (b.drop a.length) m (bV ps) (b.take a.length);rw[n,Yq] at g;rw[m4,d,f,g,RF,zJ,c,YA];rw[i (b.drop a.length) m (by rw[RD,c,Xk])]
 | @t s l r ps _ i=>
  intro b m c;rw[m4];show gF (eS x b m<|s.cps.toList.map At.P++bV ps)=_;rw[Rt,RF,RC,i b _ c]
 | @C s l r ps _ i=>
  intro b m c;have j:b.length=s.cps.toList.length+l.length:=by rw[<-zN,c,Zw]
  have n:(b.take s.cps.toList.length).length=s.cps.toList.length:=by rw[WE];lia
  have g:=EJ x (b.drop s.cps.toList.length) m (bV ps) (b.take s.cps.toList.length) s.cps.toList n;rw[Yq] at g;rw[m4];show gF (eS x b m<|s.cps.toList.map At.C++bV ps)=_;rw[g,i (b.drop s.cps.toList.length) m (by rw[RD,c,Xk])]
theorem aj7(h:oW l ps r):bK ps=l.length:=by
 induction h with
 |N=>rfl
 | @k a l r k ps e _ i=>show k.toNat+bK ps=_;rw[i,Zw];omega
 |t Y i=>exact i
 | @C s l r ps _ i=>show s.length+bK ps=_;rw[i,Zw,Wj]
theorem RG(h:oW l ps r)(p:Nat):f9 0 (dP<|bG ps 0 0) p<=r.length:=by
 have e:=aj6 h (.inl 0) (lq (.inr "old") 0 l) 0 (RC _ _ _);obtain⟨k,Y⟩:=ajQ h (.inl 0) (lq (.inr "old") 0 l) 0 0 0 (by rw[Rq]);refine O7 (Wy _) λx b=>?_;obtain⟨f,d,a,c⟩:=k x.1 x.2 b;rw[kE,kE] at c;rw[kE] at a;rw[VP a] at c;have:=(ZX.mp c).1;rw[<-zN,e] at this;exact this
abbrev YT(c:Cu):Nat:=min c.1 c.2.1
abbrev V6(c:Cu):Nat:=max c.1 c.2.1
abbrev zO:=cr×Nat×Nat×ii
def ur(l:am)(s:zO)(z:Cu×Str):zO:=(s.1++[.k<|(YT z.1:Int) - (s.2.1:Int),.p z.2,.c<|cQ l (YT z.1)<|V6 z.1],V6 z.1,s.2.2.1+YT z.1 - s.2.1+z.2.length,s.2.2.2++[(s.2.2.1+YT z.1 - s.2.1+z.2.length,s.2.2.1+YT z.1 - s.2.1+z.2.length,none)])
def eW(l:am)(z:jU):zO:=z.foldl (ur l) ([],0,0,[])
def iN(l:am)(z:jU):cr:=(eW l z).1++[.k<|(l.length:Int) - ((eW l z).2.1:Int)]
abbrev pM(l:am)(z:jU):ii:=(eW l z).2.2.2
theorem RH{zs:jU}(h:zs[i]?=some z):eW l (zs.take<|i+1)=ur l (eW l<|zs.take i) z:=by
 delta eW;rw[iK h,VW];rfl
theorem RJ{s:ii}(h:We s)(b:s[i]?=some c)(a:s[i+1]?=some d):V6 c<=YT d:=by
 have:=h i c d b a;unfold near at this;split at this;lia;have:=XL this;exact ZK this
structure zP(l:am)(zs:jU)(i:Nat):Prop where
 pl:(eW l<|zs.take i).2.1<=l.length
 nx:∀z,zs[i]?=some z->(eW l<|zs.take i).2.1<=YT z.1
 raw:∀p∈ (eW l<|zs.take i).1,eN p
 ln:(eW l<|zs.take i).1.length=3*i
 tt:aG (eW l<|zs.take i).1<= (eW l<|zs.take i).2.1+4*i
 lc:(eW l<|zs.take i).2.2.2.length=i
theorem ET:(cQ l a b).cps.toList=(l.take b).drop a:=O
theorem Qn(h:a<=b)(c:b<=l.length):(cQ l a b).length=b - a:=by
 rw[Wj,ET,Xh,WE];lia
theorem aj8(l:am)(z:jU):zP l z 0:=⟨Wy _,λY Y=>Wy _,(λp h=>by cases h),O,Wy _,O⟩
theorem aj9{b:ac}(A:zP l (a.zip b) i)(g:a[i]?=some c)(o:b[i]?=some t)(I:l.length<=100000)(C:∀x∈l,SG.cps.contains x=true)(v:We a)(G:V6 c<=l.length)(B:good t/\t.length<=4):zP l (a.zip b) (i+1):=by
 have d:(a.zip b)[i]?=some (c,t):=by rw[WN];exact⟨g,o⟩
 obtain⟨H,n,r,k,E,m⟩:=A;have e:=RH (l:=l) d;have u:=n _ d;generalize eW l ((a.zip b).take i)=s at*;have F:s.2.1<=YT c:=u;have j:YT c<=V6 c:=by show min _ _<=max _ _;lia
 have D:good (cQ l (YT c)<|V6 c)/\(cQ l (YT c)<|V6 c).length<=100000:=by
  have:=Qn j G;exact⟨⟨al,λx f=>C x<|List.mem_of_mem_take<|UE (by rw[ET] at f;exact f)⟩,al⟩
 refine⟨?_,λz y=>?_,?_,?_,?_,?_⟩ <;>rw[e]
 exact G;obtain⟨w,J⟩:=(WN (z:=z)).mp y;exact RJ v g w;intro p q;rcases U6.mp q with h|h
 exact r p h;simp only[UA,nB,LE] at h;rcases h with rfl|rfl|rfl
 show(0:Int)<=_;lia;exact⟨B.1,al⟩;exact D;show(s.1++_).length=_;rw[Zw,k];show 3*i+3=_;exact WI _;show aG (s.1++_)<=_;rw[vM];show aG s.1+(0+(t.length+((cQ l (YT c)<|V6 c).length+0)))<=V6 c+4* (i+1);have:=Qn j G;lia;show(s.2.2.2++_).length=_;rw[Zw,m];rfl
def XD(l:am):Nat->jU->Prop
 |p,[]=>p<=l.length
 |p,z::s=>p<=YT z.1/\XD l (V6 z.1) s
noncomputable def eG(l:am):Nat->jU->am
 |p,[]=>l.drop p
 |p,z::s=>(l.take<|YT z.1).drop p++(z.2.cps.toList++eG l (V6 z.1) s)
def eP(l:am):Nat->jU->cr
 |p,[]=>[.k<|(l.length:Int) - (p:Int)]
 |p,z::s=>.k ((YT z.1:Int) - (p:Int)):: .p z.2:: .c (cQ l (YT z.1)<|V6 z.1)::eP l (V6 z.1) s
noncomputable def eC:Nat->Nat->jU->ii
 |_,_,[]=>[]
 |p,q,z::s=>(q+YT z.1 - p+z.2.length,q+YT z.1 - p+z.2.length,none)::eC (V6 z.1) (q+YT z.1 - p+z.2.length) s
theorem be(c:Cu):YT c<=V6 c:=by show min _ _<=max _ _;lia
section
variable{l:am}
theorem VS(c:jU):∀s:zO,(c.foldl (ur l) s).1++[.k<|(l.length:Int) - ((c.foldl (ur l) s).2.1:Int)]=s.1++eP l s.2.1 c/\(c.foldl (ur l) s).2.2.2=s.2.2.2++eC s.2.1 s.2.2.1 c:=by
 induction c with
 |nil=>exact λs=>⟨O,(YS _).symm⟩
 |cons z c i=>
  intro s;obtain⟨a,b⟩:=i (ur l s z);rw[WG,a,b];exact⟨UR _ _ _,UR _ _ _⟩
theorem RK(z:jU):iN l z=eP l 0 z:=(VS z ([],0,0,[])).1
theorem RL(z:jU):pM l z=eC 0 0 z:=(VS (l:=l) z ([],0,0,[])).2
theorem XG(h:p<=b)(a:b<=l.length):(l.take b).drop p++l.drop b=l.drop p:=by
 conv=>rhs;rw[<-Yq b l]
 rw[TJ (by rw[WE];lia)]
theorem zcY{e:Nat}(h:p<=b)(c:b<=e)(d:e<=l.length):(l.take b).drop p++(l.take e).drop b=(l.take e).drop p:=by
 have a:=XG (l:=l.take e) h (by rw[WE];lia);rw[ZM,VO c] at a;exact a
theorem zQ(h:b<=l.length):((l.take b).drop p).length=b - p:=by rw[Xh,WE];lia
theorem wL{s:jU}:∀{p:Nat},XD l p s->p<=l.length:=by
 induction s with
 |nil=>exact λh=>h
 |cons z s i=>exact λh=>Ut h.1 (Ut (be _)<|i h.2)
theorem RM{s:jU}(h:XD l p s)(a:q<=p):XD l q s:=by
 cases s with
 |nil=>exact Ut a h
 |cons z s=>exact⟨Ut a h.1,h.2⟩
theorem RN{s:jU}:∀{p:Nat},XD l p s->oW (l.drop p) (eP l p s) (eG l p s):=by
 induction s with
 |nil=>
  intro p h;have h:p<=l.length:=h;have:=oW.k (a:=l.drop p) (n:=(l.length:Int) - (p:Int)) (by rw[Xh];lia) oW.N;rw[YS] at this;exact this
 |cons z s i=>
  intro p h;have e:=wL h.2;have b:=be z.1;have c:l.drop p=(l.take<|YT z.1).drop p++((cQ l (YT z.1)<|V6 z.1).cps.toList++l.drop (V6 z.1)):=by
   rw[ET,XG b e,XG h.1<|Ut b e]
  rw[c];have d:=h.1;exact oW.k (by rw[zQ<|Ut b e];lia)<|oW.t<|oW.C<|i h.2
theorem RO{s:jU}:∀{p:Nat},XD l p s->(eG l p s).length+p+(s.map λz=>V6 z.1 - YT z.1).sum=l.length+(s.map λz=>z.2.length).sum:=by
 induction s with
 |nil=>
  intro p h;have h:p<=l.length:=h;show(l.drop p).length+p+0=l.length+0;rw[Xh];lia
 |cons z s i=>
  intro p h;have e:=wL h.2;have b:=be z.1;have a:=h.1;have:=i h.2;rw[TB,TB,vG,vG];show(_++(_++_):am).length+_+_=_;rw[Zw,Zw,zQ<|Ut b e,<-Wj];lia
theorem aj_{s:jU}(h:XD l p s)(a:q<=p):eG l q s=(l.take p).drop q++eG l p s:=by
 cases s with
 |nil=>exact(XG a h).symm
 |cons z s=>
  show(l.take<|YT z.1).drop q++_=(l.take p).drop q++((l.take<|YT z.1).drop p++_);rw[<-zcY a h.1 (Ut (be _)<|wL h.2),UR]
theorem aka{s:jU}(h:XD l (V6 z.1) s):XD (eG l 0 s) 0 [z]/\eG (eG l 0 s) 0 [z]=eG l 0 (z::s):=by
 have e:=wL h;have b:=be z.1;have a:=aj_ h (Wy _);rw[X5] at a;have t:(l.take<|V6 z.1).length=V6 z.1:=by rw[WE];lia
 refine⟨⟨Wy _,?_⟩,?_⟩;show V6 z.1<= (eG l 0 s).length;rw[a,Zw,t];exact YJ _ _;show((eG l 0 s).take<|YT z.1).drop 0++(_++(eG l 0 s).drop (V6 z.1))=(l.take<|YT z.1).drop 0++_;rw[a,List.drop_left' t,TL (by rw[t];exact b),ZM,VO b]
theorem RP{s:jU}:∀{i p:Nat}{z:Cu×Str},XD l p s->s[i]?=some z->XD l (V6 z.1) (s.drop<|i+1):=by
 induction s with
 |nil=>intro i p z h e;simp at e
 |cons y s a=>
  intro i p z h e;cases i with
  |zero=>
   have e:y=z:=by simpa using e
   subst e;exact h.2
  |succ i=>exact a h.2 (by simpa using e)
theorem RQ(h:XD l p z)(a:i<=z.length):XD l 0 (z.drop i):=by
 cases i with
 |zero=>exact RM h (Wy _)
 |succ i=>exact RM (RP h<|VP a) (Wy _)
theorem akb{s:jU}:∀{p:Nat}{A:am},XD l p s->(∀c∈eC p A.length s,c.1=c.2.1/\c.2.2=none/\c.2.1<= (A++eG l p s).length)/\∀z∈s,∃c∈eC p A.length s,∃B D,A++eG l p s=B++(z.2.cps.toList++D)/\c.2.1=B.length+z.2.length:=by
 induction s with
 |nil=>exact λY=>⟨(λc a=>by cases a),λz d=>by cases d⟩
 |cons y s k=>
  intro p A h;have e:=wL h.2;have b:=be y.1;have m:=h.1;have f:(A++(l.take<|YT y.1).drop p++y.2.cps.toList).length=A.length+YT y.1 - p+y.2.length:=by
   rw[Zw,Zw,zQ<|Ut b e,<-Wj];lia
  have j:A++eG l p (y::s)=(A++(l.take<|YT y.1).drop p++y.2.cps.toList)++eG l (V6 y.1) s:=by
   rw[UR,UR];rfl
  obtain⟨g,i⟩:=k (A:=A++(l.take<|YT y.1).drop p++y.2.cps.toList) h.2;rw[f] at g i;refine⟨λc a=>?_,λz d=>?_⟩;rw[j];rcases UA.mp a with rfl|a
  refine⟨O,O,?_⟩;rw[Zw,f];exact YJ _ _;exact g c a;rw[j];rcases UA.mp d with rfl|d
  refine⟨_,.head _,A++(l.take<|YT z.1).drop p,eG l (V6 z.1) s,UR _ _ _,?_⟩;rw[Zw,zQ<|Ut b e];show A.length+YT z.1 - p+z.2.length=_;lia;obtain⟨c,a,r⟩:=i z d;exact⟨c,.tail _ a,r⟩
theorem Pv:∀{p q:Nat},(eC p q z).length=z.length:=by
 induction z with
 |nil=>exact O
 |cons y z i=>exact IR (· +1) i
theorem Yh{s:ii}:∀{e:ac}{p:Nat},We s->(∀c∈s,c.1<=l.length/\c.2.1<=l.length)->p<=l.length->(∀c,s[0]?=some c->p<=YT c)->XD l p (s.zip e):=by
 induction s with
 |nil=>exact λY Y h Y=>h
 |cons c s j=>
  intro e p A g k o;cases e with
  |nil=>exact k
  |cons t e=>
   have:=g c (.head _);exact⟨o c O,j (λi a b n m=>A (i+1) a b (by simpa using n) (by simpa using m)) (λd f=>g d<|.tail _ f) (by show max _ _<=_;lia) λd f=>RJ A (i:=0) O (by simpa using f)⟩
variable{K:Frag}{W C:D9}{H I:Hp}{p s d T Z:D9}{k:Nat×Nat}{B:aV}{J:St}{Q:VK}{E:XK}
def br(W C:D9)(H:Hp)(p s d T Z:D9)(l:am)(k:Nat×Nat):Prop:= ∃b dx v t a,cW W H p b s v t (aj a)/\b_ C H s dx d T Z a/\cP (aj a) t.ai=l/\t.ai.length<=3600/\a.length<=k.1/\(aj a).length<=k.2/\l.length<=3600/\k.1<=9000/\k.2<=990000
theorem br.same(P:br W C H p s d T Z l k)(h:aq H I):br W C I p s d T Z l k:=by
 obtain⟨b,dx,v,t,a,zq⟩:=VL P;obtain⟨A,S,e⟩:=Vk zq;exact⟨b,dx,v,t,a,A.same h,S.same h,e⟩
theorem rV{m:Str}(h:autoParam (¬m="stock"/\ ¬m="node") cy):(eU s v).lookup m=none:=d0 h.1 h.2
theorem pN(P:br W C H p s d T Z l k)(m:B.ms j=(W,cC W))(h:∀c:VK,c (.r p) H->ag B o J H c)(q:Q (.i (l.length:Nat)) H):ag B (.a j "size" o []) J H Q:=by
 obtain⟨b,dx,v,t,e,zq⟩:=VL P;obtain⟨A,S,rfl,Y⟩:=l5 zq;exact g_ W (cC W) m<|h _ ⟨p,b,_,O,A.ob,rV,p,b,s,v,t,_,O,A,q⟩
theorem RT(P:br W C H p s d T Z l k)(n:B.ms j=(W,kc W C))(m:∀c:VK,c (.r p) H->ag B o J H c)(w:∀c:VK,c (.i (a:Nat)) H->ag B f J H c)(u:∀c:VK,c (.i (b:Nat)) H->ag B e J H c)(y:a<=b)(x:b<=l.length)(q:∀I,aq H I->Q (.s<|cQ l a b) I):ag B (.a j "part" o [f,e]) J H Q:=by
 obtain⟨g,dx,v,t,h,zq⟩:=VL P;obtain⟨A,S,rfl,K,G,F,E,D,z⟩:=Ve zq;exact tZ W (kc W C) n<|m _ ⟨p,g,_,O,A.ob,rV,w _<|u _ ⟨p,g,s,dx,d,T,Z,v,t,h,a,b,O,A,S,(Ut K (VJ _ _)),al,al,(Ut E (VJ _ _)),y,x,q⟩⟩
theorem akd{l j:RE}{n:Int}{r:ad->Hp->Prop}(w:∀(Q:VK),Q (.i n) H->ag B l J H Q)(v:∀(d:Hp)(Q:VK),aq H d->Q (.s t) d->ag B j J d Q)(x:∀(d:Hp)(Q:VK),aq H d->(∀L,aq d L->Q (.s u) L)->ag B m J d Q)(q:∀Y I,aq H I->Y.length=3->aX I Y [.k n,.p t,.c u]->r Y I):aO B [.T [.c<|.s "keep",l],.T [.c<|.s "put",j],.T [.c<|.s "cut",m]] J H r:=by
 refine af<|eO<|af<|ah<|af<|w _<|ao ⟨c_,λa D=>?_⟩;generalize zz:upd _ a _=d;have h:=eL D zz;have z:=eM zz;refine af<|eO<|af<|ah<|af<|v _ _ h<|ao ⟨c_,λb C=>?_⟩;generalize zz:upd _ b _=L;have g:=eL C zz;have y:=eM zz;refine af<|eO<|af<|ah<|af<|x _ _ (h.trans g) λE f=>ao ⟨c_,λc A=>?_⟩;have e:=Xo (o:=.t [V.s "cut",V.s u]) A;exact ao<|q _ _ (((h.trans g).trans f).trans e) O<|.cons ⟨a,O,e _ _<|f _ _<|g _ _ z⟩<|.cons ⟨b,O,e _ _<|f _ _ y⟩<|.cons ⟨c,O,au⟩ .nil
theorem RU{Y ys:ad}{ps q:cr}(h:aX H Y ps)(b:aX H ys q):aX H (Y++ys) (ps++q):=by
 induction h with
 |nil=>exact b
 |cons h _ i=>exact .cons h i
structure jG(H:Hp)(a:D9)(tl:ac):Prop where
 h:H a=some (.l<|tl.map V.s)
 g:∀t∈tl,good t/\t.length<=4
theorem jG.same{t:ac}(T:jG H a t)(h:aq H I):jG I a t:=⟨h _ _ T.h,T.g⟩
structure d_(H:Hp)(a:D9)(n:Nat)(Y:ad)(cs:ii):Prop where
 h:H a=some (.l Y)
 c:bq H Y cs
 i:∀c∈cs,c.1<=n/\c.2.1<=n
 o:1<=cs.length
 m:cs.length<=40
 a:We cs
theorem d_.same{a:D9}{s:ii}(T:d_ H a n Y s)(h:aq H I):d_ I a n Y s:=⟨h _ _ T.h,T.c.same h,T.i,T.o,T.m,T.a⟩
def zR(H I:Hp)(v:V)(l:am)(s:ii)(c:ac):Prop:= ∃t a b ys z u,v=.r t/\I t=some (.t [.r a,.r b])/\H a=none/\H b=none/\I a=some (.l ys)/\aX I ys (iZ<|iN l<|s.zip c)/\I b=some (.l z)/\eJ (pM l<|s.zip c) u/\bq I z (WJ (pM l<|s.zip c) u)
theorem RV{s:ii}{a:ac}(o:l.length<=10000)(m:∀x∈l,SG.cps.contains x=true)(A:We s)(G:∀c∈s,c.1<=l.length/\c.2.1<=l.length)(k:∀t∈a,good t/\t.length<=4)(e:a.length=s.length):∀i,i<=s.length->zP l (s.zip a) i:=by
 intro l;induction l with
 |zero=>
  rintro Y;exact aj8 _ _
 |succ i f=>
  rintro h;have d:i<s.length:=h;have b:i<a.length:=by lia
  have j:s[i]?=some s[i]:=VP d;have g:a[i]?=some a[i]:=VP b;have n:=G _ (Ua d);exact aj9 (f (Yl d)) j g (Ut o (VJ _ _)) m A (by show max _ _<=_;lia)<|k _<|Ua b
theorem EU{tl:ac}(j:∀x∈l,SG.cps.contains x=true)(f:We cs)(G:∀c∈cs,c.1<=l.length/\c.2.1<=l.length)(i:∀t∈tl,good t/\t.length<=4)(e:tl.length=cs.length)(g:cs.length<=40)(o:l.length<=3500):
  (∀p∈iN l (cs.zip tl),eN p)/\(iN l<|cs.zip tl).length<=3*cs.length+1/\aG (iN l<|cs.zip tl)<=4000:=by
 have A:=RV (Ut o (VJ _ _)) j f G i e cs.length (mZ _);have z:(cs.zip tl).take cs.length=cs.zip tl:=Vo (by rw[Zr];lia);obtain⟨b,k,r,n,a,m⟩:=A;rw[z] at b r n a;delta iN;generalize eW l (cs.zip tl)=s at*;refine⟨λp d=>?_,?_,?_⟩;rcases U6.mp d with h|h
 exact r p h;rw[jS.mp h];show(0:Int)<=_;lia;rw[Zw,n];show _+1<=_;exact mZ _;rw[vM];show aG s.1+(0+0)<=_;lia
inductive mh(W C:D9)(U:ad)(H:Hp)(Q:VK)(E:XK):Prop|i(p s d T Z b a:D9)(l:am)(k:Nat×Nat)(Y:ad)(c:ii)(t:ac)(_:U=[.r p,.r b,.r a])(_:br W C H p s d T Z l k)(_:l.length<=3500)(_:(∀x∈l,SG.cps.contains x=true))(_:d_ H b l.length Y c)(_:jG H a t)(_:t.length=c.length)(_:∀v I,aq H I->zR H I v l c t->Q v I)
abbrev GEn(K:Frag)(W C:D9)(E:XK):aV:=aA K [("begin_of",i8),("end_of",lj),("neat",yJ),("settled",i_)] [] [] [("part",W,kc W C),("size",W,cC W)] (E:=E)
theorem akf:bw (mh W C) (λE=>GEn K W C E) ML MK:=by
 intro U H Q E h;obtain⟨p,s,d,T,Z,lc,lx,l,k,Y,f,j,rfl,P,hl,gl,F,Ts,jH,q⟩:=h;have RW:=RV (Ut hl (VJ _ _)) gl F.a F.i Ts.g jH;have b':=Id F.c;have lB:=F.m;refine aJ<|du<|ao ⟨Wy _,λA fA=>?_⟩;generalize zz:upd _ A _=H1;have s1:=eL fA zz;have zS:=eM zz;refine aJ<|du<|ao ⟨Wy _,λR fB=>?_⟩;generalize zz:upd _ R _=L;have s2:=eL fB zz;have e':=eM zz;have nC:=s2 _ _ zS;have EV:A≠R:=a_ zS fB;have h':=s1.free fB;have ja:=s1.trans s2;refine aJ<|ah<|aJ<|ah ?_;refine ajK<|af<|ae O<|af<|ae O<|ao ⟨lc,lx,O,⟨_,ak.of<|ja _ _ F.h⟩,⟨_,ak.of<|ja _ _ Ts.h⟩,?_⟩;refine afQ (K:=K) (a:=lc) (b:=lx) (Y:=Y) (ys:=j.map V.s) (by rw[VH];lia) (λi J I=>i<=f.length/\V0 λ(u7 u8 u9 gQ:ld)(ys D:ad)=>FA (J=[some<|.r p,some<|.r lc,some<|.r lx,some<|.r A,some<|.r R,some<|.i ((eW l<|(f.zip j).take i).2.1:Nat),some<|.i ((eW l<|(f.zip j).take i).2.2.1:Nat),u7,u8,u9,gQ]) (aq H I) (I A=some (.l ys)) (aX I ys (eW l<|(f.zip j).take i).1) (I R=some (.l D)) (bq I D (eW l<|(f.zip j).take i).2.2.2))
  ⟨Wy _,none,none,none,none,[],[],O,ja,nC,.nil,e',.nil⟩ (by rintro i J I ⟨_,_,_,_,_,_,_,_,s3,_,_,_,_⟩;exact ⟨ak.of<|s3 _ _ F.h,ak.of<|s3 _ _ Ts.h⟩) ?_ ?_
 rintro i x y J I T0 hx hy ⟨_,u7,u8,u9,gQ,ys,D,rfl,s3,rW,pA,EW,pB⟩ fT;obtain⟨c,hc,tc,rfl,ht⟩:=mf F.c hx;obtain⟨t,zm,rfl⟩:∃t,j[i]?=some t/\y=.s t:=by
  rw[Y5] at hy;cases hh:j[i]? with
  |none=>rw[hh] at hy;cases hy
  |some t=>rw[hh] at hy;cases hy;exact qF t O O
 have hi:i<f.length:=(ZX.mp hc).1;have e:=RH (l:=l) (zs:=f.zip j) (z:=(c,t)) (by rw[WN];exact⟨hc,zm⟩);have K1:=RW i (Yl hi);have c':=K1.nx (c,t) (by rw[WN];exact⟨hc,zm⟩);have l':=K1.ln;have RX:=K1.lc;have k':=Id pA;have j':D.length=_:=Id pB;have cG:=F.i c (zG hc);have gt:=Ts.g t (zG zm);generalize eW l ((f.zip j).take i)=S at*;have w:=Xo (o:=.t [V.r tc,V.s t]) fT;refine Qz au ?_;have G:=w _ _ rW;have RY:=w _ _ EW;have RZ:=pA.mono (aR w);have R0:=pB.same w;generalize upd I T0 (.t [V.r tc,V.s t])=H4 at w G RY RZ R0⊢;have EX:=s3.trans w;have wM:=EX _ _ ht;refine aJ<|aC i8 O<|af<|ae O<|ao ⟨tc,_,_,_,O,wM,?_⟩;refine aJ<|aC lj O<|af<|ae O<|ao ⟨tc,_,_,_,O,wM,?_⟩;have jI:YT c<=V6 c:=by show min _ _<=max _ _;lia
 refine eQ<|gC<|ae O ⟨.inl ⟨O,_,ak.of G⟩,du<|akd (n:=(YT c:Int) - (S.2.1:Int)) (t:=t) (u:=cQ l (YT c) (V6 c)) (λQ1 v=>aI<|ae O<|ae O<|d9 v) (λH1 Q1 _ v=>ae O v) (λH1 Q1 s1 v=>RT (P.same<|EX.trans s1) O (λQ1 v=>ae O v) (λQ1 v=>ae O v) (λQ1 v=>ae O v) jI (by show max _ _<=_;lia) v) λM H5 s5 lw pw=>⟨bQ al,λm fm=>?_⟩⟩;generalize zz:upd _ m _=N;have X:=eL fm zz;have a':=pw.mono (aR X);have d':=eM zz;have lE:=s5.trans X;refine q8 ys M (lE _ _ G) d' (bQ al) ?_;have b7:aH A N (upd N A<|.l<|ys++M):=aH.upd;have R1:upd N A (.l<|ys++M) A=some (.l<|ys++M):=au;have t7:gB N (upd N A<|.l<|ys++M):=λy us e=>b7 _ _ e (λz=>by rw[z,lE _ _ G] at e;cases e);have EY:=b7 _ _ (lE _ _ RY) (KK EV);have R3:=(RU (RZ.mono<|aR lE) a').mono t7;have R4:=wI (R0.same lE) (lE _ _ G) b7;have R5:aq H (upd N A<|.l<|ys++M):=zM (EX.trans lE) fA b7;generalize upd N A (.l<|ys++M)=H7 at R1 EY R3 R4 R5⊢;refine aJ<|aI<|aI<|aI<|ae O<|ae O<|bU<|ae O<|d9<|gf<|ae O ⟨bQ gt.1.1,bU ?_⟩;have ei:((S.2.2.1:Nat):Int)+((min c.1 c.2.1:Nat):Int) - ((S.2.1:Nat):Int)+((t.length:Nat):Int)=((S.2.2.1+YT c - S.2.1+t.length:Nat):Int):=by
  have:S.2.1<=YT c:=c';show _+((YT c:Nat):Int) - _+_=_;lia
 rw[ei];refine eQ<|gC<|ae O ⟨.inl ⟨O,_,ak.of EY⟩,eO<|af<|ae O<|af<|ae O<|af<|ah<|ao ⟨eE,λtb g'=>?_⟩⟩;generalize zz:upd _ tb _=H8;have B:=eL g' zz;have Dk:=eM zz;have EZ:=B _ _ EY;refine qT D EZ (bR al) ?_;have b9:aH R H8 (upd H8 R<|.l<|D++[.r tb]):=aH.upd;have t9:gB H8 (upd H8 R<|.l<|D++[.r tb]):=λy us e=>b9 _ _ e (λz=>by rw[z,EZ] at e;cases e);refine aJ<|ae O ⟨hi,_,_,_,_,ys++M,D++[.r tb],by rw[e];rfl,zM (R5.trans B) h' b9,b9 _ _ (B _ _ R1) EV,by rw[e];exact(R3.mono<|aR B).mono t9,au,?_⟩;rw[e];exact hU (wI (R4.same B) EZ b9) (qF tb O (t9 _ _ Dk));rintro J I ⟨_,u7,u8,u9,gQ,ys,D,rfl,s3,rW,pA,EW,pB⟩;have i':Y.length=f.length:=b';rw[i'] at pA pB⊢;have ez:(f.zip j).take f.length=f.zip j:=Vo (by rw[Zr];lia);rw[ez] at pA pB⊢;have K1:=RW f.length (mZ _);have ln:=K1.ln;have RX:=K1.lc;rw[ez] at ln RX;obtain⟨o1,o3,o4⟩:=EU gl F.a F.i Ts.g jH lB hl;have ly:=Id pA;refine eQ<|gC<|ae O ⟨.inl ⟨O,_,ak.of rW⟩,eO<|af<|ah<|af<|aI<|pN (P.same s3) O (λQ1 v=>ae O v)<|ae O<|d9<|ao ⟨c_,λt ft=>?_⟩⟩;generalize zz:upd _ t _=H4;have w:=eL ft zz;have ht:=eM zz;have G:=w _ _ rW;refine qT ys G (bR al) ?_;have b5:aH A H4 (upd H4 A<|.l<|ys++[.r t]):=aH.upd;have R6:upd H4 A (.l<|ys++[.r t]) A=some (.l<|ys++[.r t]):=au;have t5:gB H4 (upd H4 A<|.l<|ys++[.r t]):=λy us e=>b5 _ _ e (λz=>by rw[z,G] at e;cases e);have p5:aX (upd H4 A<|.l<|ys++[.r t]) (ys++[.r t]) (iN l<|f.zip j):=(aX.snoc (p:=.k ((l.length:Int) - ((eW l<|f.zip j).2.1:Int))) (pA.mono<|aR w) ⟨t,O,ht⟩).mono t5;have R7:=b5 _ _ (w _ _ EW) (KK EV);have R8:=wI (pB.same w) G b5;have zT:aq H (upd H4 A<|.l<|ys++[.r t]):=zM (s3.trans w) fA b5;generalize upd H4 A (.l<|ys++[.r t])=H5 at R6 p5 R7 R8 zT⊢;refine aS<|eO<|af<|aC yJ O<|af<|ae O<|ao ⟨A,_,_,O,R6,p5,al,(Ut o4 (VJ _ _)),λa N za X fa ha pa=>?_⟩;rw[vL _ o1] at pa;refine af<|aC i_ O<|af<|ae O<|ao ⟨R,D,_,O,X _ _ R7,R8.same X,al,λus b zb H7 Sr s7 fb hb pb=>ao ⟨c_,λtt f'=>?_⟩⟩;have B:=Xo (o:=.t [V.r a,V.r b]) f';exact q _ _ (((zT.trans X).trans s7).trans B) (qY tt ⟨a,b,za,zb,us,O,au,zT.free fa,zT.free<|X.free fb,B _ _<|s7 _ _ ha,pa.mono<|aR<|s7.trans B,B _ _ hb,Sr,pb.same B⟩)
end
def E1(P:V->Hp->Prop)(B:aV)(J:St)(e:RE):Prop:= ∀(H:Hp)(Q:VK),(∀v I,aq H I->P v I->Q v I)->ag B e J H Q
section
variable{B:aV}{J:St}{P:V->Hp->Prop}
theorem v5(t:∀v H I,P v H->aq H I->P v I):∀(s:sB),(∀e∈s,E1 P B J e)->∀(H:Hp)(Q:ad->Hp->Prop),(∀U I,aq H I->U.length=s.length->(∀v∈U,P v I)->Q U I)->aO B s J H Q:=by
 intro s;induction s with
 |nil=>exact λY H Q q=>ao (q [] H (aq.refl _) O (λv g=>by cases g))
 |cons e s i=>
  exact λh H Q q=>af (h e (.head _) H _ λv k d o=>i (λj b=>h j (.tail _ b)) k _ λU L c l f=>q (v::U) L (d.trans c) (by rw[Xm,l,Xm]) (λw a=>by
   rcases UA.mp a with rfl|a
   exact t _ _ _ o c;exact f w a))
theorem gR(h:∀H,P v H):E1 P B J (.c v):=λH Q q=>ah (q v H (aq.refl _)<|h H)
end
section
variable{K:Frag}{W C CE u G:D9}{H I:Hp}{p s f T Z:D9}{l:am}{k:Nat×Nat}{B:aV}{J:St}{Q:VK}{E:XK}
abbrev GEd(K:Frag)(W C u G:D9)(n:Sp)(E:XK):aV:=aA K [("need_cursors",n),("need_text",tM G),("enter",mh W C)] [] [] [("size",W,cC W)] (et:=[("BadDeed",u)]) (E:=E)
theorem akr:bw (mh W C) (λE=>GEd K W C u G hV E) MO MN:=by
 intro U H Q E h;obtain⟨p,s,f,T,Z,z,x,l,k,Y,A,B,rfl,P,hl,gl,d,F,D,q⟩:=h;have y:Y.length=A.length:=Id d.c;refine eQ<|aC hV O<|af<|pN P O (λQ1 S=>ae O S)<|af<|ae O<|ao ⟨_,z,Y,A,O,d.h,d.c,d.o,d.m,d.i,d.a,λH1 j=>?_⟩;have n:=F.same j;have I:=d.same j;refine bh<|j9<|eR<|DQ<|ae O<|CW n.h<|iF ?_ O;refine bf<|gf<|ae O<|.inl ⟨_,ak.of n.h,gf<|ae O<|.inl ⟨_,ak.of I.h,vT ⟨_,O,iF (bL ?_) ?_⟩⟩⟩;refine t6 (ae O (qT x O (qY _ (ak.of n.h)) (ic (K:=K) (a:=x) (xs:=B.map V.s) (λi J L=>∃w:ld,J=[some<|.r p,some<|.r z,some<|.r x,w]/\L=H1) (qF none O O) (λi J L _ ⟨_,_,e⟩=>by rw[e];exact ak.of n.h) ?_ ?_)));rintro i v J L X ⟨w,rfl,rfl⟩;obtain⟨t,ht,rfl⟩:=Zv.mp (zG X);exact eQ<|aC (tM G) O<|af<|ae O<|ao ⟨_,O,.inl ⟨t,O,(F.g t ht).1,⟨_,O,O⟩⟩⟩;rintro J L ⟨w,rfl,rfl⟩;refine aS<|aC (mh W C) O<|af<|ae O<|af<|ae O<|af<|ae O<|ao ⟨p,s,f,T,Z,z,x,l,k,Y,A,B,O,P.same j,hl,gl,I,n,D,λv H3 R g=>q v H3 (j.trans R) ?_⟩;obtain⟨t,a,b,ys,M,N,zq⟩:=ZW g;obtain⟨e,h1,h2,h3,h4⟩:=V_ zq;exact qY t ⟨a,b,ys,M,N,e,h1,j.free h2,j.free h3,h4⟩;rw[VH,D,y];simp
inductive E2(K:Frag)(U:ad)(H:Hp)(Q:VK)(E:XK):Prop|i(a:D9)(b:sK)(t n:Nat)(_:U=[.r a,.i t,.i n])(_:ak K H a (b.map V.i))(_:∀l Y s I,aq H I->H l=none->I l=some (.l Y)->bq I Y s->(∀c∈s,c.1<=n/\c.2.1<=n)->1<=s.length->s.length<=40->Q (.r l) I)
theorem aks(U:ad)(H:Hp)(Q:VK)(E:XK)(W:E2 K U H Q E):aw (oP K E) CO (Dn Q) (ZQ NI U) H:=by
 obtain⟨a,f,s,n,rfl,z,q⟩:=W;have A:∀{J:St}{x:Hp}{B:VK},aq H x->J[0]?=some (some<|.r a)->J[1]?=some (some<|.i (s:Nat))->B (.i<|cell f s) x->ag (oP K E) (.l 0 [.v 0,.v 1]) J x B:=λD Y X N=>
  aC (qM K) O (af<|ae Y<|af<|ae X<|ao ⟨a,f,_,O,D.seq z,(YK _),by rw[Yx];exact N⟩)
 have p6:=Yo (cell f s) (show(6:Int)≠0 by decide);have l6:=Vy (cell f s) (show(0:Int) <6 by decide);refine aJ<|aI<|ah<|aI<|A (aq.refl _) O O<|ah ⟨(by show(0:Int) <6;decide),bU ?_⟩;have R:∀m:Int,1<=m->m<=40->aw (oP K E) (CO.drop 2) (Dn Q) [some<|.r a,some<|.i s,some<|.i n,some<|.i m,none,none,none] H:=by
  intro m h1 h2;refine aJ<|du<|ao ⟨Wy _,λg w=>?_⟩;have F:=Xo (o:=.l []) w;refine V2 (body:=EH) (ae O (tG m O al al (Ga (lo:=0) (n:=m.toNat) (λi J L=>i<=m.toNat/\Wl λ(ys:ad)(b:ii)(j u:ld)=>FA (J=[some (.r a),some (.i s),some (.i n),some (.i m),some (.r g),j,u]) (aq H L) (L g=some (.l ys)) (bq L ys b) (b.length=i) (∀c∈b,c.1<=n/\c.2.1<=n))
  ⟨Wy _,[],[],none,none,O,F,au,.nil,O,λc e=>by cases e⟩ ?_ ?_)))
  rintro i J L V ⟨_,ys,b,j,u,rfl,k,t,e,y,G⟩;show aw (oP K E) EH _ [some<|.r a,some<|.i s,some<|.i n,some<|.i m,some<|.r g,some<|.i<|0+(i:Int),u] L;rw[Int.zero_add];refine ajH z k w t e al λC T c I M p Z S P=>⟨V,T,b++[c],_,C,O,M,p,Z,by rw[Zw,y];rfl,λd h=>?_⟩;rcases U6.mp h with h|h
  exact G d h;rw[jS.mp h];exact⟨S,P⟩;rintro J L ⟨_,ys,b,j,u,rfl,k,t,e,y,G⟩;exact aS<|ae O<|q g ys b L k w t e G al al
 refine bh<|bf<|aI<|aI<|A (aq.refl _) O O<|ah ⟨⟨ax,ax⟩,ah ⟨(by show(0:Int) <9;decide),ah<|gO ⟨_,O,cT (λ_=>?_)<|λ_=>bL<|R _ al al⟩⟩⟩;exact aJ<|ah<|bL<|R 40 ax ax
theorem E3{s:sB}(t:∀v H I,P v H->aq H I->P v I)(m:∀e∈s,E1 P B J e)(r:s.length<=100){i:Int}(n:0<=i)(w:i<s.length)(j:∀(b:Hp)(d:VK),d (.i i) b->ag B x J b d)(q:∀v I,aq H I->P v I->Q v I):ag B (.i (.L s) x) J H Q:=by
 refine aD<|du<|v5 t s m H _ λU b f u g=>⟨bQ al,λa p=>j _ _ ?_⟩;obtain⟨k,rfl⟩:=WD n;have h:k<U.length:=by lia
 have c:=Xo (o:=.l U) p;exact fo (au (a:=a)) (gu<|VP h)<|q _ _ (f.trans c)<|t _ _ _ (g _<|Ua h) c
theorem pO{j:Int}(h:0<j)(q:Q (.i<|i % j) H):lO K .Mod (.i i) (.i j) H Q:=⟨h,q⟩
theorem V8{j:Int}(h:AA i j)(q:Q (.i<|i / j) H):lO K .FloorDiv (.i i) (.i j) H Q:=⟨h,q⟩
inductive ZH(U:ad)(H:Hp)(Q:VK)(E:XK):Prop|i(c:Int)(m:Nat)(_:U=[.i c,.i m])(_:m<=40)(_:∀x l I,aq H I->H x=none->jG I x l->(∀t∈l,t.length<=4)->l.length=m->Q (.r x) I)
abbrev GTx(K:Frag)(E:XK):aV:=aA K [("_law_mixed",kN),("_law_text",tI)] [] (E:=E)
theorem E4{r:bv}(h:ag B e J H λv a=>aw B r D (J.set i<|some v) a):aw B (.sQ i e::r) D J H:=h
theorem akw(h:ag B x J H λv k=>∃j:Int,[v]=[.i j]/\ -(2 ^ 62)<=j/\j<2 ^ 62/\∃W:Nat->Nat->ad->Hp->Prop,(∃m,W 0 m [] k)/\∀i m ys L,W i m ys L->
   ((gW 0 j.toNat).stop i L/\∀p,L p=none->Q (.r p) (upd L p<|.l ys))\/
   ((gW 0 j.toNat).go i L/\∀x c,(gW 0 j.toNat).dH i L x c->gZ B.K none x c λz=>iU none (z.map some++bJ J fv) c λb d=>
    if b=true then ag B.calm e (z.map some++bJ J fv) d λy f=>ys.length<sizeLine/\∃a,a<m/\W (i+1) a (ys++[y]) f else ∃a,a<m/\W (i+1) a ys d)):ag B (.C none fv .g [x] none e) J H Q:=h
theorem zcR(U:ad)(H:Hp)(Q:VK)(E:XK)(S:ZH U H Q E):aw (GTx K E) NM (Dn Q) (ZQ NL U) H:=by
 obtain⟨c,m,rfl,hm,q⟩:=S;refine E4<|akw<|ae O ⟨m,O,al,al,BN (n:=m) (Ut hm (VJ _ _)) (λi ys L=>∃a:sK,ys=a.map V.i/\a.length=i/\∀n∈a,0<=n) (qT [] O O (λn h=>by cases h)) ?_ ?_⟩;rintro i ys L hi r ⟨a,rfl,e,y⟩ Z u;refine aC kN O<|af<|ae O<|af<|aI<|ah<|ae O<|bU<|ao ⟨_,_,O,?_⟩;refine u _ _ (aq.refl _) (qT (a++[mixed c<|30+(0+(i:Int))]) ap (by simp[e]) (λn h=>?_));rcases U6.mp h with h|h
 exact y n h;rw[jS.mp h];exact(CU _ _).1;rintro ys L g r ⟨a,rfl,e,y⟩ W;have d:=Xo (o:=.l (a.map V.i)) W;have w:upd L g (.l<|a.map V.i) g=some (.l<|a.map V.i):=au;generalize upd L g (.l<|a.map V.i)=H3 at d w⊢;refine aS<|k7<|ae O ⟨g,O,⟨_,ak.of w⟩,l8 w (by simp[e];exact Ut hm (VJ _ _)) (λi ys D=>∃b:ac,ys=b.map V.s/\b.length=i/\∀t∈b,good t/\t.length<=4) (qT [] O O (λn h=>by cases h)) ?_ ?_⟩;rintro i x ys D A p ⟨b,rfl,z,f⟩ Z u;rw[Y5] at A;obtain⟨n,R,rfl⟩:=Yb.mp A;have n0:=y n (zG R);have Y:=Yo n (show(6:Int)≠0 by decide);have J:=Vy n (show(0:Int) <6 by decide);refine aC tI O<|af<|ae O<|af<|E3 (P:=λv _=>∃n:Int,v=.i n/\0<=n/\n<=4) (λv H I h s=>h) (λe B=>?_) ax Y J (λH1 Q1 G=>aI<|ae O<|ah<|pO ax G) λv H3 d N=>?_;simp only[UA,nB,LE] at B;rcases B with rfl|rfl|rfl|rfl|rfl|rfl<;>exact gR λH=>qT _ O ax ax
 obtain⟨k,rfl,M,k4⟩:=N;refine ao ⟨_,_,O,M,al,λx H5 T lx j=>?_⟩;refine u _ _ (d.trans j) (qT (b++[x]) ap (by simp[z]) (λt h=>?_));rcases U6.mp h with h|h
 exact f t h;rw[jS.mp h];exact⟨T,al⟩;rintro ys D X p ⟨b,rfl,z,f⟩ C;have j:=Xo (o:=.l (b.map V.s)) C;have F:=(r.trans d).trans (p.trans j);exact q X b _ F (((r.trans d).trans p).free C) ⟨au,λt h=>⟨(f t h).1,by have:=(f t h).2;exact this⟩⟩ (λt h=>(f t h).2) (by rw[z,VH,e])
def jB(l:am)(s:ii):ac:=s.map λc=>cQ l (YT c) (V6 c)
inductive E5(W C:D9)(U:ad)(H:Hp)(Q:VK)(E:XK):Prop|i(p s f T Z c:D9)(l:am)(k:Nat×Nat)(Y:ad)(a:ii)(_:U=[.r p,.r c])(_:br W C H p s f T Z l k)(_:d_ H c l.length Y a)(_:∀x I,aq H I->H x=none->I x=some (.l<|(jB l a).map V.s)->Q (.r x) I)
abbrev apN(K:Frag)(W:D9)(C:D9)(E:XK):aV:=aA K [("need_cursors",hV),("begin_of",i8),("end_of",lj)] [] [] [("size",W,cC W),("part",W,kc W C)] (E:=E)
theorem akx:bw (E5 W C) (λE=>apN K W C E) MI MH:=by
 intro U H Q E h;obtain⟨p,s,f,T,Z,y,l,k,Y,j,rfl,P,b,q⟩:=h;refine eQ<|aC hV O<|af<|pN P O (λw d=>ae O d)<|af<|ae O<|ao ⟨_,y,Y,j,O,b.h,b.c,b.o,b.m,b.i,b.a,λS n=>?_⟩;have I:=P.same n;have r:=b.same n;have v:Y.length=j.length:=Id b.c;have J:=b.m;refine aS<|k7<|ae O ⟨y,O,⟨_,ak.of r.h⟩,l8 r.h al (λi ys B=>ys=((jB l j).take i).map V.s) O ?_ ?_⟩;rintro i x ys B D g rfl N G;obtain⟨c,z,t,rfl,F⟩:=pJ r.c D;have L:=r.i c (zG z);have M:=g _ _ F;refine RT (I.same g) O (λw d=>ae O d) (λw d=>aC i8 O<|af<|ae O<|ao ⟨t,_,_,_,O,M,d⟩) (λw d=>aC lj O<|af<|ae O<|ao ⟨t,_,_,_,O,M,d⟩) al al λR u=>G _ _ u ?_;have e:(jB l j)[i]?=some (cQ l (YT c)<|V6 c):=by rw[jB,Y5,z];rfl
 rw[Wb,e];simp;rintro ys B X g rfl A;have u:=Xo (o:=.l (((jB l j).take Y.length).map V.s)) A;refine q X _ (n.trans<|g.trans u) ((n.trans g).free A) ?_;rw[au,Vo (by rw[jB,VH,v];exact mZ _)]
theorem br.bears(P:br W C H p s f T Z l k)(g:∀x∈l,SG.cps.contains x=true):∃d dx v t a,kd W C H p d s dx f T Z v t a ⟨l.toArray⟩:=by
 obtain⟨d,dx,v,t,a,A,S,e,n,m,j,i,b,c⟩:=P;exact⟨d,dx,v,t,a,A,S,(Ut n (VJ _ _)),al,al,by simpa using e,by show Array.size _<=_;simp;exact Ut i (VJ _ _),λx h=>g x (by simpa using h)⟩
noncomputable def E6:ad:=[.s "left",.s "right",.s "back",.s "on",.s "home",.s "end"]
def eB(l:am)(w:Wd)(c:Cu):Cu:=if c.1=c.2.1 then kh ⟨l.toArray⟩ w true c else c
inductive E7(W C:D9)(U:ad)(H:Hp)(Q:VK)(E:XK):Prop|i(p s f T Z a:D9)(l:am)(k:Nat×Nat)(Y:ad)(c:ii)(w:Wd)(_:U=[.r p,.r a,.s w.str])(_:e7 (.s w.str) E6=true)(_:br W C H p s f T Z l k)(_:l.length<=3500)(_:(∀x∈l,SG.cps.contains x=true))(_:d_ H a l.length Y c)(_:∀u v I,eJ (c.map<|eB l w) u->aq H I->zR H I v l (WJ (c.map<|eB l w) u) (List.replicate (WJ (c.map<|eB l w) u).length<|Str.ofString "")->Q v I)
theorem R9(h:c.1<=l.length/\c.2.1<=l.length):(eB l w c).1<=l.length/\(eB l w c).2.1<=l.length:=by
 delta eB;split;exact Rp (x:=⟨l.toArray⟩) h.1 h.2;exact h
theorem aky(hp:∀H:Hp,aM K H pw E6):bw (E7 W C) (λE=>aA K [("need_cursors",hV),("is_word",tN K),("is_empty",rQ),("step",wt W C),("settled",i_),("enter",mh W C)] [("ERASE_WORDS",.r pw)] [] [("size",W,cC W)] (et:=[("BadDeed",u)]) (E:=E)) MR MQ:=by
 intro U H Q E h;obtain⟨p,s,f,T,Z,lc,l,k,Y,D,w,rfl,hw,P,hl,gl,j,q⟩:=h;have a':Y.length=D.length:=Id j.c;have lB:=j.m;refine eQ<|aC hV O<|af<|pN P O (λQ1 q1=>ae O q1)<|af<|ae O<|ao ⟨_,lc,Y,D,O,j.h,j.c,j.o,j.m,j.i,j.a,λH1 N=>?_⟩;have P1:=P.same N;have C1:=j.same N;refine bh<|eR<|gb (tN K) O<|af<|ae O<|af<|m5<|ao ⟨_,pw,_,O,hp H1,O,.inl ⟨_,O,eT<|iF (bL ?_) (by rw[hw];rfl)⟩⟩;refine E4<|k7<|ae O ⟨lc,O,⟨_,ak.of C1.h⟩,l8 C1.h al (λi ys L=>bq L ys<|(D.take i).map<|eB l w) .nil ?_ ?_⟩;intro i y ys L hy B e Q' kk;obtain⟨c,fK,R,rfl,um⟩:=mf C1.c hy;have hb:=j.i c (zG fK);have eK:=B _ _ um;refine nq<|gb rQ O<|af<|ae O<|ao ⟨R,_,_,_,O,eK,eT ?_⟩;by_cases A:c.1=c.2.1;refine iT ?_ (ZA A);obtain⟨dp,dx,v,t,ts,B1⟩:=YU ((P1.same B).bears gl);refine aC (wt W C) O<|af<|ae O<|af<|ae O<|af<|ae O<|af<|ah<|ao ⟨p,dp,s,dx,f,T,Z,v,t,ts,_,R,_,_,_,w,true,O,B1,eK,by show _<=Array.size _;simp;lia,by show _<=Array.size _;simp;lia,by show Array.size _<=_;simp;exact Ut hl (VJ _ _),λt' I s' gM=>kk _ _ s' ?_⟩;rw[iK fK,Xn];refine hU (bq.same e s') ?_;show gP _ _ (eB l w c);delta eB;rw[GT A];exact⟨t',O,gM⟩;refine iF (ae O<|kk _ _ (aq.refl _) ?_) (XZ A);rw[iK fK,Xn];refine hU e ?_;show gP _ _ (eB l w c);delta eB;rw[GM A];exact⟨R,O,eK⟩;intro ys L L1 B e fL;rw[a',Vo<|mZ _] at e;generalize zz:upd _ L1 _=H3;have s3:=eL fL zz;have hL:=eM zz;have e3:=bq.same e s3;have f3:=(N.trans B).free fL;refine aJ<|aC i_ O<|af<|ae O<|ao ⟨L1,ys,_,O,hL,e3,by rw[VH];lia,λJ r F H4 S s4 fr hr hz=>?_⟩;have M:=uk S (n:=l.length) (λc A=>by
  obtain⟨d,hd,rfl⟩:=Zv.mp A;exact R9 (j.i d hd))
 have lz:F.length=(WJ (D.map<|eB l w) J).length:=Id hz;have l1:=M.len;rw[VH] at l1;have jF:=((N.trans B).trans s3).trans s4;refine aS<|aC (mh W C) O<|af<|ae O<|af<|ae O<|af<|k7<|ae O ⟨r,O,⟨_,ak.of hr⟩,l8 hr al (λi ys H5=>ys=(List.replicate i<|Str.ofString "").map V.s) O ?_ ?_⟩;rintro i x ys H5 hx s5 rfl Q' hq;refine ah<|hq _ _ (aq.refl _) ?_;rw[U0,Xn];rfl;rintro ys H5 X s5 rfl fX;generalize zz:upd _ X _=H6;have s6:=eL fX zz;have hX:=eM zz;have lE:=s5.trans s6;have G:=jF.trans lE;rw[lz] at hX;refine ao ⟨p,s,f,T,Z,r,X,l,k,F,_,_,O,P.same G,hl,gl,⟨lE _ _ hr,bq.same hz lE,M.p,?_,(Ut l1 lB),M.uj.apart⟩,⟨hX,λt ht=>?_⟩,by rw[Ul],λv H7 s7 g=>q J v H7 S (G.trans s7) ?_⟩;have c1:=j.o;have ne:D.map (eB l w)≠ []:=λz=>by
  have z:=IR List.length z;rw[VH,TH] at z;lia
 exact Nat.one_le_iff_ne_zero.mpr λz=>M.ne ne (oZ.mp z);have e0:(Str.ofString "").cps.toList=[]:=by decide+kernel
 rw[List.eq_of_mem_replicate ht];exact⟨⟨by decide+kernel,λc A=>by rw[e0] at A;cases A⟩,by decide+kernel⟩;obtain⟨t,a,b,ys,F,J,zq⟩:=ZW g;obtain⟨e,h1,h2,h3,h4⟩:=V_ zq;exact⟨t,a,b,ys,F,J,e,h1,G.free h2,G.free h3,h4⟩
end
theorem akz{ps:v6}(h:∀q∈ps,bO S q):ps.length<= (cP S ps).length:=by
 induction ps with
 |nil=>exact Wy _
 |cons q r i=>
  have a:=(h q<|.head _).len;have b:=(h q<|.head _).p1;have c:=i λx d=>h x (.tail _ d);show r.length+1<= (lG S q++cP S r).length;rw[Zw];lia
theorem R_(m:Str->Pt)(p:ac):(txt m<|qE p).length<=p.length:=by
 cases p with
 |nil=>exact WK (IR List.length<|GT O)
 |cons a r=>exact Ut (lW m _) (Nat.le_add_left 1 _)
theorem E8(ps:cr):(mS ps).length<=ps.length:=by
 have d:∀(a:cr)(p c:ac),(cH a p c).length<=a.length+p.length+c.length:=λa p c=>by
  delta cH;have:=R_ .p p;have:=R_ .c c;rw[Zw,Zw];lia
 have o:∀(l:cr)(s:NS),(l.foldl bT s).1.length+(l.foldl bT s).2.1.length+(l.foldl bT s).2.2.length<=s.1.length+s.2.1.length+s.2.2.length+l.length:=by
  intro l;induction l with
  |nil=>exact λs=>mZ _
  |cons p l i=>
   intro s;have g:=i (bT s p);have m:(bT s p).1.length+(bT s p).2.1.length+(bT s p).2.2.length<=s.1.length+s.2.1.length+s.2.2.length+1:=by
    obtain⟨a,u,b⟩:=s;cases p with
    |k n=>
     by_cases f:0<n;have e:bT (a,u,b) (.k n)=(dE (cH a u b) n,[],[]):=GT f;rw[e];have:=d a u b;have:=Dc (cH a u b) n;show(dE (cH a u b) n).length+0+0<=a.length+u.length+b.length+1;lia;have e:bT (a,u,b) (.k n)=(a,u,b):=GM f;rw[e];exact Yn _
    |p x=>
     show a.length+(u++[x]).length+b.length<=a.length+u.length+b.length+1;rw[Zw];show _+(_+1)+_<=_;lia
    |c x=>
     show a.length+u.length+(b++[x]).length<=a.length+u.length+b.length+1;rw[Zw];show _+(_+1)<=_;exact mZ _
   rw[WG,Xm];lia
 have h:=o ps ([],[],[]);have:=d (ps.foldl bT ([],[],[])).1 (ps.foldl bT ([],[],[])).2.1 (ps.foldl bT ([],[],[])).2.2;have j:([]:cr).length=0:=O;have g:([]:ac).length=0:=O;show(cH _ _ _).length<=_;simp only[j,g] at h;lia
theorem akA:∀(u:wn)(s:AC),(∀t∈u,t.1.toNat=t.2.1.toNat)->(u.Pairwise λa b=>a.1.toNat<=b.1.toNat)->(∀g∈s,g.1=g.2.1/\∀t∈u,g.1<=t.1.toNat)->
  (∀g∈u.foldl bA s,g.1=g.2.1)/\(∀g∈s,∃f∈u.foldl bA s,f.1=g.1)/\∀t∈u,∃g∈u.foldl bA s,g.1=t.1.toNat:=by
 intro u;induction u with
 |nil=>exact λs Y Y h=>⟨λg c=>(h g c).1,λg c=>⟨g,c,O⟩,λt l=>by cases l⟩
 |cons t u E=>
  intro s r I i;have l:=r t (.head _);obtain⟨y,w⟩:=ZR.mp I;have o:∀g∈s++[((t.1.toNat,t.2.1.toNat,[t.2.2.toNat]):Gr)],g.1=g.2.1/\∀t∈u,g.1<=t.1.toNat:=λg c=>by
   rcases U6.mp c with c|c
   exact⟨(i g c).1,λx d=>(i g c).2 x<|.tail _ d⟩;rw[jS.mp c];exact⟨l,y⟩
  have k:(∀g∈bA s t,g.1=g.2.1/\∀t∈u,g.1<=t.1.toNat)/\(∀g∈s,∃f∈bA s t,f.1=g.1)/\∃f∈bA s t,f.1=t.1.toNat:=by
   delta bA;split;exact⟨o,λg c=>⟨g,Zn _ c,O⟩,_,oQ _<|.head _,O⟩;rename_i e e0;split;rename_i n;have m:=UQ e0;obtain⟨M,v⟩:=i e m;have v:=v t (.head _);have j:t.1.toNat=e.2.1:=by
    delta near at n;split at n;assumption;have:=KF n;lia
   have L:max e.2.1 t.2.1.toNat=e.2.1:=by lia
   have J:s=s.dropLast++[e]:=by
    have N:s≠ []:=λz=>by rw[z] at m;cases m
    have:=List.dropLast_concat_getLast N;rw[List.getLast?_eq_some_getLast N] at e0;rw[Uq e0] at this;exact this.symm
   refine⟨λg c=>?_,λg c=>?_,_,oQ _<|.head _,by show e.1=_;lia⟩;rcases U6.mp c with c|c
   exact o g (Zn _<|Y0 _ c);rw[jS.mp c];exact⟨by show e.1=max _ _;lia,λx d=>(i e m).2 x<|.tail _ d⟩;rw[J] at c;rcases U6.mp c with c|c
   exact⟨g,Zn _ c,O⟩;rw[jS.mp c];exact⟨_,oQ _<|.head _,O⟩;exact⟨o,λg c=>⟨g,Zn _ c,O⟩,_,oQ _<|.head _,O⟩
  obtain⟨D,C,f,B,A⟩:=k;obtain⟨G,q,F⟩:=E (bA s t) (λx d=>r x<|.tail _ d) w D;refine⟨G,λg c=>?_,λx d=>?_⟩;obtain⟨a,H,K⟩:=C g c;obtain⟨b,p,j⟩:=q a H;exact⟨b,p,j.trans K⟩;rcases UA.mp d with rfl|d
  obtain⟨b,p,j⟩:=q f B;exact⟨b,p,j.trans A⟩;exact F x d
theorem akB{s:ii}(S:eJ s u)(p:∀c∈s,c.1=c.2.1/\c.2.2=none/\c.2.1<=n):(∀d∈WJ s u,d.1=d.2.1/\d.2.2=none)/\∀c∈s,∃d∈WJ s u,d.2.1=c.2.1:=by
 have r:∀t∈u,∃c,ny s t c/\en c<=n/\t.1.toNat=c.2.1/\t.2.1.toNat=c.2.1:=λt j=>by
  obtain⟨c,k⟩:=uf S j;have e:=p c (zG k.a);have F:=k.e1;have D:=k.e;exact⟨c,k,by unfold en;lia,al,al⟩
 obtain⟨C,Y,B⟩:=akA u [] (λt j=>by obtain⟨c,Y,Y,a,b⟩:=r t j;lia) (Z9 (λ{a b} Y Y x=>by
  have l:=tm.mp x;lia) S.2) (λg f=>by cases f)
 obtain⟨A,Y⟩:=Ri s n u [] (λt j=>by obtain⟨c,k,h,Y⟩:=r t j;exact⟨c,k,h⟩) (λg f=>by cases f) List.Pairwise.nil;have q:∀g∈groups u,(TQ s g).1=g.1/\(TQ s g).2.1=g.1:=λg f=>by
  have o:=ui (A g f);have:=C g f;unfold bg en at o;lia
 refine⟨λd z=>?_,λc v=>?_⟩;obtain⟨g,f,rfl⟩:=Zv.mp z;have:=q g f;refine⟨al,?_⟩;unfold TQ;simp only[];split;cases m:s[least g.2.2]? with
 |none=>rfl
 |some c=>exact(p c<|zG m).2.1
 split<;>rfl
 obtain⟨i,y,e⟩:=List.mem_iff_getElem.mp v;have m:Ur c i∈u:=S.1.symm.subset (by
  have:∀(s:ii)(k i:Nat)(c:Cu),s[i]?=some c->Ur c (k+i)∈gh k s:=by
   intro s;induction s with
   |nil=>intro k i c h;simp at h
   |cons d s w=>
    intro k i c h;cases i with
    |zero=>
     have h:d=c:=by simpa using h
     subst h;exact .head _
    |succ i=>
     have:=w (k+1) i c (by simpa using h);rw[show k+1+i=k+(i+1) by lia] at this;exact .tail _ this
  have:=this s 0 i c (by rw[VP y,e])
  rwa [VI] at this)
 obtain⟨g,f,E⟩:=B _ m;refine⟨TQ s g,Zv.mpr ⟨g,f,O⟩,?_⟩;have:=(q g f).2;have D:(Ur c i).1.toNat=min c.1 c.2.1:=Yx _;have:=p c v;lia
section
variable{K:Frag}{W C:D9}{H I:Hp}{p s R T Z:D9}{l r:am}{k o:Nat×Nat}{B:aV}{J:St}{Q:VK}{E:XK}{u:ii}{X:ac}{Y g:ad}
theorem akC{u:ac}(A:b_ C H s dx R T Z a)(B:b_ C H s d R T Z u):u=a:=by
 have h:=B.t;rw[A.t] at h;injection h with h
 injection h with h
 exact((List.map_inj_right λx y e=>V.s.inj e).mp h).symm
theorem br.lists(P:br W C H p s R T Z l k):(∃g,H R=some (.l g))/\(∃g,H T=some (.l g))/\(∃g,H Z=some (.l g))/\∃c d f,H s=some (.i c d f):=by
 obtain⟨h,dx,v,t,a,zq⟩:=VL P;obtain⟨A,S,e⟩:=Vk zq;exact⟨⟨_,S.t⟩,⟨_,S.b⟩,⟨_,S.f⟩,_,_,_,S.ob⟩
theorem br.fr(P:br W C H p s R T Z l k)(f:H a=none):a≠R/\a≠T/\a≠Z:=by
 obtain⟨⟨Y,c⟩,⟨Y,b⟩,⟨Y,h⟩,Y⟩:=P.lists;exact⟨ES c f,ES b f,ES h f⟩
theorem br.len(P:br W C H p s R T Z l k):l.length<=3600:=by
 obtain⟨b,dx,v,t,a,zq⟩:=VL P;obtain⟨A,S,rfl,h,g,f,d,e,c⟩:=Ve zq;exact d
def gG(W C:D9)(s R T Z:D9)(H I:Hp)(k o:Nat×Nat):Prop:= ∀p l,br W C H p s R T Z l k->br W C I p s R T Z l o
theorem zV(P:br W C H p s R T Z l k)(U:H a=some (.l g))(h:a≠R/\a≠T/\a≠Z)(L:aX H g ps)(M:∀q∈ps,fh q)(ch:ZP "" ps=true)(n:oW l ps r)(N:r.length<=3600)(lp:ps.length<=400)(b1:k.1+ps.length<=o.1)(b2:k.2+r.length<=o.2)(y:o.1<=9000)(x:o.2<=990000)(q:∀e I,dz s R T Z H I->gG W C s R T Z H I k o->br W C I e s R T Z r o->Q (.r e) I):nk W C [.r p,.r a] H Q E':=by
 obtain⟨dp,dx,v,t,d,zq⟩:=VL P;obtain⟨A,S,rfl,d1,d2,d3,d4,d5,d6⟩:=Ve zq;refine⟨p,dp,s,dx,R,T,Z,a,v,t,d,g,ps,r,O,A,S,al,al,al,(Ut d4 (VJ _ _)),U,h.1,h.2.1,h.2.2,L,M,ch,n,λe G F K u I b _ z D j l1 l2 l3=>?_⟩;have w:(d++u).length<=o.1:=by rw[Zw];exact Ut (ZV d2 l2) b1
 have m:(aj<|d++u).length<=o.2:=by rw[jC,Zw];exact Ut (ZV d3 l3) b2
 refine q e I b (λp0 l0 P0=>?_) (uP G dx F K (d++u) D z j ?_ w m N y x);obtain⟨i,a',E,J,f,zq⟩:=VL P0;obtain⟨B,S0,rfl,X,f2,f3,V,f5,f6⟩:=Ve zq;have Y:=akC S S0;subst Y;refine uP i dx E J (f++u) ?_ z ?_ X w m V y x;rw[jC];exact(B.but S b).grow _;rw[jC,zr B.c];have:=akz D.c;rw[j] at this;exact Ut this N
theorem E9(P:br W C H p s R T Z l k)(q:∀I,aq H I->Q (.s ⟨l.toArray⟩) I):∃a dx f,V.r p=.r a/\H a=some (.i W dx f)/\f.lookup ("text":Str)=none/\nj W C [.r p] H Q E:=by
 obtain⟨d,dx,v,t,b,zq⟩:=VL P;obtain⟨A,S,rfl,m,j,h,g,e,c⟩:=Ve zq;exact⟨p,d,_,O,A.ob,rV,p,d,s,dx,R,T,Z,v,t,b,O,A,S,(Ut m (VJ _ _)),al,al,(Ut g (VJ _ _)),q⟩
theorem pP{o:RE}(P:br W C H p s R T Z l k)(m:B.ms j=(W,nj W C))(h:∀b:VK,b (.r p) H->ag B o J H b)(q:∀I,aq H I->Q (.s ⟨l.toArray⟩) I):ag B (.a j "text" o []) J H Q:=g_ W (nj W C) m (h _<|E9 P q)
theorem wN:(⟨x.cps.toList.toArray⟩:Str)=x:=by cases x;simp
theorem E_(c:Cu):We [c]:=λi a b Y h=>by
 have:=(ZX.mp h).1;simp at this
inductive Fb(W C:D9)(U:ad)(H:Hp)(Q:VK)(E:XK):Prop|i(p s R T Z c:D9)(l:am)(k:Nat×Nat)(Y:ad)(u:ii)(w:Wd)(_:U=[.r p,.r c,.s w.str])(_:br W C H p s R T Z l k)(_:(∀x∈l,SG.cps.contains x=true))(_:d_ H c l.length Y u)(_:∀a r z I,eJ (u.map<|eB l w) a->aq H I->H r=none->I r=some (.l z)->bq I z (WJ (u.map<|eB l w) a)->Q (.r r) I)
abbrev pY(K:Frag)(W:D9)(C:D9)(E:XK):aV:=aA K [("all_stepped",wJ W C),("_law_settled",i_)] [] (E:=E)
theorem akG:bw (Fb W C) (λE=>pY K W C E) NP NO:=by
 intro U H Q E h;obtain⟨p,s,R,T,Z,I,l,k,Y,u,w,rfl,P,gl,D,q⟩:=h;have a':Y.length=u.length:=Id D.c;have lB:=D.m;refine aJ<|du<|ao ⟨Wy _,λA fA=>?_⟩;generalize zz:upd _ A _=H1;have s1:=eL fA zz;have zS:=eM zz;refine t6 (ae O (qT I O (qY _ (ak.of (s1 _ _ D.h))) (ic (K:=K) (a:=I) (xs:=Y) (λi J L=>∃(G:ld)(g:ad),J=[some (.r p),some (.r I),some (.s w.str),some (.r A),G]/\aq H L/\L A=some (.l g)/\bq L g ((u.take i).map (eB l w)))
  (q8 none [] O s1 zS .nil) (by rintro i J L _ ⟨_,_,_,o,_⟩;exact ak.of (o _ _ D.h)) ?_ ?_)))
 rintro i x J L hx ⟨G,g,rfl,o,B,M⟩;obtain⟨c,hc,tc,rfl,ht⟩:=mf D.c hx;have eK:=o _ _ ht;have hi:=(ZX.mp hc).1;have ly:g.length=_:=Id M;rw[VH,WE] at ly;have ci:=D.i c (zG hc);have R':∀{v:V}{f:Hp},aq L f->gP f v (eB l w c)->∃(G:ld)(F:ad),[some<|V.r p,some<|.r I,some<|.s w.str,some<|.r A,some<|.r tc]=[some<|.r p,some<|.r I,some<|.s w.str,some<|.r A,G]/\aq H (upd f A<|.l<|g++[v])/\upd f A (.l<|g++[v]) A=some (.l F)/\bq (upd f A<|.l<|g++[v]) F ((u.take<|i+1).map<|eB l w):=λ{v f} n hv=>by
  have rW:=n _ _ B;have b:aH A f (upd f A<|.l<|g++[v]):=aH.upd;refine q8 _ (g++[v]) O (zM (o.trans n) fA b) au ?_;rw[iK hc,Xn];exact hU (wI (M.same n) rW b)<|gP.but hv rW b
 refine bh<|bf<|aD<|ae O<|ah<|az eK O<|aD<|ae O<|ah<|az eK O<|gO ⟨_,O,cT (λy=>?_)<|λy=>?_⟩;have y:c.1=c.2.1:=by have:=KF y;lia
 refine eQ<|gC<|ae O ⟨.inl ⟨O,_,ak.of B⟩,aD<|aC (wJ W C) O<|af<|ae O<|af<|du<|af<|ae O<|ao ⟨ib,λm fm=>?_⟩⟩;generalize zz:upd _ m _=f;have n:=eL fm zz;have hm:=eM zz;obtain⟨dp,dx,v,t,ts,B1⟩:=YU ((P.same<|o.trans n).bears gl);refine af<|ae O<|af<|ah<|ao ⟨p,dp,s,dx,R,T,Z,v,t,ts,_,m,_,[c],w,true,O,B1,?_,hm,.cons (qF tc O (n _ _ eK)) .nil,mZ _,(by show 1<=40;decide),λd hd=>?_,E_ c,λus r F H4 S N fr hr X=>?_⟩;have:=P.len;show Array.size _<=_;simp;exact Ut this (VJ _ _);rw[jS.mp hd];exact⟨by show _<=Array.size _;simp;lia,by show _<=Array.size _;simp;lia⟩;have e:WJ ([c].map (kh ⟨l.toArray⟩ w true)) us=[kh ⟨l.toArray⟩ w true c]:=ajA (Zp _ _) S;rw[e] at X;rcases X with _|⟨hv,hn⟩
 refine ah<|fo hr (i:=0) (gu (j:=0) O) (qT g ((n.trans N) _ _ B) (bR al) (R' (n.trans N) ?_));delta eB;rw[GT y];exact hv;have y:¬c.1=c.2.1:=λz=>by rw[z] at y;simp at y
 refine eQ<|gC<|ae O ⟨.inl ⟨O,_,ak.of B⟩,ae O ⟨g,B,bR al,R' (aq.refl _) ?_⟩⟩;delta eB;rw[GM y];exact qF tc O eK;rintro J L ⟨G,g,rfl,o,B,M⟩;rw[a',Vo<|mZ _] at M;exact aS<|aC i_ O<|af<|ae O<|ao ⟨A,g,_,O,B,M,by rw[VH];lia,λus r F H4 S N fr hr X=>q us r F H4 S (o.trans N) (o.free fr) hr X⟩
theorem akH{r:bv}{b:RE}(h:ag B a J H λx l=>ag B b J l λy k=>ag B c J k λz L=>∃(p q e:Int)(n:Nat),[x,y,z]=[.i p,.i q,.i e]/\e≠0/\Builtin.Range.small p q e=true/\Builtin.divisionGoesByPylong (q - p) e=false/\Builtin.Range.rangeSize p q e=n/\∃W:Nat->Nat->St->Hp->Prop,(∃m,W 0 m J L)/\∀j m J H,W j m J H->
  ((ot p e n).stop j H/\({D with nx:=aw B r D}:Xt).nx J H)\/((ot p e n).go j H/\∃N:St->Hp->Prop,(∀g I,N g I->∃f,f<m/\W (j+1) f g I)/\∀x I,(ot p e n).dH j H x I->dB i x J I λd L=>aw B body {({D with nx:=aw B r D}:Xt) with nx:=N,c:=N,bk:=({D with nx:=aw B r D}:Xt).nx} d L)):
  aw B (.y i .xR [a,b,c] body::r) D J H:=h
theorem uS{l:Int}{g:TG}{t:TS}(P:Nat->St->Hp->Prop)(k:P 0 J H)(h:∀i J H,i<n->P i J H->g (.i<|l+i*c) J H λa L=>t {D with nx:=P (i+1),c:=P (i+1),bk:=D.nx} a L)(j:∀J H,P n J H->D.nx J H):
  ∃W:Nat->Nat->St->Hp->Prop,(∃m,W 0 m J H)/\∀i m J H,W i m J H->
   ((ot l c n).stop i H/\D.nx J H)\/((ot l c n).go i H/\∃N:St->Hp->Prop,(∀b I,N b I->∃d,d<m/\W (i+1) d b I)/\∀x I,(ot l c n).dH i H x I->g x J I λa L=>t {D with nx:=N,c:=N,bk:=D.nx} a L):=by
 refine qF (λi m J H=>m=n - i/\i<=n/\P i J H) (qT n ap (Wy _) k) ?_;rintro i m J H ⟨rfl,o,p⟩;by_cases F:i<n;refine .inr (tR F (P<|i+1) (λb I f=>tG (n - (i+1)) al O F f) (λx I y=>?_));obtain⟨e,y⟩:=y;subst e y;exact h i J _ F p;have e:i=n:=cV o (ZK F)
 subst e;exact .inl ⟨mZ _,j J H p⟩
theorem akJ:∀n:Fin 41,Builtin.Range.small ((n.1:Int) - 1) (-1) (-1)=true/\Builtin.divisionGoesByPylong (-1 - ((n.1:Int) - 1)) (-1)=false/\Builtin.Range.rangeSize ((n.1:Int) - 1) (-1) (-1)=n.1:=by decide+kernel
theorem Sa(g:∀x∈l,SG.cps.contains x=true):∀{p:Nat},(∀z∈zs,good z.2)->∀x∈eG l p zs,SG.cps.contains x=true:=by
 induction zs with
 |nil=>exact λY x a=>g x (UE a)
 |cons z zs i=>
  intro p h x a;rcases U6.mp a with a|a
  exact g x (List.mem_of_mem_take<|UE a);rcases U6.mp a with a|a
  exact(h z<|.head _).2 x a;exact i (λy b=>h y<|.tail _ b) x a
theorem akK{s:jU}(h:∀z∈s,z.2.length<=m):(s.map λz=>z.2.length).sum<=m*s.length:=by
 induction s with
 |nil=>exact Wy _
 |cons z s i=>
  have a:=h z (.head _);have b:=i λy c=>h y (.tail _ c);rw[TB,vG,Xm,Nat.mul_succ];lia
theorem Fc{s:jU}{p:Nat}(h:XD l p s)(t:∀z∈s,z.2.length<=4):(eG l p s).length<=l.length+4*s.length:=by
 have a:=RO h;have b:=akK t;lia
theorem akL(d:∀x∈l,SG.cps.contains x=true)(a:l.length<=3500)(i:z.1.1<=l.length/\z.1.2.1<=l.length)(g:good z.2/\z.2.length<=4):(∀p∈iN l [z],eN p)/\(iN l [z]).length<=4/\aG (iN l [z])<=4000:=
 EU (cs:=[z.1]) (tl:=[z.2]) d (E_ _) (λc b=>by rw[jS.mp b];exact i) (λt h=>by rw[jS.mp h];exact g) O (by show 1<=40;decide) a
inductive Fd(W C:D9)(U:ad)(H:Hp)(Q:VK)(E:XK):Prop|i(p s R T Z c a:D9)(l:am)(k:Nat×Nat)(Y:ad)(u:ii)(X:ac)(M:Nat)(_:U=[.r p,.r c,.r a])(_:br W C H p s R T Z l k)(_:(∀x∈l,SG.cps.contains x=true))(_:d_ H c l.length Y u)(_:jG H a X)(_:X.length=u.length)(_:(c≠R/\c≠T/\c≠Z))(_:(a≠R/\a≠T/\a≠Z))(_:l.length+160<=M)(_:M<=3500)(_:k.1+160<=9000)(_:k.2+40*M<=990000)(_:∀b I,dz s R T Z H I->gG W C s R T Z H I k (k.1+160,k.2+40*M)->br W C I b s R T Z (eG l 0<|u.zip X) (k.1+160,k.2+40*M)->Q (.r b) I)
theorem gj(h:aq H I):dz s R T Z H I:=λz o e Y Y Y Y=>h z o e
theorem br.uu(P:br W C H p s R T Z l k)(i:k.1<=o.1)(h:k.2<=o.2)(g:o.1<=9000)(f:o.2<=990000):br W C H p s R T Z l o:=by
 obtain⟨d,dx,v,t,a,zq⟩:=VL P;obtain⟨A,S,e,c,q,n,b,m,j⟩:=Ve zq;exact uP d dx v t a A S e c (Ut q i) (Ut n h) b g f
theorem jG.uv{hs:ad}(c:jG H a X)(P:br W C H p s R T Z l k)(n:a≠R/\a≠T/\a≠Z)(b:dz s R T Z H I):jG I a X:=by
 obtain⟨Y,Y,Y,Y,Y,Y,d⟩:=P.lists;exact⟨b _ _ c.h (λz=>by have h:=c.h;rw[z,d] at h;cases h) n.1 n.2.1 n.2.2,c.g⟩
theorem br.cf(P:br W C H p s R T Z l k)(b:dz s R T Z H I):gB H I:=by
 obtain⟨d,dx,v,t,a,zq⟩:=VL P;obtain⟨A,S,e⟩:=Vk zq;exact b.cf S
theorem nF(x:bq H U u)(t:gB H I):bq I U u:=Paired.fJ x (by rintro _ _ ⟨a,e,h⟩;exact ⟨a,e,t _ _ h⟩)
theorem d_.uv{a:D9}(d:d_ H a n Y u)(P:br W C H p s R T Z l k)(h:a≠R/\a≠T/\a≠Z)(b:dz s R T Z H I):d_ I a n Y u:=by
 obtain⟨U,U,U,U,U,U,e⟩:=P.lists;exact⟨b _ _ d.h (λz=>by have h:=d.h;rw[z,e] at h;cases h) h.1 h.2.1 h.2.2,nF d.c<|P.cf b,d.i,d.o,d.m,d.a⟩
abbrev agZ(K:Frag)(W:D9)(C:D9)(E:XK):aV:=aA K [("entered",mh W C)] [] [] [("changed",W,nk W C)] (E:=E)
theorem akM:bw (Fd W C) (λE=>agZ K W C E) NT NR:=by
 intro U H Q E h;obtain⟨p,s,R,T,Z,lc,lx,l,k,Y,u,X,M,rfl,P,gl,D,Ts,jH,nc,nx,hM,jb,k1,k2,q⟩:=h;have y:Y.length=u.length:=Id D.c;have lB:=D.m;have e:XD l 0 (u.zip X):=Yh D.a D.i (Wy _) λ_ _=>Wy _;have lz:(u.zip X).length=u.length:=by rw[Zr];lia
 obtain⟨d1,d2,d3⟩:=akJ ⟨u.length,(WU lB)⟩;refine aJ<|ae O<|akH<|aI<|gf<|ae O<|.inl ⟨_,ak.of D.h,ah<|d9<|pE<|pE ⟨_,_,_,u.length,O,ax,?_,?_,?_,uS (λi J L=>i<=u.length/\Y9 λ(u4:ld)(n:D9)=>ZL (J=[some<|.r p,some<|.r lc,some<|.r lx,some<|.r n,u4]) (dz s R T Z H L) (gG W C s R T Z H L k (k.1+4*i,k.2+i*M)) (br W C L n s R T Z (eG l 0<|(u.zip X).drop<|u.length - i) (k.1+4*i,k.2+i*M))) ?_ ?_ ?_⟩⟩;rw[y];exact d1;rw[y];exact d2;rw[y];exact d3;refine⟨Wy _,none,p,O,gj<|aq.refl _,λp0 l0 S=>S.uu (by show _<=_+4*0;exact mZ _) (by show _<=_+0*M;exact YJ _ _) (by show _+4*0<=_;exact Ut (YJ _ _) k1) (by show _+0*M<=_;lia),?_⟩;rw[kE,Tj<|WK lz];exact P.uu (by show _<=_+4*0;exact mZ _) (by show _<=_+0*M;exact YJ _ _) (by show _+4*0<=_;exact Ut (YJ _ _) k1) (by show _+0*M<=_;lia);rintro i J L hi ⟨_,u4,n,rfl,N,kp,B⟩;have ej:u.length - i=u.length - (i+1)+1:=by lia
 have hj:u.length - (i+1) <u.length:=by lia
 have em:(i+1)*M=i*M+M:=Nat.succ_mul i M;have d':(i+1)*M<=40*M:=Nat.mul_le_mul_right M (XC (Z1 hi lB));have ek:((Y.length:Nat):Int) - 1+(i:Int)* -1=((u.length - (i+1):Nat):Int):=by rw[y];lia
 rw[ej] at B;generalize u.length - (i+1)=j at*;have C2:=D.uv P nc N;have T2:=Ts.uv (hs:=[]) P nx N;have Sb:u[j]?=some u[j]:=VP hj;have Se:X[j]?=some X[j]:=VP al;have f:(u.zip X)[j]?=some (u[j],X[j]):=by rw[WN];exact⟨Sb,Se⟩
 have ed:(u.zip X).drop j=(u[j],X[j])::(u.zip X).drop (j+1):=by
  rw[Tz al];have:=(ZX.mp f).2;rw[this]
 have gt:=Ts.g X[j] (Ua _);have mt:∀z∈ (u.zip X).drop (j+1),good z.2/\z.2.length<=4:=λz f=>Ts.g _ (UZ<|UE f).2;obtain⟨O1,e1⟩:=aka (RP e f);generalize u[j]=c at*;generalize X[j]=t at*;have e':(eG l 0<|(u.zip X).drop<|j+1).length<=M:=by
  have:=Fc (RQ e (i:=j+1) al) λz f=>(mt z f).2;rw[Xh] at this;lia
 have Pd:(eG l 0<|(u.zip X).drop j).length<=M:=by
  have:=Fc (RQ e (i:=j) al) λz f=>(Ts.g _ (UZ<|UE f).2).2;rw[Xh] at this;lia
 rw[<-ed] at e1;have gm:=Sa (p:=0) gl λz f=>(mt z f).1;generalize eG l 0 ((u.zip X).drop<|j+1)=m at*;have i1:c.1<=m.length/\c.2.1<=m.length:=by
  have:=O1.2;have:V6 c<=m.length:=this;exact⟨al,al⟩
 have F:=yU (RK (l:=m) [(c,t)] ▸ RN O1);rw[X5,e1] at F;obtain⟨o1,o3,o4⟩:=akL (z:=(c,t)) gm (Ut e' jb) i1 gt;obtain⟨n1,n2,_⟩:=yT _ o1 (Ut o4 (VJ _ _));have n3:=E8 (iN m [(c,t)]);rw[vL _ o1] at n3;obtain⟨I,v,kr⟩:∃I v,L n=some (.i W I<|eU s v):=by
  obtain⟨I,dx,v,t,ts,A,_⟩:=VL B;exact⟨I,v,A.ob⟩
 obtain⟨xc,b',tc,rfl,um⟩:∃x,Y[j]?=some x/\gP L x c:=by
  obtain⟨tc,um⟩:=ZX.mp (VP (l:=Y) (i:=j) al);obtain⟨c',cL,hv⟩:=pJ C2.c (VP (l:=Y) (i:=j) tc);rw[Sb] at cL;cases cL;exact⟨_,VP tc,hv⟩
 show aw _ _ _ [some<|.r p,some<|.r lc,some<|.r lx,some<|.r n,some<|.i<|((Y.length:Nat):Int) - 1+(i:Int)* -1] L;rw[ek];refine aJ<|fZ W (nk W C) O<|ae O ⟨n,I,_,O,kr,rV,aD<|aC (mh W C) O<|af<|ae O<|af<|du<|af<|aD<|ae O<|ae O<|fo C2.h (gu b')<|ao ⟨ib,λq1 f1=>?_⟩⟩;generalize zz:upd _ q1 _=H3;have s3:=eL f1 zz;have mU:=eM zz;refine af<|du<|af<|aD<|ae O<|ae O<|fo (s3 _ _ T2.h) (gu (v:=V.s t) (by rw[Y5,Se];rfl))<|ao ⟨ib,λq2 f2=>?_⟩;generalize zz:upd _ q2 _=H4;have s4:=eL f2 zz;have iW:=eM zz;have gi:=s3.trans s4;refine ao ⟨n,s,R,T,Z,q1,q2,m,_,_,[c],[t],O,B.same gi,(Ut e' jb),gm,⟨s4 _ _ mU,.cons ⟨tc,O,gi _ _ um⟩ .nil,λd hd=>by rw[jS.mp hd];exact i1,mZ _,(by show 1<=40;decide),E_ c⟩,⟨iW,λd hd=>by rw[jS.mp hd];exact gt⟩,O,λw H5 s5 G=>?_⟩;obtain⟨tt,a,b,g,zs,us,zq⟩:=ZW G;obtain⟨rfl,ht,fa,_,ha,pv,_⟩:=YL zq;have Fe:=gi.trans s5;refine ah<|az ht (i:=0) O<|zV (ps:=iZ (iN m [(c,t)])) (o:=(k.1+4* (i+1),k.2+(i+1)*M)) (B.same Fe) ha ((B.same gi).fr fa) pv n2 n1 F al al (by show _+4*i+_<=_+4* (i+1);lia) (by show _+i*M+_<=_+(i+1)*M;lia) (by show _+4* (i+1)<=_;lia) (by show _+(i+1)*M<=_;exact Ut (YG d' _) k2) λp6 H6 b6 a' P6=>?_;exact⟨hi,_,p6,O,(N.trans<|gj Fe).trans b6,λp0 l0 S=>a' _ _<|(kp _ _ S).same Fe,P6⟩;rintro J L ⟨_,u4,n,rfl,N,kp,B⟩;rw[Nat.sub_self,X5] at B;have d':u.length*M<=40*M:=Nat.mul_le_mul_right M lB;have gg:∀{H:Hp}{p:D9}{l:am},br W C H p s R T Z l (k.1+4*u.length,k.2+u.length*M)->br W C H p s R T Z l (k.1+160,k.2+40*M):=λP=>P.uu (by show _+4*u.length<=_+160;lia) (by show _+u.length*M<=_+40*M;exact YG d' _) k1 k2;exact aS<|ae O<|q n L N (λp0 l0 S=>gg<|kp _ _ S)<|gg B
end
section
open PyProof.Rows
end
section
open PyProof.Rows PySem.W
end
section
open PyProof.Rows
end
section
variable{B:aV}{D:Xt}{J:St}{H:Hp}{r:bv}{Q:VK}{QT:tz}
theorem rX(h:ag B e J H λv d=>ag B o J d λx L=>ag B i J L λy c=>∃a b,x=.r a/\jN c a y v b/\aw B r D J b):aw B (.t o i e::r) D J H:=h
theorem h9{b:RE}(h:ag B a J H λx c=>ag B b J c λy L=>∃d v,x=.r d/\iu L d y (some v)/\Q v L):ag B (.D a b) J H Q:=h
variable{K:Frag}{M:pp}{C:D9}{I:Hp}{p dx d:D9}{n g:Nat}{G':db}{es:List Ent}
end
abbrev nV(n:am):ad:=n.map λk=>V.i (k:Nat)
theorem akQ(n:am):SeqAt.shaped (.list<|n.map λk=>PyData.int (k:Nat))=true:=by
 have h:∀l:am,PyData.canLayAll0 (l.map λk=>PyData.int (k:Nat))=true/\PyData.depthAll (l.map λk=>PyData.int (k:Nat))<=1:=by
  intro l;induction l with
  |nil=>exact⟨O,Wy _⟩
  |cons k l i=>
   refine⟨?_,?_⟩;show((PyData.int (k:Nat)).canLay0 && PyData.canLayAll0 (l.map λk=>PyData.int (k:Nat)))=true;rw[i.1];rfl;show max (PyData.int (k:Nat)).depth (PyData.depthAll<|l.map λk=>PyData.int (k:Nat))<=1;have:(PyData.int (k:Nat)).depth=0:=O;rw[this];lia
 obtain⟨c,d⟩:=h n;delta SeqAt.shaped;have e:(PyData.list<|n.map λk=>PyData.int (k:Nat)).canLay0=true:=c;have a:(PyData.list<|n.map λk=>PyData.int (k:Nat)).depth<=64:=by show PyData.depthAll (n.map λk=>PyData.int (k:Nat))+1<=64;lia
 rw[e,ZA a];rfl
theorem akR:∀n:am,IsL H (n.map λk=>PyData.int (k:Nat)) (nV n):=by
 intro l;induction l with
 |nil=>
  exact O
 |cons k r i=>
  exact⟨_,_,O,O,i⟩
section
variable{K:Frag}{M:pp}{C:D9}{H I:Hp}{p dx d rw n:Nat}{rs:List Sd}
end
section
variable{K:Frag}{H I:Hp}{B:aV}{J:St}{Q:VK}{E:XK}{f:am}
theorem akS{b:RE}(h:ag B a J H λx c=>ag B b J c λy L=>jO B.K .m [x,y] L Q):ag B (.t .m [a,b]) J H Q:=h
theorem Sf(h:ag B x J H λv j=>∃a,v=.r a/\(∃Y,ak B.K j a Y)/\∃W:Nat->Nat->ad->Hp->Prop,(∃m,W 0 m [] j)/\∀i m ys L,W i m ys L->
   ((cX B.K a).stop i L/\∀p,L p=none->Q (.r p) (upd L p<|.l ys))\/
   ((cX B.K a).go i L/\∀x f,(cX B.K a).dH i L x f->gZ B.K none x f λz=>iU (some (bj B.calm c)) (z.map some++bJ J fv) f λb g=>
    if b=true then ag B.calm e (z.map some++bJ J fv) g λy k=>ys.length<sizeLine/\∃d,d<m/\W (i+1) d (ys++[y]) k else ∃d,d<m/\W (i+1) d ys g)):ag B (.C none fv .l [x] (some c) e) J H Q:=wa (x:=x) _ _ (λZ Z=>Iff.rfl) h
theorem isN(q:Q (.b false) H):bW K .IsNot .a .a H Q:=⟨O,q⟩
theorem x1{b:D9}(d:H a=some (.l<|nV f))(c:H b=some (.l []))(h:f≠ [])(q:Q (.b false) H):bW K .Eq (.r a) (.r b) H Q:=by
 refine⟨.list<|f.map λk=>PyData.int (k:Nat),.list [],⟨a,_,O,d,akR f⟩,⟨b,[],O,c,O⟩,akQ f,O,?_⟩;cases f with
 |nil=>exact absurd O h
 |cons=>exact q
open Classical in
theorem Sg(g:Int->Fk)(n:Int):decide (∃m:Int,V.i n=.i m/\g m=true)=g n:=by
 cases h:g n with
 |true=>exact ZA ⟨n,rfl,h⟩
 |false=>exact XZ λ⟨m,e,z⟩=>by cases e;rw[h] at z;cases z
def pQ(x t:Str)(n:Int):Fk:=mG x (some (if n - (t.length:Int) >0 then n - (t.length:Int) else 0)) (some n)==t
theorem akV{x:Str}{B D:am}(h:x.cps.toList=B++(t.cps.toList++D)):pQ x t ((B.length+t.length:Nat):Int)=true:=by
 delta pQ;have e:(if ((B.length+t.length:Nat):Int) - (t.length:Int) >0 then ((B.length+t.length:Nat):Int) - (t.length:Int) else 0)=(B.length:Int):=by split<;>lia
 rw[e,show((B.length+t.length:Nat):Int)=(B.length:Int)+(t.length:Int) by lia,Dx h _ (by rw[Wj])];simp
inductive Ff(U:ad)(H:Hp)(Q:VK)(E:XK):Prop|i(x:Str)(f e:D9)(Y:ad)(a:ii)(c:ac)(_:U=[.s x,.r f,.r e])(_:x.length<=1000000)(_:H f=some (.l Y))(_:bq H Y a)(_:a.length<=64)(_:jG H e c)(_:(∀d∈a,d.1=d.2.1/\d.2.2=none))(_:(∀t∈c,∃d∈a,∃B D,x.cps.toList=B++(t.cps.toList++D)/\d.2.1=B.length+t.length))(_:∀I,aq H I->Q (.b true) I)
theorem C4:bw (Ff) (λE=>aP K E) NW NV:=by
 intro U H Q E h;obtain⟨x,M,G,Y,j,tl,rfl,hx,P,R,a',Z,he,hm,q⟩:=h;have I:Y.length=j.length:=Id R;refine E4 (k7 (ae O (qT M O (qY _ (ak.of P)) (l8 P al (λi ys L=>ys=nV ((j.take i).map (·.2.1))) O ?_ ?_))));rintro i y ys B hy b rfl Q' hq;obtain⟨c,X,t,rfl,f⟩:=pJ R hy;refine aD<|ae O<|ah<|az (b _ _ f) (i:=1) O<|hq _ _ (aq.refl _) ?_;rw[iK X];delta nV;simp;rintro ys B w b rfl fL;have z:aq H (upd B w (.l (nV ((j.take Y.length).map (·.2.1))))):=b.trans (Xo fL);have S:upd B w (.l (nV ((j.take Y.length).map (·.2.1)))) w=some (.l (nV ((j.take Y.length).map (·.2.1)))):=au;rw[Vo<|WK I.symm] at S z⊢;generalize upd B w (.l (nV (j.map (·.2.1))))=H1 at z S⊢;refine t6<|ae O ⟨G,O,⟨_,ak.of<|z _ _ Z.h⟩,ic (K:=K) (a:=G) (xs:=tl.map V.s) (λi J L=>∃(C:ld),J=[some<|.s x,some<|.r M,some<|.r G,some<|.r w,C]/\aq H1 L) ⟨none,O,aq.refl _⟩ (by rintro i J L _ ⟨_,_,u⟩;exact ak.of (u _ _<|z _ _ Z.h)) ?_ ?_⟩;rintro i v J L A ⟨C,rfl,u⟩;obtain⟨t,f,rfl⟩:=Zv.mp (zG A);have gt:=Z.g t f;have Sh:=u _ _ S;refine bh<|bf<|Sf<|ae O ⟨w,O,⟨_,ak.of Sh⟩,Rn (λv=> @decide (∃m:Int,v=.i m/\pQ x t m=true)<|Classical.propDecidable _) Sh (by simp;exact Ut a' (VJ _ _)) ?_ (λv k _ q=>ae O q) ?_⟩;intro v k A q;obtain⟨n,_,rfl⟩:=Zv.mp A;have q:k (@decide (∃m:Int,V.i ((n:Nat):Int)=.i m/\pQ x t m=true)<|Classical.propDecidable _) L:=q;rw[Sg<|pQ x t] at q;exact bf<|Qr<|ae O<|akS<|ah<|aI<|ae O<|gf<|ae O ⟨bQ gt.1.1,d9 ⟨_,O,ae O ⟨_,O,bQ hx,ae O<|m7 ⟨_,O,q⟩⟩⟩⟩;intro p T;have e:(nV (j.map (·.2.1))).filter (λv=> @decide (∃m:Int,v=.i m/\pQ x t m=true)<|Classical.propDecidable _)=nV ((j.map (·.2.1)).filter λn=>pQ x t (n:Nat)):=by
  delta nV;rw[List.filter_map];congr 1;refine List.filter_congr λn _=>?_;exact Sg (pQ x t) _
 rw[e];generalize zz:upd _ p _=H3;have F:=eL T zz;have hp:=eM zz;refine du<|ao ⟨Wy _,λe W=>?_⟩;have b:=Xo (o:=.l []) W;refine x1 (b _ _ hp) au ?_ (qF _ O (iF (bL (qF _ O ((u.trans F).trans b))) O));obtain⟨d,hd,B1,D,h1,h2⟩:=hm t f;have a:=akV h1;rw[<-h2] at a;exact List.ne_nil_of_mem<|List.mem_filter.mpr ⟨Zv.mpr ⟨d,hd,O⟩,a⟩;rintro J L ⟨C,rfl,u⟩;have N:=z.trans u;have mz:=N _ _ P;have nW:=R.same N;refine aS<|fj<|Sf<|ae O ⟨M,O,⟨_,ak.of mz⟩,Rn (λ_=>false) mz al ?_ (λv k _ q=>ae O q) ?_⟩;intro v k A q;obtain⟨i,hi⟩:=List.mem_iff_getElem?.mp A;obtain⟨c,X,t,rfl,f⟩:=pJ nW hi;obtain⟨e1,e2⟩:=he c (zG X);refine j9<|bf<|aD<|ae O<|ah<|az f (i:=0) O<|aD<|ae O<|ah<|az f (i:=1) O<|vT ⟨_,O,iF ?_ (by rw[e1];simp)⟩;refine bf<|aD<|ae O<|ah<|az f (i:=2) O<|ah ?_;rw[e2];exact isN (qF _ O q);intro p T;rw[show Y.filter (λ_=>false)=[] by simp];refine du<|ao ⟨Wy _,λe W=>?_⟩;have F:=Xo (o:=.l []) T;have b:=Xo (o:=.l []) W;exact ajG (b _ _ au) au .nil .nil<|q _<|(N.trans F).trans b
end
abbrev oS(p:D9)(x:Str)(l:D9):db:=[(.inr "paper",.r p),(.inr "text",.s x),(.inr "cursors",.r l)]
section
variable{K:Frag}{W C:D9}{H I L:Hp}{R p s d T Z N a t b:D9}{x:Str}{l r:am}{k g q:Nat×Nat}{B:aV}{J:St}{Q:VK}{E:XK}{M:ii}{w:ac}{Y f:ad}{X:db}
theorem wO(h:H R=some (.d<|oS p x N)):iu H R (.s "paper") (some<|.r p):=by
 have:=iu.k (k:=.inr "paper") h;rw[sI O] at this;exact this
theorem pR(h:H R=some (.d<|oS p x N)):iu H R (.s "text") (some<|.s x):=by
 have:=iu.k (k:=.inr "text") h;rw[mD (show ¬(Sum.inr "paper":YD)=.inr "text" by decide+kernel),sI O] at this;exact this
theorem Fg(h:H R=some (.d<|oS p x N)):iu H R (.s "cursors") (some<|.r N):=by
 have:=iu.k (k:=.inr "cursors") h;rw[mD (show ¬(Sum.inr "paper":YD)=.inr "cursors" by decide+kernel),mD (show ¬(Sum.inr "text":YD)=.inr "cursors" by decide+kernel),sI O] at this;exact this
theorem Si:¬(Sum.inr "paper":YD)=.inr "text"/\ ¬(Sum.inr "paper":YD)=.inr "cursors"/\ ¬(Sum.inr "text":YD)=.inr "cursors":=by decide+kernel
theorem rY:Ta (oS p x N) (.inr "paper") (.r p')=oS p' x N/\Ta (oS p x N) (.inr "text") (.s x')=oS p x' N/\Ta (oS p x N) (.inr "cursors") (.r lc')=oS p x lc':=by
 obtain⟨b,a,n⟩:=Si;have d:¬(Sum.inr "text":YD)=.inr "paper":=λz=>b z.symm;have c:¬(Sum.inr "cursors":YD)=.inr "paper":=λz=>a z.symm;have m:¬(Sum.inr "cursors":YD)=.inr "text":=λz=>n z.symm;refine⟨?_,?_,?_⟩ <;>(delta Ta;rw[GT ap];simp only[TB,lA,GM b,GM a,GM n,GM d,GM c,GM m,GT])
def jc(R s d T Z:D9)(H I:Hp):Prop:= ∀z o,H z=some o->z≠R->z≠s->z≠d->z≠T->z≠Z->I z=some o
abbrev Uv(d T Z a:D9):Prop:=a≠d/\a≠T/\a≠Z
theorem br.ob(P:br W C H p s d T Z l k):∃a v,H p=some (.i W a<|eU s v):=by
 obtain⟨a,dx,v,t,b,A,Y⟩:=VL P;exact⟨a,v,A.ob⟩
theorem br.nR(P:br W C H p s d T Z l k)(h:H R=some (.d X)):R≠s/\R≠d/\R≠T/\R≠Z:=by
 obtain⟨⟨Y,e⟩,⟨Y,c⟩,⟨Y,b⟩,Y,Y,Y,a⟩:=P.lists;exact⟨λz=>(by rw[z,a] at h;cases h),λz=>(by rw[z,e] at h;cases h),λz=>(by rw[z,c] at h;cases h),λz=>(by rw[z,b] at h;cases h)⟩
theorem br.dict(P:br W C H p s d T Z l k)(h:H R=some (.d X))(u:dz s d T Z H I):I R=some (.d X):=by
 obtain⟨c,b,a,n⟩:=P.nR h;exact u _ _ h c b a n
theorem br.lst(P:br W C H p s d T Z l k)(n:Uv d T Z a)(h:H a=some (.l f))(u:dz s d T Z H I):I a=some (.l f):=by
 obtain⟨Y,Y,Y,Y,Y,Y,b⟩:=P.lists;exact u _ _ h (λz=>by rw[z,b] at h;cases h) n.1 n.2.1 n.2.2
theorem uw(h:H R=some (.d X))(u:aH R H I):gB H I:=λy s e=>u _ _ e (λz=>by rw[z,h] at e;cases e)
theorem br.nG(P:br W C H p s d T Z l k)(h:H R=some (.d X))(u:aH R H I):br W C I p s d T Z l k:=by
 obtain⟨i,dx,v,t,a,zq⟩:=VL P;obtain⟨A,S,e⟩:=Vk zq;have n:∀{z:D9}{o:HO},H z=some o->(∀f,o≠ .d f)->z≠R:=λe g z=>by rw[z,h] at e;cases e;exact g _ O
 exact⟨i,dx,v,t,a,⟨u _ _ A.ob (n A.ob λY z=>by cases z),A.nd.mono<|uw h u,A.ok,A.c⟩,⟨u _ _ S.ob (n S.ob λY z=>by cases z),u _ _ S.t (n S.t λY z=>by cases z),u _ _ S.b (n S.b λY z=>by cases z),u _ _ S.f (n S.f λY z=>by cases z),S.n1,S.n2,S.n3⟩,e⟩
theorem gG.trans(a:gG W C s d T Z H I k g)(b:gG W C s d T Z I L g q):gG W C s d T Z H L k q:=λp l P=>b p l (a p l P)
theorem h_(h:aq H I):gG W C s d T Z H I k k:=λp l P=>P.same h
theorem r6(h:H R=some (.d X))(u:aH R H I):gG W C s d T Z H I k k:=λp l P=>P.nG h u
theorem nH(h:dz s d T Z H I):jc R s d T Z H I:=λz o e Y c b a n=>h z o e c b a n
theorem r9(h:aH R H I):jc R s d T Z H I:=λz o e n Y Y Y Y=>h z o e n
theorem jc.trans(a:jc R s d T Z H I)(b:jc R s d T Z I L):jc R s d T Z H L:=λz o e n h g f c=>b z o (a z o e n h g f c) n h g f c
theorem jc.lst(u:jc R s d T Z H I)(P:br W C H p s d T Z l k)(b:H R=some (.d X))(n:Uv d T Z a)(h:H a=some (.l f)):I a=some (.l f):=by
 obtain⟨Y,Y,Y,Y,Y,Y,c⟩:=P.lists;exact u _ _ h (λz=>by rw[z,b] at h;cases h) (λz=>by rw[z,c] at h;cases h) n.1 n.2.1 n.2.2
theorem jc.cf(u:jc R s d T Z H I)(P:br W C H p s d T Z l k)(h:H R=some (.d X)):gB H I:=λy g e=>by
 obtain⟨⟨Y,f⟩,⟨Y,c⟩,⟨Y,b⟩,Y,Y,Y,a⟩:=P.lists;exact u _ _ e (λz=>by rw[z,h] at e;cases e) (λz=>by rw[z,a] at e;cases e) (λz=>by rw[z,f] at e;cases e) (λz=>by rw[z,c] at e;cases e) (λz=>by rw[z,b] at e;cases e)
structure ia(W C:D9)(H:Hp)(R p s d T Z N:D9)(x:Str)(k:Nat×Nat)(Y:ad)(M:ii):Prop where
 o:H R=some (.d<|oS p x N)
 P:br W C H p s d T Z x.cps.toList k
 gx:good x
 a:d_ H N x.length Y M
 nc:Uv d T Z N
theorem ia.same(S:ia W C H R p s d T Z N x k Y M)(h:aq H I):ia W C I R p s d T Z N x k Y M:=⟨h _ _ S.o,S.P.same h,S.gx,S.a.same h,S.nc⟩
def Fh(H:Hp)(t a b:D9)(l:am)(M:ii)(w:ac):Prop:= ∃f z u,H t=some (.t [.r a,.r b])/\H a=some (.l f)/\aX H f (iZ<|iN l<|M.zip w)/\H b=some (.l z)/\eJ (pM l<|M.zip w) u/\bq H z (WJ (pM l<|M.zip w) u)
theorem zR.at(G:zR H I v l M w):∃t a b,v=.r t/\H a=none/\H b=none/\Fh I t a b l M w:=by
 obtain⟨t,a,b,f,z,u,zq⟩:=ZW G;obtain⟨e,m,k,j,i,g,d,c,h⟩:=Ve zq;exact⟨t,a,b,e,k,j,f,z,u,m,i,g,d,c,h⟩
theorem Sj{a:RE}(h:ag B a J H λx b=>jO B.K .s [x] b Q):ag B (.t .s [a]) J H Q:=h
theorem akX:∀s:am,(s.map λk=>((k:Nat):Int)).sum=(s.sum:Nat):=by
 intro l;induction l with
 |nil=>
  exact O
 |cons n r i=>
  rw[TB,vG,vG,i];lia
theorem Sk(A:H a=some (.l<|w.map V.s))(E:w.length<=1000)(n:∀t∈w,t.length<=100000)(q:∀L,aq H L->Q (.i (((w.map Str.length).sum:Nat):Int)) L):∃W:Nat->Nat->ad->Hp->Prop,(∃m,W 0 m [] H)/\∀i m f L,W i m f L->
   ((cX B.K a).stop i L/\∀p,L p=none->jO B.K .s [.r p] (upd L p<|.l f) Q)\/
   ((cX B.K a).go i L/\∀x d,(cX B.K a).dH i L x d->gZ B.K none x d λz=>iU none (z.map some++bJ J []) d λb g=>
    if b=true then ag B.calm (.t .l [.v 0]) (z.map some++bJ J []) g λy D=>f.length<sizeLine/\∃c,c<m/\W (i+1) c (f++[y]) D else ∃c,c<m/\W (i+1) c f g):=by
 refine l8 (QQ:=λf L p=>jO B.K .s [.r p] (upd L p<|.l f) Q) A (by simp;exact Ut E (VJ _ _)) (λi f L=>f=nV ((w.take i).map Str.length)) O ?_ ?_;rintro i v f L h e rfl F u;rw[Y5] at h;obtain⟨t,S,rfl⟩:=Yb.mp h;refine gf<|ae O ⟨bQ (by have:=n t (zG S);exact Ut this (VJ _ _)),u _ _ (aq.refl _) ?_⟩;rw[iK S];delta nV;simp;rintro f L p e rfl C;rw[VH,Vo<|mZ _];have j:=Xo (o:=.l (nV<|w.map Str.length)) C;refine⟨(w.map Str.length).map λk=>((k:Nat):Int),?_,?_⟩;rw[Ti];exact ak.of au;rw[akX];exact q _ (e.trans j)
theorem akY(h:∀c∈M,c.1<=l.length/\c.2.1<=l.length)(e:w.length=M.length):((jB l M).map Str.length).sum=((M.zip w).map λz=>V6 z.1 - YT z.1).sum/\(w.map Str.length).sum=((M.zip w).map λz=>z.2.length).sum:=by
 have d:M=(M.zip w).map Prod.fst:=(List.map_fst_zip al).symm;have b:w=(M.zip w).map Prod.snd:=(List.map_snd_zip (WK e)).symm;refine⟨?_,?_⟩
 conv=>lhs;rw[d]
 delta jB;rw[Ti,Ti];refine IR _<|YC λz a=>?_;have:=h z.1 (UZ a).1;exact Qn (be _) (by show max _ _<=_;lia)
 conv=>lhs;rw[b]
 rw[Ti];rfl
end
section
variable{K:Frag}{W C:D9}{H I:Hp}{R p s f T Z o:D9}{x:Str}{l r:am}{k:Nat×Nat}{B:aV}{J:St}{Q:VK}{E:XK}{N:ii}{X:ac}{Y g:ad}
theorem Fi(q:Q (.b true) H):bW K .Is .a .a H Q:=⟨O,q⟩
inductive wQ(W C:D9)(U:ad)(H:Hp)(Q:VK)(E:XK):Prop|i(R p s f T Z g o l t a b:D9)(x:Str)(k:Nat×Nat)(Y:ad)(N:ii)(X:ac)(M:Nat)(_:U=[.r R,.r l,.r o,.r t])(_:H R=some (.d<|oS p x g))(_:br W C H p s f T Z x.cps.toList k)(_:good x)(_:d_ H o x.length Y N)(_:jG H l X)(_:X.length=N.length)(_:Fh H t a b x.cps.toList N X)(_:Uv f T Z o)(_:Uv f T Z l)(_:Uv f T Z a)(_:Uv f T Z b)(_:x.length+160<=M)(_:M<=3500)(_:k.1+402<=9000)(_:k.2+42*M<=990000)(_:∀e c z h I,jc R s f T Z H I->gG W C s f T Z H I k (k.1+402,k.2+42*M)->ia W C I R e s f T Z b c (k.1+402,k.2+42*M) z h->c.length<=M->Q (.b true) I)
abbrev GEl(K:Frag)(W C:D9)(E:XK):aV:=aA K [("taken",E5 W C),("_law_one_by_one",Fd W C),("_law_done",vO),("back",Dw),("_law_at_places",Ff),("need_cursors",hV)] [] [] [("changed",W,nk W C),("text",W,nj W C),("size",W,cC W)] (E:=E)
theorem Sm:(⟨r.toArray⟩:Str).cps.toList=r/\(⟨r.toArray⟩:Str).length=r.length:=by simp[Str.length]
theorem ak0:bw (wQ W C) (λE=>GEl K W C E) dj iX:=by
 intro U H Q E h;obtain⟨R,p,s,f,T,Z,y,o,lx,t,a,b,x,k,Y,N,X,M,rfl,J,P,gx,Cs,F,jH,⟨g,zs,us,I,ha,pv,hb,Sr,cv⟩,nc,nx,na,nb,hM,jb,k1,k2,q⟩:=h;have ll:=Wj x;have ci:∀c∈N,c.1<=x.cps.toList.length/\c.2.1<=x.cps.toList.length:=by rw[<-ll];exact Cs.i
 have Sn:d_ H o x.cps.toList.length Y N:=by rw[<-ll];exact Cs
 have lB:=Cs.m;have o1:=Cs.o;obtain⟨r1,r3,r4⟩:=EU (l:=x.cps.toList) gx.2 Cs.a ci F.g jH Cs.m al;obtain⟨n1,n2,n4⟩:=yT _ r1 (Ut r4 (VJ _ _));have n3:=E8 (iN x.cps.toList<|N.zip X);rw[vL _ r1] at n3;have j:XD x.cps.toList 0 (N.zip X):=Yh Cs.a ci (Wy _) λ_ _=>Wy _;have B:=yU (RK (l:=x.cps.toList) (N.zip X) ▸ RN j);rw[X5] at B;have lz:(N.zip X).length=N.length:=by rw[Zr];lia
 have lr:=Fc j λz hz=>(F.g _ (UZ hz).2).2;have ln:=RO j;obtain⟨w1,w2⟩:=akY ci jH;rw[<-w1,<-w2] at ln;have gr:=Sa (p:=0) (zs:=N.zip X) gx.2 λz hz=>(F.g _ (UZ hz).2).1;obtain⟨c1,c2⟩:=akb (A:=[]) j;rw[show(([]:am).length)=0 from O,<-RL (l:=x.cps.toList)] at c1 c2;have So:(pM x.cps.toList<|N.zip X).length=N.length:=by rw[RL,Pv,lz]
 obtain⟨iI,d'⟩:=akB Sr c1;have G:=uk Sr λc S=>(by have:=c1 c S;exact⟨al,this.2.2⟩);have n:∀t∈X,∃d∈WJ (pM x.cps.toList<|N.zip X) us,∃B1 D,[]++eG x.cps.toList 0 (N.zip X)=B1++(t.cps.toList++D)/\d.2.1=B1.length+t.length:=λt I=>by
  obtain⟨i,hi,e⟩:=List.mem_iff_getElem.mp I;obtain⟨c,S,B1,D,z1,z2⟩:=c2 (N[i],t) (zG (i:=i) (by rw[WN];exact⟨VP (Z1 hi (WK jH)),by rw[VP hi,e]⟩));obtain⟨d,hd,ed⟩:=d' c S;exact qF d hd ⟨B1,D,z1,by rw[ed];exact z2⟩
 rw[Z4] at n G;generalize WJ (pM x.cps.toList<|N.zip X) us=V at cv iI G n;generalize iZ (iN x.cps.toList<|N.zip X)=ps at*;generalize er:eG x.cps.toList 0 (N.zip X)=r at*;have r':ps.length<=121:=by lia
 have q':r.length<=M:=by lia
 obtain⟨dp,v,kr⟩:=P.ob;refine aJ<|h9<|ae O<|ah ⟨R,_,O,wO J,Qy<|ae O<|Qz I ?_⟩;refine aJ<|Sj<|k7<|aC (E5 W C) O<|af<|ae O<|af<|ae O<|ao ⟨p,s,f,T,Z,o,_,k,Y,N,O,P,Sn,λL1 H1 s1 fL hL=>qT L1 O (qY _ (ak.of hL)) (Sk hL (by rw[jB,VH];exact Ut lB (VJ _ _)) (λt I=>?_) λL s2=>?_)⟩;obtain⟨c,S,rfl⟩:=Zv.mp I;have:=ci c S;rw[Qn (be _) (by show max _ _<=_;lia)];lia;have ja:=s1.trans s2;refine aJ<|fZ W (nk W C) O<|ae O ⟨p,dp,_,O,ja _ _ kr,rV,ae O<|zV (o:=(k.1+121,k.2+M)) (P.same ja) (ja _ _ ha) na (pv.mono<|aR ja) n2 n1 B al (Ut r' (VJ _ _)) (by show _<=_+121;exact YG r' _) (by show _<=_+M;exact YG q' _) (by show _+121<=_;lia) (by show _+M<=_;lia) λw H3 b3 i' P3=>?_⟩;have m':dz s f T Z H H3:=(gj ja).trans b3;have zW:gG W C s f T Z H H3 k (k.1+121,k.2+M):=(h_ ja).trans i';refine bh<|j9<|bf<|pP P3 O (λQ1 u=>ae O u) λH4 s4=>?_;have Fj:=m'.trans (gj s4);refine g_ W (nj W C) O<|aC (Fd W C) O<|af<|ae O<|af<|ae O<|af<|ae O<|ao ⟨p,s,f,T,Z,o,lx,_,(k.1+121,k.2+M),Y,N,X,M,O,(zW _ _ P).same s4,gx.2,Sn.uv P nc Fj,F.uv (hs:=[]) P nx Fj,jH,nc,nx,al,jb,by show _+121+160<=_;lia,by show _+M+40*M<=_;lia,λp2 H5 b5 h' P5=>E9 P5 λH6 s6=>kT (qF _ O (iF ?_ (by rw[er];simp)))⟩;have l':=(Fj.trans b5).trans (gj s6);have Sq:gG W C s f T Z H3 H6 (k.1+121,k.2+M) (k.1+121+160,k.2+M+40*M):=((h_ s4).trans h').trans (h_ s6);refine bf<|pP (Sq _ _<|zW _ _ P) O (λQ1 u=>ae O u) λH7 s7=>?_;have zX:=l'.trans (gj s7);have Fl:=Sq.trans (h_ (k:=(k.1+121+160,k.2+M+40*M)) s7);refine h9<|ae O<|ah ⟨R,_,O,pR<|P.dict J zX,kT ⟨_,O,iF (bL ?_) (by rw[wN];simp)⟩⟩;refine bh<|bf<|pN (Fl _ _ P3) O (λQ1 u=>ae O u)<|aI<|aI<|pN (Fl _ _<|zW _ _ P) O (λQ1 u=>ae O u)<|ae O<|d9<|Sj<|k7<|ae O ⟨lx,O,⟨_,ak.of<|P.lst nx F.h zX⟩,Sk (P.lst nx F.h zX) al (λt I=>by have:=(F.g t I).2;exact Ut this (VJ _ _)) λH8 s8=>bU (vT (qF _ O (iF (bL ?_) ?_)))⟩
 rotate_left
 exact IR (!·) (ZA al);have k':=zX.trans (gj s8);have Ss:=Fl.trans (h_ (k:=(k.1+121+160,k.2+M+40*M)) s8);refine bh<|j9<|bf<|pP (Ss _ _ P3) O (λQ1 u=>ae O u) λH9 s9=>?_;have wR:=k'.trans (gj s9);have Su:=Ss.trans (h_ (k:=(k.1+121+160,k.2+M+40*M)) s9);have Sv:=P.cf wR;refine aC vO O<|af<|h9<|ae O<|ah ⟨R,_,O,pR<|P.dict J wR,af<|ae O<|ao ⟨x,a,g,ps,r,O,gx,P.lst na ha wR,pv.mono Sv,λp hp=>C0<|n2 p hp,B,al,kT ⟨_,O,iF ?_ ap⟩⟩⟩;have P9:=Su _ _ P3;obtain⟨j',v1,o'⟩:=P9.ob;obtain⟨⟨bo,bc,n'⟩,_⟩:=(⟨n2,n1,B⟩:yZ ps x.cps.toList r).bk n4;have bl:(bk ps).length<=ps.length:=by
  have:=E8 (cU ps);rw[show(cU ps).length=ps.length by simp[cU]] at this;exact this
 refine bf<|g_ W (nj W C) O<|fZ W (nk W C) O<|ae O ⟨w,j',_,O,o',rV,aC Dw O<|af<|ae O<|ao ⟨a,g,ps,O,P.lst na ha wR,pv.mono Sv,n2,n1,(Ut r' (VJ _ _)),n4,λc HA ws sA fc S c'=>?_⟩⟩;refine zV (ps:=bk ps) (o:=(k.1+402,k.2+42*M)) (P9.same sA) S (P9.fr fc) c' bo bc n' al al (by show _+121+160+_<=_+402;lia) (by show _+M+40*M+_<=_+42*M;lia) k1 k2 λp3 HB bB g' PB=>E9 PB λHC sC=>?_;have Sw:=((wR.trans<|gj sA).trans bB).trans (gj sC);have Sx:gG W C s f T Z H3 HC (k.1+121,k.2+M) (k.1+402,k.2+42*M):=((Su.trans<|h_ sA).trans g').trans (h_ sC);refine h9<|ae O<|ah ⟨R,_,O,pR<|P.dict J Sw,kT ⟨_,O,iF (bL ?_) (by rw[wN];simp)⟩⟩;obtain⟨e1,e2⟩:=Sm (r:=r);have b':V.length<=40:=by have:=G.len;lia
 refine bh<|eR<|gb Ff O<|af<|pP (Sx _ _ P3) O (λQ1 u=>ae O u) λHD sD=>?_;have zY:=Sw.trans (gj sD);refine af<|ae O<|af<|ae O<|ao ⟨⟨r.toArray⟩,b,lx,zs,V,X,O,al,P.lst nb hb zY,nF cv<|P.cf zY,(Ut b' (VJ _ _)),F.uv (hs:=[]) P nx zY,iI,by rw[e1];exact n,λHE sE=>eT<|iF (bL ?_) O⟩;have Sy:=zY.trans (gj sE);have Sz:=Sx.trans (h_ (k:=(k.1+402,k.2+42*M))<|sD.trans sE);have u0:=nH (R:=R) Sy;have Fm:=P.dict J Sy;have PE:=Sz _ _ P3;have f':=zW.trans Sz;refine rX<|ae O<|ae O<|ah ⟨R,_,O,jN.k (k:=.inr "paper") Fm<|bR (by show 3<=1000000;decide),?_⟩;rw[(rY (x':=x) (lc':=y)).1];have bF:aH R HE (upd HE R<|.d<|oS w x y):=aH.upd;have zZ:upd HE R (.d<|oS w x y) R=some (.d<|oS w x y):=au;generalize upd HE R (.d<|oS w x y)=HF at bF zZ⊢;have PF:=PE.nG Fm bF;refine rX<|pP PF O (λQ1 u=>ae O u) λHG sG=>ae O (ah (rC R _ O (jN.k (k:=.inr "text") (sG _ _ zZ)<|bR (by show 3<=1000000;decide)) ?_));rw[(rY (p':=p) (lc':=y)).2.1];have bH:aH R HG (upd HG R<|.d<|oS w ⟨r.toArray⟩ y):=aH.upd;have z0:upd HG R (.d<|oS w ⟨r.toArray⟩ y) R=some (.d<|oS w ⟨r.toArray⟩ y):=au;generalize upd HG R (.d<|oS w ⟨r.toArray⟩ y)=HH at bH z0⊢;have PH:=(PF.same sG).nG (sG _ _ zZ) bH;refine rX<|ae O<|ae O<|ah ⟨R,_,O,jN.k (k:=.inr "cursors") z0<|bR (by show 3<=1000000;decide),?_⟩;rw[(rY (p':=p) (x':=x)).2.2];have bI:aH R HH (upd HH R<|.d<|oS w ⟨r.toArray⟩ b):=aH.upd;have SA:upd HH R (.d<|oS w ⟨r.toArray⟩ b) R=some (.d<|oS w ⟨r.toArray⟩ b):=au;generalize upd HH R (.d<|oS w ⟨r.toArray⟩ b)=HI at bI SA⊢;have PI:=PH.nG z0 bI;have uI:jc R s f T Z H HI:=(((u0.trans<|r9 bF).trans<|nH<|gj sG).trans<|r9 bH).trans (r9 bI);have e':gG W C s f T Z H HI k (k.1+402,k.2+42*M):=(((f'.trans<|r6 Fm bF).trans<|h_ sG).trans<|r6 (sG _ _ zZ) bH).trans (r6 z0 bI);have a':1<=V.length:=UI.mpr (G.ne λz=>by rw[z] at So;exact absurd So (by show ¬0=_;exact V9 (TK o1)));have CI:d_ HI b (⟨r.toArray⟩:Str).length zs V:=⟨uI.lst P J nb hb,nF cv<|uI.cf P J,by rw[e2];exact G.p,a',b',G.uj.apart⟩;refine aS<|fj<|aC hV O<|af<|pN PI O (λQ1 u=>ae O u)<|af<|ae O<|ao ⟨_,b,zs,V,O,CI.h,CI.c,a',b',G.p,CI.a,λHJ sJ=>ah<|Fi ?_⟩;rw[<-e1] at PI;exact q w ⟨r.toArray⟩ zs V HJ (uI.trans<|nH<|gj sJ) (e'.trans<|h_ sJ) ((⟨SA,PI,⟨al,by rw[e1];exact gr⟩,CI,nb⟩:ia W C HI R w s f T Z b ⟨r.toArray⟩ (k.1+402,k.2+42*M) zs V).same sJ) (Ut (WK e2) q')
variable{P t a b:D9}{d i:Nat×Nat}
theorem z9{a:RE}(h:ag B a J H λx b=>jO B.K .t [x] b Q):ag B (.t .t [a]) J H Q:=h
theorem ald(e:H a=some (.l [v]))(h:n<=1000000)(q:∀c,H c=none->Q (.r c) (upd H c<|.l<|List.replicate n v)):lO K .Mult (.r a) (.i (n:Nat)) H Q:=by
 have f:∀n:Nat,(List.replicate n [v]).flatten=List.replicate n v:=λn=>by
  induction n with
  |zero=>rfl
  |succ n b=>rw[Vf,Wx,b,Vf];rfl
 refine uM a n [v] O O e al ⟨al,?_,λc d=>?_⟩;show 1* ((n:Nat):Int).toNat<=sizeLine;rw[Yx,Nat.one_mul];exact bQ h;rw[Yx,f];exact q c d
theorem gG.ge(a:gG W C s f T Z H I k d)(b:d.1<=i.1)(h:d.2<=i.2)(e:i.1<=9000)(c:i.2<=990000):gG W C s f T Z H I k i:=λp l P=>(a p l P).uu b h e c
theorem d_.len(C:d_ H o x.length Y N):d_ H o x.cps.toList.length Y N:=by rw[<-Wj];exact C
def nJ(W C:D9)(H:Hp)(R s f T Z:D9)(k d:Nat×Nat)(M:Nat)(Q:VK):Prop:= ∀p l x z a I,jc R s f T Z H I->gG W C s f T Z H I k d->ia W C I R p s f T Z l x d z a->x.length<=M->Q (.b true) I
theorem SD{e:D9}{j:ad}(S:ia W C H R p s f T Z e x k j h)(L:x.length+320<=M)(K:M<=3600)(d:k.1+402<=9000)(i:k.2+42*M<=990000)(G:d_ H o x.length Y N)(F:jG H P X)(B:X.length=N.length)(A:Fh H t a b x.cps.toList N X)(m:Uv f T Z o)(n:Uv f T Z P)(w:Uv f T Z a)(v:Uv f T Z b)(q:nJ W C H R s f T Z k (k.1+402,k.2+42*M) M Q):wQ W C [.r R,.r P,.r o,.r t] H Q E:=by
 refine⟨R,p,s,f,T,Z,e,o,P,t,a,b,x,k,Y,N,X,x.length+160,O,S.o,S.P,S.gx,G,F,B,A,m,n,w,v,mZ _,al,d,al,λl g z D I u y c J=>?_⟩;refine q l b g z D I u (y.ge (mZ _) (by show _+42*_<=_+42*_;lia) d i) ⟨c.o,c.P.uu (mZ _) (by show _+42*_<=_+42*_;lia) d i,c.gx,c.a,c.nc⟩ al
theorem nJ.same(q:nJ W C H R s f T Z k d M Q)(h:aq H I):nJ W C I R s f T Z k d M Q:=λp a x z c L u b S l=>q p a x z c L ((nH<|gj h).trans u) ((h_ h).trans b) S l
abbrev wU(K:Frag)(W C:D9)(E:XK):aV:=aA K [("_law_mixed",kN),("_law_texts",ZH),("_law_entered",wQ W C),("entered",mh W C),("_law_wide",Fb W C),("erased",E7 W C),("all_stepped",wJ W C),("need_cursors",hV),("_law_change",ER),("carried",EL),("_law_done",vO)] [] [] [("size",W,cC W),("changed",W,nk W C),("text",W,nj W C)] (E:=E)
noncomputable def sD(R:D9)(c:Int)(p o:D9)(m:Int):St:=[some<|.r R,some<|.i c,some<|.r p,some<|.r o,some<|.i m,none,none,none,none]
noncomputable def CG:bv:=[.a 5 (.l 1 [.v 1,(.t .l [.v 3])]),
  .r (.l 2 [.v 0,.v 5,.v 3,(.l 3 [.v 2,(.t .t [.v 3]),(.t .t [.v 5])])])]
section
variable{M:Nat}{c m:Int}{D:Xt}
theorem alf(S:ia W C H R p s f T Z o x k Y N)(hM:x.length+320<=M)(jb:M<=3600)(k1:k.1+402<=9000)(i:k.2+42*M<=990000)(q:nJ W C H R s f T Z k (k.1+402,k.2+42*M) M D.r):aw (wU K W C E) CG D (sD R c p o m) H:=by
 have w:=S.a;have V:Y.length=N.length:=Id w.c;have lB:=w.m;refine aJ<|aC ZH O<|af<|ae O<|af<|gf<|ae O<|.inl ⟨_,ak.of w.h,ao ⟨c,Y.length,O,(Ut (WK V) lB),λP X H1 B l u t4 jH=>?_⟩⟩;have Q:=S.same B;refine aS<|aC (wQ W C) O<|af<|ae O<|af<|ae O<|af<|ae O<|af<|aC (mh W C) O<|af<|ae O<|af<|z9<|ae O ⟨Y,.inl<|ak.of Q.a.h,λI f1=>?_⟩;generalize zz:upd _ I _=L;have z:=eL f1 zz;have g8:=eM zz;refine af<|z9<|ae O ⟨_,.inl<|ak.of<|z _ _ u.h,λF f2=>?_⟩;generalize zz:upd _ F _=H3;have y:=eL f2 zz;have U:=eM zz;have n:=z.trans y;have d:=Q.same n;have e:=d.a.len;refine ao ⟨p,s,f,T,Z,I,F,_,k,Y,N,X,O,d.P,by have:=Wj x;lia,S.gx.2,⟨y _ _ g8,e.c,e.i,e.o,e.m,e.a⟩,⟨U,u.g⟩,al,λv H4 j G=>?_⟩;obtain⟨t,a,b,zq⟩:=U1 G.at;obtain⟨rfl,fa,fb,A⟩:=l5 zq;have J:=d.same j;exact ao<|SD J hM jb k1 i J.a ((u.same n).same j) al A S.nc (S.P.fr l) (d.P.fr fa) (d.P.fr fb)<|q.same<|(B.trans n).trans j
noncomputable def deE:bv:=[.a 6 (.i (.L [(.c (.s "left")),(.c (.s "right")),(.c (.s "back")),(.c (.s "on")),(.c (.s "home")),(.c (.s "end"))]) (.b .Mod (.v 4) (.c (.i 6)))),
  .a 7 (.l 4 [.v 2,.v 3,.v 6]),
  .r (.l 2 [.v 0,(.b .Mult (.L [(.c (.s ""))]) (.t .l [.v 7])),.v 7,(.l 5 [.v 2,(.t .t [.v 3]),.v 6])])]
theorem ali(S:ia W C H R p s f T Z o x k Y N)(hM:x.length+320<=M)(jb:M<=3600)(k1:k.1+402<=9000)(i:k.2+42*M<=990000)(q:nJ W C H R s f T Z k (k.1+402,k.2+42*M) M D.r):aw (wU K W C E) deE D (sD R c p o m) H:=by
 have ll:=Wj x;have m6:=Yo m (show(6:Int)≠0 by decide);have l6:=Vy m (show(0:Int) <6 by decide);refine aJ<|E3 (P:=λv _=>∃w:Wd,v=.s w.str/\e7 (.s w.str) E6=true) (λv H I h _=>h) (λe u=>?_) ax m6 l6 (λH1 Q1 q1=>aI<|ae O<|ah<|pO ax q1) λv H1 s1 hv=>?_;simp only[UA,nB,LE] at u;rcases u with rfl|rfl|rfl|rfl|rfl|rfl
 exact gR λH=>qF .l O (by decide+kernel);exact gR λH=>qF .r O (by decide+kernel);exact gR λH=>qF .b O (by decide+kernel);exact gR λH=>qF .on O (by decide+kernel);exact gR λH=>qF .P O (by decide+kernel);exact gR λH=>qF .en O (by decide+kernel);obtain⟨w,rfl,hw⟩:=hv;have B:=S.same s1;have F:=B.a.len;refine aJ<|aC (Fb W C) O<|af<|ae O<|af<|ae O<|af<|ae O<|ao ⟨p,s,f,T,Z,o,_,k,Y,N,w,O,B.P,S.gx.2,F,λJ r zs L Sr s2 fr hr cz=>?_⟩;have j:=uk Sr (n:=x.cps.toList.length) λc y=>by
  obtain⟨d1,hd,rfl⟩:=Zv.mp y;exact R9<|F.i d1 hd
 have lz:zs.length=_:=Id cz;have l1:=j.len;rw[VH] at l1;have lB:=F.m;have o1:=F.o;have X:1<= (WJ (N.map (eB x.cps.toList w)) J).length:=UI.mpr (j.ne λz=>by
  have z:=IR List.length z;rw[VH,TH] at z;lia)
 have S2:=B.same s2;have CR:d_ L r x.length zs (WJ (N.map<|eB x.cps.toList w) J):=⟨hr,cz,by rw[ll];exact j.p,X,(Ut l1 lB),j.uj.apart⟩;have nr:=B.P.fr fr;refine aS<|aC (wQ W C) O<|af<|ae O<|af<|aI<|du<|af<|ah<|ao ⟨ib,λe fe=>?_⟩;generalize zz:upd _ e _=H3;have V:=eL fe zz;have u:=eM zz;refine gf<|ae O<|.inl ⟨_,ak.of<|V _ _ hr,ald u al λg0 fg=>?_⟩;rw[lz];generalize zz:upd _ g0 _=H4;have s4:=eL fg zz;have hg:=eM zz;have gi:=V.trans s4;have S4:=S2.same gi;refine af<|ae O<|af<|aC (E7 W C) O<|af<|ae O<|af<|z9<|ae O ⟨Y,.inl<|ak.of S4.a.h,λc1 f1=>?_⟩;generalize zz:upd _ c1 _=H5;have U:=eL f1 zz;have g8:=eM zz;have d:=S4.same U;have g:=d.a.len;refine af<|ae O<|ao ⟨p,s,f,T,Z,c1,_,k,Y,N,w,O,hw,d.P,al,S.gx.2,⟨g8,g.c,g.i,g.o,g.m,g.a⟩,λb' v H6 a' Q G=>?_⟩;rw[a'.eq Sr] at G;obtain⟨t,a,b,zq⟩:=U1 G.at;obtain⟨rfl,fa,fb,A⟩:=l5 zq;have S6:=d.same Q;have SE:=(gi.trans U).trans Q;have TG:jG H6 g0 (List.replicate (WJ (N.map (eB x.cps.toList w)) J).length (Str.ofString "")):=⟨by rw[List.map_replicate];exact Q _ _ (U _ _ hg),λt ht=>by
  have e0:(Str.ofString "").cps.toList=[]:=by decide+kernel
  rw[List.eq_of_mem_replicate ht];exact⟨⟨by decide+kernel,λc y=>by rw[e0] at y;cases y⟩,by decide+kernel⟩⟩
 exact ao<|SD S6 hM jb k1 i (CR.same SE) TG (by rw[Ul]) A nr (S2.P.fr<|V.free fg) (d.P.fr fa) (d.P.fr fb)<|q.same<|(s1.trans s2).trans SE
end
end
section
variable{K:Frag}{W C:D9}{H I:Hp}{R p s a T Z g:D9}{x:Str}{k:Nat×Nat}{B:aV}{J:St}{Q:VK}{E:XK}{f:ii}{Y u:ad}{M:Nat}{c m:Int}{D:Xt}
noncomputable def deS:bv:=[.a 6 (.i (.L [(.c (.s "left")),(.c (.s "right")),(.c (.s "up")),(.c (.s "down")),(.c (.s "home")),(.c (.s "end")),(.c (.s "top")),(.c (.s "bottom")),(.c (.s "back")),(.c (.s "on"))]) (.b .Mod (.v 4) (.c (.i 10)))),
  .t (.v 0) (.c<|.s "cursors") (.l 6 [.v 2,(.t .t [.v 3]),.v 6,(.p .Gt (.b .Mod (.b .FloorDiv (.v 4)<|.c<|.i 10)<|.c<|.i 3)<|.c<|.i 0)]),
  .r (.p .Is (.l 7 [(.a 0 "size" (.v 2) []),(.D (.v 0) (.c (.s "cursors")))]) (.c .a))]
theorem xD(S:ia W C H R p s a T Z g x k Y f)(hM:x.length+320<=M)(jb:M<=3600)(k1:k.1+402<=9000)(k2:k.2+42*M<=990000)(q:nJ W C H R s a T Z k (k.1+402,k.2+42*M) M D.r):aw (wU K W C E) deS D (sD R c p g m) H:=by
 have ll:=Wj x;have m6:=Yo m (show(10:Int)≠0 by decide);have l6:=Vy m (show(0:Int) <10 by decide);refine aJ<|E3 (P:=λv _=>∃w:Wd,v=.s w.str) (λv H I h _=>h) (λe he=>?_) ax m6 l6 (λH1 Q1 U=>aI<|ae O<|ah<|pO ax U) λv H1 s1 hv=>?_;simp only[UA,nB,LE] at he;rcases he with rfl|rfl|rfl|rfl|rfl|rfl|rfl|rfl|rfl|rfl
 exact gR λH=>⟨.l,O⟩;exact gR λH=>⟨.r,O⟩;exact gR λH=>⟨.u,O⟩;exact gR λH=>⟨.d,O⟩;exact gR λH=>⟨.P,O⟩;exact gR λH=>⟨.en,O⟩;exact gR λH=>⟨.t,O⟩;exact gR λH=>⟨.we,O⟩;exact gR λH=>⟨.b,O⟩;exact gR λH=>⟨.on,O⟩;obtain⟨w,rfl⟩:=hv;have S1:=S.same s1;refine rX<|aC (wJ W C) O<|af<|ae O<|af<|z9<|ae O ⟨Y,.inl<|ak.of S1.a.h,λc1 f1=>?_⟩;generalize zz:upd _ c1 _=L;have s2:=eL f1 zz;have g8:=eM zz;have j:=S1.same s2;obtain⟨dp,dx,v,t,ts,B1⟩:=YU (j.P.bears S.gx.2);rw[wN] at B1;refine af<|ae O<|af<|fj<|aI<|aI<|ae O<|ah<|V8 ⟨ax,ax⟩<|ah<|pO ax<|ah ⟨trivial,ao ⟨p,dp,s,dx,a,T,Z,v,t,ts,x,c1,Y,f,w,_,O,B1,al,g8,j.a.c,j.a.o,j.a.m,j.a.i,j.a.a,λus r G J Sr s3 fr V cz=>?_⟩⟩;generalize decide ((0:Int) <_)=bo at Sr cz;have B:=uk Sr (n:=x.length) λc hc=>by
  obtain⟨d,hd,rfl⟩:=Zv.mp hc;exact Rp (S.a.i d hd).1 (S.a.i d hd).2
 have l1:=B.len;rw[VH] at l1;have lB:=S.a.m;have o1:=S.a.o;have F:1<= (WJ (f.map (kh x w bo)) us).length:=UI.mpr (B.ne λz=>by
  have z:=IR List.length z;rw[VH,TH] at z;lia)
 have A:=j.same s3;refine ae O<|ah ⟨R,_,O,jN.k (k:=.inr "cursors") A.o<|bR (by show 3<=1000000;decide),?_⟩;rw[(rY (p':=p) (x':=x)).2.2];have y:aH R J (upd J R<|.d<|oS p x r):=aH.upd;have X:upd J R (.d<|oS p x r) R=some (.d<|oS p x r):=au;generalize upd J R (.d<|oS p x r)=H4 at y X⊢;have P4:=A.P.nG A.o y;have uz:=y _ _ V (λz=>by rw[z,A.o] at V;cases V);have N:d_ H4 r x.length G (WJ (f.map<|kh x w bo) us):=⟨uz,nF cz<|uw A.o y,B.p,F,(Ut l1 lB),B.uj.apart⟩;refine aS<|fj<|aC hV O<|af<|pN P4 O (λQ1 U=>ae O U)<|af<|h9<|ae O<|ah ⟨R,_,O,Fg X,ao ⟨_,r,G,_,O,uz,N.c,F,N.m,by rw[<-ll];exact B.p,N.a,λH5 Q=>ah<|Fi ?_⟩⟩;have SF:=(s1.trans s2).trans s3;refine q p r x G _ H5 (((nH<|gj SF).trans<|r9 y).trans<|nH<|gj Q) ((((h_ SF).trans<|r6 A.o y).trans<|h_ Q).ge (by show _<=_+402;exact YJ _ _) (by show _<=_+42*M;exact YJ _ _) k1 k2) ((⟨X,P4.uu (by show _<=_+402;exact YJ _ _) (by show _<=_+42*M;exact YJ _ _) k1 k2,S.gx,N,j.P.fr fr⟩:ia W C H4 R p s a T Z r x (k.1+402,k.2+42*M) G _).same Q) (Ut (YJ _ _) hM)
noncomputable def deC:bv:=[.a 8 (.l 8 [.v 1,(.D (.v 0) (.c (.s "text"))),(.b .Mod (.v 4) (.c (.i 9)))]),
 .t (.v 0) (.c<|.s "cursors") (.l 9 [.v 8,.v 3]),
 .t (.v 0) (.c<|.s "paper") (.a 1 "changed" (.v 2) [.v 8]),
 .t (.v 0) (.c<|.s "text") (.l 10 [(.D (.v 0)<|.c<|.s "text"),.v 8]),
 .r (.d [(.p .Is (.l 7 [(.t .l [(.D (.v 0) (.c (.s "text")))]),(.D (.v 0) (.c (.s "cursors")))]) (.c .a)),(.p .Eq (.a 2 "text" (.D (.v 0) (.c (.s "paper"))) []) (.D (.v 0) (.c (.s "text"))))])]
theorem alo(S:ia W C H R p s a T Z g x k Y f)(hM:x.length+320<=M)(jb:M<=3600)(k1:k.1+402<=9000)(k2:k.2+42*M<=990000)(q:nJ W C H R s a T Z k (k.1+402,k.2+42*M) M D.r):aw (wU K W C E) deC D (sD R c p g m) H:=by
 have ll:=Wj x;have m9:=Yo m (show(9:Int)≠0 by decide);have l9:=Vy m (show(0:Int) <9 by decide);refine aJ<|aC ER O<|af<|ae O<|af<|h9<|ae O<|ah ⟨R,_,O,pR S.o,af<|aI<|ae O<|ah<|pO ax<|ao ⟨c,x,_,O,S.gx,al,m9,al,λb H1 u ps r s1 fb hb pv ok ch lp tp j=>?_⟩⟩;have t:=S.same s1;have nb:=S.P.fr fb;have rl:=j.len;have zq:aG ps<=320:=by
  have:(m % 9).toNat<=8:=by lia
  lia
 have c':∀p∈ps,Ds p:=λp hp=>aia (ok p hp);have ov:bK ps=x.length:=by rw[aj7 j,ll]
 refine rX<|aC EL O<|af<|ae O<|af<|ae O<|ao ⟨_,ps,g,Y,f,O,⟨b,u,O,hb,pv,ok,ch,(Ut lp (VJ _ _))⟩,t.a.h,t.a.c,t.a.o,t.a.m,by rw[ov];exact t.a.i,t.a.a,λus e zs L Sr F fr hr cz=>?_⟩;have st:=uk Sr (n:=r.length) λc G=>by
  obtain⟨d,hd,rfl⟩:=Zv.mp G;exact⟨RG j _,RG j _⟩
 have l1:=st.len;rw[VH] at l1;have lB:=S.a.m;have o1:=S.a.o;have Q:1<= (WJ (f.map (uq ps)) us).length:=UI.mpr (st.ne λz=>by
  have z:=IR List.length z;rw[VH,TH] at z;lia)
 have B:=t.same F;have nr:=t.P.fr fr;refine ae O<|ah ⟨R,_,O,jN.k (k:=.inr "cursors") B.o<|bR (by show 3<=1000000;decide),?_⟩;rw[(rY (p':=p) (x':=x)).2.2];have A:aH R L (upd L R<|.d<|oS p x e):=aH.upd;have h3:upd L R (.d<|oS p x e) R=some (.d<|oS p x e):=au;generalize upd L R (.d<|oS p x e)=H3 at A h3⊢;have N:=B.P.nG B.o A;have b':=gj (s:=s) (R:=a) (T:=T) (Z:=Z) (s1.trans F);have a':jc R s a T Z H H3:=(nH b').trans (r9 A);have t3:=uw B.o A;have e':=A _ _ hr (λz=>by rw[z,B.o] at hr;cases hr);have ma:=A _ _ (F _ _ hb) (λz=>by have h:=F _ _ hb;rw[z,B.o] at h;cases h);have SH:=(pv.mono<|aR F).mono t3;have g':=nF cz t3;obtain⟨dp,v,kr⟩:=N.ob;refine rX<|fZ W (nk W C) O<|ae O ⟨p,dp,_,O,kr,rV,ae O<|zV (o:=(k.1+402,k.2+42*M)) N ma nb SH ok ch j al (Ut lp (VJ _ _)) (by show _<=_+402;lia) (by show _<=_+42*M;lia) k1 k2 λl H4 V d' P4=>?_⟩;have I:=N.dict h3 V;have uz:=N.lst nr e' V;have Fn:=N.lst nb ma V;have t4:=N.cf V;refine ae O<|ah ⟨R,_,O,jN.k (k:=.inr "paper") I<|bR (by show 3<=1000000;decide),?_⟩;rw[(rY (x':=x) (lc':=e)).1];have y:aH R H4 (upd H4 R<|.d<|oS l x e):=aH.upd;have w:upd H4 R (.d<|oS l x e) R=some (.d<|oS l x e):=au;generalize upd H4 R (.d<|oS l x e)=H5 at y w⊢;have P5:=P4.nG I y;have t5:=uw I y;have Fo:=y _ _ uz (λz=>by rw[z,I] at uz;cases uz);have f':=y _ _ Fn (λz=>by rw[z,I] at Fn;cases Fn);refine rX<|aC vO O<|af<|h9<|ae O<|ah ⟨R,_,O,pR w,af<|ae O<|ao ⟨x,b,u,ps,r,O,S.gx,f',(SH.mono t4).mono t5,λp hp=>C0<|ok p hp,j,al,ae O<|ah ⟨R,_,O,jN.k (k:=.inr "text") w<|bR (by show 3<=1000000;decide),?_⟩⟩⟩;rw[(rY (p':=l) (lc':=e)).2.1];have J:aH R H5 (upd H5 R<|.d<|oS l ⟨r.toArray⟩ e):=aH.upd;have U:upd H5 R (.d<|oS l ⟨r.toArray⟩ e) R=some (.d<|oS l ⟨r.toArray⟩ e):=au;generalize upd H5 R (.d<|oS l ⟨r.toArray⟩ e)=H6 at J U⊢;have P6:=P5.nG w J;have SI:=J _ _ Fo (λz=>by rw[z,w] at Fo;cases Fo);obtain⟨e1,e2⟩:=Sm (r:=r);have X:d_ H6 e (⟨r.toArray⟩:Str).length zs (WJ (f.map<|uq ps) us):=⟨SI,nF (nF (nF g' t4) t5)<|uw w J,by rw[e2];exact st.p,Q,(Ut l1 lB),st.uj.apart⟩;refine aS<|wg<|fj<|aC hV O<|af<|gf<|h9<|ae O<|ah ⟨R,_,O,pR U,bQ al,af<|h9<|ae O<|ah ⟨R,_,O,Fg U,ao ⟨_,e,zs,_,O,SI,X.c,Q,X.m,X.i,X.a,λH7 s7=>ah<|Fi ⟨_,O,iT ?_ O⟩⟩⟩⟩;have P7:=P6.same s7;have h7:=s7 _ _ U;refine zB<|fj<|pP P7 O (λQ1 q1=>h9<|ae O<|ah ⟨R,_,O,wO h7,q1⟩) λH8 s8=>h9 (ae O<|ah ⟨R,_,O,pR<|s8 _ _ h7,m7 ?_⟩);rw[show((⟨r.toArray⟩:Str)==⟨r.toArray⟩)=true by simp];rw[<-e1] at P6;have Fp:=s7.trans s8;refine q l e ⟨r.toArray⟩ zs _ H8 ((((a'.trans<|nH V).trans<|r9 y).trans<|r9 J).trans<|nH<|gj Fp) ((((((h_<|s1.trans F).trans<|r6 B.o A).trans d').trans<|r6 I y).trans<|r6 w J).trans<|h_ Fp) ((⟨U,P6,⟨al,λc G=>j.good (λc G=>S.gx.2 c G) c' c (by rw[e1] at G;exact G)⟩,X,nr⟩:ia W C H6 R l s a T Z e ⟨r.toArray⟩ (k.1+402,k.2+42*M) zs _).same Fp) al
inductive Fq(W C:D9)(U:ad)(H:Hp)(Q:VK)(E:XK):Prop|i(R p s a T Z g:D9)(x:Str)(k:Nat×Nat)(Y:ad)(f:ii)(c:Int)(M:Nat)(_:U=[.r R,.i c])(_:ia W C H R p s a T Z g x k Y f)(_:x.length+320<=M)(_:M<=3600)(_:k.1+402<=9000)(_:k.2+42*M<=990000)(_:nJ W C H R s a T Z k (k.1+402,k.2+42*M) M Q)
theorem alx:bw (Fq W C) (λE=>wU K W C E) dC jw:=by
 intro U H Q E h;obtain⟨R,p,s,a,T,Z,g,x,k,Y,f,c,M,rfl,S,e,j,d,b,q⟩:=h;refine aJ<|h9<|ae O<|ah ⟨R,_,O,wO S.o,aJ<|h9<|ae O<|ah ⟨R,_,O,Fg S.o,aJ<|aC kN O<|af<|ae O<|af<|ah<|ao ⟨_,_,O,?_⟩⟩⟩;refine bh<|bf<|aI<|ae O<|ah<|pO ax<|ah ⟨trivial,_,O,cT (λV=>alf S e j d b q)<|λV=>bL ?_⟩;refine bh<|bf<|aI<|ae O<|ah<|pO ax<|ah<|gO ⟨_,O,cT (λV=>ali S e j d b q)<|λV=>bL ?_⟩;refine bh<|bf<|aI<|ae O<|ah<|pO ax<|ah<|gO ⟨_,O,cT (λV=>xD S e j d b q)<|λV=>bL ?_⟩;exact alo S e j d b q
end
section
variable{K:Frag}{W C:D9}{H I:Hp}{R p s f T Z d:D9}{x:Str}{k:Nat×Nat}{B:aV}{J:St}{Q:VK}{E:XK}{g:ii}{Y ys:ad}
theorem aly(h:∀p,H p=none->aO B as J (upd H p<|.d []) λU L=>L p=some (.d [])/\∃G:db,U=qK G/\G.length<=15/\Q (.r p) (upd L p<|.d<|jT [] G)):ag B (.x tw as) J H Q:=h
theorem alz:jT [] (oS p x d)=oS p x d:=by
 obtain⟨b,a,n⟩:=Si;show Ta (Ta (Ta ([]:db) (Sum.inr "paper")<|.r p) (Sum.inr "text")<|.s x) (Sum.inr "cursors") (.r d)=_;rw[A7 (G':=[]) _ O];rw[A7 (G':=[]++_) _<|(mD b).trans O];rw[A7 (G':=[]++_++_) _<|(mD a).trans<|(mD n).trans O];rfl
theorem xJ(n:sK)(l h:Int):∃m:sK,ig (n.map V.i) (some l) (some h)=m.map V.i/\(l=9->h=19->m.length<=10):=by
 refine⟨(n.drop<|HT.aU n.length 0<|some l).take<|HT.aU n.length n.length (some h) - HT.aU n.length 0 (some l),?_,λc e=>?_⟩;delta ig;rw[VH,<-List.map_drop,<-List.map_take];subst c e;have b:HT.aU n.length n.length (some 19)=min 19 n.length:=HT.qk _ _ 19;have a:HT.aU n.length 0 (some 9)=min 9 n.length:=HT.qk _ _ 9;rw[WE,b,a];lia
noncomputable def Te(i:Nat):Nat×Nat:=(10+402*i,1000+42* (560*i+160* (i*i)))
theorem alB(i:Nat):((Te i).1+402,(Te i).2+42* (720+320*i))=Te (i+1):=by
 have e:(i+1)* (i+1)=i*i+2*i+1:=by rw[Nat.mul_succ,Nat.succ_mul];lia
 exact Prod.ext (by show 10+402*i+402=10+402* (i+1);exact Yu _ _ _) (by show 1000+42* (560*i+160* (i*i))+42* (720+320*i)=1000+42* (560* (i+1)+160* ((i+1)* (i+1)));lia)
theorem alC(h:i<10):(Te i).1+402<=9000/\(Te i).2+42* (720+320*i)<=990000:=by
 have e:i*i<=9*9:=Nat.mul_le_mul (UD h) (UD h);exact⟨by show 10+402*i+402<=9000;lia,by show 1000+42* (560*i+160* (i*i))+42* (720+320*i)<=990000;lia⟩
abbrev avL(K:Frag)(W C:D9)(E:XK):aV:=aA K [("_law_text",tI),("_law_cell_at",qM K),("_law_size",Dv),("paper_of",D6 W C),("_law_settled",i_),("_law_drawn",E2 K),("_law_deed",Fq W C)] [] [] [("text",W,nj W C)] (E:=E)
inductive LA(W C:D9)(a R s f T Z c L:D9)(e:ad)(b:Str)(i:Nat)(J:St)(H:Hp):Prop|i(u:ld)(p d:D9)(x:Str)(Y:ad)(g:ii)(_:J=[some<|.r a,some<|.s b,some<|.r R,some<|.r c,u])(_:ia W C H R p s f T Z d x (Te i) Y g)(_:br W C H c s f T Z b.cps.toList (Te i))(_:x.length<=400+320*i)(_:H L=some (.l e)):LA W C a R s f T Z c L e b i J H
inductive z_(K:Frag)(U:ad)(H:Hp)(Q:VK)(E:XK):Prop|i(a:D9)(n:sK)(_:U=[.r a])(_:ak K H a (n.map V.i))(_:∀I,Q (.b true) I)
theorem x3(U:ad)(H:Hp)(Q:VK)(E:XK)(hh:z_ K U H Q E):aw (avL K W C E) NZ (Dn Q) (ZQ NY U) H:=by
 obtain⟨a,n,rfl,ha,q⟩:=hh;refine aJ<|aC tI O<|af<|aC (qM K) O<|af<|ae O<|af<|ah<|ao ⟨a,n,_,O,ha,ax,?_⟩;refine af<|aC Dv O<|af<|aC (qM K) O<|af<|ae O<|af<|ah<|ao ⟨a,n,_,O,ha,ax,ao ⟨_,O,λn0 n1 n2=>ao ⟨_,_,O,n1,al,λx H1 gx lx s1=>?_⟩⟩⟩;have h':x.length<=400:=by lia
 have ll:=Wj x;have dZ:=s1.seq ha;refine aJ<|aly λR fR=>af (ah<|af<|aC (D6 W C) O<|af<|ae O<|ao ⟨x,O,gx,λp dp s dx f T Z v t ts H3 b S3 A3 e3 l1 l2 l3 fp fs lF f' e'=>?_⟩);have s2:=Xo (o:=.d []) fR;have SJ:upd H1 R (.d []) R=some (.d []):=au;generalize upd H1 R (.d [])=L at s2 SJ b fp fs lF f' e'⊢;have P3:br W C H3 p s f T Z x.cps.toList (Te 0):=uP dp dx v t ts A3 S3 e3 (Ut l1 (VJ _ _)) (by show _<=10;exact Ut l2 (VJ _ _)) (by show _<=1000;lia) al ax ax;have nA:=s2.trans b;refine af<|ah<|af<|ae O<|af<|ah<|af<|aC i_ O<|af<|aC (E2 K) O<|af<|ae O<|af<|ah<|af<|gf<|ae O ⟨bQ (Ut h' (VJ _ _)),ao ⟨a,n,2,x.length,O,nA.seq dZ,λl0 pk r H5 s5 f5 h5 c5 c' SK b'=>?_⟩⟩;refine ao ⟨l0,pk,r,O,h5,c5,al,λG d Y D Sr s6 fl hl hc=>?_⟩;have A:=uk Sr c';have N:1<= (WJ r G).length:=UI.mpr (A.ne (λz=>by rw[z] at SK;exact absurd SK ax));have Fs:=s5.trans s6;have F:=Fs _ _ (b _ _ SJ);refine ao (tR F (oS p x d) O ⟨(by show 3<=15;decide),?_⟩);rw[alz];have P6:=P3.same Fs;have nl:=P3.fr (s5.free fl);have k:aH R D (upd D R<|.d<|oS p x d):=aH.upd;have h7:upd D R (.d<|oS p x d) R=some (.d<|oS p x d):=au;generalize upd D R (.d<|oS p x d)=H7 at k h7⊢;have P7:=P6.nG F k;have d':ak K H7 a (n.map V.i):=by
  have I:aq H1 H7:=λz o e=>k _ _ (Fs _ _<|nA _ _ e) (a_ e fR);exact I.seq dZ
 have C7:d_ H7 d x.length Y (WJ r G):=⟨k _ _ hl (λz=>by rw[z,F] at hl;cases hl),nF hc<|uw F k,A.p,N,Ut A.len b',A.uj.apart⟩;refine aJ<|h9<|ae O<|ah ⟨R,_,O,wO h7,?_⟩;obtain⟨m,g',X⟩:=xJ n 9 19;refine t6<|Qr<|ae O<|ah ⟨_,O,ah ⟨_,O,.inl ⟨_,d',λg fL=>?_⟩⟩⟩;have w:=Xo (o:=.l (ig (n.map V.i) (some 9)<|some 19)) fL;rw[g'] at w⊢;have hL:upd H7 g (.l<|m.map V.i) g=some (.l<|m.map V.i):=au;generalize upd H7 g (.l<|m.map V.i)=H8 at w hL⊢;have nL:=P7.fr fL;have S7:ia W C H7 R p s f T Z d x (Te 0) Y (WJ r G):=⟨h7,P7,gx,C7,nl⟩;refine qT g O (qY _ (ak.of hL)) (ic (K:=K) (a:=g) (xs:=m.map V.i) (LA W C a R s f T Z p g (m.map V.i) x) ⟨none,p,d,x,Y,_,O,S7.same w,P7.same w,h',hL⟩ (by rintro i J H9 _ ⟨_,_,_,_,_,_,_,_,_,_,h⟩;exact ak.of h) ?_ ?_);rintro i v J H9 hv ⟨u4,p',j,x',jl,SM,rfl,B,P9,b9,SN⟩;obtain⟨c,_,rfl⟩:=Zv.mp (zG hv);have y:=(ZX.mp hv).1;rw[VH] at y;have y:=Z1 y (X O O);obtain⟨k1,k2⟩:=alC y;refine bh<|j9<|eR<|gb (Fq W C) O<|af<|ae O<|af<|ae O<|ao ⟨R,p',s,f,T,Z,j,x',Te i,jl,SM,c,720+320*i,O,B,al,al,k1,k2,λp2 a' x2 zs ds L u kp S l2=>eT<|iF ?_ O⟩;rw[alB] at kp S;refine bf<|pP S.P O (λQ1 M=>h9<|ae O<|ah ⟨R,_,O,wO S.o,M⟩) λH3 b=>h9 (ae O<|ah ⟨R,_,O,pR<|b _ _ S.o,kT ⟨_,O,iF (bL ?_) (by rw[wN];simp)⟩⟩);exact⟨_,p2,a',x2,zs,ds,O,S.same b,(kp _ _ P9).same b,al,b _ _<|u.lst B.P B.o nL SN⟩;rintro J H9 ⟨u4,p',j,x',jl,SM,rfl,B,P9,b9,SN⟩;refine aS<|fj<|pP P9 O (λQ1 M=>ae O M) λH3 b=>ae O (m7 ?_);rw[wN,show(x==x)=true by simp];exact q _
end
section
open PyProof.Rows
open PySem.W (Frag nsIn findIn isFn keepIn codeIn fnOf mg_of mg_none_of)
def iP(s:Fr):ac:=(jg s).args.map (·.arg)
structure YB(P:Fa)(w:FM)(K:Frag)(mg:ce)(base:FS):Prop where
 X:K.In base
 G:base.Ns mainGlobals mg
def aN(K:Frag)(x:Str)(s:Fr):Prop:= ∃f d,nsIn K mainGlobals x=some (some<|.ref f)/\oe K x x s f d
def fI(K:Frag)(C:D9)(x q:Str)(s:Fr):Prop:= ∃f d,findIn K (.ref C) x=some (some<|.ref f)/\isFn K (.ref f)=true/\oe K x q s f d
structure wV(K:Frag)(x:Str)(C:D9):Prop where
 g:nsIn K mainGlobals x=some (some<|.ref C)
 m:makesIn K C=true
 k:keepIn K (.ref C)=true
structure gH(K:Frag)(p:Str×V):Prop where
 ex:∃u,nsIn K mainGlobals p.1=some (some u)/\Tf p.2 u
structure pS(K:Frag)(p:Str×D9):Prop where
 g:nsIn K mainGlobals p.1=some (some<|.ref p.2)
 x:PySem.W.excIn K p.2 [.type "ValueError",.type "Exception",.type "BaseException",.type "object"] "ValueError.__new__"=true
section
variable{P:Fa}{w:FM}{K:Frag}{o:ce}{z:FS}{x q:Str}{m:Fr}{f C:D9}{d:Go}{k:Nat}{A:Sp}
theorem dfk{d:EQ}{o n:wE}{i:Array Cl}{V T p b t:EQ}(a:nsIn K mainGlobals x=some (some<|.ref f))(l:K.lookup f=some ⟨d,o,.func<|fnOf x x (jg m) (fU m) (e8 m) .none V T p n b t,i⟩)(c:codeIn K b x=true)(k:keepIn K (.ref f)=true):aN K x m:=⟨f,_,a,G3 l c k⟩
theorem dmk{d:EQ}{o n:wE}{R:Array Cl}{V T p b t:EQ}(a:findIn K (.ref C) x=some (some<|.ref f))(i:isFn K (.ref f)=true)(l:K.lookup f=some ⟨d,o,.func<|fnOf x q (jg m) (fU m) (e8 m) .none V T p n b t,R⟩)(c:codeIn K b q=true)(k:keepIn K (.ref f)=true):fI K C x q m:=⟨f,_,a,i,G3 l c k⟩
theorem alO{t:Tok}(h:nsIn K mainGlobals x=some (some<|.str y t)):gH K (x,.s y):=⟨_,h,⟨_,O⟩⟩
theorem alP{y:Int}{t:Tok}(h:nsIn K mainGlobals x=some (some<|.int y t)):gH K (x,.i y):=⟨_,h,⟨_,O⟩⟩
theorem alQ{y:D9}(h:nsIn K mainGlobals x=some (some<|.ref y)):gH K (x,.r y):=⟨_,h,O⟩
theorem alR(h:findIn K (.ref C) y=some none):eY K C y:=h
theorem YB.gv(Z:YB P w K o z)(h:gH K p):B5 o p:=by
 obtain⟨u,a,b⟩:=h.ex;exact⟨u,mg_of Z.X Z.G a,b⟩
theorem YB.no(Z:YB P w K o z)(h:nsIn K mainGlobals x=some none):o x=none:=mg_none_of Z.X Z.G h
theorem YB.exc(Z:YB P w K o z)(h:pS K p):yl o z p:=agF Z.X Z.G h.g h.x
structure wW(P:Fa)(w:FM)(K:Frag)(o:ce)(z:FS)(k:Nat)(m:Fr)(A:Sp):Prop where
 ok:∀{x q:Str}{f:D9}{d:Go},oe K x q m f d->cY P w K o z (iC P w) k f d (iP m) A
theorem uA{N P:ac}{s:Scope}(a:autoParam (s.kind=.function/\s.isCoroutine=false/\s.isGenerator=false/\N.Nodup/\N.take P.length=P/\(∀x∈P,s.names.lookup x=some .local\/s.names.lookup x=some .cell)/\∀y∈s.names,y.2≠ .free) cy):qf N P s:=by
 obtain⟨a,b,c,d,e,f,g⟩:=a;exact⟨a,b,c,d,e,f,g⟩
theorem dL{n j:ac}{t:io}{b:wT}{e:o0}{d:io}(Z:YB P w K o z)(C:∀U H Q E,A U H Q E->aw (aA K t g i b c e d E) body {nx:=λY I=>Q .a I,r:=Q} (ZQ n U) H)(s:∀{G:cg}{B:aV}{X:Cx},g7 G (yk N (e8 m) (t.map (·.1)) (g.map (·.1)) j (b.map (·.1)) (c.map (·.1)) (e.map (·.1)) (d.map (·.1))) B X->fM X (fU m) (aw B body))(k:Nat)(l:∀U H Q E,A U H Q E->U.length=(iP m).length:=by intro U Y Y Y h;first|(cases h;exact(congrArg List.length (by assumption:U=_::_)).trans (by kernel_rfl))|repeat (first|(obtain⟨rfl,Y⟩:=h;kernel_rfl)|(obtain⟨Y,h⟩:=h)))(R:autoParam (∀p∈t,gL P w K o z k p.1 p.2) eh)(M:autoParam (∀p∈g,B5 o p) eh)(L:autoParam (∀y∈j,o y=none) eh)(J:autoParam (∀q∈i,yj P w K q) eh)(D:autoParam (∀p∈b,qC P w K o z k p) eh)(x:autoParam (∀p∈c,qD P w K o z k p) eh)(f:autoParam (∀p∈e,yl o z p) eh)(v:autoParam (∀p∈d,B6 P w K o z k p.1 p.2) eh)(S:qf N (iP m) (e8 m):=by exact uA)(u:autoParam (n.length=N.length) cx):wW P w K o z (k+1) m A:=
 ⟨λF=>arR F S t g j b c e d body s R M L i J D x f v l λU H Q E h=>by
  have r:=C U H Q E h;unfold ZQ at r⊢;rw[u] at r;exact r⟩
def Bd(x q:Str)(m:Fr):Prop:= ∀(k T p:EQ)(a:wE)(b c:EQ)(u:ca),u.length=(iP m).length->bindArgs (fnOf x q (jg m) (fU m) (e8 m) .none k T p a b c) ⟨u,[]⟩=pure ((iP m).zip u)
theorem Ro(f:(iP m).length=1)(h:∀(k T p:EQ)(a:wE)(b c d:EQ),bindArgs (fnOf x q (jg m) (fU m) (e8 m) .none k T p a b c) ⟨[d],[]⟩=pure ((iP m).zip [d])):Bd x q m:=λk T p a b c u l=>by
 have e:=l.trans f;rcases u with Y|⟨d,Y|⟨Y,Y⟩⟩ <;>first|exact h k T p a b c _|exact absurd e ap
theorem alT(g:(iP m).length=2)(h:∀(k T p:EQ)(a:wE)(b c f d:EQ),bindArgs (fnOf x q (jg m) (fU m) (e8 m) .none k T p a b c) ⟨[f,d],[]⟩=pure ((iP m).zip [f,d])):Bd x q m:=λk T p a b c u l=>by
 have e:=l.trans g;rcases u with Y|⟨f,Y|⟨d,Y|⟨Y,Y⟩⟩⟩ <;>first|exact h k T p a b c _ _|exact absurd e ap
theorem alU(i:(iP m).length=3)(h:∀(k T p:EQ)(a:wE)(b c g f d:EQ),bindArgs (fnOf x q (jg m) (fU m) (e8 m) .none k T p a b c) ⟨[g,f,d],[]⟩=pure ((iP m).zip [g,f,d])):Bd x q m:=λk T p a b c u l=>by
 have e:=l.trans i;rcases u with Y|⟨g,Y|⟨f,Y|⟨d,Y|⟨Y,Y⟩⟩⟩⟩ <;>first|exact h k T p a b c _ _ _|exact absurd e ap
theorem alV(j:(iP m).length=4)(h:∀(k T p:EQ)(a:wE)(b c i g f d:EQ),bindArgs (fnOf x q (jg m) (fU m) (e8 m) .none k T p a b c) ⟨[i,g,f,d],[]⟩=pure ((iP m).zip [i,g,f,d])):Bd x q m:=λk T p a b c u l=>by
 have e:=l.trans j;rcases u with Y|⟨i,Y|⟨g,Y|⟨f,Y|⟨d,Y|⟨Y,Y⟩⟩⟩⟩⟩ <;>first|exact h k T p a b c _ _ _ _|exact absurd e ap
theorem Ab(h:Bd x q m:=by (first|refine Ro (by decide+kernel) ?_|refine alT (by decide+kernel) ?_|refine alU (by decide+kernel) ?_|refine alV (by decide+kernel) ?_|refine aoL (by decide+kernel) ?_|refine aoM (by decide+kernel) ?_|refine aoN (by decide+kernel) ?_|refine aoO (by decide+kernel) ?_);intros;kernel_rfl):Bd x q m:=h
theorem dT(Z:YB P w K o z)(D:aN K x m)(R:wW P w K o z k m A)(h:autoParam (Bd x x m) dn):gL P w K o z k x A:=by
 obtain⟨f,d,a,F⟩:=D;exact⟨f,d,_,R.ok F,mg_of Z.X Z.G a,F.kp,F.binds h⟩
theorem dM(D:fI K C x q m)(c:fP K C)(R:wW P w K o z k m A)(h:autoParam (Bd x q m) dn):qC P w K o z k (x,C,A):=by
 obtain⟨f,d,a,i,F⟩:=D;exact⟨c,f,d,_,⟨a,i,F.kp⟩,R.ok F,F.binds h⟩
theorem dI(Z:YB P w K o z)(D:fI K C "__init__" q m)(M:wV K c C)(R:wW P w K o z k m A)(h:autoParam (Bd "__init__" q m) dn):qD P w K o z (k+1) (c,C,A):=by
 obtain⟨f,d,a,i,F⟩:=D;exact qZ k f d _ (mZ _) ⟨M.m,a,i,M.k⟩ (R.ok F) (mg_of Z.X Z.G M.g) (F.binds h)
theorem dN(Z:YB P w K o z)(D:aN K x m)(n:∀U H Q E,¬A U H Q E)(S:qf N (iP m) (e8 m))(h:autoParam (Bd x x m) dn):gL P w K o z (k+1) x A:=by
 obtain⟨f,d,a,F⟩:=D;exact ZO F S (mg_of Z.X Z.G a) (F.binds h) n
theorem alW{h:FS}{g:D9}(X:K.In h)(G:h.Ns mainGlobals o)(t:o x=some (.ref g))(D:aN K x m)(R:∀z,YB P w K o z->wW P w K o z k m A)(j:autoParam (iP m=[y]) cx)(l:∀(V T p:EQ)(a:wE)(b c i:EQ),bindArgs (fnOf x x (jg m) (fU m) (e8 m) .none V T p a b c) ⟨[i],[]⟩=pure [(y,i)]:=by exact λY Y Y Y Y Y Y=>O):
  ∃d:Go,(∀(s:Ev)(v:EQ),BindsTo s d ⟨[v],[]⟩ [(y,v)])/\∀z:FS,K.In z->z.Ns mainGlobals o->cY P w K o z uR k g d [y] (λU H Q Y=>A U H Q E0):=by
 obtain⟨f,d,e,F⟩:=D;cases t.symm.trans (mg_of X G e);have u:=F;obtain⟨C,B,V,T,p,a,b,c,I,zq⟩:=Xu u.ex;obtain⟨rfl,E,J⟩:=Vk zq;refine⟨_,λs v=>.of_eq<|l V T p a b c v,λz n q=>?_⟩;have r:=(R z ⟨n,q⟩).ok F;rw[j] at r;exact cY.top r
end
end
section
open PyProof.Rows
theorem awE{K:Frag}{h:FS}{mg:ce}{fa:D9}(X:K.In h)(G:h.Ns mainGlobals mg)(Ft:mg "law"=some (.ref fa))(aoP:gH K ("BadText",.r Fu))(aoQ:gH K ("BadChange",.r Fv))(aoR:gH K ("BadFit",.r SO))(aoS:gH K ("NoPlace",.r SQ))(aoT:gH K ("NoCursor",.r SR))(aoU:gH K ("BadDeed",.r Ad))(amm:wV K "Track" Ac)(amn:wV K "Stock" nK)(amo:wV K "Paper" ki)(Ae:vq K Ac)(nM:qG K nK)(gp:jo K ki)(aoV:pS K ("BadText",Fu))(aoW:pS K ("BadChange",Fv))(aoX:pS K ("BadFit",SO))(aoY:pS K ("NoPlace",SQ))(aoZ:pS K ("NoCursor",SR))(ao0:pS K ("BadDeed",Ad))(a0:aN K "is_whole" L4)(a1:aN K "is_between" L5)(a2:aN K "is_truth" L6)(a3:aN K "is_word" L7)(a4:aN K "is_text" L8)(a5:aN K "need_text" L9)(a6:aN K "is_part" L_)(a7:aN K "may_follow" Ma)(a8:aN K "need_change" Mb)(a9:aN K "part_size" Mc)(a10:aN K "sizes" Md)(a11:aN K "add_keep" Me)(a12:aN K "add_texts" Mf)(a13:aN K "neat" Mg)(a14:aN K "back" Mh)(a15:aN K "many_upto" Mi)(a16:fI K Ac "__init__" "Track.__init__" Mj)(a17:fI K Ac "to_left" "Track.to_left" Ml)(a18:aN K "begin_of" Mm)(a19:aN K "end_of" Mn)(a20:aN K "is_empty" Mo)(a21:aN K "is_backward" Mp)(a22:aN K "is_goal" Mq)(a23:aN K "is_cursor" Mr)(a24:aN K "meet" Ms)(a25:aN K "need_cursors" Mt)(a26:aN K "gathered" Mu)(a27:aN K "as_one" Mv)(a28:aN K "settled" Mw)(a29:aN K "carried" Mx)(a30:aN K "need_step" My)(a31:aN K "left_over" Mz)(a32:aN K "right_over" MA)(a33:aN K "place_in_line" MB)(a34:aN K "place_by_word" MC)(a35:aN K "place_in_next_line" MD)(a36:aN K "with_head" ME)(a37:aN K "step" MF)(a38:aN K "all_stepped" MG)(a39:aN K "taken" MJ)(a40:aN K "enter" MM)(a41:aN K "entered" MP)(a42:aN K "erased" MS)(a43:aN K "height_of" MT)(a44:aN K "size_of" MU)(a45:aN K "ends_of" MV)(a46:aN K "made" MW)(a47:aN K "turned_right" MZ)(a48:aN K "turned_left" M0)(a49:aN K "leveled" M1)(SS:aN K "joined" M3)(SU:aN K "last_out" M4)(SV:aN K "first_out" M5)(a53:aN K "sewn" M6)(a54:aN K "cut_in_two" M7)(SW:aN K "parted" M8)(SX:aN K "pieces_of" M9)(a57:aN K "ends_ahead_of" M_)(a58:aN K "place_of_end" Na)(a59:fI K nK "__init__" "Stock.__init__" Nb)(a60:fI K nK "put" "Stock.put" Nc)(a61:fI K nK "read" "Stock.read" Nf)(a62:fI K nK "ends_ahead" "Stock.ends_ahead" Ng)(a63:fI K nK "end_place" "Stock.end_place" Nh)(a64:aN K "node_put" Ni)(a65:aN K "paper_of" Nj)(a66:aN K "need_fit" Nk)(a67:aN K "texts_of" Nl)(a68:fI K ki "__init__" "Paper.__init__" Nm)(a69:fI K ki "size" "Paper.size" Nn)(a70:fI K ki "lines" "Paper.lines" Np)(a71:fI K ki "text" "Paper.text" Nq)(a72:fI K ki "part" "Paper.part" Nr)(a73:fI K ki "changed" "Paper.changed" Nt)(a74:fI K ki "line_begin" "Paper.line_begin" Nu)(a75:fI K ki "line_size" "Paper.line_size" Nv)(a76:fI K ki "line_at" "Paper.line_at" Nw)(a77:fI K ki "place_at" "Paper.place_at" Nx)(a78:aN K "_law_cell_at" Ny)(a79:aN K "_law_mixed" Nz)(a80:aN K "_law_text" NA)(a81:aN K "_law_size" NB)(a82:aN K "_law_parts" NC)(a83:aN K "_law_neat" ND)(a84:aN K "_law_change" NF)(a85:aN K "_law_done" NG)(a86:aN K "_law_cursor" NH)(a87:aN K "_law_drawn" NK)(a88:aN K "_law_settled" jr)(a89:aN K "_law_texts" NN)(a90:aN K "_law_wide" NQ)(a91:aN K "_law_one_by_one" NU)(a92:aN K "_law_at_places" NX)(a93:aN K "_law_entered" dm)(a94:aN K "_law_deed" dD)(a95:aN K "law" N1)(ao1:gH K ("SIGNS",.s SG))(ao2:gH K ("MOST_CURSORS",.i 40))(ao3:gH K ("FIRST_STRIDE",.i 64))(ao4:gH K ("WORD_SIGNS",.s WS))(ao5:gH K ("OTHER_SIGNS",.s OS))(ao6:gH K ("WAYS_BACK",.r Fw))(anM:K.lookup Fw=some ⟨.type "dict",none,.dict #[⟨PyData.keyHash w.params "keep",.str "keep" alY,.str "keep" alZ⟩,⟨PyData.keyHash w.params "cut",.str "cut" al0,.str "put" al1⟩,⟨PyData.keyHash w.params "put",.str "put" al2,.str "cut" al4⟩] alX,#[]⟩)(ao7:gH K ("STEP_WORDS",.r Fx))(anN:K.lookup Fx=some ⟨.type "tuple",none,.seq #[.str "left" al6,.str "right" al7,.str "home" al8,.str "end" al9,.str "top" al_,.str "bottom" ama,.str "back" amb,.str "on" amc,.str "up" amd,.str "down" ame] al5,#[]⟩)(ao8:gH K ("ERASE_WORDS",.r Fy))(anO:K.lookup Fy=some ⟨.type "tuple",none,.seq #[.str "left" amg,.str "right" amh,.str "back" ami,.str "on" amj,.str "home" amk,.str "end" aml] amf,#[]⟩)(ao9:nsIn K mainGlobals "all"=some none)(ao_:nsIn K mainGlobals "any"=some none)(apa:nsIn K mainGlobals "bool"=some none)(apb:nsIn K mainGlobals "enumerate"=some none)(apc:nsIn K mainGlobals "int"=some none)(apd:nsIn K mainGlobals "isinstance"=some none)(ape:nsIn K mainGlobals "len"=some none)(apf:nsIn K mainGlobals "list"=some none)(apg:nsIn K mainGlobals "max"=some none)(aph:nsIn K mainGlobals "min"=some none)(api:nsIn K mainGlobals "range"=some none)(apj:nsIn K mainGlobals "sorted"=some none)(apk:nsIn K mainGlobals "str"=some none)(apl:nsIn K mainGlobals "sum"=some none)(apm:nsIn K mainGlobals "tuple"=some none)(apn:nsIn K mainGlobals "zip"=some none)
  :∃fd:Go,(∀(s:Ev)(v:EQ),BindsTo s fd ⟨[v],[]⟩ [("_law_script",v)])/\∀base:FS,K.In base->base.Ns mainGlobals mg->cY P w K mg base uR 110 fa fd ["_law_script"] (λU H Q Y=>(z_ K) U H Q E0):=by
 have apo:yj P w K (Fw,WB):=agE anM (.c (qY _ rfl)<|.c ⟨_,rfl⟩<|.c ⟨_,rfl⟩ .n) ax;have anP:Pn K Fx [.s "left",.s "right",.s "home",.s "end",.s "top",.s "bottom",.s "back",.s "on",.s "up",.s "down"]:=λY=>.inr (uM _ _ _ anN rfl rfl arL (.cons (qY _ rfl)<|.cons ⟨_,rfl⟩<|.cons ⟨_,rfl⟩<|.cons ⟨_,rfl⟩<|.cons ⟨_,rfl⟩<|.cons ⟨_,rfl⟩<|.cons ⟨_,rfl⟩<|.cons ⟨_,rfl⟩<|.cons ⟨_,rfl⟩<|.cons ⟨_,rfl⟩ .nil));have anQ:Pn K Fy [.s "left",.s "right",.s "back",.s "on",.s "home",.s "end"]:=λY=>.inr (uM _ _ _ anO rfl rfl Af (.cons (qY _ rfl)<|.cons ⟨_,rfl⟩<|.cons ⟨_,rfl⟩<|.cons ⟨_,rfl⟩<|.cons ⟨_,rfl⟩<|.cons ⟨_,rfl⟩ .nil));refine alW X G Ft a95 λbase Z6=>?_;have T0:=dT Z6 a0 (dL Z6 afC @abR 0);have T1:=dT Z6 a1 (dL Z6 agG @Ik 1);have T2:=dT Z6 a2 (dL Z6 aiA @abT 0);have T3:=dT Z6 a3 (dL Z6 afG @abU 0);have T4:=dT Z6 a4 (dL Z6 afD @abV 0);have T5:=dT Z6 a5 (dL Z6 afF @abW 1);have T6:=dT Z6 a6 (dL Z6 afI @abX 1);have apq:=T6.weak (a:=CY) λY Y Y Y h=>afK h;have T7:=dT Z6 a7 (dL Z6 ad9 @abY 0);have T8:=dT Z6 a8 (dL Z6 (aei (et:=[("BadChange",Fv)])) @abZ 2);have T9:=dT Z6 a9 (dL Z6 ad_ @ab0 0);have T10:=dT Z6 a10 (dL Z6 ael @ab1 3);have T11:=dT Z6 a11 (dL Z6 aeq @ab2 0);have T12:=dT Z6 a12 (dL Z6 anL @yY 0);have T13:=dT Z6 a13 (dL Z6 Wg @ab4 1);have T14:=dT Z6 a14 (dL Z6 afh @ab5 3);have T15:=dT Z6 a15 (dL Z6 Qb @ab6 0);have T16:=dI Z6 a16 amm (dL Z6 (agq Ae) @ab7 3);have T17:=dM a17 Ae.c (dL Z6 (agD Ae) @ab8 1);have T18:=dT Z6 a18 (dL Z6 aiv @VB 0);have T19:=dT Z6 a19 (dL Z6 aiw @ab_ 0);have T20:=dT Z6 a20 (dL Z6 aix @aca 0);have T21:=dT Z6 a21 (dL Z6 aiW @acb 0);have T22:=dT Z6 a22 (dL Z6 aiy @acd 1);have T23:=dT Z6 a23 (dL Z6 aiz @ace 2);have T24:=dT Z6 a24 (dL Z6 aiV @RR 1);have T25:=dT Z6 a25 (dL Z6 ajo @acg 3);have T26:=dT Z6 a26 (dL Z6 UG @Zi 2);have T27:=dT Z6 a27 (dL Z6 ai3 @aci 1);have T28:=dT Z6 a28 (dL Z6 ai4 @acj 3);have T29:=dT Z6 a29 (dL Z6 (N9 Ae) @ack 5);have T30:=dT Z6 a30 (dL Z6 (aiC anP) @acm 1);have T44:=dT Z6 a44 (dL Z6 z4 @acJ 0);have T43:=dT Z6 a43 (dL Z6 w9 @acI 0);have T45:=dT Z6 a45 (dL Z6 rT @acK 0);have T46:=dT Z6 a46 (dL Z6 aha @u2 1);have T47:=dT Z6 a47 (dL Z6 ahb @acM 2);have T48:=dT Z6 a48 (dL Z6 v_ @Y2 2);have T49:=dT Z6 a49 (dL Z6 ahe @x8 3);have R50:∀n,gL P w K mg base (4+n+1) "joined" (j_ n):=by
  intro n;induction n with
  |zero=>exact dN Z6 SS (N:=vx) ahg uA
  |succ n ih=>exact dT Z6 SS (dL Z6 (ahi n) @U3<|4+n+1)
 have T50:=R50 64;have T62:=dM a62 nM.c (dL Z6 (YP nM) @ac1 1);have T54:=dT Z6 a54 (dL Z6 ahr @acT 2);have R55:∀n,gL P w K mg base (69+n+1) "parted" (l7 nK n):=by
  intro n;induction n with
  |zero=>exact dN Z6 SW (N:=Cp) (ahs nK) uA
  |succ n ih=>exact dT Z6 SW (dL Z6 (ahu n) @acU<|69+n+1)
 have T55:=R55 32;have R56:∀n,gL P w K mg base (0+n+1) "pieces_of" (tW n):=by
  intro n;induction n with
  |zero=>exact dN Z6 SX (N:=Cq) ahn uA
  |succ n ih=>exact dT Z6 SX (dL Z6 (AV n) @Sl<|0+n+1)
 have T56:=R56 32;have T61:=dM a61 nM.c (dL Z6 (u3 nM) @ac0 2);have T67:=dT Z6 a67 (dL Z6 zcQ @ac6 33);have T69:=dM a69 gp.c (dL Z6 (v0 gp) @Ak 1);have T72:=dM a72 gp.c (dL Z6 (ahO gp) @ada 102);have T31:=dT Z6 a31 (dL Z6 GC @acn 103);have T32:=dT Z6 a32 (dL Z6 aiL @CP 103);have T57:=dT Z6 a57 (dL Z6 aid @acW 2);have T63:=dM a63 nM.c (dL Z6 (aie nM) @ac2 0);have T58:=dT Z6 a58 (dL Z6 OF @acX 2);have T74:=dM a74 gp.c (dL Z6 (aii gp) @ade 3);have T76:=dM a76 gp.c (dL Z6 (aik gp) @adg 4);have T70:=dM a70 gp.c (dL Z6 (Qv gp) @ac9 1);have T75:=dM a75 gp.c (dL Z6 (aij gp) @AY 4);have T33:=dT Z6 a33 (dL Z6 aiN @acp 5);have T34:=dT Z6 a34 (dL Z6 aiO @Rh 104);have T77:=dM a77 gp.c (dL Z6 ail @adh 5);have T35:=dT Z6 a35 (dL Z6 yH @X2 6);have T36:=dT Z6 a36 (dL Z6 aiQ @acs 0);have T37:=dT Z6 a37 (dL Z6 aiR @acu 105);have T38:=dT Z6 a38 (dL Z6 ajO @acv 106);have T39:=dT Z6 a39 (dL Z6 akx @acx 103);have T40:=dT Z6 a40 (dL Z6 akf @acB 103);have T41:=dT Z6 a41 (dL Z6 (akr (u:=Ad) (G:=Fu)) @acE 104);have T42:=dT Z6 a42 (dL Z6 (aky (u:=Ad) anQ) @acH 106);have R51:∀n,gL P w K mg base (69+n+1) "last_out" (vW n):=by
  intro n;induction n with
  |zero=>exact dN Z6 SU (N:=s_) DA uA
  |succ n ih=>exact dT Z6 SU (dL Z6 (ahl n) @D2<|69+n+1)
 have T51:=R51 32;have R52:∀n,gL P w K mg base (69+n+1) "first_out" (v8 n):=by
  intro n;induction n with
  |zero=>exact dN Z6 SV (N:=s_) ahv uA
  |succ n ih=>exact dT Z6 SV (dL Z6 (ahx n) @acR<|69+n+1)
 have T52:=R52 32;have T53:=dT Z6 a53 (dL Z6 ahz @acS 102);have T59:=dI Z6 a59 amn (dL Z6 (agL nM) @acY 0);have T60:=dM a60 nM.c (dL Z6 (agN nM) @Y6 2);have T64:=dT Z6 a64 (dL Z6 ahG @ac3 69);have T68:=dI Z6 a68 amo (dL Z6 (ahK gp) @N_ 0);have T65:=dT Z6 a65 (dL Z6 ah9 @ac4 70);have T66:=dT Z6 a66 (dL Z6 (ahW gp) @YM 103);have T71:=dM a71 gp.c (dL Z6 (V4 gp) @ac_ 34);have T73:=dM a73 gp.c (dL Z6 (ah8 gp) @adb 104);have T78:=dT Z6 a78 (dL Z6 Zb @adi 0);have T79:=dT Z6 a79 (dL Z6 aeb @adj 0);have T80:=dT Z6 a80 (dL Z6 aeE @adk 1);have T81:=dT Z6 a81 (dL Z6 aff @adl 0);have T82:=dT Z6 a82 (dL Z6 AW @adm 2);have T83:=dT Z6 a83 (dL Z6 Vl @yM 0);have T84:=dT Z6 a84 (dL Z6 aj4 @YI 3);have T85:=dT Z6 a85 (dL Z6 afN @adp 0);have T86:=dT Z6 a86 (dL Z6 ajB @adq 1);have T87:=dT Z6 a87 (dL Z6 aks @adt 2);have T88:=dT Z6 a88 (dL Z6 x6 @adz 0);have T89:=dT Z6 a89 (dL Z6 zcR @adA 2);have T90:=dT Z6 a90 (dL Z6 akG @adC 107);have T91:=dT Z6 a91 (dL Z6 akM @adF 105);have T92:=dT Z6 a92 (dL Z6 C4 @adG 0);have T93:=dT Z6 a93 (dL Z6 ak0 @adT 106);have T94:=dT Z6 a94 (dL Z6 alx @ad5 108);exact dL Z6 x3 @ad8 109
theorem awF{l:PySem.W.OpenLaw}{q:Fa}{e:ac}{X:(ce)->FS->Prop}{Y:FM->FS->Prop}{K:Params->Frag}(j:l.most=some 63)(P:d.params.defaults=[])(o:∀(w:FM)(h:FS),Y w h->(K w.params).In h)(F:∀(w:FM)(m:ce)(g:D9)(h:FS),(K w.params).In h->h.Ns mainGlobals m->m d.name=some (.ref g)->
   ∃c:Go,(∀(s:Ev)(u:EQ),BindsTo s c ⟨[u],[]⟩ [("_law_script",u)])/\∀b:FS,(K w.params).In b->b.Ns mainGlobals m->cY l.prog w (K w.params) m b uR 110 g c ["_law_script"] ((λK=>(λU H Q Z=>(z_ K) U H Q E0)) (K w.params))):
  PySem.W.WalkO q e X Y l.row.toRowW d [] (λf U=>PySem.call f U):=
 apS (n:=63) (k:=110) (x:="_law_script") (CX:=λZ=>uR) (sp:=λw=>(λK=>(λU H Q Z=>(z_ K) U H Q E0)) (K w.params)) j ax P ⟨O,ax,ax,O⟩ o F (λZ Z a i p Z S=>⟨a,i,O,S,λZ=>O⟩) λZ Z Z Z Z z=>z
end
end Internal
open PySem PySem.W PyProof.Rows
set_option maxRecDepth 100000 in
set_option maxHeartbeats 0 in
theorem PySem.Challenge.cw_inkloom_k34_whole_one_by_one_holds : PySem.Challenge.rw_inkloom_k34_whole_one_by_one.Holds := by
 refine PySem.z1 λ_=>?_;w_on;k_head;(case hw=>w_witness2)
 k_fill
 refine Internal.awF (l:=PySem.Challenge.rw_inkloom_k34_whole_one_by_one) rfl rfl (λw h Y=>PySem.W.kIn_of Y) ?F
 case F=>
  intro w mg fa h KX G qo;refine' Internal.awE KX G qo ..
  all_goals try first | refine' Internal.dfk .. | refine' Internal.alQ .. | refine' Internal.wV.mk .. | refine' Internal.dmk .. | refine' Internal.alP .. | refine' Internal.alO .. | refine' Internal.pS.mk .. | refine' Internal.vq.mk (Internal.fP.mk ..) .. | refine' Internal.qG.mk (Internal.fP.mk ..) .. | refine' Internal.jo.mk (Internal.fP.mk ..) ..
  all_goals try refine' Internal.alR ..
  all_goals try first | k_is | k_exc | kernel_rfl