import PyProof.Rows.All
import KE.KSuperObj
import KE.KPairComp
import KE.KLam
import KE.KNestM
import KE.KItemsList
import KE.KUnpack
import KE.KEqDict
import KE.KFromBytes
import KE.KMinKey
import KE.KIntText
import KE.KRevIter
import KE.KDictOf
import KE.KTryMore
import KE.KBoundM
import PySem.Challenge.RW_castoff_k94_whole_best_under_every_rule
set_option linter.all false
set_option compiler.extract_closed false
set_option genSizeOf false
set_option Elab.async false
set_option maxRecDepth 100000
set_option maxHeartbeats 4000000
open Lean in
local macro_rules|`(command|#print $s:str)=>do
 let mut c:=#[];let mut n:=0;let mut i:=0
 for x in s.getString.toList do
  n:=n*85+(x.toNat-35-(if x.toNat>92 then 1 else 0));i:=i+1
  if i%10==0 then c:=c.push (<- `(theorem $(mkIdent (.mkSimple s!"tw{n}")):ident:True:=⟨⟩));n:=0
 return mkNullNode c
namespace PySem.W.Fast
#print".Qu23w<QF]=eNm=4wo%0'Ic3etg#2x8nG*=piOl@s*5KTDutX;RtWvw&e4nxoBV4h&J_gmbs'K;l53a'Rwmlb(GKDJipH>)Ajm82Y&ZHwv]M)K8U&Rs+0+'XEHJ^)/XKOrN0ch,2^hUZjrGsiHUT$g>&N0jKOH.I*-C.l.)kjla:/]Z1v$i1(?g?B(Tm^APvF$DR`G^^#r.Ag)E`Hq-FZNv$G&;9l0]-`Kr^aXJ]F.4)NN/XYDKX-X-Pp907Wg9CE*j%_H-`u5/*Sg^U`47[_lB9;HB.=8OVw4X.n741-Xq&QAv+-Ni2;aAqY6&%g*[%V,:P0eaSEt(avwZ>HAxG`qc]`QB2VTRSi^DnbFZ.3Kq(0I]=f*-n]wqE04`:K_.9KZq$EH'iMl*RJZiS4@LeXq.VU6UH/I*BNPnF6n_Z%$).DA;<N0/):oN5=43g:HYl:9B5[@H1K`_MAi3VrgYo?77Fq']i61GH<abYqgoo^WiTC7a%S7pLCT#2'EP]ddk$c2XiKX.GGVx58G]Q^;jp?;em2O680tg,r:ekTB?Omn.`]Xt2(:C7`&aP6;4.Nq**KPR-5g(<^2nm-YdOGBol9<fK4J@rgFTGD*%cST2T&%6*&aKk#?2EDk/MxVd$usCwOIgptqgDvBYcoshK=*;'1Fw#eJFo]IZuRMdjl3N(ivHm'jvoC#nts8b#]du0EgQHYk8Ri>%.C%6Dp4mS^#N:q&`5&0dGr.?Igd.C,PJg*B37;qAo7nw:c-VvV'*9Qi-1=RK1i)YB0XcRi8mg#<f2..C6Z.Pf41S+L-RTBkfC0m/YTJmmEs4[NMJgmD@0K7Z6WLt-rf-gG=o.dt)g`GJ_Zbl$Cac9;r02OMj.T[(g=9P&AoJ<HtPeUnV]`=bT?R'?h6-KkjGwxt;7#0j=A3mSpfb0AKG4ScY6K61NoL_&C?aFT/)R$X27<dDsJB>-o8O'6D)c.^nVTgB?-ailpcC1*gSI^2ve+o2BuJ_Ub)-)YiRv[9@1ph)2xKJXNa5j$EkOcZ#sP^=L/b=RNE;h4AKZ_eLk8)?XmTX0&Ba[W+[P8i/f56kW.B,<[+VH_xj_MMfWF^k+eM/TlX5s(+&-QgV(o=@#I>>mu'4Xg1TpA<>dMqpg/bZhULsV#AZtZ3Heb&545P/,s&FQ-G$@DPWWqu,UI[4A:q^KoZG+F);<F+eWAwK7i_Ze#sw'vbS2&d)[8r35%O/dfw5NButcQbp^,U=>9X)[;J,sJE/mXrd<:nbMrokiH0an>7^-nS8`t`GTqaKe64xAq=*>qa<u)oq0d)/t]i#+C9^WP04k#8Z+qP9`%H3,g$i+vN3)m+D_vDAW4e3F,OE5I]U,*vaFgW#,o($OfLaZKLapFbBRGp@fV,r++ms7S,,gpu$VN+Z=Sw81tx^Eo.,Hd;.jub?)WJLg,R&PxIrZr<Cok#wfs9PWQwuX<D$EiX9^F`sd3Y3*w-?']mW&ZhNtUL=J/#YZ[VR^x^gE7.@Z%=k76[T8$ORB6K,u[bJc`,mGa[@ne9$PMK0m<K,BnnVf*PI1%wRg,,:MCD9Nn)GRGp2Um=1g(w6rEv7E/.%t'M.[c4#M;*51LKrTrQ)t=HunRj8/JNnQ?hObg><8`@;mqoc_0wQUt,PsPQ94Bb_SsA?h_.4&M+rP@]`^TH<obtoXkVlB*wx5^F0+l]-4-ch[B9;w[rWF>4h[#S3=wc;&T'Kh36k^]>draOj_1Av[Lj'tO2tt<jC]lJmDoF*?]0CABlAYwCGKF6WJUSeP:JY1awhf.jfZ`Cf@=p0Oclf.@rU$<Sw,rU2a)Hmp4/N<`0U6Xo$s4>a&jiFg#wb0_:tq@nYkFbMKZQ:#u:p_dZ:Wnf*>RH@6x525hu1D2`nRZ4&,s9+k7FVv+GF;2VgPcIIXO*ex:@N=a$#HGu<k4`vCic+o#??eX.fD&L*jP23ji*wZ$Q0Swr^@6WvjrFh[Fw.2c#gK#eXIhb(@0s2GD9_iDx*G$Mn>*V]hUi'Mc-T+QOeKR0S;>:GLE,+,:/W15JU'l58mDQ5@hH[YVr6NCmx4cM/t*Bbj#T7*Qb.wJ]a,2uZlPZ-.2S8cis/11S61B[R@:c@'@.SKEnGvU)ex)xAmh:`2s&LH94Vk7g[B([P2Z^IiJ1F=NBVxk=;^i5;:XZ)QU'jC<IijIgI%blDE#J4`A0A><wQ?<oSVKI`#QZCPa]#_jsXs4TZp@>l'*_r'hK05a_`gd+V6EZV+hvZ3x)sU*4nV=livULLuUPpD^g]>;=Re,:&SqUDw#Z+p=Ybgj32HWBFo#U%oM4F-jr$xrE>dG/Z#t+Nr@'=w@c;cCg:IhwO&qMrPm1?Xxx6vIRi^g[<[+j4)UT@i4soMC,_4ddWjREiL:ws4N`bMG%re$OD;3`m-o>0AoZ>1-,G%8wUUxl*G^LV1WmlDSS5B:+<+S+.539eOB*o:D3nP2<PZl&[EY^9/Tn(8Q@r^-qN0/q0?e)jw2#P&GT#u$a(W7F>G+Z:Oh?=X=PQm4-:]riO.u&>Vk;ew&7))_ik@VO]fBAcU4c6YNxakcup'#B&7]I/KYko#LR.jpCJYDroov3#vl2jZWGwqn?bTJ9Bs/lhaOt:Yk7eQm_4O__6Y>HZL?ddEQ:AqW.#vbx*2R6=Y;k)dWU>k?3@#er6k,.S9*=5+4vd3&j^7'35=f+@^%BZ+DS+][6`,A.+h:F.YY+Y4Ym8@m8'Q^8Q8MctT.e#?95$.$-P,f@&BOB(f_.ia_qERV6=iQ4((FwwOtPN;^Xt9C^;g4n*183?73>`D,jwc?#Gw#c'a%IEthCu?_:RaZ(CgIvS5Ixa$YaGFXucdwv:6<QTQUq'0(n+q*dGlt6[GjQ<d5I@@*T?p.WR+BS92gpQv(2FMAww%?Y]C`-,iPs?%cHMnI0,MAFgExX;Z2ad*f%NS`4lLn_oIXN7W8DA$.T&(Rxe;@FYk4brut*:77PRg&CQ;pevomuexr6<3S6H'hf@*/Yu,&[w0cs27w^@+@D'L.]w8]w0h-^3+7vfOIWF[QH?I=6m]$YoD51I<@jiPZ2pVZ,h4i_=#8$4V?lJ^''7Eb;vN<MsBJ1?/[)e.D)mAD`S%Qr+4%i>VsD4,V('1pSjJKSpV;L93e611$aG(l3YS%seVm[)Q#J'79*756d:N_:lSkRH*6&cTU6N4o>5n&G7;x:Iu)=AB%YmXZOvWw@_).X?*BftWK?r9]rZ:cXm^KTm-0c1_Zp'ovi;%-2jYhZiEnxQlgx2<t/v>lpR9E%lIHLC7iDruYXvnHVj9<fc.>l<BNa,#:?`ur>'(/n-4ZxD@J3MRP7U/hB^0x7L@5j=_('NW;xmw#_Ia;Y?+%)G(S/EeZk(U=<DuB<(^AW7k/I7hj;1PQ?k.3PZ]r7X<RB%XSro#YA9;Sv#Br/kYsIv^IT(gAt6hdCMed<1r(UVq*kHg8R*c4D$PvvP5>(PY/-0O0%=1+suWO%*$ads#bC,l2:E`-<J$)#?N.=RDP-If[,`o?f98gEXg:5K:VB1KW4kCVp<]?)AA_gY%d7k[_0Y>4r.A1J0B0icJS+/F$'5^Yau'+*QVFBl&ZaZ*TD#d)v_3=MdSg3<fA1-Us;TNC313Q#T<(v[9mG-:1[C51.&PQP@-?O@F.6<7RA0+Yna?MKkr1aaW8D#;o4ECho#cD`a0U$ILU'5OU_<[FptXU:NTj6Mm1+MWWUpWagk2NrPL]qE<sB@?`qU29Pd0OdwKT@9h+Jh9V7eQhlYW4@9Qb.60##=%7nKiq_s:cBgb`+Aj-<s3%f@G2]Ht1Xt?7'&FLA'<viFk#4u-Tk.'A)_AB$rj7_S8fAMQd[M/.BQLwkegW%1+XGlvkTrqs6;%KxC]mJ*@5b=?%GXcW@Unt9vV**(IhW.@gU),Tq6qHF'S#_Vai%gHJT?//M@>qgasC:?4q13bm)/4AKjCm9/%>b?M7-q[=]:.CD6oip=2wrKl?ooA1pkVm([^#i*Ybem'XwKpZe<mRB#SA-c&`3#^Fo*r^*GUn3>isGMMoLR?(<F__YO-p,Cn/<m=E2Mh0*'f+_Zr-RBhg0AlhAc4`qYdu^LfCORV&p-n=-0LMXqodXBX3raGum77=k$U8C++?+O%M1(-?Y`+e?dFY$<3g'je6VrIV2F&i^8>l6HsPw=umB^s8`B?nI-+D[)$uT-xiX9PpF;(03g)HWi/(;p<p@4V@XS,H7=Fo7<x;.vTVomgSPx;,F1[9'.*B9n2jew$n$WICk=RL(YLG[1gW&Hn7fVrrNb;D9DU@H9P=Y8`+?$%(258#GY4Ilf:q:nQQG-aLQ4Ker'3$a-,+MLnShT]?jif+,r3k[#JIM,#N@MfHhcEwYMSS$.]GrIZJXTMcC`x#A[vk,AE5k)%A*]FnA#bcpZAh@d0KBP&^uU66Y2UoK6jqFJ'79X-?d*AWB%52g9?/;G-;3#PBx^V'Wi2NG<t:&.c#M&I=f&Agrch'W2[X%f1kE8?HhDZaYGbYC-oZFX/2'MKd$2VVfk*/EmBmHgSHNS0B3N2Wk?wR4&X72H_WiiI0dmue1^^u(G&$<EbE9&jXf^pET*p$189p/@)@t.;A=eE;3Z-mW56-qlgfC5)nf1-'F%mTsEY_vVk_f^H@P#KeM#6'9*B#0DW0_>2/DO2=2MJ&kp]X)X.liiN8KcX/jgqH>>hsr7__FB2dRJbub%iW)T330UA07N/['27P%O#JFTvef7<B,dZQsKc>Qr*NsIs5h]8cp08$xWIKh1kvtvhD_w#;N[%o=;UZa2(/bMQ@;Rgf:&xM.6wo)Vi%Jj.&D-?;alt@u?/-g<O>t?E^)SP6Hf<$_.&#L-f1dxOuGW%V6Rghnh$rCR`m+TK(MMUH7G@M?v.+$/m2&KQa2Sg*_nRWO*j))=KImH?*HAW#;BZx/;^14>`^3Xvtj;?+eM<b*q=)AA8ajiJ_^@7DNKjmZd8sMCmUMkgt@R`UPXT-+K]rk:xiC_(et'*dTBpW6g#NgKUWtbkDk-g*hZ:KbVnR4D_+'3kP0rS8U?,Z9Y@p*h]U^X%9Pmw0b6@5aH0m^WK53b)Nu9a7nUX2c,o].C@bnjm_wvak[J@K^JUnpr'?&paRv2S+&a6Q3hFKh.HGF.]dWIVDdP/uot$D%bP6ALYOtk9KL&rGqJ<B?42bDGThh;K.*/gthJ]j@.6Qm%ub%;d#:OT64r1D.mcG#>$J_U8jQW?^`j1.=K)&'qk1hk620:m;_3%x<>kp0SEk=:4Ru)>q*EH>3rG#@<]cwN0<l7N>-iK6rrCWOmd5fMueU*DNQF9VB-,s`>'P[`+OqmRQ'R(]B_J0p+POU<f&CsTfGkXu0O/@ShB'=*`0nGQ@Jx;dK6qurq6-0>YHT>Kaj$8MRf4wS4rF3pd^L59,sea'dBJhWkGd3-WZ+@*s<]A=5X%/8N[AN0$_(VO)'bHcC,Bi`8*]$EY;<El6<MGkgWB`7w+JGhM.wB@Bsd5Umm`o>pD=2n%59,wLMKrAK#+Qv&(BH]HnDF;[fACUKZs2Z<w'I.FlcgV(IjD7v5'FH2eekcQ5o9mIG%Q6F%*(soag2Z@k88u[k6+ql4;=kx>T/Y:iIUtCTsBKtoDxl=Vd#4R`AAAmx>vPIB<^+3Dw($kSgDTt/4AhUMY-F'JU#jo^+klZW:nrK$ZQW?j(3<uHZG'w,m?W+rI8,:^Z>H#QG#P[],^OLVow$P+[:Z)bKAuHb1t[8rE0M'lno+Jo'R&`SkqdP7)En9)sb/?ZrKX[Po?mgY&VX-//l:w9rE+9+.1OS6)C<d^bi5/g=?fB^Lir5GsA_dn_WG_brN7@f(.D.%+Ss2F'ZBR1K_s<oN@v4BuqGQ8uF1wk+Ei*j8*dZ,aR?3DNgHqEs]7]auE$W/G6@Iwfw^3hMOE4VtF=oqL-t=qsV(rACpk`WD]iUM$R+9F;Sn<-AO38R1k>tdl*mf,GWP5dZ+xl*8_nOKaLB]m.]PZdB[4)4r?=JncoU1a7IBS&4FhQGX>E##EYG@Z/sm#f&G8p#'IY%MVX0j(>,#v9>*q,7[N7Xcto4CRPxaC5Dpf`bs0rn'Tj7RZEg)_[Sp#0iZt8=s1d92A7O:^'AJV/$t/#/Ld%K%j42pfD4eCuBUwK?k@)Wp%S5PH+e9sQ<J5$,1Y`$t84V-,sCqla*vcNQhLn;7c7gnxGfE/GJvX:g_clq&U6S=jPlLg/c8usMT,Qe(R_EU=&R+XJ*wZdbp4Nr`5:;q+Y)XuiJBX/rg=5A`.1l*cd-gLN=YJD25sX?=a7a#Y>RrAJ3t0>Mai[)c1&(CX#idX;A%I'Y%Ivp/[u^KN=NE^`bn'x,:g%n`jU).RKkq02tlNoSC7WWUL_1bXB@RmkL#gI]JP2C<g9jX2D(ZtTh>16NLRo?0P/*Sf0hVM#nQPGdTACLWQ5#X<cJWKs1G)wPH3-f%W3h(:7)u`2ebU[7;&u3'72JK37Qkdhu;Xl^iv(*76TgDkOHrpd$F8;cM(Q_umNS_apmIB&*#f;nPMwFmf,QBmRQIwi4',fs4.%BoH>cW_UYj5FU1-Vm5)#/5:7SG)j;2`sal@l^`:@i97UkVSpK^<QVEq:#bn<3th_r;qM*_(^hJoA3:F+d2lBp@UA^t)>0OSngg,u%?RJugBjOF^qn)(aN&F54xtNnKD^TP;]eRWR2A5-Oh<;/_G`vg2[qi`o$.FYk(Lwb4_,H&l-c/mw(lfV)4w`TMkf3Yf&Qg$(2:qC&(k;%g&Pt?u[txbjsiIUL&x(@ZE/<pq>(hU4q;]5U?976KuZZD1O$doWo1K0s6O5+kC[m`X9.fQ9j7EImG3]dC'>t-El`2ogW%,*cITlh)^20]</)=^e^I'p9$r/[M[`aX'Ka9pUmN;_r5=$i-S>0:A&:3pJsKw&&Jl]/lRp`tQib5cg*k[JkIW0$s,M*k`d2HlH`op^dX@Q-:hWF)VZ@rO`F"
end PySem.W.Fast
section
open PySem PySem.W PyProof.Rows
set_option maxHeartbeats 0
open_top hd94 for PySem.Challenge.rw_castoff_k94_whole_best_under_every_rule
end
namespace L2
section
variable{A B C D F G H I J K L M N O Q R:Sort _}{Z:Prop}
theorem x1{p:A->Prop}(e:∃a,p a)(z:∀a,p a->Z):Z:=e.elim z
theorem x2{p:A->B->Prop}(e:∃a b,p a b)(z:∀a b,p a b->Z):Z:=e.elim λa e=>x1 e (z a)
theorem x3{p:A->B->C->Prop}(e:∃a b c,p a b c)(z:∀a b c,p a b c->Z):Z:=e.elim λa e=>x2 e (z a)
theorem x4{p:A->B->C->D->Prop}(e:∃a b c d,p a b c d)(z:∀a b c d,p a b c d->Z):Z:=e.elim λa e=>x3 e (z a)
theorem x5{p:A->B->C->D->F->Prop}(e:∃a b c d f,p a b c d f)(z:∀a b c d f,p a b c d f->Z):Z:=e.elim λa e=>x4 e (z a)
theorem x6{p:A->B->C->D->F->G->Prop}(e:∃a b c d f g,p a b c d f g)(z:∀a b c d f g,p a b c d f g->Z):Z:=e.elim λa e=>x5 e (z a)
theorem x7{p:A->B->C->D->F->G->H->Prop}(e:∃a b c d f g h,p a b c d f g h)(z:∀a b c d f g h,p a b c d f g h->Z):Z:=e.elim λa e=>x6 e (z a)
theorem x8{p:A->B->C->D->F->G->H->I->Prop}(e:∃a b c d f g h i,p a b c d f g h i)(z:∀a b c d f g h i,p a b c d f g h i->Z):Z:=e.elim λa e=>x7 e (z a)
theorem x9{p:A->B->C->D->F->G->H->I->J->Prop}(e:∃a b c d f g h i j,p a b c d f g h i j)(z:∀a b c d f g h i j,p a b c d f g h i j->Z):Z:=e.elim λa e=>x8 e (z a)
theorem x10{p:A->B->C->D->F->G->H->I->J->K->Prop}(e:∃a b c d f g h i j k,p a b c d f g h i j k)(z:∀a b c d f g h i j k,p a b c d f g h i j k->Z):Z:=e.elim λa e=>x9 e (z a)
theorem x11{p:A->B->C->D->F->G->H->I->J->K->L->Prop}(e:∃a b c d f g h i j k l,p a b c d f g h i j k l)(z:∀a b c d f g h i j k l,p a b c d f g h i j k l->Z):Z:=e.elim λa e=>x10 e (z a)
theorem x12{p:A->B->C->D->F->G->H->I->J->K->L->M->Prop}(e:∃a b c d f g h i j k l m,p a b c d f g h i j k l m)(z:∀a b c d f g h i j k l m,p a b c d f g h i j k l m->Z):Z:=e.elim λa e=>x11 e (z a)
theorem x13{p:A->B->C->D->F->G->H->I->J->K->L->M->N->Prop}(e:∃a b c d f g h i j k l m n,p a b c d f g h i j k l m n)(z:∀a b c d f g h i j k l m n,p a b c d f g h i j k l m n->Z):Z:=e.elim λa e=>x12 e (z a)
theorem v2{p:A->B->Prop}(a)(b)(e:p a b):∃a b,p a b:=⟨a,b,e⟩
theorem v3{p:A->B->C->Prop}(a)(b)(c)(e:p a b c):∃a b c,p a b c:=⟨a,v2 b c e⟩
theorem v4{p:A->B->C->D->Prop}(a)(b)(c)(d)(e:p a b c d):∃a b c d,p a b c d:=⟨a,v3 b c d e⟩
theorem v5{p:A->B->C->D->F->Prop}(a)(b)(c)(d)(f)(e:p a b c d f):∃a b c d f,p a b c d f:=⟨a,v4 b c d f e⟩
theorem v6{p:A->B->C->D->F->G->Prop}(a)(b)(c)(d)(f)(g)(e:p a b c d f g):∃a b c d f g,p a b c d f g:=⟨a,v5 b c d f g e⟩
theorem v7{p:A->B->C->D->F->G->H->Prop}(a)(b)(c)(d)(f)(g)(h)(e:p a b c d f g h):∃a b c d f g h,p a b c d f g h:=⟨a,v6 b c d f g h e⟩
theorem v8{p:A->B->C->D->F->G->H->I->Prop}(a)(b)(c)(d)(f)(g)(h)(i)(e:p a b c d f g h i):∃a b c d f g h i,p a b c d f g h i:=⟨a,v7 b c d f g h i e⟩
theorem v9{p:A->B->C->D->F->G->H->I->J->Prop}(a)(b)(c)(d)(f)(g)(h)(i)(j)(e:p a b c d f g h i j):∃a b c d f g h i j,p a b c d f g h i j:=⟨a,v8 b c d f g h i j e⟩
theorem v10{p:A->B->C->D->F->G->H->I->J->K->Prop}(a)(b)(c)(d)(f)(g)(h)(i)(j)(k)(e:p a b c d f g h i j k):∃a b c d f g h i j k,p a b c d f g h i j k:=⟨a,v9 b c d f g h i j k e⟩
theorem v11{p:A->B->C->D->F->G->H->I->J->K->L->Prop}(a)(b)(c)(d)(f)(g)(h)(i)(j)(k)(l)(e:p a b c d f g h i j k l):∃a b c d f g h i j k l,p a b c d f g h i j k l:=⟨a,v10 b c d f g h i j k l e⟩
variable{V:Type}{v:List V}{t:Nat}
theorem n0{f:List V}{p:Prop}(e:v=f/\p)(z:f.length=t):v.length=t:=e.1▸z
theorem n1{u:A->List V}{p:A->Prop}(e:∃a,v=u a/\p a)(z:∀a,(u a).length=t):v.length=t:=e.elim λa e=>n0 e (z a)
theorem n2{u:A->B->List V}{p:A->B->Prop}(e:∃a b,v=u a b/\p a b)(z:∀a b,(u a b).length=t):v.length=t:=e.elim λa e=>n1 e (z a)
theorem n3{u:A->B->C->List V}{p:A->B->C->Prop}(e:∃a b c,v=u a b c/\p a b c)(z:∀a b c,(u a b c).length=t):v.length=t:=e.elim λa e=>n2 e (z a)
theorem n4{u:A->B->C->D->List V}{p:A->B->C->D->Prop}(e:∃a b c d,v=u a b c d/\p a b c d)(z:∀a b c d,(u a b c d).length=t):v.length=t:=e.elim λa e=>n3 e (z a)
theorem n5{u:A->B->C->D->F->List V}{p:A->B->C->D->F->Prop}(e:∃a b c d f,v=u a b c d f/\p a b c d f)(z:∀a b c d f,(u a b c d f).length=t):v.length=t:=e.elim λa e=>n4 e (z a)
theorem n6{u:A->B->C->D->F->G->List V}{p:A->B->C->D->F->G->Prop}(e:∃a b c d f g,v=u a b c d f g/\p a b c d f g)(z:∀a b c d f g,(u a b c d f g).length=t):v.length=t:=e.elim λa e=>n5 e (z a)
theorem n7{u:A->B->C->D->F->G->H->List V}{p:A->B->C->D->F->G->H->Prop}(e:∃a b c d f g h,v=u a b c d f g h/\p a b c d f g h)(z:∀a b c d f g h,(u a b c d f g h).length=t):v.length=t:=e.elim λa e=>n6 e (z a)
theorem n8{u:A->B->C->D->F->G->H->I->List V}{p:A->B->C->D->F->G->H->I->Prop}(e:∃a b c d f g h i,v=u a b c d f g h i/\p a b c d f g h i)(z:∀a b c d f g h i,(u a b c d f g h i).length=t):v.length=t:=e.elim λa e=>n7 e (z a)
theorem n9{u:A->B->C->D->F->G->H->I->J->List V}{p:A->B->C->D->F->G->H->I->J->Prop}(e:∃a b c d f g h i j,v=u a b c d f g h i j/\p a b c d f g h i j)(z:∀a b c d f g h i j,(u a b c d f g h i j).length=t):v.length=t:=e.elim λa e=>n8 e (z a)
theorem n10{u:A->B->C->D->F->G->H->I->J->K->List V}{p:A->B->C->D->F->G->H->I->J->K->Prop}(e:∃a b c d f g h i j k,v=u a b c d f g h i j k/\p a b c d f g h i j k)(z:∀a b c d f g h i j k,(u a b c d f g h i j k).length=t):v.length=t:=e.elim λa e=>n9 e (z a)
theorem n11{u:A->B->C->D->F->G->H->I->J->K->L->List V}{p:A->B->C->D->F->G->H->I->J->K->L->Prop}(e:∃a b c d f g h i j k l,v=u a b c d f g h i j k l/\p a b c d f g h i j k l)(z:∀a b c d f g h i j k l,(u a b c d f g h i j k l).length=t):v.length=t:=e.elim λa e=>n10 e (z a)
theorem n12{u:A->B->C->D->F->G->H->I->J->K->L->M->List V}{p:A->B->C->D->F->G->H->I->J->K->L->M->Prop}(e:∃a b c d f g h i j k l m,v=u a b c d f g h i j k l m/\p a b c d f g h i j k l m)(z:∀a b c d f g h i j k l m,(u a b c d f g h i j k l m).length=t):v.length=t:=e.elim λa e=>n11 e (z a)
theorem n13{u:A->B->C->D->F->G->H->I->J->K->L->M->N->List V}{p:A->B->C->D->F->G->H->I->J->K->L->M->N->Prop}(e:∃a b c d f g h i j k l m n,v=u a b c d f g h i j k l m n/\p a b c d f g h i j k l m n)(z:∀a b c d f g h i j k l m n,(u a b c d f g h i j k l m n).length=t):v.length=t:=e.elim λa e=>n12 e (z a)
end
section
variable{A B C D F G H I J K L M N O Q R S T U W X Y Z:Prop}
theorem y2(e:A/\B)(z:A->B->Z):Z:=z e.1 e.2
theorem y3(e:A/\B/\C)(z:A->B->C->Z):Z:=y2 e.2 (z e.1)
theorem y4(e:A/\B/\C/\D)(z:A->B->C->D->Z):Z:=y3 e.2 (z e.1)
theorem y5(e:A/\B/\C/\D/\F)(z:A->B->C->D->F->Z):Z:=y4 e.2 (z e.1)
theorem y6(e:A/\B/\C/\D/\F/\G)(z:A->B->C->D->F->G->Z):Z:=y5 e.2 (z e.1)
theorem y7(e:A/\B/\C/\D/\F/\G/\H)(z:A->B->C->D->F->G->H->Z):Z:=y6 e.2 (z e.1)
theorem y8(e:A/\B/\C/\D/\F/\G/\H/\I)(z:A->B->C->D->F->G->H->I->Z):Z:=y7 e.2 (z e.1)
theorem y9(e:A/\B/\C/\D/\F/\G/\H/\I/\J)(z:A->B->C->D->F->G->H->I->J->Z):Z:=y8 e.2 (z e.1)
theorem y10(e:A/\B/\C/\D/\F/\G/\H/\I/\J/\K)(z:A->B->C->D->F->G->H->I->J->K->Z):Z:=y9 e.2 (z e.1)
theorem y11(e:A/\B/\C/\D/\F/\G/\H/\I/\J/\K/\L)(z:A->B->C->D->F->G->H->I->J->K->L->Z):Z:=y10 e.2 (z e.1)
theorem y12(e:A/\B/\C/\D/\F/\G/\H/\I/\J/\K/\L/\M)(z:A->B->C->D->F->G->H->I->J->K->L->M->Z):Z:=y11 e.2 (z e.1)
theorem y13(e:A/\B/\C/\D/\F/\G/\H/\I/\J/\K/\L/\M/\N)(z:A->B->C->D->F->G->H->I->J->K->L->M->N->Z):Z:=y12 e.2 (z e.1)
theorem y14(e:A/\B/\C/\D/\F/\G/\H/\I/\J/\K/\L/\M/\N/\O)(z:A->B->C->D->F->G->H->I->J->K->L->M->N->O->Z):Z:=y13 e.2 (z e.1)
theorem y15(e:A/\B/\C/\D/\F/\G/\H/\I/\J/\K/\L/\M/\N/\O/\Q)(z:A->B->C->D->F->G->H->I->J->K->L->M->N->O->Q->Z):Z:=y14 e.2 (z e.1)
theorem y16(e:A/\B/\C/\D/\F/\G/\H/\I/\J/\K/\L/\M/\N/\O/\Q/\R)(z:A->B->C->D->F->G->H->I->J->K->L->M->N->O->Q->R->Z):Z:=y15 e.2 (z e.1)
theorem y17(e:A/\B/\C/\D/\F/\G/\H/\I/\J/\K/\L/\M/\N/\O/\Q/\R/\S)(z:A->B->C->D->F->G->H->I->J->K->L->M->N->O->Q->R->S->Z):Z:=y16 e.2 (z e.1)
theorem y18(e:A/\B/\C/\D/\F/\G/\H/\I/\J/\K/\L/\M/\N/\O/\Q/\R/\S/\T)(z:A->B->C->D->F->G->H->I->J->K->L->M->N->O->Q->R->S->T->Z):Z:=y17 e.2 (z e.1)
end
end L2
open Lean in
local macro_rules
 | `(tactic| obtain⟨$ps,*⟩:=$h:term)=>do
  let ps:=ps.getElems
  let n:=ps.size
  if n < 4 || n > 38 then Macro.throwUnsupported
  let fr (s : String) : MacroM (TSyntax `ident):=return mkIdent (<- Macro.addMacroScope (.mkSimple s))
  let mut ns : Array (TSyntax `term):=#[]
  let mut post : Array (TSyntax `tactic):=#[]
  for p in ps do
   if !p.raw[1].isNone || p.raw[0][0].getArgs.size != 1 then Macro.throwUnsupported
   let q:=p.raw[0][0][0]
   if q.getKind == `Lean.Parser.Tactic.rcasesPat.one && q[0].getId != `rfl then ns:=ns.push ⟨q[0]⟩
   else if q.getKind == `Lean.Parser.Tactic.rcasesPat.ignore then ns:=ns.push (<- `(_))
   else
    let t <- fr s!"t{ns.size}"
    ns:=ns.push t
    let m : TSyntax `Lean.Parser.Tactic.rcasesPatMed:=⟨p.raw[0]⟩
    post:=post.push (<- `(tactic| obtain $m := $t:term))
  let one:=h.raw.isIdent && (match h.raw.getId.eraseMacroScopes with | .str .anonymous _=>true | _=>false)
  let hh <- fr "hh"
  let e <- fr "e"
  let src : TSyntax `term:=if one then hh else h
  let mut main <- `(tactic| fail)
  for k in [0:n] do
   let r:=n - k
   if k > 12 || r > 18 then continue
   let (bs, cs):=(ns.extract 0 k, ns.extract k n)
   let x:=mkIdent (`L2 ++ .mkSimple s!"x{k}")
   let y:=mkIdent (`L2 ++ .mkSimple s!"y{r}")
   let a <- if k == 0 then `(tactic| with_reducible refine $y $src fun $cs*=>?_)
    else if r == 1 then `(tactic| with_reducible refine $x $src fun $bs* $cs*=>?_)
    else `(tactic| (with_reducible refine $x $src fun $bs* $e=>$y $e fun $cs*=>?_; clear $e))
   main <- `(tactic| first | $main:tactic | $a:tactic)
  if one then `(tactic| (revert $h; intro $hh:ident; $main:tactic; clear $hh; $[$post:tactic];*))
  else `(tactic| ($main:tactic; $[$post:tactic];*))
open Lean in
local macro_rules
 | `(tactic| rintro $ps*)=>do
  let n:=ps.size
  if n == 0 then Macro.throwUnsupported
  let l:=ps[n-1]!.raw[0]
  if l.getKind != `Lean.Parser.Tactic.rcasesPat.tuple then Macro.throwUnsupported
  let mut ns : Array (TSyntax `term):=#[]
  for p in ps.pop do
   let q:=p.raw[0]
   if q.getKind == `Lean.Parser.Tactic.rcasesPat.one && q[0].getId != `rfl then ns:=ns.push ⟨q[0]⟩ else Macro.throwUnsupported
  let t <- Macro.addMacroScope `hr
  let t:=mkIdent t
  let m : TSyntax `Lean.Parser.Tactic.rcasesPatMed:=⟨mkNode `Lean.Parser.Tactic.rcasesPatMed #[mkNullNode #[l]]⟩
  `(tactic| (intro $ns* $t:ident; obtain $m := $t:term))
open Lean in
def hv (xs : Array Term) (f : Term -> MacroM (TSyntax `tactic)) : MacroM (TSyntax `tactic):=do
  let n:=xs.size
  if n < 4 || n > 38 then Macro.throwUnsupported
  let mut main <- `(tactic| fail)
  let a:=mkIdent (<- Macro.addMacroScope `a)
  for k in [2:n] do
   if k > 11 then continue
   let mut g <- if n - k == 1 then `(_) else `(_ /\ _)
   for _ in [0:k] do g <- `(∃ $a:ident, $g)
   let (bs, cs):=(xs.extract 0 k, xs.extract k n)
   let c <- if n - k == 1 then pure cs[0]! else `(⟨$cs,*⟩)
   let v:=mkIdent (`L2 ++ .mkSimple s!"v{k}")
   let t <- f (<- `($v $bs* $c))
   main <- `(tactic| first | $main:tactic | (guard_target =~ $g; $t:tactic))
  return main
local macro_rules | `(tactic| refine⟨$xs,*⟩)=>hv xs.getElems λt=>`(tactic| refine $t)
local macro_rules | `(tactic| exact⟨$xs,*⟩)=>hv xs.getElems λt=>`(tactic| exact $t)
local macro_rules | `(tactic| omega)=>`(tactic| lia)
def Fa:=@List.length_map
def Fb:=@List.getElem?_eq_getElem
def Fc:=@List.getD_eq_getElem?_getD
def Fd:=@List.getElem?_eq_some_iff
def Fe:=@List.getElem?_map
def Ff:=@List.mem_of_getElem?
def Fg:=@Nat.le_refl
def Fh:=@List.mem_cons_of_mem
def Fi:=@decide_eq_true
def Fj:=@List.mem_singleton
def Fk:=@decide_eq_false
def Fl:=@List.length_append
def Fm:=@PySem.Heap.get?_push_of_some
def Fn:=@List.size_toArray
def Fo:=@List.map_append
def Fq:=@PySem.Heap.lt_size
def Fs:=@Nat.lt_of_lt_of_le
def Ft:=@List.mem_cons
def Fu:=@PySem.wpAny_bind
def Fv:=@List.mem_append_right
def Fw:=@List.length_range
def Fy:=@List.mem_cons_self
def Fz:=@List.getElem?_append_right
def FA:=@PySem.F.plainAttrs_list
def FB:=@Nat.ne_of_lt
def FC:=@List.mem_iff_getElem?
def FD:=@List.getElem?_append_left
def FF:=@Bool.false_ne_true
def FG:=@Option.some.inj
def FH:=@List.mem_map
def FJ:=@List.mem_of_mem_erase
def FK:=@PySem.Heap.get?_push_size
def FL:=@List.mem_append
def FM:=@Nat.zero_le
def FN:=@PySem.boot_len
def FO:=@Nat.le_trans
def FP:=@List.map_map
def FQ:=@PySem.F.type_list_append
def FR:=@PySem.F.slot_list_append
def FS:=@List.getElem?_range
def FT:=@List.length_erase_of_mem
def FU:=@List.length_pos_of_mem
def FV:=@List.length_singleton
def FW:=@List.not_mem_nil
def FX:=@PySem.wpAny_pure
def FY:=@PySem.lookup_relabel_local
def FZ:=@Int.le_refl
def Ha:=@List.take_add_one
def Hb:=@List.sum_cons
def Hc:=@List.filter_cons
def Hd:=@List.append_nil
def He:=@List.mem_range
def Hf:=@List.mem_append_left
def Hg:=@List.getElem?_eq_none
def Hh:=@PySem.mem_of_lookup
def Hi:=@Nat.min_eq_left
def Hj:=@List.range_succ
def Hk:=@List.lookup_cons
def Hl:=@List.length_take
def Hm:=@List.nodup_cons
def Hn:=@Nat.lt_irrefl
def Ho:=@List.take_of_length_le
def Hq:=@List.length_drop
def Hr:=@List.getElem_mem
def Hs:=@PySem.wpAny_mono
def Ht:=@List.map_congr_left
def Hu:=@List.length_pos_iff
def Hv:=@PySem.wpAny_truthy_bool
def Hw:=@Option.isSome_iff_exists
def Hy:=@PySem.W.kia_one
def Hz:=@Nat.lt_succ_self
def HL:=@PySem.F.plain_min_loop
def HM:=@List.nodup_append
def HN:=@List.append_assoc
def HP:=@beq_eq_false_iff_ne
def HQ:=@List.sum_append
def HR:=@PySem.wpAny_Call_Name_kw
def HS:=@PySem.W.callWith_K
def HU:=@List.take_length
def HV:=@Int.emod_lt_of_pos
def HW:=@Int.emod_nonneg
def HX:=@PyProof.Rows.callWith_type1
def HY:=@Nat.lt_of_le_of_lt
def HZ:=@List.nodup_nil
def R0:=@List.ne_nil_of_mem
def R1:=@PySem.F.slot_dict_get
def R3:=@List.length_filter_le
def R5:=@Option.map_some
def R6:=@List.count_append
def R7:=@Nat.min_eq_right
def R8:=@List.filter_cons_of_pos
def R9:=@List.filter_cons_of_neg
def Ra:=@List.all_eq_true
def Rb:=@PySem.tupleKind_room_in1
def Rc:=@PySem.codeAny_mono
def Re:=@List.count_pos_iff
def Rf:=@PySem.wpAny_passesOwn
def Rg:=@List.mem_filter
def Rh:=@PySem.wpAny_holding
def Ri:=@List.getElem?_set
def Rj:=@Nat.le_succ
def Rk:=@List.perm_append_singleton
def Rl:=@Bool.and_eq_true
def Rn:=@PySem.W.plainGet_of
def Ro:=@PySem.F.type_list_remove
def Rp:=@PySem.F.slot_list_remove
def Rq:=@List.find?_cons
def Rr:=@List.filter_nil
def Rt:=@beq_iff_eq
def Ru:=@List.filter_append
def Rv:=@PySem.F.plainAttrs_dict
def Rx:=@List.length_eq_zero_iff
def Ry:=@PySem.wpAny_tryCatch
def Rz:=@PySem.F.entry_dict_get
def RA:=@List.take_succ
def RB:=@List.range_succ_eq_map
def RC:=@PySem.W.methodCall_KW
def RE:=@List.concat_eq_append
def RF:=@PySem.wpAny_call
def RG:=@List.Nodup.length_le_of_subset
def RH:=@List.any_cons
def RJ:=@List.length_erase_le
def RK:=@List.filter_map
def RL:=@Bool.eq_iff_iff
def RM:=@List.filterMap_cons
def RN:=@Array.length_toList
def RO:=@PySem.call_meetsIn
def RP:=@Nat.le_of_eq
def RQ:=@Int.le_trans
def RS:=@Nat.eq_zero_or_pos
def RT:=@List.erase_sublist
def RU:=@List.pairwise_iff_getElem
def RV:=@List.getElem?_zip_eq_some
def RW:=@PySem.wpAny_pyIter_list
def RX:=@Nat.lt_succ_of_lt
def RY:=@List.pairwise_map
def RZ:=@List.foldl_append
def J0:=@List.ext_getElem?
def J1:=@List.map_take
def J2:=@Nat.le_add_right
def J3:=@List.eraseIdx_cons_succ
def J4:=@List.any_eq_true
def J5:=@PySem.F.entry_min_loop
def J6:=@PySem.wpAny_execs_nil
def J7:=@List.of_mem_zip
def J8:=@List.length_set
def J9:=@Nat.le_zero
def Ja:=@List.mem_of_mem_take
def Jb:=@PySem.Heap.size_push
def Jc:=@PySem.Heap.SameBut.update
def Jd:=@PySem.plainId_quiet
def Je:=@List.zip_cons_cons
def Jf:=@PySem.wpAny_Call_method
def Jg:=@of_decide_eq_true
def Jh:=@Option.isSome_map
def Ji:=@Nat.le_of_lt
def Jj:=@List.filter_congr
def Jk:=@decide_eq_decide
def Jl:=@beq_self_eq_true
def Jm:=@Nat.le_of_not_lt
def Jn:=@PySem.wpAny_letGo
def Jo:=@Int.mul_add
def Jq:=@Int.add_mul
noncomputable section
open PySem PySem.Spec PyProof.Rows
namespace L2
abbrev Key:=Sum Int Str
def Oe:Key->Value->Bool
 | .inl k,v=>Value.isInt k v
 | .inr x,v=>Value.isStrOf x v
def Jd7(w:World):Key->Int
 | .inl k=>hashInt k
 | .inr x=>hashStr w x
theorem Cb:∀{k:Key}{v:Value},Oe k v=true->(∃i t,k=Sum.inl i/\v=Value.int i t)\/(∃x t,k=Sum.inr x/\v=Value.str x t)
 | .inl i,v,h=>by
  obtain⟨t,e⟩:=Value.isInt_shape (k:=i) (v:=v) h;exact .inl ⟨i,t,rfl,e⟩
 | .inr x,v,h=>by
  obtain⟨t,e⟩:=Value.isStrOf_shape (x:=x) (v:=v) h;exact .inr ⟨x,t,rfl,e⟩
theorem J0w(i:Int)(t:Tok):Oe (.inl i) (.int i t)=true:=by simp[Oe,Value.isInt]
theorem J0x(x:Str)(t:Tok):Oe (.inr x) (.str x t)=true:=by simp[Oe,Value.isStrOf]
theorem J9u(a b:Int):decide ((Sum.inl a:Key)=Sum.inl b)=(a==b):=by
 by_cases e:a=b
 . subst e;simp
 . have h:¬(Sum.inl a:Key)=Sum.inl b:=λq=>e (Sum.inl.inj q)
   rw[Fk h];exact(HP.mpr e).symm
theorem J9v(a b:Str):decide ((Sum.inr a:Key)=Sum.inr b)=decide (a=b):=by
 by_cases e:a=b
 . subst e;simp
 . have h:¬(Sum.inr a:Key)=Sum.inr b:=λq=>e (Sum.inr.inj q)
   rw[Fk h,Fk e]
theorem J9w(a:Int)(b:Str):decide ((Sum.inl a:Key)=Sum.inr b)=false:=Fk (λq=>nomatch q)
theorem J9x(a:Str)(b:Int):decide ((Sum.inr a:Key)=Sum.inl b)=false:=Fk (λq=>nomatch q)
def Be(prog:Program)(w:World):PySem.KeyKind prog w Key where
 is:=Oe
 hash:=Jd7 w
 inj:=λv a b ha hb=>by
  rcases Cb ha with ⟨i,t,rfl,rfl⟩ | ⟨x,t,rfl,rfl⟩
  . rcases Cb hb with ⟨j,u,rfl,e⟩ | ⟨y,u,rfl,e⟩
    . injection e with e1 _;rw[e1]
    . exact nomatch e
  . rcases Cb hb with ⟨j,u,rfl,e⟩ | ⟨y,u,rfl,e⟩
    . exact nomatch e
    . injection e with e1 _;rw[e1]
 byValue:=λk v h=>by
   rcases Cb h with ⟨i,t,rfl,rfl⟩ | ⟨x,t,rfl,rfl⟩ <;> rfl
 pyHash:=λhv h=>by
  rcases Cb hv with ⟨i,t,rfl,rfl⟩ | ⟨x,t,rfl,rfl⟩
  . exact wpAny_pyHash_int h
  . exact wpAny_pyHash_str h
 eqBool:=λhu hv h=>by
  rcases Cb hu with ⟨i,t,rfl,rfl⟩ | ⟨x,t,rfl,rfl⟩
  . rcases Cb hv with ⟨j,u,rfl,rfl⟩ | ⟨y,u,rfl,rfl⟩
    . rw[J9u]at h;exact wpAny_eqBool_int h
    . rw[J9w]at h;exact SeqAt.EqAt.int_str i t y u _ _ _ _ h
  . rcases Cb hv with ⟨j,u,rfl,rfl⟩ | ⟨y,u,rfl,rfl⟩
    . rw[J9x]at h;exact SeqAt.EqAt.str_int x t j u _ _ _ _ h
    . rw[J9v]at h;exact wpAny_eqBool_str h
 «strs»:=λk x t v h=>by
  rcases Cb h with ⟨i,u,rfl,e⟩ | ⟨y,u,rfl,e⟩
  . exact nomatch e
  . injection e with e1 _
    subst e1
    cases v <;> rfl
theorem Ua(prog:Program)(w:World)(i:Int)(t:Tok):(Be prog w).is (.inl i) (.int i t)=true:=J0w i t
theorem Ub(prog:Program)(w:World)(x:Str)(t:Tok):(Be prog w).is (.inr x) (.str x t)=true:=J0x x t
inductive V where
 | non | bl (b:Bool) | int (i:Int) | str (x:Str) | byt (b:Array UInt8) | flt (b:UInt64) | ref (a:Addr) | ty (n:String)
 deriving DecidableEq
def B1:V->Value->Prop
 | .non,u=>u=Value.none
 | .bl b,u=>u=Value.bool b
 | .int i,u=>∃t,u=Value.int i t
 | .str x,u=>∃t,u=Value.str x t
 | .byt b,u=>∃t,u=Value.bytes b t
 | .flt b,u=>∃t,u=Value.float b t
 | .ref a,u=>u=Value.ref a
 | .ty n,u=>u=Value.type n
abbrev B3:List V->List Value->Prop:=Paired B1
theorem B3.length{xs:List V}{us:List Value}(r:B3 xs us):xs.length=us.length:=Paired.length r
theorem B3.get:∀{xs:List V}{us:List Value}{i:Nat}{x:V},B3 xs us->xs[i]?=some x->∃u,us[i]?=some u/\B1 x u
 | _,_,_,_,.nil,e=>by simp at e
 | _,_,0,_,.cons r _,e=>by simp at e;subst e;exact⟨_,rfl,r⟩
 | _,_,i+1,x,.cons _ t,e=>by
  obtain⟨u,h1,h2⟩:=B3.get (i:=i) (x:=x) t (by simpa using e);exact⟨u,by simpa using h1,h2⟩
theorem B3.set{x:V}{u:Value}(r:B1 x u):∀{xs:List V}{us:List Value} (i:Nat),B3 xs us->B3 (xs.set i x) (us.set i u)
 | _,_,_,.nil=> .nil
 | _,_,0,.cons _ t=> .cons r t
 | _,_,i+1,.cons q t=> .cons q (B3.set r i t)
theorem B3.append:∀{xs ys:List V}{us ws:List Value},B3 xs us->B3 ys ws->B3 (xs++ys) (us++ws)
 | _,_,_,_,.nil,s=>s
 | _,_,_,_,.cons r t,s=> .cons r (B3.append t s)
theorem B3.take:∀{xs:List V}{us:List Value} (n:Nat),B3 xs us->B3 (xs.take n) (us.take n)
 | _,_,0,_=> .nil
 | _,_,_+1,.nil=> .nil
 | _,_,n+1,.cons r t=> .cons r (B3.take n t)
theorem B3.drop:∀{xs:List V}{us:List Value} (n:Nat),B3 xs us->B3 (xs.drop n) (us.drop n)
 | _,_,0,r=>r
 | _,_,_+1,.nil=> .nil
 | _,_,n+1,.cons _ t=>B3.drop n t
def Gh:Option V->Option Value->Prop
 | some v,some u=>B1 v u
 | none,none=>True
 | _,_=>False
def KV{κ:Type}:List (κ×V)->List (κ×Value)->Prop:=Paired λ(p:κ×V) (q:κ×Value)=>p.1=q.1/\B1 p.2 q.2
def kV:Key->V
 | .inl i=> .int i
 | .inr x=> .str x
inductive HO where
 | lst (xs:List V)
 | tup (xs:List V)
 | dK (kvs:List (Key×V)) | dT (kvs:List (List Key×V))
 | set (S:Int->Bool) (n:Nat)
 | ins (C dx:Addr) (fs:List (Str×V))
 | own (x:Addr)
 | xd (fs:List (Str×V))
 | met (f x:Addr)
 | rng (lo hi:Int)
 | frz (o:Obj) (u:HO)
 | tbl (ps:Array Value)
 | ext (φ:Heap->Prop)
abbrev Hp:=Addr->Option HO
def upd(H:Hp)(a:Addr)(o:HO):Hp:=λb=>if b=a then some o else H b
theorem A1{H:Hp}{a:Addr}{o:HO}:upd H a o a=some o:=by unfold upd;rw[if_pos rfl]
theorem A2{H:Hp}{a b:Addr}{o:HO}(h:b≠a):upd H a o b=H b:=by unfold upd;rw[if_neg h]
theorem Sw{H:Hp}{a:Addr}{o u:HO}:upd (upd H a o) a u=upd H a u:=by
 funext b;unfold upd;split <;> rfl
theorem Bt{H:Hp}{a b:Addr}{o u:HO}(h:H a=some o)(h':H b=some u)(d:o≠u):a≠b:=by
 intro e;subst e;rw[h]at h';exact d (FG h')
theorem Ac{H:Hp}{a b:Addr}{o:HO}(h:H a=some o)(h':H b=none):a≠b:=by
 intro e;subst e;rw[h]at h';cases h'
section
variable (P:Program) (w:World)
def Bu(H:Hp)(h:Heap)(a:Addr):HO->Prop
 | .lst xs=>xs.length<=sizeLine/\∃(its:List Value) (n:Nat),B3 xs its/\h.get? a=some {cls:= .type "list",data:= .seq its.toArray n}
 | .tup xs=>xs.length<=sizeLine/\∃its:List Value,B3 xs its/\IsTup h a its.toArray
 | .dK kvs=>kvs.length<=sizeLine/\(a==sysModules)=false/\∃vs,KV kvs vs/\h.DictOf (Be P w) a vs
 | .dT kvs=>kvs.length<=sizeLine/\(a==sysModules)=false/\∃xs:List (List Key×Addr×Value),
  Paired (λ(p:List Key×V) (q:List Key×Addr×Value)=>p.1=q.1/\H q.2.1=some (.tup (p.1.map kV))/\B1 p.2 q.2.2) kvs xs/\
  ∃o es ep,h.get? a=some o/\o.ExactDict/\o.data= .dict es ep/\es.toList=xs.map (entryOfKey (tupleKind (Be P w)))/\(xs.map (·.1)).Nodup
 | .set S n=>h.SetOf (intKind P w) a S n
 | .ins C dx fs=>H dx=some (.own a)/\fs.length<=1000/\dx≠a/\h.get? a=some (PySem.W.instObj C dx)/\
  ∃mA,h.Ns1 dx mA/\(∀f,Gh (fs.lookup f) (mA f))/\PySem.Within mA (fs.map (·.1))
 | .own _=>∃o,h.get? a=some o
 | .xd fs=>∃mA,h.Ns1 a mA/\∀f,Gh (fs.lookup f) (mA f)
 | .rng lo hi=>∃t u v,h.get? a=some {cls:= .type "range",data:= .fields #[.int lo t,.int hi u,.int 1 v]}
 | .frz o u=>h.get? a=some o/\Bu H h a u
 | .tbl ps=>h.get? a=some {cls:= .none,data:= .fields ps}
 | .met f x=>h.get? a=some (PySem.W.methodObj (.ref f) (.ref x))
 | .ext φ=>φ h/\(∃o,h.get? a=some o)/\∀h1 h2:Heap,φ h1->(∀o,h1.get? a=some o->h2.get? a=some o)->φ h2
def HOk(H:Hp)(h:Heap):Prop:=∀a o,H a=some o->Bu P w H h a o
end
section
variable {P:Program}{w:World}{H H':Hp}{h h':Heap}{a:Addr}{o:HO}
theorem Bu.lt(x:Bu P w H h a o):a < h.objs.size:=by
 cases o with
 | lst xs=>obtain⟨_,_,_,_,e⟩:=x;exact Fq e
 | tup xs=>obtain⟨_,_,_,p⟩:=x;exact p.lt
 | dK kvs=>obtain⟨_,_,_,_,o,_,_,e,_⟩:=x;exact Fq e
 | dT kvs=>obtain⟨_,_,_,_,o,_,_,e,_⟩:=x;exact Fq e
 | set S n=>obtain⟨o,_,_,_,e,_⟩:=x;exact Fq e
 | ins C dx fs=>obtain⟨_,_,_,e,_⟩:=x;exact Fq e
 | own y=>obtain⟨_,e⟩:=x;exact Fq e
 | xd fs=>obtain⟨_,⟨_,_,_,e,_⟩,_⟩:=x;exact Fq e
 | rng lo hi=>obtain⟨_,_,_,e⟩:=x;exact Fq e
 | frz ob u=>obtain⟨e,_⟩:=x;exact Fq e
 | tbl ps=>exact Fq (show h.get? a=some _ from x)
 | met f y=>exact Fq (show h.get? a=some _ from x)
 | ext φ=>obtain⟨_,⟨_,e⟩,_⟩:=x;exact Fq e
theorem Paired.mapP{α β:Type}{F G:α->β->Prop}:∀{l₁:List α}{l₂:List β},Paired F l₁ l₂->(∀a b,F a b->G a b)->Paired G l₁ l₂
 | _,_,.nil,_=> .nil
 | _,_,.cons r t,f=> .cons (f _ _ r) (Paired.mapP t f)
theorem Bu.stay(x:Bu P w H h a o)(k:∀b u,(b=a\/H b=some (.own a))->h.get? b=some u->h'.get? b=some u)
 (ho:∀b,H b=some (.own a)->H' b=some (.own a)) (ht:∀b xs,H b=some (.tup xs)->H' b=some (.tup xs)):Bu P w H' h' a o:=by
 induction o with
 | lst xs=>obtain⟨z,its,n,r,e⟩:=x;exact⟨z,its,n,r,k _ _ (.inl rfl) e⟩
 | tup xs=>obtain⟨z,its,r,ob,e,c⟩:=x;exact⟨z,its,r,ob,k _ _ (.inl rfl) e,c⟩
 | dK kvs=>obtain⟨z,y,vs,r,ob,es,ep,e,c⟩:=x;exact⟨z,y,vs,r,ob,es,ep,k _ _ (.inl rfl) e,c⟩
 | dT kvs=>
  obtain⟨z,y,xs,r,ob,es,ep,e,c⟩:=x;exact⟨z,y,xs,Paired.mapP r λp q z=>⟨z.1,ht _ _ z.2.1,z.2.2⟩,ob,es,ep,k _ _ (.inl rfl) e,c⟩
 | set S n=>obtain⟨ob,es,ep,t,e,c⟩:=x;exact⟨ob,es,ep,t,k _ _ (.inl rfl) e,c⟩
 | ins C dx fs=>
  obtain⟨d,z,ne,e,mA,⟨od,es,ep,e2,c⟩,r⟩:=x;exact⟨ho _ d,z,ne,k _ _ (.inl rfl) e,mA,⟨od,es,ep,k _ _ (.inr d) e2,c⟩,r⟩
 | own y=>obtain⟨ob,e⟩:=x;exact⟨ob,k _ _ (.inl rfl) e⟩
 | xd fs=>obtain⟨mA,⟨od,es,ep,e,c⟩,r⟩:=x;exact⟨mA,⟨od,es,ep,k _ _ (.inl rfl) e,c⟩,r⟩
 | rng lo hi=>obtain⟨t,u,v,e⟩:=x;exact⟨t,u,v,k _ _ (.inl rfl) e⟩
 | frz ob u ih=>obtain⟨e,q⟩:=x;exact⟨k _ _ (.inl rfl) e,ih q⟩
 | tbl ps=>
  have e:h.get? a=some {cls:= .none,data:= .fields ps}:=x;show h'.get? a=some {cls:= .none,data:= .fields ps};exact k a _ (.inl rfl) e
 | met f y=>
  have e:h.get? a=some (PySem.W.methodObj (.ref f) (.ref y)):=x;show h'.get? a=some (PySem.W.methodObj (.ref f) (.ref y));exact k a _ (.inl rfl) e
 | ext φ=>obtain⟨p,⟨o,e⟩,st⟩:=x;exact⟨st _ _ p λo q=>k _ _ (.inl rfl) q,⟨o,k _ _ (.inl rfl) e⟩,st⟩
theorem HOk.lt(x:HOk P w H h)(e:H a=some o):a < h.objs.size:=(x a o e).lt
theorem HOk.fresh(x:HOk P w H h)(e:h.objs.size<=a):H a=none:=by
 cases q:H a with
 | none=>rfl
 | some u=>exact absurd (Fs (x.lt q) e) (Hn _)
theorem HOk.kept(x:HOk P w H h)(k:∀b u,h.get? b=some u->h'.get? b=some u):HOk P w H h':=λa o e=>
 (x a o e).stay (λb u _ q=>k b u q) (λ_ q=>q) λ_ _ q=>q
theorem HOk.laid(x:HOk P w H h)(k:∀b u,h.get? b=some u->h'.get? b=some u)(hp:h.objs.size<=a)(new:Bu P w (upd H a o) h' a o):HOk P w (upd H a o) h':=λb u e=>by
 have hn:=x.fresh hp
 by_cases hb:b=a
 . subst hb;rw[A1]at e;cases e;exact new
 . rw[A2 hb]at e
   exact(x b u e).stay (λc v _ q=>k c v q) (λc q=>by rw[A2 (Ac q hn)];exact q) λc xs q=>by rw[A2 (Ac q hn)];exact q
end
def Rd(H:Hp)(a:Addr)(u:HO):Prop:=H a=some u\/∃o,H a=some (.frz o u)
theorem Rd.ok{P:Program}{w:World}{H:Hp}{h:Heap}{a:Addr}{u:HO}(r:Rd H a u)(x:HOk P w H h):Bu P w H h a u:=by
 rcases r with r | ⟨o,r⟩
 . exact x a u r
 . obtain⟨_,q⟩:=x a _ r
   exact q
def Mut:Option HO->Prop
 | some (.lst _)=>True
 | some (.dK _)=>True
 | some (.dT _)=>True
 | some (.set _ _)=>True
 | some (.ins _ _ _)=>True
 | some (.ext _)=>True
 | _=>False
section
variable {P:Program}{w:World}{H:Hp}{h h':Heap}{x e:Addr}{o':HO}
theorem HOk.write(ok:HOk P w H h)(mu:Mut (H x))(he:e=x\/H e=some (.own x))(k:∀b u,b≠e->h.get? b=some u->h'.get? b=some u)(heo:∃u,h'.get? e=some u)
 (new:Bu P w (upd H x o') h' x o'):HOk P w (upd H x o') h':=λb u q=>by
 have nown:∀c y,H c=some (.own y)->c≠x:=λc y r z=>by subst z;rw[r]at mu;exact mu
 have ntup:∀c xs,H c=some (.tup xs)->c≠x:=λc xs r z=>by subst z;rw[r]at mu;exact mu
 by_cases hb:b=x
 . subst hb;rw[A1]at q;cases q;exact new
 . rw[A2 hb]at q
   by_cases hbe:b=e
   . have q':H b=some (.own x):=by
      rcases he with z | z
      . exact absurd (hbe.trans z) hb
      . rw[hbe];exact z
     rw[q]at q';cases q';obtain⟨v,hv⟩:=heo;exact⟨v,by rw[hbe];exact hv⟩
   . refine(ok b u q).stay (λc v hc r=>k c v ?_ r) (λc r=>by rw[A2 (nown c b r)];exact r) λc xs r=>by rw[A2 (ntup c xs r)];exact r
     rcases hc with rfl | hc
     . exact hbe
     . rintro rfl
       rcases he with z | z
       . exact nown c b hc z
       . rw[hc]at z;cases z;exact hb rfl
end
structure Un(fs ex:List Addr)(H H':Hp)(h h':Heap):Prop where
 keep:∀b o,h.get? b=some o->H b=none->b∉fs->b∉ex->h'.get? b=some o
 slot:∀b o,h.get? b=some o->H b=none->b∈fs->b∉ex->∃sl,h'.get? b=some {o with slots:=sl}
 free:∀b o,h.get? b=some o->H b=none->b∉ex->H' b=none
 there:∀b o,h.get? b=some o->b∉ex->∃o',h'.get? b=some o'
 tups:∀b xs,H b=some (.tup xs)->H' b=some (.tup xs)
 frzs:∀b o u,H b=some (.frz o u)->H' b=some (.frz o u)
 tbls:∀b ps,H b=some (.tbl ps)->∃more,H' b=some (.tbl (ps++more))
section
variable {fs fs' ex ex':List Addr}{H H1 H2:Hp}{h h1 h2 h':Heap}{a x e:Addr}{o:HO}
theorem Un.any(u:Un fs ex H H1 h h1){b:Addr}{ob:Obj}(q:h.get? b=some ob)(n:H b=none)(hx:b∉ex):∃sl,h1.get? b=some {ob with slots:=sl}:=by
 by_cases hb:b∈fs
 . exact u.slot b ob q n hb hx
 . exact⟨ob.slots,u.keep b ob q n hb hx⟩
theorem Un.kept(k:∀b u,h.get? b=some u->h'.get? b=some u):Un fs ex H H h h':=
 ⟨λb ob q _ _ _=>k b ob q,λb ob q _ _ _=>⟨ob.slots,k b ob q⟩,λ_ _ _ n _=>n,λb ob q _=>⟨ob,k b ob q⟩,λ_ _ q=>q,λ_ _ _ q=>q,λ_ ps q=>⟨#[],by rw[q];simp⟩⟩
theorem Un.refl:Un fs ex H H h h:=Un.kept λ_ _ q=>q
theorem Un.laid(k:∀b u,h.get? b=some u->h'.get? b=some u)(hp:h.objs.size<=a)(hn:H a=none):Un fs ex H (upd H a o) h h' where
 keep:=λb u q _ _ _=>k b u q
 slot:=λb u q _ _ _=>⟨u.slots,k b u q⟩
 free:=λb u q n _=>by rw[A2 (FB (Fs (Fq q) hp))];exact n
 there:=λb u q _=>⟨u,k b u q⟩
 tups:=λb xs q=>by rw[A2 (Ac q hn)];exact q
 frzs:=λb u xs q=>by rw[A2 (Ac q hn)];exact q
 tbls:=λb ps q=>⟨#[],by rw[A2 (Ac q hn),q];simp⟩
theorem Un.write(mu:Mut (H x))(he:e=x\/H e=some (.own x))(k:∀b u,b≠e->h.get? b=some u->h'.get? b=some u)(heo:∃u,h'.get? e=some u):Un fs ex H (upd H x o) h h':=by
 have hx:∀b,H b=none->b≠x:=λb n z=>by subst z;rw[n]at mu;exact mu
 have hb:∀b,H b=none->b≠e:=λb n z=>by
  subst z;rcases he with r | r
  . exact hx b n r
  . rw[n]at r;cases r
 have hm:∀b u,H b=some u->¬Mut (some u)->b≠x:=λb u q nm z=>by subst z;rw[q]at mu;exact nm mu
 refine⟨λb u q n _ _=>k b u (hb b n) q,λb u q n _ _=>⟨u.slots,k b u (hb b n) q⟩,λb u q n _=>by rw[A2 (hx b n)];exact n,λb u q _=>?_,
  λb xs q=>by rw[A2 (hm b _ q λz=>z)];exact q,λb u xs q=>by rw[A2 (hm b _ q λz=>z)];exact q,λb ps q=>⟨#[],by rw[A2 (hm b _ q λz=>z),q];simp⟩⟩
 by_cases hbe:b=e
 . subst hbe;exact heo
 . exact⟨u,k b u hbe q⟩
end
def trk(h:Heap)(H:Hp):List Addr:=(List.range h.objs.size).filter λa=>(H a).isSome
def Sx(h:Heap)(H:Hp):Heap:=PySem.W.hideAll h (trk h H)
theorem J0y(h:Heap)(H:Hp):(Sx h H).objs.size=h.objs.size:=PySem.W.hideAll_size _ _
theorem Pd{h:Heap}{H:Hp}{b:Addr}{o:Obj}(e:h.get? b=some o)(n:H b=none):(Sx h H).get? b=some o:=
 PySem.W.hideAll_get _ e λhm=>by
  have q:(H b).isSome=true:=(Rg.mp hm).2;rw[n]at q;simp at q
theorem J6x{h:Heap}{H:Hp}{b:Addr}{o:Obj}(e:(Sx h H).get? b=some o):h.get? b=some o/\H b=none:=by
 have e':h.get? b=some o:=PySem.W.of_hideAll (trk h H) e;refine⟨e',?_⟩
 cases q:H b with
 | none=>rfl
 | some x=>
  have hm:b∈trk h H:=Rg.mpr ⟨He.mpr (Fq e'),by simp[q]⟩;have z:(Sx h H).get? b=none:=PySem.W.hideAll_none (trk h H) hm;rw[z]at e;cases e
def J6y(g h:Heap)(L:Addr):List (Addr×Obj):=(List.range h.objs.size).filterMap λa=>if a=L\/(g.get? a).isSome=true then none else (h.get? a).map λo=>(a,o)
def rest(g h:Heap)(L d:Addr):List (Addr×Obj):=(J6y g h L).filter λp=>decide (p.1≠d)
structure Mod(K:PySem.W.Frag)(mg:Str->Option Value)(base:Heap):Prop where
 kin:K.In base
 glob:base.Ns mainGlobals mg
 blt:∃mb,base.Ns builtinsNs mb/\∀x:Str,x≠"__name__"->mb x=bootBuiltins x
 nolimit:base.NoLimit
structure Cx where
 prog:Program
 w:World
 K:PySem.W.Frag
 mg:Str->Option Value
 base:Heap
 A:Around
 N:List Str
 s₀:Shared
 H₀:Hp
 env:Env
 outer:List Env
 stack:List Env
 ex:List Addr
 fn:Str->Bool
 calm:Bool
 pn:List (Addr×Obj)
 xe:Value->Shared->Prop
def frs(l:List Env):List Addr:=l.filterMap (·.frame)
abbrev Cx.fs(X:Cx):List Addr:=frs X.outer
def Vis(sc:Scope)(x:Str):Prop:=sc.names.lookup x=some .local\/sc.names.lookup x=some .cell\/sc.names.lookup x=some .free
def Loc(sc:Scope)(x:Str):Prop:=sc.names.lookup x=some .local\/sc.names.lookup x=some .cell
def Jd8(env:Env)(h:Heap)(m:Str->Option Value)(x:Str)(u:Value):Prop:=
 (env.kindOf x=some .local/\m x=some u)\/((env.kindOf x=some .cell\/env.kindOf x=some .free)/\∃c,env.cells.lookup x=some c/\h.IsCell c (some u))
structure Cx.Ok(X:Cx):Prop where
 mod:Mod X.K X.mg X.base
 kind:X.env.scope.kind= .function
 glob:X.env.globals=mainGlobals
 blt:X.env.builtins=builtinsNs
 above:X.s₀.heap.objs.size<=X.env.locals
 inj:∀x y c,X.env.cells.lookup x=some c->X.env.cells.lookup y=some c->x=y
 has:∀x,(X.env.kindOf x=some .cell\/X.env.kindOf x=some .free)->∃c,X.env.cells.lookup x=some c
 cab:∀x c,X.fn x=true->X.env.cells.lookup x=some c->X.s₀.heap.objs.size<=c
 hd:X.calm=true->X.A.handled=none
 frames:X.A.frames=some X.stack
 stk:X.stack=X.outer\/(X.stack=X.env::X.outer/\X.env.frame=some X.env.locals)
 exf:∀b∈X.ex,b≠X.env.locals/\∀x c,X.env.cells.lookup x=some c->c≠b
 bs:∀b o,X.base.get? b=some o->X.s₀.heap.get? b=some o/\X.H₀ b=none
 bsz:X.base.objs.size<=X.s₀.heap.objs.size
 noex:∀b o,X.base.get? b=some o->b∉X.ex
 exfs:∀b∈X.ex,b∉X.fs
 funs:X.s₀.heap.FunFrames X.base X.outer
 frf:∀b∈X.fs,X.H₀ b=none
structure Inv(X:Cx)(pins:List (Addr×Obj))(σ:List (Option V))(H:Hp)(s:Shared):Prop where
 ok:X.Ok
 os:s.os=X.s₀.os
 bare:AllBare s.gens
 base:Un X.fs X.ex X.H₀ H X.s₀.heap s.heap
 loc:∃m,s.heap.Ns X.env.locals m/\∀(i:Nat) (x:Str) (v:V),X.N[i]?=some x->σ[i]?=some (some v)->Vis X.env.scope x->∃u,B1 v u/\Jd8 X.env s.heap m x u
 cell:∀x c,X.env.cells.lookup x=some c->∃v,s.heap.IsCell c v
 free:H X.env.locals=none
 freeC:∀x c,X.env.cells.lookup x=some c->H c=none
 pin:∀p∈X.pn++pins,s.heap.get? p.1=some p.2/\H p.1=none/\p.1≠X.env.locals/\p.1∉X.fs/\∀v,p.2.data≠ .cell v
 hok:HOk X.prog X.w H s.heap
 len:σ.length=X.N.length
section
variable {X:Cx}{pins:List (Addr×Obj)}{σ:List (Option V)}{H H':Hp}{s:Shared}{h':Heap}
theorem Cx.Ok.nofr(ok:X.Ok){b:Addr}{o:Obj}(e:X.base.get? b=some o):b∉X.fs:=λhb=>by
 have:=(ok.funs.mem hb).1;rw[e]at this;cases this
theorem Inv.bs(I:Inv X pins σ H s):∀b o,X.base.get? b=some o->s.heap.get? b=some o/\H b=none:=λb o e=>
 ⟨I.base.keep b o (I.ok.bs b o e).1 (I.ok.bs b o e).2 (I.ok.nofr e) (I.ok.noex b o e),I.base.free b o (I.ok.bs b o e).1 (I.ok.bs b o e).2 (I.ok.noex b o e)⟩
theorem Inv.bk(I:Inv X pins σ H s):∀b o,X.base.get? b=some o->s.heap.get? b=some o:=λb o e=>(I.bs b o e).1
theorem Inv.mod(I:Inv X pins σ H s):Mod X.K X.mg X.base:=I.ok.mod
theorem Inv.kIn(I:Inv X pins σ H s):X.K.In s.heap:=I.ok.mod.kin.keeps I.bk
theorem Inv.lt(I:Inv X pins σ H s):X.env.locals < s.heap.objs.size:=let ⟨_,hn,_⟩:=I.loc;hn.lt
theorem Inv.sz(I:Inv X pins σ H s):X.s₀.heap.objs.size<=s.heap.objs.size:=FO I.ok.above (Ji I.lt)
theorem Inv.nofs(I:Inv X pins σ H s){a:Addr}(h:s.heap.objs.size<=a):a∉X.fs:=λhb=>by
 obtain⟨_,o,ho,_⟩:=I.ok.funs.mem hb;exact absurd (Fs (Fq ho) (FO I.sz h)) (Hn _)
theorem Inv.cne(I:Inv X pins σ H s):∀x c,X.env.cells.lookup x=some c->c≠X.env.locals:=λx c e z=>by
 obtain⟨v,o,ho,hd⟩:=I.cell x c e;obtain⟨m,⟨o',es,ep,ho',hd',_⟩,_⟩:=I.loc;rw[z,ho']at ho;cases ho;rw[hd']at hd;cases hd
theorem Inv.funs(I:Inv X pins σ H s):s.heap.FunFrames X.base X.outer:=by
 have all:∀(l:List Env),(∀b∈frs l,b∈X.fs)->X.s₀.heap.FunFrames X.base l->s.heap.FunFrames X.base l:=by
  intro l
  induction l with
  | nil=>intro _ _;trivial
  | cons env r ih=>
   intro hs hl;obtain⟨hk,⟨L,o,hf,hn,ho,hd⟩,hr⟩:=hl;have hL:L∈X.fs:=hs L (by unfold frs;rw[RM,hf];exact Fy);obtain⟨sl,e⟩:=I.base.slot L o ho (I.ok.frf L hL) hL λz=>I.ok.exfs L z hL;exact⟨hk,⟨L,_,hf,hn,e,hd⟩,ih (λb hb=>hs b (by unfold frs;rw[RM,hf];exact Fh _ hb)) hr⟩
 exact all X.outer (λ_ hb=>hb) I.ok.funs
theorem Inv.stack(I:Inv X pins σ H s):s.heap.FunFrames X.base X.stack:=by
 rcases I.ok.stk with e | ⟨e,hf⟩
 . rw[e];exact I.funs
 . rw[e]
   obtain⟨m,hn,_⟩:=I.loc;refine .cons (by rw[I.ok.kind];decide) hf hn ?_ I.funs;exact Heap.get?_none_of_le (FO I.ok.bsz I.ok.above)
theorem Inv.stkSub(I:Inv X pins σ H s):∀b∈frs X.stack,b∈X.env.locals::X.fs:=λb hb=>by
 rcases I.ok.stk with e | ⟨e,hf⟩
 . rw[e]at hb;exact Fh _ hb
 . rw[e]at hb
   unfold frs at hb;rw[RM,hf]at hb;exact hb
theorem Inv.stkFree(I:Inv X pins σ H s):∀b∈frs X.stack,H b=none:=λb hb=>by
 rcases Ft.mp (I.stkSub b hb) with e | hb
 . rw[e];exact I.free
 . obtain⟨_,o,ho,_⟩:=I.ok.funs.mem hb
   exact I.base.free b o ho (I.ok.frf b hb) λz=>I.ok.exfs b z hb
theorem Inv.step{g':Array GenState}{t':Nat}{d':Drawn}{ch:List Addr}(I:Inv X pins σ H s)
 (hch:∀b∈ch,(b∈X.ex\/X.s₀.heap.objs.size<=b)/\b≠X.env.locals/\(∀x c,X.env.cells.lookup x=some c->c≠b)/\∀p∈X.pn++pins,p.1≠b)
 (keep:∀b o,b≠X.env.locals->b∉X.fs->b∉ch->s.heap.get? b=some o->H b=none->h'.get? b=some o)
 (slot:∀b o,b≠X.env.locals->b∈X.fs->b∉ch->s.heap.get? b=some o->H b=none->∃sl,h'.get? b=some {o with slots:=sl}) (free:∀b o,b∉ch->s.heap.get? b=some o->H b=none->H' b=none)
 (there:∀b o,b∉ch->s.heap.get? b=some o->∃o',h'.get? b=some o')
 (tups:∀b xs,H b=some (.tup xs)->H' b=some (.tup xs)) (frzs:∀b o u,H b=some (.frz o u)->H' b=some (.frz o u)) (tbls:∀b ps,H b=some (.tbl ps)->∃more,H' b=some (.tbl (ps++more)))
 (ns:∀m,s.heap.Ns X.env.locals m->h'.Ns X.env.locals m) (hok:HOk X.prog X.w H' h') (hg:AllBare g'):
 Inv X pins σ H' {s with heap:=h',gens:=g',drawn:=d',toks:=t'}:=by
 have neL:∀b o,X.s₀.heap.get? b=some o->b≠X.env.locals:=λb o e=>FB (Fs (Fq e) I.ok.above)
 have neC:∀b o,X.s₀.heap.get? b=some o->b∉X.ex->b∉ch:=λb o e hx hb=>by
  rcases(hch b hb).1 with z | z
  . exact hx z
  . exact absurd (Fs (Fq e) z) (Hn _)
 have cellK:∀x c,X.env.cells.lookup x=some c->∀v,s.heap.IsCell c v->h'.IsCell c v:=λx c e v ⟨o,ho,hd⟩=>by
  have nch:c∉ch:=λz=>(hch c z).2.2.1 x c e rfl
  by_cases hc:c∈X.fs
  . obtain⟨sl,q⟩:=slot c o (I.cne x c e) hc nch ho (I.freeC x c e)
    exact⟨_,q,hd⟩
  . exact⟨o,keep c o (I.cne x c e) hc nch ho (I.freeC x c e),hd⟩
 refine⟨I.ok,I.os,hg,⟨λb o e n hb hx=>?_,λb o e n hb hx=>?_,λb o e n hx=>?_,λb o e hx=>?_,λb xs e=>tups b xs (I.base.tups b xs e),λb o xs e=>frzs b o xs (I.base.frzs b o xs e),λb ps e=>?_⟩,?_,λx c e=>?_,?_,λx c e=>?_,λp hp=>?_,hok,I.len⟩
 . exact keep b o (neL b o e) hb (neC b o e hx) (I.base.keep b o e n hb hx) (I.base.free b o e n hx)
 . obtain⟨sl,e1⟩:=I.base.slot b o e n hb hx
   obtain⟨sl',e2⟩:=slot b _ (neL b o e) hb (neC b o e hx) e1 (I.base.free b o e n hx);exact⟨sl',e2⟩
 . obtain⟨o',e1⟩:=I.base.there b o e hx
   exact free b o' (neC b o e hx) e1 (I.base.free b o e n hx)
 . obtain⟨o',e1⟩:=I.base.there b o e hx
   exact there b o' (neC b o e hx) e1
 . obtain⟨m1,e1⟩:=I.base.tbls b ps e
   obtain⟨m2,e2⟩:=tbls b _ e1;exact⟨m1++m2,by rw[e2,Array.append_assoc]⟩
 . obtain⟨m,hn,hl⟩:=I.loc
   refine⟨m,ns m hn,λi x v e1 e2 e3=>?_⟩;obtain⟨u,r,l⟩:=hl i x v e1 e2 e3;refine⟨u,r,?_⟩;rcases l with l | ⟨k,c,e,z⟩
   . exact .inl l
   . exact .inr ⟨k,c,e,cellK x c e _ z⟩
 . obtain⟨v,z⟩:=I.cell x c e
   exact⟨v,cellK x c e v z⟩
 . obtain⟨m,⟨o,_,_,ho,_⟩,_⟩:=I.loc
   exact free _ o (λz=>(hch _ z).2.1 rfl) ho I.free
 . obtain⟨v,o,ho,hd⟩:=I.cell x c e
   exact free c o (λz=>(hch c z).2.2.1 x c e rfl) ho (I.freeC x c e)
 . obtain⟨e,n,ne,nf,d⟩:=I.pin p hp
   have nch:p.1∉ch:=λz=>(hch p.1 z).2.2.2 p hp rfl;exact⟨keep p.1 p.2 ne nf nch e n,free p.1 p.2 nch e n,ne,nf,d⟩
theorem Inv.un{t':Nat}(I:Inv X pins σ H s)(u:Un X.fs [] H H' s.heap h')(hok:HOk X.prog X.w H' h'):Inv X pins σ H' {s with heap:=h',toks:=t'}:=by
 obtain⟨m,⟨o,es,ep,ho,r⟩,_⟩:=id I.loc;obtain⟨sl,hL⟩:=u.any ho I.free (by simp)
 exact I.step (g':=s.gens) (d':=s.drawn) (ch:=[]) (λ_ z=>nomatch z) (λb o _ hb _ e n=>u.keep b o e n hb (by simp)) (λb o _ hb _ e n=>u.slot b o e n hb (by simp)) (λb o _ e n=>u.free b o e n (by simp)) (λb o _ e=>u.there b o e (by simp)) u.tups u.frzs u.tbls (λm' hm=>by
  obtain⟨o',es',ep',ho',r'⟩:=hm;rw[ho]at ho';cases ho'
  exact⟨_,es',ep',hL,r'⟩) hok I.bare
theorem Inv.call{g':Array GenState}{t':Nat}{d':Drawn}{ch:List Addr}(I:Inv X pins σ H s)(u:Un (frs X.stack) ch H H' s.heap h')(hok:HOk X.prog X.w H' h')(hg:AllBare g')
 (hch:∀b∈ch,(b∈X.ex\/X.s₀.heap.objs.size<=b)/\b≠X.env.locals/\(∀x c,X.env.cells.lookup x=some c->c≠b)/\∀p∈X.pn++pins,p.1≠b):
 Inv X pins σ H' {s with heap:=h',gens:=g',drawn:=d',toks:=t'}:=by
 obtain⟨m,⟨o,es,ep,ho,r⟩,_⟩:=id I.loc;obtain⟨sl,hL⟩:=u.any ho I.free λz=>(hch _ z).2.1 rfl
 exact I.step (ch:=ch) hch (λb o hL hb hc e n=>u.keep b o e n (λz=>(Ft.mp (I.stkSub b z)).elim hL hb) hc) (λb o _ _ hc e n=>u.any e n hc) (λb o hc e n=>u.free b o e n hc) (λb o hc e=>u.there b o e hc) u.tups u.frzs u.tbls (λm' hm=>by
  obtain⟨o',es',ep',ho',r'⟩:=hm;rw[ho]at ho';cases ho'
  exact⟨_,es',ep',hL,r'⟩) hok hg
theorem Inv.turned{t':Nat}{it:Addr}(I:Inv X pins σ H s)(k:∀b o,b≠it->s.heap.get? b=some o->h'.get? b=some o)(hn:H it=none)(hL:it≠X.env.locals)
 (h1:it∈X.ex\/X.s₀.heap.objs.size<=it) (h2:∀x c,X.env.cells.lookup x=some c->c≠it) (h3:∀p∈X.pn++pins,p.1≠it):Inv X pins σ H {s with heap:=h',toks:=t'}:=by
 have nit:∀b u,H b=some u->b≠it:=λb u e z=>by rw[z,hn]at e;cases e
 refine I.step (g':=s.gens) (d':=s.drawn) (ch:=[it]) (λb hb=>?_) (λb o _ _ hc e _=>k b o (λz=>hc (by simp[z])) e) (λb o _ _ hc e _=>⟨o.slots,k b o (λz=>hc (by simp[z])) e⟩) (λ_ _ _ _ n=>n)
  (λb o hc e=>⟨o,k b o (λz=>hc (by simp[z])) e⟩) (λ_ _ e=>e) (λ_ _ _ e=>e) (λb ps e=>⟨#[],by rw[e];simp⟩) (λm hm=>?_) (λb u e=>?_) I.bare
 . have e:b=it:=by simpa using hb
   subst e;exact⟨h1,hL,h2,h3⟩
 . obtain⟨o,es,ep,ho,r⟩:=hm
   exact⟨o,es,ep,k _ o (Ne.symm hL) ho,r⟩
 . refine(I.hok b u e).stay (λc v hc q=>k c v ?_ q) (λ_ q=>q) λ_ _ q=>q
   rcases hc with z | z
   . rw[z];exact nit b u e
   . exact nit c _ z
theorem Inv.tok(I:Inv X pins σ H s)(t:Nat):Inv X pins σ H {s with toks:=t}:=I.un (h':=s.heap) (t':=t) Un.refl I.hok
theorem Inv.kept{t':Nat}(I:Inv X pins σ H s)(k:∀b u,s.heap.get? b=some u->h'.get? b=some u):Inv X pins σ H {s with heap:=h',toks:=t'}:=I.un (Un.kept k) (I.hok.kept k)
theorem Inv.laid{a:Addr}{o:HO}{t':Nat}(I:Inv X pins σ H s)(k:∀b u,s.heap.get? b=some u->h'.get? b=some u)(hp:s.heap.objs.size<=a)(new:Bu X.prog X.w (upd H a o) h' a o):
 Inv X pins σ (upd H a o) {s with heap:=h',toks:=t'}:=I.un (Un.laid k hp (I.hok.fresh hp)) (I.hok.laid k hp new)
theorem Inv.write{x e:Addr}{o:HO}{t':Nat}(I:Inv X pins σ H s)(mu:Mut (H x))(he:e=x\/H e=some (.own x))(k:∀b u,b≠e->s.heap.get? b=some u->h'.get? b=some u)(heo:∃u,h'.get? e=some u)
 (new:Bu X.prog X.w (upd H x o) h' x o):Inv X pins σ (upd H x o) {s with heap:=h',toks:=t'}:=I.un (Un.write mu he k heo) (I.hok.write mu he k heo new)
theorem Inv.weak{σ':List (Option V)}(I:Inv X pins σ H s)(hl:σ'.length=σ.length)(w:∀(i:Nat) v,σ'[i]?=some (some v)->σ[i]?=some (some v)):Inv X pins σ' H s:=
 ⟨I.ok,I.os,I.bare,I.base,let ⟨m,hn,hl'⟩:=I.loc;⟨m,hn,λi x v e1 e2 e3=>hl' i x v e1 (w i v e2) e3⟩,I.cell,I.free,I.freeC,I.pin,I.hok,hl.trans I.len⟩
theorem Inv.pins_of{pins':List (Addr×Obj)}(I:Inv X pins σ H s)(h:∀p∈pins',s.heap.get? p.1=some p.2/\H p.1=none/\p.1≠X.env.locals/\p.1∉X.fs/\∀v,p.2.data≠ .cell v):Inv X pins' σ H s:=
 ⟨I.ok,I.os,I.bare,I.base,I.loc,I.cell,I.free,I.freeC,λp hp=>(FL.mp hp).elim (λz=>I.pin p (Hf _ z)) (h p),I.hok,I.len⟩
theorem Uc{N:List Str}(hN:N.Nodup){i j:Nat}{x:Str}(a:N[i]?=some x)(b:N[j]?=some x):i=j:=by
 obtain⟨h1,e1⟩:=Fd.mp a;obtain⟨h2,e2⟩:=Fd.mp b;exact(List.getElem_inj hN).mp (e1.trans e2.symm)
theorem Qs{M:Model}{A:Around}{E:Value->Shared->Prop}{i:Nat}{x:Str}{v:V}{u:Value}{Q:Unit->Shared->Prop}(I:Inv X pins σ H s)(hN:X.N.Nodup)(hi:X.N[i]?=some x)(hx:Loc X.env.scope x)(r:B1 v u)
 (h:∀s',Inv X pins (σ.set i (some v)) H s'->(∃a,Heap.SameBut a s.heap s'.heap/\(a=X.env.locals\/X.env.cells.lookup x=some a))->Q () s') (hf:X.fn x=true\/X.env.scope.names.lookup x=some .local:=by first | exact .inl rfl | exact .inr rfl | assumption):wpAny M A (storeName X.env x u) Q E s:=by
 obtain⟨m,hn,hl⟩:=id I.loc
 have hcls:(X.env.scope.kind== .class || (X.env.scope.kind== .module && X.env.locals !=X.env.globals))=false:=by rw[I.ok.kind];rfl
 have hiσ:i < σ.length:=by rw[I.len];exact(Fd.mp hi).1
 have cne:=I.cne
 have tracked:∀{a:Addr}{h':Heap},(∃o,s.heap.get? a=some o/\H a=none)->Heap.SameBut a s.heap h'->HOk X.prog X.w H h':=λ{a h'} ha hs b ob e=>by
  obtain⟨_,_,hfree⟩:=ha;refine(I.hok b ob e).stay (λc w' hc q=>(hs.2 c ?_).trans q) (λ_ q=>q) λ_ _ q=>q;rintro rfl;rcases hc with rfl | hc
  . rw[hfree]at e;cases e
  . rw[hfree]at hc;cases hc
 rcases hx with hk | hk
 . refine wpAny_storeName_local hk hn (λh' hn' hs=>?_) hcls
   obtain⟨oL,_,_,hoL,_⟩:=id hn;refine h _ ⟨I.ok,I.os,I.bare,⟨λb o e n hb hx=>?_,λb o e n hb hx=>?_,I.base.free,λb o e hx=>?_,I.base.tups,I.base.frzs,I.base.tbls⟩,⟨_,hn',λj y v' e1 e2 e3=>?_⟩,λy c e=>?_,I.free,I.freeC,λp hp=>?_,tracked ⟨oL,hoL,I.free⟩ hs,by simpa using I.len⟩ ⟨_,hs,.inl rfl⟩
   . exact(hs.2 b (FB (Fs (Fq e) I.ok.above))).trans (I.base.keep b o e n hb hx)
   . obtain⟨sl,e1⟩:=I.base.slot b o e n hb hx
     exact⟨sl,(hs.2 b (FB (Fs (Fq e) I.ok.above))).trans e1⟩
   . obtain⟨o',e1⟩:=I.base.there b o e hx
     exact⟨o',(hs.2 b (FB (Fs (Fq e) I.ok.above))).trans e1⟩
   . by_cases hj:j=i
     . subst hj
       rw[hi]at e1;cases e1;rw[List.getElem?_set_self hiσ]at e2;cases e2;exact⟨u,r,.inl ⟨hk,by simp⟩⟩
     . rw[List.getElem?_set_ne (Ne.symm hj)]at e2
       obtain⟨u',r',q⟩:=hl j y v' e1 e2 e3;refine⟨u',r',?_⟩;rcases q with ⟨k,e⟩ | ⟨k,c,e,z⟩
       . refine .inl ⟨k,?_⟩
         have:y≠x:=λe=>hj (Uc hN e1 (e▸hi));simp[this,e]
       . exact .inr ⟨k,c,e,z.sameBut hs (cne y c e)⟩
   . obtain⟨w',z⟩:=I.cell y c e
     exact⟨w',z.sameBut hs (cne y c e)⟩
   . obtain⟨e,n,ne,nf,d⟩:=I.pin p hp
     exact⟨(hs.2 p.1 ne).trans e,n,ne,nf,d⟩
 . have hfn:X.fn x=true:=by
    rcases hf with z | z
    . exact z
    . rw[z]at hk;cases hk
   obtain⟨c,hc⟩:=I.ok.has x (.inl hk);obtain⟨w',z⟩:=I.cell x c hc;refine wpAny_storeName_cell I.ok.kind hk hc z (λh' hc' hs=>?_);obtain⟨oc,hoc,hocd⟩:=id z;refine h {s with heap:=h'} ⟨I.ok,I.os,I.bare,⟨λb o e n hb hx=>?_,λb o e n hb hx=>?_,I.base.free,λb o e hx=>?_,I.base.tups,I.base.frzs,I.base.tbls⟩,⟨m,hn.sameBut hs (Ne.symm (cne x c hc)),λj y v' e1 e2 e3=>?_⟩,λy c' e=>?_,I.free,I.freeC,λp hp=>?_,tracked ⟨oc,hoc,I.freeC x c hc⟩ hs,by simpa using I.len⟩ ⟨c,hs,.inr hc⟩
   . exact(hs.2 b (FB (Fs (Fq e) (I.ok.cab x c hfn hc)))).trans (I.base.keep b o e n hb hx)
   . obtain⟨sl,e1⟩:=I.base.slot b o e n hb hx
     exact⟨sl,(hs.2 b (FB (Fs (Fq e) (I.ok.cab x c hfn hc)))).trans e1⟩
   . obtain⟨o',e1⟩:=I.base.there b o e hx
     exact⟨o',(hs.2 b (FB (Fs (Fq e) (I.ok.cab x c hfn hc)))).trans e1⟩
   . by_cases hj:j=i
     . subst hj
       rw[hi]at e1;cases e1;rw[List.getElem?_set_self hiσ]at e2;cases e2;exact⟨u,r,.inr ⟨.inl hk,c,hc,hc'⟩⟩
     . rw[List.getElem?_set_ne (Ne.symm hj)]at e2
       obtain⟨u',r',q⟩:=hl j y v' e1 e2 e3;refine⟨u',r',?_⟩;rcases q with q | ⟨k,c',e,z'⟩
       . exact .inl q
       . refine .inr ⟨k,c',e,z'.sameBut hs ?_⟩
         rintro rfl;exact hj (Uc hN e1 (I.ok.inj _ _ _ e hc▸hi))
   . by_cases hcc:c'=c
     . subst hcc;exact⟨_,hc'⟩
     . obtain⟨w2,z2⟩:=I.cell y c' e
       exact⟨w2,z2.sameBut hs hcc⟩
   . obtain⟨e,n,ne,nf,d⟩:=I.pin p hp
     refine⟨(hs.2 p.1 ?_).trans e,n,ne,nf,d⟩;intro q;rw[q,hoc]at e;have q':oc=p.2:=FG e;exact d w' (by rw[<- q'];exact hocd)
theorem Pe{M:Model}{A:Around}{E:Value->Shared->Prop}{i:Nat}{x:Str}{v:V}{u:Value}{Q:Unit->Shared->Prop}(I:Inv X pins σ H s)(hN:X.N.Nodup)(hi:X.N[i]?=some x)(hx:Loc X.env.scope x)(r:B1 v u)
 (h:∀s',Inv X pins (σ.set i (some v)) H s'->Q () s') (hf:X.fn x=true\/X.env.scope.names.lookup x=some .local:=by first | exact .inl rfl | exact .inr rfl | assumption):wpAny M A (storeName X.env x u) Q E s:=
 Qs I hN hi hx r (λs' I' _=>h s' I') hf
theorem Inv.call'{s':Shared}{ch:List Addr}(I:Inv X pins σ H s)(ho:s'.os=s.os)(u:Un (frs X.stack) ch H H' s.heap s'.heap)(hok:HOk X.prog X.w H' s'.heap)(hg:AllBare s'.gens)
 (hch:∀b∈ch,(b∈X.ex\/X.s₀.heap.objs.size<=b)/\b≠X.env.locals/\(∀x c,X.env.cells.lookup x=some c->c≠b)/\∀p∈X.pn++pins,p.1≠b):Inv X pins σ H' s':=by
 obtain⟨h',g',d',t',o'⟩:=s';have e:o'=s.os:=ho;subst e;exact I.call (g':=g') (t':=t') (d':=d') u hok hg hch
end
abbrev XK:=Value->Option Addr->Hp->Prop
abbrev St:=List (Option V)
abbrev VK:=V->Hp->Prop
abbrev TE:=St->Hp->VK->Prop
abbrev TT:=St->Hp->(Bool->Hp->Prop)->Prop
abbrev TA:=St->Hp->(List V->Hp->Prop)->Prop
structure Kl where
 nx:St->Hp->Prop
 rt:VK
 bk:St->Hp->Prop:=λ_ _=>False
 ct:St->Hp->Prop:=λ_ _=>False
abbrev TS:=Kl->St->Hp->Prop
def EP(X:Cx)(pins:List (Addr×Obj))(σ:St)(Q:VK)(u:Value)(s':Shared):Prop:=∃v H',Inv X pins σ H' s'/\B1 v u/\Q v H'
def TP(X:Cx)(pins:List (Addr×Obj))(σ:St)(Q:Bool->Hp->Prop)(b:Bool)(s':Shared):Prop:=∃H',Inv X pins σ H' s'/\Q b H'
def AP(X:Cx)(pins:List (Addr×Obj))(σ:St)(Q:List V->Hp->Prop)(us:List Value)(s':Shared):Prop:=∃vs H',Inv X pins σ H' s'/\B3 vs us/\Q vs H'
def SP(X:Cx)(pins:List (Addr×Obj))(D:Kl)(f:Flow)(s':Shared):Prop:=
 match f with
 | .next=>∃σ' H',Inv X pins σ' H' s'/\D.nx σ' H'
 | .brk=>∃σ' H',Inv X pins σ' H' s'/\D.bk σ' H'
 | .cont=>∃σ' H',Inv X pins σ' H' s'/\D.ct σ' H'
 | .ret u=>∃v σ' H',Inv X pins σ' H' s'/\B1 v u/\D.rt v H'
def PE(X:Cx)(e:Expr)(t:TE):Prop:=
 ∀(pins:List (Addr×Obj)) (s:Shared) (σ:St) (H:Hp) (Q:VK),Inv X pins σ H s->t σ H Q->wpAny (model X.prog X.w) X.A (eval e X.env) (EP X pins σ Q) X.xe s
def PT(X:Cx)(e:Expr)(t:TT):Prop:=
 ∀(pins:List (Addr×Obj)) (s:Shared) (σ:St) (H:Hp) (Q:Bool->Hp->Prop),Inv X pins σ H s->t σ H Q->wpAny (model X.prog X.w) X.A (isTrue e X.env (eval e X.env)) (TP X pins σ Q) X.xe s
def PW(X:Cx)(e:Expr)(t:TT):Prop:=
 ∀(whole:Sem Value) (pins:List (Addr×Obj)) (s:Shared) (σ:St) (H:Hp) (Q:Bool->Hp->Prop),Inv X pins σ H s->t σ H Q->wpAny (model X.prog X.w) X.A (isTrue e X.env whole) (TP X pins σ Q) X.xe s
theorem PW.pt{X:Cx}{e:Expr}{t:TT}(h:PW X e t):PT X e t:=h _
def PA(X:Cx)(es:List Expr)(t:TA):Prop:=
 ∀(pos:Pos) (pins:List (Addr×Obj)) (s:Shared) (σ:St) (H:Hp) (Q:List V->Hp->Prop),Inv X pins σ H s->t σ H Q->wpAny (model X.prog X.w) X.A (spliced (backTo pos (starEach es X.env))) (AP X pins σ Q) X.xe s
def PS(X:Cx)(st:Stmt)(t:TS):Prop:=
 ∀(pins:List (Addr×Obj)) (s:Shared) (σ:St) (H:Hp) (D:Kl),Inv X pins σ H s->t D σ H->wpAny (model X.prog X.w) X.A (exec st X.env) (SP X pins D) X.xe s
def PSs(X:Cx)(st:List Stmt)(t:TS):Prop:=
 ∀(pins:List (Addr×Obj)) (s:Shared) (σ:St) (H:Hp) (D:Kl),Inv X pins σ H s->t D σ H->wpAny (model X.prog X.w) X.A (execs st X.env) (SP X pins D) X.xe s
theorem thn{α:Type}{t:Sem α}{Q Q':α->Shared->Prop}{M:Model}{A:Around}{E:Value->Shared->Prop}{s:Shared}(h:wpAny M A t Q E s)(hQ:∀a s,Q a s->Q' a s):wpAny M A t Q' E s:=Hs h hQ λ_ _ x=>x
section
variable {X:Cx}
def J9y(i:Nat):TE:=λσ H Q=>∃v,σ[i]?=some (some v)/\Q v H
def tC(v:V):TE:=λ_ H Q=>Q v H
theorem J9z{i:Nat}{x:Str}{pos:Pos}(hN:X.N[i]?=some x)(hv:Vis X.env.scope x)(hd:(x==("__debug__":Str))=false:=by decide)(hcd:(x==("__classdict__":Str))=false:=by decide):PE X (.Name x pos) (J9y i):=by
 intro pins s σ H Q I h;obtain⟨v,e,h⟩:=h;obtain⟨m,hn,hl⟩:=I.loc;obtain⟨u,r,l⟩:=hl i x v hN e hv
 have fin:EP X pins σ Q u s:=⟨v,H,I,r,h⟩
 rcases l with ⟨hk,hm⟩ | ⟨hk,c,hc,hcell⟩
 . exact wpAny_Name (wpAny_loadName_local I.ok.kind hk hn hm fin) hd
 . rcases hk with hk | hk
   . exact wpAny_Name (wpAny_loadName_cell I.ok.kind hk hc hcell fin) hd
   . exact wpAny_Name (wpAny_loadName_free I.ok.kind hk hc hcell fin hcd) hd
theorem A8{i j pos}:PE X (.Constant (.int i) j pos) (tC (.int i)):=λ_ _ _ H _ I h=>wpAny_Constant_int ⟨.int i,H,I.tok _,⟨_,rfl⟩,h⟩
theorem Dl{b j pos}:PE X (.Constant (.bool b) j pos) (tC (.bl b)):=λ_ _ _ H _ I h=>Constant_bool ⟨.bl b,H,I,rfl,h⟩
theorem Cy{j pos}:PE X (.Constant .none j pos) (tC .non):=λ_ _ _ H _ I h=>Constant_none ⟨.non,H,I,rfl,h⟩
theorem Wq{x j pos}:PE X (.Constant (.str x) j pos) (tC (.str x)):=λ_ _ _ H _ I h=>Calls.Constant_str ⟨.str x,H,I.tok _,⟨_,rfl⟩,h⟩
def Gl(X:Cx)(x:Str):Prop:=X.env.kindOf x=some .globalImplicit
theorem Mj{E:Value->Shared->Prop}{pins:List (Addr×Obj)}{s:Shared}{σ:St}{H:Hp}{x:Str}{u:Value}{pos:Pos}{Q:Value->Shared->Prop}(I:Inv X pins σ H s)(hg:Gl X x)(hm:X.mg x=some u)(h:Q u s)
 (hd:(x==("__debug__":Str))=false:=by decide):wpAny (model X.prog X.w) X.A (eval (.Name x pos) X.env) Q E s:=
 Calls.Name_function_global I.ok.kind hg (Calls.loadGlobal_global (by rw[I.ok.glob];exact I.mod.glob.keeps I.bk) hm h) hd
theorem Km{E:Value->Shared->Prop}{pins:List (Addr×Obj)}{s:Shared}{σ:St}{H:Hp}{x:Str}{u:Value}{pos:Pos}{Q:Value->Shared->Prop}(I:Inv X pins σ H s)(hg:Gl X x)(hm:X.mg x=none)(hv:bootBuiltins x=some u)(h:Q u s)
 (hn:x≠"__name__":=by decide) (hd:(x==("__debug__":Str))=false:=by decide):wpAny (model X.prog X.w) X.A (eval (.Name x pos) X.env) Q E s:=by
 obtain⟨mb,h1,h2⟩:=I.mod.blt;exact Calls.Name_function_global I.ok.kind hg (Calls.loadGlobal_builtin (by rw[I.ok.glob];exact I.mod.glob.keeps I.bk) hm (by rw[I.ok.blt];exact h1.keeps I.bk) ((h2 x hn).trans hv) h) hd
theorem Dz{x:Str}{v:V}{u:Value}{pos:Pos}(hg:Gl X x)(hm:X.mg x=some u)(r:B1 v u)(hd:(x==("__debug__":Str))=false:=by decide):PE X (.Name x pos) (tC v):=
 λ_ _ _ H _ I h=>Mj I hg hm ⟨v,H,I,r,h⟩ hd
theorem Da{x:Str}{v:V}{u:Value}{pos:Pos}(hg:Gl X x)(hm:X.mg x=none)(hv:bootBuiltins x=some u)(r:B1 v u)(hn:x≠"__name__":=by decide)(hd:(x==("__debug__":Str))=false:=by decide):PE X (.Name x pos) (tC v):=
 λ_ _ _ H _ I h=>Km I hg hm hv ⟨v,H,I,r,h⟩ hn hd
variable {a b:Expr}{ta tb:TE}{pos:Pos}
def PC(X:Cx)(op:CmpOp)(a b:Expr)(t:TE):Prop:=
 ∀(pins:List (Addr×Obj)) (s:Shared) (σ:St) (H:Hp) (Q:VK),Inv X pins σ H s->t σ H Q->
   wpAny (model X.prog X.w) X.A (eval a X.env) (λv s₁=>wpAny (model X.prog X.w) X.A (eval b X.env) (λu s₂=>wpAny (model X.prog X.w) X.A (compareOp op v u) (EP X pins σ Q) X.xe s₂) X.xe s₁) X.xe s
theorem Ud(b:Expr){op:CmpOp}(h:op≠ .In)(h2:op≠ .NotIn):behindInMarks op b=false:=by
 have e1:(op==CmpOp.In)=false:=by cases op <;> first | rfl | exact absurd rfl h
 have e2:(op==CmpOp.NotIn)=false:=by cases op <;> first | rfl | exact absurd rfl h2
 cases b <;> simp[behindInMarks,e1,e2]
def tB(t:TE):TT:=λσ H Q=>t σ H λx H1=>∃c,x= .bl c/\Q c H1
theorem J2c{op:CmpOp}{t:TE}(h:PC X op a b t)(h1:behindInMarks op b=false:=by first | exact Ud _ (by decide) (by decide) | rfl):PE X (.Compare a [op] [b] pos) t:=λpins s σ H Q I hw=>wpAny_Compare1 (h pins s σ H Q I hw) h1
theorem Pf{op:CmpOp}{t:TE}(h:PC X op a b t)(h1:behindInMarks op b=false:=by first | exact Ud _ (by decide) (by decide) | rfl):PT X (.Compare a [op] [b] pos) (tB t):=by
 intro pins s σ H Q I hw;refine wpAny_isTrue_Compare1 (thn (h pins s σ H _ I hw) λv s1 h1=>thn h1 λu s2 h2=>thn h2 λc s3 hq_=>?_) h1;obtain⟨x,H1,I1,r1,q1⟩:=hq_;obtain⟨d,rfl,q⟩:=q1;cases r1;exact Hv ⟨H1,I1,q⟩
theorem Bg{e:Expr}{t:TE}(h:PE X e t)(he:∀whole,isTrue e X.env whole=(do let v <- whole;standAt e.pos;holding [v] (truthy v)):=by intro _;rfl):PT X e (tB t):=by
 intro pins s σ H Q I hw;refine isTrue_plain (thn (h pins s σ H _ I hw) λv s1 hq_=>?_) (he _);obtain⟨x,H1,I1,r1,q1⟩:=hq_;obtain⟨d,rfl,q⟩:=q1;cases r1;exact Hv ⟨H1,I1,q⟩
variable {tA tB':TT}{rest:List Expr}
def Jbm(t u:TT):TT:=λσ H Q=>t σ H λc H1=>if c=true then u σ H1 Q else Q false H1
def tOr(t u:TT):TT:=λσ H Q=>t σ H λc H1=>if c=true then Q true H1 else u σ H1 Q
def Jbn(t:TT):TT:=λσ H Q=>t σ H λc H1=>Q (!c) H1
theorem Sy(ha:PT X a tA):PW X (.BoolOp .And [a] pos) tA:=by
 intro wh pins s σ H Q I h;refine isTrue_and (thn (ha pins s σ H Q I h) λc s1 e=>?_)
 cases c with
 | true=>exact isTrue_and_nil e
 | false=>exact e
theorem Dm(ha:PT X a tA):PW X (.BoolOp .Or [a] pos) tA:=by
 intro wh pins s σ H Q I h;refine isTrue_or (thn (ha pins s σ H Q I h) λc s1 e=>?_)
 cases c with
 | false=>exact isTrue_or_nil e
 | true=>exact e
theorem Wr(ha:PT X a tA)(hb:PW X (.BoolOp .And (b::rest) pos) tB'):PW X (.BoolOp .And (a::b::rest) pos) (Jbm tA tB'):=by
 intro wh pins s σ H Q I h;refine isTrue_and (thn (ha pins s σ H _ I h) λc s1 ⟨H1,I1,q1⟩=>?_)
 cases c with
 | true=>exact hb wh pins s1 σ H1 Q I1 q1
 | false=>exact⟨H1,I1,q1⟩
theorem D5(ha:PT X a tA)(hb:PW X (.BoolOp .Or (b::rest) pos) tB'):PW X (.BoolOp .Or (a::b::rest) pos) (tOr tA tB'):=by
 intro wh pins s σ H Q I h;refine isTrue_or (thn (ha pins s σ H _ I h) λc s1 ⟨H1,I1,q1⟩=>?_)
 cases c with
 | true=>exact⟨H1,I1,q1⟩
 | false=>exact hb wh pins s1 σ H1 Q I1 q1
theorem C8(ha:PT X a tA):PT X (.UnaryOp .Not a pos) (Jbn tA):=by
 intro pins s σ H Q I h;exact isTrue_not (ha pins s σ H (λc H1=>Q (!c) H1) I h)
def J8r(ta tb:TE):TE:=λσ H Q=>ta σ H λx H1=>∃c,x= .bl c/\if c=true then tb σ H1 Q else Q (.bl false) H1
def Jbo(ta tb:TE):TE:=λσ H Q=>ta σ H λx H1=>∃c,x= .bl c/\if c=true then Q (.bl true) H1 else tb σ H1 Q
def J8s(ta:TE):TE:=λσ H Q=>ta σ H λx H1=>∃c,x= .bl c/\Q (.bl (!c)) H1
theorem Nq{op}{t:TE}(h:PE X a t):PE X (.BoolOp op [a] pos) t:=λpins s σ H Q I hw=>BoolOp_one (h pins s σ H Q I hw)
theorem Ph(ha:PE X a ta)(hb:PE X (.BoolOp .And (b::rest) pos) tb):PE X (.BoolOp .And (a::b::rest) pos) (J8r ta tb):=by
 intro pins s σ H Q I h;refine BoolOp_and (thn (ha pins s σ H _ I h) λv s1 hq_=>?_);obtain⟨x,H1,I1,r1,q1⟩:=hq_;obtain⟨c,rfl,q1⟩:=q1;cases r1;refine Hv ?_
 cases c with
 | true=>exact hb pins s1 σ H1 Q I1 q1
 | false=>exact⟨.bl false,H1,I1,rfl,q1⟩
theorem Jbp(ha:PE X a ta)(hb:PE X (.BoolOp .Or (b::rest) pos) tb):PE X (.BoolOp .Or (a::b::rest) pos) (Jbo ta tb):=by
 intro pins s σ H Q I h;refine BoolOp_or (thn (ha pins s σ H _ I h) λv s1 hq_=>?_);obtain⟨x,H1,I1,r1,q1⟩:=hq_;obtain⟨c,rfl,q1⟩:=q1;cases r1;refine Hv ?_
 cases c with
 | false=>exact hb pins s1 σ H1 Q I1 q1
 | true=>exact⟨.bl true,H1,I1,rfl,q1⟩
theorem Ws(ha:PE X a ta):PE X (.UnaryOp .Not a pos) (J8s ta):=by
 intro pins s σ H Q I h;refine UnaryOp_ (thn (ha pins s σ H _ I h) λv s1 hq_=>?_);obtain⟨x,H1,I1,r1,q1⟩:=hq_;obtain⟨c,rfl,q1⟩:=q1;cases r1;exact not_of (Hv ⟨.bl (!c),H1,I1,rfl,q1⟩)
def tIf(t:TT)(ta tb:TE):TE:=λσ H Q=>t σ H λc H1=>if c=true then ta σ H1 Q else tb σ H1 Q
theorem J2d{c:Expr}(hc:PT X c tA)(ha:PE X a ta)(hb:PE X b tb):PE X (.IfExp c a b pos) (tIf tA ta tb):=by
 intro pins s σ H Q I h;refine wpAny_IfExp (thn (hc pins s σ H _ I h) λd s1 ⟨H1,I1,q1⟩=>?_)
 cases d with
 | true=>exact ha pins s1 σ H1 Q I1 q1
 | false=>exact hb pins s1 σ H1 Q I1 q1
end
def SqL(K:PySem.W.Frag)(H:Hp)(a:Addr)(xs:List V):Prop:=
 Rd H a (.lst xs)\/
  ∃(o:Obj) (its:Array Value) (n:Nat),K.lookup a=some o/\o.cls= .type "list"/\o.dict=none/\o.data= .seq its n/\its.size<=sizeLine/\B3 xs its.toList
def SqT(K:PySem.W.Frag)(H:Hp)(a:Addr)(xs:List V):Prop:=
 Rd H a (.tup xs)\/
  ∃(o:Obj) (its:Array Value) (n:Nat),K.lookup a=some o/\o.cls= .type "tuple"/\o.data= .seq its n/\its.size<=sizeLine/\B3 xs its.toList
def Jd9:Value->Option V
 | .none=>some .non
 | .bool b=>some (.bl b)
 | .int i _=>some (.int i)
 | .str x _=>some (.str x)
 | .bytes b _=>some (.byt b)
 | .float b _=>some (.flt b)
 | .ref a=>some (.ref a)
 | .type n=>some (.ty n)
 | _=>none
theorem B1.abs{x:V}{u:Value}(r:B1 x u):Jd9 u=some x:=by
 cases x with
 | non=>cases r;rfl
 | bl _=>cases r;rfl
 | int _=>obtain⟨t,rfl⟩:=r;rfl
 | str _=>obtain⟨t,rfl⟩:=r;rfl
 | byt _=>obtain⟨t,rfl⟩:=r;rfl
 | flt _=>obtain⟨t,rfl⟩:=r;rfl
 | ref _=>cases r;rfl
 | ty _=>cases r;rfl
theorem B1.inj{x y:V}{u:Value}(r:B1 x u)(q:B1 y u):x=y:=FG (r.abs.symm.trans q.abs)
theorem B3.inj:∀{xs ys:List V}{us:List Value},B3 xs us->B3 ys us->xs=ys
 | _,_,_,.nil,.nil=>rfl
 | _,_,_,.cons r t,.cons r' t'=>by rw[r.inj r',B3.inj t t']
section
variable {X:Cx}{pins:List (Addr×Obj)}{σ:St}{H:Hp}{s:Shared}{a:Addr}{xs ys:List V}
theorem SqL.of{K:PySem.W.Frag}(h:H a=some (.lst xs)):SqL K H a xs:= .inl (.inl h)
theorem SqT.of{K:PySem.W.Frag}(h:H a=some (.tup xs)):SqT K H a xs:= .inl (.inl h)
theorem Inv.list(I:Inv X pins σ H s)(h:SqL X.K H a xs):∃its:List Value,B3 xs its/\PlainL s.heap a its.toArray/\xs.length<=sizeLine:=by
 rcases h with h | ⟨o,its,n,hk,hc,hd,hs,hz,r⟩
 . obtain⟨z,its,n,r,e⟩:=h.ok I.hok
   exact⟨its,r,⟨_,n,e,rfl,rfl,rfl⟩,z⟩
 . refine⟨its.toList,r,⟨o,n,I.kIn a o hk,hc,hd,by simpa using hs⟩,?_⟩
   have e:=r.length;simp only[RN]at e;omega
theorem Inv.tuple(I:Inv X pins σ H s)(h:SqT X.K H a xs):∃its:List Value,B3 xs its/\IsTup s.heap a its.toArray/\xs.length<=sizeLine:=by
 rcases h with h | ⟨o,its,n,hk,hc,hs,hz,r⟩
 . obtain⟨z,its,r,p⟩:=h.ok I.hok
   exact⟨its,r,p,z⟩
 . refine⟨its.toList,r,⟨o,I.kIn a o hk,hc,n,by simpa using hs⟩,?_⟩
   have e:=r.length;simp only[RN]at e;omega
theorem Inv.list_inj(I:Inv X pins σ H s)(h:SqL X.K H a xs)(h':SqL X.K H a ys):xs=ys:=by
 obtain⟨its,r,⟨o,n,e,_,_,d⟩,_⟩:=I.list h;obtain⟨its',r',⟨o',n',e',_,_,d'⟩,_⟩:=I.list h';rw[e]at e';cases e';rw[d]at d'
 injection d' with d1 _
 have:its=its':=by simpa using congrArg Array.toList d1
 subst this;exact r.inj r'
end
abbrev Cx.wish(X:Cx)(E:Value->Shared->Prop):Cx:={X with xe:=E}
abbrev Cx.nox(X:Cx):Cx:=X.wish λ_ _=>False
theorem Cx.Ok.wish{X:Cx}(ok:X.Ok)(E:Value->Shared->Prop):(X.wish E).Ok:=
 ⟨ok.mod,ok.kind,ok.glob,ok.blt,ok.above,ok.inj,ok.has,ok.cab,ok.hd,ok.frames,ok.stk,ok.exf,ok.bs,ok.bsz,ok.noex,ok.exfs,ok.funs,ok.frf⟩
theorem Cx.Ok.unwish{X:Cx}{E:Value->Shared->Prop}(ok:(X.wish E).Ok):X.Ok:=
 ⟨ok.mod,ok.kind,ok.glob,ok.blt,ok.above,ok.inj,ok.has,ok.cab,ok.hd,ok.frames,ok.stk,ok.exf,ok.bs,ok.bsz,ok.noex,ok.exfs,ok.funs,ok.frf⟩
section
variable {X:Cx}{pins:List (Addr×Obj)}{σ:St}{H:Hp}{s:Shared}{E:Value->Shared->Prop}
theorem Inv.wish(I:Inv X pins σ H s)(E:Value->Shared->Prop):Inv (X.wish E) pins σ H s:=⟨I.ok.wish E,I.os,I.bare,I.base,I.loc,I.cell,I.free,I.freeC,I.pin,I.hok,I.len⟩
theorem Inv.unwish(I:Inv (X.wish E) pins σ H s):Inv X pins σ H s:=⟨I.ok.unwish,I.os,I.bare,I.base,I.loc,I.cell,I.free,I.freeC,I.pin,I.hok,I.len⟩
theorem SP.unwish{D:Kl}{f:Flow}{s':Shared}(h:SP (X.wish E) pins D f s'):SP X pins D f s':=by
 cases f with
 | next=>obtain⟨σ',H',I,q⟩:=h;exact⟨σ',H',I.unwish,q⟩
 | brk=>obtain⟨σ',H',I,q⟩:=h;exact⟨σ',H',I.unwish,q⟩
 | cont=>obtain⟨σ',H',I,q⟩:=h;exact⟨σ',H',I.unwish,q⟩
 | ret u=>obtain⟨v,σ',H',I,r,q⟩:=h;exact⟨v,σ',H',I.unwish,r,q⟩
theorem PSs.nox{st:List Stmt}{t:TS}(h:PSs X.nox st t):PSs X st t:=λpins s σ H D I hw=>
 Hs (h pins s σ H D (I.wish _) hw) (λ_ _ q=>q.unwish) λ_ _ z=>False.elim z
end
section
variable {X:Cx}{st:Stmt}{rest:List Stmt}{t u:TS}{e:Expr}{te:TE}{pos:Pos}
def J2e:TS:=λD σ H=>D.nx σ H
def Jbq(t u:TS):TS:=λD σ H=>t {D with nx:=u D} σ H
theorem An:PSs X [] J2e:=λ_ _ σ H _ I h=>J6 ⟨σ,H,I,h⟩
theorem A4(h1:PS X st t)(h2:PSs X rest u):PSs X (st::rest) (Jbq t u):=by
 intro pins s σ H D I h;refine wpAny_execs_cons (thn (h1 pins s σ H {D with nx:=u D} I h) λf s1 q=>?_)
 cases f with
 | next=>
  obtain⟨σ',H',I',q⟩:=q;exact h2 pins s1 σ' H' D I' q
 | ret v=>exact q
 | brk=>exact q
 | cont=>exact q
theorem A5(h1:PS X st t):PSs X [st] t:=by
 intro pins s σ H D I h;refine wpAny_execs_cons (thn (h1 pins s σ H D I h) λf s1 q=>?_)
 cases f with
 | next=>exact J6 q
 | ret v=>exact q
 | brk=>exact q
 | cont=>exact q
theorem E1:PS X (.Pass pos) J2e:=λ_ _ σ H _ I h=>wpAny_Pass ⟨σ,H,I,h⟩
theorem Inv.quiet{pins:List (Addr×Obj)}{σ:St}{H:Hp}{s:Shared}(I:Inv X pins σ H s):interactive X.env=false:=by simp[interactive,I.ok.kind]
def J8t(te:TE):TS:=λD σ H=>te σ H λ_ H1=>D.nx σ H1
theorem Ak(he:PE X e te)(hs:swapsWith e none pos.line X.env=pure false:=by rfl):PS X (.Expr e pos) (J8t te):=by
 intro pins s σ H D I h;exact wpAny_Expr_any (thn (he pins s σ H _ I h) λv s1 ⟨x,H1,I1,r1,q1⟩=>⟨σ,H1,I1,q1⟩) I.quiet hs
def Jbr(te:TE):TS:=λD σ H=>te σ H D.rt
theorem Ag(he:PE X e te):PS X (.Return (some e) pos) (Jbr te):=by
 intro pins s σ H D I h;exact wpAny_Return_some (thn (he pins s σ H _ I h) λv s1 ⟨x,H1,I1,r1,q1⟩=>⟨x,σ,H1,I1,r1,q1⟩)
def Jbs(c:TT)(t u:TS):TS:=λD σ H=>c σ H λb H1=>if b=true then t D σ H1 else u D σ H1
theorem Az{c:Expr}{a b:List Stmt}{tc:TT}(hc:PT X c tc)(ha:PSs X a t)(hb:PSs X b u):PS X (.If c a b pos) (Jbs tc t u):=by
 intro pins s σ H D I h;refine wpAny_If (thn (hc pins s σ H _ I h) λd s1 ⟨H1,I1,q1⟩=>?_)
 cases d with
 | true=>exact ha pins s1 σ H1 D I1 q1
 | false=>exact hb pins s1 σ H1 D I1 q1
def J2f:TS:=λ_ _ _=>False
theorem Bv:PS X st J2f:=λ_ _ _ _ _ _ h=>h.elim
end
abbrev TG:=V->St->Hp->(St->Hp->Prop)->Prop
abbrev TGs:=List V->St->Hp->(St->Hp->Prop)->Prop
def PG(X:Cx)(target:Expr)(t:TG):Prop:=
 ∀(pins:List (Addr×Obj)) (s:Shared) (σ:St) (H:Hp) (v:V) (u:Value) (Q:St->Hp->Prop),Inv X pins σ H s->B1 v u->t v σ H Q->
   wpAny (model X.prog X.w) X.A (assign target X.env u) (λ_ s'=>∃σ' H',Inv X pins σ' H' s'/\Q σ' H') X.xe s
def PGs(X:Cx)(ts:List Expr)(t:TGs):Prop:=
 ∀(pins:List (Addr×Obj)) (s:Shared) (σ:St) (H:Hp) (vs:List V) (us:List Value) (Q:St->Hp->Prop),Inv X pins σ H s->B3 vs us->t vs σ H Q->
   wpAny (model X.prog X.w) X.A (assignInOrder ((assignEach ts X.env).map (·.2)) us) (λ_ s'=>∃σ' H',Inv X pins σ' H' s'/\Q σ' H') X.xe s
abbrev J6z:=V->V->V->Hp->(Hp->Prop)->Prop
def Jbt(X:Cx)(t:J6z):Prop:=
 ∀(pins:List (Addr×Obj)) (s:Shared) (σ:St) (H:Hp) (o i v:V) (ov iv u:Value) (Q:Hp->Prop),Inv X pins σ H s->B1 o ov->B1 i iv->B1 v u->t o i v H Q->
   wpAny (model X.prog X.w) X.A (setItem ov iv u) (λ_ s'=>∃H',Inv X pins σ H' s'/\Q H') X.xe s
abbrev TIp:=V->V->Hp->VK->Prop
def PIp(X:Cx)(op:Operator)(t:TIp):Prop:=
 ∀(pins:List (Addr×Obj)) (s:Shared) (σ:St) (H:Hp) (x y:V) (v u:Value) (Q:VK),Inv X pins σ H s->B1 x v->B1 y u->t x y H Q->
   wpAny (model X.prog X.w) X.A (inplaceOp op v u) (EP X pins σ Q) X.xe s
section
variable {X:Cx}{pos:Pos}
def By(i:Nat):TG:=λv σ H Q=>Q (σ.set i (some v)) H
theorem Ay{i:Nat}{x:Str}(hN:X.N.Nodup)(hi:X.N[i]?=some x)(hx:Loc X.env.scope x)(hf:X.fn x=true\/X.env.scope.names.lookup x=some .local:=by first | exact .inl rfl | exact .inr rfl | assumption):PG X (.Name x pos) (By i):=by
 intro pins s σ H v u Q I r h;exact wpAny_assign_Name (Pe I hN hi hx r (λs' I'=>⟨_,H,I',h⟩) hf)
def J70:TGs:=λvs σ H Q=>vs=[]/\Q σ H
def Pj(t:TG)(u:TGs):TGs:=λvs σ H Q=>∃v r,vs=v::r/\t v σ H λσ' H'=>u r σ' H' Q
theorem Ee:PGs X [] J70:=by
 intro pins s σ H vs us Q I r h;obtain⟨e,h⟩:=h;subst e;cases r;exact assignInOrder_nil ⟨σ,H,I,h⟩
theorem Bc{e:Expr}{es:List Expr}{t:TG}{u:TGs}(h1:PG X e t)(h2:PGs X es u)
 (hs:(assignEach (e::es) X.env).map (·.2)=assign e X.env::(assignEach es X.env).map (·.2):=by rfl):PGs X (e::es) (Pj t u):=by
 intro pins s σ H vs us Q I r h;obtain⟨v,vr,e1,h⟩:=h;subst e1
 cases r with
 | cons r rr=>
  rw[hs];refine assignInOrder_cons (thn (h1 pins s σ H _ _ _ I r h) λ_ s1 hq_=>?_);obtain⟨σ1,H1,I1,q1⟩:=hq_;exact h2 pins s1 σ1 H1 _ _ Q I1 rr q1
def J71(K:PySem.W.Frag)(n:Nat)(t:TGs):TG:=λv σ H Q=>∃a xs,v= .ref a/\SqT K H a xs/\xs.length=n/\t xs σ H Q
theorem Il{es:List Expr}{k:Nat}{t:TGs}{n:Nat}(hc:X.calm=true)(h:PGs X es t)
 (hn:(assignEach es X.env).length=n:=by rfl) (hst:(assignEach es X.env).findIdx? (·.1)=none:=by rfl):PG X (.Tuple es k pos) (J71 X.K n t):=by
 intro pins s σ H v u Q I r hw;obtain⟨a,xs,e1,hq,hl,hw⟩:=hw;subst e1;cases r;obtain⟨its,rv,ht,hz⟩:=I.tuple hq;refine assign_Tuple_tuple (I.ok.hd hc) ht (by simp[hn,<- hl,rv.length]) hst λh' hx=>?_;have I1:Inv X pins σ H {s with heap:=h'}:=I.kept (t':=s.toks) λb o e=>hx b o (FB (Fq e)) e;exact h pins _ σ H xs _ Q I1 (by simpa using rv) hw
def Jbu(to ti:TE)(t:J6z):TG:=λv σ H Q=>to σ H λo H1=>ti σ H1 λi H2=>t o i v H2 λH3=>Q σ H3
theorem Wt{o i:Expr}{to ti:TE}{t:J6z}(ho:PE X o to)(hi:PE X i ti)(hs:Jbt X t)
 (ha:∀v,assign (.Subscript o i pos) X.env v=(do
  let ov <- holding [v] (eval o X.env)
  let iv <- holding [v,ov] (eval i X.env)
  standAt pos
  holding [v,ov,iv] (setItem ov iv v)
  release [v,ov,iv] []):=by intro _;rfl):PG X (.Subscript o i pos) (Jbu to ti t):=by
 intro pins s σ H v u Q I r h;rw[ha];refine Fu (Rh (thn (ho pins s σ H _ I h) λov s1 hq_=>?_));obtain⟨x,H1,I1,r1,q1⟩:=hq_;refine Fu (Rh (thn (hi pins s1 σ H1 _ I1 q1) λiv s2 hq_=>?_));obtain⟨y,H2,I2,r2,q2⟩:=hq_;refine Fu (wpAny_standAt (Fu (Rh (thn (hs pins s2 σ H2 x y v ov iv u _ I2 r1 r2 r q2) λ_ s3 ⟨H3,I3,q3⟩=>?_))));exact wpAny_release ⟨σ,H3,I3,q3⟩
def Sz(te:TE)(g:TG):TS:=λD σ H=>te σ H λx H1=>g x σ H1 D.nx
theorem Wu{tg e:Expr}{te:TE}{g:TG}(he:PE X e te)(hg:PG X tg g)(hs:swapsWithSole [tg] e pos.line X.env=pure false:=by rfl)(hw:swappedStores [tg] e X.env=pure none:=by rfl)
 (h1:(assignEach [tg] X.env).map (·.2)=[assign tg X.env]:=by rfl):PS X (.Assign [tg] e pos) (Sz te g):=by
 intro pins s σ H D I h;refine wpAny_Assign_stores (thn (he pins s σ H _ I h) λv s1 hq_=>?_) hs hw;obtain⟨x,H1,I1,r1,q1⟩:=hq_;rw[h1];exact thn (hg pins s1 σ H1 x v _ I1 r1 q1) λ_ s2 q=>q
theorem Aq{i:Nat}{x:Str}{e:Expr}{te:TE}{pos':Pos}(hN:X.N.Nodup)(hi:X.N[i]?=some x)(hx:Loc X.env.scope x)(he:PE X e te)(hs:swapsWith e (some (.Name x pos')) pos.line X.env=pure false:=by rfl)(hf:X.fn x=true\/X.env.scope.names.lookup x=some .local:=by first | exact .inl rfl | exact .inr rfl | assumption):
 PS X (.Assign [.Name x pos'] e pos) (Sz te (By i)):=by
 intro pins s σ H D I h;refine wpAny_Assign_Name (thn (he pins s σ H _ I h) λv s1 hq_=>?_) hs;obtain⟨y,H1,I1,r1,q1⟩:=hq_;exact Pe I1 hN hi hx r1 (λs2 I2=>⟨_,H1,I2,q1⟩) hf
def Ja0(i:Nat)(te:TE)(ti:TIp):TS:=λD σ H=>∃x,σ[i]?=some (some x)/\te σ H λy H1=>ti x y H1 λz H2=>D.nx (σ.set i (some z)) H2
theorem J2g{i:Nat}{x:Str}{e:Expr}{te:TE}{op:Operator}{ti:TIp}{pos':Pos}(hN:X.N.Nodup)(hi:X.N[i]?=some x)(hx:Loc X.env.scope x)(he:PE X e te)(ho:PIp X op ti)(hf:X.fn x=true\/X.env.scope.names.lookup x=some .local:=by first | exact .inl rfl | exact .inr rfl | assumption):
 PS X (.AugAssign (.Name x pos') op e pos) (Ja0 i te ti):=by
 intro pins s σ H D I h;obtain⟨v,e1,h⟩:=h;obtain⟨m,hn,hl⟩:=I.loc
 have vis:Vis X.env.scope x:=by rcases hx with k | k;exact .inl k;exact .inr (.inl k)
 obtain⟨u,r,l⟩:=hl i x v hi e1 vis;refine wpAny_AugAssign_Name ?_
 have go:wpAny (model X.prog X.w) X.A (eval e X.env) (λw s₂=>wpAny (model X.prog X.w) X.A (inplaceOp op u w) (λr s₃=>wpAny (model X.prog X.w) X.A (storeName X.env x r) (λ_=>SP X pins D .next) X.xe s₃) X.xe s₂) X.xe s:=by
  refine thn (he pins s σ H _ I h) λw s1 hq_=>?_;obtain⟨y,H1,I1,r1,q1⟩:=hq_;refine thn (ho pins s1 σ H1 v y u w _ I1 r r1 q1) λz s2 hq_=>?_;obtain⟨zv,H2,I2,r2,q2⟩:=hq_;exact Pe I2 hN hi hx r2 (λs3 I3=>⟨_,H2,I3,q2⟩) hf
 rcases l with ⟨hk,hm⟩ | ⟨hk,c,hc,hcell⟩
 . exact wpAny_loadName_local I.ok.kind hk hn hm go
 . rcases hk with hk | hk
   . exact wpAny_loadName_cell I.ok.kind hk hc hcell go
   . rcases hx with k | k
     . have:X.env.scope.names.lookup x=some .free:=hk
       rw[k]at this;cases this
     . have:X.env.scope.names.lookup x=some .free:=hk
       rw[k]at this;cases this
def ipI(f:Int->Int->Int):TIp:=λx y H Q=>∃i j,x= .int i/\y= .int j/\Q (.int (f i j)) H
theorem Ja1:PIp X .Add (ipI λi j=>i+j):=by
 intro pins s σ H x y v u Q I r1 r2 h;obtain⟨i,j,e1,e2,q⟩:=h;subst e1;subst e2;obtain⟨t,rfl⟩:=r1;obtain⟨t',rfl⟩:=r2;exact iadd_int ⟨.int _,H,I.tok _,⟨_,rfl⟩,q⟩
end
section
variable {X:Cx}{pos:Pos}
def J2h(c:TT)(tb:TS):TS:=λD σ H=>∃W:Nat->St->Hp->Prop,(∃m,W m σ H)/\∀m σ H,W m σ H->
 c σ H λb H1=>if b=true then ∃N:St->Hp->Prop,(∀σ' H',N σ' H'->∃m',m' < m/\W m' σ' H')/\tb {D with nx:=N,ct:=N,bk:=D.nx} σ H1 else D.nx σ H1
theorem Kn{c:Expr}{body:List Stmt}{tc:TT}{tb:TS}(hp:PassesOwn (model X.prog X.w) X.A X.env X.xe)(hc:PT X c tc)(hb:PSs X body tb):PS X (.While c body [] pos) (J2h tc tb):=by
 intro pins s σ H D I h;obtain⟨W,⟨m0,w0⟩,turn⟩:=h;refine wpAny_While (codeAny_whileLoop (λn s'=>∃σ' H',Inv X pins σ' H' s'/\W n σ' H') ?_ m0 ⟨σ,H,I,w0⟩);rintro n s1 ⟨σ1,H1,I1,w1⟩;refine Rf hp (thn (hc pins s1 σ1 H1 _ I1 (turn n σ1 H1 w1)) λb s2 ⟨H2,I2,q2⟩=>?_)
 cases b with
 | true=>
  obtain⟨N,hN,q2⟩:=q2;rw[if_pos rfl];refine Rf hp (thn (hb pins s2 σ1 H2 _ I2 q2) λf s3 q3=>?_)
  cases f with
  | next=>
   obtain⟨σ3,H3,I3,n3⟩:=q3;obtain⟨m',hm,w3⟩:=hN σ3 H3 n3;exact⟨m',hm,σ3,H3,I3,w3⟩
  | cont=>
   obtain⟨σ3,H3,I3,n3⟩:=q3;obtain⟨m',hm,w3⟩:=hN σ3 H3 n3;exact⟨m',hm,σ3,H3,I3,w3⟩
  | brk=>exact q3
  | ret v=>exact q3
 | false=>
  rw[if_neg FF];exact J6 ⟨σ1,H2,I2,q2⟩
end
structure It where
 go:Nat->Hp->Prop
 yld:Nat->Hp->V->Hp->Prop
 stop:Nat->Hp->Prop
def E8(X:Cx)(pins:List (Addr×Obj))(H:Hp)(b:Addr):Prop:=
 H b=none/\b≠X.env.locals/\b∉X.fs/\(b∈X.ex\/X.s₀.heap.objs.size<=b)/\(∀x c,X.env.cells.lookup x=some c->c≠b)/\∀p∈X.pn++pins,p.1≠b
theorem Inv.fpOk{X:Cx}{pins:List (Addr×Obj)}{σ:St}{H H':Hp}{s:Shared}{b:Addr}(I:Inv X pins σ H s)(hb:s.heap.objs.size<=b)(hn:H' b=none):E8 X pins H' b:=by
 refine⟨hn,Nat.ne_of_gt (Fs I.lt hb),I.nofs hb,.inr (FO I.sz hb),λx c e z=>?_,λp hp z=>?_⟩
 . obtain⟨v,q⟩:=I.cell x c e
   exact absurd (Fs q.lt (by rw[z];exact hb)) (Hn _)
 . exact absurd (Fs (Fq (I.pin p hp).1) (by rw[z];exact hb)) (Hn _)
structure J0z(P:Program)(w:World)(K:PySem.W.Frag)(tg:Expr)(J:It)(fp:List Addr)(it:Addr)(tn:Nat->Heap->Prop):Prop where
 mem:it∈fp
 obj:∀i h,tn i h->∀b∈fp,∃o,h.get? b=some o/\∀v,o.data≠ .cell v
 keep:∀i h h',tn i h->(∀b∈fp,∀o,h.get? b=some o->h'.get? b=some o)->tn i h'
 item:∀(X:Cx),X.prog=P->X.w=w->X.K=K->X.calm=true->∀(i:Nat) (pins:List (Addr×Obj)) (s:Shared) (σ:St) (H:Hp) (E:Value->Shared->Prop),Inv X pins σ H s->(∀b∈fp,E8 X pins H b)->tn i s.heap->J.go i H->
  wpAny (model P w) X.A (pyNext (.ref it)) (λr s1=>∃u,r=some u/\
   wpAny (model P w) X.A (letOwnedTupleGo tg (.ref it) u) (λ_ s2=>∃x H',Inv X pins σ H' s2/\B1 x u/\J.yld i H x H'/\tn (i+1) s2.heap/\∀b∈fp,H' b=none) E s1) E s
 done:∀(X:Cx),X.prog=P->X.w=w->X.K=K->X.calm=true->∀(i:Nat) (pins:List (Addr×Obj)) (s:Shared) (σ:St) (H:Hp) (E:Value->Shared->Prop),Inv X pins σ H s->(∀b∈fp,E8 X pins H b)->tn i s.heap->J.stop i H->
   wpAny (model P w) X.A (pyNext (.ref it)) (λr s1=>r=none/\Inv X pins σ H s1) E s
 self:∀(A:Around) (i:Nat) (s:Shared) (Q:Value->Shared->Prop) (E:Value->Shared->Prop),tn i s.heap->Q (.ref it) s->wpAny (model P w) A (pyIter (.ref it)) Q E s
abbrev TI:=St->Hp->(It->Hp->Prop)->Prop
def PIE(X:Cx)(pins:List (Addr×Obj))(σ:St)(tg:Expr)(R:It->Hp->Prop)(itv:Value)(s2:Shared):Prop:=
 ∃(it:Addr) (fp:List Addr) (tn:Nat->Heap->Prop) (J:It) (H':Hp),itv= .ref it/\Inv X pins σ H' s2/\J0z X.prog X.w X.K tg J fp it tn/\tn 0 s2.heap/\(∀b∈fp,E8 X pins H' b)/\R J H'
def PI(X:Cx)(tg iter:Expr)(wi:TI):Prop:=
 ∀(pins:List (Addr×Obj)) (s:Shared) (σ:St) (H:Hp) (R:It->Hp->Prop),Inv X pins σ H s->wi σ H R->
   wpAny (model X.prog X.w) X.A (eval iter X.env) (λv s1=>wpAny (model X.prog X.w) X.A (pyIter v) (PIE X pins σ tg R) X.xe s1) X.xe s
theorem J2i{M:Model}{A:Around}{E:Value->Shared->Prop}{s:Shared}{tg:Expr}{it:Addr}{u:Value}{o:Obj}{n:String}{vs:Array Value}{Q:Unit->Shared->Prop}(ho:s.heap.get? it=some o)(hc:o.cls= .type n)(hd:o.data= .fields vs)
 (hn:["enumerate","zip","dict_itemiterator","dict_reverseitemiterator","odict_iterator","itertools.zip_longest","itertools.pairwise"].contains n=false) (hQ:Q () s):wpAny M A (letOwnedTupleGo tg (.ref it) u) Q E s:=by
 unfold letOwnedTupleGo
 cases tg <;> first
  | exact FX hQ
  | (cases u <;> first
   | exact FX hQ
   | (refine Fu (wpAny_load ho ?_)
      rw[hc,hd];show wpAny M A (if (["enumerate","zip","dict_itemiterator","dict_reverseitemiterator","odict_iterator","itertools.zip_longest","itertools.pairwise"].contains n && vs[0]?==some (rawInt _))=true then _ else _) Q E s;rw[if_neg (by intro h;rw[hn,Bool.false_and]at h;cases h)]
      exact FX hQ))
def Itl(K:PySem.W.Frag)(a:Addr):It:=
 ⟨λi H=>∃xs x,SqL K H a xs/\xs[i]?=some x,λi H x H'=>H'=H/\∀xs,SqL K H a xs->xs[i]?=some x,λi H=>∃xs,SqL K H a xs/\xs.length<=i⟩
def Itr(lo:Int)(n:Nat):It:=⟨λi _=>i < n,λi H x H'=>H'=H/\x= .int (lo+i),λi _=>n<=i⟩
theorem J10{P:Program}{w:World}{K:PySem.W.Frag}{tg:Expr}(a it:Addr):J0z P w K tg (Itl K a) [it] it (λi h=>h.IsListIter it a i) where
 mem:=by simp
 obj:=λi h st b hb=>by
  have e:b=it:=by simpa using hb
  subst e;obtain⟨o,e,c,d⟩:=st;exact⟨o,e,λv z=>by rw[d]at z;cases z⟩
 keep:=λi h h' st k=>st.at λo e=>k it (by simp) o e
 item:=by
  intro X hP hw hK hc i pins s σ H E I hf st hg;subst hP hw hK;obtain⟨xs,x,hq,hx⟩:=hg;obtain⟨its,rv,p,hz⟩:=I.list hq;obtain⟨u,hu,ru⟩:=rv.get hx;obtain⟨f0,f1,f2,f3,f4,f5⟩:=hf it (by simp);refine wpAny_pyNext_list_item st p.isList (x:=u) (by simpa using hu) λh' st' sb=>?_;have I1:Inv X pins σ H {s with heap:=h'}:=I.turned (t':=s.toks) (λb o hb e=>(sb.2 b hb).trans e) f0 f1 f3 f4 f5;obtain⟨o,e,c,d⟩:=id st';exact⟨u,rfl,J2i (s:={s with heap:=h'}) e c d (by decide) ⟨x,H,I1,ru,⟨rfl,λys hy=>by rw[I.list_inj hy hq];exact hx⟩,st',λb hb=>(hf b hb).1⟩⟩
 done:=by
   intro X hP hw hK hc i pins s σ H E I hf st hg;subst hP hw hK;obtain⟨xs,hq,hx⟩:=hg;obtain⟨its,rv,p,hz⟩:=I.list hq;obtain⟨f0,f1,f2,f3,f4,f5⟩:=hf it (by simp);have hl:=rv.length
   exact wpAny_pyNext_list_end (I.ok.hd hc) st p.isList (by simp;omega) λh' eb=>⟨rfl,I.turned (t':=s.toks) (λb o hb e=>eb b o hb e) f0 f1 f3 f4 f5⟩
 self:=λ_ _ _ _ _ st h=>wpAny_pyIter_listiter st h
theorem Wv{P:Program}{w:World}{K:PySem.W.Frag}{tg:Expr}(it:Addr)(lo:Int)(n:Nat):J0z P w K tg (Itr lo n) [it] it (λi h=>IsRangeIter h it (lo+(i:Nat) * 1) ((n:Int) - (i:Nat)) 1) where
 mem:=by simp
 obj:=λi h st b hb=>by
  have e:b=it:=by simpa using hb
  subst e
  exact⟨_,st,λv z=>by
   have z':Data.fields _=Data.cell v:=z
   cases z'⟩
 keep:=λi h h' st k=>k it (by simp) _ st
 item:=by
  intro X hP hw hK hc i pins s σ H E I hf st hg;subst hP hw hK;obtain⟨f0,f1,f2,f3,f4,f5⟩:=hf it (by simp);have W:=Walks.range (prog:=X.prog) (w:=X.w) (I.ok.hd hc) it lo 1 n;refine W.item i s _ _ hg st λv h' tk hv st' kk=>?_;obtain⟨t,rfl⟩:=hv;have I1:Inv X pins σ H {s with heap:=h',toks:=tk}:=I.turned (λb o hb e=>kk b o (by simpa using hb) e) f0 f1 f3 f4 f5;refine⟨_,rfl,J2i (s:={s with heap:=h',toks:=tk}) (n:="range_iterator") st' rfl rfl (by decide) ⟨.int (lo+i),H,I1,⟨t,?_⟩,⟨rfl,rfl⟩,st',λb hb=>(hf b hb).1⟩⟩;rw[Int.mul_one]
 done:=by
   intro X hP hw hK hc i pins s σ H E I hf st hg;subst hP hw hK;obtain⟨f0,f1,f2,f3,f4,f5⟩:=hf it (by simp)
   exact wpAny_pyNext_range_end (I.ok.hd hc) st (by have:n<=i:=hg;omega) λh' eb=>⟨rfl,I.turned (t':=s.toks) (λb o hb e=>eb b o hb e) f0 f1 f3 f4 f5⟩
 self:=λ_ _ _ _ _ st h=>wpAny_pyIter_rangeiter st h
section
variable {X:Cx}{tg:Expr}
def J8u(K:PySem.W.Frag)(tl:TE):TI:=λσ H R=>tl σ H λx H1=>∃a,x= .ref a/\(∃xs,SqL K H1 a xs)/\R (Itl K a) H1
theorem Cs{l:Expr}{tl:TE}(hl:PE X l tl):PI X tg l (J8u X.K tl):=by
 intro pins s σ H R I h;refine thn (hl pins s σ H _ I h) λv s1 hq_=>?_;obtain⟨x,H1,I1,r1,q1⟩:=hq_;obtain⟨a,e,⟨xs,hq⟩,q⟩:=q1;subst e;cases r1;obtain⟨its,rv,p,hz⟩:=I1.list hq;refine RW p.isList ?_;refine⟨s1.heap.objs.size,[s1.heap.objs.size],_,_,H1,rfl,I1.kept (t':=s1.toks) λb o e=>Fm _ e,J10 a _,⟨_,FK _ rfl,rfl,rfl⟩,λb hb=>?_,q⟩
 have e:b=s1.heap.objs.size:=by simpa using hb
 subst e;exact I1.fpOk (Fg _) (I1.hok.fresh (Fg _))
theorem Ue{pins:List (Addr×Obj)}{σ:St}{H:Hp}{s:Shared}{R:It->Hp->Prop}{E:Value->Shared->Prop}{lo hi:Int}{t u v:Tok}{tk:Nat}(I:Inv X pins σ H s)(h1:-(2 ^ 62)<=lo)(h2:lo < 2 ^ 62)(h3:-(2 ^ 62)<=hi)(h4:hi < 2 ^ 62)
 (q:R (Itr lo (hi - lo).toNat) H):wpAny (model X.prog X.w) X.A (pyIter (.ref s.heap.objs.size)) (PIE X pins σ tg R) E {s with heap:=s.heap.push {cls:= .type "range",data:= .fields #[.int lo t,.int hi u,.int 1 v]},toks:=tk}:=by
 refine wpAny_pyIter_range (IsRange.new ..) (small_one h1 h2 h3 h4) ?_;have I1:Inv X pins σ H {s with heap:=s.heap.push {cls:= .type "range",data:= .fields #[.int lo t,.int hi u,.int 1 v]},toks:=tk}:=I.kept λb o e=>Fm _ e
 refine⟨(s.heap.push {cls:= .type "range",data:= .fields #[.int lo t,.int hi u,.int 1 v]}).objs.size,[(s.heap.push {cls:= .type "range",data:= .fields #[.int lo t,.int hi u,.int 1 v]}).objs.size],_,_,H,rfl,
  I1.kept (t':=tk) λb o e=>Fm _ e,Wv _ lo (hi - lo).toNat,?_,λb hb=>?_,q⟩
 . have e1:lo+((0:Nat):Int) * 1=lo:=by simp
   have e2:(((hi - lo).toNat:Nat):Int) - ((0:Nat):Int)=Builtin.Range.rangeSize lo hi 1:=by rw[rangeSize_one];split <;> omega
   show IsRangeIter _ _ (lo+((0:Nat):Int) * 1) ((((hi - lo).toNat:Nat):Int) - ((0:Nat):Int)) 1;rw[e1,e2];exact FK _ rfl
 . have e:b=(s.heap.push {cls:= .type "range",data:= .fields #[.int lo t,.int hi u,.int 1 v]}).objs.size:=by simpa using hb
   subst e;exact I1.fpOk (Fg _) (I1.hok.fresh (Fg _))
def J8v(ta:TA):TI:=λσ H R=>ta σ H λvs H1=>∃j:Int,vs=[.int j]/\-(2 ^ 62)<=j/\j < 2 ^ 62/\R (Itr 0 j.toNat) H1
def J8w(ta:TA):TI:=λσ H R=>ta σ H λvs H1=>∃i j:Int,vs=[.int i,.int j]/\(-(2 ^ 62)<=i/\i < 2 ^ 62/\-(2 ^ 62)<=j/\j < 2 ^ 62)/\R (Itr i (j - i).toNat) H1
theorem Cu{a:Expr}{ta:TA}{p pos:Pos}(hg:Gl X "range")(hm:X.mg "range"=none)(ha:PA X [a] ta)(hs:starEach [a] X.env=[(false,eval a X.env)]:=by rfl):PI X tg (.Call (.Name "range" p) [a] [] pos) (J8v ta):=by
 intro pins s σ H R I h;refine Call_ (Km I hg hm boot_range (HX (thn (ha pos pins s σ H _ I h) λus s1 hq_=>?_) hs rfl));obtain⟨vs,H1,I1,r1,q1⟩:=hq_;obtain⟨j,e,q1,q2,q⟩:=q1;subst e
 cases r1 with
 | cons r rr=>
  cases rr;obtain⟨t,rfl⟩:=r;exact call_range_1 (Ue I1 (by omega) (by omega) q1 q2 (by simpa using q))
theorem J11{a b:Expr}{ta:TA}{p pos:Pos}(hg:Gl X "range")(hm:X.mg "range"=none)(ha:PA X [a,b] ta)(hs:starEach [a,b] X.env=[(false,eval a X.env),(false,eval b X.env)]:=by rfl)(hs2:starEach [b] X.env=[(false,eval b X.env)]:=by rfl):
 PI X tg (.Call (.Name "range" p) [a,b] [] pos) (J8w ta):=by
 intro pins s σ H R I h;refine Call_ (Km I hg hm boot_range (HX (thn (ha pos pins s σ H _ I h) λus s1 ⟨vs,H1,I1,r1,q1⟩=>?_) (by rw[hs,hs2]) (by rw[hs2];rfl)));obtain⟨i,j,e,⟨q1,q2,q3,q4⟩,q⟩:=q1;subst e
 cases r1 with
 | cons r rr=>
  cases rr with
  | cons r' rr=>
   cases rr;obtain⟨t,rfl⟩:=r;obtain⟨t',rfl⟩:=r';exact call_range_2 (Ue I1 q1 q2 q3 q4 q)
def Jbv(wi:TI)(g:TG)(tb:TS):TS:=λD σ H=>wi σ H λJ H1=>∃W:Nat->Nat->St->Hp->Prop,(∃m,W 0 m σ H1)/\∀i m σ H,W i m σ H->
 (J.stop i H/\D.nx σ H)\/(J.go i H/\∃N:St->Hp->Prop,(∀σ' H',N σ' H'->∃m',m' < m/\W (i+1) m' σ' H')/\∀x H',J.yld i H x H'->g x σ H' λσ2 H2=>tb {D with nx:=N,ct:=N,bk:=D.nx} σ2 H2)
def Nr(fp:List Addr)(h:Heap):List (Addr×Obj):=fp.filterMap λb=>(h.get? b).map λo=>(b,o)
theorem Im{fp:List Addr}{h:Heap}{b:Addr}{o:Obj}(hb:b∈fp)(e:h.get? b=some o):(b,o)∈Nr fp h:=List.mem_filterMap.mpr ⟨b,hb,by rw[e];rfl⟩
theorem J12{fp:List Addr}{h:Heap}{p:Addr×Obj}(hp:p∈Nr fp h):p.1∈fp/\h.get? p.1=some p.2:=by
 obtain⟨b,hb,e⟩:=List.mem_filterMap.mp hp
 cases q:h.get? b with
 | none=>rw[q]at e;cases e
 | some o=>
  rw[q]at e;have e':(b,o)=p:=FG e;subst e';exact⟨hb,q⟩
theorem Inv.pinned{pins:List (Addr×Obj)}{σ:St}{H:Hp}{s:Shared}{fp:List Addr}(I:Inv X pins σ H s)(hf:∀b∈fp,E8 X pins H b)(ho:∀b∈fp,∃o,s.heap.get? b=some o/\∀v,o.data≠ .cell v):Inv X (pins++Nr fp s.heap) σ H s:=
 I.pins_of λp hp=>(FL.mp hp).elim (λz=>I.pin p (Fv _ z)) λz=>by
  obtain⟨hb,e⟩:=J12 z;obtain⟨f0,f1,f2,_⟩:=hf p.1 hb;obtain⟨o,e',d⟩:=ho p.1 hb;rw[e]at e';cases e';exact⟨e,f0,f1,f2,d⟩
theorem Inv.unpinned{pins pl:List (Addr×Obj)}{σ:St}{H:Hp}{s:Shared}(I:Inv X (pins++pl) σ H s):Inv X pins σ H s:=I.pins_of λp hp=>I.pin p (Fv _ (Hf _ hp))
theorem Ci{iter:Expr}{body:List Stmt}{wi:TI}{g:TG}{tb:TS}{pos:Pos}(hp:PassesOwn (model X.prog X.w) X.A X.env X.xe)(hc:X.calm=true)(hi:PI X tg iter wi)(hg:PG X tg g)(hb:PSs X body tb)
 (hs:∀x,foldedSetIterable iter X.env x=pure x:=by intro _;rfl):PS X (.For tg iter body [] pos) (Jbv wi g tb):=by
 intro pins s σ H D I h;refine wpAny_For (thn (hi pins s σ H _ I h) λv s1 h1=>thn h1 λitv s2 h2=>?_) hs;obtain⟨it,fp,tn,J,H2,e,I2,T,st2,f2,W,⟨m0,w0⟩,turn⟩:=h2;subst e
 have stat:∀{H':Hp},(∀b∈fp,H' b=none)->∀b∈fp,E8 X pins H' b:=λhn b hb=>⟨hn b hb,(f2 b hb).2⟩
 refine codeAny_forLoop_any (λn s'=>∃i σ' H',Inv X pins σ' H' s'/\tn i s'.heap/\(∀b∈fp,H' b=none)/\W i n σ' H') ?_ m0 ⟨0,σ,H2,I2,st2,λb hb=>(f2 b hb).1,w0⟩;rintro n s3 ⟨i,σ3,H3,I3,st3,fr3,w3⟩;rcases turn i n σ3 H3 w3 with ⟨stop,qn⟩ | ⟨go,N,hN,step⟩
 . refine Rf hp (thn (T.done X rfl rfl rfl hc i pins s3 σ3 H3 X.xe I3 (stat fr3) st3 stop) λr s4 ⟨hr,I4⟩=>?_)
   subst hr;exact J6 ⟨σ3,H3,I4,qn⟩
 . refine Rf hp (thn (T.item X rfl rfl rfl hc i pins s3 σ3 H3 X.xe I3 (stat fr3) st3 go) λr s4 ⟨u,hr,h4⟩=>?_)
   subst hr;refine Rf hp (thn h4 λ_ s5 hq_=>?_);obtain⟨x,H5,I5,r5,y5,st5,fr5⟩:=hq_;have I5':=I5.pinned (stat fr5) (T.obj _ _ st5);refine Rf hp (thn (hg _ s5 σ3 H5 x u _ I5' r5 (step x H5 y5)) λ_ s6 hq_=>?_);obtain⟨σ6,H6,I6,q6⟩:=hq_;refine Rf hp (thn (hb _ s6 σ6 H6 _ I6 q6) λf s7 q7=>?_)
   have again:∀{σ7:St}{H7:Hp},Inv X (pins++Nr fp s5.heap) σ7 H7 s7->N σ7 H7->∃m,m < n/\∃i σ' H',Inv X pins σ' H' s7/\tn i s7.heap/\(∀b∈fp,H' b=none)/\W i m σ' H':=λ{σ7 H7} I7 n7=>by
    obtain⟨m',hm,w7⟩:=hN σ7 H7 n7;refine⟨m',hm,i+1,σ7,H7,I7.unpinned,T.keep _ _ _ st5 λb hb o e=>(I7.pin (b,o) (Fv _ (Fv _ (Im hb e)))).1,λb hb=>?_,w7⟩;obtain⟨o,e,d⟩:=T.obj _ _ st5 b hb;exact(I7.pin (b,o) (Fv _ (Fv _ (Im hb e)))).2.1
   cases f with
   | next=>obtain⟨σ7,H7,I7,n7⟩:=q7;exact again I7 n7
   | cont=>obtain⟨σ7,H7,I7,n7⟩:=q7;exact again I7 n7
   | brk=>obtain⟨σ7,H7,I7,q7⟩:=q7;exact⟨σ7,H7,I7.unpinned,q7⟩
   | ret v=>obtain⟨x7,σ7,H7,I7,r7,q7⟩:=q7;exact⟨x7,σ7,H7,I7.unpinned,r7,q7⟩
end
theorem J2j{K:PySem.W.Frag}{a:Addr}{xs:List V}{g:TG}{tb:TS}{D:Kl}{σ:St}{H:Hp}(Pv:Nat->St->Hp->Prop)(h0:Pv 0 σ H)(hl:∀i σ H,i<=xs.length->Pv i σ H->SqL K H a xs)
 (hs:∀i x σ H,xs[i]?=some x->Pv i σ H->g x σ H λσ2 H2=>tb {D with nx:=Pv (i+1),ct:=Pv (i+1),bk:=D.nx} σ2 H2) (hd:∀σ H,Pv xs.length σ H->D.nx σ H):
 ∃W:Nat->Nat->St->Hp->Prop,(∃m,W 0 m σ H)/\∀i m σ H,W i m σ H->
  ((Itl K a).stop i H/\D.nx σ H)\/((Itl K a).go i H/\∃N:St->Hp->Prop,(∀σ' H',N σ' H'->∃m',m' < m/\W (i+1) m' σ' H')/\∀x H',(Itl K a).yld i H x H'->g x σ H' λσ2 H2=>tb {D with nx:=N,ct:=N,bk:=D.nx} σ2 H2):=by
 refine⟨λi m σ H=>m=xs.length - i/\i<=xs.length/\Pv i σ H,⟨xs.length,by simp,FM _,h0⟩,?_⟩;rintro i m σ H ⟨rfl,hi,p⟩;have q:=hl i σ H hi p
 by_cases hlt:i < xs.length
 . refine .inr ⟨⟨xs,xs[i],q,by simp[hlt]⟩,Pv (i+1),λσ' H' p'=>⟨xs.length - (i+1),by omega,rfl,hlt,p'⟩,λx H' y=>?_⟩
   obtain⟨e,y⟩:=y;subst e;exact hs i x σ _ (y xs q) p
 . have e:i=xs.length:=by omega
   subst e;exact .inl ⟨⟨xs,q,Fg _⟩,hd σ H p⟩
theorem J13{lo:Int}{n:Nat}{g:TG}{tb:TS}{D:Kl}{σ:St}{H:Hp}(Pv:Nat->St->Hp->Prop)(h0:Pv 0 σ H)
 (hs:∀i σ H,i < n->Pv i σ H->g (.int (lo+i)) σ H λσ2 H2=>tb {D with nx:=Pv (i+1),ct:=Pv (i+1),bk:=D.nx} σ2 H2) (hd:∀σ H,Pv n σ H->D.nx σ H):
 ∃W:Nat->Nat->St->Hp->Prop,(∃m,W 0 m σ H)/\∀i m σ H,W i m σ H->
  ((Itr lo n).stop i H/\D.nx σ H)\/((Itr lo n).go i H/\∃N:St->Hp->Prop,(∀σ' H',N σ' H'->∃m',m' < m/\W (i+1) m' σ' H')/\∀x H',(Itr lo n).yld i H x H'->g x σ H' λσ2 H2=>tb {D with nx:=N,ct:=N,bk:=D.nx} σ2 H2):=by
 refine⟨λi m σ H=>m=n - i/\i<=n/\Pv i σ H,⟨n,by simp,FM _,h0⟩,?_⟩;rintro i m σ H ⟨rfl,hi,p⟩
 by_cases hlt:i < n
 . refine .inr ⟨hlt,Pv (i+1),λσ' H' p'=>⟨n - (i+1),by omega,rfl,hlt,p'⟩,λx H' y=>?_⟩
   obtain⟨e,y⟩:=y;subst e y;exact hs i σ _ hlt p
 . have e:i=n:=by omega
   subst e;exact .inl ⟨Fg _,hd σ H p⟩
abbrev R2:=V->V->Hp->VK->Prop
def OpR(X:Cx)(f:Value->Value->Sem Value)(r:R2):Prop:=
 ∀(pins:List (Addr×Obj)) (s:Shared) (σ:St) (H:Hp) (x y:V) (v u:Value) (Q:VK),Inv X pins σ H s->B1 x v->B1 y u->r x y H Q->
   wpAny (model X.prog X.w) X.A (f v u) (EP X pins σ Q) X.xe s
def UnR(X:Cx)(f:Value->Sem Value)(r:V->Hp->VK->Prop):Prop:=
 ∀(pins:List (Addr×Obj)) (s:Shared) (σ:St) (H:Hp) (x:V) (v:Value) (Q:VK),Inv X pins σ H s->B1 x v->r x H Q->
   wpAny (model X.prog X.w) X.A (f v) (EP X pins σ Q) X.xe s
def Gj(X:Cx)(f:Value)(r:List V->Hp->VK->Prop):Prop:=
 ∀(pins:List (Addr×Obj)) (s:Shared) (σ:St) (H:Hp) (xs:List V) (us:List Value) (Q:VK),Inv X pins σ H s->B3 xs us->r xs H Q->
   wpAny (model X.prog X.w) X.A (call f us) (EP X pins σ Q) X.xe s
def tOp(r:R2)(ta tb:TE):TE:=λσ H Q=>ta σ H λx H1=>tb σ H1 λy H2=>r x y H2 Q
def tUn(r:V->Hp->VK->Prop)(ta:TE):TE:=λσ H Q=>ta σ H λx H1=>r x H1 Q
def rI(C:Int->Int->Prop)(g:Int->Int->V):R2:=λx y H Q=>∃i j,x= .int i/\y= .int j/\C i j/\Q (g i j) H
def rI0(g:Int->Int->V):R2:=λx y H Q=>∃i j,x= .int i/\y= .int j/\Q (g i j) H
def rU(g:Int->V):V->Hp->VK->Prop:=λx H Q=>∃i,x= .int i/\Q (g i) H
section
variable {X:Cx}{a b c:Expr}{ta tb tc:TE}{pos:Pos}
theorem Ja2(ha:PE X a ta)(hb:PE X b tb){pins:List (Addr×Obj)}{s:Shared}{σ:St}{H:Hp}{R:V->V->Hp->Prop}(I:Inv X pins σ H s)
 (h:ta σ H λx H1=>tb σ H1 λy H2=>R x y H2) {Q:Value->Shared->Prop}{f:Value->Value->Sem Value}
 (hf:∀v u s2 x y H2,Inv X pins σ H2 s2->B1 x v->B1 y u->R x y H2->wpAny (model X.prog X.w) X.A (f v u) Q X.xe s2):
 wpAny (model X.prog X.w) X.A (eval a X.env) (λv s₁=>wpAny (model X.prog X.w) X.A (eval b X.env) (λu s₂=>wpAny (model X.prog X.w) X.A (f v u) Q X.xe s₂) X.xe s₁) X.xe s:=by
 refine thn (ha pins s σ H _ I h) λv s1 hq_=>?_;obtain⟨x,H1,I1,r1,q1⟩:=hq_;refine thn (hb pins s1 σ H1 _ I1 q1) λu s2 hq_=>?_;obtain⟨y,H2,I2,r2,q2⟩:=hq_;exact hf v u s2 x y H2 I2 r1 r2 q2
theorem Ao{op:Operator}{r:R2}(ho:OpR X (binaryOp op) r)(ha:PE X a ta)(hb:PE X b tb):PE X (.BinOp a op b pos) (tOp r ta tb):=by
 intro pins s σ H Q I h;exact wpAny_BinOp (Ja2 ha hb I h λv u s2 x y H2 I2 rx ry q=>ho pins s2 σ H2 x y v u Q I2 rx ry q)
theorem Jbw{op:UnaryOp}{r:V->Hp->VK->Prop}(ho:UnR X (unaryOp op) r)(ha:PE X a ta):PE X (.UnaryOp op a pos) (tUn r ta):=by
 intro pins s σ H Q I h;exact UnaryOp_ (thn (ha pins s σ H _ I h) λv s1 ⟨x,H1,I1,r1,q1⟩=>ho pins s1 σ H1 x v Q I1 r1 q1)
theorem opI{f:Value->Value->Sem Value}{C:Int->Int->Prop}{g:Int->Int->Int}
 (rule:∀(i j:Int) (t u:Tok) (s:Shared) (Q:Value->Shared->Prop) (E:Value->Shared->Prop),C i j->Q (.int (g i j) s.toks) {s with toks:=s.toks+1}->wpAny (model X.prog X.w) X.A (f (.int i t) (.int j u)) Q E s):
 OpR X f (rI C λi j=> .int (g i j)):=by
 intro pins s σ H x y v u Q I rx ry h;obtain⟨i,j,rfl,rfl,hc,q⟩:=h;obtain⟨t,rfl⟩:=rx;obtain⟨t',rfl⟩:=ry;exact rule i j t t' s _ _ hc ⟨.int (g i j),H,I.tok _,⟨_,rfl⟩,q⟩
theorem Jbx{f:Value->Value->Sem Value}{g:Int->Int->Int}
 (rule:∀(i j:Int) (t u:Tok) (s:Shared) (Q:Value->Shared->Prop) (E:Value->Shared->Prop),Q (.int (g i j) s.toks) {s with toks:=s.toks+1}->wpAny (model X.prog X.w) X.A (f (.int i t) (.int j u)) Q E s):
 OpR X f (rI0 λi j=> .int (g i j)):=by
 intro pins s σ H x y v u Q I rx ry h;obtain⟨i,j,rfl,rfl,q⟩:=h;obtain⟨t,rfl⟩:=rx;obtain⟨t',rfl⟩:=ry;exact rule i j t t' s _ _ ⟨.int (g i j),H,I.tok _,⟨_,rfl⟩,q⟩
theorem Ja3{f:Value->Value->Sem Value}{g:Int->Int->Bool}
 (rule:∀(i j:Int) (t u:Tok) (s:Shared) (Q:Value->Shared->Prop) (E:Value->Shared->Prop),Q (.bool (g i j)) s->wpAny (model X.prog X.w) X.A (f (.int i t) (.int j u)) Q E s):
 OpR X f (rI0 λi j=> .bl (g i j)):=by
 intro pins s σ H x y v u Q I rx ry h;obtain⟨i,j,rfl,rfl,q⟩:=h;obtain⟨t,rfl⟩:=rx;obtain⟨t',rfl⟩:=ry;exact rule i j t t' s _ _ ⟨.bl (g i j),H,I,rfl,q⟩
def Jby(i j:Int):Prop:=0 < j/\j < 1073741824
def Jbz(i j:Int):Prop:=0<=j/\j<=1000000/\i.natAbs < 2 ^ 64
def J2k(i j:Int):Prop:=(-(2 ^ 64) < i/\i < 2 ^ 64)\/(-(2 ^ 64) < j/\j < 2 ^ 64)
theorem J2k.ok{i j:Int}(h:J2k i j):IntMulOk i j:=by
 rcases h with ⟨h1,h2⟩ | ⟨h1,h2⟩
 . exact .of_left (intBits_le_64 h1 h2)
 . exact .of_right (intBits_le_64 h1 h2)
theorem Bk:OpR X (binaryOp .Add) (rI0 λi j=> .int (i+j)):=Jbx λ_ _ _ _ _ _ _ q=>add_int q
theorem E9:OpR X (binaryOp .Sub) (rI0 λi j=> .int (i - j)):=Jbx λ_ _ _ _ _ _ _ q=>sub_int q
theorem Ww:OpR X (binaryOp .Mult) (rI J2k λi j=> .int (i * j)):=opI λ_ _ _ _ _ _ _ hc q=>mul_int q hc.ok
theorem Io:OpR X (binaryOp .FloorDiv) (rI Jby λi j=> .int (i / j)):=opI λi j _ _ _ _ _ hc q=>by
 have h1:(0:Int) < j:=hc.1;have h2:j < 1073741824:=hc.2;exact floordiv_int (by omega) (by rw[Int.fdiv_eq_ediv_of_nonneg i (by omega)];exact q) (.inl (PyProof.noPylong_small (by omega)))
theorem Dn:OpR X (binaryOp .Mod) (rI (λ_ j=>0 < j) λi j=> .int (i % j)):=opI λi j _ _ _ _ _ hc q=>by
 have h1:(0:Int) < j:=hc;exact mod_int' (by omega) (by rw[Int.fmod_eq_emod_of_nonneg i (by omega)];exact q)
theorem J2l:OpR X (binaryOp .Pow) (rI Jbz λi j=> .int (i ^ j.toNat)):=opI λ_ _ _ _ _ _ _ hc q=>pow_int_small hc.1 hc.2.1 hc.2.2 q
theorem unI{f:Value->Sem Value}{g:Int->Int}
 (rule:∀(i:Int) (t:Tok) (s:Shared) (Q:Value->Shared->Prop) (E:Value->Shared->Prop),Q (.int (g i) s.toks) {s with toks:=s.toks+1}->wpAny (model X.prog X.w) X.A (f (.int i t)) Q E s):
 UnR X f (rU λi=> .int (g i)):=by
 intro pins s σ H x v Q I rx h;obtain⟨i,rfl,q⟩:=h;obtain⟨t,rfl⟩:=rx;exact rule i t s _ _ ⟨.int (g i),H,I.tok _,⟨_,rfl⟩,q⟩
theorem Ja4:UnR X (unaryOp .USub) (rU λi=> .int (-i)):=unI λ_ _ _ _ _ q=>neg_int q
end
def scal:V->V->Bool
 | .non,.non=>true | .non,.int _=>true | .int _,.non=>true | .non,.bl _=>true | .bl _,.non=>true | .non,.str _=>true | .str _,.non=>true
 | .int _,.int _=>true | .bl _,.bl _=>true | .str _,.str _=>true | .byt _,.byt _=>true
 | .int _,.str _=>true | .str _,.int _=>true | .bl _,.str _=>true | .str _,.bl _=>true
 | _,_=>false
def rEq:R2:=λx y H Q=>scal x y=true/\Q (.bl (decide (x=y))) H
def rNe:R2:=λx y H Q=>scal x y=true/\Q (.bl (!decide (x=y))) H
theorem Xx{i j:Int}:decide (V.int i=V.int j)=(i==j):=by
 rw[RL];simp
theorem J2m{i j:Bool}:decide (V.bl i=V.bl j)=(i==j):=by
 rw[RL];simp
theorem Xy{i j:Str}:decide (V.str i=V.str j)=(i==j):=by
 rw[RL];simp
theorem Xz{i j:Array UInt8}:decide (V.byt i=V.byt j)=(i.toList==j.toList):=by
 rw[RL];cases i;cases j;simp
section
variable {X:Cx}{a b c:Expr}{ta tb tc:TE}{pos:Pos}
theorem Bd{pins:List (Addr×Obj)}{σ:St}{H:Hp}{s:Shared}{Q:VK}{k k':Bool}(I:Inv X pins σ H s)(q:Q (.bl k) H)(e:k=k'):EP X pins σ Q (.bool k') s:=by
 subst e;exact⟨.bl k,H,I,rfl,q⟩
theorem Ki:OpR X (compareOp .Eq) rEq:=by
 intro pins s σ H x y v u Q I rx ry h;obtain⟨hs,q⟩:=h
 cases x with
 | non=>
  cases rx
  cases y with
  | non=>cases ry;exact PySem.EqNone.eq_none_none (Bd I q (by simp))
  | bl j=>cases ry;exact PySem.EqNone.eq_none_bool (Bd I q (by simp))
  | int j=>obtain⟨t',rfl⟩:=ry;exact PySem.EqNone.eq_none_int (Bd I q (by simp))
  | str j=>obtain⟨t',rfl⟩:=ry;exact PySem.EqNone.eq_none_str (Bd I q (by simp))
  | _=>exact absurd (show false=true from hs) FF
 | bl i=>
  cases rx
  cases y with
  | non=>cases ry;exact PySem.EqNone.eq_bool_none (Bd I q (by simp))
  | bl j=>cases ry;exact eq_bool (Bd I q J2m)
  | str j=>obtain⟨t',rfl⟩:=ry;exact PySem.EqMixed.eq_bool_str (Bd I q (by simp))
  | _=>exact absurd (show false=true from hs) FF
 | int i=>
  obtain⟨t,rfl⟩:=rx
  cases y with
  | non=>cases ry;exact PySem.EqNone.eq_int_none (Bd I q (by simp))
  | int j=>obtain⟨t',rfl⟩:=ry;exact eq_int (Bd I q Xx)
  | str j=>obtain⟨t',rfl⟩:=ry;exact PySem.EqMixed.eq_int_str (Bd I q (by simp))
  | _=>exact absurd (show false=true from hs) FF
 | str i=>
  obtain⟨t,rfl⟩:=rx
  cases y with
  | non=>cases ry;exact PySem.EqNone.eq_str_none (Bd I q (by simp))
  | bl j=>cases ry;exact PySem.EqMixed.eq_str_bool (Bd I q (by simp))
  | int j=>obtain⟨t',rfl⟩:=ry;exact PySem.EqMixed.eq_str_int (Bd I q (by simp))
  | str j=>obtain⟨t',rfl⟩:=ry;exact eq_str (Bd I q Xy)
  | _=>exact absurd (show false=true from hs) FF
 | byt i=>
  obtain⟨t,rfl⟩:=rx
  cases y with
  | byt j=>obtain⟨t',rfl⟩:=ry;exact PySem.W.eq_bytes (Bd I q Xz)
  | _=>exact absurd (show false=true from hs) FF
 | _=>cases y <;> exact absurd (show false=true from hs) FF
theorem Ko:OpR X (compareOp .NotEq) rNe:=by
 intro pins s σ H x y v u Q I rx ry h;obtain⟨hs,q⟩:=h
 cases x with
 | non=>
  cases rx
  cases y with
  | non=>cases ry;exact PySem.EqNone.ne_none_none (Bd I q (by simp))
  | bl j=>cases ry;exact PySem.EqNone.ne_none_bool (Bd I q (by simp))
  | int j=>obtain⟨t',rfl⟩:=ry;exact PySem.EqNone.ne_none_int (Bd I q (by simp))
  | str j=>obtain⟨t',rfl⟩:=ry;exact PySem.EqNone.ne_none_str (Bd I q (by simp))
  | _=>exact absurd (show false=true from hs) FF
 | bl i=>
  cases rx
  cases y with
  | non=>cases ry;exact PySem.EqNone.ne_bool_none (Bd I q (by simp))
  | bl j=>cases ry;exact ne_bool (Bd I q (congrArg not J2m))
  | str j=>obtain⟨t',rfl⟩:=ry;exact PySem.EqMixed.ne_bool_str (Bd I q (by simp))
  | _=>exact absurd (show false=true from hs) FF
 | int i=>
  obtain⟨t,rfl⟩:=rx
  cases y with
  | non=>cases ry;exact PySem.EqNone.ne_int_none (Bd I q (by simp))
  | int j=>obtain⟨t',rfl⟩:=ry;exact ne_int (Bd I q (congrArg not Xx))
  | str j=>obtain⟨t',rfl⟩:=ry;exact PySem.EqMixed.ne_int_str (Bd I q (by simp))
  | _=>exact absurd (show false=true from hs) FF
 | str i=>
  obtain⟨t,rfl⟩:=rx
  cases y with
  | non=>cases ry;exact PySem.EqNone.ne_str_none (Bd I q (by simp))
  | bl j=>cases ry;exact PySem.EqMixed.ne_str_bool (Bd I q (by simp))
  | int j=>obtain⟨t',rfl⟩:=ry;exact PySem.EqMixed.ne_str_int (Bd I q (by simp))
  | str j=>obtain⟨t',rfl⟩:=ry;exact ne_str (Bd I q (congrArg not Xy))
  | _=>exact absurd (show false=true from hs) FF
 | byt i=>
  obtain⟨t,rfl⟩:=rx
  cases y with
  | byt j=>obtain⟨t',rfl⟩:=ry;exact PySem.W.ne_bytes (Bd I q (congrArg not Xz))
  | _=>exact absurd (show false=true from hs) FF
 | _=>cases y <;> exact absurd (show false=true from hs) FF
theorem Ml:OpR X (compareOp .Lt) (rI0 λi j=> .bl (decide (i < j))):=Ja3 λ_ _ _ _ _ _ _ q=>lt_int q
theorem J2n:OpR X (compareOp .LtE) (rI0 λi j=> .bl (decide (i<=j))):=Ja3 λ_ _ _ _ _ _ _ q=>le_int q
theorem Ew:OpR X (compareOp .Gt) (rI0 λi j=> .bl (decide (j < i))):=Ja3 λ_ _ _ _ _ _ _ q=>gt_int q
theorem J14:OpR X (compareOp .In) (λx y H Q=>∃i j,x= .str i/\y= .str j/\Q (.bl (!(Builtin.Str.occurrences j i 0 j.length 1).isEmpty)) H):=by
 intro pins s σ H x y v u Q I rx ry h;obtain⟨i,j,rfl,rfl,q⟩:=h;obtain⟨t,rfl⟩:=rx;obtain⟨t',rfl⟩:=ry;exact in_str (Bd I q rfl)
theorem Pk:OpR X (compareOp .Is) (λx y H Q=>y= .non/\Q (.bl (decide (x= .non))) H):=by
 intro pins s σ H x y v u Q I rx ry h;obtain⟨rfl,q⟩:=h;cases ry;refine is_none_gen (Bd I q ?_)
 cases x <;> first
  | (cases rx;rfl)
  | (obtain⟨t,rfl⟩:=rx;rfl)
theorem Y0:OpR X (compareOp .IsNot) (λx y H Q=>y= .non/\Q (.bl (!decide (x= .non))) H):=by
 intro pins s σ H x y v u Q I rx ry h;obtain⟨rfl,q⟩:=h;cases ry;refine isnot_none_gen (Bd I q ?_)
 cases x <;> first
  | (cases rx;rfl)
  | (obtain⟨t,rfl⟩:=rx;rfl)
theorem nomark(b:Expr){op:CmpOp}(h:op≠ .In:=by decide)(h2:op≠ .NotIn:=by decide):behindInMarks op b=false:=by
 have e1:(op==CmpOp.In)=false:=by cases op <;> first | rfl | exact absurd rfl h
 have e2:(op==CmpOp.NotIn)=false:=by cases op <;> first | rfl | exact absurd rfl h2
 cases b <;> simp[behindInMarks,e1,e2]
theorem Ef{op:CmpOp}{r:R2}(ho:OpR X (compareOp op) r)(ha:PE X a ta)(hb:PE X b tb)(hm:behindInMarks op b=false):PE X (.Compare a [op] [b] pos) (tOp r ta tb):=by
 intro pins s σ H Q I h;exact wpAny_Compare1 (Ja2 ha hb I h λv u s2 x y H2 I2 rx ry q=>ho pins s2 σ H2 x y v u Q I2 rx ry q) hm
def J2o(t:TE):TT:=λσ H Q=>t σ H λx H'=>∃k,x= .bl k/\Q k H'
theorem Ah{op:CmpOp}{r:R2}(ho:OpR X (compareOp op) r)(ha:PE X a ta)(hb:PE X b tb)(hm:behindInMarks op b=false):PT X (.Compare a [op] [b] pos) (J2o (tOp r ta tb)):=by
 intro pins s σ H Q I h
 refine wpAny_isTrue_Compare1 (thn (ha pins s σ H _ I h) λv s1 ⟨x,H1,I1,r1,q1⟩=>thn (hb pins s1 σ H1 _ I1 q1) λu s2 ⟨y,H2,I2,r2,q2⟩=>
  thn (ho pins s2 σ H2 x y v u _ I2 r1 r2 q2) λc s3 ⟨z,H3,I3,r3,k,e,q3⟩=>?_) hm
 subst e;cases r3;exact Hv ⟨H3,I3,q3⟩
def Wx(r r':R2)(ta tb tc:TE):TE:=λσ H Q=>ta σ H λx H1=>tb σ H1 λy H2=>r x y H2 λz H3=>∃k,z= .bl k/\
 (if k=true then tc σ H3 λw' H4=>r' y w' H4 Q else Q (.bl false) H3)
theorem J2p{op op':CmpOp}{r r':R2}(ho:OpR X (compareOp op) r)(ho':OpR X (compareOp op') r')(ha:PE X a ta)(hb:PE X b tb)(hc:PE X c tc)
 (hm:lastMarks [op,op'] [b,c]=false:=by with_unfolding_all rfl):PE X (.Compare a [op,op'] [b,c] pos) (Wx r r' ta tb tc):=by
 intro pins s σ H Q I h
 refine Compare_chain (thn (ha pins s σ H _ I h) λv s1 ⟨x,H1,I1,r1,q1⟩=>chain_link (thn (hb pins s1 σ H1 _ I1 q1) λu s2 ⟨y,H2,I2,r2,q2⟩=>
  thn (ho pins s2 σ H2 x y v u _ I2 r1 r2 q2) λd s3 ⟨z,H3,I3,r3,k,e,q3⟩=>?_)) hm
 subst e;cases r3;refine Hv ?_
 cases k with
 | false=>exact ite_ff ⟨.bl false,H3,I3,rfl,q3⟩
 | true=>exact ite_tt (chain_last (thn (hc pins s3 σ H3 _ I3 q3) λw' s4 ⟨z',H4,I4,r4,q4⟩=>ho' pins s4 σ H4 y z' u w' Q I4 r2 r4 q4))
theorem J2q{op op':CmpOp}{r r':R2}(ho:OpR X (compareOp op) r)(ho':OpR X (compareOp op') r')(ha:PE X a ta)(hb:PE X b tb)(hc:PE X c tc)
 (hm:lastMarks [op,op'] [b,c]=false:=by with_unfolding_all rfl):PT X (.Compare a [op,op'] [b,c] pos) (J2o (Wx r r' ta tb tc)):=by
 intro pins s σ H Q I h
 refine isTrue_chain (thn (ha pins s σ H _ I h) λv s1 ⟨x,H1,I1,r1,q1⟩=>test_link (thn (hb pins s1 σ H1 _ I1 q1) λu s2 ⟨y,H2,I2,r2,q2⟩=>
  thn (ho pins s2 σ H2 x y v u _ I2 r1 r2 q2) λd s3 ⟨z,H3,I3,r3,k,e,q3⟩=>?_)) hm
 subst e;cases r3;refine Hv ?_
 cases k with
 | false=>
  obtain⟨k',e',q'⟩:=q3;cases e';exact ite_ff ⟨H3,I3,q'⟩
 | true=>
  refine ite_tt (test_last (thn (hc pins s3 σ H3 _ I3 q3) λw' s4 ⟨z',H4,I4,r4,q4⟩=>thn (ho' pins s4 σ H4 y z' u w' _ I4 r2 r4 q4) λd' s5 hq_=>?_));obtain⟨z2,H5,I5,r5,k2,e2,q5⟩:=hq_;subst e2;cases r5;exact Hv ⟨H5,I5,q5⟩
theorem Nt:(sizeLine:Nat) < 2 ^ 63:=by rw[sizeLine_eq];decide
theorem El:OpR X (binaryOp .Add) (λx y H Q=>∃i j,x= .str i/\y= .str j/\i.length+j.length<=sizeLine/\Q (.str (i++j)) H):=by
 intro pins s σ H x y v u Q I rx ry h;obtain⟨i,j,rfl,rfl,hz,q⟩:=h;obtain⟨t,rfl⟩:=rx;obtain⟨t',rfl⟩:=ry;exact add_str (λt' tk=>⟨.str (i++j),H,I.tok _,⟨_,rfl⟩,q⟩) hz
theorem Mm{x:V}{us:List Value}(r:B3 [x] us):∃u,us=[u]/\B1 x u:=by
 cases r with
 | cons r1 r2=>cases r2;exact⟨_,rfl,r1⟩
theorem J2r{x y:V}{us:List Value}(r:B3 [x,y] us):∃u w',us=[u,w']/\B1 x u/\B1 y w':=by
 cases r with
 | cons r1 r2=>
  cases r2 with
  | cons r3 r4=>cases r4;exact⟨_,_,rfl,r1,r3⟩
theorem Qt(hc:X.calm=true):Gj X (.builtin "max") (λxs H Q=>∃i j,xs=[.int i,.int j]/\Q (.int (if j > i then j else i)) H):=by
 intro pins s σ H xs us Q I r h;obtain⟨i,j,rfl,q⟩:=h;obtain⟨u,w',rfl,⟨t,rfl⟩,⟨t',rfl⟩⟩:=J2r r
 refine max_two_ints (I.ok.hd hc) λh' tk k=>⟨_,H,I.kept k,?_,q⟩
 by_cases hj:j > i
 . rw[if_pos hj,if_pos hj];exact⟨_,rfl⟩
 . rw[if_neg hj,if_neg hj];exact⟨_,rfl⟩
theorem Qu(hc:X.calm=true):Gj X (.builtin "min") (λxs H Q=>∃i j,xs=[.int i,.int j]/\Q (.int (if j < i then j else i)) H):=by
 intro pins s σ H xs us Q I r h;obtain⟨i,j,rfl,q⟩:=h;obtain⟨u,w',rfl,⟨t,rfl⟩,⟨t',rfl⟩⟩:=J2r r
 refine min_two_ints (I.ok.hd hc) λh' tk k=>⟨_,H,I.kept k,?_,q⟩
 by_cases hj:j < i
 . rw[if_pos hj,if_pos hj];exact⟨_,rfl⟩
 . rw[if_neg hj,if_neg hj];exact⟨_,rfl⟩
end
structure Wz(h:Heap)(x dx C:Addr)(mA:Str->Option Value):Prop where
 obj:h.get? x=some (PySem.W.instObj C dx)
 ns:h.Ns1 dx mA
 ne:dx≠x
theorem J15{h:Heap}{dx:Addr}{mA:Str->Option Value}(n:h.Ns1 dx mA):∃od,h.get? dx=some od/\∀name,PySem.W.lookIn name od=some (mA name):=by
 obtain⟨o,es,ep,ho,hd,hk,_,hm⟩:=n;refine⟨o,ho,λname=>?_⟩;have e:=hm name;unfold nsFind findBy at e;rw[<- Array.find?_toList]at e;unfold PySem.W.lookIn;rw[hd];dsimp only;split
 . rename_i y q
   rw[q]at e;exact congrArg some e
 . rename_i q
   rw[q]at e
   have a:es.toList.any (·.refKey)=false:=by
    rw[List.any_eq_false];intro y hy;obtain⟨z,t,hkey⟩:=hk y (Array.mem_toList_iff.mp hy);simp[DictEntry.refKey,hkey]
   have a':¬es.toList.any (·.refKey)=true:=by rw[a];exact FF
   rw[if_neg a'];exact congrArg some e
theorem Wz.look{h:Heap}{x dx C:Addr}{mA:Str->Option Value}(I:Wz h x dx C mA):∃od,PySem.W.InstAt h x (PySem.W.instObj C dx) C (some od)/\∀name,PySem.W.lookIn name od=some (mA name):=
 let ⟨od,ho,hl⟩:=J15 I.ns
 ⟨od,⟨I.obj,rfl,rfl,ho⟩,hl⟩
section
variable {prog:Program}{w:World}{A:Around}{E:Value->Shared->Prop}{s:Shared}{K:PySem.W.Frag}{x dx C f:Addr}{mA:Str->Option Value}{name:Str}{v:Value}
theorem J72{expr:Bool}{Q:Value->Shared->Prop}(X:K.In s.heap)(I:Wz s.heap x dx C mA)(hg:PySem.W.plainGet K C name=true)(hh:PySem.W.hasDictIn K C=true)
 (ha:PySem.W.findIn K (.ref C) name=some none) (hv:mA name=some v) (hv':PySem.W.handedIn v=true) (h:Q v {s with toks:=s.toks+1}):
 wpAny (model prog w) A (getAttr (.ref x) name expr) Q E s:=by
 obtain⟨od,J,hl⟩:=I.look;exact PySem.W.get_value X J (Rn hg).1 (PySem.W.findObj_own hh ha rfl (by rw[hl,hv])) hv' h
theorem J2s{pl:Sem Bool}{Q:Value×List Value->Shared->Prop}(X:K.In s.heap)(I:Wz s.heap x dx C mA)(hg:PySem.W.plainGet K C name=true)
 (hf:PySem.W.findIn K (.ref C) name=some (some (.ref f))) (ht:PySem.W.isFn K (.ref f)=true) (hv:mA name=none) (h:Q (.ref f,[.ref x]) s):
 wpAny (model prog w) A (getMethod (.ref x) name pl) Q E s:=by
 obtain⟨od,J,hl⟩:=I.look;exact PySem.W.method_fn X J (Rn hg).1 (Rn hg).2 hf (Rt.mp ht) (by show (PySem.W.lookIn name od).map (·.isSome)=some false;rw[hl,hv];rfl) h
theorem J73{ns:List Str}{Q:Unit->Shared->Prop}(X:K.In s.heap)(I:Wz s.heap x dx C mA)
 (hs:PySem.W.findIn K (.ref C) "__setattr__"=some (some (.builtin "object.__setattr__"))) (hp:PySem.W.plainOver K C=true) (ht:PySem.W.takerIn K C name=some none) (hh:PySem.W.hasDictIn K C=true)
 (hw:PySem.Within mA ns) (hsz:ns.length<=sizeLine)
 (h:∀h',Wz h' x dx C (λy=>if y=name then some v else mA y)->Heap.SameBut dx s.heap h'->Q () {s with heap:=h',toks:=s.toks+2}):
 wpAny (model prog w) A (setAttr (.ref x) name v) Q E s:=by
 obtain⟨od,J,hl⟩:=I.look;refine PySem.W.set_plain X J hs (PySem.W.osa_open (s:={s with toks:=s.toks+1}) (r:=none) X J hp ht λb=>?_);obtain⟨cd,hc,hd'⟩:=PySem.W.any_some hh;have hx:s.heap.get? x=some ⟨.ref C,some dx,.plain,#[]⟩:=I.obj;refine Fu (FX (Fu (Fu (wpAny_loadPart hx (Fu (PySem.W.Looks.here (s:={s with toks:=s.toks+1}) (PySem.W.looks_clsIn X hc) ?_))))));rw[hd'];refine FX (a:=some dx) (Fu (FX (Fu ?_)));refine wpAny_nsSet1 (s:={s with toks:=s.toks+1}) I.ns λh' hn2 hs2=>?_;obtain⟨oD,esD,epD,hoD,hdD,hcD⟩:=hn2.count (PySem.Within.cons name v hw);refine Fu (wpAny_lookBehind hoD (by rw[hdD];exact pastItsLine_dict (FO hcD (by rw[List.length_cons];omega))) ?_);exact FX (h _ ⟨(hs2.2 _ (Ne.symm I.ne)).trans I.obj,hn2,I.ne⟩ hs2)
theorem Ug{R:Result->Shared->Prop}{vs:List Value}{kw:List (Str×Value)}(X:K.In s.heap)(hm:PySem.W.makesIn K C=true)
 (hi:PySem.W.findIn K (.ref C) "__init__"=some (some (.ref f))) (hf:PySem.W.typeIn K (.ref f)=some (.type "function"))
 (h:codeAny (model prog w) (A.under (.builtin "type.__call__" ⟨.ref C::vs,kw⟩)) (.call (.ref f) ⟨.ref (s.heap.objs.size+1)::vs,kw⟩) (PySem.W.InitBack (s.heap.objs.size+1) R)
  {s with heap:=(s.heap.push PySem.W.emptyDict).push (PySem.W.instObj C s.heap.objs.size)}):
 codeAny (model prog w) A (.call (.ref C) ⟨vs,kw⟩) R s:=by
 obtain⟨hh,g,d,t,os⟩:=s;exact PySem.W.make_core (PySem.W.makes_of X hm) (PySem.W.looks_findIn X hi) (λself=>PySem.W.bind_fn X self hf) (.inl rfl) h
end
def Aa(f:Str)(v:V):List (Str×V)->List (Str×V)
 | []=>[(f,v)]
 | (g,x)::r=>if g=f then (g,v)::r else (g,x)::Aa f v r
theorem B0(f g:Str)(v:V):∀fs:List (Str×V),(Aa f v fs).lookup g=if g=f then some v else fs.lookup g
 | []=>by
  show List.lookup g [(f,v)]=_
  by_cases h:g=f
  . have hb:(g==f)=true:=Rt.mpr h
    simp only[List.lookup,hb,if_pos h]
  . have hb:(g==f)=false:=HP.mpr h
    simp only[List.lookup,hb,if_neg h]
 | (k,x)::r=>by
  have ih:=B0 f g v r;rw[show Aa f v ((k,x)::r)=(if k=f then (k,v)::r else (k,x)::Aa f v r) from rfl]
  by_cases hk:k=f
  . rw[if_pos hk]
    by_cases h:g=k
    . have hb:(g==k)=true:=Rt.mpr h
      simp only[List.lookup,hb,if_pos (h.trans hk)]
    . have hb:(g==k)=false:=HP.mpr h
      simp only[List.lookup,hb,if_neg (λe:g=f=>h (e.trans hk.symm))]
  . rw[if_neg hk]
    by_cases h:g=k
    . have hb:(g==k)=true:=Rt.mpr h
      simp only[List.lookup,hb,if_neg (λe:g=f=>hk (h.symm.trans e))]
    . have hb:(g==k)=false:=HP.mpr h
      simp only[List.lookup,hb];exact ih
theorem Nu(f:Str)(v:V):∀fs:List (Str×V),f∈(Aa f v fs).map (·.1)/\∀g,g∈fs.map (·.1)->g∈(Aa f v fs).map (·.1)
 | []=>⟨by simp[Aa],λg h=>by simp at h⟩
 | (k,x)::r=>by
  obtain⟨i1,i2⟩:=Nu f v r;rw[show Aa f v ((k,x)::r)=(if k=f then (k,v)::r else (k,x)::Aa f v r) from rfl]
  by_cases hk:k=f
  . rw[if_pos hk]
    subst hk;exact⟨by simp,λg h=>by simpa using h⟩
  . rw[if_neg hk]
    refine⟨?_,λg h=>?_⟩
    . rw[List.map_cons]
      exact Fh _ i1
    . rw[List.map_cons]at h ⊢
      rcases Ft.mp h with e | e
      . exact Ft.mpr (.inl e)
      . exact Fh _ (i2 g e)
theorem Cz(f:Str)(v:V):∀fs:List (Str×V),(Aa f v fs).length<=fs.length+1
 | []=>by simp[Aa]
 | (k,x)::r=>by
  have ih:=Cz f v r;rw[show Aa f v ((k,x)::r)=(if k=f then (k,v)::r else (k,x)::Aa f v r) from rfl]
  by_cases hk:k=f
  . rw[if_pos hk,List.length_cons,List.length_cons];omega
  . rw[if_neg hk,List.length_cons,List.length_cons];omega
theorem Gh.some_of{v:V}{o:Option Value}(r:Gh (some v) o):∃u,o=some u/\B1 v u:=by
 cases o with
 | none=>exact(show False from r).elim
 | some u=>exact⟨u,rfl,r⟩
theorem Gh.none_of{o:Option Value}(r:Gh none o):o=none:=by
 cases o with
 | none=>rfl
 | some u=>exact(show False from r).elim
theorem J16{v:V}{u:Value}(r:B1 v u):PySem.W.handedIn u=true:=by
 cases v with
 | non=>cases (show u=Value.none from r);rfl
 | bl b=>cases (show u=Value.bool b from r);rfl
 | int i=>obtain⟨t,e⟩:=(show ∃t,u=Value.int i t from r);cases e;rfl
 | str x=>obtain⟨t,e⟩:=(show ∃t,u=Value.str x t from r);cases e;rfl
 | byt b=>obtain⟨t,e⟩:=(show ∃t,u=Value.bytes b t from r);cases e;rfl
 | flt b=>obtain⟨t,e⟩:=(show ∃t,u=Value.float b t from r);cases e;rfl
 | ref a=>cases (show u=Value.ref a from r);rfl
 | ty n=>cases (show u=Value.type n from r);rfl
section
variable {P:Program}{w:World}{H H':Hp}{h h':Heap}{a C dx:Addr}{fs fs':List (Str×V)}
theorem Mn(hok:HOk P w H h)(e:H a=some (.ins C dx fs)):∃mA,Wz h a dx C mA/\(∀f,Gh (fs.lookup f) (mA f))/\PySem.Within mA (fs.map (·.1))/\fs.length<=1000/\H dx=some (.own a):=by
 obtain⟨d,z,ne,ob,mA,n,r,q⟩:=(show Bu P w H h a (.ins C dx fs) from hok a _ e)
 exact⟨mA,⟨ob,n,ne⟩,r,q,z,d⟩
end
structure Cls(K:PySem.W.Frag)(C:Addr):Prop where
 pg:PySem.W.plainGet K C Str.empty=true
 hd:PySem.W.hasDictIn K C=true
 po:PySem.W.plainOver K C=true
 sa:PySem.W.findIn K (.ref C) "__setattr__"=some (some (.builtin "object.__setattr__"))
theorem Cls.get{K:PySem.W.Frag}{C:Addr}(c:Cls K C)(f:Str):PySem.W.plainGet K C f=true:=c.pg
def Am(K:PySem.W.Frag)(C:Addr)(f:Str):Prop:=PySem.W.findIn K (.ref C) f=some none
theorem Am.taker{K:PySem.W.Frag}{C:Addr}{f:Str}(n:Am K C f):PySem.W.takerIn K C f=some none:=by
 unfold PySem.W.takerIn;rw[show PySem.W.findIn K (.ref C) f=some none from n];rfl
structure J17(K:PySem.W.Frag)(C:Addr)(m:Str)(f:Addr):Prop where
 at_:PySem.W.findIn K (.ref C) m=some (some (.ref f))
 fn:PySem.W.isFn K (.ref f)=true
 kp:PySem.W.keepIn K (.ref f)=true
section
variable {X:Cx}{pins:List (Addr×Obj)}{σ:St}{H:Hp}{s:Shared}{a C dx:Addr}{fs:List (Str×V)}{f:Str}{v:V}{A:Around}{E:Value->Shared->Prop}
theorem Pl{b:Bool}{Q:Value->Shared->Prop}(I:Inv X pins σ H s)(e:H a=some (.ins C dx fs))(c:Cls X.K C)(n:Am X.K C f)(l:fs.lookup f=some v)
 (h:∀u s',Inv X pins σ H s'->B1 v u->Q u s'):wpAny (model X.prog X.w) A (getAttr (.ref a) f b) Q E s:=by
 obtain⟨mA,O,r,_,_,_⟩:=Mn I.hok e;obtain⟨u,hu,ru⟩:=Gh.some_of (v:=v) (o:=mA f) (by rw[<- l];exact r f);exact J72 I.kIn O (c.get f) c.hd n hu (J16 ru) (h u _ (I.tok _) ru)
theorem Mb{m:Str}{g:Addr}{pl:Sem Bool}{Q:Value×List Value->Shared->Prop}(I:Inv X pins σ H s)(e:H a=some (.ins C dx fs))(c:Cls X.K C)(k:J17 X.K C m g)(l:fs.lookup m=none)
 (h:Q (.ref g,[.ref a]) s):wpAny (model X.prog X.w) A (getMethod (.ref a) m pl) Q E s:=by
 obtain⟨mA,O,r,_,_,_⟩:=Mn I.hok e;have hn:mA m=none:=Gh.none_of (by rw[<- l];exact r m);exact J2s I.kIn O (c.get m) k.at_ k.fn hn h
theorem Pm{y:V}{u:Value}{Q:Unit->Shared->Prop}(I:Inv X pins σ H s)(e:H a=some (.ins C dx fs))(c:Cls X.K C)(n:Am X.K C f)(hl:fs.length < 1000)(ry:B1 y u)
 (h:∀s',Inv X pins σ (upd H a (.ins C dx (Aa f y fs))) s'->Q () s'):wpAny (model X.prog X.w) A (setAttr (.ref a) f u) Q E s:=by
 obtain⟨mA,O,r,wi,_,ho⟩:=Mn I.hok e
 have hz:(fs.map (·.1)).length<=sizeLine:=by rw[Fa,sizeLine_eq];omega
 refine J73 I.kIn O c.sa c.po n.taker c.hd wi hz λh' O' sb=>h _ ?_;have hd:∃o,h'.get? dx=some o:=let ⟨o,_,_,e',_⟩:=O'.ns;⟨o,e'⟩;refine I.write (x:=a) (e:=dx) (by rw[e];exact True.intro) (.inr ho) (λb q hb z=>(sb.2 b hb).trans z) hd ?_;refine⟨by rw[A2 O.ne];exact ho,?_,O.ne,O'.obj,_,O'.ns,λg=>?_,λg hg=>?_⟩
 . have:=Cz f y fs;omega
 . show Gh ((Aa f y fs).lookup g) (if g=f then some u else mA g)
   rw[B0]
   by_cases q:g=f
   . rw[if_pos q,if_pos q];exact ry
   . rw[if_neg q,if_neg q];exact r g
 . by_cases q:g=f
   . rw[q];exact(Nu f y fs).1
   . refine(Nu f y fs).2 g (wi g λz=>hg ?_)
     show (if g=f then some u else mA g)=none;rw[if_neg q];exact z
theorem Inv.made(I:Inv X pins σ H s):Inv X pins σ (upd (upd H s.heap.objs.size (.own (s.heap.objs.size+1))) (s.heap.objs.size+1) (.ins C s.heap.objs.size []))
 {s with heap:=(s.heap.push PySem.W.emptyDict).push (PySem.W.instObj C s.heap.objs.size)}:=by
 have e1:(s.heap.push PySem.W.emptyDict).get? s.heap.objs.size=some PySem.W.emptyDict:=FK s.heap rfl
 have e2:((s.heap.push PySem.W.emptyDict).push (PySem.W.instObj C s.heap.objs.size)).get? (s.heap.objs.size+1)=some (PySem.W.instObj C s.heap.objs.size):=by
  have:=FK (s.heap.push PySem.W.emptyDict) (o:=PySem.W.instObj C s.heap.objs.size) rfl
  rwa [Jb]at this
 have e3:(s.heap.push PySem.W.emptyDict).Ns s.heap.objs.size (λ_=>none):=⟨PySem.W.emptyDict,#[],_,e1,rfl,(λe he=>absurd he (by simp)),λ_=>rfl⟩
 have I1:=I.laid (a:=s.heap.objs.size) (o:= .own (s.heap.objs.size+1)) (h':=s.heap.push PySem.W.emptyDict) (t':=s.toks) (λb u q=>Fm _ q) (Fg _) ⟨_,e1⟩;refine I1.laid (a:=s.heap.objs.size+1) (o:= .ins C s.heap.objs.size []) (t':=s.toks) (λb u q=>Fm _ q) (RP (Jb _ _)) ?_;have ne:s.heap.objs.size≠s.heap.objs.size+1:=FB (Hz _);refine⟨by rw[A2 ne,A1],FM _,ne,e2,λ_=>none,(Heap.Ns1.of_empty e3).at λo q=>Fm _ q,λ_=>True.intro,λy hy=>absurd rfl hy⟩
theorem Y1{prog:Program}{w:World}{env:Env}{e:Expr}{f:Str}{pos:Pos}{s:Shared}{Q:Value->Shared->Prop}(hb:attributeBase e f env (eval e env)=eval e env)
 (h:wpAny (model prog w) A (eval e env) (λo s₁=>wpAny (model prog w) A (getAttr o f true) Q E s₁) E s):wpAny (model prog w) A (eval (.Attribute e f pos) env) Q E s:=
 Attribute_any_ h (by rw[arm_eval_Attribute,hb])
end
def Jc0(K:PySem.W.Frag)(ta:TE)(f:Str):TE:=λσ H Q=>ta σ H λx H1=>∃a C dx fs v,x= .ref a/\H1 a=some (.ins C dx fs)/\Cls K C/\Am K C f/\fs.lookup f=some v/\Q v H1
def Jc1(K:PySem.W.Frag)(ta tv:TE)(f:Str):TS:=λD σ H=>tv σ H λy H1=>ta σ H1 λx H2=>∃a C dx fs,x= .ref a/\H2 a=some (.ins C dx fs)/\Cls K C/\Am K C f/\fs.length < 1000/\
 D.nx σ (upd H2 a (.ins C dx (Aa f y fs)))
def Jc2(X:Cx)(op:Operator)(rd:V->V->Hp->VK->Prop):Prop:=
 ∀(pins:List (Addr×Obj)) (s:Shared) (σ:St) (H:Hp) (x y:V) (u v:Value) (Q:VK),Inv X pins σ H s->B1 x u->B1 y v->rd x y H Q->wpAny (model X.prog X.w) X.A (inplaceOp op u v) (EP X pins σ Q) X.xe s
def Y2(K:PySem.W.Frag)(ta tv:TE)(rd:V->V->Hp->VK->Prop)(f:Str):TS:=λD σ H=>ta σ H λx H1=>∃a C dx fs v,x= .ref a/\H1 a=some (.ins C dx fs)/\Cls K C/\Am K C f/\fs.lookup f=some v/\
 tv σ H1 λy H2=>rd v y H2 λz H3=>∃dx' fs',H3 a=some (.ins C dx' fs')/\fs'.length < 1000/\D.nx σ (upd H3 a (.ins C dx' (Aa f z fs')))
section
variable {X:Cx}{o e value:Expr}{f:Str}{pos pos' tpos:Pos}{ta tv:TE}
theorem Ab(he:PE X e ta)(hb:attributeBase e f X.env (eval e X.env)=eval e X.env):PE X (.Attribute e f pos) (Jc0 X.K ta f):=by
 intro pins s σ H Q I h;refine Y1 hb (thn (he pins s σ H _ I h) λu s1 hq_=>?_);obtain⟨x,H1,I1,rx,a,C,dx,fs,v,ex,ea,c,n,l,q⟩:=hq_;subst ex;obtain rfl:u=Value.ref a:=rx
 exact Pl I1 ea c n l λu' s2 I2 ru=>⟨v,H1,I2,ru,q⟩
theorem Bn(ha:PE X o ta)(hv:PE X value tv)(hs:swapsWith value (some (.Attribute o f pos')) pos.line X.env=pure false):PS X (.Assign [.Attribute o f pos'] value pos) (Jc1 X.K ta tv f):=by
 intro pins s σ H D I h;refine plainObj_wpAny_Assign_Attribute (thn (hv pins s σ H _ I h) λu s1 ⟨y,H1,I1,ry,q⟩=>thn (ha pins s1 σ H1 _ I1 q) λov s2 hq_=>?_) hs;obtain⟨x,H2,I2,rx,a,C,dx,fs,ex,ea,c,n,l,q2⟩:=hq_;subst ex;obtain rfl:ov=Value.ref a:=rx
 exact Pm I2 ea c n l ry λs3 I3=>⟨σ,_,I3,q2⟩
theorem Gk{op:Operator}{rd:V->V->Hp->VK->Prop}(ha:PE X o ta)(hv:PE X value tv)(hop:Jc2 X op rd):PS X (.AugAssign (.Attribute o f tpos) op value pos) (Y2 X.K ta tv rd f):=by
 intro pins s σ H D I h;refine wpAny_AugAssign_AttributeAny (thn (ha pins s σ H _ I h) λov s1 hq_=>?_);obtain⟨x,H1,I1,rx,a,C,dx,fs,v,ex,ea,c,n,l,q⟩:=hq_;subst ex;obtain rfl:ov=Value.ref a:=rx;refine Pl I1 ea c n l λu s2 I2 ru=>thn (hv pins s2 σ H1 _ I2 q) λw3 s3 ⟨y,H2,I3,ry,q3⟩=>thn (hop pins s3 σ H2 v y u w3 _ I3 ru ry q3) λw4 s4 hq_=>?_;obtain⟨z,H3,I4,rz,dx',fs',ea',l',q4⟩:=hq_
 exact Pm I4 ea' c n l' rz λs5 I5=>⟨σ,_,I5,q4⟩
def Ja5:V->V->Hp->VK->Prop:=λx y H Q=>∃i j,x= .int i/\y= .int j/\Q (.int (i+j)) H
theorem Pn:Jc2 X .Add Ja5:=by
 rintro pins s σ H x y u v Q I rx ry ⟨i,j,rfl,rfl,q⟩
 obtain⟨t,rfl⟩:=(show ∃t,u=Value.int i t from rx)
 obtain⟨t',rfl⟩:=(show ∃t',v=Value.int j t' from ry)
 exact PyProof.Rows.iadd_int ⟨.int (i+j),H,I.tok _,⟨_,rfl⟩,q⟩
end
section
variable {X:Cx}{pins:List (Addr×Obj)}{σ:St}{H:Hp}{s:Shared}{A:Around}{E:Value->Shared->Prop}{Q:Value->Shared->Prop}{c:Value}{b:Bool}
inductive Nv(K:PySem.W.Frag)(H:Hp):V->Value->Prop where
 | non:Nv K H .non (.type "NoneType")
 | bl (x:Bool):Nv K H (.bl x) (.type "bool")
 | int (i:Int):Nv K H (.int i) (.type "int")
 | str (x:Str):Nv K H (.str x) (.type "str")
 | flt (x:UInt64):Nv K H (.flt x) (.type "float")
 | lst {a:Addr}{xs:List V} (e:H a=some (.lst xs)):Nv K H (.ref a) (.type "list")
 | frz {a:Addr}{o:Obj}{xs:List V} (e:H a=some (.frz o (.lst xs))):Nv K H (.ref a) (.type "list")
 | tup {a:Addr}{xs:List V} (e:H a=some (.tup xs)):Nv K H (.ref a) (.type "tuple")
 | dK {a:Addr}{kvs:List (Key×V)} (e:H a=some (.dK kvs)):Nv K H (.ref a) (.type "dict")
 | dT {a:Addr}{kvs:List (List Key×V)} (e:H a=some (.dT kvs)):Nv K H (.ref a) (.type "dict")
 | ins {a C dx:Addr}{fs:List (Str×V)} (e:H a=some (.ins C dx fs)) (cl:Cls K C) (ha:PySem.W.findIn K (.ref C) "__class__"=some (some (.builtin "object.__class__")))
  (hn:PySem.W.specialIn K (.builtin "object.__class__") "__get__"=some (some (.builtin "getset_descriptor.__get__"))) (htk:PySem.W.takesIn K (.builtin "object.__class__")=some true)
  (hm:PySem.W.mroIn K C (.type "object")=some true):Nv K H (.ref a) (.ref C)
theorem J18{x:V}{u t:Value}(I:Inv X pins σ H s)(rx:B1 x u)(ty:Nv X.K H x t)(e:PySem.W.kitOne X.K t c=some b)(h:∀tk,Q (.bool b) {s with toks:=tk}):
 wpAny (model X.prog X.w) A (call (.builtin "isinstance") [u,c]) Q E s:=by
 cases ty with
 | non=>cases (show u=Value.none from rx);exact Hy PySem.W.kitx_none I.kIn True.intro e (λz=>nomatch z) h
 | bl y=>cases (show u=Value.bool y from rx);exact Hy PySem.W.kitx_bool I.kIn True.intro e (λz=>nomatch z) h
 | int i=>obtain⟨t,q⟩:=(show ∃t,u=Value.int i t from rx);cases q;exact Hy PySem.W.kitx_int I.kIn True.intro e (λz=>nomatch z) h
 | str y=>obtain⟨t,q⟩:=(show ∃t,u=Value.str y t from rx);cases q;exact Hy PySem.W.kitx_str I.kIn True.intro e (λz=>nomatch z) h
 | flt y=>obtain⟨t,q⟩:=(show ∃t,u=Value.float y t from rx);cases q;exact Hy PySem.W.kitx_float I.kIn True.intro e (λz=>nomatch z) h
 | @lst a xs ea=>
  cases (show u=Value.ref a from rx)
  obtain⟨_,_,n,_,h1⟩:=(show Bu X.prog X.w H s.heap a (.lst xs) from I.hok a _ ea)
  exact Hy PySem.W.kitx_list I.kIn ⟨_,h1,rfl⟩ e (λz=>nomatch z) h
 | @frz a ob xs ea=>
  cases (show u=Value.ref a from rx)
  obtain⟨_,_,_,n,_,h1⟩:=(show Bu X.prog X.w H s.heap a (.frz ob (.lst xs)) from I.hok a _ ea)
  exact Hy PySem.W.kitx_list I.kIn ⟨_,h1,rfl⟩ e (λz=>nomatch z) h
 | @tup a xs ea=>
  cases (show u=Value.ref a from rx)
  obtain⟨_,_,_,p⟩:=(show Bu X.prog X.w H s.heap a (.tup xs) from I.hok a _ ea)
  obtain⟨o,h1,h2,_⟩:=p;exact Hy PySem.W.kitx_tuple I.kIn ⟨o,h1,h2⟩ e (λz=>nomatch z) h
 | @dK a kvs ea=>
  cases (show u=Value.ref a from rx)
  obtain⟨_,_,vs,_,p⟩:=(show Bu X.prog X.w H s.heap a (.dK kvs) from I.hok a _ ea)
  obtain⟨o,es,ep,h1,h2,_⟩:=p;exact Hy PySem.W.kitx_dict I.kIn ⟨o,h1,h2.1⟩ e (λz=>nomatch z) h
 | @dT a kvs ea=>
  cases (show u=Value.ref a from rx)
  obtain⟨_,_,xs,_,o,es,ep,h1,h2,_⟩:=(show Bu X.prog X.w H s.heap a (.dT kvs) from I.hok a _ ea)
  exact Hy PySem.W.kitx_dict I.kIn ⟨o,h1,h2.1⟩ e (λz=>nomatch z) h
 | @ins a C dx fs ea cl ha hn htk hm=>
  cases (show u=Value.ref a from rx);obtain⟨mA,O,_⟩:=Mn I.hok ea;obtain⟨od,J,_⟩:=O.look;exact Hy (PySem.W.kitx_own (cl.get _) cl.hd ha hn htk hm) I.kIn J e (λz=>nomatch z) h
end
structure Bz(k:Nat)(A:Around):Prop where
 hd:A.handled=none
 dp:A.depth+3 * k+5 < recursionLimit
 un:A.units+16 * k+200 < cLine
theorem Bz.mono{j k:Nat}{A:Around}(r:Bz k A)(h:j<=k):Bz j A:=⟨r.hd,by have:=r.dp;omega,by have:=r.un;omega⟩
theorem Bz.deeper{k:Nat}{A:Around}(r:Bz (k+1) A)(env:Env):Bz k (A.deeper env):=
 ⟨r.hd,by have:=r.dp;show A.depth+1+3 * k+5 < _;omega,by have:=r.un;show A.units+3+16 * k+200 < _;omega⟩
theorem Bz.in1{k:Nat}{A:Around}(r:Bz (k+1) A):Bz k A.in1:=
 ⟨r.hd,by have:=r.dp;show A.depth+3 * k+5 < _;omega,by have:=r.un;show A.units+1+16 * k+200 < _;omega⟩
theorem X0{A:Around}{C:Addr}{us:List Value}{kw:List (Str×Value)}:(A.under (.builtin "type.__call__" ⟨.ref C::us,kw⟩)).depth=A.depth+1:=by
 first | rfl | simp[Around.under,Code.weight,Code.isCreation,Code.isGuard,Code.isCaller,Code.frames,Code.isFrame,guardIds]
theorem X1{A:Around}{C:Addr}{us:List Value}{kw:List (Str×Value)}:(A.under (.builtin "type.__call__" ⟨.ref C::us,kw⟩)).units=A.units+1:=by
 first | rfl | simp[Around.under,Code.cUnits,Code.frames,Code.isFrame]
theorem Bz.make{k:Nat}{A:Around}(r:Bz (k+1) A)(C:Addr)(us:List Value)(kw:List (Str×Value)):Bz k (A.under (.builtin "type.__call__" ⟨.ref C::us,kw⟩)):=
 ⟨r.hd,by have:=r.dp;rw[X0];omega,by have:=r.un;rw[X1];omega⟩
theorem Bz.depth{k:Nat}{A:Around}(r:Bz k A):A.depth < recursionLimit:=by have:=r.dp;omega
theorem Bz.units{k:Nat}{A:Around}(r:Bz k A):A.units+64 < cLine:=by have:=r.un;omega
def Ja6:TA:=λ_ H Q=>Q [] H
def Y3(ta:TE)(tr:TA):TA:=λσ H Q=>ta σ H λx H1=>tr σ H1 λxs H2=>Q (x::xs) H2
section
variable {X:Cx}{e:Expr}{es:List Expr}{te:TE}{t:TA}{pos:Pos}
theorem A3:PA X [] Ja6:=λ_ _ _ _ H Q I h=>Calls.spliced_nil ⟨[],H,I,.nil,h⟩
theorem A0(ha:PE X e te)(hr:PA X es t)(hs:starEach (e::es) X.env=(false,eval e X.env)::starEach es X.env:=by rfl):PA X (e::es) (Y3 te t):=by
 intro pos pins s σ H Q I h;rw[hs];show wpAny _ _ (spliced ((false,eval e X.env)::backTo pos (starEach es X.env))) _ _ s;refine Calls.spliced_cons (thn (ha pins s σ H _ I h) λu s1 hq_=>?_);obtain⟨x,H1,I1,r1,q1⟩:=hq_
 exact thn (hr pos pins s1 σ H1 _ I1 q1) λus s2 ⟨xs,H2,I2,r2,q2⟩=>⟨x::xs,H2,I2,.cons r1 r2,q2⟩
def Jc3(t:TA):TE:=λσ H Q=>t σ H λxs H1=>xs.length<=sizeLine/\∀p,H1 p=none->Q (.ref p) (upd H1 p (.tup xs))
def Jc4(t:TA):TE:=λσ H Q=>t σ H λxs H1=>xs.length<=sizeLine/\∀p,H1 p=none->Q (.ref p) (upd H1 p (.lst xs))
theorem Cj{x1}(h:PA X es t):PE X (.Tuple es x1 pos) (Jc3 t):=by
 intro pins s σ H Q I hq;refine wpAny_Tuple_spliced (thn (h pos pins s σ H _ I hq) λus s1 ⟨xs,H1,I1,r,z,q⟩=>⟨by rw[<- r.length];exact z,?_⟩);have hf:H1 s1.heap.objs.size=none:=I1.hok.fresh (Fg _);refine⟨.ref s1.heap.objs.size,upd H1 s1.heap.objs.size (.tup xs),I1.laid (t':=s1.toks) (λb u e=>Fm _ e) (Fg _) ?_,rfl,q _ hf⟩;exact⟨z,us,r,⟨_,FK _ rfl,rfl,_,rfl⟩⟩
theorem Ck(h:PA X es t):PE X (.List es pos) (Jc4 t):=by
 intro pins s σ H Q I hq;refine wpAny_List_spliced (thn (h pos pins s σ H _ I hq) λus s1 ⟨xs,H1,I1,r,z,q⟩=>⟨by rw[<- r.length];exact z,?_⟩);have hf:H1 s1.heap.objs.size=none:=I1.hok.fresh (Fg _);refine⟨.ref s1.heap.objs.size,upd H1 s1.heap.objs.size (.lst xs),I1.laid (t':=s1.toks) (λb u e=>Fm _ e) (Fg _) ?_,rfl,q _ hf⟩;exact⟨z,us,0,r,FK _ rfl⟩
end
abbrev Sp:=List V->Hp->VK->XK->Prop
abbrev CXT:=List Env->Hp->Shared->XK->Value->Shared->Prop
structure Mo(P:Program)(w:World)(K:PySem.W.Frag)(mg:Str->Option Value)(base:Heap)(A:Around)(outer:List Env)(s:Shared)(H:Hp):Prop where
 frames:A.frames=some outer
 mod:Mod K mg base
 bs:∀b o,base.get? b=some o->s.heap.get? b=some o/\H b=none
 bsz:base.objs.size<=s.heap.objs.size
 funs:s.heap.FunFrames base outer
 frf:∀b∈frs outer,H b=none
 hok:HOk P w H s.heap
 bare:AllBare s.gens
def CE(outer:List Env)(P:Program)(w:World)(H:Hp)(s:Shared)(Q:VK)(u:Value)(s':Shared):Prop:=
 ∃v H',s'.os=s.os/\AllBare s'.gens/\Un (frs outer) [] H H' s.heap s'.heap/\HOk P w H' s'.heap/\B1 v u/\Q v H'
def CR(CX:CXT)(outer:List Env)(P:Program)(w:World)(H:Hp)(s:Shared)(Q:VK)(E:XK)(r:Result)(s':Shared):Prop:=
 match r with
 | .ok (.ret u)=>CE outer P w H s Q u s'
 | .ok _=>False
 | .error e=>CX outer H s E e s'
structure Al(P:Program)(w:World)(K:PySem.W.Frag)(mg:Str->Option Value)(base:Heap)(CX:CXT)(k:Nat)(f:Addr)(fd:FuncData)(ps:List Str)(sp:Sp):Prop where
 len:∀vs H Q E,sp vs H Q E->vs.length=ps.length
 run:∀(A:Around) (outer:List Env) (s:Shared) (H:Hp) (args:Args) (us:List Value) (vs:List V) (Q:VK) (E:XK),Bz k A->Mo P w K mg base A outer s H->BindsTo s fd args (ps.zip us)->B3 vs us->sp vs H Q E->
  codeAny (model P w) A (.call (.ref f) args) (CR CX outer P w H s Q E) s
theorem Al.mono{P:Program}{w:World}{K:PySem.W.Frag}{mg:Str->Option Value}{base:Heap}{CX:CXT}{j k:Nat}{f:Addr}{fd:FuncData}{ps:List Str}{sp:Sp}(F:Al P w K mg base CX j f fd ps sp)(h:j<=k):
 Al P w K mg base CX k f fd ps sp:=⟨F.len,λA outer s H args us vs Q E hr=>F.run A outer s H args us vs Q E (hr.mono h)⟩
theorem Al.imp{P:Program}{w:World}{K:PySem.W.Frag}{mg:Str->Option Value}{base:Heap}{CX:CXT}{k:Nat}{f:Addr}{fd:FuncData}{ps:List Str}{sp sp':Sp}(F:Al P w K mg base CX k f fd ps sp)
 (h:∀vs H Q E,sp' vs H Q E->sp vs H Q E):Al P w K mg base CX k f fd ps sp':=
 ⟨λvs H Q E q=>F.len vs H Q E (h _ _ _ _ q),λA outer s H args us vs Q E hr he hb hv hs=>F.run A outer s H args us vs Q E hr he hb hv (h _ _ _ _ hs)⟩
theorem Mo.make{P:Program}{w:World}{K:PySem.W.Frag}{mg:Str->Option Value}{base:Heap}{A:Around}{outer:List Env}{s:Shared}{H:Hp}(e:Mo P w K mg base A outer s H)(C:Addr)(us:List Value)(kw:List (Str×Value)):
 Mo P w K mg base (A.under (.builtin "type.__call__" ⟨.ref C::us,kw⟩)) outer s H:=⟨by first | exact e.frames | (simpa [Around.under,Code.envs,Code.isFrame,pushEnvs] using e.frames),e.mod,e.bs,e.bsz,e.funs,e.frf,e.hok,e.bare⟩
theorem Mo.in1{P:Program}{w:World}{K:PySem.W.Frag}{mg:Str->Option Value}{base:Heap}{A:Around}{outer:List Env}{s:Shared}{H:Hp}(e:Mo P w K mg base A outer s H):
 Mo P w K mg base A.in1 outer s H:=⟨e.frames,e.mod,e.bs,e.bsz,e.funs,e.frf,e.hok,e.bare⟩
section
variable {X:Cx}{pins:List (Addr×Obj)}{σ:St}{H:Hp}{s s':Shared}
theorem Inv.env0(I:Inv X pins σ H s):Mo X.prog X.w X.K X.mg X.base X.A X.stack s H:=
 ⟨I.ok.frames,I.ok.mod,I.bs,FO I.ok.bsz I.sz,I.stack,I.stkFree,I.hok,I.bare⟩
theorem Inv.after{Q:VK}{u:Value}(I:Inv X pins σ H s)(h:CE X.stack X.prog X.w H s Q u s'):EP X pins σ Q u s':=by
 obtain⟨v,H',os,bare,un,hok,r,q⟩:=h;obtain⟨hh,g,d,t,os'⟩:=s';obtain rfl:os'=s.os:=os;exact⟨v,H',I.call (h':=hh) (g':=g) (d':=d) (t':=t) (ch:=[]) un hok bare (λb z=>absurd z (by simp)),r,q⟩
end
def Jc5(sp:Sp)(dvs:List V)(E:XK)(t:TA):TE:=λσ H Q=>t σ H λvs H1=>sp (vs++dvs) H1 Q E
def C4(K:PySem.W.Frag)(fd:FuncData)(ps:List Str)(ds:List Value):Prop:=
 ∀(s:Shared) (us:List Value),K.In s.heap->(us++ds).length=ps.length->BindsTo s fd ⟨us,[]⟩ (ps.zip (us++ds))
theorem C4.all{K:PySem.W.Frag}{fd:FuncData}{ps:List Str}(h:∀us:List Value,us.length=ps.length->bindArgs fd ⟨us,[]⟩=pure (ps.zip us)):C4 K fd ps []:=λs us _ hl=>by
 rw[Hd]at hl ⊢;exact .of_eq (h us hl)
def Nw(CX:CXT)(X:Cx)(E:XK):Prop:=∀(pins:List (Addr×Obj)) (σ:St) (H:Hp) (s:Shared) (e:Value) (s':Shared),Inv X pins σ H s->CX X.stack H s E e s'->X.xe e s'
section
variable {X:Cx}{CX:CXT}{k:Nat}{f C:Addr}{fd:FuncData}{ps:List Str}{sp:Sp}{dvs:List V}{ds:List Value}{E:XK}{x m:Str}{p pos apos:Pos}{e o:Expr}{es:List Expr}{ta:TE}{t:TA}
theorem Ja7{pins:List (Addr×Obj)}{σ:St}{H:Hp}{s:Shared}{Q:VK}{us:List Value}{vs:List V}(F:Al X.prog X.w X.K X.mg X.base CX k f fd ps sp)(hr:Bz k X.A)(hb:C4 X.K fd ps ds)(hd:B3 dvs ds)(hx:Nw CX X E)
 (I:Inv X pins σ H s) (r:B3 vs us) (h:sp (vs++dvs) H Q E):wpAny (model X.prog X.w) X.A (call (.ref f) us) (EP X pins σ Q) X.xe s:=by
 have r2:B3 (vs++dvs) (us++ds):=r.append hd
 have hl:(us++ds).length=ps.length:=by rw[<- r2.length];exact F.len _ _ _ _ h
 refine RF (Rc (F.run X.A X.stack s H ⟨us,[]⟩ (us++ds) (vs++dvs) Q E hr I.env0 (hb s us I.kIn hl) r2 h) λr s' hq=>?_)
 cases r with
 | error e=>exact hx pins σ H s e s' I hq
 | ok fl=>
  cases fl with
  | ret u=>exact I.after hq
  | next=>exact False.elim hq
  | brk=>exact False.elim hq
  | cont=>exact False.elim hq
theorem J74(F:Al X.prog X.w X.K X.mg X.base CX k f fd ps sp)(hr:Bz k X.A)(hg:Gl X x)(hm:X.mg x=some (.ref f))(hk:PySem.W.keepIn X.K (.ref f)=true)(hb:C4 X.K fd ps ds)(hd:B3 dvs ds)(hx:Nw CX X E)
 (ha:PA X (e::es) t) (hdb:(x==("__debug__":Str))=false:=by decide) (he:starEach (e::es) X.env=(false,eval e X.env)::starEach es X.env:=by rfl) (hpl:(backTo pos (starEach es X.env)).any (·.1)=false:=by rfl):
 PE X (.Call (.Name x p) (e::es) [] pos) (Jc5 sp dvs E t):=by
 intro pins s σ H Q I h;refine HR (Mj I hg hm ?_ hdb);refine HS (h₀:=X.base) I.ok.mod.kin hk (thn (ha pos pins s σ H _ I h) λus s1 ⟨vs,H1,I1,r,q⟩=>⟨I1.kIn,?_⟩) he hpl;exact Ja7 F hr hb hd hx I1 r q
structure Mk(K:PySem.W.Frag)(C f:Addr):Prop where
 makes:PySem.W.makesIn K C=true
 init:PySem.W.findIn K (.ref C) "__init__"=some (some (.ref f))
 fn:PySem.W.isFn K (.ref f)=true
 kp:PySem.W.keepIn K (.ref C)=true
end
section
variable {X:Cx}{CX:CXT}{k:Nat}{f C:Addr}{fd:FuncData}{ps ks:List Str}{sp:Sp}{E:XK}{x m:Str}{p pos apos kpos:Pos}{e o:Expr}{es:List Expr}{kws:List Keyword}{te ta:TE}{t tk:TA}{nm:Option Str}
structure J2t(K:PySem.W.Frag)(fd:FuncData)(ps ks:List Str)(g:List Value->List Value->List Value)(gV:List V->List V->List V):Prop where
 to:∀(s:Shared) (us ws:List Value),K.In s.heap->(g us ws).length=ps.length->BindsTo s fd ⟨us,ks.zip ws⟩ (ps.zip (g us ws))
 rel:∀{vs:List V}{us:List Value}{zs:List V}{ws:List Value},B3 vs us->B3 zs ws->B3 (gV vs zs) (g us ws)
variable {g:List Value->List Value->List Value}{gV:List V->List V->List V}
end
structure A9(N P:List Str)(sc:Scope):Prop where
 kind:sc.kind= .function
 co:sc.isCoroutine=false
 gen:sc.isGenerator=false
 nd:N.Nodup
 pre:N.take P.length=P
 par:∀x∈P,sc.names.lookup x=some .local\/sc.names.lookup x=some .cell
 nofree:∀y∈sc.names,y.2≠ .free
theorem Qv{kindOf:Str->Option NameKind}{x:Str}:∀{binds:List (Str×Value)}{m:Str->Option Value},(∀v,(x,v)∉binds)->bindL kindOf binds m x=m x
 | [],_,_=>rfl
 | (n,v)::r,m,h=>by
  unfold bindL;rw[Qv λw hw=>h w (Fh _ hw)];split
  . have:x≠n:=by rintro rfl;exact h v Fy
    simp[this]
  . rfl
theorem Qw{kindOf:Str->Option NameKind}{x:Str}:∀{binds:List (Str×Value)}{m:Str->Option Value},(∀v,(x,v)∉binds)->bindC kindOf binds m x=m x
 | [],_,_=>rfl
 | (n,v)::r,m,h=>by
  unfold bindC;rw[Qw λw hw=>h w (Fh _ hw)];split
  . rfl
  . have:x≠n:=by rintro rfl;exact h v Fy
    simp[this]
theorem Qx{kindOf:Str->Option NameKind}{x:Str}{v:Value}:∀{P:List Str}{vs:List Value}{i:Nat}{m:Str->Option Value},P.Nodup->P[i]?=some x->vs[i]?=some v->kindOf x=some .local->
 bindL kindOf (P.zip vs) m x=some v
 | [],_,_,_,_,h,_,_=>by simp at h
 | _::_,[],_,_,_,_,h,_=>by simp at h
 | p::P,w::vs,0,m,nd,h1,h2,hk=>by
  simp at h1 h2;subst h1;subst h2;show bindL kindOf ((p,w)::P.zip vs) m p=_;unfold bindL;rw[Qv λv hv=>(Hm.mp nd).1 (J7 hv).1,if_pos hk];simp
 | p::P,w::vs,i+1,m,nd,h1,h2,hk=>by
  show bindL kindOf ((p,w)::P.zip vs) m x=_;unfold bindL;exact Qx (i:=i) (Hm.mp nd).2 (by simpa using h1) (by simpa using h2) hk
theorem Qy{kindOf:Str->Option NameKind}{x:Str}{v:Value}:∀{P:List Str}{vs:List Value}{i:Nat}{m:Str->Option Value},P.Nodup->P[i]?=some x->vs[i]?=some v->kindOf x≠some .local->
 bindC kindOf (P.zip vs) m x=some v
 | [],_,_,_,_,h,_,_=>by simp at h
 | _::_,[],_,_,_,_,h,_=>by simp at h
 | p::P,w::vs,0,m,nd,h1,h2,hk=>by
  simp at h1 h2;subst h1;subst h2;show bindC kindOf ((p,w)::P.zip vs) m p=_;unfold bindC;rw[Qw λv hv=>(Hm.mp nd).1 (J7 hv).1,if_neg hk];simp
 | p::P,w::vs,i+1,m,nd,h1,h2,hk=>by
  show bindC kindOf ((p,w)::P.zip vs) m x=_;unfold bindC;exact Qy (i:=i) (Hm.mp nd).2 (by simpa using h1) (by simpa using h2) hk
def start(N:List Str)(vs:List V):St:=vs.map some++List.replicate (N.length - vs.length) none
def T5(CX:CXT)(P:Program)(w:World)(K:PySem.W.Frag)(mg:Str->Option Value)(base:Heap)(N:List Str)(qual:Str)(scope:Scope)(f:Addr)(cd:Value)(A:Around)(outer:List Env)(s:Shared)(H:Hp)(E:XK):Cx where
 prog:=P
 w:=w
 K:=K
 mg:=mg
 base:=base
 A:=A.deeper (envOfC qual scope s.heap.objs.size f cd)
 N:=N
 s₀:=s
 H₀:=H
 env:=envOfC qual scope s.heap.objs.size f cd
 outer:=outer
 stack:=envOfC qual scope s.heap.objs.size f cd::outer
 ex:=[]
 calm:=true
 fn:=λ_=>true
 pn:=[]
 xe:=λe s'=>wpAny (model P w) (A.deeper (envOfC qual scope s.heap.objs.size f cd)) (leaving (envOfC qual scope s.heap.objs.size f cd) e) (λ_ s''=>CX outer H s E e s'') (λe' s''=>CX outer H s E e' s'') s'
theorem Uh{sc:Scope}{n:Nat}{x:Str}(h:sc.names.lookup x=some .cell):∃c,(cellsFrom n sc.names []).lookup x=some c:=by
 have q:=PySem.W.cellsFrom_some sc.names n [] (.inl h);exact Hw.mp q
theorem J19{CX:CXT}{P:Program}{w:World}{K:PySem.W.Frag}{mg:Str->Option Value}{base:Heap}{N ps:List Str}{qual:Str}{scope:Scope}{f:Addr}{cd:Value}{A:Around}{outer:List Env}{s s1:Shared}{H:Hp}{E:XK}{us:List Value}{vs:List V}
 (S:A9 N ps scope) (hd:A.handled=none) (e0:Mo P w K mg base A outer s H) (hl:vs.length=ps.length) (r:B3 vs us)
 (x:InCallC s s.heap.objs.size (bindL (envOfC qual scope s.heap.objs.size f cd).kindOf (ps.zip us) λ_=>none) (cellsFrom (s.heap.objs.size+1) scope.names []) (bindC (envOfC qual scope s.heap.objs.size f cd).kindOf (ps.zip us) λ_=>none) s1):
 Inv (T5 CX P w K mg base N qual scope f cd A outer s H E) [] (start N vs) H s1:=by
 have hpl:ps.length<=N.length:=by have:=congrArg List.length S.pre;rw[Hl]at this;omega
 obtain⟨h1,tk,rfl,hk⟩:=x.done;have noA:∀b:Addr,b∉(T5 CX P w K mg base N qual scope f cd A outer s H E).ex:=λb z=>absurd (show b∈([]:List Addr) from z) (by simp)
 refine⟨⟨e0.mod,S.kind,rfl,rfl,Fg _,λy z c h1 h2=>?_,λy hy=>?_,λy c _ h=>?_,λ_=>hd,Around.frames_deeper e0.frames,.inr ⟨rfl,rfl⟩,λb z=>absurd z (noA b),e0.bs,e0.bsz,λb _ _=>noA b,λb z=>absurd z (noA b),e0.funs,e0.frf⟩,
  rfl,e0.bare,Un.kept hk,⟨_,x.toInCall.ns,λi y v h1 h2 h3=>?_⟩,λy c h=>⟨_,x.cell y c h⟩,e0.hok.fresh (Fg _),λy c h=>?_,λp hp=>absurd (show p∈([]:List (Addr×Obj)) from hp) (by simp),e0.hok.kept hk,?_⟩
 . exact name_of_addr x.apart (Hh h1) (Hh h2)
 . have hy:scope.names.lookup y=some .cell\/scope.names.lookup y=some .free:=hy
   rcases hy with hy | hy
   . exact Uh hy
   . exact absurd rfl (S.nofree _ (Hh hy))
 . exact Ji (x.above y c (Hh h))
 . have hi:i < vs.length:=by
    unfold start at h2
    by_cases hi:i < vs.length
    . exact hi
    . rw[Fz (by simpa using hi)]at h2
      rw[List.getElem?_replicate]at h2
      split at h2 <;> cases h2
   have ha:vs[i]?=some v:=by
    unfold start at h2;rw[FD (by simpa using hi),Fe]at h2
    cases e:vs[i]? with
    | none=>rw[e]at h2;cases h2
    | some a=>rw[e]at h2;cases h2;rfl
   obtain⟨u,hu,rv⟩:=r.get ha
   have hp:ps[i]?=some y:=by
    rw[<- S.pre,List.getElem?_take_of_lt (by omega)];exact h1
   have ndP:ps.Nodup:=by rw[<- S.pre];exact S.nd.sublist (List.take_sublist _ _)
   refine⟨u,rv,?_⟩;rcases S.par y (Ff hp) with k | k
   . exact .inl ⟨k,Qx ndP hp hu k⟩
   . obtain⟨c,e⟩:=Uh (n:=s.heap.objs.size+1) k
     refine .inr ⟨.inl k,c,e,?_⟩;have q:=x.cell y c e;rw[Qy ndP hp hu (by show scope.names.lookup y≠_;rw[k];decide)]at q;exact q
 . exact e0.hok.fresh (Ji (x.above y c (Hh h)))
 . unfold start
   show _=N.length;rw[Fl,Fa,List.length_replicate];omega
theorem J2u{CX:CXT}{P:Program}{w:World}{K:PySem.W.Frag}{mg:Str->Option Value}{base:Heap}{k:Nat}{f:Addr}{name qual:Str}{params:Arguments}{body:List Stmt}{scope:Scope}{dV kV doc pm cdv ct oc:Value}{an od:Option Addr}
 {osl:Array (Option Value)}{N ps:List Str}{sp:Sp} (lk:K.lookup f=some ⟨oc,od,.func (PySem.W.fnOf name qual params body scope dV kV doc pm an cdv ct),osl⟩) (hcd:PySem.W.codeIn K cdv qual=true) (S:A9 N ps scope)
 (len:∀vs H Q E,sp vs H Q E->vs.length=ps.length)
 (hbody:∀(A:Around) (outer:List Env) (s:Shared) (H:Hp) (vs:List V) (Q:VK) (E:XK),Bz k (A.deeper (envOfC qual scope s.heap.objs.size f cdv))->sp vs H Q E->
  ∃t,PSs (T5 CX P w K mg base N qual scope f cdv A outer s H E) body t/\t {nx:=λ_ H'=>Q .non H',rt:=Q} (start N vs) H):
 Al P w K mg base CX (k+1) f (PySem.W.fnOf name qual params body scope dV kV doc pm an cdv ct) ps sp:=by
 refine⟨len,λA outer s H args us vs Q E hr e0 hb r hsp=>?_⟩;have hl:=len _ _ _ _ hsp;have KX:K.In s.heap:=e0.mod.kin.keeps λb o e=>(e0.bs b o e).1;have lim:s.heap.NoLimit:=e0.mod.nolimit.keeps λb o e=>(e0.bs b o e).1
 have hkind:∀y∈ps.zip us,scope.names.lookup y.1=some .local\/(scope.names.lookup y.1=some .cell/\((cellsFrom (s.heap.objs.size+1) scope.names []).lookup y.1).isSome=true):=λ⟨n,v⟩ hy=>by
  rcases S.par n (J7 hy).1 with q | q
  . exact .inl q
  . exact .inr ⟨q,PySem.W.cellsFrom_some _ _ _ (.inl q)⟩
 refine codeAny_call_function hr.depth (KX _ _ lk) rfl S.co S.gen rfl (PySem.W.codeRec_of KX hcd) (hb _ _ _ _ ?_);refine wpAny_newFunctionEnv_cells S.kind hkind λenv he s1 x=>?_;subst he;refine⟨lim.keeps x.toInCall.keep,codeAny_func ?_⟩;obtain⟨t,ht,hq⟩:=hbody A outer s H vs Q E (hr.deeper _) hsp;have I:Inv (T5 CX P w K mg base N qual scope f cdv A outer s H E) [] (start N vs) H s1:=J19 S hr.hd e0 hl r x;refine Hs (ht [] s1 (start N vs) H _ I hq) (λfl s' hs=>?_) λe s' hs=>hs
 have fin:∀{σ':St}{H':Hp}{v:V}{u:Value},Inv (T5 CX P w K mg base N qual scope f cdv A outer s H E) [] σ' H' s'->B1 v u->Q v H'->CE outer P w H s Q u s':=
  λ{σ' H' v u} J rv q=>⟨v,H',J.os,J.bare,J.base,J.hok,rv,q⟩
 cases fl with
 | ret u=>
  obtain⟨v,σ',H',J,rv,q⟩:=hs;exact fin J rv q
 | next=>
  obtain⟨σ',H',J,q⟩:=hs;exact fin (v:=V.non) (u:=Value.none) J rfl q
 | brk=>
  obtain⟨_,_,_,q⟩:=hs;exact False.elim q
 | cont=>
  obtain⟨_,_,_,q⟩:=hs;exact False.elim q
section
variable {X:Cx}{x:Str}{p pos:Pos}{e:Expr}{es:List Expr}{t:TA}{id T:String}{r:List V->Hp->VK->Prop}
def tCB(r:List V->Hp->VK->Prop)(t:TA):TE:=λσ H Q=>t σ H λvs H1=>r vs H1 Q
theorem Aj(hc:Gj X (.builtin id) r)(hg:Gl X x)(hm:X.mg x=none)(hv:bootBuiltins x=some (.builtin id))(ha:PA X (e::es) t)(hn:x≠"__name__":=by decide)(hdb:(x==("__debug__":Str))=false:=by decide)
 (he:starEach (e::es) X.env=(false,eval e X.env)::starEach es X.env:=by rfl) (hpl:(backTo pos (starEach es X.env)).any (·.1)=false:=by rfl):PE X (.Call (.Name x p) (e::es) [] pos) (tCB r t):=by
 intro pins s σ H Q I h;refine HR (Km I hg hm hv ?_ hn hdb);exact PyProof.Rows.callWith_builtin1 (thn (ha pos pins s σ H _ I h) λus s1 ⟨vs,H1,I1,r1,q1⟩=>hc pins s1 σ H1 vs us Q I1 r1 q1) he hpl
theorem Cm(hc:Gj X (.type T) r)(hg:Gl X x)(hm:X.mg x=none)(hv:bootBuiltins x=some (.type T))(ha:PA X (e::es) t)(hn:x≠"__name__":=by decide)(hdb:(x==("__debug__":Str))=false:=by decide)
 (he:starEach (e::es) X.env=(false,eval e X.env)::starEach es X.env:=by rfl) (hpl:(backTo pos (starEach es X.env)).any (·.1)=false:=by rfl):PE X (.Call (.Name x p) (e::es) [] pos) (tCB r t):=by
 intro pins s σ H Q I h;refine HR (Km I hg hm hv ?_ hn hdb);exact HX (thn (ha pos pins s σ H _ I h) λus s1 ⟨vs,H1,I1,r1,q1⟩=>hc pins s1 σ H1 vs us Q I1 r1 q1) he hpl
end
end L2
variable {xs:List L2.V}{us:List Value}{α:Type}{P:Program}{t':Nat}{E:Value->Shared->Prop}{Q:L2.VK}{s':Shared}{X:L2.Cx}{pins:List (Addr×Obj)}{σ:L2.St}{D:L2.Kl}{te td:L2.TE}{H' H1 H2:L2.Hp}{wi:L2.TI}{dx S tp od:Addr}{kw:List (Str×Value)}{CX:L2.CXT}{fd:FuncData}{ps ys:List Str}{kvs:List (L2.Key×L2.V)}{h':Heap}{as M gs:List Addr}{cl:List (Str×Addr)}
namespace HT
open PySem PyProof.Rows
def E5:List Int->List Int->Bool
 | [],[]=>false
 | [],_::_=>true
 | _::_,[]=>false
 | x::xs,y::ys=>if x=y then E5 xs ys else decide (x < y)
theorem X2(x y:Int)(xs ys:List Int):E5 (x::xs) (y::ys)=if x=y then E5 xs ys else decide (x < y):=rfl
theorem Ql:E5 [] []=false:=rfl
theorem Po(y:Int)(ys:List Int):E5 [] (y::ys)=true:=rfl
theorem Pp(x:Int)(xs:List Int):E5 (x::xs) []=false:=rfl
theorem J2v(A:Around)(s:Shared)(a:Int)(t:Tok)(c:Int)(u:Tok):∃e,SeqAt.EqAt A s (.int a t) (.int c u) e/\(e=true↔a=c):=
 ⟨(a==c),SeqAt.EqAt.int_int a t c u,by simp⟩
theorem J2w(A:Around)(s:Shared)(a:Int)(t:Tok)(c:Int)(u:Tok)(prog:Program)(w:World)(E:Value->Shared->Prop)(Q:Value->Shared->Prop)(h:Q (.bool (decide (a < c))) s):
 wpAny (model prog w) A (richCompare .Lt (.int a t) (.int c u)) Q E s:=
 (PyProof.Rows.lt_int h:wpAny (model prog w) A (compareOp .Lt (.int a t) (.int c u)) Q E s)
section
open PySem.SeqAt
open PySem.AutoSeq1 (wpAny_loadPart')
open PySem.MeetsSeq PySem.MeetsSeq2 PySem.MeetsSeq3
theorem Qm(l b:Addr)(items items2:Array Value)(n n2:Nat)(dd dd2:Option Addr)(sl sl2:Array (Option Value))(ns ms:List Int)(hi:IntsAre items.toList ns)(hj:IntsAre items2.toList ms):
 Meets (Builtin.«tuple.__lt__» ⟨[.ref l,.ref b],[]⟩)
  (λ_ R s=>s.heap.get? l=some {cls:= .type "tuple",dict:=dd,data:= .seq items n,slots:=sl}/\s.heap.get? b=some {cls:= .type "tuple",dict:=dd2,data:= .seq items2 n2,slots:=sl2}/\
   R (.ok (.ret (.bool (E5 ns ms)))) s):=
 .of_wp λprog w A R s h=>by
  obtain⟨hp,g,d,tk,os⟩:=s;obtain⟨hl,hb,h⟩:=h;have f2:=AutoSeq1.sub_tuple_tuple
  have z1:items.size=ns.length:=by rw[<- hi.length];simp
  have z2:items2.size=ms.length:=by rw[<- hj.length];simp
  wp_walk using wpAny_loadPart' hl,wpAny_loadPart' hb,wpAny_forIn_list _ (λrest b s'=>b.1=none/\s'=⟨hp,g,d,tk,os⟩/\∃(vs ws:List Value) (ns' ms':List Int),rest=vs.zip ws/\
   IntsAre vs ns'/\IntsAre ws ms'/\ns'.length+items2.size=ms'.length+items.size/\R (.ok (.ret (.bool (E5 ns' ms')))) ⟨hp,g,d,tk,os⟩) _
  case turn=>
   rintro⟨y,x⟩ rest b s' ⟨hb',rfl,vs,ws,ns',ms',hz,hvi,hwi,hlen,hR⟩
   cases hvi with
   | nil=>rw[List.zip_nil_left]at hz;cases hz
   | cons a t hvi'=>
    cases hwi with
    | nil=>rw[List.zip_nil_right]at hz;cases hz
    | cons c u hwi'=>
     rw[Je]at hz
     injection hz with hyx hrest
     injection hyx with hy hx
     subst hy hx;rw[X2]at hR;simp only[List.length_cons]at hlen;obtain⟨e,he,hiff⟩:=J2v A.in1 ⟨hp,g,d,tk,os⟩ a t c u;refine Fu (he prog w _ _ ?_)
     cases e with
     | true=>
      rw[if_pos (hiff.mp rfl)]at hR
      wp_walk
      exact⟨rfl,rfl,_,_,_,_,hrest,hvi',hwi',by omega,hR⟩
     | false=>
      rw[if_neg (λq=>absurd (hiff.mpr q) FF)]at hR;have hri:=J2w A.in1 ⟨hp,g,d,tk,os⟩ a t c u prog w
      wp_walk using hri
      exact⟨_,rfl,by simpa using hR⟩
  case fin=>
   rintro⟨b1,b2⟩ s' ⟨hb',rfl,vs,ws,ns',ms',hz,hvi,hwi,hlen,hR⟩;simp only at hb';subst hb'
   have hv:E5 ns' ms'=decide (items.size < items2.size):=by
    cases hvi with
    | nil=>
     cases hwi with
     | nil=>
      simp only[List.length_nil]at hlen;rw[Ql];exact(Fk (by omega)).symm
     | cons c u hw=>
      simp only[List.length_nil,List.length_cons]at hlen;rw[Po];exact(Fi (by omega)).symm
    | cons a t hv=>
     cases hwi with
     | nil=>
      simp only[List.length_nil,List.length_cons]at hlen;rw[Pp];exact(Fk (by omega)).symm
     | cons c u hw=>
      rw[Je]at hz;cases hz
   rw[hv]at hR
   wp_walk
   exact⟨_,rfl,by simpa [Builtin.Tuple.tupleCompareSizes] using hR⟩
  case h=>
   exact⟨rfl,rfl,items.toList,items2.toList,ns,ms,rfl,hi,hj,by omega,h⟩
end
section
variable {prog:Program}{w:World}{A:Around}{E:Value->Shared->Prop}{s:Shared}
theorem X3{l b:Addr}{items items2:Array Value}{ns ms:List Int}{Q:Value->Shared->Prop}(hl:IsTup s.heap l items)(hb:IsTup s.heap b items2)(hi:IntsAre items.toList ns)(hj:IntsAre items2.toList ms)
 (hu:A.units < cLine) (h:Q (.bool (E5 ns ms)) s):wpAny (model prog w) A (compareOp .Lt (.ref l) (.ref b)) Q E s:=by
 obtain⟨⟨cls,dd,data,sl⟩,ho,hc,n,hd⟩:=id hl;obtain⟨⟨cls2,dd2,data2,sl2⟩,ho2,hc2,n2,hd2⟩:=id hb;simp only at hc hd hc2 hd2;subst hc hd hc2 hd2
 exact richCompare_meets_room (op:= .Lt) ⟨_,ho,rfl⟩ ⟨_,ho2,rfl⟩ PySem.F.slot_tuple_lt PySem.F.entry_tuple_lt (PySem.F.args_tuple_lt_2 _ _) (Qm l b items items2 n n2 dd dd2 sl sl2 ns ms hi hj)
  ⟨ho,ho2,show Value.bool (E5 ns ms)≠Value.notImplemented/\Q (.bool (E5 ns ms)) s from ⟨(λx=>nomatch x),h⟩⟩ hu
def sIx(n d:Nat):Option Int->Nat
 | none=>d
 | some v=>if v < 0 then (v+(n:Int)).toNat else min v.toNat n
theorem Mp(n d k:Nat):sIx n d (some (k:Int))=min k n:=by
 show (if (k:Int) < 0 then ((k:Int)+(n:Int)).toNat else min (k:Int).toNat n)=min k n;rw[if_neg (by omega),Int.toNat_natCast]
end
end HT
namespace L2
abbrev TO:=St->Hp->(Option Int->Hp->Prop)->Prop
def PO(X:Cx)(e:Option Expr)(t:TO):Prop:=
 ∀(pins:List (Addr×Obj)) (s:Shared) (σ:St) (H:Hp) (Q:Option Int->Hp->Prop),Inv X pins σ H s->t σ H Q->
   wpAny (model X.prog X.w) X.A (evalPart e X.env) (λu s'=>∃o H',Inv X pins σ H' s'/\IsPart u o/\Q o H') X.xe s
def Y4:TO:=λ_ H Q=>Q none H
def J8x(t:TE):TO:=λσ H Q=>t σ H λx H1=>∃i,x= .int i/\Q (some i) H1
theorem Pq{ns:List Int}:∀{us:List Value},B3 (ns.map V.int) us->IntsAre us ns:=by
 induction ns with
 | nil=>intro us r;rw[List.map_nil]at r;cases r;exact .nil
 | cons n ns ih=>
  intro us r;rw[List.map_cons]at r
  cases r with
  | cons r1 r2=>
   obtain⟨t,e⟩:=r1;subst e;exact .cons n t (ih r2)
section
variable {X:Cx}{e:Expr}{te:TE}{lo hi:Option Expr}{tl th:TO}{pos p2:Pos}
theorem Y5:PO X none Y4:=by
 intro pins s σ H Q I h;rw[evalPart_none];exact FX ⟨none,H,I,.none,h⟩
theorem L9(h:PE X e te):PO X (some e) (J8x te):=by
 intro pins s σ H Q I hw;rw[evalPart_some];refine thn (h pins s σ H _ I hw) λu s1 hq_=>?_;obtain⟨x,H1,I1,r1,q1⟩:=hq_;obtain⟨i,rfl,q⟩:=q1;obtain⟨t,rfl⟩:=r1;exact⟨some i,H1,I1,.int i t,q⟩
def SlR(X:Cx)(r:V->Option Int->Option Int->Hp->VK->Prop):Prop:=
 ∀(pins:List (Addr×Obj)) (s:Shared) (σ:St) (H:Hp) (x:V) (v vl vu:Value) (lo hi:Option Int) (sl:Addr) (Q:VK),Inv X pins σ H s->B1 x v->s.heap.IsSliceOf sl vl vu .none->IsPart vl lo->IsPart vu hi->r x lo hi H Q->
   ∃T id,typeLookup (.type T) "__getitem__"=pure (some (.builtin id))/\s.TypeIs v T/\wpAny (model X.prog X.w) X.A (getItem v (.ref sl)) (EP X pins σ Q) X.xe s
def tSl(r:V->Option Int->Option Int->Hp->VK->Prop)(te:TE)(tl th:TO):TE:=λσ H Q=>te σ H λx H1=>tl σ H1 λl H2=>th σ H2 λu H3=>r x l u H3 Q
theorem Mq{r:V->Option Int->Option Int->Hp->VK->Prop}(hr:SlR X r)(he:PE X e te)(hl:PO X lo tl)(hu:PO X hi th):PE X (.Subscript e (.Slice lo hi none p2) pos) (tSl r te tl th):=by
 intro pins s σ H Q I h;refine Subscript_ (thn (he pins s σ H _ I h) λv s1 hq_=>?_);obtain⟨x,H1,I1,r1,q1⟩:=hq_;refine wpAny_Slice (thn (hl pins s1 σ H1 _ I1 q1) λvl s2 ⟨l,H2,I2,pl,q2⟩=>thn (hu pins s2 σ H2 _ I2 q2) λvu s3 hq_=>?_);obtain⟨u,H3,I3,pu,q3⟩:=hq_;rw[evalPart_none];refine FX ?_;have I4:Inv X pins σ H3 {s3 with heap:=s3.heap.push {cls:= .type "slice",data:= .fields #[vl,vu,.none]}}:=I3.kept (t':=s3.toks) λb ob q=>Fm _ q;obtain⟨T,id,hT,ht,hg⟩:=hr pins {s3 with heap:=s3.heap.push {cls:= .type "slice",data:= .fields #[vl,vu,.none]}} σ H3 x v vl vu l u s3.heap.objs.size Q I4 r1 (Heap.IsSliceOf.new ..) pl pu q3;show wpAny (model X.prog X.w) X.A (subscriptTail e (.Slice lo hi none p2) v (.ref s3.heap.objs.size)) (EP X pins σ Q) X.xe {s3 with heap:=s3.heap.push {cls:= .type "slice",data:= .fields #[vl,vu,.none]}};exact tail_any (ops:=[.ref s3.heap.objs.size,v]) ht hT hg (by with_unfolding_all rfl)
def Oo(xs:List V)(lo hi:Option Int):List V:=(xs.drop (HT.sIx xs.length 0 lo)).take (HT.sIx xs.length xs.length hi - HT.sIx xs.length 0 lo)
theorem Ui(xs:List V)(lo hi:Option Int):(Oo xs lo hi).length<=xs.length:=by
 unfold Oo;rw[Hl,Hq];omega
end
def ixN(n:Nat)(i:Int):Option Nat:=if 0<=i then (if i < n then some i.toNat else none) else if -(n:Int)<=i then some (i+n).toNat else none
def atI{α:Type}(xs:List α)(i:Int):Option α:=(ixN xs.length i).bind λj=>xs[j]?
theorem Y6{n:Nat}{i:Int}{j:Nat}(h:ixN n i=some j):seqIndex? i n=some j/\j < n/\-(n:Int)<=i/\i < n:=by
 unfold ixN at h
 by_cases h0:0<=i
 . rw[if_pos h0]at h
   by_cases h1:i < n
   . rw[if_pos h1]at h
     have e:i.toNat=j:=FG h;exact⟨by rw[seqIndex_of h0 h1,e],by omega,by omega,h1⟩
   . rw[if_neg h1]at h;cases h
 . rw[if_neg h0]at h
   by_cases h1:-(n:Int)<=i
   . rw[if_pos h1]at h
     have e:(i+n).toNat=j:=FG h;exact⟨by rw[seqIndex_neg (by omega) h1,e],by omega,h1,by omega⟩
   . rw[if_neg h1]at h;cases h
theorem T8{xs:List α}{i:Int}{v:α}(h:atI xs i=some v):∃j,seqIndex? i xs.length=some j/\xs[j]?=some v/\j < xs.length/\-(xs.length:Int)<=i/\i < xs.length:=by
 unfold atI at h
 cases e:ixN xs.length i with
 | none=>rw[e]at h;cases h
 | some j=>
  rw[e]at h;obtain⟨h1,h2,h3,h4⟩:=Y6 e;exact⟨j,h1,h,h2,h3,h4⟩
theorem Ai{xs:List α}{j:Nat}{v:α}(h:xs[j]?=some v):atI xs (j:Int)=some v:=by
 have hj:j < xs.length:=(Fd.mp h).1
 have e:ixN xs.length (j:Int)=some j:=by
  unfold ixN;rw[if_pos (by omega),if_pos (by omega)];simp
 unfold atI;rw[e];exact h
def J75(b:Expr):Prop:=∀o i,subscripted b false o i=operate [o,i] (getItem o i)
def IxR(X:Cx)(r:R2):Prop:=
 ∀(value slice:Expr) (pins:List (Addr×Obj)) (s:Shared) (σ:St) (H:Hp) (x y:V) (v u:Value) (Q:VK),Inv X pins σ H s->B1 x v->B1 y u->r x y H Q->
   subscripted slice false v u=operate [v,u] (getItem v u)->wpAny (model X.prog X.w) X.A (subscriptTail value slice v u) (EP X pins σ Q) X.xe s
def MtR(X:Cx)(id:String)(r:V->List V->Hp->VK->Prop):Prop:=
 ∀(pins:List (Addr×Obj)) (s:Shared) (σ:St) (H:Hp) (x:V) (xs:List V) (v:Value) (us:List Value) (Q:VK),Inv X pins σ H s->B1 x v->B3 xs us->r x xs H Q->
   wpAny (model X.prog X.w) X.A (call (.builtin id) (v::us)) (EP X pins σ Q) X.xe s
section
variable {X:Cx}{a b:Expr}{ta tb:TE}{pos:Pos}
theorem As{r:R2}(hr:IxR X r)(ha:PE X a ta)(hb:PE X b tb)(hs:J75 b):PE X (.Subscript a b pos) (tOp r ta tb):=by
 intro pins s σ H Q I h;exact Subscript_ (Ja2 ha hb I h λv u s2 x y H2 I2 rx ry q=>hr a b pins s2 σ H2 x y v u Q I2 rx ry q (hs _ _))
def Ja8(K:PySem.W.Frag):R2:=λx y H Q=>∃p xs i v,x= .ref p/\y= .int i/\SqL K H p xs/\atI xs i=some v/\Q v H
def Ja9(K:PySem.W.Frag):R2:=λx y H Q=>∃p xs i v,x= .ref p/\y= .int i/\SqT K H p xs/\atI xs i=some v/\Q v H
def Jc6:R2:=λx y H Q=>∃z i c,x= .str z/\y= .int i/\z.length<=sizeLine/\atI z.cps.toList i=some c/\Q (.str ⟨#[c]⟩) H
theorem B9:IxR X (Ja8 X.K):=by
 intro value slice pins s σ H x y v u Q I rx ry h hs;obtain⟨p,xs,i,z,rfl,rfl,hq,he,q⟩:=h;cases rx;obtain⟨t,rfl⟩:=ry;obtain⟨its,r,pl,hz⟩:=I.list hq;obtain⟨j,h1,h2,h3,h4,h5⟩:=T8 he;obtain⟨w,ew,rw'⟩:=r.get h2;have hl:=r.length;have hn:=Nt
 have fin:EP X pins σ Q w s:=⟨z,H,I,rw',q⟩
 by_cases h0:0<=i
 . have hj:i.toNat=j:=by
    rw[seqIndex_of h0 h5]at h1;exact FG h1
   exact item_listR pl.isList h0 (by omega) (by rw[hj];simpa using ew) fin hs
 . have hj:(i+(its.toArray.size:Int)).toNat=j:=by
    rw[seqIndex_neg (by omega) h4]at h1;rw[Fn,<- hl];exact FG h1
   exact subscriptTail_builtinR (x:=w) pl.isList.typeIs slot_list_getitem.lookup
    (wpAny_getItem_list_neg (Q:=λr s'=>r=w/\EP X pins σ Q r s') pl.isList (by omega) (by rw[Fn] <;> omega) (by omega) (by rw[hj];simpa using ew) ⟨rfl,fin⟩) hs
theorem B8:IxR X (Ja9 X.K):=by
 intro value slice pins s σ H x y v u Q I rx ry h hs;obtain⟨p,xs,i,z,rfl,rfl,hq,he,q⟩:=h;cases rx;obtain⟨t,rfl⟩:=ry;obtain⟨its,r,pl,hz⟩:=I.tuple hq;obtain⟨j,h1,h2,h3,h4,h5⟩:=T8 he;obtain⟨w,ew,rw'⟩:=r.get h2;have hl:=r.length;have hn:=Nt
 have fin:EP X pins σ Q w s:=⟨z,H,I,rw',q⟩
 exact subscriptTail_builtinR (x:=w) pl.typeIs slot_tuple_getitem.lookup
  (getItem_tuple (j:=j) (Q:=λr s'=>r=w/\EP X pins σ Q r s') pl (by omega) (by omega) (by rw[Fn,<- hl];exact h1) (by simpa using ew) ⟨rfl,fin⟩) hs
theorem Pr:IxR X Jc6:=by
 intro value slice pins s σ H x y v u Q I rx ry h hs;obtain⟨z,i,c,rfl,rfl,hz,he,q⟩:=h;obtain⟨t,rfl⟩:=rx;obtain⟨t',rfl⟩:=ry;obtain⟨j,h1,h2,h3,h4,h5⟩:=T8 he
 have hl:z.cps.toList.length=z.length:=by simp[Str.length]
 rw[hl]at h1 h4 h5;have hn:=Nt
 exact tail_any (typeIs_str s z t) slot_str_getitem.lookup (getItem_str (c:=c) (by
  have e1:decide (i < -(2 ^ 63:Int))=false:=Fk (by omega);have e2:decide (i >= 2 ^ 63)=false:=Fk (by omega)
  rw[e1,e2,Bool.or_false]) (by rw[h1];simpa using h2) ⟨.str ⟨#[c]⟩,H,I.tok _,⟨_,rfl⟩,q⟩) hs
theorem X4(its:List Value)(n j:Nat)(u:Value):Obj.mapSeq (·.setIfInBounds j u) {cls:= .type "list",data:= .seq its.toArray n}={cls:= .type "list",data:= .seq (its.set j u).toArray n}:=by
 simp[Obj.mapSeq]
theorem Inv.lst{pins:List (Addr×Obj)}{σ:St}{H:Hp}{s:Shared}{p:Addr}{xs:List V}(I:Inv X pins σ H s)(h:H p=some (.lst xs)):
 ∃(its:List Value) (n:Nat),B3 xs its/\s.heap.get? p=some {cls:= .type "list",data:= .seq its.toArray n}/\xs.length<=sizeLine:=by
 obtain⟨z,its,n,r,e⟩:=I.hok p _ h;exact⟨its,n,r,e,z⟩
theorem Inv.lstUpd{H:Hp}{s:Shared}{p:Addr}{ys:List V}{its its':List Value}{n n':Nat}{f:Obj->Obj}(I:Inv X pins σ H s)(h:H p=some (.lst xs))
 (ho:s.heap.get? p=some {cls:= .type "list",data:= .seq its.toArray n}) (hf:f {cls:= .type "list",data:= .seq its.toArray n}={cls:= .type "list",data:= .seq its'.toArray n'}) (r:B3 ys its') (hz:ys.length<=sizeLine) (t:Nat):
 Inv X pins σ (upd H p (.lst ys)) {s with heap:=s.heap.update p f,toks:=t}:=by
 have e:(s.heap.update p f).get? p=some {cls:= .type "list",data:= .seq its'.toArray n'}:=by
  rw[Heap.get?_update_self f ho (by rw[hf] <;> rfl),hf]
 refine I.write (x:=p) (e:=p) (by rw[h];trivial) (.inl rfl) (λb u hb q=>(Heap.get?_update_other _ _ (Ne.symm hb)).trans q) ⟨_,e⟩ ?_;exact⟨hz,its',n',r,e⟩
def J8y:V->V->V->Hp->(Hp->Prop)->Prop:=λo i v H Q=>∃p xs k j,o= .ref p/\i= .int k/\H p=some (.lst xs)/\ixN xs.length k=some j/\Q (upd H p (.lst (xs.set j v)))
theorem Ps:Jbt X J8y:=by
 intro pins s σ H o i v ov iv u Q I ro ri rv h;obtain⟨p,xs,k,j,rfl,rfl,hp,hj,q⟩:=h;cases ro;obtain⟨t,rfl⟩:=ri;obtain⟨its,n,r,ho,hz⟩:=I.lst hp;obtain⟨h1,h2,h3,h4⟩:=Y6 hj;have hl:=r.length;have hn:=Nt
 have I':Inv X pins σ (upd H p (.lst (xs.set j v))) {s with heap:=s.heap.update p (Obj.mapSeq (·.setIfInBounds j u))}:=
  I.lstUpd hp ho (X4 its n j u) (r.set rv j) (by rw[J8];exact hz) s.toks
 by_cases h0:0<=k
 . have hk:k.toNat=j:=by
    rw[seqIndex_of h0 h4]at h1;exact FG h1
   exact PySem.W.ki_setAt ho h0 (by omega) (by rw[Fn,<- hl];exact h4) (by rw[hk];exact⟨_,I',q⟩)
 . have hk:(k+(its.toArray.size:Int)).toNat=j:=by
    rw[seqIndex_neg (by omega) h3]at h1;rw[Fn,<- hl];exact FG h1
   exact PySem.W.ki_setBack ho (by omega) (by rw[Fn,<- hl];exact h3) (by omega) (by rw[hk];exact⟨_,I',q⟩)
theorem T9(lo hi:Option Int)(n:Nat):(sliceBounds lo hi none n).1=((HT.sIx n 0 lo:Nat):Int)/\(sliceBounds lo hi none n).2.1=((HT.sIx n n hi:Nat):Int)/\(sliceBounds lo hi none n).2.2=1:=by
 refine⟨?_,?_,rfl⟩
 . cases lo with
   | none=>simp[sliceBounds,HT.sIx]
   | some i=>
    simp only[sliceBounds,HT.sIx,Option.getD_none,show (1:Int) > 0 by decide,if_true]
    by_cases h:i < 0
    . simp only[h,if_true] <;> omega
    . simp only[h,if_false] <;> omega
 . cases hi with
   | none=>simp[sliceBounds,HT.sIx]
   | some i=>
    simp only[sliceBounds,HT.sIx,Option.getD_none,show (1:Int) > 0 by decide,if_true]
    by_cases h:i < 0
    . simp only[h,if_true] <;> omega
    . simp only[h,if_false] <;> omega
theorem Qn(its:List Value)(lo hi:Option Int):slicePick its.toArray lo hi none=((its.drop (HT.sIx its.length 0 lo)).take (HT.sIx its.length its.length hi - HT.sIx its.length 0 lo)).toArray:=by
 obtain⟨h1,h2,h3⟩:=T9 lo hi its.toArray.size;unfold slicePick;rw[h1,h2,h3]
 simp only[sliceRange_one,pick_run,Fn] <;> rfl
def Jc7(K:PySem.W.Frag):V->Option Int->Option Int->Hp->VK->Prop:=λx lo hi H Q=>∃a xs,x= .ref a/\SqL K H a xs/\∀p,H p=none->Q (.ref p) (upd H p (.lst (Oo xs lo hi)))
theorem Ta:SlR X (Jc7 X.K):=by
 intro pins s σ H x v vl vu lo hi sl Q I rx hs pl pu h;obtain⟨a,xs,rfl,hx,q⟩:=h;cases rx;obtain⟨its,r,ht,hz⟩:=I.list hx;have hlen:=r.length;refine⟨"list",_,slot_list_getitem.lookup,ht.isList.typeIs,?_⟩
 refine wpAny_getItem_list_slice ht.isList hs pl pu .none (by simp) ?_ (by rw[Fn] <;> omega)
 rw[Qn,<- hlen];refine⟨.ref s.heap.objs.size,_,I.laid (t':=s.toks) (o:= .lst (Oo xs lo hi)) (λb ob q=>Fm _ q) (Fg _) ?_,rfl,q _ (I.hok.fresh (Fg _))⟩;exact⟨FO (Ui xs lo hi) hz,_,0,(r.drop (HT.sIx xs.length 0 lo)).take (HT.sIx xs.length xs.length hi - HT.sIx xs.length 0 lo),FK _ rfl⟩
def Em:V->Bool
 | .non=>true
 | .bl _=>true
 | .int _=>true
 | .str _=>true
 | _=>false
def eqV:V->V->Bool
 | .non,.non=>true
 | .bl a,.bl b=>a==b
 | .bl a,.int b=>(if a then 1 else 0)==b
 | .int a,.bl b=>a==(if b then 1 else 0)
 | .int a,.int b=>a==b
 | .str a,.str b=>a==b
 | _,_=>false
theorem J2x{A:Around}{s:Shared}{y x:V}{u v:Value}(ry:B1 y u)(rx:B1 x v)(fy:Em y=true)(fx:Em x=true):SeqAt.EqAt A s u v (eqV y x):=by
 cases y with
 | non=>
  cases ry
  cases x with
  | non=>cases rx;exact SeqAt.EqAt.same _
  | bl b=>cases rx;exact SeqAt.EqAt.none_bool b
  | int b=>obtain⟨t,rfl⟩:=rx;exact SeqAt.EqAt.none_int b t
  | str b=>obtain⟨t,rfl⟩:=rx;exact SeqAt.EqAt.none_str b t
  | _=>exact absurd (show false=true from fx) FF
 | bl a=>
  cases ry
  cases x with
  | non=>cases rx;exact SeqAt.EqAt.bool_none a
  | bl b=>cases rx;exact SeqAt.EqAt.bool_bool a b
  | int b=>obtain⟨t,rfl⟩:=rx;exact SeqAt.EqAt.bool_int a b t
  | str b=>obtain⟨t,rfl⟩:=rx;exact SeqAt.EqAt.bool_str a b t
  | _=>exact absurd (show false=true from fx) FF
 | int a=>
  obtain⟨t',rfl⟩:=ry
  cases x with
  | non=>cases rx;exact SeqAt.EqAt.int_none a t'
  | bl b=>cases rx;exact SeqAt.EqAt.int_bool a t' b
  | int b=>obtain⟨t,rfl⟩:=rx;exact SeqAt.EqAt.int_int a t' b t
  | str b=>obtain⟨t,rfl⟩:=rx;exact SeqAt.EqAt.int_str a t' b t
  | _=>exact absurd (show false=true from fx) FF
 | str a=>
  obtain⟨t',rfl⟩:=ry
  cases x with
  | non=>cases rx;exact SeqAt.EqAt.str_none a t'
  | bl b=>cases rx;exact SeqAt.EqAt.str_bool a t' b
  | int b=>obtain⟨t,rfl⟩:=rx;exact SeqAt.EqAt.str_int a t' b t
  | str b=>obtain⟨t,rfl⟩:=rx;exact SeqAt.EqAt.str_str a t' b t
  | _=>exact absurd (show false=true from fx) FF
 | _=>exact absurd (show false=true from fy) FF
def eqU(x:V)(u:Value):Bool:=match u with
 | .none=>eqV .non x
 | .bool b=>eqV (.bl b) x
 | .int i _=>eqV (.int i) x
 | .str z _=>eqV (.str z) x
 | _=>false
theorem J2y{x y:V}{u:Value}(r:B1 y u)(f:Em y=true):eqU x u=eqV y x:=by
 cases y with
 | non=>cases r;rfl
 | bl b=>cases r;rfl
 | int i=>obtain⟨t,rfl⟩:=r;rfl
 | str z=>obtain⟨t,rfl⟩:=r;rfl
 | _=>exact absurd (show false=true from f) FF
theorem Mr{x:V}:∀{xs:List V}{us:List Value},B3 xs us->xs.all Em=true->us.any (eqU x)=xs.any λy=>eqV y x
 | _,_,.nil,_=>rfl
 | y::xs,u::us,.cons r t,f=>by
  rw[List.all_cons,Rl]at f;rw[RH,RH,J2y r f.1,Mr t f.2]
theorem Kq{A:Around}{s:Shared}{x:V}{v:Value}(rx:B1 x v)(fx:Em x=true):∀{xs:List V}{us:List Value},B3 xs us->xs.all Em=true->∀u∈us,SeqAt.EqAt A s u v (eqU x u)
 | _,_,.nil,_=>λu hu=>by cases hu
 | y::xs,u::us,.cons r t,f=>λu' hu=>by
  rw[List.all_cons,Rl]at f;rcases Ft.mp hu with rfl | hu
  . rw[J2y r f.1];exact J2x r rx f.1 fx
  . exact Kq rx fx t f.2 u' hu
def inV(x:V)(xs:List V):Bool:=xs.any λy=>eqV y x
def rIn(K:PySem.W.Frag)(neg:Bool):R2:=λx y H Q=>∃p xs,y= .ref p/\(SqL K H p xs\/SqT K H p xs)/\Em x=true/\xs.all Em=true/\Q (.bl (if neg then !inV x xs else inV x xs)) H
theorem D2:OpR X (compareOp .In) (rIn X.K false):=by
 intro pins s σ H x y v u Q I rx ry h;obtain⟨p,xs,rfl,hq,fx,fs,q⟩:=h;cases ry;rcases hq with hq | hq
 . obtain⟨its,r,pl,hz⟩:=I.list hq
   refine SeqAt.in_listAt (eqU x) pl.isList (λw hw=>Kq rx fx r fs w (by simpa using hw)) ⟨.bl _,H,I,rfl,?_⟩;rw[show its.toArray.any (eqU x)=its.any (eqU x) by simp,Mr r fs];exact q
 . obtain⟨its,r,pl,hz⟩:=I.tuple hq
   refine SeqAt.in_tupleAt (eqU x) pl (λw hw=>Kq rx fx r fs w (by simpa using hw)) ⟨.bl _,H,I,rfl,?_⟩;rw[show its.toArray.any (eqU x)=its.any (eqU x) by simp,Mr r fs];exact q
theorem Ms:OpR X (compareOp .NotIn) (rIn X.K true):=by
 intro pins s σ H x y v u Q I rx ry h;obtain⟨p,xs,rfl,hq,fx,fs,q⟩:=h;cases ry;rcases hq with hq | hq
 . obtain⟨its,r,pl,hz⟩:=I.list hq
   refine SeqAt.notIn_listAt (eqU x) pl.isList (λw hw=>Kq rx fx r fs w (by simpa using hw)) ⟨.bl _,H,I,rfl,?_⟩;rw[show its.toArray.any (eqU x)=its.any (eqU x) by simp,Mr r fs];exact q
 . obtain⟨its,r,pl,hz⟩:=I.tuple hq
   refine SeqAt.notIn_tupleAt (eqU x) pl (λw hw=>Kq rx fx r fs w (by simpa using hw)) ⟨.bl _,H,I,rfl,?_⟩;rw[show its.toArray.any (eqU x)=its.any (eqU x) by simp,Mr r fs];exact q
theorem Ap:Gj X (.builtin "len") (λxs H Q=>∃p ys,xs=[.ref p]/\(SqL X.K H p ys\/SqT X.K H p ys)/\Q (.int ys.length) H):=by
 intro pins s σ H xs us Q I r h;obtain⟨p,ys,rfl,hq,q⟩:=h;obtain⟨u,rfl,rx⟩:=Mm r;cases rx;have hn:=Nt;rcases hq with hq | hq
 . obtain⟨its,r',pl,hz⟩:=I.list hq
   have hlen:=r'.length
   exact Calls.call_len_list pl.isList (by simp only[Fn] <;> omega) ⟨.int ys.length,H,I.tok _,⟨s.toks+1,by rw[Fn,hlen]⟩,q⟩
 . obtain⟨its,r',pl,hz⟩:=I.tuple hq
   have hlen:=r'.length
   exact len_tuple pl (by simp only[Fn] <;> omega) ⟨.int ys.length,H,I.tok _,⟨s.toks+1,by rw[Fn,hlen]⟩,q⟩
theorem Mt:Gj X (.builtin "len") (λxs H Q=>∃z,xs=[.str z]/\z.length<=sizeLine/\Q (.int z.length) H):=by
 intro pins s σ H xs us Q I r h;obtain⟨z,rfl,hz,q⟩:=h;obtain⟨u,rfl,t,rfl⟩:=Mm r;have hn:=Nt;exact len_str (by omega) ⟨.int z.length,H,I.tok _,⟨_,rfl⟩,q⟩
theorem Bw:Gj X (.type "list") (λxs H Q=>∃p ys,xs=[.ref p]/\(SqL X.K H p ys\/SqT X.K H p ys)/\∀l,H l=none->Q (.ref l) (upd H l (.lst ys))):=by
 intro pins s σ H xs us Q I r h;obtain⟨p,ys,rfl,hq,q⟩:=h;obtain⟨u,rfl,rx⟩:=Mm r;cases rx
 have fin:∀(its:List Value),B3 ys its->ys.length<=sizeLine->∀(h':Heap) (c':Nat),(∀b o',s.heap.get? b=some o'->h'.get? b=some o')->
  h'.get? s.heap.objs.size=some {cls:= .type "list",dict:=none,data:= .seq its.toArray c',slots:=#[]}->EP X pins σ Q (.ref s.heap.objs.size) {s with heap:=h'}:=λits r' hz h' c' kp e=>
  ⟨.ref s.heap.objs.size,_,I.laid (t':=s.toks) kp (Fg _) (show Bu X.prog X.w _ h' _ (.lst ys) from ⟨hz,its,c',r',e⟩),rfl,q _ (I.hok.fresh (Fg _))⟩
 rcases hq with hq | hq
 . obtain⟨its,r',pl,hz⟩:=I.list hq
   have hlen:=r'.length;obtain⟨o,ho,hc,n,hd⟩:=pl.isList
   exact call_list_seq p (.inl rfl) ho hc hd (λh' c' kp e=>fin its r' hz h' c' kp e) (by simp only[Fn] <;> omega)
 . obtain⟨its,r',pl,hz⟩:=I.tuple hq
   have hlen:=r'.length;obtain⟨o,ho,hc,n,hd⟩:=pl
   exact call_list_seq p (.inr rfl) ho hc hd (λh' c' kp e=>fin its r' hz h' c' kp e) (by simp only[Fn] <;> omega)
def tyV(K:PySem.W.Frag)(T:String)(x:V)(H:Hp):Prop:=match x with
 | .str _=>T="str"
 | .int _=>T="int"
 | .ref p=>(T="list"/\∃xs,SqL K H p xs)\/(T="tuple"/\∃o,K.lookup p=some o/\o.cls= .type "tuple"/\o.dict=none)\/
  (T="dict"/\((∃kvs,H p=some (.dK kvs))\/∃kvs,H p=some (.dT kvs)))\/(T="set"/\∃S n,H p=some (.set S n))
 | _=>False
theorem J2z{H:Hp}{s:Shared}{T:String}{x:V}{v:Value}(I:Inv X pins σ H s)(r:B1 x v)(ty:tyV X.K T x H):
 s.TypeIs v T/\∀a,v= .ref a->∃ob,s.heap.get? a=some ob/\ob.dict=none:=by
 cases x with
 | str z=>
  obtain⟨t,rfl⟩:=r;cases (show T="str" from ty);exact⟨typeIs_str s z t,λ_ e=>nomatch e⟩
 | int i=>
  obtain⟨t,rfl⟩:=r;cases (show T="int" from ty);exact⟨typeIs_int s i t,λ_ e=>nomatch e⟩
 | ref p=>
  cases r;rcases ty with ⟨rfl,xs,hq⟩ | ⟨rfl,o,hk,hc,hd⟩ | ⟨rfl,hk⟩ | ⟨rfl,S,n,hk⟩
  . obtain⟨its,_,pl,_⟩:=I.list hq
    refine⟨pl.isList.typeIs,λa e=>?_⟩;cases e;obtain⟨o,n,e,c,hd,_⟩:=pl;exact⟨o,e,hd⟩
  . refine⟨⟨o,I.kIn p o hk,hc⟩,λa e=>?_⟩
    cases e;exact⟨o,I.kIn _ o hk,hd⟩
  . have z:∃o,s.heap.get? p=some o/\o.ExactDict:=by
     rcases hk with ⟨kvs,hk⟩ | ⟨kvs,hk⟩
     . obtain⟨_,_,_,_,o,_,_,e,ex,_⟩:=I.hok p _ hk
       exact⟨o,e,ex⟩
     . obtain⟨_,_,_,_,o,_,_,e,ex,_⟩:=I.hok p _ hk
       exact⟨o,e,ex⟩
    obtain⟨o,e,ex⟩:=z;refine⟨⟨o,e,ex.1⟩,λa e2=>?_⟩;cases e2;exact⟨o,e,ex.2.1⟩
  . obtain⟨o,_,_,_,e,ex,_⟩:=I.hok p _ hk
    refine⟨⟨o,e,ex.1⟩,λa e2=>?_⟩;cases e2;exact⟨o,e,ex.2.1⟩
 | _=>exact False.elim ty
def Jc8(K:PySem.W.Frag)(T:String)(r:V->List V->Hp->VK->Prop)(to:TE):TE:=λσ H Q=>to σ H λx H1=>tyV K T x H1/\r x [] H1 Q
def tBM(K:PySem.W.Frag)(T:String)(r:V->List V->Hp->VK->Prop)(to:TE)(t:TA):TE:=λσ H Q=>to σ H λx H1=>tyV K T x H1/\t σ H1 λxs H2=>r x xs H2 Q
variable {o e:Expr}{es:List Expr}{to:TE}{t:TA}{name:Str}{apos cpos:Pos}{T id:String}{r:V->List V->Hp->VK->Prop}
theorem Jaa(pa:PlainAttrs T)(slot:Slot T name id)(hty:typeOf (.builtin id)=pure (.type "method_descriptor"))(hm:MtR X id r)(ho:PE X o to)
 (hbase:attributeBase o name X.env (eval o X.env)=eval o X.env:=by rfl) (hline:(apos.endLine==cpos.line)=true:=by rfl):PE X (.Call (.Attribute o name apos) [] [] cpos) (Jc8 X.K T r to):=by
 intro pins s σ H Q I h;refine wpAny_Call_method0_late hbase hline (thn (ho pins s σ H _ I h) λv s1 hq_=>?_);obtain⟨x,H1,I1,r1,ty,q1⟩:=hq_;obtain⟨h1,h2⟩:=J2z I1 r1 ty;exact⟨T,id,pa,slot,hty,h1,h2,Calls.callWith_builtin rfl (PySem.evalArgs_none (hm pins s1 σ H1 x [] v [] Q I1 r1 .nil q1))⟩
theorem Dh(pa:PlainAttrs T)(slot:Slot T name id)(hty:typeOf (.builtin id)=pure (.type "method_descriptor"))(hm:MtR X id r)(ho:PE X o to)(ha:PA X (e::es) t)
 (hbase:attributeBase o name X.env (eval o X.env)=eval o X.env:=by rfl)
 (hfew:((backTo cpos (starEach (e::es) X.env)).all (λx=>!x.1) && (backToKw cpos (keywordEach [] X.env)).all (λx=>x.1.isSome)
  && decide ((e::es).length+([]:List Keyword).length+(if ([]:List Keyword).isEmpty then 0 else 1) < 30))=true:=by rfl)
 (hline:(apos.endLine==cpos.line)=true:=by rfl) (hs:starEach (e::es) X.env=(false,eval e X.env)::starEach es X.env:=by rfl) (hplain:(backTo cpos (starEach es X.env)).any (·.1)=false:=by rfl):
 PE X (.Call (.Attribute o name apos) (e::es) [] cpos) (tBM X.K T r to t):=by
 intro pins s σ H Q I h;refine wpAny_Call_method_late hbase hfew hline rfl (thn (ho pins s σ H _ I h) λv s1 hq_=>?_);obtain⟨x,H1,I1,r1,ty,q1⟩:=hq_;obtain⟨h1,h2⟩:=J2z I1 r1 ty;refine⟨T,id,pa,slot,hty,h1,h2,?_⟩;have hA:=ha cpos pins s1 σ H1 _ I1 q1;rw[hs]at hA ⊢
 refine Calls.callWith_builtin (by show (false || (backTo cpos (starEach es X.env)).any (·.1))=false;rw[hplain] <;> rfl) (Calls.evalArgs_plain ?_)
 exact thn hA λus s2 ⟨vs,H2,I2,r2,q2⟩=>hm pins s2 σ H2 x vs v us Q I2 r1 r2 q2
end
def MtM(X:Cx)(id:String)(r:V->List V->Hp->VK->Prop):Prop:=
 ∀(pins:List (Addr×Obj)) (s:Shared) (σ:St) (H:Hp) (x:V) (xs:List V) (v:Value) (us:List Value) (Q:VK),Inv X pins σ H s->B1 x v->B3 xs us->r x xs H Q->
   wpAny (model X.prog X.w) X.A (call (.builtin id) (v::us)) (EP X pins σ Q) X.xe s
theorem B3.one:∀{x:V}{us:List Value},B3 [x] us->∃u,us=[u]/\B1 x u
 | _,_,.cons r .nil=>⟨_,rfl,r⟩
theorem B3.zero:∀{us:List Value},B3 [] us->us=[]
 | _,.nil=>rfl
theorem B3.eraseIdx:∀{xs:List V}{us:List Value} (i:Nat),B3 xs us->B3 (xs.eraseIdx i) (us.eraseIdx i)
 | _,_,_,.nil=> .nil
 | _,_,0,.cons _ t=>t
 | _,_,i+1,.cons r t=> .cons r (B3.eraseIdx i t)
theorem Qz:∀(l:List α) (i:Nat),(l.eraseIdx i).length<=l.length
 | [],_=>Fg _
 | _::_,0=>Rj _
 | _::r,i+1=>Nat.succ_le_succ (Qz r i)
section
variable {X:Cx}{pins:List (Addr×Obj)}{σ:St}{H:Hp}{s:Shared}{l b:Addr}{xs ys zs:List V}
theorem Inv.lset{its its':List Value}{n:Nat}{f:Array Value->Array Value}(I:Inv X pins σ H s)(hH:H l=some (.lst xs))
 (e:s.heap.get? l=some {cls:= .type "list",data:= .seq its.toArray n}) (hf:f its.toArray=its'.toArray) (hv:B3 ys its') (hz:ys.length<=sizeLine):
 Inv X pins σ (upd H l (.lst ys)) {s with heap:=s.heap.update l (Obj.mapSeq f),toks:=t'}:=by
 have q:=PySem.IsL.update e f;rw[hf]at q;refine I.write (x:=l) (e:=l) (by rw[hH];exact trivial) (.inl rfl) (λb' u hb hu=>(Heap.get?_update_other s.heap (Obj.mapSeq f) (Ne.symm hb)).trans hu) ⟨_,q⟩ ?_;exact⟨hz,its',_,hv,q⟩
theorem Inv.lnew{its:List Value}(I:Inv X pins σ H s)(hv:B3 ys its)(hz:ys.length<=sizeLine):
 Inv X pins σ (upd H s.heap.objs.size (.lst ys)) {s with heap:=s.heap.push {cls:= .type "list",data:= .seq its.toArray},toks:=t'}:=
 I.laid (λ_ _ q=>Fm _ q) (Fg _) ⟨hz,its,0,hv,FK _ rfl⟩
theorem Inv.fresh(I:Inv X pins σ H s):H s.heap.objs.size=none:=I.hok.fresh (Fg _)
theorem Inv.lstM(I:Inv X pins σ H s)(hH:H l=some (.lst xs)):xs.length<=sizeLine/\∃(its:List Value) (n:Nat),B3 xs its/\xs.length=its.length/\s.heap.get? l=some {cls:= .type "list",data:= .seq its.toArray n}:=by
 obtain⟨z,its,n,r,e⟩:=I.hok l _ hH;exact⟨z,its,n,r,r.length,e⟩
theorem J30{n:Nat}(h:n<=sizeLine):Builtin.List.listTooLong n=false:=by
 unfold Builtin.List.listTooLong;exact Fk (by omega)
end
section
variable {X:Cx}
def J76:V->List V->Hp->VK->Prop:=λx vs H Q=>∃l xs y,x= .ref l/\vs=[y]/\H l=some (.lst xs)/\xs.length < sizeLine/\Q .non (upd H l (.lst (xs++[y])))
theorem Bq:MtM X "list.append" J76:=by
 intro pins s σ H x vs v us Q I rx rv h;obtain⟨l,xs,y,rfl,rfl,hH,hz,q⟩:=h;cases rx;obtain⟨u,rfl,ru⟩:=rv.one;obtain⟨z,its,n,r,hl,e⟩:=I.lstM hH;refine call_meets F.slot_list_append ⟨_,e,rfl⟩ F.entry_list_append (F.args_list_append_2 _ _) (PySem.list_append l its.toArray n u (by rw[Fn];omega)) ⟨e,?_⟩;refine⟨.non,_,I.lset (its':=its++[u]) hH e (by simp) (r.append (.cons ru .nil)) ?_,rfl,q⟩;rw[Fl,FV];omega
def J31:V->List V->Hp->VK->Prop:=λx vs H Q=>∃l xs i k y,x= .ref l/\vs=[.int i]/\H l=some (.lst xs)/\-(2 ^ 63)<=i/\i < 2 ^ 63/\seqIndex? i xs.length=some k/\xs[k]?=some y/\Q y (upd H l (.lst (xs.eraseIdx k)))
theorem Uj:MtM X "list.pop" J31:=by
 intro pins s σ H x vs v us Q I rx rv h;obtain⟨l,xs,i,k,y,rfl,rfl,hH,h1,h2,hk,hy,q⟩:=h;cases rx;obtain⟨u,rfl,ru⟩:=rv.one;obtain⟨t,rfl⟩:=ru;obtain⟨z,its,n,r,hl,e⟩:=I.lstM hH;obtain⟨w,hw,rw'⟩:=r.get hy
 refine call_meets F.slot_list_pop ⟨_,e,rfl⟩ F.entry_list_pop (F.args_list_pop_2 _ _)
  (MeetsSeq.list_pop_at l its.toArray n i t k w (fitsIndex_both h1 h2) (by rw[Fn,<- hl];exact hk) (by rw[<- Array.getElem?_toList];exact hw) (by rw[Fn];omega)) ⟨e,?_⟩
 refine⟨y,_,I.lset (its':=its.eraseIdx k) hH e ?_ (r.eraseIdx k) ?_,rw',q⟩
 . show its.toArray.eraseIdxIfInBounds k=(its.eraseIdx k).toArray
   rw[List.eraseIdxIfInBounds_toArray]
 . have:=Qz xs k
   omega
def Jc9:R2:=λx y H Q=>∃l b xs zs,x= .ref l/\y= .ref b/\H l=some (.lst xs)/\H b=some (.lst zs)/\xs.length+zs.length<=sizeLine/\∀p,H p=none->Q (.ref p) (upd H p (.lst (xs++zs)))
theorem Jab:OpR X (binaryOp .Add) Jc9:=by
 intro pins s σ H x y v u Q I rx ry h;obtain⟨l,b,xs,zs,rfl,rfl,hH,hB,hz,q⟩:=h;cases rx;cases ry;obtain⟨z,its,n,r,hl,e⟩:=I.lstM hH;obtain⟨z2,its2,n2,r2,hl2,e2⟩:=I.lstM hB;refine PySem.P.add_list e e2 ?_ (by rw[Fn,Fn];omega)
 have ea:its.toArray++its2.toArray=(its++its2).toArray:=by simp
 rw[ea];exact⟨.ref _,_,I.lnew (t':=s.toks) (r.append r2) (by rw[Fl];omega),rfl,q _ I.fresh⟩
end
end L2
namespace Att
open PySem PySem.W PySem.Calls PyProof.Rows
theorem Oq{P:Params}{h:Heap}:∀(ns:List Int) (vs:List Value),WellAll P h vs (ns.map WData.int)->IntsAre vs ns:=by
 intro ns
 induction ns with
 | nil=>
  intro vs w;rw[List.map_nil]at w;cases w;exact .nil
 | cons n ns ih=>
  intro vs w;rw[List.map_cons]at w
  cases w with
  | cons a b=>
   cases a;exact .cons _ _ (ih _ b)
theorem J1a{l:OpenLaw}{n:Nat}(hn:l.most=some n){P:Params}{h:Heap}{args:List WData}{vals:List Value}
 (hpre:l.row.toRowW.claim.pre args=true) (hwl:WellAll P h vals args):
 ∃a vs ns,vals=[Value.ref a]/\args=[WData.list (ns.map WData.int)]/\h.get? a=some {cls:= .type "list",data:= .seq vs.toArray}/\IntsAre vs ns/\ns.length<=n:=by
 have hsh:WShape.hasAll [] args [.list .int]=true:=(pre_splitW hpre).1;have hc:l.pre.holds [] {args:=args}=true:=(pre_splitW hpre).2;obtain⟨d,r,rfl,h1,h2⟩:=hasAllW_cons hsh;obtain rfl:=hasAllW_nil h2;obtain⟨xs,rfl,h3⟩:=hasW_list h1;obtain⟨ns,rfl⟩:=items_int h3
 have hlen:ns.length<=n:=by
  unfold OpenLaw.pre at hc
  have h4:(WTm.not (.lt (.lit (.int (n:Int))) (.len (.arg 0)))).holds [] {args:=[.list (ns.map .int)]}=true:=by
   have h4:=(holds_andW hc).1;rw[hn]at h4;exact h4
  have h5:=condW_of h4 (w_not (w_lt w_lit (w_len_list (w_arg rfl))));rw[Fa]at h5;refine Jm λq=>?_
  have q':(n:Int) < ((ns.length:Nat):Int):=by omega
  first
   | (rw[Fi q']at h5;exact absurd h5 (by decide))
   | (simp at h5;omega)
 cases hwl with
 | cons w1 w2=>
  cases w2
  cases w1 with
  | list ho hall=>exact⟨_,_,ns,rfl,rfl,ho,Oq ns _ hall,hlen⟩
theorem J1b(l:OpenLaw)(args:List WData):l.row.toRowW.claim.post args (.bool true) args=true:=
 postW_of (r:=l.row.toRowW) (X:=(true==true))
  (show WShape.has [] (.bool true) .bool=true by first | rfl | decide | simp[WShape.has,WShape.arms,WShape.armsAll])
  (show (WTm.eq .res (.lit (.bool true))).value [] {args:=args,res:=some (.bool true),after:=args}=some (.bool (true==true)) from w_eq_bool (w_res rfl) w_lit) rfl
theorem Uk{l:OpenLaw}{n:Nat}{q:Program}{loose:List Str}{XP:(Str->Option Value)->Heap->Prop}{YP:World->Heap->Prop}{d:DefRec}
 (hn:l.most=some n) (hdf:d.params.defaults=[])
 (call:∀(w:World) (s₀ s₁:Shared) (mg mb:Str->Option Value) (fa:Addr) (o:Obj) (pm cd doc:Value) (a:Addr) (vs:List Value) (ns:List Int),
  Ground q loose [] XP w s₀ mg mb s₁.heap->YP w s₁.heap->
  s₁.heap.get? fa=some o->o.data= .func (docDef d.name d.params d.body d.scope pm cd doc)->s₁.heap.CodeRec cd d.name->mg d.name=some (.ref fa)->
  s₁.heap.get? a=some {cls:= .type "list",data:= .seq vs.toArray}->IntsAre vs ns->ns.length<=n->s₁.gens=#[]->
  codeAny (model l.prog w) callerA (.call (.ref fa) ⟨[.ref a],[]⟩) (λr s'=>r= .ok (.ret (.bool true))/\OldK s₁.heap s'.heap/\s'.os=s₁.os/\AllBare s'.gens) s₁):
 WalkO q loose XP YP l.row.toRowW d [] (λf vs=>PySem.call f vs):=by
 intro w s₀ s₁ mg mb G Y fa o pm cd doc dV kV ho hd hcd hD hmg hg args vals as hpre hlay hrd hwl hlo;obtain rfl:dV= .none:=Dflts.none hD hdf;obtain rfl:kV= .none:=Dflts.noKw hD;obtain⟨a,vs,ns,rfl,rfl,hobj,hints,hlen⟩:=J1a hn hpre hwl;refine enter_call (Rc (call w s₀ s₁ mg mb fa o pm cd doc a vs ns G Y ho (fd_plain hd) hcd hmg hobj hints hlen hg) λr s' hq=>?_);obtain⟨rfl,h2,h3,h4⟩:=hq;exact⟨.inl ⟨.bool true,.bool true,[],rfl,λ_=>rfl,.bool true,J1b l _,λ_=>⟨List.Pairwise.nil,λ_ hm=>(nomatch hm)⟩⟩,h2,h3,h4⟩
end Att
namespace L2
theorem S0:∀{vs:List Value}{ns:List Int},IntsAre vs ns->B3 (ns.map V.int) vs
 | _,_,.nil=> .nil
 | _,_,.cons n t h=> .cons ⟨t,rfl⟩ (S0 h)
def Af(s:Stmt)(j:Nat):Stmt:=match s with
 | .ClassDef _ _ _ body _ _ _ _ _ _ _=>body.getD j (.Pass ⟨0,0,0,0⟩)
 | _=> .Pass ⟨0,0,0,0⟩
def Ba(s:Stmt):Arguments:=match s with
 | .FunctionDef _ a _ _ _ _ _ _ _ _=>a
 | _=>{posonlyargs:=[],args:=[],vararg:=none,kwonlyargs:=[],kw_defaults:=[],kwarg:=none,defaults:=[]}
def B5(s:Stmt):List Stmt:=match s with
 | .FunctionDef _ _ b _ _ _ _ _ _ _=>b
 | _=>[]
def A6(s:Stmt):Scope:=match s with
 | .FunctionDef _ _ _ _ _ _ sc _ _ _=>sc
 | _=>{kind:= .function,names:=[],isGenerator:=false,isCoroutine:=false}
abbrev CX0:CXT:=λ_ _ _ _ _ _=>False
abbrev E0:XK:=λ_ _ _=>False
theorem Ae:Nw CX0 X E0:=λ_ _ _ _ _ _ _ h=>h.elim
structure Fun(K:PySem.W.Frag)(x qual:Str)(st:Stmt)(f:Addr)(fd:FuncData):Prop where
 ex:∃(oc:Value) (od:Option Addr) (kV doc pm:Value) (an:Option Addr) (cdv ct:Value) (osl:Array (Option Value)),
  fd=PySem.W.fnOf x qual (Ba st) (B5 st) (A6 st) .none kV doc pm an cdv ct/\K.lookup f=some ⟨oc,od,.func fd,osl⟩/\PySem.W.codeIn K cdv qual=true
 kp:PySem.W.keepIn K (.ref f)=true
section
variable {P:Program}{w:World}{K:PySem.W.Frag}{mg:Str->Option Value}{base:Heap}
theorem Fun.ok{x qual:Str}{st:Stmt}{f:Addr}{N:List Str}{k:Nat}{sp:Sp}(F:Fun K x qual st f fd)(S:A9 N ps (A6 st))(len:∀vs H Q E,sp vs H Q E->vs.length=ps.length)
 (hbody:∀(cdv:Value) (A:Around) (outer:List Env) (s:Shared) (H:Hp) (vs:List V) (Q:VK) (E:XK),Bz k (A.deeper (envOfC qual (A6 st) s.heap.objs.size f cdv))->sp vs H Q E->
  ∃t,PSs (T5 CX0 P w K mg base N qual (A6 st) f cdv A outer s H E).nox (B5 st) t/\t {nx:=λ_ H'=>Q .non H',rt:=Q} (start N vs) H):Al P w K mg base CX0 (k+1) f fd ps sp:=by
 obtain⟨oc,od,kV,doc,pm,an,cdv,ct,osl,rfl,lk,hcd⟩:=F.ex;refine J2u lk hcd S len λA outer s H vs Q E hr hsp=>?_;obtain⟨t,h,q⟩:=hbody cdv A outer s H vs Q E hr hsp;exact⟨t,h.nox,q⟩
theorem Fun.binds{x qual:Str}{st:Stmt}{f:Addr}{ps:List Str}(F:Fun K x qual st f fd)
 (h:∀(kV doc pm:Value) (an:Option Addr) (cdv ct:Value) (us:List Value),us.length=ps.length->bindArgs (PySem.W.fnOf x qual (Ba st) (B5 st) (A6 st) .none kV doc pm an cdv ct) ⟨us,[]⟩=pure (ps.zip us)):C4 K fd ps []:=by
 obtain⟨oc,od,kV,doc,pm,an,cdv,ct,osl,rfl,lk,hcd⟩:=F.ex;exact .all (h kV doc pm an cdv ct)
theorem Ea{x qual:Str}{st:Stmt}{f:Addr}{oc:Value}{od an:Option Addr}{osl:Array (Option Value)}{kV doc pm cdv ct:Value}(l:K.lookup f=some ⟨oc,od,.func (PySem.W.fnOf x qual (Ba st) (B5 st) (A6 st) .none kV doc pm an cdv ct),osl⟩)
 (c:PySem.W.codeIn K cdv qual=true) (k:PySem.W.keepIn K (.ref f)=true):Fun K x qual st f (PySem.W.fnOf x qual (Ba st) (B5 st) (A6 st) .none kV doc pm an cdv ct):=⟨⟨oc,od,kV,doc,pm,an,cdv,ct,osl,rfl,l,c⟩,k⟩
end
theorem Bl{A:Around}{k:Nat}(hr:Bz k A):A.units+1 < cLine:=HY (Nat.add_le_add_left (by decide:1<=64) _) hr.units
section
variable {X:Cx}
theorem pv(i:Nat){x:Str}{pos:Pos}(hN:X.N[i]?=some x:=by rfl)(hv:Vis X.env.scope x:=by first | exact Or.inl rfl | exact Or.inr (Or.inl rfl) | exact Or.inr (Or.inr rfl))(hd:(x==("__debug__":Str))=false:=by decide)
 (hcd:(x==("__classdict__":Str))=false:=by decide):PE X (.Name x pos) (J9y i):=J9z hN hv hd hcd
end
def A7(H H':Hp):Prop:=∀b o,H b=some o->H' b=some o
theorem A7.refl(H:Hp):A7 H H:=λ_ _ h=>h
theorem A7.trans{H:Hp}(a:A7 H H1)(b:A7 H1 H2):A7 H H2:=λc o h=>b c o (a c o h)
theorem A7.seq{K:PySem.W.Frag}{H:Hp}{a:Addr}{xs:List V}(e:A7 H H')(h:SqL K H a xs):SqL K H' a xs:=by
 rcases h with (h | ⟨o,h⟩) | h
 . exact .inl (.inl (e _ _ h))
 . exact .inl (.inr ⟨o,e _ _ h⟩)
 . exact .inr h
section
variable {κ:Type} [DecidableEq κ]
def Aw(kvs:List (κ×V))(k:κ):Option V:=(kvs.find? λkv=>decide (kv.1=k)).map (·.2)
def Ct(kvs:List (κ×V))(k:κ)(v:V):List (κ×V):=
 if (kvs.any λkv=>decide (kv.1=k))=true then kvs.map (λkv=>if kv.1=k then (kv.1,v) else kv) else kvs++[(k,v)]
def Cr(kvs:List (κ×V))(k:κ):List (κ×V):=kvs.filter λkv=>decide (kv.1≠k)
theorem Co{p:κ×V}{r:List (κ×V)}{k:κ}(e:p.1=k):Aw (p::r) k=some p.2:=by simp[Aw,Rq,e]
theorem Cc{p:κ×V}{r:List (κ×V)}{k:κ}(e:¬p.1=k):Aw (p::r) k=Aw r k:=by simp[Aw,Rq,e]
theorem D8(k:κ):∀kvs:List (κ×V),(kvs.any λkv=>decide (kv.1=k))=(Aw kvs k).isSome
 | []=>rfl
 | p::r=>by
  rw[RH]
  by_cases e:p.1=k
  . simp only[Co e,Fi e,Bool.true_or,Option.isSome_some]
  . rw[Cc e,Fk e,Bool.false_or];exact D8 k r
theorem Ul(k j:κ)(y:V):∀kvs:List (κ×V),Aw (kvs.map λkv=>if kv.1=k then (kv.1,y) else kv) j=(Aw kvs j).map λx=>if j=k then y else x
 | []=>rfl
 | p::r=>by
  have ih:=Ul k j y r;rw[List.map_cons]
  by_cases h:p.1=k
  . rw[if_pos h]
    by_cases e:p.1=j
    . rw[Co (p:=(p.1,y)) e,Co e,R5,if_pos (e.symm.trans h)]
    . rw[Cc (p:=(p.1,y)) e,Cc e,ih]
  . rw[if_neg h]
    by_cases e:p.1=j
    . rw[Co (p:=p) e,Co e,R5,if_neg (λz=>h (e.trans z))]
    . rw[Cc (p:=p) e,Cc e,ih]
theorem S3(k j:κ)(y:V):∀kvs:List (κ×V),Aw kvs k=none->Aw (kvs++[(k,y)]) j=if j=k then some y else Aw kvs j
 | [],_=>by
  by_cases e:k=j
  . rw[if_pos e.symm];exact Co (p:=(k,y)) e
  . rw[if_neg (λz=>e z.symm)];exact Cc (p:=(k,y)) e
 | p::r,hn=>by
  rw[List.cons_append]
  have hk:¬p.1=k:=λz=>by rw[Co z]at hn;cases hn
  rw[Cc hk]at hn;have ih:=S3 k j y r hn
  by_cases e:p.1=j
  . rw[Co e,Co e,if_neg (λz=>hk (e.trans z))]
  . rw[Cc e,Cc e,ih]
theorem D9(kvs:List (κ×V))(k j:κ)(y:V):Aw (Ct kvs k y) j=if j=k then some y else Aw kvs j:=by
 unfold Ct
 by_cases a:(kvs.any λkv=>decide (kv.1=k))=true
 . rw[if_pos a,Ul]
   rw[D8]at a
   by_cases e:j=k
   . obtain⟨x,hx⟩:=Hw.mp a
     rw[if_pos e,e,hx,R5,if_pos rfl]
   . rw[if_neg e]
     cases Aw kvs j with
     | none=>rfl
     | some x=>rw[R5,if_neg e]
 . rw[if_neg a]
   refine S3 k j y kvs ?_;rw[D8]at a
   cases q:Aw kvs k with
   | none=>rfl
   | some x=>rw[q]at a;exact(a rfl).elim
theorem Bf(kvs:List (κ×V))(k:κ)(v:V):(Ct kvs k v).length<=kvs.length+1:=by
 unfold Ct;split
 . rw[Fa];omega
 . rw[Fl,List.length_cons,List.length_nil];omega
theorem Kr{kvs:List (κ×V)}{k:κ}(v:V)(h:Aw kvs k=none):Ct kvs k v=kvs++[(k,v)]:=by
 unfold Ct;rw[D8,h];exact if_neg (by decide)
theorem Gh.isSome_eq{o:Option V}{u:Option Value}(r:Gh o u):o.isSome=u.isSome:=by
 cases o with
 | none=>cases u with
  | none=>rfl
  | some _=>exact(show False from r).elim
 | some _=>cases u with
  | none=>exact(show False from r).elim
  | some _=>rfl
theorem Gh.getD{o:Option V}{u:Option Value}{d:V}{d':Value}(r:Gh o u)(rd:B1 d d'):B1 (o.getD d) (u.getD d'):=by
 cases o with
 | none=>cases u with
  | none=>exact rd
  | some _=>exact(show False from r).elim
 | some _=>cases u with
  | none=>exact(show False from r).elim
  | some _=>exact r
theorem KV.val{kvs:List (κ×V)}{vs:List (κ×Value)}(r:KV kvs vs)(k:κ):Gh (Aw kvs k) (valueAt vs k):=by
 unfold KV at r
 induction r with
 | nil=>exact True.intro
 | @cons p q ps qs h t ih=>
  obtain⟨h1,h2⟩:=h
  by_cases e:p.1=k
  . have e':q.1=k:=h1.symm.trans e
    have b:valueAt (q::qs) k=some q.2:=by simp[valueAt,Rq,e']
    rw[Co e,b];exact h2
  . have e':¬q.1=k:=λz=>e (h1.trans z)
    have b:valueAt (q::qs) k=valueAt qs k:=by simp[valueAt,Rq,e']
    rw[Cc e,b];exact ih
theorem KV.any{kvs:List (κ×V)}{vs:List (κ×Value)}(r:KV kvs vs)(k:κ):(kvs.any λkv=>decide (kv.1=k))=vs.any λkv=>decide (kv.1=k):=by
 unfold KV at r
 induction r with
 | nil=>rfl
 | cons h t ih=>rw[RH,RH,ih,h.1]
theorem KV.repl{kvs:List (κ×V)}{vs:List (κ×Value)}(r:KV kvs vs)(k:κ){y:V}{u:Value}(ry:B1 y u):
 KV (kvs.map λkv=>if kv.1=k then (kv.1,y) else kv) (vs.map λkv=>if kv.1=k then (kv.1,u) else kv):=by
 unfold KV at r ⊢
 induction r with
 | nil=>exact .nil
 | @cons p q ps qs h t ih=>
  rw[List.map_cons,List.map_cons];refine .cons ?_ ih;obtain⟨h1,h2⟩:=h
  by_cases e:p.1=k
  . rw[if_pos e,if_pos (h1.symm.trans e)];exact⟨h1,ry⟩
  . rw[if_neg e,if_neg (λz=>e (h1.trans z))];exact⟨h1,h2⟩
theorem KV.put{kvs:List (κ×V)}{vs:List (κ×Value)}(r:KV kvs vs)(k:κ){y:V}{u:Value}(ry:B1 y u):KV (Ct kvs k y) (stored vs k u):=by
 unfold Ct stored;rw[r.any k]
 by_cases e:(vs.any λkv=>decide (kv.1=k))=true
 . rw[if_pos e,if_pos e];exact r.repl k ry
 . rw[if_neg e,if_neg e];exact Paired.snoc r ⟨rfl,ry⟩
theorem KV.drop{kvs:List (κ×V)}{vs:List (κ×Value)}(r:KV kvs vs)(k:κ):KV (Cr kvs k) (without vs k):=by
 unfold KV at r ⊢;unfold Cr without
 induction r with
 | nil=>exact .nil
 | @cons p q ps qs h t ih=>
  obtain⟨h1,h2⟩:=h;rw[Hc,Hc]
  by_cases e:p.1=k
  . have a:¬decide (p.1≠k)=true:=by simp[e]
    have b:¬decide (q.1≠k)=true:=by simp[h1.symm.trans e]
    rw[if_neg a,if_neg b];exact ih
  . have e':¬q.1=k:=λz=>e (h1.trans z)
    have a:decide (p.1≠k)=true:=by simp[e]
    have b:decide (q.1≠k)=true:=by simp[e']
    rw[if_pos a,if_pos b];exact .cons ⟨h1,h2⟩ ih
theorem KV.length{kvs:List (κ×V)}{vs:List (κ×Value)}(r:KV kvs vs):kvs.length=vs.length:=Paired.length r
theorem J32(kvs:List (κ×V))(k:κ):(Cr kvs k).length<=kvs.length:=R3 _ _
end
theorem Of{w:World}{k:Key}{u:Value}(r:B1 (kV k) u):(Be P w).is k u=true:=by
 cases k with
 | inl i=>obtain⟨t,e⟩:=(show ∃t,u=Value.int i t from r);subst e;exact Ua P w i t
 | inr x=>obtain⟨t,e⟩:=(show ∃t,u=Value.str x t from r);subst e;exact Ub P w x t
theorem S5{w:World}:∀{ks:List Key}{us:List Value},B3 (ks.map kV) us->ItemsAre (Be P w) ks us
 | [],_,r=>by rw[List.map_nil]at r;cases r;exact .nil
 | k::ks,_,r=>by
  rw[List.map_cons]at r
  cases r with
  | cons h t=>exact .cons (Of h) (S5 t)
abbrev KT(H:Hp):List (List Key×V)->List (List Key×Addr×Value)->Prop:=Paired λp q=>p.1=q.1/\H q.2.1=some (.tup (p.1.map kV))/\B1 p.2 q.2.2
theorem KT.val{H:Hp}{kvs:List (List Key×V)}{xs:List (List Key×Addr×Value)}(r:KT H kvs xs)(k:List Key):Gh (Aw kvs k) ((atKey xs k).map (·.2)):=by
 induction r with
 | nil=>exact True.intro
 | @cons p q ps qs h t ih=>
  obtain⟨h1,_,h2⟩:=h
  by_cases e:p.1=k
  . have e':q.1=k:=h1.symm.trans e
    have b:atKey (q::qs) k=some q.2:=by simp[atKey,Rq,e']
    rw[Co e,b];exact h2
  . have e':¬q.1=k:=λz=>e (h1.trans z)
    have b:atKey (q::qs) k=atKey qs k:=by simp[atKey,Rq,e']
    rw[Cc e,b];exact ih
theorem KT.repl{H:Hp}{kvs:List (List Key×V)}{xs:List (List Key×Addr×Value)}(r:KT H kvs xs)(k:List Key){y:V}{u:Value}(ry:B1 y u):
 KT H (kvs.map λkv=>if kv.1=k then (kv.1,y) else kv) (xs.map (putAt k u)):=by
 induction r with
 | nil=>exact .nil
 | @cons p q ps qs h t ih=>
  rw[List.map_cons,List.map_cons];refine .cons ?_ ih;obtain⟨h1,h2,h3⟩:=h;unfold putAt
  by_cases e:p.1=k
  . rw[if_pos e,if_pos (h1.symm.trans e)];exact⟨h1,h2,ry⟩
  . rw[if_neg e,if_neg (λz=>e (h1.trans z))];exact⟨h1,h2,h3⟩
theorem KT.put{H:Hp}{kvs:List (List Key×V)}{xs:List (List Key×Addr×Value)}(r:KT H kvs xs)(k:List Key){b:Addr}{y:V}{u:Value}(hb:H b=some (.tup (k.map kV)))(ry:B1 y u):
 KT H (Ct kvs k y) (storedH xs k b u):=by
 have e:(kvs.any λkv=>decide (kv.1=k))=(atKey xs k).isSome:=by
  rw[D8,(r.val k).isSome_eq,Jh]
 unfold Ct storedH;rw[e]
 by_cases q:(atKey xs k).isSome=true
 . rw[if_pos q,if_pos q];exact r.repl k ry
 . rw[if_neg q,if_neg q];exact Paired.snoc r ⟨rfl,hb,ry⟩
theorem KT.keeps{H:Hp}{kvs:List (List Key×V)}{xs:List (List Key×Addr×Value)}(r:KT H kvs xs)(ht:∀b ys,H b=some (.tup ys)->H' b=some (.tup ys)):KT H' kvs xs:=
 Paired.mapP r λ_ _ z=>⟨z.1,ht _ _ z.2.1,z.2.2⟩
section
variable {P:Program}{w:World}{H:Hp}{h:Heap}{a:Addr}
theorem J8z{u:HO}(ok:HOk P w H h)(e:Rd H a u):Bu P w H h a u:=e.ok ok
theorem Mu(ok:HOk P w H h)(e:Rd H a (.dK kvs)):kvs.length<=sizeLine/\(a==sysModules)=false/\∃vs,KV kvs vs/\h.DictOf (Be P w) a vs:=
 show Bu P w H h a (.dK kvs) from J8z ok e
theorem J90(ok:HOk P w H h)(e:H a=some (.dK kvs)):kvs.length<=sizeLine/\(a==sysModules)=false/\∃vs,KV kvs vs/\h.DictOf (Be P w) a vs:=Mu ok (.inl e)
theorem Mc{ks:List Key}(ok:HOk P w H h)(e:H a=some (.tup (ks.map kV))):(tupleKind (Be P w)).is h ks a:=by
 obtain⟨_,its,r,o,h1,h2,n,h3⟩:=(show Bu P w H h a (.tup (ks.map kV)) from ok a _ e)
 exact⟨o,its.toArray,n,h1,h2,h3,by simpa using S5 r⟩
theorem Og{kvs:List (List Key×V)}(ok:HOk P w H h)(e:Rd H a (.dT kvs)):kvs.length<=sizeLine/\(a==sysModules)=false/\
 ∃xs,KT H kvs xs/\h.DictOfH (tupleKind (Be P w)) a xs:=by
 obtain⟨z,y,xs,r,o,es,ep,h1,h2,h3,h4,h5⟩:=(show Bu P w H h a (.dT kvs) from J8z ok e)
 refine⟨z,y,xs,r,o,es,ep,h1,h2,h3,h4,λx hx=>?_,h5⟩
 have all:∀{l:List (List Key×V)}{m:List (List Key×Addr×Value)},KT H l m->∀x∈m,(tupleKind (Be P w)).is h x.1 x.2.1:=by
  intro l m q
  induction q with
  | nil=>intro x hx;exact nomatch hx
  | @cons p q ps qs hq t ih=>
   intro x hx;rcases Ft.mp hx with e | hx
   . subst e
     exact Mc ok (by rw[<- hq.1];exact hq.2.1)
   . exact ih x hx
 exact all r x hx
theorem Jca{kvs:List (List Key×V)}(ok:HOk P w H h)(e:H a=some (.dT kvs)):kvs.length<=sizeLine/\(a==sysModules)=false/\
 ∃xs,KT H kvs xs/\h.DictOfH (tupleKind (Be P w)) a xs:=Og ok (.inl e)
end
def Cp(H:Hp)(a:Addr)(y:V)(r:Option V):Prop:=
 (∃kvs k,Rd H a (.dK kvs)/\y=kV k/\r=Aw kvs k)\/∃kvs k b,Rd H a (.dT kvs)/\y= .ref b/\H b=some (.tup (k.map kV))/\r=Aw kvs k
def Eu(H:Hp)(a:Addr)(y v:V)(H':Hp):Prop:=
 (∃kvs k,H a=some (.dK kvs)/\y=kV k/\kvs.length < sizeLine/\H'=upd H a (.dK (Ct kvs k v)))\/
 ∃kvs k b,H a=some (.dT kvs)/\y= .ref b/\H b=some (.tup (k.map kV))/\kvs.length < sizeLine/\H'=upd H a (.dT (Ct kvs k v))
theorem Cp.k{H:Hp}{a:Addr}{k:Key}(e:H a=some (.dK kvs)):Cp H a (kV k) (Aw kvs k):= .inl ⟨kvs,k,.inl e,rfl,rfl⟩
theorem Eu.k{H:Hp}{a:Addr}{k:Key}{v:V}(e:H a=some (.dK kvs))(hl:kvs.length < sizeLine):Eu H a (kV k) v (upd H a (.dK (Ct kvs k v))):= .inl ⟨kvs,k,e,rfl,hl,rfl⟩
section
variable {X:Cx}{pins:List (Addr×Obj)}{σ:St}{H:Hp}{s:Shared}{a:Addr}{y v:V}{u r:Value}{o:Option V}{A:Around}{E:Value->Shared->Prop}
theorem Inv.big(I:Inv X pins σ H s):sysModules < s.heap.objs.size:=by
 have h:mainGlobals < s.heap.objs.size:=(I.mod.glob.keeps I.bk).lt;exact Nat.lt_trans (by decide) h
theorem J1c{Q:Value->Shared->Prop}(hu:A.units+1 < cLine)(I:Inv X pins σ H s)(g:Cp H a y (some v))(ry:B1 y u)(h:∀w' s',Inv X pins σ H s'->B1 v w'->Q w' s'):
 wpAny (model X.prog X.w) A (getItem (.ref a) u) Q E s:=by
 rcases g with ⟨kvs,k,e,ey,l⟩ | ⟨kvs,k,b,e,ey,eb,l⟩
 . subst ey
   obtain⟨z,hd,vs,rel,dd⟩:=Mu I.hok e;obtain⟨w',hw,rw'⟩:=Gh.some_of (v:=v) (o:=valueAt vs k) (by rw[l];exact rel.val k);exact wpAny_getItem_of (Of ry) dd.mapOf hw (h w' _ (I.tok _) rw')
 . subst ey
   cases (show u=Value.ref b from ry);obtain⟨z,hd,xs,rel,dd⟩:=Og I.hok e;obtain⟨w',hw,rw'⟩:=Gh.some_of (v:=v) (o:=(atKey xs k).map (·.2)) (by rw[l];exact rel.val k);obtain⟨p,hp,hp2⟩:=Option.map_eq_some_iff.mp hw;refine wpAny_getItem_heap (Rb hu) (Mc I.hok eb) dd hp ?_;rw[hp2];exact h w' _ (I.tok _) rw'
theorem Jda{Q:Value->Shared->Prop}(hu:A.units+1 < cLine)(I:Inv X pins σ H s)(g:Cp H a y o)(ry:B1 y u)(h:∀s',Inv X pins σ H s'->Q (.bool o.isSome) s'):
 wpAny (model X.prog X.w) A (compareOp .In u (.ref a)) Q E s:=by
 rcases g with ⟨kvs,k,e,ey,l⟩ | ⟨kvs,k,b,e,ey,eb,l⟩
 . subst ey
   obtain⟨z,hd,vs,rel,dd⟩:=Mu I.hok e;refine wpAny_in_of (Of ry) hd dd.mapOf ?_;rw[<- (rel.val k).isSome_eq,<- l];exact h _ (I.tok _)
 . subst ey
   cases (show u=Value.ref b from ry);obtain⟨z,hd,xs,rel,dd⟩:=Og I.hok e;refine wpAny_in_heap (Rb hu) (Mc I.hok eb) hd dd ?_;have q:=(rel.val k).isSome_eq;rw[Jh]at q;rw[<- q,<- l];exact h _ (I.tok _)
theorem J77{Q:Value->Shared->Prop}(hu:A.units+1 < cLine)(I:Inv X pins σ H s)(g:Cp H a y o)(ry:B1 y u)(h:∀s',Inv X pins σ H s'->Q (.bool (!o.isSome)) s'):
 wpAny (model X.prog X.w) A (compareOp .NotIn u (.ref a)) Q E s:=by
 rcases g with ⟨kvs,k,e,ey,l⟩ | ⟨kvs,k,b,e,ey,eb,l⟩
 . subst ey
   obtain⟨z,hd,vs,rel,dd⟩:=Mu I.hok e;refine wpAny_notIn_of (Of ry) hd dd.mapOf ?_;rw[<- (rel.val k).isSome_eq,<- l];exact h _ (I.tok _)
 . subst ey
   cases (show u=Value.ref b from ry);obtain⟨z,hd,xs,rel,dd⟩:=Og I.hok e;refine wpAny_notIn_heap (Rb hu) (Mc I.hok eb) hd dd ?_;have q:=(rel.val k).isSome_eq;rw[Jh]at q;rw[<- q,<- l];exact h _ (I.tok _)
theorem Tb{ob:HO}(I:Inv X pins σ H s)(mu:Mut (H a))(hs:Heap.SameBut a s.heap h')(he:∃q,h'.get? a=some q)(new:Bu X.prog X.w (upd H a ob) h' a ob):
 Inv X pins σ (upd H a ob) {s with heap:=h',toks:=t'}:=
 I.write (x:=a) (e:=a) mu (.inl rfl) (λb q hb z=>(hs.2 b hb).trans z) he new
theorem J33{w:World}{vs:List (Key×Value)}(z:kvs.length<=sizeLine)(hd:(a==sysModules)=false)(rel:KV kvs vs)(dd:h'.DictOf (Be P w) a vs):
 Bu P w H' h' a (.dK kvs):=⟨z,hd,vs,rel,dd⟩
theorem J1d{Q:Unit->Shared->Prop}(hu:A.units+1 < cLine)(I:Inv X pins σ H s)(g:Eu H a y v H')(ry:B1 y u)(rv:B1 v r)(h:∀s',Inv X pins σ H' s'->Q () s'):
 wpAny (model X.prog X.w) A (setItem (.ref a) u r) Q E s:=by
 rcases g with ⟨kvs,k,e,ey,l,eH⟩ | ⟨kvs,k,b,e,ey,eb,l,eH⟩
 . subst ey eH
   obtain⟨z,hd,vs,rel,dd⟩:=J90 I.hok e
   have hz:vs.length<=sizeLine:=by rw[<- rel.length];exact z
   have hl:(Ct kvs k v).length<=sizeLine:=by have:=Bf kvs k v;omega
   refine wpAny_setItem_pairs (hsz:=hz) (Of ry) dd λh' dd' hs=>h _ ?_;have he:∃q,h'.get? a=some q:=let ⟨q,_,_,hq,_⟩:=dd';⟨q,hq⟩;exact Tb I (by rw[e];exact True.intro) hs he (J33 hl hd (rel.put k rv) dd')
 . subst ey eH
   cases (show u=Value.ref b from ry);obtain⟨z,hd,xs,rel,dd⟩:=Jca I.hok e
   have hz:xs.length<=sizeLine:=by rw[<- Paired.length rel];exact z
   have hl:(Ct kvs k v).length<=sizeLine:=by have:=Bf kvs k v;omega
   refine wpAny_setItem_heap (hsz:=hz) (Rb hu) (Mc I.hok eb) dd λh' dd' hs=>h _ ?_;obtain⟨q,es,ep,hq,h2,h3,h4,_,h5⟩:=dd';refine Tb I (by rw[e];exact True.intro) hs ⟨q,hq⟩ ⟨hl,hd,_,(rel.put k eb rv).keeps λc ys ec=>?_,q,es,ep,hq,h2,h3,h4,h5⟩;rw[A2 (Bt ec e (λz=>nomatch z))];exact ec
end
section
variable {X:Cx}{pins:List (Addr×Obj)}{σ:St}{H:Hp}{s:Shared}{a:Addr}{kvs:List (Key×V)}{k:Key}{u:Value}{A:Around}{E:Value->Shared->Prop}
theorem Jcb{v:V}{more:List Value}{Q:Value->Shared->Prop}(I:Inv X pins σ H s)(e:H a=some (.dK kvs))(ry:B1 (kV k) u)(l:Aw kvs k=some v)(hm:more=[]\/∃x,more=[x])
 (h:∀w' s',Inv X pins σ (upd H a (.dK (Cr kvs k))) s'->B1 v w'->Q w' s'):wpAny (model X.prog X.w) A (call (.builtin "dict.pop") (.ref a::u::more)) Q E s:=by
 obtain⟨z,hd,vs,rel,dd⟩:=J90 I.hok e;obtain⟨w',hw,rw'⟩:=Gh.some_of (v:=v) (o:=valueAt vs k) (by rw[<- l];exact rel.val k)
 have hp:(keyPart u).isSome=true:=by
  cases k with
  | inl i=>obtain⟨t,q⟩:=(show ∃t,u=Value.int i t from ry);subst q;rfl
  | inr x=>obtain⟨t,q⟩:=(show ∃t,u=Value.str x t from ry);subst q;rfl
 have ha:argsOk "dict.pop" ⟨.ref a::u::more,[]⟩:=by
  rcases hm with q | ⟨x,q⟩
  . subst q;exact PySem.F.args_dict_pop_2 _ _
  . subst q;exact PySem.F.args_dict_pop_3 _ _ _
 refine RO PySem.F.slot_dict_pop dd.typeIs PySem.F.entry_dict_pop ha (meets_dict_pop_there (Be X.prog X.w) a (Of ry) more hm hp)
  ⟨vs,w',dd,by rw[<- rel.length];exact z,hw,λh' dd' hs=>h w' _ ?_ rw'⟩
 have he:∃q,h'.get? a=some q:=let ⟨q,_,_,hq,_⟩:=dd';⟨q,hq⟩;exact Tb I (by rw[e];exact True.intro) hs he (J33 (FO (J32 kvs k) z) hd (rel.drop k) dd')
theorem Jcc{Q:Value->Shared->Prop}(I:Inv X pins σ H s)(e:Rd H a (.dK kvs))(h:∀t s',Inv X pins σ H s'->Q (.int kvs.length t) s'):wpAny (model X.prog X.w) A (call (.builtin "len") [.ref a]) Q E s:=by
 obtain⟨z,hd,vs,rel,dd⟩:=Mu I.hok e;refine call_len_dict hd dd (by rw[<- rel.length];rw[sizeLine_eq]at z;omega) ?_;rw[<- rel.length];exact h _ _ (I.tok _)
end
def Jcd(i:Expr):Prop:=∀ov iv,subscripted i false ov iv=operate [ov,iv] (getItem ov iv)
theorem J78{prog:Program}{w:World}{A:Around}{s:Shared}{env:Env}{value slice:Expr}{pos:Pos}{T id:String}{Q:Value->Shared->Prop}
 (hl:typeLookup (.type T) "__getitem__"=pure (some (.builtin id))) (hs:Jcd slice)
 (h:wpAny (model prog w) A (eval value env) (λo s₁=>wpAny (model prog w) A (eval slice env) (λi s₂=>s₂.TypeIs o T/\wpAny (model prog w) A (getItem o i) Q E s₂) E s₁) E s):
 wpAny (model prog w) A (eval (.Subscript value slice pos) env) Q E s:=by
 refine Subscript_ (Hs h (λo s₁ h₁=>Hs h₁ (λi s₂ h₂=>?_) λ_ _ x=>x) λ_ _ x=>x);obtain⟨hT,h₂⟩:=h₂;unfold subscriptTail;refine Fu ?_;rw[getitemInPython_of_ne hT.not_modules];refine Fu (wpAny_specialOf hT hl ?_)
 have fin:wpAny (model prog w) A (subscripted slice false o i) (λr s₃=>wpAny (model prog w) A (letTemporaryGo value o r >>=λ_=>pure r) Q E s₃) E s₂:=by
  rw[hs o i];exact wpAny_operating (Hs h₂ (λr s₃ h₃=>Fu (wpAny_letTemporaryGo (FX h₃))) λ_ _ x=>x)
 first
  | exact FX (Fu fin)
  | exact Fu (FX (Fu fin))
  | exact Fu fin
theorem Um{H:Hp}{s:Shared}{a:Addr}{y:V}{o:Option V}(I:Inv X pins σ H s)(g:Cp H a y o):s.TypeIs (.ref a) "dict":=by
 rcases g with ⟨kvs,k,e,_,_⟩ | ⟨kvs,k,b,e,_,_,_⟩
 . obtain⟨_,_,vs,_,dd⟩:=Mu I.hok e
   exact dd.typeIs
 . obtain⟨_,_,xs,_,dd⟩:=Og I.hok e
   exact dd.typeIs
def J91(td ty:TE):TE:=λσ H Q=>td σ H λx H1=>ty σ H1 λy H2=>∃a v,x= .ref a/\Cp H2 a y (some v)/\Q v H2
def Jce(ty td:TE):TE:=λσ H Q=>ty σ H λy H1=>td σ H1 λx H2=>∃a o,x= .ref a/\Cp H2 a y o/\Q (.bl o.isSome) H2
def Y7(ty td:TE):TE:=λσ H Q=>ty σ H λy H1=>td σ H1 λx H2=>∃a o,x= .ref a/\Cp H2 a y o/\Q (.bl (!o.isSome)) H2
def J92(td ty tv:TE):TS:=λD σ H=>tv σ H λv H1=>td σ H1 λx H2=>ty σ H2 λy H3=>∃a H4,x= .ref a/\Eu H3 a y v H4/\D.nx σ H4
section
variable {X:Cx}{o i e value:Expr}{pos pos' tpos:Pos}{td ty tv:TE}
theorem Ip(hu:X.A.units+1 < cLine)(ho:PE X o td)(hi:PE X i ty)(hs:Jcd i):PE X (.Subscript o i pos) (J91 td ty):=by
 intro pins s σ H Q I h;refine J78 PySem.F.slot_dict_getitem.lookup hs (thn (ho pins s σ H _ I h) λu s1 ⟨x,H1,I1,rx,q1⟩=>thn (hi pins s1 σ H1 _ I1 q1) λiv s2 hq_=>?_);obtain⟨y,H2,I2,ry,a,v,ex,g,q2⟩:=hq_;subst ex;obtain rfl:u=Value.ref a:=rx;exact⟨Um I2 g,J1c hu I2 g ry λw' s3 I3 rw'=>⟨v,H2,I3,rw',q2⟩⟩
theorem Nx(hu:X.A.units+1 < cLine)(hi:PE X i ty)(ho:PE X o td):PC X .In i o (Jce ty td):=by
 intro pins s σ H Q I h;refine thn (hi pins s σ H _ I h) λiv s1 ⟨y,H1,I1,ry,q1⟩=>thn (ho pins s1 σ H1 _ I1 q1) λu s2 hq_=>?_;obtain⟨x,H2,I2,rx,a,ov,ex,g,q2⟩:=hq_;subst ex;obtain rfl:u=Value.ref a:=rx
 exact Jda hu I2 g ry λs3 I3=>⟨.bl ov.isSome,H2,I3,rfl,q2⟩
theorem J1e(hu:X.A.units+1 < cLine)(hi:PE X i ty)(ho:PE X o td):PC X .NotIn i o (Y7 ty td):=by
 intro pins s σ H Q I h;refine thn (hi pins s σ H _ I h) λiv s1 ⟨y,H1,I1,ry,q1⟩=>thn (ho pins s1 σ H1 _ I1 q1) λu s2 hq_=>?_;obtain⟨x,H2,I2,rx,a,ov,ex,g,q2⟩:=hq_;subst ex;obtain rfl:u=Value.ref a:=rx
 exact J77 hu I2 g ry λs3 I3=>⟨.bl (!ov.isSome),H2,I3,rfl,q2⟩
theorem Cf(hu:X.A.units+1 < cLine)(ho:PE X o td)(hi:PE X i ty)(hv:PE X value tv)(hs:swapsWith value (some (.Subscript o i pos')) pos.line X.env=pure false):
 PS X (.Assign [.Subscript o i pos'] value pos) (J92 td ty tv):=by
 intro pins s σ H D I h;refine wpAny_Assign_Subscript (thn (hv pins s σ H _ I h) λr s1 ⟨v,H1,I1,rv,q1⟩=>thn (ho pins s1 σ H1 _ I1 q1) λu s2 ⟨x,H2,I2,rx,q2⟩=>thn (hi pins s2 σ H2 _ I2 q2) λiv s3 hq_=>?_) hs;obtain⟨y,H3,I3,ry,a,H4,ex,g,q3⟩:=hq_;subst ex;obtain rfl:u=Value.ref a:=rx
 exact J1d hu I3 g ry rv λs4 I4=>⟨σ,H4,I4,q3⟩
end
theorem J34{w:World}{H:Hp}(h:Heap)(hb:sysModules < h.objs.size):Bu P w H (h.push {cls:= .type "dict",data:= .dict #[]}) h.objs.size (.dK []):=
 ⟨FM _,HP.mpr (Ne.symm (FB hb)),[],.nil,Heap.DictOf.new h⟩
def J35:TE:=λ_ H Q=>∀p,H p=none->Q (.ref p) (upd H p (.dK []))
section
variable {X:Cx}{pos:Pos}
theorem D0:PE X (.Dict [] [] pos) J35:=λpins s σ H Q I h=>
 wpAny_Dict_empty ⟨.ref s.heap.objs.size,_,I.laid (a:=s.heap.objs.size) (o:= .dK []) (t':=s.toks) (λ_ _ q=>Fm _ q) (Fg _) (J34 s.heap I.big),rfl,h _ (I.hok.fresh (Fg _))⟩
end
structure M1(X:Cx)(o:Expr)(m:Str)(apos:Pos)(e:Expr)(cpos:Pos):Prop where
 base:attributeBase o m X.env (eval o X.env)=eval o X.env
 few:((backTo cpos (starEach [e] X.env)).all (λx=>!x.1) && (backToKw cpos (keywordEach [] X.env)).all (λx=>x.1.isSome)
  && decide (([e]:List Expr).length+([]:List Keyword).length+(if ([]:List Keyword).isEmpty then 0 else 1) < 30))=true
 line:(apos.endLine==cpos.line)=true
 trees:backTo cpos (starEach [e] X.env)=[(false,eval e X.env)]
structure M2(X:Cx)(o:Expr)(m:Str)(apos:Pos)(e f:Expr)(cpos:Pos):Prop where
 base:attributeBase o m X.env (eval o X.env)=eval o X.env
 few:((backTo cpos (starEach [e,f] X.env)).all (λx=>!x.1) && (backToKw cpos (keywordEach [] X.env)).all (λx=>x.1.isSome)
  && decide (([e,f]:List Expr).length+([]:List Keyword).length+(if ([]:List Keyword).isEmpty then 0 else 1) < 30))=true
 line:(apos.endLine==cpos.line)=true
 trees:backTo cpos (starEach [e,f] X.env)=[(false,eval e X.env),(false,eval f X.env)]
def IsD(H:Hp)(a:Addr):Prop:=(∃kvs,Rd H a (.dK kvs))\/∃kvs,Rd H a (.dT kvs)
theorem X5{H:Hp}{s:Shared}{a:Addr}(I:Inv X pins σ H s)(d:IsD H a):
 s.TypeIs (.ref a) "dict"/\(∀b,Value.ref a= .ref b->∃ob,s.heap.get? b=some ob/\ob.dict=none)/\(a==sysModules)=false:=by
 rcases d with ⟨kvs,e⟩ | ⟨kvs,e⟩
 . obtain⟨_,hd,vs,_,dd⟩:=Mu I.hok e
   refine⟨dd.typeIs,λb q=>?_,hd⟩;cases q;obtain⟨ob,_,_,h1,h2,_⟩:=dd;exact⟨ob,h1,h2.2.1⟩
 . obtain⟨_,hd,xs,_,dd⟩:=Og I.hok e
   refine⟨dd.typeIs,λb q=>?_,hd⟩;cases q;obtain⟨ob,_,_,h1,h2,_⟩:=dd;exact⟨ob,h1,h2.2.1⟩
section
variable {X:Cx}{pins:List (Addr×Obj)}{σ:St}{H:Hp}{s:Shared}{a:Addr}{y d:V}{u r:Value}{o:Option V}{A:Around}{E:Value->Shared->Prop}
theorem Jac{Q:Value->Shared->Prop}(hu:A.units+1 < cLine)(I:Inv X pins σ H s)(g:Cp H a y o)(ry:B1 y u)(h:∀w' s',Inv X pins σ H s'->B1 (o.getD .non) w'->Q w' s'):
 wpAny (model X.prog X.w) A (call (.builtin "dict.get") [.ref a,u]) Q E s:=by
 rcases g with ⟨kvs,k,e,ey,l⟩ | ⟨kvs,k,b,e,ey,eb,l⟩
 . subst ey
   obtain⟨z,hd,vs,rel,dd⟩:=Mu I.hok e;refine RO R1 dd.typeIs Rz (PySem.F.args_dict_get_2 _ _) (meets_dict_get (Be X.prog X.w) a (Of ry) hd) ⟨_,dd.mapOf,h _ _ (I.tok _) ?_⟩;rw[l];exact(rel.val k).getD rfl
 . subst ey
   cases (show u=Value.ref b from ry);obtain⟨z,hd,xs,rel,dd⟩:=Og I.hok e;refine RO R1 dd.typeIs Rz (PySem.F.args_dict_get_2 _ _) (meetsH_dict_get (tupleKind (Be X.prog X.w)) a b hd) ⟨Rb hu,k,xs,Mc I.hok eb,dd,h _ _ (I.tok _) ?_⟩;rw[l];exact(rel.val k).getD rfl
theorem Jad{Q:Value->Shared->Prop}(hu:A.units+1 < cLine)(I:Inv X pins σ H s)(g:Cp H a y o)(ry:B1 y u)(rd:B1 d r)(h:∀w' s',Inv X pins σ H s'->B1 (o.getD d) w'->Q w' s'):
 wpAny (model X.prog X.w) A (call (.builtin "dict.get") [.ref a,u,r]) Q E s:=by
 rcases g with ⟨kvs,k,e,ey,l⟩ | ⟨kvs,k,b,e,ey,eb,l⟩
 . subst ey
   obtain⟨z,hd,vs,rel,dd⟩:=Mu I.hok e;refine RO R1 dd.typeIs Rz (PySem.F.args_dict_get_3 _ _ _) (meets_dict_get_default (Be X.prog X.w) a (Of ry) hd r) ⟨_,dd.mapOf,h _ _ (I.tok _) ?_⟩;rw[l];exact(rel.val k).getD rd
 . subst ey
   cases (show u=Value.ref b from ry);obtain⟨z,hd,xs,rel,dd⟩:=Og I.hok e;refine RO R1 dd.typeIs Rz (PySem.F.args_dict_get_3 _ _ _) (meetsH_dict_get_default (tupleKind (Be X.prog X.w)) a b hd r) ⟨Rb hu,k,xs,Mc I.hok eb,dd,h _ _ (I.tok _) ?_⟩;rw[l];exact(rel.val k).getD rd
end
def J36(td ty:TE):TE:=λσ H Q=>td σ H λx H1=>∃a,x= .ref a/\IsD H1 a/\ty σ H1 λy H2=>∃o,Cp H2 a y o/\Q (o.getD .non) H2
def J37(td ty tx:TE):TE:=λσ H Q=>td σ H λx H1=>∃a,x= .ref a/\IsD H1 a/\ty σ H1 λy H2=>tx σ H2 λz H3=>∃o,Cp H3 a y o/\Q (o.getD z) H3
def J38(td ty:TE):TE:=λσ H Q=>td σ H λx H1=>∃a,x= .ref a/\IsD H1 a/\ty σ H1 λy H2=>∃kvs k v,H2 a=some (.dK kvs)/\y=kV k/\Aw kvs k=some v/\Q v (upd H2 a (.dK (Cr kvs k)))
section
variable {X:Cx}{o e f:Expr}{apos cpos:Pos}{td ty tx:TE}
theorem J39(hu:X.A.units+1 < cLine)(ho:PE X o td)(he:PE X e ty)(m:M1 X o "get" apos e cpos):PE X (.Call (.Attribute o "get" apos) [e] [] cpos) (J36 td ty):=by
 intro pins s σ H Q I h;refine Jf m.base m.few m.line Rv R1 PySem.F.type_dict_get (thn (ho pins s σ H _ I h) λu s1 hq_=>?_);obtain⟨x,H1,I1,rx,a,ex,d,q1⟩:=hq_;subst ex;obtain rfl:u=Value.ref a:=rx;obtain⟨t1,t2,_⟩:=X5 I1 d;refine⟨t1,t2,?_⟩;rw[m.trees];refine Calls.callWith_builtin rfl (Calls.evalArgs_plain (Calls.spliced_cons (thn (he pins s1 σ H1 _ I1 q1) λiv s2 ⟨y,H2,I2,ry,ov,g,q2⟩=>Calls.spliced_nil ?_)))
 exact Jac hu I2 g ry λw' s3 I3 rw'=>⟨_,H2,I3,rw',q2⟩
theorem En(hu:X.A.units+1 < cLine)(ho:PE X o td)(he:PE X e ty)(hf:PE X f tx)(m:M2 X o "get" apos e f cpos):PE X (.Call (.Attribute o "get" apos) [e,f] [] cpos) (J37 td ty tx):=by
 intro pins s σ H Q I h;refine Jf m.base m.few m.line Rv R1 PySem.F.type_dict_get (thn (ho pins s σ H _ I h) λu s1 hq_=>?_);obtain⟨x,H1,I1,rx,a,ex,d,q1⟩:=hq_;subst ex;obtain rfl:u=Value.ref a:=rx;obtain⟨t1,t2,_⟩:=X5 I1 d;refine⟨t1,t2,?_⟩;rw[m.trees]
 refine Calls.callWith_builtin rfl (Calls.evalArgs_plain (Calls.spliced_cons (thn (he pins s1 σ H1 _ I1 q1) λiv s2 ⟨y,H2,I2,ry,q2⟩=>
  Calls.spliced_cons (thn (hf pins s2 σ H2 _ I2 q2) λfv s3 ⟨z,H3,I3,rz,ov,g,q3⟩=>Calls.spliced_nil ?_))))
 exact Jad hu I3 g ry rz λw' s4 I4 rw'=>⟨_,H3,I4,rw',q3⟩
theorem Uo(ho:PE X o td)(he:PE X e ty)(m:M1 X o "pop" apos e cpos):PE X (.Call (.Attribute o "pop" apos) [e] [] cpos) (J38 td ty):=by
 intro pins s σ H Q I h;refine Jf m.base m.few m.line Rv PySem.F.slot_dict_pop PySem.F.type_dict_pop (thn (ho pins s σ H _ I h) λu s1 hq_=>?_);obtain⟨x,H1,I1,rx,a,ex,d,q1⟩:=hq_;subst ex;obtain rfl:u=Value.ref a:=rx;obtain⟨t1,t2,_⟩:=X5 I1 d;refine⟨t1,t2,?_⟩;rw[m.trees];refine Calls.callWith_builtin rfl (Calls.evalArgs_plain (Calls.spliced_cons (thn (he pins s1 σ H1 _ I1 q1) λiv s2 ⟨y,H2,I2,ry,kvs,k,v,ea,ey,l,q2⟩=>Calls.spliced_nil ?_)));subst ey
 exact Jcb I2 ea ry l (.inl rfl) λw' s3 I3 rw'=>⟨v,_,I3,rw',q2⟩
end
section
variable {X:Cx}
theorem J1f:Gj X (.builtin "len") (λxs H Q=>∃a kvs,xs=[V.ref a]/\H a=some (.dK kvs)/\Q (.int kvs.length) H):=by
 intro pins s σ H xs us Q I r h;obtain⟨a,kvs,rfl,ha,q⟩:=h;obtain⟨u,rfl,ru⟩:=Mm r;cases ru
 exact Jcc I (.inl ha) λt s' I'=>⟨.int kvs.length,H,I',⟨t,rfl⟩,q⟩
end
section
variable {κ:Type} [DecidableEq κ]
theorem J3a{kvs:List (κ×V)}{k:κ}(h:Aw kvs k=none):¬k∈kvs.map (·.1):=by
 intro m;obtain⟨p,hp,e⟩:=FH.mp m;have q:(kvs.any λkv=>decide (kv.1=k))=true:=J4.mpr ⟨p,hp,Fi e⟩;rw[D8,h]at q;exact absurd q (by simp)
theorem J79{kvs:List (κ×V)}{k:κ}{v:V}(h:Aw kvs k=some v):k∈kvs.map (·.1):=by
 have q:(kvs.any λkv=>decide (kv.1=k))=true:=by
  rw[D8,h]
  all_goals rfl
 obtain⟨p,hp,e⟩:=J4.mp q;exact FH.mpr ⟨p,hp,Jg e⟩
end
structure Def(P:Program)(w:World)(K:PySem.W.Frag)(mg:Str->Option Value)(base:Heap)(CX:CXT)(k:Nat)(x:Str)(ps:List Str)(sp:Sp):Prop where
 ex:∃(f:Addr) (fd:FuncData),Al P w K mg base CX k f fd ps sp/\mg x=some (.ref f)/\PySem.W.keepIn K (.ref f)=true/\C4 K fd ps []
def J3b(sp:Sp)(E:XK)(t:TA):TE:=λσ H Q=>t σ H λvs H1=>sp vs H1 Q E
section
variable {X:Cx}{CX:CXT}{k j:Nat}{ps:List Str}{sp:Sp}{E:XK}{x:Str}{p pos:Pos}{e:Expr}{es:List Expr}{t:TA}
theorem Ad(D:Def X.prog X.w X.K X.mg X.base CX j x ps sp)(hr:Bz k X.A)(hg:Gl X x)(hx:Nw CX X E)(ha:PA X (e::es) t)(hj:j<=k:=by decide)
 (hdb:(x==("__debug__":Str))=false:=by decide) (he:starEach (e::es) X.env=(false,eval e X.env)::starEach es X.env:=by rfl) (hpl:(backTo pos (starEach es X.env)).any (·.1)=false:=by rfl):
 PE X (.Call (.Name x p) (e::es) [] pos) (J3b sp E t):=by
 obtain⟨f,fd,F,hm,hk,hb⟩:=D.ex;intro pins s σ H Q I h;refine J74 (F.mono hj) hr hg hm hk hb .nil hx ha hdb he hpl pins s σ H Q I ?_;show t σ H λvs H1=>sp (vs++[]) H1 Q E
 have z:(λ(vs:List V) (H1:Hp)=>sp (vs++[]) H1 Q E)=λvs H1=>sp vs H1 Q E:=by funext vs H1;rw[Hd]
 rw[z];exact h
end
def Jdb(i j:Int):Prop:=i.natAbs < 10 ^ 100/\j.natAbs < 10 ^ 100
theorem Y8:(10:Nat) ^ 100<=2 ^ 1000:=by decide+kernel
theorem Y9{i:Int}(h:i.natAbs < 10 ^ 100):Builtin.Int.intBits i<=2 ^ 20:=by
 have h1:Builtin.Int.intBits i<=1000:=by
  unfold Builtin.Int.intBits;split
  . omega
  . rename_i hne
    have:=(Nat.log2_lt (n:=i.natAbs) (k:=1000) (by simpa using hne)).mpr (Fs h Y8);omega
 exact FO h1 (by decide)
section
variable {X:Cx}
theorem Ya:OpR X (binaryOp .Mult) (rI Jdb λi j=> .int (i * j)):=opI λ_ _ _ _ _ _ _ hc q=>mul_int q (.of_bits (Y9 hc.1) (Y9 hc.2))
theorem Mw:OpR X (binaryOp .FloorDiv) (rI (λ_ j=>j≠0/\j.natAbs < 10 ^ 100) λi j=> .int (i.fdiv j)):=opI λi j _ _ _ _ _ hc q=>by
 refine floordiv_int hc.1 q (.inl (PyProof.noPylong_of_log2 ?_))
 have h0:j.natAbs≠0:=by have:=hc.1;omega
 exact Nat.lt_trans ((Nat.log2_lt h0).mpr (Fs hc.2 Y8)) (by decide)
end
def Isi(K:PySem.W.Frag)(H:Hp)(x:V)(n:String)(b:Bool):Prop:=∃t,Nv K H x t/\PySem.W.kitOne K t (.type n)=some b
section
variable {X:Cx}
theorem Bm:Gj X (.builtin "isinstance") (λxs H Q=>∃x n b,xs=[x,.ty n]/\Isi X.K H x n b/\Q (.bl b) H):=by
 intro pins s σ H xs us Q I r h;obtain⟨x,n,b,rfl,⟨t,ty,e⟩,q⟩:=h;obtain⟨u,c,rfl,r1,r2⟩:=J2r r;cases r2
 exact J18 I r1 ty e λtk=>⟨.bl b,H,I.tok _,rfl,q⟩
end
section
variable {K:PySem.W.Frag}{H:Hp}
theorem J3c{i:Int}:Isi K H (.int i) "int" true:=⟨_,.int i,rfl⟩
theorem J3d{i:Int}:Isi K H (.int i) "bool" false:=⟨_,.int i,by with_unfolding_all rfl⟩
theorem Jae{i:Int}:Isi K H (.int i) "str" false:=⟨_,.int i,by with_unfolding_all rfl⟩
theorem X6{i:Bool}:Isi K H (.bl i) "bool" true:=⟨_,.bl i,rfl⟩
theorem J3e{i:Bool}:Isi K H (.bl i) "int" true:=⟨_,.bl i,by with_unfolding_all rfl⟩
theorem Jaf{i:Bool}:Isi K H (.bl i) "str" false:=⟨_,.bl i,by with_unfolding_all rfl⟩
theorem Jag{i:Str}:Isi K H (.str i) "str" true:=⟨_,.str i,rfl⟩
theorem J3f{i:Str}:Isi K H (.str i) "int" false:=⟨_,.str i,by with_unfolding_all rfl⟩
theorem Jah{i:Str}:Isi K H (.str i) "bool" false:=⟨_,.str i,by with_unfolding_all rfl⟩
theorem J3g:Isi K H .non "int" false:=⟨_,.non,by with_unfolding_all rfl⟩
theorem Jai:Isi K H .non "str" false:=⟨_,.non,by with_unfolding_all rfl⟩
theorem Pt{a:Addr}{xs:List V}(e:H a=some (.lst xs)):Isi K H (.ref a) "list" true:=⟨_,.lst e,rfl⟩
theorem J3h{a:Addr}(e:H a=some (.lst xs)):Isi K H (.ref a) "str" false:=⟨_,.lst e,by with_unfolding_all rfl⟩
theorem J3i{a:Addr}(e:H a=some (.lst xs)):Isi K H (.ref a) "int" false:=⟨_,.lst e,by with_unfolding_all rfl⟩
theorem J3j{a:Addr}(e:H a=some (.lst xs)):Isi K H (.ref a) "tuple" false:=⟨_,.lst e,by with_unfolding_all rfl⟩
theorem J3k{a:Addr}(e:H a=some (.tup xs)):Isi K H (.ref a) "tuple" true:=⟨_,.tup e,rfl⟩
theorem J3l{a:Addr}(e:H a=some (.tup xs)):Isi K H (.ref a) "str" false:=⟨_,.tup e,by with_unfolding_all rfl⟩
theorem J3m{a:Addr}(e:H a=some (.tup xs)):Isi K H (.ref a) "int" false:=⟨_,.tup e,by with_unfolding_all rfl⟩
theorem J3n{a:Addr}(e:H a=some (.tup xs)):Isi K H (.ref a) "list" false:=⟨_,.tup e,by with_unfolding_all rfl⟩
theorem Jaj{x:V}{n:String}{b:Bool}{R:Bool->Prop}(h:Isi K H x n b)(q:R b):∃b,Isi K H x n b/\R b:=⟨b,h,q⟩
theorem J7a{p:Addr}{R:List V->Prop}(h:SqL K H p xs)(q:R xs):∃ys,(SqL K H p ys\/SqT K H p ys)/\R ys:=⟨xs,.inl h,q⟩
theorem J7b{p:Addr}{R:List V->Prop}(h:SqT K H p xs)(q:R xs):∃ys,(SqL K H p ys\/SqT K H p ys)/\R ys:=⟨xs,.inr h,q⟩
theorem B6{p:Addr}{i:Int}{v:V}(h:SqT K H p xs)(e:atI xs i=some v)(q:Q v H):Ja9 K (.ref p) (.int i) H Q:=⟨p,xs,i,v,rfl,rfl,h,e,q⟩
theorem Bb{p:Addr}{i:Int}{v:V}(h:SqL K H p xs)(e:atI xs i=some v)(q:Q v H):Ja8 K (.ref p) (.int i) H Q:=⟨p,xs,i,v,rfl,rfl,h,e,q⟩
end
theorem Yb{c:TT}{tb:TS}{H:Hp}{m0:Nat}(Pv:Nat->St->Hp->Prop)(h0:Pv m0 σ H)
 (hs:∀m σ H,Pv m σ H->c σ H λb H1=>if b=true then ∃N:St->Hp->Prop,(∀σ' H',N σ' H'->∃m',m' < m/\Pv m' σ' H')/\tb {D with nx:=N,ct:=N,bk:=D.nx} σ H1 else D.nx σ H1):J2h c tb D σ H:=⟨Pv,⟨m0,h0⟩,hs⟩
theorem X7{xs:List α}{i:Int}{v:α}(h0:0<=i)(h:xs[i.toNat]?=some v):atI xs i=some v:=by
 unfold atI ixN;have hl:i.toNat < xs.length:=(Fd.mp h).1;rw[if_pos h0,if_pos (show i < xs.length by omega)];exact h
theorem J3o{w:World}{K:PySem.W.Frag}{mg:Str->Option Value}{base:Heap}{N:List Str}{qual:Str}{scope:Scope}{f:Addr}{cd:Value}{A:Around}{outer:List Env}{s:Shared}{H:Hp}{E:XK}:
 (T5 CX P w K mg base N qual scope f cd A outer s H E).K=K:=rfl
theorem Jak{ns:List Int}{k:Nat}(h:k < ns.length):(ns.map V.int)[k]?=some (V.int (ns.getD k 0)):=by
 rw[Fe,Fc,Fb h];rfl
theorem A7.tup{K:PySem.W.Frag}{H H':Hp}{a:Addr}{xs:List V}(e:A7 H H')(h:SqT K H a xs):SqT K H' a xs:=by
 rcases h with (h | ⟨o,h⟩) | h
 . exact .inl (.inl (e _ _ h))
 . exact .inl (.inr ⟨o,e _ _ h⟩)
 . exact .inr h
theorem A7.new{H:Hp}{p:Addr}{o:HO}(h:H p=none):A7 H (upd H p o):=λb u e=>by
 rw[A2 (Ac e h)];exact e
section
variable {σ:St}{H:Hp}{Q:VK}{QT:Bool->Hp->Prop}{QA:List V->Hp->Prop}{D:Kl}{K:PySem.W.Frag}
theorem J3p{g:TG}:Sz te g D σ H=te σ H λx H1=>g x σ H1 D.nx:=rfl
theorem J3q{i:Nat}:J9y i σ H Q=∃v,σ[i]?=some (some v)/\Q v H:=rfl
theorem Jcf{v:V}:tC v σ H Q=Q v H:=rfl
theorem J93{r:R2}{ta tb:TE}:tOp r ta tb σ H Q=ta σ H λx H1=>tb σ H1 λy H2=>r x y H2 Q:=rfl
theorem J94{g:Int->Int->V}{x y:V}:rI0 g x y H Q=∃i j,x= .int i/\y= .int j/\Q (g i j) H:=rfl
theorem Jcg{C:Int->Int->Prop}{g:Int->Int->V}{x y:V}:rI C g x y H Q=∃i j,x= .int i/\y= .int j/\C i j/\Q (g i j) H:=rfl
theorem Jch{g:Int->V}{x:V}:rU g x H Q=∃i,x= .int i/\Q (g i) H:=rfl
theorem Yc{i:Nat}{v:V}{N:St->Hp->Prop}:By i v σ H N=N (σ.set i (some v)) H:=rfl
theorem J3r{c:TT}{t u:TS}:Jbs c t u D σ H=c σ H λb H1=>if b=true then t D σ H1 else u D σ H1:=rfl
theorem Yd{t:TE}:J2o t σ H QT=t σ H λx H'=>∃k,x= .bl k/\QT k H':=rfl
theorem Jci{t:TE}:tB t σ H QT=t σ H λx H1=>∃c,x= .bl c/\QT c H1:=rfl
theorem J3s:Jbr te D σ H=te σ H D.rt:=rfl
theorem Ye:J2e D σ H=D.nx σ H:=rfl
theorem J95{r:List V->Hp->VK->Prop}{t:TA}:tCB r t σ H Q=t σ H λvs H1=>r vs H1 Q:=rfl
theorem Yf{ta:TE}{tr:TA}:Y3 ta tr σ H QA=ta σ H λx H1=>tr σ H1 λxs H2=>QA (x::xs) H2:=rfl
theorem J3t:Ja6 σ H QA=QA [] H:=rfl
theorem Yg{sp:Sp}{E:XK}{t:TA}:J3b sp E t σ H Q=t σ H λvs H1=>sp vs H1 Q E:=rfl
theorem J3u{t:TT}:Jbn t σ H QT=t σ H λc H1=>QT (!c) H1:=rfl
theorem J96{t u:TT}:tOr t u σ H QT=t σ H λc H1=>if c=true then QT true H1 else u σ H1 QT:=rfl
theorem J3v{t u:TT}:Jbm t u σ H QT=t σ H λc H1=>if c=true then u σ H1 QT else QT false H1:=rfl
theorem Yh{ta tb:TE}:J8r ta tb σ H Q=ta σ H λx H1=>∃c,x= .bl c/\if c=true then tb σ H1 Q else Q (.bl false) H1:=rfl
theorem J3w{ta tb:TE}:Jbo ta tb σ H Q=ta σ H λx H1=>∃c,x= .bl c/\if c=true then Q (.bl true) H1 else tb σ H1 Q:=rfl
theorem Yi{ta:TE}:J8s ta σ H Q=ta σ H λx H1=>∃c,x= .bl c/\Q (.bl (!c)) H1:=rfl
theorem J97{t:TT}{ta tb:TE}:tIf t ta tb σ H Q=t σ H λc H1=>if c=true then ta σ H1 Q else tb σ H1 Q:=rfl
theorem J98{r:V->Hp->VK->Prop}{ta:TE}:tUn r ta σ H Q=ta σ H λx H1=>r x H1 Q:=rfl
theorem J99{x y:V}:rEq x y H Q=(scal x y=true/\Q (.bl (decide (x=y))) H):=rfl
theorem J9a{x y:V}:rNe x y H Q=(scal x y=true/\Q (.bl (!decide (x=y))) H):=rfl
theorem J3x{t:TA}:Jc3 t σ H Q=t σ H λxs H1=>xs.length<=sizeLine/\∀p,H1 p=none->Q (.ref p) (upd H1 p (.tup xs)):=rfl
theorem J3y{t:TA}:Jc4 t σ H Q=t σ H λxs H1=>xs.length<=sizeLine/\∀p,H1 p=none->Q (.ref p) (upd H1 p (.lst xs)):=rfl
theorem Up:J2f D σ H=False:=rfl
theorem Yj:J8t te D σ H=te σ H λ_ H1=>D.nx σ H1:=rfl
theorem Uq{t:TG}{u:TGs}{vs:List V}{N:St->Hp->Prop}:Pj t u vs σ H N=∃v r,vs=v::r/\t v σ H λσ' H'=>u r σ' H' N:=rfl
theorem Yk{vs:List V}{N:St->Hp->Prop}:J70 vs σ H N=(vs=[]/\N σ H):=rfl
theorem Yl{to ti:TE}{t:J6z}{v:V}{N:St->Hp->Prop}:Jbu to ti t v σ H N=to σ H λo H1=>ti σ H1 λi H2=>t o i v H2 λH3=>N σ H3:=rfl
theorem Ur{r r':R2}{ta tb tc:TE}:Wx r r' ta tb tc σ H Q=ta σ H λx H1=>tb σ H1 λy H2=>r x y H2 λz H3=>∃k,z= .bl k/\
 (if k=true then tc σ H3 λw' H4=>r' y w' H4 Q else Q (.bl false) H3):=rfl
theorem Ym{ta:TA}{R:It->Hp->Prop}:J8v ta σ H R=ta σ H λvs H1=>∃j:Int,vs=[.int j]/\-(2 ^ 62)<=j/\j < 2 ^ 62/\R (Itr 0 j.toNat) H1:=rfl
theorem Yn{ta:TA}{R:It->Hp->Prop}:J8w ta σ H R=ta σ H λvs H1=>∃i j:Int,vs=[.int i,.int j]/\(-(2 ^ 62)<=i/\i < 2 ^ 62/\-(2 ^ 62)<=j/\j < 2 ^ 62)/\R (Itr i (j - i).toNat) H1:=rfl
theorem Us{tl:TE}{R:It->Hp->Prop}:J8u K tl σ H R=tl σ H λx H1=>∃a,x= .ref a/\(∃xs,SqL K H1 a xs)/\R (Itl K a) H1:=rfl
def Mx(g:TG)(tb:TS)(D:Kl)(σ:St):It->Hp->Prop:=λJ H1=>∃W:Nat->Nat->St->Hp->Prop,(∃m,W 0 m σ H1)/\∀i m σ H,W i m σ H->
 (J.stop i H/\D.nx σ H)\/(J.go i H/\∃N:St->Hp->Prop,(∀σ' H',N σ' H'->∃m',m' < m/\W (i+1) m' σ' H')/\∀x H',J.yld i H x H'->g x σ H' λσ2 H2=>tb {D with nx:=N,ct:=N,bk:=D.nx} σ2 H2)
theorem Yo{g:TG}{tb:TS}:Jbv wi g tb D σ H=wi σ H (Mx g tb D σ):=rfl
theorem Ex{lo:Int}{n:Nat}{g:TG}{tb:TS}(Pv:Nat->St->Hp->Prop)(h0:Pv 0 σ H)
 (hs:∀i σ H,i < n->Pv i σ H->g (.int (lo+i)) σ H λσ2 H2=>tb {D with nx:=Pv (i+1),ct:=Pv (i+1),bk:=D.nx} σ2 H2) (hd:∀σ H,Pv n σ H->D.nx σ H):Mx g tb D σ (Itr lo n) H:=J13 Pv h0 hs hd
theorem Iq{a:Addr}{xs:List V}{g:TG}{tb:TS}(Pv:Nat->St->Hp->Prop)(h0:Pv 0 σ H)(hl:∀i σ H,i<=xs.length->Pv i σ H->SqL K H a xs)
 (hs:∀i x σ H,xs[i]?=some x->Pv i σ H->g x σ H λσ2 H2=>tb {D with nx:=Pv (i+1),ct:=Pv (i+1),bk:=D.nx} σ2 H2) (hd:∀σ H,Pv xs.length σ H->D.nx σ H):Mx g tb D σ (Itl K a) H:=J2j Pv h0 hl hs hd
theorem Jal{t u:TS}(h:∀rest:St->Hp->Prop,rest=u D->t {D with nx:=rest} σ H):Jbq t u D σ H:=h _ rfl
theorem J7c{rest r:St->Hp->Prop}(h:rest=r)(q:r σ H):rest σ H:=by rw[h];exact q
theorem J7d{a:Addr}{ns:List Int}{k:Int}{R:List Int->Prop}(h:SqL K H a (ns.map V.int))(h0:0<=k)(hl:ns.length<=63)(q:R ns):∃x:List Int,SqL K H a (x.map V.int)/\0<=k/\x.length<=63/\R x:=⟨ns,h,h0,hl,q⟩
theorem Tc{i j:Int}(h1:0 < j)(h2:j < 1073741824):Jby i j:=⟨h1,h2⟩
theorem J7e{i j:Int}(h1:0<=j)(h2:j<=1000000)(h3:i.natAbs < 2 ^ 64):Jbz i j:=⟨h1,h2,h3⟩
theorem Jam{i j:Int}(h1:-(2 ^ 64) < i)(h2:i < 2 ^ 64):J2k i j:= .inl ⟨h1,h2⟩
theorem Jan{i j:Int}(h1:-(2 ^ 64) < j)(h2:j < 2 ^ 64):J2k i j:= .inr ⟨h1,h2⟩
end
def Eg(CX:CXT)(X:Cx)(EE:St->XK):Prop:=∀(pins:List (Addr×Obj)) (σ:St) (H:Hp) (s:Shared) (e:Value) (s':Shared),Inv X pins σ H s->CX X.stack H s (EE σ) e s'->X.xe e s'
abbrev TH:=Value->Addr->TS
theorem Td{prog:Program}{w:World}{A:Around}{R:Result->Shared->Prop}{s:Shared}{elt target iter:Expr}{ifs:List Expr}{scope:Scope}{pos:Pos}{it acc:Value}{env:Env}(I:Nat->Shared->Prop)
 (turn:∀n s,I n s->wpAny (model prog w) A (pyNext it) (λr s₁=>match r with
  | none=>R (.ok .next) s₁
  | some v=>wpAny (model prog w) A (letOwnedTupleGo target it v) (λ_ s₁=>wpAny (model prog w) A (assign target env v) (λ_ s₂=>
   wpAny (model prog w) A (forIn ifs true λc r=>if r=true then do let ok <- isTrue c env (eval c env);pure (ForInStep.yield ok) else pure (ForInStep.yield r)) (λok s₃=>
    if ok=true then wpAny (model prog w) A (eval elt env) (λx s₄=>
     wpAny (model prog w) A (call (.builtin "list.append") [acc,x]) (λ_ s₅=>∃m,m < n/\I m s₅) (notedBy (model prog w) A env λe s'=>R (.error e) s') s₄) (notedBy (model prog w) A env λe s'=>R (.error e) s') s₃
    else ∃m,m < n/\I m s₃) (notedBy (model prog w) A env λe s'=>R (.error e) s') s₂) (notedBy (model prog w) A env λe s'=>R (.error e) s') s₁) (notedBy (model prog w) A env λe s'=>R (.error e) s') s₁) (notedBy (model prog w) A env λe s'=>R (.error e) s') s)
 (n:Nat) (h:I n s):
 codeAny (model prog w) A (.compLoop (.ListComp elt [⟨target,iter,ifs,0⟩] scope pos) 0 it acc env) R s:=by
 refine codeAny_loop rfl I (λn s hI=>?_) n h;show wpAny _ A ((compTurn (.ListComp elt [⟨target,iter,ifs,0⟩] scope pos) 0 it acc env).onRaise (λx=>do noteFrame x env;theTreesLotGoes x)) _ _ s;refine wpAny_noted ?_;rw[compTurn_list];refine Fu (wpAny_standAt (Fu (Hs (turn n s hI) (λr s₁ h₁=>?_) λ_ _ h'=>h')))
 cases r with
 | none=>exact FX h₁
 | some v=>
  refine Fu (Hs h₁ (λ_ s₁ h₁=>?_) λ_ _ h'=>h');refine Fu (Hs h₁ (λ_ s₂ h₂=>Fu (Hs h₂ (λok s₃ h₃=>?_) λ_ _ h'=>h')) λ_ _ h'=>h')
  cases ok with
  | false=>exact FX ⟨rfl,h₃⟩
  | true=>
   exact Fu (Fu (Hs h₃ (λx s₄ h₄=>Fu (Hs h₄ (λ_ s₅ h₅=>FX (FX ⟨rfl,h₅⟩)) λ_ _ h'=>h')) λ_ _ h'=>h'))
def clo(env:Env):List (Str×NameKind)->List (Str×Addr)->List (Str×Addr)
 | [],cs=>cs
 | (n,k)::r,cs=>clo env r (if (k== .free)=true then (match env.cells.lookup n with | some c=>(n,c)::cs | none=>cs) else cs)
theorem Ut{env:Env}:∀(names:List (Str×NameKind)) (cs:List (Str×Addr)),(∀y∈names,y.2= .free->∃c,env.cells.lookup y.1=some c)->
 (forIn (m:=Sem) names cs λ(x:Str×NameKind) (r:List (Str×Addr))=>match x with | (name,kind)=>if (kind== .free)=true then do let c <- cellOf env name;pure (ForInStep.yield ((name,c)::r)) else pure (ForInStep.yield r))=pure (clo env names cs)
 | [],cs,_=>rfl
 | (n,k)::r,cs,h=>by
  rw[List.forIn_cons];have ih:=λcs=>Ut r cs λy hy=>h y (Fh _ hy)
  by_cases hk:(k==NameKind.free)=true
  . obtain⟨c,hc⟩:=h (n,k) Fy (by simpa using hk)
    have e:cellOf env n=pure c:=by unfold cellOf;rw[show env.cells.lookup n=some c from hc]
    simp only[hk,if_true,e,clo];rw[show env.cells.lookup n=some c from hc];exact ih _
  . simp only[hk,clo]
    exact ih _
theorem Oh{scope:Scope}{env:Env}(h:∀y∈scope.names,y.2= .free->∃c,env.cells.lookup y.1=some c):closureFor scope env=pure (clo env scope.names []):=by
 unfold closureFor;show (forIn (m:=Sem) scope.names ([]:List (Str×Addr)) _ >>=λr=>pure r)=_;rw[Ut scope.names [] h];rfl
theorem Ny{env:Env}{x:Str}{c:Addr}:∀(names:List (Str×NameKind)) (cs:List (Str×Addr)),(clo env names cs).lookup x=some c->env.cells.lookup x=some c\/cs.lookup x=some c
 | [],cs,h=> .inr h
 | (n,k)::r,cs,h=>by
  unfold clo at h;rcases Ny r _ h with q | q
  . exact .inl q
  . split at q
    . split at q
      . rename_i c' hc
        rw[Hk]at q
        cases hx:x==n with
        | true=>
         rw[hx]at q
         have e:x=n:=by simpa using hx
         subst e;simp only[Option.some.injEq]at q;subst q;exact .inl hc
        | false=>rw[hx]at q;exact .inr q
      . exact .inr q
    . exact .inr q
theorem Te{env:Env}{x:Str}{c:Addr}(hc:env.cells.lookup x=some c):∀(names:List (Str×NameKind)) (cs:List (Str×Addr)),(cs.lookup x=some c\/(cs.lookup x=none/\(x,NameKind.free)∈names))->(clo env names cs).lookup x=some c
 | [],cs,h=>by
  rcases h with h | ⟨_,h⟩
  . exact h
  . cases h
 | (n,k)::r,cs,h=>by
  unfold clo;refine Te hc r _ ?_
  by_cases hx:x=n
  . subst hx
    by_cases hk:(k==NameKind.free)=true
    . rw[if_pos hk,hc]
      exact .inl (by simp[Hk])
    . rw[if_neg hk]
      rcases h with h | ⟨h1,h2⟩
      . exact .inl h
      . refine .inr ⟨h1,?_⟩
        rcases Ft.mp h2 with e | e
        . cases e;exact absurd rfl hk
        . exact e
  . have hb:(x==n)=false:=by simpa using hx
    have key:∀cs':List (Str×Addr),cs'.lookup x=cs.lookup x->(cs'.lookup x=some c\/(cs'.lookup x=none/\(x,NameKind.free)∈r)):=λcs' e=>by
     rw[e];rcases h with h | ⟨h1,h2⟩
     . exact .inl h
     . refine .inr ⟨h1,?_⟩
       rcases Ft.mp h2 with e | e
       . cases e;exact absurd rfl hx
       . exact e
    refine key _ ?_;split
    . split
      . simp[Hk,hb]
      . rfl
    . rfl
theorem Ir{env:Env}{k':NameKind}:∀{names:List (Str×NameKind)}{x:Str},(∀y∈names,y.2≠ .cell)->
 (names.map λ(n,k)=>if (k==NameKind.free && env.scope.kind== .function && env.kindOf n==some .cell) then (n,NameKind.cell) else (n,k)).lookup x=some k'->(k'= .cell\/k'= .free)->(x,NameKind.free)∈names
 | [],_,_,h,_=>by simp at h
 | (n,k)::r,x,hc,h,hk=>by
  have ih:=@Ir env k' r x (λy hy=>hc y (Fh _ hy));have h':List.lookup x ((if (k==NameKind.free && env.scope.kind== .function && env.kindOf n==some .cell)=true then (n,NameKind.cell) else (n,k))::(r.map λ(n,k)=>if (k==NameKind.free && env.scope.kind== .function && env.kindOf n==some .cell) then (n,NameKind.cell) else (n,k)))=some k':=h
  by_cases hx:x=n
  . subst hx
    by_cases q:(k==NameKind.free && env.scope.kind== .function && env.kindOf x==some .cell)=true
    . have:k= .free:=by simp only[Rl,Rt]at q;exact q.1.1
      subst this;exact Fy
    . rw[if_neg q,Hk]at h'
      simp only[Jl]at h';have e:k=k':=FG h';rcases hk with z | z
      . exact absurd (e.trans z) (hc (x,k) Fy)
      . rw[e.trans z];exact Fy
  . have hb:(x==n)=false:=by simpa using hx
    refine Fh _ (ih ?_ hk);split at h'
    . rw[Hk,hb]at h';exact h'
    . rw[Hk,hb]at h';exact h'
theorem Ec{env:Env}:∀{names:List (Str×NameKind)}{x:Str},names.lookup x=some .free->
 (names.map λ(n,k)=>if (k==NameKind.free && env.scope.kind== .function && env.kindOf n==some .cell) then (n,NameKind.cell) else (n,k)).lookup x=some .cell\/
 (names.map λ(n,k)=>if (k==NameKind.free && env.scope.kind== .function && env.kindOf n==some .cell) then (n,NameKind.cell) else (n,k)).lookup x=some .free
 | [],_,h=>by simp at h
 | (n,k)::r,x,h=>by
  have ih:=@Ec env r x;show List.lookup x ((if (k==NameKind.free && env.scope.kind== .function && env.kindOf n==some .cell)=true then (n,NameKind.cell) else (n,k))::_)=_\/List.lookup x ((if (k==NameKind.free && env.scope.kind== .function && env.kindOf n==some .cell)=true then (n,NameKind.cell) else (n,k))::_)=_
  cases hx:x==n with
  | true=>
   simp only[Hk,hx]at h;cases h;split
   . left;simp[Hk,hx]
   . right;simp[Hk,hx]
  | false=>
   simp only[Hk,hx]at h;split
   . simp only[Hk,hx];exact ih h
   . simp only[Hk,hx];exact ih h
structure Blk where
 s:Shared
 H:Hp
 C:Addr
 fp:List Addr
abbrev Cx.blk(X:Cx)(scope:Scope)(N':List Str)(b:Blk):Cx:=
 {X with N:=N',s₀:=b.s,H₀:=b.H,env:=compEnvC scope (clo X.env scope.names []) b.C X.env,outer:=X.stack,ex:=b.fp,fn:=λ_=>false,pn:=[],xe:=λ_ _=>False}
def around(N:List Str)(fs:List Nat):List Str:=fs.map λj=>N.getD j ""
def Cg(N:List Str)(esc scope:Scope)(xs:List Str)(fs:List Nat):Bool:=
 decide (xs++around N fs).Nodup && (match scope.kind with | .function=>true | _=>false) && xs.all (λx=>decide (scope.names.lookup x=some .local)) &&
 scope.names.all (λy=>decide (y.2≠ .cell) && (!decide (y.2= .local) || decide (scope.names.lookup y.1=some .local)) && (!decide (y.2= .free) || decide (esc.names.lookup y.1=some .cell) || decide (esc.names.lookup y.1=some .free))) &&
 fs.all λj=>decide (j < N.length) && decide (scope.names.lookup (N.getD j "")=some .free)
structure Tf(N:List Str)(esc scope:Scope)(xs:List Str)(fs:List Nat):Prop where
 nd:(xs++around N fs).Nodup
 kind:scope.kind= .function
 own:∀x∈xs,scope.names.lookup x=some .local
 cell:∀y∈scope.names,y.2≠ .cell
 names:∀y∈scope.names,y.2= .local->scope.names.lookup y.1=some .local
 free:∀y∈scope.names,y.2= .free->esc.names.lookup y.1=some .cell\/esc.names.lookup y.1=some .free
 fs:∀j∈fs,j < N.length/\scope.names.lookup (N.getD j "")=some .free
theorem Dw{N:List Str}{esc scope:Scope}{xs:List Str}{fs:List Nat}(h:Cg N esc scope xs fs=true):Tf N esc scope xs fs:=by
 unfold Cg at h;simp only[Rl,decide_eq_true_eq,Ra]at h;obtain⟨⟨⟨⟨h1,h2⟩,h3⟩,h4⟩,h5⟩:=h;refine⟨h1,?_,h3,λy hy=>(h4 y hy).1.1,λy hy e=>?_,λy hy e=>?_,h5⟩
 . split at h2
   . assumption
   . cases h2
 . have:=(h4 y hy).1.2
   simpa [e] using this
 . have:=(h4 y hy).2
   simpa [e] using this
section
variable {X:Cx}{pins:List (Addr×Obj)}{σ:St}{H:Hp}{s:Shared}{scope:Scope}{xs:List Str}{fs:List Nat}{fp:List Addr}{C:Addr}
theorem Jao(I:Inv X pins σ H s)(O:Tf X.N X.env.scope scope xs fs)(hf:∀b∈fp,E8 X pins H b)(hC:s.heap.objs.size<=C)(hfp:∀b∈fp,b < s.heap.objs.size):(X.blk scope (xs++around X.N fs) ⟨s,H,C,fp⟩).Ok:=by
 have hcl:∀x c,(clo X.env scope.names []).lookup x=some c->X.env.cells.lookup x=some c:=λx c e=>by
  rcases Ny _ _ e with q | q
  . exact q
  . cases q
 have hsz:∀b o,X.base.get? b=some o->b < X.s₀.heap.objs.size:=λb o e=>Fs (Fq e) I.ok.bsz;refine⟨I.ok.mod,O.kind,I.ok.glob,I.ok.blt,hC,λx y c h1 h2=>I.ok.inj x y c (hcl x c h1) (hcl y c h2),λx hx=>?_,λx c z=>(by cases z),I.ok.hd,I.ok.frames,.inl rfl,λb hb=>⟨FB (Fs (hfp b hb) hC),λx c e=>(hf b hb).2.2.2.2.1 x c (hcl x c e)⟩,I.bs,FO I.ok.bsz I.sz,λb o e hb=>?_,λb hb hs=>?_,I.stack,I.stkFree⟩
 . have hm:(x,NameKind.free)∈scope.names:=by
    rcases hx with hx | hx
    . exact Ir (env:=X.env) O.cell (show (scope.names.map _).lookup x=some NameKind.cell from hx) (.inl rfl)
    . exact Ir (env:=X.env) O.cell (show (scope.names.map _).lookup x=some NameKind.free from hx) (.inr rfl)
   obtain⟨c,hc⟩:=I.ok.has x (O.free _ hm rfl);exact⟨c,Te hc _ _ (.inr ⟨rfl,hm⟩)⟩
 . obtain⟨_,_,_,h4,_⟩:=hf b hb
   rcases h4 with h4 | h4
   . exact I.ok.noex b o e h4
   . exact absurd (Fs (hsz b o e) h4) (Hn _)
 . obtain⟨_,h2,h3,_⟩:=hf b hb
   exact(Ft.mp (I.stkSub b hs)).elim h2 h3
theorem Jap{h1:Heap}{t:Nat}{D:Addr}{m:Str->Option Value}(I:Inv X pins σ H s)(O:Tf X.N X.env.scope scope xs fs)(hf:∀b∈fp,E8 X pins H b)(hD:s.heap.objs.size<=D)(hC:s.heap.objs.size<=C)(hfp:∀b∈fp,b < s.heap.objs.size)(hDC:D≠C)
 (k:∀b u,s.heap.get? b=some u->h1.get? b=some u) (hDo:h1.get? D=some {cls:= .type "list",data:= .seq #[] 0}) (hn:h1.Ns C m):
 Inv (X.blk scope (xs++around X.N fs) ⟨s,H,C,fp⟩) [] (xs.map (λ_=>none)++fs.map λj=>σ.getD j none) (upd H D (.lst [])) {s with heap:=h1,toks:=t}:=by
 have hcl:∀x c,(clo X.env scope.names []).lookup x=some c->X.env.cells.lookup x=some c:=λx c e=>by
  rcases Ny _ _ e with q | q
  . exact q
  . cases q
 have ok:=Jao (C:=C) I O hf hC hfp;have hnD:H D=none:=I.hok.fresh hD;refine⟨ok,rfl,I.bare,Un.laid k hD hnD,⟨m,hn,λi x v e1 e2 e3=>?_⟩,λx c e=>?_,?_,λx c e=>?_,λp hp=>absurd (show p∈([]:List (Addr×Obj)) from hp) (by simp),I.hok.laid k hD ⟨FM _,[],0,.nil,hDo⟩,by simp[around]⟩
 . by_cases hi:i < xs.length
   . rw[FD (by simpa using hi),Fe]at e2
     cases q:xs[i]? with
     | none=>rw[q]at e2;cases e2
     | some a=>rw[q]at e2;cases e2
   . have hi:xs.length<=i:=Jm hi
     rw[Fz (by simpa using hi)]at e1 e2;unfold around at e1;rw[Fa]at e2;rw[Fe]at e1 e2
     cases q:fs[i - xs.length]? with
     | none=>rw[q]at e2;cases e2
     | some j=>
      rw[q]at e1 e2;simp only[R5,Option.some.injEq]at e1 e2;obtain⟨hj,hl⟩:=O.fs j (Ff q);obtain⟨m0,_,hl0⟩:=I.loc
      have e1':X.N[j]?=some x:=by rw[<- e1,Fc,Fb hj];rfl
      have e2':σ[j]?=some (some v):=by
       rw[Fc]at e2
       cases z:σ[j]? with
       | none=>rw[z]at e2;cases e2
       | some y=>rw[z]at e2;simp only[Option.getD_some]at e2;rw[e2]
      rw[e1]at hl;have hm:(x,NameKind.free)∈scope.names:=Hh hl;have hk:=O.free _ hm rfl;obtain⟨u,r,l⟩:=hl0 j x v e1' e2' (hk.elim (λz=> .inr (.inl z)) λz=> .inr (.inr z));refine⟨u,r,?_⟩;rcases l with ⟨z,_⟩ | ⟨_,c,hc,cell⟩
      . have z':X.env.scope.names.lookup x=some .local:=z
        rcases hk with hk | hk <;> (rw[z']at hk;cases hk)
      . refine .inr ⟨?_,c,Te hc _ _ (.inr ⟨rfl,hm⟩),?_⟩
        . exact Ec (env:=X.env) hl
        . obtain⟨o,ho,hd⟩:=cell
          exact⟨o,k _ _ ho,hd⟩
 . obtain⟨v,o,ho,hd⟩:=I.cell x c (hcl x c e)
   exact⟨v,o,k _ _ ho,hd⟩
 . show upd H D (.lst []) C=none
   rw[A2 (Ne.symm hDC)];exact I.hok.fresh hC
 . obtain⟨v,q⟩:=I.cell x c (hcl x c e)
   rw[A2 (FB (Fs q.lt hD))];exact I.freeC x c (hcl x c e)
theorem J7f{N':List Str}{σ':St}{h2:Heap}{pl:List (Addr×Obj)}(I:Inv X pins σ H s)(hf:∀b∈fp,E8 X pins H b)(hC:s.heap.objs.size<=C)(J:Inv (X.blk scope N' ⟨s,H,C,fp⟩) pl σ' H' s')(sb:Heap.SameBut C s'.heap h2):
 Inv X pins σ H' {s' with heap:=h2}:=by
 have u:=J.base;have ne:∀b o,s.heap.get? b=some o->b≠C:=λb o e=>FB (Fs (Fq e) hC);refine I.call' (ch:=fp) J.os ⟨λb o e n h1 h2=>(sb.2 b (ne b o e)).trans (u.keep b o e n h1 h2),λb o e n h1 h2=>?_,u.free,λb o e hx=>?_,u.tups,u.frzs,u.tbls⟩ (λa o e=>?_) J.bare λb hb=>?_
 . obtain⟨sl,q⟩:=u.slot b o e n h1 h2
   exact⟨sl,(sb.2 b (ne b o e)).trans q⟩
 . obtain⟨o',q⟩:=u.there b o e hx
   exact⟨o',(sb.2 b (ne b o e)).trans q⟩
 . have fr:H' C=none:=J.free
   refine(J.hok a o e).stay (λb v hc q=>(sb.2 b ?_).trans q) (λ_ q=>q) λ_ _ q=>q;rcases hc with rfl | hc
   . exact Ac e fr
   . exact Ac hc fr
 . obtain⟨_,h2,h3,h4,h5,h6⟩:=hf b hb
   exact⟨h4,h2,h5,h6⟩
end
def J7g(σ σ':St):Prop:=∀(i:Nat) (v:V),σ[i]?=some (some v)->σ'[i]?=some (some v)
def PTs(X:Cx)(ifs:List Expr)(t:TT):Prop:=
 ∀(pins:List (Addr×Obj)) (s:Shared) (σ:St) (H:Hp) (Q:Bool->Hp->Prop),Inv X pins σ H s->t σ H Q->
   wpAny (model X.prog X.w) X.A (forIn ifs true λc r=>if r=true then do let ok <- isTrue c X.env (eval c X.env);pure (ForInStep.yield ok) else pure (ForInStep.yield r)) (TP X pins σ Q) X.xe s
def Do:TT:=λ_ H Q=>Q true H
theorem My:PTs X [] Do:=λ_ _ _ H _ I h=>wpAny_tests_nil ⟨H,I,h⟩
theorem Ow{c:Expr}{t:TT}(hc:PT X c t):PTs X [c] t:=λpins s σ H Q I h=>wpAny_tests_one (hc pins s σ H Q I h)
def Bi(σ0:St)(g:Blk->TG)(tt:Blk->TT)(te:Blk->TE)(Q:VK)(J:It)(H1:Hp):Prop:=∀(b:Blk) (D:Addr),H1 D=none->∃W:Nat->Nat->List V->Hp->Prop,(∃m,W 0 m [] (upd H1 D (.lst [])))/\∀i m ys H2,W i m ys H2->H2 D=some (.lst ys)/\
 ((J.stop i H2/\Q (.ref D) H2)\/(J.go i H2/\∀x H3,J.yld i H2 x H3->g b x σ0 H3 λσ6 H6=>J7g σ0 σ6/\tt b σ6 H6 λok H7=>
   if ok=true then te b σ6 H7 λy H8=>H8 D=some (.lst ys)/\ys.length < sizeLine/\∃m',m' < m/\W (i+1) m' (ys++[y]) (upd H8 D (.lst (ys++[y])))
   else ∃m',m' < m/\W (i+1) m' ys H7))
def S6(wi:TI)(n:Nat)(fs:List Nat)(g:Blk->TG)(tt:Blk->TT)(te:Blk->TE):TE:=λσ H Q=>wi σ H (Bi (List.replicate n none++fs.map λj=>σ.getD j none) g tt te Q)
section
variable {X:Cx}{pins:List (Addr×Obj)}{σ:St}{scope:Scope}{xs:List Str}{fs:List Nat}{elt tg iter:Expr}{ifs:List Expr}{pos:Pos}{wi:TI}{g:Blk->TG}{tt:Blk->TT}{te:Blk->TE}
theorem S7{H:Hp}{s:Shared}{C:Addr}{h2:Heap}(I:Inv X pins σ H s)(F:E8 X pins H C)(sb:Heap.SameBut C s.heap h2):Inv X pins σ H {s with heap:=h2}:=
 I.turned (t':=s.toks) (λb o hb e=>(sb.2 b hb).trans e) F.1 F.2.1 F.2.2.2.1 F.2.2.2.2.1 F.2.2.2.2.2
theorem Uu{itv:Value}{s2:Shared}{RR:Value->Addr->Result->Shared->Prop}(hc:X.calm=true)(O:Tf X.N X.env.scope scope xs fs)
 (hg:∀b,PG (X.blk scope (xs++around X.N fs) b) tg (g b)) (ht:∀b,PTs (X.blk scope (xs++around X.N fs) b) ifs (tt b)) (he:∀b,PE (X.blk scope (xs++around X.N fs) b) elt (te b))
 (h:PIE X pins σ tg (Bi (List.replicate xs.length none++fs.map λj=>σ.getD j none) g tt te Q) itv s2)
 (hR:∀D C s' m H',s'.heap.Ns C m->Inv X pins σ H' s'->Q (.ref D) H'->E8 X pins H' C->RR (.ref D) C (.ok .next) s'):
 wpAny (model X.prog X.w) X.A (newList []) (λacc s₃=>wpAny (model X.prog X.w) X.A (newFunctionEnv scope X.env.globals (clo X.env scope.names []) [] X.env.qual none .none (some X.env)) (λcenv s₄=>
  codeAny (model X.prog X.w) X.A (.compStart (.ListComp elt [⟨tg,iter,ifs,0⟩] scope pos) 0 itv acc {cenv with scope:=relabel scope X.env}) (RR acc cenv.locals) s₄) E s₃) E s2:=by
 obtain⟨it,fp,tn,J,H2,rfl,I2,T,st2,f2,rd⟩:=h
 have hfp:∀b∈fp,b < s2.heap.objs.size:=λb hb=>by
  obtain⟨o,e,_⟩:=T.obj _ _ st2 b hb;exact Fq e
 refine wpAny_newObj_type (wpAny_newFunctionEnv O.cell (by intro y hy;simp at hy) (λh₁ hns₁ hsb₁=>?_) O.kind);dsimp only at hns₁ hsb₁ ⊢;generalize hH2:s2.heap.push {cls:= .type "list",dict:=none,data:= .seq ([]:List Value).toArray}=HH at hns₁ hsb₁ ⊢
 have hC:HH.objs.size=s2.heap.objs.size+1:=by rw[<- hH2,Jb]
 have hDC:s2.heap.objs.size≠HH.objs.size:=by rw[hC];exact FB (Hz _)
 have hCle:s2.heap.objs.size<=HH.objs.size:=by rw[hC];exact Rj _
 have old:∀b o,s2.heap.get? b=some o->h₁.get? b=some o:=λb o e=>hsb₁.extBut b o (by rw[hC];exact FB (RX (Fq e))) (Fm _ (hH2▸Fm _ e));have hacc:h₁.get? s2.heap.objs.size=some {cls:= .type "list",data:= .seq #[] 0}:=hsb₁.extBut _ _ hDC (Fm _ (hH2▸FK _ rfl));obtain⟨W,⟨m0,w0⟩,turn⟩:=rd ⟨s2,H2,HH.objs.size,fp⟩ s2.heap.objs.size I2.fresh;have I3:=Jap (t:=s2.toks+([]:List (Str×Value)).length) I2 O f2 (Fg _) hCle hfp hDC old hacc hns₁;rw[show xs.map (λ_=>(none:Option V))=List.replicate xs.length none from List.map_const' ..]at I3;generalize hX:X.blk scope (xs++around X.N fs) ⟨s2,H2,HH.objs.size,fp⟩=X' at I3
 have stat:∀{H':Hp},(∀b∈fp,H' b=none)->∀b∈fp,E8 X' [] H' b:=λhn b hb=>by
  subst hX;refine⟨hn b hb,?_,?_,.inl hb,λx c e=>?_,λp hp=>absurd hp (by simp)⟩
  . exact(I3.ok.exf b hb).1
  . exact I3.ok.exfs b hb
  . exact(I3.ok.exf b hb).2 x c e
 have fr3:∀b∈fp,upd H2 s2.heap.objs.size (.lst []) b=none:=λb hb=>by
  rw[A2 (FB (hfp b hb))];exact(f2 b hb).1
 have ccell:∀y c,X.env.cells.lookup y=some c->c≠HH.objs.size:=λy c e=>by
  obtain⟨v,q⟩:=I2.cell y c e;exact FB (Fs q.lt hCle)
 have cloc:HH.objs.size≠X.env.locals:=(FB (Fs I2.lt hCle)).symm
 have eP:X'.prog=X.prog:=by rw[<- hX]
 have ew:X'.w=X.w:=by rw[<- hX]
 have eK:X'.K=X.K:=by rw[<- hX]
 have eA:X'.A=X.A:=by rw[<- hX]
 have ec:X'.calm=true:=by rw[<- hX];exact hc
 have ex:X'.xe=λ_ _=>False:=by rw[<- hX]
 have een:X'.env=compEnvC scope (clo X.env scope.names []) HH.objs.size X.env:=by rw[<- hX]
 have hg':=hg ⟨s2,H2,HH.objs.size,fp⟩;have ht':=ht ⟨s2,H2,HH.objs.size,fp⟩;have he':=he ⟨s2,H2,HH.objs.size,fp⟩;rw[hX]at hg' ht' he';have st1:tn 0 h₁:=T.keep _ _ _ st2 λb hb o e=>old b o e
 have loop:∀s₃:Shared,s₃={s2 with heap:=h₁,toks:=s2.toks+([]:List (Str×Value)).length}->
  codeAny (model X.prog X.w) X.A (.compLoop (.ListComp elt [⟨tg,iter,ifs,0⟩] scope pos) 0 (.ref it) (.ref s2.heap.objs.size) (compEnvC scope (clo X.env scope.names []) HH.objs.size X.env))
   (RR (.ref s2.heap.objs.size) HH.objs.size) s₃:=by
  rintro s₃ rfl;refine Td (λn s'=>∃i ys H',Inv X' [] (List.replicate xs.length none++fs.map λj=>σ.getD j none) H' s'/\tn i s'.heap/\(∀b∈fp,H' b=none)/\W i n ys H') ?_ m0 ⟨0,[],_,I3,st1,fr3,w0⟩;rintro n s4 ⟨i,ys,H4,I4,st4,fr4,w4⟩;obtain⟨hD4,tn4⟩:=turn i n ys H4 w4;rcases tn4 with ⟨stop,qn⟩ | ⟨go,step⟩
  . have td:=T.done X' eP ew eK ec i [] s4 _ H4 (notedBy (model X.prog X.w) X.A (compEnvC scope (clo X.env scope.names []) HH.objs.size X.env) λe s'=>RR (.ref s2.heap.objs.size) HH.objs.size (.error e) s') I4 (stat fr4) st4 stop
    rw[eA]at td;refine thn td λr s5 ⟨hr,I5⟩=>?_;subst hr;obtain⟨m5,hn5,_⟩:=I5.loc;rw[een]at hn5
    have fr5:H4 HH.objs.size=none:=by have:=I5.free;rw[een]at this;exact this
    rw[<- hX]at I5;exact hR _ _ _ m5 H4 hn5 (J7f I2 f2 hCle I5 (Heap.SameBut.refl ..)) qn (I2.fpOk hCle fr5)
  . have ti:=T.item X' eP ew eK ec i [] s4 _ H4 (notedBy (model X.prog X.w) X.A (compEnvC scope (clo X.env scope.names []) HH.objs.size X.env) λe s'=>RR (.ref s2.heap.objs.size) HH.objs.size (.error e) s') I4 (stat fr4) st4 go
    rw[eA]at ti;refine thn ti λr s5 ⟨u,hr,h5⟩=>?_;subst hr;refine thn h5 λ_ s6 hq_=>?_;obtain⟨x,H6,I6,r6,y6,st6,fr6⟩:=hq_;have I6':=I6.pinned (stat fr6) (T.obj _ _ st6);have g1:=hg' _ s6 _ H6 x u _ I6' r6 (step x H6 y6);rw[eP,ew,eA,een,ex]at g1;refine Hs g1 (λ_ s7 hq_=>?_) λ_ _ z=>z.elim;obtain⟨σ7,H7,I7,kp7,q7⟩:=hq_;have t1:=ht' _ s7 σ7 H7 _ I7 q7;rw[eP,ew,eA,een,ex]at t1
    have back:∀{H9:Hp}{s9:Shared},Inv X' ([]++Nr fp s6.heap) σ7 H9 s9->Inv X' [] (List.replicate xs.length none++fs.map λj=>σ.getD j none) H9 s9/\tn (i+1) s9.heap/\∀b∈fp,H9 b=none:=λ{H9 s9} I9=>by
     refine⟨I9.unpinned.weak ?_ kp7,T.keep _ _ _ st6 λb hb o e=>(I9.pin (b,o) (Fv _ (Fv _ (Im hb e)))).1,λb hb=>?_⟩
     . rw[I9.len,I4.len]
     . obtain⟨o,e,d⟩:=T.obj _ _ st6 b hb
       exact(I9.pin (b,o) (Fv _ (Fv _ (Im hb e)))).2.1
    refine Hs t1 (λok s8 ⟨H8,I8,q8⟩=>?_) λ_ _ z=>z.elim
    cases ok with
    | false=>
     rw[if_neg FF]at q8 ⊢;obtain⟨m',hm,w8⟩:=q8;obtain⟨b1,b2,b3⟩:=back I8;exact⟨m',hm,i+1,ys,H8,b1,b2,b3,w8⟩
    | true=>
     rw[if_pos rfl]at q8 ⊢;have e1:=he' _ s8 σ7 H8 _ I8 q8;rw[eP,ew,eA,een,ex]at e1;refine Hs e1 (λuy s9 hq_=>?_) λ_ _ z=>z.elim;obtain⟨y,H9,I9,r9,hD9,hz,m',hm,w9⟩:=hq_;have a1:=Bq (X:=X') (pins:=[]++Nr fp s6.heap) (s:=s9) (σ:=σ7) (H:=H9) (x:= .ref s2.heap.objs.size) (xs:=[y]) (v:= .ref s2.heap.objs.size) (us:=[uy]) (Q:=λ_ H'=>H'=upd H9 s2.heap.objs.size (.lst (ys++[y]))) I9 rfl (.cons r9 .nil) ⟨_,ys,y,rfl,rfl,hD9,hz,rfl⟩;rw[eP,ew,eA,ex]at a1;refine Hs a1 (λ_ s10 hq_=>?_) λ_ _ z=>z.elim;obtain⟨_,H10,I10,_,e10⟩:=hq_;subst e10;obtain⟨b1,b2,b3⟩:=back I10;exact⟨m',hm,i+1,_,_,b1,b2,b3,w9⟩
 exact codeAny_compStart_list (loop _ rfl) (T.self _ 0 _ _ _ st1 (loop _ rfl))
theorem Mz(hc:X.calm=true)(hok:Cg X.N X.env.scope scope xs fs=true)(hi:PI X tg iter wi)
 (hg:∀b,PG (X.blk scope (xs++around X.N fs) b) tg (g b)) (ht:∀b,PTs (X.blk scope (xs++around X.N fs) b) ifs (tt b)) (he:∀b,PE (X.blk scope (xs++around X.N fs) b) elt (te b))
 (hs:∀x,foldedSetIterable iter X.env x=pure x:=by intro _;rfl):
 PE X (.ListComp elt [⟨tg,iter,ifs,0⟩] scope pos) (S6 wi xs.length fs g tt te):=by
 intro pins s σ H Q I h;have O:=Dw hok;rw[eval_ListComp];refine wpAny_comprehension_free (use:=none) rfl hs (Oh λy hy hf=>I.ok.has _ (O.free y hy hf)) O.kind O.names (thn (hi pins s σ H _ I h) λv s1 h1=>thn h1 λitv s2 h2=>?_)
 exact Uu (RR:=λacc C=>compPost (model X.prog X.w) X.A X.xe none (EP X pins σ Q) acc C) hc O hg ht he h2 λD C s' m H' hn I' q F=>⟨m,hn,λh2 sb=>⟨.ref D,H',S7 I' F sb,rfl,q⟩⟩
theorem N0{y:Str}{py:Pos}{i:Nat}(hN:X.N.Nodup)(hy:X.N[i]?=some y)(hyl:X.env.kindOf y=some .local)(hc:X.calm=true)(hok:Cg X.N X.env.scope scope xs fs=true)(hi:PI X tg iter wi)
 (hg:∀b,PG (X.blk scope (xs++around X.N fs) b) tg (g b)) (ht:∀b,PTs (X.blk scope (xs++around X.N fs) b) ifs (tt b)) (he:∀b,PE (X.blk scope (xs++around X.N fs) b) elt (te b)) {spos:Pos}
 (hsw:swapsWith (.ListComp elt [⟨tg,iter,ifs,0⟩] scope pos) (some (.Name y py)) spos.line X.env=pure true:=by rfl)
 (hs:∀x,foldedSetIterable iter X.env x=pure x:=by intro _;rfl):
 PS X (.Assign [.Name y py] (.ListComp elt [⟨tg,iter,ifs,0⟩] scope pos) spos) (Sz (S6 wi xs.length fs g tt te) (By i)):=by
 intro pins s σ H D I h;have O:=Dw hok;rw[exec_Assign_Name_used _ _ _ _ hsw];refine Fu (wpAny_standAt (Fu ?_));show wpAny _ X.A (do let _ <- comprehension (.ListComp elt [⟨tg,iter,ifs,0⟩] scope pos) scope X.env _ (newList []) false (eval iter X.env) (some (assign (.Name y py) X.env))) _ _ s
 refine Fu (Hs (wpAny_comprehension_free (use:=some (assign (.Name y py) X.env)) (Q:=λ_ s'=>SP X pins D .next s') rfl hs (Oh λy hy hf=>I.ok.has _ (O.free y hy hf)) O.kind O.names
  (thn (hi pins s σ H _ I h) λv s1 h1=>thn h1 λitv s2 h2=>?_)) (λ_ s' hq=>FX (FX hq)) λ_ _ e=>e)
 refine Uu (RR:=λacc C=>compPost (model X.prog X.w) X.A X.xe (some (assign (.Name y py) X.env)) (λ_ s'=>SP X pins D .next s') acc C) hc O hg ht he h2 λD' C s' m H' hn I0 q0 F=>?_;show wpAny _ X.A (assign (.Name y py) X.env (.ref D')) _ _ _;refine wpAny_assign_Name (Qs I0 hN hy (.inl hyl) (v:= .ref D') rfl (λs3 I3 hsb=>?_) (.inr hyl));obtain⟨a,sb3,ha⟩:=hsb
 have haC:C≠a:=by
  rcases ha with rfl | ha
  . exact F.2.1
  . exact(F.2.2.2.2.1 y a ha).symm
 exact⟨m,hn.sameBut sb3 haC,λh4 sb4=>⟨_,H',S7 I3 F sb4,q0⟩⟩
end
def Its(z:Str):It:=⟨λi _=>i < z.cps.size,λi H x H'=>H'=H/\∃c,z.cps[i]?=some c/\x= .str ⟨#[c]⟩,λi _=>z.cps.size<=i⟩
def Jcj(tl:TE):TI:=λσ H R=>tl σ H λx H1=>∃z,x= .str z/\R (Its z) H1
section
variable {P:Program}{w:World}{K:PySem.W.Frag}{tg:Expr}
theorem J3z(ty:String)(hty:ty="str_ascii_iterator"\/ty="str_iterator")(z:Str)(t:Tok)(it:Addr):J0z P w K tg (Its z) [it] it (λi h=>i<=z.cps.size/\h.IsStrIter it ty z t i) where
 mem:=by simp
 obj:=λi h st b hb=>by
  have e:b=it:=by simpa using hb
  subst e;obtain⟨o,e,c,d⟩:=st.2;exact⟨o,e,λv z=>by rw[d]at z;cases z⟩
 keep:=λi h h' st k=>⟨st.1,by obtain⟨o,e,r⟩:=st.2;exact⟨o,k it (by simp) o e,r⟩⟩
 item:=by
  intro X hP hw hK hc i pins s σ H E I hf st hg;subst hP hw hK;obtain⟨f0,f1,f2,f3,f4,f5⟩:=hf it (by simp)
  have W:Walks X.prog X.w X.A it [it] [it] z.cps.size (SignAt z) (λi h=>h.IsStrIter it ty z t i):=by
   rcases hty with rfl | rfl
   . exact Walks.strAscii (I.ok.hd hc) it z t
   . exact Walks.strWide (I.ok.hd hc) it z t
  refine W.item i s _ _ hg st.2 λv h' tk hv st' kk=>?_;obtain⟨c,u,hcc,rfl⟩:=hv;have I1:Inv X pins σ H {s with heap:=h',toks:=tk}:=I.turned (λb o hb e=>kk b o (by simpa using hb) e) f0 f1 f3 f4 f5;obtain⟨o,e,cc,d⟩:=id st'
  refine⟨_,rfl,J2i (s:={s with heap:=h',toks:=tk}) (n:=ty) e cc d (by rcases hty with rfl | rfl <;> decide) ⟨.str ⟨#[c]⟩,H,I1,⟨u,rfl⟩,⟨rfl,c,hcc,rfl⟩,⟨hg,st'⟩,λb hb=>(hf b hb).1⟩⟩
 done:=by
   intro X hP hw hK hc i pins s σ H E I hf st hg;subst hP hw hK;obtain⟨f0,f1,f2,f3,f4,f5⟩:=hf it (by simp)
   have W:Walks X.prog X.w X.A it [it] [it] z.cps.size (SignAt z) (λi h=>h.IsStrIter it ty z t i):=by
    rcases hty with rfl | rfl
    . exact Walks.strAscii (I.ok.hd hc) it z t
    . exact Walks.strWide (I.ok.hd hc) it z t
   have hi:i=z.cps.size:=Nat.le_antisymm st.1 hg;subst hi
   exact W.done s _ _ st.2 λh' tk kk=>⟨rfl,I.turned (λb o hb e=>kk b o (by simpa using hb) e) f0 f1 f3 f4 f5⟩
 self:=λ_ _ _ _ _ st h=>by
  rcases hty with rfl | rfl
  . exact wpAny_pyIter_striter_ascii st.2 h
  . exact wpAny_pyIter_striter_wide st.2 h
end
section
variable {X:Cx}{tg:Expr}
theorem Jaq{l:Expr}{tl:TE}(hl:PE X l tl):PI X tg l (Jcj tl):=by
 intro pins s σ H R I h;refine thn (hl pins s σ H _ I h) λv s1 hq_=>?_;obtain⟨x,H1,I1,r1,q1⟩:=hq_;obtain⟨z,e,q⟩:=q1;subst e;obtain⟨t,rfl⟩:=r1
 have fin:∀ty,(ty="str_ascii_iterator"\/ty="str_iterator")->PIE X pins σ tg R (.ref s1.heap.objs.size) {s1 with heap:=s1.heap.push {cls:= .type ty,data:= .fields #[.str z t,.int 0 0]}}:=λty hty=>by
  refine⟨s1.heap.objs.size,[s1.heap.objs.size],_,_,H1,rfl,I1.kept (t':=s1.toks) λb o e=>Fm _ e,J3z ty hty z t _,⟨FM _,_,FK _ rfl,rfl,rfl⟩,λb hb=>?_,q⟩
  have e:b=s1.heap.objs.size:=by simpa using hb
  subst e;exact I1.fpOk (Fg _) I1.fresh
 cases ha:z.cps.all (· < 128)
 . exact wpAny_pyIter_wide ha (fin _ (.inr rfl))
 . exact wpAny_pyIter_ascii ha (fin _ (.inl rfl))
def Jck:V->Option Int->Option Int->Hp->VK->Prop:=λx lo hi H Q=>∃z,x= .str z/\z.length<=sizeLine/\Q (.str (Txt.slice z lo hi)) H
theorem Jar:SlR X Jck:=by
 intro pins s σ H x v vl vu lo hi sl Q I rx hs pl pu h;obtain⟨z,rfl,hz,q⟩:=h;obtain⟨t,rfl⟩:=rx;obtain⟨o,ho,hc,hd⟩:=hs;refine⟨"str",_,F.slot_str_getitem.lookup,typeIs_str _ _ _,?_⟩
 have fin:∀(l u:Option (Int×Tok)),s.heap.IsSlice sl l u none->l.map (·.1)=lo->u.map (·.1)=hi->wpAny (model X.prog X.w) X.A (getItem (.str z t) (.ref sl)) (EP X pins σ Q) X.xe s:=λl u hsl hl hu=>by
  subst hl hu;exact wpAny_getItem_str_slice (l:=l) (u:=u) (st:=none) hsl rfl (post_val_or_str ⟨FO (Txt.slice_le z _ _) hz,λt' k=>⟨.str _,H,I.tok k,⟨t',rfl⟩,q⟩⟩)
 cases pl <;> cases pu
 . exact fin none none ⟨o,ho,hc,hd⟩ rfl rfl
 . exact fin none (some (_,_)) ⟨o,ho,hc,hd⟩ rfl rfl
 . exact fin (some (_,_)) none ⟨o,ho,hc,hd⟩ rfl rfl
 . exact fin (some (_,_)) (some (_,_)) ⟨o,ho,hc,hd⟩ rfl rfl
def Jcl(K:PySem.W.Frag):List V->Hp->VK->Prop:=λxs H Q=>∃(p:Addr) (bs:List Bool),xs=[.ref p]/\SqL K H p (bs.map V.bl)/\Q (.bl (bs.all id)) H
theorem J40(hc:X.calm=true):Gj X (.builtin "all") (Jcl X.K):=by
 intro pins s σ H xs us Q I r h;obtain⟨p,bs,rfl,hp,q⟩:=h;obtain⟨u,rfl,ru⟩:=Mm r;cases ru;obtain⟨its,r,pl,hz⟩:=I.list hp
 have hlt:p < s.heap.objs.size:=by obtain⟨o,n,e,_⟩:=pl;exact Fq e
 refine call_all_walk (RW pl.isList ⟨s.heap.objs.size,_,_,_,_,_,λi=>bs.getD i true,rfl,Walks.list (show X.A.in1.handled=none from I.ok.hd hc) s.heap.objs.size p (FB hlt) its.toArray,⟨⟨_,FK _ rfl,rfl,rfl⟩,pl.isList.push _⟩,?_,λh' tk kk=>?_⟩)
 . intro i v s' Q' E' hP hQ'
   have hP:its.toArray[i]?=some v:=hP;have hlen:=r.length;rw[Fa]at hlen
   have hi:i < bs.length:=by
    have:=(Array.getElem?_eq_some_iff.mp hP).1;rw[Fn]at this;omega
   obtain⟨u,hu,ru⟩:=r.get (i:=i) (x:=V.bl (bs[i])) (by simp[hi])
   have e:u=v:=by
    have:its[i]?=some v:=by simpa using hP
    rw[hu]at this;exact FG this
   subst e;cases ru;dsimp only at hQ';rw[Fc,Fb hi]at hQ';exact FX hQ'
 . refine⟨.bl _,H,I.kept (t':=tk) λb o e=>kk b o ?_ (Fm _ e),rfl,?_⟩
   . simpa using FB (Fq e)
   . have hlen:=r.length
     rw[Fa]at hlen
     have:((List.range its.toArray.size).all λi=>bs.getD i true)=bs.all id:=by
      rw[Fn,<- hlen];rw[RL,Ra,Ra];constructor
      . intro h x hx
        obtain⟨i,hi,rfl⟩:=List.mem_iff_getElem.mp hx;have:=h i (by simpa using hi)
        simpa [Fc,Fb hi] using this
      . intro h i hi
        have hi:i < bs.length:=by simpa using hi
        rw[Fc,Fb hi];exact h _ (Hr hi)
     rw[this];exact q
end
abbrev TJ:=Str->St->Hp->(Str->Hp->Prop)->Prop
abbrev X8(wi:TI)(fs:List Nat)(te:Blk->TE):TE:=S6 wi 1 fs (λ_=>By 0) (λ_=>Do) te
section
variable {X:Cx}{scope:Scope}{x:Str}{px:Pos}{fs:List Nat}{elt iter:Expr}{pos:Pos}{wi:TI}{te:Blk->TE}
theorem Tg(hok:Cg X.N X.env.scope scope [x] fs=true)(b:Blk):PG (X.blk scope ([x]++around X.N fs) b) (.Name x px) (By 0):=
 Ay (Dw hok).nd rfl (.inl (FY ((Dw hok).own x (by simp)))) (.inr (FY ((Dw hok).own x (by simp))))
theorem Gp(x:Str)(fs:List Nat)(hc:X.calm=true)(hok:Cg X.N X.env.scope scope [x] fs=true)(hi:PI X (.Name x px) iter wi)(he:∀b,PE (X.blk scope ([x]++around X.N fs) b) elt (te b))
 (hs:∀x,foldedSetIterable iter X.env x=pure x:=by intro _;rfl):PE X (.ListComp elt [⟨.Name x px,iter,[],0⟩] scope pos) (X8 wi fs te):=
 Mz (xs:=[x]) (g:=λ_=>By 0) (tt:=λ_=>Do) hc hok hi (Tg hok) (λ_=>My) he hs
theorem J41{y:Str}{py:Pos}{i:Nat}{spos:Pos}(x:Str)(fs:List Nat)(hN:X.N.Nodup)(hy:X.N[i]?=some y)(hyl:X.env.kindOf y=some .local)(hc:X.calm=true)(hok:Cg X.N X.env.scope scope [x] fs=true)(hi:PI X (.Name x px) iter wi)(he:∀b,PE (X.blk scope ([x]++around X.N fs) b) elt (te b))
 (hsw:swapsWith (.ListComp elt [⟨.Name x px,iter,[],0⟩] scope pos) (some (.Name y py)) spos.line X.env=pure true:=by rfl)
 (hs:∀x,foldedSetIterable iter X.env x=pure x:=by intro _;rfl):PS X (.Assign [.Name y py] (.ListComp elt [⟨.Name x px,iter,[],0⟩] scope pos) spos) (Sz (X8 wi fs te) (By i)):=
 N0 (xs:=[x]) (g:=λ_=>By 0) (tt:=λ_=>Do) hN hy hyl hc hok hi (Tg hok) (λ_=>My) he hsw hs
end
theorem J9b{x:Option V}{r:St}:J7g (none::r) (x::r):=λi v e=>by
 cases i with
 | zero=>cases e
 | succ i=>exact e
section
variable {K:PySem.W.Frag}{tail:St}{te:Blk->TE}{Q:VK}{H1:Hp}
def Uv(D:Addr)(n i:Nat)(ys:List V)(Pv:Nat->List V->Hp->Prop):VK:=λy H4=>H4 D=some (.lst ys)/\ys.length < sizeLine/\∃m',m' < n - i/\(m'=n - (i+1)/\i+1<=n/\Pv (i+1) (ys++[y]) (upd H4 D (.lst (ys++[y]))))
theorem Gq{D:Addr}{n i:Nat}{ys:List V}{Pv:Nat->List V->Hp->Prop}{y:V}{H4:Hp}(h1:H4 D=some (.lst ys))(h2:ys.length < sizeLine)(h3:i < n)(h4:Pv (i+1) (ys++[y]) (upd H4 D (.lst (ys++[y])))):Uv D n i ys Pv y H4:=
 ⟨h1,h2,n - (i+1),by omega,rfl,h3,h4⟩
theorem La{J:It}(n:Nat)
 (h:∀(b:Blk) (D:Addr),H1 D=none->∃Pv:Nat->List V->Hp->Prop,Pv 0 [] (upd H1 D (.lst []))/\(∀i ys H,Pv i ys H->H D=some (.lst ys))/\(∀ys H,Pv n ys H->J.stop n H/\Q (.ref D) H)/\
  ∀i ys H,i < n->Pv i ys H->J.go i H/\∀x H3,J.yld i H x H3->te b (some x::tail) H3 (Uv D n i ys Pv)):Bi (none::tail) (λ_=>By 0) (λ_=>Do) te Q J H1:=by
 intro b D hD;obtain⟨Pv,p0,p1,p2,p3⟩:=h b D hD;refine⟨λi m ys H=>m=n - i/\i<=n/\Pv i ys H,⟨n,rfl,FM _,p0⟩,?_⟩;rintro i m ys H ⟨rfl,hi,p⟩;refine⟨p1 i ys H p,?_⟩
 by_cases hlt:i < n
 . obtain⟨go,st⟩:=p3 i ys H hlt p
   refine .inr ⟨go,λx H3 y=>⟨J9b,?_⟩⟩;exact st x H3 y
 . have e:i=n:=by omega
   subst e;exact .inl (p2 ys H p)
theorem Bj{D:Addr}{o:HO}(h:H1 D=none):A7 H1 (upd H1 D o):=λb u e=>by rw[A2 (Ac e h)];exact e
theorem X9{z:Str}(f:Nat->V)(hz:z.cps.size<=sizeLine)(he:∀b c H Q',c∈z.cps.toList->A7 H1 H->Q' (f c) H->te b (some (.str ⟨#[c]⟩)::tail) H Q')
 (q:∀D,H1 D=none->Q (.ref D) (upd H1 D (.lst (z.cps.toList.map f)))):Bi (none::tail) (λ_=>By 0) (λ_=>Do) te Q (Its z) H1:=by
 refine La z.cps.size (λb D hD=>⟨λi ys H=>i<=z.cps.size/\ys=(z.cps.toList.take i).map f/\H=upd H1 D (.lst ys),⟨FM _,rfl,rfl⟩,?_,?_,?_⟩)
 . rintro i ys H ⟨hi,rfl,rfl⟩
   exact A1
 . rintro ys H ⟨_,rfl,rfl⟩
   refine⟨Fg _,?_⟩;have e:z.cps.toList.take z.cps.size=z.cps.toList:=Ho (by simp);rw[e];exact q D hD
 . rintro i ys H hi ⟨_,rfl,rfl⟩
   refine⟨hi,λx H3 ⟨e3,c,hc,ex⟩=>?_⟩;subst e3 ex
   have hc':z.cps.toList[i]?=some c:=by simpa using hc
   refine he b c _ _ (Ff hc') (Bj hD) (Gq A1 (by rw[Fa,Hl,RN];omega) hi ⟨hi,?_,?_⟩)
   . rw[Ha,hc'];simp
   . funext a;by_cases ha:a=D <;> simp[upd,ha]
theorem Xa{a:Addr}(f:V->V)(hS:SqL K H1 a xs)(hz:xs.length<=sizeLine)(he:∀b x H Q',x∈xs->A7 H1 H->Q' (f x) H->te b (some x::tail) H Q')
 (q:∀D,H1 D=none->Q (.ref D) (upd H1 D (.lst (xs.map f)))):Bi (none::tail) (λ_=>By 0) (λ_=>Do) te Q (Itl K a) H1:=by
 refine La xs.length (λb D hD=>⟨λi ys H=>i<=xs.length/\ys=(xs.take i).map f/\H=upd H1 D (.lst ys),⟨FM _,rfl,rfl⟩,?_,?_,?_⟩)
 . rintro i ys H ⟨hi,rfl,rfl⟩
   exact A1
 . rintro ys H ⟨_,rfl,rfl⟩
   refine⟨⟨xs,(Bj hD).seq hS,Fg _⟩,?_⟩;rw[HU];exact q D hD
 . rintro i ys H hi ⟨_,rfl,rfl⟩
   refine⟨⟨xs,xs[i],(Bj hD).seq hS,by simp[hi]⟩,λx H3 ⟨e3,ex⟩=>?_⟩;subst e3;have hc':=ex xs ((Bj hD).seq hS);refine he b x _ _ (Ff hc') (Bj hD) (Gq A1 (by rw[Fa,Hl];omega) hi ⟨hi,?_,?_⟩)
   . rw[Ha,hc'];simp
   . funext a;by_cases ha:a=D <;> simp[upd,ha]
theorem Xb{lo:Int}{n:Nat}(f:Int->V)(hz:n<=sizeLine)(he:∀b (i:Nat) H Q',i < n->A7 H1 H->Q' (f (lo+i)) H->te b (some (.int (lo+i))::tail) H Q')
 (q:∀D,H1 D=none->Q (.ref D) (upd H1 D (.lst ((List.range n).map λ(i:Nat)=>f (lo+(i:Int)))))):Bi (none::tail) (λ_=>By 0) (λ_=>Do) te Q (Itr lo n) H1:=by
 refine La n (λb D hD=>⟨λi ys H=>i<=n/\ys=(List.range i).map (λ(i:Nat)=>f (lo+(i:Int)))/\H=upd H1 D (.lst ys),⟨FM _,rfl,rfl⟩,?_,?_,?_⟩)
 . rintro i ys H ⟨hi,rfl,rfl⟩
   exact A1
 . rintro ys H ⟨_,rfl,rfl⟩
   exact⟨Fg _,q D hD⟩
 . rintro i ys H hi ⟨_,rfl,rfl⟩
   refine⟨hi,λx H3 ⟨e3,ex⟩=>?_⟩;subst e3 ex;refine he b i _ _ hi (Bj hD) (Gq A1 (by rw[Fa,Fw];omega) hi ⟨hi,?_,?_⟩)
   . rw[Hj];simp
   . funext a;by_cases ha:a=D <;> simp[upd,ha]
end
section
variable {σ:St}{H:Hp}{Q:VK}{D:Kl}{K:PySem.W.Frag}
theorem Yp{fs:List Nat}{te:Blk->TE}:X8 wi fs te σ H Q=wi σ H (Bi (none::fs.map λj=>σ.getD j none) (λ_=>By 0) (λ_=>Do) te Q):=rfl
theorem Yq{tl:TE}{R:It->Hp->Prop}:Jcj tl σ H R=tl σ H λx H1=>∃z,x= .str z/\R (Its z) H1:=rfl
theorem J9c{r:V->Option Int->Option Int->Hp->VK->Prop}{tl th:TO}:tSl r te tl th σ H Q=te σ H λx H1=>tl σ H1 λl H2=>th σ H2 λu H3=>r x l u H3 Q:=rfl
theorem S8{QO:Option Int->Hp->Prop}:Y4 σ H QO=QO none H:=rfl
theorem Yr{t:TE}{QO:Option Int->Hp->Prop}:J8x t σ H QO=t σ H λx H1=>∃i,x= .int i/\QO (some i) H1:=rfl
theorem J42{x:V}{lo hi:Option Int}:Jck x lo hi H Q=∃z,x= .str z/\z.length<=sizeLine/\Q (.str (Txt.slice z lo hi)) H:=rfl
theorem J43{x:V}{lo hi:Option Int}:Jc7 K x lo hi H Q=∃a xs,x= .ref a/\SqL K H a xs/\∀p,H p=none->Q (.ref p) (upd H p (.lst (Oo xs lo hi))):=rfl
theorem J9d{T:String}{r:V->List V->Hp->VK->Prop}{to:TE}{t:TA}:tBM K T r to t σ H Q=to σ H λx H1=>tyV K T x H1/\t σ H1 λxs H2=>r x xs H2 Q:=rfl
theorem J44{T:String}{r:V->List V->Hp->VK->Prop}{to:TE}:Jc8 K T r to σ H Q=to σ H λx H1=>tyV K T x H1/\r x [] H1 Q:=rfl
theorem Ys{z:Str}:tyV K "str" (.str z) H=True:=eq_true rfl
theorem J45:Jcl K xs H Q=∃(p:Addr) (bs:List Bool),xs=[.ref p]/\SqL K H p (bs.map V.bl)/\Q (.bl (bs.all id)) H:=rfl
theorem Uw:J35 σ H Q=∀p,H p=none->Q (.ref p) (upd H p (.dK [])):=rfl
theorem Pu{z:Str}{i:Int}{c:Nat}(hz:z.length<=sizeLine)(e:atI z.cps.toList i=some c)(q:Q (.str ⟨#[c]⟩) H):Jc6 (.str z) (.int i) H Q:=⟨z,i,c,rfl,rfl,hz,e,q⟩
theorem J9e{scope:Scope}{N':List Str}{b:Blk}:(X.blk scope N' b).K=X.K:=rfl
end
section
variable {X:Cx}{x:Str}{pos:Pos}
theorem Iu{i:Int}(hg:Gl X x)(hm:∃t,X.mg x=some (.int i t))(hd:(x==("__debug__":Str))=false:=by decide):PE X (.Name x pos) (tC (.int i)):=by
 obtain⟨t,hm⟩:=hm;exact Dz hg hm ⟨t,rfl⟩ hd
theorem Ti{z:Str}(hg:Gl X x)(hm:∃t,X.mg x=some (.str z t))(hd:(x==("__debug__":Str))=false:=by decide):PE X (.Name x pos) (tC (.str z)):=by
 obtain⟨t,hm⟩:=hm;exact Dz hg hm ⟨t,rfl⟩ hd
end
theorem Eo:sizeLine=16777216:=by decide
theorem Yt{a b:Str}:(a++b).length=a.length+b.length:=strLen_append a b
theorem J7h{c:Nat}:(⟨#[c]⟩:Str).length=1:=rfl
theorem Tj{z:Str}:z.cps.toList.length=z.length:=by simp[Str.length]
theorem Ux{a b:Str}:(a++b).cps.toList=a.cps.toList++b.cps.toList:=by
 show (a.cps++b.cps).toList=_;simp
theorem J1g{K:PySem.W.Frag}{H:Hp}{a:Addr}{ns:List Int}{R:List Int->Prop}(h:SqL K H a (ns.map V.int))(hl:ns.length<=63)(q:R ns):∃x:List Int,SqL K H a (x.map V.int)/\x.length<=63/\R x:=⟨ns,h,hl,q⟩
def Jas(z y:Str):Bool:=!(Builtin.Str.occurrences z y 0 z.length 1).isEmpty
theorem Uy{z:Str}{c:Nat}:Jas z ⟨#[c]⟩=decide (c∈z.cps.toList):=StrLaws.found_one z c
def Jcm:R2:=λx y H Q=>∃i j,x= .str i/\y= .str j/\Q (.bl (Jas j i)) H
theorem J46:OpR X (compareOp .In) Jcm:=J14
theorem J47{x y:V}{H:Hp}:Jcm x y H Q=∃i j,x= .str i/\y= .str j/\Q (.bl (Jas j i)) H:=rfl
theorem Jdc{c:α}{r:List α}:atI (c::r) 0=some c:=X7 (by decide) rfl
def Ks(xs ys:List V):Bool:=match xs,ys with
 | [],[]=>true
 | x::xs,y::ys=>eqV x y && Ks xs ys
 | _,_=>false
theorem Ep:∀{xs ys:List V},xs.length≠ys.length->Ks xs ys=false
 | [],[],h=>absurd rfl h
 | [],_::_,_=>rfl
 | _::_,[],_=>rfl
 | x::xs,y::ys,h=>by
  unfold Ks;rw[Ep (λe=>h (by simp[e])),Bool.and_false]
theorem Er:∀{xs ys:List V},xs.length=ys.length->Ks xs ys=(List.range xs.length).all λi=>eqV (xs.getD i .non) (ys.getD i .non)
 | [],[],_=>rfl
 | [],_::_,h=>by cases h
 | _::_,[],h=>by cases h
 | x::xs,y::ys,h=>by
  unfold Ks;rw[Er (by simpa using h),List.length_cons,RB,List.all_cons,List.all_map];rfl
theorem Yu{x y:Str}:eqV (.str x) (.str y)=decide (x=y):=rfl
theorem Oi:∀{xs ys:List Str},Ks (xs.map V.str) (ys.map V.str)=decide (xs=ys)
 | [],[]=>rfl
 | [],_::_=>rfl
 | _::_,[]=>rfl
 | x::xs,y::ys=>by
  show (eqV (.str x) (.str y) && Ks (xs.map V.str) (ys.map V.str))=_;rw[Oi,Yu]
  by_cases h:x=y
  . subst h;simp
  . simp[h]
def EqQ(K:PySem.W.Frag)(H:Hp)(x y:V)(r:Bool):Prop:=∃a b xs ys,x= .ref a/\y= .ref b/\((SqL K H a xs/\SqL K H b ys)\/(SqT K H a xs/\SqT K H b ys))/\xs.all Em=true/\ys.all Em=true/\r=Ks xs ys
section
variable {X:Cx}{pins:List (Addr×Obj)}{σ:St}{H:Hp}{s:Shared}
theorem Iv{ys:List V}{ws:List Value}{A:Around}(rx:B3 xs us)(ry:B3 ys ws)(fx:xs.all Em=true)(fy:ys.all Em=true):
 ∀j (h1:j < us.toArray.size) (h2:j < ws.toArray.size),SeqAt.EqAt A s us.toArray[j] ws.toArray[j] (eqV (xs.getD j .non) (ys.getD j .non)):=by
 intro j h1 h2;have lx:=rx.length;have ly:=ry.length;rw[Fn]at h1 h2
 have hx:j < xs.length:=by omega
 have hy:j < ys.length:=by omega
 obtain⟨u,hu,ru⟩:=rx.get (i:=j) (x:=xs[j]) (by simp[hx]);obtain⟨w,hw,rw'⟩:=ry.get (i:=j) (x:=ys[j]) (by simp[hy])
 have eu:us.toArray[j]=u:=by
  have:=Fb h1;rw[this]at hu
  simpa using hu
 have ew:ws.toArray[j]=w:=by
  have:=Fb h2;rw[this]at hw
  simpa using hw
 rw[eu,ew,Fc,Fc,Fb hx,Fb hy];exact J2x ru rw' (Ra.mp fx _ (Hr hx)) (Ra.mp fy _ (Hr hy))
theorem Jat{x y:V}{u v:Value}{r:Bool}{A:Around}(I:Inv X pins σ H s)(rx:B1 x u)(ry:B1 y v)(h:EqQ X.K H x y r)(hu:A.units < cLine):SeqAt.RcAt A s u v r:=by
 obtain⟨a,b,xs,ys,rfl,rfl,hq,fx,fy,rfl⟩:=h;cases rx;cases ry;rcases hq with ⟨h1,h2⟩ | ⟨h1,h2⟩
 . obtain⟨us,r1,p1,z1⟩:=I.list h1
   obtain⟨ws,r2,p2,z2⟩:=I.list h2;have lx:=r1.length;have ly:=r2.length
   by_cases hl:xs.length=ys.length
   . rw[Er hl]
     have:=SeqAt.RcAt.lists p1.isList p2.isList (by simp;omega) hu (Iv r1 r2 fx fy);rw[Fn,<- lx]at this;exact this
   . rw[Ep hl]
     exact SeqAt.RcAt.lists_lengths p1.isList p2.isList (by simp;omega) hu
 . obtain⟨us,r1,p1,z1⟩:=I.tuple h1
   obtain⟨ws,r2,p2,z2⟩:=I.tuple h2;have lx:=r1.length;have ly:=r2.length;have:=SeqAt.RcAt.tuples (show s.heap.IsTuple a us.toArray from p1) (show s.heap.IsTuple b ws.toArray from p2) hu (Iv r1 r2 fx fy);rw[Fn,Fn,<- lx,<- ly]at this
   by_cases hl:xs.length=ys.length
   . rw[Er hl]
     rw[hl,Nat.min_self,Jl,Bool.and_true]at this;rw[hl];exact this
   . rw[Ep hl]
     rw[HP.mpr hl,Bool.and_false]at this;exact this
theorem Jau{x y:V}{u v:Value}{r:Bool}{A:Around}(I:Inv X pins σ H s)(rx:B1 x u)(ry:B1 y v)(h:EqQ X.K H x y r)(hu:A.units < cLine):SeqAt.RcNeAt A s u v (!r):=by
 obtain⟨a,b,xs,ys,rfl,rfl,hq,fx,fy,rfl⟩:=h;cases rx;cases ry;rcases hq with ⟨h1,h2⟩ | ⟨h1,h2⟩
 . obtain⟨us,r1,p1,z1⟩:=I.list h1
   obtain⟨ws,r2,p2,z2⟩:=I.list h2;have lx:=r1.length;have ly:=r2.length
   by_cases hl:xs.length=ys.length
   . rw[Er hl]
     have:=SeqAt.RcNeAt.lists p1.isList p2.isList (by simp;omega) hu (Iv r1 r2 fx fy);rw[Fn,<- lx]at this;exact this
   . rw[Ep hl]
     exact SeqAt.RcNeAt.lists_lengths p1.isList p2.isList (by simp;omega) hu
 . obtain⟨us,r1,p1,z1⟩:=I.tuple h1
   obtain⟨ws,r2,p2,z2⟩:=I.tuple h2;have lx:=r1.length;have ly:=r2.length;have:=SeqAt.RcNeAt.tuples (show s.heap.IsTuple a us.toArray from p1) (show s.heap.IsTuple b ws.toArray from p2) hu (Iv r1 r2 fx fy);rw[Fn,Fn,<- lx,<- ly]at this
   by_cases hl:xs.length=ys.length
   . rw[Er hl]
     rw[hl,Nat.min_self,Jl,Bool.and_true]at this;rw[hl];exact this
   . rw[Ep hl]
     rw[HP.mpr hl,Bool.and_false]at this;exact this
def Jcn(K:PySem.W.Frag):R2:=λx y H Q=>∃r,EqQ K H x y r/\Q (.bl r) H
def Jco(K:PySem.W.Frag):R2:=λx y H Q=>∃r,EqQ K H x y r/\Q (.bl (!r)) H
theorem J48{k:Nat}(hr:Bz k X.A):OpR X (compareOp .Eq) (Jcn X.K):=by
 intro pins s σ H x y v u Q I rx ry h;obtain⟨r,e,q⟩:=h;exact Jat I rx ry e (HY (by omega) hr.un) X.prog X.w X.xe _ ⟨.bl r,H,I,rfl,q⟩
theorem Jav{k:Nat}(hr:Bz k X.A):OpR X (compareOp .NotEq) (Jco X.K):=by
 intro pins s σ H x y v u Q I rx ry h;obtain⟨r,e,q⟩:=h;exact Jau I rx ry e (HY (by omega) hr.un) X.prog X.w X.xe _ ⟨.bl (!r),H,I,rfl,q⟩
end
section
variable {K:PySem.W.Frag}{H:Hp}{Q:VK}{x y:V}
theorem J49:Jcn K x y H Q=∃r,EqQ K H x y r/\Q (.bl r) H:=rfl
theorem J4a:Jco K x y H Q=∃r,EqQ K H x y r/\Q (.bl (!r)) H:=rfl
theorem N2{xs:List Str}:(xs.map V.str).all Em=true:=by
 rw[List.all_map];exact Ra.mpr λ_ _=>rfl
end
structure DefM(P:Program)(w:World)(K:PySem.W.Frag)(mg:Str->Option Value)(base:Heap)(CX:CXT)(k:Nat)(C:Addr)(m:Str)(ps:List Str)(sp:Sp):Prop where
 ex:∃(f:Addr) (fd:FuncData),Al P w K mg base CX k f fd ps sp/\J17 K C m f/\C4 K fd ps []
structure Os(P:Program)(w:World)(K:PySem.W.Frag)(mg:Str->Option Value)(base:Heap)(CX:CXT)(k:Nat)(x:Str)(C:Addr)(ps:List Str)(sp:Sp):Prop where
 ex:∃(f:Addr) (fd:FuncData),Al P w K mg base CX k f fd ps sp/\Mk K C f/\mg x=some (.ref C)/\C4 K fd ps []
def Xc(C:Addr)(m:Str)(sp:Sp)(EE:St->XK)(ta:TE)(t:TA):TE:=λσ H Q=>ta σ H λx H1=>∃a dx fs,x= .ref a/\H1 a=some (.ins C dx fs)/\fs.lookup m=none/\t σ H1 λvs H2=>sp (x::vs) H2 Q (EE σ)
def J4b(C:Addr)(sp:Sp)(EE:St->XK)(t:TA):TE:=λσ H Q=>t σ H λvs H1=>∀x dx,H1 x=none->H1 dx=none->dx≠x->sp (.ref x::vs) (upd (upd H1 dx (.own x)) x (.ins C dx [])) (λv H2=>v= .non/\Q (.ref x) H2) (EE σ)
section
variable {X:Cx}{CX:CXT}{k j:Nat}{f C:Addr}{fd:FuncData}{ps:List Str}{sp:Sp}{EE:St->XK}{E:XK}{x m:Str}{p pos apos:Pos}{e o:Expr}{es:List Expr}{ta:TE}{t:TA}
theorem B4(h:Nw CX X E):Eg CX X λ_=>E:=λpins σ H s e s' I hc=>h pins σ H s e s' I hc
theorem Ox{H:Hp}{s:Shared}{us:List Value}{vs:List V}(F:Al X.prog X.w X.K X.mg X.base CX k f fd ps sp)(hr:Bz k X.A)(hb:C4 X.K fd ps [])(hx:Eg CX X EE)
 (I:Inv X pins σ H s) (r:B3 vs us) (h:sp vs H Q (EE σ)):wpAny (model X.prog X.w) X.A (call (.ref f) us) (EP X pins σ Q) X.xe s:=by
 have hl:us.length=ps.length:=by rw[<- r.length];exact F.len _ _ _ _ h
 have hb':=hb s us I.kIn (by simpa using hl);rw[Hd]at hb';refine RF (Rc (F.run X.A X.stack s H ⟨us,[]⟩ us vs Q (EE σ) hr I.env0 hb' r h) λr s' hq=>?_)
 cases r with
 | error e=>exact hx pins σ H s e s' I hq
 | ok fl=>
  cases fl with
  | ret u=>exact I.after hq
  | next=>exact False.elim hq
  | brk=>exact False.elim hq
  | cont=>exact False.elim hq
theorem B2{pl:Sem Bool}(D:DefM X.prog X.w X.K X.mg X.base CX j C m ps sp)(c:Cls X.K C)(hr:Bz k X.A)(hx:Eg CX X EE)(he:PE X o ta)(ha:PA X (e::es) t)(hj:j<=k:=by decide)
 (hst:starEach (e::es) X.env=(false,eval e X.env)::starEach es X.env:=by rfl) (hpl:(backTo pos (starEach es X.env)).any (·.1)=false:=by rfl)
 (ht:eval (.Call (.Attribute o m apos) (e::es) [] pos) X.env=(do
  let ov <- eval o X.env
  standAt apos.atName
  let (f,first) <- holding [ov] (getMethod ov m pl)
  callWith pos f first (backTo pos (starEach (e::es) X.env)) (backToKw pos (keywordEach [] X.env))):=by rfl):
 PE X (.Call (.Attribute o m apos) (e::es) [] pos) (Xc C m sp EE ta t):=by
 obtain⟨f,fd,F,hm,hb⟩:=D.ex;intro pins s σ H Q I h;refine RC (pl:=pl) (thn (he pins s σ H _ I h) λu s1 hq_=>?_) ht;obtain⟨x,H1,I1,rx,a,dx,fs,ex,ea,l,q⟩:=hq_;subst ex;obtain rfl:u=Value.ref a:=rx;refine Mb I1 ea c hm l ?_;refine HS (first:=[.ref a]) (h₀:=X.base) I.ok.mod.kin hm.kp (thn (ha pos pins s1 σ H1 _ I1 q) λus s2 ⟨vs,H2,I2,r,q2⟩=>⟨I2.kIn,?_⟩) hst hpl;exact Ox (us:= .ref a::us) (vs:= .ref a::vs) (F.mono hj) hr hb hx I2 (.cons rfl r) q2
theorem Gr{pl:Sem Bool}(D:DefM X.prog X.w X.K X.mg X.base CX j C m ps sp)(c:Cls X.K C)(hr:Bz k X.A)(hx:Eg CX X EE)(he:PE X o ta)(hj:j<=k:=by decide)
 (ht:eval (.Call (.Attribute o m apos) [] [] pos) X.env=(do
  let ov <- eval o X.env
  standAt apos.atName
  let (f,first) <- holding [ov] (getMethod ov m pl)
  callWith pos f first (backTo pos (starEach [] X.env)) (backToKw pos (keywordEach [] X.env))):=by rfl):
 PE X (.Call (.Attribute o m apos) [] [] pos) (Xc C m sp EE ta Ja6):=by
 obtain⟨f,fd,F,hm,hb⟩:=D.ex;intro pins s σ H Q I h;refine RC (pl:=pl) (thn (he pins s σ H _ I h) λu s1 hq_=>?_) ht;obtain⟨x,H1,I1,rx,a,dx,fs,ex,ea,l,q⟩:=hq_;subst ex;obtain rfl:u=Value.ref a:=rx;refine Mb I1 ea c hm l ?_;exact PySem.W.callWith_K0 (first:=[.ref a]) I1.kIn hm.kp (Ox (us:=[.ref a]) (vs:=[.ref a]) (F.mono hj) hr hb hx I1 (.cons rfl .nil) q)
theorem Dq(D:Os X.prog X.w X.K X.mg X.base CX j x C ps sp)(hr:Bz k X.A)(hg:Gl X x)(hx:Eg CX X EE)(ha:PA X (e::es) t)(hj:j+1<=k:=by decide)(hdb:(x==("__debug__":Str))=false:=by decide)
 (he:starEach (e::es) X.env=(false,eval e X.env)::starEach es X.env:=by rfl) (hpl:(backTo pos (starEach es X.env)).any (·.1)=false:=by rfl):
 PE X (.Call (.Name x p) (e::es) [] pos) (J4b C sp EE t):=by
 obtain⟨f,fd,F,M,hm,hb⟩:=D.ex;intro pins s0 σ H0 Q I0 h;refine HR (Mj I0 hg hm ?_ hdb);refine HS (h₀:=X.base) I0.ok.mod.kin M.kp (thn (ha pos pins s0 σ H0 _ I0 h) λus s ⟨vs,H,I,r,q⟩=>⟨I.kIn,?_⟩) he hpl;have hq:=q (s.heap.objs.size+1) s.heap.objs.size (I.hok.fresh (Rj _)) (I.hok.fresh (Fg _)) (FB (Hz _));have I2:=Inv.made (C:=C) I;have r2:B3 (V.ref (s.heap.objs.size+1)::vs) (Value.ref (s.heap.objs.size+1)::us):= .cons rfl r
 have hl:(Value.ref (s.heap.objs.size+1)::us).length=ps.length:=by
  rw[<- r2.length];exact F.len _ _ _ _ hq
 have hb':=λs' (h':X.K.In s'.heap)=>hb s' (Value.ref (s.heap.objs.size+1)::us) h' (by simpa using hl);have hr':Bz (j+1) X.A:=hr.mono hj
 refine RF (Ug (f:=f) I.kIn M.makes M.init (Rt.mp M.fn) (Rc (F.run _ X.stack _ _ ⟨Value.ref (s.heap.objs.size+1)::us,[]⟩ (Value.ref (s.heap.objs.size+1)::us) _ _ (EE σ) (hr'.make C us [])
  (I2.env0.make C us []) (by have:=hb' _ I2.kIn;rw[Hd]at this;exact this) r2 hq) λr s' hq'=>?_))
 cases r with
 | error e=>exact hx pins σ _ _ e s' I2 hq'
 | ok fl=>
  cases fl with
  | ret u=>
   obtain⟨v,H',I3,rv,ev,q3⟩:=I2.after hq';subst ev;exact⟨rv,⟨V.ref (s.heap.objs.size+1),H',I3,rfl,q3⟩⟩
  | next=>exact False.elim hq'
  | brk=>exact False.elim hq'
  | cont=>exact False.elim hq'
end
section
variable {σ:St}{H:Hp}{Q:VK}{D:Kl}{K:PySem.W.Frag}
theorem Uz{C:Addr}{m:Str}{sp:Sp}{EE:St->XK}{ta:TE}{t:TA}:Xc C m sp EE ta t σ H Q=ta σ H λx H1=>∃a dx fs,x= .ref a/\H1 a=some (.ins C dx fs)/\fs.lookup m=none/\t σ H1 λvs H2=>sp (x::vs) H2 Q (EE σ):=rfl
theorem V0{C:Addr}{sp:Sp}{EE:St->XK}{t:TA}:J4b C sp EE t σ H Q=t σ H λvs H1=>∀x dx,H1 x=none->H1 dx=none->dx≠x->sp (.ref x::vs) (upd (upd H1 dx (.own x)) x (.ins C dx [])) (λv H2=>v= .non/\Q (.ref x) H2) (EE σ):=rfl
theorem J4c{ta:TE}{f:Str}:Jc0 K ta f σ H Q=ta σ H λx H1=>∃a C dx fs v,x= .ref a/\H1 a=some (.ins C dx fs)/\Cls K C/\Am K C f/\fs.lookup f=some v/\Q v H1:=rfl
theorem Yv{ta tv:TE}{f:Str}:Jc1 K ta tv f D σ H=tv σ H λy H1=>ta σ H1 λx H2=>∃a C dx fs,x= .ref a/\H2 a=some (.ins C dx fs)/\Cls K C/\Am K C f/\fs.length < 1000/\D.nx σ (upd H2 a (.ins C dx (Aa f y fs))):=rfl
theorem J4d{ty:TE}:Jce ty td σ H Q=ty σ H λy H1=>td σ H1 λx H2=>∃a o,x= .ref a/\Cp H2 a y o/\Q (.bl o.isSome) H2:=rfl
theorem S9{ty:TE}:Y7 ty td σ H Q=ty σ H λy H1=>td σ H1 λx H2=>∃a o,x= .ref a/\Cp H2 a y o/\Q (.bl (!o.isSome)) H2:=rfl
theorem Yw{ty:TE}:J91 td ty σ H Q=td σ H λx H1=>ty σ H1 λy H2=>∃a v,x= .ref a/\Cp H2 a y (some v)/\Q v H2:=rfl
theorem Yx{ty tv:TE}:J92 td ty tv D σ H=tv σ H λv H1=>td σ H1 λx H2=>ty σ H2 λy H3=>∃a H4,x= .ref a/\Eu H3 a y v H4/\D.nx σ H4:=rfl
theorem Yy{n:Nat}{t:TGs}{v:V}{N:St->Hp->Prop}:J71 K n t v σ H N=∃a xs,v= .ref a/\SqT K H a xs/\xs.length=n/\t xs σ H N:=rfl
end
theorem Jaw{a b:Str}{n:Nat}(h1:a.length<=n / 2)(h2:b.length<=n / 2):(a++b).length<=n:=by
 rw[Yt];omega
section
variable {K:PySem.W.Frag}{x qual:Str}{st:Stmt}{f:Addr}{fd:FuncData}{p q r t:Str}
theorem Fun.b2(F:Fun K x qual st f fd)(h:∀(kV doc pm:Value) (an:Option Addr) (cdv ct u v:Value),bindArgs (PySem.W.fnOf x qual (Ba st) (B5 st) (A6 st) .none kV doc pm an cdv ct) ⟨[u,v],[]⟩=pure [(p,u),(q,v)]):C4 K fd [p,q] []:=
 F.binds (ps:=[p,q]) λkV doc pm an cdv ct us hl=>match us,hl with | [u,v],_=>h kV doc pm an cdv ct u v
theorem Fun.b3(F:Fun K x qual st f fd)(h:∀(kV doc pm:Value) (an:Option Addr) (cdv ct u v w:Value),bindArgs (PySem.W.fnOf x qual (Ba st) (B5 st) (A6 st) .none kV doc pm an cdv ct) ⟨[u,v,w],[]⟩=pure [(p,u),(q,v),(r,w)]):C4 K fd [p,q,r] []:=
 F.binds (ps:=[p,q,r]) λkV doc pm an cdv ct us hl=>match us,hl with | [u,v,w],_=>h kV doc pm an cdv ct u v w
end
end L2
namespace NF
structure Mv where
 u:Nat
 v:Nat
 g:Int
 k:Option Nat
abbrev Wy:=Int×Option Nat
def prd(w:List Wy)(v:Nat):Nat:=(w.getD v (0,none)).1.toNat
inductive Rch(w:List Wy):Nat->Nat->Prop
 | z:Rch w 0 0
 | s {v d:Nat}:0 < v->Rch w (prd w v) d->Rch w v (d+1)
theorem Rch.inj{w:List Wy}{v d d':Nat}(h:Rch w v d)(h':Rch w v d'):d=d':=by
 induction h generalizing d' with
 | z=>cases h' with
  | z=>rfl
  | s p _=>exact absurd p (Hn _)
 | s p _ ih=>cases h' with
  | z=>exact absurd p (Hn _)
  | s _ q=>rw[ih q]
def at'(h:List Int)(v:Nat):Int:=h.getD v 0
theorem Nz{h:List Int}{v x:Nat}{i:Int}(hv:v < h.length):at' (h.set v i) x=if x=v then i else at' h x:=by
 unfold at';rw[Fc,Fc,Ri]
 by_cases e:v=x
 . rw[if_pos e,if_pos hv,if_pos e.symm];rfl
 . rw[if_neg e,if_neg (λh=>e h.symm)]
theorem Tl{w:List Wy}{v x:Nat}{y:Wy}(hv:v < w.length):prd (w.set v y) x=if x=v then y.1.toNat else prd w x:=by
 unfold prd;rw[Fc,Fc,Ri]
 by_cases e:v=x
 . rw[if_pos e,if_pos hv,if_pos e.symm];rfl
 . rw[if_neg e,if_neg (λh=>e h.symm)]
structure Pot(n:Nat)(ms:List Mv)(pi:Nat->Int):Prop where
 z:pi 0=0
 m:∀m∈ms,m.u < n/\m.v < n/\pi m.u+m.g<=pi m.v
structure CI(n:Nat)(ms:List Mv)(pi:Nat->Int)(h:List Int)(w:List Wy):Prop where
 lh:h.length=n
 lw:w.length=n
 hi:∀v,v < n->at' h v<=pi v
 lo:∀v,v < n->0<=at' h v
 wy:∀v,0 < v->v < n->∃m∈ms,m.v=v/\w.getD v (0,none)=((m.u:Int),m.k)/\at' h v<=at' h m.u+m.g
 rc:∀v,v < n->∃d,Rch w v d
def rise(m:Mv)(s:List Int×List Wy):List Int×List Wy:=if at' s.1 m.u+m.g > at' s.1 m.v then (s.1.set m.v (at' s.1 m.u+m.g),s.2.set m.v ((m.u:Int),m.k)) else s
section
variable {n:Nat}{ms:List Mv}{pi:Nat->Int}{h:List Int}{w:List Wy}{m:Mv}
theorem past(P:Pot n ms pi)(c:CI n ms pi h w){v:Nat}{y:Wy}(hv:v < n):∀{x d:Nat},Rch w x d->x < n->(∃d',Rch (w.set v y) x d')\/∃G:Int,at' h x<=at' h v+G/\pi v+G<=pi x:=by
 intro x d r
 induction r with
 | z=>intro _;exact .inl ⟨0,.z⟩
 | @s x d p r ih=>
  intro hx
  by_cases e:x=v
  . subst e;exact .inr ⟨0,by omega,by omega⟩
  . obtain⟨m,hm,e1,e2,e3⟩:=c.wy x p hx
    have ep:prd w x=m.u:=by unfold prd;rw[e2];exact Int.toNat_natCast _
    have pm:=P.m m hm;rw[ep]at ih r;rcases ih pm.1 with ⟨d',r'⟩ | ⟨G,a,b⟩
    . refine .inl ⟨d'+1,.s p ?_⟩
      rw[Tl (by rw[c.lw];exact hv),if_neg e,ep];exact r'
    . refine .inr ⟨G+m.g,by omega,?_⟩
      have:=pm.2.2;rw[e1]at this;omega
theorem CI.rise(P:Pot n ms pi)(c:CI n ms pi h w)(hm:m∈ms):CI n ms pi (NF.rise m (h,w)).1 (NF.rise m (h,w)).2:=by
 unfold NF.rise
 by_cases hg:at' h m.u+m.g > at' h m.v
 . rw[if_pos hg]
   show CI n ms pi (h.set m.v (at' h m.u+m.g)) (w.set m.v ((m.u:Int),m.k));obtain⟨hu,hv,hp⟩:=P.m m hm;have hiu:=c.hi m.u hu
   have nz:0 < m.v:=by
    rcases RS m.v with e | e
    . have h0:=c.lo 0 (by omega)
      rw[e]at hg hp;rw[P.z]at hp;have:at' h 0 < at' h m.u+m.g:=hg;omega
    . exact e
   have lv:m.v < h.length:=by rw[c.lh];exact hv
   have lw:m.v < w.length:=by rw[c.lw];exact hv
   have ru:∃d,Rch (w.set m.v ((m.u:Int),m.k)) m.u d:=by
    obtain⟨d,r⟩:=c.rc m.u hu;rcases past P c (y:=((m.u:Int),m.k)) hv r hu with r' | ⟨G,a,b⟩
    . exact r'
    . omega
   have rv:∃d,Rch (w.set m.v ((m.u:Int),m.k)) m.v d:=by
    obtain⟨d,r⟩:=ru;exact⟨d+1,.s nz (by rw[Tl lw,if_pos rfl,show ((m.u:Int),m.k).1.toNat=m.u from Int.toNat_natCast _];exact r)⟩
   refine⟨by simp[c.lh],by simp[c.lw],λx hx=>?_,λx hx=>?_,λx p hx=>?_,λx hx=>?_⟩
   . rw[Nz lv]
     by_cases e:x=m.v
     . rw[if_pos e,e];omega
     . rw[if_neg e];exact c.hi x hx
   . rw[Nz lv]
     have hlo:=c.lo m.v hv
     by_cases e:x=m.v
     . rw[if_pos e];omega
     . rw[if_neg e];exact c.lo x hx
   . by_cases e:x=m.v
     . refine⟨m,hm,e.symm,?_,?_⟩
       . rw[Fc,Ri,if_pos e.symm,if_pos lw];rfl
       . rw[Nz lv,if_pos e,Nz lv]
         by_cases e2:m.u=m.v
         . rw[if_pos e2]
           rw[e2]at hp hg;omega
         . rw[if_neg e2];omega
     . obtain⟨m',hm',e1,e2,e3⟩:=c.wy x p hx
       refine⟨m',hm',e1,?_,?_⟩
       . rw[Fc,Ri,if_neg (λz=>e z.symm),<- Fc];exact e2
       . rw[Nz lv,if_neg e,Nz lv]
         by_cases e2:m'.u=m.v
         . rw[if_pos e2];rw[e2]at e3;omega
         . rw[if_neg e2];exact e3
   . obtain⟨d,r⟩:=c.rc x hx
     clear hx
     induction r with
     | z=>exact⟨0,.z⟩
     | @s x d p r ih=>
      by_cases e:x=m.v
      . rw[e];exact rv
      . obtain⟨d',r'⟩:=ih
        exact⟨d'+1,.s p (by rw[Tl lw,if_neg e];exact r')⟩
 . rw[if_neg hg];exact c
end
theorem V1:∀{l:List Int}{i:Nat}{x:Int},i < l.length->(l.set i x).sum=l.sum+x - l.getD i 0
 | [],_,_,h=>by cases h
 | a::l,0,x,_=>by rw[List.set_cons_zero,Hb,Hb,List.getD_cons_zero];omega
 | a::l,i+1,x,h=>by rw[List.set_cons_succ,Hb,Hb,List.getD_cons_succ,V1 (by simpa using h)];omega
theorem J7i:∀{n:Nat}{h:List Int}{f:Nat->Int},h.length=n->(∀v,v < n->at' h v<=f v)->h.sum<=((List.range n).map f).sum:=by
 intro n
 induction n with
 | zero=>intro h f e _;rw[Rx.mp e];simp
 | succ n ih=>
  intro h f e k;rcases List.eq_nil_or_concat h with rfl | ⟨l,a,rfl⟩
  . cases e
  . have el:l.length=n:=by simpa using e
    rw[Hj,Fo,HQ,RE,HQ]
    have h1:=ih (h:=l) (f:=f) el λv hv=>by
     have:=k v (by omega);unfold at' at this ⊢;rw[RE,Fc,FD (by omega),<- Fc]at this;exact this
    have h2:=k n (by omega);unfold at' at h2;rw[RE,Fc,Fz (by omega),el,Nat.sub_self]at h2;simp only[List.map_cons,List.map_nil,Hb,List.sum_nil];have h3:a<=f n:=h2;omega
section
variable {n:Nat}{ms:List Mv}{pi:Nat->Int}{h:List Int}{w:List Wy}{m:Mv}
def rise1(m:Mv)(s:(List Int×List Wy)×Bool):(List Int×List Wy)×Bool:=if at' s.1.1 m.u+m.g > at' s.1.1 m.v then (rise m s.1,true) else s
def Cv(l:List Mv)(s:(List Int×List Wy)×Bool):(List Int×List Wy)×Bool:=l.foldl (λs m=>rise1 m s) s
theorem CI.rise1(P:Pot n ms pi){s:(List Int×List Wy)×Bool}(c:CI n ms pi s.1.1 s.1.2)(hm:m∈ms):CI n ms pi (NF.rise1 m s).1.1 (NF.rise1 m s).1.2:=by
 unfold NF.rise1
 by_cases hg:at' s.1.1 m.u+m.g > at' s.1.1 m.v
 . rw[if_pos hg];exact c.rise P hm
 . rw[if_neg hg];exact c
theorem J1h(P:Pot n ms pi){s:(List Int×List Wy)×Bool}(c:CI n ms pi s.1.1 s.1.2)(hm:m∈ms)(b0:Int)(hb:b0<=s.1.1.sum/\(s.2=true->b0 < s.1.1.sum)):b0<=(NF.rise1 m s).1.1.sum/\((NF.rise1 m s).2=true->b0 < (NF.rise1 m s).1.1.sum):=by
 unfold NF.rise1
 by_cases hg:at' s.1.1 m.u+m.g > at' s.1.1 m.v
 . rw[if_pos hg]
   have hv:=(P.m m hm).2.1
   have:(NF.rise m s.1).1=s.1.1.set m.v (at' s.1.1 m.u+m.g):=by unfold NF.rise;rw[if_pos hg]
   show b0<=(NF.rise m s.1).1.sum/\(true=true->b0 < (NF.rise m s.1).1.sum)
   rw[this,V1 (by rw[c.lh];exact hv)];have e:s.1.1.getD m.v 0=at' s.1.1 m.v:=rfl;rw[e];exact⟨by omega,λ_=>by omega⟩
 . rw[if_neg hg];exact hb
theorem Pw(P:Pot n ms pi):∀(l:List Mv) (s:(List Int×List Wy)×Bool),(∀m∈l,m∈ms)->CI n ms pi s.1.1 s.1.2->CI n ms pi (Cv l s).1.1 (Cv l s).1.2
 | [],s,_,c=>c
 | m::l,s,hl,c=>Pw P l _ (λx hx=>hl x (Fh _ hx)) (c.rise1 P (hl m (by simp)))
theorem Sa(P:Pot n ms pi)(b0:Int):∀(l:List Mv) (s:(List Int×List Wy)×Bool),(∀m∈l,m∈ms)->CI n ms pi s.1.1 s.1.2->(b0<=s.1.1.sum/\(s.2=true->b0 < s.1.1.sum))->b0<=(Cv l s).1.1.sum/\((Cv l s).2=true->b0 < (Cv l s).1.1.sum)
 | [],s,_,_,hb=>hb
 | m::l,s,hl,c,hb=>Sa P b0 l _ (λx hx=>hl x (Fh _ hx)) (c.rise1 P (hl m (by simp))) (J1h P c (hl m (by simp)) b0 hb)
theorem Oj:∀(l:List Mv) (s:(List Int×List Wy)×Bool),(Cv l s).2=false->s.2=false/\(Cv l s)=s/\∀m∈l,at' s.1.1 m.u+m.g<=at' s.1.1 m.v
 | [],s,h=>⟨h,rfl,λm hm=>by cases hm⟩
 | m::l,s,h=>by
  obtain⟨a,b,c⟩:=Oj l (rise1 m s) h
  by_cases hg:at' s.1.1 m.u+m.g > at' s.1.1 m.v
  . have e:rise1 m s=(rise m s.1,true):=if_pos hg
    rw[e]at a;cases a
  . have e:rise1 m s=s:=if_neg hg
    rw[e]at a b c;refine⟨a,?_,λm' hm'=>?_⟩
    . show Cv l (rise1 m s)=s
      rw[e];exact b
    . rcases Ft.mp hm' with rfl | h'
      . omega
      . exact c m' h'
theorem Jax(c:CI n ms pi h w):h.sum<=((List.range n).map pi).sum:=J7i c.lh c.hi
end
abbrev Jp:=Nat×Nat×Int
def cov(j:Jp)(t:Nat):Bool:=decide (j.1<=t) && decide (t < j.2.1)
def over:List Jp->List Bool->Nat->Nat
 | j::js,b::bs,t=>(if b && cov j t then 1 else 0)+over js bs t
 | _,_,_=>0
def b1(b:Bool):Int:=if b then 1 else 0
theorem V2:∀{js:List Jp}{tk:List Bool}{k:Nat}{b:Bool}{t:Nat},k < js.length->tk.length=js.length->(over js (tk.set k b) t:Int)=over js tk t+b1 (b && cov (js.getD k (0,0,0)) t) - b1 (tk.getD k false && cov (js.getD k (0,0,0)) t)
 | [],_,_,_,_,h,_=>by cases h
 | j::js,[],_,_,_,_,h=>by cases h
 | j::js,c::tk,0,b,t,_,_=>by
  rw[List.set_cons_zero,List.getD_cons_zero,List.getD_cons_zero];unfold over b1
  cases b && cov j t <;> cases c && cov j t <;> simp <;> omega
 | j::js,c::tk,k+1,b,t,hk,hl=>by
  rw[List.set_cons_succ,List.getD_cons_succ,List.getD_cons_succ];have:=V2 (js:=js) (tk:=tk) (k:=k) (b:=b) (t:=t) (by simpa using hk) (by simpa using hl);show (((if c && cov j t then 1 else 0)+over js (tk.set k b) t:Nat):Int)=(((if c && cov j t then 1 else 0)+over js tk t:Nat):Int)+_ - _;omega
def Px(js:List Jp)(tk:List Bool)(s:Nat)(t:Nat):List Mv:=⟨t,t+1,0,none⟩::if over js tk t < s then [⟨t+1,t,0,none⟩] else []
def D1(j:Jp)(b:Bool)(k:Nat):Mv:=if b then ⟨j.2.1,j.1,0 - j.2.2,some k⟩ else ⟨j.1,j.2.1,j.2.2,some k⟩
def Kt(js:List Jp)(tk:List Bool)(s n:Nat):List Mv:=(List.range n).flatMap (Px js tk s)
def Md(js:List Jp)(tk:List Bool):List Mv:=(List.range js.length).map λk=>D1 (js.getD k (0,0,0)) (tk.getD k false) k
def mvs(n:Nat)(js:List Jp)(tk:List Bool)(s:Nat):List Mv:=Kt js tk s (n - 1)++Md js tk
section
variable {n:Nat}{js:List Jp}{tk:List Bool}{s:Nat}
theorem Dc{m:Mv}:m∈mvs n js tk s↔(∃t,t+1 < n/\(m=⟨t,t+1,0,none⟩\/(over js tk t < s/\m=⟨t+1,t,0,none⟩)))\/∃k,k < js.length/\m=D1 (js.getD k (0,0,0)) (tk.getD k false) k:=by
 unfold mvs Kt Md;rw[FL,List.mem_flatMap,FH];constructor
 . rintro(⟨t,ht,h⟩ | ⟨k,hk,rfl⟩)
   . have ht:=He.mp ht
     refine .inl ⟨t,by omega,?_⟩;unfold Px at h;rcases Ft.mp h with h | h
     . exact .inl h
     . split at h
       . rename_i ho
         exact .inr ⟨ho,Fj.mp h⟩
       . cases h
   . exact .inr ⟨k,He.mp hk,rfl⟩
 . rintro(⟨t,ht,h⟩ | ⟨k,hk,rfl⟩)
   . refine .inl ⟨t,He.mpr (by omega),?_⟩
     unfold Px;rcases h with h | ⟨ho,h⟩
     . rw[h];exact Fy
     . rw[if_pos ho,h];simp
   . exact .inr ⟨k,He.mpr hk,rfl⟩
def JOk(n:Nat)(js:List Jp):Prop:=∀j∈js,j.1<=j.2.1/\j.2.1 < n/\0<=j.2.2
theorem jat{k:Nat}(h:k < js.length):js.getD k (0,0,0)∈js:=by
 rw[Fc,Fb h];exact Hr h
structure FI(n:Nat)(js:List Jp)(tk:List Bool)(s:Nat)(pi:Nat->Int):Prop where
 l:tk.length=js.length
 o:∀t,t+1 < n->over js tk t<=s
 p:Pot n (mvs n js tk s) pi
def tk0(js:List Jp):List Bool:=js.map λj=>decide (j.1=j.2.1)
def f0(v:Nat)(j:Jp):Int:=if j.1 < j.2.1/\j.2.1<=v then j.2.2 else 0
def pi0(js:List Jp)(v:Nat):Int:=(js.map (f0 v)).sum
theorem J9f:∀(js:List Jp) (t:Nat),over js (tk0 js) t=0
 | [],_=>rfl
 | j::js,t=>by
  show (if decide (j.1=j.2.1) && cov j t then 1 else 0)+over js (tk0 js) t=0;rw[J9f,if_neg];unfold cov;simp only[Rl,decide_eq_true_eq,not_and];omega
theorem Py{f g:Jp->Int}:∀{l:List Jp},(∀j∈l,f j<=g j)->(l.map f).sum<=(l.map g).sum
 | [],_=>FZ _
 | j::l,h=>by
  rw[List.map_cons,List.map_cons,Hb,Hb];have:=h j (by simp);have:=Py λx hx=>h x (Fh _ hx);omega
theorem Yz{f g:Jp->Int}{c:Int}:∀{l:List Jp}{j:Jp},j∈l->(∀j∈l,f j<=g j)->f j+c<=g j->(l.map f).sum+c<=(l.map g).sum
 | [],_,h,_,_=>by cases h
 | i::l,j,hm,h,hj=>by
  rw[List.map_cons,List.map_cons,Hb,Hb];rcases Ft.mp hm with e | e
  . rw[<- e]
    have:=Py (f:=f) (g:=g) λx hx=>h x (Fh _ hx);omega
  . have:=h i (by simp)
    have:=Yz e (λx hx=>h x (Fh _ hx)) hj;omega
theorem J00{n:Nat}(J:JOk n js){a b:Nat}(h:a<=b):∀j∈js,f0 a j<=f0 b j:=λj hj=>by
 have:=(J j hj).2.2;unfold f0;split
 . rw[if_pos (by omega)];omega
 . split <;> omega
theorem fi0(J:JOk n js)(hn:1<=n):FI n js (tk0 js) 0 (pi0 js):=by
 refine⟨Fa ..,λt _=>by rw[J9f];exact Fg _,?_,λm hm=>?_⟩
 . have:∀l:List Jp,(l.map (f0 0)).sum=0:=λl=>by
    induction l with
    | nil=>rfl
    | cons j l ih=>
     rw[List.map_cons,Hb,ih];unfold f0;rw[if_neg (by omega)];rfl
   exact this js
 . rcases Dc.mp hm with ⟨t,ht,rfl | ⟨ho,_⟩⟩ | ⟨k,hk,rfl⟩
   . refine⟨by show t < n;omega,ht,?_⟩
     show pi0 js t+0<=pi0 js (t+1);have:=Py (J00 (a:=t) (b:=t+1) J (by omega));unfold pi0;omega
   . omega
   . have hj:=jat hk
     have ho:=J _ hj
     have et:(tk0 js).getD k false=decide ((js.getD k (0,0,0)).1=(js.getD k (0,0,0)).2.1):=by
      unfold tk0;rw[Fc,Fe,Fc,Fb hk];rfl
     rw[et];generalize js.getD k (0,0,0)=j at hj ho;unfold D1
     by_cases e:j.1=j.2.1
     . rw[if_pos (Fi e)]
       refine⟨ho.2.1,by show j.1 < n;omega,?_⟩;show pi0 js j.2.1+(0 - j.2.2)<=pi0 js j.1;rw[e];omega
     . rw[if_neg (by rw[decide_eq_true_iff];exact e)]
       refine⟨by show j.1 < n;omega,ho.2.1,?_⟩;show pi0 js j.1+j.2.2<=pi0 js j.2.1;unfold pi0;refine Yz hj (J00 J ho.1) ?_;unfold f0;rw[if_neg (by omega),if_pos (by omega)];omega
def h0(n:Nat):List Int:=List.replicate n 0
def w0(n:Nat):List Wy:=(List.range n).map λ(p:Nat)=>((p:Int) - 1,(none:Option Nat))
theorem J9g{v:Nat}(h:v < n):(w0 n).getD v (0,none)=((v:Int) - 1,none):=by
 unfold w0;rw[Fc,Fe,FS h];rfl
theorem at0{v:Nat}:at' (h0 n) v=0:=by
 unfold at' h0;rw[Fc,List.getElem?_replicate]
 split <;> rfl
theorem J4e{pi:Nat->Int}(P:Pot n (mvs n js tk s) pi):∀v,v < n->0<=pi v
 | 0,_=>by rw[P.z];exact FZ _
 | v+1,h=>by
  have h1:=J4e P v (by omega);have h2:=(P.m ⟨v,v+1,0,none⟩ (Dc.mpr (.inl ⟨v,h,.inl rfl⟩))).2.2;have h3:pi v+0<=pi (v+1):=h2;omega
theorem ci0{pi:Nat->Int}(P:Pot n (mvs n js tk s) pi):CI n (mvs n js tk s) pi (h0 n) (w0 n):=by
 refine⟨List.length_replicate ..,by unfold w0;rw[Fa,Fw],λv hv=>by rw[at0];exact J4e P v hv,λv hv=>by rw[at0];exact FZ _,λv p hv=>?_,?_⟩
 . refine⟨⟨v - 1,v,0,none⟩,Dc.mpr (.inl ⟨v - 1,by omega,.inl (by congr;omega)⟩),rfl,?_,?_⟩
   . rw[J9g hv]
     show ((v:Int) - 1,(none:Option Nat))=(((v - 1:Nat):Int),none);congr 1;omega
   . rw[at0,at0];exact FZ _
 . intro v
   induction v with
   | zero=>intro _;exact⟨0,.z⟩
   | succ v ih=>
    intro hv;obtain⟨d,r⟩:=ih (by omega);refine⟨d+1,.s (by omega) ?_⟩
    have:prd (w0 n) (v+1)=v:=by
     unfold prd;rw[J9g hv];show (((v+1:Nat):Int) - 1).toNat=v;omega
    rw[this];exact r
end
def nums(w:List Wy):Nat->Nat->List (Option Nat)
 | 0,_=>[]
 | d+1,v=>(w.getD v (0,none)).2::nums w d (prd w v)
def usd(w:List Wy)(d v:Nat):List Nat:=(nums w d v).filterMap id
def flip(tk:List Bool)(k:Nat):List Bool:=tk.set k (!tk.getD k false)
def flips(tk:List Bool)(ks:List Nat):List Bool:=ks.foldl flip tk
def sg(js:List Jp)(tk:List Bool)(t k:Nat):Int:=if tk.getD k false then 0 - b1 (cov (js.getD k (0,0,0)) t) else b1 (cov (js.getD k (0,0,0)) t)
def dl(js:List Jp)(tk:List Bool)(t:Nat)(ks:List Nat):Int:=(ks.map (sg js tk t)).sum
section
variable {n:Nat}{js:List Jp}{tk:List Bool}{s:Nat}{pi:Nat->Int}{h:List Int}{w:List Wy}
theorem Pz{k:Nat}:(flip tk k).length=tk.length:=J8 ..
theorem O0:∀(ks:List Nat) (tk:List Bool),(flips tk ks).length=tk.length
 | [],_=>rfl
 | k::ks,tk=>(O0 ks (flip tk k)).trans Pz
theorem J01{k i:Nat}(hk:k < tk.length):(flip tk k).getD i false=if i=k then !tk.getD k false else tk.getD i false:=by
 unfold flip;rw[Fc,Ri]
 by_cases e:k=i
 . rw[if_pos e,if_pos hk,if_pos e.symm];rfl
 . rw[if_neg e,if_neg (λz=>e z.symm),<- Fc]
theorem V3:∀(ks:List Nat) (tk:List Bool) (i:Nat),ks.Nodup->(∀k∈ks,k < tk.length)->(flips tk ks).getD i false=if i∈ks then !tk.getD i false else tk.getD i false
 | [],tk,i,_,_=>by rw[if_neg FW];rfl
 | k::ks,tk,i,nd,hk=>by
  have h0:=hk k (by simp);have nd':=Hm.mp nd;show (flips (flip tk k) ks).getD i false=_;rw[V3 ks _ i nd'.2 λx hx=>by rw[Pz];exact hk x (Fh _ hx),J01 h0]
  by_cases e:i=k
  . rw[if_pos e,if_neg (by rw[e];exact nd'.1),if_pos (by rw[e];simp),e]
  . rw[if_neg e]
    by_cases e2:i∈ks
    . rw[if_pos e2,if_pos (Fh _ e2)]
    . rw[if_neg e2,if_neg (λz=>by rcases Ft.mp z with z | z;exact e z;exact e2 z)]
theorem Q0(t:Nat):∀(ks:List Nat) (tk:List Bool),tk.length=js.length->ks.Nodup->(∀k∈ks,k < js.length)->(over js (flips tk ks) t:Int)=over js tk t+dl js tk t ks
 | [],tk,_,_,_=>by show (over js tk t:Int)=over js tk t+0;omega
 | k::ks,tk,hl,nd,hk=>by
  have h0:=hk k (by simp);have nd':=Hm.mp nd;show (over js (flips (flip tk k) ks) t:Int)=_;rw[Q0 t ks (flip tk k) (by rw[Pz];exact hl) nd'.2 λx hx=>hk x (Fh _ hx)]
  have e1:dl js (flip tk k) t ks=dl js tk t ks:=by
   unfold dl;congr 1;refine Ht λx hx=>?_;unfold sg;rw[J01 (by omega),if_neg (λe:x=k=>nd'.1 (by rw[<- e];exact hx))]
  have e2:dl js tk t (k::ks)=sg js tk t k+dl js tk t ks:=by unfold dl;rw[List.map_cons,Hb]
  rw[e1,e2]
  have e3:(over js (flip tk k) t:Int)=over js tk t+sg js tk t k:=by
   unfold flip;rw[V2 h0 hl];unfold sg b1
   cases tk.getD k false <;> cases cov (js.getD k (0,0,0)) t <;> simp <;> omega
  omega
def le1(a t:Nat):Int:=b1 (decide (a<=t))
theorem J7j{j:Jp}{t:Nat}(h:j.1<=j.2.1):le1 j.1 t - le1 j.2.1 t=b1 (cov j t):=by
 unfold le1 cov b1
 by_cases h1:j.1<=t
 . by_cases h2:t < j.2.1
   . rw[Fi h1,Fi h2,Fk (show ¬j.2.1<=t by omega)];rfl
   . rw[Fi h1,Fk h2,Fi (show j.2.1<=t by omega)];rfl
 . rw[Fk h1,Fk (show ¬j.2.1<=t by omega)];rfl
theorem J4f{a t:Nat}:le1 a t - le1 (a+1) t=if a=t then 1 else 0:=by
 unfold le1 b1
 by_cases h1:a=t
 . rw[Fi (show a<=t by omega),Fk (show ¬a+1<=t by omega),if_pos h1];rfl
 . rw[if_neg h1]
   by_cases h2:a<=t
   . rw[Fi h2,Fi (show a+1<=t by omega)];rfl
   . rw[Fk h2,Fk (show ¬a+1<=t by omega)];rfl
def Xd(ms:List Mv)(h:List Int):Prop:=∀m∈ms,at' h m.u+m.g<=at' h m.v
def tgt(js:List Jp)(tk:List Bool)(k:Nat):Nat:=(D1 (js.getD k (0,0,0)) (tk.getD k false) k).v
structure WB(n:Nat)(js:List Jp)(tk:List Bool)(s:Nat)(h:List Int)(w:List Wy)(d v:Nat):Prop where
 nd:(usd w d v).Nodup
 kl:∀k∈usd w d v,k < js.length
 tg:∀k∈usd w d v,∃d',0 < d'/\d'<=d/\Rch w (tgt js tk k) d'
 ti:∀k∈usd w d v,at' h (D1 (js.getD k (0,0,0)) (tk.getD k false) k).u+(D1 (js.getD k (0,0,0)) (tk.getD k false) k).g=at' h (D1 (js.getD k (0,0,0)) (tk.getD k false) k).v
 cr:∀t,∃fs bs:Nat,dl js tk t (usd w d v)+fs - bs=1 - le1 v t/\(0 < fs->at' h (t+1)<=at' h t)/\bs<=1/\(0 < bs->over js tk t < s/\∃d',0 < d'/\d'<=d/\Rch w t d')
theorem wb(J:JOk n js)(c:CI n (mvs n js tk s) pi h w)(P:Pot n (mvs n js tk s) pi)(R:Xd (mvs n js tk s) h):∀{v d:Nat},Rch w v d->v < n->WB n js tk s h w d v:=by
 intro v d r
 induction r with
 | z=>
  intro _;refine⟨HZ,(λk hk=>by cases hk),(λk hk=>by cases hk),(λk hk=>by cases hk),λt=>⟨0,0,?_,λz=>absurd z (Hn _),FM _,λz=>absurd z (Hn _)⟩⟩;show (0:Int)+0 - 0=1 - le1 0 t;unfold le1 b1;rw[Fi (FM t)];rfl
 | @s v d p r ih=>
  intro hv;obtain⟨m,hm,e1,e2,e3⟩:=c.wy v p hv
  have ep:prd w v=m.u:=by unfold prd;rw[e2];exact Int.toNat_natCast _
  have pm:=P.m m hm;have W:=ih (by rw[ep];exact pm.1);have rv:Rch w v (d+1):= .s p r
  have ti:at' h m.u+m.g=at' h m.v:=by have:=R m hm;rw[e1]at this ⊢;omega
  have up:∀x,(∃d',0 < d'/\d'<=d/\Rch w x d')->∃d',0 < d'/\d'<=d+1/\Rch w x d':=λx ⟨d',a,b,c⟩=>⟨d',a,by omega,c⟩
  rcases Dc.mp hm with ⟨a,ha,hs⟩ | ⟨k,hk,rfl⟩
  . have ek:m.k=none:=by rcases hs with rfl | ⟨_,rfl⟩ <;> rfl
    have eu:usd w (d+1) v=usd w d m.u:=by
     unfold usd;show (List.filterMap id ((w.getD v (0,none)).2::nums w d (prd w v)))=_;rw[e2,ek,ep];rfl
    rw[ep]at W;refine⟨by rw[eu];exact W.nd,by rw[eu];exact W.kl,by rw[eu];exact λk hk=>up _ (W.tg k hk),by rw[eu];exact W.ti,λt=>?_⟩;rw[eu];obtain⟨fs,bs,c1,c2,c3,c4⟩:=W.cr t;have st:=J4f (a:=a) (t:=t);rcases hs with rfl | ⟨ho,rfl⟩
    . have e1':a+1=v:=e1
      have ti':at' h a+0=at' h (a+1):=ti;have c1':dl js tk t (usd w d a)+fs - bs=1 - le1 a t:=c1;rw[<- e1']
      by_cases e:a=t
      . rw[if_pos e]at st
        refine⟨fs+1,bs,?_,λ_=>by rw[<- e];omega,c3,λz=>⟨(c4 z).1,up _ (c4 z).2⟩⟩;show dl js tk t (usd w d a)+((fs+1:Nat):Int) - bs=_;omega
      . rw[if_neg e]at st
        refine⟨fs,bs,?_,c2,c3,λz=>⟨(c4 z).1,up _ (c4 z).2⟩⟩;show dl js tk t (usd w d a)+fs - bs=_;omega
    . have e1':a=v:=e1
      have c1':dl js tk t (usd w d (a+1))+fs - bs=1 - le1 (a+1) t:=c1;rw[<- e1']
      by_cases e:a=t
      . rw[if_pos e]at st
        have b0:bs=0:=by
         rcases RS bs with z | z
         . exact z
         . obtain⟨_,d',_,h2,h3⟩:=c4 z
           rw[<- e,e1']at h3;have:=rv.inj h3;omega
        refine⟨fs,1,?_,c2,Fg _,λ_=>⟨by rw[<- e];exact ho,d+1,by omega,Fg _,by rw[<- e,e1'];exact rv⟩⟩;show dl js tk t (usd w d (a+1))+fs - ((1:Nat):Int)=_;omega
      . rw[if_neg e]at st
        refine⟨fs,bs,?_,c2,c3,λz=>⟨(c4 z).1,up _ (c4 z).2⟩⟩;show dl js tk t (usd w d (a+1))+fs - bs=_;omega
  . have hj:=J _ (jat hk)
    have ek:(D1 (js.getD k (0,0,0)) (tk.getD k false) k).k=some k:=by unfold D1;split <;> rfl
    have eu:usd w (d+1) v=k::usd w d (D1 (js.getD k (0,0,0)) (tk.getD k false) k).u:=by
     unfold usd;show (List.filterMap id ((w.getD v (0,none)).2::nums w d (prd w v)))=_;rw[e2,ek,ep];rfl
    rw[ep]at W
    have nk:k∉usd w d (D1 (js.getD k (0,0,0)) (tk.getD k false) k).u:=λz=>by
     obtain⟨d',_,h2,h3⟩:=W.tg k z;have et:tgt js tk k=v:=e1;rw[et]at h3;have:=rv.inj h3;omega
    refine⟨by rw[eu];exact Hm.mpr ⟨nk,W.nd⟩,?_,?_,?_,λt=>?_⟩
    . rw[eu];intro x hx
      rcases Ft.mp hx with rfl | hx
      . exact hk
      . exact W.kl x hx
    . rw[eu];intro x hx
      rcases Ft.mp hx with rfl | hx
      . exact⟨d+1,by omega,Fg _,by rw[show tgt js tk x=v from e1];exact rv⟩
      . exact up _ (W.tg x hx)
    . rw[eu];intro x hx
      rcases Ft.mp hx with rfl | hx
      . exact ti
      . exact W.ti x hx
    . obtain⟨fs,bs,c1,c2,c3,c4⟩:=W.cr t
      refine⟨fs,bs,?_,c2,c3,λz=>⟨(c4 z).1,up _ (c4 z).2⟩⟩
      have ed:dl js tk t (usd w (d+1) v)=sg js tk t k+dl js tk t (usd w d (D1 (js.getD k (0,0,0)) (tk.getD k false) k).u):=by rw[eu];unfold dl;rw[List.map_cons,Hb]
      have lc:=J7j (t:=t) hj.1;rw[ed,<- e1];clear ed eu nk up rv ti pm ep e3 e2 hm
      revert c1
      unfold sg D1
      cases tk.getD k false with
      | true=>
       rw[if_pos rfl,if_pos rfl];intro c1;show 0 - b1 (cov (js.getD k (0,0,0)) t)+dl js tk t (usd w d (js.getD k (0,0,0)).2.1)+fs - bs=1 - le1 (js.getD k (0,0,0)).1 t;have c1':dl js tk t (usd w d (js.getD k (0,0,0)).2.1)+fs - bs=1 - le1 (js.getD k (0,0,0)).2.1 t:=c1;omega
      | false=>
       rw[if_neg (by decide),if_neg (by decide)];intro c1;show b1 (cov (js.getD k (0,0,0)) t)+dl js tk t (usd w d (js.getD k (0,0,0)).1)+fs - bs=1 - le1 (js.getD k (0,0,0)).2.1 t;have c1':dl js tk t (usd w d (js.getD k (0,0,0)).1)+fs - bs=1 - le1 (js.getD k (0,0,0)).1 t:=c1;omega
theorem Sb(hn:1<=n)(P:Pot n (mvs n js tk s) pi)(c:CI n (mvs n js tk s) pi h w):at' h 0=0:=by
 have h1:=c.hi 0 (by omega);have h2:=c.lo 0 (by omega);rw[P.z]at h1;omega
theorem J4g(hn:1<=n)(P:Pot n (mvs n js tk s) pi)(c:CI n (mvs n js tk s) pi h w)(R:Xd (mvs n js tk s) h):Pot n (mvs n js tk s) (at' h):=⟨Sb hn P c,λm hm=>⟨(P.m m hm).1,(P.m m hm).2.1,R m hm⟩⟩
theorem J7k(J:JOk n js)(hn:1<=n)(F:FI n js tk s pi)(c:CI n (mvs n js tk s) pi h w)(R:Xd (mvs n js tk s) h){d:Nat}(r:Rch w (n - 1) d):FI n js (flips tk (usd w d (n - 1))) (s+1) (at' h):=by
 have W:=wb J c F.p R r (by omega)
 have hl:∀k∈usd w d (n - 1),k < tk.length:=λk hk=>by rw[F.l];exact W.kl k hk
 have ov:∀t,t+1 < n->∃fs bs:Nat,(over js (flips tk (usd w d (n - 1))) t:Int)=over js tk t+1 - fs+bs/\(0 < fs->at' h (t+1)<=at' h t)/\bs<=1/\(0 < bs->over js tk t < s):=λt ht=>by
  obtain⟨fs,bs,c1,c2,c3,c4⟩:=W.cr t;refine⟨fs,bs,?_,c2,c3,λz=>(c4 z).1⟩;rw[Q0 t _ tk F.l W.nd W.kl]
  have:le1 (n - 1) t=0:=by unfold le1 b1;rw[Fk (show ¬n - 1<=t by omega)];rfl
  omega
 refine⟨by rw[O0];exact F.l,λt ht=>?_,Sb hn F.p c,λm hm=>?_⟩
 . obtain⟨fs,bs,c1,c2,c3,c4⟩:=ov t ht
   have:=F.o t ht
   by_cases z:0 < bs
   . have:=c4 z;omega
   . omega
 . rcases Dc.mp hm with ⟨t,ht,rfl | ⟨ho,rfl⟩⟩ | ⟨k,hk,rfl⟩
   . have hm':(⟨t,t+1,0,none⟩:Mv)∈mvs n js tk s:=Dc.mpr (.inl ⟨t,ht,.inl rfl⟩)
     exact⟨by show t < n;omega,ht,R _ hm'⟩
   . refine⟨ht,by show t < n;omega,?_⟩
     show at' h (t+1)+0<=at' h t;obtain⟨fs,bs,c1,c2,c3,c4⟩:=ov t ht
     by_cases hs:over js tk t < s
     . exact R ⟨t+1,t,0,none⟩ (Dc.mpr (.inl ⟨t,ht,.inr ⟨hs,rfl⟩⟩))
     . have b0:bs=0:=by
        rcases RS bs with z | z
        . exact z
        . exact absurd (c4 z) hs
       have:=c2 (by omega);omega
   . have hj:=J _ (jat hk)
     have hm':D1 (js.getD k (0,0,0)) (tk.getD k false) k∈mvs n js tk s:=Dc.mpr (.inr ⟨k,hk,rfl⟩);rw[V3 _ tk k W.nd hl]
     by_cases e:k∈usd w d (n - 1)
     . rw[if_pos e]
       have ti:=W.ti k e
       revert ti
       unfold D1
       cases tk.getD k false with
       | true=>
        rw[if_pos rfl,if_neg (by decide)];intro ti;have ti':at' h (js.getD k (0,0,0)).2.1+(0 - (js.getD k (0,0,0)).2.2)=at' h (js.getD k (0,0,0)).1:=ti;refine⟨by show (js.getD k (0,0,0)).1 < n;omega,hj.2.1,?_⟩;show at' h (js.getD k (0,0,0)).1+(js.getD k (0,0,0)).2.2<=at' h (js.getD k (0,0,0)).2.1;omega
       | false=>
        rw[if_neg (by decide),if_pos (by decide)];intro ti;have ti':at' h (js.getD k (0,0,0)).1+(js.getD k (0,0,0)).2.2=at' h (js.getD k (0,0,0)).2.1:=ti;refine⟨hj.2.1,by show (js.getD k (0,0,0)).1 < n;omega,?_⟩;show at' h (js.getD k (0,0,0)).2.1+(0 - (js.getD k (0,0,0)).2.2)<=at' h (js.getD k (0,0,0)).1;omega
     . rw[if_neg e]
       exact⟨(F.p.m _ hm').1,(F.p.m _ hm').2.1,R _ hm'⟩
end
def rs(f:Nat->Int)(N:Nat):Int:=((List.range N).map f).sum
theorem Ey{f:Nat->Int}{N:Nat}:rs f (N+1)=rs f N+f N:=by
 unfold rs;rw[Hj,Fo,HQ];simp
theorem J4h{f g:Nat->Int}{N:Nat}(h:∀t,t < N->f t=g t):rs f N=rs g N:=by
 unfold rs;congr 1;exact Ht λt ht=>h t (He.mp ht)
theorem J4i{f g:Nat->Int}:∀{N:Nat},rs (λt=>f t+g t) N=rs f N+rs g N
 | 0=>rfl
 | N+1=>by rw[Ey,Ey,Ey,J4i];omega
theorem Oy:∀{N:Nat},rs (λ_=>0) N=0
 | 0=>rfl
 | N+1=>by rw[Ey,Oy];rfl
theorem J4j{f:Nat->Int}{c:Int}:∀{N:Nat},rs (λt=>c * f t) N=c * rs f N
 | 0=>by show (0:Int)=c * 0;omega
 | N+1=>by rw[Ey,Ey,J4j,Jo]
theorem Xe{q:Nat->Int}:∀{N:Nat},rs (λt=>q (t+1) - q t) N=q N - q 0
 | 0=>by show (0:Int)=q 0 - q 0;omega
 | N+1=>by rw[Ey,Xe];omega
theorem J4k{q:Nat->Int}{j:Jp}(hj:j.1<=j.2.1):∀{N:Nat},rs (λt=>b1 (cov j t) * (q (t+1) - q t)) N=q (min j.2.1 N) - q (min j.1 N)
 | 0=>by
  rw[Nat.min_zero,Nat.min_zero];show (0:Int)=q 0 - q 0;omega
 | N+1=>by
  rw[Ey,J4k hj];unfold cov b1
  by_cases h1:j.1<=N
  . by_cases h2:N < j.2.1
    . rw[Fi h1,Fi h2,R7 (show N<=j.2.1 by omega),Hi h1,R7 (show N+1<=j.2.1 by omega),Hi (show j.1<=N+1 by omega)]
      show q N - q j.1+1 * (q (N+1) - q N)=_;omega
    . rw[Fi h1,Fk h2,Hi (show j.2.1<=N by omega),Hi h1,Hi (show j.2.1<=N+1 by omega),Hi (show j.1<=N+1 by omega)]
      show q j.2.1 - q j.1+0 * (q (N+1) - q N)=_;omega
  . rw[Fk h1,R7 (show N<=j.2.1 by omega),R7 (show N<=j.1 by omega),R7 (show N+1<=j.2.1 by omega),R7 (show N+1<=j.1 by omega)]
    show q N - q N+0 * (q (N+1) - q N)=_;omega
def tsum(q:Nat->Int):List Jp->List Bool->Int
 | j::js,b::bs=>(if b then q j.2.1 - q j.1 else 0)+tsum q js bs
 | _,_=>0
theorem Sd{q:Nat->Int}{N:Nat}:∀{js:List Jp}{tk:List Bool},(∀j∈js,j.1<=j.2.1/\j.2.1<=N)->tsum q js tk=rs (λt=>(over js tk t:Int) * (q (t+1) - q t)) N
 | [],tk,_=>by
  have:(λt=>((over [] tk t:Nat):Int) * (q (t+1) - q t))=λ_=>0:=by
   funext t
   rw[show over [] tk t=0 by cases tk <;> rfl];simp
  rw[this,Oy];cases tk <;> rfl
 | j::js,[],_=>by
  have:(λt=>((over (j::js) [] t:Nat):Int) * (q (t+1) - q t))=λ_=>0:=by
   funext t;rw[show over (j::js) [] t=0 from rfl];simp
  rw[this,Oy];rfl
 | j::js,b::tk,hj=>by
  have h0:=hj j (by simp);have ih:=Sd (q:=q) (N:=N) (js:=js) (tk:=tk) λi hi=>hj i (Fh _ hi);show (if b then q j.2.1 - q j.1 else 0)+tsum q js tk=_;rw[ih]
  have e:(λt=>((over (j::js) (b::tk) t:Nat):Int) * (q (t+1) - q t))=λt=>b1 (b && cov j t) * (q (t+1) - q t)+(over js tk t:Int) * (q (t+1) - q t):=by
   funext t;rw[<- Jq];congr 1;show (((if b && cov j t then 1 else 0)+over js tk t:Nat):Int)=_;unfold b1
   cases b && cov j t <;> simp
  rw[e,J4i];congr 1
  cases b with
  | true=>
   have e2:(λt=>b1 (true && cov j t) * (q (t+1) - q t))=λt=>b1 (cov j t) * (q (t+1) - q t):=by funext t;rw[Bool.true_and]
   rw[e2,J4k h0.1,Hi h0.2,Hi (by omega)];rfl
  | false=>
   have e2:(λt=>b1 (false && cov j t) * (q (t+1) - q t))=λ_=>0:=by funext t;rw[Bool.false_and];show (0:Int) * _=0;simp
   rw[e2,Oy];rfl
structure FE(n:Nat)(js:List Jp)(tk:List Bool)(most:Int)(h:List Int):Prop where
 l:tk.length=js.length
 lh:h.length=n
 o:∀t,t+1 < n->(over js tk t:Int)<=most
 z:at' h 0=0
 up:∀t,t+1 < n->at' h t<=at' h (t+1)
 t1:∀k,k < js.length->tk.getD k false=true->at' h (js.getD k (0,0,0)).2.1 - at' h (js.getD k (0,0,0)).1<=(js.getD k (0,0,0)).2.2
 t0:∀k,k < js.length->tk.getD k false=false->(js.getD k (0,0,0)).2.2<=at' h (js.getD k (0,0,0)).2.1 - at' h (js.getD k (0,0,0)).1
 s:tsum (at' h) js tk=most * at' h (n - 1)
section
variable {n:Nat}{js:List Jp}{tk:List Bool}{s:Nat}{pi:Nat->Int}{h:List Int}{w:List Wy}
theorem Jcp(J:JOk n js)(hn:1<=n)(F:FI n js tk s pi)(c:CI n (mvs n js tk s) pi h w)(R:Xd (mvs n js tk s) h){most:Int}(hs:(s:Int)<=most)(he:(s:Int)=most\/at' h (n - 1)<=0):FE n js tk most h:=by
 have P:=J4g hn F.p c R
 have up:∀t,t+1 < n->at' h t<=at' h (t+1):=λt ht=>by
  have:at' h t+0<=at' h (t+1):=R ⟨t,t+1,0,none⟩ (Dc.mpr (.inl ⟨t,ht,.inl rfl⟩));omega
 refine⟨F.l,c.lh,λt ht=>by have:=F.o t ht;omega,P.z,up,λk hk hb=>?_,λk hk hb=>?_,?_⟩
 . have:=R _ (Dc.mpr (.inr ⟨k,hk,rfl⟩))
   rw[hb]at this;have:at' h (js.getD k (0,0,0)).2.1+(0 - (js.getD k (0,0,0)).2.2)<=at' h (js.getD k (0,0,0)).1:=this;omega
 . have:=R _ (Dc.mpr (.inr ⟨k,hk,rfl⟩))
   rw[hb]at this;have:at' h (js.getD k (0,0,0)).1+(js.getD k (0,0,0)).2.2<=at' h (js.getD k (0,0,0)).2.1:=this;omega
 . rw[Sd (N:=n - 1) λj hj=>⟨(J j hj).1,by have:=(J j hj).2.1;omega⟩]
   have e:rs (λt=>(over js tk t:Int) * (at' h (t+1) - at' h t)) (n - 1)=rs (λt=>(s:Int) * (at' h (t+1) - at' h t)) (n - 1):=J4h λt ht=>by
    by_cases ho:over js tk t < s
    . have h1:at' h (t+1)+0<=at' h t:=R ⟨t+1,t,0,none⟩ (Dc.mpr (.inl ⟨t,by omega,.inr ⟨ho,rfl⟩⟩))
      have h2:=up t (by omega);rw[show at' h (t+1) - at' h t=0 by omega];simp
    . have:=F.o t (by omega)
      rw[show over js tk t=s by omega]
   rw[e,J4j,Xe,P.z,Int.sub_zero];rcases he with e | e
   . rw[e]
   . have:0<=at' h (n - 1):=c.lo _ (by omega)
     rw[show at' h (n - 1)=0 by omega];simp
end
end NF
variable {js:List NF.Jp}
namespace L2
open Sem (wp)
section
variable {Pg:Program}{w:World}{A:Around}{E:Value->Shared->Prop}{h:Heap}{g:Array GenState}{d:Drawn}{t:Nat}{os:OsState}
variable {nm q:Str}{C N:Addr}{bs bm bmB:List Value}{hd:Bool}{sn:List Str}{su:List Value}{ab:Bool}{co:Option Bool}{dd:Option Addr}{k0 k1 k2 k3 k5:Option Value}{B nw ni:String}
abbrev J7l(h:Heap)(C:Addr):Obj:={cls:= .ref C,data:= .fields #[.ref h.objs.size,.none,.none,.none,.bool false,.none]}
abbrev J7m(h:Heap)(C:Addr)(rest:List Value):Heap:=(h.push {cls:= .type "tuple",data:= .seq rest.toArray}).push (J7l h C)
theorem J4l{rest:List Value}:∀b o,h.get? b=some o->(J7m h C rest).get? b=some o:=λ_ _ e=>Fm _ (Fm _ e)
end
def exO(n:Bool)(x C:Addr)(od:Option Addr):HO:= .ext λh=>∃vs sl,h.get? x=some ⟨.ref C,od,.fields vs,sl⟩/\(n=true->∃t,vs=#[.ref t,.none,.none,.none,.bool false,.none])
open Sem (wp)
def pI(C:Addr)(H₀:Hp)(EE:St->XK):St->Addr->Hp->Prop:=λσ x H2=>∃od,H2 x=some (exO true x C od)/\H₀ x=none/\EE σ (.ref C) (some x) (upd H2 x (exO false x C od))
theorem Jcq{w:World}{k:Key}{u:Value}(h:(Be P w).is k u=true):B1 (kV k) u:=by
 cases k with
 | inl i=>
  cases u <;> first | (exact absurd h (by intro z;cases z)) | skip
  rename_i j t
  have e:j=i:=by simpa [Be,Oe,Value.isInt] using h
  exact⟨t,by rw[e]⟩
 | inr x=>
  cases u <;> first | (exact absurd h (by intro z;cases z)) | skip
  rename_i j t
  have e:j=x:=by simpa [Be,Oe,Value.isStrOf] using h
  exact⟨t,by rw[e]⟩
theorem V4:∀{xs:List V}{us:List Value},B3 xs us->∀{i:Nat}{u:Value},us[i]?=some u->∃x,xs[i]?=some x/\B1 x u
 | _,_,.cons r t,0,u,e=>by cases e;exact⟨_,rfl,r⟩
 | _,_,.cons r t,i+1,u,e=>V4 t (i:=i) e
theorem J02:∀{xs:List V}{us:List Value},xs.length=us.length->(∀(j:Nat) (u:Value),us[j]?=some u->∃x,xs[j]?=some x/\B1 x u)->B3 xs us
 | [],[],_,_=> .nil
 | x::xs,u::us,hl,h=>by
  obtain⟨y,e,r⟩:=h 0 u rfl;cases e;exact .cons r (J02 (by simpa using hl) λj v e=>h (j+1) v e)
theorem Me{β:Type}{F:α->β->Prop}:∀{l:List α}{m:List β},Paired F l m->∀{i:Nat}{b:β},m[i]?=some b->∃a,l[i]?=some a/\F a b
 | _,_,.cons r t,0,b,e=>by cases e;exact⟨_,rfl,r⟩
 | _,_,.cons r t,i+1,b,e=>Me t (i:=i) e
theorem Se{β:Type}(f:α->β):∀(l:List α) (i:Nat),(l.map f).eraseIdx i=(l.eraseIdx i).map f
 | [],_=>rfl
 | _::_,0=>rfl
 | a::l,i+1=>by rw[List.map_cons,J3,J3,List.map_cons,Se f l i]
theorem V5(z:Str):∀l:List Str,l.eraseIdx (l.idxOf z)=l.erase z
 | []=>rfl
 | a::l=>by
  by_cases h:a=z
  . subst h;simp
  . have e:(a::l).idxOf z=l.idxOf z+1:=by rw[List.idxOf_cons,show (a==z)=false from beq_false_of_ne h];rfl
    rw[e,J3,V5 z l,List.erase_cons_tail (by simpa using h)]
def V6(v d:Addr):HO:= .ext λh=>h.IsValuesView v d
theorem J1i:∀(is:List Int),preSum (λi=>is.getD i 0) is.length=is.sum:=by
 intro is
 have key:∀n,n<=is.length->preSum (λi=>is.getD i 0) n=(is.take n).sum:=by
  intro n
  induction n with
  | zero=>intro _;rfl
  | succ n ih=>
   intro h
   have e:is.take (n+1)=is.take n++[is.getD n 0]:=by
    rw[Ha,Fc,Fb (by omega)];rfl
   rw[preSum,ih (by omega),e,HQ];simp
 have:=key is.length (Fg _)
 rwa [HU]at this
def J4m:List V->Hp->VK->Prop:=λxs H Q=>∃a kvs,xs=[.ref a]/\H a=some (.dK kvs)/\∀l,H l=none->Q (.ref l) (upd H l (.lst (kvs.map λp=>kV p.1)))
def J03:V->List V->Hp->VK->Prop:=λx vs H Q=>∃a kvs,x= .ref a/\vs=[]/\H a=some (.dK kvs)/\∀v,H v=none->Q (.ref v) (upd H v (V6 v a))
def J9h:List V->Hp->VK->Prop:=λxs H Q=>∃(v d:Addr) (kvs:List (Key×V)) (is:List Int),xs=[.ref v]/\H v=some (V6 v d)/\H d=some (.dK kvs)/\kvs.map (·.2)=is.map V.int/\Q (.int is.sum) H
def J04:V->List V->Hp->VK->Prop:=λx vs H Q=>∃(l:Addr) (ys:List Str) (z:Str),x= .ref l/\vs=[.str z]/\H l=some (.lst (ys.map V.str))/\z∈ys/\Q .non (upd H l (.lst ((ys.erase z).map V.str)))
section
variable {X:Cx}
theorem Q1(hc:X.calm=true):Gj X (.type "list") J4m:=by
 intro pins s σ H xs us Q I r h;obtain⟨a,kvs,rfl,ha,q⟩:=h;obtain⟨u,rfl,rx⟩:=Mm r;cases rx;obtain⟨z,lo,ws,rel,ob,es,ep,e1,e2⟩:=I.hok a _ ha
 have dat:s.heap.DictAt (Be X.prog X.w) a ws ep:=⟨ob,es,e1,e2⟩
 refine PySem.W.kdl_call (PySem.W.kdl_dict (knd:=Be X.prog X.w) (kvs:=ws) (ep:=ep) lo) (I.ok.hd hc) dat (by rw[<- rel.length];exact z) λh' tk acc c' kp e hi=>?_
 have hv:B3 (kvs.map λp=>kV p.1) acc.toList:=by
  have h1:=hi.1;have h2:=rel.length;refine J02 (by rw[Fa];exact h2.trans (h1.symm.trans (RN (xs:=acc)).symm)) λj u ej=>?_;obtain⟨k,x,ek,hk⟩:=hi.2 j u (by rw[<- Array.getElem?_toList];exact ej);obtain⟨p,ep',hp⟩:=Me rel ek;exact⟨kV p.1,by rw[Fe,ep'];rfl,by rw[hp.1];exact Jcq hk⟩
 refine⟨.ref s.heap.objs.size,_,I.laid (t':=tk) kp (Fg _) (show Bu X.prog X.w _ h' _ (.lst (kvs.map λp=>kV p.1)) from ⟨by rw[Fa];exact z,acc.toList,c',hv,?_⟩),rfl,q _ I.fresh⟩;rw[Array.toArray_toList];exact e
theorem J1j:MtM X "dict.values" J03:=by
 intro pins s σ H x vs v us Q I rx rv h;obtain⟨a,kvs,rfl,rfl,ha,q⟩:=h;cases rx;have hus:=rv.zero;subst hus;obtain⟨z,lo,ws,rel,dd⟩:=I.hok a _ ha;refine RO PySem.F.slot_dict_values dd.typeIs PySem.F.entry_dict_values (PySem.F.args_dict_values_1 _) (meets_dict_values (Be X.prog X.w) a lo) ⟨⟨ws,dd⟩,?_⟩;refine⟨.ref s.heap.objs.size,_,I.laid (t':=s.toks) (λb o e=>Fm _ e) (Fg _) (show Bu X.prog X.w _ _ _ (V6 s.heap.objs.size a) from ⟨⟨_,FK _ rfl,rfl,rfl⟩,⟨_,FK _ rfl⟩,λh1 h2 ⟨o,e1,e2⟩ k=>⟨o,k _ e1,e2⟩⟩),rfl,q _ I.fresh⟩
theorem J1k(hc:X.calm=true):Gj X (.builtin "sum") J9h:=by
 intro pins s σ H xs us Q I r h;obtain⟨v,d,kvs,is,rfl,hv,hd,hm,q⟩:=h;obtain⟨u,rfl,rx⟩:=Mm r;cases rx;obtain⟨z,lo,ws,rel,ob,es,ep,e1,e2⟩:=I.hok d _ hd
 have dat:s.heap.DictAt (Be X.prog X.w) d ws ep:=⟨ob,es,e1,e2⟩
 have hvw:s.heap.IsValuesView v d:=(I.hok v _ hv).1;have src:=PySem.W.kdl_values (prog:=X.prog) (w:=X.w) (r:=v) (d:=d) (knd:=Be X.prog X.w) (kvs:=ws) (ep:=ep)
 have hlen:ws.length=is.length:=by
  have:=congrArg List.length hm;simp only[Fa]at this;rw[<- rel.length];exact this
 refine call_sum_walkAnyS ?_;obtain⟨oI,St,hit,W,st⟩:=src.iter X.A.in1 s (I.ok.hd hc) ⟨hvw,dat⟩;refine hit _ _ ⟨s.heap.objs.size,_,_,_,_,_,_,λi=>is.getD i 0,rfl,W.toS,st,λb hb=>?_,λi u hp=>?_,λs' t' hmv=>?_⟩
 . show b < (s.heap.push oI).objs.size
   rw[size_push'];rcases Ft.mp hb with e | hb
   . rw[e];exact Hz _
   . rw[Fj.mp hb];exact RX (Fq e1)
 . obtain⟨k,ek⟩:=hp
   obtain⟨p,ep',hp'⟩:=Me rel ek
   have e3:(kvs.map (·.2))[i]?=some p.2:=by rw[Fe,ep'];rfl
   rw[hm,Fe]at e3
   cases hi:is[i]? with
   | none=>rw[hi]at e3;cases e3
   | some n=>
    rw[hi]at e3;have e4:V.int n=p.2:=FG e3;have r2:=hp'.2;rw[<- e4]at r2;show ∃t,u=Value.int (is.getD i 0) t;rw[Fc,hi];exact r2
 . have hk:∀b o,s.heap.get? b=some o->s'.heap.get? b=some o:=λb o e=>
    hmv.heap b o (λhI=>absurd (Fq e) (by rw[Fj.mp hI];exact Hn _)) (Fm _ e)
   rw[Moved.eq_with hmv];refine⟨.int is.sum,H,I.kept (t':=s'.toks) hk,⟨t',?_⟩,q⟩;rw[hlen,J1i]
theorem Lb:MtM X "list.remove" J04:=by
 intro pins s σ H x vs v us Q I rx rv h;obtain⟨l,ys,z,rfl,rfl,hH,hz,q⟩:=h;cases rx;obtain⟨u,rfl,ru⟩:=rv.one;obtain⟨t,rfl⟩:=ru;obtain⟨hs,its,n,r,hl,e⟩:=I.lstM hH;have hj:ys.idxOf z < ys.length:=List.idxOf_lt_length_iff.mpr hz
 have at_:∀(m:Nat) (u:Value),its[m]?=some u->∃y t,ys[m]?=some y/\u= .str y t:=λm u em=>by
  obtain⟨x,ex,rx⟩:=V4 r em;rw[Fe]at ex
  cases hy:ys[m]? with
  | none=>rw[hy]at ex;cases ex
  | some y=>
   rw[hy]at ex;cases ex;obtain⟨t,e⟩:=rx;exact⟨y,t,rfl,e⟩
 have ev:∀y,y∈its.toArray->MeetsSeq.EqGives y (.str z t) (PyProof.Rows.isStrOf z y):=λy hy=>by
  obtain⟨m,hm⟩:=FC.mp (by simpa using hy)
  obtain⟨y',t',_,rfl⟩:=at_ m y hm
  exact eqGives_str y' z t' t
 have hit:∀(m:Nat) (hm:m < its.toArray.size),∃y t,ys[m]?=some y/\its.toArray[m]= .str y t:=λm hm=>at_ m _ (by simp)
 refine call_meets F.slot_list_remove ⟨_,e,rfl⟩ F.entry_list_remove (F.args_list_remove_2 _ _) (MeetsSeq.list_remove l its.toArray n (.str z t) (isStrOf z) ev (ys.idxOf z) (by rw[Fn,<- hl,Fa];exact hj) ?_ ?_ (by rw[Fn];omega)) ⟨e,?_⟩
 . obtain⟨y,t',h1,h2⟩:=hit (ys.idxOf z) (by rw[Fn,<- hl,Fa];exact hj)
   rw[h2]
   have e3:ys[ys.idxOf z]?=some z:=by rw[Fb hj,List.getElem_idxOf hj]
   rw[e3]at h1;cases h1;simp[isStrOf]
 . intro m hm hlt
   obtain⟨y,t',h1,h2⟩:=hit m hm;rw[h2];have e3:(ys[m]'(by omega)==z)=false:=List.not_of_lt_findIdx hlt;rw[Fb (by omega)]at h1;cases h1;exact e3
 . refine⟨.non,_,I.lset (its':=its.eraseIdx (ys.idxOf z)) hH e ?_ (ys:=(ys.erase z).map V.str) ?_ ?_,rfl,q⟩
   . rw[List.eraseIdxIfInBounds_toArray]
   . have:=r.eraseIdx (ys.idxOf z)
     have e5:(ys.map V.str).eraseIdx (ys.idxOf z)=(ys.erase z).map V.str:=by
      rw[Se,V5]
     rw[e5]at this;exact this
   . have:=RJ (a:=z) (l:=ys)
     rw[Fa]at hs ⊢;omega
end
section
variable {σ:St}{H:Hp}{Q:VK}{xs:List V}{x y:V}
theorem V7{ty:TE}:J38 td ty σ H Q=td σ H λx H1=>∃a,x= .ref a/\IsD H1 a/\ty σ H1 λy H2=>∃kvs k v,H2 a=some (.dK kvs)/\y=kV k/\Aw kvs k=some v/\Q v (upd H2 a (.dK (Cr kvs k))):=rfl
theorem V8{ty tx:TE}:J37 td ty tx σ H Q=td σ H λx H1=>∃a,x= .ref a/\IsD H1 a/\ty σ H1 λy H2=>tx σ H2 λz H3=>∃o,Cp H3 a y o/\Q (o.getD z) H3:=rfl
theorem V9:J31 x xs H Q=∃l ys i k y,x= .ref l/\xs=[.int i]/\H l=some (.lst ys)/\-(2 ^ 63)<=i/\i < 2 ^ 63/\seqIndex? i ys.length=some k/\ys[k]?=some y/\Q y (upd H l (.lst (ys.eraseIdx k))):=rfl
theorem Va:J4m xs H Q=∃a kvs,xs=[.ref a]/\H a=some (.dK kvs)/\∀l,H l=none->Q (.ref l) (upd H l (.lst (kvs.map λp=>kV p.1))):=rfl
theorem Sf:J03 x xs H Q=∃a kvs,x= .ref a/\xs=[]/\H a=some (.dK kvs)/\∀v,H v=none->Q (.ref v) (upd H v (V6 v a)):=rfl
theorem J05:J9h xs H Q=∃(v d:Addr) (kvs:List (Key×V)) (is:List Int),xs=[.ref v]/\H v=some (V6 v d)/\H d=some (.dK kvs)/\kvs.map (·.2)=is.map V.int/\Q (.int is.sum) H:=rfl
theorem Sg:J04 x xs H Q=∃(l:Addr) (ys:List Str) (z:Str),x= .ref l/\xs=[.str z]/\H l=some (.lst (ys.map V.str))/\z∈ys/\Q .non (upd H l (.lst ((ys.erase z).map V.str))):=rfl
end
end L2
namespace N1
open PySem L2
def Bx:List Nat:=List.range' 97 26
def Dd:List Nat:=List.range' 48 10
theorem Vb:(Str.ofString "abcdefghijklmnopqrstuvwxyz").cps.toList=Bx:=by decide+kernel
theorem J4n:(Str.ofString "0123456789").cps.toList=Dd:=by decide+kernel
theorem J1l:(Str.ofString "abcdefghijklmnopqrstuvwxyz0123456789").cps.toList=Bx++Dd:=by decide+kernel
theorem Vc:(Bx++Dd).length=36:=by decide
def J4o(l:List Nat)(s:List Nat):Bool:=match l with
 | []=>false
 | c::_=>decide (c∈s)
def Dr(l:List Nat):Bool:=decide (1<=l.length) && decide (l.length<=8) && J4o l Bx && l.all λc=>decide (c∈Bx++Dd)
open PySem L2
def tx(l:List Nat):Str:=⟨l.toArray⟩
theorem Ku{l:List Nat}:(tx l).cps.toList=l:=by simp[tx]
theorem Jdd{z:Str}:tx z.cps.toList=z:=by cases z;simp[tx]
theorem J9i{a b:List Nat}(h:tx a=tx b):a=b:=by rw[<- Ku (l:=a),h,Ku]
theorem J06{a b:List Nat}:tx a++tx b=tx (a++b):=by
 have h:=Ux (a:=tx a) (b:=tx b);rw[Ku,Ku]at h;rw[<- Jdd (z:=tx a++tx b),h]
theorem Vd{l:List Nat}:(tx l).length=l.length:=by rw[<- Tj,Ku]
theorem Jcr{c:Nat}:(⟨#[c]⟩:Str)=tx [c]:=rfl
theorem Ve:(Str.ofString "abcdefghijklmnopqrstuvwxyz0123456789").length=36:=by decide+kernel
def bc(i:Int):Nat:=(Bx++Dd).getD i.toNat 0
theorem J07(i:Int){k:Int}(h0:0 < k)(h1:k<=36):atI (Str.ofString "abcdefghijklmnopqrstuvwxyz0123456789").cps.toList (i % k)=some (bc (i % k)):=by
 have h2:=HV i h0;have h3:=HW i (show k≠0 by omega);refine X7 h3 ?_
 have h4:(i % k).toNat < (Bx++Dd).length:=by rw[Vc];omega
 unfold bc;rw[J1l,Fc,Fb h4];rfl
open L2
def Oz(K:PySem.W.Frag):Sp:=λvs H Q _=>∃(a:Addr) (ns:List Int) (k:Int),vs=[.ref a,.int k]/\SqL K H a (ns.map V.int)/\0<=k/\ns.length<=63/\Q (.int (ns.getD k.toNat 0)) H
def P0:Sp:=λvs H Q _=>∃(z w:Str),vs=[.str z,.str w]/\z.length<=sizeLine/\∀H',A7 H H'->Q (.bl (z.cps.toList.all λc=>decide (c∈w.cps.toList))) H'
def Iw(K:PySem.W.Frag):Sp:=λvs H Q _=>∃(x:V),vs=[x]/\((∃z:Str,x= .str z/\z.length<=sizeLine/\∀H',A7 H H'->Q (.bl (Dr z.cps.toList)) H')\/(Isi K H x "str" false/\Q (.bl false) H))
open L2
inductive StE where
 | noname | twice | nonum | many
def nOk:V->Bool
 | .str z=>Dr z.cps.toList
 | _=>false
def sOf:V->Str
 | .str z=>z
 | _=>Str.empty
def wIn(lo hi:Int):V->Bool
 | .int i=>decide (lo<=i) && decide (i<=hi)
 | _=>false
abbrev Rw:=Addr×V×V×V
def Vf(ks:List Str)(n c r:V):Option StE:=if nOk n=false then some .noname else if sOf n∈ks then some .twice else if wIn 0 (10 ^ 30) c=false then some .nonum else if wIn 1 1000 r=false then some .nonum else none
def Kv(ks:List Str):List Rw->Option StE
 | []=>none
 | t::rs=>match Vf ks t.2.1 t.2.2.1 t.2.2.2 with
  | some e=>some e
  | none=>Kv (ks++[sOf t.2.1]) rs
def Vg(rs:List Rw):Option StE:=if 60 < rs.length then some .many else Kv [] rs
theorem J7n{K:PySem.W.Frag}{H:Hp}{v:V}(h:Em v=true):∃b c,Isi K H v "int" b/\(b=true->Isi K H v "bool" c)/\((b && !c)=true->∃i,v= .int i)/\((b && !c)=false->∀i,v≠ .int i):=by
 cases v with
 | non=>exact⟨false,false,J3g,λh=>by (cases h),λh=>by (cases h),λ_ i h=>by cases h⟩
 | bl b=>exact⟨true,true,J3e,λ_=>X6,λh=>by (cases h),λ_ i h=>by cases h⟩
 | int i=>exact⟨true,false,J3c,λ_=>J3d,λ_=>⟨i,rfl⟩,λh=>by cases h⟩
 | str z=>exact⟨false,false,J3f,λh=>by (cases h),λh=>by (cases h),λ_ i h=>by cases h⟩
 | _=>cases h
def Ez(K:PySem.W.Frag):Sp:=λvs H Q _=>∃(x:V) (b c:Bool),vs=[x]/\Isi K H x "int" b/\(b=true->Isi K H x "bool" c)/\Q (.bl (b && !c)) H
def Lc(K:PySem.W.Frag):Sp:=λvs H Q _=>∃(v:V) (lo hi:Int),vs=[v,.int lo,.int hi]/\Em v=true/\Q (.bl (wIn lo hi v)) H
def SameBut(p:Addr)(H H':Hp):Prop:=∀b o,H b=some o->b≠p->H' b=some o
theorem SameBut.trans{p:Addr}{H:Hp}(h1:SameBut p H H1)(h2:SameBut p H1 H2):SameBut p H H2:=λb o e n=>h2 b o (h1 b o e n) n
theorem SameBut.of{p:Addr}{H:Hp}(h:A7 H H1):SameBut p H H1:=λb o e _=>h b o e
theorem Vh{p:Addr}{H:Hp}{o:HO}:SameBut p H (upd H p o):=λb u e n=>by rw[A2 n];exact e
abbrev Th:=Str×Int×Int
def flds(d:Addr):List (Str×V):=Aa "things" (.ref d) []
structure Av(K:PySem.W.Frag)(C:Addr)(H:Hp)(p:Addr)(ts:List Th):Prop where
 ex:∃(dx d:Addr) (kvs:List (Key×V)),H p=some (.ins C dx (flds d))/\H d=some (.dK kvs)/\kvs.map (·.1)=ts.map (λt=>Sum.inr t.1)/\
  ∀(i:Nat) (t:Th),ts[i]?=some t->∃a,kvs[i]?=some (Sum.inr t.1,.ref a)/\SqT K H a [.int i,.int t.2.1,.int t.2.2]
theorem Av.same{K:PySem.W.Frag}{C:Addr}{H:Hp}{p:Addr}{ts:List Th}(s:A7 H H')(h:Av K C H p ts):Av K C H' p ts:=by
 obtain⟨dx,d,kvs,h1,h2,h3,h4⟩:=h.ex;refine⟨dx,d,kvs,s _ _ h1,s _ _ h2,h3,λi t e=>?_⟩;obtain⟨a,e1,e2⟩:=h4 i t e;exact⟨a,e1,s.tup e2⟩
def iOf:V->Int
 | .int i=>i
 | _=>0
def J7o(t:Rw):Th:=(sOf t.2.1,iOf t.2.2.1,iOf t.2.2.2)
theorem SqT.but{K:PySem.W.Frag}{H:Hp}{p a C:Addr}{fs:List (Str×V)}{xs:List V}(s:SameBut p H H')(hp:H p=some (.ins C dx fs))(h:SqT K H a xs):SqT K H' a xs:=by
 rcases h with (h | ⟨o,h⟩) | h
 . exact .inl (.inl (s _ _ h (Bt h hp (by intro z;cases z))))
 . exact .inl (.inr ⟨o,s _ _ h (Bt h hp (by intro z;cases z))⟩)
 . exact .inr h
theorem SqL.but{K:PySem.W.Frag}{H:Hp}{p a C:Addr}{fs:List (Str×V)}{xs:List V}(s:SameBut p H H')(hp:H p=some (.ins C dx fs))(h:SqL K H a xs):SqL K H' a xs:=by
 rcases h with (h | ⟨o,h⟩) | h
 . exact .inl (.inl (s _ _ h (Bt h hp (by intro z;cases z))))
 . exact .inl (.inr ⟨o,s _ _ h (Bt h hp (by intro z;cases z))⟩)
 . exact .inr h
theorem N3{ks:List Str}{z:Str}(h:kvs.map (·.1)=ks.map Sum.inr):(Aw kvs (Sum.inr z)).isSome=decide (z∈ks):=by
 have e:(Sum.inr z:Key)∈kvs.map (·.1)↔z∈ks:=by
  rw[h,FH];constructor
  . rintro⟨a,ha,e⟩;injection e with e;subst e;exact ha
  . intro h;exact⟨z,h,rfl⟩
 cases hv:Aw kvs (Sum.inr z:Key) with
 | none=>rw[Fk λq=>J3a hv (e.mpr q)];rfl
 | some v=>rw[Fi (e.mp (J79 hv))];rfl
theorem Di{d:Addr}:(flds d).lookup ("things":Str)=some (V.ref d):=by
 unfold flds;rw[B0,if_pos rfl]
theorem Si{ks:List Str}{n co r:V}(h:Vf ks n co r=none):∃z c q,n= .str z/\co= .int c/\r= .int q/\¬z∈ks/\Dr z.cps.toList=true/\0<=c/\c<=10 ^ 30/\1<=q/\q<=1000:=by
 unfold Vf at h;split at h
 . cases h
 rename_i h1;split at h
 . cases h
 rename_i h2;split at h
 . cases h
 rename_i h3;split at h
 . cases h
 rename_i h4
 cases n with
 | str z=>
  cases co with
  | int c=>
   cases r with
   | int q=>
    simp only[wIn,Bool.and_eq_false_iff,decide_eq_false_iff_not,not_or,Decidable.not_not]at h3 h4;exact⟨z,c,q,rfl,rfl,rfl,h2,by simpa [nOk] using h1,h3.1,h3.2,h4.1,h4.2⟩
   | _=>exact absurd rfl h4
  | _=>exact absurd rfl h3
 | _=>exact absurd rfl h1
theorem Vi{ks:List Str}{rs:List Rw}{i:Nat}{t:Rw}(h:rs[i]?=some t):Kv ks (rs.drop i)=match Vf ks t.2.1 t.2.2.1 t.2.2.2 with
 | some e=>some e
 | none=>Kv (ks++[sOf t.2.1]) (rs.drop (i+1)):=by
 have e:rs.drop i=t::rs.drop (i+1):=by
  obtain⟨hi,rfl⟩:=Fd.mp h;exact List.drop_eq_getElem_cons hi
 rw[e];rfl
def Kj(rs:List Rw):List Str:=rs.map λt=>sOf t.2.1
structure J08(K:PySem.W.Frag)(H:Hp)(d:Addr)(rs:List Rw):Prop where
 ex:∃kvs:List (Key×V),H d=some (.dK kvs)/\kvs.map (·.1)=(Kj rs).map Sum.inr/\∀(j:Nat) (t:Rw),rs[j]?=some t->∃a,kvs[j]?=some (Sum.inr (sOf t.2.1),.ref a)/\SqT K H a [.int j,.int (iOf t.2.2.1),.int (iOf t.2.2.2)]
theorem J08.snoc{K:PySem.W.Frag}{H:Hp}{d a:Addr}{rs:List Rw}{t:Rw}{c q:Int}{z:Str}(h1:H d=some (.dK kvs))(h2:kvs.map (·.1)=(Kj rs).map Sum.inr)
 (h3:∀(j:Nat) (t:Rw),rs[j]?=some t->∃a,kvs[j]?=some (Sum.inr (sOf t.2.1),.ref a)/\SqT K H a [.int j,.int (iOf t.2.2.1),.int (iOf t.2.2.2)])
 (e1:t.2.1= .str z) (e2:t.2.2.1= .int c) (e3:t.2.2.2= .int q) (nz:¬z∈Kj rs) (ha:H a=some (.tup [.int kvs.length,.int c,.int q])):
 J08 K (upd H d (.dK (Ct kvs (Sum.inr z) (.ref a)))) d (rs++[t]):=by
 have hl:kvs.length=rs.length:=by
  have:=congrArg List.length h2
  simpa [Kj] using this
 have hv:Aw kvs (Sum.inr z:Key)=none:=by
  have:=N3 (z:=z) h2;rw[Fk nz]at this
  cases h:Aw kvs (Sum.inr z:Key) with
  | none=>rfl
  | some v=>rw[h]at this;cases this
 have J4l:∀{b:Addr}{xs:List V}{o:List (Key×V)},SqT K H b xs->SqT K (upd H d (.dK o)) b xs:=λ{b xs o} h=>by
  rcases h with (h | ⟨o',h⟩) | h
  . exact .inl (.inl (by rw[A2 (Bt h h1 (by intro z;cases z))];exact h))
  . exact .inl (.inr ⟨_,by rw[A2 (Bt h h1 (by intro z;cases z))];exact h⟩)
  . exact .inr h
 refine⟨_,A1,?_,λj t' hj=>?_⟩
 . rw[Kr _ hv,Fo,h2]
   simp[Kj,e1,sOf]
 . rw[Kr _ hv]
   by_cases hlt:j < rs.length
   . rw[FD hlt]at hj
     obtain⟨b,e,hb⟩:=h3 j t' hj;exact⟨b,by rw[FD (by omega)];exact e,J4l hb⟩
   . rw[Fz (by omega)]at hj
     have hj0:j - rs.length=0:=by
      have:=(Fd.mp hj).1;simp at this;omega
     rw[hj0]at hj;cases hj
     have ej:j=rs.length:=by omega
     subst ej;refine⟨a,?_,?_⟩
     . rw[<- hl,Fz (by omega)];simp[e1,sOf]
     . rw[e2,e3]
       refine J4l (SqT.of ?_);rw[ha,hl];rfl
end N1
variable {ts:List N1.Th}
namespace L2
section
variable {X:Cx}{pins:List (Addr×Obj)}{σ:St}{H:Hp}{s:Shared}
theorem N7{c:Const}{j pos}{es:List Expr}{te:TE}{t:TA}(ha:PE X (.Constant c j pos) te)(hr:PA X es t):PA X (.Constant c j pos::es) (Y3 te t):=A0 ha hr rfl
theorem Gs{o j}{a b:Expr}{es:List Expr}{te:TE}{t:TA}(ha:PE X (.BinOp a o b j) te)(hr:PA X es t):PA X (.BinOp a o b j::es) (Y3 te t):=A0 ha hr rfl
end
theorem J09{o i v:V}{H:Hp}{Q:Hp->Prop}:J8y o i v H Q=∃p xs k j,o= .ref p/\i= .int k/\H p=some (.lst xs)/\ixN xs.length k=some j/\Q (upd H p (.lst (xs.set j v))):=rfl
end L2
namespace N5
open L2 N1
def md(j:Nat):Int:=if j=0 then 26 else 36
def sgn(F:Nat->Int)(at':Int)(k j:Nat):Nat:=bc ((F j+if (j:Int)=at' then (k:Int) else 0) % md j)
def nmL(F:Nat->Int)(at':Int)(long k:Nat):List Nat:=(List.range long).map (sgn F at' k)
theorem J4p{i:Int}:bc (i % 26)∈Bx:=by
 have h1:=HW i (show (26:Int)≠0 by decide);have h2:=HV i (show (0:Int) < 26 by decide);unfold bc;generalize i % 26=x at *
 have h3:x.toNat < Bx.length:=by simp[Bx];omega
 rw[Fc,FD h3,Fb h3];exact Hr h3
theorem J7p{i:Int}:bc (i % 36)∈Bx++Dd:=by
 have h1:=HW i (show (36:Int)≠0 by decide);have h2:=HV i (show (0:Int) < 36 by decide);unfold bc;generalize i % 36=x at *
 have h3:x.toNat < (Bx++Dd).length:=by rw[Vc];omega
 rw[Fc,Fb h3];exact Hr h3
theorem Tn{x y:Int}(hx0:0<=x)(hx:x < 36)(hy0:0<=y)(hy:y < 36)(h:bc x=bc y):x=y:=by
 have key:∀a:Fin 36,∀b:Fin 36,(Bx++Dd).getD a.val 0=(Bx++Dd).getD b.val 0->a=b:=by decide+kernel
 have:=key ⟨x.toNat,by omega⟩ ⟨y.toNat,by omega⟩ h;have:=congrArg Fin.val this;simp at this;omega
theorem Vj{F:Nat->Int}{at':Int}{long k:Nat}(h1:1<=long)(h2:long<=8):Dr (nmL F at' long k)=true:=by
 obtain⟨n,rfl⟩:∃n,long=n+1:=⟨long - 1,by omega⟩
 have hall:∀c∈nmL F at' (n+1) k,c∈Bx++Dd:=by
  intro c hc;obtain⟨j,_,rfl⟩:=FH.mp hc
  have hm:md j=26\/md j=36:=by unfold md;split <;> simp
  unfold sgn
  rcases hm with hm | hm <;> rw[hm]
  . exact Hf _ J4p
  . exact J7p
 have hl:(nmL F at' (n+1) k).length=n+1:=by simp[nmL]
 have hh:J4o (nmL F at' (n+1) k) Bx=true:=by
  unfold nmL;rw[RB,List.map_cons];show decide (sgn F at' k 0∈Bx)=true;rw[decide_eq_true_eq];unfold sgn md;rw[if_pos rfl];exact J4p
 unfold Dr;rw[hl,hh,Fi h1,Fi h2];simp only[Bool.true_and];exact Ra.mpr λc hc=>Fi (hall c hc)
theorem J7q{F:Nat->Int}{at':Int}{long k k':Nat}(h0:0<=at')(h1:at' < long)(hk:k < 26)(hk':k' < 26)(h:nmL F at' long k=nmL F at' long k'):k=k':=by
 have hl:at'.toNat < long:=by omega
 have e:=congrArg (λl=>l[at'.toNat]?) h;simp only[nmL,Fe,FS hl,R5,Option.some.injEq]at e;unfold sgn at e;rw[if_pos (by omega),if_pos (by omega)]at e
 have hm:md at'.toNat=26\/md at'.toNat=36:=by unfold md;split <;> simp
 rcases hm with hm | hm <;> rw[hm]at e
 . have:=Tn (by omega) (by omega) (by omega) (by omega) e
   omega
 . have:=Tn (by omega) (by omega) (by omega) (by omega) e
   omega
def nms(F:Nat->Int)(at':Int)(long m:Nat):List Str:=(List.range m).map λk=>tx (nmL F at' long k)
theorem J1m{F:Nat->Int}{at':Int}{long m:Nat}(h0:0<=at')(h1:at' < long)(hm:m<=26):(nms F at' long m).Nodup:=by
 unfold nms List.Nodup;rw[RY];refine List.Pairwise.imp_of_mem (R:=λa b=>a≠b) ?_ List.nodup_range;intro a b ha hb ne e;have ha:=He.mp ha;have hb:=He.mp hb;exact ne (J7q h0 h1 (by omega) (by omega) (J9i e))
theorem ne1:Str.ofString "no name"≠Str.ofString "nothing":=by decide+kernel
theorem Ei{H:Hp}{x C:Addr}(hx:H x=none)(hd:H dx=none)(s:SameBut x (upd (upd H dx (.own x)) x (.ins C dx [])) H'):A7 H H':=λb o e=>by
 have n1:=Ac e hx;have n2:=Ac e hd;exact s b o (by rw[A2 n1,A2 n2];exact e) n1
theorem J4q{z:Str}(h:Dr z.cps.toList=true):z.length<=8:=by
 unfold Dr at h;simp only[Rl,decide_eq_true_eq]at h;have:=h.1.1.2;rw[Tj]at this;exact this
end N5
namespace L2
open N1 N5
section
variable {K:PySem.W.Frag}{tail:St}{te:Blk->TE}{Q:VK}{H1:Hp}
def J4r(P:V->Hp->Prop):Prop:=∀y H H' l zs,P y H->H l=some (.lst zs)->SameBut l H H'->P y H'
theorem Vk{lo:Int}{n:Nat}(P:Nat->V->Hp->Prop)(hP:∀i,J4r (P i))(hz:n<=sizeLine)(he:∀b (i:Nat) H Q',i < n->A7 H1 H->(∀y H',A7 H H'->P i y H'->Q' y H')->te b (some (.int (lo+i))::tail) H Q')
 (q:∀D ys H',H1 D=none->A7 H1 H'->H' D=some (.lst ys)->ys.length=n->(∀i y,ys[i]?=some y->P i y H')->Q (.ref D) H'):Bi (none::tail) (λ_=>By 0) (λ_=>Do) te Q (Itr lo n) H1:=by
 refine La n (λb D hD=>⟨λi ys H=>i<=n/\ys.length=i/\H D=some (.lst ys)/\A7 H1 H/\∀j y,ys[j]?=some y->P j y H,⟨FM _,rfl,A1,Bj hD,λj y e=>by simp at e⟩,?_,?_,?_⟩)
 . rintro i ys H ⟨hi,_,h,_⟩
   exact h
 . rintro ys H ⟨_,hl,h,sm,hall⟩
   exact⟨Fg _,q D ys H hD sm h hl hall⟩
 . rintro i ys H hi ⟨_,hl,h,sm,hall⟩
   refine⟨hi,λx H3 ⟨e3,ex⟩=>?_⟩;subst e3 ex;refine he b i _ _ hi sm λy H4 sm4 py=>?_;have h4:=sm4 _ _ h;have sb:SameBut D H4 (upd H4 D (.lst (ys++[y]))):=Vh;refine Gq h4 (by omega) hi ⟨hi,by rw[Fl,hl];rfl,A1,λc o e=>?_,λj y' e=>?_⟩
   . rw[A2 (Ac e hD)];exact sm4 _ _ (sm _ _ e)
   . by_cases hj:j < ys.length
     . rw[FD hj]at e
       have:=hall j y' e
       exact hP j _ _ _ _ _ this h λc o e n=>by rw[A2 n];exact sm4 _ _ e
     . rw[Fz (by omega)]at e
       have hj0:j=i:=by have:=(Fd.mp e).1;simp at this;omega
       subst hj0;rw[show j - ys.length=0 by omega]at e;cases e;exact hP j _ _ _ _ _ py h4 sb
end
end L2
namespace N4
open L2 N1 N5
def Ld(K:PySem.W.Frag):Sp:=λvs H Q _=>∃(n co r:V) (e:Addr) (kvs:List (Key×V)) (ks:List Str),vs=[n,co,r,.ref e]/\H e=some (.dK kvs)/\kvs.map (·.1)=ks.map Sum.inr/\Vf ks n co r=none/\∀H',A7 H H'->Q .non H'
def N8(K:PySem.W.Frag)(C:Addr):Sp:=λvs H Q _=>∃(p dx ra:Addr) (rs:List Rw),vs=[.ref p,.ref ra]/\H p=some (.ins C dx [])/\SqL K H ra (rs.map λt=>V.ref t.1)/\(∀t∈rs,SqT K H t.1 [t.2.1,t.2.2.1,t.2.2.2])/\Vg rs=none/\
 ∀H',SameBut p H H'->Av K C H' p (rs.map J7o)->Q .non H'
theorem Xf{rs:List Rw}(h:Vg rs=none):rs.length<=60/\Kv [] rs=none:=by
 unfold Vg at h;split at h
 . cases h
 . exact⟨by omega,h⟩
theorem O1{lo hi c:Int}(h1:lo<=c)(h2:c<=hi):wIn lo hi (.int c)=true:=by
 show (decide (lo<=c) && decide (c<=hi))=true;rw[Fi h1,Fi h2];rfl
theorem Sj:∀(rs:List Rw) (ks:List Str),(∀t∈rs,∃z c q,t.2.1= .str z/\t.2.2.1= .int c/\t.2.2.2= .int q/\Dr z.cps.toList=true/\0<=c/\c<=10 ^ 30/\1<=q/\q<=1000)->(ks++rs.map λt=>sOf t.2.1).Nodup->Kv ks rs=none
 | [],_,_,_=>rfl
 | t::rs,ks,h,nd=>by
  obtain⟨z,c,q,e1,e2,e3,hn,h1,h2,h3,h4⟩:=h t (Fy ..)
  have hz:¬z∈ks:=λhz=>by
   rw[List.map_cons,HM]at nd;exact nd.2.2 z hz (sOf t.2.1) (Fy ..) (by rw[e1];rfl)
  have r0:Vf ks t.2.1 t.2.2.1 t.2.2.2=none:=by
   unfold Vf;rw[e1,e2,e3];rw[if_neg (by show ¬Dr z.cps.toList=false;rw[hn];decide),if_neg (show ¬sOf (.str z)∈ks from hz),if_neg (by rw[O1 h1 h2];decide),if_neg (by rw[O1 h3 h4];decide)]
  unfold Kv;rw[r0];refine Sj rs _ (λt' ht=>h t' (Fh _ ht)) ?_;rw[HN];exact nd
theorem J4s{i:Nat}{k:Key}{v:V}(nd:(kvs.map (·.1)).Nodup)(e:kvs[i]?=some (k,v)):Aw kvs k=some v:=by
 induction kvs generalizing i with
 | nil=>rw[List.getElem?_nil]at e;cases e
 | cons p r ih=>
  cases i with
  | zero=>cases e;exact Co rfl
  | succ i=>
   rw[List.map_cons,Hm]at nd;have hm:(k,v)∈r:=Ff e;rw[Cc (λz=>nd.1 (by rw[z];exact List.mem_map_of_mem (f:=(·.1)) hm))];exact ih nd.2 e
theorem J1n{ks:List Str}(h:ks.Nodup):(ks.map (Sum.inr:Str->Key)).Nodup:=by
 unfold List.Nodup at *;rw[RY];exact h.imp λn e=>n (by injection e)
section
variable {K:PySem.W.Frag}{C:Addr}{H H':Hp}{p:Addr}{ts:List Th}{z:Str}
theorem Av.has(h:Av K C H p ts):∃dx d kvs,H p=some (.ins C dx (flds d))/\H d=some (.dK kvs)/\(kvs.map λq=>kV q.1)=ts.map (λt=>V.str t.1)/\(∀z,(Aw kvs (Sum.inr z)).isSome=decide (z∈ts.map (·.1)))/\
 ((ts.map (·.1)).Nodup->∀(i:Nat) (t:Th),ts[i]?=some t->∃a,Aw kvs (Sum.inr t.1)=some (.ref a)/\SqT K H a [.int i,.int t.2.1,.int t.2.2]):=by
 obtain⟨dx,d,kvs,h1,h2,h3,h4⟩:=h.ex
 have h3':kvs.map (·.1)=(ts.map (·.1)).map Sum.inr:=by rw[h3,FP];rfl
 refine⟨dx,d,kvs,h1,h2,?_,λz=>N3 h3',λnd i t e=>?_⟩
 . have:=congrArg (List.map kV) h3
   rw[FP,FP]at this;exact this
 . obtain⟨a,e1,e2⟩:=h4 i t e
   exact⟨a,J4s (by rw[h3'];exact J1n nd) e1,e2⟩
end
def To(K:PySem.W.Frag)(C:Addr):Sp:=λvs H Q _=>∃(p:Addr) (ts:List Th) (z:Str),vs=[.ref p,.str z]/\Av K C H p ts/\Q (.bl (decide (z∈ts.map (·.1)))) H
theorem J0a{z:Str}(h:z∈ts.map (·.1)):∃(i:Nat) (t:Th),ts[i]?=some t/\t.1=z:=by
 obtain⟨t,ht,e⟩:=FH.mp h;obtain⟨i,hi⟩:=FC.mp ht;exact⟨i,t,hi,e⟩
open L2 N1 N5
theorem Jay{j:Nat}:md j=26\/md j=36:=by unfold md;split <;> simp
theorem Jaz{x y:Int}{j:Nat}(h:bc (x % md j)=bc (y % md j)):x % md j=y % md j:=by
 rcases Jay (j:=j) with hm | hm <;> rw[hm]at h ⊢
 . exact Tn (by omega) (by omega) (by omega) (by omega) h
 . exact Tn (by omega) (by omega) (by omega) (by omega) h
def G2(F:Nat->Int)(at' be:Int)(k:Nat)(j:Nat):Int:=F j+(if (j:Int)=at' then (k:Int) % 26 else 0)+(if (j:Int)=be/\25 < k then (k:Int) / 26 else 0)
def nm2(F:Nat->Int)(at' be:Int)(long k:Nat):List Nat:=(List.range long).map λj=>bc (G2 F at' be k j % md j)
structure Xg(K:PySem.W.Frag)(H:Hp)(r:Addr)(as:List Addr)(ts:List Th):Prop where
 l:SqL K H r (as.map V.ref)
 n:as.length=ts.length
 m:ts.length<=60
 at_:∀(i:Nat) (a:Addr) (t:Th),as[i]?=some a->ts[i]?=some t->SqT K H a [.str t.1,.int t.2.1,.int t.2.2]
 ok:∀t∈ts,Dr t.1.cps.toList=true/\0<=t.2.1/\t.2.1<=10 ^ 30/\1<=t.2.2/\t.2.2<=1000
 nd:(ts.map (·.1)).Nodup
def J4t(a:Addr)(t:Th):Rw:=(a,.str t.1,.int t.2.1,.int t.2.2)
theorem Xg.init{K:PySem.W.Frag}{H:Hp}{r:Addr}(h:Xg K H r as ts):∃rs:List Rw,rs.map (λt=>V.ref t.1)=as.map V.ref/\(∀t∈rs,SqT K H t.1 [t.2.1,t.2.2.1,t.2.2.2])/\Vg rs=none/\rs.map J7o=ts:=by
 have hn:=h.n
 have gt:∀(i:Nat) (x:Addr×Th),(as.zip ts)[i]?=some x->as[i]?=some x.1/\ts[i]?=some x.2:=λi x e=>by
  rw[RV]at e;exact e
 have e1:((as.zip ts).map λx=>J4t x.1 x.2).map J7o=ts:=by
  rw[FP]
  have:(J7o∘λx:Addr×Th=>J4t x.1 x.2)=Prod.snd:=by funext x;rfl
  rw[this,List.map_snd_zip (by omega)]
 refine⟨(as.zip ts).map λx=>J4t x.1 x.2,?_,?_,?_,e1⟩
 . rw[FP]
   have:((λt:Rw=>V.ref t.1)∘λx:Addr×Th=>J4t x.1 x.2)=V.ref∘Prod.fst:=by funext x;rfl
   rw[this,<- FP,List.map_fst_zip (by omega)]
 . intro t ht
   obtain⟨x,hx,rfl⟩:=FH.mp ht;obtain⟨i,hi⟩:=FC.mp hx;obtain⟨h1,h2⟩:=gt i x hi;exact h.at_ i x.1 x.2 h1 h2
 . unfold Vg
   rw[if_neg (by rw[Fa,List.length_zip];have:=h.m;omega)];refine Sj _ _ (λt ht=>?_) ?_
   . obtain⟨x,hx,rfl⟩:=FH.mp ht
     obtain⟨i,hi⟩:=FC.mp hx;obtain⟨h1,h2⟩:=gt i x hi;obtain⟨o1,o2,o3,o4,o5⟩:=h.ok x.2 (Ff h2);exact⟨x.2.1,x.2.2.1,x.2.2.2,rfl,rfl,rfl,o1,o2,o3,o4,o5⟩
   . rw[List.nil_append,FP]
     have:((λt:Rw=>sOf t.2.1)∘λx:Addr×Th=>J4t x.1 x.2)=(λt:Th=>t.1)∘Prod.snd:=by funext x;rfl
     rw[this,<- FP,List.map_snd_zip (by omega)];exact h.nd
end N4
namespace L2
open PySem.W
def J9j(K:PySem.W.Frag):List V->Hp->VK->Prop:=λxs H Q=>∃(p:Addr) (is:List Int),xs=[.ref p]/\SqL K H p (is.map V.int)/\Q (.int is.sum) H
theorem J1o(is:List Int):preSum (λi=>is.getD i 0) is.length=is.sum:=by
 have key:∀n,n<=is.length->preSum (λi=>is.getD i 0) n=(is.take n).sum:=by
  intro n
  induction n with
  | zero=>intro _;rfl
  | succ n ih=>
   intro h
   have e:is.take (n+1)=is.take n++[is.getD n 0]:=by
    rw[Ha,Fc,Fb (by omega)];rfl
   rw[preSum,ih (by omega),e,HQ];simp
 have:=key is.length (Fg _)
 rwa [HU]at this
section
variable {X:Cx}
theorem O2(hc:X.calm=true):Gj X (.builtin "sum") (J9j X.K):=by
 intro pins s σ H xs us Q I r h;obtain⟨p,is,rfl,hp,q⟩:=h;obtain⟨u,rfl,ru⟩:=Mm r;cases ru;obtain⟨its,r,pl,hz⟩:=I.list hp
 have hlt:p < s.heap.objs.size:=by obtain⟨o,n,e,_⟩:=pl;exact Fq e
 have hlen:=r.length;rw[Fa]at hlen;refine call_sum_walkAnyS (RW pl.isList ⟨s.heap.objs.size,_,_,_,_,_,_,λi=>is.getD i 0,rfl,(Walks.list (show X.A.in1.handled=none from I.ok.hd hc) s.heap.objs.size p (FB hlt) its.toArray).toS,⟨⟨_,FK _ rfl,rfl,rfl⟩,pl.isList.push _⟩,λb hb=>?_,λi v hP=>?_,λs' t' hmv=>?_⟩)
 . show b < (s.heap.push _).objs.size
   rw[Jb];rcases Ft.mp hb with e | hb
   . rw[e];exact Hz _
   . rw[Fj.mp hb];exact RX hlt
 . have hP:its.toArray[i]?=some v:=hP
   have hi:i < is.length:=by
    have:=(Array.getElem?_eq_some_iff.mp hP).1;rw[Fn]at this;omega
   obtain⟨u,hu,ru⟩:=r.get (i:=i) (x:=V.int (is[i])) (by simp[hi])
   have e:u=v:=by
    have:its[i]?=some v:=by simpa using hP
    rw[hu]at this;exact FG this
   subst e;show ∃t,u=Value.int (is.getD i 0) t;rw[Fc,Fb hi];exact ru
 . have hk:∀b o,s.heap.get? b=some o->s'.heap.get? b=some o:=λb o e=>
    hmv.heap b o (λhI=>absurd (Fq e) (by rw[Fj.mp hI];exact Hn _)) (Fm _ e)
   rw[Moved.eq_with hmv];refine⟨.int is.sum,H,I.kept (t':=s'.toks) hk,⟨t',?_⟩,q⟩;rw[Fn,<- hlen,J1o]
end
section
variable {σ:St}{H:Hp}{Q:VK}{D:Kl}{K:PySem.W.Frag}{xs:List V}{x y:V}
theorem J0b:J9j K xs H Q=∃(p:Addr) (is:List Int),xs=[.ref p]/\SqL K H p (is.map V.int)/\Q (.int is.sum) H:=rfl
theorem J4u{f:Int->Int->Int}:ipI f x y H Q=∃i j,x= .int i/\y= .int j/\Q (.int (f i j)) H:=rfl
end
end L2
namespace N31
open L2 N1 N5
end N31
namespace L2
theorem Inv.turned2{H:Hp}{s:Shared}{fp:List Addr}(I:Inv X pins σ H s)(k:∀b o,b∉fp->s.heap.get? b=some o->h'.get? b=some o)(hf:∀it∈fp,E8 X pins H it):
 Inv X pins σ H {s with heap:=h',toks:=t'}:=by
 have nit:∀b u,H b=some u->b∉fp:=λb u e z=>by rw[(hf b z).1]at e;cases e
 refine I.step (g':=s.gens) (d':=s.drawn) (ch:=fp) (λb hb=>?_) (λb o _ _ hc e _=>k b o hc e) (λb o _ _ hc e _=>⟨o.slots,k b o hc e⟩) (λ_ _ _ _ n=>n)
  (λb o hc e=>⟨o,k b o hc e⟩) (λ_ _ e=>e) (λ_ _ _ e=>e) (λb ps e=>⟨#[],by rw[e];simp⟩) (λm hm=>?_) (λb u e=>?_) I.bare
 . obtain⟨_,h1,_,h2,h3,h4⟩:=hf b hb
   exact⟨h2,h1,h3,h4⟩
 . obtain⟨o,es,ep,ho,r⟩:=hm
   exact⟨o,es,ep,k _ o (λz=>(hf _ z).2.1 rfl) ho,r⟩
 . refine(I.hok b u e).stay (λc v hc q=>k c v ?_ q) (λ_ q=>q) λ_ _ q=>q
   rcases hc with z | z
   . rw[z];exact nit b u e
   . exact nit c _ z
def Ite(K:PySem.W.Frag)(a:Addr):It:=
 ⟨λi H=>∃xs x,SqL K H a xs/\xs[i]?=some x,λi H y H'=>∃t x,y= .ref t/\H t=none/\H'=upd H t (.tup [.int i,x])/\∀xs,SqL K H a xs->xs[i]?=some x,λi H=>∃xs,SqL K H a xs/\xs.length<=i⟩
def tnE(e it a:Addr)(i:Nat)(h:Heap):Prop:=(∃old,IsEnum h e it i old)/\h.IsListIter it a i
theorem J1p{w:World}{K:PySem.W.Frag}{es:List Expr}{k:Nat}{pos:Pos}(a e it:Addr)(ne:e≠it):J0z P w K (.Tuple es k pos) (Ite K a) [e,it] e (tnE e it a) where
 mem:=by simp
 obj:=λi h st b hb=>by
  obtain⟨⟨old,h1⟩,o,h2,c,d⟩:=st
  have hb:b=e\/b=it:=by simpa using hb
  rcases hb with rfl | rfl
  . exact⟨_,h1,λv z=>by cases z⟩
  . exact⟨o,h2,λv z=>by rw[d]at z;cases z⟩
 keep:=λi h h' st kk=>by
  obtain⟨⟨old,h1⟩,h2⟩:=st;exact⟨⟨old,kk e (by simp) _ h1⟩,h2.at λo q=>kk it (by simp) o q⟩
 item:=by
  intro X hP hw hK hc i pins s σ H E I hf st hg;subst hP hw hK;obtain⟨xs,x,hq,hx⟩:=hg;obtain⟨its,rv,p,hz⟩:=I.list hq;obtain⟨u,hu,ru⟩:=rv.get hx;obtain⟨⟨old,h1⟩,h2⟩:=st;have hlt:e < s.heap.objs.size:=Fq h1
  have hit:it < s.heap.objs.size:=by obtain⟨o,q,_⟩:=id h2;exact Fq q
  refine wpAny_pyNext_enum_item h1 h2 p.isList (x:=u) (by simpa using hu) ne λh' eo it' ht hs hk=>?_;refine⟨_,rfl,wpAny_letOwnedTupleGo_enum (s:={s with heap:=h',toks:=s.toks+1}) eo λh3 e3 sb=>?_⟩;have hf0:H s.heap.objs.size=none:=I.hok.fresh (Fg _)
  have nt:∀b∈[e,it],b≠s.heap.objs.size:=λb hb=>by
   have hb:b=e\/b=it:=by simpa using hb
   rcases hb with rfl | rfl
   . exact FB hlt
   . exact FB hit
  have I0:Inv X pins σ (upd H s.heap.objs.size (.tup [.int i,x])) {s with heap:=s.heap.push {cls:= .type "tuple",data:= .seq #[.int i s.toks,u]},toks:=s.toks+1}:=
   I.laid (λb u e=>Fm _ e) (Fg _) ⟨by simp[sizeLine];try decide,[.int i s.toks,u],.cons ⟨_,rfl⟩ (.cons ru .nil),⟨_,FK _ rfl,rfl,_,rfl⟩⟩
  have hfp:∀b∈[e,it],E8 X pins (upd H s.heap.objs.size (.tup [.int i,x])) b:=λb hb=>by
   obtain⟨f0,f1,f2,f3,f4,f5⟩:=hf b hb;exact⟨by rw[A2 (nt b hb)];exact f0,f1,f2,f3,f4,f5⟩
  have I1:Inv X pins σ (upd H s.heap.objs.size (.tup [.int i,x])) {s with heap:=h3,toks:=s.toks+1}:=by
   refine Inv.turned2 (s:={s with heap:=s.heap.push {cls:= .type "tuple",data:= .seq #[.int i s.toks,u]},toks:=s.toks+1}) (t':=s.toks+1) I0 (λb o hb q=>?_) hfp
   have hb':b≠e/\b≠it:=by simpa using hb
   refine(sb.2 b hb'.1).trans ?_;rcases Heap.get?_push_cases q with ⟨rfl,rfl⟩ | q2
   . exact ht
   . exact hk b o hb'.1 hb'.2 q2
  refine⟨.ref s.heap.objs.size,upd H s.heap.objs.size (.tup [.int i,x]),I1,rfl,⟨_,x,rfl,hf0,rfl,λys hy=>by rw[I.list_inj hy hq];exact hx⟩,⟨⟨u,?_⟩,?_⟩,λb hb=>(hfp b hb).1⟩
  . show IsEnum h3 e it ((i+1:Nat):Int) u
    rw[show ((i+1:Nat):Int)=(i:Int)+1 from rfl];exact e3
  . exact it'.at λo q=>(sb.2 it (Ne.symm ne)).trans q
 done:=by
   intro X hP hw hK hc i pins s σ H E I hf st hg;subst hP hw hK;obtain⟨xs,hq,hx⟩:=hg;obtain⟨its,rv,p,hz⟩:=I.list hq;obtain⟨⟨old,h1⟩,h2⟩:=st;have hl:=rv.length
   exact wpAny_pyNext_enum_end (I.ok.hd hc) h1 h2 p.isList (by simp;omega) λh' eb=>⟨rfl,Inv.turned2 (t':=s.toks) I (λb o hb q=>eb b o (λz=>hb (by simp[z])) q) hf⟩
 self:=λ_ _ _ _ _ st h=>wpAny_pyIter_enum st.1.choose_spec h
section
variable {X:Cx}
def J9k(K:PySem.W.Frag)(ta:TA):TI:=λσ H R=>ta σ H λvs H1=>∃a,vs=[.ref a]/\(∃xs,SqL K H1 a xs)/\R (Ite K a) H1
theorem P1{l:Expr}{ta:TA}{p pos pp:Pos}{es:List Expr}{k:Nat}(hg:Gl X "enumerate")(hm:X.mg "enumerate"=none)(ha:PA X [l] ta)(hs:starEach [l] X.env=[(false,eval l X.env)]:=by rfl):PI X (.Tuple es k pp) (.Call (.Name "enumerate" p) [l] [] pos) (J9k X.K ta):=by
 intro pins s σ H R I h;refine Call_ (Km I hg hm boot_enumerate (HX (thn (ha pos pins s σ H _ I h) λus s1 hq_=>?_) hs rfl));obtain⟨vs,H1,I1,r1,q1⟩:=hq_;obtain⟨a,e,⟨xs,hq⟩,q⟩:=q1;subst e
 cases r1 with
 | cons r rr=>
  cases rr;cases r;obtain⟨its,rv,p',hz⟩:=I1.list hq;refine call_enumerate_list p'.isList λh' h1 h2 h3 h4=>?_;refine wpAny_pyIter_enum h1 ?_;refine⟨_,[s1.heap.objs.size+1,s1.heap.objs.size],_,_,H1,rfl,I1.kept (t':=s1.toks) h4,J1p a _ _ (Nat.succ_ne_self _),⟨⟨_,h1⟩,h2⟩,λb hb=>?_,q⟩
  have hb:b=s1.heap.objs.size+1\/b=s1.heap.objs.size:=by simpa using hb
  rcases hb with rfl | rfl
  . exact I1.fpOk (Rj _) (I1.hok.fresh (Rj _))
  . exact I1.fpOk (Fg _) (I1.hok.fresh (Fg _))
end
section
variable {K:PySem.W.Frag}{σ:St}{H:Hp}{D:Kl}
theorem Vl{ta:TA}{R:It->Hp->Prop}:J9k K ta σ H R=ta σ H λvs H1=>∃a,vs=[.ref a]/\(∃xs,SqL K H1 a xs)/\R (Ite K a) H1:=rfl
theorem J0c{a:Addr}{xs:List V}{g:TG}{tb:TS}(Pv:Nat->St->Hp->Prop)(h0:Pv 0 σ H)(hl:∀i σ H,i<=xs.length->Pv i σ H->SqL K H a xs)
 (hs:∀i x σ H t,xs[i]?=some x->Pv i σ H->H t=none->g (.ref t) σ (upd H t (.tup [.int i,x])) λσ2 H2=>tb {D with nx:=Pv (i+1),ct:=Pv (i+1),bk:=D.nx} σ2 H2) (hd:∀σ H,Pv xs.length σ H->D.nx σ H):Mx g tb D σ (Ite K a) H:=by
 refine⟨λi m σ H=>i<=xs.length/\m=xs.length - i/\Pv i σ H,⟨_,FM _,rfl,h0⟩,λi m σ H ⟨hi,hm,hP⟩=>?_⟩;have hq:=hl i σ H hi hP
 cases hx:xs[i]? with
 | none=>
  have hn:xs.length<=i:=by simpa using hx
  have e:i=xs.length:=Nat.le_antisymm hi hn;subst e;exact .inl ⟨⟨xs,hq,Fg _⟩,hd σ H hP⟩
 | some x=>
  have hlt:i < xs.length:=(Fd.mp hx).1;refine .inr ⟨⟨xs,x,hq,hx⟩,Pv (i+1),λσ' H' h=>⟨xs.length - (i+1),by omega,by omega,rfl,h⟩,?_⟩;rintro y H' ⟨t,x',rfl,ht,rfl,hy⟩;have e:=(hy xs hq).symm.trans hx;cases e;exact hs i x σ H t hx hP ht
end
def Itz(K:PySem.W.Frag)(a b:Addr):It:=
 ⟨λi H=>∃xs ys x y,SqL K H a xs/\SqL K H b ys/\xs[i]?=some x/\ys[i]?=some y,λi H v H'=>∃t x y,v= .ref t/\H t=none/\H'=upd H t (.tup [x,y])/\(∀xs,SqL K H a xs->xs[i]?=some x)/\∀ys,SqL K H b ys->ys[i]?=some y,
  λi H=>∃xs ys,SqL K H a xs/\SqL K H b ys/\(xs.length<=i\/ys.length<=i)⟩
def tnZ(z TI TO i1 i2 a b:Addr)(i:Nat)(h:Heap):Prop:=IsZip h z TI TO .none/\IsPair h TI (.ref i1) (.ref i2)/\(∃x y,IsPair h TO x y)/\h.IsListIter i1 a i/\h.IsListIter i2 b i
theorem J4v{w:World}{K:PySem.W.Frag}{es:List Expr}{k:Nat}{pos:Pos}(a b z TI TO i1 i2:Addr)(D:ZipApart z TI TO i1 i2 a b):J0z P w K (.Tuple es k pos) (Itz K a b) [z,TI,TO,i1,i2] z (tnZ z TI TO i1 i2 a b) where
 mem:=by simp
 obj:=λi h st c hc=>by
  obtain⟨h1,h2,⟨x,y,h3⟩,⟨o4,e4,c4,d4⟩,⟨o5,e5,c5,d5⟩⟩:=st
  have hc:c=z\/c=TI\/c=TO\/c=i1\/c=i2:=by simpa using hc
  rcases hc with rfl | rfl | rfl | rfl | rfl
  . exact⟨_,h1,λv z=>by cases z⟩
  . exact⟨_,h2,λv z=>by cases z⟩
  . exact⟨_,h3,λv z=>by cases z⟩
  . exact⟨o4,e4,λv z=>by rw[d4]at z;cases z⟩
  . exact⟨o5,e5,λv z=>by rw[d5]at z;cases z⟩
 keep:=λi h h' st kk=>by
  obtain⟨h1,h2,⟨x,y,h3⟩,h4,h5⟩:=st;exact⟨kk z (by simp) _ h1,kk TI (by simp) _ h2,⟨x,y,kk TO (by simp) _ h3⟩,h4.at λo q=>kk i1 (by simp) o q,h5.at λo q=>kk i2 (by simp) o q⟩
 item:=by
  intro X hP hw hK hc i pins s σ H E I hf st hg;subst hP hw hK;obtain⟨xs,ys,x,y,hq,hq2,hx,hy⟩:=hg;obtain⟨its,rv,p,hz⟩:=I.list hq;obtain⟨jts,rv2,p2,hz2⟩:=I.list hq2;obtain⟨u,hu,ru⟩:=rv.get hx;obtain⟨v,hv,rw'⟩:=rv2.get hy;obtain⟨h1,h2,⟨x0,y0,h3⟩,h4,h5⟩:=st
  have lts:∀c∈[z,TI,TO,i1,i2],c < s.heap.objs.size:=λc hc'=>by
   have hc':c=z\/c=TI\/c=TO\/c=i1\/c=i2:=by simpa using hc'
   rcases hc' with rfl | rfl | rfl | rfl | rfl
   . exact Fq h1
   . exact Fq h2
   . exact Fq h3
   . obtain⟨o,q,_⟩:=id h4;exact Fq q
   . obtain⟨o,q,_⟩:=id h5;exact Fq q
  refine wpAny_pyNext_zip_item D h1 h2 h3 h4 h5 p.isList p2.isList (x:=u) (y:=v) (by simpa using hu) (by simpa using hv) λh' e1 e3 e4 e5 ht hs hk=>?_;refine⟨_,rfl,wpAny_letOwnedTupleGo_zip (s:={s with heap:=h'}) e1 λh6 e6 sb=>?_⟩;have hf0:H s.heap.objs.size=none:=I.hok.fresh (Fg _);have nt:∀c∈[z,TI,TO,i1,i2],c≠s.heap.objs.size:=λc hc'=>FB (lts c hc')
  have I0:Inv X pins σ (upd H s.heap.objs.size (.tup [x,y])) {s with heap:=s.heap.push {cls:= .type "tuple",data:= .seq #[u,v]}}:=
   I.laid (t':=s.toks) (λb u e=>Fm _ e) (Fg _) ⟨by simp[sizeLine];try decide,[u,v],.cons ru (.cons rw' .nil),⟨_,FK _ rfl,rfl,_,rfl⟩⟩
  have hfp:∀c∈[z,TI,TO,i1,i2],E8 X pins (upd H s.heap.objs.size (.tup [x,y])) c:=λc hc'=>by
   obtain⟨f0,f1,f2,f3,f4,f5⟩:=hf c hc';exact⟨by rw[A2 (nt c hc')];exact f0,f1,f2,f3,f4,f5⟩
  have I1:Inv X pins σ (upd H s.heap.objs.size (.tup [x,y])) {s with heap:=h6}:=by
   refine Inv.turned2 (s:={s with heap:=s.heap.push {cls:= .type "tuple",data:= .seq #[u,v]}}) (t':=s.toks) I0 (λc o hc' q=>?_) hfp
   have hb':c≠z/\c≠TI/\c≠TO/\c≠i1/\c≠i2:=by simpa using hc'
   refine(sb.2 c hb'.1).trans ?_;rcases Heap.get?_push_cases q with ⟨rfl,rfl⟩ | q2
   . exact ht
   . exact hk c o hb'.1 hb'.2.2.1 hb'.2.2.2.1 hb'.2.2.2.2 q2
  refine⟨.ref s.heap.objs.size,upd H s.heap.objs.size (.tup [x,y]),I1,rfl,⟨_,x,y,rfl,hf0,rfl,λzs hy'=>by rw[I.list_inj hy' hq];exact hx,λzs hy'=>by rw[I.list_inj hy' hq2];exact hy⟩,?_,λc hc'=>(hfp c hc').1⟩;have k6:∀c o,c≠z->h'.get? c=some o->h6.get? c=some o:=λc o n q=>(sb.2 c n).trans q;exact⟨e6,k6 TI _ D.TIz (hk TI _ D.TIz D.TITO D.TIi1 D.TIi2 h2),⟨_,_,k6 TO _ D.TOz e3⟩,e4.at λo q=>k6 i1 o D.i1z q,e5.at λo q=>k6 i2 o D.i2z q⟩
 done:=by
   intro X hP hw hK hc i pins s σ H E I hf st hg;subst hP hw hK;obtain⟨xs,ys,hq,hq2,hx⟩:=hg;obtain⟨its,rv,p,hz⟩:=I.list hq;obtain⟨jts,rv2,p2,hz2⟩:=I.list hq2;obtain⟨h1,h2,⟨x0,y0,h3⟩,h4,h5⟩:=st;have hl:=rv.length;have hl2:=rv2.length
   exact wpAny_pyNext_zip_end (I.ok.hd hc) D h1 h2 h3 h4 h5 p.isList p2.isList (hx.imp (λh=>by simp;omega) λh=>by simp;omega) λh' eb=>⟨rfl,Inv.turned2 (t':=s.toks) I (λc o hb q=>by
    have hb':c≠z/\c≠TI/\c≠TO/\c≠i1/\c≠i2:=by simpa using hb
    exact eb c o hb'.1 hb'.2.2.1 hb'.2.2.2.1 hb'.2.2.2.2 q) hf⟩
 self:=λ_ _ _ _ _ st h=>wpAny_pyIter_zip st.1 h
section
variable {X:Cx}
def Jcs(K:PySem.W.Frag)(ta:TA):TI:=λσ H R=>ta σ H λvs H1=>∃a b,vs=[.ref a,.ref b]/\(∃xs,SqL K H1 a xs)/\(∃ys,SqL K H1 b ys)/\R (Itz K a b) H1
theorem Q2{l r:Expr}{ta:TA}{p pos pp:Pos}{es:List Expr}{k:Nat}(hg:Gl X "zip")(hm:X.mg "zip"=none)(ha:PA X [l,r] ta)(hs:starEach [l,r] X.env=[(false,eval l X.env),(false,eval r X.env)]:=by rfl)(hs2:starEach [r] X.env=[(false,eval r X.env)]:=by rfl):
 PI X (.Tuple es k pp) (.Call (.Name "zip" p) [l,r] [] pos) (Jcs X.K ta):=by
 intro pins s σ H R I h;refine Call_ (Km I hg hm boot_zip (HX (thn (ha pos pins s σ H _ I h) λus s1 ⟨vs,H1,I1,r1,q1⟩=>?_) (by rw[hs,hs2]) (by rw[hs2];rfl)));obtain⟨a,b,e,⟨xs,hq⟩,⟨ys,hq2⟩,q⟩:=q1;subst e
 cases r1 with
 | cons r rr=>
  cases rr with
  | cons r' rr=>
   cases rr;cases r;cases r';obtain⟨its,rv,p',hz⟩:=I1.list hq;obtain⟨jts,rv2,p2,hz2⟩:=I1.list hq2
   have la:a < s1.heap.objs.size:=by obtain⟨o,e,_⟩:=p'.isList;exact Fq e
   have lb:b < s1.heap.objs.size:=by obtain⟨o,e,_⟩:=p2.isList;exact Fq e
   refine call_zip_2 p'.isList p2.isList λh' h1 h2 h3 h4 h5 h6 h7=>?_;refine wpAny_pyIter_zip h1 ?_;refine⟨_,[s1.heap.objs.size+4,s1.heap.objs.size+2,s1.heap.objs.size+3,s1.heap.objs.size,s1.heap.objs.size+1],_,_,H1,rfl,I1.kept (t':=s1.toks) h7,J4v a b _ _ _ _ _ (PySem.W.ktu_apart _ _ _ la lb),⟨h1,h2,⟨_,_,h3⟩,h4,h5⟩,λc hc=>?_,q⟩
   have hc:s1.heap.objs.size<=c:=by
    have hc:c=s1.heap.objs.size+4\/c=s1.heap.objs.size+2\/c=s1.heap.objs.size+3\/c=s1.heap.objs.size\/c=s1.heap.objs.size+1:=by simpa using hc
    rcases hc with rfl | rfl | rfl | rfl | rfl
    . exact J2 _ _
    . exact J2 _ _
    . exact J2 _ _
    . exact Fg _
    . exact J2 _ _
   exact I1.fpOk hc (I1.hok.fresh hc)
end
section
variable {K:PySem.W.Frag}{σ:St}{H:Hp}{D:Kl}
theorem J0d{ta:TA}{R:It->Hp->Prop}:Jcs K ta σ H R=ta σ H λvs H1=>∃a b,vs=[.ref a,.ref b]/\(∃xs,SqL K H1 a xs)/\(∃ys,SqL K H1 b ys)/\R (Itz K a b) H1:=rfl
theorem Tp{a b:Addr}{xs ys:List V}{g:TG}{tb:TS}(hlen:xs.length=ys.length)(Pv:Nat->St->Hp->Prop)(h0:Pv 0 σ H)(hl:∀i σ H,i<=xs.length->Pv i σ H->SqL K H a xs/\SqL K H b ys)
 (hs:∀i x y σ H t,xs[i]?=some x->ys[i]?=some y->Pv i σ H->H t=none->g (.ref t) σ (upd H t (.tup [x,y])) λσ2 H2=>tb {D with nx:=Pv (i+1),ct:=Pv (i+1),bk:=D.nx} σ2 H2) (hd:∀σ H,Pv xs.length σ H->D.nx σ H):Mx g tb D σ (Itz K a b) H:=by
 refine⟨λi m σ H=>i<=xs.length/\m=xs.length - i/\Pv i σ H,⟨_,FM _,rfl,h0⟩,λi m σ H ⟨hi,hm,hP⟩=>?_⟩;obtain⟨hq,hq2⟩:=hl i σ H hi hP
 by_cases hlt:i < xs.length
 . have hx:xs[i]?=some xs[i]:=Fb hlt
   have hy:ys[i]?=some (ys[i]'(by omega)):=Fb (by omega);refine .inr ⟨⟨xs,ys,_,_,hq,hq2,hx,hy⟩,Pv (i+1),λσ' H' h=>⟨xs.length - (i+1),by omega,by omega,rfl,h⟩,?_⟩;rintro v H' ⟨t,x',y',rfl,ht,rfl,h1,h2⟩;have e:=(h1 xs hq).symm.trans hx;have e2:=(h2 ys hq2).symm.trans hy;cases e;cases e2;exact hs i _ _ σ H t hx hy hP ht
 . have e:i=xs.length:=by omega
   subst e;exact .inl ⟨⟨xs,ys,hq,hq2,.inl (Fg _)⟩,hd σ H hP⟩
end
end L2
namespace N32
open L2 N1 N5 N31
def Ax(ys:List Str)(z:Str):Nat->Option Nat
 | 0=>none
 | n+1=>if ys.getD n Str.empty=z then some n else Ax ys z n
theorem E2{z:Str}:∀{n j:Nat},Ax ys z n=some j->j < n/\ys.getD j Str.empty=z
 | 0,j,h=>by cases h
 | n+1,j,h=>by
  unfold Ax at h;split at h
  . rename_i e
    cases h;exact⟨Hz _,e⟩
  . have:=E2 h
    exact⟨by omega,this.2⟩
theorem J4w{z:Str}{b n j:Nat}(h:Ax ys z n=some b)(h1:b < j)(h2:j < n):ys.getD j Str.empty≠z:=by
 induction n with
 | zero=>cases h
 | succ n ih=>
  unfold Ax at h;split at h
  . rename_i e
    cases h;omega
  . rename_i e
    by_cases ej:j=n
    . subst ej;exact e
    . exact ih h (by omega)
def ear(ys:List Str)(i:Nat):Option Nat:=Ax ys (ys.getD i Str.empty) i
def W(R:Str->Int)(ys:List Str)(n j:Nat):Int:=if Ax ys (ys.getD j Str.empty) n=some j then R (ys.getD j Str.empty) else 0
def tl(f:Nat->Int)(b n:Nat):Int:=((List.range' b (n - b)).map f).sum
def Jde:Option Int->V
 | none=> .non
 | some i=> .int i
def Qo(ys:List Str)(i:Nat):V:=Jde ((ear ys i).map λj=>(j:Int))
open L2 N1 N5 N31 N4
def rm(ts:List Th)(z:Str):Int:=((ts.find? λt=>decide (t.1=z)).map (·.2.2)).getD 0
theorem J0e(nd:(ts.map (·.1)).Nodup){i:Nat}{t:Th}(h:ts[i]?=some t):rm ts t.1=t.2.2:=by
 induction ts generalizing i with
 | nil=>simp at h
 | cons u r ih=>
  rw[List.map_cons,Hm]at nd
  cases i with
  | zero=>
   rw[List.getElem?_cons_zero]at h;cases h;simp[rm]
  | succ i=>
   rw[List.getElem?_cons_succ]at h;have ne:¬u.1=t.1:=λe=>nd.1 (by rw[e];exact FH.mpr ⟨t,Ff h,rfl⟩);have:=ih nd.2 h;unfold rm at this ⊢;rw[List.find?_cons_of_neg (by simpa using ne)];exact this
def E3(H:Hp)(d:Addr)(ns:List Str)(R:Str->Int):Prop:=∃kvs:List (Key×V),H d=some (.dK kvs)/\∀z∈ns,Aw kvs (Sum.inr z)=some (.int (R z))
theorem E3.same{H:Hp}{d:Addr}{ns:List Str}{R:Str->Int}(s:A7 H H')(h:E3 H d ns R):E3 H' d ns R:=let ⟨kvs,h1,h2⟩:=h;⟨kvs,s _ _ h1,h2⟩
theorem none_of{H:Hp}{D:Addr}(s:A7 H H')(h:H' D=none):H D=none:=by
 cases e:H D with
 | none=>rfl
 | some o=>rw[s _ _ e]at h;cases h
theorem Cd{H:Hp}{p:Addr}{o:HO}(s:A7 H H')(h:H p=none):A7 H (upd H' p o):=λb u e=>by
 rw[A2 (Ac e h)];exact s b u e
def Iy:Sp:=λvs H Q _=>∃(i:Int),vs=[.int i]/\1<=i/\i<=1000000/\Q .non H
def Iz(K:PySem.W.Frag)(C:Addr):Sp:=λvs H Q _=>∃(p:Addr) (ts:List Th) (z:Str),vs=[.ref p,.str z]/\Av K C H p ts/\(ts.map (·.1)).Nodup/\z∈ts.map (·.1)/\∀(i:Nat) (t:Th),ts[i]?=some t->t.1=z->∀a,SqT K H a [.int i,.int t.2.1,.int t.2.2]->Q (.ref a) H
def Le(K:PySem.W.Frag)(C:Addr):Sp:=λvs H Q _=>∃(p:Addr) (ts:List Th) (z:Str),vs=[.ref p,.str z]/\Av K C H p ts/\(ts.map (·.1)).Nodup/\z∈ts.map (·.1)/\Q (.int (rm ts z)) H
def K0(K:PySem.W.Frag):Sp:=λvs H Q _=>∃(a:Addr) (ys:List Str),vs=[.ref a]/\SqL K H a (ys.map V.str)/\ys.length<=200/\∀p H',H p=none->A7 H H'->H' p=some (.lst ((List.range ys.length).map (Qo ys)))->Q (.ref p) H'
section
variable {K:PySem.W.Frag}{σ:L2.St}{H:Hp}{Q:VK}
theorem Vm{ty:TE}:J36 td ty σ H Q=td σ H λx H1=>∃a,x= .ref a/\IsD H1 a/\ty σ H1 λy H2=>∃o,Cp H2 a y o/\Q (o.getD .non) H2:=rfl
end
open L2 N1 N5 N31 N4
theorem J7r{i:Nat}:((Ax ys (ys.getD i Str.empty) i).map λj=>V.int (j:Int)).getD .non=Qo ys i:=by
 unfold Qo ear
 cases Ax ys (ys.getD i Str.empty) i <;> rfl
theorem Q3{i:Nat}(h:∀z,Aw kvs (Sum.inr z)=(Ax ys z i).map λj=>V.int (j:Int))(z:Str):Aw (Ct kvs (Sum.inr (ys.getD i Str.empty)) (V.int (i:Int))) (Sum.inr z)=(Ax ys z (i+1)).map λj=>V.int (j:Int):=by
 rw[D9]
 by_cases e:ys.getD i Str.empty=z
 . rw[if_pos (by rw[e]),show Ax ys z (i+1)=some i from if_pos e];rfl
 . rw[if_neg (λh=>e (by injection h with h;exact h.symm)),show Ax ys z (i+1)=Ax ys z i from if_neg e];exact h z
end N32
open L2 N1 N5 N31 N4 N32
namespace N41
def seg(T:List Int)(a b:Nat):Int:=((T.take b).drop a).sum
def Bo(c r:Str->Int)(T:List Int)(S:Int)(ys:List Str)(n:Nat):Int:=
 match ear ys n with
 | none=>c (ys.getD n Str.empty) * S
 | some e=>min (c (ys.getD n Str.empty) * S) (r (ys.getD n Str.empty) * seg T (e+1) n)
def fl(c r:Str->Int)(T:List Int)(S P:Int)(ys:List Str):Nat->Int
 | 0=>0
 | n+1=>fl c r T S P ys n+(Bo c r T S ys n - T.getD n 0 * (P - r (ys.getD n Str.empty)))
def sm(f:Str->Int)(L:List Str):Int:=(L.map f).sum
theorem O3(f:Str->Int):sm f []=0:=rfl
theorem Cw(f:Str->Int)(x:Str)(L:List Str):sm f (x::L)=f x+sm f L:=by unfold sm;rw[List.map_cons,Hb]
theorem J4x(f:Str->Int)(L M:List Str):sm f (L++M)=sm f L+sm f M:=by unfold sm;rw[Fo,HQ]
theorem J9l{f:Str->Int}{L:List Str}(h:∀y∈L,0<=f y):0<=sm f L:=by
 induction L with
 | nil=>exact FZ _
 | cons x r ih=>
  rw[Cw];have h1:=h x Fy;have h2:=ih λy hy=>h y (Fh _ hy);omega
theorem Q4{f:Str->Int}{L:List Str}{z:Str}(h:z∈L):sm f (L.erase z)=sm f L - f z:=by
 induction L with
 | nil=>cases h
 | cons x r ih=>
  by_cases e:x=z
  . subst e;rw[List.erase_cons_head,Cw];omega
  . rw[List.erase_cons_tail (by simpa using e),Cw,Cw,ih ((Ft.mp h).resolve_left λk=>e k.symm)];omega
theorem J4y{f g r:Str->Int}{k:Int}{L:List Str}(h:∀y∈L,f y=g y+k * r y):sm f L=sm g L+k * sm r L:=by
 induction L with
 | nil=>simp[O3]
 | cons x t ih=>
  rw[Cw,Cw,Cw,ih λy hy=>h y (Fh _ hy),h x Fy,Jo];omega
theorem Xh{f:Str->Int}{L M:List Str}(s:List.Sublist M L)(h:∀y∈L,0<=f y):sm f M<=sm f L:=by
 induction s with
 | slnil=>exact FZ _
 | cons a s ih=>
  rw[Cw];have:=ih λy hy=>h y (Fh _ hy);have:=h a Fy;omega
 | cons_cons a s ih=>
  rw[Cw,Cw];have:=ih λy hy=>h y (Fh _ hy);omega
theorem J4z{T:List Int}{a n:Nat}(ha:a<=n)(hn:n < T.length):seg T a (n+1)=seg T a n+T.getD n 0:=by
 unfold seg;rw[RA,Fb hn,List.drop_append_of_le_length (by rw[Hl];omega),HQ];rw[Fc,Fb hn];simp
theorem J50{T:List Int}{n:Nat}:seg T n n=0:=by
 unfold seg;rw[List.drop_eq_nil_of_le (by rw[Hl];exact Nat.min_le_left _ _)];rfl
theorem Jb0{T:List Int}(h:∀t∈T,0<=t){a b:Nat}:0<=seg T a b:=by
 unfold seg;have:∀t∈(T.take b).drop a,0<=t:=λt ht=>h t (Ja (List.mem_of_mem_drop ht));generalize (T.take b).drop a=l at this
 induction l with
 | nil=>simp
 | cons x r ih=>
  rw[Hb];have h1:=this x Fy;have h2:=ih λt ht=>this t (Fh _ ht);omega
def cr(r:Str->Int)(T:List Int)(ys:List Str)(n:Nat)(y:Str):Int:=
 match Ax ys y n with
 | none=>0
 | some j=>r y * seg T (j+1) n
theorem J51{r:Str->Int}{T:List Int}{n:Nat}{y:Str}(hr:0<=r y)(hT:∀t∈T,0<=t):0<=cr r T ys n y:=by
 unfold cr
 cases Ax ys y n with
 | none=>exact FZ _
 | some j=>exact Int.mul_nonneg hr (Jb0 hT)
theorem Vn{r:Str->Int}{T:List Int}{n:Nat}{y:Str}(hn:n < T.length)(h:y≠ys.getD n Str.empty)(ha:(Ax ys y n).isSome=true):cr r T ys (n+1) y=cr r T ys n y+T.getD n 0 * r y:=by
 unfold cr;rw[show Ax ys y (n+1)=Ax ys y n from if_neg λe=>h e.symm]
 cases e:Ax ys y n with
 | none=>rw[e]at ha;cases ha
 | some j=>
  have:=(E2 e).1;show r y * seg T (j+1) (n+1)=r y * seg T (j+1) n+_;rw[J4z (by omega) hn,Jo,Int.mul_comm (T.getD n 0)]
theorem J0f{r:Str->Int}{T:List Int}{ys:List Str}{n:Nat}:cr r T ys (n+1) (ys.getD n Str.empty)=0:=by
 unfold cr;rw[show Ax ys (ys.getD n Str.empty) (n+1)=some n from if_pos rfl];show _ * seg T (n+1) (n+1)=0;rw[J50,Int.mul_zero]
theorem J52{c r:Str->Int}{T:List Int}{S:Int}{n:Nat}(ha:(Ax ys (ys.getD n Str.empty) n).isSome=true):Bo c r T S ys n<=cr r T ys n (ys.getD n Str.empty):=by
 unfold Bo cr ear
 cases e:Ax ys (ys.getD n Str.empty) n with
 | none=>rw[e]at ha;cases ha
 | some j=>exact Int.min_le_right _ _
theorem Xi{c r:Str->Int}{T:List Int}{S:Int}{ys:List Str}{n:Nat}:Bo c r T S ys n<=c (ys.getD n Str.empty) * S:=by
 unfold Bo
 cases ear ys n with
 | none=>exact FZ _
 | some j=>exact Int.min_le_left _ _
structure Ot(c r:Str->Int)(T:List Int)(S P:Int)(ys:List Str)(n:Nat)(L:List Str)(paid:Int):Prop where
 nd:L.Nodup
 fit:sm r L<=P
 asked:∀y∈L,(Ax ys y n).isSome=true
 le:fl c r T S P ys n+sm (cr r T ys n) L<=paid * S
section
variable {c r:Str->Int}{T:List Int}{S P:Int}{ys:List Str}{n:Nat}{L M:List Str}{paid:Int}
theorem Ot.start(hP:0<=P):Ot c r T S P ys 0 [] 0:=⟨HZ,hP,(λy hy=>by cases hy),by simp[fl,O3]⟩
theorem Mf{y:Str}(h:(Ax ys y n).isSome=true):(Ax ys y (n+1)).isSome=true:=by
 unfold Ax;split
 . rfl
 . exact h
theorem Ot.hit(h:Ot c r T S P ys n L paid)(hT:∀t∈T,0<=t)(hn:n < T.length)(hz:ys.getD n Str.empty∈L):Ot c r T S P ys (n+1) L paid:=by
 refine⟨h.nd,h.fit,λy hy=>Mf (h.asked y hy),?_⟩
 have hTn:0<=T.getD n 0:=by
  rw[Fc,Fb hn];exact hT _ (Hr hn)
 have e1:sm (cr r T ys (n+1)) (L.erase (ys.getD n Str.empty))=sm (cr r T ys n) (L.erase (ys.getD n Str.empty))+T.getD n 0 * sm r (L.erase (ys.getD n Str.empty)):=
  J4y λy hy=>Vn hn (λe=>by rw[e]at hy;exact h.nd.not_mem_erase hy) (h.asked y (FJ hy))
 rw[Q4 hz,Q4 hz,Q4 hz,J0f]at e1;have e2:=J52 (c:=c) (r:=r) (T:=T) (S:=S) (h.asked _ hz);have e3:T.getD n 0 * (sm r L - r (ys.getD n Str.empty))<=T.getD n 0 * (P - r (ys.getD n Str.empty)):=Int.mul_le_mul_of_nonneg_left (by have:=h.fit;omega) hTn;have e4:=h.le;show fl c r T S P ys n+(Bo c r T S ys n - T.getD n 0 * (P - r (ys.getD n Str.empty)))+_<=_;omega
theorem Ot.miss(h:Ot c r T S P ys n L paid)(hT:∀t∈T,0<=t)(hn:n < T.length)(hz:ys.getD n Str.empty∉L)(hf:sm r L+r (ys.getD n Str.empty)<=P):Ot c r T S P ys (n+1) (L++[ys.getD n Str.empty]) (paid+c (ys.getD n Str.empty)):=by
 refine⟨?_,?_,λy hy=>?_,?_⟩
 . rw[HM]
   exact⟨h.nd,by simp,λa ha b hb e=>hz (by rw[Fj.mp hb]at e;rw[<- e];exact ha)⟩
 . rw[J4x,Cw,O3];omega
 . rcases FL.mp hy with k | k
   . exact Mf (h.asked y k)
   . rw[Fj.mp k]
     unfold Ax;rw[if_pos rfl];rfl
 have hTn:0<=T.getD n 0:=by
  rw[Fc,Fb hn];exact hT _ (Hr hn)
 have e1:sm (cr r T ys (n+1)) L=sm (cr r T ys n) L+T.getD n 0 * sm r L:=
  J4y λy hy=>Vn hn (λe=>by rw[e]at hy;exact hz hy) (h.asked y hy)
 have e2:=Xi (c:=c) (r:=r) (T:=T) (S:=S) (ys:=ys) (n:=n);have e3:T.getD n 0 * sm r L<=T.getD n 0 * (P - r (ys.getD n Str.empty)):=Int.mul_le_mul_of_nonneg_left (by omega) hTn;have e4:=h.le;rw[J4x,Cw,O3,J0f,e1,Jq];show fl c r T S P ys n+(Bo c r T S ys n - T.getD n 0 * (P - r (ys.getD n Str.empty)))+_<=_;omega
end
def cst(ts:List Th)(z:Str):Int:=((ts.find? λt=>decide (t.1=z)).map (·.2.1)).getD 0
theorem J53(nd:(ts.map (·.1)).Nodup){i:Nat}{t:Th}(h:ts[i]?=some t):cst ts t.1=t.2.1:=by
 induction ts generalizing i with
 | nil=>simp at h
 | cons u r ih=>
  rw[List.map_cons,Hm]at nd
  cases i with
  | zero=>
   rw[List.getElem?_cons_zero]at h;cases h;simp[cst]
  | succ i=>
   rw[List.getElem?_cons_succ]at h;have ne:¬u.1=t.1:=λe=>nd.1 (by rw[e];exact FH.mpr ⟨t,Ff h,rfl⟩);have:=ih nd.2 h;unfold cst at this ⊢;rw[List.find?_cons_of_neg (by simpa using ne)];exact this
def Lf(K:PySem.W.Frag)(C:Addr):Sp:=λvs H Q _=>∃(p a:Addr) (pl:Int) (ts:List Th) (ys:List Str),vs=[.ref p,.ref a,.int pl]/\Av K C H p ts/\(ts.map (·.1)).Nodup/\SqL K H a (ys.map V.str)/\ys.length<=200/\(∀y∈ys,y∈ts.map (·.1))/\(∀y∈ys,rm ts y<=pl)/\1<=pl/\pl<=1000000/\∀H',A7 H H'->Q (.bl true) H'
def Gu(K:PySem.W.Frag)(C:Addr):Sp:=λvs H Q _=>∃(p:Addr) (ts:List Th) (z:Str),vs=[.ref p,.str z]/\Av K C H p ts/\(ts.map (·.1)).Nodup/\z∈ts.map (·.1)/\Q (.int (cst ts z)) H
end N41
namespace L2
open PySem.W
theorem Tq(val:Nat->Int):∀k,argBest (λi j=>decide (val i < val j)) k<=k/\∀j,j<=k->val (argBest (λi j=>decide (val i < val j)) k)<=val j:=by
 intro k
 induction k with
 | zero=>exact⟨Fg _,λj hj=>by rw[J9.mp hj];exact FZ _⟩
 | succ k ih=>
  unfold argBest;split
  . rename_i h
    have h:=Jg h;refine⟨Fg _,λj hj=>?_⟩
    by_cases e:j=k+1
    . rw[e];exact FZ _
    . have:=ih.2 j (by omega);omega
  . rename_i h
    have h:¬(val (k+1) < _):=λz=>h (Fi z);refine⟨Nat.le_succ_of_le ih.1,λj hj=>?_⟩
    by_cases e:j=k+1
    . rw[e];omega
    . exact ih.2 j (by omega)
abbrev Tr(wi:TI)(fs:List Nat)(tt:Blk->TT)(te:Blk->TE):TE:=S6 wi 1 fs (λ_=>By 0) tt te
abbrev g2(K:PySem.W.Frag):Blk->TG:=λ_=>J71 K 2 (Pj (By 0) (Pj (By 1) J70))
abbrev Q5(K:PySem.W.Frag)(wi:TI)(fs:List Nat)(tt:Blk->TT)(te:Blk->TE):TE:=S6 wi 2 fs (g2 K) tt te
section
variable {X:Cx}{scope:Scope}{x y:Str}{px py pt:Pos}{n:Nat}{fs:List Nat}{elt iter c:Expr}{pos:Pos}{wi:TI}{tt:Blk->TT}{te:Blk->TE}
theorem Vo(x:Str)(fs:List Nat)(hc:X.calm=true)(hok:Cg X.N X.env.scope scope [x] fs=true)(hi:PI X (.Name x px) iter wi)(ht:∀b,PT (X.blk scope ([x]++around X.N fs) b) c (tt b))(he:∀b,PE (X.blk scope ([x]++around X.N fs) b) elt (te b))
 (hs:∀x,foldedSetIterable iter X.env x=pure x:=by intro _;rfl):PE X (.ListComp elt [⟨.Name x px,iter,[c],0⟩] scope pos) (Tr wi fs tt te):=
 Mz (xs:=[x]) (g:=λ_=>By 0) (tt:=tt) hc hok hi (Tg hok) (λb=>Ow (ht b)) he hs
theorem P3(hc:X.calm=true)(hok:Cg X.N X.env.scope scope [x,y] fs=true)(b:Blk):PG (X.blk scope ([x,y]++around X.N fs) b) (.Tuple [.Name x px,.Name y py] n pt) (g2 X.K b):=by
 have O:=Dw hok
 refine Il (X:=X.blk scope ([x,y]++around X.N fs) b) hc (Bc (Ay O.nd rfl (.inl (FY (O.own x (by simp)))) (.inr (FY (O.own x (by simp)))))
  (Bc (Ay O.nd rfl (.inl (FY (O.own y (by simp)))) (.inr (FY (O.own y (by simp))))) Ee))
theorem Vp(x y:Str)(fs:List Nat)(hc:X.calm=true)(hok:Cg X.N X.env.scope scope [x,y] fs=true)(hi:PI X (.Tuple [.Name x px,.Name y py] n pt) iter wi)(he:∀b,PE (X.blk scope ([x,y]++around X.N fs) b) elt (te b))
 (hs:∀x,foldedSetIterable iter X.env x=pure x:=by intro _;rfl):PE X (.ListComp elt [⟨.Tuple [.Name x px,.Name y py] n pt,iter,[],0⟩] scope pos) (Q5 X.K wi fs (λ_=>Do) te):=
 Mz (xs:=[x,y]) (g:=g2 X.K) (tt:=λ_=>Do) hc hok hi (P3 hc hok) (λ_=>My) he hs
theorem J1q(x y:Str)(fs:List Nat)(hc:X.calm=true)(hok:Cg X.N X.env.scope scope [x,y] fs=true)(hi:PI X (.Tuple [.Name x px,.Name y py] n pt) iter wi)(ht:∀b,PT (X.blk scope ([x,y]++around X.N fs) b) c (tt b))(he:∀b,PE (X.blk scope ([x,y]++around X.N fs) b) elt (te b))
 (hs:∀x,foldedSetIterable iter X.env x=pure x:=by intro _;rfl):PE X (.ListComp elt [⟨.Tuple [.Name x px,.Name y py] n pt,iter,[c],0⟩] scope pos) (Q5 X.K wi fs tt te):=
 Mz (xs:=[x,y]) (g:=g2 X.K) (tt:=tt) hc hok hi (P3 hc hok) (λb=>Ow (ht b)) he hs
end
section
variable {K:PySem.W.Frag}{tail:St}{tt:Blk->TT}{te:Blk->TE}{Q:VK}{H1:Hp}{σ:St}{H:Hp}
theorem Vq{fs:List Nat}:Tr wi fs tt te σ H Q=wi σ H (Bi (none::fs.map λj=>σ.getD j none) (λ_=>By 0) tt te Q):=rfl
theorem Vr{fs:List Nat}:Q5 K wi fs tt te σ H Q=wi σ H (Bi (none::none::fs.map λj=>σ.getD j none) (g2 K) tt te Q):=rfl
theorem Vs{x y:Option V}{r:St}:J7g (none::none::r) (x::y::r):=λi v e=>by
 match i with
 | 0=>cases e
 | 1=>cases e
 | i+2=>exact e
theorem Gv{H:Hp}{p:Addr}{o:HO}(s:A7 H H')(h:H p=none):A7 H (upd H' p o):=λb u e=>by
 rw[A2 (Ac e h)];exact s b u e
theorem Q6{a:Addr}{xs:List V}(p:V->Bool)(f:V->V)(hS:SqL K H1 a xs)(hz:xs.length<=sizeLine)(ht:∀b x H QT,x∈xs->A7 H1 H->(∀H',A7 H H'->QT (p x) H')->tt b (some x::tail) H QT)
 (he:∀b x H Q',x∈xs->p x=true->A7 H1 H->(∀H',A7 H H'->Q' (f x) H')->te b (some x::tail) H Q')
 (q:∀D H',H1 D=none->A7 H1 H'->H' D=some (.lst ((xs.filter p).map f))->Q (.ref D) H'):Bi (none::tail) (λ_=>By 0) tt te Q (Itl K a) H1:=by
 intro b D hD;refine⟨λi m ys H=>m=xs.length - i/\i<=xs.length/\ys=((xs.take i).filter p).map f/\H D=some (.lst ys)/\A7 H1 H,⟨_,rfl,FM _,rfl,A1,Bj hD⟩,?_⟩;rintro i m ys H ⟨rfl,hi,rfl,hd,sm⟩;refine⟨hd,?_⟩
 by_cases hlt:i < xs.length
 . refine .inr ⟨⟨xs,xs[i],sm.seq hS,by simp[hlt]⟩,λx H3 ⟨e3,ex⟩=>⟨J9b,?_⟩⟩
   subst e3;have hx:=ex xs (sm.seq hS);have hm:=Ff hx
   have hl:(((xs.take i).filter p).map f).length<=i:=by
    rw[Fa];exact FO (R3 _ _) (by rw[Hl];omega)
   refine ht b x _ _ hm sm λH7 s7=>?_
   have htk:(xs.take (i+1)).filter p=(xs.take i).filter p++[x].filter p:=by rw[Ha,hx,Ru];rfl
   by_cases hp:p x=true
   . rw[if_pos hp]
     refine he b x H7 _ hm hp (sm.trans s7) λH8 s8=>?_;have hd8:=(s7.trans s8) _ _ hd;refine⟨hd8,by omega,xs.length - (i+1),by omega,rfl,hlt,?_,A1,Gv ((sm.trans s7).trans s8) hD⟩;rw[htk,R8 hp,Rr,Fo];rfl
   . rw[if_neg hp]
     refine⟨xs.length - (i+1),by omega,rfl,hlt,?_,s7 _ _ hd,sm.trans s7⟩;rw[htk,R9 hp,Rr,Hd]
 . have e:i=xs.length:=by omega
   subst e;refine .inl ⟨⟨xs,sm.seq hS,Fg _⟩,q D H hD sm ?_⟩;rw[hd,HU]
theorem J7s{a c:Addr}{xs zs:List V}(hlen:xs.length=zs.length)(p:Nat->Bool)(f:Nat->V)(hA:SqL K H1 a xs)(hC:SqL K H1 c zs)(hz:xs.length<=sizeLine)
 (ht:∀b i x z H QT,xs[i]?=some x->zs[i]?=some z->A7 H1 H->(∀H',A7 H H'->QT (p i) H')->tt b (some x::some z::tail) H QT)
 (he:∀b i x z H Q',xs[i]?=some x->zs[i]?=some z->p i=true->A7 H1 H->(∀H',A7 H H'->Q' (f i) H')->te b (some x::some z::tail) H Q')
 (q:∀D H',H1 D=none->A7 H1 H'->H' D=some (.lst (((List.range xs.length).filter p).map f))->Q (.ref D) H'):Bi (none::none::tail) (g2 K) tt te Q (Itz K a c) H1:=by
 intro b D hD;refine⟨λi m ys H=>m=xs.length - i/\i<=xs.length/\ys=((List.range i).filter p).map f/\H D=some (.lst ys)/\A7 H1 H,⟨_,rfl,FM _,rfl,A1,Bj hD⟩,?_⟩;rintro i m ys H ⟨rfl,hi,rfl,hd,sm⟩;refine⟨hd,?_⟩
 by_cases hlt:i < xs.length
 . have hx:xs[i]?=some xs[i]:=Fb hlt
   have hy:zs[i]?=some (zs[i]'(by omega)):=Fb (by omega);refine .inr ⟨⟨xs,zs,_,_,sm.seq hA,sm.seq hC,hx,hy⟩,?_⟩;rintro v H3 ⟨t,x',z',rfl,hn,rfl,g1,g2'⟩;have e1:=(g1 xs (sm.seq hA)).symm.trans hx;have e2:=(g2' zs (sm.seq hC)).symm.trans hy;cases e1;cases e2;have s3:A7 H (upd H t (.tup [xs[i],zs[i]'(by omega)])):=A7.new hn
   have hl:(((List.range i).filter p).map f).length<=i:=by
    rw[Fa];exact FO (R3 _ _) (by rw[Fw];omega)
   have htk:(List.range (i+1)).filter p=(List.range i).filter p++[i].filter p:=by rw[Hj,Ru]
   refine⟨t,_,rfl,SqT.of A1,rfl,_,_,rfl,_,_,rfl,rfl,Vs,?_⟩;refine ht b i _ _ _ _ hx hy (sm.trans s3) λH7 s7=>?_
   by_cases hp:p i=true
   . rw[if_pos hp]
     refine he b i _ _ H7 _ hx hy hp ((sm.trans s3).trans s7) λH8 s8=>?_;have hd8:=((s3.trans s7).trans s8) _ _ hd;refine⟨hd8,by omega,xs.length - (i+1),by omega,rfl,hlt,?_,A1,Gv (((sm.trans s3).trans s7).trans s8) hD⟩;rw[htk,R8 hp,Rr,Fo];rfl
   . rw[if_neg hp]
     refine⟨xs.length - (i+1),by omega,rfl,hlt,?_,(s3.trans s7) _ _ hd,(sm.trans s3).trans s7⟩;rw[htk,R9 hp,Rr,Hd]
 . have e:i=xs.length:=by omega
   subst e;exact .inl ⟨⟨_,_,sm.seq hA,sm.seq hC,.inl (Fg _)⟩,q D H hD sm hd⟩
end
section
variable {X:Cx}{scope:Scope}{x y v:Str}{px py pt pv':Pos}{n i:Nat}{fs:List Nat}{elt iter c:Expr}{pos spos:Pos}{wi:TI}{tt:Blk->TT}{te:Blk->TE}
theorem J54(x:Str)(fs:List Nat)(hN:X.N.Nodup)(hy:X.N[i]?=some v)(hyl:X.env.kindOf v=some .local)(hc:X.calm=true)(hok:Cg X.N X.env.scope scope [x] fs=true)(hi:PI X (.Name x px) iter wi)(ht:∀b,PT (X.blk scope ([x]++around X.N fs) b) c (tt b))(he:∀b,PE (X.blk scope ([x]++around X.N fs) b) elt (te b))
 (hsw:swapsWith (.ListComp elt [⟨.Name x px,iter,[c],0⟩] scope pos) (some (.Name v pv')) spos.line X.env=pure true:=by rfl)
 (hs:∀x,foldedSetIterable iter X.env x=pure x:=by intro _;rfl):PS X (.Assign [.Name v pv'] (.ListComp elt [⟨.Name x px,iter,[c],0⟩] scope pos) spos) (Sz (Tr wi fs tt te) (By i)):=
 N0 (xs:=[x]) (g:=λ_=>By 0) (tt:=tt) hN hy hyl hc hok hi (Tg hok) (λb=>Ow (ht b)) he hsw hs
theorem J55(x y:Str)(fs:List Nat)(hN:X.N.Nodup)(hy:X.N[i]?=some v)(hyl:X.env.kindOf v=some .local)(hc:X.calm=true)(hok:Cg X.N X.env.scope scope [x,y] fs=true)(hi:PI X (.Tuple [.Name x px,.Name y py] n pt) iter wi)(he:∀b,PE (X.blk scope ([x,y]++around X.N fs) b) elt (te b))
 (hsw:swapsWith (.ListComp elt [⟨.Tuple [.Name x px,.Name y py] n pt,iter,[],0⟩] scope pos) (some (.Name v pv')) spos.line X.env=pure true:=by rfl)
 (hs:∀x,foldedSetIterable iter X.env x=pure x:=by intro _;rfl):PS X (.Assign [.Name v pv'] (.ListComp elt [⟨.Tuple [.Name x px,.Name y py] n pt,iter,[],0⟩] scope pos) spos) (Sz (Q5 X.K wi fs (λ_=>Do) te) (By i)):=
 N0 (xs:=[x,y]) (g:=g2 X.K) (tt:=λ_=>Do) hN hy hyl hc hok hi (P3 hc hok) (λ_=>My) he hsw hs
theorem J1r(x y:Str)(fs:List Nat)(hN:X.N.Nodup)(hy:X.N[i]?=some v)(hyl:X.env.kindOf v=some .local)(hc:X.calm=true)(hok:Cg X.N X.env.scope scope [x,y] fs=true)(hi:PI X (.Tuple [.Name x px,.Name y py] n pt) iter wi)(ht:∀b,PT (X.blk scope ([x,y]++around X.N fs) b) c (tt b))(he:∀b,PE (X.blk scope ([x,y]++around X.N fs) b) elt (te b))
 (hsw:swapsWith (.ListComp elt [⟨.Tuple [.Name x px,.Name y py] n pt,iter,[c],0⟩] scope pos) (some (.Name v pv')) spos.line X.env=pure true:=by rfl)
 (hs:∀x,foldedSetIterable iter X.env x=pure x:=by intro _;rfl):PS X (.Assign [.Name v pv'] (.ListComp elt [⟨.Tuple [.Name x px,.Name y py] n pt,iter,[c],0⟩] scope pos) spos) (Sz (Q5 X.K wi fs tt te) (By i)):=
 N0 (xs:=[x,y]) (g:=g2 X.K) (tt:=tt) hN hy hyl hc hok hi (P3 hc hok) (λb=>Ow (ht b)) he hsw hs
end
theorem J0g{H:Hp}{i:Nat}{ti:TIp}:Ja0 i te ti D σ H=∃x,σ[i]?=some (some x)/\te σ H λy H1=>ti x y H1 λz H2=>D.nx (σ.set i (some z)) H2:=rfl
end L2
namespace N41
open L2 N1 N5 N31 N4 N32
theorem J7t{T:List Int}{a b:Nat}(h1:a<=b)(h2:b<=T.length):Oo (T.map V.int) (some (a:Int)) (some (b:Int))=((T.take b).drop a).map V.int:=by
 unfold Oo;rw[HT.Mp,HT.Mp,Fa,Hi h2,Hi (FO h1 h2),<- List.map_drop,<- J1,List.drop_take]
theorem Jb1{l:List Int}{M:Int}(hM:0<=M)(h:∀t∈l,0<=t/\t<=M):0<=l.sum/\l.sum<=l.length * M:=by
 induction l with
 | nil=>simp
 | cons x r ih=>
  rw[Hb,List.length_cons];have h1:=h x Fy;have h2:=ih λt ht=>h t (Fh _ ht)
  have e:((r.length+1:Nat):Int) * M=r.length * M+M:=by rw[Int.natCast_add,Jq];simp
  rw[e];omega
theorem Jb2{T:List Int}(h:∀t∈T,0<=t/\t<=10 ^ 71)(hl:T.length<=200){a b:Nat}:0<=seg T a b/\seg T a b<=200 * 10 ^ 71:=by
 unfold seg;have hm:∀t∈(T.take b).drop a,0<=t/\t<=10 ^ 71:=λt ht=>h t (Ja (List.mem_of_mem_drop ht))
 have hn:((T.take b).drop a).length<=200:=by rw[Hq,Hl];omega
 have:=Jb1 (by decide) hm;have h3:(((T.take b).drop a).length:Int) * 10 ^ 71<=200 * 10 ^ 71:=Int.mul_le_mul_of_nonneg_right (by omega) (by decide);omega
theorem Jb3(i j:Int):(if j < i then j else i)=min i j:=by
 by_cases h:j < i
 . rw[if_pos h,Int.min_eq_right (by omega)]
 . rw[if_neg h,Int.min_eq_left (by omega)]
def K1:Sp:=λvs H Q _=>∃i:Int,vs=[.int i]/\Q (.bl true) H
theorem C9{ys:List Str}{k:Nat}(h:k < ys.length):ys[k]?=some (ys.getD k Str.empty):=by rw[Fc,Fb h];rfl
theorem J7u(xs:List V)(v:V):atI (xs++[v]) (-1)=some v:=by
 unfold atI ixN;rw[if_neg (by decide),Fl];simp;rw[if_pos (by omega),show (-1+((xs.length:Int)+1)).toNat=xs.length by omega];simp
def kvN(ys:List Str)(f:Str->Int):List (Key×V):=ys.map λy=>(Sum.inr y,V.int (f y))
def upF(f:Str->Int)(y:Str)(v:Int):Str->Int:=λu=>if u=y then v else f u
theorem J56{f:Str->Int}{y:Str}{v:Int}:upF f y v y=v:=if_pos rfl
theorem Jb4{f:Str->Int}{y u:Str}{v:Int}(h:u≠y):upF f y v u=f u:=if_neg h
theorem J7v{f:Str->Int}{y:Str}(h:y∈ys):Aw (kvN ys f) (Sum.inr y)=some (.int (f y)):=by
 unfold kvN
 induction ys with
 | nil=>cases h
 | cons x r ih=>
  rw[List.map_cons]
  by_cases e:x=y
  . subst e;rw[Co rfl]
  . rw[Cc (λz=>e (by injection z))]
    exact ih ((Ft.mp h).resolve_left λz=>e z.symm)
theorem J57{f:Str->Int}{y:Str}(h:y∉ys):Aw (kvN ys f) (Sum.inr y)=none:=by
 unfold kvN
 induction ys with
 | nil=>rfl
 | cons x r ih=>
  rw[List.map_cons,Cc (λz=>h (by injection z with z;rw[z];exact Fy))];exact ih λz=>h (Fh _ z)
theorem J58{f:Str->Int}{y:Str}{v:Int}(h:y∉ys):Ct (kvN ys f) (Sum.inr y) (.int v)=kvN (ys++[y]) (upF f y v):=by
 rw[Kr _ (J57 h)];unfold kvN;rw[Fo];congr 1
 . refine Ht λx hx=>?_
   rw[Jb4 (λe=>h (by rw[<- e];exact hx))]
 . rw[List.map_cons,J56];rfl
theorem J7w{f:Str->Int}:(kvN ys f).length=ys.length:=by unfold kvN;rw[Fa]
def tsF(C R:Str->Int)(ys:List Str):List Th:=ys.map λy=>(y,C y,R y)
theorem O4{C R:Str->Int}:(tsF C R ys).map (·.1)=ys:=by
 unfold tsF;rw[FP];exact(Ht λ_ _=>rfl).trans (List.map_id ys)
theorem J7x{C R:Str->Int}:(tsF C R ys).length=ys.length:=by unfold tsF;rw[Fa]
theorem Jb5{C R:Str->Int}{i:Nat}(h:i < ys.length):(tsF C R ys)[i]?=some (ys.getD i Str.empty,C (ys.getD i Str.empty),R (ys.getD i Str.empty)):=by
 unfold tsF;rw[Fe,C9 h];rfl
theorem J59{c c' r r':Str->Int}{T:List Int}{S P:Int}(h:∀y∈ys,c y=c' y/\r y=r' y):∀n,n<=ys.length->fl c r T S P ys n=fl c' r' T S P ys n:=by
 intro n hn
 induction n with
 | zero=>rfl
 | succ n ih=>
  have hy:=h (ys.getD n Str.empty) (Ff (C9 hn));show fl c r T S P ys n+(Bo c r T S ys n - _ * (P - r _))=fl c' r' T S P ys n+(Bo c' r' T S ys n - _ * (P - r' _))
  have hl:Bo c r T S ys n=Bo c' r' T S ys n:=by
   unfold Bo;rw[hy.1,hy.2]
  rw[ih (by omega),hl,hy.2]
def N9(ys:List Str)(m:Nat)(c:Int):Str:=ys.getD (c % (m:Int)).toNat Str.empty
def Jct(ys:List Str)(m:Nat):V->V
 | .int c=> .str (N9 ys m c)
 | _=> .non
theorem J1s{m:Nat}{cs:List Int}:(cs.map V.int).map (Jct ys m)=(cs.map (N9 ys m)).map V.str:=by
 rw[FP,FP];rfl
end N41
namespace N6
open L2 N1 N5 N4
def sfl(p d:Addr)(n:Int):List (Str×V):=Aa "rooms" (.ref d) (Aa "places" (.int n) (Aa "stock" (.ref p) []))
theorem Sk{p d:Addr}{n:Int}:(sfl p d n).lookup ("stock":Str)=some (V.ref p):=by
 unfold sfl;rw[B0,if_neg (by decide),B0,if_neg (by decide),B0,if_pos rfl]
theorem Xj{p d:Addr}{n:Int}:(sfl p d n).lookup ("places":Str)=some (V.int n):=by
 unfold sfl;rw[B0,if_neg (by decide),B0,if_pos rfl]
theorem Gw{p d:Addr}{n:Int}:(sfl p d n).lookup ("rooms":Str)=some (V.ref d):=by
 unfold sfl;rw[B0,if_pos rfl]
abbrev Ly:=List (Str×Int)
def lyK(ls:Ly):List (Key×V):=ls.map λx=>(Sum.inr x.1,.int x.2)
def lyN(ls:Ly):List Str:=ls.map (·.1)
def lyS(ls:Ly):Int:=(ls.map (·.2)).sum
structure Bp(S:Addr)(H:Hp)(q p d:Addr)(n:Int)(ls:Ly):Prop where
 o:∃dx,H q=some (.ins S dx (sfl p d n))
 d:H d=some (.dK (lyK ls))
 nd:(lyN ls).Nodup
theorem Bp.same{H:Hp}{q p d:Addr}{n:Int}{ls:Ly}(s:A7 H H')(h:Bp S H q p d n ls):Bp S H' q p d n ls:=
 ⟨h.o.imp λ_ e=>s _ _ e,s _ _ h.d,h.nd⟩
structure Ge(K:PySem.W.Frag)(C:Addr)(H:Hp)(p:Addr)(ts:List Th)(d:Addr):Prop where
 ex:∃(dx e:Addr) (kvs:List (Key×V)),e≠d/\H p=some (.ins C dx (flds e))/\H e=some (.dK kvs)/\kvs.map (·.1)=ts.map (λt=>Sum.inr t.1)/\
  ∀(i:Nat) (t:Th),ts[i]?=some t->∃a,kvs[i]?=some (Sum.inr t.1,.ref a)/\SqT K H a [.int i,.int t.2.1,.int t.2.2]
section
variable {K:PySem.W.Frag}{C S:Addr}{H H':Hp}{p q d:Addr}{ts:List Th}{n:Int}{ls:Ly}{z:Str}
theorem Ge.at(h:Ge K C H p ts d):Av K C H p ts:=by
 obtain⟨dx,e,kvs,_,r⟩:=h.ex;exact⟨dx,e,kvs,r⟩
theorem Ge.of(h:Av K C H p ts)(hd:H d=none):Ge K C H p ts d:=by
 obtain⟨dx,e,kvs,h1,h2,r⟩:=h.ex;exact⟨dx,e,kvs,Ac h2 hd,h1,h2,r⟩
theorem Ge.same(s:A7 H H')(h:Ge K C H p ts d):Ge K C H' p ts d:=by
 obtain⟨dx,e,kvs,n,h1,h2,h3,h4⟩:=h.ex;refine⟨dx,e,kvs,n,s _ _ h1,s _ _ h2,h3,λi t q=>?_⟩;obtain⟨a,e1,e2⟩:=h4 i t q;exact⟨a,e1,s.tup e2⟩
theorem Bp.butL{l:Addr}{zs:List V}(s:SameBut l H H')(hl:H l=some (.lst zs))(h:Bp S H q p d n ls):Bp S H' q p d n ls:=
 ⟨h.o.imp λ_ e=>s _ _ e (Bt e hl (by intro z;cases z)),s _ _ h.d (Bt h.d hl (by intro z;cases z)),h.nd⟩
theorem J7y:(lyK ls).map (·.1)=(lyN ls).map Sum.inr:=by unfold lyK lyN;rw[FP,FP];rfl
theorem J1t:((lyK ls).map λx=>kV x.1)=(lyN ls).map V.str:=by unfold lyK lyN;rw[FP,FP];rfl
theorem J5a:(lyK ls).map (·.2)=(ls.map (·.2)).map V.int:=by unfold lyK;rw[FP,FP];rfl
theorem Ts:(Aw (lyK ls) (Sum.inr z)).isSome=decide (z∈lyN ls):=N3 J7y
theorem J7z{r:Int}(h:¬z∈lyN ls):Ct (lyK ls) (Sum.inr z) (.int r)=lyK (ls++[(z,r)]):=by
 have hv:Aw (lyK ls) (Sum.inr z:Key)=none:=by
  have:=Ts (ls:=ls) (z:=z);rw[Fk h]at this
  cases hv:Aw (lyK ls) (Sum.inr z:Key) with
  | none=>rfl
  | some v=>rw[hv]at this;cases this
 rw[Kr _ hv];unfold lyK;rw[Fo];rfl
def lyD(ls:Ly)(z:Str):Ly:=ls.filter λx=>decide (x.1≠z)
theorem J5b:Cr (lyK ls) (Sum.inr z)=lyK (lyD ls z):=by
 unfold Cr lyK lyD;rw[RK];congr 1;refine Jj λx _=>?_;show decide ((Sum.inr x.1:Key)≠Sum.inr z)=decide (x.1≠z);exact Jk.mpr ⟨λh e=>h (by rw[e]),λh e=>h (by injection e)⟩
theorem O5(nd:(lyN ls).Nodup):lyN (lyD ls z)=(lyN ls).erase z:=by
 unfold lyN lyD at *;rw[List.Nodup.erase_eq_filter nd,RK];congr 1;refine Jj λx _=>?_
 by_cases h:x.1=z
 . simp[h]
 . simp[h]
end
theorem Bp.put{H:Hp}{q p d:Addr}{n:Int}{ls:Ly}{z:Str}{r:Int}(h:Bp S H q p d n ls)(s:A7 H H1)(hz:¬z∈lyN ls):Bp S (upd H1 d (.dK (Ct (lyK ls) (Sum.inr z) (.int r)))) q p d n (ls++[(z,r)]):=by
 obtain⟨dx,ho⟩:=h.o;have h1:=s _ _ ho;have h2:=s _ _ h.d;refine⟨⟨dx,by rw[A2 (Bt h1 h2 (by intro z;cases z))];exact h1⟩,by rw[A1,J7z hz],?_⟩
 have e:lyN (ls++[(z,r)])=lyN ls++[z]:=by unfold lyN;rw[Fo];rfl
 rw[e,HM];exact⟨h.nd,by simp,λa ha b hb e=>hz (by rw[Fj.mp hb]at e;rw[<- e];exact ha)⟩
theorem Bp.cast{H:Hp}{q p d:Addr}{n:Int}{ls:Ly}{z:Str}(h:Bp S H q p d n ls):Bp S (upd H d (.dK (Cr (lyK ls) (Sum.inr z)))) q p d n (lyD ls z):=by
 obtain⟨dx,ho⟩:=h.o;refine⟨⟨dx,by rw[A2 (Bt ho h.d (by intro z;cases z))];exact ho⟩,by rw[A1,J5b],?_⟩;rw[O5 h.nd];exact h.nd.erase z
def Na(S:Addr):Sp:=λvs H Q _=>∃(q dx p:Addr) (n:Int),vs=[.ref q,.ref p,.int n]/\H q=some (.ins S dx [])/\1<=n/\n<=1000000/\∀H' d,SameBut q H H'->H d=none->Bp S H' q p d n []->Q .non H'
def Nb(S:Addr):Sp:=λvs H Q _=>∃(q p d:Addr) (n:Int) (ls:Ly),vs=[.ref q]/\Bp S H q p d n ls/\∀l,H l=none->Q (.ref l) (upd H l (.lst ((lyN ls).map V.str)))
def Nc(S:Addr):Sp:=λvs H Q _=>∃(q p d:Addr) (n:Int) (ls:Ly) (z:Str),vs=[.ref q,.str z]/\Bp S H q p d n ls/\Q (.bl (decide (z∈lyN ls))) H
def P4(S:Addr):Sp:=λvs H Q _=>∃(q p d:Addr) (n:Int) (ls:Ly),vs=[.ref q]/\Bp S H q p d n ls/\∀H',A7 H H'->Q (.int (n - lyS ls)) H'
open L2 N1 N5 N4
theorem Vt{z:Str}:inV (.str z) (ys.map V.str)=decide (z∈ys):=by
 unfold inV
 induction ys with
 | nil=>rfl
 | cons y ys ih=>
  rw[List.map_cons,RH,ih,Yu]
  by_cases h:y=z
  . subst h;simp
  . have h':¬z=y:=λe=>h e.symm
    simp[h,h']
theorem Nd{K:PySem.W.Frag}{H:Hp}{p:Addr}{z:Str}(h:SqL K H p (ys.map V.str))(q:Q (.bl (decide (z∈ys))) H):rIn K false (.str z) (.ref p) H Q:=by
 refine⟨p,_,rfl,.inl h,rfl,N2,?_⟩;rw[if_neg (by decide),Vt];exact q
theorem Vu{K:PySem.W.Frag}{H:Hp}{p:Addr}{z:Str}(h:SqL K H p (ys.map V.str))(q:Q (.bl (!decide (z∈ys))) H):rIn K true (.str z) (.ref p) H Q:=by
 refine⟨p,_,rfl,.inl h,rfl,N2,?_⟩;rw[if_pos rfl,Vt];exact q
def aOf:V->Addr
 | .ref a=>a
 | _=>0
end N6
variable {ls:N6.Ly}
namespace N41
open L2 N1 N5 N31 N4 N32
theorem J1u{c r:Str->Int}{T:List Int}{S P:Int}{n:Nat}{L M:List Str}{paid:Int}(h:Ot c r T S P ys n L paid)(hr:∀y∈L,0<=r y)(hT:∀t∈T,0<=t)(s:List.Sublist M L):Ot c r T S P ys n M paid:=by
 have h1:=Xh (f:=r) s hr;have h2:=Xh (f:=cr r T ys n) s λy hy=>J51 (hr y hy) hT;exact⟨h.nd.sublist s,RQ h1 h.fit,λy hy=>h.asked y (s.subset hy),by have:=h.le;omega⟩
structure Ed(c r:Str->Int)(P:Int)(ys:List Str)(n:Nat)(L:List Str)(paid:Int):Prop where
 nd:L.Nodup
 fit:sm r L<=P
 asked:∀y∈L,(Ax ys y n).isSome=true
 all:∀(T:List Int) (S:Int),(∀t∈T,0<=t)->T.length=ys.length->Ot c r T S P ys n L paid
section
variable {c r:Str->Int}{P:Int}{ys:List Str}{n:Nat}{L M:List Str}{paid:Int}
theorem Ed.start(hP:0<=P):Ed c r P ys 0 [] 0:=⟨HZ,hP,(λy hy=>by cases hy),λT S _ _=>Ot.start hP⟩
theorem Ed.cast(h:Ed c r P ys n L paid)(hr:∀y∈L,0<=r y)(s:List.Sublist M L):Ed c r P ys n M paid:=
 ⟨h.nd.sublist s,RQ (Xh (f:=r) s hr) h.fit,λy hy=>h.asked y (s.subset hy),λT S hT hl=>J1u (h.all T S hT hl) hr hT s⟩
theorem Ed.hit(h:Ed c r P ys n L paid)(hn:n < ys.length)(hz:ys.getD n Str.empty∈L):Ed c r P ys (n+1) L paid:=
 ⟨h.nd,h.fit,λy hy=>Mf (h.asked y hy),λT S hT hl=>(h.all T S hT hl).hit hT (by omega) hz⟩
theorem Ed.miss(h:Ed c r P ys n L paid)(hn:n < ys.length)(hz:ys.getD n Str.empty∉L)(hf:sm r L+r (ys.getD n Str.empty)<=P):Ed c r P ys (n+1) (L++[ys.getD n Str.empty]) (paid+c (ys.getD n Str.empty)):=by
 have h0:=(h.all (List.replicate ys.length 0) 1 (λt ht=>by rw[(List.mem_replicate.mp ht).2];exact FZ _) (by simp)).miss (λt ht=>by rw[(List.mem_replicate.mp ht).2];exact FZ _) (by simp;omega) hz hf;exact⟨h0.nd,h0.fit,h0.asked,λT S hT hl=>(h.all T S hT hl).miss hT (by omega) hz hf⟩
end
theorem Nf{y:Str}{n:Nat}(h:(Ax ys y n).isSome=true)(hn:n<=ys.length):y∈ys:=by
 obtain⟨j,hj⟩:=Hw.mp h;obtain⟨h1,h2⟩:=E2 hj;rw[<- h2];exact Ff (C9 (by omega))
end N41
namespace L2
open PySem.W
def J5c(tp:Addr)(H:Hp):Prop:=H tp=some (.tbl #[])/\∀b,b≠tp->H b=none\/∃o xs,H b=some (.frz o (.lst xs))
theorem J1v{w:World}{K:PySem.W.Frag}{mg mb:Str->Option Value}{k:Nat}{fa a:Addr}{x:Str}{sp:Sp}{s₁:Shared}{vs:List Value}{ns:List Int}
 (KX:K.In s₁.heap) (hns:s₁.heap.Ns mainGlobals mg) (hb:s₁.heap.Ns builtinsNs mb) (hbb:∀x:Str,x≠"__name__"->mb x=bootBuiltins x) (hlim:s₁.heap.NoLimit) (hg:s₁.gens=#[])
 (ha:s₁.heap.get? a=some {cls:= .type "list",data:= .seq vs.toArray}) (hi:IntsAre vs ns) (hl:ns.length<=sizeLine) (hr:Bz k callerA)
 (hT:s₁.heap.get? tp=some (tabObj #[])) (hct:isCodeTable s₁.heap tp) (hKt:K.lookup tp=none)
 (hbm:∃bm ob,mg "__builtins__"=some (.ref bm)/\bm≠builtinsNs/\s₁.heap.get? bm=some ob/\ob.cls= .type "module"/\ob.dict=some builtinsNs/\ob.data= .plain)
 (F:∀base:Heap,K.In base->base.Ns mainGlobals mg->base.BuiltinsAt mg tp->Al P w K mg base CX k fa fd [x] sp) (hbind:∀(s:Shared) (u:Value),BindsTo s fd ⟨[u],[]⟩ [(x,u)])
 (hsp:∀H:Hp,J5c tp H->SqL K H a (ns.map V.int)->sp [.ref a] H (λv _=>v= .bl true) λ_ _ _=>False)
 (hCX:∀H e s',CX [] H s₁ (λ_ _ _=>False) e s'->False):
 codeAny (model P w) callerA (.call (.ref fa) ⟨[.ref a],[]⟩) (λr s'=>r= .ok (.ret (.bool true))/\OldK s₁.heap s'.heap/\s'.os=s₁.os/\AllBare s'.gens) s₁:=by
 have rv:=S0 hi;have lenV:=hi.length
 have nta:tp≠a:=λe=>by rw[e,ha]at hT;cases hT
 have core:∀H:Hp,J5c tp H->SqL K H a (ns.map V.int)->HOk P w H s₁.heap->(∀b,b≠tp->H b≠none->b=a/\K.lookup a=none)->
  codeAny (model P w) callerA (.call (.ref fa) ⟨[.ref a],[]⟩) (λr s'=>r= .ok (.ret (.bool true))/\OldK s₁.heap s'.heap/\s'.os=s₁.os/\AllBare s'.gens) s₁:=by
  intro H hO hS hok hA
  have off:∀{b:Addr}{o:Obj}{es:Array DictEntry}{ep:Nat},s₁.heap.get? b=some o->o.data= .dict es ep->H b=none:=λ{b o es ep} e d=>by
   by_cases h1:b=tp
   . subst h1;rw[hT]at e;cases e;cases d
   . cases q:H b with
     | none=>rfl
     | some u=>
      obtain⟨e',_⟩:=hA b h1 (by rw[q];simp);subst e';rw[ha]at e;cases e;cases d
  have nsT:∀{b:Addr}{m:Str->Option Value},s₁.heap.Ns b m->(Sx s₁.heap H).Ns b m:=λ{b m} ⟨o,es,ep,e,d,r⟩=>⟨o,es,ep,Pd e (off e d),d,r⟩
  have inT:K.In (Sx s₁.heap H):=λb o e=>Pd (KX b o e) (by
   by_cases h1:b=tp
   . subst h1;rw[hKt]at e;cases e
   . cases q:H b with
     | none=>rfl
     | some u=>
      obtain⟨e',hk⟩:=hA b h1 (by rw[q];simp)
      subst e';rw[hk]at e;cases e)
  have mT:Mod K mg (Sx s₁.heap H):=⟨inT,nsT hns,⟨mb,nsT hb,hbb⟩,let ⟨mc,h1,h2⟩:=hlim;⟨mc,nsT h1,h2⟩⟩
  have e0:Mo P w K mg (Sx s₁.heap H) callerA [] s₁ H:=⟨rfl,mT,λb o e=>J6x e,RP (J0y _ _),trivial,λb hb=>absurd (show b∈([]:List Addr) from hb) (by simp),hok,.of_eq hg⟩
  have bT:(Sx s₁.heap H).BuiltinsAt mg tp:=by
   obtain⟨bm,ob,m1,m2,m3,m4,m5,m6⟩:=hbm
   have ntp:bm≠tp:=λe=>by rw[e,hT]at m3;cases m3;cases m4
   refine⟨bm,ob,m1,m2,λe=>?_,ntp,Pd m3 ?_,m4,m5,m6⟩
   . obtain⟨o,es,ep,e1,d1,_⟩:=hns
     rw[<- e,m3]at e1;cases e1;rw[m6]at d1;cases d1
   . cases q:H bm with
     | none=>rfl
     | some u=>
      obtain⟨e',_⟩:=hA bm ntp (by rw[q];simp);rw[e',ha]at m3;cases m3;cases m6
  refine Rc ((F _ inT (nsT hns) bT).run callerA [] s₁ H ⟨[.ref a],[]⟩ [.ref a] [.ref a] _ _ hr e0 (hbind s₁ (.ref a)) (.cons rfl .nil) (hsp H hO hS)) λr s' h=>?_
  cases r with
  | error e=>exact(hCX H e s' h).elim
  | ok fl=>
   cases fl with
   | next=>exact False.elim h
   | brk=>exact False.elim h
   | cont=>exact False.elim h
   | ret u=>
    obtain⟨v,H',os,bare,un,hok',r',q⟩:=h;obtain rfl:v= .bl true:=q;obtain rfl:u=Value.bool true:=r'
    have kp:∀b o,b≠tp->s₁.heap.get? b=some o->s'.heap.get? b=some o:=λb o nb e=>by
     cases q:H b with
     | none=>exact un.keep b o e q (by intro z;exact absurd (show b∈([]:List Addr) from z) (by simp)) (by simp)
     | some u=>
      rcases hO.2 b nb with z | ⟨ob,xs,z⟩
      . rw[q]at z;cases z
      . obtain⟨e1,_⟩:=hok b _ z
        obtain⟨e2,_⟩:=hok' b _ (un.frzs b ob _ z);rw[e]at e1;cases e1;exact e2
    obtain⟨more,hm⟩:=un.tbls tp #[] hO.1;have tT:s'.heap.get? tp=some {cls:= .none,data:= .fields (#[]++more)}:=hok' tp _ hm;refine⟨rfl,⟨λb o e=>?_,λb o e=>?_⟩,os,bare⟩
    . by_cases nb:b=tp
      . subst nb
        rw[hT]at e;cases e;exact .inr (.inl ⟨hct,rfl,#[],more,rfl,tT⟩)
      . exact .inl (kp b o nb e)
    . by_cases nb:b=tp
      . subst nb;exact⟨_,tT⟩
      . exact⟨o,kp b o nb e⟩
 have tOk:∀H:Hp,Bu P w H s₁.heap tp (.tbl #[]):=λH=>hT
 cases hk:K.lookup a with
 | some o=>
  have e:=KX a o hk;rw[ha]at e;cases e;refine core (λb=>if b=tp then some (.tbl #[]) else none) ⟨if_pos rfl,λb nb=> .inl (if_neg nb)⟩ (.inr ⟨_,vs.toArray,_,hk,rfl,rfl,rfl,by rw[Fn,lenV];exact hl,by simpa using rv⟩) (λb u z=>?_) (λb nb z=>absurd (if_neg nb) z)
  by_cases h1:b=tp
  . have z':=(if_pos h1).symm.trans z
    cases z';subst h1;exact tOk _
  . have z':=(if_neg h1).symm.trans z
    cases z'
 | none=>
  refine core (λb=>if b=tp then some (.tbl #[]) else if b=a then some (.frz {cls:= .type "list",data:= .seq vs.toArray} (.lst (ns.map V.int))) else none) ⟨if_pos rfl,λb nb=>?_⟩ (.inl (.inr ⟨{cls:= .type "list",data:= .seq vs.toArray},(if_neg nta.symm).trans (if_pos rfl)⟩)) (λb u z=>?_) (λb nb z=>⟨?_,hk⟩)
  . by_cases h2:b=a
    . exact .inr ⟨_,_,(if_neg nb).trans (if_pos h2)⟩
    . exact .inl ((if_neg nb).trans (if_neg h2))
  . by_cases h1:b=tp
    . have z':=(if_pos h1).symm.trans z
      cases z';subst h1;exact tOk _
    . have z1:=(if_neg h1).symm.trans z
      by_cases h2:b=a
      . have z':=(if_pos h2).symm.trans z1
        cases z';subst h2;exact⟨ha,by rw[Fa];exact hl,vs,_,rv,ha⟩
      . have z':=(if_neg h2).symm.trans z1
        cases z'
  . by_cases h2:b=a
    . exact h2
    . exact absurd ((if_neg nb).trans (if_neg h2)) z
theorem J1w{l:PySem.W.OpenLaw}{n k:Nat}{q:Program}{loose:List Str}{XP:(Str->Option Value)->Heap->Prop}{YP:World->Heap->Prop}{d:DefRec}{K:Params->PySem.W.Frag}{CX:CXT}{sp:PySem.W.Frag->Sp}{x:Str}{tp:Addr}
 (hn:l.most=some n) (hn2:n<=sizeLine) (hdf:d.params.defaults=[]) (hr:Bz k callerA)
 (hY:∀(w:World) (h:Heap),YP w h->(K w.params).In h) (hT:∀(w:World) (h:Heap),YP w h->h.get? tp=some (tabObj #[])) (hKt:∀w:World,(K w.params).lookup tp=none)
 (F:∀(w:World) (mg:Str->Option Value) (fa:Addr) (h:Heap),(K w.params).In h->h.Ns mainGlobals mg->mg d.name=some (.ref fa)->
  (∃c,codeHdIn (K w.params) c tp=true)/\∃fd:FuncData,(∀(s:Shared) (u:Value),BindsTo s fd ⟨[u],[]⟩ [(x,u)])/\
   ∀base:Heap,(K w.params).In base->base.Ns mainGlobals mg->base.BuiltinsAt mg tp->Al l.prog w (K w.params) mg base CX k fa fd [x] (sp (K w.params)))
 (hsp:∀(K:PySem.W.Frag) (H:Hp) (a:Addr) (ns:List Int),ns.length<=n->J5c tp H->SqL K H a (ns.map V.int)->sp K [.ref a] H (λv _=>v= .bl true) λ_ _ _=>False)
 (hCX:∀(H:Hp) (s:Shared) (e:Value) (s':Shared),CX [] H s (λ_ _ _=>False) e s'->False):
 PySem.W.WalkO q loose XP YP l.row.toRowW d [] (λf vs=>PySem.call f vs):=by
 refine Att.Uk hn hdf λw s₀ s₁ mg mb fa o pm cd doc a vs ns G Y ho hd hcd hmg hobj hints hlen hg=>?_;have KX:=hY w _ Y;obtain⟨⟨c,hc⟩,fd,hb,hF⟩:=F w mg fa _ KX G.T.g hmg
 have hct:isCodeTable s₁.heap tp:=by
  obtain⟨o,vs,f,tf,fl,tg,b,n,tt,e1,e2,e3,e4,_⟩:=codeHd_of_K KX hc;exact⟨c,o,vs,e1,e2,e3,e4⟩
 exact J1v KX G.T.g G.T.b G.T.builtins G.T.nolimit hg hobj hints (FO hlen hn2) hr (hT w _ Y) hct (hKt w) G.T.bmain hF hb (λH hO hS=>hsp (K w.params) H a ns hlen hO hS) λH e s'=>hCX H s₁ e s'
section
variable {X:Cx}{pins:List (Addr×Obj)}{σ:List (Option V)}{H H':Hp}{s:Shared}{h':Heap}
theorem Inv.grown{ps more:Array Value}(I:Inv X pins σ H s)(ht:H tp=some (.tbl ps))(k:∀b u,b≠tp->s.heap.get? b=some u->h'.get? b=some u)(e:h'.get? tp=some (tabObj (ps++more)))
 (hT:H' tp=some (.tbl (ps++more))) (old:∀b,b≠tp->b < s.heap.objs.size->H' b=H b) (new:∀b u,s.heap.objs.size<=b->H' b=some u->Bu X.prog X.w H' h' b u):Inv X pins σ H' {s with heap:=h',toks:=t'}:=by
 have lt:∀b u,H b=some u->b < s.heap.objs.size:=λb u q=>(I.hok b u q).lt
 have nt:∀b u,H b=some u->(∀ps,u≠ .tbl ps)->b≠tp:=λb u q n z=>by rw[z,ht]at q;cases q;exact n _ rfl
 have st:∀b u,H b=some u->b≠tp->H' b=some u:=λb u q n=>by rw[old b n (lt b u q)];exact q
 refine I.un ⟨λb o q n _ _=>k b o (λz=>by rw[z,ht]at n;cases n) q,λb o q n _ _=>⟨o.slots,k b o (λz=>by rw[z,ht]at n;cases n) q⟩,λb o q n _=>?_,λb o q _=>?_,λb xs q=>st b _ q (nt b _ q λ_ z=>by cases z),λb o u q=>st b _ q (nt b _ q λ_ z=>by cases z),λb ps' q=>?_⟩ λb u q=>?_
 . rw[old b (λz=>by rw[z,ht]at n;cases n) (Fq q)];exact n
 . by_cases z:b=tp
   . subst z;exact⟨_,e⟩
   . exact⟨o,k b o z q⟩
 . by_cases z:b=tp
   . subst z;rw[ht]at q;cases q;exact⟨more,hT⟩
   . exact⟨#[],by rw[st b _ q z];simp⟩
 . by_cases z:b=tp
   . subst z;rw[hT]at q;cases q;exact e
   . by_cases hb:b < s.heap.objs.size
     . have q0:H b=some u:=by rw[<- old b z hb];exact q
       refine(I.hok b u q0).stay (λc v hc r=>k c v (λw'=>?_) r) (λc r=>st c _ r (nt c _ r λ_ z=>by cases z)) λc xs r=>st c _ r (nt c _ r λ_ z=>by cases z);rcases hc with rfl | hc
       . exact z w'
       . rw[w',ht]at hc;cases hc
     . exact new b u (Jm hb) q
end
def Q7(c:Addr)(qual:Str):HO:= .ext λh=>h.CodeRec (.ref c) qual
def fnO(f:Addr)(o:Obj):HO:= .ext λh=>h.get? f=some o
theorem J5d{w:World}{H:Hp}{h:Heap}{c:Addr}{qual:Str}(x:h.CodeRec (.ref c) qual):Bu P w H h c (Q7 c qual):=by
 refine⟨x,?_,λh1 h2 y k=>?_⟩
 . obtain⟨c',oc,vs,tq,e,hoc,_⟩:=x
   cases e;exact⟨oc,hoc⟩
 . obtain⟨c',oc,vs,tq,e,hoc,r⟩:=y
   cases e;exact⟨_,oc,vs,tq,rfl,k _ hoc,r⟩
theorem J5e{w:World}{H:Hp}{h:Heap}{f:Addr}{o:Obj}(x:h.get? f=some o):Bu P w H h f (fnO f o):=⟨x,⟨o,x⟩,λ_ _ y k=>k _ y⟩
def D6(tp:Addr)(pos:Pos)(qual:Str)(H:Hp):Prop:=H tp=some (.tbl #[])\/∃c,H tp=some (.tbl #[rawInt pos.line,rawInt pos.col,.ref c])/\H c=some (Q7 c qual)
def Jcu(tp:Addr)(pos:Pos)(qual:Str)(fo:Addr->Value->Obj):TE:=λ_ H Q=>D6 tp pos qual H/\∀f c ct H',H f=none->N1.SameBut tp H H'->D6 tp pos qual H'->H' c=some (Q7 c qual)->H' f=some (fnO f (fo c ct))->Q (.ref f) H'
def Jcv(K:PySem.W.Frag)(f tp:Addr):Prop:=∃(oc:Value) (od:Option Addr) (fd:FuncData) (sl:Array (Option Value)) (c:Addr),K.lookup f=some ⟨oc,od,.func fd,sl⟩/\fd.code= .ref c/\codeHdIn K c tp=true
section
variable {P:Program}{w:World}{K:PySem.W.Frag}{mg:Str->Option Value}{base:Heap}
theorem Fun.okC{x qual:Str}{st:Stmt}{f:Addr}{N:List Str}{k:Nat}{sp:Sp}(F:Fun K x qual st f fd)(M:Jcv K f tp)(S:A9 N ps (A6 st))(len:∀vs H Q E,sp vs H Q E->vs.length=ps.length)
 (hbody:∀(c:Addr) (A:Around) (outer:List Env) (s:Shared) (H:Hp) (vs:List V) (Q:VK) (E:XK),codeHdIn K c tp=true->Bz k (A.deeper (envOfC qual (A6 st) s.heap.objs.size f (.ref c)))->sp vs H Q E->
  ∃t,PSs (T5 CX0 P w K mg base N qual (A6 st) f (.ref c) A outer s H E).nox (B5 st) t/\t {nx:=λ_ H'=>Q .non H',rt:=Q} (start N vs) H):Al P w K mg base CX0 (k+1) f fd ps sp:=by
 obtain⟨oc,od,kV,doc,pm,an,cdv,ct,osl,rfl,lk,hcd⟩:=F.ex;obtain⟨oc',od',fd',sl',c,lk',e,hc⟩:=M;rw[lk]at lk';cases lk';have e:cdv= .ref c:=e;subst e;refine J2u lk hcd S len λA outer s H vs Q E hr hsp=>?_;obtain⟨t,h,q⟩:=hbody c A outer s H vs Q E hc hr hsp;exact⟨t,h.nox,q⟩
end
theorem J5f{pos:Pos}{qual:Str}{fo:Addr->Value->Obj}{H:Hp}:Jcu tp pos qual fo σ H Q=(D6 tp pos qual H/\∀f c ct H',H f=none->N1.SameBut tp H H'->D6 tp pos qual H'->H' c=some (Q7 c qual)->H' f=some (fnO f (fo c ct))->Q (.ref f) H'):=rfl
open PySem.W
def Gg(c:Addr)(o:Obj):HO:= .frz o (.ext λh=>h.get? c=some o)
theorem J0h{w:World}{H:Hp}{h:Heap}{c:Addr}{o:Obj}(e:h.get? c=some o):Bu P w H h c (Gg c o):=⟨e,e,⟨o,e⟩,λ_ _ y k=>k _ y⟩
structure Tt where
 qual:Str
 args:Arguments
 body:Expr
 scope:Scope
abbrev Jb6(L:Tt)(cl:List (Str×Addr))(pm:Value)(cd:Addr)(ct:Value):Obj:=kla_obj "<lambda>" L.qual L.args L.body L.scope cl pm cd ct
def Vv(L:Tt)(cl:List (Str×Addr))(H:Hp)(f:Addr):Prop:=∃pm cd ct,H f=some (fnO f (Jb6 L cl pm cd ct))/\H cd=some (Q7 cd L.qual)
def Df(H:Hp)(cl:List (Str×Addr))(vs:List V):Prop:=Paired (λ(p:Str×Addr) (v:V)=>∃o u,H p.2=some (Gg p.2 o)/\o.data= .cell (some u)/\B1 v u) cl vs
theorem Vv.same{L:Tt}{H:Hp}{f:Addr}(s:A7 H H')(h:Vv L cl H f):Vv L cl H' f:=let ⟨pm,cd,ct,a,b⟩:=h;⟨pm,cd,ct,s _ _ a,s _ _ b⟩
theorem Df.same{H:Hp}{vs:List V}(s:A7 H H')(h:Df H cl vs):Df H' cl vs:=Paired.mapP h λp v ⟨o,u,a,b⟩=>⟨o,u,s _ _ a,b⟩
theorem Df.get{H:Hp}:∀{cl:List (Str×Addr)}{vs:List V},Df H cl vs->∀p∈cl,∃o u,H p.2=some (Gg p.2 o)/\o.data= .cell (some u)
 | _,_,.nil,_,h=>by cases h
 | _,_,.cons ⟨o,u,a,b,_⟩ t,p,h=>by
  rcases Ft.mp h with rfl | h
  . exact⟨o,u,a,b⟩
  . exact Df.get t p h
theorem Df.ix{H:Hp}:∀{cl:List (Str×Addr)}{vs:List V}{i:Nat}{v:V},Df H cl vs->vs[i]?=some v->∃p o u,cl[i]?=some p/\H p.2=some (Gg p.2 o)/\o.data= .cell (some u)/\B1 v u
 | _,_,_,_,.nil,h=>by cases h
 | _,_,0,v,.cons ⟨o,u,a,b,c⟩ t,h=>by
  simp at h;subst h;exact⟨_,o,u,rfl,a,b,c⟩
 | _,_,i+1,v,.cons _ t,h=>by
  obtain⟨p,o,u,e,r⟩:=Df.ix (i:=i) (v:=v) t (by simpa using h);exact⟨p,o,u,by simpa using e,r⟩
def unk(H:Hp)(as:List Addr):Hp:=λb=>if b∈as then none else H b
def retr(H H0:Hp)(as:List Addr):Hp:=λb=>if b∈as then H0 b else H b
section
variable {H H0:Hp}{as:List Addr}{b:Addr}
theorem O6(h:b∈as):unk H as b=none:=if_pos h
theorem D3(h:b∉as):unk H as b=H b:=if_neg h
theorem Lg(h:b∈as):retr H H0 as b=H0 b:=if_pos h
theorem E6(h:b∉as):retr H H0 as b=H b:=if_neg h
theorem Gx(h:H b=none):unk H as b=none:=by
 by_cases z:b∈as
 . exact O6 z
 . rw[D3 z];exact h
theorem Vw{o:HO}(h:unk H as b=some o):b∉as/\H b=some o:=by
 by_cases z:b∈as
 . rw[O6 z]at h;cases h
 . rw[D3 z]at h;exact⟨z,h⟩
end
structure Gy(N ps:List Str)(sc:Scope)(cl:List (Str×Addr)):Prop where
 kind:sc.kind= .function
 co:sc.isCoroutine=false
 gen:sc.isGenerator=false
 nd:(ps++cl.map (·.1)).Nodup
 N:N=ps++cl.map (·.1)
 par:∀x∈ps,sc.names.lookup x=some .local
 nocell:∀y∈sc.names,y.2≠ .cell
 fr:∀x,sc.names.lookup x=some .free->∃c,cl.lookup x=some c
 frk:∀p∈cl,sc.names.lookup p.1=some .free
 inj:∀x y c,cl.lookup x=some c->cl.lookup y=some c->x=y
def cxL(P:Program)(w:World)(K:PySem.W.Frag)(mg:Str->Option Value)(base:Heap)(N:List Str)(qual:Str)(scope:Scope)(f:Addr)(cd:Value)(A:Around)(outer:List Env)(s:Shared)(H:Hp)(cl:List (Str×Addr)):Cx where
 prog:=P
 w:=w
 K:=K
 mg:=mg
 base:=base
 A:=A.deeper (envX qual scope s.heap.objs.size f cd cl)
 N:=N
 s₀:=s
 H₀:=H
 env:=envX qual scope s.heap.objs.size f cd cl
 outer:=outer
 stack:=envX qual scope s.heap.objs.size f cd cl::outer
 ex:=[]
 calm:=true
 fn:=λ_=>false
 pn:=[]
 xe:=λ_ _=>False
theorem J80{x:Str}{u:Value}:∀{l:List (Str×Value)},(l.map (·.1)).Nodup->(x,u)∈l->l.lookup x=some u:=by
 intro l
 induction l with
 | nil=>intro _ h;cases h
 | cons p r ih=>
  intro nd h;rw[List.map_cons,Hm]at nd;rcases Ft.mp h with e | h
  . rw[<- e,List.lookup_cons_self]
  . have n:x≠p.1:=λe=>nd.1 (FH.mpr ⟨_,h,e⟩)
    rw[Hk,show (x==p.1)=false from HP.mpr n];exact ih nd.2 h
theorem J5g{x:Str}{u:Value}:∀{ps:List Str}{us:List Value}{i:Nat},ps.Nodup->ps[i]?=some x->us[i]?=some u->(ps.zip us).reverse.lookup x=some u:=by
 intro ps us i nd h1 h2;refine J80 ?_ ?_
 . rw[List.map_reverse]
   refine(List.reverse_perm _).nodup_iff.mpr ?_
   have key:∀(ps:List Str) (us:List Value),((ps.zip us).map (·.1)).Sublist ps:=by
    intro ps
    induction ps with
    | nil=>intro us;cases us <;> exact List.Sublist.refl _
    | cons p r ih=>
     intro us
     cases us with
     | nil=>exact List.nil_sublist _
     | cons u v=>exact(ih v).cons₂ p
   exact nd.sublist (key ps us)
 . rw[List.mem_reverse]
   exact Ff (i:=i) (by rw[RV];exact⟨h1,h2⟩)
section
variable {P:Program}{w:World}{K:PySem.W.Frag}{mg:Str->Option Value}{base:Heap}
theorem J81{k:Nat}{f:Addr}{L:Tt}{pm ct:Value}{cd:Addr}{N:List Str}{A:Around}{outer:List Env}{s:Shared}{H:Hp}{vs fvs:List V}{E:XK}
 (S:Gy N ps L.scope cl) (hb:bindArgs (kla_fn "<lambda>" L.qual L.args L.body L.scope cl pm (.ref cd) ct) ⟨us,[]⟩=pure (ps.zip us)) (hr:Bz (k+1) A) (e0:Mo P w K mg base A outer s H) (r:B3 vs us) (hl:vs.length=ps.length)
 (hf:H f=some (fnO f (Jb6 L cl pm cd ct))) (hc:H cd=some (Q7 cd L.qual)) (hcs:Df H cl fvs)
 (hbody:∃t,PE (cxL P w K mg base N L.qual L.scope f (.ref cd) A outer s (unk H (cl.map (·.2))) cl) L.body t/\t (vs.map some++fvs.map some) (unk H (cl.map (·.2))) λv H'=>(∀c∈cl.map (·.2),H' c=none)->Q v (retr H' H (cl.map (·.2)))):
 codeAny (model P w) A (.call (.ref f) ⟨us,[]⟩) (CR CX0 outer P w H s Q E) s:=by
 have hf1:s.heap.get? f=some (Jb6 L cl pm cd ct):=(e0.hok f _ hf).1;have hc1:s.heap.CodeRec (.ref cd) L.qual:=(e0.hok cd _ hc).1;have lim:s.heap.NoLimit:=e0.mod.nolimit.keeps λb o e=>(e0.bs b o e).1
 have hcm:∀c∈cl.map (·.2),∃o u,H c=some (Gg c o)/\o.data= .cell (some u)/\s.heap.get? c=some o:=λc h=>by
  obtain⟨p,hp,rfl⟩:=FH.mp h;obtain⟨o,u,a,b⟩:=hcs.get p hp;exact⟨o,u,a,b,(e0.hok _ _ a).1⟩
 have nfs:∀c∈cl.map (·.2),c∉frs outer:=λc h z=>by
  obtain⟨o,u,a,_⟩:=hcm c h;rw[e0.frf c z]at a;cases a
 refine kla_callFunE hr.depth hf1 rfl S.co S.gen rfl hc1 ?_;rw[hb];refine FX (wpAny_newFunctionEnv S.nocell (λy hy=>S.par y.1 (J7 hy).1) (λh₁ hns hsb=>?_) S.kind);have kp:∀b o,s.heap.get? b=some o->h₁.get? b=some o:=λb o e=>hsb.extBut b o (FB (Fq e)) (Fm _ e);refine⟨lim.keeps kp,?_⟩;show codeAny _ _ (.expr L.body (envX L.qual L.scope s.heap.objs.size f (.ref cd) cl)) _ _;obtain⟨t,ht,hq⟩:=hbody;have noA:∀b:Addr,b∉(cxL P w K mg base N L.qual L.scope f (.ref cd) A outer s (unk H (cl.map (·.2))) cl).ex:=λb z=>absurd (show b∈([]:List Addr) from z) (by simp);have cin:∀x c,cl.lookup x=some c->c∈cl.map (·.2):=λx c e=>FH.mpr ⟨(x,c),Hh e,rfl⟩
 have hok1:HOk P w (unk H (cl.map (·.2))) h₁:=λb o e=>by
  obtain⟨nb,e⟩:=Vw e;refine(e0.hok b o e).stay (λc v _ q=>kp c v q) (λc q=>?_) λc xs q=>?_
  . rw[D3 λz=>?_]
    . exact q
    . obtain⟨o',_,a,_⟩:=hcm c z
      rw[a]at q;cases q
  . rw[D3 λz=>?_]
    . exact q
    . obtain⟨o',_,a,_⟩:=hcm c z
      rw[a]at q;cases q
 have I:Inv (cxL P w K mg base N L.qual L.scope f (.ref cd) A outer s (unk H (cl.map (·.2))) cl) [] (vs.map some++fvs.map some) (unk H (cl.map (·.2))) {s with heap:=h₁,toks:=s.toks+(ps.zip us).length}:=by
  refine⟨⟨e0.mod,S.kind,rfl,rfl,Fg _,S.inj,λy hy=>?_,λy c h=>(by cases h),λ_=>hr.hd,Around.frames_deeper e0.frames,.inr ⟨rfl,rfl⟩,λb z=>absurd z (noA b),λb o e=>⟨(e0.bs b o e).1,Gx (e0.bs b o e).2⟩,e0.bsz,λb _ _=>noA b,λb z=>absurd z (noA b),e0.funs,λb z=>Gx (e0.frf b z)⟩,
   rfl,e0.bare,Un.kept kp,⟨_,hns,λi x v h1 h2 _=>?_⟩,λy c h=>?_,Gx (e0.hok.fresh (Fg _)),λy c h=>O6 (cin y c h),λp hp=>absurd (show p∈([]:List (Addr×Obj)) from hp) (by simp),hok1,?_⟩
  . have hy:L.scope.names.lookup y=some .cell\/L.scope.names.lookup y=some .free:=hy
    rcases hy with hy | hy
    . exact absurd rfl (S.nocell _ (Hh hy))
    . exact S.fr y hy
  . have h1:N[i]?=some x:=h1
    rw[S.N]at h1
    by_cases hi:i < ps.length
    . rw[FD hi]at h1
      rw[FD (by rw[Fa];omega),Fe]at h2
      cases e:vs[i]? with
      | none=>rw[e]at h2;cases h2
      | some a=>
       rw[e]at h2;cases h2;obtain⟨u,hu,rv⟩:=r.get e;exact⟨u,rv,.inl ⟨S.par x (Ff h1),J5g (S.nd.sublist (List.sublist_append_left ..)) h1 hu⟩⟩
    . rw[Fz (by omega),Fe]at h1
      rw[Fz (by rw[Fa];omega),Fa,Fe,hl]at h2
      cases e:fvs[i - ps.length]? with
      | none=>rw[e]at h2;cases h2
      | some a=>
       rw[e]at h2;cases h2;obtain⟨p,o,u,hp,a,b,rv⟩:=hcs.ix e;rw[hp]at h1;cases h1;have hm:=Ff hp;refine⟨u,rv,.inr ⟨.inr (S.frk p hm),p.2,lookup_of_mem_nodup (S.nd.sublist (List.sublist_append_right ..)) hm,o,kp _ _ (e0.hok _ _ a).1,b⟩⟩
  . obtain⟨o,u,_,b,e⟩:=hcm c (cin y c h)
    exact⟨some u,o,kp _ _ e,b⟩
  . show _=N.length
    rw[S.N,Fl,Fl,Fa,Fa,Fa,hl];have:=Paired.length hcs;omega
 refine kla_codeExpr (Hs (ht [] _ _ _ _ I hq) (λv s' hq_=>?_) λe s' z=>False.elim z);obtain⟨x,H',J,rx,q⟩:=hq_;have ub:Un (frs outer) [] (unk H (cl.map (·.2))) H' s.heap s'.heap:=J.base
 have hc0:∀c∈cl.map (·.2),H' c=none:=λc h=>by
  obtain⟨o,u,_,_,e⟩:=hcm c h;exact ub.free c o e (O6 h) (by simp)
 refine⟨x,retr H' H (cl.map (·.2)),J.os,J.bare,⟨λb o e n hb hx=>ub.keep b o e (Gx n) hb hx,λb o e n hb hx=>ub.slot b o e (Gx n) hb hx,λb o e n hx=>?_,ub.there,λb xs e=>?_,λb o u e=>?_,λb pp e=>?_⟩,λb o e=>?_,rx,q hc0⟩
 . by_cases z:b∈cl.map (·.2)
   . rw[Lg z];exact n
   . rw[E6 z];exact ub.free b o e (Gx n) hx
 . by_cases z:b∈cl.map (·.2)
   . rw[Lg z];exact e
   . rw[E6 z];exact ub.tups b xs (by rw[D3 z];exact e)
 . by_cases z:b∈cl.map (·.2)
   . rw[Lg z];exact e
   . rw[E6 z];exact ub.frzs b o u (by rw[D3 z];exact e)
 . by_cases z:b∈cl.map (·.2)
   . rw[Lg z];exact⟨#[],by rw[e];simp⟩
   . rw[E6 z];exact ub.tbls b pp (by rw[D3 z];exact e)
 . by_cases z:b∈cl.map (·.2)
   . rw[Lg z]at e
     obtain⟨ob,u,a,_,e2⟩:=hcm b z;rw[a]at e;cases e;exact J0h (ub.keep b ob e2 (O6 z) (nfs b z) (by simp))
   . rw[E6 z]at e
     refine(J.hok b o e).stay (λc v _ q=>q) (λc q=>?_) λc xs q=>?_
     . rw[E6 λz=>?_]
       . exact q
       . rw[hc0 c z]at q;cases q
     . rw[E6 λz=>?_]
       . exact q
       . rw[hc0 c z]at q;cases q
structure Sl(P:Program)(w:World)(K:PySem.W.Frag)(mg:Str->Option Value)(base:Heap)(CX:CXT)(k:Nat)(f:Addr)(J:Hp->Prop)(sp:Sp):Prop where
 fnd:PySem.W.keepIn K (.ref f)=true\/∀(H:Hp) (h:Heap),HOk P w H h->J H->FnAt f h
 run:∀(A:Around) (outer:List Env) (s:Shared) (H:Hp) (us:List Value) (vs:List V) (Q:VK) (E:XK),Bz k A->Mo P w K mg base A outer s H->B3 vs us->J H->sp vs H Q E->codeAny (model P w) A (.call (.ref f) ⟨us,[]⟩) (CR CX outer P w H s Q E) s
theorem Sl.ofLam{k:Nat}{L:Tt}{fvs:List V}{N ps:List Str}{sp:Sp}{f:Addr}{J:Hp->Prop}(S:Gy N ps L.scope cl)
 (hb:∀(pm ct cd:Value) (us:List Value),us.length=ps.length->bindArgs (kla_fn "<lambda>" L.qual L.args L.body L.scope cl pm cd ct) ⟨us,[]⟩=pure (ps.zip us)) (len:∀vs H Q E,sp vs H Q E->vs.length=ps.length) (hJ:∀H,J H->Vv L cl H f/\Df H cl fvs)
 (hbody:∀(cd:Addr) (A:Around) (outer:List Env) (s:Shared) (H:Hp) (vs:List V) (Q:VK) (E:XK),Bz k (A.deeper (envX L.qual L.scope s.heap.objs.size f (.ref cd) cl))->J H->sp vs H Q E->∃t,PE (cxL P w K mg base N L.qual L.scope f (.ref cd) A outer s (unk H (cl.map (·.2))) cl) L.body t/\t (vs.map some++fvs.map some) (unk H (cl.map (·.2))) λv H'=>(∀c∈cl.map (·.2),H' c=none)->Q v (retr H' H (cl.map (·.2)))):
 Sl P w K mg base CX0 (k+1) f J sp:=by
 refine⟨.inr λH h ok j=>?_,λA outer s H us vs Q E hr e0 r j h=>?_⟩
 . obtain⟨⟨pm,cd,ct,a,_⟩,_⟩:=hJ H j
   exact⟨_,_,_,_,(ok f _ a).1⟩
 . obtain⟨⟨pm,cd,ct,a,b⟩,c⟩:=hJ H j
   have hl:=len _ _ _ _ h;exact J81 S (hb _ _ _ us (by rw[<- r.length];exact hl)) hr e0 r hl a b c (hbody cd A outer s H vs Q E (hr.deeper _) j h)
end
def J5h{ι:Type}(fa:ι->Addr)(J:ι->Hp->Prop)(sp:ι->Sp)(E:XK)(tv:TE)(t:TA):TE:=λσ H Q=>tv σ H λx H1=>∃b,x= .ref (fa b)/\J b H1/\t σ H1 λvs H2=>J b H2/\sp b vs H2 Q E
section
variable {ι:Type}{X:Cx}{CX:CXT}{k j:Nat}{fa:ι->Addr}{J:ι->Hp->Prop}{sp:ι->Sp}{E:XK}{x:Str}{p pos:Pos}{e:Expr}{es:List Expr}{tv:TE}{t:TA}
theorem J5i(D:∀b,Sl X.prog X.w X.K X.mg X.base CX j (fa b) (J b) (sp b))(hr:Bz k X.A)(hx:Nw CX X E)(hv:PE X (.Name x p) tv)(ha:PA X (e::es) t)(hj:j<=k:=by decide)
 (he:starEach (e::es) X.env=(false,eval e X.env)::starEach es X.env:=by rfl) (hpl:(backTo pos (starEach es X.env)).any (·.1)=false:=by rfl):
 PE X (.Call (.Name x p) (e::es) [] pos) (J5h fa J sp E tv t):=by
 intro pins s σ H Q I h;refine HR (thn (hv pins s σ H _ I h) λu s1 hq_=>?_);obtain⟨y,H1,I1,ry,b,ey,j1,q1⟩:=hq_;subst ey;obtain rfl:u=Value.ref (fa b):=ry
 have go:∀(us:List Value) (s2:Shared) (vs:List V) (H2:Hp),Inv X pins σ H2 s2->B3 vs us->J b H2->sp b vs H2 Q E->wpAny (model X.prog X.w) X.A (call (.ref (fa b)) us) (EP X pins σ Q) X.xe s2:=λus s2 vs H2 I2 r j2 q2=>by
  refine RF (Rc ((D b).run X.A X.stack s2 H2 us vs Q E (hr.mono hj) I2.env0 r j2 q2) λr s' hq=>?_)
  cases r with
  | error e=>exact hx pins σ H2 s2 e s' I2 hq
  | ok fl=>
   cases fl with
   | ret u=>exact I2.after hq
   | next=>exact False.elim hq
   | brk=>exact False.elim hq
   | cont=>exact False.elim hq
 rcases(D b).fnd with hk | hk
 . refine HS (h₀:=X.base) I.ok.mod.kin hk (thn (ha pos pins s1 σ H1 _ I1 q1) λus s2 ⟨vs,H2,I2,r,j2,q2⟩=>⟨I2.kIn,go us s2 vs H2 I2 r j2 q2⟩) he hpl
 . refine callWith_F (hk _ _ I1.hok j1) (thn (ha pos pins s1 σ H1 _ I1 q1) λus s2 ⟨vs,H2,I2,r,j2,q2⟩=>⟨hk _ _ I2.hok j2,go us s2 vs H2 I2 r j2 q2⟩) he hpl
theorem Vx{H:Hp}:J5h fa J sp E tv t σ H Q=tv σ H λx H1=>∃b,x= .ref (fa b)/\J b H1/\t σ H1 λvs H2=>J b H2/\sp b vs H2 Q E:=rfl
end
def Jdf(s:Stmt):Expr:=match s with
 | .Return (some e) _=>e
 | _=> .Constant .none 0 ⟨0,0,0,0⟩
def Jcw(qual:Str)(e:Expr):Tt:=match e with
 | .Lambda a b s _=>⟨qual,a,b,s⟩
 | _=>⟨qual,Ba (.Pass ⟨0,0,0,0⟩),e,A6 (.Pass ⟨0,0,0,0⟩)⟩
theorem Gy.mk1{ps:List Str}{sc:Scope}{x:Str}{c:Addr}(kind:sc.kind= .function)(co:sc.isCoroutine=false)(gen:sc.isGenerator=false)(nd:(ps++[x]).Nodup)(par:∀y∈ps,sc.names.lookup y=some .local)(nocell:∀y∈sc.names,y.2≠ .cell)
 (fr:∀y∈sc.names,y.2= .free->y.1=x) (frk:sc.names.lookup x=some .free):Gy (ps++[x]) ps sc [(x,c)]:=by
 refine⟨kind,co,gen,nd,rfl,par,nocell,λy hy=>⟨c,?_⟩,λp hp=>?_,λy z d h1 h2=>?_⟩
 . have e:y=x:=fr _ (Hh hy) rfl
   rw[e,List.lookup_cons_self]
 . rw[Fj.mp hp];exact frk
 . have e1:=Fj.mp (Hh h1)
   have e2:=Fj.mp (Hh h2);rw[(Prod.mk.inj e1).1,(Prod.mk.inj e2).1]
open PySem.W
section
variable {X:Cx}
theorem J82{args:Arguments}{body:Expr}{scope:Scope}{pos:Pos}{c:Addr}(hdef:defaultsOf args X.env=([],[]))(hcl:closureFor scope X.env=pure cl)(hcode:X.env.code= .ref c)(hc:codeHdIn X.K c tp=true)(hne:mainGlobals≠tp)
 (hB:X.base.BuiltinsAt X.mg tp):
 PE X (.Lambda args body scope pos) (Jcu tp pos (X.env.qual++"<lambda>") λc ct=>kla_obj "<lambda>" (X.env.qual++"<lambda>") args body scope cl ((X.mg "__name__").getD .none) c ct):=by
 intro pins s σ H Q I h;obtain⟨hL,q⟩:=h;have C:CodeHd s.heap c tp:=codeHd_of_K I.kIn hc;have G:s.heap.Ns mainGlobals X.mg:=I.mod.glob.keeps I.bk;have B:s.heap.BuiltinsAt X.mg tp:=hB.keeps I.bk;refine kla_eval hdef ?_;rcases hL with hE | ⟨c',hE,hc'⟩
 . have hP:s.heap.get? tp=some (tabObj #[]):=I.hok tp _ hE
   have ltt:=Fq hP;refine kla_makeFunction hcl I.ok.glob G hcode C hP (by first | trivial | exact .nil | simp[TriplesOk]) rfl hne B λc' ctv h' tk hx hge hlt hrec htab=>?_;have ncf:c'≠h'.objs.size:=FB hlt;have ltc:tp < c':=Fs ltt hge;have szf:s.heap.objs.size<=h'.objs.size:=FO hge (Ji hlt);have ntf:tp≠h'.objs.size:=FB (Nat.lt_trans ltc hlt);have ntc:tp≠c':=FB ltc;generalize hF:(kla_obj "<lambda>" (X.env.qual++"<lambda>") args body scope cl ((X.mg "__name__").getD .none) c' ctv)=fo
   have I2:Inv X pins σ (upd (upd (upd H tp (.tbl #[rawInt pos.line,rawInt pos.col,.ref c'])) c' (Q7 c' (X.env.qual++"<lambda>"))) h'.objs.size (fnO h'.objs.size fo)) {s with heap:=h'.push fo,toks:=tk}:=by
    refine I.grown (more:=#[rawInt pos.line,rawInt pos.col,.ref c']) hE (λb u nb e=>Fm _ (hx b u nb e)) (Fm _ htab) ?_ (λb nb lb=>?_) λb u lb e=>?_
    . rw[A2 ntf,A2 ntc];exact A1
    . rw[A2 (FB (Fs lb szf)),A2 (FB (Fs lb hge)),A2 nb]
    . by_cases e1:b=h'.objs.size
      . subst e1
        rw[A1]at e;cases e;exact J5e (FK _ (by rw[<- hF];rfl))
      . rw[A2 e1]at e
        by_cases e2:b=c'
        . subst e2
          rw[A1]at e;cases e;obtain⟨c2,oc,vs,tq,ec,hoc,r⟩:=hrec;exact J5d ⟨c2,oc,vs,tq,ec,Fm _ hoc,r⟩
        . rw[A2 e2,A2 (λz=>by rw[z]at lb;exact Hn _ (Fs ltt lb)),I.hok.fresh lb]at e
          cases e
   refine⟨.ref h'.objs.size,_,I2,rfl,q _ c' ctv _ (I.hok.fresh szf) (λb o e nb=>?_) (.inr ⟨c',?_,?_⟩) ?_ (by rw[A1,<- hF])⟩
   . have lb:=(I.hok b o e).lt
     rw[A2 (FB (Fs lb szf)),A2 (FB (Fs lb hge)),A2 nb];exact e
   . rw[A2 ntf,A2 ntc];exact A1
   . rw[A2 ncf];exact A1
   . rw[A2 ncf];exact A1
 . have hP:s.heap.get? tp=some (tabObj #[rawInt pos.line,rawInt pos.col,.ref c']):=I.hok tp _ hE
   have ltt:=Fq hP;have ltc:=(I.hok c' _ hc').lt;refine kla_makeFunctionHit (cv:= .ref c') hcl I.ok.glob G hcode C hP (by simp[TriplesOk,rawInt]) (by simp[codeAmong,rawInt]) B λctv h' tk hk hsz=>?_;generalize hF:({cls:= .type "function",data:= .func (kla_fn "<lambda>" (X.env.qual++"<lambda>") args body scope cl ((X.mg "__name__").getD .none) (.ref c') ctv)}:Obj)=fo;have I2:=I.laid (a:=h'.objs.size) (o:=fnO h'.objs.size fo) (t':=tk) (h':=h'.push fo) (λb u e=>Fm _ (hk b u e)) hsz (J5e (FK _ (by rw[<- hF];rfl)));have nw:=I.hok.fresh hsz
   have sm:∀b o,H b=some o->upd H h'.objs.size (fnO h'.objs.size fo) b=some o:=λb o e=>by rw[A2 (Ac e nw)];exact e
   exact⟨.ref h'.objs.size,_,I2,rfl,q _ c' ctv _ nw (λb o e _=>sm b o e) (.inr ⟨c',sm _ _ hE,sm _ _ hc'⟩) (sm _ _ hc') (by rw[A1,<- hF])⟩
end
theorem HOk.lend{w:World}{H:Hp}{h:Heap}{c:Addr}{o:Obj}(ok:HOk P w H h)(n:H c=none)(e:h.get? c=some o):HOk P w (upd H c (Gg c o)) h:=λb u q=>by
 by_cases z:b=c
 . subst z
   rw[A1]at q;cases q;exact J0h e
 . rw[A2 z]at q
   exact(ok b u q).stay (λd ob _ q=>q) (λd q=>by rw[A2 (Ac q n)];exact q) λd xs q=>by rw[A2 (Ac q n)];exact q
theorem HOk.back{w:World}{H:Hp}{h:Heap}{c:Addr}{o:Obj}(ok:HOk P w H h)(n:H c=some (Gg c o)):HOk P w (unk H [c]) h:=λb u q=>by
 obtain⟨nb,q⟩:=Vw q;refine(ok b u q).stay (λd ob _ q=>q) (λd q=>?_) λd xs q=>?_
 . rw[D3 λz=>?_]
   . exact q
   . rw[Fj.mp z,n]at q;cases q
 . rw[D3 λz=>?_]
   . exact q
   . rw[Fj.mp z,n]at q;cases q
theorem CE.back{outer:List Env}{w:World}{H:Hp}{s:Shared}{Q:VK}{u:Value}{c:Addr}{o:Obj}(n:H c=none)(e:s.heap.get? c=some o)(nf:c∉frs outer)(h:CE outer P w (upd H c (Gg c o)) s (λy H2=>H2 c=some (Gg c o)->Q y (unk H2 [c])) u s'):CE outer P w H s Q u s':=by
 obtain⟨v,H',os,bare,un,ok,rv,q⟩:=h;have hc:H' c=some (Gg c o):=un.frzs c o _ A1;have ec:s'.heap.get? c=some o:=(ok c _ hc).1
 have up:∀b u,H b=some u->upd H c (Gg c o) b=some u/\b≠c:=λb u q=>⟨by rw[A2 (Ac q n)];exact q,Ac q n⟩
 have out:∀b,b≠c->unk H' [c] b=H' b:=λb nb=>D3 λz=>nb (Fj.mp z);refine⟨v,unk H' [c],os,bare,⟨λb ob q' m hb hx=>?_,λb ob q' m hb hx=>?_,λb ob q' m hx=>?_,un.there,λb xs q'=>?_,λb ob w' q'=>?_,λb ps q'=>?_⟩,ok.back hc,rv,q hc⟩
 . by_cases z:b=c
   . rw[z,e]at q'
     cases q';rw[z];exact ec
   . exact un.keep b ob q' (by rw[A2 z];exact m) hb hx
 . have z:b≠c:=λz=>nf (by rw[<- z];exact hb)
   exact un.slot b ob q' (by rw[A2 z];exact m) hb hx
 . by_cases z:b=c
   . subst z;exact O6 (by simp)
   . rw[out b z];exact un.free b ob q' (by rw[A2 z];exact m) hx
 . obtain⟨a,nb⟩:=up b _ q'
   rw[out b nb];exact un.tups b xs a
 . obtain⟨a,nb⟩:=up b _ q'
   rw[out b nb];exact un.frzs b ob w' a
 . obtain⟨a,nb⟩:=up b _ q'
   rw[out b nb];exact un.tbls b ps a
def J9m(sp:Sp)(c:Addr)(i:Nat)(E:XK)(t:TA):TE:=λσ H Q=>t σ H λvs H1=>∃v,σ[i]?=some (some v)/\∀o u,o.data= .cell (some u)->B1 v u->H1 c=none->sp vs (upd H1 c (Gg c o)) (λy H2=>H2 c=some (Gg c o)->Q y (unk H2 [c])) E
section
variable {X:Cx}{k j:Nat}{ps:List Str}{sp:Sp}{E:XK}{g x:Str}{p pos:Pos}{e:Expr}{es:List Expr}{t:TA}{c:Addr}{i:Nat}
theorem J83(D:Def X.prog X.w X.K X.mg X.base CX0 j g ps sp)(hr:Bz k X.A)(hg:Gl X g)(ha:PA X (e::es) t)(hN:X.N[i]?=some x)(hk:X.env.scope.names.lookup x=some .cell)(hcx:X.env.cells.lookup x=some c)(hfn:X.fn x=true:=by rfl)(hj:j<=k:=by decide)
 (hdb:(g==("__debug__":Str))=false:=by decide) (he:starEach (e::es) X.env=(false,eval e X.env)::starEach es X.env:=by rfl) (hpl:(backTo pos (starEach es X.env)).any (·.1)=false:=by rfl):
 PE X (.Call (.Name g p) (e::es) [] pos) (J9m sp c i E t):=by
 obtain⟨f,fd,F,hm,hkp,hb⟩:=D.ex;intro pins s σ H Q I h
 have fin:∀(us:List Value) (s2:Shared) (vs:List V) (H2:Hp),Inv X pins σ H2 s2->B3 vs us->(∃v,σ[i]?=some (some v)/\∀o u,o.data= .cell (some u)->B1 v u->H2 c=none->sp vs (upd H2 c (Gg c o)) (λy H3=>H3 c=some (Gg c o)->Q y (unk H3 [c])) E)->wpAny (model X.prog X.w) X.A (call (.ref f) us) (EP X pins σ Q) X.xe s2:=λus s2 vs H2 I2 r ⟨v,hv,q⟩=>by
  obtain⟨m,hns,hloc⟩:=I2.loc;obtain⟨u,ru,lk⟩:=hloc i x v hN hv (.inr (.inl hk))
  obtain⟨o,ho,hd⟩:∃o,s2.heap.get? c=some o/\o.data= .cell (some u):=by
   rcases lk with ⟨z,_⟩ | ⟨_,c2,e,o,a,b⟩
   . have z:X.env.scope.names.lookup x=some .local:=z
     rw[hk]at z;cases z
   . rw[hcx]at e;cases e
     exact⟨o,a,b⟩
  have fc:H2 c=none:=I2.freeC x c hcx;have cge:X.s₀.heap.objs.size<=c:=I2.ok.cab x c hfn hcx;have e0:=I2.env0
  have nf:c∉frs X.stack:=λhb=>by
   rcases I2.ok.stk with z | ⟨z,z2⟩
   . rw[z]at hb
     obtain⟨_,ob,e1,_⟩:=I2.ok.funs.mem hb;exact absurd (Fq e1) (Nat.not_lt.mpr cge)
   . rw[z]at hb
     unfold frs at hb;rw[RM,z2]at hb;rcases Ft.mp hb with w' | hb
     . obtain⟨ob,es',ep,e1,d1,_⟩:=hns
       rw[<- w',ho]at e1;cases e1;rw[hd]at d1;cases d1
     . obtain⟨_,ob,e1,_⟩:=I2.ok.funs.mem hb
       exact absurd (Fq e1) (Nat.not_lt.mpr cge)
  have e1:Mo X.prog X.w X.K X.mg X.base X.A X.stack s2 (upd H2 c (Gg c o)):=by
   refine⟨e0.frames,e0.mod,λb ob q=>⟨(e0.bs b ob q).1,?_⟩,e0.bsz,e0.funs,λb hb=>?_,e0.hok.lend fc ho,e0.bare⟩
   . have lb:b < c:=Fs (Fs (Fq q) I2.ok.bsz) cge
     rw[A2 (FB lb)];exact(e0.bs b ob q).2
   . rw[A2 (λz=>nf (by rw[<- z];exact hb))];exact e0.frf b hb
  have hs:=q o u hd ru fc
  have hl:us.length=ps.length:=by rw[<- r.length];exact F.len _ _ _ _ hs
  have hb':=hb s2 us I2.kIn (by simpa using hl);rw[Hd]at hb';refine RF (Rc ((F.mono hj).run X.A X.stack s2 _ ⟨us,[]⟩ us vs _ E hr e1 hb' r hs) λrr s' hq=>?_)
  cases rr with
  | error e=>exact False.elim hq
  | ok fl=>
   cases fl with
   | ret u'=>exact I2.after (CE.back fc ho nf hq)
   | next=>exact False.elim hq
   | brk=>exact False.elim hq
   | cont=>exact False.elim hq
 refine HR (Mj I hg hm ?_ hdb);refine HS (h₀:=X.base) I.ok.mod.kin hkp (thn (ha pos pins s σ H _ I h) λus s1 ⟨vs,H1,I1,r,q⟩=>⟨I1.kIn,?_⟩) he hpl;exact fin us s1 vs H1 I1 r q
theorem J0i{H:Hp}:J9m sp c i E t σ H Q=t σ H λvs H1=>∃v,σ[i]?=some (some v)/\∀o u,o.data= .cell (some u)->B1 v u->H1 c=none->sp vs (upd H1 c (Gg c o)) (λy H2=>H2 c=some (Gg c o)->Q y (unk H2 [c])) E:=rfl
end
end L2
namespace N53
open L2 N1 N5
theorem J5j{ks:List Str}{z:Str}{v:V}(h:kvs.map (·.1)=ks.map Sum.inr):(Ct kvs (Sum.inr z) v).map (·.1)=(if z∈ks then ks else ks++[z]).map Sum.inr:=by
 have hm:=N3 (z:=z) h
 by_cases hz:z∈ks
 . rw[if_pos hz,<- h]
   unfold Ct;rw[D8,hm,Fi hz,if_pos rfl,FP];refine Ht λe _=>?_;show (if e.1=Sum.inr z then (e.1,v) else e).1=e.1
   split <;> rfl
 . rw[if_neg hz,Kr v (by rw[Fk hz]at hm;simpa using hm),Fo,Fo,h]
   rfl
end N53
namespace L2
def Jdg(s:List Str)(y:Str):List Str:=if y∈s then s else s++[y]
def dis(ys:List Str):List Str:=ys.foldl Jdg []
end L2
namespace N51
open L2 N1 N5 N53
def sl(ys:List Str)(s e:Nat):List Str:=(ys.drop s).take (e - s)
end N51
namespace N55
open L2 N1 N5 N53 N51
abbrev Bk5:=Addr×Str×Bool×Addr
structure Qp(H:Hp)(p:Addr)(bs:List Bk5):Prop where
 l:H p=some (.lst (bs.map λr=>V.ref r.1))
 t:∀r∈bs,H r.1=some (.tup [.str r.2.1,.bl r.2.2.1,.ref r.2.2.2])
theorem Qp.same{H:Hp}{p:Addr}{bs:List Bk5}(s:A7 H H')(h:Qp H p bs):Qp H' p bs:=⟨s _ _ h.l,λr hr=>s _ _ (h.t r hr)⟩
open L2 N1 N5 N53 N51
section
variable {tp:Addr}{pos:Pos}{qual:Str}{H H1 H2 H':Hp}
theorem P5(h:D6 tp pos qual H):∃ps,H tp=some (.tbl ps):=by
 rcases h with h | ⟨c,h,_⟩
 . exact⟨_,h⟩
 . exact⟨_,h⟩
theorem Vy(s:A7 H H')(h:D6 tp pos qual H):D6 tp pos qual H':=by
 rcases h with h | ⟨c,h,h'⟩
 . exact .inl (s _ _ h)
 . exact .inr ⟨c,s _ _ h,s _ _ h'⟩
theorem Jb7(h:D6 tp pos qual H){p:Addr}{o:HO}(e:H p=some o)(n:∀ps,o≠ .tbl ps):p≠tp:=λz=>by
 obtain⟨ps,h'⟩:=P5 h;rw[z,h']at e;cases e;exact n _ rfl
structure Tk(tp:Addr)(pos:Pos)(qual:Str)(H H':Hp):Prop where
 but:SameBut tp H H'
 lam:D6 tp pos qual H'
theorem Tk.trans(a:Tk tp pos qual H H1)(b:Tk tp pos qual H1 H2):Tk tp pos qual H H2:=⟨a.but.trans b.but,b.lam⟩
theorem Tk.of(h:D6 tp pos qual H)(s:A7 H H1):Tk tp pos qual H H1:=⟨.of s,Vy s h⟩
theorem Tk.get(t:Tk tp pos qual H H')(h:D6 tp pos qual H){p:Addr}{o:HO}(e:H p=some o)(n:∀ps,o≠ .tbl ps):H' p=some o:=t.but _ _ e (Jb7 h e n)
theorem Tk.lst(t:Tk tp pos qual H H')(h:D6 tp pos qual H){p:Addr}{xs:List V}(e:H p=some (.lst xs)):H' p=some (.lst xs):=t.get h e λ_ z=>by cases z
theorem Tk.tup(t:Tk tp pos qual H H')(h:D6 tp pos qual H){p:Addr}{xs:List V}(e:H p=some (.tup xs)):H' p=some (.tup xs):=t.get h e λ_ z=>by cases z
theorem Tk.none(t:Tk tp pos qual H H')(h:D6 tp pos qual H){p:Addr}(e:H' p=none):H p=none:=by
 cases q:H p with
 | none=>rfl
 | some o=>
  by_cases z:p=tp
  . obtain⟨ps,g⟩:=P5 t.lam
    rw[z,g]at e;cases e
  . rw[t.but _ _ q z]at e
    cases e
theorem Qp.tk{p:Addr}{bs:List Bk5}(t:Tk tp pos qual H H')(h:D6 tp pos qual H)(b:Qp H p bs):Qp H' p bs:=⟨t.lst h b.l,λr hr=>t.tup h (b.t r hr)⟩
end
def Jb8(H:Hp):V->Bool
 | .ref t=>match H t with
  | some (.tup [.str _,.bl b,.ref _])=>!b
  | _=>false
 | _=>false
theorem Tu{H:Hp}{t g:Addr}{y:Str}{b:Bool}(h:H t=some (.tup [.str y,.bl b,.ref g])):Jb8 H (.ref t)=!b:=by
 show (match H t with | some (.tup [.str _,.bl b,.ref _])=>!b | _=>false)=!b;rw[h]
end N55
namespace NPb
open L2 N1 N5 N53 N51 N55 N32 N41
def spW(zs:List Str)(g:Str->Int):Sp:=λvs H Q _=>∃z,vs=[.str z]/\z∈zs/\∀H',A7 H H'->Q (.int (g z)) H'
structure Wg(P:Program)(w:World)(K:PySem.W.Frag)(mg:Str->Option Value)(base:Heap) where
 f:Addr
 J:Hp->Prop
 zs:List Str
 g:Str->Int
 ok:Sl P w K mg base CX0 4 f J (spW zs g)
 keep:∀{H H':Hp},A7 H H'->J H->J H'
def wsm(g:Str->Int)(bs:List Bk5):Int:=((bs.filter λr=>!r.2.2.1).map λr=>g r.2.1).sum
def nmV(H:Hp):V->Str
 | .ref t=>match H t with
  | some (.tup [.str z,.bl _,.ref _])=>z
  | _=>""
 | _=>""
theorem J5k{H:Hp}{t g:Addr}{y:Str}{b:Bool}(h:H t=some (.tup [.str y,.bl b,.ref g])):nmV H (.ref t)=y:=by
 show (match H t with | some (.tup [.str z,.bl _,.ref _])=>z | _=>("":Str))=y;rw[h]
theorem J84{H:Hp}{g:Str->Int}{bs:List Bk5}(h:∀r∈bs,H r.1=some (.tup [.str r.2.1,.bl r.2.2.1,.ref r.2.2.2])):(((bs.map λr=>V.ref r.1).filter (Jb8 H)).map λx=>V.int (g (nmV H x)))=((bs.filter λr=>!r.2.2.1).map λr=>g r.2.1).map V.int:=by
 induction bs with
 | nil=>rfl
 | cons r bs ih=>
  have hr:=h r Fy;have e:=Tu hr;have e2:=J5k hr;have ih':=ih λx hx=>h x (Fh _ hx);rw[List.map_cons,Hc,Hc,e]
  by_cases hb:(!r.2.2.1)=true
  . rw[if_pos hb,if_pos hb,List.map_cons,List.map_cons,List.map_cons,ih',e2]
  . rw[if_neg hb,if_neg hb,ih']
def G0(P:Program)(w:World)(K:PySem.W.Frag)(mg:Str->Option Value)(base:Heap):Sp:=λvs H Q _=>∃(p:Addr) (b:Wg P w K mg base) (bs:List Bk5),vs=[.ref p,.ref b.f]/\Qp H p bs/\bs.length<=250/\(∀r∈bs,r.2.2.1=false->r.2.1∈b.zs)/\b.J H/\∀H',A7 H H'->Q (.int (wsm b.g bs)) H'
def Kw(tp:Addr)(pos:Pos)(qual:Str)(K:PySem.W.Frag)(C:Addr):Sp:=λvs H Q _=>∃(st p:Addr) (ts:List Th) (bs:List Bk5),vs=[.ref st,.ref p]/\Av K C H st ts/\(ts.map (·.1)).Nodup/\Qp H p bs/\bs.length<=250/\(∀r∈bs,r.2.1∈ts.map (·.1))/\D6 tp pos qual H/\
 ∀H',Tk tp pos qual H H'->Q (.int (wsm (cst ts) bs)) H'
def Odd(u:HO):Prop:=(∃ps,u= .tbl ps)\/∃c o,u=Gg c o
theorem SqT.odd{K:PySem.W.Frag}{H:Hp}{p a:Addr}{u:HO}(s:SameBut p H H')(hp:H p=some u)(hu:Odd u)(h:SqT K H a xs):SqT K H' a xs:=by
 rcases h with (h | ⟨o,h⟩) | h
 . refine .inl (.inl (s _ _ h (Bt h hp λz=>?_)))
   rcases hu with ⟨_,e⟩ | ⟨_,_,e⟩ <;> rw[e]at z <;> cases z
 . refine .inl (.inr ⟨o,s _ _ h (Bt h hp λz=>?_)⟩)
   rcases hu with ⟨_,e⟩ | ⟨_,_,e⟩ <;> rw[e]at z <;> cases z
 . exact .inr h
theorem Av.odd{K:PySem.W.Frag}{C:Addr}{H:Hp}{p st:Addr}{u:HO}(s:SameBut p H H')(hp:H p=some u)(hu:Odd u)(h:Av K C H st ts):Av K C H' st ts:=by
 obtain⟨dx,d,kvs,h1,h2,h3,h4⟩:=h.ex;refine⟨dx,d,kvs,s _ _ h1 (Bt h1 hp λz=>?_),s _ _ h2 (Bt h2 hp λz=>?_),h3,λi t e=>?_⟩
 . rcases hu with ⟨_,e⟩ | ⟨_,_,e⟩ <;> rw[e]at z <;> cases z
 . rcases hu with ⟨_,e⟩ | ⟨_,_,e⟩ <;> rw[e]at z <;> cases z
 . obtain⟨a,e1,e2⟩:=h4 i t e
   exact⟨a,e1,SqT.odd s hp hu e2⟩
theorem J85{H:Hp}{c:Addr}:SameBut c H (unk H [c]):=λb o e n=>by
 rw[D3 λz=>n (Fj.mp z)];exact e
theorem J5l{H:Hp}:retr (unk H as) H as=H:=by
 funext b
 by_cases z:b∈as
 . rw[Lg z]
 . rw[E6 z,D3 z]
def Jcx(e:Expr)(i:Nat):Expr:=match e with
 | .Call _ as _ _=>as.getD i e
 | _=>e
def PJ(L:Tt)(K:PySem.W.Frag)(C f c st:Addr)(ts:List Th)(H:Hp):Prop:=Vv L [("stock",c)] H f/\Df H [("stock",c)] [V.ref st]/\Av K C H st ts
theorem PJ.same{L:Tt}{K:PySem.W.Frag}{C f c st:Addr}{H:Hp}(s:A7 H H')(h:PJ L K C f c st ts H):PJ L K C f c st ts H':=⟨h.1.same s,h.2.1.same s,h.2.2.same s⟩
theorem lent{pos:Pos}{qual:Str}{H H3:Hp}{c:Addr}{o:Obj}(t:Tk tp pos qual H H2)(n:H2 c=none)(sm:A7 (upd H2 c (Gg c o)) H3):Tk tp pos qual H (unk H3 [c]):=by
 have up:∀b u,H2 b=some u->unk H3 [c] b=some u:=λb u e=>by
  have nb:b≠c:=Ac e n;rw[D3 λz=>nb (Fj.mp z)];exact sm _ _ (by rw[A2 nb];exact e)
 exact t.trans (Tk.of t.lam λb u e=>up b u e)
end NPb
namespace N30
open PySem
end N30
namespace L2
open N30
section
variable {K:Type} [DecidableEq K]
def ds1(s:List K)(y:K):List K:=if y∈s then s else s++[y]
def ds(ys:List K):List K:=ys.foldl ds1 []
end
end L2
namespace N35
open L2 N1 N5 N31 N4 N32 N41
variable {ys:List Str}{R:Str->Int}{n c:Nat}
theorem J1x{K:PySem.W.Frag}{tail:L2.St}{te:Blk->TE}{a:Addr}{xs:List V}(f:Nat->List V)(hS:SqL K H1 a xs)(hz:xs.length<=sizeLine)(he:∀b (i:Nat) x H Q',xs[i]?=some x->A7 H1 H->(∀t H',A7 H H'->H' t=some (.tup (f i))->Q' (.ref t) H')->te b (some x::tail) H Q')
 (q:∀(D:Addr) (as:List Addr) (H':Hp),H1 D=none->A7 H1 H'->H' D=some (.lst (as.map V.ref))->as.length=xs.length->(∀i b,as[i]?=some b->H' b=some (.tup (f i)))->Q (.ref D) H'):Bi (none::tail) (λ_=>By 0) (λ_=>Do) te Q (Itl K a) H1:=by
 refine La xs.length (λb D hD=>⟨λi ys H=>i<=xs.length/\H D=some (.lst ys)/\A7 H1 H/\∃as:List Addr,ys=as.map V.ref/\as.length=i/\∀j c,as[j]?=some c->H c=some (.tup (f j)),⟨FM _,A1,Bj hD,[],rfl,rfl,λj y e=>by simp at e⟩,?_,?_,?_⟩)
 . rintro i ys H ⟨hi,h,_⟩
   exact h
 . rintro ys H ⟨_,h,sm,as,rfl,hl,hall⟩
   exact⟨⟨xs,sm.seq hS,Fg _⟩,q D as H hD sm h hl hall⟩
 . rintro i ys H hi ⟨_,h,sm,as,rfl,hl,hall⟩
   refine⟨⟨xs,xs[i],sm.seq hS,by simp[hi]⟩,λx H3 ⟨e3,ex⟩=>?_⟩;subst e3;refine he b i x _ _ (ex xs (sm.seq hS)) sm λt H4 sm4 py=>?_;have h4:=sm4 _ _ h;refine Gq h4 (by rw[Fa];omega) hi ⟨hi,A1,λc o e=>?_,as++[t],by rw[Fo];rfl,by rw[Fl,hl];rfl,λj c e=>?_⟩
   . rw[A2 (Ac e hD)];exact sm4 _ _ (sm _ _ e)
   . by_cases hj:j < as.length
     . rw[FD hj]at e
       have g:=sm4 _ _ (hall j c e);rw[A2 (Bt g h4 (by intro z;cases z))];exact g
     . rw[Fz (by omega)]at e
       have hj0:j=i:=by have:=(Fd.mp e).1;simp at this;omega
       subst hj0;rw[show j - as.length=0 by omega]at e;cases e;rw[A2 (Bt py h4 (by intro z;cases z))];exact py
theorem Jb9(ns:List Int)(lo hi:Nat):∃cs:List Int,Oo (ns.map V.int) (some (lo:Int)) (some (hi:Int))=cs.map V.int/\cs.length<=hi - lo/\cs.length<=ns.length - lo:=by
 unfold Oo;rw[HT.Mp,HT.Mp,Fa,<- List.map_drop,<- J1];refine⟨_,rfl,?_,?_⟩
 . rw[Hl,Hq];omega
 . rw[Hl,Hq];omega
end N35
namespace L2
abbrev g3(K:PySem.W.Frag):Blk->TG:=λ_=>J71 K 3 (Pj (By 0) (Pj (By 1) (Pj (By 2) J70)))
abbrev J5m(K:PySem.W.Frag)(wi:TI)(fs:List Nat)(te:Blk->TE):TE:=S6 wi 3 fs (g3 K) (λ_=>Do) te
section
variable {X:Cx}{scope:Scope}{x y z:Str}{px py pz pt:Pos}{n:Nat}{fs:List Nat}{elt iter:Expr}{pos:Pos}{wi:TI}{te:Blk->TE}
theorem J86(hc:X.calm=true)(hok:Cg X.N X.env.scope scope [x,y,z] fs=true)(b:Blk):PG (X.blk scope ([x,y,z]++around X.N fs) b) (.Tuple [.Name x px,.Name y py,.Name z pz] n pt) (g3 X.K b):=by
 have O:=Dw hok
 refine Il (X:=X.blk scope ([x,y,z]++around X.N fs) b) hc (Bc (Ay O.nd rfl (.inl (FY (O.own x (by simp)))) (.inr (FY (O.own x (by simp))))) (Bc (Ay O.nd rfl (.inl (FY (O.own y (by simp)))) (.inr (FY (O.own y (by simp)))))
  (Bc (Ay O.nd rfl (.inl (FY (O.own z (by simp)))) (.inr (FY (O.own z (by simp))))) Ee)))
end
section
variable {K:PySem.W.Frag}{tail:St}{te:Blk->TE}{Q:VK}{H1:Hp}{σ:St}{H:Hp}
theorem Vz{fs:List Nat}:J5m K wi fs te σ H Q=wi σ H (Bi (none::none::none::fs.map λj=>σ.getD j none) (g3 K) (λ_=>Do) te Q):=rfl
theorem Jcy{x y z:Option V}{r:St}:J7g (none::none::none::r) (x::y::z::r):=λi v e=>by
 match i with
 | 0=>cases e
 | 1=>cases e
 | 2=>cases e
 | i+3=>exact e
theorem J87{a:Addr}(x1 x2 x3 f:Nat->V)(hS:SqL K H1 a (as.map V.ref))(hz:as.length<=sizeLine)(hT:∀i p,as[i]?=some p->SqT K H1 p [x1 i,x2 i,x3 i])
 (he:∀b i H Q',i < as.length->A7 H1 H->Q' (f i) H->te b (some (x1 i)::some (x2 i)::some (x3 i)::tail) H Q')
 (q:∀D,H1 D=none->Q (.ref D) (upd H1 D (.lst ((List.range as.length).map f)))):Bi (none::none::none::tail) (g3 K) (λ_=>Do) te Q (Itl K a) H1:=by
 intro b D hD;refine⟨λi m ys H=>m=as.length - i/\i<=as.length/\ys=(List.range i).map f/\H=upd H1 D (.lst ys),⟨_,rfl,FM _,rfl,rfl⟩,?_⟩;rintro i m ys H ⟨rfl,hi,rfl,rfl⟩;refine⟨A1,?_⟩
 by_cases hlt:i < as.length
 . refine .inr ⟨⟨_,V.ref as[i],(Bj hD).seq hS,by simp[hlt]⟩,λx H3 ⟨e3,ex⟩=>?_⟩
   subst e3;have hx:=ex _ ((Bj hD).seq hS)
   have hx':V.ref as[i]=x:=by simpa [hlt] using hx
   subst hx';refine⟨as[i],_,rfl,(Bj hD).tup (hT i _ (by simp[hlt])),rfl,_,_,rfl,_,_,rfl,_,_,rfl,rfl,Jcy,?_⟩;show Do _ _ _;unfold Do;dsimp only;rw[if_pos rfl];refine he b i _ _ hlt (Bj hD) ⟨A1,by rw[Fa,Fw];omega,as.length - (i+1),by omega,rfl,hlt,?_,?_⟩
   . rw[Hj,Fo];rfl
   . funext c;by_cases hc:c=D <;> simp[upd,hc]
 . have e:i=as.length:=by omega
   subst e;exact .inl ⟨⟨_,(Bj hD).seq hS,by simp⟩,q D hD⟩
theorem J5n{x y:V}:Jc9 x y H Q=∃l b xs zs,x= .ref l/\y= .ref b/\H l=some (.lst xs)/\H b=some (.lst zs)/\xs.length+zs.length<=sizeLine/\∀p,H p=none->Q (.ref p) (upd H p (.lst (xs++zs))):=rfl
end
end L2
namespace N12
open L2 N1 N5 N4 N6
theorem Xk{n k:Nat}(h:k < n):ixN n (k:Int)=some k:=by
 unfold ixN;rw[if_pos (by omega),if_pos (by omega)];simp
end N12
namespace N6
open L2 N1 N5 N4
def P6(K:PySem.W.Frag)(C S:Addr):Sp:=λvs H Q _=>∃(q p d:Addr) (n:Int) (ls:Ly) (ts:List Th) (z:Str) (r:Int),vs=[.ref q,.str z]/\Bp S H q p d n ls/\Ge K C H p ts d/\(ts.map (·.1)).Nodup/\ls.length<=1000/\
 z∈ts.map (·.1)/\(∀t∈ts,t.1=z->t.2.2=r)/\¬z∈lyN ls/\r<=n - lyS ls/\∀H',SameBut d H H'->Bp S H' q p d n (ls++[(z,r)])->Q .non H'
def Ng(S:Addr):Sp:=λvs H Q _=>∃(q p d:Addr) (n:Int) (ls:Ly) (z:Str),vs=[.ref q,.str z]/\Bp S H q p d n ls/\z∈lyN ls/\∀H',SameBut d H H'->Bp S H' q p d n (lyD ls z)->Q .non H'
end N6
namespace N14
open L2 N1 N5 N4 N6 N12 N32
abbrev Row:=Str×Bool×List Str
structure J5o(K:PySem.W.Frag)(H:Hp)(b:Addr)(as gs:List Addr)(rs:List Row):Prop where
 l:SqL K H b (as.map V.ref)
 n:as.length=rs.length
 m:gs.length=rs.length
 t:∀(i:Nat) (a g:Addr) (r:Row),as[i]?=some a->gs[i]?=some g->rs[i]?=some r->SqT K H a [.str r.1,.bl r.2.1,.ref g]/\SqL K H g (r.2.2.map V.str)
theorem Jcz{z:Str}{r:Int}(nd:(ts.map (·.1)).Nodup)(hz:z∈ts.map (·.1))(h:∀t∈ts,t.1=z->t.2.2=r):rm ts z=r:=by
 obtain⟨i,t,ht,rfl⟩:=J0a hz;rw[J0e nd ht,h t (Ff ht) rfl]
theorem J88{z u:Str}:u∈lyN (lyD ls z)↔u∈lyN ls/\u≠z:=by
 unfold lyN lyD;simp only[FH,Rg,decide_eq_true_eq];constructor
 . rintro⟨x,⟨h1,h2⟩,rfl⟩;exact⟨⟨x,h1,rfl⟩,h2⟩
 . rintro⟨⟨x,h1,rfl⟩,h2⟩;exact⟨x,⟨h1,h2⟩,rfl⟩
theorem J5p{H:Hp}{x:Addr}{o1 o2:HO}(h1:H x=none)(h2:H dx=none)(sb:SameBut x (upd (upd H dx o1) x o2) H'):A7 H H':=λb o e=>by
 have n1:b≠x:=λh=>by rw[h,h1]at e;cases e
 have n2:b≠dx:=λh=>by rw[h,h2]at e;cases e
 exact sb _ _ (by rw[A2 n1,A2 n2];exact e) n1
theorem Ce{H:Hp}{x d:Addr}{o1 o2:HO}(h:upd (upd H dx o1) x o2 d=none):H d=none:=by
 by_cases e1:d=x
 . rw[e1,A1]at h;cases h
 rw[A2 e1]at h
 by_cases e2:d=dx
 . rw[e2,A1]at h;cases h
 rw[A2 e2]at h;exact h
theorem Ar{H:Hp}{d:Addr}(s:A7 H H')(h:H' d=none):H d=none:=by
 cases e:H d with
 | none=>rfl
 | some o=>rw[s _ _ e]at h;cases h
theorem W0{H:Hp}{d:Addr}(s:A7 H H')(hd:H d=none)(sb:SameBut d H' H1):A7 H H1:=λb o e=>sb _ _ (s _ _ e) λh=>by rw[h,hd]at e;cases e
structure OkL(R:Str->Int)(ns:List Str)(ls:Ly):Prop where
 nd:(lyN ls).Nodup
 r:∀x∈ls,x.2=R x.1
 s:∀u∈lyN ls,u∈ns
theorem OkL.nil{R:Str->Int}{ns:List Str}:OkL R ns []:=⟨HZ,by simp,by simp[lyN]⟩
theorem OkL.drop{R:Str->Int}{ns:List Str}{z:Str}(h:OkL R ns ls):OkL R ns (lyD ls z):=
 ⟨by rw[O5 h.nd];exact h.nd.erase _,λx hx=>h.r x (Rg.mp hx).1,λu hu=>h.s u (J88.mp hu).1⟩
theorem OkL.put{R:Str->Int}{ns:List Str}{z:Str}(h:OkL R ns ls)(hz:z∉lyN ls)(hn:z∈ns):OkL R ns (ls++[(z,R z)]):=by
 have e:lyN (ls++[(z,R z)])=lyN ls++[z]:=by unfold lyN;rw[Fo];rfl
 refine⟨?_,?_,?_⟩
 . rw[e,HM]
   refine⟨h.nd,by simp,λy hy u hu=>?_⟩;rw[Fj]at hu;rw[hu];exact λe=>hz (e▸hy)
 . intro x hx
   rcases FL.mp hx with h1 | h1
   . exact h.r x h1
   . rw[Fj.mp h1]
 . intro u hu
   rw[e]at hu;rcases FL.mp hu with h1 | h1
   . exact h.s u h1
   . rw[Fj.mp h1];exact hn
def Kp(M:List Addr)(H H':Hp):Prop:=∀b o,b∉M->H b=some o->H' b=some o
theorem Kp.trans{H:Hp}(h1:Kp M H H1)(h2:Kp M H1 H2):Kp M H H2:=λb o n e=>h2 b o n (h1 b o n e)
theorem Kp.of{H:Hp}(h:A7 H H1):Kp M H H1:=λb o _ e=>h b o e
theorem Kp.upd{H:Hp}{p:Addr}{o:HO}(h:Kp M H H1)(hp:p∈M):Kp M H (upd H1 p o):=λb u n e=>by
 have hb:b≠p:=λe2=>n (by rw[e2];exact hp);rw[A2 hb];exact h b u n e
theorem Kp.same{H0 H:Hp}(s:A7 H0 H)(h:Kp M H H1)(hn:∀p∈M,H0 p=none):A7 H0 H1:=λb o e=>h b o (λhb=>by rw[hn b hb]at e;cases e) (s b o e)
theorem P7{xs:List α}{y z:α}{i:Nat}(h:(xs++[y])[i]?=some z):(i < xs.length/\xs[i]?=some z)\/(i=xs.length/\z=y):=by
 rcases Nat.lt_or_ge i xs.length with h1 | h1
 . rw[FD h1]at h;exact .inl ⟨h1,h⟩
 . rw[Fz h1]at h
   rcases RS (i - xs.length) with e | e
   . rw[e]at h;cases h;exact .inr ⟨by omega,rfl⟩
   . rw[Hg (by simp;omega)]at h;cases h
end N14
namespace L2
structure J5q(P:Program)(w:World)(K:PySem.W.Frag)(mg:Str->Option Value)(base:Heap)(CX:CXT)(k:Nat)(x:Str)(C:Addr)(ps:List Str)(sp:Sp):Prop where
 ex:∃(f:Addr) (fd:FuncData),Al P w K mg base CX k f fd ps sp/\Mk K C f/\mg x=some (.ref C)/\C4 K fd ps []/\PySem.W.findCls K (.ref C) (.type "type") "__init__"=some (.val (.ref f))/\PySem.W.keepIn K (.ref f)=true
 sp:PySem.W.specialIn K (.ref C) "__getattribute__"=some (some (.builtin "type.__getattribute__"))
 rd:PySem.W.readsIn K C (.type "type")=true
def J5r(sp:Sp)(EE:St->XK)(t:TA):TE:=λσ H Q=>t σ H λvs H1=>sp vs H1 Q (EE σ)
section
variable {X:Cx}{CX:CXT}{k j:Nat}{C:Addr}{ps:List Str}{sp:Sp}{EE:St->XK}{x:Str}{pos apos:Pos}{e o:Expr}{es:List Expr}{t:TA}
theorem E7{pl:Sem Bool}(D:J5q X.prog X.w X.K X.mg X.base CX j x C ps sp)(hr:Bz k X.A)(hx:Eg CX X EE)(he:PE X o (tC (.ref C)))(ha:PA X (e::es) t)(hj:j<=k:=by decide)
 (hst:starEach (e::es) X.env=(false,eval e X.env)::starEach es X.env:=by rfl) (hpl:(backTo pos (starEach es X.env)).any (·.1)=false:=by rfl)
 (ht:eval (.Call (.Attribute o "__init__" apos) (e::es) [] pos) X.env=(do
  let ov <- eval o X.env
  standAt apos.atName
  let (f,first) <- holding [ov] (getMethod ov "__init__" pl)
  callWith pos f first (backTo pos (starEach (e::es) X.env)) (backToKw pos (keywordEach [] X.env))):=by rfl):
 PE X (.Call (.Attribute o "__init__" apos) (e::es) [] pos) (J5r sp EE t):=by
 obtain⟨f,fd,F,M,hm,hb,hc,hk⟩:=D.ex;intro pins s σ H Q I h;refine RC (pl:=pl) (thn (he pins s σ H (λv H1=>v= .ref C/\t σ H1 λvs H2=>sp vs H2 Q (EE σ)) I ⟨rfl,h⟩) λu s1 hq_=>?_) ht;obtain⟨x,H1,I1,rx,q⟩:=hq_;obtain⟨rfl,q⟩:=q;obtain rfl:u=Value.ref C:=rx;refine PySem.W.method_cls I1.kIn D.sp (PySem.W.cls_value I1.kIn D.rd hc rfl ?_);have I2:=I1.tok (s1.toks+1);exact HS (first:=[]) (h₀:=X.base) I.ok.mod.kin hk (thn (ha pos pins _ σ H1 _ I2 q) λus s2 ⟨vs,H2,I3,r,q2⟩=>⟨I3.kIn,Ox (us:=us) (vs:=vs) (F.mono hj) hr hb hx I3 r q2⟩) hst hpl
theorem W1{H:Hp}:J5r sp EE t σ H Q=t σ H λvs H1=>sp vs H1 Q (EE σ):=rfl
end
end L2
namespace N20
open L2 N1 N5 N4 N6 N12 N32 N14
end N20
namespace N71
open L2 N1 N5 N4 N6 N12
structure TwA where
 st:Addr
 si:Addr
 ro:Addr
 he:Addr
 la:Addr
 so:Addr
 en:Addr
 fi:Addr
structure TwS where
 zs:List Int
 R:List Str
 kh:List (Key×V)
 kl:List (Key×V)
 ks:List (Key×V)
 es:List V
 ff:List Int
 pd:Int
def own(t:Addr)(x:TwA):List Addr:=[t,x.ro,x.he,x.la,x.so,x.en,x.fi]
end N71
namespace L2
section
variable {K:PySem.W.Frag}{σ:St}{H:Hp}{D:Kl}{Q:VK}
theorem Sm{ta tv:TE}{rd:V->V->Hp->VK->Prop}{f:Str}:Y2 K ta tv rd f D σ H=ta σ H λx H1=>∃a C dx fs v,x= .ref a/\H1 a=some (.ins C dx fs)/\Cls K C/\Am K C f/\fs.lookup f=some v/\
 tv σ H1 λy H2=>rd v y H2 λz H3=>∃dx' fs',H3 a=some (.ins C dx' fs')/\fs'.length < 1000/\D.nx σ (upd H3 a (.ins C dx' (Aa f z fs'))):=rfl
theorem J5s{i:Nat}{ti:TIp}:Ja0 i te ti D σ H=∃x,σ[i]?=some (some x)/\te σ H λy H1=>ti x y H1 λz H2=>D.nx (σ.set i (some z)) H2:=rfl
end
end L2
namespace N18
open L2 N1 N5 N4 N6 N12 N32 N14
end N18
namespace N25
open L2 N1 N5 N4 N6 N12 N32 N14 N20
def hfl(p od md:Addr)(n:Int):List (Str×V):=Aa "marked" (.ref md) (Aa "order" (.ref od) (Aa "places" (.int n) (Aa "stock" (.ref p) [])))
theorem J1y{p md:Addr}{n:Int}:(hfl p od md n).lookup ("stock":Str)=some (V.ref p):=by
 unfold hfl;rw[B0,if_neg (by decide),B0,if_neg (by decide),B0,if_neg (by decide),B0,if_pos rfl]
theorem Xl{p md:Addr}{n:Int}:(hfl p od md n).lookup ("places":Str)=some (V.int n):=by
 unfold hfl;rw[B0,if_neg (by decide),B0,if_neg (by decide),B0,if_pos rfl]
theorem Dx{p md:Addr}{n:Int}:(hfl p od md n).lookup ("order":Str)=some (V.ref od):=by
 unfold hfl;rw[B0,if_neg (by decide),B0,if_pos rfl]
theorem K2{p md:Addr}{n:Int}:(hfl p od md n).lookup ("marked":Str)=some (V.ref md):=by
 unfold hfl;rw[B0,if_pos rfl]
theorem J89{y z:Str}(h:y≠z):(Sum.inr y:Key)≠Sum.inr z:=λe=>h (by injection e)
theorem J0j{R:Str->Int}{ns:List Str}:∀{ls:Ly},(∀x∈ls,x.2=R x.1)->lyS ls=N41.sm R (lyN ls)
 | [],_=>rfl
 | x::r,h=>by
  have ih:=J0j (R:=R) (ns:=ns) (ls:=r) λy hy=>h y (Fh _ hy);have h1:=h x (Fy ..);unfold lyS at ih ⊢;unfold lyN at ih ⊢;rw[List.map_cons,Hb,List.map_cons,N41.Cw,ih,h1]
open L2 N1 N5 N4 N6 N12 N32 N14 N20
theorem Sn{a:Addr}{H:Hp}(s:SameBut a H H')(h:a∈M):Kp M H H':=λb o n e=>s b o e (λe2=>n (e2▸h))
theorem P8{H:Hp}{b:Addr}(k:Kp M H H')(hb:b∉M)(h:H' b=none):H b=none:=by
 cases e:H b with
 | none=>rfl
 | some o=>rw[k b o hb e]at h;cases h
theorem J5t{H:Hp}{w:Addr}{o:HO}(k:Kp M H H')(hw:H w=none):Kp M H (upd H' w o):=λb u n e=>by
 rw[A2 (λh=>by rw[h,hw]at e;cases e)];exact k b u n e
theorem Mg{L M:List Str}(h:L.Nodup)(hs:∀z∈L,z∈M):L.length<=M.length:=by
 induction L generalizing M with
 | nil=>exact FM _
 | cons x r ih=>
  obtain⟨hx,hr⟩:=Hm.mp h;have hm:=hs x (Fy ..);have:=ih (M:=M.erase x) hr λz hz=>(List.mem_erase_of_ne (λe=>hx (by rw[<- e];exact hz))).mpr (hs z (Fh _ hz));rw[FT hm]at this;have hp:0 < M.length:=FU hm;rw[List.length_cons];omega
end N25
namespace NR
open L2 N1 N5 N4 N6 N12 N32 N14 N20 N18 N25
structure Au where
 C:Addr
 St:Type
 At:Hp->List Addr->Addr->Addr->Int->St->Prop
 asked:Int->St->Str->St
 pick:Int->St->List Str->St×Str
 gone:Int->St->Str->St
 came:Int->St->Str->St
 inv:List Str->Int->St->List Str->Prop
 mid:List Str->Int->Str->St->List Str->Prop
 dep:∀{H H':Hp}{M:List Addr}{q p:Addr}{n:Int}{s:St},(∀m∈M,∀o,H m=some o->H' m=some o)->At H M q p n s->At H' M q p n s
 live:∀{H:Hp}{M:List Addr}{q p:Addr}{n:Int}{s:St},At H M q p n s->∀m∈M,H m≠none
 obj:∀{H:Hp}{M:List Addr}{q p:Addr}{n:Int}{s:St},At H M q p n s->∃dx fs,H q=some (.ins C dx fs)/\fs.lookup ("stock":Str)=some (.ref p)/\fs.lookup ("places":Str)=some (.int n)/\fs.lookup ("asked":Str)=none/\fs.lookup ("choice":Str)=none/\fs.lookup ("gone":Str)=none/\fs.lookup ("came":Str)=none/\fs.lookup ("nests":Str)=none
 i_hit:∀{ns:List Str}{n:Int}{s:St}{l:List Str}{z:Str},inv ns n s l->z∈ns->z∈l->inv ns n (asked n s z) l
 i_mid:∀{ns:List Str}{n:Int}{s:St}{l:List Str}{z:Str},inv ns n s l->z∈ns->z∉l->mid ns n z (asked n s z) l
 i_pick:∀{ns:List Str}{n:Int}{s:St}{l:List Str}{z:Str},mid ns n z s l->l≠[]->(pick n s l).2∈l/\mid ns n z (gone n (pick n s l).1 (pick n s l).2) (l.erase (pick n s l).2)
 i_came:∀{ns:List Str}{n:Int}{s:St}{l:List Str}{z:Str},mid ns n z s l->z∈ns->z∉l->inv ns n (came n s z) (l++[z])
 cnt:St->Nat:=λ_=>0
 c_ask:∀n s z,cnt (asked n s z)<=cnt s+1:=by exact λ_ _ _=>FM _
 c_pick:∀n s l,cnt (pick n s l).1<=cnt s:=by exact λ_ _ _=>FM _
 c_gone:∀n s z,cnt (gone n s z)<=cnt s:=by exact λ_ _ _=>FM _
 c_came:∀n s z,cnt (came n s z)<=cnt s:=by exact λ_ _ _=>FM _
def gfin(T:Au)(R:Str->Int)(n need:Int):Nat->T.St->List Str->List Str->T.St×List Str×List Str
 | 0,s,l,w=>(s,l,w)
 | k+1,s,l,w=>if need<=n - N41.sm R l then (s,l,w) else gfin T R n need k (T.gone n (T.pick n s l).1 (T.pick n s l).2) (l.erase (T.pick n s l).2) (w++[(T.pick n s l).2])
def gf(T:Au)(R:Str->Int)(n need:Int)(s:T.St)(l w:List Str):T.St×List Str×List Str:=gfin T R n need l.length s l w
section
variable {T:Au}{R:Str->Int}{n need:Int}{s:T.St}{l w ns:List Str}{z:Str}
theorem Mh(h:need<=n - N41.sm R l):gf T R n need s l w=(s,l,w):=by
 unfold gf
 cases hk:l.length with
 | zero=>rfl
 | succ k=>
  show (if _ then _ else _)=_;rw[if_pos h]
theorem J0k(h:¬need<=n - N41.sm R l)(hp:(T.pick n s l).2∈l):gf T R n need s l w=gf T R n need (T.gone n (T.pick n s l).1 (T.pick n s l).2) (l.erase (T.pick n s l).2) (w++[(T.pick n s l).2]):=by
 unfold gf;have hl:=FT hp;have h0:0 < l.length:=FU hp;rw[show l.length=(l.erase (T.pick n s l).2).length+1 by omega];show (if _ then _ else _)=_;rw[if_neg h]
theorem J5u:∀(k:Nat) (s:T.St) (l w:List Str),l.length=k->T.mid ns n z s l->need<=n->T.mid ns n z (gf T R n need s l w).1 (gf T R n need s l w).2.1/\need<=n - N41.sm R (gf T R n need s l w).2.1/\(∀u∈(gf T R n need s l w).2.1,u∈l)/\(l.Nodup->(gf T R n need s l w).2.1.Nodup)/\(gf T R n need s l w).2.1.length<=l.length:=by
 intro k
 induction k with
 | zero=>
  intro s l w hk hm hn;have hL:l=[]:=Rx.mp hk;subst hL
  have he:need<=n - N41.sm R []:=by rw[N41.O3];omega
  rw[Mh he];exact⟨hm,he,λz hz=>hz,id,Fg _⟩
 | succ k ih=>
  intro s l w hk hm hn
  by_cases he:need<=n - N41.sm R l
  . rw[Mh he]
    exact⟨hm,he,λz hz=>hz,id,Fg _⟩
  . have hne:l≠[]:=λe=>by rw[e]at hk;cases hk
    obtain⟨hp,hm2⟩:=T.i_pick hm hne;rw[J0k he hp];have hl:=FT hp;obtain⟨a,b,c,d,e⟩:=ih _ _ (w++[(T.pick n s l).2]) (by omega) hm2 hn;exact⟨a,b,λu hu=>FJ (c u hu),λhnd=>d (hnd.erase _),by omega⟩
end
def gask(T:Au)(R:Str->Int)(n:Int)(s:T.St×List Str)(z:Str):(T.St×List Str)×N14.Row:=
 if z∈s.2 then ((T.asked n s.1 z,s.2),(z,true,[]))
 else ((T.came n (gf T R n (R z) (T.asked n s.1 z) s.2 []).1 z,(gf T R n (R z) (T.asked n s.1 z) s.2 []).2.1++[z]),(z,false,(gf T R n (R z) (T.asked n s.1 z) s.2 []).2.2))
def gst(T:Au)(R:Str->Int)(n:Int)(s0:T.St)(ys:List Str)(i:Nat):T.St×List Str:=(ys.take i).foldl (λs z=>(gask T R n s z).1) (s0,[])
def grow(T:Au)(R:Str->Int)(n:Int)(s0:T.St)(ys:List Str)(i:Nat):N14.Row:=(gask T R n (gst T R n s0 ys i) (ys.getD i Str.empty)).2
def grows(T:Au)(R:Str->Int)(n:Int)(s0:T.St)(ys:List Str)(i:Nat):List N14.Row:=(List.range i).map (grow T R n s0 ys)
section
variable {T:Au}{R:Str->Int}{n:Int}{s0:T.St}{ys ns:List Str}{i:Nat}{z:Str}
theorem Ds(h:ys[i]?=some z):gst T R n s0 ys (i+1)=(gask T R n (gst T R n s0 ys i) z).1:=by
 unfold gst;rw[Ha,h,RZ];rfl
theorem J0l(h:ys[i]?=some z):grow T R n s0 ys i=(gask T R n (gst T R n s0 ys i) z).2:=by
 unfold grow;rw[Fc,h];rfl
theorem Xm(h:ys[i]?=some z):grows T R n s0 ys (i+1)=grows T R n s0 ys i++[(gask T R n (gst T R n s0 ys i) z).2]:=by
 unfold grows;rw[Hj,Fo];show _++[grow T R n s0 ys i]=_;rw[J0l h]
theorem Ej:(grows T R n s0 ys i).length=i:=by unfold grows;rw[Fa,Fw]
theorem J5v{u v:Str}{l:List Str}(e:u=v)(h:u∈l):v∈l:=e▸h
structure GI(T:Au)(ns:List Str)(n:Int)(s:T.St×List Str):Prop where
 i:T.inv ns n s.1 s.2
 nd:s.2.Nodup
 s:∀u∈s.2,u∈ns
theorem GI.ask{s:T.St×List Str}(h:GI T ns n s)(hz:z∈ns)(hR:R z<=n):GI T ns n (gask T R n s z).1:=by
 unfold gask;split
 . rename_i hm
   exact⟨T.i_hit h.i hz hm,h.nd,h.s⟩
 . rename_i hm
   obtain⟨a,b,c,d,e⟩:=J5u (R:=R) _ _ _ [] rfl (T.i_mid h.i hz hm) hR;have hm2:z∉(gf T R n (R z) (T.asked n s.1 z) s.2 []).2.1:=λhh=>hm (c z hh);refine⟨T.i_came a hz hm2,?_,λu hu=>?_⟩
   . show ((gf T R n (R z) (T.asked n s.1 z) s.2 []).2.1++[z]).Nodup
     rw[HM];refine⟨d h.nd,by simp,λy hy u hu e=>hm2 (J5v (e.trans (Fj.mp hu)) hy)⟩
   . rcases FL.mp hu with hu | hu
     . exact h.s u (c u hu)
     . rw[Fj.mp hu];exact hz
theorem E4(h0:T.inv ns n s0 [])(hin:∀y∈ys,y∈ns)(hR:∀y∈ys,R y<=n):∀i,i<=ys.length->GI T ns n (gst T R n s0 ys i)
 | 0,_=>⟨h0,HZ,by simp[gst]⟩
 | i+1,h=>by
  have hz:=Fb (show i < ys.length by omega);have hm:=Ff hz;rw[Ds hz];exact(E4 h0 hin hR i (by omega)).ask (hin _ hm) (hR _ hm)
end
theorem J5w{T:Au}{R:Str->Int}{n need:Int}:∀(k:Nat) (s:T.St) (l w:List Str),T.cnt (gfin T R n need k s l w).1<=T.cnt s:=by
 intro k
 induction k with
 | zero=>intro s l w;exact Fg _
 | succ k ih=>
  intro s l w;unfold gfin;split
  . exact Fg _
  . exact FO (ih _ _ _) (FO (T.c_gone _ _ _) (T.c_pick _ _ _))
theorem J5x{T:Au}{R:Str->Int}{n:Int}{s:T.St×List Str}{z:Str}:T.cnt (gask T R n s z).1.1<=T.cnt s.1+1:=by
 unfold gask;split
 . exact T.c_ask _ _ _
 . exact FO (T.c_came _ _ _) (FO (J5w _ _ _ _) (T.c_ask _ _ _))
theorem J0m{T:Au}{R:Str->Int}{n:Int}{s0:T.St}{ys:List Str}:∀i,i<=ys.length->T.cnt (gst T R n s0 ys i).1<=T.cnt s0+i
 | 0,_=>Fg _
 | i+1,h=>by
  have hz:=Fb (show i < ys.length by omega);rw[Ds hz];have:=J0m (T:=T) (R:=R) (n:=n) (s0:=s0) (ys:=ys) i (by omega);have h2:=J5x (T:=T) (R:=R) (n:=n) (s:=gst T R n s0 ys i) (z:=ys[i]);omega
structure Eb(T:Au)(K:PySem.W.Frag)(C S:Addr)(H0 H:Hp)(q p sh d:Addr)(M:List Addr)(n:Int)(ts:List Th)(ls:Ly)(s:T.St):Prop where
 h:T.At H M q p n s
 shf:Bp S H sh p d n ls
 st:Av K C H0 p ts
 sm:A7 H0 H
 n0:∀m∈M,H0 m=none
 nd:H0 d=none
 nsh:sh∉M
 ndm:d∉M
 ok:OkL (rm ts) (ts.map (·.1)) ls
section
variable {T:Au}{K:PySem.W.Frag}{C S:Addr}{H0 H H' H1 H2:Hp}{q p sh d w:Addr}{M:List Addr}{n:Int}{ts:List Th}{ls:Ly}{s s':T.St}
theorem Tv(e:A7 H H')(h:T.At H M q p n s):T.At H' M q p n s:=T.dep (λm _ o=>e m o) h
theorem J5y(e:SameBut d H H')(hd:d∉M)(h:T.At H M q p n s):T.At H' M q p n s:=T.dep (λm hm o e1=>e m o e1 (λe2=>hd (e2▸hm))) h
theorem Eb.same(r:Eb T K C S H0 H q p sh d M n ts ls s)(e:A7 H H'):Eb T K C S H0 H' q p sh d M n ts ls s:=
 ⟨Tv e r.h,r.shf.same e,r.st,r.sm.trans e,r.n0,r.nd,r.nsh,r.ndm,r.ok⟩
theorem Eb.x(r:Eb T K C S H0 H q p sh d M n ts ls s):Ge K C H p ts d:=(Ge.of r.st r.nd).same r.sm
theorem Eb.left(r:Eb T K C S H0 H q p sh d M n ts ls s):n - lyS ls=n - N41.sm (rm ts) (lyN ls):=by rw[J0j (ns:=ts.map (·.1)) r.ok.r]
theorem Eb.rule(r:Eb T K C S H0 H q p sh d M n ts ls s)(k:Kp M H H')(h:T.At H' M q p n s'):Eb T K C S H0 H' q p sh d M n ts ls s':=
 ⟨h,⟨r.shf.o.imp λ_ e=>k _ _ r.nsh e,k _ _ r.ndm r.shf.d,r.shf.nd⟩,r.st,Kp.same r.sm k r.n0,r.n0,r.nd,r.nsh,r.ndm,r.ok⟩
theorem Eb.shelf{ls':Ly}(r:Eb T K C S H0 H q p sh d M n ts ls s)(k:SameBut d H H')(hs:Bp S H' sh p d n ls')(ok:OkL (rm ts) (ts.map (·.1)) ls'):Eb T K C S H0 H' q p sh d M n ts ls' s:=
 ⟨J5y k r.ndm r.h,hs,r.st,W0 r.sm r.nd k,r.n0,r.nd,r.nsh,r.ndm,ok⟩
theorem Eb.lst{zs:List V}(r:Eb T K C S H0 H q p sh d M n ts ls s)(k:SameBut w H H')(hw:H w=some (.lst zs))(hm:w∉M)(h0:H0 w=none):Eb T K C S H0 H' q p sh d M n ts ls s:=
 ⟨J5y k hm r.h,r.shf.butL k hw,r.st,W0 r.sm h0 k,r.n0,r.nd,r.nsh,r.ndm,r.ok⟩
theorem Eb.free{b:Addr}(r:Eb T K C S H0 H q p sh d M n ts ls s)(hb:H b=none):b∉d::M:=λhm=>by
 rcases Ft.mp hm with e | e
 . rw[e,r.shf.d]at hb;cases hb
 . exact T.live r.h b e hb
theorem Nh{d:Addr}{H:Hp}(k:Kp M H H'):Kp (d::M) H H':=λb o n e=>k b o (λh=>n (Fh _ h)) e
theorem J5z{a:Addr}(h:SqL K H a xs)(k:Kp M H H')(na:a∉M):SqL K H' a xs:=by
 rcases h with (h | ⟨o,h⟩) | h
 . exact .inl (.inl (k _ _ na h))
 . exact .inl (.inr ⟨o,k _ _ na h⟩)
 . exact .inr h
end
def Br(T:Au):Sp:=λvs H Q _=>∃(q p:Addr) (n:Int) (M:List Addr) (s:T.St) (l ns:List Str) (z:Str),vs=[.ref q,.str z]/\T.At H M q p n s/\T.inv ns n s l/\z∈ns/\ns.length<=60/\∀H',Kp M H H'->T.At H' M q p n (T.asked n s z)->Q .non H'
def Bh(T:Au)(K:PySem.W.Frag):Sp:=λvs H Q _=>∃(q p a:Addr) (n:Int) (M:List Addr) (s:T.St) (l ns:List Str) (z:Str),vs=[.ref q,.ref a]/\T.At H M q p n s/\T.mid ns n z s l/\l≠[]/\H a=some (.lst (l.map V.str))/\a∉M/\ns.length<=60/\l.length<=60/\T.cnt s<=300/\∀H',Kp M H H'->T.At H' M q p n (T.pick n s l).1->Q (.str (T.pick n s l).2) H'
def C0(T:Au):Sp:=λvs H Q _=>∃(q p:Addr) (n:Int) (M:List Addr) (s:T.St) (l ns:List Str) (z:Str),vs=[.ref q,.str (T.pick n s l).2]/\T.At H M q p n (T.pick n s l).1/\T.mid ns n z s l/\l≠[]/\ns.length<=60/\∀H',Kp M H H'->T.At H' M q p n (T.gone n (T.pick n s l).1 (T.pick n s l).2)->Q .non H'
def C1(T:Au):Sp:=λvs H Q _=>∃(q p:Addr) (n:Int) (M:List Addr) (s:T.St) (l ns:List Str) (z:Str),vs=[.ref q,.str z]/\T.At H M q p n s/\T.mid ns n z s l/\z∈ns/\z∉l/\ns.length<=60/\∀H',Kp M H H'->T.At H' M q p n (T.came n s z)->Q .non H'
def Kx(T:Au)(K:PySem.W.Frag)(C S:Addr):Sp:=λvs H Q _=>∃(H0:Hp) (q p sh d:Addr) (M:List Addr) (n need:Int) (ts:List Th) (ls:Ly) (s:T.St) (z:Str),vs=[.ref q,.ref sh,.int need]/\Eb T K C S H0 H q p sh d M n ts ls s/\T.mid (ts.map (·.1)) n z s (lyN ls)/\need<=n/\ls.length<=60/\ts.length<=60/\T.cnt s<=300/\
 ∀(w:Addr) (ls':Ly) (H':Hp),Kp (d::M) H H'->H w=none->H' w=some (.lst ((gf T (rm ts) n need s (lyN ls) []).2.2.map V.str))->lyN ls'=(gf T (rm ts) n need s (lyN ls) []).2.1->Eb T K C S H0 H' q p sh d M n ts ls' (gf T (rm ts) n need s (lyN ls) []).1->Q (.ref w) H'
def Ni(T:Au)(K:PySem.W.Frag)(C S:Addr):Sp:=λvs H Q _=>∃(H0:Hp) (q p sh d:Addr) (M:List Addr) (n:Int) (ts:List Th) (ls:Ly) (s:T.St) (z:Str),vs=[.ref q,.ref sh,.str z]/\Eb T K C S H0 H q p sh d M n ts ls s/\T.inv (ts.map (·.1)) n s (lyN ls)/\(ts.map (·.1)).Nodup/\ts.length<=60/\z∈ts.map (·.1)/\rm ts z<=n/\T.cnt s<=299/\
 ∀(t g:Addr) (ls':Ly) (H':Hp),Kp (d::M) H H'->H t=none->H g=none->H' t=some (.tup [.str (gask T (rm ts) n (s,lyN ls) z).2.1,.bl (gask T (rm ts) n (s,lyN ls) z).2.2.1,.ref g])->H' g=some (.lst ((gask T (rm ts) n (s,lyN ls) z).2.2.2.map V.str))->lyN ls'=(gask T (rm ts) n (s,lyN ls) z).1.2->Eb T K C S H0 H' q p sh d M n ts ls' (gask T (rm ts) n (s,lyN ls) z).1.1->Q (.ref t) H'
end NR
namespace L2
section
variable {X:Cx}{pins:List (Addr×Obj)}{σ:St}{H:Hp}{s:Shared}{a C dx g:Addr}{fs:List (Str×V)}{m:Str}{A:Around}{E:Value->Shared->Prop}
theorem W4{b:Bool}{Q:Value->Shared->Prop}(I:Inv X pins σ H s)(e:H a=some (.ins C dx fs))(c:Cls X.K C)(k:J17 X.K C m g)(l:fs.lookup m=none)
 (hgf:PySem.W.specialIn X.K (.ref g) "__get__"=some (some (.builtin "function.__get__"))) (ht:PySem.W.takesIn X.K (.ref g)=some false) (hc:PySem.W.copiedNames.contains m=false)
 (h:Q (.ref s.heap.objs.size) {s with heap:=s.heap.push (PySem.W.methodObj (.ref g) (.ref a)),toks:=s.toks+1}):wpAny (model X.prog X.w) A (getAttr (.ref a) m b) Q E s:=by
 obtain⟨mA,O,r,_,_,_⟩:=Mn I.hok e;have hn:mA m=none:=Gh.none_of (by rw[<- l];exact r m);obtain⟨od,J,hl⟩:=O.look;have hK:X.K.In ({s with toks:=s.toks+1}:Shared).heap:=I.kIn
 exact PySem.W.get_bind I.kIn J (Rn (c.get m)).1 (PySem.W.findObj_fn c.hd k.at_ hgf ht hc (by rw[hl,hn])) (Rn (c.get m)).2
  (RF (PySem.W.fn_get (s:={s with toks:=s.toks+1}) hK (Rt.mp k.fn) (PySem.W.handed_on rfl h)))
end
section
variable {X:Cx}{k:Nat}{f a q:Addr}{fd:FuncData}{ps:List Str}{sp:Sp}
theorem Q8{H:Hp}{s:Shared}{vs:List V}(F:Al X.prog X.w X.K X.mg X.base CX0 k f fd ps sp)(hr:Bz (k+1) X.A)(hb:C4 X.K fd ps [])
 (I:Inv X pins σ H s) (r:B3 vs us) (hq:s.heap.get? q=some (PySem.W.methodObj (.ref f) (.ref a))) (h:sp (.ref a::vs) H Q E0):wpAny (model X.prog X.w) X.A.in1 (call (.ref q) us) (EP X pins σ Q) E s:=by
 have r':B3 (V.ref a::vs) (Value.ref a::us):= .cons rfl r
 have hl:(Value.ref a::us).length=ps.length:=by rw[<- r'.length];exact F.len _ _ _ _ h
 have hb':=hb s (Value.ref a::us) I.kIn (by simpa using hl);rw[Hd]at hb';refine RF (ks_codeAny_call_bound (a:=⟨us,[]⟩) hq (Rc (F.run X.A.in1 X.stack s H ⟨Value.ref a::us,[]⟩ (Value.ref a::us) (V.ref a::vs) Q E0 hr.in1 (Mo.in1 I.env0) hb' r' h) λr s' hq=>?_))
 cases r with
 | error e=>exact False.elim hq
 | ok fl=>
  cases fl with
  | ret u=>exact I.after hq
  | next=>exact False.elim hq
  | brk=>exact False.elim hq
  | cont=>exact False.elim hq
end
def btK(kf:Nat->List Int):Nat->Nat->Bool:=λi j=>HT.E5 (kf i) (kf j)
section
variable {X:Cx}{pins:List (Addr×Obj)}{σ:St}{k:Nat}{g a q mo it S:Addr}{fd:FuncData}{ps:List Str}{sp:Sp}{H0:Hp}{xs:List V}{kf:Nat->List Int}{R:Result->Shared->Prop}
theorem Inv.turn1{H:Hp}{s:Shared}{b:Addr}(I:Inv X pins σ H s)(fp:E8 X pins H b)(hk:∀c o,c≠b->s.heap.get? c=some o->h'.get? c=some o):Inv X pins σ H {s with heap:=h',toks:=t'}:=
 I.turned hk fp.1 fp.2.1 fp.2.2.2.1 fp.2.2.2.2.1 fp.2.2.2.2.2
theorem E8.at{H:Hp}{b:Addr}(h:E8 X pins H b)(hn:H' b=none):E8 X pins H' b:=⟨hn,h.2⟩
theorem J1z(F:Al X.prog X.w X.K X.mg X.base CX0 k g fd ps sp)(hr:Bz (k+1) X.A)(hb:C4 X.K fd ps [])(hq:SqL X.K H0 a xs)(hai:a≠it)
 (turn:∀i v,xs[i]?=some v->∀H',A7 H0 H'->sp [.ref q,v] H' (λu H''=>A7 H' H''/\∃t,u= .ref t/\H'' t=some (.tup ((kf i).map V.int))) E0)
 (hR:∀v u H' s',A7 H0 H'->Inv X pins σ H' s'->B1 v u->xs[argBest (btK kf) (xs.length - 1)]?=some v->R (.ok (.ret u)) s')
 (nmi:mo≠it) (nms:mo≠S) (nis:it≠S):
 ∀(r j:Nat) (s:Shared) (H:Hp) (vb:Value) (t:Addr) (c:Nat) (v0:V),xs.length - (j+1)=r->j+1<=xs.length->Inv X pins σ H s->A7 H0 H->E8 X pins H mo->E8 X pins H it->E8 X pins H S->
   s.heap.get? mo=some (PySem.W.methodObj (.ref g) (.ref q))->s.heap.get? S=some (seqObj "list" #[vb,.ref t] c)->s.heap.IsListIter it a (j+1)->
   xs[argBest (btK kf) j]?=some v0->B1 v0 vb->H t=some (.tup ((kf (argBest (btK kf) j)).map V.int))->
   codeAny (model X.prog X.w) X.A (.builtin "min.loop" ⟨[.ref it,.ref mo,.ref S],[]⟩) R s:=by
 have hname:(toString "min"++toString ".loop":String)="min.loop":=by decide
 have hh:X.A.in1.handled=none:=hr.hd;intro r
 induction r with
 | zero=>
  intro j s H vb t c v0 hrr hj I sm fm fi fs gm gS hit hx0 rv0 ht;obtain⟨its,rv,p,hz⟩:=I.list (sm.seq hq);have hln:=rv.length;have W:=Walks.list (prog:=X.prog) (w:=X.w) (A:=X.A.in1) hh it a hai its.toArray
  have hsz:its.toArray.size=xs.length:=by rw[Fn,hln]
  have hin:j+1=xs.length:=by omega
  refine codeAny_builtin J5 ?_;rw[Around.under_plainId HL _];show wpAny _ X.A.in1 (seqItems? (.ref S) >>=_) _ _ _;refine Fu (wpAny_seqItems gS rfl ?_);show wpAny _ X.A.in1 (tryCatch (pyNext (.ref it)) _ >>=_) _ _ _;refine Fu (Ry (W.done _ _ _ ⟨by rw[hsz,<- hin];exact hit,p.isList⟩ λh' tk' hk'=>?_));have hk2:∀b o,b≠it->s.heap.get? b=some o->h'.get? b=some o:=λb o e=>hk' b o (by simpa using e);have I1:Inv X pins σ H {s with heap:=h',toks:=tk'}:=I.turn1 fi hk2;have gS':=hk2 S _ (Ne.symm nis) gS;have s1:=Jc h' S (Obj.mapSeq λ_=>(#[]:Array Value));show wpAny _ X.A.in1 (updateSeq S (λ_=>#[]) >>=_) _ _ _;refine Fu ?_;refine wpAny_updateSeq gS' rfl (Fu (Jn (FX ?_)));refine hR v0 vb H _ sm (I1.turn1 (t':=tk') fs λb o e e2=>(s1.2 b e).trans e2) rv0 ?_;rw[show xs.length - 1=j by omega]
  exact hx0
 | succ r ih=>
  intro j s H vb t c v0 hrr hj I sm fm fi fs gm gS hit hx0 rv0 ht;obtain⟨its,rv,p,hz⟩:=I.list (sm.seq hq);have hln:=rv.length;have W:=Walks.list (prog:=X.prog) (w:=X.w) (A:=X.A.in1) hh it a hai its.toArray
  have hsz:its.toArray.size=xs.length:=by rw[Fn,hln]
  have hlt:j+1 < xs.length:=by omega
  refine codeAny_builtin J5 ?_;rw[Around.under_plainId HL _];show wpAny _ X.A.in1 (seqItems? (.ref S) >>=_) _ _ _;refine Fu (wpAny_seqItems gS rfl ?_);show wpAny _ X.A.in1 (tryCatch (pyNext (.ref it)) _ >>=_) _ _ _;refine Fu (Ry (W.item (j+1) _ _ _ (by rw[hsz];exact hlt) ⟨hit,p.isList⟩ λv h' tk' hP hst' hk'=>?_));have hk2:∀b o,b≠it->s.heap.get? b=some o->h'.get? b=some o:=λb o e=>hk' b o (by simpa using e);have hxj:=Fb hlt;obtain⟨v',hv',rv'⟩:=rv.get hxj
  have hvv:v'=v:=by
   have:its[j+1]?=some v:=by simpa using hP
   rw[hv']at this;exact FG this
  subst hvv;obtain⟨oI',hoI',hoc,hod⟩:=id hst'.1;have I1:Inv X pins σ H {s with heap:=h',toks:=tk'}:=I.turn1 fi hk2;have gS':=hk2 S _ (Ne.symm nis) gS;have gm':=hk2 mo _ nmi gm
  have I1p:Inv X (pins++[(mo,PySem.W.methodObj (.ref g) (.ref q)),(S,seqObj "list" #[vb,.ref t] c),(it,oI')]) σ H {s with heap:=h',toks:=tk'}:=I1.pins_of λp hp=>by
   rcases FL.mp hp with hp | hp
   . exact I1.pin p (Fv _ hp)
   . simp only[Ft,FW,or_false]at hp
     rcases hp with rfl | rfl | rfl
     . exact⟨gm',fm.1,fm.2.1,fm.2.2.1,λv e=>by cases e⟩
     . exact⟨gS',fs.1,fs.2.1,fs.2.2.1,λv e=>by cases e⟩
     . exact⟨hoI',fi.1,fi.2.1,fi.2.2.1,λv e=>by rw[hod]at e;cases e⟩
  show wpAny _ X.A.in1 (tryCatch (holding [v'] (call (.ref mo) [v'])) _ >>=_) _ _ _;refine Fu (Ry (Rh (thn (Q8 (vs:=[xs[j+1]]) F hr hb I1p (.cons rv' .nil) gm' (turn (j+1) _ hxj H sm)) λx s2 he=>?_)));obtain⟨y,H2,I2p,ry,sm2,t2,rfl,ht2⟩:=he;obtain rfl:x=Value.ref t2:=ry;have P2:=λp hp=>I2p.pin p (Fv _ (Fv _ hp));have pm:=P2 (mo,PySem.W.methodObj (.ref g) (.ref q)) (by simp);have pS:=P2 (S,seqObj "list" #[vb,.ref t] c) (by simp);have pI:=P2 (it,oI') (by simp);have I2:Inv X pins σ H2 s2:=I2p.pins_of λp hp=>I2p.pin p (Fv _ (Hf _ hp))
  have hit2:s2.heap.IsListIter it a (j+1+1):=⟨oI',pI.1,hoc,hod⟩
  have smx:=sm.trans sm2;have ht':=sm2 _ _ ht;obtain⟨us1,r1,p1,_⟩:=I2.tuple (SqT.of ht2);obtain⟨us2,r2,p2,_⟩:=I2.tuple (SqT.of ht');have hu:X.A.in1.units < cLine:=HY (by omega) hr.in1.un;show wpAny _ X.A.in1 (tryCatch (holding [v',.ref t2] (richCompare .Lt (.ref t2) (.ref t) >>=_)) _ >>=_) _ _ _;refine Fu (Ry (Rh (Fu (HT.X3 p1 p2 (Pq r1) (Pq r2) hu ?_))));refine Fu (Rh (Hv ?_));refine Fu (Jn (FX ?_))
  have eB:argBest (btK kf) (j+1)=if HT.E5 (kf (j+1)) (kf (argBest (btK kf) j))=true then j+1 else argBest (btK kf) j:=rfl
  by_cases hb':HT.E5 (kf (j+1)) (kf (argBest (btK kf) j))=true
  . have s1:=Jc s2.heap S (Obj.mapSeq λ_=>#[v',.ref t2])
    obtain⟨c2,hc2⟩:∃c2,(s2.heap.update S (Obj.mapSeq λ_=>#[v',.ref t2])).get? S=some (seqObj "list" #[v',.ref t2] c2):=⟨_,get?_update_seq pS.1 λ_=>#[v',.ref t2]⟩
    rw[if_pos hb']at eB;simp only[hb',if_true];refine Fu ?_;refine wpAny_updateSeq pS.1 rfl (Fu (Jn ?_));rw[hname];have I3:Inv X pins σ H2 {s2 with heap:=s2.heap.update S (Obj.mapSeq λ_=>#[v',.ref t2]),toks:=s2.toks}:=I2.turn1 (fs.at pS.2.1) λb o e e2=>(s1.2 b e).trans e2;exact FX ⟨Jd HL _,ih (j+1) _ H2 v' t2 c2 _ (by omega) hlt I3 smx (fm.at pm.2.1) (fi.at pI.2.1) (fs.at pS.2.1) ((s1.2 mo nms).trans pm.1) hc2 ⟨oI',(s1.2 it nis).trans pI.1,hoc,hod⟩ (by rw[eB];exact hxj) rv' (by rw[eB];exact ht2)⟩
  . rw[if_neg hb']at eB
    simp only[hb',Bool.false_eq_true,if_false];refine Fu (Jn ?_);rw[hname];exact FX ⟨Jd HL _,ih (j+1) s2 H2 vb t c v0 (by omega) hlt I2 smx (fm.at pm.2.1) (fi.at pI.2.1) (fs.at pS.2.1) pm.1 pS.1 hit2 (by rw[eB];exact hx0) rv0 (by rw[eB];exact ht')⟩
end
section
variable {X:Cx}{pins:List (Addr×Obj)}{σ:St}{k:Nat}{g a q mo:Addr}{fd:FuncData}{ps:List Str}{sp:Sp}{H:Hp}{s:Shared}{xs:List V}{kf:Nat->List Int}{Q:VK}
theorem J20(F:Al X.prog X.w X.K X.mg X.base CX0 k g fd ps sp)(hr:Bz (k+1) X.A)(hb:C4 X.K fd ps [])(I:Inv X pins σ H s)(hq:SqL X.K H a xs)(hne:xs≠[])
 (gm:s.heap.get? mo=some (PySem.W.methodObj (.ref g) (.ref q))) (fm:E8 X pins H mo)
 (turn:∀i v,xs[i]?=some v->∀H',A7 H H'->sp [.ref q,v] H' (λu H''=>A7 H' H''/\∃t,u= .ref t/\H'' t=some (.tup ((kf i).map V.int))) E0)
 (hQ:∀v H',A7 H H'->xs[argBest (btK kf) (xs.length - 1)]?=some v->Q v H'):
 wpAny (model X.prog X.w) X.A (call (.builtin "min") [.ref a] [(Str.ofString "key",.ref mo)]) (EP X pins σ Q) X.xe s:=by
 have hname:(toString "min"++toString ".loop":String)="min.loop":=by decide
 have hh:X.A.in1.handled=none:=hr.hd;obtain⟨its,rv,p,hz⟩:=I.list hq;have hln:=rv.length;have hpos:0 < xs.length:=Hu.mpr hne
 have hla:a < s.heap.objs.size:=by obtain⟨o,n,e,_⟩:=p;exact Fq e
 have hlm:mo < s.heap.objs.size:=Fq gm;refine kmk_tree PySem.F.kind_min PySem.F.plain_min PySem.F.entry_min (kmk_min_key _ _) ?_;show wpAny _ X.A.in1 (Builtin.Builtins.bindParams "min" ["key","default"] 0 ⟨[],[(Str.ofString "key",.ref mo)]⟩ >>=_) _ _ s;refine Fu (wpAny_of_eq (show Builtin.Builtins.bindParams "min" ["key","default"] 0 ⟨[],[(Str.ofString "key",.ref mo)]⟩=pure [some (.ref mo),none] from rfl) ?_);refine Fu (FX ?_);refine Fu (RW p.isList ?_);refine Fu (wpAny_newList ?_ (FM _));rw[hname];refine FX ⟨Jd HL _,?_⟩;have hS:(s.heap.push {cls:= .type "list_iterator",data:= .fields #[.ref a,.int 0 0]}).objs.size=s.heap.objs.size+1:=size_push' ..;generalize hSe:(s.heap.push {cls:= .type "list_iterator",data:= .fields #[.ref a,.int 0 0]}).objs.size=S at hS;have hai:a≠s.heap.objs.size:=FB hla
 have nmi:mo≠s.heap.objs.size:=FB hlm
 have nms:mo≠S:=by rw[hS];exact FB (RX hlm)
 have nis:s.heap.objs.size≠S:=by rw[hS];exact FB (Hz _)
 have k1:∀b o,s.heap.get? b=some o->((s.heap.push {cls:= .type "list_iterator",data:= .fields #[.ref a,.int 0 0]}).push (seqObj "list" #[] 0)).get? b=some o:=λb o e=>Fm _ (Fm _ e);have fi:E8 X pins H s.heap.objs.size:=I.fpOk (Fg _) (I.hok.fresh (Fg _));have fs:E8 X pins H S:=I.fpOk (by rw[hS];exact Rj _) (I.hok.fresh (by rw[hS];exact Rj _));have gI:((s.heap.push {cls:= .type "list_iterator",data:= .fields #[.ref a,.int 0 0]}).push (seqObj "list" #[] 0)).get? s.heap.objs.size=some {cls:= .type "list_iterator",data:= .fields #[.ref a,.int 0 0]}:=Fm _ (FK _ rfl)
 have gS:((s.heap.push {cls:= .type "list_iterator",data:= .fields #[.ref a,.int 0 0]}).push (seqObj "list" #[] 0)).get? S=some (seqObj "list" #[] 0):=by rw[<- hSe];exact FK _ rfl
 have gm1:=k1 _ _ gm;have I1:Inv X pins σ H {s with heap:=(s.heap.push {cls:= .type "list_iterator",data:= .fields #[.ref a,.int 0 0]}).push (seqObj "list" #[] 0),toks:=s.toks}:=I.kept k1;obtain⟨its',rv1,p1,_⟩:=I1.list hq;have hln1:=rv1.length;have W:=Walks.list (prog:=X.prog) (w:=X.w) (A:=X.A.in1) hh s.heap.objs.size a hai its'.toArray
 have hsz:its'.toArray.size=xs.length:=by rw[Fn,hln1]
 refine codeAny_builtin J5 ?_;rw[Around.under_plainId HL _];show wpAny _ X.A.in1 (seqItems? (.ref S) >>=_) _ _ _;refine Fu (wpAny_seqItems gS rfl ?_);show wpAny _ X.A.in1 (tryCatch (pyNext (.ref s.heap.objs.size)) _ >>=_) _ _ _;refine Fu (Ry (W.item 0 _ _ _ (by rw[hsz];exact hpos) ⟨⟨_,gI,rfl,rfl⟩,p1.isList⟩ λv h' tk' hP hst' hk'=>?_));have hk2:∀b o,b≠s.heap.objs.size->((s.heap.push {cls:= .type "list_iterator",data:= .fields #[.ref a,.int 0 0]}).push (seqObj "list" #[] 0)).get? b=some o->h'.get? b=some o:=λb o e=>hk' b o (by simpa using e);have hx0:=Fb hpos;obtain⟨v',hv',rv'⟩:=rv1.get hx0
 have hvv:v'=v:=by
  have:its'[0]?=some v:=by simpa using hP
  rw[hv']at this;exact FG this
 subst hvv;obtain⟨oI',hoI',hoc,hod⟩:=id hst'.1;have I2:Inv X pins σ H {s with heap:=h',toks:=tk'}:=I1.turn1 fi hk2;have gS':=hk2 S _ (Ne.symm nis) gS;have gm':=hk2 mo _ nmi gm1
 have I2p:Inv X (pins++[(mo,PySem.W.methodObj (.ref g) (.ref q)),(S,seqObj "list" #[] 0),(s.heap.objs.size,oI')]) σ H {s with heap:=h',toks:=tk'}:=I2.pins_of λp hp=>by
  rcases FL.mp hp with hp | hp
  . exact I2.pin p (Fv _ hp)
  . simp only[Ft,FW,or_false]at hp
    rcases hp with rfl | rfl | rfl
    . exact⟨gm',fm.1,fm.2.1,fm.2.2.1,λv e=>by cases e⟩
    . exact⟨gS',fs.1,fs.2.1,fs.2.2.1,λv e=>by cases e⟩
    . exact⟨hoI',fi.1,fi.2.1,fi.2.2.1,λv e=>by rw[hod]at e;cases e⟩
 show wpAny _ X.A.in1 (tryCatch (holding [v'] (call (.ref mo) [v'])) _ >>=_) _ _ _;refine Fu (Ry (Rh (thn (Q8 (vs:=[xs[0]]) F hr hb I2p (.cons rv' .nil) gm' (turn 0 _ hx0 H (A7.refl H))) λx s2 he=>?_)));obtain⟨y,H2,I3p,ry,sm2,t2,rfl,ht2⟩:=he;obtain rfl:x=Value.ref t2:=ry;have P2:=λp hp=>I3p.pin p (Fv _ (Fv _ hp));have pm:=P2 (mo,PySem.W.methodObj (.ref g) (.ref q)) (by simp);have pS:=P2 (S,seqObj "list" #[] 0) (by simp);have pI:=P2 (s.heap.objs.size,oI') (by simp);have I3:Inv X pins σ H2 s2:=I3p.pins_of λp hp=>I3p.pin p (Fv _ (Hf _ hp));have s1:=Jc s2.heap S (Obj.mapSeq λ_=>#[v',.ref t2])
 obtain⟨c2,hc2⟩:∃c2,(s2.heap.update S (Obj.mapSeq λ_=>#[v',.ref t2])).get? S=some (seqObj "list" #[v',.ref t2] c2):=⟨_,get?_update_seq pS.1 λ_=>#[v',.ref t2]⟩
 show wpAny _ X.A.in1 (updateSeq S (λ_=>#[v',.ref t2]) >>=_) _ _ _;refine Fu ?_;refine wpAny_updateSeq pS.1 rfl ?_;rw[hname];have I4:Inv X pins σ H2 {s2 with heap:=s2.heap.update S (Obj.mapSeq λ_=>#[v',.ref t2]),toks:=s2.toks}:=I3.turn1 (fs.at pS.2.1) λb o e e2=>(s1.2 b e).trans e2;refine FX ⟨Jd HL _,J1z (H0:=H) (kf:=kf) (xs:=xs) (a:=a) F hr hb hq hai turn (λv u H' s' smH I' ru hv=>?_) nmi nms nis _ 0 _ H2 v' t2 c2 xs[0] rfl hpos I4 sm2 (fm.at pm.2.1) (fi.at pI.2.1) (fs.at pS.2.1) ((s1.2 mo nms).trans pm.1) hc2 ⟨oI',(s1.2 _ nis).trans pI.1,hoc,hod⟩ hx0 rv' ht2⟩;exact⟨v,H',I',ru,hQ v H' smH hv⟩
end
structure Q9(P:Program)(w:World)(K:PySem.W.Frag)(mg:Str->Option Value)(base:Heap)(k:Nat)(C:Addr)(m:Str)(ps:List Str)(sp:Sp):Prop where
 ex:∃(f:Addr) (fd:FuncData),Al P w K mg base CX0 k f fd ps sp/\J17 K C m f/\C4 K fd ps []/\PySem.W.specialIn K (.ref f) "__get__"=some (some (.builtin "function.__get__"))/\PySem.W.takesIn K (.ref f)=some false
def J9n(K:PySem.W.Frag)(C:Addr)(m:Str)(sp:Sp)(ta:TA)(to:TE):TE:=λσ H Q=>ta σ H λvs H1=>to σ H1 λo H2=>∃(a q dx:Addr) (fs:List (Str×V)) (xs:List V) (kf:Nat->List Int),vs=[.ref a]/\o= .ref q/\H2 q=some (.ins C dx fs)/\fs.lookup m=none/\SqL K H2 a xs/\xs≠[]/\
 (∀i v,xs[i]?=some v->∀H',A7 H2 H'->sp [.ref q,v] H' (λu H''=>A7 H' H''/\∃t,u= .ref t/\H'' t=some (.tup ((kf i).map V.int))) E0)/\∀v H',A7 H2 H'->xs[argBest (btK kf) (xs.length - 1)]?=some v->Q v H'
section
variable {X:Cx}{k j:Nat}{C:Addr}{ps:List Str}{sp:Sp}{m:Str}{x:Str}{p pos apos kp:Pos}{e o:Expr}{t:TA}{to:TE}
theorem Nj(D:Q9 X.prog X.w X.K X.mg X.base j C m ps sp)(c:Cls X.K C)(hr:Bz k X.A)(hg:Gl X x)(hm:X.mg x=none)(hv:bootBuiltins x=some (.builtin "min"))(ha:PA X [e] t)(ho:PE X o to)(hba:attributeBase o m X.env (eval o X.env)=eval o X.env)(hcn:PySem.W.copiedNames.contains m=false:=by decide+kernel)(hj:j+1<=k:=by decide)(hn:x≠"__name__":=by decide)(hdb:(x==("__debug__":Str))=false:=by decide)
 (he:backTo pos (starEach [e] X.env)=(false,eval e X.env)::backTo pos (starEach [] X.env):=by rfl) (hpl:(backTo pos (starEach [e] X.env)).any (·.1)=false:=by rfl):
 PE X (.Call (.Name x p) [e] [⟨some (Str.ofString "key"),.Attribute o m apos,kp⟩] pos) (J9n X.K C m sp t to):=by
 obtain⟨g,fd,F,M,hb,hgf,htk⟩:=D.ex;intro pins s σ H Q I h;refine HR (Km I hg hm hv ?_ hn hdb);refine callWith_kw (thn (ha pos pins s σ H _ I h) λus s1 hq_=>?_) he hpl;obtain⟨vs,H1,I1,r1,q1⟩:=hq_;refine kws_cons (Y1 hba (thn (ho pins s1 σ H1 _ I1 q1) λu s2 hq_=>?_));obtain⟨y,H2,I2,ry,a,q,dx,fs,xs,kf,ev,ey,hq,hl,hx,hne,turn,fin⟩:=hq_;subst ev ey;obtain rfl:u=Value.ref q:=ry;obtain⟨u,rfl,ru⟩:=Mm r1;obtain rfl:u=Value.ref a:=ru;refine W4 I2 hq c M hl hgf htk hcn (kws_nil ?_);have I3:Inv X pins σ H2 {s2 with heap:=s2.heap.push (PySem.W.methodObj (.ref g) (.ref q)),toks:=s2.toks+1}:=I2.kept λb o e=>Fm _ e;exact J20 (q:=q) (g:=g) (F.mono (show j<=j from Fg j)) (hr.mono hj) hb I3 hx hne (FK _ rfl) (I2.fpOk (Fg _) (I2.hok.fresh (Fg _))) turn fin
theorem J0n{K:PySem.W.Frag}{H:Hp}:J9n K C m sp t to σ H Q=t σ H λvs H1=>to σ H1 λo H2=>∃(a q dx:Addr) (fs:List (Str×V)) (xs:List V) (kf:Nat->List Int),vs=[.ref a]/\o= .ref q/\H2 q=some (.ins C dx fs)/\fs.lookup m=none/\SqL K H2 a xs/\xs≠[]/\
 (∀i v,xs[i]?=some v->∀H',A7 H2 H'->sp [.ref q,v] H' (λu H''=>A7 H' H''/\∃t,u= .ref t/\H'' t=some (.tup ((kf i).map V.int))) E0)/\∀v H',A7 H2 H'->xs[argBest (btK kf) (xs.length - 1)]?=some v->Q v H':=rfl
end
end L2
namespace N22
open L2 N1 N5 N4 N6 N12 N32 N14 N20 N18 N25 NR
def rf0(p:Addr)(n:Int):List (Str×V):=Aa "places" (.int n) (Aa "stock" (.ref p) [])
def rf1(p:Addr)(n k:Int)(la pa:Addr):List (Str×V):=Aa "put_at" (.ref pa) (Aa "last" (.ref la) (Aa "present" (.int k) (rf0 p n)))
theorem J21{l:List Str}(h:l≠[]):l.headD Str.empty∈l:=by
 cases l with
 | nil=>exact absurd rfl h
 | cons x r=>exact Fy ..
structure S1 where
 k:Int
 la:List (Key×V)
 pu:List (Key×V)
def pv(s:S1)(z:Str):Int:=match Aw s.pu (Sum.inr z) with
 | some (.int i)=>i
 | _=>0
def C3(kvs:List (Key×V))(ns:List Str):Prop:=∃ks:List Str,kvs.map (·.1)=ks.map Sum.inr/\ks.Nodup/\∀z∈ks,z∈ns
theorem C3.nil{ns:List Str}:C3 [] ns:=⟨[],rfl,HZ,by simp⟩
theorem C3.len{ns:List Str}(h:C3 kvs ns):kvs.length<=ns.length:=by
 obtain⟨ks,e,nd,s⟩:=h;have:=congrArg List.length e;rw[Fa,Fa]at this;have:=Mg nd s;omega
theorem C3.put{ns:List Str}{z:Str}{v:V}(h:C3 kvs ns)(hz:z∈ns):C3 (Ct kvs (Sum.inr z) v) ns:=by
 obtain⟨ks,e,nd,s⟩:=h;refine⟨if z∈ks then ks else ks++[z],N53.J5j e,?_,?_⟩
 . split
   . exact nd
   . rename_i hn
     rw[HM];exact⟨nd,by simp,λa ha b hb e2=>hn (J5v (e2.trans (Fj.mp hb)) ha)⟩
 . intro u hu
   split at hu
   . exact s u hu
   . rcases FL.mp hu with hu | hu
     . exact s u hu
     . rw[Fj.mp hu];exact hz
structure FI(ns:List Str)(s:S1)(l:List Str)(B:Int):Prop where
 a:C3 s.la ns
 b:C3 s.pu ns
 v:∀z∈l,∃i,Aw s.pu (Sum.inr z)=some (.int i)/\i<=B
 o:l.Pairwise λx y=>pv s x < pv s y
theorem J60{s:S1}{z:Str}{i:Int}(h:Aw s.pu (Sum.inr z)=some (.int i)):pv s z=i:=by unfold pv;rw[h]
def J61(s:S1)(z:Str):S1:=⟨s.k+1,Ct s.la (Sum.inr z) (.int (s.k+1)),s.pu⟩
def O7(s:S1)(z:Str):S1:=⟨s.k,s.la,Ct s.pu (Sum.inr z) (.int s.k)⟩
theorem FI.ask{ns:List Str}{s:S1}{l:List Str}{z:Str}{B:Int}(h:FI ns s l B)(hz:z∈ns):FI ns (J61 s z) l B:=⟨h.a.put hz,h.b,h.v,h.o⟩
theorem FI.mono{ns:List Str}{s:S1}{l:List Str}{B B':Int}(h:FI ns s l B)(hb:B<=B'):FI ns s l B':=⟨h.a,h.b,λz hz=>(h.v z hz).imp λ_ e=>⟨e.1,RQ e.2 hb⟩,h.o⟩
theorem FI.drop{ns:List Str}{s:S1}{l:List Str}{z:Str}{B:Int}(h:FI ns s l B):FI ns s (l.erase z) B:=
 ⟨h.a,h.b,λu hu=>h.v u (FJ hu),h.o.sublist RT⟩
theorem FI.came{ns:List Str}{s:S1}{l:List Str}{z:Str}(h:FI ns s l (s.k - 1))(hz:z∈ns)(hn:z∉l):FI ns (O7 s z) (l++[z]) s.k:=by
 have hne:∀u∈l,(Sum.inr u:Key)≠Sum.inr z:=λu hu e=>hn (by injection e with e;rw[<- e];exact hu)
 have hold:∀u∈l,Aw (Ct s.pu (Sum.inr z) (.int s.k)) (Sum.inr u)=Aw s.pu (Sum.inr u):=λu hu=>by rw[D9,if_neg (hne u hu)]
 have hnew:Aw (Ct s.pu (Sum.inr z) (.int s.k)) (Sum.inr z)=some (.int s.k):=by rw[D9,if_pos rfl]
 have pold:∀u∈l,pv (O7 s z) u=pv s u:=λu hu=>by
  unfold pv O7;simp only;rw[hold u hu]
 refine⟨h.a,h.b.put hz,λu hu=>?_,?_⟩
 . rcases FL.mp hu with hu | hu
   . obtain⟨i,e,hi⟩:=h.v u hu
     exact⟨i,(hold u hu).trans e,by omega⟩
   . rw[Fj.mp hu]
     exact⟨s.k,hnew,FZ _⟩
 . rw[List.pairwise_append]
   refine⟨?_,List.pairwise_singleton ..,λu hu y hy=>?_⟩
   . exact h.o.imp_of_mem λhx hy hxy=>by rw[pold _ hx,pold _ hy];exact hxy
   . rw[Fj]at hy
     rw[hy,pold u hu];obtain⟨i,e,hi⟩:=h.v u hu;rw[J60 e,J60 (s:=O7 s z) hnew];omega
def FAt(C:Addr)(H:Hp)(M:List Addr)(q p:Addr)(n:Int)(s:S1):Prop:=∃la pa,M=[q,la,pa]/\la≠pa/\(∃dx,H q=some (.ins C dx (rf1 p n s.k la pa)))/\H la=some (.dK s.la)/\H pa=some (.dK s.pu)
def T1(C:Addr):Au where
 C:=C
 St:=S1
 At:=FAt C
 asked:=λ_ s z=>J61 s z
 pick:=λ_ s l=>(s,l.headD Str.empty)
 gone:=λ_ s _=>s
 came:=λ_ s z=>O7 s z
 inv:=λns _ s l=>FI ns s l s.k
 mid:=λns _ _ s l=>FI ns s l (s.k - 1)
 dep:=λe ⟨la,pa,hM,d,⟨dx,ho⟩,h1,h2⟩=>by
  rw[hM]at e;exact⟨la,pa,hM,d,⟨dx,e _ (by simp) _ ho⟩,e _ (by simp) _ h1,e _ (by simp) _ h2⟩
 live:=λ⟨la,pa,hM,d,⟨dx,ho⟩,h1,h2⟩ m hm e=>by
  rw[hM]at hm;simp only[Ft,FW,or_false]at hm;rcases hm with e1 | e1 | e1
  . rw[e1,ho]at e;cases e
  . rw[e1,h1]at e;cases e
  . rw[e1,h2]at e;cases e
 obj:=λ⟨la,pa,hM,d,⟨dx,ho⟩,h1,h2⟩=>⟨dx,_,ho,by rfl,by rfl,by rfl,by rfl,by rfl,by rfl,by rfl⟩
 i_hit:=λ{ns n s l z} h hz _=>(FI.ask h hz).mono (show s.k<=s.k+1 by omega)
 i_mid:=λ{ns n s l z} h hz _=>(FI.ask h hz).mono (show s.k<=s.k+1 - 1 by omega)
 i_pick:=λh hl=>⟨J21 hl,FI.drop h⟩
 i_came:=λh hz hn=>FI.came h hz hn
theorem J22{kf:Nat->List Int}{v:Nat->Int}{m:Nat}(hk:∀i,i<=m->kf i=[v i])(ho:∀i,i<=m->v 0<=v i):argBest (btK kf) m=0:=by
 have:∀j,j<=m->argBest (btK kf) j=0:=by
  intro j
  induction j with
  | zero=>intro _;rfl
  | succ j ih=>
   intro hj;show (if btK kf (j+1) (argBest (btK kf) j)=true then j+1 else argBest (btK kf) j)=0;rw[ih (by omega)]
   have:btK kf (j+1) 0=false:=by
    unfold btK;rw[hk _ hj,hk 0 (by omega)];show (if v (j+1)=v 0 then false else decide (v (j+1) < v 0))=false;have:=ho (j+1) hj;split
    . rfl
    . exact Fk (by omega)
   rw[this];rfl
 exact this m (Fg _)
def Lh(C:Addr):Sp:=λvs H Q _=>∃(q dx p:Addr) (n:Int),vs=[.ref q,.ref p,.int n]/\H q=some (.ins C dx [])/\1<=n/\n<=1000000/\∀H' la pa,SameBut q H H'->H la=none->H pa=none->FAt C H' [q,la,pa] q p n ⟨0,[],[]⟩->Q .non H'
def G1(C:Addr):Sp:=λvs H Q _=>∃(q p:Addr) (n:Int) (M:List Addr) (s:S1) (z:Str),vs=[.ref q,.str z]/\FAt C H M q p n s/\s.la.length<=1000/\∀H',Kp M H H'->FAt C H' M q p n (J61 s z)->Q .non H'
def Gz(C:Addr):Sp:=λvs H Q _=>∃(q p:Addr) (n:Int) (M:List Addr) (s:S1) (z:Str) (i:Int),vs=[.ref q,.str z]/\FAt C H M q p n s/\Aw s.pu (Sum.inr z)=some (.int i)/\∀t,H t=none->Q (.ref t) (upd H t (.tup [.int i]))
section
variable {p la pa:Addr}{n k k':Int}
theorem J8a:(rf1 p n k la pa).length=5:=by rfl
theorem Ky:(rf1 p n k la pa).lookup ("present":Str)=some (V.int k):=by rfl
theorem J62:(rf1 p n k la pa).lookup ("last":Str)=some (V.ref la):=by rfl
theorem J0o:(rf1 p n k la pa).lookup ("put_at":Str)=some (V.ref pa):=by rfl
end
end N22
namespace N21
open L2 N1 N5 N4 N6 N12 N32 N14 N20 N18 N25 NR N22
structure S2 where
 k:Int
 la:List (Key×V)
def lv(s:S2)(z:Str):Int:=match Aw s.la (Sum.inr z) with
 | some (.int i)=>i
 | _=>0
theorem Nk{s:S2}{z:Str}{i:Int}(h:Aw s.la (Sum.inr z)=some (.int i)):lv s z=i:=by unfold lv;rw[h]
def lmin(v:Str->Int)(l:List Str):Str:=l.getD (argBest (λi j=>decide (v (l.getD i Str.empty) < v (l.getD j Str.empty))) (l.length - 1)) Str.empty
theorem Nl{v:Str->Int}{l:List Str}(h:l≠[]):lmin v l∈l/\∀u∈l,v (lmin v l)<=v u:=by
 have hl0:0 < l.length:=Hu.mpr h;have hb:=Tq (λi=>v (l.getD i Str.empty)) (l.length - 1);unfold lmin;generalize argBest (λi j=>decide (v (l.getD i Str.empty) < v (l.getD j Str.empty))) (l.length - 1)=m at hb
 have hm:m < l.length:=by omega
 refine⟨?_,λu hu=>?_⟩
 . rw[Fc,Fb hm];exact Hr hm
 . obtain⟨j,hj⟩:=FC.mp hu
   have hjl:=(Fd.mp hj).1;have:=hb.2 j (by omega);rw[show l.getD j Str.empty=u by rw[Fc,hj];rfl]at this;exact this
structure LI(ns:List Str)(s:S2)(l:List Str):Prop where
 a:C3 s.la ns
 v:∀z∈l,∃i,Aw s.la (Sum.inr z)=some (.int i)/\i<=s.k
 o:l.Pairwise λx y=>lv s x≠lv s y
def Ca(s:S2)(z:Str):S2:=⟨s.k+1,Ct s.la (Sum.inr z) (.int (s.k+1))⟩
theorem Tx{s:S2}{z u:Str}(h:u≠z):Aw (Ca s z).la (Sum.inr u)=Aw s.la (Sum.inr u):=by
 unfold Ca;simp only;rw[D9,if_neg (J89 h)]
theorem P9{s:S2}{z:Str}:Aw (Ca s z).la (Sum.inr z)=some (.int (s.k+1)):=by
 unfold Ca;simp only;rw[D9,if_pos rfl]
theorem O8{s:S2}{z u:Str}(h:u≠z):lv (Ca s z) u=lv s u:=by unfold lv;rw[Tx h]
theorem J63{s:S2}{z:Str}:lv (Ca s z) z=s.k+1:=Nk P9
theorem LI.le{ns:List Str}{s:S2}{l:List Str}(h:LI ns s l):∀z∈l,lv s z<=s.k:=λz hz=>by
 obtain⟨i,e,hi⟩:=h.v z hz;rw[Nk e];exact hi
theorem LI.inj{ns:List Str}{s:S2}{l:List Str}(h:LI ns s l):∀x∈l,∀y∈l,lv s x=lv s y->x=y:=λx hx y hy e=>by
 obtain⟨i,hi⟩:=FC.mp hx;obtain⟨j,hj⟩:=FC.mp hy;obtain⟨hil,hi⟩:=Fd.mp hi;obtain⟨hjl,hj⟩:=Fd.mp hj;rcases Nat.lt_trichotomy i j with c | c | c
 . exact absurd (by rw[hi,hj];exact e) ((RU.mp h.o) i j hil hjl c)
 . subst c;rw[<- hi,<- hj]
 . exact absurd (by rw[hi,hj];exact e.symm) ((RU.mp h.o) j i hjl hil c)
theorem LI.ask{ns:List Str}{s:S2}{l:List Str}{z:Str}(h:LI ns s l)(hz:z∈ns):LI ns (Ca s z) l:=by
 refine⟨h.a.put hz,λu hu=>?_,h.o.imp_of_mem λ{x y} hx hy hxy=>?_⟩
 . by_cases e:u=z
   . rw[e];exact⟨_,P9,FZ _⟩
   . obtain⟨i,e1,e2⟩:=h.v u hu
     exact⟨i,(Tx e).trans e1,by show i<=s.k+1;omega⟩
 . have lx:=h.le x hx
   have ly:=h.le y hy
   by_cases ex:x=z
   . by_cases ey:y=z
     . exact absurd (by rw[ex,ey]) hxy
     . rw[ex,J63,O8 ey];omega
   . by_cases ey:y=z
     . rw[ey,J63,O8 ex];omega
     . rw[O8 ex,O8 ey];exact hxy
theorem LI.drop{ns:List Str}{s:S2}{l:List Str}{z:Str}(h:LI ns s l):LI ns s (l.erase z):=
 ⟨h.a,λu hu=>h.v u (FJ hu),h.o.sublist RT⟩
structure LM(ns:List Str)(z:Str)(s:S2)(l:List Str):Prop where
 i:LI ns s l
 z:Aw s.la (Sum.inr z)=some (.int s.k)
 b:∀u∈l,lv s u < s.k
theorem LI.mid{ns:List Str}{s:S2}{l:List Str}{z:Str}(h:LI ns s l)(hz:z∈ns)(hn:z∉l):LM ns z (Ca s z) l:=
 ⟨h.ask hz,P9,λu hu=>by
  have:=h.le u hu;have e:lv (Ca s z) u=lv s u:=O8 (λe=>hn (by rw[<- e];exact hu));show lv (Ca s z) u < s.k+1
  omega⟩
theorem LM.came{ns:List Str}{s:S2}{l:List Str}{z:Str}(h:LM ns z s l):LI ns s (l++[z]):=by
 refine⟨h.i.a,λu hu=>?_,?_⟩
 . rcases FL.mp hu with hu | hu
   . exact h.i.v u hu
   . rw[Fj.mp hu];exact⟨_,h.z,FZ _⟩
 . rw[List.pairwise_append]
   refine⟨h.i.o,List.pairwise_singleton ..,λu hu y hy=>?_⟩;rw[Fj.mp hy,Nk h.z];have:=h.b u hu;omega
def rf2(p:Addr)(n k:Int)(la:Addr):List (Str×V):=Aa "last" (.ref la) (Aa "present" (.int k) (rf0 p n))
def OAt(C:Addr)(H:Hp)(M:List Addr)(q p:Addr)(n:Int)(s:S2):Prop:=∃la,M=[q,la]/\(∃dx,H q=some (.ins C dx (rf2 p n s.k la)))/\H la=some (.dK s.la)
def T2(C:Addr):Au where
 C:=C
 St:=S2
 At:=OAt C
 asked:=λ_ s z=>Ca s z
 pick:=λ_ s l=>(s,lmin (lv s) l)
 gone:=λ_ s _=>s
 came:=λ_ s _=>s
 inv:=λns _ s l=>LI ns s l
 mid:=λns _ z s l=>LM ns z s l
 dep:=λe ⟨la,hM,⟨dx,ho⟩,h1⟩=>by
  rw[hM]at e;exact⟨la,hM,⟨dx,e _ (by simp) _ ho⟩,e _ (by simp) _ h1⟩
 live:=λ⟨la,hM,⟨dx,ho⟩,h1⟩ m hm e=>by
  rw[hM]at hm;simp only[Ft,FW,or_false]at hm;rcases hm with e1 | e1
  . rw[e1,ho]at e;cases e
  . rw[e1,h1]at e;cases e
 obj:=λ⟨la,hM,⟨dx,ho⟩,h1⟩=>⟨dx,_,ho,by rfl,by rfl,by rfl,by rfl,by rfl,by rfl,by rfl⟩
 i_hit:=λh hz _=>LI.ask h hz
 i_mid:=λh hz hn=>LI.mid h hz hn
 i_pick:=λh hl=>⟨(Nl hl).1,LI.drop h.i,h.z,λu hu=>h.b u (FJ hu)⟩
 i_came:=λh _ _=>LM.came h
def s20:S2:=⟨0,[]⟩
section
variable {p la:Addr}{n k k':Int}
theorem Tz:(rf2 p n k la).length=4:=by rfl
theorem Ol:(rf2 p n k la).lookup ("present":Str)=some (V.int k):=by rfl
theorem W6:(rf2 p n k la).lookup ("last":Str)=some (V.ref la):=by rfl
end
def G3(C:Addr):Sp:=λvs H Q _=>∃(q p:Addr) (n:Int) (M:List Addr) (s:S2) (z:Str),vs=[.ref q,.str z]/\OAt C H M q p n s/\s.la.length<=1000/\∀H',Kp M H H'->OAt C H' M q p n (Ca s z)->Q .non H'
def Li(C:Addr):Sp:=λvs H Q _=>∃(q p:Addr) (n:Int) (M:List Addr) (s:S2) (z:Str) (i:Int),vs=[.ref q,.str z]/\OAt C H M q p n s/\Aw s.la (Sum.inr z)=some (.int i)/\Q (.int i) H
def Ia(C:Addr):Sp:=λvs H Q _=>∃(q p:Addr) (n:Int) (M:List Addr) (s:S2) (z:Str) (i:Int),vs=[.ref q,.str z]/\OAt C H M q p n s/\Aw s.la (Sum.inr z)=some (.int i)/\∀t,H t=none->Q (.ref t) (upd H t (.tup [.int i]))
theorem J64{v:Nat->Int}:btK (λi=>[v i])=λi j=>decide (v i < v j):=by
 funext i j;show (if v i=v j then false else decide (v i < v j))=decide (v i < v j);split
 . rename_i e;rw[e];exact(Fk (Int.lt_irrefl _)).symm
 . rfl
def Ib(T:Au)(K:PySem.W.Frag)(C S:Addr):Sp:=λvs H Q _=>∃(H0:Hp) (q p a:Addr) (M:List Addr) (n:Int) (ts:List Th) (ys:List Str) (s0:T.St),vs=[.ref q,.ref a]/\T.At H M q p n s0/\T.inv (ts.map (·.1)) n s0 []/\Av K C H0 p ts/\A7 H0 H/\(∀m∈M,H0 m=none)/\(ts.map (·.1)).Nodup/\ts.length<=60/\SqL K H a (ys.map V.str)/\a∉M/\ys.length<=200/\(∀y∈ys,y∈ts.map (·.1))/\(∀y∈ys,rm ts y<=n)/\1<=n/\n<=1000000/\T.cnt s0<=50/\
 ∀(b:Addr) (as gs:List Addr) (H':Hp),Kp M H H'->H' b=some (.lst (as.map V.ref))->(∀(i:Nat) a,as[i]?=some a->∃xs,H' a=some (.tup xs))->J5o K H' b as gs (grows T (rm ts) n s0 ys ys.length)->T.At H' M q p n (gst T (rm ts) n s0 ys ys.length).1->H b=none->b∉gs->gs.Nodup->(∀(i:Nat) a g,as[i]?=some a->gs[i]?=some g->H a=none/\H g=none/\g∉M/\H' a=some (.tup [.str (NR.grow T (rm ts) n s0 ys i).1,.bl (NR.grow T (rm ts) n s0 ys i).2.1,.ref g])/\H' g=some (.lst ((NR.grow T (rm ts) n s0 ys i).2.2.map V.str)))->Q (.ref b) H'
end N21
namespace N24
open L2 N1 N5 N4 N6 N12 N32 N14 N20 N18 N25 NR N22 N21
def nx(ys:List Str)(j:Nat)(z:Str):Nat:=min (j+(ys.drop j).findIdx λy=>decide (y=z)) ys.length
theorem Jd0{j t:Nat}{z:Str}(h:ys[j+t]?=some z)(hno:∀u,u < t->ys[j+u]?≠some z):nx ys j z=j+t:=by
 unfold nx;have hl:=(Fd.mp h).1
 have hd:t < (ys.drop j).length:=by rw[Hq];omega
 have e:(ys.drop j).findIdx (λy=>decide (y=z))=t:=by
  rw[List.findIdx_eq hd];refine⟨?_,λu hu=>?_⟩
  . have:=(Fd.mp h).2
    rw[List.getElem_drop];exact Fi this
  . have:=hno u hu
    rw[Fb (show j+u < ys.length by omega)]at this;rw[List.getElem_drop];exact Fk (λe=>this (by rw[e]))
 rw[e];omega
theorem Jba{j:Nat}{z:Str}(hno:∀u,j+u < ys.length->ys[j+u]?≠some z):nx ys j z=ys.length:=by
 unfold nx
 have e:(ys.drop j).findIdx (λy=>decide (y=z))=(ys.drop j).length:=by
  rw[List.findIdx_eq_length];intro y hy;obtain⟨u,hu⟩:=FC.mp hy;rw[List.getElem?_drop]at hu;have hl:=(Fd.mp hu).1;exact Fk (λe=>hno u hl (by rw[hu,e]))
 rw[e,Hq];omega
def rkF(ys:List Str)(s:S2)(z:Str):List Int:=[0 - ((nx ys s.k.toNat z:Int)+1),lv s z]
def fmin(ys:List Str)(s:S2)(l:List Str):Str:=l.getD (argBest (btK λi=>rkF ys s (l.getD i Str.empty)) (l.length - 1)) Str.empty
theorem Jdh{a b c d:Int}:HT.E5 [a,b] [c,d]=decide (a < c\/(a=c/\b < d)):=by
 show (if a=c then (if b=d then false else decide (b < d)) else decide (a < c))=_
 by_cases h:a=c
 . rw[if_pos h]
   by_cases h2:b=d
   . rw[if_pos h2];symm;exact Fk (by omega)
   . rw[if_neg h2]
     by_cases h3:b < d
     . rw[Fi h3];symm;exact Fi (by omega)
     . rw[Fk h3];symm;exact Fk (by omega)
 . rw[if_neg h]
   by_cases h3:a < c
   . rw[Fi h3];symm;exact Fi (by omega)
   . rw[Fk h3];symm;exact Fk (by omega)
theorem J0p(a b:Nat->Int):∀k,argBest (btK λi=>[a i,b i]) k<=k/\∀j,j<=k->¬(a j < a (argBest (btK λi=>[a i,b i]) k)\/(a j=a (argBest (btK λi=>[a i,b i]) k)/\b j < b (argBest (btK λi=>[a i,b i]) k))):=by
 intro k
 induction k with
 | zero=>exact⟨Fg _,λj hj=>by rw[J9.mp hj];show ¬(a 0 < a 0\/(a 0=a 0/\b 0 < b 0));omega⟩
 | succ k ih=>
  have e:argBest (btK λi=>[a i,b i]) (k+1)=if HT.E5 [a (k+1),b (k+1)] [a (argBest (btK λi=>[a i,b i]) k),b (argBest (btK λi=>[a i,b i]) k)]=true then k+1 else argBest (btK λi=>[a i,b i]) k:=rfl
  rw[e,Jdh];generalize argBest (btK λi=>[a i,b i]) k=m at ih;split
  . rename_i h
    have h:=Jg h;refine⟨Fg _,λj hj=>?_⟩
    by_cases e:j=k+1
    . rw[e];omega
    . have:=ih.2 j (by omega);omega
  . rename_i h
    have h:¬(a (k+1) < a m\/(a (k+1)=a m/\b (k+1) < b m)):=λz=>h (Fi z);refine⟨Nat.le_succ_of_le ih.1,λj hj=>?_⟩
    by_cases e:j=k+1
    . rw[e];exact h
    . exact ih.2 j (by omega)
theorem U0{ys:List Str}{s:S2}{l:List Str}(h:l≠[]):fmin ys s l∈l/\∀u∈l,nx ys s.k.toNat u < nx ys s.k.toNat (fmin ys s l)\/(nx ys s.k.toNat u=nx ys s.k.toNat (fmin ys s l)/\lv s (fmin ys s l)<=lv s u):=by
 have hl0:0 < l.length:=Hu.mpr h;have hb:=J0p (λi=>0 - ((nx ys s.k.toNat (l.getD i Str.empty):Int)+1)) (λi=>lv s (l.getD i Str.empty)) (l.length - 1);unfold fmin;have e:(λi=>rkF ys s (l.getD i Str.empty))=λi=>[0 - ((nx ys s.k.toNat (l.getD i Str.empty):Int)+1),lv s (l.getD i Str.empty)]:=rfl;rw[e];generalize argBest (btK λi=>[0 - ((nx ys s.k.toNat (l.getD i Str.empty):Int)+1),lv s (l.getD i Str.empty)]) (l.length - 1)=m at hb
 have hm:m < l.length:=by omega
 refine⟨?_,λu hu=>?_⟩
 . rw[Fc,Fb hm];exact Hr hm
 . obtain⟨j,hj⟩:=FC.mp hu
   have hjl:=(Fd.mp hj).1;have:=hb.2 j (by omega);rw[show l.getD j Str.empty=u by rw[Fc,hj];rfl]at this;omega
def rf3(p:Addr)(n k:Int)(la ak:Addr):List (Str×V):=Aa "asks" (.ref ak) (rf2 p n k la)
def QAt(C:Addr)(ys:List Str)(H:Hp)(M:List Addr)(q p:Addr)(n:Int)(s:S2):Prop:=∃la ak,M=[q,la,ak]/\(∃dx,H q=some (.ins C dx (rf3 p n s.k la ak)))/\H la=some (.dK s.la)/\H ak=some (.lst (ys.map V.str))
def T3(C:Addr)(ys:List Str):Au where
 C:=C
 St:=S2
 At:=QAt C ys
 asked:=λ_ s z=>Ca s z
 pick:=λ_ s l=>(s,fmin ys s l)
 gone:=λ_ s _=>s
 came:=λ_ s _=>s
 inv:=λns _ s l=>LI ns s l/\0<=s.k
 mid:=λns _ z s l=>LM ns z s l/\0<=s.k
 dep:=λe ⟨la,ak,hM,⟨dx,ho⟩,h1,h2⟩=>by
  rw[hM]at e;exact⟨la,ak,hM,⟨dx,e _ (by simp) _ ho⟩,e _ (by simp) _ h1,e _ (by simp) _ h2⟩
 live:=λ⟨la,ak,hM,⟨dx,ho⟩,h1,h2⟩ m hm e=>by
  rw[hM]at hm;simp only[Ft,FW,or_false]at hm;rcases hm with e1 | e1 | e1
  . rw[e1,ho]at e;cases e
  . rw[e1,h1]at e;cases e
  . rw[e1,h2]at e;cases e
 obj:=λ⟨la,ak,hM,⟨dx,ho⟩,h1,h2⟩=>⟨dx,_,ho,by rfl,by rfl,by rfl,by rfl,by rfl,by rfl,by rfl⟩
 i_hit:=λ{ns n s l z} h hz _=>⟨LI.ask h.1 hz,by show 0<=s.k+1;have:=h.2;omega⟩
 i_mid:=λ{ns n s l z} h hz hn=>⟨LI.mid h.1 hz hn,by show 0<=s.k+1;have:=h.2;omega⟩
 i_pick:=λh hl=>⟨(U0 hl).1,⟨LI.drop h.1.i,h.1.z,λu hu=>h.1.b u (FJ hu)⟩,h.2⟩
 i_came:=λh _ _=>⟨LM.came h.1,h.2⟩
 cnt:=λs=>s.k.toNat
 c_ask:=λn s z=>by show (s.k+1).toNat<=s.k.toNat+1;omega
 c_pick:=λn s l=>Fg _
 c_gone:=λn s z=>Fg _
 c_came:=λn s z=>Fg _
section
variable {p la ak:Addr}{n k k':Int}
theorem J8b:(rf3 p n k la ak).length=5:=by rfl
theorem Kz:(rf3 p n k la ak).lookup ("present":Str)=some (V.int k):=by rfl
theorem W8:(rf3 p n k la ak).lookup ("last":Str)=some (V.ref la):=by rfl
theorem Qa:(rf3 p n k la ak).lookup ("asks":Str)=some (V.ref ak):=by rfl
end
def Lj(K:PySem.W.Frag)(S C:Addr):Sp:=λvs H Q _=>∃(q dx p a:Addr) (n:Int) (ts:List Th) (ys:List Str),vs=[.ref q,.ref p,.int n,.ref a]/\H q=some (.ins C dx [])/\Av K S H p ts/\(ts.map (·.1)).Nodup/\SqL K H a (ys.map V.str)/\ys.length<=200/\(∀y∈ys,y∈ts.map (·.1))/\(∀y∈ys,rm ts y<=n)/\1<=n/\n<=1000000/\a≠q/\∀H' la ak,SameBut q H H'->H la=none->H ak=none->QAt C ys H' [q,la,ak] q p n s20->Q .non H'
def G4(C:Addr):Sp:=λvs H Q _=>∃(q p:Addr) (n:Int) (M:List Addr) (s:S2) (z:Str) (ys:List Str),vs=[.ref q,.str z]/\QAt C ys H M q p n s/\s.la.length<=1000/\∀H',Kp M H H'->QAt C ys H' M q p n (Ca s z)->Q .non H'
def Lk(C:Addr):Sp:=λvs H Q _=>∃(q p:Addr) (n:Int) (M:List Addr) (s:S2) (z:Str) (i:Int) (ys:List Str),vs=[.ref q,.str z]/\QAt C ys H M q p n s/\Aw s.la (Sum.inr z)=some (.int i)/\Q (.int i) H
def G5(C:Addr):Sp:=λvs H Q _=>∃(q p:Addr) (n:Int) (M:List Addr) (s:S2) (z:Str) (ys:List Str),vs=[.ref q,.str z]/\QAt C ys H M q p n s/\0<=s.k/\s.k<=1000000/\ys.length<=1000/\Q (.int ((nx ys s.k.toNat z:Int)+1)) H
def Ic(C:Addr):Sp:=λvs H Q _=>∃(q p:Addr) (n:Int) (M:List Addr) (s:S2) (z:Str) (ys:List Str),vs=[.ref q,.str z]/\QAt C ys H M q p n s/\0<=s.k/\s.k<=1000000/\ys.length<=1000/\(∃i:Int,Aw s.la (Sum.inr z)=some (.int i))/\∀t,H t=none->Q (.ref t) (upd H t (.tup ((rkF ys s z).map V.int)))
def K3(C:Addr):Sp:=λvs H Q E=>∃ys,Br (T3 C ys) vs H Q E
def G6(C:Addr)(K:PySem.W.Frag):Sp:=λvs H Q E=>∃ys:List Str,ys.length<=1000/\Bh (T3 C ys) K vs H Q E
def Ll(C:Addr):Sp:=λvs H Q E=>∃ys,C0 (T3 C ys) vs H Q E
def Ln(C:Addr):Sp:=λvs H Q E=>∃ys,C1 (T3 C ys) vs H Q E
end N24
namespace L2
structure Qq(K:PySem.W.Frag)(x qual:Str)(st:Stmt)(f:Addr)(fd:FuncData)(dv:List Value):Prop where
 ex:∃(oc:Value) (od:Option Addr) (dT:Addr) (ob:Obj) (n:Nat) (kV doc pm:Value) (an:Option Addr) (cdv ct:Value) (osl:Array (Option Value)),
  fd=PySem.W.fnOf x qual (Ba st) (B5 st) (A6 st) (.ref dT) kV doc pm an cdv ct/\K.lookup f=some ⟨oc,od,.func fd,osl⟩/\PySem.W.codeIn K cdv qual=true/\K.lookup dT=some ob/\ob.data= .seq dv.toArray n
 kp:PySem.W.keepIn K (.ref f)=true
theorem lcD{us:List α}{n:Nat}(h:us.length=n+1):∃u r,us=u::r/\r.length=n:=by
 cases us with
 | nil=>cases h
 | cons u r=>exact⟨u,r,rfl,Nat.succ.inj h⟩
theorem l0D{us:List α}(h:us.length=0):us=[]:=by
 cases us with
 | nil=>rfl
 | cons u r=>cases h
section
variable {P:Program}{w:World}{K:PySem.W.Frag}{mg:Str->Option Value}{base:Heap}{x qual:Str}{st:Stmt}{f:Addr}{fd:FuncData}{dv:List Value}{N ps:List Str}{k:Nat}{sp:Sp}
theorem Qq.ok(F:Qq K x qual st f fd dv)(S:A9 N ps (A6 st))(len:∀vs H Q E,sp vs H Q E->vs.length=ps.length)
 (hbody:∀(cdv:Value) (A:Around) (outer:List Env) (s:Shared) (H:Hp) (vs:List V) (Q:VK) (E:XK),Bz k (A.deeper (envOfC qual (A6 st) s.heap.objs.size f cdv))->sp vs H Q E->
  ∃t,PSs (T5 CX0 P w K mg base N qual (A6 st) f cdv A outer s H E).nox (B5 st) t/\t {nx:=λ_ H'=>Q .non H',rt:=Q} (start N vs) H):Al P w K mg base CX0 (k+1) f fd ps sp:=by
 obtain⟨oc,od,dT,ob,n,kV,doc,pm,an,cdv,ct,osl,rfl,lk,hcd,_⟩:=F.ex;refine J2u lk hcd S len λA outer s H vs Q E hr hsp=>?_;obtain⟨t,h,q⟩:=hbody cdv A outer s H vs Q E hr hsp;exact⟨t,h.nox,q⟩
theorem Qq.binds{p1 p2 p3 p4:Str}{d:Value}(F:Qq K x qual st f fd [d])
 (h:∀(dT:Addr) (kV doc pm:Value) (an:Option Addr) (cdv ct a b c:Value),∃k,bindArgs (PySem.W.fnOf x qual (Ba st) (B5 st) (A6 st) (.ref dT) kV doc pm an cdv ct) ⟨[a,b,c],[]⟩=seqItems? (.ref dT) >>=k/\k (some [d].toArray)=pure [(p1,a),(p2,b),(p3,c),(p4,d)]):C4 K fd [p1,p2,p3,p4] [d]:=by
 obtain⟨oc,od,dT,ob,n,kV,doc,pm,an,cdv,ct,osl,rfl,lk,hcd,hT,hs⟩:=F.ex;intro s us X hl
 have hl':us.length=3:=by simpa using hl
 obtain⟨a,us,rfl,k1⟩:=lcD hl';obtain⟨b,us,rfl,k2⟩:=lcD k1;obtain⟨c,us,rfl,k3⟩:=lcD k2;cases l0D k3;obtain⟨k,h1,h2⟩:=h dT kV doc pm an cdv ct a b c;exact PySem.W.binds_K X rfl hT hs h1 h2
def g31:List Value->List Value->List Value
 | [a,b,c],[d]=>[a,b,c,d]
 | _,_=>[]
def Jbb:List V->List V->List V
 | [a,b,c],[d]=>[a,b,c,d]
 | _,_=>[]
theorem J8c{vs zs:List V}{ws:List Value}(r:B3 vs us)(rz:B3 zs ws):B3 (Jbb vs zs) (g31 us ws):=by
 cases r with
 | nil=>exact .nil
 | cons r1 r=>cases r with
  | nil=>exact .nil
  | cons r2 r=>cases r with
   | nil=>exact .nil
   | cons r3 r=>cases r with
    | nil=>cases rz with
     | nil=>exact .nil
     | cons r4 rz=>cases rz with
      | nil=>exact .cons r1 (.cons r2 (.cons r3 (.cons r4 .nil)))
      | cons r5 rz=>exact .nil
    | cons r5 r=>cases rz <;> exact .nil
theorem Qq.kbinds{p1 p2 p3 p4:Str}{d0:Value}(F:Qq K x qual st f fd [d0])
 (h:∀(dT:Addr) (kV doc pm:Value) (an:Option Addr) (cdv ct a b c d:Value),∃k,bindArgs (PySem.W.fnOf x qual (Ba st) (B5 st) (A6 st) (.ref dT) kV doc pm an cdv ct) ⟨[a,b,c],[(p4,d)]⟩=seqItems? (.ref dT) >>=k/\k (some [d0].toArray)=pure [(p1,a),(p2,b),(p3,c),(p4,d)]):J2t K fd [p1,p2,p3,p4] [p4] g31 Jbb:=by
 obtain⟨oc,od,dT,ob,n,kV,doc,pm,an,cdv,ct,osl,rfl,lk,hcd,hT,hs⟩:=F.ex;refine⟨λs us ws X hl=>?_,J8c⟩
 match us,ws,hl with
 | [a,b,c],[d],_=>
  obtain⟨k,h1,h2⟩:=h dT kV doc pm an cdv ct a b c d;exact PySem.W.binds_K X rfl hT hs h1 h2
theorem Qq.full{p1 p2 p3 p4:Str}{d0:Value}(F:Qq K x qual st f fd [d0])
 (h:∀(dT:Addr) (kV doc pm:Value) (an:Option Addr) (cdv ct a b c d:Value),∃k,bindArgs (PySem.W.fnOf x qual (Ba st) (B5 st) (A6 st) (.ref dT) kV doc pm an cdv ct) ⟨[a,b,c,d],[]⟩=seqItems? (.ref dT) >>=k/\k (some [d0].toArray)=pure [(p1,a),(p2,b),(p3,c),(p4,d)]):C4 K fd [p1,p2,p3,p4] []:=by
 obtain⟨oc,od,dT,ob,n,kV,doc,pm,an,cdv,ct,osl,rfl,lk,hcd,hT,hs⟩:=F.ex;intro s us X hl
 have hl':us.length=4:=by simpa using hl
 obtain⟨a,us,rfl,k1⟩:=lcD hl';obtain⟨b,us,rfl,k2⟩:=lcD k1;obtain⟨c,us,rfl,k3⟩:=lcD k2;obtain⟨d,us,rfl,k4⟩:=lcD k3;cases l0D k4;obtain⟨k,h1,h2⟩:=h dT kV doc pm an cdv ct a b c d;exact PySem.W.binds_K X rfl hT hs h1 h2
theorem J8d{oc:Value}{od an:Option Addr}{osl:Array (Option Value)}{dT:Addr}{kV doc pm cdv ct:Value}{ob:Obj}{n:Nat}(l:K.lookup f=some ⟨oc,od,.func (PySem.W.fnOf x qual (Ba st) (B5 st) (A6 st) (.ref dT) kV doc pm an cdv ct),osl⟩)
 (c:PySem.W.codeIn K cdv qual=true) (k:PySem.W.keepIn K (.ref f)=true) (hT:K.lookup dT=some ob) (hs:ob.data= .seq dv.toArray n):Qq K x qual st f (PySem.W.fnOf x qual (Ba st) (B5 st) (A6 st) (.ref dT) kV doc pm an cdv ct) dv:=⟨⟨oc,od,dT,ob,n,kV,doc,pm,an,cdv,ct,osl,rfl,l,c,hT,hs⟩,k⟩
end
structure J65(P:Program)(w:World)(K:PySem.W.Frag)(mg:Str->Option Value)(base:Heap)(CX:CXT)(k:Nat)(x:Str)(C:Addr)(ps:List Str)(kn:Str)(dvs:List V)(sp:Sp):Prop where
 ex:∃(f:Addr) (fd:FuncData) (ds:List Value),Al P w K mg base CX k f fd ps sp/\Mk K C f/\mg x=some (.ref C)/\B3 dvs ds/\C4 K fd ps ds/\J2t K fd ps [kn] g31 Jbb/\C4 K fd ps []
def J66(C:Addr)(sp:Sp)(dvs:List V)(EE:St->XK)(t:TA):TE:=λσ H Q=>t σ H λvs H1=>∀x dx,H1 x=none->H1 dx=none->dx≠x->sp (.ref x::(vs++dvs)) (upd (upd H1 dx (.own x)) x (.ins C dx [])) (λv H2=>v= .non/\Q (.ref x) H2) (EE σ)
section
variable {X:Cx}{CX:CXT}{k j:Nat}{f C:Addr}{fd:FuncData}{ps:List Str}{sp:Sp}{EE:St->XK}{x kn:Str}{p pos kpos:Pos}{e ke:Expr}{es:List Expr}{kws:List Keyword}{t tk:TA}{te:TE}{dvs:List V}
theorem J67{H:Hp}{s:Shared}{ws:List Value}{vs:List V}(M:Mk X.K C f)(F:Al X.prog X.w X.K X.mg X.base CX j f fd ps sp)(hr:Bz (j+1) X.A)
 (hx:Eg CX X EE) (I:Inv X pins σ H s) (g:Value->List Value) (gv:V->List V) (hb:∀s',X.K.In s'.heap->∀a,(g (.ref a)).length=ps.length->BindsTo s' fd ⟨.ref a::us,kw⟩ (ps.zip (g (.ref a)))) (rel:∀a,B3 (gv (.ref a)) (g (.ref a)))
 (q:∀x dx,H x=none->H dx=none->dx≠x->sp (gv (.ref x)) (upd (upd H dx (.own x)) x (.ins C dx [])) (λv H2=>v= .non/\Q (.ref x) H2) (EE σ)):
 wpAny (model X.prog X.w) X.A (call (.ref C) us kw) (EP X pins σ Q) X.xe s:=by
 have hq:=q (s.heap.objs.size+1) s.heap.objs.size (I.hok.fresh (Rj _)) (I.hok.fresh (Fg _)) (FB (Hz _));have I2:=Inv.made (C:=C) I;have r2:=rel (s.heap.objs.size+1)
 have hl:(g (.ref (s.heap.objs.size+1))).length=ps.length:=by
  rw[<- r2.length];exact F.len _ _ _ _ hq
 refine RF (Ug (f:=f) I.kIn M.makes M.init (Rt.mp M.fn) (Rc (F.run _ X.stack _ _ ⟨Value.ref (s.heap.objs.size+1)::us,kw⟩ (g (.ref (s.heap.objs.size+1))) _ _ (EE σ) (hr.make C us kw)
  (I2.env0.make C us kw) (hb _ I2.kIn _ hl) r2 hq) λr s' hq'=>?_))
 cases r with
 | error e=>exact hx pins σ _ _ e s' I2 hq'
 | ok fl=>
  cases fl with
  | ret u=>
   obtain⟨v,H',I3,rv,ev,q3⟩:=I2.after hq';subst ev;exact⟨rv,⟨V.ref (s.heap.objs.size+1),H',I3,rfl,q3⟩⟩
  | next=>exact False.elim hq'
  | brk=>exact False.elim hq'
  | cont=>exact False.elim hq'
theorem J68(D:J65 X.prog X.w X.K X.mg X.base CX j x C ps kn dvs sp)(hr:Bz k X.A)(hg:Gl X x)(hx:Eg CX X EE)(ha:PA X (e::es) t)(hj:j+1<=k:=by decide)(hdb:(x==("__debug__":Str))=false:=by decide)
 (he:starEach (e::es) X.env=(false,eval e X.env)::starEach es X.env:=by rfl) (hpl:(backTo pos (starEach es X.env)).any (·.1)=false:=by rfl):
 PE X (.Call (.Name x p) (e::es) [] pos) (J66 C sp dvs EE t):=by
 obtain⟨f,fd,ds,F,M,hm,hd,hb,_⟩:=D.ex;intro pins s0 σ H0 Q I0 h;refine HR (Mj I0 hg hm ?_ hdb);refine HS (h₀:=X.base) I0.ok.mod.kin M.kp (thn (ha pos pins s0 σ H0 _ I0 h) λus s ⟨vs,H,I,r,q⟩=>⟨I.kIn,?_⟩) he hpl;exact J67 (ws:=[]) (vs:=vs) M F (hr.mono hj) hx I (λa=>a::(us++ds)) (λa=>a::(vs++dvs)) (λs' X' a hl=>hb s' (.ref a::us) X' hl) (λa=> .cons rfl (r.append hd)) q
theorem W9{H:Hp}:J66 C sp dvs EE t σ H Q=t σ H λvs H1=>∀x dx,H1 x=none->H1 dx=none->dx≠x->sp (.ref x::(vs++dvs)) (upd (upd H1 dx (.own x)) x (.ins C dx [])) (λv H2=>v= .non/\Q (.ref x) H2) (EE σ):=rfl
end
end L2
namespace N23
open L2 N1 N5 N4 N6 N12 N32 N14 N20 N18 N25 NR N22 N21 N24
def tvK(d:List (Key×V))(k:Key):Int:=match Aw d k with
 | some (.int i)=>i
 | _=>0
theorem J69{d:List (Key×V)}{k:Key}{i:Int}(h:Aw d k=some (.int i)):tvK d k=i:=by unfold tvK;rw[h]
def J6a(d:List (Key×V))(k:Key):List (Key×V):=Ct d k (.int (tvK d k / 2))
def hvi(d:List (Key×V))(i:Nat):List (Key×V):=((d.map (·.1)).take i).foldl J6a d
def hvd(d:List (Key×V)):List (Key×V):=hvi d d.length
theorem Wa{d:List (Key×V)}{i:Nat}{k:Key}(h:(d.map (·.1))[i]?=some k):hvi d (i+1)=J6a (hvi d i) k:=by
 unfold hvi;rw[Ha,h,RZ];rfl
structure TI(ns:List Str)(d:List (Key×V)):Prop where
 k:C3 d ns
 v:∀k v,Aw d k=some v->∃i:Int,v= .int i
theorem TI.nil{ns:List Str}:TI ns []:=⟨C3.nil,λk v h=>by cases h⟩
theorem TI.put{ns:List Str}{d:List (Key×V)}{z:Str}{i:Int}(h:TI ns d)(hz:z∈ns):TI ns (Ct d (Sum.inr z) (.int i)):=
 ⟨h.k.put hz,λk v e=>by
  rw[D9]at e;split at e
  . cases e;exact⟨i,rfl⟩
  . exact h.v k v e⟩
theorem TI.keys{ns:List Str}{d:List (Key×V)}(h:TI ns d):∃ks:List Str,d.map (·.1)=ks.map Sum.inr/\(∀z∈ks,z∈ns):=let ⟨ks,a,_,b⟩:=h.k;⟨ks,a,b⟩
theorem J23{d:List (Key×V)}{k:Key}(h:k∈d.map (·.1)):∃v,Aw d k=some v:=by
 have:(Aw d k).isSome=true:=by
  rw[<- D8];obtain⟨p,hp,e⟩:=FH.mp h;exact J4.mpr ⟨p,hp,Fi e⟩
 exact Hw.mp this
theorem Xn{ns:List Str}{d:List (Key×V)}(h:TI ns d):∀i,TI ns (hvi d i)/\∀k,(∃j:Int,Aw d k=some (.int j))->∃j:Int,Aw (hvi d i) k=some (.int j):=by
 obtain⟨ks,e,hin⟩:=h.keys;intro i
 induction i with
 | zero=>exact⟨h,λk hk=>hk⟩
 | succ i ih=>
  cases hk:(d.map (·.1))[i]? with
  | none=>
   have:hvi d (i+1)=hvi d i:=by unfold hvi;rw[Ha,hk,Option.toList_none,Hd]
   rw[this];exact ih
  | some k=>
   rw[Wa hk]
   obtain⟨z,hz,rfl⟩:∃z,z∈ks/\Sum.inr z=k:=by
    have:=Ff hk;rw[e]at this;exact FH.mp this
   refine⟨ih.1.put (hin z hz),λk hk'=>?_⟩;unfold J6a;rw[D9];split
   . exact⟨_,rfl⟩
   . exact ih.2 k hk'
theorem TI.at_{ns:List Str}{d:List (Key×V)}{z:Str}(h:TI ns d)(hz:Sum.inr z∈d.map (·.1))(i:Nat):Aw (hvi d i) (Sum.inr z)=some (.int (tvK (hvi d i) (Sum.inr z))):=by
 obtain⟨v,hv⟩:=J23 hz;obtain⟨j,rfl⟩:=h.v _ _ hv;obtain⟨j2,h2⟩:=(Xn h i).2 _ ⟨j,hv⟩;rw[J69 h2];exact h2
theorem TI.get{ns:List Str}{d:List (Key×V)}{k:Key}(h:TI ns d):(Aw d k).getD (V.int 0)=V.int (tvK d k):=by
 unfold tvK
 cases e:Aw d k with
 | none=>rfl
 | some v=>obtain⟨i,rfl⟩:=h.v _ _ e;rfl
theorem J6b{d:List (Key×V)}{ks:List Str}(h:d.map (·.1)=ks.map Sum.inr):d.map (λp=>kV p.1)=ks.map V.str:=by
 have:d.map (λp=>kV p.1)=(d.map (·.1)).map kV:=by rw[FP];rfl
 rw[this,h,FP];rfl
def tbl(e k:Int)(d:List (Key×V)):List (Key×V):=if k % e=0 then hvd d else d
def J24(e k:Int)(d:List (Key×V))(z:Str):List (Key×V):=Ct (tbl e k d) (Sum.inr z) (.int (tvK (tbl e k d) (Sum.inr z)+1))
theorem J6c{ns:List Str}{d:List (Key×V)}{e k:Int}(h:TI ns d):TI ns (tbl e k d)/\∀q,(∃j:Int,Aw d q=some (.int j))->∃j:Int,Aw (tbl e k d) q=some (.int j):=by
 unfold tbl;split
 . exact Xn h _
 . exact⟨h,λ_ x=>x⟩
theorem J0q{ns:List Str}{d:List (Key×V)}{e k:Int}{z:Str}(h:TI ns d)(hz:z∈ns):TI ns (J24 e k d z)/\(∀u:Str,(∃j:Int,Aw d (Sum.inr u)=some (.int j))->∃j:Int,Aw (J24 e k d z) (Sum.inr u)=some (.int j))/\∃j:Int,Aw (J24 e k d z) (Sum.inr z)=some (.int j):=by
 obtain⟨a,b⟩:=J6c (e:=e) (k:=k) h;refine⟨a.put hz,λu hu=>?_,?_⟩
 . unfold J24
   rw[D9];split
   . exact⟨_,rfl⟩
   . exact b _ hu
 . unfold J24
   rw[D9,if_pos rfl];exact⟨_,rfl⟩
structure S4 where
 b:S2
 ta:List (Key×V)
 e:Int
def Jbc(s:S4)(z:Str):S4:=⟨Ca s.b z,J24 s.e s.b.k s.ta z,s.e⟩
def rkH(s:S4)(z:Str):List Int:=[tvK s.ta (Sum.inr z),lv s.b z]
def hmin(s:S4)(l:List Str):Str:=l.getD (argBest (btK λi=>rkH s (l.getD i Str.empty)) (l.length - 1)) Str.empty
theorem U1{s:S4}{l:List Str}(h:l≠[]):hmin s l∈l/\∀u∈l,tvK s.ta (Sum.inr (hmin s l)) < tvK s.ta (Sum.inr u)\/(tvK s.ta (Sum.inr (hmin s l))=tvK s.ta (Sum.inr u)/\lv s.b (hmin s l)<=lv s.b u):=by
 have hl0:0 < l.length:=Hu.mpr h;have hb:=J0p (λi=>tvK s.ta (Sum.inr (l.getD i Str.empty))) (λi=>lv s.b (l.getD i Str.empty)) (l.length - 1);unfold hmin;have e:(λi=>rkH s (l.getD i Str.empty))=λi=>[tvK s.ta (Sum.inr (l.getD i Str.empty)),lv s.b (l.getD i Str.empty)]:=rfl;rw[e];generalize argBest (btK λi=>[tvK s.ta (Sum.inr (l.getD i Str.empty)),lv s.b (l.getD i Str.empty)]) (l.length - 1)=m at hb
 have hm:m < l.length:=by omega
 refine⟨?_,λu hu=>?_⟩
 . rw[Fc,Fb hm];exact Hr hm
 . obtain⟨j,hj⟩:=FC.mp hu
   have hjl:=(Fd.mp hj).1;have:=hb.2 j (by omega);rw[show l.getD j Str.empty=u by rw[Fc,hj];rfl]at this;omega
structure CI(ns:List Str)(s:S4)(l:List Str):Prop where
 t:TI ns s.ta
 v:∀z∈l,∃j:Int,Aw s.ta (Sum.inr z)=some (.int j)
 e1:1<=s.e
 e2:s.e<=200
theorem CI.ask{ns:List Str}{s:S4}{l:List Str}{z:Str}(h:CI ns s l)(hz:z∈ns):CI ns (Jbc s z) l:=
 let c:=J0q (e:=s.e) (k:=s.b.k) h.t hz
 ⟨c.1,λu hu=>c.2.1 u (h.v u hu),h.e1,h.e2⟩
theorem CI.drop{ns:List Str}{s:S4}{l:List Str}{z:Str}(h:CI ns s l):CI ns s (l.erase z):=⟨h.t,λu hu=>h.v u (FJ hu),h.e1,h.e2⟩
def rf4(p:Addr)(n k:Int)(la:Addr)(e:Int)(ta:Addr):List (Str×V):=Aa "tally" (.ref ta) (Aa "turn" (.int e) (rf2 p n k la))
def GAt(C:Addr)(H:Hp)(M:List Addr)(q p:Addr)(n:Int)(s:S4):Prop:=∃la ta,M=[q,la,ta]/\(∃dx,H q=some (.ins C dx (rf4 p n s.b.k la s.e ta)))/\H la=some (.dK s.b.la)/\H ta=some (.dK s.ta)/\la≠ta
def T4(C:Addr):Au where
 C:=C
 St:=S4
 At:=GAt C
 asked:=λ_ s z=>Jbc s z
 pick:=λ_ s l=>(s,hmin s l)
 gone:=λ_ s _=>s
 came:=λ_ s _=>s
 inv:=λns _ s l=>LI ns s.b l/\CI ns s l
 mid:=λns _ z s l=>LM ns z s.b l/\CI ns s l/\∃j:Int,Aw s.ta (Sum.inr z)=some (.int j)
 dep:=λe ⟨la,ta,hM,⟨dx,ho⟩,h1,h2,hne⟩=>by
  rw[hM]at e;exact⟨la,ta,hM,⟨dx,e _ (by simp) _ ho⟩,e _ (by simp) _ h1,e _ (by simp) _ h2,hne⟩
 live:=λ⟨la,ta,hM,⟨dx,ho⟩,h1,h2,hne⟩ m hm e=>by
  rw[hM]at hm;simp only[Ft,FW,or_false]at hm;rcases hm with e1 | e1 | e1
  . rw[e1,ho]at e;cases e
  . rw[e1,h1]at e;cases e
  . rw[e1,h2]at e;cases e
 obj:=λ⟨la,ta,hM,⟨dx,ho⟩,h1,h2,hne⟩=>⟨dx,_,ho,by rfl,by rfl,by rfl,by rfl,by rfl,by rfl,by rfl⟩
 i_hit:=λ{ns n s l z} h hz _=>⟨LI.ask h.1 hz,h.2.ask hz⟩
 i_mid:=λ{ns n s l z} h hz hn=>⟨LI.mid h.1 hz hn,h.2.ask hz,(J0q (e:=s.e) (k:=s.b.k) h.2.t hz).2.2⟩
 i_pick:=λh hl=>⟨(U1 hl).1,⟨LI.drop h.1.i,h.1.z,λu hu=>h.1.b u (FJ hu)⟩,h.2.1.drop,h.2.2⟩
 i_came:=λ{ns n s l z} h _ _=>⟨LM.came h.1,h.2.1.t,λu hu=>(FL.mp hu).elim (h.2.1.v u) (λe=>by rw[Fj.mp e];exact h.2.2),h.2.1.e1,h.2.1.e2⟩
section
variable {p la ta:Addr}{n k k' e:Int}
theorem U2:(rf4 p n k la e ta).length=6:=by rfl
theorem Dj:(rf4 p n k la e ta).lookup ("present":Str)=some (V.int k):=by rfl
theorem L0:(rf4 p n k la e ta).lookup ("last":Str)=some (V.ref la):=by rfl
theorem J6d:(rf4 p n k la e ta).lookup ("turn":Str)=some (V.int e):=by rfl
theorem Ek:(rf4 p n k la e ta).lookup ("tally":Str)=some (V.ref ta):=by rfl
end
def s40(e:Int):S4:=⟨s20,[],e⟩
def Ie(C:Addr):Sp:=λvs H Q _=>∃(q dx p:Addr) (n e:Int),vs=[.ref q,.ref p,.int n,.int e]/\H q=some (.ins C dx [])/\1<=n/\n<=1000000/\1<=e/\e<=200/\∀H' la ta,SameBut q H H'->H la=none->H ta=none->GAt C H' [q,la,ta] q p n (s40 e)->Q .non H'
def K4(C:Addr):Sp:=λvs H Q _=>∃(q p:Addr) (n:Int) (M:List Addr) (s:S4) (ns:List Str),vs=[.ref q]/\GAt C H M q p n s/\TI ns s.ta/\ns.length<=1000/\∀H',Kp M H H'->GAt C H' M q p n ⟨s.b,hvd s.ta,s.e⟩->Q .non H'
def G7(C:Addr):Sp:=λvs H Q _=>∃(q p:Addr) (n:Int) (M:List Addr) (s:S4) (z:Str),vs=[.ref q,.str z]/\GAt C H M q p n s/\s.b.la.length<=1000/\∀H',Kp M H H'->GAt C H' M q p n ⟨Ca s.b z,s.ta,s.e⟩->Q .non H'
def Lo(C:Addr):Sp:=λvs H Q _=>∃(q p:Addr) (n:Int) (M:List Addr) (s:S4) (z:Str) (i:Int),vs=[.ref q,.str z]/\GAt C H M q p n s/\Aw s.b.la (Sum.inr z)=some (.int i)/\Q (.int i) H
def Ig(C:Addr):Sp:=λvs H Q _=>∃(q p:Addr) (n:Int) (M:List Addr) (s:S4) (z:Str),vs=[.ref q,.str z]/\GAt C H M q p n s/\(∃i:Int,Aw s.b.la (Sum.inr z)=some (.int i))/\(∃j:Int,Aw s.ta (Sum.inr z)=some (.int j))/\∀t,H t=none->Q (.ref t) (upd H t (.tup ((rkH s z).map V.int)))
theorem Jd1{C:Addr}{ns:List Str}{n e:Int}(h1:1<=e)(h2:e<=200):(T4 C).inv ns n (s40 e) []:=⟨⟨C3.nil,by simp,List.Pairwise.nil⟩,⟨TI.nil,by simp,h1,h2⟩⟩
end N23
namespace N26
open L2 N1 N5 N4 N6 N12 N32 N14 N20 N18 N25 NR
structure R4 where
 a:List Str
 b:List Str
 p:List Str
 q:List Str
 k:Int
 r:Bool
def stp(x y:Nat):Int:=if (x:Int).fdiv (y:Int) > 1 then (x:Int).fdiv (y:Int) else 1
def mn(n x:Int):Int:=if x < n then x else n
def mx(x:Int):Int:=if x > 0 then x else 0
def rpush(n:Int)(L:List Str)(z:Str):List Str:=if ((L++[z]).length:Int) > n then (L++[z]).eraseIdx 0 else L++[z]
def rback(n:Int)(s:R4)(z:Str):R4:=
 if z∈s.p then ⟨s.a,s.b,s.p.erase z,s.q,mn n (s.k+stp s.q.length s.p.length),true⟩
 else if z∈s.q then ⟨s.a,s.b,s.p,s.q.erase z,mx (s.k - stp s.p.length s.q.length),true⟩
 else ⟨s.a,s.b,s.p,s.q,s.k,false⟩
def rask(n:Int)(s:R4)(z:Str):R4:=
 if z∈s.a then ⟨s.a.erase z,s.b++[z],s.p,s.q,s.k,decide (z∈s.p\/z∈s.q)⟩
 else if z∈s.b then ⟨s.a,s.b.erase z++[z],s.p,s.q,s.k,decide (z∈s.p\/z∈s.q)⟩
 else rback n s z
def rpick(s:R4):Str:=if s.b=[]\/s.k < s.a.length then s.a.headD Str.empty else s.b.headD Str.empty
def rgone(n:Int)(s:R4)(z:Str):R4:=
 if z∈s.a then ⟨s.a.erase z,s.b,rpush n s.p z,s.q,s.k,s.r⟩ else ⟨s.a,s.b.erase z,s.p,rpush n s.q z,s.k,s.r⟩
def rcame(s:R4)(z:Str):R4:=if s.r=true then ⟨s.a,s.b++[z],s.p,s.q,s.k,s.r⟩ else ⟨s.a++[z],s.b,s.p,s.q,s.k,s.r⟩
def cnt(s:R4)(u:Str):Nat:=s.a.count u+s.b.count u+s.p.count u+s.q.count u
structure RI(ns:List Str)(n:Int)(s:R4)(l:List Str):Prop where
 c:∀u,cnt s u<=1
 i:∀u,0 < cnt s u->u∈ns
 pm:l.Perm (s.a++s.b)
 k0:0<=s.k
 pn:(s.p.length:Int)<=n
 qn:(s.q.length:Int)<=n
 n1:1<=n
theorem Lp{L:List Str}{z u:Str}(h:z∈L):(L.erase z).count u+(if z=u then 1 else 0)=L.count u:=by
 rw[List.count_erase]
 by_cases e:z=u
 . subst e
   have:=Re.mpr h;rw[if_pos rfl,if_pos (by simp)];omega
 . rw[if_neg e,if_neg (by simp[e])];omega
theorem Qb{L:List Str}{z u:Str}:(L++[z]).count u=L.count u+(if z=u then 1 else 0):=by
 rw[R6,List.count_singleton]
 by_cases e:z=u
 . rw[if_pos e,if_pos (by simp[e])]
 . rw[if_neg e,if_neg (by simp[e])]
theorem J6e{n:Int}{L:List Str}{z u:Str}:(rpush n L z).count u<=L.count u+(if z=u then 1 else 0):=by
 rw[<- Qb];unfold rpush;split
 . exact(List.eraseIdx_sublist ..).count_le _
 . exact Fg _
theorem U3{L:List Str}{z:Str}(h:z∉L):L.count z=0:=List.count_eq_zero.mpr h
theorem Wb{n:Int}{L:List Str}{z:Str}(h:(L.length:Int)<=n):((rpush n L z).length:Int)<=n:=by
 unfold rpush
 have e:(L++[z]).length=L.length+1:=by rw[Fl];rfl
 split
 . rw[List.length_eraseIdx]
   split <;> omega
 . omega
theorem Jdi(x y:Nat):1<=stp x y:=by unfold stp;split <;> omega
theorem RI.in_l{ns:List Str}{n:Int}{s:R4}{l:List Str}{z:Str}(h:RI ns n s l):z∈l↔z∈s.a\/z∈s.b:=by rw[h.pm.mem_iff,FL]
theorem RI.hit{ns:List Str}{n:Int}{s:R4}{l:List Str}{z:Str}(h:RI ns n s l)(hz:z∈l):RI ns n (rask n s z) l:=by
 unfold rask;split
 . rename_i ha
   have hc:∀u,cnt ⟨s.a.erase z,s.b++[z],s.p,s.q,s.k,decide (z∈s.p\/z∈s.q)⟩ u=cnt s u:=λu=>by
    have e1:=Lp (u:=u) ha;have e2:=Qb (L:=s.b) (z:=z) (u:=u);unfold cnt;simp only;omega
   refine⟨λu=>by rw[hc];exact h.c u,λu hu=>h.i u (by rw[hc]at hu;exact hu),h.pm.trans ?_,h.k0,h.pn,h.qn,h.n1⟩;have e:=(List.perm_cons_erase ha).append_right s.b;refine e.trans ?_;simp only[<- HN];exact(Rk ..).symm
 . rename_i ha
   have hb:z∈s.b:=((h.in_l).mp hz).resolve_left ha;rw[if_pos hb]
   have hc:∀u,cnt ⟨s.a,s.b.erase z++[z],s.p,s.q,s.k,decide (z∈s.p\/z∈s.q)⟩ u=cnt s u:=λu=>by
    have e1:=Lp (u:=u) hb;have e2:=Qb (L:=s.b.erase z) (z:=z) (u:=u);unfold cnt;simp only;omega
   refine⟨λu=>by rw[hc];exact h.c u,λu hu=>h.i u (by rw[hc]at hu;exact hu),h.pm.trans ?_,h.k0,h.pn,h.qn,h.n1⟩;exact((List.perm_cons_erase hb).trans (Rk ..).symm).append_left s.a
theorem RI.miss{ns:List Str}{n:Int}{s:R4}{l:List Str}{z:Str}(h:RI ns n s l)(hz:z∉l):RI ns n (rask n s z) l/\cnt (rask n s z) z=0:=by
 have ha:z∉s.a:=λhh=>hz (h.in_l.mpr (.inl hh));have hb:z∉s.b:=λhh=>hz (h.in_l.mpr (.inr hh));have hc1:=h.c z;have ca:=U3 ha;have cb:=U3 hb;have k0:=h.k0;have n1:=h.n1;unfold rask;rw[if_neg ha,if_neg hb];unfold rback;split
 . rename_i hp
   have hcp:=Re.mpr hp;have hle:=RJ (a:=z) (l:=s.p);have hpn:=h.pn;have h1:=Jdi s.q.length s.p.length
   have hc:∀u,cnt ⟨s.a,s.b,s.p.erase z,s.q,mn n (s.k+stp s.q.length s.p.length),true⟩ u+(if z=u then 1 else 0)=cnt s u:=λu=>by
    have e1:=Lp (u:=u) hp;unfold cnt;simp only;omega
   refine⟨⟨λu=>by have:=hc u;have:=h.c u;omega,λu hu=>h.i u (by have:=hc u;omega),h.pm,?_,?_,h.qn,n1⟩,?_⟩
   . show 0<=mn n (s.k+stp s.q.length s.p.length)
     unfold mn
     split <;> omega
   . show ((s.p.erase z).length:Int)<=n
     omega
   . have:=hc z
     rw[if_pos rfl]at this;omega
 . rename_i hp
   have cp:=U3 hp;split
   . rename_i hq
     have hcp:=Re.mpr hq;have hle:=RJ (a:=z) (l:=s.q);have hqn:=h.qn
     have hc:∀u,cnt ⟨s.a,s.b,s.p,s.q.erase z,mx (s.k - stp s.p.length s.q.length),true⟩ u+(if z=u then 1 else 0)=cnt s u:=λu=>by
      have e1:=Lp (u:=u) hq;unfold cnt;simp only;omega
     refine⟨⟨λu=>by have:=hc u;have:=h.c u;omega,λu hu=>h.i u (by have:=hc u;omega),h.pm,?_,h.pn,?_,n1⟩,?_⟩
     . show 0<=mx (s.k - stp s.p.length s.q.length)
       unfold mx
       split <;> omega
     . show ((s.q.erase z).length:Int)<=n
       omega
     . have:=hc z
       rw[if_pos rfl]at this;omega
   . rename_i hq
     have cq:=U3 hq;exact⟨⟨h.c,h.i,h.pm,k0,h.pn,h.qn,n1⟩,by unfold cnt;simp only;omega⟩
theorem RI.pick{ns:List Str}{n:Int}{s:R4}{l:List Str}(h:RI ns n s l)(hl:l≠[]):(rpick s∈s.a/\(s.b=[]\/s.k < s.a.length)/\∃r,s.a=rpick s::r)\/(rpick s∈s.b/\rpick s∉s.a/\¬(s.b=[]\/s.k < s.a.length)/\∃r,s.b=rpick s::r):=by
 have k0:=h.k0;unfold rpick
 by_cases hc:s.b=[]\/s.k < s.a.length
 . rw[if_pos hc]
   left
   cases ha:s.a with
   | nil=>
    exfalso
    rw[ha]at hc;rcases hc with e | e
    . have:=h.pm
      rw[ha,e]at this;exact hl this.eq_nil
    . rw[List.length_nil]at e;omega
   | cons f r=>rw[ha]at hc;exact⟨Fy ..,hc,r,rfl⟩
 . rw[if_neg hc]
   right
   cases hb:s.b with
   | nil=>exact absurd (.inl hb) hc
   | cons f r=>
    have hc1:=h.c f;have hcb:0 < s.b.count f:=Re.mpr (by rw[hb];exact Fy ..);refine⟨Fy ..,λhm=>?_,by rw[<- hb];exact hc,r,rfl⟩;have:0 < s.a.count f:=Re.mpr hm;unfold cnt at hc1;omega
theorem RI.goes{ns:List Str}{n:Int}{s:R4}{l:List Str}{z:Str}(h:RI ns n s l)(hz:z∈l):RI ns n (rgone n s z) (l.erase z)/\∀u,cnt (rgone n s z) u<=cnt s u:=by
 have hpe:=h.pm.erase z;unfold rgone;split
 . rename_i ha
   have hc:∀u,cnt ⟨s.a.erase z,s.b,rpush n s.p z,s.q,s.k,s.r⟩ u<=cnt s u:=λu=>by
    have e1:=Lp (u:=u) ha;have e2:=J6e (n:=n) (L:=s.p) (z:=z) (u:=u);unfold cnt;simp only;omega
   refine⟨⟨λu=>FO (hc u) (h.c u),λu hu=>h.i u (Fs hu (hc u)),?_,h.k0,Wb h.pn,h.qn,h.n1⟩,hc⟩;rw[List.erase_append_left _ ha]at hpe;exact hpe
 . rename_i ha
   have hb:z∈s.b:=((h.in_l).mp hz).resolve_left ha
   have hc:∀u,cnt ⟨s.a,s.b.erase z,s.p,rpush n s.q z,s.k,s.r⟩ u<=cnt s u:=λu=>by
    have e1:=Lp (u:=u) hb;have e2:=J6e (n:=n) (L:=s.q) (z:=z) (u:=u);unfold cnt;simp only;omega
   refine⟨⟨λu=>FO (hc u) (h.c u),λu hu=>h.i u (Fs hu (hc u)),?_,h.k0,h.pn,Wb h.qn,h.n1⟩,hc⟩;rw[List.erase_append_right _ ha]at hpe;exact hpe
theorem RI.comes{ns:List Str}{n:Int}{s:R4}{l:List Str}{z:Str}(h:RI ns n s l)(h0:cnt s z=0)(hz:z∈ns):RI ns n (rcame s z) (l++[z]):=by
 unfold rcame
 have hs:∀{s':R4},(∀u,cnt s' u=cnt s u+(if z=u then 1 else 0))->(∀u,cnt s' u<=1)/\(∀u,0 < cnt s' u->u∈ns):=λ{s'} e=>by
  refine⟨λu=>?_,λu hu=>?_⟩
  . rw[e u]
    by_cases hu:z=u
    . rw[if_pos hu,<- hu,h0];omega
    . rw[if_neg hu];exact h.c u
  . by_cases he:z=u
    . rw[<- he];exact hz
    . rw[e u,if_neg he]at hu;exact h.i u hu
 split
 . obtain⟨c1,c2⟩:=hs (s':=⟨s.a,s.b++[z],s.p,s.q,s.k,s.r⟩) λu=>by
    have e2:=Qb (L:=s.b) (z:=z) (u:=u);unfold cnt;simp only;omega
   refine⟨c1,c2,?_,h.k0,h.pn,h.qn,h.n1⟩;show (l++[z]).Perm (s.a++(s.b++[z]));rw[<- HN];exact h.pm.append_right _
 . obtain⟨c1,c2⟩:=hs (s':=⟨s.a++[z],s.b,s.p,s.q,s.k,s.r⟩) λu=>by
    have e2:=Qb (L:=s.a) (z:=z) (u:=u);unfold cnt;simp only;omega
   refine⟨c1,c2,?_,h.k0,h.pn,h.qn,h.n1⟩;show (l++[z]).Perm (s.a++[z]++s.b);refine(h.pm.append_right _).trans ?_;rw[HN,HN];exact List.perm_append_comm.append_left s.a
def rfd(p l1 l2 l3 l4:Addr)(n k:Int)(r:Bool):List (Str×V):=Aa "returns" (.bl r) (Aa "bound" (.int k) (Aa "past_again" (.ref l4) (Aa "past_once" (.ref l3) (Aa "again" (.ref l2) (Aa "once" (.ref l1) (Aa "places" (.int n) (Aa "stock" (.ref p) [])))))))
section
variable {p l1 l2 l3 l4:Addr}{n k k':Int}{r r':Bool}
theorem Pa:(rfd p l1 l2 l3 l4 n k r).length=8:=by rfl
theorem J25:(rfd p l1 l2 l3 l4 n k r).lookup ("stock":Str)=some (V.ref p):=by rfl
theorem Mi:(rfd p l1 l2 l3 l4 n k r).lookup ("places":Str)=some (V.int n):=by rfl
theorem Dt:(rfd p l1 l2 l3 l4 n k r).lookup ("once":Str)=some (V.ref l1):=by rfl
theorem Dk:(rfd p l1 l2 l3 l4 n k r).lookup ("again":Str)=some (V.ref l2):=by rfl
theorem O9:(rfd p l1 l2 l3 l4 n k r).lookup ("past_once":Str)=some (V.ref l3):=by rfl
theorem Qc:(rfd p l1 l2 l3 l4 n k r).lookup ("past_again":Str)=some (V.ref l4):=by rfl
theorem Oa:(rfd p l1 l2 l3 l4 n k r).lookup ("bound":Str)=some (V.int k):=by rfl
theorem Om:(rfd p l1 l2 l3 l4 n k r).lookup ("returns":Str)=some (V.bl r):=by rfl
end
structure Dv(C:Addr)(H:Hp)(q p l1 l2 l3 l4:Addr)(n:Int)(s:R4):Prop where
 o:∃dx,H q=some (.ins C dx (rfd p l1 l2 l3 l4 n s.k s.r))
 h1:H l1=some (.lst (s.a.map V.str))
 h2:H l2=some (.lst (s.b.map V.str))
 h3:H l3=some (.lst (s.p.map V.str))
 h4:H l4=some (.lst (s.q.map V.str))
 d12:l1≠l2
 d13:l1≠l3
 d14:l1≠l4
 d23:l2≠l3
 d24:l2≠l4
 d34:l3≠l4
section
variable {C:Addr}{H H':Hp}{q p l1 l2 l3 l4:Addr}{n:Int}{s:R4}{L:List Str}
theorem Dv.nq(h:Dv C H q p l1 l2 l3 l4 n s):q≠l1/\q≠l2/\q≠l3/\q≠l4:=by
 obtain⟨dx,ho⟩:=h.o;refine⟨λe=>?_,λe=>?_,λe=>?_,λe=>?_⟩
 . rw[e,h.h1]at ho;cases ho
 . rw[e,h.h2]at ho;cases ho
 . rw[e,h.h3]at ho;cases ho
 . rw[e,h.h4]at ho;cases ho
theorem Dv.dep(h:Dv C H q p l1 l2 l3 l4 n s)(e:∀m∈[q,l1,l2,l3,l4],∀o,H m=some o->H' m=some o):Dv C H' q p l1 l2 l3 l4 n s:=
 ⟨h.o.imp λ_ e1=>e _ (by simp) _ e1,e _ (by simp) _ h.h1,e _ (by simp) _ h.h2,e _ (by simp) _ h.h3,e _ (by simp) _ h.h4,h.d12,h.d13,h.d14,h.d23,h.d24,h.d34⟩
theorem Dv.setA(h:Dv C H q p l1 l2 l3 l4 n s):Dv C (upd H l1 (.lst (L.map V.str))) q p l1 l2 l3 l4 n ⟨L,s.b,s.p,s.q,s.k,s.r⟩:=
 ⟨h.o.imp λ_ e=>by rw[A2 h.nq.1];exact e,A1,by rw[A2 h.d12.symm];exact h.h2,by rw[A2 h.d13.symm];exact h.h3,by rw[A2 h.d14.symm];exact h.h4,h.d12,h.d13,h.d14,h.d23,h.d24,h.d34⟩
theorem Dv.setB(h:Dv C H q p l1 l2 l3 l4 n s):Dv C (upd H l2 (.lst (L.map V.str))) q p l1 l2 l3 l4 n ⟨s.a,L,s.p,s.q,s.k,s.r⟩:=
 ⟨h.o.imp λ_ e=>by rw[A2 h.nq.2.1];exact e,by rw[A2 h.d12];exact h.h1,A1,by rw[A2 h.d23.symm];exact h.h3,by rw[A2 h.d24.symm];exact h.h4,h.d12,h.d13,h.d14,h.d23,h.d24,h.d34⟩
theorem Dv.setP(h:Dv C H q p l1 l2 l3 l4 n s):Dv C (upd H l3 (.lst (L.map V.str))) q p l1 l2 l3 l4 n ⟨s.a,s.b,L,s.q,s.k,s.r⟩:=
 ⟨h.o.imp λ_ e=>by rw[A2 h.nq.2.2.1];exact e,by rw[A2 h.d13];exact h.h1,by rw[A2 h.d23];exact h.h2,A1,by rw[A2 h.d34.symm];exact h.h4,h.d12,h.d13,h.d14,h.d23,h.d24,h.d34⟩
theorem Dv.setQ(h:Dv C H q p l1 l2 l3 l4 n s):Dv C (upd H l4 (.lst (L.map V.str))) q p l1 l2 l3 l4 n ⟨s.a,s.b,s.p,L,s.k,s.r⟩:=
 ⟨h.o.imp λ_ e=>by rw[A2 h.nq.2.2.2];exact e,by rw[A2 h.d14];exact h.h1,by rw[A2 h.d24];exact h.h2,by rw[A2 h.d34];exact h.h3,A1,h.d12,h.d13,h.d14,h.d23,h.d24,h.d34⟩
theorem Dv.setO{k:Int}{r:Bool}{dx:Addr}(h:Dv C H q p l1 l2 l3 l4 n s):Dv C (upd H q (.ins C dx (rfd p l1 l2 l3 l4 n k r))) q p l1 l2 l3 l4 n ⟨s.a,s.b,s.p,s.q,k,r⟩:=
 ⟨⟨dx,A1⟩,by rw[A2 h.nq.1.symm];exact h.h1,by rw[A2 h.nq.2.1.symm];exact h.h2,by rw[A2 h.nq.2.2.1.symm];exact h.h3,by rw[A2 h.nq.2.2.2.symm];exact h.h4,h.d12,h.d13,h.d14,h.d23,h.d24,h.d34⟩
end
def RAt(C:Addr)(H:Hp)(M:List Addr)(q p:Addr)(n:Int)(s:R4):Prop:=∃l1 l2 l3 l4,M=[q,l1,l2,l3,l4]/\Dv C H q p l1 l2 l3 l4 n s
def T26(C:Addr):Au where
 C:=C
 St:=R4
 At:=RAt C
 asked:=rask
 pick:=λ_ s _=>(s,rpick s)
 gone:=rgone
 came:=λ_ s z=>rcame s z
 inv:=RI
 mid:=λns n z s l=>RI ns n s l/\cnt s z=0
 dep:=λe ⟨l1,l2,l3,l4,hM,h⟩=>⟨l1,l2,l3,l4,hM,h.dep (by rw[hM]at e;exact e)⟩
 live:=λ⟨l1,l2,l3,l4,hM,h⟩ m hm e=>by
  rw[hM]at hm;obtain⟨dx,ho⟩:=h.o;simp only[Ft,FW,or_false]at hm;rcases hm with e1 | e1 | e1 | e1 | e1
  . rw[e1,ho]at e;cases e
  . rw[e1,h.h1]at e;cases e
  . rw[e1,h.h2]at e;cases e
  . rw[e1,h.h3]at e;cases e
  . rw[e1,h.h4]at e;cases e
 obj:=λ⟨l1,l2,l3,l4,hM,h⟩=>h.o.imp λdx ho=>⟨_,ho,J25,Mi,by rfl,by rfl,by rfl,by rfl,by rfl⟩
 i_hit:=λh _ hz=>h.hit hz
 i_mid:=λh _ hz=>h.miss hz
 i_pick:=λ{ns n s l z} h hl=>by
  have hm:rpick s∈l:=by
   rcases h.1.pick hl with ⟨a,_⟩ | ⟨a,_⟩
   . exact h.1.in_l.mpr (.inl a)
   . exact h.1.in_l.mpr (.inr a)
  obtain⟨a,b⟩:=h.1.goes hm;exact⟨hm,a,J9.mp (by rw[<- h.2];exact b z)⟩
 i_came:=λh hz _=>h.1.comes h.2 hz
def Lq(C:Addr):Sp:=λvs H Q _=>∃(q dx p:Addr) (n:Int),vs=[.ref q,.ref p,.int n]/\H q=some (.ins C dx [])/\1<=n/\n<=1000000/\∀H' l1 l2 l3 l4,SameBut q H H'->H l1=none->H l2=none->H l3=none->H l4=none->Dv C H' q p l1 l2 l3 l4 n ⟨[],[],[],[],0,false⟩->Q .non H'
def Lr:Sp:=λvs H Q _=>∃(z:Str) (a b:Addr) (L N:List Str),vs=[.str z,.ref a,.ref b]/\H a=some (.lst (L.map V.str))/\z∈L/\upd H a (.lst ((L.erase z).map V.str)) b=some (.lst (N.map V.str))/\N.length<=1000/\Q .non (upd (upd H a (.lst ((L.erase z).map V.str))) b (.lst ((N++[z]).map V.str)))
def Ls:Sp:=λvs H Q _=>∃(a b:Addr) (L N:List Str),vs=[.ref a,.ref b]/\H a=some (.lst (L.map V.str))/\H b=some (.lst (N.map V.str))/\0 < N.length/\N.length<=1000/\Q (.int (stp L.length N.length)) H
def Lu(C:Addr):Sp:=λvs H Q _=>∃(q p l1 l2 l3 l4:Addr) (n:Int) (s:R4) (z:Str),vs=[.ref q,.str z]/\Dv C H q p l1 l2 l3 l4 n s/\(z∈s.p\/z∈s.q)/\s.p.length<=1000/\s.q.length<=1000/\s.r=true/\∀H',Kp [q,l1,l2,l3,l4] H H'->Dv C H' q p l1 l2 l3 l4 n (rback n s z)->Q .non H'
def K5(C:Addr):Sp:=λvs H Q _=>∃(q p l1 l2 l3 l4 a b:Addr) (n:Int) (s:R4) (z:Str) (L N:List Str),vs=[.ref q,.str z,.ref a,.ref b]/\Dv C H q p l1 l2 l3 l4 n s/\H a=some (.lst (L.map V.str))/\z∈L/\H b=some (.lst (N.map V.str))/\a≠b/\N.length<=1000/\Q .non (upd (upd H a (.lst ((L.erase z).map V.str))) b (.lst ((rpush n N z).map V.str)))
theorem Dv.same{C:Addr}{H:Hp}{q p l1 l2 l3 l4:Addr}{n:Int}{s:R4}(h:Dv C H q p l1 l2 l3 l4 n s)(e:A7 H H'):Dv C H' q p l1 l2 l3 l4 n s:=h.dep λm _ o=>e m o
theorem eq_nil{K:PySem.W.Frag}{H:Hp}{a p:Addr}{L:List Str}(h:H a=some (.lst (L.map V.str)))(hp:H p=some (.lst [])):EqQ K H (.ref a) (.ref p) (decide (L=[])):=
 ⟨a,p,L.map V.str,([]:List Str).map V.str,rfl,rfl,.inl ⟨SqL.of h,SqL.of hp⟩,N2,N2,Oi.symm⟩
theorem RI.lens{ns:List Str}{n:Int}{s:R4}{l:List Str}(h:RI ns n s l):s.a.length+s.b.length+s.p.length+s.q.length<=ns.length:=by
 have hn:(s.a++s.b++s.p++s.q).Nodup:=List.nodup_iff_count.mpr λu=>by
  have:=h.c u;rw[R6,R6,R6];exact this
 have:=Mg hn λu hu=>h.i u (by
  have:=Re.mpr hu;rw[R6,R6,R6]at this
  exact this)
 rw[Fl,Fl,Fl]at this;exact this
def s00:R4:=⟨[],[],[],[],0,false⟩
theorem Jdj{ns:List Str}{n:Int}(h:1<=n):RI ns n s00 []:=⟨λu=>by simp[cnt,s00],λu hu=>by simp[cnt,s00]at hu,List.Perm.refl _,FZ _,by simp[s00];omega,by simp[s00];omega,h⟩
def l4(s:R4)(j:Nat):List Str:=match j with
 | 0=>s.a
 | 1=>s.b
 | 2=>s.p
 | _=>s.q
end N26
namespace L2
def J6f{ι:Type}(C:ι->Addr)(m:Str)(sp:ι->Sp)(EE:St->XK)(ta:TE)(t:TA):TE:=λσ H Q=>ta σ H λx H1=>∃b a dx fs,x= .ref a/\H1 a=some (.ins (C b) dx fs)/\fs.lookup m=none/\t σ H1 λvs H2=>sp b (x::vs) H2 Q (EE σ)
section
variable {ι:Type}{X:Cx}{CX:CXT}{k j:Nat}{C:ι->Addr}{ps:List Str}{sp:ι->Sp}{EE:St->XK}{m:Str}{pos apos:Pos}{e o:Expr}{es:List Expr}{ta:TE}{t:TA}
theorem Nm{pl:Sem Bool}(D:∀b,DefM X.prog X.w X.K X.mg X.base CX j (C b) m ps (sp b))(c:∀b,Cls X.K (C b))(hr:Bz k X.A)(hx:Eg CX X EE)(he:PE X o ta)(ha:PA X (e::es) t)(hj:j<=k:=by decide)
 (hst:starEach (e::es) X.env=(false,eval e X.env)::starEach es X.env:=by rfl) (hpl:(backTo pos (starEach es X.env)).any (·.1)=false:=by rfl)
 (ht:eval (.Call (.Attribute o m apos) (e::es) [] pos) X.env=(do
  let ov <- eval o X.env
  standAt apos.atName
  let (f,first) <- holding [ov] (getMethod ov m pl)
  callWith pos f first (backTo pos (starEach (e::es) X.env)) (backToKw pos (keywordEach [] X.env))):=by rfl):
 PE X (.Call (.Attribute o m apos) (e::es) [] pos) (J6f C m sp EE ta t):=by
 intro pins s σ H Q I h;refine RC (pl:=pl) (thn (he pins s σ H _ I h) λu s1 hq_=>?_) ht;obtain⟨x,H1,I1,rx,b,a,dx,fs,ex,ea,l,q⟩:=hq_;obtain⟨f,fd,F,hm,hb⟩:=(D b).ex;subst ex;obtain rfl:u=Value.ref a:=rx;refine Mb I1 ea (c b) hm l ?_;refine HS (first:=[.ref a]) (h₀:=X.base) I.ok.mod.kin hm.kp (thn (ha pos pins s1 σ H1 _ I1 q) λus s2 ⟨vs,H2,I2,r,q2⟩=>⟨I2.kIn,?_⟩) hst hpl;exact Ox (us:= .ref a::us) (vs:= .ref a::vs) (F.mono hj) hr hb hx I2 (.cons rfl r) q2
theorem Wc{H:Hp}:J6f C m sp EE ta t σ H Q=ta σ H λx H1=>∃b a dx fs,x= .ref a/\H1 a=some (.ins (C b) dx fs)/\fs.lookup m=none/\t σ H1 λvs H2=>sp b (x::vs) H2 Q (EE σ):=rfl
end
end L2
namespace N28
open L2 N1 N5 N4 N6 N12 N32 N14 N20 N18 N25 NR N22 N21 N24 N23 N26
structure H6 where
 L:List Str
 k:List (Key×V)
def hrot:Nat->H6->H6
 | 0,s=>s
 | m+1,s=>match s.L with
  | []=>s
  | f::r=>if (Aw s.k (Sum.inr f)).isSome=true then hrot m ⟨r++[f],Cr s.k (Sum.inr f)⟩ else s
def hpk(s:H6):H6:=hrot s.k.length s
theorem D4{m:Nat}{f:Str}{r:List Str}{k:List (Key×V)}:hrot (m+1) ⟨f::r,k⟩=if (Aw k (Sum.inr f)).isSome=true then hrot m ⟨r++[f],Cr k (Sum.inr f)⟩ else ⟨f::r,k⟩:=rfl
theorem Qd{d:List (Key×V)}{k:Key}(h:(Aw d k).isSome=true):(Cr d k).length < d.length:=by
 rw[<- D8,J4]at h;obtain⟨p,hp,e⟩:=h
 have:(d.filter λkv=>decide (kv.1≠k)).length < d.length:=by
  refine Nat.lt_of_le_of_ne (R3 _ _) λe2=>?_;have:=(List.length_filter_eq_length_iff.mp e2) p hp;simp only[decide_eq_true_eq]at this e;exact this e
 exact this
theorem Ob:∀(m1 m2:Nat) (s:H6),s.k.length<=m1->s.k.length<=m2->hrot m1 s=hrot m2 s:=by
 intro m1
 induction m1 with
 | zero=>
  intro m2 s h1 h2;obtain⟨L,k⟩:=s;have:k=[]:=Rx.mp (J9.mp h1);subst this
  cases m2 with
  | zero=>rfl
  | succ m2=>
   cases L with
   | nil=>rfl
   | cons f r=>rw[D4,if_neg (by simp[Aw])];rfl
 | succ m1 ih=>
  intro m2 s h1 h2;obtain⟨L,k⟩:=s
  cases L with
  | nil=>cases m2 <;> rfl
  | cons f r=>
   by_cases hf:(Aw k (Sum.inr f)).isSome=true
   . have hd:=Qd hf
     cases m2 with
     | zero=>simp only at h2 hd;omega
     | succ m2=>
      rw[D4,D4,if_pos hf,if_pos hf];simp only at h1 h2;exact ih m2 _ (by show (Cr k (Sum.inr f)).length<=m1;omega) (by show (Cr k (Sum.inr f)).length<=m2;omega)
   . cases m2 with
     | zero=>rw[D4,if_neg hf];rfl
     | succ m2=>rw[D4,D4,if_neg hf,if_neg hf]
theorem Jbd{f:Str}{r:List Str}{k:List (Key×V)}(h:(Aw k (Sum.inr f)).isSome=true):hpk ⟨f::r,k⟩=hpk ⟨r++[f],Cr k (Sum.inr f)⟩:=by
 have hd:=Qd h;unfold hpk;rw[Ob _ (k.length - 1+1) ⟨f::r,k⟩ (Fg _) (by show k.length<=_;omega)];rw[D4,if_pos h];exact Ob _ _ _ (by show (Cr k (Sum.inr f)).length<=_;omega) (Fg _)
theorem J8e{f:Str}{r:List Str}{k:List (Key×V)}(h:¬(Aw k (Sum.inr f)).isSome=true):hpk ⟨f::r,k⟩=⟨f::r,k⟩:=by
 unfold hpk;rw[Ob _ (k.length+1) ⟨f::r,k⟩ (Fg _) (Rj _)];rw[D4,if_neg h]
theorem C3.drop{ns:List Str}{z:Str}(h:C3 kvs ns):C3 (Cr kvs (Sum.inr z)) ns:=by
 obtain⟨ks,e,nd,s⟩:=h;refine⟨ks.filter (λu=>decide (u≠z)),?_,nd.filter _,λu hu=>s u (Rg.mp hu).1⟩;unfold Cr;clear nd s
 induction kvs generalizing ks with
 | nil=>cases ks with
  | nil=>rfl
  | cons a b=>cases e
 | cons p q ih=>
  cases ks with
  | nil=>cases e
  | cons a b=>
   rw[List.map_cons,List.map_cons]at e;obtain⟨e1,e2⟩:=List.cons.inj e;have:=ih b e2
   by_cases ha:a=z
   . rw[R9 (by rw[e1,ha];simp),R9 (by rw[ha];simp)];exact this
   . rw[R8 (by rw[e1];simp[ha]),R8 (by simp[ha]),List.map_cons,List.map_cons,this,e1]
structure HI6(ns:List Str)(s:H6)(l:List Str):Prop where
 k:C3 s.k ns
 p:s.L.Perm l
 nd:s.L.Nodup
 s:∀u∈s.L,u∈ns
theorem Wd{ns l:List Str}:∀(m:Nat) (s:H6),HI6 ns s l->HI6 ns (hrot m s) l:=by
 intro m
 induction m with
 | zero=>exact λs h=>h
 | succ m ih=>
  intro s h;obtain⟨L,k⟩:=s
  cases L with
  | nil=>exact h
  | cons f r=>
   rw[D4];split
   . have hp:(r++[f]).Perm (f::r):=Rk ..
     exact ih _ ⟨C3.drop h.k,hp.trans h.p,hp.nodup_iff.mpr h.nd,λu hu=>h.s u (hp.mem_iff.mp hu)⟩
   . exact h
def Qe(C:Addr)(H:Hp)(M:List Addr)(q p:Addr)(n:Int)(s:H6):Prop:=∃od md,M=[q,od,md]/\(∃dx,H q=some (.ins C dx (hfl p od md n)))/\H od=some (.lst (s.L.map V.str))/\H md=some (.dK s.k)
def Qr(s:H6)(z:Str):H6:=if z∈s.L then ⟨s.L,Ct s.k (Sum.inr z) (.bl true)⟩ else s
theorem J8f{s:H6}{z:Str}(h:z∈s.L):Qr s z=⟨s.L,Ct s.k (Sum.inr z) (.bl true)⟩:=by unfold Qr;rw[if_pos h]
theorem J6g{s:H6}{z:Str}(h:z∉s.L):Qr s z=s:=by unfold Qr;rw[if_neg h]
def T6(C:Addr):Au where
 C:=C
 St:=H6
 At:=Qe C
 asked:=λ_ s z=>Qr s z
 pick:=λ_ s _=>(hpk s,(hpk s).L.headD Str.empty)
 gone:=λ_ s z=>⟨s.L.erase z,s.k⟩
 came:=λ_ s z=>⟨s.L++[z],Ct s.k (Sum.inr z) (.bl true)⟩
 inv:=λns _ s l=>HI6 ns s l
 mid:=λns _ _ s l=>HI6 ns s l
 dep:=λe ⟨od,md,hM,⟨dx,ho⟩,h1,h2⟩=>by
  subst hM;exact⟨od,md,rfl,⟨dx,e _ (by simp) _ ho⟩,e _ (by simp) _ h1,e _ (by simp) _ h2⟩
 live:=λ⟨od,md,hM,⟨dx,ho⟩,h1,h2⟩ m hm e=>by
  subst hM;simp only[Ft,FW,or_false]at hm;rcases hm with e1 | e1 | e1
  . rw[e1,ho]at e;cases e
  . rw[e1,h1]at e;cases e
  . rw[e1,h2]at e;cases e
 obj:=λ⟨od,md,hM,⟨dx,ho⟩,h1,h2⟩=>⟨dx,_,ho,J1y,Xl,by rfl,by rfl,by rfl,by rfl,by rfl⟩
 i_hit:=λ{ns n s l z} h hn hz=>by
  show HI6 ns (Qr s z) l;unfold Qr;split
  . exact⟨h.k.put hn,h.p,h.nd,h.s⟩
  . exact h
 i_mid:=λ{ns n s l z} h hn hz=>by
  show HI6 ns (Qr s z) l;unfold Qr;split
  . exact⟨h.k.put hn,h.p,h.nd,h.s⟩
  . exact h
 i_pick:=λ{ns n s l z} h hl=>by
  have h2:HI6 ns (hpk s) l:=Wd _ _ h
  have hm:(hpk s).L.headD Str.empty∈(hpk s).L:=by
   cases e:(hpk s).L with
   | nil=>have:=h2.p;rw[e]at this;exact absurd (List.nil_perm.mp this) hl
   | cons f r=>exact Fy ..
  exact⟨h2.p.mem_iff.mp hm,h2.k,h2.p.erase _,h2.nd.erase _,λu hu=>h2.s u (FJ hu)⟩
 i_came:=λ{ns n s l z} h hn hz=>by
  refine⟨h.k.put hn,h.p.append_right _,?_,λu hu=>?_⟩
  . show (s.L++[z]).Nodup
    rw[HM];refine⟨h.nd,by simp,λa ha b hb e=>hz (h.p.mem_iff.mp ?_)⟩;rw[Fj]at hb;rw[<- hb,<- e];exact ha
  . rcases FL.mp hu with hu | hu
    . exact h.s u hu
    . rw[Fj.mp hu];exact hn
def s60:H6:=⟨[],[]⟩
theorem Jdk{ns:List Str}:HI6 ns s60 []:=⟨C3.nil,List.Perm.refl _,HZ,by simp[s60]⟩
section
variable {P:Program}{w:World}{K:PySem.W.Frag}{mg:Str->Option Value}{base:Heap}{CX:CXT}{k:Nat}{C:Addr}{m:Str}{ps:List Str}{sp sp':Sp}
theorem _root_.L2.DefM.imp(D:DefM P w K mg base CX k C m ps sp)(h:∀vs H Q E,sp' vs H Q E->sp vs H Q E):DefM P w K mg base CX k C m ps sp':=by
 obtain⟨f,fd,F,a,b⟩:=D.ex;exact⟨f,fd,F.imp h,a,b⟩
end
def Ih{ι:Type}(T:ι->Au)(K:PySem.W.Frag)(C S:Addr):Sp:=λvs H Q E=>∃b,Kx (T b) K C S vs H Q E
def Lv{ι:Type}(T:ι->Au)(K:PySem.W.Frag)(C S:Addr):Sp:=λvs H Q E=>∃b,Ni (T b) K C S vs H Q E
def Es(K:PySem.W.Frag):Sp:=λvs H Q _=>∃(X q dx p:Addr) (n:Int),vs=[.ref q,.ref p,.int n]/\H q=some (.ins X dx [])/\Cls K X/\Am K X "stock"/\Am K X "places"/\1<=n/\n<=1000000/\∀H',SameBut q H H'->H' q=some (.ins X dx (rf0 p n))->Q .non H'
def Dg(K:PySem.W.Frag):Sp:=λvs H Q _=>∃(X q dx p:Addr) (n:Int),vs=[.ref q,.ref p,.int n]/\H q=some (.ins X dx [])/\Cls K X/\(Am K X "stock"/\Am K X "places")/\Am K X "present"/\Am K X "last"/\1<=n/\n<=1000000/\∀H' la,SameBut q H H'->H la=none->la≠q->H' q=some (.ins X dx (rf2 p n 0 la))->H' la=some (.dK [])->Q .non H'
def K6(C:Addr):Sp:=λvs H Q _=>∃(q dx p:Addr) (n:Int),vs=[.ref q,.ref p,.int n]/\H q=some (.ins C dx [])/\1<=n/\n<=1000000/\∀H' od md,SameBut q H H'->H od=none->H md=none->Qe C H' [q,od,md] q p n s60->Q .non H'
def Dy{ι:Type}(T:ι->Au)(K:PySem.W.Frag)(C S:Addr):Sp:=λvs H Q E=>∃b,Ib (T b) K C S vs H Q E
end N28
namespace N63
open L2 N1 N5 N4 N6 N12 N32 N14 N20 N18 N25 NR N22 N21 N28
section
variable {C:Addr}{R:Str->Int}{n1 n2:Int}{ns ys:List Str}
theorem li0:LI ns s20 []:=⟨C3.nil,by simp,List.Pairwise.nil⟩
end
section
variable {H H':Hp}{x dx:Addr}{o:HO}
theorem U4(h1:H x=none)(h2:H dx=none)(s:SameBut x (upd (upd H dx (.own x)) x o) H'):A7 H H':=λb ob e=>by
 have n1:b≠x:=λe2=>by rw[e2,h1]at e;cases e
 have n2:b≠dx:=λe2=>by rw[e2,h2]at e;cases e
 exact s b ob (by rw[A2 n1,A2 n2];exact e) n1
theorem U5(h1:H x=none)(h2:H dx=none):A7 H (upd (upd H dx (.own x)) x o):=λb ob e=>by
 have n1:b≠x:=λe2=>by rw[e2,h1]at e;cases e
 have n2:b≠dx:=λe2=>by rw[e2,h2]at e;cases e
 rw[A2 n1,A2 n2];exact e
end
structure Kk(K:PySem.W.Frag)(C:Addr)(H:Hp)(st a:Addr)(n:Int)(ts:List Th)(ys:List Str):Prop where
 s:Av K C H st ts
 nd:(ts.map (·.1)).Nodup
 tl:ts.length<=60
 a:H a=some (.lst (ys.map V.str))
 l:ys.length<=200
 i:∀y∈ys,y∈ts.map (·.1)
 r:∀y∈ys,rm ts y<=n
 n1:1<=n
 n2:n<=1000000
theorem Kk.same{K:PySem.W.Frag}{C:Addr}{H:Hp}{st a:Addr}{n:Int}{ys:List Str}(h:Kk K C H st a n ts ys)(s:A7 H H'):Kk K C H' st a n ts ys:=⟨h.s.same s,h.nd,h.tl,s _ _ h.a,h.l,h.i,h.r,h.n1,h.n2⟩
end N63
namespace N74
open L2 N1 N5 N4 N6 N12 N71
structure Gt where
 h:Str->Int
 l:Str->Bool
 st:Str->Int
 es:List (List V)
end N74
namespace N34
open L2 N1 N5 N31 N4 N32 N41 N35
variable {ys:List Str}{R:Str->Int}{n c:Nat}
def Fp(i:Int)(k:Nat):Nat->Int
 | 0=>i+(k:Int) / 8
 | j+1=>(i / 24).fdiv ((j:Int)+1)+5 * j
def nmP(i:Int)(k:Nat):List Nat:=nmL (Fp i k) (-1) (1+k % 8) 0
def L3(i:Int)(n:Nat):List Nat:=(List.range n).map λ(j:Nat)=>bc (((i / 24).fdiv ((j:Int)+1)+5 * j) % 36)
theorem J26{i:Int}{n:Nat}:L3 i (n+1)=L3 i n++[bc (((i / 24).fdiv ((n:Int)+1)+5 * n) % 36)]:=by
 unfold L3;rw[Hj,Fo];rfl
theorem Xo{i:Int}{k:Nat}:nmP i k=bc ((i+(k:Int) / 8) % 26)::(L3 i 7).take (k % 8):=by
 unfold nmP nmL L3;rw[Nat.add_comm,RB,List.map_cons,FP,<- J1,List.take_range,Hi (by omega)];congr 1
 . unfold sgn md
   rw[if_neg (by omega),if_pos rfl,Int.add_zero];rfl
 . refine Ht λj _=>?_
   show sgn (Fp i k) (-1) 0 (j+1)=_;unfold sgn md;rw[if_neg (by omega),if_neg (by omega),Int.add_zero];rfl
theorem J6h{i:Int}{k:Nat}:Dr (nmP i k)=true:=Vj (by omega) (by omega)
theorem J8g{i:Int}{k k':Nat}(hk:k < 26)(hk':k' < 26)(h:nmP i k=nmP i k'):k=k':=by
 have hl:=congrArg List.length h;unfold nmP nmL at hl;rw[Fa,Fa,Fw,Fw]at hl;rw[Xo,Xo]at h
 injection h with h1 _
 have h2:=Jaz (j:=0) (show bc ((i+(k:Int) / 8) % md 0)=bc ((i+(k':Int) / 8) % md 0) from h1);have h3:(i+(k:Int) / 8) % 26=(i+(k':Int) / 8) % 26:=h2;omega
def J27(i:Int)(m:Nat):List Str:=(List.range m).map λk=>tx (nmP i k)
theorem Xp{i:Int}{m:Nat}(hm:m<=26):(J27 i m).Nodup:=by
 unfold J27 List.Nodup;rw[RY];refine List.Pairwise.imp_of_mem (R:=λa b=>a≠b) ?_ List.nodup_range;intro a b ha hb hab e;exact hab (J8g (by have:=He.mp ha;omega) (by have:=He.mp hb;omega) (J9i e))
theorem We{tail:L2.St}{te:Blk->TE}{n:Nat}(f:Nat->V)(hz:n<=sizeLine)(he:∀b (i:Nat) H Q',i < n->A7 H1 H->(∀H',A7 H H'->Q' (f i) H')->te b (some (.int (0+(i:Int)))::tail) H Q')
 (q:∀D H',H1 D=none->A7 H1 H'->H' D=some (.lst ((List.range n).map f))->Q (.ref D) H'):Bi (none::tail) (λ_=>By 0) (λ_=>Do) te Q (Itr 0 n) H1:=by
 refine Vk (lo:=0) (λi v _=>v=f i) (λi y H H' l zs h _ _=>h) hz (λb i H Q' hi sm q'=>he b i H Q' hi sm λH' sm'=>q' _ _ sm' rfl) λD ys H' hD sm hd hl hall=>?_
 have e:ys=(List.range n).map f:=by
  apply J0;intro i
  by_cases hi:i < n
  . rw[Fe,FS hi,Fb (by omega)]
    exact congrArg some (hall i _ (Fb (by omega)))
  . rw[Hg (by omega),Hg (by rw[Fa,Fw];omega)]
 rw[e]at hd;exact q D H' hD sm hd
theorem Xq{l:List Nat}{k:Nat}(h:k<=l.length):Txt.slice (tx l) none (some (k:Int))=tx (l.take k):=by
 have e:=Rt.mp (PyProof.Rows.slice_closes_toL (x:=tx l) (j:=(k:Int)) (by omega) (by rw[Vd];omega));rw[e,Ku];unfold tx;rw[show ((k:Int) - 0).toNat=k by omega];rfl
end N34
namespace N93
open L2 N1 N5 N4 N6 N12 N32 N14 N20 N18 N25 NR N22 N21 N63 N35
variable {ys:List Str}{R:Str->Int}{n c:Nat}
theorem ones{l:List Str}(h:∀y∈l,R y=1):(l.map R).sum=l.length:=by
 induction l with
 | nil=>rfl
 | cons a l ih=>
  rw[List.map_cons,Hb,ih λy hy=>h y (Fh _ hy),h a Fy,List.length_cons];omega
open N71
open N74
end N93
namespace N43
open L2 N1 N5 N4 N6 N12 N32 N14 N20 N18 N25 NR N22 N21 NF
def gps(ys:List Str):Nat->List (Nat×Nat)
 | 0=>[]
 | n+1=>gps ys n++(match ear ys n with | none=>[] | some e=>[(e,n)])
abbrev jmp(C:Str->Int)(ys:List Str)(g:Nat×Nat):Jp:=(g.1+1,g.2,C (ys.getD g.2 Str.empty))
abbrev jps(C:Str->Int)(ys:List Str)(n:Nat):List Jp:=(gps ys n).map (jmp C ys)
theorem L4{ys:List Str}{n:Nat}(h:ear ys n=none):gps ys (n+1)=gps ys n:=by
 show gps ys n++(match ear ys n with | none=>[] | some e=>[(e,n)])=_;rw[h];exact Hd _
theorem Ii{ys:List Str}{n e:Nat}(h:ear ys n=some e):gps ys (n+1)=gps ys n++[(e,n)]:=by
 show gps ys n++(match ear ys n with | none=>[] | some e=>[(e,n)])=_;rw[h]
theorem Lw:∀{n:Nat}{g:Nat×Nat},g∈gps ys n->g.2 < n/\ear ys g.2=some g.1
 | 0,g,h=>by cases h
 | n+1,g,h=>by
  cases e:ear ys n with
  | none=>rw[L4 e]at h;have:=Lw h;exact⟨by omega,this.2⟩
  | some b=>
   rw[Ii e]at h;rcases FL.mp h with h | h
   . have:=Lw h;exact⟨by omega,this.2⟩
   . rw[Fj.mp h];exact⟨Hz _,e⟩
theorem J0r{ys:List Str}:∀{N n:Nat},n<=N->∃r,gps ys N=gps ys n++r
 | 0,n,h=>⟨[],by rw[J9.mp h];rfl⟩
 | N+1,n,h=>by
  by_cases e:n=N+1
  . rw[e];exact⟨[],(Hd _).symm⟩
  . obtain⟨r,hr⟩:=J0r (ys:=ys) (N:=N) (n:=n) (by omega)
    refine⟨r++(match ear ys N with | none=>[] | some e=>[(e,N)]),?_⟩;rw[<- HN,<- hr];rfl
theorem J6i{N n e:Nat}(hn:n < N)(h:ear ys n=some e):(gps ys N)[(gps ys n).length]?=some (e,n):=by
 obtain⟨r,hr⟩:=J0r (ys:=ys) (N:=N) (n:=n+1) hn;rw[hr,Ii h,HN,Fz (Fg _),Nat.sub_self];rfl
theorem jok{C:Str->Int}{N:Nat}(hC:∀n,n < N->0<=C (ys.getD n Str.empty)):JOk (N+1) (jps C ys N):=λj hj=>by
 obtain⟨g,hg,rfl⟩:=FH.mp hj;obtain⟨h1,h2⟩:=Lw hg;have:=(E2 h2).1;exact⟨by show g.1+1<=g.2;omega,by show g.2 < N+1;omega,hC _ h1⟩
def C6(q:Nat->Int)(N:Nat):List Int:=(List.range N).map λi=>q (i+1) - q i
theorem Nn{q:Nat->Int}{N:Nat}:(C6 q N).length=N:=by unfold C6;rw[Fa,Fw]
theorem J8h{q:Nat->Int}{N i:Nat}(h:i < N):(C6 q N).getD i 0=q (i+1) - q i:=by
 unfold C6;rw[Fc,Fe,FS h];rfl
theorem So{q:Nat->Int}{N b:Nat}(h:b<=N):((C6 q N).take b).sum=q b - q 0:=by
 unfold C6;rw[<- J1,List.take_range,Hi h];exact Xe
theorem J6j{q:Nat->Int}{N a b:Nat}(h:a<=b)(hb:b<=N):N41.seg (C6 q N) a b=q b - q a:=by
 have e:=So (q:=q) hb;have e2:=So (q:=q) (N:=N) (b:=a) (by omega);rw[<- List.take_append_drop a ((C6 q N).take b),HQ,List.take_take,Hi h]at e;unfold N41.seg;omega
theorem Sq{q:Nat->Int}{j:Jp}{b:Bool}:∀{js:List Jp}{tk:List Bool},js.length=tk.length->tsum q (js++[j]) (tk++[b])=tsum q js tk+if b then q j.2.1 - q j.1 else 0
 | [],[],_=>by show (if b then _ else _)+0=0+_;omega
 | i::js,c::tk,h=>by
  show (if c then _ else _)+tsum q (js++[j]) (tk++[b])=((if c then _ else _)+tsum q js tk)+_;rw[Sq (by simpa using h)];omega
def tkA(ys:List Str)(tk:List Bool)(n:Nat):Bool:=match ear ys n with
 | none=>false
 | some _=>tk.getD (gps ys n).length false
def un(C:Str->Int)(ys:List Str)(tk:List Bool):Nat->Int
 | 0=>0
 | n+1=>un C ys tk n+if tkA ys tk n then 0 else C (ys.getD n Str.empty)
section
variable {C r:Str->Int}{ys:List Str}{tk:List Bool}{P:Int}{h:List Int}{N:Nat}
theorem Jbe{n e:Nat}(hn:n < N)(he:ear ys n=some e):(gps ys n).length < (jps C ys N).length/\(jps C ys N).getD (gps ys n).length (0,0,0)=jmp C ys (e,n):=by
 have g:=J6i hn he;have hl:=(Fd.mp g).1;refine⟨by rw[Fa];exact hl,?_⟩;rw[Fc,Fe,g];rfl
theorem lsum(F:FE (N+1) (jps C ys N) tk P h)(hr:∀n,n < N->r (ys.getD n Str.empty)=1):∀n,n<=N->N41.fl C r (C6 (at' h) N) 1 (P+1) ys n=un C ys tk n+tsum (at' h) (jps C ys n) (tk.take (gps ys n).length) - P * at' h n
 | 0,_=>by
  show (0:Int)=0+tsum (at' h) [] (tk.take 0) - P * at' h 0;rw[F.z,List.take_zero];show (0:Int)=0+0 - P * 0;omega
 | n+1,hn=>by
  have ih:=lsum F hr n (by omega);show N41.fl C r (C6 (at' h) N) 1 (P+1) ys n+(N41.Bo C r (C6 (at' h) N) 1 ys n - (C6 (at' h) N).getD n 0 * (P+1 - r (ys.getD n Str.empty)))=(un C ys tk n+if tkA ys tk n then 0 else C (ys.getD n Str.empty))+_ - _;rw[ih,J8h (by omega),hr n (by omega),show P+1 - 1=P by omega]
  have em:(at' h (n+1) - at' h n) * P=P * at' h (n+1) - P * at' h n:=by rw[Int.mul_comm,Int.mul_sub]
  rw[em];unfold N41.Bo tkA
  cases he:ear ys n with
  | none=>
   have ej:jps C ys (n+1)=jps C ys n:=by unfold jps;rw[L4 he]
   rw[ej,L4 he];show _+(C (ys.getD n Str.empty) * 1 - _)=un C ys tk n+C (ys.getD n Str.empty)+_ - _;omega
  | some e=>
   obtain⟨hk,hj⟩:=Jbe (C:=C) (N:=N) (by omega) he;have el:=(E2 he).1
   have ej:jps C ys (n+1)=jps C ys n++[jmp C ys (e,n)]:=by unfold jps;rw[Ii he,Fo];rfl
   have et:tk.take (gps ys (n+1)).length=tk.take (gps ys n).length++[tk.getD (gps ys n).length false]:=by
    rw[Ii he,Fl,FV,Ha];congr 1;rw[Fc,Fb (by rw[F.l];exact hk)];rfl
   rw[ej,et,Sq (by rw[Fa,Hl,F.l];omega)];have sg:=J6j (q:=at' h) (N:=N) (show e+1<=n by omega) (by omega);show _+(min (C (ys.getD n Str.empty) * 1) (r (ys.getD n Str.empty) * N41.seg (C6 (at' h) N) (e+1) n) - _)=un C ys tk n+(if tk.getD (gps ys n).length false then 0 else C (ys.getD n Str.empty))+(_+if tk.getD (gps ys n).length false then at' h n - at' h (e+1) else 0) - _;rw[sg,hr n (by omega)]
   cases hb:tk.getD (gps ys n).length false with
   | true=>
    have:=F.t1 _ hk hb;rw[hj]at this;have:at' h n - at' h (e+1)<=C (ys.getD n Str.empty):=this;rw[Int.min_eq_right (by omega),if_pos rfl,if_pos rfl];omega
   | false=>
    have:=F.t0 _ hk hb;rw[hj]at this;have:C (ys.getD n Str.empty)<=at' h n - at' h (e+1):=this;rw[Int.min_eq_left (by omega),if_neg (by decide),if_neg (by decide)];omega
theorem J6k(F:FE (N+1) (jps C ys N) tk P h)(hr:∀n,n < N->r (ys.getD n Str.empty)=1):N41.fl C r (C6 (at' h) N) 1 (P+1) ys N=un C ys tk N:=by
 rw[lsum F hr N (Fg _),Ho (by rw[F.l,Fa];exact Fg _),F.s,show N+1 - 1=N from rfl];omega
theorem Np(F:FE (N+1) (jps C ys N) tk P h):∀t∈C6 (at' h) N,0<=t:=λt ht=>by
 obtain⟨i,hi,rfl⟩:=FH.mp ht;have:=F.up i (by have:=He.mp hi;omega);omega
end
def rf4(p:Addr)(n k:Int)(la sd:Addr):List (Str×V):=Aa "stays" (.ref sd) (rf2 p n k la)
def stB(kv:List (Key×V))(i:Int):Bool:=(Aw kv (Sum.inl i)).isSome
def PAt(kv:List (Key×V))(C:Addr)(H:Hp)(M:List Addr)(q p:Addr)(n:Int)(s:S2):Prop:=∃la sd,M=[q,la,sd]/\la≠sd/\(∃dx,H q=some (.ins C dx (rf4 p n s.k la sd)))/\H la=some (.dK s.la)/\H sd=some (.dK kv)
def rk4(kv:List (Key×V))(s:S2)(z:Str):Int:=if stB kv (lv s z) then 1 else 0
def T4(kv:List (Key×V))(C:Addr):Au where
 C:=C
 St:=S2
 At:=PAt kv C
 asked:=λ_ s z=>Ca s z
 pick:=λ_ s l=>(s,lmin (rk4 kv s) l)
 gone:=λ_ s _=>s
 came:=λ_ s _=>s
 inv:=λns _ s l=>LI ns s l
 mid:=λns _ z s l=>LM ns z s l
 dep:=λe ⟨la,sd,hM,nl,⟨dx,ho⟩,h1,h2⟩=>by
  rw[hM]at e;exact⟨la,sd,hM,nl,⟨dx,e _ (by simp) _ ho⟩,e _ (by simp) _ h1,e _ (by simp) _ h2⟩
 live:=λ⟨la,sd,hM,nl,⟨dx,ho⟩,h1,h2⟩ m hm e=>by
  rw[hM]at hm;simp only[Ft,FW,or_false]at hm;rcases hm with e1 | e1 | e1
  . rw[e1,ho]at e;cases e
  . rw[e1,h1]at e;cases e
  . rw[e1,h2]at e;cases e
 obj:=λ⟨la,sd,hM,nl,⟨dx,ho⟩,h1,h2⟩=>⟨dx,_,ho,by rfl,by rfl,by rfl,by rfl,by rfl,by rfl,by rfl⟩
 i_hit:=λh hz _=>LI.ask h hz
 i_mid:=λh hz hn=>LI.mid h hz hn
 i_pick:=λh hl=>⟨(Nl hl).1,LI.drop h.i,h.z,λu hu=>h.b u (FJ hu)⟩
 i_came:=λh _ _=>LM.came h
theorem On{t:Nat}:∀{js:List Jp}{tk:List Bool},over js tk t=((js.zip tk).filter λp=>p.2 && cov p.1 t).length
 | [],tk=>by cases tk <;> rfl
 | j::js,[]=>rfl
 | j::js,b::tk=>by
  show (if b && cov j t then 1 else 0)+over js tk t=_;rw[On (js:=js) (tk:=tk),Je,Hc];show _=(if (b && cov j t)=true then _ else _:List (Jp×Bool)).length;split
  . rw[List.length_cons];omega
  . omega
def Sty(C:Str->Int)(ys:List Str)(N:Nat)(tk:List Bool)(kv:List (Key×V)):Prop:=∀i:Int,stB kv i=true↔∃k g,(gps ys N)[k]?=some g/\tk.getD k false=true/\i=(g.1:Int)+1
section
variable {C r:Str->Int}{ys ns:List Str}{tk:List Bool}{P:Nat}{kv:List (Key×V)}{N:Nat}{X:Addr}
structure PR(C r:Str->Int)(ys:List Str)(tk:List Bool)(P:Nat)(kv:List (Key×V))(i:Nat)(s:S2)(l:List Str)(paid:Int):Prop where
 k:s.k=i
 la:∀z,Aw s.la (Sum.inr z)=(Ax ys z i).map λe=>V.int ((e:Int)+1)
 st:∀z e,Ax ys z i=some e->stB kv ((e:Int)+1)=true->z∈l
 pa:N41.Ed C r (P:Int) ys i l paid
 le:paid<=un C ys tk i
theorem PR.lv{i:Nat}{s:S2}{l:List Str}{paid:Int}(h:PR C r ys tk P kv i s l paid){z:Str}{e:Nat}(he:Ax ys z i=some e):lv s z=(e:Int)+1:=Nk (by rw[h.la,he];rfl)
theorem U6{z:Str}{i:Nat}:Ax ys z (i+1)=if ys.getD i Str.empty=z then some i else Ax ys z i:=rfl
theorem Jbf{s:S2}{i:Nat}(hk:s.k=i)(h:∀z,Aw s.la (Sum.inr z)=(Ax ys z i).map λe=>V.int ((e:Int)+1)):∀z,Aw (Ca s (ys.getD i Str.empty)).la (Sum.inr z)=(Ax ys z (i+1)).map λe=>V.int ((e:Int)+1):=λz=>by
 rw[U6]
 by_cases e:ys.getD i Str.empty=z
 . rw[if_pos e,<- e,P9,hk];rfl
 . rw[if_neg e,Tx λz'=>e z'.symm];exact h z
theorem J28{s:S2}{l:List Str}{i:Nat}(hS:Sty C ys N tk kv)(ho:∀t,t < N->over (jps C ys N) tk t < P)(hl:tk.length=(jps C ys N).length)(hi:i < N)(hN:N<=ys.length)(hla:∀z,Aw s.la (Sum.inr z)=(Ax ys z i).map λe=>V.int ((e:Int)+1))(hnd:l.Nodup)(has:∀y∈l,(Ax ys y i).isSome=true)(hz:ys.getD i Str.empty∉l)(hf:P<=l.length):∃u∈l,stB kv (N21.lv s u)=false:=by
 refine Classical.byContradiction λhno=>?_
 have hall:∀u∈l,stB kv (N21.lv s u)=true:=λu hu=>by
  cases e:stB kv (N21.lv s u) with
  | true=>rfl
  | false=>exact absurd ⟨u,hu,e⟩ hno
 let F:List (Jp×Bool):=((jps C ys N).zip tk).filter λp=>p.2 && cov p.1 i
 have key:∀u∈l,∃e,Ax ys u i=some e/\e+1∈F.map λp=>p.1.1:=λu hu=>by
  obtain⟨e,he⟩:=Hw.mp (has u hu);refine⟨e,he,?_⟩;have h1:=hall u hu;rw[Nk (s:=s) (z:=u) (by rw[hla,he];rfl)]at h1;obtain⟨k,g,hg,hb,hi'⟩:=(hS _).mp h1
  have eg:g.1=e:=by omega
  obtain⟨g1,g2⟩:=Lw (Ff hg);have hkl:=(Fd.mp hg).1;obtain⟨e1,e2⟩:=E2 he;obtain⟨e3,e4⟩:=E2 g2
  have eu:ys.getD g.2 Str.empty=u:=by rw[<- e4,eg,e2]
  have hlt:i < g.2:=by
   rcases Nat.lt_trichotomy i g.2 with c | c | c
   . exact c
   . exact absurd (by rw[c,eu];exact hu) hz
   . exact absurd eu (J4w he (by omega) c)
  refine FH.mpr ⟨(jmp C ys g,true),Rg.mpr ⟨?_,?_⟩,by show g.1+1=e+1;omega⟩
  . refine FC.mpr ⟨k,?_⟩
    rw[RV];refine⟨by rw[Fe,hg];rfl,?_⟩
    have:k < tk.length:=by rw[hl,Fa];exact hkl
    rw[Fc,Fb this]at hb;rw[Fb this];exact congrArg some hb
  . show (true && (decide (g.1+1<=i) && decide (i < g.2)))=true
    rw[Fi (show g.1+1<=i by omega),Fi hlt];rfl
 have hnd2:(l.map λu=>((Ax ys u i).getD 0)+1).Nodup:=by
  rw[List.nodup_iff_pairwise_ne,RY];refine(List.nodup_iff_pairwise_ne.mp hnd).imp_of_mem λ{a b} ha hb hab hc=>hab ?_;obtain⟨ea,h1,_⟩:=key a ha;obtain⟨eb,h2,_⟩:=key b hb;rw[h1,h2]at hc;have hc:ea+1=eb+1:=hc
  have:ea=eb:=by omega
  rw[<- (E2 h1).2,<- (E2 h2).2,this]
 have hle:=RG (l₂:=F.map λp=>p.1.1) hnd2 λx hx=>by
  obtain⟨u,hu,rfl⟩:=FH.mp hx;obtain⟨e,he,hm⟩:=key u hu;rw[he];exact hm
 rw[Fa,Fa]at hle;have:=ho i hi;rw[On]at this;have:F.length < P:=this;omega
theorem Et{l:List Str}(h:∀y∈l,r y=1):N41.sm r l=l.length:=by
 unfold N41.sm;exact N93.ones h
end
section
variable {T:Au}{R:Str->Int}{n:Int}{ns:List Str}
theorem J6l{s:T.St}{l:List Str}{z:Str}(hR:∀u∈l,R u=1)(hz:R z=1)(hl:(l.length:Int) < n):gf T R n (R z) s l []=(s,l,[]):=Mh (by rw[Et hR,hz];omega)
theorem J0s{s:T.St}{l:List Str}{z:Str}(hm:T.mid ns n z s l)(hR:∀u∈l,R u=1)(hz:R z=1)(hl:(l.length:Int)=n)(hn:1<=n):(T.pick n s l).2∈l/\gf T R n (R z) s l []=(T.gone n (T.pick n s l).1 (T.pick n s l).2,l.erase (T.pick n s l).2,[(T.pick n s l).2]):=by
 have hne:l≠[]:=λe=>by rw[e]at hl;simp at hl;omega
 obtain⟨hp,_⟩:=T.i_pick hm hne;refine⟨hp,?_⟩;rw[J0k (by rw[Et hR,hz];omega) hp,Mh]
 . rfl
 . have:=FT hp
   have:=FU hp;rw[Et λu hu=>hR u (FJ hu),hz];omega
end
section
variable {C r:Str->Int}{ys ns:List Str}{tk:List Bool}{P:Nat}{kv:List (Key×V)}{X:Addr}
structure Ou(P:Nat)(l:List Str)(z:Str)(rw_:N14.Row)(l':List Str):Prop where
 n:rw_.1=z
 b:rw_.2.1=decide (z∈l)
 hit:z∈l->rw_.2.2=[]/\l'=l
 few:z∉l->l.length < P->rw_.2.2=[]/\l'=l++[z]
 full:z∉l->¬l.length < P->∃u∈l,rw_.2.2=[u]/\l'=l.erase u++[z]
theorem Sr(hS:Sty C ys ys.length tk kv)(ho:∀t,t < ys.length->over (jps C ys ys.length) tk t < P)(hl:tk.length=(jps C ys ys.length).length)(hP:1<=P)(hr:∀y∈ys,r y=1)(hC:∀y∈ys,0<=C y)(hin:∀y∈ys,y∈ns){i:Nat}(hi:i < ys.length){s:S2}{l:List Str}{paid:Int}(h:PR C r ys tk P kv i s l paid)(hI:LI ns s l)(hb:l.length<=P):
 PR C r ys tk P kv (i+1) (gask (T4 kv X) r P (s,l) (ys.getD i Str.empty)).1.1 (gask (T4 kv X) r P (s,l) (ys.getD i Str.empty)).1.2 (paid+if ys.getD i Str.empty∈l then 0 else C (ys.getD i Str.empty))/\(gask (T4 kv X) r P (s,l) (ys.getD i Str.empty)).1.2.length<=P/\Ou P l (ys.getD i Str.empty) (gask (T4 kv X) r P (s,l) (ys.getD i Str.empty)).2 (gask (T4 kv X) r P (s,l) (ys.getD i Str.empty)).1.2:=by
 have hzy:ys.getD i Str.empty∈ys:=Ff (N41.C9 hi);have hz1:=hr _ hzy;have hz0:=hC _ hzy;have hly:∀y∈l,y∈ys:=λy hy=>N41.Nf (h.pa.asked y hy) (by omega);have hl1:∀y∈l,r y=1:=λy hy=>hr y (hly y hy)
 have hu:un C ys tk (i+1)=un C ys tk i+if tkA ys tk i then 0 else C (ys.getD i Str.empty):=rfl
 have hla:=Jbf h.k h.la
 have hk:(Ca s (ys.getD i Str.empty)).k=((i+1:Nat):Int):=by show s.k+1=_;rw[h.k];omega
 by_cases hm:ys.getD i Str.empty∈l
 . have e:gask (T4 kv X) r P (s,l) (ys.getD i Str.empty)=((Ca s (ys.getD i Str.empty),l),(ys.getD i Str.empty,true,[])):=if_pos hm
   rw[e,if_pos hm,Int.add_zero];refine⟨⟨hk,hla,λz e he hs=>?_,h.pa.hit hi hm,?_⟩,hb,⟨rfl,(Fi hm).symm,λ_=>⟨rfl,rfl⟩,λw=>absurd hm w,λw=>absurd hm w⟩⟩
   . rw[U6]at he
     by_cases ez:ys.getD i Str.empty=z
     . rw[<- ez];exact hm
     . rw[if_neg ez]at he;exact h.st z e he hs
   . have:=h.le
     rw[hu]
     split <;> omega
 . have e:gask (T4 kv X) r P (s,l) (ys.getD i Str.empty)=(((gf (T4 kv X) r P (r (ys.getD i Str.empty)) (Ca s (ys.getD i Str.empty)) l []).1,(gf (T4 kv X) r P (r (ys.getD i Str.empty)) (Ca s (ys.getD i Str.empty)) l []).2.1++[ys.getD i Str.empty]),(ys.getD i Str.empty,false,(gf (T4 kv X) r P (r (ys.getD i Str.empty)) (Ca s (ys.getD i Str.empty)) l []).2.2)):=if_neg hm
   rw[e,if_neg hm]
   have hle:paid+C (ys.getD i Str.empty)<=un C ys tk (i+1):=by
    have:=h.le;rw[hu];unfold tkA
    cases he:ear ys i with
    | none=>show _<=_+C _;omega
    | some b=>
     show _<=_+if tk.getD (gps ys i).length false then 0 else C _
     cases hb:tk.getD (gps ys i).length false with
     | false=>rw[if_neg (by decide)];omega
     | true=>exact absurd (h.st _ b he ((hS _).mpr ⟨_,_,J6i hi he,hb,rfl⟩)) hm
   by_cases hlt:l.length < P
   . have hg:gf (T4 kv X) r P (r (ys.getD i Str.empty)) (Ca s (ys.getD i Str.empty)) l []=(Ca s (ys.getD i Str.empty),l,[]):=J6l (T:=T4 kv X) hl1 hz1 (by omega)
     rw[hg];refine⟨⟨hk,hla,λz e he hs=>?_,h.pa.miss hi hm (by rw[Et hl1,hz1];omega),hle⟩,by rw[Fl];simp;omega,⟨rfl,(Fk hm).symm,λw=>absurd w hm,λ_ _=>⟨rfl,rfl⟩,λ_ w=>absurd hlt w⟩⟩;rw[U6]at he
     by_cases ez:ys.getD i Str.empty=z
     . rw[<- ez];exact Fv _ (Fj.mpr rfl)
     . rw[if_neg ez]at he;exact Hf _ (h.st z e he hs)
   . have hmid:(T4 kv X).mid ns P (ys.getD i Str.empty) (Ca s (ys.getD i Str.empty)) l:=LI.mid hI (hin _ hzy) hm
     obtain⟨hp,hg0⟩:=J0s (T:=T4 kv X) hmid hl1 hz1 (by omega) (by omega);have hg:gf (T4 kv X) r P (r (ys.getD i Str.empty)) (Ca s (ys.getD i Str.empty)) l []=(Ca s (ys.getD i Str.empty),l.erase (lmin (rk4 kv (Ca s (ys.getD i Str.empty))) l),[lmin (rk4 kv (Ca s (ys.getD i Str.empty))) l]):=hg0;rw[hg];have epk:((T4 kv X).pick P (Ca s (ys.getD i Str.empty)) l).2=lmin (rk4 kv (Ca s (ys.getD i Str.empty))) l:=rfl;rw[epk]at hp;have hne:l≠[]:=R0 hp;obtain⟨u,hul,hus⟩:=J28 hS ho hl hi (Fg _) h.la h.pa.nd h.pa.asked hm (by omega);have hlvo:∀y∈l,N21.lv (Ca s (ys.getD i Str.empty)) y=N21.lv s y:=λy hy=>O8 λey=>hm (by rw[<- ey];exact hy);have hmin:=(Nl (v:=rk4 kv (Ca s (ys.getD i Str.empty))) hne).2 u hul
     have hgo:stB kv (N21.lv s (lmin (rk4 kv (Ca s (ys.getD i Str.empty))) l))=false:=by
      unfold rk4 at hmin hp ⊢;rw[hlvo u hul,hus,hlvo _ hp]at hmin
      cases hx:stB kv (N21.lv s (lmin (λz=>if stB kv (N21.lv (Ca s (ys.getD i Str.empty)) z)=true then 1 else 0) l)) with
      | false=>rfl
      | true=>rw[hx]at hmin;simp at hmin
     show PR C r ys tk P kv (i+1) (Ca s (ys.getD i Str.empty)) (l.erase (lmin (rk4 kv (Ca s (ys.getD i Str.empty))) l)++[ys.getD i Str.empty]) _/\(l.erase (lmin (rk4 kv (Ca s (ys.getD i Str.empty))) l)++[ys.getD i Str.empty]).length<=P/\Ou P l (ys.getD i Str.empty) (ys.getD i Str.empty,false,[lmin (rk4 kv (Ca s (ys.getD i Str.empty))) l]) (l.erase (lmin (rk4 kv (Ca s (ys.getD i Str.empty))) l)++[ys.getD i Str.empty]);generalize lmin (rk4 kv (Ca s (ys.getD i Str.empty))) l=x at hp hgo;have hlen:=FT hp;have hpos:=FU hp;have hpa:=h.pa.cast (M:=l.erase x) (λy hy=>by rw[hl1 y hy];decide) RT;refine⟨⟨hk,hla,λz e he hs=>?_,hpa.miss hi (λw=>hm (FJ w)) (by rw[Et λy hy=>hl1 y (FJ hy),hz1];omega),hle⟩,by rw[Fl];simp;omega,⟨rfl,(Fk hm).symm,λw=>absurd w hm,λ_ w=>absurd w hlt,λ_ _=>⟨x,hp,rfl,rfl⟩⟩⟩
     rw[U6]at he
     by_cases ez:ys.getD i Str.empty=z
     . rw[<- ez];exact Fv _ (Fj.mpr rfl)
     . rw[if_neg ez]at he
       refine Hf _ ((List.Nodup.mem_erase_iff h.pa.nd).mpr ⟨λex=>?_,h.st z e he hs⟩);rw[<- ex,h.lv he,hs]at hgo;cases hgo
theorem J6m:PR C r ys tk P kv 0 s20 [] 0:=⟨rfl,λz=>rfl,(λz e he=>by cases he),N41.Ed.start (by omega),FZ _⟩
def Cq(C:Str->Int)(rs:List N14.Row):Int:=((rs.filter λx=>!x.2.1).map λx=>C x.1).sum
theorem Ij{rs:List N14.Row}{x:N14.Row}:Cq C (rs++[x])=Cq C rs+if x.2.1 then 0 else C x.1:=by
 unfold Cq;rw[Ru,Fo,HQ]
 cases h:x.2.1 with
 | true=>
  have:List.filter (λx:N14.Row=>!x.2.1) [x]=[]:=by rw[Hc,h];rfl
  rw[this];simp
 | false=>
  have:List.filter (λx:N14.Row=>!x.2.1) [x]=[x]:=by rw[Hc,h];rfl
  rw[this];simp
theorem Wf(hS:Sty C ys ys.length tk kv)(ho:∀t,t < ys.length->over (jps C ys ys.length) tk t < P)(hl:tk.length=(jps C ys ys.length).length)(hP:1<=P)(hr:∀y∈ys,r y=1)(hC:∀y∈ys,0<=C y)(hin:∀y∈ys,y∈ns):∀i,i<=ys.length->PR C r ys tk P kv i (gst (T4 kv X) r P s20 ys i).1 (gst (T4 kv X) r P s20 ys i).2 (Cq C (grows (T4 kv X) r P s20 ys i))/\(gst (T4 kv X) r P s20 ys i).2.length<=P:=by
 intro i
 induction i with
 | zero=>intro _;exact⟨J6m,FM _⟩
 | succ i ih=>
  intro hi;obtain⟨h1,h2⟩:=ih (by omega);have hz:=N41.C9 (ys:=ys) (k:=i) (by omega);have gi:=E4 (T:=T4 kv X) (R:=r) (n:=(P:Int)) (s0:=s20) (ns:=ns) N63.li0 hin (λy hy=>by rw[hr y hy];omega) i (by omega);have k:=Sr (X:=X) hS ho hl hP hr hC hin (by omega) h1 gi.i h2;have e1:gst (T4 kv X) r P s20 ys (i+1)=(gask (T4 kv X) r P (gst (T4 kv X) r P s20 ys i) (ys.getD i Str.empty)).1:=Ds hz;have e2:grows (T4 kv X) r P s20 ys (i+1)=grows (T4 kv X) r P s20 ys i++[(gask (T4 kv X) r P (gst (T4 kv X) r P s20 ys i) (ys.getD i Str.empty)).2]:=Xm hz;rw[e1,e2,Ij]
  have ep:(if (gask (T4 kv X) r P (gst (T4 kv X) r P s20 ys i) (ys.getD i Str.empty)).2.2.1 then (0:Int) else C (gask (T4 kv X) r P (gst (T4 kv X) r P s20 ys i) (ys.getD i Str.empty)).2.1)=if ys.getD i Str.empty∈(gst (T4 kv X) r P s20 ys i).2 then 0 else C (ys.getD i Str.empty):=by
   have e1:=k.2.2.n;have e2:=k.2.2.b;rw[e1,e2]
   by_cases hm:ys.getD i Str.empty∈(gst (T4 kv X) r P s20 ys i).2
   . rw[Fi hm,if_pos rfl,if_pos hm]
   . rw[Fk hm,if_neg (by decide),if_neg hm]
  rw[ep];exact⟨k.1,k.2.1⟩
theorem Ss{h:List Int}(F:FE (ys.length+1) (jps C ys ys.length) tk ((P:Int) - 1) h)(hS:Sty C ys ys.length tk kv)(hP:1<=P)(hr:∀y∈ys,r y=1)(hC:∀y∈ys,0<=C y)(hin:∀y∈ys,y∈ns):Cq C (grows (T4 kv X) r P s20 ys ys.length)=N41.fl C r (C6 (at' h) ys.length) 1 P ys ys.length:=by
 have ho:∀t,t < ys.length->over (jps C ys ys.length) tk t < P:=λt ht=>by have:=F.o t (by omega);omega
 obtain⟨a,_⟩:=Wf (X:=X) hS ho F.l hP hr hC hin ys.length (Fg _);have h1:=a.le;have h2:=(a.pa.all (C6 (at' h) ys.length) 1 (Np F) Nn).le;have h3:=J6k (r:=r) F λn hn=>hr _ (Ff (N41.C9 hn));rw[show (P:Int) - 1+1=P by omega]at h3;have h4:0<=N41.sm (N41.cr r (C6 (at' h) ys.length) ys ys.length) (gst (T4 kv X) r P s20 ys ys.length).2:=N41.J9l λy hy=>N41.J51 (by rw[hr y (N41.Nf (a.pa.asked y hy) (Fg _))];decide) (Np F);omega
end
end N43
namespace L2
section
variable {M:Model}{A:Around}{E:Value->Shared->Prop}{s:Shared}
theorem Wh{a b:Value}{Q:Value->Shared->Prop}(ha:s.TypeIs a "list")(hb:s.TypeIs b "list")(hc:wpAny M A (call (.builtin "list.__iadd__") [a,b]) Q E s):wpAny M A (inplaceOp .Add a b) Q E s:=by
 have hl:typeLookup (.type "list") (dunderI "add")=pure (some (.builtin "list.__iadd__")):=PySem.F.slot_list_iadd.lookup
 have hs:isSeqSlot (some (.builtin "list.__iadd__"))=true:=by decide+kernel
 unfold inplaceOp;refine Rh ?_
 have hfi:fillsInplaceSlot (.type "list") "add" (Operator.Add== .Add)=pure false:=by
  unfold fillsInplaceSlot;show (typeLookup (.type "list") (dunderI "add") >>=λfi=>pure (fi.isSome && !isSeqSlot fi))=pure false;rw[hl];show (pure (true && !isSeqSlot (some (.builtin "list.__iadd__"))):Sem Bool)=pure false;rw[hs];rfl
 refine Fu (wpAny_typeOf ha (Fu (wpAny_of_eq hfi ?_)));show wpAny M A (if false=true then _ else _) Q E s;rw[if_neg FF];refine Fu (binaryOp1_none (nm:="add") ha hb noFill_list_add ?_);refine Fu (wpAny_of_eq (PyProof.Rows.seqSlot_of hl hs) ?_);exact Fu (wpAny_rule hc)
end
def ipL:TIp:=λx y H Q=>∃l b xs zs,x= .ref l/\y= .ref b/\H l=some (.lst xs)/\H b=some (.lst zs)/\xs.length+zs.length<=sizeLine/\Q (.ref l) (upd H l (.lst (xs++zs)))
theorem J8i:PIp X .Add ipL:=by
 intro pins s σ H x y v u Q I rx ry h;obtain⟨l,b,xs,zs,rfl,rfl,hH,hB,hz,q⟩:=h;cases rx;cases ry;obtain⟨z,its,n,r,hl,e⟩:=I.lstM hH;obtain⟨z2,its2,n2,r2,hl2,e2⟩:=I.lstM hB
 have hsz:its.toArray.size+its2.toArray.size<=sizeLine:=by rw[Fn,Fn];omega
 have hlong:¬(!its.toArray.isEmpty && Builtin.List.listTooLong (its.toArray.size+its2.toArray.size))=true:=by
  rw[J30 hsz,Bool.and_false];exact FF
 refine Wh ⟨_,e,rfl⟩ ⟨_,e2,rfl⟩ (call_meets PySem.F.slot_list_iadd ⟨_,e,rfl⟩ PySem.F.entry_list_iadd (PySem.F.args_list_iadd_2 _ _)
  (AutoSeq1.list___iadd___list_list_0 l its.toArray n b its2.toArray n2 hlong (by rw[Fn];omega) (by omega)) ⟨e,e2,?_⟩)
 refine⟨.ref l,_,I.lset (its':=its++its2) hH e (by simp) (r.append r2) ?_,rfl,q⟩;rw[Fl];omega
theorem J6n{x y:V}{H:Hp}:ipL x y H Q=∃l b xs zs,x= .ref l/\y= .ref b/\H l=some (.lst xs)/\H b=some (.lst zs)/\xs.length+zs.length<=sizeLine/\Q (.ref l) (upd H l (.lst (xs++zs))):=rfl
end L2
namespace N29
open L2 N1 N5 N4 N6 N12 N32 N14 N20 N18 N25 NR N22 N21 N24 N23
inductive W5 where
 | ra | ol | fi | ha | fa
structure C5 where
 ra:Addr
 ol:Addr
 fi:Addr
 ha:Addr
 fa:Addr
structure L5 where
 k:Int
 la:List (Key×V)
 pu:List (Key×V)
 ta:List (Key×V)
 e:Int
end N29
namespace N36
open L2 N1 N5 N4 N6 N12 N32 N14 N20 N18 N25 NR N22 N21 N24 N23 N29
def pos(row:List Str)(z:Str):Nat:=if z∈row then row.idxOf z else row.length
inductive W3 where
 | ol | ha | fa
theorem J29{K:PySem.W.Frag}{tail:L2.St}{te:Blk->TE}{a:Addr}{xs:List V}(f:Nat->List V)(hS:SqL K H1 a xs)(hz:xs.length<=sizeLine)(he:∀b (i:Nat) x H Q',xs[i]?=some x->A7 H1 H->(∀t H',A7 H H'->H' t=some (.tup (f i))->Q' (.ref t) H')->te b (some (.int i)::some x::tail) H Q')
 (q:∀(D:Addr) (as:List Addr) (H':Hp),H1 D=none->A7 H1 H'->H' D=some (.lst (as.map V.ref))->as.length=xs.length->(∀(i:Nat) b,as[i]?=some b->H' b=some (.tup (f i)))->Q (.ref D) H'):Bi (none::none::tail) (g2 K) (λ_=>Do) te Q (Ite K a) H1:=by
 intro b D hD;refine⟨λi m ys H=>m=xs.length - i/\i<=xs.length/\H D=some (.lst ys)/\A7 H1 H/\∃as:List Addr,ys=as.map V.ref/\as.length=i/\∀(j:Nat) c,as[j]?=some c->H c=some (.tup (f j)),⟨_,rfl,FM _,A1,Bj hD,[],rfl,rfl,λj y e=>by simp at e⟩,?_⟩;rintro i m ys H ⟨rfl,hi,hd,sm,as,rfl,hl,hall⟩;refine⟨hd,?_⟩
 by_cases hlt:i < xs.length
 . refine .inr ⟨⟨xs,xs[i],sm.seq hS,by simp[hlt]⟩,?_⟩
   rintro y H3 ⟨t,x,rfl,hn,rfl,g1⟩;have hx:=g1 xs (sm.seq hS);have s3:A7 H (upd H t (.tup [.int i,x])):=A7.new hn;refine⟨t,_,rfl,SqT.of A1,rfl,_,_,rfl,_,_,rfl,rfl,Vs,?_⟩;change te b (some (.int i)::some x::tail) _ _;refine he b i x _ _ hx (sm.trans s3) λt8 H8 s8 ht8=>?_;have s38:=s3.trans s8;have hd8:=s38 _ _ hd;refine⟨hd8,by rw[Fa];omega,xs.length - (i+1),by omega,rfl,hlt,A1,Gv (sm.trans s38) hD,as++[t8],by rw[Fo];rfl,by rw[Fl,hl];rfl,λj c e=>?_⟩
   by_cases hj:j < as.length
   . rw[FD hj]at e
     have g:=s38 _ _ (hall j c e);rw[A2 (Bt g hd8 (by intro z;cases z))];exact g
   . rw[Fz (by omega)]at e
     have hj0:j=i:=by have:=(Fd.mp e).1;simp at this;omega
     subst hj0;rw[show j - as.length=0 by omega]at e;cases e;rw[A2 (Bt ht8 hd8 (by intro z;cases z))];exact ht8
 . have e:i=xs.length:=by omega
   subst e;exact .inl ⟨⟨xs,sm.seq hS,Fg _⟩,q D as H hD sm hd hl hall⟩
end N36
namespace L2
open N1
def Du(H:Hp)(as:List Addr)(ps:List (Int×Int)):Prop:=as.length=ps.length/\∀(i:Nat) (a:Addr) (p:Int×Int),as[i]?=some a->ps[i]?=some p->H a=some (.tup [.int p.1,.int p.2])
theorem Du.same{H:Hp}{ps:List (Int×Int)}(s:A7 H H')(h:Du H as ps):Du H' as ps:=⟨h.1,λi a p ha hp=>s _ _ (h.2 i a p ha hp)⟩
theorem Du.nil{H:Hp}:Du H [] []:=⟨rfl,λi a p h=>by simp at h⟩
theorem Du.off{H:Hp}{ps:List (Int×Int)}{l:Addr}{o:HO}(hl:H l=some (.lst xs))(h:Du H as ps):Du (upd H l o) as ps:=⟨h.1,λi a p ha hp=>by
 have e:=h.2 i a p ha hp
 rw[A2 λz=>by rw[z,hl]at e;cases e];exact e⟩
theorem Du.snoc{H:Hp}{ps:List (Int×Int)}{a:Addr}{p:Int×Int}(h:Du H as ps)(e:H a=some (.tup [.int p.1,.int p.2])):Du H (as++[a]) (ps++[p]):=by
 refine⟨by rw[Fl,Fl,h.1];rfl,λi b q hb hq=>?_⟩
 by_cases hi:i < as.length
 . rw[FD hi]at hb
   rw[FD (by rw[<- h.1];exact hi)]at hq;exact h.2 i b q hb hq
 . rw[Fz (by omega)]at hb
   rw[Fz (by rw[<- h.1];omega)]at hq
   have h0:i - as.length=0:=by have:=(Fd.mp hb).1;simp at this;omega
   rw[h0]at hb;rw[<- h.1,h0]at hq;cases hb;cases hq;exact e
section
variable {K:PySem.W.Frag}{H1:Hp}{tail:St}{tt:Blk->TT}{te:Blk->TE}{Q:VK}{a:Addr}
theorem Wi(p:Nat->Bool)(g:Nat->Int×Int)(hS:SqL K H1 a xs)(hz:xs.length<=sizeLine)
 (ht:∀b (i:Nat) x H QT,xs[i]?=some x->A7 H1 H->(∀H',A7 H H'->QT (p i) H')->tt b (some (.int i)::some x::tail) H QT)
 (he:∀b (i:Nat) x H Q',xs[i]?=some x->p i=true->A7 H1 H->(∀t H',A7 H H'->H' t=some (.tup [.int (g i).1,.int (g i).2])->Q' (.ref t) H')->te b (some (.int i)::some x::tail) H Q')
 (q:∀D as H',H1 D=none->A7 H1 H'->H' D=some (.lst (as.map V.ref))->Du H' as (((List.range xs.length).filter p).map g)->Q (.ref D) H'):Bi (none::none::tail) (g2 K) tt te Q (Ite K a) H1:=by
 intro b D hD;refine⟨λi m ys H=>m=xs.length - i/\i<=xs.length/\∃as:List Addr,ys=as.map V.ref/\H D=some (.lst ys)/\A7 H1 H/\Du H as (((List.range i).filter p).map g),⟨_,rfl,FM _,[],rfl,A1,Bj hD,Du.nil⟩,?_⟩;rintro i m ys H ⟨rfl,hi,as,rfl,hd,sm,hp⟩;refine⟨hd,?_⟩
 by_cases hlt:i < xs.length
 . refine .inr ⟨⟨xs,xs[i],sm.seq hS,by simp[hlt]⟩,?_⟩
   rintro y H3 ⟨t,x,rfl,hn,rfl,g1⟩;have hx:=g1 xs (sm.seq hS);have s3:A7 H (upd H t (.tup [.int i,x])):=A7.new hn
   have hl:as.length<=i:=by
    rw[hp.1,Fa];exact FO (R3 _ _) (by rw[Fw];omega)
   have htk:((List.range (i+1)).filter p).map g=((List.range i).filter p).map g++([i].filter p).map g:=by rw[Hj,Ru,Fo]
   refine⟨t,_,rfl,SqT.of A1,rfl,_,_,rfl,_,_,rfl,rfl,Vs,?_⟩;change tt b (some (.int i)::some x::tail) _ _;refine ht b i x _ _ hx (sm.trans s3) λH7 s7=>?_;have s37:=s3.trans s7
   by_cases hpi:p i=true
   . rw[if_pos hpi]
     refine he b i x H7 _ hx hpi (sm.trans s37) λt8 H8 s8 ht8=>?_;have s38:=s37.trans s8;have hd8:=s38 _ _ hd;refine⟨hd8,by rw[Fa];omega,xs.length - (i+1),by omega,rfl,hlt,as++[t8],by rw[Fo];rfl,A1,Gv (sm.trans s38) hD,?_⟩;rw[htk,R8 hpi,Rr];exact((hp.same s38).snoc ht8).off hd8
   . rw[if_neg hpi]
     refine⟨xs.length - (i+1),by omega,rfl,hlt,as,rfl,s37 _ _ hd,sm.trans s37,?_⟩;rw[htk,R9 hpi,Rr,List.map_nil,Hd];exact hp.same s37
 . have e:i=xs.length:=by omega
   subst e;exact .inl ⟨⟨xs,sm.seq hS,Fg _⟩,q D as H hD sm hd hp⟩
end
end L2
namespace N47
open L2 N1 N5 N4 N6 N32 N41
def RD:List Str->Str->Nat
 | [],_=>0
 | d::D,z=>if z=d then 1 else 2 * RD D z
def rmx:List Int->Nat->Int
 | [],_=>0
 | r::rs,S=>(if S % 2=1 then r else 0)+rmx rs (S / 2)
def Jdl(rs:List Int):List Int:=(List.range (2 ^ rs.length)).map (rmx rs)
def smD(f:Str->Int)(l:List Str):Int:=(l.map f).sum
def lxle(p q:Int×Int):Bool:=decide (p.1 < q.1\/p.1=q.1/\p.2<=q.2)
def J6o:List (Int×Int)->Option (Int×Int)
 | []=>none
 | p::r=>match J6o r with
  | none=>some p
  | some q=>if lxle p q then some p else some q
abbrev Ent:=Option (Int×Int)
def knP(es:List Ent):List (Int×Int):=((List.range es.length).filter λi=>(es.getD i none).isSome).map λi=>(((es.getD i none).getD (0,0)).1,(i:Int))
def svP(es:List Ent)(w c:Int):List (Int×Int):=(knP es).map λp=>(if Builtin.bitAnd p.2 w≠0 then p.1 else p.1+c,p.2)
def alP(s:Int)(q:Int×Int):Bool:=decide (Builtin.bitAnd q.2 s=s)
def bhE(es:List Ent)(rs:List Int)(n w c:Int):List Ent:=(List.range rs.length).map λ(h:Nat)=>if Builtin.bitAnd (h:Int) w≠0/\rs.getD h 0<=n then J6o ((svP es w c).filter (alP ((h:Int) - w))) else none
def tab(rs:List Int)(n:Int)(W C:Str->Int)(ys:List Str):Nat->List Ent
 | 0=>[some (0,0)]
 | i+1=>bhE (tab rs n W C ys i) rs n (W (ys.getD i Str.empty)) (C (ys.getD i Str.empty))
end N47
namespace L2
open N1
section
variable {X:Cx}{scope:Scope}{x y z v:Str}{px py pz pt pv':Pos}{n i:Nat}{fs:List Nat}{elt iter c:Expr}{pos spos:Pos}{wi:TI}{te:Blk->TE}
theorem J6p(x y z:Str)(fs:List Nat)(hN:X.N.Nodup)(hy:X.N[i]?=some v)(hyl:X.env.kindOf v=some .local)(hc:X.calm=true)(hok:Cg X.N X.env.scope scope [x,y,z] fs=true)(hi:PI X (.Tuple [.Name x px,.Name y py,.Name z pz] n pt) iter wi)(he:∀b,PE (X.blk scope ([x,y,z]++around X.N fs) b) elt (te b))
 (hsw:swapsWith (.ListComp elt [⟨.Tuple [.Name x px,.Name y py,.Name z pz] n pt,iter,[],0⟩] scope pos) (some (.Name v pv')) spos.line X.env=pure true:=by rfl)
 (hs:∀x,foldedSetIterable iter X.env x=pure x:=by intro _;rfl):PS X (.Assign [.Name v pv'] (.ListComp elt [⟨.Tuple [.Name x px,.Name y py,.Name z pz] n pt,iter,[],0⟩] scope pos) spos) (Sz (J5m X.K wi fs te) (By i)):=
 N0 (xs:=[x,y,z]) (g:=g3 X.K) (tt:=λ_=>Do) hN hy hyl hc hok hi (J86 hc hok) (λ_=>My) he hsw hs
end
end L2
namespace N46
open L2 N1 N5 N4 N6 N32 N41 N47
def tb(D ys:List Str)(Rm C:Str->Int)(n:Int):Nat->List Ent:=tab (Jdl (D.map Rm)) n (λz=>(RD D z:Int)) C ys
def hc(f:Nat->List Ent)(n h:Nat):Nat->Nat
 | 0=>h
 | j+1=>match (f (n - j))[hc f n h j]? with
  | some (some p)=>p.2.toNat
  | _=>0
def hi(f:Nat->List Ent)(n h i:Nat):Nat:=hc f n h (n - i)
def Jd2(w s:Int)(k:Nat):Prop:=Builtin.bitAnd (Builtin.bitOr (k:Int) w) s=s
instance {w s:Int}{k:Nat}:Decidable (Jd2 w s k):=by unfold Jd2;exact inferInstance
def TB(ts:List Th)(ys:List Str)(n:Int):Nat->List Ent:=tb (dis ys) ys (rm ts) (cst ts) n
def HI(ts:List Th)(ys:List Str)(n:Int)(pp:Int×Int)(i:Nat):Nat:=hi (TB ts ys n) ys.length pp.2.toNat i
end N46
namespace L2
theorem Su{H8:Hp}{f:Nat->List V}{i:Nat}{t8 D:Addr}{l l':List V}(hl:as.length=i)(hall:∀(j:Nat) c,as[j]?=some c->H1 c=some (.tup (f j)))(s:A7 H1 H8)(hd:H8 D=some (.lst l))(ht:H8 t8=some (.tup (f i))):∀(j:Nat) c,(as++[t8])[j]?=some c->upd H8 D (.lst l') c=some (.tup (f j)):=λj c e=>by
 by_cases hj:j < as.length
 . rw[FD hj]at e
   have g:=s _ _ (hall j c e);rw[A2 (Bt g hd (by intro z;cases z))];exact g
 . rw[Fz (by omega)]at e
   have hj0:j=i:=by have:=(Fd.mp e).1;simp at this;omega
   subst hj0;rw[show j - as.length=0 by omega]at e;cases e;rw[A2 (Bt ht hd (by intro z;cases z))];exact ht
section
variable {K:PySem.W.Frag}{H1:Hp}{tail:St}{te:Blk->TE}{Q:VK}{a:Addr}
theorem J2a(x1 x2:Nat->V)(f:Nat->List V)(hS:SqL K H1 a (as.map V.ref))(hz:as.length<=sizeLine)(hT:∀(i:Nat) c,as[i]?=some c->H1 c=some (.tup [x1 i,x2 i]))
 (he:∀b (i:Nat) H Q',i < as.length->A7 H1 H->(∀t H',A7 H H'->H' t=some (.tup (f i))->Q' (.ref t) H')->te b (some (x1 i)::some (x2 i)::tail) H Q')
 (q:∀(D:Addr) (bs:List Addr) (H':Hp),H1 D=none->A7 H1 H'->H' D=some (.lst (bs.map V.ref))->bs.length=as.length->(∀(i:Nat) b,bs[i]?=some b->H' b=some (.tup (f i)))->Q (.ref D) H'):Bi (none::none::tail) (g2 K) (λ_=>Do) te Q (Itl K a) H1:=by
 intro b D hD;refine⟨λi m ys H=>m=as.length - i/\i<=as.length/\H D=some (.lst ys)/\A7 H1 H/\∃bs:List Addr,ys=bs.map V.ref/\bs.length=i/\∀(j:Nat) c,bs[j]?=some c->H c=some (.tup (f j)),⟨_,rfl,FM _,A1,Bj hD,[],rfl,rfl,λj y e=>by simp at e⟩,?_⟩;rintro i m ys H ⟨rfl,hi,hd,sm,bs,rfl,hl,hall⟩;refine⟨hd,?_⟩
 by_cases hlt:i < as.length
 . refine .inr ⟨⟨_,V.ref as[i],sm.seq hS,by simp[hlt]⟩,λx H3 ⟨e3,ex⟩=>?_⟩
   subst e3;have hx:=ex _ (sm.seq hS)
   have hx':V.ref as[i]=x:=by simpa [hlt] using hx
   subst hx';refine⟨as[i],_,rfl,SqT.of (sm _ _ (hT i _ (by simp[hlt]))),rfl,_,_,rfl,_,_,rfl,rfl,Vs,?_⟩;show Do _ _ _;unfold Do;dsimp only;rw[if_pos rfl];refine he b i _ _ hlt sm λt8 H8 s8 ht8=>?_;have hd8:=s8 _ _ hd;exact⟨hd8,by rw[Fa];omega,as.length - (i+1),by omega,rfl,hlt,A1,Gv (sm.trans s8) hD,bs++[t8],by rw[Fo];rfl,by rw[Fl,hl];rfl,Su hl hall s8 hd8 ht8⟩
 . have e:i=as.length:=by omega
   subst e;exact .inl ⟨⟨_,sm.seq hS,by simp⟩,q D bs H hD sm hd hl hall⟩
theorem J6q{c:Addr}{zs:List V}(f:Nat->List V)(hlen:zs.length<=xs.length)(hA:SqL K H1 a xs)(hC:SqL K H1 c zs)(hz:zs.length<=sizeLine)
 (he:∀b (i:Nat) x z H Q',xs[i]?=some x->zs[i]?=some z->A7 H1 H->(∀t H',A7 H H'->H' t=some (.tup (f i))->Q' (.ref t) H')->te b (some x::some z::tail) H Q')
 (q:∀(D:Addr) (bs:List Addr) (H':Hp),H1 D=none->A7 H1 H'->H' D=some (.lst (bs.map V.ref))->bs.length=zs.length->(∀(i:Nat) b,bs[i]?=some b->H' b=some (.tup (f i)))->Q (.ref D) H'):Bi (none::none::tail) (g2 K) (λ_=>Do) te Q (Itz K a c) H1:=by
 intro b D hD;refine⟨λi m ys H=>m=zs.length - i/\i<=zs.length/\H D=some (.lst ys)/\A7 H1 H/\∃bs:List Addr,ys=bs.map V.ref/\bs.length=i/\∀(j:Nat) c,bs[j]?=some c->H c=some (.tup (f j)),⟨_,rfl,FM _,A1,Bj hD,[],rfl,rfl,λj y e=>by simp at e⟩,?_⟩;rintro i m ys H ⟨rfl,hi,hd,sm,bs,rfl,hl,hall⟩;refine⟨hd,?_⟩
 by_cases hlt:i < zs.length
 . have hx:xs[i]?=some (xs[i]'(by omega)):=Fb (by omega)
   have hy:zs[i]?=some zs[i]:=Fb hlt;refine .inr ⟨⟨xs,zs,_,_,sm.seq hA,sm.seq hC,hx,hy⟩,?_⟩;rintro v H3 ⟨t,x',z',rfl,hn,rfl,g1,g2'⟩;have e1:=(g1 xs (sm.seq hA)).symm.trans hx;have e2:=(g2' zs (sm.seq hC)).symm.trans hy;cases e1;cases e2;have s3:A7 H (upd H t (.tup [xs[i]'(by omega),zs[i]])):=A7.new hn;refine⟨t,_,rfl,SqT.of A1,rfl,_,_,rfl,_,_,rfl,rfl,Vs,?_⟩;show Do _ _ _;unfold Do;dsimp only;rw[if_pos rfl];refine he b i _ _ _ _ hx hy (sm.trans s3) λt8 H8 s8 ht8=>?_;have s38:=s3.trans s8;have hd8:=s38 _ _ hd;exact⟨hd8,by rw[Fa];omega,zs.length - (i+1),by omega,rfl,hlt,A1,Gv (sm.trans s38) hD,bs++[t8],by rw[Fo];rfl,by rw[Fl,hl];rfl,Su hl hall s38 hd8 ht8⟩
 . have e:i=zs.length:=by omega
   subst e;exact .inl ⟨⟨_,_,sm.seq hA,sm.seq hC,.inr (Fg _)⟩,q D bs H hD sm hd hl hall⟩
end
end L2
namespace NF
open L2 N1 N14
inductive ClR(ms:List Mv):List Int×List Wy->List Int×List Wy->Prop
 | z {s:List Int×List Wy}:(Cv ms (s,false)).2=false->ClR ms s (Cv ms (s,false)).1
 | s {s e:List Int×List Wy}:(Cv ms (s,false)).2=true->ClR ms (Cv ms (s,false)).1 e->ClR ms s e
inductive FlR(n:Nat)(js:List Jp)(most:Int):List Bool->Nat->List Bool->List Int->Prop
 | z {tk:List Bool}{s:Nat}{h:List Int}{w:List Wy}:ClR (mvs n js tk s) (h0 n,w0 n) (h,w)->¬((s:Int) < most/\0 < at' h (n - 1))->FlR n js most tk s tk h
 | s {tk tk':List Bool}{s d:Nat}{h h':List Int}{w:List Wy}:ClR (mvs n js tk s) (h0 n,w0 n) (h,w)->((s:Int) < most/\0 < at' h (n - 1))->Rch w (n - 1) d->FlR n js most (flips tk (usd w d (n - 1))) (s+1) tk' h'->FlR n js most tk s tk' h'
def oV:Option Nat->V
 | none=> .non
 | some k=> .int k
def jpV(j:Jp):List V:=[.int j.1,.int j.2.1,.int j.2.2]
def mvV(m:Mv):List V:=[.int m.u,.int m.v,.int m.g,oV m.k]
def wyV(y:Wy):List V:=[.int y.1,oV y.2]
def B7{α:Type}(f:α->List V)(H:Hp)(as:List Addr)(xs:List α):Prop:=as.length=xs.length/\∀(k:Nat) (t:Addr) (x:α),as[k]?=some t->xs[k]?=some x->H t=some (.tup (f x))
section
variable {α:Type}{f:α->List V}{H H':Hp}{as bs:List Addr}{xs zs:List α}
theorem B7.nil:B7 f H [] []:=⟨rfl,λk t x h=>by simp at h⟩
theorem B7.same(s:A7 H H')(h:B7 f H as xs):B7 f H' as xs:=⟨h.1,λk t x a b=>s _ _ (h.2 k t x a b)⟩
theorem B7.kp(s:Kp M H H')(hM:∀m∈M,∀l,H m≠some (.tup l))(h:B7 f H as xs):B7 f H' as xs:=⟨h.1,λk t x a b=>s _ _ (λhm=>hM t hm _ (h.2 k t x a b)) (h.2 k t x a b)⟩
theorem B7.lst{l:Addr}{ls:List V}{o:HO}(hl:H l=some (.lst ls))(h:B7 f H as xs):B7 f (upd H l o) as xs:=⟨h.1,λk t x a b=>by
 rw[A2 λe=>by have:=h.2 k t x a b;rw[e,hl]at this;cases this];exact h.2 k t x a b⟩
theorem B7.app(h:B7 f H as xs)(g:B7 f H bs zs):B7 f H (as++bs) (xs++zs):=by
 refine⟨by rw[Fl,Fl,h.1,g.1],λk t x a b=>?_⟩
 by_cases hk:k < as.length
 . rw[FD hk]at a
   rw[FD (by rw[<- h.1];exact hk)]at b;exact h.2 k t x a b
 . rw[Fz (by omega)]at a
   rw[Fz (by rw[<- h.1];omega),<- h.1]at b;exact g.2 _ t x a b
theorem B7.one{t:Addr}{x:α}(h:H t=some (.tup (f x))):B7 f H [t] [x]:=⟨rfl,λk t' x' a b=>by
 match k,a,b with
 | 0,a,b=>cases a;cases b;exact h
 | k+1,a,_=>simp at a⟩
theorem B7.push{p t:Addr}{l0 l1:List V}{tv:List V}{x:α}(h:B7 f H as xs)(hp:H p=some (.lst l0))(ht:H t=none)(e:tv=f x):B7 f (upd (upd H t (.tup tv)) p (.lst l1)) (as++[t]) (xs++[x]):=by
 have s:A7 H (upd H t (.tup tv)):=λb o e=>by rw[A2 λz=>by rw[z,ht]at e;cases e];exact e
 exact B7.lst (s _ _ hp) ((h.same s).app (.one (by rw[A1,e])))
theorem B7.set{t:Addr}{x:α}{k:Nat}(h:B7 f H as xs)(ht:H t=some (.tup (f x))):B7 f H (as.set k t) (xs.set k x):=by
 refine⟨by rw[J8,J8];exact h.1,λi t' x' a b=>?_⟩;rw[Ri]at a b
 by_cases e:k=i
 . rw[if_pos e]at a b
   split at a
   . split at b
     . cases a;cases b;exact ht
     . cases b
   . cases a
 . rw[if_neg e]at a b
   exact h.2 i t' x' a b
theorem B7.get(h:B7 f H as xs){k:Nat}{x:α}(b:xs[k]?=some x):∃t,as[k]?=some t/\H t=some (.tup (f x)):=by
 have hk:k < as.length:=by rw[h.1];exact(Fd.mp b).1
 exact⟨_,Fb hk,h.2 k _ x (Fb hk) b⟩
end
def Wj(H:Hp)(a:Addr)(as:List Addr)(js:List Jp):Prop:=H a=some (.lst (as.map V.ref))/\B7 jpV H as js
theorem Wj.same{H:Hp}{a:Addr}(s:A7 H H')(h:Wj H a as js):Wj H' a as js:=⟨s _ _ h.1,h.2.same s⟩
def clF(hs ws:Addr):List (Str×V):=Aa "ways" (.ref ws) (Aa "heights" (.ref hs) [])
structure Oc(C:Addr)(H:Hp)(q hs ws:Addr)(as:List Addr)(h:List Int)(w:List Wy):Prop where
 o:∃dx,H q=some (.ins C dx (clF hs ws))
 hh:H hs=some (.lst (h.map V.int))
 ww:H ws=some (.lst (as.map V.ref))
 t:B7 wyV H as w
 n:hs≠ws
theorem Oc.same{C:Addr}{H:Hp}{q hs ws:Addr}{h:List Int}{w:List Wy}(s:A7 H H')(c:Oc C H q hs ws as h w):Oc C H' q hs ws as h w:=⟨c.o.imp λ_ e=>s _ _ e,s _ _ c.hh,s _ _ c.ww,c.t.same s,c.n⟩
theorem Od:∀{l:List (Option Nat)},((l.map oV).filter λx=>!decide (x=V.non)).map id=(l.filterMap id).map λ(k:Nat)=>V.int (k:Int)
 | []=>rfl
 | none::l=>by
  rw[List.map_cons,Hc,show oV none=V.non from rfl,if_neg (by simp),Od];rfl
 | some k::l=>by
  rw[List.map_cons,Hc,show oV (some k)=V.int k from rfl,if_pos (by simp),List.map_cons,Od];rfl
theorem J6r{h:List Int}(hl:1<=h.length):atI (h.map V.int) (-1)=some (V.int (at' h (h.length - 1))):=by
 rcases List.eq_nil_or_concat h with rfl | ⟨l,x,rfl⟩
 . simp at hl
 . rw[RE,Fo]
   show atI (l.map V.int++[V.int x]) (-1)=_;rw[N41.J7u];unfold at';rw[Fl,FV,Fc,Fz (by omega),show l.length+1 - 1 - l.length=0 by omega];rfl
theorem J6s:(List.range js.length).map (λi=>V.bl (decide ((js.getD i (0,0,0)).1=(js.getD i (0,0,0)).2.1)))=(tk0 js).map V.bl:=by
 unfold tk0;rw[FP];refine J0 λi=>?_;rw[Fe,Fe]
 by_cases hi:i < js.length
 . rw[FS hi,Fb hi]
   show some (V.bl (decide ((js.getD i (0,0,0)).1=(js.getD i (0,0,0)).2.1)))=_;rw[Fc,Fb hi];rfl
 . rw[Hg (by rw[Fw];omega),Hg (by omega)];rfl
theorem J6t{tk:List Bool}{k:Nat}:(tk.map V.bl).set k (V.bl (!tk.getD k false))=(flip tk k).map V.bl:=by
 unfold flip;rw[List.map_set]
theorem Xr{tk:List Bool}{ks:List Nat}{i k:Nat}(h:ks[i]?=some k):flips tk (ks.take (i+1))=flip (flips tk (ks.take i)) k:=by
 unfold flips;rw[Ha,h,RZ];rfl
theorem J8j{w:List Wy}{n:Nat}(hu:∀v,0 < v->v < n->prd w v < n):∀{v d:Nat},Rch w v d->v < n->∃l:List Nat,l.length=d+1/\l.Nodup/\(∀x∈l,x < n)/\∀x∈l,∃d',d'<=d/\Rch w x d':=by
 intro v d r
 induction r with
 | z=>intro h;exact⟨[0],rfl,by simp,λx hx=>by rw[Fj.mp hx];exact h,λx hx=>⟨0,Fg _,by rw[Fj.mp hx];exact .z⟩⟩
 | @s v d p r ih=>
  intro h;obtain⟨l,h1,h2,h3,h4⟩:=ih (hu v p h);refine⟨v::l,by rw[List.length_cons,h1],Hm.mpr ⟨λhm=>?_,h2⟩,λx hx=>?_,λx hx=>?_⟩
  . obtain⟨d',hd,r'⟩:=h4 v hm
    have:=(Rch.s p r).inj r';omega
  . rcases Ft.mp hx with e | e
    . rw[e];exact h
    . exact h3 x e
  . rcases Ft.mp hx with e | e
    . rw[e];exact⟨d+1,Fg _,.s p r⟩
    . obtain⟨d',hd,r'⟩:=h4 x e
      exact⟨d',by omega,r'⟩
theorem Jbg{w:List Wy}{n v d:Nat}(hu:∀v,0 < v->v < n->prd w v < n)(r:Rch w v d)(h:v < n):d < n:=by
 obtain⟨l,h1,h2,h3,_⟩:=J8j hu r h;have:=RG (l₂:=List.range n) h2 λx hx=>He.mpr (h3 x hx);rw[Fw]at this;omega
theorem Xs{ms:List Mv}{s:(List Int×List Wy)×Bool}{i:Nat}{m:Mv}(h:ms[i]?=some m):Cv (ms.take (i+1)) s=rise1 m (Cv (ms.take i) s):=by
 unfold Cv;rw[Ha,h,RZ];rfl
theorem Qf{t:Nat}:∀{js:List Jp}{tk:List Bool},tk.length=js.length->((List.range js.length).filter λi=>tk.getD i false && cov (js.getD i (0,0,0)) t).length=over js tk t
 | [],tk,_=>by cases tk <;> rfl
 | j::js,[],h=>by cases h
 | j::js,b::tk,h=>by
  have ih:=Qf (t:=t) (js:=js) (tk:=tk) (by simpa using h);rw[List.length_cons,RB,Hc,RK,show over (j::js) (b::tk) t=(if b && cov j t then 1 else 0)+over js tk t from rfl,<- ih];have e:(List.filter ((λi=>(b::tk).getD i false && cov ((j::js).getD i (0,0,0)) t)∘Nat.succ) (List.range js.length))=(List.filter (λi=>tk.getD i false && cov (js.getD i (0,0,0)) t) (List.range js.length)):=rfl;rw[e];show (if (b && cov j t)=true then _ else _:List Nat).length=_;split
  . rw[List.length_cons,Fa];omega
  . rw[Fa];omega
def Eh:Sp:=λvs H Q _=>∃(t:Nat) (a b:Addr) (s:Int) (as:List Addr) (js:List Jp) (tk:List Bool),vs=[.int t,.ref a,.ref b,.int s]/\Wj H a as js/\H b=some (.lst (tk.map V.bl))/\tk.length=js.length/\js.length<=200/\∀H',A7 H H'->Q (.int (s - over js tk t)) H'
def K7:Sp:=λvs H Q _=>∃(n:Nat) (a b:Addr) (s:Nat) (as:List Addr) (js:List Jp) (tk:List Bool),vs=[.int n,.ref a,.ref b,.int s]/\Wj H a as js/\H b=some (.lst (tk.map V.bl))/\tk.length=js.length/\js.length<=200/\1<=n/\n<=200/\
 ∀(p:Addr) (ms:List Addr) (H':Hp),H p=none->A7 H H'->H' p=some (.lst (ms.map V.ref))->B7 mvV H' ms (Kt js tk s (n - 1))->ms.length<=400->Q (.ref p) H'
def Lx:Sp:=λvs H Q _=>∃(t:Addr) (b:Bool) (k:Nat) (j:Jp),vs=[.ref t,.bl b,.int k]/\H t=some (.tup (jpV j))/\∀(t':Addr) (H':Hp),A7 H H'->H' t'=some (.tup (mvV (D1 j b k)))->Q (.ref t') H'
def K8(C:Addr):Sp:=λvs H Q _=>∃(q dx:Addr) (n:Nat),vs=[.ref q,.int n]/\H q=some (.ins C dx [])/\n<=200/\∀(hs ws:Addr) (as:List Addr) (H':Hp),SameBut q H H'->H hs=none->H ws=none->Oc C H' q hs ws as (h0 n) (w0 n)->Q .non H'
def K9(C:Addr):Sp:=λvs H Q _=>∃(q m hs ws:Addr) (as mas:List Addr) (n:Nat) (ms:List Mv) (pi:Nat->Int) (h:List Int) (w:List Wy),vs=[.ref q,.ref m]/\Oc C H q hs ws as h w/\H m=some (.lst (mas.map V.ref))/\B7 mvV H mas ms/\m≠hs/\m≠ws/\Pot n ms pi/\CI n ms pi h w/\n<=200/\ms.length<=1000/\
 ∀(as':List Addr) (H':Hp),Kp [hs,ws] H H'->Oc C H' q hs ws as' (Cv ms ((h,w),false)).1.1 (Cv ms ((h,w),false)).1.2->Q (.bl (Cv ms ((h,w),false)).2) H'
def Lz(C:Addr):Sp:=λvs H Q _=>∃(q hs ws:Addr) (as:List Addr) (n d:Nat) (h:List Int) (w:List Wy),vs=[.ref q]/\Oc C H q hs ws as h w/\w.length=n/\1<=n/\n<=200/\(∀v,0 < v->v < n->∃u:Nat,u < n/\(w.getD v (0,none)).1=u)/\Rch w (n - 1) d/\d<=400/\
 ∀(p:Addr) (H':Hp),H p=none->A7 H H'->H' p=some (.lst ((usd w d (n - 1)).map λ(k:Nat)=>V.int (k:Int)))->Q (.ref p) H'
def Ka(C:Addr):Sp:=λvs H Q _=>∃(n:Nat) (a b:Addr) (s:Nat) (as:List Addr) (js:List Jp) (tk:List Bool) (pi:Nat->Int),vs=[.int n,.ref a,.ref b,.int s]/\Wj H a as js/\H b=some (.lst (tk.map V.bl))/\FI n js tk s pi/\JOk n js/\js.length<=200/\1<=n/\n<=200/\
 ∀(q hs ws:Addr) (ws':List Addr) (h:List Int) (w:List Wy) (H':Hp),A7 H H'->H hs=none->Oc C H' q hs ws ws' h w->ClR (mvs n js tk s) (h0 n,w0 n) (h,w)->CI n (mvs n js tk s) pi h w->Xd (mvs n js tk s) h->Q (.ref q) H'
def M3:Sp:=λvs H Q _=>∃(n:Nat) (a:Addr) (most:Int) (as:List Addr) (js:List Jp),vs=[.int n,.ref a,.int most]/\Wj H a as js/\JOk n js/\js.length<=200/\1<=n/\n<=200/\0<=most/\
 ∀(t b hs:Addr) (tk:List Bool) (h:List Int) (H':Hp),A7 H H'->H b=none->H hs=none->H' t=some (.tup [.ref b,.ref hs])->H' b=some (.lst (tk.map V.bl))->H' hs=some (.lst (h.map V.int))->FlR n js most (tk0 js) 0 tk h->FE n js tk most h->(∀v,v < n->at' h v<=pi0 js v)->Q (.ref t) H'
end NF
namespace N43
open L2 N1 N5 N4 N6 N12 N32 N14 N20 N18 N25 NR N22 N21 NF
def Kb(X:Addr):Sp:=λvs H Q E=>∃kv:List (Key×V),Br (T4 kv X) vs H Q E
def G8(X:Addr)(K:PySem.W.Frag):Sp:=λvs H Q E=>∃kv:List (Key×V),kv.length<=1000/\Bh (T4 kv X) K vs H Q E
def M4(X:Addr):Sp:=λvs H Q E=>∃kv:List (Key×V),C0 (T4 kv X) vs H Q E
def M5(X:Addr):Sp:=λvs H Q E=>∃kv:List (Key×V),C1 (T4 kv X) vs H Q E
def Kc(X:Addr):Sp:=λvs H Q _=>∃(q dx p sd:Addr) (n:Int) (kv:List (Key×V)),vs=[.ref q,.ref p,.int n,.ref sd]/\H q=some (.ins X dx [])/\1<=n/\n<=1000000/\H sd=some (.dK kv)/\∀H' la,SameBut q H H'->H la=none->PAt kv X H' [q,la,sd] q p n s20->Q .non H'
def G9(X:Addr):Sp:=λvs H Q _=>∃(q p:Addr) (n:Int) (M:List Addr) (s:S2) (z:Str) (kv:List (Key×V)),vs=[.ref q,.str z]/\PAt kv X H M q p n s/\s.la.length<=1000/\∀H',Kp M H H'->PAt kv X H' M q p n (Ca s z)->Q .non H'
def M6(X:Addr):Sp:=λvs H Q _=>∃(q p:Addr) (n:Int) (M:List Addr) (s:S2) (z:Str) (i:Int) (kv:List (Key×V)),vs=[.ref q,.str z]/\PAt kv X H M q p n s/\Aw s.la (Sum.inr z)=some (.int i)/\Q (.int i) H
def Ik(X:Addr):Sp:=λvs H Q _=>∃(q p:Addr) (n:Int) (M:List Addr) (s:S2) (z:Str) (i:Int) (kv:List (Key×V)),vs=[.ref q,.str z]/\PAt kv X H M q p n s/\Aw s.la (Sum.inr z)=some (.int i)/\∀t,H t=none->Q (.ref t) (upd H t (.tup [.int (if stB kv i then 1 else 0)]))
section
variable {p la sd:Addr}{n k k':Int}
theorem U2:(rf4 p n k la sd).length=5:=by rfl
theorem Dj:(rf4 p n k la sd).lookup ("present":Str)=some (V.int k):=by rfl
theorem L0:(rf4 p n k la sd).lookup ("last":Str)=some (V.ref la):=by rfl
theorem J2b:(rf4 p n k la sd).lookup ("stays":Str)=some (V.ref sd):=by rfl
end
def gpV(g:Nat×Nat):List V:=[.int g.1,.int g.2]
theorem Qg:∀{n:Nat},(((List.range n).filter λi=>(ear ys i).isSome).map λi=>((((ear ys i).getD 0:Nat):Int),(i:Int)))=(gps ys n).map λg=>((g.1:Int),(g.2:Int))
 | 0=>rfl
 | n+1=>by
  rw[Hj,Ru,Fo,Qg]
  cases h:ear ys n with
  | none=>
   rw[L4 h,Hc,h];show _++[]=_;rw[Hd]
  | some e=>
   rw[Ii h,Hc,h,Fo];show _++List.map _ [n]=_;rw[List.map_cons,h];rfl
theorem Pb{ys:List Str}:∀{n:Nat},(gps ys n).length<=n
 | 0=>Fg _
 | n+1=>by
  cases h:ear ys n with
  | none=>rw[L4 h];have:=Pb (ys:=ys) (n:=n);omega
  | some e=>rw[Ii h,Fl,FV];have:=Pb (ys:=ys) (n:=n);omega
def stk(gs:List (Nat×Nat))(tk:List Bool):Nat->List (Key×V)
 | 0=>[]
 | i+1=>if tk.getD i false then Ct (stk gs tk i) (Sum.inl (((gs.getD i (0,0)).1:Int)+1)) (.bl true) else stk gs tk i
theorem U7{gs:List (Nat×Nat)}{tk:List Bool}:∀{i:Nat},(stk gs tk i).length<=i
 | 0=>Fg _
 | i+1=>by
  show (if _ then _ else _:List (Key×V)).length<=_;have:=U7 (gs:=gs) (tk:=tk) (i:=i);split
  . have:=Bf (stk gs tk i) (Sum.inl (((gs.getD i (0,0)).1:Int)+1):Key) (V.bl true)
    omega
  . omega
theorem J0t{gs:List (Nat×Nat)}{tk:List Bool}{x:Int}:∀{i:Nat},stB (stk gs tk i) x=true↔∃k,k < i/\tk.getD k false=true/\x=((gs.getD k (0,0)).1:Int)+1
 | 0=>⟨(λh=>by cases h),(λ⟨k,h,_⟩=>by omega)⟩
 | i+1=>by
  have ih:=J0t (gs:=gs) (tk:=tk) (x:=x) (i:=i)
  have e:stk gs tk (i+1)=if tk.getD i false then Ct (stk gs tk i) (Sum.inl (((gs.getD i (0,0)).1:Int)+1)) (.bl true) else stk gs tk i:=rfl
  cases hb:tk.getD i false with
  | false=>
   rw[e,hb,if_neg (by decide),ih];constructor
   . rintro⟨k,h1,h2,h3⟩;exact⟨k,by omega,h2,h3⟩
   . rintro⟨k,h1,h2,h3⟩
     by_cases ek:k=i
     . rw[ek,hb]at h2;cases h2
     . exact⟨k,by omega,h2,h3⟩
  | true=>
   rw[e,hb,if_pos rfl];unfold stB at ih ⊢;rw[D9]
   by_cases ex:x=((gs.getD i (0,0)).1:Int)+1
   . rw[if_pos (by rw[ex])]
     exact⟨λ_=>⟨i,by omega,hb,ex⟩,λ_=>rfl⟩
   . rw[if_neg (λz=>ex (Sum.inl.inj z)),ih]
     constructor
     . rintro⟨k,h1,h2,h3⟩;exact⟨k,by omega,h2,h3⟩
     . rintro⟨k,h1,h2,h3⟩
       by_cases ek:k=i
       . rw[ek]at h3;exact absurd h3 ex
       . exact⟨k,by omega,h2,h3⟩
theorem Pc{C:Str->Int}{ys:List Str}{N:Nat}{tk:List Bool}:Sty C ys N tk (stk (gps ys N) tk (gps ys N).length):=λi=>by
 rw[J0t];constructor
 . rintro⟨k,h1,h2,h3⟩
   have hg:(gps ys N)[k]?=some ((gps ys N).getD k (0,0)):=by rw[Fc,Fb h1];rfl
   exact⟨k,_,hg,h2,h3⟩
 . rintro⟨k,g,h1,h2,h3⟩
   have hk:=(Fd.mp h1).1;exact⟨k,hk,h2,by rw[Fc,h1];exact h3⟩
theorem Jd3{Z:List Int}:Oo (Z.map V.int) (some 1) none=(Z.drop 1).map V.int:=by
 unfold Oo;rw[Fa,show (1:Int)=((1:Nat):Int) from rfl,HT.Mp,<- List.map_drop,<- J1];congr 1;rcases Nat.le_total 1 Z.length with e | e
 . rw[Hi e,Ho (by rw[Hq];exact Fg _)]
 . rw[R7 e,List.drop_of_length_le (Fg _),List.drop_of_length_le e];simp
def Kd(K:PySem.W.Frag)(C:Addr):Sp:=λvs H Q _=>∃(p a:Addr) (ts:List Th) (ys:List Str),vs=[.ref p,.ref a]/\Av K C H p ts/\(ts.map (·.1)).Nodup/\SqL K H a (ys.map V.str)/\(∀y∈ys,y∈ts.map (·.1))/\(∀y∈ys,rm ts y=1)/\Q .non H
def M7(K:PySem.W.Frag):Sp:=λvs H Q _=>∃(a:Addr) (ys:List Str),vs=[.ref a]/\SqL K H a (ys.map V.str)/\ys.length<=200/\∀(p:Addr) (as:List Addr) (H':Hp),H p=none->A7 H H'->H' p=some (.lst (as.map V.ref))->B7 gpV H' as (gps ys ys.length)->Q (.ref p) H'
def Ke:Sp:=λvs H Q _=>∃(p b:Addr) (as:List Addr) (gs:List (Nat×Nat)) (tk:List Bool),vs=[.ref p,.ref b]/\H p=some (.lst (as.map V.ref))/\B7 gpV H as gs/\H b=some (.lst (tk.map V.bl))/\tk.length=gs.length/\gs.length<=200/\∀(d:Addr) (H':Hp),H d=none->A7 H H'->H' d=some (.dK (stk gs tk gs.length))->Q (.ref d) H'
def prV(q:Nat->Int)(i:Nat):List V:=[.int (q (i+1) - q i),.int 1]
def Ga:Sp:=λvs H Q _=>∃(a:Addr) (h:List Int) (n:Nat),vs=[.ref a]/\H a=some (.lst (h.map V.int))/\h.length=n+1/\n<=200/\∀(p:Addr) (as:List Addr) (H':Hp),H p=none->A7 H H'->H' p=some (.lst (as.map V.ref))->as.length=n->(∀(i:Nat) t,as[i]?=some t->H' t=some (.tup (prV (at' h) i)))->Q (.ref p) H'
structure BkP(H:Hp)(b:Addr)(as gs:List Addr)(rs:List N14.Row):Prop where
 L:H b=some (.lst (as.map V.ref))
 ln:as.length=rs.length
 m:gs.length=rs.length
 t:∀(i:Nat) (a g:Addr) (r:N14.Row),as[i]?=some a->gs[i]?=some g->rs[i]?=some r->H a=some (.tup [.str r.1,.bl r.2.1,.ref g])/\H g=some (.lst (r.2.2.map V.str))
theorem BkP.same{H:Hp}{b:Addr}{gs:List Addr}{rs:List N14.Row}(h:BkP H b as gs rs)(s:A7 H H'):BkP H' b as gs rs:=⟨s _ _ h.L,h.ln,h.m,λi a g r h1 h2 h3=>⟨s _ _ (h.t i a g r h1 h2 h3).1,s _ _ (h.t i a g r h1 h2 h3).2⟩⟩
theorem BkP.odd{H:Hp}{b:Addr}{rs:List N14.Row}{u:HO}(sb:SameBut tp H H')(hp:H tp=some u)(hu:NPb.Odd u)(h:BkP H b as gs rs):BkP H' b as gs rs:=by
 have hL:∀(b:Addr) (l:List V),H b=some (.lst l)->H' b=some (.lst l):=λb l e=>sb _ _ e (Bt e hp λz=>by rcases hu with ⟨_,e⟩ | ⟨_,_,e⟩ <;> rw[e]at z <;> cases z)
 have hT:∀(b:Addr) (l:List V),H b=some (.tup l)->H' b=some (.tup l):=λb l e=>sb _ _ e (Bt e hp λz=>by rcases hu with ⟨_,e⟩ | ⟨_,_,e⟩ <;> rw[e]at z <;> cases z)
 exact⟨hL _ _ h.L,h.ln,h.m,λi a g r h1 h2 h3=>⟨hT _ _ (h.t i a g r h1 h2 h3).1,hL _ _ (h.t i a g r h1 h2 h3).2⟩⟩
def bkL(as gs:List Addr)(rs:List N14.Row):List N55.Bk5:=(List.range rs.length).map λi=>(as.getD i 0,(rs.getD i (Str.empty,true,[])).1,(rs.getD i (Str.empty,true,[])).2.1,gs.getD i 0)
theorem BkP.bk{H:Hp}{b:Addr}{rs:List N14.Row}(B:BkP H b as gs rs):N55.Qp H b (bkL as gs rs):=by
 have ga:∀i,i < rs.length->as[i]?=some (as.getD i 0):=λi hi=>by rw[Fc,Fb (by rw[B.ln];exact hi)];rfl
 have gg:∀i,i < rs.length->gs[i]?=some (gs.getD i 0):=λi hi=>by rw[Fc,Fb (by rw[B.m];exact hi)];rfl
 have gr:∀i,i < rs.length->rs[i]?=some (rs.getD i (Str.empty,true,[])):=λi hi=>by rw[Fc,Fb hi];rfl
 refine⟨?_,λr hr=>?_⟩
 . rw[B.L]
   congr 2;unfold bkL;rw[FP];refine J0 λi=>?_;rw[Fe,Fe]
   by_cases hi:i < rs.length
   . rw[ga i hi,FS hi];rfl
   . rw[Hg (by rw[B.ln];omega),Hg (by rw[Fw];omega)]
     rfl
 . obtain⟨i,hi,rfl⟩:=FH.mp hr
   have hi:=He.mp hi;exact(B.t i _ _ _ (ga i hi) (gg i hi) (gr i hi)).1
theorem J8k{rs:List N14.Row}:(bkL as gs rs).length=rs.length:=by unfold bkL;rw[Fa,Fw]
theorem J8l{C:Str->Int}{rs:List N14.Row}:NPb.wsm C (bkL as gs rs)=Cq C rs:=by
 have e:rs=(List.range rs.length).map λi=>rs.getD i (Str.empty,true,[]):=by
  refine J0 λi=>?_;rw[Fe]
  by_cases hi:i < rs.length
  . rw[FS hi,Fb hi]
    show _=some (rs.getD i _);rw[Fc,Fb hi];rfl
  . rw[Hg (by omega),Hg (by rw[Fw];omega)];rfl
 unfold NPb.wsm Cq bkL;rw[RK,FP]
 conv=>rhs;rw[e,RK,FP]
 rfl
def rwP(X:Addr)(ts:List Th)(P:Nat)(ys:List Str)(tk:List Bool):List N14.Row:=grows (T4 (stk (gps ys ys.length) tk (gps ys ys.length).length) X) (rm ts) P s20 ys ys.length
theorem Wk{T:Au}{R:Str->Int}{n:Int}{s:T.St×List Str}{z:Str}:(gask T R n s z).2.1=z:=by
 unfold gask
 split <;> rfl
theorem J0u{X:Addr}{ts:List Th}{P:Nat}{ys:List Str}{tk:List Bool}:(rwP X ts P ys tk).length=ys.length:=Ej
theorem U8{X:Addr}{P:Nat}{ys:List Str}{tk:List Bool}{i:Nat}{r:N14.Row}(h:(rwP X ts P ys tk)[i]?=some r):i < ys.length/\r=NR.grow (T4 (stk (gps ys ys.length) tk (gps ys ys.length).length) X) (rm ts) P s20 ys i:=by
 have hil:i < ys.length:=by rw[<- J0u (X:=X) (ts:=ts) (P:=P) (tk:=tk)];exact(Fd.mp h).1
 unfold rwP grows at h;rw[Fe,FS hil]at h;exact⟨hil,(FG h).symm⟩
theorem J6u{X:Addr}{P:Nat}{tk:List Bool}{i:Nat}{r:N14.Row}(h:(rwP X ts P ys tk)[i]?=some r):r.1=ys.getD i Str.empty:=by
 rw[(U8 h).2];exact Wk
def M8(tp:Addr)(pos:Pos)(qual:Str)(K:PySem.W.Frag)(S X:Addr):Sp:=λvs H Q _=>∃(st a:Addr) (P:Nat) (ts:List Th) (ys:List Str),vs=[.ref st,.ref a,.int P]/\Av K S H st ts/\(ts.map (·.1)).Nodup/\ts.length<=60/\H a=some (.lst (ys.map V.str))/\ys.length<=40/\(∀y∈ys,y∈ts.map (·.1))/\(∀y∈ys,rm ts y=1)/\(∀y∈ys,0<=N41.cst ts y)/\1<=P/\P<=1000000/\D6 tp pos qual H/\
 ∀(t b p:Addr) (as gs ps:List Addr) (tk:List Bool) (h:List Int) (H':Hp),N55.Tk tp pos qual H H'->H t=none->H b=none->H p=none->(∀a∈as,H a=none)->(∀g∈gs,H g=none)->gs.Nodup->b∉gs->p∉gs->b≠p->
   H' t=some (.tup [.int (Cq (N41.cst ts) (rwP X ts P ys tk)),.ref b,.ref p])->BkP H' b as gs (rwP X ts P ys tk)->H' p=some (.lst (ps.map V.ref))->ps.length=ys.length->(∀(i:Nat) c,ps[i]?=some c->H' c=some (.tup (prV (at' h) i)))->
   FlR (ys.length+1) (jps (N41.cst ts) ys ys.length) ((P:Int) - 1) (tk0 (jps (N41.cst ts) ys ys.length)) 0 tk h->FE (ys.length+1) (jps (N41.cst ts) ys ys.length) tk ((P:Int) - 1) h->(∀v,v < ys.length+1->at' h v<=pi0 (jps (N41.cst ts) ys ys.length) v)->Q (.ref t) H'
theorem Jbh{js:List Jp}{B:Int}(hB:0<=B)(h:∀j∈js,0<=j.2.2/\j.2.2<=B){v:Nat}:pi0 js v<=js.length * B:=by
 unfold pi0
 induction js with
 | nil=>simp
 | cons j l ih=>
  rw[List.map_cons,Hb,List.length_cons];have h1:=ih λx hx=>h x (Fh _ hx);have h2:=h j (by simp)
  have h3:f0 v j<=B:=by unfold f0;split <;> omega
  have e:((l.length+1:Nat):Int) * B=(l.length:Int) * B+B:=by rw[show ((l.length+1:Nat):Int)=(l.length:Int)+1 by omega,Jq,Int.one_mul]
  omega
open L2 N1 N5 N4 N6 N12 N32 N14 N20 N18 N25 NR N22 N21 NF
structure Wl(C:Str->Int)(ys:List Str)(ts:List Th):Prop where
 nd:(ts.map (·.1)).Nodup
 l:ts.length<=27
 i:∀y∈ys,y∈ts.map (·.1)
 r:∀y∈ys,rm ts y=1
 c:∀y∈ys,N41.cst ts y=C y
theorem Jbi{C:Str->Int}(nd:(ts.map (·.1)).Nodup)(l:ts.length<=27)(h:∀t∈N41.tsF C (λ_=>1) ys,t∈ts):Wl C ys ts:=by
 have key:∀y∈ys,∃i:Nat,ts[i]?=some ((y,C y,(1:Int)):Th):=λy hy=>FC.mp (h _ (FH.mpr ⟨y,hy,rfl⟩));refine⟨nd,l,λy hy=>?_,λy hy=>?_,λy hy=>?_⟩
 . obtain⟨i,hi⟩:=key y hy
   exact FH.mpr ⟨_,Ff hi,rfl⟩
 . obtain⟨i,hi⟩:=key y hy
   exact J0e nd hi
 . obtain⟨i,hi⟩:=key y hy
   exact N41.J53 nd hi
theorem Ou.mid{P:Nat}{l l':List Str}{z:Str}{r:N14.Row}(h:Ou P l z r l'):∃m:List Str,((r.2.2=[]/\m=l)\/∃u,u∈l/\r.2.2=[u]/\m=l.erase u)/\l'=(if r.2.1 then m else m++[z]):=by
 by_cases hz:z∈l
 . refine⟨l,.inl ⟨(h.hit hz).1,rfl⟩,?_⟩
   rw[h.b,Fi hz,if_pos rfl];exact(h.hit hz).2
 . by_cases hl:l.length < P
   . refine⟨l,.inl ⟨(h.few hz hl).1,rfl⟩,?_⟩
     rw[h.b,Fk hz,if_neg (by decide)];exact(h.few hz hl).2
   . obtain⟨u,hu,e1,e2⟩:=h.full hz hl
     refine⟨l.erase u,.inr ⟨u,hu,e1,rfl⟩,?_⟩;rw[h.b,Fk hz,if_neg (by decide)];exact e2
def L6(P:Nat)(ys:List Str)(rs:List N14.Row)(L:Nat->List Str):Prop:=rs.length=ys.length/\L 0=[]/\∀(i:Nat) (r:N14.Row),rs[i]?=some r->Ou P (L i) (ys.getD i Str.empty) r (L (i+1))/\(L i).length<=P/\(L i).Nodup
def lyP(X:Addr)(ts:List Th)(P:Nat)(ys:List Str)(tk:List Bool)(i:Nat):List Str:=(gst (T4 (stk (gps ys ys.length) tk (gps ys ys.length).length) X) (rm ts) P s20 ys i).2
section
variable {X:Addr}{ts:List Th}{P:Nat}{ys:List Str}{tk:List Bool}{h:List Int}
theorem J8m(hP:1<=P)(hr:∀y∈ys,rm ts y=1)(hin:∀y∈ys,y∈ts.map (·.1)){i:Nat}(hi:i<=ys.length):(lyP X ts P ys tk i).length<=ts.length:=by
 have gi:=E4 (T:=T4 (stk (gps ys ys.length) tk (gps ys ys.length).length) X) (R:=rm ts) (n:=(P:Int)) (s0:=s20) (ns:=ts.map (·.1)) N63.li0 hin (λy hy=>by rw[hr y hy];omega) i hi;have:=N25.Mg gi.nd gi.s;rw[Fa]at this;exact this
theorem J9o(F:FE (ys.length+1) (jps (N41.cst ts) ys ys.length) tk ((P:Int) - 1) h)(hP:1<=P)(hr:∀y∈ys,rm ts y=1)(hC:∀y∈ys,0<=N41.cst ts y)(hin:∀y∈ys,y∈ts.map (·.1)):L6 P ys (rwP X ts P ys tk) (lyP X ts P ys tk):=by
 have ho:∀t,t < ys.length->over (jps (N41.cst ts) ys ys.length) tk t < P:=λt ht=>by have:=F.o t (by omega);omega
 refine⟨J0u,rfl,λi r hri=>?_⟩;obtain⟨hil,er⟩:=U8 hri;obtain⟨a,b⟩:=Wf (X:=X) Pc ho F.l hP hr hC hin i (by omega);have gi:=E4 (T:=T4 (stk (gps ys ys.length) tk (gps ys ys.length).length) X) (R:=rm ts) (n:=(P:Int)) (s0:=s20) (ns:=ts.map (·.1)) N63.li0 hin (λy hy=>by rw[hr y hy];omega) i (by omega);have k:=Sr (X:=X) Pc ho F.l hP hr hC hin hil a gi.i b;have hz:=N41.C9 (ys:=ys) (k:=i) hil;have e1:gst (T4 (stk (gps ys ys.length) tk (gps ys ys.length).length) X) (rm ts) P s20 ys (i+1)=(gask (T4 (stk (gps ys ys.length) tk (gps ys ys.length).length) X) (rm ts) P (gst (T4 (stk (gps ys ys.length) tk (gps ys ys.length).length) X) (rm ts) P s20 ys i) (ys.getD i Str.empty)).1:=Ds hz;refine⟨?_,b,gi.nd⟩;rw[er];unfold lyP;rw[e1];exact k.2.2
theorem Qh{C C':Str->Int}{rs:List N14.Row}(h:∀r∈rs,C r.1=C' r.1):Cq C rs=Cq C' rs:=by
 unfold Cq;congr 1;exact Ht λr hr=>h r (Rg.mp hr).1
theorem J9p{n:Nat}{most:Int}(F:FE n js tk most h):∀v,v < n->0<=at' h v
 | 0,_=>by rw[F.z];exact FZ _
 | v+1,hv=>by have:=J9p F v (by omega);have:=F.up v hv;omega
theorem J8n{C:Str->Int}(F:FE (ys.length+1) (jps C ys ys.length) tk ((P:Int) - 1) h)(hpi:∀v,v < ys.length+1->at' h v<=pi0 (jps C ys ys.length) v)(hl:ys.length<=40)(hC:∀y∈ys,0<=C y/\C y<=10 ^ 30):∀t∈C6 (at' h) ys.length,0<=t/\t<=10 ^ 71:=λt ht=>by
 have h0:=Np F t ht;obtain⟨i,hi,rfl⟩:=FH.mp ht;have hi:=He.mp hi;have h1:=J9p F i (by omega);have h2:=hpi (i+1) (by omega);have hg:=Pb (ys:=ys) (n:=ys.length)
 have h3:=Jbh (js:=jps C ys ys.length) (B:=10 ^ 30) (by decide) (λj hj=>by
  obtain⟨g,hg,rfl⟩:=FH.mp hj
  exact hC _ (Ff (N41.C9 (Lw hg).1))) (v:=i+1)
 rw[Fa]at h3;refine⟨h0,?_⟩;have h4:((gps ys ys.length).length:Int) * 10 ^ 30<=40 * 10 ^ 30:=Int.mul_le_mul_of_nonneg_right (by omega) (by decide);omega
theorem Xt{C:Str->Int}(F:FE (ys.length+1) (jps (N41.cst ts) ys ys.length) tk ((P:Int) - 1) h)(hP:1<=P)(hr:∀y∈ys,rm ts y=1)(hC:∀y∈ys,0<=N41.cst ts y)(hin:∀y∈ys,y∈ts.map (·.1))(hc:∀y∈ys,N41.cst ts y=C y):N41.fl C (λ_=>1) (C6 (at' h) ys.length) 1 P ys ys.length=Cq (N41.cst ts) (rwP X ts P ys tk):=by
 have e:=Ss (X:=X) (r:=rm ts) (ns:=ts.map (·.1)) F Pc hP hr hC hin;unfold rwP;rw[e];exact N41.J59 (λy hy=>⟨(hc y hy).symm,(hr y hy).symm⟩) _ (Fg _)
end
end N43
namespace N45
open L2 N1 N5 N4 N6 N12 N32 N14 N20 N18 N25 NR N22 N21 N24 N43 NF
def ms(ys:List Str)(L:Nat->List Str):Nat->Nat
 | 0=>0
 | i+1=>ms ys L i+if ys.getD i Str.empty∈L i then 0 else 1
section
variable {T:Au}{R:Str->Int}{P:Nat}{ns ys:List Str}{s:T.St}{s0:T.St}{l:List Str}{z:Str}{C:Str->Int}
theorem Sv(hi:T.inv ns P s l)(hz:z∈ns)(hP:1<=P)(hl:l.length<=P)(hl1:∀y∈l,R y=1)(hz1:R z=1):Ou P l z (gask T R P (s,l) z).2 (gask T R P (s,l) z).1.2/\(z∉l->¬l.length < P->(T.pick P (T.asked P s z) l).2∈l/\gask T R P (s,l) z=((T.came P (T.gone P (T.pick P (T.asked P s z) l).1 (T.pick P (T.asked P s z) l).2) z,l.erase (T.pick P (T.asked P s z) l).2++[z]),(z,false,[(T.pick P (T.asked P s z) l).2])))/\(z∉l->l.length < P->gask T R P (s,l) z=((T.came P (T.asked P s z) z,l++[z]),(z,false,[]))):=by
 by_cases hm:z∈l
 . have e:gask T R P (s,l) z=((T.asked P s z,l),(z,true,[])):=if_pos hm
   rw[e];exact⟨⟨rfl,(Fi hm).symm,λ_=>⟨rfl,rfl⟩,λw=>absurd hm w,λw=>absurd hm w⟩,λw=>absurd hm w,λw=>absurd hm w⟩
 . have e:gask T R P (s,l) z=((T.came P (gf T R P (R z) (T.asked P s z) l []).1 z,(gf T R P (R z) (T.asked P s z) l []).2.1++[z]),(z,false,(gf T R P (R z) (T.asked P s z) l []).2.2)):=if_neg hm
   rw[e]
   by_cases hlt:l.length < P
   . rw[J6l (T:=T) hl1 hz1 (by omega)]
     exact⟨⟨rfl,(Fk hm).symm,λw=>absurd w hm,λ_ _=>⟨rfl,rfl⟩,λ_ w=>absurd hlt w⟩,λ_ w=>absurd hlt w,λ_ _=>rfl⟩
   . obtain⟨hp,hg⟩:=J0s (T:=T) (T.i_mid hi hz hm) hl1 hz1 (by omega) (by omega)
     rw[hg];exact⟨⟨rfl,(Fk hm).symm,λw=>absurd w hm,λ_ w=>absurd w hlt,λ_ _=>⟨_,hp,rfl,rfl⟩⟩,λ_ _=>⟨hp,rfl⟩,λ_ w=>absurd w hlt⟩
theorem Ou.len{r:N14.Row}{l':List Str}(h:Ou P l z r l')(hP:1<=P)(hl:l.length<=P):l'.length<=P:=by
 by_cases hm:z∈l
 . rw[(h.hit hm).2];exact hl
 by_cases hf:l.length < P
 . rw[(h.few hm hf).2,Fl];simp;omega
 . obtain⟨u,hu,_,e⟩:=h.full hm hf
   have:=FU hu;rw[e,Fl,FT hu];simp;omega
variable (h0:T.inv ns P s0 []) (hP:1<=P) (hin:∀y∈ys,y∈ns) (hr:∀y∈ys,R y=1)
include h0 hP hin hr
theorem J0v:∀i,i<=ys.length->(gst T R P s0 ys i).2.length<=P/\∀y∈(gst T R P s0 ys i).2,y∈ys
 | 0,_=>⟨FM _,λy hy=>by cases hy⟩
 | i+1,hi=>by
  obtain⟨a,b⟩:=J0v i (by omega);have gi:=E4 (T:=T) (R:=R) (n:=(P:Int)) (s0:=s0) (ns:=ns) h0 hin (λy hy=>by rw[hr y hy];omega) i (by omega);have hz:=N41.C9 (ys:=ys) (k:=i) (by omega);have hzy:=Ff hz;have k:=(Sv (T:=T) (R:=R) (P:=P) (s:=(gst T R P s0 ys i).1) (l:=(gst T R P s0 ys i).2) gi.i (hin _ hzy) hP a (λy hy=>hr y (b y hy)) (hr _ hzy)).1;rw[Ds hz];refine⟨Ou.len k hP a,λy hy=>?_⟩
  by_cases hm:ys.getD i Str.empty∈(gst T R P s0 ys i).2
  . rw[(k.hit hm).2]at hy;exact b y hy
  by_cases hf:(gst T R P s0 ys i).2.length < P
  . rw[(k.few hm hf).2]at hy
    rcases FL.mp hy with hy | hy
    . exact b y hy
    . rw[Fj.mp hy];exact hzy
  . obtain⟨u,hu,_,e⟩:=k.full hm hf
    rw[e]at hy;rcases FL.mp hy with hy | hy
    . exact b y (FJ hy)
    . rw[Fj.mp hy];exact hzy
theorem Wm:L6 P ys (grows T R P s0 ys ys.length) (λi=>(gst T R P s0 ys i).2):=by
 refine⟨Ej,rfl,λi r hri=>?_⟩
 have hil:i < ys.length:=by rw[<- Ej (T:=T) (R:=R) (n:=(P:Int)) (s0:=s0) (ys:=ys) (i:=ys.length)];exact(Fd.mp hri).1
 obtain⟨a,b⟩:=J0v h0 hP hin hr i (by omega);have gi:=E4 (T:=T) (R:=R) (n:=(P:Int)) (s0:=s0) (ns:=ns) h0 hin (λy hy=>by rw[hr y hy];omega) i (by omega);have hz:=N41.C9 (ys:=ys) (k:=i) hil;have hzy:=Ff hz;have k:=(Sv (T:=T) (R:=R) (P:=P) (s:=(gst T R P s0 ys i).1) (l:=(gst T R P s0 ys i).2) gi.i (hin _ hzy) hP a (λy hy=>hr y (b y hy)) (hr _ hzy)).1
 have er:r=grow T R P s0 ys i:=by
  unfold grows at hri;rw[Fe,FS hil]at hri;exact(FG hri).symm
 rw[er];refine⟨?_,a,gi.nd⟩;show Ou P (gst T R P s0 ys i).2 _ (grow T R P s0 ys i) (gst T R P s0 ys (i+1)).2;rw[Ds hz];exact k
end
section
variable {X:Addr}{R:Str->Int}{P:Nat}{ns ys:List Str}
variable (hP:1<=P) (hin:∀y∈ys,y∈ns) (hr:∀y∈ys,R y=1)
include hP hin hr
end
inductive W5 where
 | fa (ys:List Str) (h:ys.length<=1000)
 | pl (kv:List (Key×V)) (h:kv.length<=1000)
structure C5 where
 fa:Addr
 pl:Addr
end N45
namespace N64
open L2 N1 N5 N4 N6 N12 N32 N14 N20 N18 N25 NR N22 N21 N24 N23 N28 N63
section
variable {T:Au}{pk:T.St->List Str->Str}{ak:T.St->Str->T.St}
structure Fx(T:Au)(pk:T.St->List Str->Str)(ak:T.St->Str->T.St):Prop where
 p:∀n s l,T.pick n s l=(s,pk s l)
 g:∀n s z,T.gone n s z=s
 c:∀n s z,T.came n s z=s
 a:∀n s z,T.asked n s z=ak s z
 b:∀{ns:List Str}{n m:Int}{z:Str}{s:T.St}{l1 l2:List Str},T.mid ns n z s l1->T.mid ns m z s l2->(∀u∈l1,u∈l2)->pk s l2∈l1->pk s l1=pk s l2
theorem Et{R:Str->Int}:∀{l:List Str},(∀u∈l,R u=1)->N41.sm R l=l.length:=by
 intro l
 induction l with
 | nil=>intro _;rfl
 | cons x r ih=>
  intro h;rw[N41.Cw,ih (λu hu=>h u (Fh _ hu)),h x Fy,List.length_cons];omega
theorem Xu{R:Str->Int}{n:Int}{s:T.St}{l:List Str}{z:Str}(F:Fx T pk ak)(h:z∈l):(gask T R n (s,l) z).1=(ak s z,l):=by
 have e:gask T R n (s,l) z=((T.asked n s z,l),(z,true,[])):=if_pos h;rw[e,F.a]
theorem U9{R:Str->Int}{n:Int}{s:T.St}{l:List Str}{z:Str}(F:Fx T pk ak)(h:z∉l)(hR:∀u∈l,R u=1)(hz:R z=1)(hl:(l.length:Int) < n):(gask T R n (s,l) z).1=(ak s z,l++[z]):=by
 have e:gask T R n (s,l) z=((T.came n (gf T R n (R z) (T.asked n s z) l []).1 z,(gf T R n (R z) (T.asked n s z) l []).2.1++[z]),(z,false,(gf T R n (R z) (T.asked n s z) l []).2.2)):=if_neg h;rw[e,Mh (by rw[Et hR,hz];omega),F.c,F.a]
theorem Qi{R:Str->Int}{n:Int}{s:T.St}{l ns:List Str}{z:Str}(F:Fx T pk ak)(h:z∉l)(hm:T.mid ns n z (ak s z) l)(hR:∀u∈l,R u=1)(hz:R z=1)(hl:(l.length:Int)=n)(hn:1<=n):pk (ak s z) l∈l/\(gask T R n (s,l) z).1=(ak s z,l.erase (pk (ak s z) l)++[z]):=by
 have e:gask T R n (s,l) z=((T.came n (gf T R n (R z) (T.asked n s z) l []).1 z,(gf T R n (R z) (T.asked n s z) l []).2.1++[z]),(z,false,(gf T R n (R z) (T.asked n s z) l []).2.2)):=if_neg h
 have hne:l≠[]:=λe=>by rw[e]at hl;simp at hl;omega
 obtain⟨hp,_⟩:=T.i_pick hm hne;have hp':=hp;rw[F.p]at hp';refine⟨hp',?_⟩;have hle:=FT hp';have hl0:=FU hp';rw[e,F.a,J0k (by rw[Et hR,hz];omega) hp,F.g,F.p];rw[Mh (by rw[Et (λu hu=>hR u (FJ hu)),hz];omega),F.c]
structure Tw(n1 n2:Int)(l1 l2:List Str):Prop where
 s:∀u∈l1,u∈l2
 a:(l1.length:Int)<=n1
 b:(l2.length:Int)<=n2
 f:(l1.length:Int) < n1->∀u∈l2,u∈l1
theorem J8o{l1 l2:List Str}(nd:l1.Nodup)(s:∀u∈l1,u∈l2):l1.length<=l2.length:=N25.Mg nd s
theorem Jbj{R:Str->Int}{n1 n2:Int}{ns:List Str}{s:T.St}{l1 l2:List Str}{z:Str}(F:Fx T pk ak)(hR:∀u∈ns,R u=1)(hn:n1<=n2)(hn1:1<=n1)(hz:z∈ns)(g1:GI T ns n1 (s,l1))(g2:GI T ns n2 (s,l2))(t:Tw n1 n2 l1 l2):
 ∃l1' l2',(gask T R n1 (s,l1) z).1=(ak s z,l1')/\(gask T R n2 (s,l2) z).1=(ak s z,l2')/\Tw n1 n2 l1' l2':=by
 have r1:∀u∈l1,R u=1:=λu hu=>hR u (g1.s u hu);have r2:∀u∈l2,R u=1:=λu hu=>hR u (g2.s u hu);have rz:=hR z hz
 by_cases z1:z∈l1
 . exact⟨l1,l2,Xu F z1,Xu F (t.s z z1),t⟩
 . have m1:T.mid ns n1 z (ak s z) l1:=by rw[<- F.a n1];exact T.i_mid g1.i hz z1
   by_cases z2:z∈l2
   . have full:(l1.length:Int)=n1:=by
      by_cases h:(l1.length:Int) < n1
      . exact absurd (t.f h z z2) z1
      . have:=t.a;omega
     obtain⟨hp,e⟩:=Qi (R:=R) F z1 m1 r1 rz full hn1;have hle:=FT hp;have hl0:=FU hp
     have hlen:((l1.erase (pk (ak s z) l1)++[z]).length:Int)=n1:=by rw[Fl,FV];omega
     refine⟨_,l2,e,Xu F z2,λu hu=>?_,by omega,t.b,λh=>by omega⟩;rcases FL.mp hu with hu | hu
     . exact t.s u (FJ hu)
     . rw[Fj.mp hu];exact z2
   . have m2:T.mid ns n2 z (ak s z) l2:=by rw[<- F.a n2];exact T.i_mid g2.i hz z2
     by_cases h1:(l1.length:Int) < n1
     . have hs:=t.f h1
       have hl:l2.length<=l1.length:=J8o g2.nd hs;refine⟨_,_,U9 F z1 r1 rz h1,U9 F z2 r2 rz (by omega),λu hu=>?_,?_,?_,λ_ u hu=>?_⟩
       . rcases FL.mp hu with hu | hu
         . exact Hf _ (t.s u hu)
         . exact Fv _ hu
       . rw[Fl,FV];omega
       . rw[Fl,FV];omega
       . rcases FL.mp hu with hu | hu
         . exact Hf _ (hs u hu)
         . exact Fv _ hu
     . have full:(l1.length:Int)=n1:=by have:=t.a;omega
       obtain⟨hp,e⟩:=Qi (R:=R) F z1 m1 r1 rz full hn1;have hle:=FT hp;have hl0:=FU hp
       have hlen:((l1.erase (pk (ak s z) l1)++[z]).length:Int)=n1:=by rw[Fl,FV];omega
       by_cases h2:(l2.length:Int) < n2
       . refine⟨_,_,e,U9 F z2 r2 rz h2,λu hu=>?_,by omega,by rw[Fl,FV];omega,λh=>by omega⟩
         rcases FL.mp hu with hu | hu
         . exact Hf _ (t.s u (FJ hu))
         . exact Fv _ hu
       . have full2:(l2.length:Int)=n2:=by have:=t.b;omega
         obtain⟨hp2,e2⟩:=Qi (R:=R) F z2 m2 r2 rz full2 (by omega);have hle2:=FT hp2;have hl02:=FU hp2;refine⟨_,_,e,e2,λu hu=>?_,by omega,by rw[Fl,FV];omega,λh=>by omega⟩;rcases FL.mp hu with hu | hu
         . obtain⟨hne,hu1⟩:=g1.nd.mem_erase_iff.mp hu
           refine Hf _ (g2.nd.mem_erase_iff.mpr ⟨λe3=>hne ?_,t.s u hu1⟩);rw[e3];exact(F.b m1 m2 t.s (e3▸hu1)).symm
         . exact Fv _ hu
variable {R:Str->Int}{n1 n2:Int}{ns ys:List Str}{s0:T.St}
theorem Jbk(F:Fx T pk ak)(hR:∀u∈ns,R u=1)(hn:n1<=n2)(hn1:1<=n1)(i1:T.inv ns n1 s0 [])(i2:T.inv ns n2 s0 [])(hin:∀y∈ys,y∈ns):∀i,i<=ys.length->∃s l1 l2,gst T R n1 s0 ys i=(s,l1)/\gst T R n2 s0 ys i=(s,l2)/\Tw n1 n2 l1 l2:=by
 have q1:∀y∈ys,R y<=n1:=λy hy=>by rw[hR y (hin y hy)];exact hn1
 have q2:∀y∈ys,R y<=n2:=λy hy=>by rw[hR y (hin y hy)];omega
 intro i
 induction i with
 | zero=>intro _;exact⟨s0,[],[],rfl,rfl,by simp,by simp;omega,by simp;omega,by simp⟩
 | succ i ih=>
  intro hi;obtain⟨s,l1,l2,e1,e2,t⟩:=ih (by omega);have hz:=Fb (show i < ys.length by omega);have hm:=Ff hz;have g1:=E4 (T:=T) (R:=R) (n:=n1) (s0:=s0) i1 hin q1 i (by omega);have g2:=E4 (T:=T) (R:=R) (n:=n2) (s0:=s0) i2 hin q2 i (by omega);rw[e1]at g1;rw[e2]at g2;obtain⟨l1',l2',a,b,c⟩:=Jbj (R:=R) F hR hn hn1 (hin _ hm) g1 g2 t;exact⟨_,l1',l2',by rw[Ds hz,e1];exact a,by rw[Ds hz,e2];exact b,c⟩
theorem J6v(F:Fx T pk ak)(hR:∀u∈ns,R u=1)(hn:n1<=n2)(hn1:1<=n1)(i1:T.inv ns n1 s0 [])(i2:T.inv ns n2 s0 [])(hin:∀y∈ys,y∈ns){i:Nat}(hi:i<=ys.length){u:Str}(hu:u∈(gst T R n1 s0 ys i).2):u∈(gst T R n2 s0 ys i).2:=by
 obtain⟨s,l1,l2,e1,e2,t⟩:=Jbk (R:=R) F hR hn hn1 i1 i2 hin i hi;rw[e1]at hu;rw[e2];exact t.s u hu
end
theorem fx4{C:Addr}:Fx (T4 C) (λs l=>hmin s l) (λs z=>Jbc s z):=by
 refine⟨λ_ _ _=>rfl,λ_ _ _=>rfl,λ_ _ _=>rfl,λ_ _ _=>rfl,λ{ns n m z s l1 l2} m1 m2 hs hp=>?_⟩;have h1:l1≠[]:=R0 hp;have h2:l2≠[]:=R0 (hs _ hp);obtain⟨a1,b1⟩:=U1 (s:=s) h1;obtain⟨a2,b2⟩:=U1 (s:=s) h2;have k1:=b1 _ hp;have k2:=b2 _ (hs _ a1);exact m2.1.i.inj _ (hs _ a1) _ a2 (by omega)
theorem fx3{C:Addr}{yy:List Str}:Fx (T3 C yy) (λs l=>fmin yy s l) (λs z=>Ca s z):=by
 refine⟨λ_ _ _=>rfl,λ_ _ _=>rfl,λ_ _ _=>rfl,λ_ _ _=>rfl,λ{ns n m z s l1 l2} m1 m2 hs hp=>?_⟩;have h1:l1≠[]:=R0 hp;have h2:l2≠[]:=R0 (hs _ hp);obtain⟨a1,b1⟩:=U0 (ys:=yy) (s:=s) h1;obtain⟨a2,b2⟩:=U0 (ys:=yy) (s:=s) h2;have k1:=b1 _ hp;have k2:=b2 _ (hs _ a1);exact m2.1.i.inj _ (hs _ a1) _ a2 (by omega)
inductive W2 where
 | ha
 | fa (ys:List Str) (h:ys.length<=1000)
structure C2 where
 ha:Addr
 fa:Addr
end N64
namespace N94
open L2 N1 N5 N4 N6 N12 N32 N14 N20 N18 N25 NR N22 N21 N24 N28 NF N45
open N43 (L6 Ou BkP Cq rwP)
theorem Qj{P Q:Nat}{rs:List N14.Row}{L:Nat->List Str}{C r:Str->Int}(h:L6 P ys rs L)(hq:P<=Q)(hr:∀y∈ys,r y=1):∀i,i<=ys.length->N41.Ed C r Q ys i (L i) (Cq C (rs.take i))
 | 0,_=>by rw[h.2.1];exact N41.Ed.start (by omega)
 | i+1,hi=>by
  have a:=Qj (C:=C) h hq hr i (by omega)
  obtain⟨rr,e⟩:∃r,rs[i]?=some r:=⟨_,Fb (by rw[h.1];omega)⟩
  obtain⟨k,kl,kn⟩:=h.2.2 i _ e;have hin:∀y∈L i,r y=1:=λy hy=>hr y (N41.Nf (a.asked y hy) (by omega));have hz1:=hr _ (Ff (N41.C9 (show i < ys.length by omega)));rw[RA,e];show N41.Ed C r Q ys (i+1) (L (i+1)) (Cq C (rs.take i++[rr]));rw[N43.Ij,k.b,k.n]
  by_cases hm:ys.getD i Str.empty∈L i
  . rw[(k.hit hm).2,Fi hm]
    simpa using a.hit (by omega) hm
  rw[Fk hm];rw[if_neg (by decide)]
  by_cases hf:(L i).length < P
  . rw[(k.few hm hf).2]
    exact a.miss (by omega) hm (by rw[N43.Et hin,hz1];omega)
  . obtain⟨u,hu,_,e⟩:=k.full hm hf
    rw[e];have hlen:=FT hu;have hpos:=FU hu;have c:=a.cast (M:=(L i).erase u) (λy hy=>by rw[hin y hy];decide) RT;exact c.miss (by omega) (λw=>hm (FJ w)) (by rw[N43.Et λy hy=>hin y (FJ hy),hz1];omega)
theorem Wn{X:Addr}{P Q:Nat}{tk:List Bool}{h:List Int}{rs:List N14.Row}{L:Nat->List Str}(F:FE (ys.length+1) (N43.jps (N41.cst ts) ys ys.length) tk ((Q:Int) - 1) h)(hP:1<=P)(hq:P<=Q)(hr:∀y∈ys,rm ts y=1)(hC:∀y∈ys,0<=N41.cst ts y)(hin:∀y∈ys,y∈ts.map (·.1))(hR:L6 P ys rs L):Cq (N41.cst ts) (rwP X ts Q ys tk)<=Cq (N41.cst ts) rs:=by
 have e:=N43.Ss (X:=X) (r:=rm ts) (ns:=ts.map (·.1)) F N43.Pc (by omega) hr hC hin;unfold rwP;rw[e];have a:=Qj (C:=N41.cst ts) hR hq hr ys.length (Fg _);rw[Ho (by rw[hR.1];exact Fg _)]at a;have h2:=(a.all (N43.C6 (at' h) ys.length) 1 (N43.Np F) N43.Nn).le;have h4:0<=N41.sm (N41.cr (rm ts) (N43.C6 (at' h) ys.length) ys ys.length) (L ys.length):=N41.J9l λy hy=>N41.J51 (by rw[hr y (N41.Nf (a.asked y hy) (Fg _))];decide) (N43.Np F);omega
inductive W7 where
 | ol | ha
 | fa (ys:List Str) (h:ys.length<=1000)
 | fi | hd | ro
 | pl (kv:List (Key×V)) (h:kv.length<=1000)
structure C7 where
 ol:Addr
 ha:Addr
 fa:Addr
 fi:Addr
 hd:Addr
 ro:Addr
 pl:Addr
def T7(c:C7):W7->Au
 | .ol=>T2 c.ol
 | .ha=>N23.T4 c.ha
 | .fa ys _=>T3 c.fa ys
 | .fi=>T1 c.fi
 | .hd=>T6 c.hd
 | .ro=>N26.T26 c.ro
 | .pl kv _=>N43.T4 kv c.pl
def s70(c:C7):(w:W7)->(T7 c w).St
 | .ol=>s20
 | .ha=>N23.s40 8
 | .fa _ _=>s20
 | .fi=>(⟨0,[],[]⟩:S1)
 | .hd=>s60
 | .ro=>N26.s00
 | .pl _ _=>s20
theorem Wo{c:C7}{ns:List Str}{n:Int}{w:W7}(hn:1<=n):(T7 c w).inv ns n (s70 c w) []:=by
 cases w with
 | ol=>exact N63.li0
 | ha=>exact N23.Jd1 (by decide) (by decide)
 | fa ys h=>exact⟨N63.li0,FZ _⟩
 | fi=>exact⟨C3.nil,C3.nil,by simp,List.Pairwise.nil⟩
 | hd=>exact Jdk
 | ro=>exact N26.Jdj hn
 | pl kv h=>exact N63.li0
theorem Jd4{c:C7}{w:W7}:(T7 c w).cnt (s70 c w)=0:=by cases w <;> rfl
def wk(ys:List Str)(h:ys.length<=1000):Nat->W7
 | 0=> .ol
 | 1=> .ha
 | 2=> .fa ys h
 | 3=> .fi
 | 4=> .hd
 | _=> .ro
def rw7(c:C7)(ts:List Th)(n:Int)(ys:List Str)(w:W7):List N14.Row:=grows (T7 c w) (rm ts) n (s70 c w) ys ys.length
def L7(c:C7)(ts:List Th)(n:Int)(ys:List Str)(w:W7)(i:Nat):List Str:=(gst (T7 c w) (rm ts) n (s70 c w) ys i).2
theorem J9q{c:C7}{P:Nat}{w:W7}(hP:1<=P)(hin:∀y∈ys,y∈ts.map (·.1))(hr:∀y∈ys,rm ts y=1):L6 P ys (rw7 c ts P ys w) (L7 c ts P ys w):=Wm (T:=T7 c w) (R:=rm ts) (s0:=s70 c w) (Wo (by omega)) hP hin hr
theorem Jd5{c:C7}{P:Nat}{w:W7}(hP:1<=P)(hin:∀y∈ys,y∈ts.map (·.1))(hr:∀y∈ys,rm ts y=1){i:Nat}(hi:i<=ys.length):(L7 c ts P ys w i).length<=ts.length:=by
 have gi:=E4 (T:=T7 c w) (R:=rm ts) (n:=(P:Int)) (s0:=s70 c w) (ns:=ts.map (·.1)) (Wo (by omega)) hin (λy hy=>by rw[hr y hy];omega) i hi;have:=N25.Mg gi.nd gi.s;rw[Fa]at this;exact this
theorem fx2{C:Addr}:N64.Fx (T2 C) (λs l=>lmin (lv s) l) (λs z=>Ca s z):=by
 refine⟨λ_ _ _=>rfl,λ_ _ _=>rfl,λ_ _ _=>rfl,λ_ _ _=>rfl,λ{ns n m z s l1 l2} m1 m2 hs hp=>?_⟩;have h1:l1≠[]:=R0 hp;have h2:l2≠[]:=R0 (hs _ hp);obtain⟨a1,b1⟩:=Nl (v:=lv s) h1;obtain⟨a2,b2⟩:=Nl (v:=lv s) h2;have k1:=b1 _ hp;have k2:=b2 _ (hs _ a1);exact m2.i.inj _ (hs _ a1) _ a2 (by omega)
theorem in7{c:C7}{P:Nat}{w:W7}(hw:w= .ol\/w= .ha\/∃h,w= .fa ys h)(hP:1<=P)(hin:∀y∈ys,y∈ts.map (·.1))(hr:∀u∈ts.map (·.1),rm ts u=1){i:Nat}(hi:i<=ys.length){u:Str}(hu:u∈L7 c ts P ys w i):u∈L7 c ts (P+1) ys w i:=by
 have i1:(T7 c w).inv (ts.map (·.1)) P (s70 c w) []:=Wo (by omega);have i2:(T7 c w).inv (ts.map (·.1)) (P+1) (s70 c w) []:=Wo (by omega)
 rcases hw with e | e | ⟨h,e⟩ <;> subst e
 . exact N64.J6v (T:=T2 c.ol) (n2:=(P:Int)+1) fx2 hr (by omega) (by omega) i1 i2 hin hi hu
 . exact N64.J6v (T:=N23.T4 c.ha) (n2:=(P:Int)+1) N64.fx4 hr (by omega) (by omega) i1 i2 hin hi hu
 . exact N64.J6v (T:=T3 c.fa ys) (n2:=(P:Int)+1) N64.fx3 hr (by omega) (by omega) i1 i2 hin hi hu
theorem Wp{P Q:Nat}{r1 r2:List N14.Row}{L1 L2:Nat->List Str}{C:Str->Int}(h1:L6 P ys r1 L1)(h2:L6 Q ys r2 L2)(hC:∀y∈ys,0<=C y)(hin:∀i,i<=ys.length->∀u∈L1 i,u∈L2 i):∀i,i<=ys.length->Cq C (r2.take i)<=Cq C (r1.take i)
 | 0,_=>by simp
 | i+1,hi=>by
  have ih:=Wp (C:=C) h1 h2 hC hin i (by omega)
  obtain⟨a,ea⟩:∃r,r1[i]?=some r:=⟨_,Fb (by rw[h1.1];omega)⟩
  obtain⟨b,eb⟩:∃r,r2[i]?=some r:=⟨_,Fb (by rw[h2.1];omega)⟩
  have ka:=(h1.2.2 i _ ea).1;have kb:=(h2.2.2 i _ eb).1;rw[RA (l:=r1),ea,RA (l:=r2),eb];show Cq C (r2.take i++[b])<=Cq C (r1.take i++[a]);rw[N43.Ij,N43.Ij,ka.b,ka.n,kb.b,kb.n];have hc:=hC _ (Ff (N41.C9 (ys:=ys) (k:=i) (by omega)))
  by_cases m1:ys.getD i Str.empty∈L1 i
  . have m2:=hin i (by omega) _ m1
    rw[if_pos (Fi m1),if_pos (Fi m2)];omega
  . rw[if_neg (c:=decide (ys.getD i Str.empty∈L1 i)=true) (by rw[Fk m1];decide)]
    by_cases m2:ys.getD i Str.empty∈L2 i
    . rw[if_pos (Fi m2)];omega
    . rw[if_neg (c:=decide (ys.getD i Str.empty∈L2 i)=true) (by rw[Fk m2];decide)];omega
def gl(C:Str->Int)(W:List Int)(ys:List Str):Nat->Int
 | 0=>0
 | n+1=>gl C W ys n+N41.Bo C (λ_=>1) W 1 ys n
theorem J9r{C:Str->Int}{W:List Int}{P:Int}{ys:List Str}:∀n,N41.fl C (λ_=>1) W 1 P ys n=gl C W ys n - (P - 1) * (W.take n).sum
 | 0=>by simp[N41.fl,gl]
 | n+1=>by
  show N41.fl C (λ_=>1) W 1 P ys n+(N41.Bo C (λ_=>1) W 1 ys n - W.getD n 0 * (P - 1))=gl C W ys n+N41.Bo C (λ_=>1) W 1 ys n - (P - 1) * (W.take (n+1)).sum;rw[J9r n]
  have e:(W.take (n+1)).sum=(W.take n).sum+W.getD n 0:=by
   rw[RA,HQ,Fc]
   cases W[n]? <;> simp
  rw[e,Jo,Int.mul_comm (W.getD n 0) (P - 1)];omega
def Kf:Sp:=λvs H Q _=>∃(i:Int) (m:Nat),vs=[.int i,.int m]/\m<=26/\∀(p:Addr) (ys:List Str) (H':Hp),H p=none->A7 H H'->H' p=some (.lst (ys.map V.str))->ys.length=m->ys.Nodup->(∀y∈ys,Dr y.cps.toList=true)->Q (.ref p) H'
def M9(K:PySem.W.Frag)(S:Addr)(c:C7):Sp:=λvs H Q _=>∃(k P:Nat) (st a:Addr) (ts:List Th) (ys:List Str) (h:ys.length<=1000),vs=[.ref st,.ref a,.int k,.int P]/\k<=5/\N63.Kk K S H st a P ts ys/\ys.length<=40/\
 ∀(b:Addr) (as gs:List Addr) (H':Hp),A7 H H'->BkP H' b as gs (rw7 c ts P ys (wk ys h k))->Q (.ref b) H'
def Kg:Sp:=λvs H Q _=>∃(t g ly:Addr) (P:Int) (z:Str) (b:Bool) (l L:List Str),vs=[.ref t,.str z,.ref ly,.int P]/\H t=some (.tup [.str z,.bl b,.ref g])/\H g=some (.lst (l.map V.str))/\H ly=some (.lst (L.map V.str))/\b=decide (z∈L)/\L.length<=1000/\((z∈L\/(L.length:Int) < P)->l=[])/\(¬(z∈L\/(L.length:Int) < P)->∃u∈L,l=[u])/\∀H',A7 H H'->Q (.bl true) H'
structure Ov(H:Hp)(t:Addr)(qs:List Addr)(L:Nat->List Str)(n:Nat):Prop where
 l:H t=some (.lst (qs.map V.ref))
 n:qs.length=n
 q:∀(i:Nat) q,qs[i]?=some q->H q=some (.lst ((L (i+1)).map V.str))
theorem Ov.same{H:Hp}{t:Addr}{qs:List Addr}{L:Nat->List Str}{n:Nat}(h:Ov H t qs L n)(s:A7 H H'):Ov H' t qs L n:=⟨s _ _ h.l,h.n,λi q e=>s _ _ (h.q i q e)⟩
def Gb(K:PySem.W.Frag):Sp:=λvs H Q _=>∃(b a co:Addr) (P:Nat) (as gs:List Addr) (ys ns:List Str) (rs:List N14.Row) (L:Nat->List Str) (C:Str->Int),vs=[.ref b,.ref a,.ref co,.int P]/\BkP H b as gs rs/\SqL K H a (ys.map V.str)/\E3 H co ns C/\(∀y∈ys,y∈ns)/\ys.length<=200/\L6 P ys rs L/\(∀i,i<=ys.length->(L i).length<=200)/\
 ∀(x t:Addr) (qs:List Addr) (H':Hp),A7 H H'->H' x=some (.lst [.int (Cq C rs),.ref t])->Ov H' t qs L ys.length->Q (.ref x) H'
def Kh(K:PySem.W.Frag):Sp:=λvs H Q _=>∃(a co p:Addr) (P:Int) (ys ns:List Str) (C:Str->Int) (ps:List Addr) (q:Nat->Int),vs=[.ref a,.ref co,.int P,.ref p]/\SqL K H a (ys.map V.str)/\ys.length<=200/\E3 H co ns C/\(∀y∈ys,y∈ns)/\(∀y∈ns,0<=C y/\C y<=10 ^ 30)/\0<=P/\P<=1000000/\H p=some (.lst (ps.map V.ref))/\ps.length=ys.length/\(∀(i:Nat) c,ps[i]?=some c->H c=some (.tup (N43.prV q i)))/\(∀i,i < ps.length->q i<=q (i+1))/\(∀t∈N43.C6 q ys.length,0<=t/\t<=10 ^ 71)/\∀H',A7 H H'->Q (.int (N41.fl C (λ_=>1) (N43.C6 q ys.length) 1 P ys ys.length)) H'
def Ma(tp:Addr)(pos:Pos)(qual:Str)(K:PySem.W.Frag)(S X:Addr):Sp:=λvs H Q _=>∃(st a co:Addr) (P:Nat) (ts:List Th) (ys ns:List Str) (C:Str->Int),vs=[.ref st,.ref a,.ref co,.int P]/\N63.Kk K S H st a P ts ys/\ys.length<=40/\N43.Wl C ns ts/\E3 H co ns C/\(∀y∈ys,y∈ns)/\(∀y∈ns,0<=C y/\C y<=10 ^ 30)/\1<=P/\P<=1000000/\D6 tp pos qual H/\
 ∀(tk:List Bool) (h:List Int) (H':Hp),N55.Tk tp pos qual H H'->FE (ys.length+1) (N43.jps (N41.cst ts) ys ys.length) tk ((P:Int) - 1) h->Q (.int (Cq (N41.cst ts) (rwP X ts P ys tk))) H'
def Gd:Sp:=λvs H Q _=>∃(a b:Addr) (as bs:List Addr) (A B:Nat->List Str) (n:Nat),vs=[.ref a,.ref b]/\Ov H a as A n/\Ov H b bs B n/\n<=200/\(∀i,i<=n->∀u∈A i,u∈B i)/\(∀i,i<=n->(A i).length<=200/\(B i).length<=200)/\∀H',A7 H H'->Q (.bl true) H'
def L8(tp:Addr)(K:PySem.W.Frag):Sp:=λvs H Q _=>∃(a:Addr) (ns:List Int),vs=[.ref a]/\SqL K H a (ns.map V.int)/\ns.length<=63/\H tp=some (.tbl #[])/\∀H',Q (.bl true) H'
theorem mk7{K:PySem.W.Frag}{Sh:Addr}{c:C7}{w:W7}{H:Hp}{st a x l:Addr}{P:Nat}{E:XK}(ok:N63.Kk K S H st a P ts ys)(hyl:ys.length<=40)(sm:A7 H H')(hM:∀m∈M,H m=none)(hA:(T7 c w).At H' M x st P (s70 c w))(hl:H' l=none)
 (q:∀(b:Addr) (as gs:List Addr) (HE:Hp),A7 H HE->BkP HE b as gs (rw7 c ts P ys w)->Q (.ref b) HE):Dy (T7 c) K S Sh [.ref x,.ref l] (upd H' l (.lst (ys.map V.str))) Q E:=by
 have sD:A7 H' (upd H' l (.lst (ys.map V.str))):=A7.new hl;have nam:l∉M:=λh=>Au.live _ hA l h hl;refine⟨w,H,x,st,l,M,(P:Int),ts,ys,s70 c w,rfl,Au.dep _ (λm hm o e=>sD _ _ e) hA,Wo (by have:=ok.n1;omega),ok.s,sm.trans sD,hM,ok.nd,ok.tl,SqL.of A1,nam,by omega,ok.i,ok.r,ok.n1,ok.n2,by rw[Jd4];decide,λb bs gs HE kpE hbE htE bkE atE hbn hbg hgn hxE=>?_⟩;have grl:(grows (T7 c w) (rm ts) P (s70 c w) ys ys.length).length=ys.length:=Ej;refine q b bs gs HE (Kp.same (sm.trans sD) kpE hM) ⟨hbE,bkE.n,bkE.m,λi c' g' r h1 h2 h3=>?_⟩
 have hil:i < ys.length:=by rw[<- grl];exact(Fd.mp h3).1
 have er:r=NR.grow (T7 c w) (rm ts) P (s70 c w) ys i:=by
  unfold rw7 grows at h3;rw[Fe,FS hil]at h3;exact(FG h3).symm
 rw[er];exact⟨(hxE i c' g' h1 h2).2.2.2.1,(hxE i c' g' h1 h2).2.2.2.2⟩
def spJ{ι:Type}(T:ι->Au)(K:PySem.W.Frag)(C x l:Addr)(H:Hp)(Q:VK):Prop:=∃(b:ι) (H0:Hp) (p:Addr) (M:List Addr) (n:Int) (ts:List Th) (ys:List Str) (s0:(T b).St),(T b).At H M x p n s0/\(T b).inv (ts.map (·.1)) n s0 []/\Av K C H0 p ts/\A7 H0 H/\(∀m∈M,H0 m=none)/\(ts.map (·.1)).Nodup/\ts.length<=60/\SqL K H l (ys.map V.str)/\l∉M/\ys.length<=200/\(∀y∈ys,y∈ts.map (·.1))/\(∀y∈ys,rm ts y<=n)/\1<=n/\n<=1000000/\(T b).cnt s0<=50/\∀(b':Addr) (as gs:List Addr) (H':Hp),Kp M H H'->H' b'=some (.lst (as.map V.ref))->(∀(i:Nat) a,as[i]?=some a->∃xs,H' a=some (.tup xs))->J5o K H' b' as gs (grows (T b) (rm ts) n s0 ys ys.length)->(T b).At H' M x p n (gst (T b) (rm ts) n s0 ys ys.length).1->H b'=none->b'∉gs->gs.Nodup->(∀(i:Nat) a g,as[i]?=some a->gs[i]?=some g->H a=none/\H g=none/\g∉M/\H' a=some (.tup [.str (NR.grow (T b) (rm ts) n s0 ys i).1,.bl (NR.grow (T b) (rm ts) n s0 ys i).2.1,.ref g])/\H' g=some (.lst ((NR.grow (T b) (rm ts) n s0 ys i).2.2.map V.str)))->Q (.ref b') H'
theorem mk8{K:PySem.W.Frag}{c:C7}{w:W7}{H:Hp}{st a x l:Addr}{M:List Addr}{P:Nat}(ok:N63.Kk K S H st a P ts ys)(hyl:ys.length<=40)(sm:A7 H H')(hM:∀m∈M,H m=none)(hA:(T7 c w).At H' M x st P (s70 c w))(hl:H' l=none)
 (q:∀(b:Addr) (as gs:List Addr) (HE:Hp),A7 H HE->BkP HE b as gs (rw7 c ts P ys w)->Q (.ref b) HE):spJ (T7 c) K S x l (upd H' l (.lst (ys.map V.str))) Q:=by
 obtain⟨b0,H0,q0,p0,a0,M0,n0,ts0,ys0,s0,e0,r0⟩:=mk7 (Sh:=S) (E:=E0) ok hyl sm hM hA hl q;cases e0;exact⟨b0,H0,p0,M0,n0,ts0,ys0,s0,r0⟩
section
variable {tp:Addr}{pos:Pos}{qual:Str}{H H':Hp}{K:PySem.W.Frag}
theorem Qk{co:Addr}{ns:List Str}{C:Str->Int}(t:N55.Tk tp pos qual H H')(h:D6 tp pos qual H)(r:E3 H co ns C):E3 H' co ns C:=by
 obtain⟨kc,h1,h2⟩:=r;exact⟨kc,t.get h h1 (λ_ z=>by cases z),h2⟩
theorem J6w{st a:Addr}{n:Int}(t:N55.Tk tp pos qual H H')(h:D6 tp pos qual H)(r:N63.Kk K S H st a n ts ys):N63.Kk K S H' st a n ts ys:=by
 refine⟨?_,r.nd,r.tl,t.lst h r.a,r.l,r.i,r.r,r.n1,r.n2⟩;rcases h with h | ⟨c,h,_⟩
 . exact NPb.Av.odd t.but h (.inl ⟨_,rfl⟩) r.s
 . exact NPb.Av.odd t.but h (.inl ⟨_,rfl⟩) r.s
theorem Jd6{C:Str->Int}{X:Addr}{P:Nat}{ns:List Str}{tk:List Bool}(so:N43.Wl C ns ts)(hin:∀y∈ys,y∈ns):Cq C (rwP X ts P ys tk)=Cq (N41.cst ts) (rwP X ts P ys tk):=N43.Qh λrr hrr=>by
 obtain⟨i,hi⟩:=FC.mp hrr;obtain⟨hil,er⟩:=N43.U8 hi
 have e1:rr.1=ys.getD i Str.empty:=by rw[er];exact N43.Wk
 rw[e1];exact(so.c _ (hin _ (Ff (N41.C9 hil)))).symm
theorem J9s{C:Str->Int}{P:Nat}{ns:List Str}{rs:List N14.Row}{L:Nat->List Str}(hR:L6 P ys rs L)(so:N43.Wl C ns ts)(hin:∀y∈ys,y∈ns):Cq C rs=Cq (N41.cst ts) rs:=N43.Qh λrr hrr=>by
 obtain⟨i,hi⟩:=FC.mp hrr;have k:=(hR.2.2 i rr hi).1.n
 have hil:i < ys.length:=by rw[<- hR.1];exact(Fd.mp hi).1
 rw[k];exact(so.c _ (hin _ (Ff (N41.C9 hil)))).symm
end
def J9t(l:List Str):V->Bool
 | .str u=>!decide (u∈l)
 | _=>false
theorem Xv{l xs:List Str}:((xs.map V.str).filter (J9t l)).map id=(xs.filter λu=>!decide (u∈l)).map V.str:=by
 rw[List.map_id]
 induction xs with
 | nil=>rfl
 | cons x r ih=>
  rw[List.map_cons,Hc,Hc,ih];show (if (!decide (x∈l))=true then _ else _)=_
  split <;> simp
theorem Xw{P:Nat}{l l':List Str}{z:Str}{r:N14.Row}(h:Ou P l z r l')(nd:l.Nodup):l'=if r.2.1 then l.filter (λu=>!decide (u∈r.2.2)) else l.filter (λu=>!decide (u∈r.2.2))++[z]:=by
 obtain⟨m,hm,e⟩:=h.mid
 have em:l.filter (λu=>!decide (u∈r.2.2))=m:=by
  rcases hm with ⟨e1,e2⟩ | ⟨u,hu,e1,e2⟩
  . rw[e1,e2];simp
  . rw[e1,e2,nd.erase_eq_filter]
    exact Jj λy _=>by by_cases hy:y=u <;> simp[hy]
 rw[em];exact e
theorem Ov.snoc{H:Hp}{t q:Addr}{qs:List Addr}{L:Nat->List Str}{n:Nat}(h:Ov H t qs L n)(hq:H q=some (.lst ((L (n+1)).map V.str)))(n1:t≠q)(n2:t∉qs):Ov (upd H t (.lst (qs.map V.ref++[V.ref q]))) t (qs++[q]) L (n+1):=by
 refine⟨by rw[A1,Fo];rfl,by rw[Fl,h.n];rfl,λi q' e=>?_⟩;have hm:=Ff e
 rw[A2 (λe2=>by
  rw[e2]at hm;rcases FL.mp hm with h1 | h1
  . exact n2 h1
  . exact n1 (Fj.mp h1))]
 rcases P7 e with ⟨l1,c1⟩ | ⟨l1,c1⟩
 . exact h.q i q' c1
 . rw[c1,l1,h.n];exact hq
end N94
open PySem PySem.W PyProof.Rows
namespace L2
structure Bs(P:Program)(w:World)(K:PySem.W.Frag)(mg:Str->Option Value)(base:Heap):Prop where
 ex:∃h:Heap,K.In h/\h.Ns mainGlobals mg
theorem lc{us:List α}{n:Nat}(h:us.length=n+1):∃u r,us=u::r/\r.length=n:=by
 cases us with
 | nil=>cases h
 | cons u r=>exact⟨u,r,rfl,Nat.succ.inj h⟩
theorem l0{us:List α}(h:us.length=0):us=[]:=by
 cases us with
 | nil=>rfl
 | cons u r=>cases h
section
variable {P:Program}{w:World}{K:PySem.W.Frag}{mg:Str->Option Value}{base:Heap}{CX:CXT}{k:Nat}{sp:Sp}{ps:List Str}{x qual n p1 p2 p3 p4 p5 p6 p7:Str}{st:Stmt}{f C:Addr}{fd:FuncData}
theorem Fun.d(F:Fun K x qual st f fd)(B:Bs P w K mg base)(a:PySem.W.nsIn K mainGlobals x=some (some (.ref f)))(o:Al P w K mg base CX k f fd ps sp)(b:C4 K fd ps []):Def P w K mg base CX k x ps sp:=
 let ⟨_,X,G⟩:=B.ex;⟨f,fd,o,PySem.W.mg_of X G a,F.kp,b⟩
theorem Fun.m(F:Fun K x qual st f fd)(B:Bs P w K mg base)(M:J17 K C x f)(o:Al P w K mg base CX k f fd ps sp)(b:C4 K fd ps []):DefM P w K mg base CX k C x ps sp:=
 ⟨f,fd,o,M,b⟩
theorem Fun.i(F:Fun K x qual st f fd)(B:Bs P w K mg base)(M:Mk K C f)(a:PySem.W.nsIn K mainGlobals n=some (some (.ref C)))(o:Al P w K mg base CX k f fd ps sp)(b:C4 K fd ps []):Os P w K mg base CX k n C ps sp:=
 let ⟨_,X,G⟩:=B.ex;⟨f,fd,o,M,PySem.W.mg_of X G a,b⟩
theorem Fun.e1(F:Fun K x qual st f fd)(h:∀(kV doc pm:Value) (an:Option Addr) (cdv ct u:Value),bindArgs (PySem.W.fnOf x qual (Ba st) (B5 st) (A6 st) .none kV doc pm an cdv ct) ⟨[u],[]⟩=pure [(p1,u)]):C4 K fd [p1] []:=
 F.binds (ps:=[p1]) λkV doc pm an cdv ct us hl=>by
  obtain⟨u,us,rfl,h1⟩:=lc hl;cases l0 h1;exact h kV doc pm an cdv ct u
theorem Fun.e2(F:Fun K x qual st f fd)(h:∀(kV doc pm:Value) (an:Option Addr) (cdv ct u v:Value),bindArgs (PySem.W.fnOf x qual (Ba st) (B5 st) (A6 st) .none kV doc pm an cdv ct) ⟨[u,v],[]⟩=pure [(p1,u),(p2,v)]):C4 K fd [p1,p2] []:=
 F.binds (ps:=[p1,p2]) λkV doc pm an cdv ct us hl=>by
  obtain⟨u,us,rfl,h1⟩:=lc hl;obtain⟨v,us,rfl,h2⟩:=lc h1;cases l0 h2;exact h kV doc pm an cdv ct u v
theorem Fun.e3(F:Fun K x qual st f fd)(h:∀(kV doc pm:Value) (an:Option Addr) (cdv ct u v w:Value),bindArgs (PySem.W.fnOf x qual (Ba st) (B5 st) (A6 st) .none kV doc pm an cdv ct) ⟨[u,v,w],[]⟩=pure [(p1,u),(p2,v),(p3,w)]):C4 K fd [p1,p2,p3] []:=
 F.binds (ps:=[p1,p2,p3]) λkV doc pm an cdv ct us hl=>by
  obtain⟨u,us,rfl,h1⟩:=lc hl;obtain⟨v,us,rfl,h2⟩:=lc h1;obtain⟨w,us,rfl,h3⟩:=lc h2;cases l0 h3;exact h kV doc pm an cdv ct u v w
theorem Fun.e4(F:Fun K x qual st f fd)(h:∀(kV doc pm:Value) (an:Option Addr) (cdv ct u v w y:Value),bindArgs (PySem.W.fnOf x qual (Ba st) (B5 st) (A6 st) .none kV doc pm an cdv ct) ⟨[u,v,w,y],[]⟩=pure [(p1,u),(p2,v),(p3,w),(p4,y)]):C4 K fd [p1,p2,p3,p4] []:=
 F.binds (ps:=[p1,p2,p3,p4]) λkV doc pm an cdv ct us hl=>by
  obtain⟨u,us,rfl,h1⟩:=lc hl;obtain⟨v,us,rfl,h2⟩:=lc h1;obtain⟨w,us,rfl,h3⟩:=lc h2;obtain⟨y,us,rfl,h4⟩:=lc h3;cases l0 h4;exact h kV doc pm an cdv ct u v w y
end
abbrev Gf(K:PySem.W.Frag)(x:Str)(st:Stmt):Prop:=∃(f:Addr) (fd:FuncData),PySem.W.nsIn K mainGlobals x=some (some (.ref f))/\Fun K x x st f fd
abbrev Gm(K:PySem.W.Frag)(C:Addr)(x q:Str)(st:Stmt):Prop:=∃(f:Addr) (fd:FuncData),J17 K C x f/\Fun K x q st f fd
abbrev Gi(K:PySem.W.Frag)(C:Addr)(q:Str)(st:Stmt):Prop:=∃(f:Addr) (fd:FuncData),Mk K C f/\Fun K "__init__" q st f fd
abbrev Gc(K:PySem.W.Frag)(x:Str)(C:Addr):Prop:=PySem.W.nsIn K mainGlobals x=some (some (.ref C))
abbrev Gn(K:PySem.W.Frag)(C:Addr)(x:Str):Prop:=PySem.W.findIn K (.ref C) x=some none
section
variable {P:Program}{w:World}{K:PySem.W.Frag}{mg:Str->Option Value}{base:Heap}{CX:CXT}{k:Nat}{sp:Sp}{ps:List Str}{x q n:Str}{st:Stmt}{C:Addr}
theorem Gf.d(F:Gf K x st)(B:Bs P w K mg base)(o:∀{f fd},Fun K x x st f fd->Al P w K mg base CX k f fd ps sp)(b:∀{f fd},Fun K x x st f fd->C4 K fd ps []:=by walk_at "bd"):Def P w K mg base CX k x ps sp:=
 let ⟨_,_,a,G⟩:=F;G.d B a (o G) (b G)
theorem Gm.m(F:Gm K C x q st)(B:Bs P w K mg base)(o:∀{f fd},Fun K x q st f fd->Al P w K mg base CX k f fd ps sp)(b:∀{f fd},Fun K x q st f fd->C4 K fd ps []:=by walk_at "bd"):DefM P w K mg base CX k C x ps sp:=
 let ⟨_,_,a,G⟩:=F;G.m B a (o G) (b G)
theorem Gi.i(F:Gi K C q st)(B:Bs P w K mg base)(a:Gc K n C)(o:∀{f fd},Fun K "__init__" q st f fd->Al P w K mg base CX k f fd ps sp)(b:∀{f fd},Fun K "__init__" q st f fd->C4 K fd ps []:=by walk_at "bd"):Os P w K mg base CX k n C ps sp:=
 let ⟨_,_,M,G⟩:=F;G.i B M a (o G) (b G)
end
theorem Jdm{n:Str}{N:List Str}{v:V}{vs:List V}:start (n::N) (v::vs)=some v::start N vs:=by
 simp[start]
theorem Jdn{n:Str}{N:List Str}:start (n::N) []=none::start N []:=rfl
theorem Jdo:start [] []=[]:=rfl
end L2
namespace K94
open L2 N1 N5 N31 N4 N6 N12 N32 N41 N14 N20 N18 N25 NR N22 N21 N24 N23 N26 N28 N34 N55 N63 NPb NF N43 N45 N94
def ql:Array Lean.Term:=("J3p J3q Jcf J93 J94 Jcg Jch Yc J3r Yd Jci J3s Ye J95 Yf J3t Yg J3u J96 J3v Yh J3w Yi J97 J98 J99 J9a J3x J3y Up Yj Uq Yk Yl Ur Ym Yn Us Yo scal Yp Yq J9c S8 Yr J42 J43 J9d J44 Ys J45 Uw true_implies false_implies Bool.false_and Bool.true_and Bool.and_true Bool.and_false Bool.false_or Bool.true_or Bool.or_true Bool.or_false J49 J4a Uz V0 J4c Yv J4d S9 Yw Yx Yy J47 Uy J9e Int.zero_add Int.toNat_natCast Sw List.map_cons List.map_nil List.getD_cons_zero List.getD_cons_succ J3o List.length_cons List.length_nil List.getElem?_cons_zero List.getElem?_cons_succ List.set_cons_zero List.set_cons_succ Option.some.injEq V.int.injEq V.bl.injEq V.str.injEq V.ref.injEq V.ty.injEq exists_eq_left' exists_eq_left exists_and_left exists_eq exists_eq' List.cons.injEq and_true true_and decide_eq_true_eq Bool.not_eq_true' decide_eq_false_iff_not reduceCtorEq exists_const Bool.true_eq_false Bool.false_eq_true if_true if_false ite_true ite_false Bool.not_true Bool.not_false decide_true decide_false Bool.not_not false_and and_false exists_false false_or or_false true_or or_true and_assoc not_true_eq_false not_false_eq_true Int.reduceToNat Nat.reduceAdd Oz P0 Iw Ez Lc Ld N8 To Le Iz Iy N41.Lf P6 Ng Va Sf J05 Sg V7 Na Nb Nc P4 Vl J0d Vz V9 Vq Vr J09 Vm W1 J0b J0n Br Bh C0 C1 Kx Ni Sm V8 Ja5 J0g J4u Ib J5f J0i Vx G0 Kw spW K0 Gu J6n J5s Eh K7 Lx K8 K9 Lz Ka M3 M8 Kb G8 M4 M5 Kc G9 M6 Ik Kd M7 Ke Ga K1 Es Dg Lj G4 Lk G5 Ic K3 G6 Ll Ln Ih Lv Dy Wc K6 G3 Li Ia G1 Gz Lh Ie K4 G7 Lo Ig Lq Lr Ls Lu K5 W9 Kf M9 Kg Gb Kh Ma Gd L8 J5n".splitOn " ").toArray.map λs=>⟨(Lean.mkIdent s.toName).raw⟩
local macro_rules | `(tactic| walk_at "rq") => `(tactic| simp only[$[$ql:term],*])
local macro_rules | `(tactic| walk_at "rd") => `(tactic| first | (dsimp only[$[$ql:term],*]; try walk_at "rq") | walk_at "rq")
local macro_rules | `(tactic| walk_at "hp") => `(tactic| first | with_reducible assumption | exact A1 | (rw[A2 (by first | with_reducible assumption | exact Ac (by with_reducible assumption) (by with_reducible assumption))]; first | with_reducible assumption | exact A1))
local macro_rules | `(tactic| walk_at "sq") => `(tactic| (repeat' first | with_reducible assumption | exact SqT.of A1 | exact SqL.of A1 | refine' A7.tup (A7.new (by with_reducible assumption)) ?_ | refine' A7.seq (A7.new (by with_reducible assumption)) ?_))
local macro_rules | `(tactic| walk_at "isi") => `(tactic| first | exact J3c | exact J3d | exact X6 | exact Jae | exact Jag | exact J3f | exact Jah | exact J3e | exact Jaf | exact J3g | exact Jai | exact J3k (by walk_at "hp") | exact Pt (by walk_at "hp") | exact J3n (by walk_at "hp") | exact J3j (by walk_at "hp") | exact J3l (by walk_at "hp") | exact J3h (by walk_at "hp") | exact J3m (by walk_at "hp") | exact J3i (by walk_at "hp"))
local macro_rules | `(tactic| walk_at "slen") => `(tactic| first | omega | decide +kernel | (refine Jaw ?_ ?_ <;> walk_at "slen"))
local macro_rules | `(tactic| walk_at "side") => `(tactic| first | with_reducible assumption | with_reducible exact Tc (by omega) (by omega) | with_reducible exact J7e (by decide) (by decide) (by decide) | with_reducible exact Jam (by omega) (by omega) | with_reducible exact Jan (by omega) (by omega) | omega | decide | decide +kernel | (have := Eo; omega) | (simp only[Yt, J7h, Eo]; omega) | (rw[Eo]; walk_at "slen"; done))
local macro_rules | `(tactic| walk_at "go1") => `(tactic| first | walk_at "rd" | ((with_reducible refine And.intro ?_ ?_); (focus (walk_at "side"; done))) | ((with_reducible apply Jaj); (focus (walk_at "isi"; done))) | ((with_reducible apply B6); (focus (walk_at "sq"; done)); (focus rfl)) | ((with_reducible apply Bb); (focus (walk_at "sq"; done)); (focus rfl)) | ((with_reducible apply J7b); (focus (walk_at "sq"; done))) | ((with_reducible apply J7a); (focus (walk_at "sq"; done))) | ((with_reducible apply J1g); (focus (walk_at "sq"; done)); (focus (assumption; done))) | ((with_reducible apply J7d); (focus (walk_at "sq"; done)); (focus (decide; done)); (focus (assumption; done))) | (intro (_ : List (Addr × PySem.Obj)) (_ : PySem.Value -> PySem.Shared -> Prop)) | with_reducible refine Jal λ_ _ => ?_ | (refine J7c (by with_reducible assumption) ?_; subst_vars))
local macro_rules | `(tactic| walk_at "go") => `(tactic| repeat walk_at "go1")
local macro_rules|`(tactic|ext)=>`(tactic|walk_at "go")
local macro_rules|`(tactic|ext:1)=>`(tactic|walk_at "rs")
local macro_rules|`(tactic|ext:2)=>`(tactic|walk_at "ok")
local macro_rules|`(tactic|ext:3)=>`(tactic|walk_at "sc")
local macro_rules|`(tactic|ext:4)=>`(tactic|walk_at "st")
def top(i:Nat):Stmt:=PySem.Challenge.pw_castoff_k94_whole_best_under_every_rule.main.body.getD i (.Pass ⟨0,0,0,0⟩)
structure Txt(K:W.Frag)(mg:Str->Option Value)(Z7 Z9 Za Z02 Zd Z4 Z1 Z0 Z5 Z6 Z3 Z2:Addr):Prop where
 Zbe:mg "Stock"=some (.ref Z7)
 Zw:Cls K Z7
 Zu:Am K Z7 "things"
 Zbf:mg "Shelf"=some (.ref Z9)
 Zi:Cls K Z9
 Z1n:Am K Z9 "stock"
 Z2b:Am K Z9 "places"
 Z08:Am K Z9 "rooms"
 Zbg:mg "Climb"=some (.ref Za)
 Zx:Cls K Za
 Zg:Am K Za "heights"
 Z0q:Am K Za "ways"
 Z83:mg "Rule"=some (.ref Z02)
 Zbh:Cls K Z02
 Z6y:Am K Z02 "stock"
 Z6t:Am K Z02 "places"
 Z6j:mg "Ranked"=some (.ref Zd)
 Zba:Cls K Zd
 Z6e:Am K Zd "stock"
 Z5o:Am K Zd "places"
 Z58:Am K Zd "present"
 Z6u:Am K Zd "last"
 Zbd:mg "Oldest"=some (.ref Z4)
 Z05:Cls K Z4
 Z2c:Am K Z4 "stock"
 Z1s:Am K Z4 "places"
 Z0r:Am K Z4 "present"
 Z1o:Am K Z4 "last"
 Zbb:mg "Halving"=some (.ref Z1)
 Zb:Cls K Z1
 Z1t:Am K Z1 "stock"
 Z1b:Am K Z1 "places"
 Z07:Am K Z1 "present"
 Z15:Am K Z1 "last"
 Z2d:Am K Z1 "turn"
 Zo:Am K Z1 "tally"
 Zb9:mg "Farthest"=some (.ref Z0)
 Zc:Cls K Z0
 Z1c:Am K Z0 "stock"
 Z11:Am K Z0 "places"
 Z06:Am K Z0 "present"
 Z0w:Am K Z0 "last"
 Z0c:Am K Z0 "asks"
 Zbi:mg "First"=some (.ref Z5)
 Z03:Cls K Z5
 Z2v:Am K Z5 "stock"
 Z2e:Am K Z5 "places"
 Z0d:Am K Z5 "present"
 Z3f:Am K Z5 "last"
 Z16:Am K Z5 "put_at"
 Zbj:mg "Hand"=some (.ref Z6)
 Zv:Cls K Z6
 Z3g:Am K Z6 "stock"
 Z2w:Am K Z6 "places"
 Zz:Am K Z6 "order"
 Z0g:Am K Z6 "marked"
 Zbk:mg "Rows"=some (.ref Z3)
 Z8:Cls K Z3
 Z3h:Am K Z3 "stock"
 Z0t:Am K Z3 "places"
 Zs:Am K Z3 "once"
 Zr:Am K Z3 "again"
 Zj:Am K Z3 "past_once"
 Zn:Am K Z3 "past_again"
 Z0b:Am K Z3 "bound"
 Z0a:Am K Z3 "returns"
 Zbc:mg "Planned"=some (.ref Z2)
 Zk:Cls K Z2
 Z1u:Am K Z2 "stock"
 Z1d:Am K Z2 "places"
 Z0h:Am K Z2 "present"
 Z17:Am K Z2 "last"
 Z1v:Am K Z2 "stays"
 Zq:mg "len"=none
 Zh:mg "isinstance"=none
 Z9d:mg "int"=none
 Z6z:mg "bool"=none
 Za7:mg "str"=none
 Z0i:mg "list"=none
 Za8:mg "all"=none
 Z0m:mg "range"=none
 Z1p:mg "enumerate"=none
 Z6k:mg "zip"=none
 Z7g:mg "sum"=none
 Z52:mg "min"=none
 Z6f:mg "tuple"=none
 Zao:mg "dict"=none
 Z9e:mg "max"=none
 Z5p:∃t,mg "LETTERS"=some (.str "abcdefghijklmnopqrstuvwxyz" t)
 Z70:∃t,mg "FIGURES"=some (.str "0123456789" t)
 Z59:∃t,mg "MOST_SIGNS"=some (.int 8 t)
 Z4p:∃t,mg "MOST_THINGS"=some (.int 60 t)
 Z5z:∃t,mg "MOST_ROOM"=some (.int 1000 t)
 Z4q:∃t,mg "MOST_PLACES"=some (.int 1000000 t)
 Z60:∃t,mg "MOST_ASKS"=some (.int 200 t)
 Z61:∃t,mg "MOST_BEST"=some (.int 40 t)
 Z62:∃t,mg "MOST_TURN"=some (.int 200 t)
local macro_rules | `(tactic| walk_at "sc") => `(tactic| exact⟨rfl, rfl, rfl, by decide +kernel, rfl, by decide +kernel, by decide +kernel⟩)
local macro_rules | `(tactic| walk_at "su") => `(tactic| simp only[Jdm, Jdn, Jdo])
set_option hygiene false in
local macro_rules | `(tactic| walk_at "st") => `(tactic| (walk_at "su"; have line := Eo))
local macro_rules | `(tactic| walk_at "bd") => `(tactic| (intro _ _ F; first | (refine F.e1 ?_; exact λ_ _ _ _ _ _ _ => rfl) | (refine F.e2 ?_; exact λ_ _ _ _ _ _ _ _ => rfl) | (refine F.e3 ?_; exact λ_ _ _ _ _ _ _ _ _ => rfl) | (refine F.e4 ?_; exact λ_ _ _ _ _ _ _ _ _ _ => rfl) | (refine F.e0 ?_; exact λ_ _ _ _ _ _ => rfl) | (refine F.e5 ?_; exact λ_ _ _ _ _ _ _ _ _ _ _ => rfl) | (refine F.e6 ?_; exact λ_ _ _ _ _ _ _ _ _ _ _ _ => rfl)))
section
variable {P:Program}{w:World}{K:W.Frag}{mg:Str->Option Value}{base:Heap}{Z7 Z9 Za Z02 Zd Z4 Z1 Z0 Z5 Z6 Z3 Z2:Addr}
variable {f:Addr}{fd:FuncData} (T:Txt K mg Z7 Z9 Za Z02 Zd Z4 Z1 Z0 Z5 Z6 Z3 Z2)
set_option hygiene false in
local macro_rules | `(tactic| walk_at "ok") => `(tactic| refine F.ok sc (λvs H Q E h_ => ?_) (λcdv A outer s H vs Q E hr h_ => ?_))
set_option hygiene false in
local macro_rules | `(tactic| walk_at "rt") => `(tactic| (rename_i rest hrest; subst hrest))
local macro_rules | `(tactic| walk_at "rs") => `(tactic| (walk_at "rt"; ext))
abbrev Z6l:Stmt:=top 14
abbrev Z63:Stmt:=top 15
abbrev Z44:Stmt:=top 18
abbrev Z71:Stmt:=top 26
abbrev Z72:Stmt:=top 27
abbrev Z4r:Stmt:=top 28
abbrev Z5a:Stmt:=Af (top 29) 0
abbrev Z64:Stmt:=Af (top 29) 2
abbrev Z38:Stmt:=Af (top 29) 3
abbrev Z3i:Stmt:=Af (top 29) 6
abbrev Z3j:Stmt:=Af (top 29) 5
abbrev Z5b:Stmt:=top 32
abbrev Z45:Stmt:=top 34
abbrev Z5c:Stmt:=Af (top 19) 0
abbrev Z4s:Stmt:=Af (top 19) 1
abbrev Z4t:Stmt:=Af (top 19) 2
abbrev Z2r:Stmt:=Af (top 19) 3
abbrev Z65:Stmt:=Af (top 19) 4
abbrev Z5d:Stmt:=Af (top 19) 5
abbrev Z73:Stmt:=top 35
abbrev Z25:Stmt:=top 36
abbrev Z5e:Stmt:=top 38
abbrev Z3k:Stmt:=top 39
abbrev Z46:Stmt:=top 40
abbrev Z5f:Stmt:=Af (top 41) 0
abbrev Z39:Stmt:=Af (top 41) 1
abbrev Z26:Stmt:=Af (top 41) 2
abbrev Z6m:Stmt:=top 42
abbrev Z74:Stmt:=top 43
abbrev Z1q:Stmt:=Af (top 46) 0
abbrev Z0u:Stmt:=Af (top 47) 0
abbrev Z4u:Stmt:=Af (top 47) 0
abbrev Z0n:Stmt:=Af (top 50) 0
abbrev Z3l:Stmt:=Af (top 51) 0
abbrev Z5g:Stmt:=Af (top 49) 0
abbrev Z66:Stmt:=Af (top 63) 0
abbrev Z67:Stmt:=Af (top 66) 0
abbrev Z1r:Stmt:=Af (top 47) 2
abbrev Z47:Stmt:=Af (top 47) 1
abbrev Z3a:Stmt:=Af (top 47) 3
abbrev Z0v:Stmt:=Af (top 47) 4
abbrev Z3m:Stmt:=Af (top 47) 5
abbrev Z4v:Stmt:=Af (top 46) 4
abbrev Z4w:Stmt:=Af (top 46) 5
abbrev Z3n:Stmt:=Af (top 50) 2
abbrev Z1e:Stmt:=Af (top 47) 2
abbrev Z2s:Stmt:=Af (top 47) 3
abbrev Z0o:Stmt:=Af (top 50) 5
abbrev Z3o:Stmt:=Af (top 50) 3
abbrev Z3b:Stmt:=Af (top 47) 5
abbrev Z48:Stmt:=Af (top 46) 4
abbrev Z49:Stmt:=Af (top 46) 5
abbrev Z18:Stmt:=Af (top 47) 2
abbrev Z27:Stmt:=Af (top 47) 3
abbrev Z1f:Stmt:=Af (top 51) 2
abbrev Z0e:Stmt:=Af (top 51) 3
abbrev Z3c:Stmt:=Af (top 47) 1
abbrev Z2t:Stmt:=Af (top 47) 5
abbrev Z3p:Stmt:=Af (top 46) 4
abbrev Z3q:Stmt:=Af (top 46) 5
abbrev Z28:Stmt:=Af (top 47) 2
abbrev Z4x:Stmt:=Af (top 47) 1
abbrev Z19:Stmt:=Af (top 49) 2
abbrev Z4a:Stmt:=Af (top 47) 5
abbrev Z5h:Stmt:=Af (top 46) 4
abbrev Z5i:Stmt:=Af (top 49) 1
abbrev Z5j:Stmt:=Af (top 63) 1
abbrev Z4y:Stmt:=Af (top 63) 2
abbrev Z68:Stmt:=Af (top 63) 3
abbrev Z69:Stmt:=Af (top 63) 4
abbrev Z9f:Stmt:=top 64
abbrev Z75:Stmt:=top 65
abbrev Z3d:Stmt:=Af (top 66) 2
abbrev Z5k:Stmt:=Af (top 66) 1
abbrev Z4z:Stmt:=Af (top 66) 3
abbrev Z5l:Stmt:=Af (top 66) 5
abbrev Z6a:Stmt:=Af (top 66) 4
abbrev Z6b:Stmt:=Af (top 66) 6
abbrev Z4b:Stmt:=Af (top 57) 0
abbrev Z1g:Stmt:=Af (top 47) 2
abbrev Z3r:Stmt:=Af (top 47) 1
abbrev Z2u:Stmt:=Af (top 47) 3
abbrev Z0p:Stmt:=Af (top 57) 1
abbrev Z3e:Stmt:=Af (top 47) 5
abbrev Z4c:Stmt:=Af (top 46) 4
abbrev Z4d:Stmt:=Af (top 46) 5
abbrev Z6c:Stmt:=top 52
abbrev Z7o:Stmt:=top 53
abbrev Z76:Stmt:=top 54
abbrev Z50:Stmt:=top 33
abbrev Z77:Stmt:=top 58
abbrev Z6n:Stmt:=top 59
abbrev Z6o:Stmt:=top 60
abbrev Z78:Stmt:=top 61
abbrev Z7p:Stmt:=top 68
abbrev Z79:Stmt:=top 69
abbrev Z7a:Stmt:=top 70
abbrev Z7q:Stmt:=top 71
abbrev Z51:Stmt:=top 72
abbrev Z6p:Stmt:=top 73
abbrev Z7b:Stmt:=top 74
abbrev Z7r:Stmt:=top 75
abbrev Z6q:Stmt:=top 76
abbrev Z53:Stmt:=top 77
def J8p:Tt:=Jcw (("paid_by"++".<locals>.")++"<lambda>") (Jcx (Jdf ((B5 Z25).getD 0 (.Pass ⟨0,0,0,0⟩))) 1)
include T in
theorem Z9x(F:Fun K "is_whole" "is_whole" Z6l f fd):Al P w K mg base CX0 1 f fd ["thing"] (Ez K):=by
 have sc:A9 ["thing"] ["thing"] (A6 Z6l):=by ext:3
 ext:2
 . exact n3 h_ λ_ _ _=>rfl
 refine x3 h_ λx b c e_=>y4 e_ λe0 h1 h2 q=>?_;clear e_ h_;subst e0;refine⟨_,(@A5 _ _ _ (@Ag _ _ _ _ (Ph (Aj Bm rfl T.Zh (by first | rfl | decide+kernel) (A0 (pv 0) (A0 (Da (v:= .ty "int") rfl T.Z9d (by first | rfl | decide+kernel) rfl) A3))) (Nq (Ws (Aj Bm rfl T.Zh (by first | rfl | decide+kernel) (A0 (pv 0) (A0 (Da (v:= .ty "bool") rfl T.Z6z (by first | rfl | decide+kernel) rfl) A3)))))))),?_⟩;walk_at "su";ext;refine⟨_,h1,?_⟩;cases b
 . ext
   exact q
 . ext
   refine⟨_,h2 rfl,?_⟩;ext;exact q
variable (Z54:Def P w K mg base CX0 1 "is_whole" ["thing"] (Ez K))
include T Z54 in
theorem Z9g(F:Fun K "is_within" "is_within" Z63 f fd):Al P w K mg base CX0 2 f fd ["thing","least","most"] (Lc K):=by
 have sc:A9 ["thing","least","most"] ["thing","least","most"] (A6 Z63):=by ext:3
 ext:2
 . exact n3 h_ λ_ _ _=>rfl
 refine x3 h_ λv lo hi e_=>y3 e_ λe0 hv q=>?_;clear e_ h_;subst e0;refine⟨_,(@A5 _ _ _ (@Ag _ _ _ _ (Ph (Ad Z54 hr rfl Ae (A0 (pv 0) A3)) (Nq (J2p J2n J2n (pv 1) (pv 0) (pv 2)))))),?_⟩;walk_at "su";obtain⟨b,c,h1,h2,h3,h4⟩:=J7n (K:=K) (H:=H) hv;ext;refine⟨b,h1,c,h2,?_⟩;split
 . rename_i h
   obtain⟨i,rfl⟩:=h3 h;simp only[wIn]at q;ext;split
   . rename_i h'
     rw[Fi h',Bool.true_and]at q;exact q
   . rename_i h'
     rw[Fk h',Bool.false_and]at q;exact q
 . rename_i h
   have e:wIn lo hi v=false:=by
    cases v with
    | int i=>exact absurd rfl (h4 (by simpa using h) i)
    | _=>rfl
   rw[e]at q;exact q
variable (Z00:Def P w K mg base CX0 2 "is_within" ["thing","least","most"] (Lc K))
include T Z00 in
theorem Z84(F:Fun K "check_places" "check_places" Z44 f fd):Al P w K mg base CX0 3 f fd ["places"] (Iy):=by
 have sc:A9 ["places"] ["places"] (A6 Z44):=by ext:3
 ext:2
 . exact n1 h_ λ_=>rfl
 refine x1 h_ λi e_=>y4 e_ λe0 h1 h2 q=>?_;clear e_ h_;subst e0
 refine⟨_,(@A5 _ _ _ (Az (C8 (Bg (Ad Z00 hr rfl Ae (A0 (pv 0) (A0 A8 (A0 (Iu rfl T.Z4q) A3))))))
  (@A5 _ _ _ Bv)
  An)),?_⟩
 walk_at "su";ext;rw[if_neg (by rw[O1 h1 h2];decide)];exact⟨rfl,q⟩
variable (Zl:Def P w K mg base CX0 3 "check_places" ["places"] (Iy))
include T in
theorem Za9(F:Fun K "made_of" "made_of" Z71 f fd):Al P w K mg base CX0 1 f fd ["text","signs"] (P0):=by
 have sc:A9 ["text","signs"] ["text","signs"] (A6 Z71):=by ext:3
 ext:2
 . exact n2 h_ λ_ _=>rfl
 refine x2 h_ λz w e_=>y3 e_ λe0 hz q=>?_;clear e_ h_;subst e0;refine⟨_,(@A5 _ _ _ (@Ag _ _ _ _ (Aj (J40 rfl) rfl T.Za8 (by first | rfl | decide+kernel) (A0 (Gp "sign" [1] rfl rfl (Jaq (pv 0)) (λb=>(Ef J46 (pv 0) (pv 1) (by with_unfolding_all rfl)))) A3)))),?_⟩;walk_at "su";ext;refine X9 (λc=>V.bl (decide (c∈w.cps.toList))) hz (λb c H' Q' hc sm q'=>?_) λD hD=>?_
 . ext
   exact q'
 . refine⟨_,rfl,z.cps.toList.map λc=>decide (c∈w.cps.toList),?_,?_⟩
   . rw[FP];exact SqL.of A1
   . rw[List.all_map];exact q _ (A7.new hD)
variable (Z5q:Def P w K mg base CX0 1 "made_of" ["text","signs"] (P0))
include T Z5q in
theorem Zaa(F:Fun K "is_name" "is_name" Z72 f fd):Al P w K mg base CX0 2 f fd ["thing"] (Iw K):=by
 have sc:A9 ["thing"] ["thing"] (A6 Z72):=by ext:3
 ext:2
 . exact n1 h_ λ_=>rfl
 refine x1 h_ λx e_=>y2 e_ λe0 hx=>?_;clear e_ h_;subst e0
 refine⟨_,(@A4 _ _ _ _ _ (Az (C8 (Bg (Aj Bm rfl T.Zh (by first | rfl | decide+kernel) (A0 (pv 0) (A0 (Da (v:= .ty "str") rfl T.Za7 (by first | rfl | decide+kernel) rfl) A3)))))
  (@A5 _ _ _ (@Ag _ _ _ _ Dl))
  An)
  (@A4 _ _ _ _ _ (Az (PW.pt (D5 (Ah Ml (Aj Mt rfl T.Zq FN (A0 (pv 0) A3)) A8 (nomark _)) (Dm (Ah Ew (Aj Mt rfl T.Zq FN (A0 (pv 0) A3)) (Iu rfl T.Z59) (nomark _)))))
   (@A5 _ _ _ (@Ag _ _ _ _ Dl))
   An)
  (@A5 _ _ _ (@Ag _ _ _ _ (Ph (Ef J46 (@As _ _ _ _ _ _ _ Pr (pv 0) A8 (λ_ _=>rfl)) (Ti rfl T.Z5p) (by with_unfolding_all rfl)) (Nq (Ad Z5q hr rfl Ae (A0 (pv 0) (A0 (Ao El (Ti rfl T.Z5p) (Ti rfl T.Z70)) A3))))))))),?_⟩
 walk_at "su";rcases hx with ⟨z,rfl,hz,q⟩ | ⟨hi,q⟩
 . ext
   have hl:=Tj (z:=z);split
   . rename_i h1
     have e:Dr z.cps.toList=false:=by unfold Dr;rw[Fk (show ¬1<=z.cps.toList.length by omega)];rfl
     rw[e]at q;exact q _ (A7.refl H)
   . rename_i h1
     refine⟨hz,?_⟩;split
     . have e:Dr z.cps.toList=false:=by unfold Dr;rw[Fk (show ¬z.cps.toList.length<=8 by omega),Bool.and_false];rfl
       rw[e]at q;exact q _ (A7.refl H)
     . rename_i h2
       obtain⟨c,r,hcr⟩:∃c r,z.cps.toList=c::r:=by
        cases h:z.cps.toList with
        | nil=>rw[h]at hl;simp at hl;omega
        | cons c r=>exact⟨c,r,rfl⟩
       have hn:Dr z.cps.toList=(decide (c∈Bx) && z.cps.toList.all λc=>decide (c∈Bx++Dd)):=by
        unfold Dr;rw[Fi (show 1<=z.cps.toList.length by omega),Fi (show z.cps.toList.length<=8 by omega)];rw[hcr];rfl
       rw[hn]at q;ext;refine Pu hz (by rw[hcr];exact Jdc) ?_;ext;rw[Vb];split
       . rename_i hc
         rw[Fi hc,Bool.true_and]at q;ext;rw[Ux,Vb,J4n];exact q
       . rename_i hc
         rw[Fk hc,Bool.false_and]at q;exact q _ (A7.refl H)
 . ext
   refine⟨_,hi,?_⟩;ext;exact q
variable (Z5r:Def P w K mg base CX0 2 "is_name" ["thing"] (Iw K))
include T Z5r Z00 in
theorem Z8i(F:Fun K "check_thing" "check_thing" Z4r f fd):Al P w K mg base CX0 3 f fd ["name","cost","room","earlier"] (Ld K):=by
 have sc:A9 ["name","cost","room","earlier"] ["name","cost","room","earlier"] (A6 Z4r):=by ext:3
 ext:2
 . exact n6 h_ λ_ _ _ _ _ _=>rfl
 refine x6 h_ λn co r e kvs ks e_=>y5 e_ λe0 he hk hrow q=>?_;clear e_ h_;subst e0
 refine⟨_,(@A4 _ _ _ _ _ (Az (C8 (Bg (Ad Z5r hr rfl Ae (A0 (pv 0) A3))))
  (@A5 _ _ _ Bv)
  An)
  (@A4 _ _ _ _ _ (Az (Pf (Nx (Bl hr) (pv 0) (pv 3)))
   (@A5 _ _ _ Bv)
   An)
  (@A4 _ _ _ _ _ (Az (C8 (Bg (Ad Z00 hr rfl Ae (A0 (pv 1) (A0 A8 (A0 (Ao J2l A8 A8) A3))))))
   (@A5 _ _ _ Bv)
   An)
  (@A5 _ _ _ (Az (C8 (Bg (Ad Z00 hr rfl Ae (A0 (pv 2) (A0 A8 (A0 (Iu rfl T.Z5z) A3))))))
   (@A5 _ _ _ Bv)
   An))))),?_⟩
 walk_at "su";obtain⟨z,c,w,rfl,rfl,rfl,nz,hb,h1,h2,h3,h4⟩:=Si hrow;have line:=Eo;have hz8:=J4q hb;ext;intro H1 sm1;rw[hb];have he1:=sm1 _ _ he;ext;refine⟨_,Cp.k (k:=Sum.inr z) he1,?_⟩;rw[N3 hk,Fk nz];ext;refine⟨rfl,?_⟩;split
 . rename_i h
   exact absurd h (by rw[O1 h1 h2];decide)
 . ext
   refine⟨rfl,?_⟩;split
   . rename_i h
     exact absurd h (by rw[O1 h3 h4];decide)
   . ext
     exact q _ sm1
variable (Z2x:Def P w K mg base CX0 3 "check_thing" ["name","cost","room","earlier"] (Ld K))
include T Z2x in
theorem Z8z(F:Fun K "__init__" "Stock.__init__" Z5a f fd):Al P w K mg base CX0 4 f fd ["self","rows"] (N8 K Z7):=by
 have sc:A9 ["self","rows","name","cost","room"] ["self","rows"] (A6 Z5a):=by ext:3
 ext:2
 . exact n4 h_ λ_ _ _ _=>rfl
 refine x4 h_ λp dx ra rs e_=>y6 e_ λe0 hp hrs hall er q=>?_;clear e_ h_;subst e0
 refine⟨_,(@A4 _ _ _ _ _ (Az (Ah Ew (Aj Ap rfl T.Zq FN (A0 (pv 1) A3)) (Iu rfl T.Z4p) (nomark _))
  (@A5 _ _ _ Bv)
  An)
  (@A4 _ _ _ _ _ (Bn (pv 0) D0 rfl)
  (@A5 _ _ _ (Ci PassesOwn.never rfl (Cs (pv 1)) (Il rfl (Bc (Ay (i:=2) sc.nd rfl (Or.inl rfl)) (Bc (Ay (i:=3) sc.nd rfl (Or.inl rfl)) (Bc (Ay (i:=4) sc.nd rfl (Or.inl rfl)) Ee))))
   (@A4 _ _ _ _ _ (Ak (Ad Z2x hr rfl Ae (A0 (pv 2) (A0 (pv 3) (A0 (pv 4) (A0 (Ab (pv 0) rfl) A3))))))
   (@A5 _ _ _ (Cf (Bl hr) (Ab (pv 0) rfl) (pv 2) (Cj (A0 (Aj J1f rfl T.Zq FN (A0 (Ab (pv 0) rfl) A3)) (A0 (pv 3) (A0 (pv 4) A3)))) rfl))))))),?_⟩
 ext:4;obtain⟨hl60,hstk⟩:=Xf er;ext;rw[Fa];split
 . rename_i h
   exact absurd h (by omega)
 . rename_i h
   ext;intro d hd;have npd:p≠d:=Ac hp hd;ext;refine⟨Z7,dx,[],by rw[A2 npd];exact hp,T.Zw,T.Zu,by decide,?_⟩
   have sb0:SameBut p H (upd (upd H d (.dK [])) p (.ins Z7 dx (flds d))):=λb o e n=>by rw[A2 n,A2 (Ac e hd)];exact e
   have hp0:upd (upd H d (.dK [])) p (.ins Z7 dx (flds d)) p=some (.ins Z7 dx (flds d)):=A1
   have hd0:upd (upd H d (.dK [])) p (.ins Z7 dx (flds d)) d=some (.dK []):=by rw[A2 npd.symm,A1]
   unfold flds at sb0 hp0 hd0;generalize upd (upd H d (HO.dK [])) p (HO.ins Z7 dx (Aa (Str.ofString "things") (V.ref d) []))=H0 at sb0 hp0 hd0 ⊢;ext;refine⟨⟨_,SqL.but sb0 hp hrs⟩,?_⟩;refine Iq (xs:=rs.map λt=>V.ref t.1) (λi σ H'=>∃v1 v2 v3,σ=[some (V.ref p),some (V.ref ra),v1,v2,v3]/\SameBut p H H'/\H' p=some (.ins Z7 dx (flds d))/\J08 K H' d (rs.take i)/\Kv (Kj (rs.take i)) (rs.drop i)=none) ⟨none,none,none,rfl,sb0,hp0,⟨[],hd0,rfl,λj t e=>by simp at e⟩,by rw[List.take_zero,List.drop_zero];exact hstk⟩ (λi σ H' _ h_=>by obtain⟨v1,v2,v3,_,sb,_⟩:=h_;exact SqL.but sb hp hrs) ?_ ?_
   . rintro i x σ H' hx ⟨v1,v2,v3,rfl,sb,hp',⟨kvs,hd',hk,hm⟩,hst⟩
     rw[Fe]at hx
     cases ht:rs[i]? with
     | none=>rw[ht]at hx;cases hx
     | some t=>
      rw[ht]at hx;simp only[R5,Option.some.injEq]at hx;subst hx;have hi:i < rs.length:=(Fd.mp ht).1;have r1:=SqT.but sb hp (hall t (Ff ht));rw[Vi ht]at hst
      have hkl:kvs.length=i:=by
       have:=congrArg List.length hk;simp[Kj]at this;omega
      cases hrow:Vf (Kj (rs.take i)) t.2.1 t.2.2.1 t.2.2.2 with
      | some e=>rw[hrow]at hst;cases hst
      | none=>
       rw[hrow]at hst;obtain⟨z,c,q',e1,e2,e3,nz,hb,_⟩:=Si hrow;ext;refine⟨_,r1,rfl,?_⟩;ext;refine⟨Z7,dx,flds d,hp',T.Zw,T.Zu,_,Di,d,rfl,kvs,hd',_,hk,hrow,λH1 sm1=>?_⟩;rw[e1,e2,e3];have hp1:=sm1 _ _ hp';have hd1:=sm1 _ _ hd';ext;refine⟨Z7,dx,flds d,hp1,T.Zw,T.Zu,_,Di,?_⟩;ext;refine⟨kvs,hd1,by omega,λt2 ht2=>?_⟩;have np2:p≠t2:=Ac hp1 ht2;have nd2:d≠t2:=Ac hd1 ht2
       have hd2:upd H1 t2 (.tup [.int kvs.length,.int c,.int q']) d=some (.dK kvs):=by rw[A2 nd2];exact hd1
       refine⟨Z7,dx,flds d,by rw[A2 np2];exact hp1,T.Zw,T.Zu,_,Di,d,rfl,_,Eu.k (k:=Sum.inr z) hd2 (by omega),?_,?_,?_,?_⟩
       . intro b o eb nb
         have h1:=sm1 _ _ (sb b o eb nb);rw[A2 (Ac eb hd),A2 (Ac h1 ht2)];exact h1
       . rw[A2 npd,A2 np2];exact hp1
       . rw[Ha,ht]
         refine J08.snoc hd2 hk (λj t' e=>?_) e1 e2 e3 nz A1;obtain⟨a,q1,q2⟩:=hm j t' e;exact⟨a,q1,(sm1.trans (A7.new ht2)).tup q2⟩
       . rw[Ha,ht]
         have e:Kj (rs.take kvs.length++(some t).toList)=Kj (rs.take kvs.length)++[sOf t.2.1]:=by unfold Kj;simp
         rw[e];exact hst
   . rintro σ H' ⟨v1,v2,v3,rfl,sb,hp',⟨kvs,hd',hk,hm⟩,hst⟩
     simp only[Fa,HU,List.drop_length]at hk hm hst;show Q V.non H';refine q _ sb ⟨dx,d,kvs,hp',hd',?_,λi t ht=>?_⟩
     . rw[hk];unfold Kj;rw[FP,FP];rfl
     . rw[Fe]at ht
       cases hr:rs[i]? with
       | none=>rw[hr]at ht;cases ht
       | some t'=>
        rw[hr]at ht;simp only[R5,Option.some.injEq]at ht;subst ht;exact hm i t' hr
variable (Z3s:Os P w K mg base CX0 4 "Stock" Z7 ["self","rows"] (N8 K Z7))
include T in
theorem Z9h(F:Fun K "has" "Stock.has" Z64 f fd):Al P w K mg base CX0 1 f fd ["self","name"] (To K Z7):=by
 have sc:A9 ["self","name"] ["self","name"] (A6 Z64):=by ext:3
 ext:2
 . exact n3 h_ λ_ _ _=>rfl
 refine x3 h_ λp ts z e_=>y3 e_ λe0 hs q=>?_;clear e_ h_;subst e0;refine⟨_,(@A5 _ _ _ (@Ag _ _ _ _ (J2c (Nx (Bl hr) (pv 1) (Ab (pv 0) rfl))))),?_⟩;walk_at "su";obtain⟨dx,d,kvs,h1,h2,h3,h4,h5⟩:=Av.has hs;ext;refine⟨Z7,dx,flds d,h1,T.Zw,T.Zu,_,Di,d,rfl,_,Cp.k (k:=Sum.inr z) h2,?_⟩;rw[h4];exact q
variable (Z4e:DefM P w K mg base CX0 1 Z7 "has" ["self","name"] (To K Z7))
include T in
theorem Z7h(F:Fun K "thing_of" "Stock.thing_of" Z38 f fd):Al P w K mg base CX0 1 f fd ["self","name"] (Iz K Z7):=by
 have sc:A9 ["self","name"] ["self","name"] (A6 Z38):=by ext:3
 ext:2
 . exact n3 h_ λ_ _ _=>rfl
 refine x3 h_ λp ts z e_=>y5 e_ λe0 hs nd hz q=>?_;clear e_ h_;subst e0
 refine⟨_,(@A4 _ _ _ _ _ (Az (Pf (J1e (Bl hr) (pv 1) (Ab (pv 0) rfl)))
  (@A5 _ _ _ Bv)
  An)
  (@A5 _ _ _ (@Ag _ _ _ _ (Ip (Bl hr) (Ab (pv 0) rfl) (pv 1) (λ_ _=>rfl))))),?_⟩
 walk_at "su";obtain⟨dx,d,kvs,h1,h2,h3,h4,h5⟩:=Av.has hs;have line:=Eo;ext;refine⟨Z7,dx,flds d,h1,T.Zw,T.Zu,_,Di,d,rfl,_,Cp.k (k:=Sum.inr z) h2,?_⟩;rw[h4,Fi hz];obtain⟨i,t,ht,rfl⟩:=J0a hz;obtain⟨a,e1,e2⟩:=h5 nd i t ht;ext;refine⟨Z7,dx,flds d,h1,T.Zw,T.Zu,_,Di,?_⟩;ext;refine⟨V.ref a,by rw[<- e1];exact Cp.k (k:=Sum.inr t.1) h2,?_⟩;exact q i t ht rfl a e2
variable (Z04:DefM P w K mg base CX0 1 Z7 "thing_of" ["self","name"] (Iz K Z7))
include T Z04 in
theorem Z7s(F:Fun K "room_of" "Stock.room_of" Z3i f fd):Al P w K mg base CX0 2 f fd ["self","name"] (Le K Z7):=by
 have sc:A9 ["self","name"] ["self","name"] (A6 Z3i):=by ext:3
 ext:2
 . exact n3 h_ λ_ _ _=>rfl
 refine x3 h_ λp ts z e_=>y5 e_ λe0 hs nd hz q=>?_;clear e_ h_;subst e0;refine⟨_,(@A5 _ _ _ (@Ag _ _ _ _ (@As _ _ _ _ _ _ _ B8 (B2 Z04 T.Zw hr (B4 Ae) (pv 0) (A0 (pv 1) A3)) A8 (λ_ _=>rfl)))),?_⟩;walk_at "su";obtain⟨dx,d,kvs,h1,h2,h3,h4,h5⟩:=Av.has hs;ext;refine⟨dx,flds d,h1,by rfl,?_⟩;ext;refine⟨ts,hs,nd,hz,λi t ht e a ha=>?_⟩;subst e;refine B6 ha rfl ?_;rw[J0e nd ht]at q;exact q
variable (Ze:DefM P w K mg base CX0 2 Z7 "room_of" ["self","name"] (Le K Z7))
include T Z04 in
theorem Z7t(F:Fun K "cost_of" "Stock.cost_of" Z3j f fd):Al P w K mg base CX0 2 f fd ["self","name"] (Gu K Z7):=by
 have sc:A9 ["self","name"] ["self","name"] (A6 Z3j):=by ext:3
 ext:2
 . exact n3 h_ λ_ _ _=>rfl
 refine x3 h_ λp ts z e_=>y5 e_ λe0 hs nd hz q=>?_;clear e_ h_;subst e0;refine⟨_,(@A5 _ _ _ (@Ag _ _ _ _ (@As _ _ _ _ _ _ _ B8 (B2 Z04 T.Zw hr (B4 Ae) (pv 0) (A0 (pv 1) A3)) A8 (λ_ _=>rfl)))),?_⟩;walk_at "su";obtain⟨dx,d,kvs,h1,h2,h3,h4,h5⟩:=Av.has hs;ext;refine⟨dx,flds d,h1,by rfl,?_⟩;ext;refine⟨ts,hs,nd,hz,λi t ht e a ha=>?_⟩;subst e;refine B6 ha rfl ?_;rw[J53 nd ht]at q;exact q
variable (Zp:DefM P w K mg base CX0 2 Z7 "cost_of" ["self","name"] (Gu K Z7))
include T Zl Z4e Ze in
theorem Z90(F:Fun K "check_asks" "check_asks" Z5b f fd):Al P w K mg base CX0 4 f fd ["stock","asks","places"] (N41.Lf K Z7):=by
 have sc:A9 ["stock","asks","places","number","name"] ["stock","asks","places"] (A6 Z5b):=by ext:3
 ext:2
 . exact n5 h_ λ_ _ _ _ _=>rfl
 refine x5 h_ λp a pl ts ys e_=>y10 e_ λe0 hs nd hS hl hin hw h1 h2 q=>?_;clear e_ h_;subst e0
 refine⟨_,(@A4 _ _ _ _ _ (Ak (Ad Zl hr rfl Ae (A0 (pv 2) A3)))
  (@A4 _ _ _ _ _ (Az (Ah Ew (Aj Ap rfl T.Zq FN (A0 (pv 1) A3)) (Iu rfl T.Z60) (nomark _))
   (@A5 _ _ _ Bv)
   An)
  (@A4 _ _ _ _ _ (Ci PassesOwn.never rfl (P1 rfl T.Z1p (A0 (pv 1) A3)) (Il rfl (Bc (Ay (i:=3) sc.nd rfl (Or.inl rfl)) (Bc (Ay (i:=4) sc.nd rfl (Or.inl rfl)) Ee)))
   (@A4 _ _ _ _ _ (Az (C8 (Bg (B2 Z4e T.Zw hr (B4 Ae) (pv 0) (A0 (pv 4) A3))))
    (@A5 _ _ _ Bv)
    An)
   (@A5 _ _ _ (Az (Ah Ew (B2 Ze T.Zw hr (B4 Ae) (pv 0) (A0 (pv 4) A3)) (pv 2) (nomark _))
    (@A5 _ _ _ Bv)
    An))))
  (@A5 _ _ _ (@Ag _ _ _ _ Dl))))),?_⟩
 ext:4;ext;rw[Fa,if_neg (by omega)];ext;refine⟨⟨_,hS⟩,?_⟩;rename_i rest hrest;refine J0c (xs:=ys.map V.str) (λi σ H'=>∃v3 v4,σ=[some (V.ref p),some (V.ref a),some (V.int pl),v3,v4]/\A7 H H') ⟨none,none,rfl,A7.refl _⟩ (λi σ H' _ ⟨v3,v4,_,sm⟩=>sm.seq hS) ?_ ?_
 . rintro i x σ H' t hx ⟨v3,v4,rfl,sm⟩ ht
   rw[Fe]at hx
   cases hy:ys[i]? with
   | none=>rw[hy]at hx;cases hx
   | some y=>
    rw[hy]at hx;cases hx;have hyin:=hin y (Ff hy);ext;refine⟨_,SqT.of A1,rfl,_,_,rfl,_,_,rfl,rfl,?_⟩;have sm2:=sm.trans (A7.new (o:= .tup [.int i,.str y]) ht);generalize upd H' t (.tup [.int i,.str y])=H2 at sm2 ⊢;have hs2:=Av.same sm2 hs;obtain⟨dx,d,kvs,g1,g2,_⟩:=Av.has hs2;ext;refine⟨dx,flds d,g1,by rfl,ts,hs2,?_⟩;rw[if_neg (λh=>h hyin)];ext;refine⟨dx,flds d,g1,by rfl,ts,hs2,nd,hyin,?_⟩;rw[if_neg (by have:=hw y (Ff hy);omega)];exact sm2
 . rintro σ H' ⟨v3,v4,rfl,sm⟩
   ext;exact q _ sm
variable (Z01:Def P w K mg base CX0 4 "check_asks" ["stock","asks","places"] (N41.Lf K Z7))
include T in
theorem Z85(F:Fun K "earlier_asks" "earlier_asks" Z45 f fd):Al P w K mg base CX0 1 f fd ["asks"] (K0 K):=by
 have sc:A9 ["asks","last","told","number","name"] ["asks"] (A6 Z45):=by ext:3
 ext:2
 . exact n2 h_ λ_ _=>rfl
 refine x2 h_ λa ys e_=>y4 e_ λe0 hS hl q=>?_;clear e_ h_;subst e0
 refine⟨_,(@A4 _ _ _ _ _ (Aq (i:=1) sc.nd rfl (Or.inl rfl) D0)
  (@A4 _ _ _ _ _ (Aq (i:=2) sc.nd rfl (Or.inl rfl) (@Ck _ _ _ _ A3))
  (@A4 _ _ _ _ _ (Ci PassesOwn.never rfl (P1 rfl T.Z1p (A0 (pv 0) A3)) (Il rfl (Bc (Ay (i:=3) sc.nd rfl (Or.inl rfl)) (Bc (Ay (i:=4) sc.nd rfl (Or.inl rfl)) Ee)))
   (@A4 _ _ _ _ _ (Ak (Dh FA FR FQ Bq (pv 2) (A0 (J39 (Bl hr) (pv 1) (pv 4) ⟨rfl,rfl,rfl,rfl⟩) A3)))
   (@A5 _ _ _ (Cf (Bl hr) (pv 1) (pv 4) (pv 3) rfl))))
  (@A5 _ _ _ (@Ag _ _ _ _ (pv 2)))))),?_⟩
 ext:4;ext;intro d hd;ext;intro p hp;ext;have ndp:d≠p:=Ac A1 hp;have sm0:A7 H (upd (upd H d (.dK [])) p (.lst [])):=(A7.new hd).trans (A7.new hp)
 have hd0:upd (upd H d (.dK [])) p (.lst []) d=some (.dK []):=by rw[A2 ndp];exact A1
 have hp0:upd (upd H d (.dK [])) p (.lst []) p=some (.lst []):=A1;have hpH:=none_of (A7.new hd) hp;generalize upd (upd H d (.dK [])) p (.lst [])=H1 at sm0 hd0 hp0 ⊢;clear hp;refine⟨⟨_,sm0.seq hS⟩,?_⟩;rename_i rest hrest
 refine J0c (xs:=ys.map V.str) (λi σ H'=>∃(kvs:List (Key×V)) (v3 v4:Option V),σ=[some (V.ref a),some (V.ref d),some (V.ref p),v3,v4]/\A7 H H'/\H' d=some (.dK kvs)/\kvs.length<=i/\(∀z,Aw kvs (Sum.inr z)=(Ax ys z i).map λj=>V.int (j:Int))/\H' p=some (.lst ((List.range i).map (Qo ys))))
  ⟨[],none,none,rfl,sm0,hd0,Fg _,λz=>rfl,hp0⟩ (λi σ H' _ ⟨kvs,v3,v4,_,sm,_⟩=>sm.seq hS) ?_ ?_
 . rintro i x σ H' t hx ⟨kvs,v3,v4,rfl,sm,g1,g2,g3,g4⟩ ht
   rw[Fe]at hx
   cases hy:ys[i]? with
   | none=>rw[hy]at hx;cases hx
   | some y=>
    rw[hy]at hx;cases hx
    have hyD:ys.getD i Str.empty=y:=by rw[Fc,hy];rfl
    have hil:i < ys.length:=(Fd.mp hy).1;ext;refine⟨_,SqT.of A1,rfl,_,_,rfl,_,_,rfl,rfl,?_⟩;have smt:A7 H' (upd H' t (.tup [.int i,.str y])):=A7.new ht;have sm2:=sm.trans smt;have f1:=smt _ _ g1;have f4:=smt _ _ g4;generalize upd H' t (.tup [.int i,.str y])=H2 at sm2 f1 f4 ⊢;clear smt ht g1 g4 sm;ext;refine⟨.inl ⟨rfl,_,SqL.of f4⟩,.inl ⟨kvs,.inl f1⟩,_,Cp.k (k:=Sum.inr y) f1,?_⟩;refine⟨p,_,_,rfl,rfl,f4,by rw[Fa,Fw];omega,?_⟩;rw[g3 y,<- hyD,J7r];ext
    have f1':upd H2 p (.lst ((List.range i).map (Qo ys)++[Qo ys i])) d=some (.dK kvs):=by rw[A2 ndp];exact f1
    refine⟨_,Eu.k (k:=Sum.inr (ys.getD i Str.empty)) f1' (by omega),Cd (Cd sm2 hpH) hd,_,A1,?_,Q3 g3,?_⟩
    . have:=Bf kvs (Sum.inr (ys.getD i Str.empty):Key) (V.int (i:Int));omega
    . rw[A2 ndp.symm,A1,Hj,Fo];rfl
 . rintro σ H' ⟨kvs,v3,v4,rfl,sm,g1,g2,g3,g4⟩
   rw[Fa]at g4;ext;exact q p _ hpH sm g4
variable (Z2f:Def P w K mg base CX0 1 "earlier_asks" ["asks"] (K0 K))
include T Zl in
theorem Z91(F:Fun K "__init__" "Shelf.__init__" Z5c f fd):Al P w K mg base CX0 4 f fd ["self","stock","places"] (Na Z9):=by
 have sc:A9 ["self","stock","places"] ["self","stock","places"] (A6 Z5c):=by ext:3
 ext:2
 . exact n4 h_ λ_ _ _ _=>rfl
 refine x4 h_ λs dx p n e_=>y5 e_ λe0 hs h1 h2 q=>?_;clear e_ h_;subst e0
 refine⟨_,(@A4 _ _ _ _ _ (Ak (Ad Zl hr rfl Ae (A0 (pv 2) A3)))
  (@A4 _ _ _ _ _ (Bn (pv 0) (pv 1) rfl)
  (@A4 _ _ _ _ _ (Bn (pv 0) (pv 2) rfl)
  (@A5 _ _ _ (Bn (pv 0) D0 rfl))))),?_⟩
 walk_at "su";ext;refine⟨Z9,dx,[],hs,T.Zi,T.Z1n,by decide,?_⟩;ext;refine⟨Z9,dx,_,A1,T.Zi,T.Z2b,by simp[Aa],?_⟩;ext;intro d hd
 have nd:d≠s:=λe=>by rw[e,A1]at hd;cases hd
 have hd0:H d=none:=by rw[A2 nd]at hd;exact hd
 refine⟨Z9,dx,_,by rw[A2 nd.symm,A1],T.Zi,T.Z08,by have:=Cz "places" (V.int n) (Aa "stock" (V.ref p) []);have:=Cz "stock" (V.ref p) [];simp at *;omega,?_⟩;refine q _ d (λb o e nb=>?_) hd0 ⟨⟨dx,A1⟩,by rw[A2 nd,A1];rfl,HZ⟩;rw[A2 nb,A2 (Ac e hd0),A2 nb];exact e
variable (Z3t:Os P w K mg base CX0 4 "Shelf" Z9 ["self","stock","places"] (Na Z9))
include T in
theorem Z8j(F:Fun K "lying" "Shelf.lying" Z4s f fd):Al P w K mg base CX0 1 f fd ["self"] (Nb Z9):=by
 have sc:A9 ["self"] ["self"] (A6 Z4s):=by ext:3
 ext:2
 . exact n5 h_ λ_ _ _ _ _=>rfl
 refine x5 h_ λs p d n ls e_=>y3 e_ λe0 hs q=>?_;clear e_ h_;subst e0;refine⟨_,(@A5 _ _ _ (@Ag _ _ _ _ (Cm (Q1 rfl) rfl T.Z0i (by first | rfl | decide+kernel) (A0 (Ab (pv 0) rfl) A3)))),?_⟩;walk_at "su";obtain⟨⟨dx,ho⟩,hd,_⟩:=hs;ext;refine⟨Z9,dx,_,ho,T.Zi,T.Z08,_,Gw,?_⟩;ext;refine⟨_,hd,λl hl=>?_⟩;rw[J1t];exact q l hl
variable (Z2y:DefM P w K mg base CX0 1 Z9 "lying" ["self"] (Nb Z9))
include T in
theorem Z8k(F:Fun K "holds" "Shelf.holds" Z4t f fd):Al P w K mg base CX0 1 f fd ["self","name"] (Nc Z9):=by
 have sc:A9 ["self","name"] ["self","name"] (A6 Z4t):=by ext:3
 ext:2
 . exact n6 h_ λ_ _ _ _ _ _=>rfl
 refine x6 h_ λs p d n ls z e_=>y3 e_ λe0 hs q=>?_;clear e_ h_;subst e0;refine⟨_,(@A5 _ _ _ (@Ag _ _ _ _ (J2c (Nx (Bl hr) (pv 1) (Ab (pv 0) rfl))))),?_⟩;walk_at "su";obtain⟨⟨dx,ho⟩,hd,_⟩:=hs;ext;refine⟨Z9,dx,_,ho,T.Zi,T.Z08,_,Gw,d,rfl,_,Cp.k (k:=Sum.inr z) hd,?_⟩;rw[Ts];exact q
variable (Zt:DefM P w K mg base CX0 1 Z9 "holds" ["self","name"] (Nc Z9))
include T in
theorem Z7c(F:Fun K "room_left" "Shelf.room_left" Z2r f fd):Al P w K mg base CX0 1 f fd ["self"] (P4 Z9):=by
 have sc:A9 ["self"] ["self"] (A6 Z2r):=by ext:3
 ext:2
 . exact n5 h_ λ_ _ _ _ _=>rfl
 refine x5 h_ λs p d n ls e_=>y3 e_ λe0 hs q=>?_;clear e_ h_;subst e0;refine⟨_,(@A5 _ _ _ (@Ag _ _ _ _ (Ao E9 (Ab (pv 0) rfl) (Aj (J1k rfl) rfl T.Z7g (by first | rfl | decide+kernel) (A0 (Jaa Rv PySem.F.slot_dict_values PySem.F.type_dict_values J1j (Ab (pv 0) rfl)) A3))))),?_⟩;walk_at "su";obtain⟨⟨dx,ho⟩,hd,_⟩:=hs;ext;refine⟨Z9,dx,_,ho,T.Zi,T.Z2b,_,Xj,Z9,dx,_,ho,T.Zi,T.Z08,_,Gw,?_⟩;refine⟨.inr (.inr (.inl ⟨rfl,.inl ⟨_,hd⟩⟩)),d,rfl,_,hd,λv hv=>⟨d,A1,_,(A7.new hv) _ _ hd,_,J5a,n,rfl,q _ (A7.new hv)⟩⟩
variable (Zy:DefM P w K mg base CX0 1 Z9 "room_left" ["self"] (P4 Z9))
include T Ze Zt Zy in
theorem Z9i(F:Fun K "put" "Shelf.put" Z65 f fd):Al P w K mg base CX0 4 f fd ["self","name"] (P6 K Z7 Z9):=by
 have sc:A9 ["self","name","room"] ["self","name"] (A6 Z65):=by ext:3
 ext:2
 . exact n8 h_ λ_ _ _ _ _ _ _ _=>rfl
 refine x8 h_ λs p d n ls ts z r e_=>y10 e_ λe0 hs hx nd hl hz hr' hin hle q=>?_;clear e_ h_;subst e0
 refine⟨_,(@A4 _ _ _ _ _ (Aq (i:=2) sc.nd rfl (Or.inl rfl) (B2 Ze T.Zw hr (B4 Ae) (Ab (pv 0) rfl) (A0 (pv 1) A3)))
  (@A4 _ _ _ _ _ (Az (Bg (B2 Zt T.Zi hr (B4 Ae) (pv 0) (A0 (pv 1) A3)))
   (@A5 _ _ _ Bv)
   An)
  (@A4 _ _ _ _ _ (Az (Ah Ew (pv 2) (Gr Zy T.Zi hr (B4 Ae) (pv 0)) (nomark _))
   (@A5 _ _ _ Bv)
   An)
  (@A5 _ _ _ (Cf (Bl hr) (Ab (pv 0) rfl) (pv 1) (pv 2) rfl))))),?_⟩
 ext:4;have hsA:=hs;obtain⟨⟨dx,ho⟩,hd,hnd⟩:=hs;obtain⟨dy,e,kvs,h1,h2,h3,h4,h5⟩:=Av.has hx.at;ext;refine⟨Z9,dx,_,ho,T.Zi,T.Z1n,_,Sk,?_⟩;ext;refine⟨dy,flds e,h1,by rfl,ts,hx.at,nd,hz,?_⟩;rw[Jcz nd hz hr'];ext;refine⟨dx,_,ho,by rfl,?_⟩;ext;refine⟨_,_,_,_,hsA,?_⟩;rw[if_neg (by simpa using hin)];ext;refine⟨dx,_,ho,by rfl,_,_,_,_,hsA,λH1 sm1=>?_⟩;rw[if_neg (by omega)];ext;refine⟨Z9,dx,_,sm1 _ _ ho,T.Zi,T.Z08,_,Gw,?_⟩
 have hll:(lyK ls).length < sizeLine:=by unfold lyK;rw[Fa];omega
 refine⟨d,rfl,_,Eu.k (k:=Sum.inr z) (sm1 _ _ hd) hll,?_⟩;refine q _ (λb o e n=>?_) (hsA.put sm1 hin);rw[A2 n];exact sm1 _ _ e
variable (Z4f:DefM P w K mg base CX0 4 Z9 "put" ["self","name"] (P6 K Z7 Z9))
include T Zt in
theorem Z92(F:Fun K "cast" "Shelf.cast" Z5d f fd):Al P w K mg base CX0 2 f fd ["self","name"] (Ng Z9):=by
 have sc:A9 ["self","name"] ["self","name"] (A6 Z5d):=by ext:3
 ext:2
 . exact n6 h_ λ_ _ _ _ _ _=>rfl
 refine x6 h_ λs p d n ls z e_=>y4 e_ λe0 hs hin q=>?_;clear e_ h_;subst e0
 refine⟨_,(@A4 _ _ _ _ _ (Az (C8 (Bg (B2 Zt T.Zi hr (B4 Ae) (pv 0) (A0 (pv 1) A3))))
  (@A5 _ _ _ Bv)
  An)
  (@A5 _ _ _ (Ak (Uo (Ab (pv 0) rfl) (pv 1) ⟨rfl,rfl,rfl,rfl⟩)))),?_⟩
 ext:4;have hsA:=hs;obtain⟨⟨dx,ho⟩,hd,hnd⟩:=hs;ext;refine⟨dx,_,ho,by rfl,_,_,_,_,hsA,?_⟩;rw[if_neg (λh=>h hin)];ext;have hv:=Ts (ls:=ls) (z:=z);rw[Fi hin]at hv;obtain⟨v,hv⟩:=Hw.mp hv;refine⟨Z9,dx,_,ho,T.Zi,T.Z08,_,Gw,d,rfl,.inl ⟨_,.inl hd⟩,_,hd,Sum.inr z,rfl,v,hv,?_⟩;exact q _ (λb o e n=>by rw[A2 n];exact e) hsA.cast
variable (Z3u:DefM P w K mg base CX0 2 Z9 "cast" ["self","name"] (Ng Z9))
include T in
theorem Zab(F:Fun K "weighed" "weighed" Z73 f fd):Al P w K mg base CX0 5 f fd ["book","weigh"] (G0 P w K mg base):=by
 have sc:A9 ["book","weigh"] ["book","weigh"] (A6 Z73):=by ext:3
 ext:2
 . exact n3 h_ λ_ _ _=>rfl
 refine x3 h_ λp b bs e_=>y6 e_ λe0 hB hbl hin hJ q=>?_;clear e_ h_;subst e0;refine⟨_,(@A5 _ _ _ (@Ag _ _ _ _ (Aj (O2 rfl) rfl T.Z7g (by first | rfl | decide+kernel) (A0 (Vo "row" [1] rfl rfl (Cs (pv 0)) (λb=>(C8 (Bg (@As _ _ _ _ _ _ _ B8 (pv 0) A8 (λ_ _=>rfl))))) (λb=>(J5i (fa:=(λb:Wg P w K mg base=>b.f)) (J:=(λb=>b.J)) (sp:=(λb=>spW b.zs b.g)) (λb=>b.ok) hr Ae (pv 1) (A0 (@As _ _ _ _ _ _ _ B8 (pv 0) A8 (λ_ _=>rfl)) A3)))) A3)))),?_⟩;ext:4;ext;refine⟨⟨_,SqL.of hB.l⟩,Q6 (xs:=bs.map λr=>V.ref r.1) (Jb8 H) (λx=>V.int (b.g (nmV H x))) (SqL.of hB.l) (by rw[Fa];omega) ?_ ?_ ?_⟩
 . intro b' v H5 QT hx sm q'
   obtain⟨r,hr,rfl⟩:=FH.mp hx;have q2:=q' H5 (A7.refl _);rw[Tu (hB.t r hr)]at q2;have g3:=sm _ _ (hB.t r hr);ext;exact B6 (SqT.of g3) rfl ⟨_,rfl,q2⟩
 . intro b' v H5 Q' hx hm sm q'
   obtain⟨r,hr,rfl⟩:=FH.mp hx;have g3:=sm _ _ (hB.t r hr);have hJ2:=b.keep sm hJ;ext;refine⟨b,rfl,hJ2,B6 (SqT.of g3) rfl ⟨hJ2,_,rfl,hin r hr (by have:=Tu (hB.t r hr);rw[hm]at this;simpa using this.symm),λH7 s7=>?_⟩⟩;have:=q' H7 s7;rw[J5k (hB.t r hr)]at this;exact this
 . intro D H' hD sm hD2
   rw[J84 hB.t]at hD2;have q2:=q H' sm;exact⟨D,rfl,_,SqL.of hD2,q2⟩
variable (Z5s:Def P w K mg base CX0 5 "weighed" ["book","weigh"] (G0 P w K mg base))
theorem J8q{f c st:Addr}{ts:List Th}(nd:(ts.map (·.1)).Nodup)(T:Txt K mg Z7 Z9 Za Z02 Zd Z4 Z1 Z0 Z5 Z6 Z3 Z2)(Zp:DefM P w K mg base CX0 2 Z7 "cost_of" ["self","name"] (Gu K Z7)):Sl P w K mg base CX0 4 f (PJ J8p K Z7 f c st ts) (spW (ts.map (·.1)) (cst ts)):=by
 have sc:Gy ["name","stock"] ["name"] J8p.scope [("stock",c)]:=Gy.mk1 (ps:=["name"]) (sc:=J8p.scope) (x:="stock") rfl rfl rfl (by decide+kernel) (by decide+kernel) (by decide+kernel) (by decide+kernel) rfl;refine Sl.ofLam (fvs:=[V.ref st]) sc (λpm ct cd us hl=>match us,hl with | [_],_=>rfl) (λvs H Q E h=>?_) (λH h=>⟨h.1,h.2.1⟩) (λcd A outer s H vs Q E hr hJ h=>?_)
 . obtain⟨z,rfl,_⟩:=h;rfl
 obtain⟨z,rfl,hz,q⟩:=h;refine⟨_,(B2 Zp T.Zw hr (B4 Ae) (pv 1) (A0 (pv 0) A3)),?_⟩;obtain⟨o,u,hco,_⟩:=hJ.2.1.get _ (Fy ..);have hst:=Av.odd J85 hco (.inr ⟨_,_,rfl⟩) hJ.2.2;obtain⟨dx,d,kvs,h1,_⟩:=hst.ex;ext;exact⟨_,rfl,_,rfl,dx,_,h1,rfl,_,rfl,_,rfl,ts,z,rfl,hst,nd,hz,λ_=>by rw[J5l];exact q _ (A7.refl _)⟩
include T Z5s Zp in
theorem Zac(F:Fun K "paid_by" "paid_by" Z25 f fd)(M:Jcv K f 432)(HB:base.BuiltinsAt mg 432):Al P w K mg base CX0 6 f fd ["stock","book"] (Kw 432 (⟨174,25,174,57⟩:Pos) (("paid_by"++".<locals>.")++"<lambda>") K Z7):=by
 have sc:A9 ["stock","book"] ["stock","book"] (A6 Z25):=by ext:3
 refine F.okC M sc (λvs H Q E h_=>?_) (λc A outer s H vs Q E hc hr h_=>?_)
 . exact n4 h_ λ_ _ _ _=>rfl
 refine x4 h_ λst p ts bs e_=>y8 e_ λe0 hst nd hB hbl hin hL q=>?_;clear e_ h_;subst e0;refine⟨_,(@A5 _ _ _ (@Ag _ _ _ _ (J83 (E:=λ_ _ _=>False) (i:=0) Z5s hr rfl (A0 (pv 1) (A0 (J82 rfl rfl rfl hc (by decide) HB) A3)) rfl rfl rfl))),?_⟩;ext:4;ext;refine⟨hL,λf2 c2 ct H2 hf2 sb hL2 hc2 hff=>?_⟩
 have tk2:Tk 432 (⟨174,25,174,57⟩:Pos) (("paid_by"++".<locals>.")++"<lambda>") H H2:=⟨sb,hL2⟩
 obtain⟨tb,htb⟩:=P5 hL;have hst2:=Av.odd sb htb (.inl ⟨_,rfl⟩) hst;have hB2:=Qp.tk tk2 hL hB;ext;intro o u ho hu hcn;have s3:A7 H2 (upd H2 (s.heap.objs.size+1) (Gg (s.heap.objs.size+1) o)):=Bj hcn;refine⟨⟨f2,PJ J8p K Z7 f2 (s.heap.objs.size+1) st ts,ts.map (·.1),cst ts,J8q nd T Zp,λs h=>h.same s⟩,rfl,bs,hB2.same s3,hbl,λr hr _=>hin r hr,⟨⟨_,c2,ct,s3 _ _ hff,s3 _ _ hc2⟩,.cons ⟨o,u,A1,ho,hu⟩ .nil,hst2.same s3⟩,λH3 sm3 _=>q _ (lent tk2 hcn sm3)⟩
variable (Z5t:Def P w K mg base CX0 6 "paid_by" ["stock","book"] (Kw 432 (⟨174,25,174,57⟩:Pos) (("paid_by"++".<locals>.")++"<lambda>") K Z7))
include T in
theorem Z93(F:Fun K "walkers_at" "walkers_at" Z5e f fd):Al P w K mg base CX0 1 f fd ["step","jumps","taken","strands"] (Eh):=by
 have sc:A9 ["step","jumps","taken","strands","over"] ["step","jumps","taken","strands"] (A6 Z5e):=by ext:3
 ext:2
 . exact n7 h_ λ_ _ _ _ _ _ _=>rfl
 refine x7 h_ λt a b s' as js tk e_=>y6 e_ λe0 hJ hB hl hj q=>?_;clear e_ h_;subst e0
 refine⟨_,(@A4 _ _ _ _ _ (J1r (i:=4) "jump" "used" [0] sc.nd rfl rfl rfl rfl (Q2 rfl T.Z6k (A0 (pv 1) (A0 (pv 2) A3))) (λb=>(PW.pt (Wr (Bg (pv 1)) (Sy (J2q J2n Ml (@As _ _ _ _ _ _ _ B8 (pv 0) A8 (λ_ _=>rfl)) (pv 2) (@As _ _ _ _ _ _ _ B8 (pv 0) A8 (λ_ _=>rfl))))))) (λb=>(pv 0)))
  (@A5 _ _ _ (@Ag _ _ _ _ (Ao E9 (pv 3) (Aj Ap rfl T.Zq FN (A0 (pv 4) A3)))))),?_⟩
 ext:4;ext;refine⟨⟨_,SqL.of hJ.1⟩,⟨_,SqL.of hB⟩,J7s (xs:=as.map V.ref) (zs:=tk.map V.bl) (by rw[Fa,Fa,hJ.2.1,hl]) (λi=>tk.getD i false && cov (js.getD i (0,0,0)) t) (λi=>V.ref (as.getD i 0)) (SqL.of hJ.1) (SqL.of hB) (by rw[Fa,hJ.2.1];omega) (λb' i x z H' QT hx hz sm qt=>?_) (λb' i x z H' Q' hx hz hp sm q'=>?_) (λD H' hD sm hD'=>?_)⟩
 . rw[Fe]at hx hz
   cases ha:as[i]? with
   | none=>rw[ha]at hx;cases hx
   | some c=>
   cases hb:tk[i]? with
   | none=>rw[hb]at hz;cases hz
   | some u=>
   rw[ha]at hx;rw[hb]at hz;cases hx;cases hz
   have hil:i < js.length:=by rw[<- hJ.2.1];exact(Fd.mp ha).1
   have hT:=sm _ _ (hJ.2.2 i c _ ha (show js[i]?=some (js.getD i (0,0,0)) by rw[Fc,Fb hil];rfl))
   have eu:tk.getD i false=u:=by rw[Fc,hb];rfl
   rw[eu]at qt;generalize js.getD i (0,0,0)=j at hT qt;obtain⟨j1,j2,j3⟩:=j;have hT':H' c=some (.tup [.int j1,.int j2,.int j3]):=hT;clear hT eu;ext
   cases u with
   | false=>rw[if_neg (by decide)];exact qt _ (A7.refl _)
   | true=>
    rw[if_pos rfl];refine B6 (SqT.of hT') (Ai (j:=0) rfl) ⟨_,rfl,?_⟩
    by_cases h1:j1<=t
    . rw[if_pos (by omega)]
      refine B6 (SqT.of hT') (Ai (j:=1) rfl) ⟨_,rfl,?_⟩;have:=qt _ (A7.refl _);unfold cov at this;rw[show decide ((t:Int) < (j2:Int))=decide (t < j2) from Jk.mpr (by omega)];simp only[Fi h1,Bool.true_and]at this;exact this
    . rw[if_neg (by omega)]
      have:=qt _ (A7.refl _);unfold cov at this;simp only[Fk h1,Bool.false_and,Bool.and_false]at this;exact this
 . rw[Fe]at hx
   cases ha:as[i]? with
   | none=>rw[ha]at hx;cases hx
   | some c=>
   rw[ha]at hx;cases hx;have:=q' _ (A7.refl _);rw[Fc,ha]at this;ext;exact this
 . rename_i rest hrest
   subst hrest;ext;refine⟨_,.inl (SqL.of hD'),?_⟩;rw[Fa,Fa,hJ.2.1,Qf hl];exact q _ sm
variable (Z3v:Def P w K mg base CX0 1 "walkers_at" ["step","jumps","taken","strands"] (Eh))
include T Z3v in
theorem Z7u(F:Fun K "moves_by_step" "moves_by_step" Z3k f fd):Al P w K mg base CX0 2 f fd ["points","jumps","taken","strands"] (K7):=by
 have sc:A9 ["points","jumps","taken","strands","moves","step"] ["points","jumps","taken","strands"] (A6 Z3k):=by ext:3
 ext:2
 . exact n7 h_ λ_ _ _ _ _ _ _=>rfl
 refine x7 h_ λn a b s' as js tk e_=>y8 e_ λe0 hJ hB hl hj hn1 hn q=>?_;clear e_ h_;subst e0
 refine⟨_,(@A4 _ _ _ _ _ (Aq (i:=4) sc.nd rfl (Or.inl rfl) (@Ck _ _ _ _ A3))
  (@A4 _ _ _ _ _ (Ci PassesOwn.never rfl (Cu rfl T.Z0m (A0 (Ao E9 (pv 0) A8) A3)) (Ay (i:=5) sc.nd rfl (Or.inl rfl))
   (@A4 _ _ _ _ _ (Ak (Dh FA FR FQ Bq (pv 4) (A0 (Cj (A0 (pv 5) (@Gs _ _ _ _ _ _ _ _ (Ao Bk (pv 5) A8) (@N7 _ _ _ _ _ _ _ A8 (@N7 _ _ _ _ _ _ _ Cy A3))))) A3)))
   (@A5 _ _ _ (Az (Ah Ew (Ad Z3v hr rfl Ae (A0 (pv 5) (A0 (pv 1) (A0 (pv 2) (A0 (pv 3) A3))))) A8 (nomark _))
    (@A5 _ _ _ (Ak (Dh FA FR FQ Bq (pv 4) (A0 (Cj (@Gs _ _ _ _ _ _ _ _ (Ao Bk (pv 5) A8) (A0 (pv 5) (@N7 _ _ _ _ _ _ _ A8 (@N7 _ _ _ _ _ _ _ Cy A3))))) A3))))
    An))))
  (@A5 _ _ _ (@Ag _ _ _ _ (pv 4))))),?_⟩
 ext:4;ext;intro p hp;have sm0:A7 H (upd H p (.lst [])):=A7.new hp;have hp0:upd H p (.lst []) p=some (.lst []):=A1;generalize upd H p (.lst [])=H1 at sm0 hp0 ⊢;ext:1;rename_i rest hrest;refine Ex (λi σ H'=>∃(ms:List Addr) (v5:Option V),σ=[some (V.int n),some (V.ref a),some (V.ref b),some (V.int s'),some (V.ref p),v5]/\A7 H H'/\H' p=some (.lst (ms.map V.ref))/\B7 mvV H' ms (Kt js tk s' i)/\ms.length<=2 * i) ⟨[],none,rfl,sm0,hp0,B7.nil,Fg _⟩ ?_ ?_
 . clear hrest
   rintro i σ H' hi ⟨ms,v5,rfl,sm,hp',hT,hml⟩
   have es:Kt js tk s' (i+1)=Kt js tk s' i++Px js tk s' i:=by unfold Kt;rw[Hj,List.flatMap_append];simp
   ext;refine⟨.inl ⟨rfl,_,SqL.of hp'⟩,by omega,λt1 ht1=>⟨p,_,_,rfl,rfl,(A7.new ht1) _ _ hp',by rw[Fa];omega,?_⟩⟩;have smA:A7 H (upd (upd H' t1 (.tup [V.int i,V.int (i+1),V.int 0,V.non])) p (.lst (ms.map V.ref++[V.ref t1]))):=Cd (sm.trans (A7.new ht1)) hp
   have hpA:upd (upd H' t1 (.tup [V.int i,V.int (i+1),V.int 0,V.non])) p (.lst (ms.map V.ref++[V.ref t1])) p=some (.lst ((ms++[t1]).map V.ref)):=by rw[A1,Fo];rfl
   have hTA:B7 mvV (upd (upd H' t1 (.tup [V.int i,V.int (i+1),V.int 0,V.non])) p (.lst (ms.map V.ref++[V.ref t1]))) (ms++[t1]) (Kt js tk s' i++[⟨i,i+1,0,none⟩]):=hT.push hp' ht1 rfl
   have hlA:(ms++[t1]).length<=2 * i+1:=by rw[Fl,FV];omega
   generalize upd (upd H' t1 (.tup [V.int i,V.int (i+1),V.int 0,V.non])) p (.lst (ms.map V.ref++[V.ref t1]))=HA at smA hpA hTA ⊢;generalize ms++[t1]=ms1 at hpA hTA hlA;have hJA:=hJ.same smA;have hBA:=smA _ _ hB;clear hT hml hp' ht1;ext:1;refine⟨i,rfl,as,js,hJA,tk,hBA,hl,hj,λHB smB=>?_⟩;have smAB:=smA.trans smB;have hpB:=smB _ _ hpA;have hTB:=hTA.same smB;rw[es];unfold Px
   by_cases ho:over js tk i < s'
   . rw[if_pos (by omega),if_pos ho]
     refine⟨.inl ⟨rfl,_,SqL.of hpB⟩,by omega,λt2 ht2=>⟨p,_,_,rfl,rfl,(A7.new ht2) _ _ hpB,by rw[Fa];omega,Cd (smAB.trans (A7.new ht2)) hp,ms1++[t2],by rw[A1,Fo];rfl,?_,by rw[Fl,FV];omega⟩⟩;have:=hTB.push (l1:=ms1.map V.ref++[V.ref t2]) (x:=(⟨i+1,i,0,none⟩:Mv)) (tv:=[V.int (i+1),V.int i,V.int 0,V.non]) hpB ht2 rfl;rw[HN]at this;exact this
   . rw[if_neg (by omega),if_neg ho]
     exact⟨smAB,ms1,hpB,hTB,by omega⟩
 . rintro σ H' ⟨ms,v5,rfl,sm,hp',hT,hml⟩
   subst hrest;ext;rw[show ((n:Int) - 1).toNat=n - 1 by omega]at hT hml;exact q p ms H' hp sm hp' hT (by omega)
variable (Z1w:Def P w K mg base CX0 2 "moves_by_step" ["points","jumps","taken","strands"] (K7))
include T in
theorem Z86(F:Fun K "move_by_jump" "move_by_jump" Z46 f fd):Al P w K mg base CX0 1 f fd ["jump","used","number"] (Lx):=by
 have sc:A9 ["jump","used","number"] ["jump","used","number"] (A6 Z46):=by ext:3
 ext:2
 . exact n4 h_ λ_ _ _ _=>rfl
 refine x4 h_ λt b k j e_=>y3 e_ λe0 ht q=>?_;clear e_ h_;subst e0
 refine⟨_,(@A4 _ _ _ _ _ (Az (Bg (pv 1))
  (@A5 _ _ _ (@Ag _ _ _ _ (Cj (A0 (@As _ _ _ _ _ _ _ B8 (pv 0) A8 (λ_ _=>rfl)) (A0 (@As _ _ _ _ _ _ _ B8 (pv 0) A8 (λ_ _=>rfl)) (@Gs _ _ _ _ _ _ _ _ (Ao E9 A8 (@As _ _ _ _ _ _ _ B8 (pv 0) A8 (λ_ _=>rfl))) (A0 (pv 2) A3)))))))
  An)
  (@A5 _ _ _ (@Ag _ _ _ _ (Cj (A0 (@As _ _ _ _ _ _ _ B8 (pv 0) A8 (λ_ _=>rfl)) (A0 (@As _ _ _ _ _ _ _ B8 (pv 0) A8 (λ_ _=>rfl)) (A0 (@As _ _ _ _ _ _ _ B8 (pv 0) A8 (λ_ _=>rfl)) (A0 (pv 2) A3)))))))),?_⟩
 ext:4;obtain⟨j1,j2,j3⟩:=j;have hT:H t=some (.tup [.int j1,.int j2,.int j3]):=ht;clear ht;ext
 cases b with
 | true=>
  rw[if_pos rfl];refine B6 (SqT.of hT) (Ai (j:=1) rfl) (B6 (SqT.of hT) (Ai (j:=0) rfl) (B6 (SqT.of hT) (Ai (j:=2) rfl) ⟨_,rfl,by omega,λp hp=>?_⟩));exact q p _ (A7.new hp) A1
 | false=>
  rw[if_neg (by decide)];ext:1;refine B6 (SqT.of hT) (Ai (j:=0) rfl) (B6 (SqT.of hT) (Ai (j:=1) rfl) (B6 (SqT.of hT) (Ai (j:=2) rfl) ⟨by omega,λp hp=>?_⟩));exact q p _ (A7.new hp) A1
variable (Z2g:Def P w K mg base CX0 1 "move_by_jump" ["jump","used","number"] (Lx))
include T in
theorem Z94(F:Fun K "__init__" "Climb.__init__" Z5f f fd):Al P w K mg base CX0 1 f fd ["self","points"] (K8 Za):=by
 have sc:A9 ["self","points"] ["self","points"] (A6 Z5f):=by ext:3
 ext:2
 . exact n3 h_ λ_ _ _=>rfl
 refine x3 h_ λq' dx n e_=>y4 e_ λe0 hq hn q=>?_;clear e_ h_;subst e0
 refine⟨_,(@A4 _ _ _ _ _ (Bn (pv 0) (Gp "point" [] rfl rfl (Cu rfl T.Z0m (A0 (pv 1) A3)) (λb=>A8)) rfl)
  (@A5 _ _ _ (Bn (pv 0) (Gp "point" [] rfl rfl (Cu rfl T.Z0m (A0 (pv 1) A3)) (λb=>(Cj (A0 (Ao E9 (pv 0) A8) (A0 Cy A3))))) rfl))),?_⟩
 ext:4;ext;refine N34.We (λ_=>V.int 0) (by omega) (λb i H' Q' hi sm q'=>?_) λhs H1 hhs sm1 hh1=>?_
 . ext
   exact q' _ (A7.refl _)
 have eh:(List.range n).map (λ_=>V.int 0)=(h0 n).map V.int:=by unfold h0;rw[List.map_replicate,List.map_const',Fw]
 rw[eh]at hh1;have nq:q'≠hs:=Ac hq hhs;refine⟨Za,dx,_,sm1 _ _ hq,T.Zx,T.Zg,by decide,?_⟩
 have sb1:SameBut q' H (upd H1 q' (.ins Za dx (Aa "heights" (V.ref hs) []))):=λb o e nb=>by rw[A2 nb];exact sm1 _ _ e
 have hh2:upd H1 q' (.ins Za dx (Aa "heights" (V.ref hs) [])) hs=some (.lst ((h0 n).map V.int)):=by rw[A2 nq.symm];exact hh1
 have hq2:upd H1 q' (.ins Za dx (Aa "heights" (V.ref hs) [])) q'=some (.ins Za dx (Aa "heights" (V.ref hs) [])):=A1;generalize upd H1 q' (.ins Za dx (Aa "heights" (V.ref hs) []))=H2 at sb1 hh2 hq2 ⊢;clear sm1 hh1 eh;ext:1;refine Vk (lo:=0) (λi y H'=>∃t,y=V.ref t/\H' t=some (.tup [.int ((i:Int) - 1),.non])) (λi y H' H'' l zs ⟨t,e,h⟩ hl sb=>⟨t,e,sb _ _ h (λz=>by rw[z,hl]at h;cases h)⟩) (by omega) (λb i H' Q' hi sm q''=>?_) λws yl H3 hws sm3 hw3 hwl hall=>?_
 . ext
   intro p hp;exact q'' _ _ (A7.new hp) ⟨p,rfl,A1⟩
 have ey:yl=(yl.map aOf).map V.ref:=by
  rw[FP];refine(List.map_id yl).symm.trans (Ht λy hy=>?_);obtain⟨i,hi⟩:=FC.mp hy;obtain⟨t,rfl,_⟩:=hall i y hi;rfl
 have nw:ws≠q':=λe=>by rw[e,hq2]at hws;cases hws
 have nhw:hs≠ws:=λe=>by rw[<- e,hh2]at hws;cases hws
 have hws0:H ws=none:=by
  cases e:H ws with
  | none=>rfl
  | some o=>rw[sb1 _ _ e nw]at hws;cases hws
 refine⟨Za,dx,_,sm3 _ _ hq2,T.Zx,T.Z0q,by rw[show (Aa (Str.ofString "heights") (V.ref hs) []).length=1 from rfl];decide,q hs ws (yl.map aOf) _ (λb o e nb=>by rw[A2 nb];exact sm3 _ _ (sb1 _ _ e nb)) hhs hws0 ⟨⟨dx,A1⟩,by rw[A2 nq.symm];exact sm3 _ _ hh2,by rw[A2 nw,<- ey];exact hw3,⟨by rw[Fa,hwl];unfold w0;rw[Fa,Fw],λk t x hk hx=>?_⟩,nhw⟩⟩;rw[Fe]at hk
 cases hy:yl[k]? with
 | none=>rw[hy]at hk;cases hk
 | some y=>
 rw[hy]at hk;obtain⟨t',rfl,ht'⟩:=hall k y hy;cases hk
 have hkn:k < n:=by rw[<- hwl];exact(Fd.mp hy).1
 unfold w0 at hx;rw[Fe,FS hkn]at hx;cases hx
 have nt:t'≠q':=λe=>by rw[e,sm3 _ _ hq2]at ht';cases ht'
 show upd H3 q' _ t'=_;rw[A2 nt];exact ht'
variable (Z3w:Os P w K mg base CX0 1 "Climb" Za ["self","points"] (K8 Za))
include T in
theorem Z7i(F:Fun K "rises_by" "Climb.rises_by" Z39 f fd):Al P w K mg base CX0 1 f fd ["self","moves"] (K9 Za):=by
 have sc:A9 ["self","moves","rises","start","end","gain","number"] ["self","moves"] (A6 Z39):=by ext:3
 ext:2
 . exact n11 h_ λ_ _ _ _ _ _ _ _ _ _ _=>rfl
 refine x11 h_ λq' m hs ws as mas n ms pi h w' e_=>y11 e_ λe0 hC hm hT n1 n2 P' c hn hml q=>?_;clear e_ h_;subst e0
 refine⟨_,(@A4 _ _ _ _ _ (Aq (i:=2) sc.nd rfl (Or.inl rfl) Dl)
  (@A4 _ _ _ _ _ (Ci PassesOwn.never rfl (Cs (pv 1)) (Il rfl (Bc (Ay (i:=3) sc.nd rfl (Or.inl rfl)) (Bc (Ay (i:=4) sc.nd rfl (Or.inl rfl)) (Bc (Ay (i:=5) sc.nd rfl (Or.inl rfl)) (Bc (Ay (i:=6) sc.nd rfl (Or.inl rfl)) Ee)))))
   (@A5 _ _ _ (Az (Ah Ew (Ao Bk (@As _ _ _ _ _ _ _ B9 (Ab (pv 0) rfl) (pv 3) (λ_ _=>rfl)) (pv 5)) (@As _ _ _ _ _ _ _ B9 (Ab (pv 0) rfl) (pv 4) (λ_ _=>rfl)) (nomark _))
    (@A4 _ _ _ _ _ (Wu (Ao Bk (@As _ _ _ _ _ _ _ B9 (Ab (pv 0) rfl) (pv 3) (λ_ _=>rfl)) (pv 5)) (Wt (Ab (pv 0) rfl) (pv 4) Ps))
    (@A4 _ _ _ _ _ (Wu (Cj (A0 (pv 3) (A0 (pv 6) A3))) (Wt (Ab (pv 0) rfl) (pv 4) Ps))
    (@A5 _ _ _ (Aq (i:=2) sc.nd rfl (Or.inl rfl) Dl))))
    An)))
  (@A5 _ _ _ (@Ag _ _ _ _ (pv 2))))),?_⟩
 ext:4;ext
 have hMs:∀x∈[hs,ws],∀l,H x≠some (.tup l):=λx hx l e=>by
  rcases Ft.mp hx with z | z
  . rw[z,hC.hh]at e;cases e
  . rw[Fj.mp z,hC.ww]at e;cases e
 have nm:m∉[hs,ws]:=by simp;exact⟨n1,n2⟩
 refine⟨⟨_,SqL.of hm⟩,?_⟩;rename_i rest hrest;refine Iq (xs:=mas.map V.ref) (λi σ H'=>∃(as':List Addr) (v3 v4 v5 v6:Option V),σ=[some (V.ref q'),some (V.ref m),some (V.bl (Cv (ms.take i) ((h,w'),false)).2),v3,v4,v5,v6]/\Kp [hs,ws] H H'/\Oc Za H' q' hs ws as' (Cv (ms.take i) ((h,w'),false)).1.1 (Cv (ms.take i) ((h,w'),false)).1.2) ⟨as,none,none,none,none,rfl,Kp.of (A7.refl _),hC⟩ (λi σ H' _ ⟨_,_,_,_,_,_,kp,_⟩=>SqL.of (kp _ _ nm hm)) ?_ ?_
 . clear hrest
   rintro i x σ H' hx ⟨as',v3,v4,v5,v6,rfl,kp,hC'⟩;rw[Fe]at hx
   cases ha:mas[i]? with
   | none=>rw[ha]at hx;cases hx
   | some t=>
   rw[ha]at hx;cases hx
   have hil:i < ms.length:=by rw[<- hT.1];exact(Fd.mp ha).1
   obtain⟨mv,hmv⟩:∃mv,ms[i]?=some mv:=⟨_,Fb hil⟩
   have hmem:=Ff hmv;have ht:=kp _ _ (λz=>hMs t z _ (hT.2 i t mv ha hmv)) (hT.2 i t mv ha hmv);have ci:=Pw P' (ms.take i) ((h,w'),false) (λx hx=>Ja hx) c;rw[Xs hmv];generalize Cv (ms.take i) ((h,w'),false)=st at hC' ci ⊢;obtain⟨⟨hh,ww⟩,bb⟩:=st;have ht':H' t=some (.tup [V.int mv.u,V.int mv.v,V.int mv.g,oV mv.k]):=ht;clear ht;have pm:=P'.m mv hmem;have hC2:Oc Za H' q' hs ws as' hh ww:=hC';have ci2:CI n ms pi hh ww:=ci;clear hC' ci;obtain⟨dx,ho⟩:=id hC2.o
   have hul:mv.u < hh.length:=by rw[ci2.lh];exact pm.1
   have hvl:mv.v < hh.length:=by rw[ci2.lh];exact pm.2.1
   have gu:atI (hh.map V.int) (mv.u:Int)=some (V.int (at' hh mv.u)):=Ai (by rw[Fe,Fb hul];unfold at';rw[Fc,Fb hul];rfl);have gv:atI (hh.map V.int) (mv.v:Int)=some (V.int (at' hh mv.v)):=Ai (by rw[Fe,Fb hvl];unfold at';rw[Fc,Fb hvl];rfl)
   have lh:(clF hs ws).lookup (Str.ofString "heights")=some (V.ref hs):=by rfl
   have lw:(clF hs ws).lookup (Str.ofString "ways")=some (V.ref ws):=by rfl
   by_cases hg:at' hh mv.u+mv.g > at' hh mv.v
   . have er:rise1 mv ((hh,ww),bb)=((hh.set mv.v (at' hh mv.u+mv.g),ww.set mv.v ((mv.u:Int),mv.k)),true):=by
      unfold rise1 rise;rw[if_pos hg,if_pos hg]
     rw[er];ext;refine⟨_,SqT.of ht',rfl,_,_,rfl,_,_,rfl,_,_,rfl,_,_,rfl,rfl,Za,dx,_,ho,T.Zx,T.Zg,_,lh,Bb (SqL.of hC2.hh) gu ⟨_,rfl,_,rfl,Za,dx,_,ho,T.Zx,T.Zg,_,lh,Bb (SqL.of hC2.hh) gv ⟨_,rfl,?_⟩⟩⟩;rw[if_pos hg];ext;refine⟨Za,dx,_,ho,T.Zx,T.Zg,_,lh,Bb (SqL.of hC2.hh) gu ⟨_,rfl,Za,dx,_,ho,T.Zx,T.Zg,_,lh,hs,rfl,_,hC2.hh,mv.v,by rw[Fa];exact Xk hvl,?_⟩⟩;rw[<- List.map_set]
     have nqh:q'≠hs:=λe=>by have:=hC2.hh;rw[<- e,ho]at this;cases this
     have nqw:q'≠ws:=λe=>by have:=hC2.ww;rw[<- e,ho]at this;cases this
     have kpA:Kp [hs,ws] H (upd H' hs (.lst ((hh.set mv.v (at' hh mv.u+mv.g)).map V.int))):=kp.upd (by simp)
     have hoA:upd H' hs (.lst ((hh.set mv.v (at' hh mv.u+mv.g)).map V.int)) q'=some (.ins Za dx (clF hs ws)):=by rw[A2 nqh];exact ho
     have hhA:upd H' hs (.lst ((hh.set mv.v (at' hh mv.u+mv.g)).map V.int)) hs=some (.lst ((hh.set mv.v (at' hh mv.u+mv.g)).map V.int)):=A1
     have hwA:upd H' hs (.lst ((hh.set mv.v (at' hh mv.u+mv.g)).map V.int)) ws=some (.lst (as'.map V.ref)):=by rw[A2 hC2.n.symm];exact hC2.ww
     have hTA:B7 wyV (upd H' hs (.lst ((hh.set mv.v (at' hh mv.u+mv.g)).map V.int))) as' ww:=hC2.t.lst hC2.hh;have hnA:=hC2.n
     have hal:mv.v < as'.length:=by rw[hC2.t.1,ci2.lw];exact pm.2.1
     generalize upd H' hs (.lst ((hh.set mv.v (at' hh mv.u+mv.g)).map V.int))=HA at kpA hoA hhA hwA hTA ⊢;clear ht' gu gv kp hC2 ho;ext:1;intro t2 ht2;have s2:A7 HA (upd HA t2 (.tup [V.int mv.u,oV mv.k])):=A7.new ht2;refine⟨Za,dx,_,s2 _ _ hoA,T.Zx,T.Z0q,_,lw,ws,rfl,_,s2 _ _ hwA,mv.v,by rw[Fa];exact Xk hal,?_⟩;rw[<- List.map_set];ext:1;refine⟨(kpA.trans (Kp.of s2)).upd (by simp),as'.set mv.v t2,⟨⟨dx,by rw[A2 nqw];exact s2 _ _ hoA⟩,by rw[A2 hnA];exact s2 _ _ hhA,A1,?_,hnA⟩⟩;exact B7.lst (s2 _ _ hwA) ((hTA.same s2).set (by rw[A1];rfl))
   . have er:rise1 mv ((hh,ww),bb)=((hh,ww),bb):=if_neg hg
     rw[er];ext;refine⟨_,SqT.of ht',rfl,_,_,rfl,_,_,rfl,_,_,rfl,_,_,rfl,rfl,Za,dx,_,ho,T.Zx,T.Zg,_,lh,Bb (SqL.of hC2.hh) gu ⟨_,rfl,_,rfl,Za,dx,_,ho,T.Zx,T.Zg,_,lh,Bb (SqL.of hC2.hh) gv ⟨_,rfl,?_⟩⟩⟩;rw[if_neg (by omega)];exact⟨kp,as',hC2⟩
 . rintro σ H' ⟨as',v3,v4,v5,v6,rfl,kp,hC'⟩
   subst hrest;rw[Fa,hT.1,HU]at hC' ⊢;ext;exact q as' H' kp hC'
variable (Z1h:DefM P w K mg base CX0 1 Za "rises_by" ["self","moves"] (K9 Za))
include T in
theorem Z6v(F:Fun K "jumps_used" "Climb.jumps_used" Z26 f fd):Al P w K mg base CX0 1 f fd ["self"] (Lz Za):=by
 have sc:A9 ["self","numbers","point"] ["self"] (A6 Z26):=by ext:3
 ext:2
 . exact n8 h_ λ_ _ _ _ _ _ _ _=>rfl
 refine x8 h_ λq' hs ws as n d h w' e_=>y9 e_ λe0 hC hw hn1 hn hu hr hd q=>?_;clear e_ h_;subst e0
 refine⟨_,(@A4 _ _ _ _ _ (Aq (i:=1) sc.nd rfl (Or.inl rfl) (@Ck _ _ _ _ A3))
  (@A4 _ _ _ _ _ (Aq (i:=2) sc.nd rfl (Or.inl rfl) (Ao E9 (Aj Ap rfl T.Zq FN (A0 (Ab (pv 0) rfl) A3)) A8))
  (@A4 _ _ _ _ _ (Kn PassesOwn.never (Ah Ew (pv 2) A8 (nomark _))
   (@A4 _ _ _ _ _ (Ak (Dh FA FR FQ Bq (pv 1) (A0 (@As _ _ _ _ _ _ _ B8 (@As _ _ _ _ _ _ _ B9 (Ab (pv 0) rfl) (pv 2) (λ_ _=>rfl)) A8 (λ_ _=>rfl)) A3)))
   (@A5 _ _ _ (Aq (i:=2) sc.nd rfl (Or.inl rfl) (@As _ _ _ _ _ _ _ B8 (@As _ _ _ _ _ _ _ B9 (Ab (pv 0) rfl) (pv 2) (λ_ _=>rfl)) A8 (λ_ _=>rfl))))))
  (@A5 _ _ _ (@Ag _ _ _ _ (Vo "number" [] rfl rfl (Cs (pv 1)) (λb=>(Ah Y0 (pv 0) Cy (nomark _))) (λb=>(pv 0)))))))),?_⟩
 ext:4;ext;intro p hp;have sm0:A7 H (upd H p (.lst [])):=A7.new hp;have hp0:upd H p (.lst []) p=some (.lst []):=A1;generalize upd H p (.lst [])=H1 at sm0 hp0 ⊢;obtain⟨dx,ho⟩:=id hC.o;ext:1
 have lw:(clF hs ws).lookup (Str.ofString "ways")=some (V.ref ws):=by rfl
 have hC1:=hC.same sm0
 have hwl:as.length=n:=by rw[hC.t.1,hw]
 refine⟨Za,dx,_,sm0 _ _ ho,T.Zx,T.Z0q,_,lw,ws,rfl,_,.inl (SqL.of hC1.ww),?_⟩;rw[Fa,hwl];ext:1;rename_i rest hrest;refine⟨λd' σ H'=>∃(v:Nat) (pre:List (Option Nat)),σ=[some (V.ref q'),some (V.ref p),some (V.int v)]/\A7 H H'/\v < n/\Rch w' v d'/\H' p=some (.lst (pre.map oV))/\pre++nums w' d' v=nums w' d (n - 1)/\pre.length+d'<=d,⟨d,n - 1,[],by rw[show ((n:Int) - 1)=((n - 1:Nat):Int) by omega],sm0,by omega,hr,hp0,rfl,by simp⟩,?_⟩;rintro d' σ H' ⟨v,pre,rfl,sm,hv,rv,hp',hpre,hpl⟩;have hC':=hC.same sm;obtain⟨dx2,ho2⟩:=id hC'.o;ext
 by_cases hv0:0 < v
 . rw[if_pos (by omega)]
   cases rv with
   | z=>exact absurd hv0 (Hn _)
   | @s _ d2 pz r=>
   obtain⟨u,hu1,hu2⟩:=hu v hv0 hv
   obtain⟨y,hy⟩:∃y:Wy,w'[v]?=some y:=⟨_,Fb (by omega)⟩
   have ey:w'.getD v (0,none)=y:=by rw[Fc,hy];rfl
   obtain⟨t,ht1,ht2⟩:=hC'.t.get hy;have gw:atI (as.map V.ref) (v:Int)=some (V.ref t):=Ai (by rw[Fe,ht1];rfl);have ht3:H' t=some (.tup [V.int y.1,oV y.2]):=ht2;rw[ey]at hu2
   have ep:prd w' v=u:=by unfold prd;rw[ey,hu2];exact Int.toNat_natCast _
   rw[ep]at r
   have en:NF.nums w' (d2+1) v=y.2::NF.nums w' d2 u:=by
    show (w'.getD v (0,none)).2::NF.nums w' d2 (prd w' v)=_;rw[ey,ep]
   rw[en]at hpre;refine⟨λσ' H'=>∃v,σ'=[some (V.ref q'),some (V.ref p),some (V.int (v:Nat))]/\A7 H H'/\v < n/\Rch w' v d2/\∃x,H' p=some (HO.lst (List.map oV x))/\x++NF.nums w' d2 v=NF.nums w' d (n - 1)/\x.length+d2<=d,λσ' H' hN=>⟨d2,Hz _,hN⟩,?_⟩;ext;refine⟨.inl ⟨rfl,_,SqL.of hp'⟩,Za,dx2,_,ho2,T.Zx,T.Z0q,_,lw,Bb (SqL.of hC'.ww) gw (B6 (SqT.of ht3) (Ai (j:=1) rfl) ⟨p,_,_,rfl,rfl,hp',by rw[Fa];omega,?_⟩)⟩;have smA:A7 H (upd H' p (.lst (pre.map oV++[oV y.2]))):=Cd sm hp
   have hpA:upd H' p (.lst (pre.map oV++[oV y.2])) p=some (.lst ((pre++[y.2]).map oV)):=by rw[A1,Fo];rfl
   have npt:t≠p:=λe=>by rw[e,hp']at ht3;cases ht3
   have htA:upd H' p (.lst (pre.map oV++[oV y.2])) t=some (.tup [V.int y.1,oV y.2]):=by rw[A2 npt];exact ht3
   generalize upd H' p (.lst (pre.map oV++[oV y.2]))=HA at smA hpA htA ⊢;have hCA:=hC.same smA;obtain⟨dx3,ho3⟩:=id hCA.o;ext:1;refine⟨Za,dx3,_,ho3,T.Zx,T.Z0q,_,lw,Bb (SqL.of hCA.ww) gw (B6 (SqT.of htA) (Ai (j:=0) rfl) ?_)⟩;exact⟨u,by rw[hu2],smA,hu1,r,pre++[y.2],hpA,by rw[HN];exact hpre,by rw[Fl,FV];omega⟩
 . rw[if_neg (by omega)]
   have e0:v=0:=by omega
   subst e0
   cases rv with
   | s pz _=>exact absurd pz (Hn _)
   | z=>
   have epre:pre=NF.nums w' d (n - 1):=by rw[<- hpre];exact(Hd _).symm
   subst hrest;ext;refine⟨⟨_,SqL.of hp'⟩,Q6 (λx=>!decide (x=V.non)) id (SqL.of hp') (by rw[Fa];omega) (λb x H2 QT hx sm2 qt=>?_) (λb x H2 Q' hx hpx sm2 q'=>?_) (λD H2 hD sm2 hD2=>?_)⟩
   . ext
     exact qt _ (A7.refl _)
   . ext
     exact q' _ (A7.refl _)
   . rw[Od,epre]at hD2
     exact q D H2 (Ar sm hD) (sm.trans sm2) hD2
variable (Z0x:DefM P w K mg base CX0 1 Za "jumps_used" ["self"] (Lz Za))
include T Z1w Z2g Z3w Z1h in
theorem Z9y(F:Fun K "climb_of" "climb_of" Z6m f fd):Al P w K mg base CX0 3 f fd ["points","jumps","taken","strands"] (Ka Za):=by
 have sc:A9 ["points","jumps","taken","strands","moves","climb"] ["points","jumps","taken","strands"] (A6 Z6m):=by ext:3
 ext:2
 . exact n8 h_ λ_ _ _ _ _ _ _ _=>rfl
 refine x8 h_ λn a b s' as js tk pi e_=>y9 e_ λe0 hJ hB hF hok hj hn1 hn q=>?_;clear e_ h_;subst e0
 refine⟨_,(@A4 _ _ _ _ _ (Aq (i:=4) sc.nd rfl (Or.inl rfl) (Ad Z1w hr rfl Ae (A0 (pv 0) (A0 (pv 1) (A0 (pv 2) (A0 (pv 3) A3))))))
  (@A4 _ _ _ _ _ (J2g (i:=4) sc.nd rfl (Or.inl rfl) (Vp "number" "jump" [2] rfl rfl (P1 rfl T.Z1p (A0 (pv 1) A3)) (λb=>(Ad Z2g hr rfl Ae (A0 (pv 1) (A0 (@As _ _ _ _ _ _ _ B9 (pv 2) (pv 0) (λ_ _=>rfl)) (A0 (pv 0) A3)))))) J8i)
  (@A4 _ _ _ _ _ (Aq (i:=5) sc.nd rfl (Or.inl rfl) (Dq Z3w hr rfl (B4 Ae) (A0 (pv 0) A3)))
  (@A4 _ _ _ _ _ (Kn PassesOwn.never (Bg (B2 Z1h T.Zx hr (B4 Ae) (pv 5) (A0 (pv 4) A3)))
   (@A5 _ _ _ E1))
  (@A5 _ _ _ (@Ag _ _ _ _ (pv 5))))))),?_⟩
 ext:4;ext;refine⟨n,rfl,s',rfl,as,js,hJ,tk,hB,hF.l,hj,hn1,hn,λm ms H1 hm sm1 hm1 hT1 hml=>?_⟩;ext:1;have hJ1:=hJ.same sm1;have hB1:=sm1 _ _ hB;refine⟨⟨_,SqL.of hJ1.1⟩,N36.J29 (xs:=as.map V.ref) (λi=>mvV (D1 (js.getD i (0,0,0)) (tk.getD i false) i)) (SqL.of hJ1.1) (by rw[Fa,hJ.2.1];omega) (λbb i x H' Q' hx sm q'=>?_) λm2 ms2 H2 hm2 sm2 hm22 hl2 hT2=>?_⟩
 . rw[Fe]at hx
   cases ha:as[i]? with
   | none=>rw[ha]at hx;cases hx
   | some c=>
   rw[ha]at hx;cases hx
   have hil:i < js.length:=by rw[<- hJ.2.1];exact(Fd.mp ha).1
   have hc:=sm _ _ (hJ1.2.2 i c _ ha (show js[i]?=some (js.getD i (0,0,0)) by rw[Fc,Fb hil];rfl));have gt:atI (tk.map V.bl) (i:Int)=some (V.bl (tk.getD i false)):=Ai (by rw[Fe,Fc,Fb (by rw[hF.l];exact hil)];rfl);ext;exact Bb (SqL.of (sm _ _ hB1)) gt ⟨_,rfl,i,rfl,_,hc,λt' H'' sm' ht'=>q' t' H'' sm' ht'⟩
 have hTJ:B7 mvV H2 ms2 (Md js tk):=⟨by rw[hl2,Fa,hJ.2.1];unfold Md;rw[Fa,Fw],λk t x hk hx=>by
  unfold Md at hx
  have hkl:k < js.length:=by have:=(Fd.mp hx).1;rw[Fa,Fw]at this;exact this
  rw[Fe,FS hkl]at hx;cases hx
  exact hT2 k t hk⟩
 have hm12:=sm2 _ _ hm1;have nm2:m≠m2:=Ac hm1 hm2;refine⟨m2,rfl,_,hm12,_,hm22,by rw[Fa,Fa];have:=hTJ.1;unfold Md at this;rw[Fa,Fw]at this;omega,?_⟩;have smA:A7 H (upd H2 m (.lst (ms.map V.ref++ms2.map V.ref))):=Cd (sm1.trans sm2) hm
 have hmA:upd H2 m (.lst (ms.map V.ref++ms2.map V.ref)) m=some (.lst ((ms++ms2).map V.ref)):=by rw[A1,Fo]
 have hTA:B7 mvV (upd H2 m (.lst (ms.map V.ref++ms2.map V.ref))) (ms++ms2) (mvs n js tk s'):=((hT1.same sm2).lst hm12).app (hTJ.lst hm12)
 have hlA:(mvs n js tk s').length<=1000:=by have h1:=hTA.1;have h2:=hTJ.1;unfold Md at h2;rw[Fa,Fw]at h2;rw[Fl]at h1;omega
 generalize upd H2 m (.lst (ms.map V.ref++ms2.map V.ref))=HA at smA hmA hTA ⊢;clear hT1 hTJ hm12 hm22 sm2 hT2 hm1 sm1 hJ1 hB1;ext:1;intro x dx hx hdx nx;refine⟨dx,n,rfl,A1,hn,λhs ws ws' H3 sb hhs hws hC=>?_⟩;have sm3:A7 HA H3:=N63.U4 hx hdx sb;have hhsA:HA hs=none:=Ar (N63.U5 hx hdx) hhs;have hwsA:HA ws=none:=Ar (N63.U5 hx hdx) hws;have n1:m≠hs:=Ac hmA hhsA;have n2:m≠ws:=Ac hmA hwsA
 have hM0:∀k∈[hs,ws],H k=none:=λk hk=>by
  rcases Ft.mp hk with h | h
  . rw[h];exact Ar smA hhsA
  . rw[Fj.mp h];exact Ar smA hwsA
 have smH3:=smA.trans sm3;have hm3:=sm3 _ _ hmA;have hT3:=hTA.same sm3
 have hMs:∀x∈[hs,ws],∀l,H3 x≠some (.tup l):=λx hx l e=>by
  rcases Ft.mp hx with z | z
  . rw[z,hC.hh]at e;cases e
  . rw[Fj.mp z,hC.ww]at e;cases e
 have nm:m∉[hs,ws]:=by simp;exact⟨n1,n2⟩
 clear hTA hmA sb hhs hws hx hdx nx hhsA hwsA sm3 smA;ext:1;rename_i rest hrest;refine⟨λk σ H'=>∃(ws2:List Addr) (hc:List Int) (wc:List Wy),σ=[some (V.int n),some (V.ref a),some (V.ref b),some (V.int s'),some (V.ref m),some (V.ref x)]/\Kp [hs,ws] H3 H'/\Oc Za H' x hs ws ws2 hc wc/\CI n (mvs n js tk s') pi hc wc/\(∀e,ClR (mvs n js tk s') (hc,wc) e->ClR (mvs n js tk s') (h0 n,w0 n) e)/\k=(((List.range n).map pi).sum - hc.sum).toNat,⟨_,ws',h0 n,w0 n,rfl,Kp.of (A7.refl _),hC,ci0 hF.p,λe he=>he,rfl⟩,?_⟩;rintro k σ H' ⟨ws2,hc,wc,rfl,kp,hC',ci,hR,hk⟩;obtain⟨dx2,ho2⟩:=id hC'.o;ext;refine⟨dx2,_,ho2,by rfl,hs,ws,ws2,ms++ms2,n,mvs n js tk s',pi,hc,wc,hC',kp _ _ nm hm3,hT3.kp kp hMs,n1,n2,hF.p,ci,hn,hlA,λas' H4 kp4 hC4=>?_⟩;have ci4:=Pw hF.p (mvs n js tk s') ((hc,wc),false) (λ_ h=>h) ci;have hsm:=Sa hF.p hc.sum (mvs n js tk s') ((hc,wc),false) (λ_ h=>h) ci ⟨FZ _,λh=>by cases h⟩
 have hmx:=Jax ci4;have kp04:=kp.trans kp4
 cases hb:(Cv (mvs n js tk s') ((hc,wc),false)).2 with
 | true=>
  rw[if_pos rfl];have hlt:=hsm.2 hb;refine⟨λσ' H''=>σ'=[some (V.int n),some (V.ref a),some (V.ref b),some (V.int s'),some (V.ref m),some (V.ref x)]/\H''=H4,?_,rfl,rfl⟩;rintro σ' H'' ⟨rfl,rfl⟩;exact⟨(((List.range n).map pi).sum - (Cv (mvs n js tk s') ((hc,wc),false)).1.1.sum).toNat,by omega,rfl,kp04,as',_,_,hC4,ci4,λe he=>hR e (.s hb he),rfl⟩
 | false=>
  rw[if_neg (by decide)];obtain⟨_,he,hst⟩:=Oj _ _ hb;have hcl:=hR _ (.z hb);rw[he]at hC4 ci4 hcl;subst hrest;ext;exact q x hs ws as' hc wc H4 (Kp.same smH3 kp04 hM0) (hM0 hs (by simp)) hC4 hcl ci4 hst
variable (Z3x:Def P w K mg base CX0 3 "climb_of" ["points","jumps","taken","strands"] (Ka Za))
include T Z3x Z0x in
theorem Zad(F:Fun K "flow_of" "flow_of" Z74 f fd):Al P w K mg base CX0 4 f fd ["points","jumps","most"] (M3):=by
 have sc:A9 ["points","jumps","most","taken","strands","climb","number"] ["points","jumps","most"] (A6 Z74):=by ext:3
 ext:2
 . exact n5 h_ λ_ _ _ _ _=>rfl
 refine x5 h_ λn a most as js e_=>y8 e_ λe0 hJ hok hj hn1 hn hm q=>?_;clear e_ h_;subst e0
 refine⟨_,(@A4 _ _ _ _ _ (J6p (i:=3) "start" "end" "gain" [] sc.nd rfl rfl rfl rfl (Cs (pv 1)) (λb=>(Ef Ki (pv 0) (pv 1) (nomark _))))
  (@A4 _ _ _ _ _ (Aq (i:=4) sc.nd rfl (Or.inl rfl) A8)
  (@A4 _ _ _ _ _ (Aq (i:=5) sc.nd rfl (Or.inl rfl) (Ad Z3x hr rfl Ae (A0 (pv 0) (A0 (pv 1) (A0 (pv 3) (A0 (pv 4) A3))))))
  (@A4 _ _ _ _ _ (Kn PassesOwn.never (PW.pt (Wr (Ah Ml (pv 4) (pv 2) (nomark _)) (Sy (Ah Ew (@As _ _ _ _ _ _ _ B9 (Ab (pv 5) rfl) (Jbw Ja4 A8) (λ_ _=>rfl)) A8 (nomark _)))))
   (@A4 _ _ _ _ _ (Ci PassesOwn.never rfl (Cs (Gr Z0x T.Zx hr (B4 Ae) (pv 5))) (Ay (i:=6) sc.nd rfl (Or.inl rfl))
    (@A5 _ _ _ (Wu (Ws (@As _ _ _ _ _ _ _ B9 (pv 3) (pv 6) (λ_ _=>rfl))) (Wt (pv 3) (pv 6) Ps))))
   (@A4 _ _ _ _ _ (J2g (i:=4) sc.nd rfl (Or.inl rfl) A8 Ja1)
   (@A5 _ _ _ (Aq (i:=5) sc.nd rfl (Or.inl rfl) (Ad Z3x hr rfl Ae (A0 (pv 0) (A0 (pv 1) (A0 (pv 3) (A0 (pv 4) A3))))))))))
  (@A5 _ _ _ (@Ag _ _ _ _ (Cj (A0 (pv 3) (A0 (Ab (pv 5) rfl) A3))))))))),?_⟩
 ext:4;ext;refine⟨⟨_,SqL.of hJ.1⟩,J87 (λi=>V.int (js.getD i (0,0,0)).1) (λi=>V.int (js.getD i (0,0,0)).2.1) (λi=>V.int (js.getD i (0,0,0)).2.2) (λi=>V.bl (decide ((js.getD i (0,0,0)).1=(js.getD i (0,0,0)).2.1))) (SqL.of hJ.1) (by rw[hJ.2.1];omega) (λi p hp=>?_) (λb i H' Q' hi sm q'=>?_) λb hb=>?_⟩
 . have hil:i < js.length:=by rw[<- hJ.2.1];exact(Fd.mp hp).1
   exact SqT.of (hJ.2.2 i p _ hp (show js[i]?=some (js.getD i (0,0,0)) by rw[Fc,Fb hil];rfl))
 . ext
   rw[show decide (((js.getD i (0,0,0)).1:Int)=((js.getD i (0,0,0)).2.1:Int))=decide ((js.getD i (0,0,0)).1=(js.getD i (0,0,0)).2.1) from Jk.mpr (by omega)];exact q'
 rw[hJ.2.1,J6s];have sm0:A7 H (upd H b (.lst ((tk0 js).map V.bl))):=A7.new hb;have hb0:upd H b (.lst ((tk0 js).map V.bl)) b=some (.lst ((tk0 js).map V.bl)):=A1;generalize upd H b (.lst ((tk0 js).map V.bl))=H0 at sm0 hb0 ⊢;ext:1;refine⟨n,rfl,0,rfl,as,js,hJ.same sm0,tk0 js,hb0,pi0 js,fi0 hok hn1,hok,hj,hn1,hn,λq1 hs1 ws1 wl1 h1 w1 H1 sm1 hhs1 hC1 hR1 ci1 rs1=>?_⟩
 have nb1:hs1≠b:=λe=>by rw[e,hb0]at hhs1;cases hhs1
 have hb1:=sm1 _ _ hb0;have hhs0:=Ar sm0 hhs1;ext:1;rename_i rest hrest;refine⟨λk σ H'=>∃(tk:List Bool) (st:Nat) (cq hs ws:Addr) (wl:List Addr) (h:List Int) (w':List Wy) (pi:Nat->Int) (v6:Option V),σ=[some (V.int n),some (V.ref a),some (V.int most),some (V.ref b),some (V.int st),some (V.ref cq),v6]/\A7 H H'/\H' b=some (.lst (tk.map V.bl))/\H hs=none/\hs≠b/\Oc Za H' cq hs ws wl h w'/\FI n js tk st pi/\CI n (mvs n js tk st) pi h w'/\Xd (mvs n js tk st) h/\ClR (mvs n js tk st) (h0 n,w0 n) (h,w')/\(st:Int)<=most/\(∀t' h',FlR n js most tk st t' h'->FlR n js most (tk0 js) 0 t' h')/\(∀v,v < n->pi v<=pi0 js v)/\k=(most - st).toNat,⟨_,tk0 js,0,q1,hs1,ws1,wl1,h1,w1,pi0 js,none,rfl,sm0.trans sm1,hb1,hhs0,nb1,hC1,fi0 hok hn1,ci1,rs1,hR1,hm,λt' h' z=>z,λv _=>FZ _,rfl⟩,?_⟩;rintro k σ H' ⟨tk,st,cq,hs,ws,wl,h,w',pi,v6,rfl,sm,hb',hhs,nhb,hC,hF,ci,rs,hR,hsm,hfl,hpi,hk⟩;obtain⟨dx,ho⟩:=id hC.o
 have lh:(clF hs ws).lookup (Str.ofString "heights")=some (V.ref hs):=by rfl
 have gl:atI (h.map V.int) (-1)=some (V.int (at' h (n - 1))):=by rw[J6r (by rw[ci.lh];exact hn1),ci.lh]
 have fin:¬((st:Int) < most/\0 < at' h (n - 1))->rest [some (V.int n),some (V.ref a),some (V.int most),some (V.ref b),some (V.int st),some (V.ref cq),v6] H':=by
  intro hno;subst hrest;ext;refine⟨Za,dx,_,ho,T.Zx,T.Zg,_,lh,by omega,λt ht=>?_⟩;have st':A7 H' (upd H' t (.tup [V.ref b,V.ref hs])):=A7.new ht;exact q t b hs tk h _ (sm.trans st') hb hhs A1 (st' _ _ hb') (st' _ _ hC.hh) (hfl _ _ (.z hR hno)) (Jcp hok hn1 hF ci rs hsm (by omega)) (λv hv=>RQ (ci.hi v hv) (hpi v hv))
 ext
 by_cases h1:(st:Int) < most
 . rw[if_pos h1]
   refine⟨Za,dx,_,ho,T.Zx,T.Zg,_,lh,Bb (SqL.of hC.hh) gl ⟨_,rfl,?_⟩⟩
   by_cases h2:0 < at' h (n - 1)
   . rw[if_pos h2]
     obtain⟨d,rd⟩:=ci.rc (n - 1) (by omega);have W:=wb hok ci hF.p rs rd (by omega);have hF':=J7k hok hn1 hF ci rs rd;clear fin;refine⟨λσ' H''=>∃(tk:List Bool) (cq hs ws:Addr) (wl:List Addr) (h:List Int) (w':List Wy) (pi:Nat->Int) (v6:Option V),σ'=[some (V.int n),some (V.ref a),some (V.int most),some (V.ref b),some (V.int ((st+1:Nat):Int)),some (V.ref cq),v6]/\A7 H H''/\H'' b=some (.lst (tk.map V.bl))/\H hs=none/\hs≠b/\Oc Za H'' cq hs ws wl h w'/\FI n js tk (st+1) pi/\CI n (mvs n js tk (st+1)) pi h w'/\Xd (mvs n js tk (st+1)) h/\ClR (mvs n js tk (st+1)) (h0 n,w0 n) (h,w')/\(∀t' h',FlR n js most tk (st+1) t' h'->FlR n js most (tk0 js) 0 t' h')/\(∀v,v < n->pi v<=pi0 js v),?_,?_⟩
     . rintro σ' H'' ⟨tk2,cq2,hs2,ws2,wl2,h2',w2,pi2,v62,rfl,e1,e2,e3,e4,e5,e6,e7,e8,e9,e10,e11⟩
       exact⟨(most - ((st+1:Nat):Int)).toNat,by omega,tk2,st+1,cq2,hs2,ws2,wl2,h2',w2,pi2,v62,rfl,e1,e2,e3,e4,e5,e6,e7,e8,e9,by omega,e10,e11,rfl⟩
     . have hu:∀v,0 < v->v < n->∃u:Nat,u < n/\(w'.getD v (0,none)).1=u:=λv p hv=>by
        obtain⟨m,hm',_,e2,_⟩:=ci.wy v p hv;exact⟨m.u,(hF.p.m m hm').1,by rw[e2]⟩
       have hd:d < n:=Jbg (λv p hv=>by
        obtain⟨u,hu1,hu2⟩:=hu v p hv;unfold prd
        rw[hu2,Int.toNat_natCast];exact hu1) rd (by omega)
       ext;refine⟨dx,_,ho,by rfl,hs,ws,wl,n,d,h,w',hC,ci.lw,hn1,hn,hu,rd,by omega,λp H2 hp sm2 hp2=>⟨⟨_,SqL.of hp2⟩,?_⟩⟩
       have npb:p≠b:=λe=>by rw[e,hb']at hp;cases hp
       have hpH:=Ar sm hp
       have hul:(usd w' d (n - 1)).length<=200:=by
        have:=RG (l₂:=List.range js.length) W.nd λx hx=>He.mpr (W.kl x hx);rw[Fw]at this;omega
       have hfl2:∀t' h',FlR n js most (flips tk (usd w' d (n - 1))) (st+1) t' h'->FlR n js most (tk0 js) 0 t' h':=λt' h' z=>hfl _ _ (.s hR ⟨h1,h2⟩ rd z);have hkl:=W.kl;have hpi2:∀v,v < n->at' h v<=pi0 js v:=λv hv=>RQ (ci.hi v hv) (hpi v hv);have sm02:=sm.trans sm2;have hb2:=sm2 _ _ hb';clear W hu hd hC ci rs hR hfl hk lh gl ho rd sm2 sm;generalize usd w' d (n - 1)=ks at hp2 hul hfl2 hkl hF';rename_i rest2 hrest2;refine Iq (xs:=ks.map λ(k:Nat)=>V.int (k:Int)) (λi σ H''=>∃(v6:Option V),σ=[some (V.int n),some (V.ref a),some (V.int most),some (V.ref b),some (V.int st),some (V.ref cq),v6]/\A7 H H''/\H'' b=some (.lst ((flips tk (ks.take i)).map V.bl))/\H'' p=some (.lst (ks.map λ(k:Nat)=>V.int (k:Int)))) ⟨v6,rfl,sm02,hb2,hp2⟩ (λi σ H'' _ ⟨_,_,_,_,e⟩=>SqL.of e) ?_ ?_
       . clear hrest2
         rintro i x σ H'' hx ⟨v6,rfl,sm,hb3,hp3⟩;rw[Fe]at hx
         cases hki:ks[i]? with
         | none=>rw[hki]at hx;cases hx
         | some ki=>
         rw[hki]at hx;cases hx
         have hkj:ki < (flips tk (ks.take i)).length:=by rw[O0,hF.l];exact hkl ki (Ff hki)
         rw[Xr hki];generalize flips tk (ks.take i)=tki at hb3 hkj ⊢;have gt:atI (tki.map V.bl) (ki:Int)=some (V.bl (tki.getD ki false)):=Ai (by rw[Fe,Fc,Fb hkj];rfl);ext;refine Bb (SqL.of hb3) gt ?_;refine⟨_,rfl,_,hb3,ki,by rw[Fa];exact Xk hkj,Cd sm hb,by rw[A1,J6t],by rw[A2 npb];exact hp3⟩
       . rintro σ H'' ⟨v6,rfl,sm,hb3,hp3⟩
         rw[Fa,HU]at hb3;subst hrest2;ext;refine⟨n,rfl,st+1,by omega,as,js,hJ.same sm,flips tk ks,hb3,at' h,hF',hok,hj,hn1,hn,λq3 hs3 ws3 wl3 h3 w3 H3 sm3 hhs3 hC3 hR3 ci3 rs3=>?_⟩;exact⟨by omega,sm.trans sm3,_,sm3 _ _ hb3,hs3,Ar sm hhs3,(λe=>by rw[e,hb3]at hhs3;cases hhs3),ws3,wl3,h3,w3,hC3,at' h,hF',ci3,rs3,hR3,hfl2,hpi2⟩
   . rw[if_neg h2]
     exact fin λz=>h2 z.2
 . rw[if_neg h1]
   exact fin λz=>h1 z.1
variable (Z5u:Def P w K mg base CX0 4 "flow_of" ["points","jumps","most"] (M3))
include T Zl in
theorem Z9j(F:Fun K "__init__" "Rule.__init__" Z1q f fd):Al P w K mg base CX0 4 f fd ["self","stock","places"] (Es K):=by
 have sc:A9 ["self","stock","places"] ["self","stock","places"] (A6 Z1q):=by ext:3
 ext:2
 . exact n5 h_ λ_ _ _ _ _=>rfl
 refine x5 h_ λX q' dx p n e_=>y8 e_ λe0 hq hcl hns hnp h1 h2 q=>?_;clear e_ h_;subst e0
 refine⟨_,(@A4 _ _ _ _ _ (Ak (Ad Zl hr rfl Ae (A0 (pv 2) A3)))
  (@A4 _ _ _ _ _ (Bn (pv 0) (pv 1) rfl)
  (@A5 _ _ _ (Bn (pv 0) (pv 2) rfl)))),?_⟩
 walk_at "su";ext;refine⟨X,dx,[],hq,hcl,hns,by decide,?_⟩;ext;refine⟨X,dx,_,A1,hcl,hnp,by simp[Aa],?_⟩;ext;exact q _ (λb o e nb=>by rw[A2 nb];exact e) A1
variable (Zm:J5q P w K mg base CX0 4 "Rule" Z02 ["self","stock","places"] (Es K))
include T Zm in
theorem Z8l(F:Fun K "__init__" "Ranked.__init__" Z0u f fd):Al P w K mg base CX0 5 f fd ["self","stock","places"] (Dg K):=by
 have sc:A9 ["self","stock","places"] ["self","stock","places"] (A6 Z0u):=by ext:3
 ext:2
 . exact n5 h_ λ_ _ _ _ _=>rfl
 refine x5 h_ λX q' dx p n e_=>y9 e_ λe0 hq hcl o8 hpr hla5 h1 h2 q=>?_;clear e_ h_;subst e0;obtain⟨hns,hnp⟩:=o8
 refine⟨_,(@A4 _ _ _ _ _ (Ak (E7 Zm hr (B4 Ae) (Dz (v:= .ref Z02) rfl T.Z83 rfl) (A0 (pv 0) (A0 (pv 1) (A0 (pv 2) A3)))))
  (@A4 _ _ _ _ _ (Bn (pv 0) A8 rfl)
  (@A5 _ _ _ (Bn (pv 0) D0 rfl)))),?_⟩
 ext:4;ext;refine⟨X,dx,hq,hcl,hns,hnp,h1,h2,λH1 sb1 hq1=>?_⟩;ext:1;refine⟨X,dx,_,hq1,hcl,hpr,by rw[show (rf0 p n).length=2 from rfl];decide,?_⟩
 have sb2:SameBut q' H1 (upd H1 q' (.ins X dx (Aa "present" (V.int 0) (rf0 p n)))):=λb o e nb=>by rw[A2 nb];exact e
 have hq2:upd H1 q' (.ins X dx (Aa "present" (V.int 0) (rf0 p n))) q'=some (.ins X dx (Aa "present" (V.int 0) (rf0 p n))):=A1;generalize upd H1 q' (.ins X dx (Aa "present" (V.int 0) (rf0 p n)))=H2 at sb2 hq2 ⊢;ext:1;intro la hla
 have n1:la≠q':=λe=>by rw[e,hq2]at hla;cases hla
 refine⟨X,dx,_,by rw[A2 n1.symm];exact hq2,hcl,hla5,by rw[show (Aa "present" (V.int 0) (rf0 p n)).length=3 from rfl];decide,?_⟩;have sb12:=sb1.trans sb2
 have hla0:H la=none:=by
  cases e2:H la with
  | none=>rfl
  | some o=>rw[sb12 _ _ e2 n1]at hla;cases hla
 ext;exact q _ la (λb o e nb=>by rw[A2 nb,A2 (λe2=>by rw[e2,hla0]at e;cases e)];exact sb12 _ _ e nb) hla0 n1 A1 (by rw[A2 n1,A1])
variable (Zf:J5q P w K mg base CX0 5 "Ranked" Zd ["self","stock","places"] (Dg K))
include T Zm in
theorem Z8m(F:Fun K "__init__" "Ranked.__init__" Z4u f fd):Al P w K mg base CX0 5 f fd ["self","stock","places"] (Dg K):=by
 have sc:A9 ["self","stock","places"] ["self","stock","places"] (A6 Z4u):=by ext:3
 ext:2
 . exact n5 h_ λ_ _ _ _ _=>rfl
 refine x5 h_ λX q' dx p n e_=>y9 e_ λe0 hq hcl o8 hpr hla5 h1 h2 q=>?_;clear e_ h_;subst e0;obtain⟨hns,hnp⟩:=o8
 refine⟨_,(@A4 _ _ _ _ _ (Ak (E7 Zm hr (B4 Ae) (Dz (v:= .ref Z02) rfl T.Z83 rfl) (A0 (pv 0) (A0 (pv 1) (A0 (pv 2) A3)))))
  (@A4 _ _ _ _ _ (Bn (pv 0) A8 rfl)
  (@A5 _ _ _ (Bn (pv 0) D0 rfl)))),?_⟩
 ext:4;ext;refine⟨X,dx,hq,hcl,hns,hnp,h1,h2,λH1 sb1 hq1=>?_⟩;ext:1;refine⟨X,dx,_,hq1,hcl,hpr,by rw[show (rf0 p n).length=2 from rfl];decide,?_⟩
 have sb2:SameBut q' H1 (upd H1 q' (.ins X dx (Aa "present" (V.int 0) (rf0 p n)))):=λb o e nb=>by rw[A2 nb];exact e
 have hq2:upd H1 q' (.ins X dx (Aa "present" (V.int 0) (rf0 p n))) q'=some (.ins X dx (Aa "present" (V.int 0) (rf0 p n))):=A1;generalize upd H1 q' (.ins X dx (Aa "present" (V.int 0) (rf0 p n)))=H2 at sb2 hq2 ⊢;ext:1;intro la hla
 have n1:la≠q':=λe=>by rw[e,hq2]at hla;cases hla
 refine⟨X,dx,_,by rw[A2 n1.symm];exact hq2,hcl,hla5,by rw[show (Aa "present" (V.int 0) (rf0 p n)).length=3 from rfl];decide,?_⟩;have sb12:=sb1.trans sb2
 have hla0:H la=none:=by
  cases e2:H la with
  | none=>rfl
  | some o=>rw[sb12 _ _ e2 n1]at hla;cases hla
 ext;exact q _ la (λb o e nb=>by rw[A2 nb,A2 (λe2=>by rw[e2,hla0]at e;cases e)];exact sb12 _ _ e nb) hla0 n1 A1 (by rw[A2 n1,A1])
variable (Z2z:Os P w K mg base CX0 5 "Oldest" Z4 ["self","stock","places"] (Dg K))
include T Z00 Zf in
theorem Z87{dtk:Tok}(F:Qq K "__init__" "Halving.__init__" Z0n f fd [.int 8 dtk]):Al P w K mg base CX0 6 f fd ["self","stock","places","turn"] (Ie Z1):=by
 have sc:A9 ["self","stock","places","turn"] ["self","stock","places","turn"] (A6 Z0n):=by ext:3
 ext:2
 . exact n5 h_ λ_ _ _ _ _=>rfl
 refine x5 h_ λq' dx p n e e_=>y7 e_ λe0 hq h1 h2 h3 h4 q=>?_;clear e_ h_;subst e0
 refine⟨_,(@A4 _ _ _ _ _ (Ak (E7 Zf hr (B4 Ae) (Dz (v:= .ref Zd) rfl T.Z6j rfl) (A0 (pv 0) (A0 (pv 1) (A0 (pv 2) A3)))))
  (@A4 _ _ _ _ _ (Az (C8 (Bg (Ad Z00 hr rfl Ae (A0 (pv 3) (A0 A8 (A0 (Iu rfl T.Z62) A3))))))
   (@A5 _ _ _ Bv)
   An)
  (@A4 _ _ _ _ _ (Bn (pv 0) (pv 3) rfl)
  (@A5 _ _ _ (Bn (pv 0) D0 rfl))))),?_⟩
 ext:4;ext;refine⟨Z1,dx,hq,T.Zb,T.Z1t,T.Z1b,T.Z07,T.Z15,h1,h2,λH1 la sb1 hla n1 hq1 hl1=>?_⟩;have hq1':H1 q'=some (.ins Z1 dx (rf2 p n 0 la)):=hq1;clear hq1;ext:1;rw[if_neg (by rw[O1 h3 h4];decide)];refine⟨rfl,?_⟩;ext;refine⟨Z1,dx,_,hq1',T.Zb,T.Z2d,by rw[Tz];decide,?_⟩
 have sb2:SameBut q' H1 (upd H1 q' (.ins Z1 dx (Aa "turn" (V.int e) (rf2 p n 0 la)))):=λb o e nb=>by rw[A2 nb];exact e
 have hq2:upd H1 q' (.ins Z1 dx (Aa "turn" (V.int e) (rf2 p n 0 la))) q'=some (.ins Z1 dx (Aa "turn" (V.int e) (rf2 p n 0 la))):=A1
 have hl2:upd H1 q' (.ins Z1 dx (Aa "turn" (V.int e) (rf2 p n 0 la))) la=some (.dK []):=by rw[A2 n1];exact hl1
 generalize upd H1 q' (.ins Z1 dx (Aa "turn" (V.int e) (rf2 p n 0 la)))=H2 at sb2 hq2 hl2 ⊢;ext:1;intro ta hta
 have n2:ta≠q':=λe=>by rw[e,hq2]at hta;cases hta
 have n3:la≠ta:=λe=>by rw[<- e,hl2]at hta;cases hta
 refine⟨Z1,dx,_,by rw[A2 n2.symm];exact hq2,T.Zb,T.Zo,by rw[show (Aa "turn" (V.int e) (rf2 p n 0 la)).length=5 from rfl];decide,?_⟩;have sb12:=sb1.trans sb2
 have hta0:H ta=none:=by
  cases e2:H ta with
  | none=>rfl
  | some o=>rw[sb12 _ _ e2 n2]at hta;cases hta
 ext;exact q _ la ta (λb o e nb=>by rw[A2 nb,A2 (λe2=>by rw[e2,hta0]at e;cases e)];exact sb12 _ _ e nb) hla hta0 ⟨la,ta,rfl,⟨dx,A1⟩,by rw[A2 n1,A2 n3];exact hl2,by rw[A2 n2,A1];rfl,n3⟩
variable (Z2h:J65 P w K mg base CX0 6 "Halving" Z1 ["self","stock","places","turn"] "turn" [V.int 8] (Ie Z1))
include T Z01 Zf in
theorem Z7v(F:Fun K "__init__" "Farthest.__init__" Z3l f fd):Al P w K mg base CX0 6 f fd ["self","stock","places","asks"] (Lj K Z7 Z0):=by
 have sc:A9 ["self","stock","places","asks"] ["self","stock","places","asks"] (A6 Z3l):=by ext:3
 ext:2
 . exact n7 h_ λ_ _ _ _ _ _ _=>rfl
 refine x7 h_ λq' dx p a n ts ys e_=>y12 e_ λe0 hq hsto nd ha hlen hin hrm h1 h2 naq q=>?_;clear e_ h_;subst e0
 refine⟨_,(@A4 _ _ _ _ _ (Ak (Ad Z01 hr rfl Ae (A0 (pv 1) (A0 (pv 3) (A0 (pv 2) A3)))))
  (@A4 _ _ _ _ _ (Ak (E7 Zf hr (B4 Ae) (Dz (v:= .ref Zd) rfl T.Z6j rfl) (A0 (pv 0) (A0 (pv 1) (A0 (pv 2) A3)))))
  (@A5 _ _ _ (Bn (pv 0) (Cm Bw rfl T.Z0i (by first | rfl | decide+kernel) (A0 (pv 3) A3)) rfl)))),?_⟩
 ext:4;ext;refine⟨ts,hsto,nd,ys,ha,hlen,hin,hrm,h1,h2,λH0 sm0=>?_⟩;have hq0:=sm0 _ _ hq;have ha0:=sm0.seq ha;ext:1;refine⟨Z0,dx,hq0,T.Zc,T.Z1c,T.Z11,T.Z06,T.Z0w,h1,h2,λH1 la sb1 hla n1 hq1' hl1=>?_⟩;have hq1:H1 q'=some (.ins Z0 dx (Aa "last" (V.ref la) (Aa "present" (V.int 0) (rf0 p n)))):=hq1';clear hq1'
 have ha1:SqL K H1 a (ys.map V.str):=by
  rcases ha0 with (h | ⟨o,h⟩) | h
  . exact .inl (.inl (sb1 _ _ h naq))
  . exact .inl (.inr ⟨o,sb1 _ _ h naq⟩)
  . exact .inr h
 ext:1;intro ak hak
 have n2:ak≠q':=λe=>by rw[e,hq1]at hak;cases hak
 have n3:la≠ak:=λe=>by rw[<- e,hl1]at hak;cases hak
 refine⟨Z0,dx,_,by rw[A2 n2.symm];exact hq1,T.Zc,T.Z0c,by rw[show (Aa "last" (V.ref la) (Aa "present" (V.int 0) (rf0 p n))).length=4 from rfl];decide,?_⟩
 have hak0:H ak=none:=by
  cases e2:H ak with
  | none=>rfl
  | some o=>rw[sb1 _ _ (sm0 _ _ e2) n2]at hak;cases hak
 exact q _ la ak (λb o e nb=>by rw[A2 nb,A2 (λe2=>by rw[e2,hak0]at e;cases e)];exact sb1 _ _ (sm0 _ _ e) nb) (Ar sm0 hla) hak0 ⟨la,ak,rfl,⟨dx,A1⟩,by rw[A2 n1,A2 n3];exact hl1,by rw[A2 n2,A1]⟩
variable (Z1x:Os P w K mg base CX0 6 "Farthest" Z0 ["self","stock","places","asks"] (Lj K Z7 Z0))
include T Zf in
theorem Z95(F:Fun K "__init__" "First.__init__" Z5g f fd):Al P w K mg base CX0 6 f fd ["self","stock","places"] (Lh Z5):=by
 have sc:A9 ["self","stock","places"] ["self","stock","places"] (A6 Z5g):=by ext:3
 ext:2
 . exact n4 h_ λ_ _ _ _=>rfl
 refine x4 h_ λq' dx p n e_=>y5 e_ λe0 hq h1 h2 q=>?_;clear e_ h_;subst e0
 refine⟨_,(@A4 _ _ _ _ _ (Ak (E7 Zf hr (B4 Ae) (Dz (v:= .ref Zd) rfl T.Z6j rfl) (A0 (pv 0) (A0 (pv 1) (A0 (pv 2) A3)))))
  (@A5 _ _ _ (Bn (pv 0) D0 rfl))),?_⟩
 ext:4;ext;refine⟨Z5,dx,hq,T.Z03,T.Z2v,T.Z2e,T.Z0d,T.Z3f,h1,h2,λH1 la sb1 hla n1 hq1' hl1=>?_⟩;have hq1:H1 q'=some (.ins Z5 dx (Aa "last" (V.ref la) (Aa "present" (V.int 0) (rf0 p n)))):=hq1';clear hq1';ext:1;intro pa hpa
 have n2:pa≠q':=λe=>by rw[e,hq1]at hpa;cases hpa
 have n3:la≠pa:=λe=>by rw[<- e,hl1]at hpa;cases hpa
 refine⟨Z5,dx,_,by rw[A2 n2.symm];exact hq1,T.Z03,T.Z16,by rw[show (Aa "last" (V.ref la) (Aa "present" (V.int 0) (rf0 p n))).length=4 from rfl];decide,?_⟩
 have hpa0:H pa=none:=by
  cases e2:H pa with
  | none=>rfl
  | some o=>rw[sb1 _ _ e2 n2]at hpa;cases hpa
 ext;exact q _ la pa (λb o e nb=>by rw[A2 nb,A2 (λe2=>by rw[e2,hpa0]at e;cases e)];exact sb1 _ _ e nb) hla hpa0 ⟨la,pa,rfl,n3,⟨dx,A1⟩,by rw[A2 n1,A2 n3];exact hl1,by rw[A2 n2,A1]⟩
variable (Z3y:Os P w K mg base CX0 6 "First" Z5 ["self","stock","places"] (Lh Z5))
include T Zm in
theorem Z9k(F:Fun K "__init__" "Hand.__init__" Z66 f fd):Al P w K mg base CX0 6 f fd ["self","stock","places"] (K6 Z6):=by
 have sc:A9 ["self","stock","places"] ["self","stock","places"] (A6 Z66):=by ext:3
 ext:2
 . exact n4 h_ λ_ _ _ _=>rfl
 refine x4 h_ λq' dx p n e_=>y5 e_ λe0 hq h1 h2 q=>?_;clear e_ h_;subst e0
 refine⟨_,(@A4 _ _ _ _ _ (Ak (E7 Zm hr (B4 Ae) (Dz (v:= .ref Z02) rfl T.Z83 rfl) (A0 (pv 0) (A0 (pv 1) (A0 (pv 2) A3)))))
  (@A4 _ _ _ _ _ (Bn (pv 0) (@Ck _ _ _ _ A3) rfl)
  (@A5 _ _ _ (Bn (pv 0) D0 rfl)))),?_⟩
 ext:4;ext;refine⟨Z6,dx,hq,T.Zv,T.Z3g,T.Z2w,h1,h2,λH1 sb1 hq1'=>?_⟩;have hq1:H1 q'=some (.ins Z6 dx (Aa "places" (V.int n) (Aa "stock" (V.ref p) []))):=hq1';clear hq1'
 have back:∀b,b≠q'->H1 b=none->H b=none:=λb nb e=>by
  cases e2:H b with
  | none=>rfl
  | some o=>rw[sb1 _ _ e2 nb]at e;cases e
 ext:1;intro od hod
 have n1:od≠q':=λe=>by rw[e,hq1]at hod;cases hod
 have fl1:(Aa "places" (V.int n) (Aa "stock" (V.ref p) [])).length<=2:=by
  have e1:=Cz "places" (V.int n) (Aa "stock" (V.ref p) []);have e2:=Cz "stock" (V.ref p) [];simp at *;omega
 refine⟨Z6,dx,_,by rw[A2 n1.symm];exact hq1,T.Zv,T.Zz,by omega,?_⟩;ext:1;intro md hmd
 have n2:md≠q':=λe=>by rw[e,A1]at hmd;cases hmd
 have n3:md≠od:=λe=>by rw[A2 n2,e,A1]at hmd;cases hmd
 have hmd1:H1 md=none:=by rw[A2 n2,A2 n3]at hmd;exact hmd
 have fl2:(Aa "order" (V.ref od) (Aa "places" (V.int n) (Aa "stock" (V.ref p) []))).length<=3:=by
  have e1:=Cz "order" (V.ref od) (Aa "places" (V.int n) (Aa "stock" (V.ref p) []));omega
 refine⟨Z6,dx,_,by rw[A2 n2.symm,A1],T.Zv,T.Z0g,by omega,?_⟩;ext;refine q _ od md (λb o e nb=>?_) (back od n1 hod) (back md n2 hmd1) ⟨od,md,rfl,⟨dx,A1⟩,?_,?_⟩
 . have e1:=sb1 _ _ e nb
   rw[A2 nb,A2 (Ac e1 hmd1),A2 nb,A2 (Ac e1 hod)];exact e1
 . rw[A2 n1,A2 n3.symm,A2 n1,A1];rfl
 . rw[A2 n2,A1];rfl
variable (Z4g:Os P w K mg base CX0 6 "Hand" Z6 ["self","stock","places"] (K6 Z6))
include T Zm in
theorem Z9l(F:Fun K "__init__" "Rows.__init__" Z67 f fd):Al P w K mg base CX0 6 f fd ["self","stock","places"] (Lq Z3):=by
 have sc:A9 ["self","stock","places"] ["self","stock","places"] (A6 Z67):=by ext:3
 ext:2
 . exact n4 h_ λ_ _ _ _=>rfl
 refine x4 h_ λq' dx p n e_=>y5 e_ λe0 hq h1 h2 q=>?_;clear e_ h_;subst e0
 refine⟨_,(@A4 _ _ _ _ _ (Ak (E7 Zm hr (B4 Ae) (Dz (v:= .ref Z02) rfl T.Z83 rfl) (A0 (pv 0) (A0 (pv 1) (A0 (pv 2) A3)))))
  (@A4 _ _ _ _ _ (Bn (pv 0) (@Ck _ _ _ _ A3) rfl)
  (@A4 _ _ _ _ _ (Bn (pv 0) (@Ck _ _ _ _ A3) rfl)
  (@A4 _ _ _ _ _ (Bn (pv 0) (@Ck _ _ _ _ A3) rfl)
  (@A4 _ _ _ _ _ (Bn (pv 0) (@Ck _ _ _ _ A3) rfl)
  (@A4 _ _ _ _ _ (Bn (pv 0) A8 rfl)
  (@A5 _ _ _ (Bn (pv 0) Dl rfl)))))))),?_⟩
 ext:4;ext;refine⟨Z3,dx,hq,T.Z8,T.Z3h,T.Z0t,h1,h2,λH1 sb1 hq1'=>?_⟩;have hq1:H1 q'=some (.ins Z3 dx (Aa "places" (V.int n) (Aa "stock" (V.ref p) []))):=hq1';clear hq1'
 have back:∀b,b≠q'->H1 b=none->H b=none:=λb nb e=>by
  cases e2:H b with
  | none=>rfl
  | some o=>rw[sb1 _ _ e2 nb]at e;cases e
 ext:1;intro m1 hm1
 have n1:m1≠q':=λe=>by rw[e,hq1]at hm1;cases hm1
 refine⟨Z3,dx,_,by rw[A2 n1.symm];exact hq1,T.Z8,T.Zs,by rw[show (Aa "places" (V.int n) (Aa "stock" (V.ref p) [])).length=2 from rfl];decide,?_⟩
 have sb2:SameBut q' H1 (upd (upd H1 m1 (.lst [])) q' (.ins Z3 dx (Aa "once" (V.ref m1) (Aa "places" (V.int n) (Aa "stock" (V.ref p) []))))):=λb o e nb=>by
  rw[A2 nb,A2 (Ac e hm1)];exact e
 have hq2:(upd (upd H1 m1 (.lst [])) q' (.ins Z3 dx (Aa "once" (V.ref m1) (Aa "places" (V.int n) (Aa "stock" (V.ref p) []))))) q'=some (.ins Z3 dx (Aa "once" (V.ref m1) (Aa "places" (V.int n) (Aa "stock" (V.ref p) [])))):=A1
 have k1_2:(upd (upd H1 m1 (.lst [])) q' (.ins Z3 dx (Aa "once" (V.ref m1) (Aa "places" (V.int n) (Aa "stock" (V.ref p) []))))) m1=some (.lst []):=by rw[A2 n1,A1]
 generalize upd (upd H1 m1 (.lst [])) q' (.ins Z3 dx (Aa "once" (V.ref m1) (Aa "places" (V.int n) (Aa "stock" (V.ref p) []))))=H2 at sb2 hq2 k1_2 ⊢;ext:1;intro m2 hm2
 have n2:m2≠q':=λe=>by rw[e,hq2]at hm2;cases hm2
 refine⟨Z3,dx,_,by rw[A2 n2.symm];exact hq2,T.Z8,T.Zr,by rw[show (Aa "once" (V.ref m1) (Aa "places" (V.int n) (Aa "stock" (V.ref p) []))).length=3 from rfl];decide,?_⟩
 have sb3:SameBut q' H2 (upd (upd H2 m2 (.lst [])) q' (.ins Z3 dx (Aa "again" (V.ref m2) (Aa "once" (V.ref m1) (Aa "places" (V.int n) (Aa "stock" (V.ref p) [])))))):=λb o e nb=>by
  rw[A2 nb,A2 (Ac e hm2)];exact e
 have hq3:(upd (upd H2 m2 (.lst [])) q' (.ins Z3 dx (Aa "again" (V.ref m2) (Aa "once" (V.ref m1) (Aa "places" (V.int n) (Aa "stock" (V.ref p) [])))))) q'=some (.ins Z3 dx (Aa "again" (V.ref m2) (Aa "once" (V.ref m1) (Aa "places" (V.int n) (Aa "stock" (V.ref p) []))))):=A1
 have k2_3:(upd (upd H2 m2 (.lst [])) q' (.ins Z3 dx (Aa "again" (V.ref m2) (Aa "once" (V.ref m1) (Aa "places" (V.int n) (Aa "stock" (V.ref p) [])))))) m2=some (.lst []):=by rw[A2 n2,A1]
 generalize upd (upd H2 m2 (.lst [])) q' (.ins Z3 dx (Aa "again" (V.ref m2) (Aa "once" (V.ref m1) (Aa "places" (V.int n) (Aa "stock" (V.ref p) [])))))=H3 at sb3 hq3 k2_3 ⊢;have k1_3:=sb3 _ _ k1_2 n1
 have z2:H1 m2=none:=by
  cases e2:H1 m2 with
  | none=>rfl
  | some o=>rw[sb2 _ _ e2 n2]at hm2;cases hm2
 ext:1;intro m3 hm3
 have n3:m3≠q':=λe=>by rw[e,hq3]at hm3;cases hm3
 refine⟨Z3,dx,_,by rw[A2 n3.symm];exact hq3,T.Z8,T.Zj,by rw[show (Aa "again" (V.ref m2) (Aa "once" (V.ref m1) (Aa "places" (V.int n) (Aa "stock" (V.ref p) [])))).length=4 from rfl];decide,?_⟩
 have sb4:SameBut q' H3 (upd (upd H3 m3 (.lst [])) q' (.ins Z3 dx (Aa "past_once" (V.ref m3) (Aa "again" (V.ref m2) (Aa "once" (V.ref m1) (Aa "places" (V.int n) (Aa "stock" (V.ref p) []))))))):=λb o e nb=>by
  rw[A2 nb,A2 (Ac e hm3)];exact e
 have hq4:(upd (upd H3 m3 (.lst [])) q' (.ins Z3 dx (Aa "past_once" (V.ref m3) (Aa "again" (V.ref m2) (Aa "once" (V.ref m1) (Aa "places" (V.int n) (Aa "stock" (V.ref p) []))))))) q'=some (.ins Z3 dx (Aa "past_once" (V.ref m3) (Aa "again" (V.ref m2) (Aa "once" (V.ref m1) (Aa "places" (V.int n) (Aa "stock" (V.ref p) [])))))):=A1
 have k3_4:(upd (upd H3 m3 (.lst [])) q' (.ins Z3 dx (Aa "past_once" (V.ref m3) (Aa "again" (V.ref m2) (Aa "once" (V.ref m1) (Aa "places" (V.int n) (Aa "stock" (V.ref p) []))))))) m3=some (.lst []):=by rw[A2 n3,A1]
 generalize upd (upd H3 m3 (.lst [])) q' (.ins Z3 dx (Aa "past_once" (V.ref m3) (Aa "again" (V.ref m2) (Aa "once" (V.ref m1) (Aa "places" (V.int n) (Aa "stock" (V.ref p) []))))))=H4 at sb4 hq4 k3_4 ⊢;have k1_4:=sb4 _ _ k1_3 n1;have k2_4:=sb4 _ _ k2_3 n2
 have z3:H1 m3=none:=by
  cases e2:H1 m3 with
  | none=>rfl
  | some o=>rw[(sb2.trans sb3) _ _ e2 n3]at hm3;cases hm3
 ext:1;intro m4 hm4
 have n4:m4≠q':=λe=>by rw[e,hq4]at hm4;cases hm4
 refine⟨Z3,dx,_,by rw[A2 n4.symm];exact hq4,T.Z8,T.Zn,by rw[show (Aa "past_once" (V.ref m3) (Aa "again" (V.ref m2) (Aa "once" (V.ref m1) (Aa "places" (V.int n) (Aa "stock" (V.ref p) []))))).length=5 from rfl];decide,?_⟩
 have sb5:SameBut q' H4 (upd (upd H4 m4 (.lst [])) q' (.ins Z3 dx (Aa "past_again" (V.ref m4) (Aa "past_once" (V.ref m3) (Aa "again" (V.ref m2) (Aa "once" (V.ref m1) (Aa "places" (V.int n) (Aa "stock" (V.ref p) [])))))))):=λb o e nb=>by
  rw[A2 nb,A2 (Ac e hm4)];exact e
 have hq5:(upd (upd H4 m4 (.lst [])) q' (.ins Z3 dx (Aa "past_again" (V.ref m4) (Aa "past_once" (V.ref m3) (Aa "again" (V.ref m2) (Aa "once" (V.ref m1) (Aa "places" (V.int n) (Aa "stock" (V.ref p) [])))))))) q'=some (.ins Z3 dx (Aa "past_again" (V.ref m4) (Aa "past_once" (V.ref m3) (Aa "again" (V.ref m2) (Aa "once" (V.ref m1) (Aa "places" (V.int n) (Aa "stock" (V.ref p) []))))))):=A1
 have k4_5:(upd (upd H4 m4 (.lst [])) q' (.ins Z3 dx (Aa "past_again" (V.ref m4) (Aa "past_once" (V.ref m3) (Aa "again" (V.ref m2) (Aa "once" (V.ref m1) (Aa "places" (V.int n) (Aa "stock" (V.ref p) [])))))))) m4=some (.lst []):=by rw[A2 n4,A1]
 generalize upd (upd H4 m4 (.lst [])) q' (.ins Z3 dx (Aa "past_again" (V.ref m4) (Aa "past_once" (V.ref m3) (Aa "again" (V.ref m2) (Aa "once" (V.ref m1) (Aa "places" (V.int n) (Aa "stock" (V.ref p) [])))))))=H5 at sb5 hq5 k4_5 ⊢;have k1_5:=sb5 _ _ k1_4 n1;have k2_5:=sb5 _ _ k2_4 n2;have k3_5:=sb5 _ _ k3_4 n3
 have z4:H1 m4=none:=by
  cases e2:H1 m4 with
  | none=>rfl
  | some o=>rw[((sb2.trans sb3).trans sb4) _ _ e2 n4]at hm4;cases hm4
 ext:1;refine⟨Z3,dx,_,hq5,T.Z8,T.Z0b,by rw[show (Aa "past_again" (V.ref m4) (Aa "past_once" (V.ref m3) (Aa "again" (V.ref m2) (Aa "once" (V.ref m1) (Aa "places" (V.int n) (Aa "stock" (V.ref p) [])))))).length=6 from rfl];decide,?_⟩;ext:1;refine⟨Z3,dx,_,A1,T.Z8,T.Z0a,by rw[show (Aa "bound" (V.int 0) (Aa "past_again" (V.ref m4) (Aa "past_once" (V.ref m3) (Aa "again" (V.ref m2) (Aa "once" (V.ref m1) (Aa "places" (V.int n) (Aa "stock" (V.ref p) []))))))).length=7 from rfl];decide,?_⟩
 have e12:m1≠m2:=λe=>by rw[<- e]at hm2;rw[k1_2]at hm2;cases hm2
 have e13:m1≠m3:=λe=>by rw[<- e]at hm3;rw[k1_3]at hm3;cases hm3
 have e14:m1≠m4:=λe=>by rw[<- e]at hm4;rw[k1_4]at hm4;cases hm4
 have e23:m2≠m3:=λe=>by rw[<- e]at hm3;rw[k2_3]at hm3;cases hm3
 have e24:m2≠m4:=λe=>by rw[<- e]at hm4;rw[k2_4]at hm4;cases hm4
 have e34:m3≠m4:=λe=>by rw[<- e]at hm4;rw[k3_4]at hm4;cases hm4
 have sball:=(((sb1.trans sb2).trans sb3).trans sb4).trans sb5;ext;refine q _ m1 m2 m3 m4 (λb o e nb=>?_) (back _ n1 hm1) (back _ n2 z2) (back _ n3 z3) (back _ n4 z4) ⟨⟨dx,A1⟩,?_,?_,?_,?_,e12,e13,e14,e23,e24,e34⟩
 . rw[A2 nb]
   try rw[A2 nb]
   exact sball _ _ e nb
 . rw[A2 n1]
   try rw[A2 n1]
   exact k1_5
 . rw[A2 n2]
   try rw[A2 n2]
   exact k2_5
 . rw[A2 n3]
   try rw[A2 n3]
   exact k3_5
 . rw[A2 n4]
   try rw[A2 n4]
   exact k4_5
variable (Z4h:Os P w K mg base CX0 6 "Rows" Z3 ["self","stock","places"] (Lq Z3))
include T in
theorem Z6r(F:Fun K "number_ask" "Ranked.number_ask" Z1r f fd):Al P w K mg base CX0 1 f fd ["self","name"] (G3 Z4):=by
 have sc:A9 ["self","name"] ["self","name"] (A6 Z1r):=by ext:3
 ext:2
 . exact n6 h_ λ_ _ _ _ _ _=>rfl
 refine x6 h_ λq' p n M s z e_=>y4 e_ λe0 hh hl q=>?_;clear e_ h_;subst e0
 refine⟨_,(@A4 _ _ _ _ _ (Gk (pv 0) A8 Pn)
  (@A5 _ _ _ (Cf (Bl hr) (Ab (pv 0) rfl) (pv 1) (Ab (pv 0) rfl) rfl))),?_⟩
 ext:4;obtain⟨la,hM,⟨dx,ho⟩,hla⟩:=hh
 have hM2:M=[q',la]/\True:=⟨hM,trivial⟩
 clear hM
 have nq1:q'≠la:=λe=>by rw[e,hla]at ho;cases ho
 ext;refine⟨Z4,dx,_,ho,T.Z05,T.Z0r,_,Ol,s.k,rfl,dx,_,ho,by rw[Tz];decide,?_⟩;have ho1:upd H q' (.ins Z4 dx (rf2 p n (s.k+1) la)) q'=some (.ins Z4 dx (rf2 p n (s.k+1) la)):=A1
 have hla1:upd H q' (.ins Z4 dx (rf2 p n (s.k+1) la)) la=some (.dK s.la):=by rw[A2 nq1.symm];exact hla
 have kp1:Kp M H (upd H q' (.ins Z4 dx (rf2 p n (s.k+1) la))):=(Kp.of (A7.refl H)).upd (by rw[hM2.1];simp);rename_i rest hrest;show rest _ (upd H q' (.ins Z4 dx (rf2 p n (s.k+1) la)));generalize upd H q' (.ins Z4 dx (rf2 p n (s.k+1) la))=H1 at ho1 hla1 kp1 ⊢;have hlp:=Bf s.la (Sum.inr z:Key) (V.int (s.k+1));subst hrest;ext;exact⟨Z4,dx,_,ho1,T.Z05,T.Z0r,_,Ol,Z4,dx,_,ho1,T.Z05,T.Z1o,_,W6,la,rfl,_,Eu.k (k:=Sum.inr z) hla1 (by omega),q _ (kp1.upd (by rw[hM2.1];simp)) ⟨la,hM2.1,⟨dx,by rw[A2 nq1];exact ho1⟩,A1⟩⟩
variable (Z0s:DefM P w K mg base CX0 1 Z4 "number_ask" ["self","name"] (G3 Z4))
include T Z0s in
theorem Z88(F:Fun K "asked" "Ranked.asked" Z47 f fd):Al P w K mg base CX0 3 f fd ["self","name"] (Br (T2 Z4)):=by
 have sc:A9 ["self","name"] ["self","name"] (A6 Z47):=by ext:3
 ext:2
 . exact n8 h_ λ_ _ _ _ _ _ _ _=>rfl
 refine x8 h_ λq' p n M s l ns z e_=>y6 e_ λe0 hh hi hz hns q=>?_;clear e_ h_;subst e0;refine⟨_,(@A5 _ _ _ (Ak (B2 Z0s T.Z05 hr (B4 Ae) (pv 0) (A0 (pv 1) A3)))),?_⟩;ext:4;have hh':OAt Z4 H M q' p n s:=hh;obtain⟨la,hM,⟨dx,ho⟩,hla⟩:=id hh';have hlen:=hi.a.len;ext;exact⟨dx,_,ho,by rfl,p,n,M,s,hh',by omega,λH1 kp1 h1=>q H1 kp1 h1⟩
variable (Z2i:DefM P w K mg base CX0 3 Z4 "asked" ["self","name"] (Br (T2 Z4)))
include T in
theorem Z7j(F:Fun K "last_of" "Ranked.last_of" Z3a f fd):Al P w K mg base CX0 1 f fd ["self","name"] (Li Z4):=by
 have sc:A9 ["self","name"] ["self","name"] (A6 Z3a):=by ext:3
 ext:2
 . exact n7 h_ λ_ _ _ _ _ _ _=>rfl
 refine x7 h_ λq' p n M s z i e_=>y4 e_ λe0 hh hv q=>?_;clear e_ h_;subst e0;refine⟨_,(@A5 _ _ _ (@Ag _ _ _ _ (En (Bl hr) (Ab (pv 0) rfl) (pv 1) A8 ⟨rfl,rfl,rfl,rfl⟩))),?_⟩;ext:4;obtain⟨la,hM,⟨dx,ho⟩,hla⟩:=hh;clear hM;ext;exact⟨Z4,dx,_,ho,T.Z05,T.Z1o,_,W6,la,rfl,.inl ⟨_,.inl hla⟩,some (.int i),by rw[<- hv];exact Cp.k (k:=Sum.inr z) hla,q⟩
variable (Z1i:DefM P w K mg base CX0 1 Z4 "last_of" ["self","name"] (Li Z4))
include T Z1i in
theorem Z8n(F:Fun K "rank" "Ranked.rank" Z0v f fd):Al P w K mg base CX0 2 f fd ["self","name"] (Ia Z4):=by
 have sc:A9 ["self","name"] ["self","name"] (A6 Z0v):=by ext:3
 ext:2
 . exact n7 h_ λ_ _ _ _ _ _ _=>rfl
 refine x7 h_ λq' p n M s z i e_=>y4 e_ λe0 hh hv q=>?_;clear e_ h_;subst e0;refine⟨_,(@A5 _ _ _ (@Ag _ _ _ _ (Cj (A0 (B2 Z1i T.Z05 hr (B4 Ae) (pv 0) (A0 (pv 1) A3)) A3)))),?_⟩;ext:4;obtain⟨la,hM,⟨dx,ho⟩,hla⟩:=id hh;clear hM;ext;exact⟨dx,_,ho,by rfl,p,n,M,s,hh,i,hv,by omega,λt ht=>q t ht⟩
variable (Z30:Q9 P w K mg base 2 Z4 "rank" ["self","name"] (Ia Z4))
include T Z30 in
theorem Z7w(F:Fun K "choice" "Ranked.choice" Z3m f fd):Al P w K mg base CX0 4 f fd ["self","lying"] (Bh (T2 Z4) K):=by
 have sc:A9 ["self","lying"] ["self","lying"] (A6 Z3m):=by ext:3
 ext:2
 . exact n9 h_ λ_ _ _ _ _ _ _ _ _=>rfl
 refine x9 h_ λq' p a n M s l ns z e_=>y10 e_ λe0 hh hm hl ha ham hns hll hcn q=>?_;clear e_ h_;subst e0;refine⟨_,(@A5 _ _ _ (@Ag _ _ _ _ (Nj Z30 T.Z05 hr rfl T.Z52 (by first | rfl | decide+kernel) (A0 (pv 1) A3) (pv 0) rfl))),?_⟩;ext:4;have hh':OAt Z4 H M q' p n s:=hh;obtain⟨la,hM,⟨dx,ho⟩,hla⟩:=id hh';clear hM;have hm':LM ns z s l:=hm;have q2:∀H',Kp M H H'->OAt Z4 H' M q' p n s->Q (.str (lmin (lv s) l)) H':=q;clear q hm;ext;refine⟨dx,_,ho,by rfl,l.map V.str,SqL.of ha,by simpa using hl,λi=>[lv s (l.getD i Str.empty)],λi v hv H1 sm1=>?_,λv H1 sm1 hv=>?_⟩
 . rw[Fe]at hv
   cases hz:l[i]? with
   | none=>rw[hz]at hv;cases hv
   | some u=>
   rw[hz]at hv;cases hv;obtain⟨j,hj,_⟩:=hm'.i.v u (Ff hz);refine⟨p,n,M,s,u,rfl,(T2 Z4).dep (λm _ o=>sm1 m o) hh',j,hj,λt ht=>⟨A7.new ht,?_⟩⟩;rw[A1];show _=some (HO.tup [V.int (lv s (l.getD i Str.empty))]);rw[Fc,hz];show _=some (HO.tup [V.int (lv s u)]);rw[Nk hj]
 . rw[J64,Fa,Fe]at hv
   have hb:=Tq (λi=>lv s (l.getD i Str.empty)) (l.length - 1);have hl0:0 < l.length:=Hu.mpr hl
   have hlt:argBest (λi j=>decide (lv s (l.getD i Str.empty) < lv s (l.getD j Str.empty))) (l.length - 1) < l.length:=by omega
   have e:v=V.str (lmin (lv s) l):=by
    unfold lmin;rw[Fc,Fb hlt];rw[Fb hlt]at hv;exact(FG hv).symm
   rw[e];exact q2 _ (Kp.of sm1) ((T2 Z4).dep (λm _ o=>sm1 m o) hh')
variable (Z1y:DefM P w K mg base CX0 4 Z4 "choice" ["self","lying"] (Bh (T2 Z4) K))
include T in
theorem Z8o(F:Fun K "gone" "Rule.gone" Z4v f fd):Al P w K mg base CX0 3 f fd ["self","name"] (C0 (T2 Z4)):=by
 have sc:A9 ["self","name"] ["self","name"] (A6 Z4v):=by ext:3
 ext:2
 . exact n8 h_ λ_ _ _ _ _ _ _ _=>rfl
 refine x8 h_ λq' p n M s l ns z e_=>y6 e_ λe0 hh hm hl hns q=>?_;clear e_ h_;subst e0;refine⟨_,(@A5 _ _ _ E1),?_⟩;walk_at "su";ext;exact q _ (Kp.of (A7.refl _)) hh
variable (Z31:DefM P w K mg base CX0 3 Z4 "gone" ["self","name"] (C0 (T2 Z4)))
include T in
theorem Z8p(F:Fun K "came" "Rule.came" Z4w f fd):Al P w K mg base CX0 1 f fd ["self","name"] (C1 (T2 Z4)):=by
 have sc:A9 ["self","name"] ["self","name"] (A6 Z4w):=by ext:3
 ext:2
 . exact n8 h_ λ_ _ _ _ _ _ _ _=>rfl
 refine x8 h_ λq' p n M s l ns z e_=>y7 e_ λe0 hh hm hz hzl hns q=>?_;clear e_ h_;subst e0;refine⟨_,(@A5 _ _ _ E1),?_⟩;walk_at "su";ext;exact q _ (Kp.of (A7.refl _)) hh
variable (Z32:DefM P w K mg base CX0 1 Z4 "came" ["self","name"] (C1 (T2 Z4)))
include T in
theorem Z7x(F:Fun K "halve" "Halving.halve" Z3n f fd):Al P w K mg base CX0 1 f fd ["self"] (K4 Z1):=by
 have sc:A9 ["self","name"] ["self"] (A6 Z3n):=by ext:3
 ext:2
 . exact n6 h_ λ_ _ _ _ _ _=>rfl
 refine x6 h_ λq' p n M s ns e_=>y5 e_ λe0 hh ht hns q=>?_;clear e_ h_;subst e0
 refine⟨_,(@A5 _ _ _ (Ci PassesOwn.never rfl (Cs (Cm (Q1 rfl) rfl T.Z0i (by first | rfl | decide+kernel) (A0 (Ab (pv 0) rfl) A3))) (Ay (i:=1) sc.nd rfl (Or.inl rfl))
  (@A5 _ _ _ (Cf (Bl hr) (Ab (pv 0) rfl) (pv 1) (Ao Io (Ip (Bl hr) (Ab (pv 0) rfl) (pv 1) (λ_ _=>rfl)) A8) rfl)))),?_⟩
 ext:4;obtain⟨la,ta,hM,⟨dx,ho⟩,hla,hta,hne⟩:=hh
 have hM2:M=[q',la,ta]/\True:=⟨hM,trivial⟩
 clear hM
 have nq1:q'≠la:=λe=>by rw[e,hla]at ho;cases ho
 have nq2:q'≠ta:=λe=>by rw[e,hta]at ho;cases ho
 obtain⟨ks,hks,hin⟩:=ht.keys
 have hkl:s.ta.length=ks.length/\True:=⟨by have:=congrArg List.length hks;simpa using this,trivial⟩
 have hlen:=ht.k.len;ext;refine⟨Z1,dx,_,ho,T.Zb,T.Zo,_,N23.Ek,ta,rfl,_,hta,λl hl=>?_⟩;rw[J6b hks];have sml:A7 H (upd H l (.lst (ks.map V.str))):=A7.new hl;have hll:upd H l (.lst (ks.map V.str)) l=some (.lst (ks.map V.str)):=A1;have ho1:=sml _ _ ho;have hla1:=sml _ _ hla;have hta1:=sml _ _ hta
 have nlt:l≠ta:=λe=>by rw[e,hta]at hl;cases hl
 generalize upd H l (.lst (ks.map V.str))=H1 at sml hll ho1 hla1 hta1 ⊢;refine⟨⟨_,SqL.of hll⟩,?_⟩;refine Iq (xs:=ks.map V.str) (λi σ H'=>∃(v1:Option V),σ=[some (V.ref q'),v1]/\Kp M H H'/\H' l=some (.lst (ks.map V.str))/\H' q'=some (.ins Z1 dx (N23.rf4 p n s.b.k la s.e ta))/\H' la=some (.dK s.b.la)/\H' ta=some (.dK (hvi s.ta i))) ⟨none,rfl,Kp.of sml,hll,ho1,hla1,hta1⟩ (λi σ H' _ ⟨_,_,_,h,_⟩=>SqL.of h) ?_ ?_
 . rintro i v σ H' hu ⟨v1,rfl,kp,hL,hO,hLa,hTa⟩
   rw[Fe]at hu
   cases hz:ks[i]? with
   | none=>rw[hz]at hu;cases hu
   | some z=>
   rw[hz]at hu;cases hu
   have hkz:(s.ta.map (·.1))[i]?=some (Sum.inr z):=by rw[hks,Fe,hz];rfl
   have hval:=ht.at_ (Ff hkz) i
   have hsu:hvi s.ta (i+1)=Ct (hvi s.ta i) (Sum.inr z) (.int (tvK (hvi s.ta i) (Sum.inr z) / 2))/\True:=⟨Wa hkz,trivial⟩
   have hln:=(Xn ht i).1.k.len;clear hkz;have nqt:q'≠ta:=nq2;ext;refine⟨Z1,dx,_,hO,T.Zb,T.Zo,_,N23.Ek,ta,rfl,_,by rw[<- hval];exact Cp.k (k:=Sum.inr z) hTa,_,rfl,Tc (by decide) (by decide),Z1,dx,_,hO,T.Zb,T.Zo,_,N23.Ek,ta,rfl,_,Eu.k (k:=Sum.inr z) hTa (by omega),kp.upd (by rw[hM2.1];simp),by rw[A2 nlt];exact hL,by rw[A2 nqt];exact hO,by rw[A2 hne];exact hLa,by rw[A1,hsu.1]⟩
 . rintro σ H' ⟨v1,rfl,kp,hL,hO,hLa,hTa⟩
   rw[Fa,<- hkl.1]at hTa;ext;exact q H' kp ⟨la,ta,hM2.1,⟨dx,hO⟩,hLa,hTa,hne⟩
variable (Z1z:DefM P w K mg base CX0 1 Z1 "halve" ["self"] (K4 Z1))
include T in
theorem Z6g(F:Fun K "number_ask" "Ranked.number_ask" Z1e f fd):Al P w K mg base CX0 1 f fd ["self","name"] (G7 Z1):=by
 have sc:A9 ["self","name"] ["self","name"] (A6 Z1e):=by ext:3
 ext:2
 . exact n6 h_ λ_ _ _ _ _ _=>rfl
 refine x6 h_ λq' p n M s z e_=>y4 e_ λe0 hh hl q=>?_;clear e_ h_;subst e0
 refine⟨_,(@A4 _ _ _ _ _ (Gk (pv 0) A8 Pn)
  (@A5 _ _ _ (Cf (Bl hr) (Ab (pv 0) rfl) (pv 1) (Ab (pv 0) rfl) rfl))),?_⟩
 ext:4;obtain⟨la,ta,hM,⟨dx,ho⟩,hla,hta,hne⟩:=hh
 have hM2:M=[q',la,ta]/\True:=⟨hM,trivial⟩
 clear hM
 have nq1:q'≠la:=λe=>by rw[e,hla]at ho;cases ho
 have nq2:q'≠ta:=λe=>by rw[e,hta]at ho;cases ho
 ext;refine⟨Z1,dx,_,ho,T.Zb,T.Z07,_,N23.Dj,s.b.k,rfl,dx,_,ho,by rw[N23.U2];decide,?_⟩;have ho1:upd H q' (.ins Z1 dx (N23.rf4 p n (s.b.k+1) la s.e ta)) q'=some (.ins Z1 dx (N23.rf4 p n (s.b.k+1) la s.e ta)):=A1
 have hla1:upd H q' (.ins Z1 dx (N23.rf4 p n (s.b.k+1) la s.e ta)) la=some (.dK s.b.la):=by rw[A2 nq1.symm];exact hla
 have hta1:upd H q' (.ins Z1 dx (N23.rf4 p n (s.b.k+1) la s.e ta)) ta=some (.dK s.ta):=by rw[A2 nq2.symm];exact hta
 have kp1:Kp M H (upd H q' (.ins Z1 dx (N23.rf4 p n (s.b.k+1) la s.e ta))):=(Kp.of (A7.refl H)).upd (by rw[hM2.1];simp);rename_i rest hrest;show rest _ (upd H q' (.ins Z1 dx (N23.rf4 p n (s.b.k+1) la s.e ta)));generalize upd H q' (.ins Z1 dx (N23.rf4 p n (s.b.k+1) la s.e ta))=H1 at ho1 hla1 hta1 kp1 ⊢;have hlp:=Bf s.b.la (Sum.inr z:Key) (V.int (s.b.k+1));subst hrest;ext;exact⟨Z1,dx,_,ho1,T.Zb,T.Z07,_,N23.Dj,Z1,dx,_,ho1,T.Zb,T.Z15,_,N23.L0,la,rfl,_,Eu.k (k:=Sum.inr z) hla1 (by omega),q _ (kp1.upd (by rw[hM2.1];simp)) ⟨la,ta,hM2.1,⟨dx,by rw[A2 nq1];exact ho1⟩,A1,by rw[A2 hne.symm];exact hta1,hne⟩⟩
variable (Z0j:DefM P w K mg base CX0 1 Z1 "number_ask" ["self","name"] (G7 Z1))
include T in
theorem Z7d(F:Fun K "last_of" "Ranked.last_of" Z2s f fd):Al P w K mg base CX0 1 f fd ["self","name"] (Lo Z1):=by
 have sc:A9 ["self","name"] ["self","name"] (A6 Z2s):=by ext:3
 ext:2
 . exact n7 h_ λ_ _ _ _ _ _ _=>rfl
 refine x7 h_ λq' p n M s z i e_=>y4 e_ λe0 hh hv q=>?_;clear e_ h_;subst e0;refine⟨_,(@A5 _ _ _ (@Ag _ _ _ _ (En (Bl hr) (Ab (pv 0) rfl) (pv 1) A8 ⟨rfl,rfl,rfl,rfl⟩))),?_⟩;ext:4;obtain⟨la,ta,hM,⟨dx,ho⟩,hla,hta,hne⟩:=hh;clear hM;ext;exact⟨Z1,dx,_,ho,T.Zb,T.Z15,_,N23.L0,la,rfl,.inl ⟨_,.inl hla⟩,some (.int i),by rw[<- hv];exact Cp.k (k:=Sum.inr z) hla,q⟩
variable (Z12:DefM P w K mg base CX0 1 Z1 "last_of" ["self","name"] (Lo Z1))
include T Z12 in
theorem Z89(F:Fun K "rank" "Halving.rank" Z0o f fd):Al P w K mg base CX0 2 f fd ["self","name"] (Ig Z1):=by
 have sc:A9 ["self","name"] ["self","name"] (A6 Z0o):=by ext:3
 ext:2
 . exact n6 h_ λ_ _ _ _ _ _=>rfl
 refine x6 h_ λq' p n M s z e_=>y5 e_ λe0 hh o8 o9 q=>?_;clear e_ h_;subst e0;obtain⟨i,hv⟩:=o8;obtain⟨j,hw⟩:=o9;refine⟨_,(@A5 _ _ _ (@Ag _ _ _ _ (Cj (A0 (En (Bl hr) (Ab (pv 0) rfl) (pv 1) A8 ⟨rfl,rfl,rfl,rfl⟩) (A0 (B2 Z12 T.Zb hr (B4 Ae) (pv 0) (A0 (pv 1) A3)) A3))))),?_⟩;ext:4;obtain⟨la,ta,hM,⟨dx,ho⟩,hla,hta,hne⟩:=id hh;clear hM;ext;refine⟨Z1,dx,_,ho,T.Zb,T.Zo,_,N23.Ek,ta,rfl,.inl ⟨_,.inl hta⟩,some (.int j),by rw[<- hw];exact Cp.k (k:=Sum.inr z) hta,dx,_,ho,by rfl,p,n,M,s,hh,i,hv,by omega,λt ht'=>?_⟩;have hq:=q t ht';unfold rkH at hq;rw[Nk hv,J69 hw]at hq;exact hq
variable (Z2j:Q9 P w K mg base 2 Z1 "rank" ["self","name"] (Ig Z1))
include T Z1z Z0j in
theorem Z7y(F:Fun K "asked" "Halving.asked" Z3o f fd):Al P w K mg base CX0 3 f fd ["self","name"] (Br (N23.T4 Z1)):=by
 have sc:A9 ["self","name"] ["self","name"] (A6 Z3o):=by ext:3
 ext:2
 . exact n8 h_ λ_ _ _ _ _ _ _ _=>rfl
 refine x8 h_ λq' p n M s l ns z e_=>y6 e_ λe0 hh hi hz hns q=>?_;clear e_ h_;subst e0
 refine⟨_,(@A4 _ _ _ _ _ (Az (Ah Ki (Ao Dn (Ab (pv 0) rfl) (Ab (pv 0) rfl)) A8 (nomark _))
  (@A5 _ _ _ (Ak (Gr Z1z T.Zb hr (B4 Ae) (pv 0))))
  An)
  (@A4 _ _ _ _ _ (Ak (B2 Z0j T.Zb hr (B4 Ae) (pv 0) (A0 (pv 1) A3)))
  (@A5 _ _ _ (Cf (Bl hr) (Ab (pv 0) rfl) (pv 1) (Ao Bk (En (Bl hr) (Ab (pv 0) rfl) (pv 1) A8 ⟨rfl,rfl,rfl,rfl⟩) A8) rfl)))),?_⟩
 ext:4;have hh':GAt Z1 H M q' p n s:=hh;obtain⟨la,ta,hM,⟨dx,ho⟩,hla,hta,hne⟩:=id hh'
 have hM2:M=[q',la,ta]/\True:=⟨hM,trivial⟩
 clear hM;have hlen:=hi.1.a.len;have hci:CI ns s l:=hi.2;have he1:=hci.e1;ext;refine⟨Z1,dx,_,ho,T.Zb,T.Z07,_,N23.Dj,Z1,dx,_,ho,T.Zb,T.Z2d,_,N23.J6d,s.b.k,rfl,s.e,rfl,by omega,?_⟩;rename_i rest hrest
 have key:∀H1,Kp M H H1->GAt Z1 H1 M q' p n ⟨s.b,tbl s.e s.b.k s.ta,s.e⟩->rest [some (V.ref q'),some (V.str z)] H1:=by
  intro H1 kp1 h1;have hti:=(J6c (e:=s.e) (k:=s.b.k) hci.t).1;have htl:=hti.k.len;obtain⟨la1,ta1,hM1,⟨dx1,ho1⟩,hla1,hta1,hne1⟩:=id h1;clear hM1 hla1 hta1 hne1;subst hrest;ext;refine⟨dx1,_,ho1,by rfl,p,n,M,_,h1,by show s.b.la.length<=1000;omega,λH2 kp2 h2=>?_⟩;obtain⟨la2,ta2,hM3,⟨dx2,ho2⟩,hla2,hta2,hne2⟩:=id h2
  have hM4:M=[q',la2,ta2]/\True:=⟨hM3,trivial⟩
  clear hM3;walk_at "rt"
  have nq2':q'≠ta2:=λe=>by rw[e,hta2]at ho2;cases ho2
  have hlp:=Bf (tbl s.e s.b.k s.ta) (Sum.inr z:Key) (V.int (tvK (tbl s.e s.b.k s.ta) (Sum.inr z)+1));ext;exact⟨Z1,dx2,_,ho2,T.Zb,T.Zo,_,N23.Ek,ta2,rfl,.inl ⟨_,.inl hta2⟩,_,Cp.k (k:=Sum.inr z) hta2,_,hti.get,Z1,dx2,_,ho2,T.Zb,T.Zo,_,N23.Ek,ta2,rfl,_,Eu.k (k:=Sum.inr z) hta2 (by show (tbl s.e s.b.k s.ta).length < _;omega),q _ ((kp1.trans kp2).upd (by rw[hM4.1];simp)) ⟨la2,ta2,hM4.1,⟨dx2,by rw[A2 nq2'];exact ho2⟩,by rw[A2 hne2];exact hla2,A1,hne2⟩⟩
 clear hrest
 by_cases hk:s.b.k % s.e=0
 . rw[if_pos hk]
   refine⟨dx,_,ho,by rfl,p,n,M,s,hh',ns,hci.t,by omega,λH1 kp1 h1=>key H1 kp1 ?_⟩;unfold tbl;rw[if_pos hk];exact h1
 . rw[if_neg hk]
   refine key H (Kp.of (A7.refl H)) ?_;unfold tbl;rw[if_neg hk];exact hh'
variable (Z20:DefM P w K mg base CX0 3 Z1 "asked" ["self","name"] (Br (N23.T4 Z1)))
include T Z2j in
theorem Z7k(F:Fun K "choice" "Ranked.choice" Z3b f fd):Al P w K mg base CX0 4 f fd ["self","lying"] (Bh (N23.T4 Z1) K):=by
 have sc:A9 ["self","lying"] ["self","lying"] (A6 Z3b):=by ext:3
 ext:2
 . exact n9 h_ λ_ _ _ _ _ _ _ _ _=>rfl
 refine x9 h_ λq' p a n M s l ns z e_=>y10 e_ λe0 hh hm hl ha ham hns hll hcn q=>?_;clear e_ h_;subst e0;refine⟨_,(@A5 _ _ _ (@Ag _ _ _ _ (Nj Z2j T.Zb hr rfl T.Z52 (by first | rfl | decide+kernel) (A0 (pv 1) A3) (pv 0) rfl))),?_⟩;ext:4;have hh':GAt Z1 H M q' p n s:=hh;obtain⟨la,ta,hM,⟨dx,ho⟩,hla,hta,hne⟩:=id hh';clear hM;have hm':LM ns z s.b l:=hm.1;have hci:CI ns s l:=hm.2.1;have q2:∀H',Kp M H H'->GAt Z1 H' M q' p n s->Q (.str (hmin s l)) H':=q;clear q hm hcn;ext;refine⟨dx,_,ho,by rfl,l.map V.str,SqL.of ha,by simpa using hl,λi=>rkH s (l.getD i Str.empty),λi v hv H1 sm1=>?_,λv H1 sm1 hv=>?_⟩
 . rw[Fe]at hv
   cases hz:l[i]? with
   | none=>rw[hz]at hv;cases hv
   | some u=>
   rw[hz]at hv;cases hv;obtain⟨j,hj,_⟩:=hm'.i.v u (Ff hz);refine⟨p,n,M,s,u,rfl,(N23.T4 Z1).dep (λm _ o=>sm1 m o) hh',⟨j,hj⟩,hci.v u (Ff hz),λt ht=>⟨A7.new ht,?_⟩⟩;rw[A1];show _=some (HO.tup ((rkH s (l.getD i Str.empty)).map V.int));rw[Fc,hz];rfl
 . rw[Fa,Fe]at hv
   have hl0:0 < l.length:=Hu.mpr hl;have hb:=J0p (λi=>tvK s.ta (Sum.inr (l.getD i Str.empty))) (λi=>lv s.b (l.getD i Str.empty)) (l.length - 1);have hlt:argBest (btK λi=>rkH s (l.getD i Str.empty)) (l.length - 1) < l.length:=HY hb.1 (by omega)
   have e:v=V.str (hmin s l):=by
    unfold hmin;rw[Fc,Fb hlt];rw[Fb hlt]at hv;exact(FG hv).symm
   rw[e];exact q2 _ (Kp.of sm1) ((N23.T4 Z1).dep (λm _ o=>sm1 m o) hh')
variable (Z1j:DefM P w K mg base CX0 4 Z1 "choice" ["self","lying"] (Bh (N23.T4 Z1) K))
include T in
theorem Z8a(F:Fun K "gone" "Rule.gone" Z48 f fd):Al P w K mg base CX0 3 f fd ["self","name"] (C0 (N23.T4 Z1)):=by
 have sc:A9 ["self","name"] ["self","name"] (A6 Z48):=by ext:3
 ext:2
 . exact n8 h_ λ_ _ _ _ _ _ _ _=>rfl
 refine x8 h_ λq' p n M s l ns z e_=>y6 e_ λe0 hh hm hl hns q=>?_;clear e_ h_;subst e0;refine⟨_,(@A5 _ _ _ E1),?_⟩;walk_at "su";ext;exact q _ (Kp.of (A7.refl _)) hh
variable (Z2k:DefM P w K mg base CX0 3 Z1 "gone" ["self","name"] (C0 (N23.T4 Z1)))
include T in
theorem Z8b(F:Fun K "came" "Rule.came" Z49 f fd):Al P w K mg base CX0 1 f fd ["self","name"] (C1 (N23.T4 Z1)):=by
 have sc:A9 ["self","name"] ["self","name"] (A6 Z49):=by ext:3
 ext:2
 . exact n8 h_ λ_ _ _ _ _ _ _ _=>rfl
 refine x8 h_ λq' p n M s l ns z e_=>y7 e_ λe0 hh hm hz hzl hns q=>?_;clear e_ h_;subst e0;refine⟨_,(@A5 _ _ _ E1),?_⟩;walk_at "su";ext;exact q _ (Kp.of (A7.refl _)) hh
variable (Z2l:DefM P w K mg base CX0 1 Z1 "came" ["self","name"] (C1 (N23.T4 Z1)))
include T in
theorem Z6d(F:Fun K "number_ask" "Ranked.number_ask" Z18 f fd):Al P w K mg base CX0 1 f fd ["self","name"] (G4 Z0):=by
 have sc:A9 ["self","name"] ["self","name"] (A6 Z18):=by ext:3
 ext:2
 . exact n7 h_ λ_ _ _ _ _ _ _=>rfl
 refine x7 h_ λq' p n M s z ys e_=>y4 e_ λe0 hh hl q=>?_;clear e_ h_;subst e0
 refine⟨_,(@A4 _ _ _ _ _ (Gk (pv 0) A8 Pn)
  (@A5 _ _ _ (Cf (Bl hr) (Ab (pv 0) rfl) (pv 1) (Ab (pv 0) rfl) rfl))),?_⟩
 ext:4;obtain⟨la,ak,hM,⟨dx,ho⟩,hla,hak⟩:=hh
 have hM2:M=[q',la,ak]/\True:=⟨hM,trivial⟩
 clear hM
 have nq1:q'≠la:=λe=>by rw[e,hla]at ho;cases ho
 have nq2:q'≠ak:=λe=>by rw[e,hak]at ho;cases ho
 have nla:la≠ak:=λe=>by rw[e,hak]at hla;cases hla
 ext;refine⟨Z0,dx,_,ho,T.Zc,T.Z06,_,Kz,s.k,rfl,dx,_,ho,by rw[J8b];decide,?_⟩;have ho1:upd H q' (.ins Z0 dx (rf3 p n (s.k+1) la ak)) q'=some (.ins Z0 dx (rf3 p n (s.k+1) la ak)):=A1
 have hla1:upd H q' (.ins Z0 dx (rf3 p n (s.k+1) la ak)) la=some (.dK s.la):=by rw[A2 nq1.symm];exact hla
 have hak1:upd H q' (.ins Z0 dx (rf3 p n (s.k+1) la ak)) ak=some (.lst (ys.map V.str)):=by rw[A2 nq2.symm];exact hak
 have kp1:Kp M H (upd H q' (.ins Z0 dx (rf3 p n (s.k+1) la ak))):=(Kp.of (A7.refl H)).upd (by rw[hM2.1];simp);rename_i rest hrest;show rest _ (upd H q' (.ins Z0 dx (rf3 p n (s.k+1) la ak)));generalize upd H q' (.ins Z0 dx (rf3 p n (s.k+1) la ak))=H1 at ho1 hla1 hak1 kp1 ⊢;have hlp:=Bf s.la (Sum.inr z:Key) (V.int (s.k+1));subst hrest;ext;exact⟨Z0,dx,_,ho1,T.Zc,T.Z06,_,Kz,Z0,dx,_,ho1,T.Zc,T.Z0w,_,W8,la,rfl,_,Eu.k (k:=Sum.inr z) hla1 (by omega),q _ (kp1.upd (by rw[hM2.1];simp)) ⟨la,ak,hM2.1,⟨dx,by rw[A2 nq1];exact ho1⟩,A1,by rw[A2 nla.symm];exact hak1⟩⟩
variable (Z0f:DefM P w K mg base CX0 1 Z0 "number_ask" ["self","name"] (G4 Z0))
include T in
theorem Z6w(F:Fun K "last_of" "Ranked.last_of" Z27 f fd):Al P w K mg base CX0 1 f fd ["self","name"] (Lk Z0):=by
 have sc:A9 ["self","name"] ["self","name"] (A6 Z27):=by ext:3
 ext:2
 . exact n8 h_ λ_ _ _ _ _ _ _ _=>rfl
 refine x8 h_ λq' p n M s z i ys e_=>y4 e_ λe0 hh hv q=>?_;clear e_ h_;subst e0;refine⟨_,(@A5 _ _ _ (@Ag _ _ _ _ (En (Bl hr) (Ab (pv 0) rfl) (pv 1) A8 ⟨rfl,rfl,rfl,rfl⟩))),?_⟩;ext:4;obtain⟨la,ak,hM,⟨dx,ho⟩,hla,hak⟩:=hh;clear hM;ext;exact⟨Z0,dx,_,ho,T.Zc,T.Z0w,_,W8,la,rfl,.inl ⟨_,.inl hla⟩,some (.int i),by rw[<- hv];exact Cp.k (k:=Sum.inr z) hla,q⟩
variable (Z0y:DefM P w K mg base CX0 1 Z0 "last_of" ["self","name"] (Lk Z0))
include T in
theorem Z6h(F:Fun K "coming_of" "Farthest.coming_of" Z1f f fd):Al P w K mg base CX0 1 f fd ["self","name"] (G5 Z0):=by
 have sc:A9 ["self","name","before"] ["self","name"] (A6 Z1f):=by ext:3
 ext:2
 . exact n7 h_ λ_ _ _ _ _ _ _=>rfl
 refine x7 h_ λq' p n M s z ys e_=>y6 e_ λe0 hh hk0 hk1 hlen q=>?_;clear e_ h_;subst e0
 refine⟨_,(@A4 _ _ _ _ _ (Ci PassesOwn.never rfl (J11 rfl T.Z0m (A0 (Ab (pv 0) rfl) (A0 (Aj Ap rfl T.Zq FN (A0 (Ab (pv 0) rfl) A3)) A3))) (Ay (i:=2) sc.nd rfl (Or.inl rfl))
  (@A5 _ _ _ (Az (Ah Ki (@As _ _ _ _ _ _ _ B9 (Ab (pv 0) rfl) (pv 2) (λ_ _=>rfl)) (pv 1) (nomark _))
   (@A5 _ _ _ (@Ag _ _ _ _ (Ao Bk (pv 2) A8)))
   An)))
  (@A5 _ _ _ (@Ag _ _ _ _ (Ao Bk (Aj Ap rfl T.Zq FN (A0 (Ab (pv 0) rfl) A3)) A8)))),?_⟩
 ext:4;obtain⟨la,ak,hM,⟨dx,ho⟩,hla,hak⟩:=hh;clear hM;ext;refine⟨Z0,dx,_,ho,T.Zc,T.Z06,_,Kz,Z0,dx,_,ho,T.Zc,T.Z0c,_,Qa,?_⟩;refine⟨ak,rfl,_,.inl (SqL.of hak),s.k,rfl,by omega,by omega,by rw[Fa];omega,by rw[Fa];omega,?_⟩;rw[Fa]
 have hkn:s.k=((s.k.toNat:Nat):Int)/\True:=⟨by omega,trivial⟩
 rename_i rest hrest;refine Ex (λi σ H'=>∃v2:Option V,σ=[some (V.ref q'),some (V.str z),v2]/\H'=H/\∀u,u < i->ys[s.k.toNat+u]?≠some z) ⟨none,rfl,rfl,λu hu=>absurd hu (Nat.not_lt_zero _)⟩ ?_ ?_
 . clear hrest
   rintro i σ H' hi ⟨v2,rfl,rfl,hno⟩
   have hil:s.k.toNat+i < ys.length:=by omega
   have hy:=Fb hil;generalize ys[s.k.toNat+i]=y at hy;ext;refine⟨Z0,dx,_,ho,T.Zc,T.Z0c,_,Qa,Bb (SqL.of hak) (v:=V.str y) (by rw[show s.k+(i:Int)=((s.k.toNat+i:Nat):Int) by omega];exact Ai (by rw[Fe,hy];rfl)) ?_⟩;refine⟨rfl,?_⟩
   by_cases e:y=z
   . rw[if_pos (by rw[e])]
     rw[e]at hy;rw[Jd0 hy hno]at q;rw[show s.k+(i:Int)+1=((s.k.toNat+i:Nat):Int)+1 by omega];exact q
   . rw[if_neg (λh=>e (by injection h))]
     refine⟨rfl,λu hu=>?_⟩
     by_cases eu:u=i
     . rw[eu,hy];exact λh=>e (FG h)
     . exact hno u (by omega)
 . rintro σ H' ⟨v2,rfl,rfl,hno⟩
   rw[Jba (λu hu=>hno u (by omega))]at q;subst hrest;ext;refine⟨Z0,dx,_,ho,T.Zc,T.Z0c,_,Qa,ak,rfl,_,.inl (SqL.of hak),?_⟩;rw[Fa];exact q
variable (Z0k:DefM P w K mg base CX0 1 Z0 "coming_of" ["self","name"] (G5 Z0))
include T Z0k Z0y in
theorem Z7z(F:Fun K "rank" "Farthest.rank" Z0e f fd):Al P w K mg base CX0 2 f fd ["self","name"] (Ic Z0):=by
 have sc:A9 ["self","name"] ["self","name"] (A6 Z0e):=by ext:3
 ext:2
 . exact n7 h_ λ_ _ _ _ _ _ _=>rfl
 refine x7 h_ λq' p n M s z ys e_=>y7 e_ λe0 hh hk0 hk1 hlen o12 q=>?_;clear e_ h_;subst e0;obtain⟨i,hv⟩:=o12;refine⟨_,(@A5 _ _ _ (@Ag _ _ _ _ (Cj (A0 (Ao E9 A8 (B2 Z0k T.Zc hr (B4 Ae) (pv 0) (A0 (pv 1) A3))) (A0 (B2 Z0y T.Zc hr (B4 Ae) (pv 0) (A0 (pv 1) A3)) A3))))),?_⟩;ext:4;obtain⟨la,ak,hM,⟨dx,ho⟩,hla,hak⟩:=id hh;clear hM;ext;refine⟨dx,_,ho,by rfl,p,n,M,s,ys,hh,hk0,hk1,hlen,dx,_,ho,by rfl,p,n,M,s,i,ys,hh,hv,by omega,λt ht=>?_⟩;have hq:=q t ht;unfold rkF at hq;rw[Nk hv]at hq;exact hq
variable (Z21:Q9 P w K mg base 2 Z0 "rank" ["self","name"] (Ic Z0))
include T Z0f in
theorem Z7l(F:Fun K "asked" "Ranked.asked" Z3c f fd):Al P w K mg base CX0 3 f fd ["self","name"] (K3 Z0):=by
 have sc:A9 ["self","name"] ["self","name"] (A6 Z3c):=by ext:3
 ext:2
 . exact n9 h_ λ_ _ _ _ _ _ _ _ _=>rfl
 refine x9 h_ λys q' p n M s l ns z e_=>y6 e_ λe0 hh hi hz hns q=>?_;clear e_ h_;subst e0;refine⟨_,(@A5 _ _ _ (Ak (B2 Z0f T.Zc hr (B4 Ae) (pv 0) (A0 (pv 1) A3)))),?_⟩;ext:4;have hh':QAt Z0 ys H M q' p n s:=hh;obtain⟨la,ak,hM,⟨dx,ho⟩,hla,hak⟩:=id hh';have hlen:=hi.1.a.len;ext;exact⟨dx,_,ho,by rfl,p,n,M,s,ys,hh',by omega,λH1 kp1 h1=>q H1 kp1 h1⟩
variable (Z1k:DefM P w K mg base CX0 3 Z0 "asked" ["self","name"] (K3 Z0))
include T Z21 in
theorem Z7e(F:Fun K "choice" "Ranked.choice" Z2t f fd):Al P w K mg base CX0 4 f fd ["self","lying"] (G6 Z0 K):=by
 have sc:A9 ["self","lying"] ["self","lying"] (A6 Z2t):=by ext:3
 refine F.ok sc (λvs H Q E h=>?_) (λcdv A outer s H vs Q E hr h=>?_)
 . obtain⟨_,_,_,_,_,_,_,_,_,_,_,rfl,_⟩:=h;rfl
 obtain⟨ys,hyl,q',p,a,n,M,s,l,ns,z,rfl,hh,hm,hl,ha,ham,hns,hll,hcn,q⟩:=h;refine⟨_,(@A5 _ _ _ (@Ag _ _ _ _ (Nj Z21 T.Zc hr rfl T.Z52 (by first | rfl | decide+kernel) (A0 (pv 1) A3) (pv 0) rfl))),?_⟩;ext:4;have hh':QAt Z0 ys H M q' p n s:=hh;obtain⟨la,ak,hM,⟨dx,ho⟩,hla,hak⟩:=id hh';clear hM;have hm':LM ns z s l:=hm.1;have hk0:0<=s.k:=hm.2;have hk1:s.k.toNat<=300:=hcn;have q2:∀H',Kp M H H'->QAt Z0 ys H' M q' p n s->Q (.str (fmin ys s l)) H':=q;clear q hm hcn;ext;refine⟨dx,_,ho,by rfl,l.map V.str,SqL.of ha,by simpa using hl,λi=>rkF ys s (l.getD i Str.empty),λi v hv H1 sm1=>?_,λv H1 sm1 hv=>?_⟩
 . rw[Fe]at hv
   cases hz:l[i]? with
   | none=>rw[hz]at hv;cases hv
   | some u=>
   rw[hz]at hv;cases hv;obtain⟨j,hj,_⟩:=hm'.i.v u (Ff hz);refine⟨p,n,M,s,u,rfl,ys,(T3 Z0 ys).dep (λm _ o=>sm1 m o) hh',hk0,by omega,by omega,⟨j,hj⟩,λt ht=>⟨A7.new ht,?_⟩⟩;rw[A1];show _=some (HO.tup ((rkF ys s (l.getD i Str.empty)).map V.int));rw[Fc,hz];rfl
 . rw[Fa,Fe]at hv
   have hl0:0 < l.length:=Hu.mpr hl;have hb:=J0p (λi=>0 - ((nx ys s.k.toNat (l.getD i Str.empty):Int)+1)) (λi=>lv s (l.getD i Str.empty)) (l.length - 1);have hlt:argBest (btK λi=>rkF ys s (l.getD i Str.empty)) (l.length - 1) < l.length:=HY hb.1 (by omega)
   have e:v=V.str (fmin ys s l):=by
    unfold fmin;rw[Fc,Fb hlt];rw[Fb hlt]at hv;exact(FG hv).symm
   rw[e];exact q2 _ (Kp.of sm1) ((T3 Z0 ys).dep (λm _ o=>sm1 m o) hh')
variable (Z13:DefM P w K mg base CX0 4 Z0 "choice" ["self","lying"] (G6 Z0 K))
include T in
theorem Z80(F:Fun K "gone" "Rule.gone" Z3p f fd):Al P w K mg base CX0 3 f fd ["self","name"] (Ll Z0):=by
 have sc:A9 ["self","name"] ["self","name"] (A6 Z3p):=by ext:3
 ext:2
 . exact n9 h_ λ_ _ _ _ _ _ _ _ _=>rfl
 refine x9 h_ λys q' p n M s l ns z e_=>y6 e_ λe0 hh hm hl hns q=>?_;clear e_ h_;subst e0;refine⟨_,(@A5 _ _ _ E1),?_⟩;walk_at "su";ext;exact q _ (Kp.of (A7.refl _)) hh
variable (Z22:DefM P w K mg base CX0 3 Z0 "gone" ["self","name"] (Ll Z0))
include T in
theorem Z81(F:Fun K "came" "Rule.came" Z3q f fd):Al P w K mg base CX0 1 f fd ["self","name"] (Ln Z0):=by
 have sc:A9 ["self","name"] ["self","name"] (A6 Z3q):=by ext:3
 ext:2
 . exact n9 h_ λ_ _ _ _ _ _ _ _ _=>rfl
 refine x9 h_ λys q' p n M s l ns z e_=>y7 e_ λe0 hh hm hz hzl hns q=>?_;clear e_ h_;subst e0;refine⟨_,(@A5 _ _ _ E1),?_⟩;walk_at "su";ext;exact q _ (Kp.of (A7.refl _)) hh
variable (Z23:DefM P w K mg base CX0 1 Z0 "came" ["self","name"] (Ln Z0))
include T in
theorem Z6x(F:Fun K "number_ask" "Ranked.number_ask" Z28 f fd):Al P w K mg base CX0 1 f fd ["self","name"] (G1 Z5):=by
 have sc:A9 ["self","name"] ["self","name"] (A6 Z28):=by ext:3
 ext:2
 . exact n6 h_ λ_ _ _ _ _ _=>rfl
 refine x6 h_ λq' p n M s z e_=>y4 e_ λe0 hh hl q=>?_;clear e_ h_;subst e0
 refine⟨_,(@A4 _ _ _ _ _ (Gk (pv 0) A8 Pn)
  (@A5 _ _ _ (Cf (Bl hr) (Ab (pv 0) rfl) (pv 1) (Ab (pv 0) rfl) rfl))),?_⟩
 ext:4;obtain⟨la,pa,hM,d,⟨dx,ho⟩,hla,hpa⟩:=hh
 have hM2:M=[q',la,pa]/\True:=⟨hM,trivial⟩
 clear hM
 have nq1:q'≠la:=λe=>by rw[e,hla]at ho;cases ho
 have nq2:q'≠pa:=λe=>by rw[e,hpa]at ho;cases ho
 ext;refine⟨Z5,dx,_,ho,T.Z03,T.Z0d,_,Ky,s.k,rfl,dx,_,ho,by rw[J8a];decide,?_⟩;have ho1:upd H q' (.ins Z5 dx (rf1 p n (s.k+1) la pa)) q'=some (.ins Z5 dx (rf1 p n (s.k+1) la pa)):=A1
 have hla1:upd H q' (.ins Z5 dx (rf1 p n (s.k+1) la pa)) la=some (.dK s.la):=by rw[A2 nq1.symm];exact hla
 have hpa1:upd H q' (.ins Z5 dx (rf1 p n (s.k+1) la pa)) pa=some (.dK s.pu):=by rw[A2 nq2.symm];exact hpa
 have kp1:Kp M H (upd H q' (.ins Z5 dx (rf1 p n (s.k+1) la pa))):=(Kp.of (A7.refl H)).upd (by rw[hM2.1];simp);rename_i rest hrest;show rest _ (upd H q' (.ins Z5 dx (rf1 p n (s.k+1) la pa)));generalize upd H q' (.ins Z5 dx (rf1 p n (s.k+1) la pa))=H1 at ho1 hla1 hpa1 kp1 ⊢;have hlp:=Bf s.la (Sum.inr z:Key) (V.int (s.k+1));subst hrest;ext;exact⟨Z5,dx,_,ho1,T.Z03,T.Z0d,_,Ky,Z5,dx,_,ho1,T.Z03,T.Z3f,_,J62,la,rfl,_,Eu.k (k:=Sum.inr z) hla1 (by omega),q _ (kp1.upd (by rw[hM2.1];simp)) ⟨la,pa,hM2.1,d,⟨dx,by rw[A2 nq1];exact ho1⟩,A1,by rw[A2 d.symm];exact hpa1⟩⟩
variable (Z0z:DefM P w K mg base CX0 1 Z5 "number_ask" ["self","name"] (G1 Z5))
include T Z0z in
theorem Z8q(F:Fun K "asked" "Ranked.asked" Z4x f fd):Al P w K mg base CX0 3 f fd ["self","name"] (Br (T1 Z5)):=by
 have sc:A9 ["self","name"] ["self","name"] (A6 Z4x):=by ext:3
 ext:2
 . exact n8 h_ λ_ _ _ _ _ _ _ _=>rfl
 refine x8 h_ λq' p n M s l ns z e_=>y6 e_ λe0 hh hi hz hns q=>?_;clear e_ h_;subst e0;refine⟨_,(@A5 _ _ _ (Ak (B2 Z0z T.Z03 hr (B4 Ae) (pv 0) (A0 (pv 1) A3)))),?_⟩;ext:4;have hh':FAt Z5 H M q' p n s:=hh;obtain⟨la,pa,hM,d,⟨dx,ho⟩,hla,hpa⟩:=id hh';have hlen:=hi.a.len;ext;exact⟨dx,_,ho,by rfl,p,n,M,s,hh',by omega,λH1 kp1 h1=>q H1 kp1 h1⟩
variable (Z33:DefM P w K mg base CX0 3 Z5 "asked" ["self","name"] (Br (T1 Z5)))
include T in
theorem Z96(F:Fun K "rank" "First.rank" Z19 f fd):Al P w K mg base CX0 1 f fd ["self","name"] (Gz Z5):=by
 have sc:A9 ["self","name"] ["self","name"] (A6 Z19):=by ext:3
 ext:2
 . exact n7 h_ λ_ _ _ _ _ _ _=>rfl
 refine x7 h_ λq' p n M s z i e_=>y4 e_ λe0 hh hv q=>?_;clear e_ h_;subst e0;refine⟨_,(@A5 _ _ _ (@Ag _ _ _ _ (Cj (A0 (En (Bl hr) (Ab (pv 0) rfl) (pv 1) A8 ⟨rfl,rfl,rfl,rfl⟩) A3)))),?_⟩;ext:4;obtain⟨la,pa,hM,d,⟨dx,ho⟩,hla,hpa⟩:=hh;clear hM;ext;exact⟨Z5,dx,_,ho,T.Z03,T.Z16,_,J0o,pa,rfl,.inl ⟨_,.inl hpa⟩,some (.int i),by rw[<- hv];exact Cp.k (k:=Sum.inr z) hpa,by omega,λt ht=>q t ht⟩
variable (Z3z:Q9 P w K mg base 1 Z5 "rank" ["self","name"] (Gz Z5))
include T Z3z in
theorem Z8c(F:Fun K "choice" "Ranked.choice" Z4a f fd):Al P w K mg base CX0 4 f fd ["self","lying"] (Bh (T1 Z5) K):=by
 have sc:A9 ["self","lying"] ["self","lying"] (A6 Z4a):=by ext:3
 ext:2
 . exact n9 h_ λ_ _ _ _ _ _ _ _ _=>rfl
 refine x9 h_ λq' p a n M s l ns z e_=>y10 e_ λe0 hh hm hl ha ham hns hll hcn q=>?_;clear e_ h_;subst e0;refine⟨_,(@A5 _ _ _ (@Ag _ _ _ _ (Nj Z3z T.Z03 hr rfl T.Z52 (by first | rfl | decide+kernel) (A0 (pv 1) A3) (pv 0) rfl))),?_⟩;ext:4;have hh':FAt Z5 H M q' p n s:=hh;obtain⟨la,pa,hM,d,⟨dx,ho⟩,hla,hpa⟩:=id hh';clear hM;have hm':FI ns s l (s.k - 1):=hm;have q2:∀H',Kp M H H'->FAt Z5 H' M q' p n s->Q (.str (l.headD Str.empty)) H':=q;clear q hm;ext;refine⟨dx,_,ho,by rfl,l.map V.str,SqL.of ha,by simpa using hl,λi=>[N22.pv s (l.getD i Str.empty)],λi v hv H1 sm1=>?_,λv H1 sm1 hv=>?_⟩
 . rw[Fe]at hv
   cases hz:l[i]? with
   | none=>rw[hz]at hv;cases hv
   | some u=>
   rw[hz]at hv;cases hv;obtain⟨j,hj,_⟩:=hm'.v u (Ff hz);refine⟨p,n,M,s,u,rfl,(T1 Z5).dep (λm _ o=>sm1 m o) hh',j,hj,λt ht=>⟨A7.new ht,?_⟩⟩;rw[A1];show _=some (HO.tup [V.int (N22.pv s (l.getD i Str.empty))]);rw[Fc,hz];show _=some (HO.tup [V.int (N22.pv s u)]);rw[J60 hj]
 . have hb:argBest (btK λi=>[N22.pv s (l.getD i Str.empty)]) ((l.map V.str).length - 1)=0:=by
    rw[Fa];refine J22 (v:=λi=>N22.pv s (l.getD i Str.empty)) (λi _=>rfl) (λi hi=>?_);have hl0:0 < l.length:=Hu.mpr hl
    by_cases e:i=0
    . rw[e];exact FZ _
    . have:=(RU.mp hm'.o) 0 i hl0 (by omega) (by omega)
      rw[Fc,Fc,Fb hl0,Fb (show i < l.length by omega)];exact Int.le_of_lt this
   rw[hb]at hv
   cases l with
   | nil=>exact absurd rfl hl
   | cons x r=>
    cases hv;exact q2 _ (Kp.of sm1) ((T1 Z5).dep (λm _ o=>sm1 m o) hh')
variable (Z2m:DefM P w K mg base CX0 4 Z5 "choice" ["self","lying"] (Bh (T1 Z5) K))
include T in
theorem Z97(F:Fun K "gone" "Rule.gone" Z5h f fd):Al P w K mg base CX0 3 f fd ["self","name"] (C0 (T1 Z5)):=by
 have sc:A9 ["self","name"] ["self","name"] (A6 Z5h):=by ext:3
 ext:2
 . exact n8 h_ λ_ _ _ _ _ _ _ _=>rfl
 refine x8 h_ λq' p n M s l ns z e_=>y6 e_ λe0 hh hm hl hns q=>?_;clear e_ h_;subst e0;refine⟨_,(@A5 _ _ _ E1),?_⟩;walk_at "su";ext;exact q _ (Kp.of (A7.refl _)) hh
variable (Z40:DefM P w K mg base CX0 3 Z5 "gone" ["self","name"] (C0 (T1 Z5)))
include T in
theorem Z98(F:Fun K "came" "First.came" Z5i f fd):Al P w K mg base CX0 1 f fd ["self","name"] (C1 (T1 Z5)):=by
 have sc:A9 ["self","name"] ["self","name"] (A6 Z5i):=by ext:3
 ext:2
 . exact n8 h_ λ_ _ _ _ _ _ _ _=>rfl
 refine x8 h_ λq' p n M s l ns z e_=>y7 e_ λe0 hh hm hz hzl hns q=>?_;clear e_ h_;subst e0;refine⟨_,(@A5 _ _ _ (Cf (Bl hr) (Ab (pv 0) rfl) (pv 1) (Ab (pv 0) rfl) rfl)),?_⟩;ext:4;have hh':FAt Z5 H M q' p n s:=hh;obtain⟨la,pa,hM,d,⟨dx,ho⟩,hla,hpa⟩:=id hh'
 have hM2:M=[q',la,pa]/\True:=⟨hM,trivial⟩
 clear hM;have hlen:=hm.b.len
 have nq2:q'≠pa:=λe=>by rw[e,hpa]at ho;cases ho
 have q2:∀H',Kp M H H'->FAt Z5 H' M q' p n (O7 s z)->Q .non H':=q;clear q;have hlp:=Bf s.pu (Sum.inr z:Key) (V.int s.k);ext;refine⟨Z5,dx,_,ho,T.Z03,T.Z0d,_,Ky,Z5,dx,_,ho,T.Z03,T.Z16,_,J0o,pa,rfl,_,Eu.k (k:=Sum.inr z) hpa (by omega),q2 _ ((Kp.of (A7.refl H)).upd (by rw[hM2.1];simp)) ⟨la,pa,hM2.1,d,⟨dx,by rw[A2 nq2];exact ho⟩,by rw[A2 d];exact hla,A1⟩⟩
variable (Z41:DefM P w K mg base CX0 1 Z5 "came" ["self","name"] (C1 (T1 Z5)))
include T in
theorem Z99(F:Fun K "asked" "Hand.asked" Z5j f fd):Al P w K mg base CX0 3 f fd ["self","name"] (Br (T6 Z6)):=by
 have sc:A9 ["self","name"] ["self","name"] (A6 Z5j):=by ext:3
 ext:2
 . exact n8 h_ λ_ _ _ _ _ _ _ _=>rfl
 refine x8 h_ λq' p n M s l ns z e_=>y6 e_ λe0 hh hi hz hns q=>?_;clear e_ h_;subst e0
 refine⟨_,(@A5 _ _ _ (Az (Ah D2 (pv 1) (Ab (pv 0) rfl) (by with_unfolding_all rfl))
  (@A5 _ _ _ (Cf (Bl hr) (Ab (pv 0) rfl) (pv 1) Dl rfl))
  An)),?_⟩
 ext:4
 obtain⟨s,rfl⟩:∃s':H6,s=s':=⟨s,rfl⟩
 have hh':Qe Z6 H M q' p n s:=hh;obtain⟨od,md,hM,⟨dx,ho⟩,hl,hk⟩:=id hh';have nqo:q'≠od:=Bt ho hl (by intro z;cases z);have nqm:q'≠md:=Bt ho hk (by intro z;cases z);have nom:od≠md:=Bt hl hk (by intro z;cases z);subst hM;have hi':HI6 ns s l:=hi;have hlen:=hi'.k.len;have q2:∀H',Kp [q',od,md] H H'->Qe Z6 H' [q',od,md] q' p n (Qr s z)->Q .non H':=q;clear q;ext;refine⟨Z6,dx,_,ho,T.Zv,T.Zz,_,Dx,Nd (SqL.of hl) ⟨_,rfl,?_⟩⟩
 by_cases hz:z∈s.L
 . rw[if_pos (Fi hz)]
   have hlp:=Bf s.k (Sum.inr z:Key) (V.bl true);refine⟨Z6,dx,_,ho,T.Zv,T.Z0g,_,K2,md,rfl,_,Eu.k (k:=Sum.inr z) hk (by omega),?_⟩;exact q2 _ ((Kp.of (A7.refl _)).upd (by simp)) (by rw[J8f hz];exact⟨od,md,rfl,⟨dx,by rw[A2 nqm];exact ho⟩,by rw[A2 nom];exact hl,A1⟩)
 . rw[if_neg (by simp[hz])]
   exact q2 H (.of (A7.refl _)) (by rw[J6g hz];exact hh')
variable (Z42:DefM P w K mg base CX0 3 Z6 "asked" ["self","name"] (Br (T6 Z6)))
include T in
theorem Z8r(F:Fun K "choice" "Hand.choice" Z4y f fd):Al P w K mg base CX0 4 f fd ["self","lying"] (Bh (T6 Z6) K):=by
 have sc:A9 ["self","lying","front"] ["self","lying"] (A6 Z4y):=by ext:3
 ext:2
 . exact n9 h_ λ_ _ _ _ _ _ _ _ _=>rfl
 refine x9 h_ λq' p a n M s l ns z e_=>y10 e_ λe0 hh hm hl0 ha ham hns hll hcn q=>?_;clear e_ h_;subst e0
 refine⟨_,(@A4 _ _ _ _ _ (Kn PassesOwn.never (Pf (Nx (Bl hr) (@As _ _ _ _ _ _ _ B9 (Ab (pv 0) rfl) A8 (λ_ _=>rfl)) (Ab (pv 0) rfl)))
  (@A4 _ _ _ _ _ (Aq (i:=2) sc.nd rfl (Or.inl rfl) (Dh FA PySem.F.slot_list_pop PySem.F.type_list_pop Uj (Ab (pv 0) rfl) (A0 A8 A3)))
  (@A4 _ _ _ _ _ (Ak (Uo (Ab (pv 0) rfl) (pv 2) ⟨rfl,rfl,rfl,rfl⟩))
  (@A5 _ _ _ (Ak (Dh FA FR FQ Bq (Ab (pv 0) rfl) (A0 (pv 2) A3)))))))
  (@A5 _ _ _ (@Ag _ _ _ _ (@As _ _ _ _ _ _ _ B9 (Ab (pv 0) rfl) A8 (λ_ _=>rfl))))),?_⟩
 ext:4
 obtain⟨s,rfl⟩:∃s':H6,s=s':=⟨s,rfl⟩
 have hh':Qe Z6 H M q' p n s:=hh;obtain⟨od,md,hM,⟨dx,ho⟩,hl,hk⟩:=id hh';have nqo:q'≠od:=Bt ho hl (by intro z;cases z);have nqm:q'≠md:=Bt ho hk (by intro z;cases z);have nom:od≠md:=Bt hl hk (by intro z;cases z);subst hM;have hi':HI6 ns s l:=hm;have q2:∀H',Kp [q',od,md] H H'->Qe Z6 H' [q',od,md] q' p n (hpk s)->Q (.str ((hpk s).L.headD Str.empty)) H':=q;clear q hm;ext;rename_i rest hrest;refine Yb (m0:=s.k.length) (λm σ H5=>∃(s':H6) (v2:Option V),σ=[some (V.ref q'),some (V.ref a),v2]/\Kp [q',od,md] H H5/\H5 q'=some (.ins Z6 dx (hfl p od md n))/\H5 od=some (.lst (s'.L.map V.str))/\H5 md=some (.dK s'.k)/\HI6 ns s' l/\hpk s'=hpk s/\m=s'.k.length) ⟨s,none,rfl,Kp.of (A7.refl _),ho,hl,hk,hi',rfl,rfl⟩ ?_;clear ho hl hk;rintro m' σ H5 ⟨⟨L',k'⟩,v2,rfl,kp5,ho,hl,hk,hi5,hf5,rfl⟩;have hpl:=hi5.p.length_eq
 cases L' with
 | nil=>exact absurd (Rx.mp (by simpa using hpl.symm)) hl0
 | cons f r=>
 simp only at ho hl hk hpl;ext;refine⟨Z6,dx,_,ho,T.Zv,T.Zz,_,Dx,Bb (SqL.of hl) (v:=V.str f) (Ai (j:=0) rfl) ?_⟩;refine⟨Z6,dx,_,ho,T.Zv,T.Z0g,_,K2,md,rfl,_,Cp.k (k:=Sum.inr f) hk,?_⟩
 by_cases hfd:(Aw k' (Sum.inr f)).isSome=true
 . rw[if_pos hfd]
   clear hrest;refine⟨_,λσ' H7 h=>h,?_⟩;ext;refine⟨Z6,dx,_,ho,T.Zv,T.Zz,_,Dx,.inl ⟨rfl,_,SqL.of hl⟩,od,rfl,_,hl,by decide,by decide,0,by simp[seqIndex?],V.str f,rfl,?_⟩;have kp6:Kp [q',od,md] H (upd H5 od (.lst (r.map V.str))):=kp5.upd (by simp);have ho6:upd H5 od (.lst (r.map V.str)) q'=_:=(A2 nqo).trans ho;have hl6:upd H5 od (.lst (r.map V.str)) od=some (.lst (r.map V.str)):=A1;have hk6:upd H5 od (.lst (r.map V.str)) md=_:=(A2 nom.symm).trans hk;rename_i rest2 hrest2;show rest2 _ (upd H5 od (.lst (r.map V.str)));generalize upd H5 od (.lst (r.map V.str))=H6 at ho6 hl6 hk6 kp6 ⊢;clear ho hl hk kp5;subst hrest2;ext;obtain⟨v,hv⟩:∃v,Aw k' (Sum.inr f)=some v:=Hw.mp hfd;refine⟨Z6,dx,_,ho6,T.Zv,T.Z0g,_,K2,md,rfl,.inl ⟨_,.inl hk6⟩,k',hk6,Sum.inr f,rfl,v,hv,?_⟩;have kp7:Kp [q',od,md] H (upd H6 md (.dK (Cr k' (Sum.inr f)))):=kp6.upd (by simp);have ho7:upd H6 md (.dK (Cr k' (Sum.inr f))) q'=_:=(A2 nqm).trans ho6
   have hl7:upd H6 md (.dK (Cr k' (Sum.inr f))) od=_:=(A2 nom).trans hl6;have hk7:upd H6 md (.dK (Cr k' (Sum.inr f))) md=some (.dK (Cr k' (Sum.inr f))):=A1;generalize upd H6 md (.dK (Cr k' (Sum.inr f)))=H7 at ho7 hl7 hk7 kp7 ⊢;clear hk6 ho6 hl6 hv kp6;have hdl:=Qd hfd;have hpg:=(Jbd (r:=r) hfd).symm.trans hf5;clear hf5;ext:1;rw[List.length_cons]at hpl;have hp:(r++[f]).Perm (f::r):=Rk ..;refine⟨Z6,dx,_,ho7,T.Zv,T.Zz,_,Dx,.inl ⟨rfl,_,SqL.of hl7⟩,od,_,_,rfl,rfl,hl7,by rw[Fa];omega,(Cr k' (Sum.inr f)).length,hdl,kp7.upd (by simp),by rw[A2 nqo];exact ho7,⟨r++[f],Cr k' (Sum.inr f)⟩,by rw[A1,Fo];rfl,by rw[A2 nom.symm];exact hk7,⟨C3.drop hi5.k,hp.trans hi5.p,hp.nodup_iff.mpr hi5.nd,λu hu=>hi5.s u (hp.mem_iff.mp hu)⟩,hpg,rfl⟩
 . rw[if_neg hfd]
   have hpe:hpk s=⟨f::r,k'⟩/\True:=⟨hf5.symm.trans (J8e hfd),trivial⟩
   clear hf5;subst hrest;ext;rw[hpe.1]at q2;exact⟨Z6,dx,_,ho,T.Zv,T.Zz,_,Dx,Bb (SqL.of hl) (v:=V.str f) (Ai (j:=0) rfl) (q2 H5 kp5 ⟨od,md,rfl,⟨dx,ho⟩,hl,hk⟩)⟩
variable (Z34:DefM P w K mg base CX0 4 Z6 "choice" ["self","lying"] (Bh (T6 Z6) K))
include T in
theorem Z9m(F:Fun K "gone" "Hand.gone" Z68 f fd):Al P w K mg base CX0 3 f fd ["self","name"] (C0 (T6 Z6)):=by
 have sc:A9 ["self","name"] ["self","name"] (A6 Z68):=by ext:3
 ext:2
 . exact n8 h_ λ_ _ _ _ _ _ _ _=>rfl
 refine x8 h_ λq' p n M s l ns z e_=>y6 e_ λe0 hh hm hl0 hns q=>?_;clear e_ h_;subst e0;refine⟨_,(@A5 _ _ _ (Ak (Dh FA Rp Ro Lb (Ab (pv 0) rfl) (A0 (pv 1) A3)))),?_⟩;walk_at "su";have hi':HI6 ns s l:=hm;have hi2:HI6 ns (hpk s) l:=Wd _ _ hi';have hpm:(hpk s).L.headD Str.empty∈(hpk s).L:=hi2.p.mem_iff.mpr ((Au.i_pick (T6 Z6) (ns:=ns) (n:=n) (z:=z) hm hl0).1);have q2:∀H',Kp M H H'->Qe Z6 H' M q' p n ⟨(hpk s).L.erase ((hpk s).L.headD Str.empty),(hpk s).k⟩->Q .non H':=q;have hh0:Qe Z6 H M q' p n (hpk s):=hh;show _;rw[show ((T6 Z6).pick n s l).2=(hpk s).L.headD Str.empty from rfl];clear q hh hm;generalize (hpk s).L.headD Str.empty=y at hpm q2 ⊢;generalize hpk s=s at hh0 hpm q2 hi2;have hh:=hh0;have line:=Eo
 obtain⟨s,rfl⟩:∃s':H6,s=s':=⟨s,rfl⟩
 have hh':Qe Z6 H M q' p n s:=hh;obtain⟨od,md,hM,⟨dx,ho⟩,hl,hk⟩:=id hh';have nqo:q'≠od:=Bt ho hl (by intro z;cases z);have nqm:q'≠md:=Bt ho hk (by intro z;cases z);have nom:od≠md:=Bt hl hk (by intro z;cases z);subst hM;ext;exact⟨Z6,dx,_,ho,T.Zv,T.Zz,_,Dx,.inl ⟨rfl,_,SqL.of hl⟩,od,rfl,s.L,hl,hpm,q2 _ ((Kp.of (A7.refl _)).upd (by simp)) ⟨od,md,rfl,⟨dx,by rw[A2 nqo];exact ho⟩,A1,by rw[A2 nom.symm];exact hk⟩⟩
variable (Z4i:DefM P w K mg base CX0 3 Z6 "gone" ["self","name"] (C0 (T6 Z6)))
include T in
theorem Z9n(F:Fun K "came" "Hand.came" Z69 f fd):Al P w K mg base CX0 1 f fd ["self","name"] (C1 (T6 Z6)):=by
 have sc:A9 ["self","name"] ["self","name"] (A6 Z69):=by ext:3
 ext:2
 . exact n8 h_ λ_ _ _ _ _ _ _ _=>rfl
 refine x8 h_ λq' p n M s l ns z e_=>y7 e_ λe0 hh hm hz hzl hns q=>?_;clear e_ h_;subst e0
 refine⟨_,(@A4 _ _ _ _ _ (Ak (Dh FA FR FQ Bq (Ab (pv 0) rfl) (A0 (pv 1) A3)))
  (@A5 _ _ _ (Cf (Bl hr) (Ab (pv 0) rfl) (pv 1) Dl rfl))),?_⟩
 ext:4
 obtain⟨s,rfl⟩:∃s':H6,s=s':=⟨s,rfl⟩
 have hh':Qe Z6 H M q' p n s:=hh;obtain⟨od,md,hM,⟨dx,ho⟩,hl,hk⟩:=id hh';have nqo:q'≠od:=Bt ho hl (by intro z;cases z);have nqm:q'≠md:=Bt ho hk (by intro z;cases z);have nom:od≠md:=Bt hl hk (by intro z;cases z);subst hM;have hi':HI6 ns s l:=hm;have hlen:=hi'.k.len;have hll:=N25.Mg hi'.nd hi'.s;have q2:∀H',Kp [q',od,md] H H'->Qe Z6 H' [q',od,md] q' p n ⟨s.L++[z],Ct s.k (Sum.inr z) (.bl true)⟩->Q .non H':=q;clear q;ext;refine⟨Z6,dx,_,ho,T.Zv,T.Zz,_,Dx,.inl ⟨rfl,_,SqL.of hl⟩,od,_,_,rfl,rfl,hl,by rw[Fa];omega,?_⟩;rw[show s.L.map V.str++[V.str z]=(s.L++[z]).map V.str by rw[Fo];rfl];have kp1:Kp [q',od,md] H (upd H od (.lst ((s.L++[z]).map V.str))):=(Kp.of (A7.refl H)).upd (by simp);have ho1:upd H od (.lst ((s.L++[z]).map V.str)) q'=_:=(A2 nqo).trans ho;have hl1:upd H od (.lst ((s.L++[z]).map V.str)) od=some (.lst ((s.L++[z]).map V.str)):=A1;have hk1:upd H od (.lst ((s.L++[z]).map V.str)) md=_:=(A2 nom.symm).trans hk
 generalize upd H od (.lst ((s.L++[z]).map V.str))=H1 at kp1 ho1 hl1 hk1 ⊢;have hlp:=Bf s.k (Sum.inr z:Key) (V.bl true);ext:1;refine⟨Z6,dx,_,ho1,T.Zv,T.Z0g,_,K2,md,rfl,_,Eu.k (k:=Sum.inr z) hk1 (by omega),?_⟩;exact q2 _ (kp1.upd (by simp)) ⟨od,md,rfl,⟨dx,by rw[A2 nqm];exact ho1⟩,by rw[A2 nom];exact hl1,A1⟩
variable (Z4j:DefM P w K mg base CX0 1 Z6 "came" ["self","name"] (C1 (T6 Z6)))
include T in
theorem Zb0(F:Fun K "move" "move" Z9f f fd):Al P w K mg base CX0 1 f fd ["name","start","end"] (Lr):=by
 have sc:A9 ["name","start","end"] ["name","start","end"] (A6 Z9f):=by ext:3
 ext:2
 . exact n5 h_ λ_ _ _ _ _=>rfl
 refine x5 h_ λz a b L N e_=>y6 e_ λe0 ha hz hb hn q=>?_;clear e_ h_;subst e0
 refine⟨_,(@A4 _ _ _ _ _ (Ak (Dh FA Rp Ro Lb (pv 1) (A0 (pv 0) A3)))
  (@A5 _ _ _ (Ak (Dh FA FR FQ Bq (pv 2) (A0 (pv 0) A3))))),?_⟩
 ext:4;ext;refine⟨.inl ⟨rfl,_,SqL.of ha⟩,L,ha,hz,?_⟩;ext:1;rw[Fo]at q;exact⟨.inl ⟨rfl,_,SqL.of hb⟩,b,_,_,rfl,rfl,hb,by rw[Fa];omega,q⟩
variable (Z4n:Def P w K mg base CX0 1 "move" ["name","start","end"] (Lr))
include T in
theorem Zae(F:Fun K "step_of" "step_of" Z75 f fd):Al P w K mg base CX0 1 f fd ["other","own"] (Ls):=by
 have sc:A9 ["other","own"] ["other","own"] (A6 Z75):=by ext:3
 ext:2
 . exact n4 h_ λ_ _ _ _=>rfl
 refine x4 h_ λa b L N e_=>y6 e_ λe0 ha hb h0 hn q=>?_;clear e_ h_;subst e0;refine⟨_,(@A5 _ _ _ (@Ag _ _ _ _ (Aj (Qt rfl) rfl T.Z9e (by first | rfl | decide+kernel) (A0 A8 (A0 (Ao Mw (Aj Ap rfl T.Zq FN (A0 (pv 0) A3)) (Aj Ap rfl T.Zq FN (A0 (pv 1) A3))) A3))))),?_⟩;ext:4;ext;refine⟨_,.inl (SqL.of ha),_,.inl (SqL.of hb),by rw[Fa];omega,HY (m:=1000) (by rw[Fa];omega) (by decide),?_⟩;rw[Fa,Fa];exact q
variable (Z4o:Def P w K mg base CX0 1 "step_of" ["other","own"] (Ls))
include T Z4o in
theorem Z7m(F:Fun K "take_back" "Rows.take_back" Z3d f fd):Al P w K mg base CX0 2 f fd ["self","name"] (Lu Z3):=by
 have sc:A9 ["self","name"] ["self","name"] (A6 Z3d):=by ext:3
 ext:2
 . exact n9 h_ λ_ _ _ _ _ _ _ _ _=>rfl
 refine x9 h_ λq' p l1 l2 l3 l4 n s z e_=>y7 e_ λe0 hh hz hp hq hr_ q=>?_;clear e_ h_;subst e0
 refine⟨_,(@A5 _ _ _ (Az (Ah D2 (pv 1) (Ab (pv 0) rfl) (by with_unfolding_all rfl))
  (@A4 _ _ _ _ _ (Bn (pv 0) (Aj (Qu rfl) rfl T.Z52 (by first | rfl | decide+kernel) (A0 (Ab (pv 0) rfl) (A0 (Ao Bk (Ab (pv 0) rfl) (Ad Z4o hr rfl Ae (A0 (Ab (pv 0) rfl) (A0 (Ab (pv 0) rfl) A3)))) A3))) rfl)
  (@A5 _ _ _ (Ak (Dh FA Rp Ro Lb (Ab (pv 0) rfl) (A0 (pv 1) A3)))))
  (@A4 _ _ _ _ _ (Bn (pv 0) (Aj (Qt rfl) rfl T.Z9e (by first | rfl | decide+kernel) (A0 A8 (A0 (Ao E9 (Ab (pv 0) rfl) (Ad Z4o hr rfl Ae (A0 (Ab (pv 0) rfl) (A0 (Ab (pv 0) rfl) A3)))) A3))) rfl)
  (@A5 _ _ _ (Ak (Dh FA Rp Ro Lb (Ab (pv 0) rfl) (A0 (pv 1) A3))))))),?_⟩
 ext:4;obtain⟨dx,ho⟩:=id hh.o
 have hr2:s.r=true/\True:=⟨hr_,trivial⟩
 clear hr_;ext;refine⟨Z3,dx,_,ho,T.Z8,T.Zj,_,O9,Nd (SqL.of hh.h3) ⟨_,rfl,?_⟩⟩
 by_cases hzp:z∈s.p
 . rw[if_pos (Fi hzp)]
   have hpos:=FU hzp
   have e:rback n s z=⟨s.a,s.b,s.p.erase z,s.q,mn n (s.k+stp s.q.length s.p.length),true⟩:=by unfold rback;rw[if_pos hzp]
   rw[e]at q;clear e;ext;refine⟨Z3,dx,_,ho,T.Z8,T.Z0t,_,Mi,Z3,dx,_,ho,T.Z8,T.Z0b,_,Oa,Z3,dx,_,ho,T.Z8,T.Zn,_,Qc,Z3,dx,_,ho,T.Z8,T.Zj,_,O9,l4,rfl,l3,rfl,s.q,hh.h4,s.p,hh.h3,hpos,hp,?_⟩;refine⟨s.k,rfl,n,rfl,Z3,dx,_,ho,T.Z8,T.Z0b,by rw[Pa];decide,?_⟩;have hh1:=hh.setO (k:=mn n (s.k+stp s.q.length s.p.length)) (r:=s.r) (dx:=dx);have kp1:Kp [q',l1,l2,l3,l4] H (upd H q' (.ins Z3 dx (rfd p l1 l2 l3 l4 n (mn n (s.k+stp s.q.length s.p.length)) s.r))):=(Kp.of (A7.refl H)).upd (by simp);rename_i rest hrest;show rest _ (upd H q' (.ins Z3 dx (rfd p l1 l2 l3 l4 n (mn n (s.k+stp s.q.length s.p.length)) s.r)));generalize upd H q' (.ins Z3 dx (rfd p l1 l2 l3 l4 n (mn n (s.k+stp s.q.length s.p.length)) s.r))=H1 at hh1 kp1 ⊢;obtain⟨dx1,ho1⟩:=id hh1.o;subst hrest;ext;refine⟨Z3,dx1,_,ho1,T.Z8,T.Zj,_,O9,.inl ⟨rfl,_,SqL.of hh1.h3⟩,l3,rfl,s.p,hh1.h3,hzp,q _ (kp1.upd (by simp)) ?_⟩;have:=hh1.setP (L:=s.p.erase z)
   rw[hr2.1]at this;exact this
 . rw[if_neg (by simp[hzp])]
   have hzq:=hz.resolve_left hzp;have hpos:=FU hzq
   have e:rback n s z=⟨s.a,s.b,s.p,s.q.erase z,mx (s.k - stp s.p.length s.q.length),true⟩:=by unfold rback;rw[if_neg hzp,if_pos hzq]
   rw[e]at q;clear e;ext;refine⟨Z3,dx,_,ho,T.Z8,T.Z0b,_,Oa,Z3,dx,_,ho,T.Z8,T.Zj,_,O9,Z3,dx,_,ho,T.Z8,T.Zn,_,Qc,l3,rfl,l4,rfl,s.p,hh.h3,s.q,hh.h4,hpos,hq,?_⟩;refine⟨s.k,rfl,Z3,dx,_,ho,T.Z8,T.Z0b,by rw[Pa];decide,?_⟩;have hh1:=hh.setO (k:=mx (s.k - stp s.p.length s.q.length)) (r:=s.r) (dx:=dx);have kp1:Kp [q',l1,l2,l3,l4] H (upd H q' (.ins Z3 dx (rfd p l1 l2 l3 l4 n (mx (s.k - stp s.p.length s.q.length)) s.r))):=(Kp.of (A7.refl H)).upd (by simp);rename_i rest hrest;show rest _ (upd H q' (.ins Z3 dx (rfd p l1 l2 l3 l4 n (mx (s.k - stp s.p.length s.q.length)) s.r)));generalize upd H q' (.ins Z3 dx (rfd p l1 l2 l3 l4 n (mx (s.k - stp s.p.length s.q.length)) s.r))=H1 at hh1 kp1 ⊢;obtain⟨dx1,ho1⟩:=id hh1.o;subst hrest;ext;refine⟨Z3,dx1,_,ho1,T.Z8,T.Zn,_,Qc,.inl ⟨rfl,_,SqL.of hh1.h4⟩,l4,rfl,s.q,hh1.h4,hzq,q _ (kp1.upd (by simp)) ?_⟩;have:=hh1.setQ (L:=s.q.erase z);rw[hr2.1]at this
   exact this
variable (Z1l:DefM P w K mg base CX0 2 Z3 "take_back" ["self","name"] (Lu Z3))
include T Z4n Z1l in
theorem Z9a(F:Fun K "asked" "Rows.asked" Z5k f fd):Al P w K mg base CX0 3 f fd ["self","name"] (Br (T26 Z3)):=by
 have sc:A9 ["self","name"] ["self","name"] (A6 Z5k):=by ext:3
 ext:2
 . exact n8 h_ λ_ _ _ _ _ _ _ _=>rfl
 refine x8 h_ λq' p n M s l ns z e_=>y6 e_ λe0 hh hi hz hns q=>?_;clear e_ h_;subst e0
 refine⟨_,(@A4 _ _ _ _ _ (Bn (pv 0) (Jbp (Ef D2 (pv 1) (Ab (pv 0) rfl) (by with_unfolding_all rfl)) (Nq (Ef D2 (pv 1) (Ab (pv 0) rfl) (by with_unfolding_all rfl)))) rfl)
  (@A5 _ _ _ (Az (Ah D2 (pv 1) (Ab (pv 0) rfl) (by with_unfolding_all rfl))
   (@A5 _ _ _ (Ak (Ad Z4n hr rfl Ae (A0 (pv 1) (A0 (Ab (pv 0) rfl) (A0 (Ab (pv 0) rfl) A3))))))
   (@A5 _ _ _ (Az (Ah D2 (pv 1) (Ab (pv 0) rfl) (by with_unfolding_all rfl))
    (@A5 _ _ _ (Ak (Ad Z4n hr rfl Ae (A0 (pv 1) (A0 (Ab (pv 0) rfl) (A0 (Ab (pv 0) rfl) A3))))))
    (@A5 _ _ _ (Az (Bg (Ab (pv 0) rfl))
     (@A5 _ _ _ (Ak (B2 Z1l T.Z8 hr (B4 Ae) (pv 0) (A0 (pv 1) A3))))
     An))))))),?_⟩
 ext:4;obtain⟨l1,l2,l3,l4,hM,hh⟩:RAt Z3 H M q' p n s:=hh;obtain⟨dx,ho⟩:=id hh.o
 have hM2:M=[q',l1,l2,l3,l4]/\True:=⟨hM,trivial⟩
 clear hM;ext;rename_i rest hrest
 have key:∀rb:Bool,rb=decide (z∈s.p\/z∈s.q)->rest [some (V.ref q'),some (V.str z)] (upd H q' (.ins Z3 dx (rfd p l1 l2 l3 l4 n s.k rb))):=by
  intro rb hrb;have hh1:=hh.setO (k:=s.k) (r:=rb) (dx:=dx);have kp1:Kp [q',l1,l2,l3,l4] H (upd H q' (.ins Z3 dx (rfd p l1 l2 l3 l4 n s.k rb))):=(Kp.of (A7.refl H)).upd (by simp);generalize upd H q' (.ins Z3 dx (rfd p l1 l2 l3 l4 n s.k rb))=H1 at hh1 kp1 ⊢;subst hrb;obtain⟨dx1,ho1⟩:=id hh1.o;subst hrest;ext;refine⟨Z3,dx1,_,ho1,T.Z8,T.Zs,_,Dt,Nd (SqL.of hh1.h1) ⟨_,rfl,?_⟩⟩;have q2:∀H',Kp M H H'->RAt Z3 H' M q' p n (rask n s z)->Q .non H':=q;have hln:=RI.lens hi
  by_cases hza:z∈s.a
  . rw[if_pos (Fi hza)]
    have e:rask n s z=⟨s.a.erase z,s.b++[z],s.p,s.q,s.k,decide (z∈s.p\/z∈s.q)⟩:=by unfold rask;rw[if_pos hza]
    rw[e]at q2;refine⟨Z3,dx1,_,ho1,T.Z8,T.Zs,_,Dt,Z3,dx1,_,ho1,T.Z8,T.Zr,_,Dk,l1,rfl,l2,rfl,s.a,hh1.h1,hza,s.b,by rw[A2 hh1.d12.symm];exact hh1.h2,by omega,q2 _ ?_ ⟨l1,l2,l3,l4,hM2.1,?_⟩⟩
    . rw[hM2.1]
      exact(kp1.upd (by simp)).upd (by simp)
    . exact(hh1.setA (L:=s.a.erase z)).setB (L:=s.b++[z])
  rw[if_neg (by simp[hza])];refine⟨Z3,dx1,_,ho1,T.Z8,T.Zr,_,Dk,Nd (SqL.of hh1.h2) ⟨_,rfl,?_⟩⟩
  by_cases hzb:z∈s.b
  . rw[if_pos (Fi hzb)]
    have e:rask n s z=⟨s.a,s.b.erase z++[z],s.p,s.q,s.k,decide (z∈s.p\/z∈s.q)⟩:=by unfold rask;rw[if_neg hza,if_pos hzb]
    rw[e]at q2;refine⟨Z3,dx1,_,ho1,T.Z8,T.Zr,_,Dk,Z3,dx1,_,ho1,T.Z8,T.Zr,_,Dk,l2,rfl,l2,rfl,s.b,hh1.h2,hzb,s.b.erase z,A1,by have:=RJ (a:=z) (l:=s.b);omega,q2 _ ?_ ⟨l1,l2,l3,l4,hM2.1,?_⟩⟩
    . rw[hM2.1]
      exact(kp1.upd (by simp)).upd (by simp)
    . exact(hh1.setB (L:=s.b.erase z)).setB (L:=s.b.erase z++[z])
  rw[if_neg (by simp[hzb])]
  have e:rask n s z=rback n s z:=by unfold rask;rw[if_neg hza,if_neg hzb]
  rw[e]at q2;clear e;refine⟨Z3,dx1,_,ho1,T.Z8,T.Z0a,_,Om,?_⟩;refine⟨decide (z∈s.p\/z∈s.q),rfl,?_⟩
  by_cases hpq:z∈s.p\/z∈s.q
  . rw[if_pos (Fi hpq)]
    refine⟨dx1,_,ho1,by rfl,p,l1,l2,l3,l4,n,_,hh1,hpq,(show s.p.length<=1000 by omega),(show s.q.length<=1000 by omega),Fi hpq,λH2 kp2 hh2=>q2 _ (by rw[hM2.1];exact kp1.trans kp2) ⟨l1,l2,l3,l4,hM2.1,hh2⟩⟩
  . rw[if_neg (by simp only[hpq,decide_false];decide)]
    have e:rback n s z=⟨s.a,s.b,s.p,s.q,s.k,false⟩:=by
     unfold rback;rw[if_neg (λh=>hpq (.inl h)),if_neg (λh=>hpq (.inr h))]
    rw[e]at q2;rw[Fk hpq]at hh1;exact q2 _ (by rw[hM2.1];exact kp1) ⟨l1,l2,l3,l4,hM2.1,hh1⟩
 clear hrest;refine⟨Z3,dx,_,ho,T.Z8,T.Zj,_,O9,Nd (SqL.of hh.h3) ⟨_,rfl,?_⟩⟩
 by_cases hzp:z∈s.p
 . rw[if_pos (Fi hzp)]
   exact⟨Z3,dx,_,ho,T.Z8,T.Z0a,by rw[Pa];decide,key true (by simp[hzp])⟩
 . rw[if_neg (by simp[hzp])]
   refine⟨Z3,dx,_,ho,T.Z8,T.Zn,_,Qc,Nd (SqL.of hh.h4) ?_⟩;exact⟨Z3,dx,_,ho,T.Z8,T.Z0a,by rw[Pa];decide,key _ (by simp[hzp])⟩
variable (Z43:DefM P w K mg base CX0 3 Z3 "asked" ["self","name"] (Br (T26 Z3)))
include T in
theorem Z8s(F:Fun K "choice" "Rows.choice" Z4z f fd):Al P w K mg base CX0 4 f fd ["self","lying"] (Bh (T26 Z3) K):=by
 have sc:A9 ["self","lying"] ["self","lying"] (A6 Z4z):=by ext:3
 ext:2
 . exact n9 h_ λ_ _ _ _ _ _ _ _ _=>rfl
 refine x9 h_ λq' p a n M s l ns z e_=>y10 e_ λe0 hh hm hl ha ham hns hll hcn q=>?_;clear e_ h_;subst e0
 refine⟨_,(@A4 _ _ _ _ _ (Az (PW.pt (Wr (Ah (Jav hr) (Ab (pv 0) rfl) (@Ck _ _ _ _ A3) (nomark _)) (Sy (PW.pt (D5 (Ah Ew (Aj Ap rfl T.Zq FN (A0 (Ab (pv 0) rfl) A3)) (Ab (pv 0) rfl) (nomark _)) (Dm (Ah (J48 hr) (Ab (pv 0) rfl) (@Ck _ _ _ _ A3) (nomark _))))))))
  (@A5 _ _ _ (@Ag _ _ _ _ (@As _ _ _ _ _ _ _ B9 (Ab (pv 0) rfl) A8 (λ_ _=>rfl))))
  An)
  (@A5 _ _ _ (@Ag _ _ _ _ (@As _ _ _ _ _ _ _ B9 (Ab (pv 0) rfl) A8 (λ_ _=>rfl))))),?_⟩
 ext:4;obtain⟨l1,l2,l3,l4,hM,hh'⟩:RAt Z3 H M q' p n s:=hh;obtain⟨dx,ho⟩:=id hh'.o
 have hM2:M=[q',l1,l2,l3,l4]/\True:=⟨hM,trivial⟩
 clear hM;have fin:∀Hx,A7 H Hx->Q (.str (rpick s)) Hx:=λHx sm=>q Hx (Kp.of sm) ⟨l1,l2,l3,l4,hM2.1,hh'.same sm⟩;have hpk:=hm.1.pick hl;clear q;ext;refine⟨Z3,dx,_,ho,T.Z8,T.Zs,_,Dt,by omega,λp0 hp0=>⟨_,eq_nil (A7.new hp0 _ _ hh'.h1) A1,?_⟩⟩;have sm1:A7 H (upd H p0 (.lst [])):=A7.new hp0;generalize upd H p0 (.lst [])=H1 at sm1 ⊢;have hh1:=hh'.same sm1;have ho1:=sm1 _ _ ho;rename_i rest hrest
 have rb:∀Hx,A7 H Hx->¬(s.b=[]\/s.k < s.a.length)->rest [some (V.ref q'),some (V.ref a)] Hx:=by
  intro Hx smx hc;have hhx:=hh'.same smx;have hox:=smx _ _ ho;have hf:=fin Hx smx;rcases hpk with ⟨_,hc2,_⟩ | ⟨_,_,_,r,hr4⟩
  . exact absurd hc2 hc
  have hb2:=hhx.h2;rw[hr4]at hb2;subst hrest;ext;exact⟨Z3,dx,_,hox,T.Z8,T.Zr,_,Dk,Bb (SqL.of hb2) (v:=V.str (rpick s)) (Ai (j:=0) rfl) hf⟩
 clear hrest
 by_cases hae:s.a=[]
 . rw[if_neg (by simp[hae])]
   refine rb _ sm1 (λhc=>?_);rcases hpk with ⟨_,hc2,r,hr4⟩ | ⟨_,_,hc2,_⟩
   . rw[hr4]at hae;cases hae
   . exact hc2 hc
 . rw[if_pos (by simp[hae])]
   refine⟨Z3,dx,_,ho1,T.Z8,T.Zs,_,Dt,l1,rfl,_,.inl (SqL.of hh1.h1),Z3,dx,_,ho1,T.Z8,T.Z0b,_,Oa,?_⟩;rw[Fa];refine⟨s.k,rfl,?_⟩
   have ra:∀Hx,A7 H Hx->(s.b=[]\/s.k < s.a.length)->∃r,s.a=rpick s::r:=λHx smx hc=>by
    rcases hpk with ⟨_,_,hr4⟩ | ⟨_,_,hc2,_⟩
    . exact hr4
    . exact absurd hc hc2
   have once:∀Hx,A7 H Hx->(s.b=[]\/s.k < s.a.length)->Ja8 K (V.ref l1) (V.int 0) Hx Q:=λHx smx hc=>by
    obtain⟨r,hr4⟩:=ra Hx smx hc;have hb1:=(hh'.same smx).h1;rw[hr4]at hb1;exact Bb (SqL.of hb1) (v:=V.str (rpick s)) (Ai (j:=0) rfl) (fin Hx smx)
   by_cases hlt:s.k < (s.a.length:Int)
   . rw[if_pos hlt]
     exact⟨Z3,dx,_,ho1,T.Z8,T.Zs,_,Dt,once _ sm1 (.inr hlt)⟩
   . rw[if_neg hlt]
     refine⟨Z3,dx,_,ho1,T.Z8,T.Zr,_,Dk,by omega,λp1 hp1=>⟨_,eq_nil (A7.new hp1 _ _ hh1.h2) A1,?_⟩⟩;have sm2:A7 H (upd H1 p1 (.lst [])):=sm1.trans (A7.new hp1);generalize upd H1 p1 (.lst [])=H2 at sm2 ⊢
     by_cases hbe:s.b=[]
     . rw[if_pos (Fi hbe)]
       exact⟨Z3,dx,_,sm2 _ _ ho,T.Z8,T.Zs,_,Dt,once _ sm2 (.inl hbe)⟩
     . rw[if_neg (by simp[hbe])]
       exact rb _ sm2 (λhc=>hc.elim hbe hlt)
variable (Z35:DefM P w K mg base CX0 4 Z3 "choice" ["self","lying"] (Bh (T26 Z3) K))
include T Z4n in
theorem Z9b(F:Fun K "leave" "Rows.leave" Z5l f fd):Al P w K mg base CX0 2 f fd ["self","name","row","past"] (K5 Z3):=by
 have sc:A9 ["self","name","row","past"] ["self","name","row","past"] (A6 Z5l):=by ext:3
 ext:2
 . exact n13 h_ λ_ _ _ _ _ _ _ _ _ _ _ _ _=>rfl
 refine x13 h_ λq' p l1 l2 l3 l4 a b n s z L N e_=>y8 e_ λe0 hh ha hz hb hab hn q=>?_;clear e_ h_;subst e0
 refine⟨_,(@A4 _ _ _ _ _ (Ak (Ad Z4n hr rfl Ae (A0 (pv 1) (A0 (pv 2) (A0 (pv 3) A3)))))
  (@A5 _ _ _ (Az (Ah Ew (Aj Ap rfl T.Zq FN (A0 (pv 3) A3)) (Ab (pv 0) rfl) (nomark _))
   (@A5 _ _ _ (Ak (Dh FA PySem.F.slot_list_pop PySem.F.type_list_pop Uj (pv 3) (A0 A8 A3))))
   An))),?_⟩
 ext:4;obtain⟨dx,ho⟩:=id hh.o
 have nqa:q'≠a:=λe=>by rw[e,ha]at ho;cases ho
 have nqb:q'≠b:=λe=>by rw[e,hb]at ho;cases ho
 ext;refine⟨L,ha,hz,N,by rw[A2 hab.symm];exact hb,hn,?_⟩;have hb2:upd (upd H a (.lst ((L.erase z).map V.str))) b (.lst ((N++[z]).map V.str)) b=some (.lst ((N++[z]).map V.str)):=A1
 have ho2:upd (upd H a (.lst ((L.erase z).map V.str))) b (.lst ((N++[z]).map V.str)) q'=some (.ins Z3 dx (rfd p l1 l2 l3 l4 n s.k s.r)):=by rw[A2 nqb,A2 nqa];exact ho
 have q2:((N++[z]).length:Int) > n->Q .non (upd (upd (upd H a (.lst ((L.erase z).map V.str))) b (.lst ((N++[z]).map V.str))) b (.lst (((N++[z]).map V.str).eraseIdx 0))):=λh=>by
  unfold rpush at q;rw[if_pos h]at q;rw[Sw];rw[List.eraseIdx_zero,<- List.map_tail,<- List.eraseIdx_zero];exact q
 have q3:¬((N++[z]).length:Int) > n->Q .non (upd (upd H a (.lst ((L.erase z).map V.str))) b (.lst ((N++[z]).map V.str))):=λh=>by
  unfold rpush at q;rw[if_neg h]at q;exact q
 clear q;generalize upd (upd H a (.lst ((L.erase z).map V.str))) b (.lst ((N++[z]).map V.str))=H1 at hb2 ho2 q2 q3 ⊢;ext:1;refine⟨_,.inl (SqL.of hb2),Z3,dx,_,ho2,T.Z8,T.Z0t,_,Mi,?_⟩;rw[Fa];refine⟨n,rfl,?_⟩
 by_cases hc:((N++[z]).length:Int) > n
 . rw[if_pos hc]
   cases hN:(N++[z]).map V.str with
   | nil=>exact absurd (congrArg List.length hN) (by simp)
   | cons u us=>
    have q4:=q2 hc;rw[hN]at q4;exact⟨.inl ⟨rfl,_,SqL.of hb2⟩,_,by rw[hN]at hb2;exact hb2,by decide,by decide,0,by simp[seqIndex?],u,rfl,q4⟩
 . rw[if_neg hc]
   exact q3 hc
variable (Z29:DefM P w K mg base CX0 2 Z3 "leave" ["self","name","row","past"] (K5 Z3))
include T Z29 in
theorem Z9o(F:Fun K "gone" "Rows.gone" Z6a f fd):Al P w K mg base CX0 3 f fd ["self","name"] (C0 (T26 Z3)):=by
 have sc:A9 ["self","name"] ["self","name"] (A6 Z6a):=by ext:3
 ext:2
 . exact n8 h_ λ_ _ _ _ _ _ _ _=>rfl
 refine x8 h_ λq' p n M s l ns z e_=>y6 e_ λe0 hh hm hl hns q=>?_;clear e_ h_;subst e0
 refine⟨_,(@A5 _ _ _ (Az (Ah D2 (pv 1) (Ab (pv 0) rfl) (by with_unfolding_all rfl))
  (@A5 _ _ _ (Ak (B2 Z29 T.Z8 hr (B4 Ae) (pv 0) (A0 (pv 1) (A0 (Ab (pv 0) rfl) (A0 (Ab (pv 0) rfl) A3))))))
  (@A5 _ _ _ (Ak (B2 Z29 T.Z8 hr (B4 Ae) (pv 0) (A0 (pv 1) (A0 (Ab (pv 0) rfl) (A0 (Ab (pv 0) rfl) A3)))))))),?_⟩
 ext:4;obtain⟨l1,l2,l3,l4,hM,hh'⟩:RAt Z3 H M q' p n s:=hh;obtain⟨dx,ho⟩:=id hh'.o
 have hM2:M=[q',l1,l2,l3,l4]/\True:=⟨hM,trivial⟩
 clear hM;have hln:=hm.1.lens;have hpk:=hm.1.pick hl;have q2:∀H',Kp M H H'->RAt Z3 H' M q' p n (rgone n s (rpick s))->Q .non H':=q;clear q;show _;generalize hf:(Au.pick (T26 Z3) n s l).2=f
 have hf2:rpick s=f/\True:=⟨hf,trivial⟩
 clear hf;rw[hf2.1]at q2 hpk;clear hf2;ext;refine⟨Z3,dx,_,ho,T.Z8,T.Zs,_,Dt,Nd (SqL.of hh'.h1) ⟨_,rfl,?_⟩⟩
 by_cases hfa:f∈s.a
 . rw[if_pos (Fi hfa)]
   have e:rgone n s f=⟨s.a.erase f,s.b,rpush n s.p f,s.q,s.k,s.r⟩:=by unfold rgone;rw[if_pos hfa]
   rw[e]at q2;refine⟨dx,_,ho,by rfl,Z3,dx,_,ho,T.Z8,T.Zs,_,Dt,Z3,dx,_,ho,T.Z8,T.Zj,_,O9,?_⟩;refine⟨p,l1,l2,l3,l4,l1,rfl,l3,rfl,n,s,hh',s.a,hh'.h1,hfa,s.p,hh'.h3,hh'.d13,by omega,q2 _ (((Kp.of (A7.refl H)).upd (by rw[hM2.1];simp)).upd (by rw[hM2.1];simp)) ⟨l1,l2,l3,l4,hM2.1,?_⟩⟩;exact(hh'.setA (L:=s.a.erase f)).setP (L:=rpush n s.p f)
 . rw[if_neg (by simp[hfa])]
   have hfb:f∈s.b:=by
    rcases hpk with ⟨a,_⟩ | ⟨a,_⟩
    . exact absurd a hfa
    . exact a
   have e:rgone n s f=⟨s.a,s.b.erase f,s.p,rpush n s.q f,s.k,s.r⟩:=by unfold rgone;rw[if_neg hfa]
   rw[e]at q2;refine⟨dx,_,ho,by rfl,Z3,dx,_,ho,T.Z8,T.Zr,_,Dk,Z3,dx,_,ho,T.Z8,T.Zn,_,Qc,?_⟩;refine⟨p,l1,l2,l3,l4,l2,rfl,l4,rfl,n,s,hh',s.b,hh'.h2,hfb,s.q,hh'.h4,hh'.d24,by omega,q2 _ (((Kp.of (A7.refl H)).upd (by rw[hM2.1];simp)).upd (by rw[hM2.1];simp)) ⟨l1,l2,l3,l4,hM2.1,?_⟩⟩;exact(hh'.setB (L:=s.b.erase f)).setQ (L:=rpush n s.q f)
variable (Z4k:DefM P w K mg base CX0 3 Z3 "gone" ["self","name"] (C0 (T26 Z3)))
include T in
theorem Z9p(F:Fun K "came" "Rows.came" Z6b f fd):Al P w K mg base CX0 1 f fd ["self","name"] (C1 (T26 Z3)):=by
 have sc:A9 ["self","name"] ["self","name"] (A6 Z6b):=by ext:3
 ext:2
 . exact n8 h_ λ_ _ _ _ _ _ _ _=>rfl
 refine x8 h_ λq' p n M s l ns z e_=>y7 e_ λe0 hh hm hz hzl hns q=>?_;clear e_ h_;subst e0
 refine⟨_,(@A5 _ _ _ (Az (Bg (Ab (pv 0) rfl))
  (@A5 _ _ _ (Ak (Dh FA FR FQ Bq (Ab (pv 0) rfl) (A0 (pv 1) A3))))
  (@A5 _ _ _ (Ak (Dh FA FR FQ Bq (Ab (pv 0) rfl) (A0 (pv 1) A3)))))),?_⟩
 ext:4;obtain⟨l1,l2,l3,l4,hM,hh'⟩:RAt Z3 H M q' p n s:=hh;obtain⟨dx,ho⟩:=id hh'.o
 have hM2:M=[q',l1,l2,l3,l4]/\True:=⟨hM,trivial⟩
 clear hM;have hln:=hm.1.lens;have q2:∀H',Kp M H H'->RAt Z3 H' M q' p n (rcame s z)->Q .non H':=q;clear q;ext;refine⟨Z3,dx,_,ho,T.Z8,T.Z0a,_,Om,_,rfl,?_⟩
 cases hsr:s.r with
 | true=>
  have e:rcame s z=⟨s.a,s.b++[z],s.p,s.q,s.k,s.r⟩:=by unfold rcame;rw[if_pos hsr]
  rw[e]at q2;rw[if_pos rfl];have hset:=hh'.setB (L:=s.b++[z]);rw[Fo]at hset;exact⟨Z3,dx,_,ho,T.Z8,T.Zr,_,Dk,.inl ⟨rfl,_,SqL.of hh'.h2⟩,l2,_,_,rfl,rfl,hh'.h2,by rw[Fa];omega,q2 _ ((Kp.of (A7.refl H)).upd (by rw[hM2.1];simp)) ⟨l1,l2,l3,l4,hM2.1,hset⟩⟩
 | false=>
  have e:rcame s z=⟨s.a++[z],s.b,s.p,s.q,s.k,s.r⟩:=by unfold rcame;rw[if_neg (by rw[hsr];decide)]
  rw[e]at q2;rw[if_neg (by decide)];have hset:=hh'.setA (L:=s.a++[z]);rw[Fo]at hset;exact⟨Z3,dx,_,ho,T.Z8,T.Zs,_,Dt,.inl ⟨rfl,_,SqL.of hh'.h1⟩,l1,_,_,rfl,rfl,hh'.h1,by rw[Fa];omega,q2 _ ((Kp.of (A7.refl H)).upd (by rw[hM2.1];simp)) ⟨l1,l2,l3,l4,hM2.1,hset⟩⟩
variable (Z4l:DefM P w K mg base CX0 1 Z3 "came" ["self","name"] (C1 (T26 Z3)))
include T Zf in
theorem Z8d(F:Fun K "__init__" "Planned.__init__" Z4b f fd):Al P w K mg base CX0 6 f fd ["self","stock","places","stays"] (Kc Z2):=by
 have sc:A9 ["self","stock","places","stays"] ["self","stock","places","stays"] (A6 Z4b):=by ext:3
 ext:2
 . exact n6 h_ λ_ _ _ _ _ _=>rfl
 refine x6 h_ λq' dx p sd n kv e_=>y6 e_ λe0 hq h1 h2 hsd q=>?_;clear e_ h_;subst e0
 refine⟨_,(@A4 _ _ _ _ _ (Ak (E7 Zf hr (B4 Ae) (Dz (v:= .ref Zd) rfl T.Z6j rfl) (A0 (pv 0) (A0 (pv 1) (A0 (pv 2) A3)))))
  (@A5 _ _ _ (Bn (pv 0) (pv 3) rfl))),?_⟩
 ext:4;ext;refine⟨Z2,dx,hq,T.Zk,T.Z1u,T.Z1d,T.Z0h,T.Z17,h1,h2,λH1 la sb1 hla nlq0 hq1 hla1=>?_⟩
 have nsq:sd≠q':=λe=>by rw[e,hq]at hsd;cases hsd
 have hsd1:=sb1 _ _ hsd nsq
 have nlq:la≠q':=λe=>by rw[e,hq1]at hla1;cases hla1
 ext:1;refine⟨Z2,dx,_,hq1,T.Zk,T.Z1v,by rw[Tz];decide,?_⟩;ext;exact q _ la (λb o e nb=>by rw[A2 nb];exact sb1 _ _ e nb) hla ⟨la,sd,rfl,(λe=>by rw[e,hsd]at hla;cases hla),⟨dx,A1⟩,by rw[A2 nlq];exact hla1,by rw[A2 nsq];exact hsd1⟩
variable (Z2n:Os P w K mg base CX0 6 "Planned" Z2 ["self","stock","places","stays"] (Kc Z2))
include T in
theorem Z6i(F:Fun K "number_ask" "Ranked.number_ask" Z1g f fd):Al P w K mg base CX0 1 f fd ["self","name"] (G9 Z2):=by
 have sc:A9 ["self","name"] ["self","name"] (A6 Z1g):=by ext:3
 ext:2
 . exact n7 h_ λ_ _ _ _ _ _ _=>rfl
 refine x7 h_ λq' p n M s z kv e_=>y4 e_ λe0 hh hl q=>?_;clear e_ h_;subst e0
 refine⟨_,(@A4 _ _ _ _ _ (Gk (pv 0) A8 Pn)
  (@A5 _ _ _ (Cf (Bl hr) (Ab (pv 0) rfl) (pv 1) (Ab (pv 0) rfl) rfl))),?_⟩
 ext:4;obtain⟨la,sd,hM,nls,⟨dx,ho⟩,hla,hsd⟩:=hh
 have hM2:M=[q',la,sd]/\True:=⟨hM,trivial⟩
 clear hM
 have nsd:sd≠q':=λe=>by rw[e,ho]at hsd;cases hsd
 have nq1:q'≠la:=λe=>by rw[e,hla]at ho;cases ho
 ext;refine⟨Z2,dx,_,ho,T.Zk,T.Z0h,_,N43.Dj,s.k,rfl,dx,_,ho,by rw[N43.U2];decide,?_⟩;have ho1:upd H q' (.ins Z2 dx (N43.rf4 p n (s.k+1) la sd)) q'=some (.ins Z2 dx (N43.rf4 p n (s.k+1) la sd)):=A1
 have hla1:upd H q' (.ins Z2 dx (N43.rf4 p n (s.k+1) la sd)) la=some (.dK s.la):=by rw[A2 nq1.symm];exact hla
 have kp1:Kp M H (upd H q' (.ins Z2 dx (N43.rf4 p n (s.k+1) la sd))):=(Kp.of (A7.refl H)).upd (by rw[hM2.1];simp)
 have hsd1:upd H q' (.ins Z2 dx (N43.rf4 p n (s.k+1) la sd)) sd=some (.dK kv):=by rw[A2 nsd];exact hsd
 rename_i rest hrest;show rest _ (upd H q' (.ins Z2 dx (N43.rf4 p n (s.k+1) la sd)));generalize upd H q' (.ins Z2 dx (N43.rf4 p n (s.k+1) la sd))=H1 at ho1 hla1 kp1 hsd1 ⊢;have hlp:=Bf s.la (Sum.inr z:Key) (V.int (s.k+1));subst hrest;ext;exact⟨Z2,dx,_,ho1,T.Zk,T.Z0h,_,N43.Dj,Z2,dx,_,ho1,T.Zk,T.Z17,_,N43.L0,la,rfl,_,Eu.k (k:=Sum.inr z) hla1 (by omega),q _ (kp1.upd (by rw[hM2.1];simp)) ⟨la,sd,hM2.1,nls,⟨dx,by rw[A2 nq1];exact ho1⟩,A1,by rw[A2 nls.symm];exact hsd1⟩⟩
variable (Z0l:DefM P w K mg base CX0 1 Z2 "number_ask" ["self","name"] (G9 Z2))
include T Z0l in
theorem Z82(F:Fun K "asked" "Ranked.asked" Z3r f fd):Al P w K mg base CX0 3 f fd ["self","name"] (Kb Z2):=by
 have sc:A9 ["self","name"] ["self","name"] (A6 Z3r):=by ext:3
 ext:2
 . exact n9 h_ λ_ _ _ _ _ _ _ _ _=>rfl
 refine x9 h_ λkv q' p n M s l ns z e_=>y6 e_ λe0 hh hi hz hns q=>?_;clear e_ h_;subst e0;refine⟨_,(@A5 _ _ _ (Ak (B2 Z0l T.Zk hr (B4 Ae) (pv 0) (A0 (pv 1) A3)))),?_⟩;ext:4;have hh':PAt kv Z2 H M q' p n s:=hh;obtain⟨la,sd,hM,nls,⟨dx,ho⟩,hla,hsd⟩:=id hh';have hlen:=hi.a.len;ext;exact⟨dx,_,ho,by rfl,p,n,M,s,kv,hh',by omega,λH1 kp1 h1=>q H1 kp1 h1⟩
variable (Z24:DefM P w K mg base CX0 3 Z2 "asked" ["self","name"] (Kb Z2))
include T in
theorem Z7f(F:Fun K "last_of" "Ranked.last_of" Z2u f fd):Al P w K mg base CX0 1 f fd ["self","name"] (M6 Z2):=by
 have sc:A9 ["self","name"] ["self","name"] (A6 Z2u):=by ext:3
 ext:2
 . exact n8 h_ λ_ _ _ _ _ _ _ _=>rfl
 refine x8 h_ λq' p n M s z i kv e_=>y4 e_ λe0 hh hv q=>?_;clear e_ h_;subst e0;refine⟨_,(@A5 _ _ _ (@Ag _ _ _ _ (En (Bl hr) (Ab (pv 0) rfl) (pv 1) A8 ⟨rfl,rfl,rfl,rfl⟩))),?_⟩;ext:4;obtain⟨la,sd,hM,nls,⟨dx,ho⟩,hla,hsd⟩:=hh;clear hM;ext;exact⟨Z2,dx,_,ho,T.Zk,T.Z17,_,N43.L0,la,rfl,.inl ⟨_,.inl hla⟩,some (.int i),by rw[<- hv];exact Cp.k (k:=Sum.inr z) hla,q⟩
variable (Z14:DefM P w K mg base CX0 1 Z2 "last_of" ["self","name"] (M6 Z2))
include T Z14 in
theorem Z8e(F:Fun K "rank" "Planned.rank" Z0p f fd):Al P w K mg base CX0 2 f fd ["self","name"] (Ik Z2):=by
 have sc:A9 ["self","name"] ["self","name"] (A6 Z0p):=by ext:3
 ext:2
 . exact n8 h_ λ_ _ _ _ _ _ _ _=>rfl
 refine x8 h_ λq' p n M s z i kv e_=>y4 e_ λe0 hh hv q=>?_;clear e_ h_;subst e0;refine⟨_,(@A5 _ _ _ (@Ag _ _ _ _ (Cj (A0 (J2d (Pf (Nx (Bl hr) (B2 Z14 T.Zk hr (B4 Ae) (pv 0) (A0 (pv 1) A3)) (Ab (pv 0) rfl))) A8 A8) A3)))),?_⟩;ext:4;obtain⟨la,sd,hM,nls,⟨dx,ho⟩,hla,hsd⟩:=id hh;clear hM;ext;refine⟨dx,_,ho,by rfl,p,n,M,s,i,kv,hh,hv,Z2,dx,_,ho,T.Zk,T.Z1v,_,N43.J2b,sd,rfl,_,Cp.k (k:=Sum.inl i) hsd,?_⟩;unfold stB at q;split
 . rename_i hb
   rw[if_pos hb]at q;exact⟨by omega,q⟩
 . rename_i hb
   rw[if_neg hb]at q;exact⟨by omega,q⟩
variable (Z2o:Q9 P w K mg base 2 Z2 "rank" ["self","name"] (Ik Z2))
include T Z2o in
theorem Z7n(F:Fun K "choice" "Ranked.choice" Z3e f fd):Al P w K mg base CX0 4 f fd ["self","lying"] (G8 Z2 K):=by
 have sc:A9 ["self","lying"] ["self","lying"] (A6 Z3e):=by ext:3
 refine F.ok sc (λvs H Q E h=>?_) (λcdv A outer s H vs Q E hr h=>?_)
 . obtain⟨_,_,_,_,_,_,_,_,_,_,_,rfl,_⟩:=h;rfl
 obtain⟨kv,hkv,q',p,a,n,M,s,l,ns,z,rfl,hh,hm,hl,ha,ham,hns,hll,hcn,q⟩:=h;refine⟨_,(@A5 _ _ _ (@Ag _ _ _ _ (Nj Z2o T.Zk hr rfl T.Z52 (by first | rfl | decide+kernel) (A0 (pv 1) A3) (pv 0) rfl))),?_⟩;ext:4;have hh':PAt kv Z2 H M q' p n s:=hh;obtain⟨la,sd,hM,nls,⟨dx,ho⟩,hla,hsd⟩:=id hh';clear hM;have hm':LM ns z s l:=hm;have q2:∀H',Kp M H H'->PAt kv Z2 H' M q' p n s->Q (.str (lmin (rk4 kv s) l)) H':=q;clear q hm;ext;refine⟨dx,_,ho,by rfl,l.map V.str,SqL.of ha,by simpa using hl,λi=>[rk4 kv s (l.getD i Str.empty)],λi v hv H1 sm1=>?_,λv H1 sm1 hv=>?_⟩
 . rw[Fe]at hv
   cases hz:l[i]? with
   | none=>rw[hz]at hv;cases hv
   | some u=>
   rw[hz]at hv;cases hv;obtain⟨j,hj,_⟩:=hm'.i.v u (Ff hz);refine⟨p,n,M,s,u,rfl,j,kv,(N43.T4 kv Z2).dep (λm _ o=>sm1 m o) hh',hj,λt ht=>⟨A7.new ht,?_⟩⟩;rw[A1];show _=some (HO.tup [V.int (rk4 kv s (l.getD i Str.empty))]);rw[Fc,hz];show _=some (HO.tup [V.int (rk4 kv s u)]);unfold rk4;rw[Nk hj]
 . rw[J64,Fa,Fe]at hv
   have hb:=Tq (λi=>rk4 kv s (l.getD i Str.empty)) (l.length - 1);have hl0:0 < l.length:=Hu.mpr hl
   have hlt:argBest (λi j=>decide (rk4 kv s (l.getD i Str.empty) < rk4 kv s (l.getD j Str.empty))) (l.length - 1) < l.length:=by omega
   have e:v=V.str (lmin (rk4 kv s) l):=by
    unfold lmin;rw[Fc,Fb hlt];rw[Fb hlt]at hv;exact(FG hv).symm
   rw[e];exact q2 _ (Kp.of sm1) ((N43.T4 kv Z2).dep (λm _ o=>sm1 m o) hh')
variable (Z1m:DefM P w K mg base CX0 4 Z2 "choice" ["self","lying"] (G8 Z2 K))
include T in
theorem Z8f(F:Fun K "gone" "Rule.gone" Z4c f fd):Al P w K mg base CX0 3 f fd ["self","name"] (M4 Z2):=by
 have sc:A9 ["self","name"] ["self","name"] (A6 Z4c):=by ext:3
 ext:2
 . exact n9 h_ λ_ _ _ _ _ _ _ _ _=>rfl
 refine x9 h_ λkv q' p n M s l ns z e_=>y6 e_ λe0 hh hm hl hns q=>?_;clear e_ h_;subst e0;refine⟨_,(@A5 _ _ _ E1),?_⟩;walk_at "su";ext;exact q _ (Kp.of (A7.refl _)) hh
variable (Z2p:DefM P w K mg base CX0 3 Z2 "gone" ["self","name"] (M4 Z2))
include T in
theorem Z8g(F:Fun K "came" "Rule.came" Z4d f fd):Al P w K mg base CX0 1 f fd ["self","name"] (M5 Z2):=by
 have sc:A9 ["self","name"] ["self","name"] (A6 Z4d):=by ext:3
 ext:2
 . exact n9 h_ λ_ _ _ _ _ _ _ _ _=>rfl
 refine x9 h_ λkv q' p n M s l ns z e_=>y7 e_ λe0 hh hm hz hzl hns q=>?_;clear e_ h_;subst e0;refine⟨_,(@A5 _ _ _ E1),?_⟩;walk_at "su";ext;exact q _ (Kp.of (A7.refl _)) hh
variable (Z2q:DefM P w K mg base CX0 1 Z2 "came" ["self","name"] (M5 Z2))
include T Zy Z2y Z1y Z1j Z13 Z2m Z34 Z35 Z1m Z3u Z31 Z2k Z22 Z40 Z4i Z4k Z2p in
theorem Z9q(F:Fun K "make_room" "make_room" Z6c f fd):Al P w K mg base CX0 5 f fd ["rule","shelf","room"] (Ih (T7 (C7.mk Z4 Z1 Z0 Z5 Z6 Z3 Z2)) K Z7 Z9):=by
 have sc:A9 ["rule","shelf","room","went","name"] ["rule","shelf","room"] (A6 Z6c):=by ext:3
 ext:2
 . (dsimp only[Ih,Kx]at h_;exact x1 h_ λ_ h_=>n12 h_ λ_ _ _ _ _ _ _ _ _ _ _ _=>rfl)
 dsimp only[Ih,Kx]at h_;refine x1 h_ λw8 h_=>x12 h_ λH0 q' p sh d M n need ts ls s z e_=>y8 e_ λe0 hr' hm hn hll htl hcn q=>?_;clear e_ h_;clear h_;subst e0
 refine⟨_,(@A4 _ _ _ _ _ (Aq (i:=3) sc.nd rfl (Or.inl rfl) (@Ck _ _ _ _ A3))
  (@A4 _ _ _ _ _ (Kn PassesOwn.never (Ah Ml (Gr Zy T.Zi hr (B4 Ae) (pv 1)) (pv 2) (nomark _))
   (@A4 _ _ _ _ _ (Aq (i:=4) sc.nd rfl (Or.inl rfl) (Nm (C:=λw=>(T7 (C7.mk Z4 Z1 Z0 Z5 Z6 Z3 Z2) w).C) (sp:=λw=>Bh (T7 (C7.mk Z4 Z1 Z0 Z5 Z6 Z3 Z2) w) K) (λw=>by cases w;exact Z1y;exact Z1j;exact(Z13.imp (λ_ _ _ _ h=>⟨_,by assumption,h⟩));exact Z2m;exact Z34;exact Z35;exact(Z1m.imp (λ_ _ _ _ h=>⟨_,by assumption,h⟩))) (λw=>by cases w;exact T.Z05;exact T.Zb;exact T.Zc;exact T.Z03;exact T.Zv;exact T.Z8;exact T.Zk) hr (B4 Ae) (pv 0) (A0 (Gr Z2y T.Zi hr (B4 Ae) (pv 1)) A3)))
   (@A4 _ _ _ _ _ (Ak (B2 Z3u T.Zi hr (B4 Ae) (pv 1) (A0 (pv 4) A3)))
   (@A4 _ _ _ _ _ (Ak (Nm (C:=λw=>(T7 (C7.mk Z4 Z1 Z0 Z5 Z6 Z3 Z2) w).C) (sp:=λw=>C0 (T7 (C7.mk Z4 Z1 Z0 Z5 Z6 Z3 Z2) w)) (λw=>by cases w;exact Z31;exact Z2k;exact(Z22.imp (λ_ _ _ _ h=>⟨_,h⟩));exact Z40;exact Z4i;exact Z4k;exact(Z2p.imp (λ_ _ _ _ h=>⟨_,h⟩))) (λw=>by cases w;exact T.Z05;exact T.Zb;exact T.Zc;exact T.Z03;exact T.Zv;exact T.Z8;exact T.Zk) hr (B4 Ae) (pv 0) (A0 (pv 4) A3)))
   (@A5 _ _ _ (Ak (Dh FA FR FQ Bq (pv 3) (A0 (pv 4) A3))))))))
  (@A5 _ _ _ (@Ag _ _ _ _ (pv 3))))),?_⟩
 ext:4;ext;intro w hw;have kp0:Kp (d::M) H (upd H w (.lst [])):=Kp.of (A7.new hw);have hr0:=hr'.same (A7.new (o:= .lst []) hw);have hww:upd H w (.lst []) w=some (.lst []):=A1;have nw:=hr'.free hw;have nw0:H0 w=none:=Ar hr'.sm hw;have nwm:w∉M:=λh=>nw (Fh _ h);have nwd:w≠d:=λh=>nw (by rw[h];simp);generalize upd H w (.lst [])=H1 at kp0 hr0 hww ⊢;ext:1;rename_i rest hrest;refine Yb (m0:=ls.length) (λm σ H5=>∃(ls':Ly) (s':((T7 (C7.mk Z4 Z1 Z0 Z5 Z6 Z3 Z2) w8)).St) (wl:List Str) (v4:Option V),σ=[some (V.ref q'),some (V.ref sh),some (V.int need),some (V.ref w),v4]/\Kp (d::M) H H5/\H5 w=some (.lst (wl.map V.str))/\Eb (T7 (C7.mk Z4 Z1 Z0 Z5 Z6 Z3 Z2) w8) K Z7 Z9 H0 H5 q' p sh d M n ts ls' s'/\((T7 (C7.mk Z4 Z1 Z0 Z5 Z6 Z3 Z2) w8)).mid (ts.map (·.1)) n z s' (lyN ls')/\gf (T7 (C7.mk Z4 Z1 Z0 Z5 Z6 Z3 Z2) w8) (rm ts) n need s (lyN ls) []=gf (T7 (C7.mk Z4 Z1 Z0 Z5 Z6 Z3 Z2) w8) (rm ts) n need s' (lyN ls') wl/\wl.length+ls'.length<=60/\((T7 (C7.mk Z4 Z1 Z0 Z5 Z6 Z3 Z2) w8)).cnt s'<=300/\m=ls'.length) ⟨ls,s,[],none,rfl,kp0,hww,hr0,hm,rfl,by simpa using hll,hcn,rfl⟩ ?_
 clear hr' hr0 hww kp0 hm;rintro m' σ H5 ⟨ls',s',wl,v4,rfl,kp5,hw5,hr5,hm5,hf5,hl5,hcn5,rfl⟩;have hleft:=hr5.left;obtain⟨⟨dx,ho⟩,hd,hnd⟩:=id hr5.shf;ext;refine⟨dx,_,ho,by rfl,_,_,_,_,hr5.shf,λH6 sm6=>?_⟩;have hr6:=hr5.same sm6;have hw6:=sm6 _ _ hw5;have kp6:=kp5.trans (Kp.of sm6)
 by_cases hlt:need<=n - N41.sm (rm ts) (lyN ls')
 . rw[if_neg (by rw[hleft];omega)]
   have e1:gf (T7 (C7.mk Z4 Z1 Z0 Z5 Z6 Z3 Z2) w8) (rm ts) n need s (lyN ls) []=(s',lyN ls',wl)/\True:=⟨hf5.trans (Mh hlt),trivial⟩
   clear hf5;subst hrest;ext;exact q w ls' H6 kp6 hw (by rw[e1.1];exact hw6) (by rw[e1.1]) (by rw[e1.1];exact hr6)
 . rw[if_pos (by rw[hleft];omega)]
   clear hrest;refine⟨_,λσ' H7 h=>h,?_⟩;have hLne:lyN ls'≠[]:=λe=>hlt (by rw[e,N41.O3];omega);obtain⟨⟨dx6,ho6⟩,hd6,hnd6⟩:=id hr6.shf;obtain⟨dq,fs,hoq,o1,o2,o3,hec,o4⟩:=Au.obj _ hr6.h;clear hleft ho hd hnd hr5 hw5 kp5 sm6;ext;refine⟨w8,dq,_,hoq,hec,dx6,_,ho6,by rfl,_,_,_,_,hr6.shf,λl hl=>?_⟩;have sml:A7 H6 (upd H6 l (.lst ((lyN ls').map V.str))):=A7.new hl;have hl7:upd H6 l (.lst ((lyN ls').map V.str)) l=some (.lst ((lyN ls').map V.str)):=A1;have nl:=hr6.free hl;have hr7:=hr6.same sml;have hw7:=sml _ _ hw6;have kp7:=kp6.trans (Kp.of sml);generalize upd H6 l (.lst ((lyN ls').map V.str))=H7 at hr7 hw7 kp7 hl7 ⊢;clear hr6 hw6 kp6 hoq ho6 hd6 hnd6 sml hl hec;obtain⟨hf,hm8⟩:=Au.i_pick _ hm5 hLne;have hcn6:=FO (FO (Au.c_gone (T7 (C7.mk Z4 Z1 Z0 Z5 Z6 Z3 Z2) w8) n (Au.pick _ n s' (lyN ls')).1 (Au.pick _ n s' (lyN ls')).2) (Au.c_pick (T7 (C7.mk Z4 Z1 Z0 Z5 Z6 Z3 Z2) w8) n s' (lyN ls'))) hcn5
   have hlen:(lyN ls').length<=60:=by unfold lyN;rw[Fa];omega
   refine⟨p,n,M,s',hr7.h,lyN ls',ts.map (·.1),z,hm5,hLne,hl7,λh=>nl (Fh _ h),by rw[Fa];exact htl,hlen,hcn5,λH8 kp8 hh8=>?_⟩;have hr8:=hr7.rule kp8 hh8;have hw8:=kp8 _ _ nwm hw7;have kp08:=kp7.trans (Nh (d:=d) kp8)
   have hfin':gf (T7 (C7.mk Z4 Z1 Z0 Z5 Z6 Z3 Z2) w8) (rm ts) n need s (lyN ls) []=gf (T7 (C7.mk Z4 Z1 Z0 Z5 Z6 Z3 Z2) w8) (rm ts) n need (Au.gone _ n (Au.pick _ n s' (lyN ls')).1 (Au.pick _ n s' (lyN ls')).2) ((lyN ls').erase (Au.pick _ n s' (lyN ls')).2) (wl++[(Au.pick _ n s' (lyN ls')).2])/\True:=⟨hf5.trans (J0k hlt hf),trivial⟩
   clear hf5 hr7 hw7 kp7 kp8 hh8 hl7;obtain⟨⟨dx8,ho8⟩,hd8,hnd8⟩:=id hr8.shf;ext:1;refine⟨dx8,_,ho8,by rfl,_,_,_,_,hr8.shf,hf,λH9 sb9 hs9=>?_⟩;have hr9:=hr8.shelf sb9 hs9 hr8.ok.drop;have hw9:=sb9 _ _ hw8 nwd;obtain⟨dq9,fs9,hoq9,o5,o6,o7,o8,heg,o9⟩:=Au.obj _ hr9.h;have hnames:=O5 (z:=(Au.pick _ n s' (lyN ls')).2) hr8.ok.nd;ext:1;refine⟨w8,dq9,_,hoq9,heg,p,n,M,s',lyN ls',rfl,hr9.h,ts.map (·.1),z,hm5,hLne,by rw[Fa];exact htl,λH10 kp10 hh10=>?_⟩;have hr10:=hr9.rule kp10 hh10;have hw10:=kp10 _ _ nwm hw9;have kp010:Kp (d::M) H H10:=(kp08.trans (Sn sb9 (by simp))).trans (Nh kp10);clear hr8 hs9 hh10 sb9 kp10 hw8 hw9 kp08 hd8 hnd8 ho8 hoq9 hr9 heg;have hel:=FT hf;have hlp:0 < (lyN ls').length:=FU hf
   have hll5:(lyN ls').length=ls'.length/\True:=⟨by unfold lyN;rw[Fa],trivial⟩
   have hll6:(lyD ls' (Au.pick _ n s' (lyN ls')).2).length+1<=ls'.length:=by
    have e:(lyN (lyD ls' (Au.pick _ n s' (lyN ls')).2)).length=(lyD ls' (Au.pick _ n s' (lyN ls')).2).length:=by unfold lyN;rw[Fa]
    rw[hnames]at e;omega
   rw[<- hnames]at hm8 hfin';ext:1;generalize hfe:(Au.pick _ n s' (lyN ls')).2=f at hf hm8 hfin' hnames hel hr10 hll6 hcn6 ⊢
   have hwl:(wl++[f]).length=wl.length+1:=by rw[Fl];rfl
   refine⟨.inl ⟨rfl,_,SqL.of hw10⟩,w,_,_,rfl,rfl,hw10,by rw[Fa];omega,(lyD ls' f).length,by omega,J5t kp010 hw,lyD ls' f,_,wl++[f],by rw[A1,Fo];rfl,hr10.lst (λb o e nb=>by rw[A2 nb];exact e) hw10 nwm nw0,hm8,hfin'.1,by omega,hcn6,rfl⟩
variable (Z4m:Def P w K mg base CX0 5 "make_room" ["rule","shelf","room"] (Ih (T7 (C7.mk Z4 Z1 Z0 Z5 Z6 Z3 Z2)) K Z7 Z9))
include T Z2i Z20 Z1k Z33 Z42 Z43 Z24 Zt Ze Z4m Z4f Z32 Z2l Z23 Z41 Z4j Z4l Z2q in
theorem Zap(F:Fun K "row_of" "row_of" Z7o f fd):Al P w K mg base CX0 7 f fd ["rule","shelf","name"] (Lv (T7 (C7.mk Z4 Z1 Z0 Z5 Z6 Z3 Z2)) K Z7 Z9):=by
 have sc:A9 ["rule","shelf","name","went"] ["rule","shelf","name"] (A6 Z7o):=by ext:3
 ext:2
 . (dsimp only[Lv,Ni]at h_;exact x1 h_ λ_ h_=>n11 h_ λ_ _ _ _ _ _ _ _ _ _ _=>rfl)
 dsimp only[Lv,Ni]at h_;refine x1 h_ λw8 h_=>x11 h_ λH0 q' p sh d M n ts ls s z e_=>y9 e_ λe0 hr' hi nd htl hz hzn hcn q=>?_;clear e_ h_;clear h_;subst e0
 refine⟨_,(@A4 _ _ _ _ _ (Ak (Nm (C:=λw=>(T7 (C7.mk Z4 Z1 Z0 Z5 Z6 Z3 Z2) w).C) (sp:=λw=>Br (T7 (C7.mk Z4 Z1 Z0 Z5 Z6 Z3 Z2) w)) (λw=>by cases w;exact Z2i;exact Z20;exact(Z1k.imp (λ_ _ _ _ h=>⟨_,h⟩));exact Z33;exact Z42;exact Z43;exact(Z24.imp (λ_ _ _ _ h=>⟨_,h⟩))) (λw=>by cases w;exact T.Z05;exact T.Zb;exact T.Zc;exact T.Z03;exact T.Zv;exact T.Z8;exact T.Zk) hr (B4 Ae) (pv 0) (A0 (pv 2) A3)))
  (@A4 _ _ _ _ _ (Az (Bg (B2 Zt T.Zi hr (B4 Ae) (pv 1) (A0 (pv 2) A3)))
   (@A5 _ _ _ (@Ag _ _ _ _ (Cj (A0 (pv 2) (A0 Dl (A0 (@Ck _ _ _ _ A3) A3))))))
   An)
  (@A4 _ _ _ _ _ (Aq (i:=3) sc.nd rfl (Or.inl rfl) (Ad Z4m hr rfl Ae (A0 (pv 0) (A0 (pv 1) (A0 (B2 Ze T.Zw hr (B4 Ae) (Ab (pv 1) rfl) (A0 (pv 2) A3)) A3)))))
  (@A4 _ _ _ _ _ (Ak (B2 Z4f T.Zi hr (B4 Ae) (pv 1) (A0 (pv 2) A3)))
  (@A4 _ _ _ _ _ (Ak (Nm (C:=λw=>(T7 (C7.mk Z4 Z1 Z0 Z5 Z6 Z3 Z2) w).C) (sp:=λw=>C1 (T7 (C7.mk Z4 Z1 Z0 Z5 Z6 Z3 Z2) w)) (λw=>by cases w;exact Z32;exact Z2l;exact(Z23.imp (λ_ _ _ _ h=>⟨_,h⟩));exact Z41;exact Z4j;exact Z4l;exact(Z2q.imp (λ_ _ _ _ h=>⟨_,h⟩))) (λw=>by cases w;exact T.Z05;exact T.Zb;exact T.Zc;exact T.Z03;exact T.Zv;exact T.Z8;exact T.Zk) hr (B4 Ae) (pv 0) (A0 (pv 2) A3)))
  (@A5 _ _ _ (@Ag _ _ _ _ (Cj (A0 (pv 2) (A0 Dl (A0 (pv 3) A3))))))))))),?_⟩
 ext:4;obtain⟨dq,fs,hoq,o1,o2,hea,o3⟩:=Au.obj _ hr'.h;ext;refine⟨w8,dq,_,hoq,hea,p,n,M,s,hr'.h,lyN ls,ts.map (·.1),hi,hz,by rw[Fa];exact htl,λH1 kp1 hh1=>?_⟩;have hr1:=hr'.rule kp1 hh1;obtain⟨⟨dx,ho⟩,hd,hnd⟩:=id hr1.shf;have fresh:∀b,H1 b=none->H b=none:=λb e=>P8 kp1 (λhm=>hr1.free e (Fh _ hm)) e
 have hlsl:(lyN ls).length<=60:=by
  have:=N25.Mg hr1.ok.nd hr1.ok.s;rw[Fa]at this;omega
 clear hoq hea;ext:1;refine⟨dx,_,ho,by rfl,_,_,_,_,hr1.shf,?_⟩
 by_cases hzL:z∈lyN ls
 . have e:gask (T7 (C7.mk Z4 Z1 Z0 Z5 Z6 Z3 Z2) w8) (rm ts) n (s,lyN ls) z=((Au.asked _ n s z,lyN ls),(z,true,[])):=by unfold gask;rw[if_pos hzL]
   rw[if_pos hzL];rw[e]at q;refine⟨by omega,λg hg=>⟨by omega,λt ht=>?_⟩⟩;have s1:A7 H1 (upd H1 g (.lst [])):=A7.new hg;have k1:upd H1 g (.lst []) g=some (.lst (([]:List Str).map V.str)):=A1;generalize upd H1 g (.lst [])=H2 at s1 k1 ht ⊢;have s2:A7 H2 (upd H2 t (.tup [V.str z,V.bl true,V.ref g])):=A7.new ht;exact q t g ls _ (Nh (kp1.trans (Kp.of (s1.trans s2)))) (fresh t (Ar s1 ht)) (fresh g hg) A1 (s2 _ _ k1) rfl (hr1.same (s1.trans s2))
 rw[if_neg hzL]
 have eh:gask (T7 (C7.mk Z4 Z1 Z0 Z5 Z6 Z3 Z2) w8) (rm ts) n (s,lyN ls) z=((Au.came _ n (gf (T7 (C7.mk Z4 Z1 Z0 Z5 Z6 Z3 Z2) w8) (rm ts) n (rm ts z) (Au.asked _ n s z) (lyN ls) []).1 z,(gf (T7 (C7.mk Z4 Z1 Z0 Z5 Z6 Z3 Z2) w8) (rm ts) n (rm ts z) (Au.asked _ n s z) (lyN ls) []).2.1++[z]),(z,false,(gf (T7 (C7.mk Z4 Z1 Z0 Z5 Z6 Z3 Z2) w8) (rm ts) n (rm ts z) (Au.asked _ n s z) (lyN ls) []).2.2)):=by unfold gask;rw[if_neg hzL]
 rw[eh]at q;clear eh;have hm1:=Au.i_mid _ hi hz hzL;obtain⟨hI,hne,hsub,hnd2,hwl⟩:=J5u (R:=rm ts) (n:=n) (need:=rm ts z) _ _ _ [] rfl hm1 hzn;obtain⟨dy,e,kvs,h1,h2,h3,h4,h5⟩:=Av.has hr1.x.at;ext:1;refine⟨Z9,dx,_,ho,T.Zi,T.Z1n,_,Sk,_,rfl,dy,flds e,h1,by rfl,_,rfl,ts,hr1.x.at,nd,hz,w8,H0,p,d,M,n,ts,ls,_,hr1,z,hm1,hzn,by unfold lyN at hlsl;rw[Fa]at hlsl;exact hlsl,htl,FO (Au.c_ask (T7 (C7.mk Z4 Z1 Z0 Z5 Z6 Z3 Z2) w8) n s z) (by omega),λg ls2 H2 kp2 hg hg2 hln2 hr2=>?_⟩;obtain⟨⟨dx2,ho2⟩,hd2,hnd2'⟩:=id hr2.shf;have kp02:Kp (d::M) H H2:=(Nh kp1).trans kp2;have ngo:=hr1.free hg;have ngd:g≠d:=λh=>ngo (by rw[h];simp);have ngm:g∉M:=λh=>ngo (Fh _ h);have hnl:z∉lyN ls2:=λh=>hzL (hsub z (by rw[<- hln2];exact h))
 have hlen2:ls2.length<=60:=by
  have e1:(lyN ls2).length=ls2.length:=by unfold lyN;rw[Fa]
  rw[hln2]at e1;omega
 have hleft2:=hr2.left;rw[hln2]at hleft2;generalize gf (T7 (C7.mk Z4 Z1 Z0 Z5 Z6 Z3 Z2) w8) (rm ts) n (rm ts z) (Au.asked _ n s z) (lyN ls) []=F at hr2 hg2 q hne hI hleft2 hln2;obtain⟨s2,l2,w2⟩:=F;simp only at hr2 hg2 q hne hI hleft2 hln2;clear hr1 hh1 kp1 h1 h2 h3 h4 h5 ho hd hnd hsub hnd2 hwl;ext:1;refine⟨dx2,_,ho2,by rfl,_,_,_,_,hr2.shf,ts,hr2.x,nd,by omega,hz,rm ts z,λt ht e=>?_,hnl,by omega,λH3 sb3 hs3=>?_⟩
 . obtain⟨i,hi'⟩:=List.getElem?_of_mem ht
   rw[<- e,J0e nd hi']
 have hr3:=hr2.shelf sb3 hs3 (hr2.ok.put hnl hz);obtain⟨dq3,fs3,hoq3,o4,o5,o6,o7,o8,hec,o9⟩:=Au.obj _ hr3.h;have hg3:=sb3 _ _ hg2 ngd
 have hl3:lyN (ls2++[(z,rm ts z)])=l2++[z]/\True:=⟨by unfold lyN at hln2 ⊢;rw[Fo,hln2];rfl,trivial⟩
 rw[hln2]at hnl;ext:1;refine⟨w8,dq3,_,hoq3,hec,p,n,M,s2,hr3.h,l2,ts.map (·.1),hI,hz,hnl,by rw[Fa];exact htl,λH4 kp4 hh4=>?_⟩;have hr4:=hr3.rule kp4 hh4;have hg4:=kp4 _ _ ngm hg3;have kp04:Kp (d::M) H H4:=(kp02.trans (Sn sb3 (by simp))).trans (Nh kp4);ext:1;intro t ht;exact q t g _ _ (kp04.trans (Kp.of (A7.new ht))) (P8 kp04 (hr4.free ht) ht) (fresh g hg) A1 (A7.new ht _ _ hg4) hl3.1 (hr4.same (A7.new ht))
variable (Z6s:Def P w K mg base CX0 7 "row_of" ["rule","shelf","name"] (Lv (T7 (C7.mk Z4 Z1 Z0 Z5 Z6 Z3 Z2)) K Z7 Z9))
include T Z01 Z3t Z6s in
theorem Zaf(F:Fun K "book_of" "book_of" Z76 f fd):Al P w K mg base CX0 8 f fd ["rule","asks"] (Dy (T7 (C7.mk Z4 Z1 Z0 Z5 Z6 Z3 Z2)) K Z7 Z9):=by
 have sc:A9 ["rule","asks","shelf"] ["rule","asks"] (A6 Z76):=by ext:3
 ext:2
 . (dsimp only[Dy,Ib]at h_;exact x1 h_ λ_ h_=>n9 h_ λ_ _ _ _ _ _ _ _ _=>rfl)
 dsimp only[Dy,Ib]at h_;refine x1 h_ λw8 h_=>x9 h_ λH0 q' p a M n ts ys s0 e_=>y17 e_ λe0 hh hi0 hsto sm0 hm0 nd htl ha ham hlen hin hrm hn1 hn2 hcn q=>?_;clear e_ h_;clear h_;subst e0
 refine⟨_,(@A4 _ _ _ _ _ (Ak (Ad Z01 hr rfl Ae (A0 (Ab (pv 0) rfl) (A0 (pv 1) (A0 (Ab (pv 0) rfl) A3)))))
  (@A4 _ _ _ _ _ (Aq (i:=2) sc.nd rfl (Or.inr rfl) (Dq Z3t hr rfl (B4 Ae) (A0 (Ab (pv 0) rfl) (A0 (Ab (pv 0) rfl) A3))))
  (@A5 _ _ _ (@Ag _ _ _ _ (Gp "name" [0,2] rfl rfl (Cs (pv 1)) (λb=>(Ad Z6s hr rfl Ae (A0 (pv 1) (A0 (pv 2) (A0 (pv 0) A3)))))))))),?_⟩
 ext:4
 have hcl:∀w,Cls K (T7 (C7.mk Z4 Z1 Z0 Z5 Z6 Z3 Z2) w).C:=λw=>by cases w;exact T.Z05;exact T.Zb;exact T.Zc;exact T.Z03;exact T.Zv;exact T.Z8;exact T.Zk
 have hns:∀w,Am K (T7 (C7.mk Z4 Z1 Z0 Z5 Z6 Z3 Z2) w).C "stock":=λw=>by cases w;exact T.Z2c;exact T.Z1t;exact T.Z1c;exact T.Z2v;exact T.Z3g;exact T.Z3h;exact T.Z1u
 have hnp:∀w,Am K (T7 (C7.mk Z4 Z1 Z0 Z5 Z6 Z3 Z2) w).C "places":=λw=>by cases w;exact T.Z1s;exact T.Z1b;exact T.Z11;exact T.Z2e;exact T.Z2w;exact T.Z0t;exact T.Z1d
 obtain⟨dq,fs,hoq,hst_,hpl_,o1⟩:=Au.obj _ hh;ext;refine⟨_,dq,_,hoq,hcl w8,hns w8,_,hst_,_,dq,_,hoq,hcl w8,hnp w8,_,hpl_,p,rfl,n,rfl,ts,hsto.same sm0,nd,ys,ha,hlen,hin,hrm,hn1,hn2,λH1 sm1=>?_⟩;have hh1:=Tv sm1 hh;have ha1:=sm1.seq ha;obtain⟨dq1,fs1,hoq1,hst1,hpl1,o2⟩:=Au.obj _ hh1;clear hoq hst_ hpl_;ext:1;refine⟨_,dq1,_,hoq1,hcl w8,hns w8,_,hst1,_,dq1,_,hoq1,hcl w8,hnp w8,_,hpl1,λsh dx hsh hdx hne=>⟨dx,p,rfl,n,rfl,A1,hn1,hn2,λH2 d sb hdn hs2=>?_⟩⟩;have sm2:=J5p hsh hdx sb;have hd0:=Ce hdn;have hd1:H0 d=none:=Ar (sm0.trans sm1) hd0;have nsh:sh∉M:=λh=>Au.live _ hh1 _ h hsh;have ndm:d∉M:=λh=>Au.live _ hh1 _ h hd0
 have hr2:Eb (T7 (C7.mk Z4 Z1 Z0 Z5 Z6 Z3 Z2) w8) K Z7 Z9 H0 H2 q' p sh d M n ts [] s0:=⟨Tv sm2 hh1,hs2,hsto,(sm0.trans sm1).trans sm2,hm0,hd1,nsh,ndm,OkL.nil⟩
 have ha2:=sm2.seq ha1;clear hdn sb hdx hsh hne hh1 hoq1 hs2 hst1 hpl1;ext:1;refine⟨⟨_,ha2⟩,?_⟩
 have kpM:∀{H':Hp},Kp (d::M) H2 H'->Kp M H1 H':=λ{H'} k b o nb e=>k b o (λhm=>by
  rcases Ft.mp hm with e1 | e1
  . rw[e1,hd0]at e;cases e
  . exact nb e1) (sm2 _ _ e)
 refine La ys.length λb D hD=>⟨λi zs H'=>∃(as gs:List Addr) (ls':Ly),zs=as.map V.ref/\as.length=i/\gs.length=i/\i<=ys.length/\H' D=some (.lst zs)/\Kp (d::M) H2 H'/\lyN ls'=(gst (T7 (C7.mk Z4 Z1 Z0 Z5 Z6 Z3 Z2) w8) (rm ts) n s0 ys i).2/\Eb (T7 (C7.mk Z4 Z1 Z0 Z5 Z6 Z3 Z2) w8) K Z7 Z9 H0 H' q' p sh d M n ts ls' (gst (T7 (C7.mk Z4 Z1 Z0 Z5 Z6 Z3 Z2) w8) (rm ts) n s0 ys i).1/\gs.Nodup/\∀(j:Nat) a g,as[j]?=some a->gs[j]?=some g->a∉d::M/\g∉d::M/\a≠D/\g≠D/\H' a=some (.tup [.str (NR.grow (T7 (C7.mk Z4 Z1 Z0 Z5 Z6 Z3 Z2) w8) (rm ts) n s0 ys j).1,.bl (NR.grow (T7 (C7.mk Z4 Z1 Z0 Z5 Z6 Z3 Z2) w8) (rm ts) n s0 ys j).2.1,.ref g])/\H' g=some (.lst ((NR.grow (T7 (C7.mk Z4 Z1 Z0 Z5 Z6 Z3 Z2) w8) (rm ts) n s0 ys j).2.2.map V.str))/\H1 a=none/\H1 g=none,⟨[],[],[],rfl,rfl,rfl,FM _,A1,Kp.of (A7.new hD),rfl,hr2.same (A7.new hD),HZ,by simp⟩,?_,?_,?_⟩
 . rintro i zs H' ⟨as,gs,ls',_,_,_,_,h,_⟩
   exact h
 . rintro zs H' ⟨as,gs,ls',rfl,e1,e2,_,hDD,kp,hln,hr3,hnd,hall⟩
   have ha3:=J5z ha1 (kpM kp) ham;refine⟨⟨_,ha3,by rw[Fa];exact Fg _⟩,?_⟩;have hrl:=Ej (T:=(T7 (C7.mk Z4 Z1 Z0 Z5 Z6 Z3 Z2) w8)) (R:=rm ts) (n:=n) (s0:=s0) (ys:=ys) (i:=ys.length)
   have hra:∀j,j < ys.length->(grows (T7 (C7.mk Z4 Z1 Z0 Z5 Z6 Z3 Z2) w8) (rm ts) n s0 ys ys.length)[j]?=some (NR.grow (T7 (C7.mk Z4 Z1 Z0 Z5 Z6 Z3 Z2) w8) (rm ts) n s0 ys j):=λj hj=>by unfold grows;rw[Fe,FS hj];rfl
   refine q D as gs H' ((Kp.of sm1).trans (kpM kp)) hDD (λi a hi=>?_) ⟨SqL.of hDD,by rw[e1,hrl],by rw[e2,hrl],λi a g r h1 h2 h3=>?_⟩ hr3.h (Ar sm1 (Ar sm2 hD)) (λhm=>?_) hnd (λi a g h1 h2=>?_)
   . have hil:i < as.length:=(Fd.mp hi).1
     obtain⟨_,_,_,_,k1,_⟩:=hall i a _ hi (Fb (show i < gs.length by omega));exact⟨_,k1⟩
   . have hil:i < as.length:=(Fd.mp h1).1
     obtain⟨_,_,_,_,k1,k2,_⟩:=hall i a g h1 h2;rw[hra i (by omega)]at h3;cases h3;exact⟨SqT.of k1,SqL.of k2⟩
   . obtain⟨j,hj⟩:=FC.mp hm
     have hjl:j < gs.length:=(Fd.mp hj).1;obtain⟨_,_,_,h4,_⟩:=hall j _ _ (Fb (show j < as.length by omega)) hj;exact h4 rfl
   . obtain⟨_,h2',_,_,k1,k2,z1,z2⟩:=hall i a g h1 h2
     exact⟨Ar sm1 z1,Ar sm1 z2,λhm=>h2' (Fh _ hm),k1,k2⟩
 . rintro i zs H' hi ⟨as,gs,ls',rfl,e1,e2,_,hDD,kp,hln,hr3,hnd,hall⟩
   have ha3:=J5z ha1 (kpM kp) ham;have hz:=Fb hi;generalize ys[i]'hi=z at hz;refine⟨⟨_,V.str z,ha3,by rw[Fe,hz];rfl⟩,λx H3 ⟨e3,ex⟩=>?_⟩;subst e3;have hx:=ex _ ha3;rw[Fe,hz]at hx;cases hx;have hsi:=E4 (R:=rm ts) hi0 hin hrm i (by omega);have hzm:=Ff hz;have e1':=RP e1;have e1'':=RP e1.symm;have e2':=RP e2;have e2'':=RP e2.symm;clear e1 e2;have hrowi:=J0l (T:=(T7 (C7.mk Z4 Z1 Z0 Z5 Z6 Z3 Z2) w8)) (R:=rm ts) (n:=n) (s0:=s0) hz;have hss:=Ds (T:=(T7 (C7.mk Z4 Z1 Z0 Z5 Z6 Z3 Z2) w8)) (R:=rm ts) (n:=n) (s0:=s0) hz
   have hpair:(gst (T7 (C7.mk Z4 Z1 Z0 Z5 Z6 Z3 Z2) w8) (rm ts) n s0 ys i)=((gst (T7 (C7.mk Z4 Z1 Z0 Z5 Z6 Z3 Z2) w8) (rm ts) n s0 ys i).1,lyN ls')/\True:=⟨by rw[hln],trivial⟩
   ext;refine⟨w8,H0,p,d,M,n,ts,ls',_,hr3,by rw[hln];exact hsi.i,nd,htl,hin z hzm,hrm z hzm,FO (J0m i (by omega)) (by omega),λt g ls2 H4 kp4 ht hg ht4 hg4 hln4 hr4=>?_⟩;rw[<- hpair.1]at ht4 hg4 hln4 hr4;have hD3:D∉d::M:=hr2.free hD;have hDD4:=kp4 _ _ hD3 hDD
   have htD:t≠D:=λe=>by rw[e,hDD]at ht;cases ht
   have hgD:g≠D:=λe=>by rw[e,hDD]at hg;cases hg
   have ht1:H1 t=none:=P8 (kpM kp) (λhm=>hr3.free ht (Fh _ hm)) ht;have hg1:H1 g=none:=P8 (kpM kp) (λhm=>hr3.free hg (Fh _ hm)) hg
   have hndg:(gs++[g]).Nodup:=by
    rw[HM];refine⟨hnd,by simp,λx hx y hy e=>?_⟩;obtain⟨j,hj⟩:=FC.mp hx;have hjl:j < gs.length:=(Fd.mp hj).1;obtain⟨_,_,_,_,_,k2,_⟩:=hall j _ _ (Fb (show j < as.length by omega)) hj;rw[e,Fj.mp hy,hg]at k2;cases k2
   refine Gq hDD4 (by rw[Fa];omega) hi ⟨as++[t],by rw[Fo];rfl,by rw[Fl];simp only[List.length_cons,List.length_nil];omega,gs++[g],by rw[Fl];simp only[List.length_cons,List.length_nil];omega,hi,A1,J5t (kp.trans kp4) hD,ls2,by rw[hss];exact hln4,?_,hndg,λj a' g' h1 h2=>?_⟩
   . rw[hss]
     exact hr4.lst (λb o e nb=>by rw[A2 nb];exact e) hDD4 (λh=>hD3 (Fh _ h)) (Ar hr2.sm hD)
   . rcases P7 h1 with ⟨l1,c1⟩ | ⟨l1,c1⟩
     . rcases P7 h2 with ⟨l2,c2⟩ | ⟨l2,c2⟩
       . obtain⟨n1,n2,n3,n4,k1,k2,z1,z2⟩:=hall j a' g' c1 c2
         refine⟨n1,n2,n3,n4,?_,?_,z1,z2⟩
         . rw[A2 n3];exact kp4 _ _ n1 k1
         . rw[A2 n4];exact kp4 _ _ n2 k2
       . omega
     . rcases P7 h2 with ⟨l2,c2⟩ | ⟨l2,c2⟩
       . omega
       . rw[c1,c2,show j=i by omega,hrowi]
         refine⟨hr3.free ht,hr3.free hg,htD,hgD,?_,?_,ht1,hg1⟩
         . rw[A2 htD];exact ht4
         . rw[A2 hgD];exact hg4
variable (Z09:Def P w K mg base CX0 8 "book_of" ["rule","asks"] (Dy (T7 (C7.mk Z4 Z1 Z0 Z5 Z6 Z3 Z2)) K Z7 Z9))
include T Ze in
theorem Z8t(F:Fun K "check_rooms" "check_rooms" Z50 f fd):Al P w K mg base CX0 4 f fd ["stock","asks"] (Kd K Z7):=by
 have sc:A9 ["stock","asks","name"] ["stock","asks"] (A6 Z50):=by ext:3
 ext:2
 . exact n4 h_ λ_ _ _ _=>rfl
 refine x4 h_ λp a ts ys e_=>y7 e_ λe0 hs nd hS hy hr1 q=>?_;clear e_ h_;subst e0
 refine⟨_,(@A5 _ _ _ (Ci PassesOwn.never rfl (Cs (pv 1)) (Ay (i:=2) sc.nd rfl (Or.inl rfl))
  (@A5 _ _ _ (Az (Ah Ko (B2 Ze T.Zw hr (B4 Ae) (pv 0) (A0 (pv 2) A3)) A8 (nomark _))
   (@A5 _ _ _ Bv)
   An)))),?_⟩
 ext:4;obtain⟨dy,e,kvs,h1,h2,h3,h4,h5⟩:=Av.has hs;ext;refine⟨⟨_,hS⟩,?_⟩;refine Iq (xs:=ys.map V.str) (λi σ H'=>∃(v1:Option V),σ=[some (V.ref p),some (V.ref a),v1]/\H'=H) ⟨none,rfl,rfl⟩ (λi σ H' _ h_=>by obtain⟨v1,_,rfl⟩:=h_;exact hS) ?_ ?_
 . rintro i v σ H' hv ⟨v1,rfl,rfl⟩
   obtain⟨y,hyy,rfl⟩:=FH.mp (Ff hv);ext;exact⟨dy,flds e,h1,by rfl,ts,hs,nd,hy y hyy,by rw[if_neg (λh=>h (hr1 y hyy))];trivial⟩
 . rintro σ H' ⟨v1,rfl,rfl⟩
   exact q
variable (Z36:Def P w K mg base CX0 4 "check_rooms" ["stock","asks"] (Kd K Z7))
include T Z2f in
theorem Zag(F:Fun K "gaps_of" "gaps_of" Z77 f fd):Al P w K mg base CX0 2 f fd ["asks"] (M7 K):=by
 have sc:A9 ["asks"] ["asks"] (A6 Z77):=by ext:3
 ext:2
 . exact n2 h_ λ_ _=>rfl
 refine x2 h_ λa ys e_=>y4 e_ λe0 hS hl q=>?_;clear e_ h_;subst e0;refine⟨_,(@A5 _ _ _ (@Ag _ _ _ _ (J1q "later" "earlier" [] rfl rfl (P1 rfl T.Z1p (A0 (Ad Z2f hr rfl Ae (A0 (pv 0) A3)) A3)) (λb=>(Ah Y0 (pv 1) Cy (nomark _))) (λb=>(Cj (A0 (pv 1) (A0 (pv 0) A3))))))),?_⟩;ext:4;ext;refine⟨ys,hS,hl,λp H1 hp sm1 hp1=>⟨⟨_,SqL.of hp1⟩,Wi (λi=>(ear ys i).isSome) (λi=>((((ear ys i).getD 0:Nat):Int),(i:Int))) (SqL.of hp1) (by rw[Fa,Fw];omega) (λb i x H' QT hx sm qt=>?_) (λb i x H' Q' hx hpi sm q'=>?_) (λD as H2 hD sm2 hD2 hP=>?_)⟩⟩
 . have hil:i < ys.length:=by have:=(Fd.mp hx).1;rw[Fa,Fw]at this;exact this
   rw[Fe,FS hil]at hx
   have ex:Qo ys i=x/\True:=⟨FG hx,trivial⟩
   clear hx;ext;rw[<- ex.1];unfold Qo
   cases he:ear ys i with
   | none=>rw[he]at qt;exact qt _ (A7.refl _)
   | some j=>rw[he]at qt;exact qt _ (A7.refl _)
 . have hil:i < ys.length:=by have:=(Fd.mp hx).1;rw[Fa,Fw]at this;exact this
   rw[Fe,FS hil]at hx
   cases he:ear ys i with
   | none=>rw[he]at hpi;cases hpi
   | some j=>
   have ex:x=V.int j:=by rw[<- FG hx];show Qo ys i=_;unfold Qo;rw[he];rfl
   rw[he]at q';subst ex;clear hx;ext;exact λt ht=>q' t _ (A7.new ht) A1
 . rw[Fa,Fw,Qg]at hP
   refine q D as H2 (Ar sm1 hD) (sm1.trans sm2) hD2 ⟨by rw[hP.1,Fa],λk t g hk hg=>?_⟩;exact hP.2 k t _ hk (by rw[Fe,hg];rfl)
variable (Z5v:Def P w K mg base CX0 2 "gaps_of" ["asks"] (M7 K))
include T in
theorem Z9z(F:Fun K "stays_of" "stays_of" Z6n f fd):Al P w K mg base CX0 1 f fd ["gaps","taken"] (Ke):=by
 have sc:A9 ["gaps","taken","stays","gap","used"] ["gaps","taken"] (A6 Z6n):=by ext:3
 ext:2
 . exact n5 h_ λ_ _ _ _ _=>rfl
 refine x5 h_ λp b as gs tk e_=>y7 e_ λe0 hp hT hB hl hgl q=>?_;clear e_ h_;subst e0
 refine⟨_,(@A4 _ _ _ _ _ (Aq (i:=2) sc.nd rfl (Or.inl rfl) D0)
  (@A4 _ _ _ _ _ (Ci PassesOwn.never rfl (Q2 rfl T.Z6k (A0 (pv 0) (A0 (pv 1) A3))) (Il rfl (Bc (Ay (i:=3) sc.nd rfl (Or.inl rfl)) (Bc (Ay (i:=4) sc.nd rfl (Or.inl rfl)) Ee)))
   (@A5 _ _ _ (Az (Bg (pv 4))
    (@A5 _ _ _ (Cf (Bl hr) (pv 2) (Ao Bk (@As _ _ _ _ _ _ _ B8 (pv 3) A8 (λ_ _=>rfl)) A8) Dl rfl))
    An)))
  (@A5 _ _ _ (@Ag _ _ _ _ (pv 2))))),?_⟩
 ext:4;ext;intro d hd;have sm0:A7 H (upd H d (.dK [])):=A7.new hd;have hd0:upd H d (.dK []) d=some (.dK []):=A1;generalize upd H d (.dK [])=H1 at sm0 hd0 ⊢;ext:1;refine⟨⟨_,SqL.of (sm0 _ _ hp)⟩,⟨_,SqL.of (sm0 _ _ hB)⟩,?_⟩;rename_i rest hrest;refine Tp (xs:=as.map V.ref) (ys:=tk.map V.bl) (by rw[Fa,Fa,hT.1,hl]) (λi σ H'=>∃(v3 v4:Option V),σ=[some (V.ref p),some (V.ref b),some (V.ref d),v3,v4]/\A7 H H'/\H' d=some (.dK (stk gs tk i))) ⟨none,none,rfl,sm0,hd0⟩ (λi σ H' _ ⟨_,_,_,sm,_⟩=>⟨SqL.of (sm _ _ hp),SqL.of (sm _ _ hB)⟩) ?_ ?_
 . clear hrest
   rintro i x y σ H' t hx hy ⟨v3,v4,rfl,sm,hd'⟩ ht;rw[Fe]at hx hy
   cases ha:as[i]? with
   | none=>rw[ha]at hx;cases hx
   | some c=>
   cases hb:tk[i]? with
   | none=>rw[hb]at hy;cases hy
   | some u=>
   rw[ha]at hx;rw[hb]at hy;cases hx;cases hy
   have hil:i < gs.length:=by rw[<- hT.1];exact(Fd.mp ha).1
   have hc:=sm _ _ (hT.2 i c _ ha (show gs[i]?=some (gs.getD i (0,0)) by rw[Fc,Fb hil];rfl))
   have es:stk gs tk (i+1)=if u then Ct (stk gs tk i) (Sum.inl (((gs.getD i (0,0)).1:Int)+1)) (.bl true) else stk gs tk i:=by
    show (if tk.getD i false then _ else _)=_;rw[Fc,hb];rfl
   have hsl:=U7 (gs:=gs) (tk:=tk) (i:=i);rw[es];generalize gs.getD i (0,0)=g at hc ⊢;have s1:A7 H' (upd H' t (.tup [V.ref c,V.bl u])):=A7.new ht;have ht1:upd H' t (.tup [V.ref c,V.bl u]) t=some (.tup [V.ref c,V.bl u]):=A1;have hc':upd H' t (.tup [V.ref c,V.bl u]) c=some (.tup [V.int g.1,V.int g.2]):=s1 _ _ hc;have hd1:=s1 _ _ hd';have sm1:=sm.trans s1;generalize upd H' t (.tup [V.ref c,V.bl u])=H2 at ht1 hc' hd1 sm1 ⊢;clear hc hd' s1 ht es
   cases u with
   | false=>
    ext;exact⟨_,SqT.of ht1,rfl,_,_,rfl,_,_,rfl,rfl,_,rfl,by rw[if_neg (by decide)];exact⟨sm1,hd1⟩⟩
   | true=>
    ext;refine⟨_,SqT.of ht1,rfl,_,_,rfl,_,_,rfl,rfl,_,rfl,?_⟩;rw[if_pos rfl];exact B6 (SqT.of hc') (Ai (j:=0) rfl) ⟨_,rfl,_,Eu.k (k:=Sum.inl _) hd1 (by omega),Cd sm1 hd,A1⟩
 . rintro σ H' ⟨v3,v4,rfl,sm,hd'⟩
   rw[Fa,hT.1]at hd';subst hrest;ext;exact q d H' hd sm hd'
variable (Z55:Def P w K mg base CX0 1 "stays_of" ["gaps","taken"] (Ke))
include T in
theorem Za0(F:Fun K "rises_of" "rises_of" Z6o f fd):Al P w K mg base CX0 1 f fd ["heights"] (Ga):=by
 have sc:A9 ["heights"] ["heights"] (A6 Z6o):=by ext:3
 ext:2
 . exact n3 h_ λ_ _ _=>rfl
 refine x3 h_ λa h n e_=>y5 e_ λe0 ha hh hn q=>?_;clear e_ h_;subst e0;refine⟨_,(@A5 _ _ _ (@Ag _ _ _ _ (Vp "low" "high" [] rfl rfl (Q2 rfl T.Z6k (A0 (pv 0) (A0 (Mq Ta (pv 0) (L9 A8) Y5) A3))) (λb=>(Cj (A0 (Ao E9 (pv 1) (pv 0)) (A0 A8 A3))))))),?_⟩;ext:4;ext;refine⟨_,SqL.of ha,λp hp=>?_⟩;rw[Jd3];have sm0:A7 H (upd H p (.lst ((h.drop 1).map V.int))):=A7.new hp;have hp0:upd H p (.lst ((h.drop 1).map V.int)) p=some (.lst ((h.drop 1).map V.int)):=A1;generalize upd H p (.lst ((h.drop 1).map V.int))=H1 at sm0 hp0 ⊢;refine⟨⟨_,SqL.of (sm0 _ _ ha)⟩,⟨_,SqL.of hp0⟩,J6q (prV (at' h)) (by rw[Fa,Fa,Hq];omega) (SqL.of (sm0 _ _ ha)) (SqL.of hp0) (by rw[Fa,Hq];omega) (λb i x z H' Q' hx hz sm q'=>?_) λD bs H2 hD sm2 hD2 hl2 hT2=>?_⟩
 . rw[Fe]at hx hz
   have hil:i < h.length - 1:=by
    cases e:(h.drop 1)[i]? with
    | none=>rw[e]at hz;cases hz
    | some v=>have:=(Fd.mp e).1;rw[Hq]at this;exact this
   have ex:x=V.int (at' h i):=by
    rw[Fb (by omega)]at hx;unfold at';rw[Fc,Fb (by omega)];exact(FG hx).symm
   have ez:z=V.int (at' h (i+1)):=by
    rw[List.getElem?_drop,Nat.add_comm 1 i,Fb (by omega)]at hz;unfold at';rw[Fc,Fb (by omega)];exact(FG hz).symm
   subst ex;subst ez;clear hx hz;ext;exact λt ht=>q' t _ (A7.new ht) A1
 . rw[Fa,Hq]at hl2
   exact q D bs H2 (Ar sm0 hD) (sm0.trans sm2) hD2 (by omega) hT2
variable (Z56:Def P w K mg base CX0 1 "rises_of" ["heights"] (Ga))
include T Z01 Z36 Z5v Zp Z5u Z55 Z2n Z09 Z5t Z56 in
theorem Zah(F:Fun K "best_of" "best_of" Z78 f fd):Al P w K mg base CX0 9 f fd ["stock","asks","places"] (M8 432 (⟨174,25,174,57⟩:Pos) (("paid_by"++".<locals>.")++"<lambda>") K Z7 Z2):=by
 have sc:A9 ["stock","asks","places","gaps","jumps","flow","book"] ["stock","asks","places"] (A6 Z78):=by ext:3
 ext:2
 . exact n5 h_ λ_ _ _ _ _=>rfl
 refine x5 h_ λst a P' ts ys e_=>y13 e_ λe0 hst nd htl hA hl hin hr1 hc0 hP1 hP2 hL q=>?_;clear e_ h_;subst e0
 refine⟨_,(@A4 _ _ _ _ _ (Ak (Ad Z01 hr rfl Ae (A0 (pv 0) (A0 (pv 1) (A0 (pv 2) A3)))))
  (@A4 _ _ _ _ _ (Ak (Ad Z36 hr rfl Ae (A0 (pv 0) (A0 (pv 1) A3))))
  (@A4 _ _ _ _ _ (Az (Ah Ew (Aj Ap rfl T.Zq FN (A0 (pv 1) A3)) (Iu rfl T.Z61) (nomark _))
   (@A5 _ _ _ Bv)
   An)
  (@A4 _ _ _ _ _ (Aq (i:=3) sc.nd rfl (Or.inl rfl) (Ad Z5v hr rfl Ae (A0 (pv 1) A3)))
  (@A4 _ _ _ _ _ (J55 (i:=4) "earlier" "later" [0,1] sc.nd rfl rfl rfl rfl (Cs (pv 3)) (λb=>(Cj (A0 (Ao Bk (pv 0) A8) (A0 (pv 1) (A0 (B2 Zp T.Zw hr (B4 Ae) (pv 2) (A0 (@As _ _ _ _ _ _ _ B9 (pv 3) (pv 1) (λ_ _=>rfl)) A3)) A3))))))
  (@A4 _ _ _ _ _ (Aq (i:=5) sc.nd rfl (Or.inl rfl) (Ad Z5u hr rfl Ae (A0 (Ao Bk (Aj Ap rfl T.Zq FN (A0 (pv 1) A3)) A8) (A0 (pv 4) (A0 (Ao E9 (pv 2) A8) A3)))))
  (@A4 _ _ _ _ _ (Aq (i:=6) sc.nd rfl (Or.inl rfl) (Ad Z09 hr rfl Ae (A0 (Dq Z2n hr rfl (B4 Ae) (A0 (pv 0) (A0 (pv 2) (A0 (Ad Z55 hr rfl Ae (A0 (pv 3) (A0 (@As _ _ _ _ _ _ _ B8 (pv 5) A8 (λ_ _=>rfl)) A3))) A3)))) (A0 (pv 1) A3))))
  (@A5 _ _ _ (@Ag _ _ _ _ (Cj (A0 (Ad Z5t hr rfl Ae (A0 (pv 0) (A0 (pv 6) A3))) (A0 (pv 6) (A0 (Ad Z56 hr rfl Ae (A0 (@As _ _ _ _ _ _ _ B8 (pv 5) A8 (λ_ _=>rfl)) A3)) A3))))))))))))),?_⟩
 ext:4;have hS:SqL K H a (ys.map V.str):=SqL.of hA
 have hr1':∀y∈ys,rm ts y<=(P':Int):=λy hy=>by rw[hr1 y hy];omega
 ext;refine⟨ts,hst,nd,ys,hS,by omega,hin,hr1',by omega,by omega,λH1 sm1=>?_⟩;have hst1:=hst.same sm1;have hS1:=sm1.seq hS;ext:1;refine⟨ts,hst1,nd,ys,hS1,hin,hr1,?_⟩;ext:1;rw[if_neg (by rw[Fa];omega)];ext:1;refine⟨ys,hS1,by omega,λg ga H2 hg sm2 hg2 hG2=>?_⟩;have sm02:=sm1.trans sm2;have hst2:=hst.same sm02;have hS2:=sm02.seq hS;have hglen:=Pb (ys:=ys) (n:=ys.length);have hgal:ga.length=(gps ys ys.length).length:=hG2.1
 have ggp:∀i,i < ga.length->(gps ys ys.length)[i]?=some ((gps ys ys.length).getD i (0,0)):=λi hi=>by rw[Fc,Fb (by omega)];rfl
 ext:1;refine⟨⟨_,SqL.of hg2⟩,J2a (λi=>V.int ((gps ys ys.length).getD i (0,0)).1) (λi=>V.int ((gps ys ys.length).getD i (0,0)).2) (λi=>jpV (jmp (cst ts) ys ((gps ys ys.length).getD i (0,0)))) (SqL.of hg2) (by omega) (λi c hc=>hG2.2 i c _ hc (ggp i (Fd.mp hc).1)) (λb i H' Q' hi sm q'=>?_) λj ja H3 hj sm3 hj3 hjl hJ3=>?_⟩
 . obtain⟨k1,k2⟩:=Lw (Ff (ggp i hi))
   have hst':=hst2.same sm;have hS':=sm.seq hS2;generalize (gps ys ys.length).getD i (0,0)=gi at k1 k2 q' ⊢;have gy:atI (ys.map V.str) (gi.2:Int)=some (V.str (ys.getD gi.2 Str.empty)):=Ai (by rw[Fe,N41.C9 k1];rfl);obtain⟨dy,e,kvs,s1,s2,s3,s4,s5⟩:=Av.has hst';ext;exact⟨dy,flds e,s1,by rfl,Bb hS' gy ⟨ts,_,rfl,hst',nd,hin _ (Ff (N41.C9 k1)),by omega,λt ht=>q' t _ (A7.new ht) A1⟩⟩
 have sm03:=sm02.trans sm3;have hst3:=hst.same sm03;have hS3:=sm03.seq hS
 have hJs:Wj H3 j ja (jps (cst ts) ys ys.length):=⟨hj3,by rw[hjl,hgal,Fa],λk t x hk hx=>by
  have hkl:k < ga.length:=by rw[<- hjl];exact(Fd.mp hk).1
  rw[Fe,ggp k hkl]at hx;cases hx
  exact hJ3 k t hk⟩
 have hok:JOk (ys.length+1) (jps (cst ts) ys ys.length):=jok λn hn=>hc0 _ (Ff (N41.C9 hn));have hg3:=sm3 _ _ hg2;have hG3:=hG2.same sm3;ext:1;refine⟨ys.length+1,by rw[Fa];omega,ja,_,hJs,hok,by rw[Fa];omega,by omega,by omega,by omega,λft fb fh tk h H4 sm4 hfb hfh hft hfb4 hfh4 hFl hFE hpi=>?_⟩;have sm04:=sm03.trans sm4;have hst4:=hst.same sm04;have hS4:=sm04.seq hS;have hg4:=sm4 _ _ hg3;have hG4:=hG3.same sm4
 have htkl:tk.length=(gps ys ys.length).length:=by rw[hFE.l,Fa]
 clear hJs hJ3 hj3 hg3 hG3 hg2 hG2 hst1 hst2 hst3 hS1 hS2 hS3;ext:1;refine B6 (SqT.of hft) (Ai (j:=0) rfl) ?_;refine⟨fb,rfl,ga,hg4,_,hG4,tk,hfb4,htkl,by omega,λsd H5 hsd sm5 hsd5 qx dx hqx hdx nqd=>?_⟩;have mo:A7 H5 (upd (upd H5 dx (.own qx)) qx (.ins Z2 dx [])):=N63.U5 hqx hdx;refine⟨dx,A1,by omega,by omega,_,mo _ _ hsd5,λH6 la sb6 hla hPA=>?_⟩;have sm6:A7 H5 H6:=N63.U4 hqx hdx sb6
 have hM0:∀k∈[qx,la,sd],H4 k=none:=λk hk=>by
  simp only[Ft,FW,or_false]at hk;rcases hk with e | e | e
  . rw[e];exact Ar sm5 hqx
  . rw[e];exact Ar sm5 (Ar mo hla)
  . rw[e];exact hsd
 have hA4:=sm04 _ _ hA
 have nam:a∉[qx,la,sd]:=λhk=>by rw[hM0 _ hk]at hA4;cases hA4
 have sm46:=sm5.trans sm6;have hkl:=U7 (gs:=gps ys ys.length) (tk:=tk) (i:=(gps ys ys.length).length);refine⟨W7.pl (stk (gps ys ys.length) tk (gps ys ys.length).length) (by omega),H4,st,[qx,la,sd],(P':Int),ts,ys,s20,hPA,N63.li0,hst4,sm46,hM0,nd,htl,SqL.of (sm46 _ _ hA4),nam,by omega,hin,hr1',by omega,by omega,FM _,λb as gs H7 kp7 hb7 htup7 bk7 at7 hbn hbg hgn hx7=>?_⟩;have sm47:A7 H4 H7:=Kp.same sm46 kp7 hM0;have sm07:=sm04.trans sm47
 have grl:(rwP Z2 ts P' ys tk).length=ys.length:=by unfold rwP;exact Ej
 have hB7:BkP H7 b as gs (rwP Z2 ts P' ys tk):=⟨hb7,bk7.n,bk7.m,λi c g' r h1 h2 h3=>by
  have hil:i < ys.length:=by rw[<- grl];exact(Fd.mp h3).1
  have er:r=NR.grow (T4 (stk (gps ys ys.length) tk (gps ys ys.length).length) Z2) (rm ts) P' s20 ys i:=by
   unfold rwP grows at h3;rw[Fe,FS hil]at h3;exact(FG h3).symm
  rw[er]
  exact⟨(hx7 i c g' h1 h2).2.2.2.1,(hx7 i c g' h1 h2).2.2.2.2⟩⟩
 have hbn0:H b=none:=Ar (sm04.trans sm46) hbn
 have hasl:as.length=ys.length:=by rw[hB7.ln,grl]
 have hgsl:gs.length=ys.length:=by rw[hB7.m,grl]
 have has0:∀c∈as,H c=none:=λc hc=>by
  obtain⟨i,hi⟩:=FC.mp hc;have hil:=(Fd.mp hi).1;exact Ar (sm04.trans sm46) (hx7 i c _ hi (Fb (by omega))).1
 have hgs0:∀c∈gs,H c=none:=λc hc=>by
  obtain⟨i,hi⟩:=FC.mp hc;have hil:=(Fd.mp hi).1;exact Ar (sm04.trans sm46) (hx7 i _ c (Fb (by omega)) hi).2.1
 have hL7:=Vy sm07 hL;have hst7:=hst.same sm07;have hfh7:=sm47 _ _ hfh4;have hft7:=sm47 _ _ hft
 have hnm:∀r∈bkL as gs (rwP Z2 ts P' ys tk),r.2.1∈ts.map (·.1):=λr hr=>by
  obtain⟨i,hi,rfl⟩:=FH.mp hr;have hi:=He.mp hi;show ((rwP Z2 ts P' ys tk).getD i (Str.empty,true,[])).1∈_
  have hr2:(rwP Z2 ts P' ys tk)[i]?=some ((rwP Z2 ts P' ys tk).getD i (Str.empty,true,[])):=by rw[Fc,Fb hi];rfl
  rw[J6u hr2];exact hin _ (Ff (N41.C9 (U8 hr2).1))
 clear hx7 bk7 at7 htup7 hb7 kp7 hM0 hPA sb6 hla mo;ext:1;refine⟨ts,hst7,nd,_,hB7.bk,by rw[J8k,grl];omega,hnm,hL7,λH8 tk8=>?_⟩;obtain⟨ps0,hps0⟩:=P5 hL7;have odd0:NPb.Odd (.tbl ps0):= .inl ⟨_,rfl⟩;have hB8:=hB7.odd tk8.but hps0 odd0;have hft8:=tk8.tup hL7 hft7;have hfh8:=tk8.lst hL7 hfh7;have tk08:=(Tk.of hL sm07).trans tk8;refine B6 (SqT.of hft8) (Ai (j:=1) rfl) ⟨fh,rfl,h,hfh8,ys.length,hFE.lh,by omega,λp ps H9 hp sm9 hp9 hpl hp9t=>⟨by omega,λt ht=>?_⟩⟩;rw[J8l];have st9:A7 H9 (upd H9 t (.tup [V.int (Cq (cst ts) (rwP Z2 ts P' ys tk)),V.ref b,V.ref p])):=A7.new ht;have tk09:=tk08.trans (Tk.of tk8.lam sm9);have tk0t:=tk09.trans (Tk.of tk09.lam st9)
 have npg:p∉gs:=λhm=>by
  obtain⟨i,hi⟩:=FC.mp hm;have hil:=(Fd.mp hi).1;have:=(hB8.t i _ p _ (Fb (by omega)) hi (Fb (by rw[grl];omega))).2;rw[hp]at this;cases this
 have nbp:b≠p:=λe=>by have:=hB8.L;rw[e,hp]at this;cases this
 exact q t b p as gs ps tk h _ tk0t (tk09.none hL ht) hbn0 (tk08.none hL hp) has0 hgs0 hgn hbg npg nbp A1 (hB8.same (sm9.trans st9)) (st9 _ _ hp9) hpl (λi c hc=>st9 _ _ (hp9t i c hc)) hFl hFE hpi
variable (Z5w:Def P w K mg base CX0 9 "best_of" ["stock","asks","places"] (M8 432 (⟨174,25,174,57⟩:Pos) (("paid_by"++".<locals>.")++"<lambda>") K Z7 Z2))
include T in
theorem Zaq(F:Fun K "_law_cell" "_law_cell" Z7p f fd):Al P w K mg base CX0 1 f fd ["_law_script","_law_k"] (Oz K):=by
 have sc:A9 ["_law_script","_law_k"] ["_law_script","_law_k"] (A6 Z7p):=by ext:3
 ext:2
 . exact n3 h_ λ_ _ _=>rfl
 refine x3 h_ λa ns k e_=>y5 e_ λe0 hS h0 hl q=>?_;clear e_ h_;subst e0
 refine⟨_,(@A4 _ _ _ _ _ (Az (Ah Ml (pv 1) (Aj Ap rfl T.Zq FN (A0 (pv 0) A3)) (nomark _))
  (@A5 _ _ _ (@Ag _ _ _ _ (@As _ _ _ _ _ _ _ B9 (pv 0) (pv 1) (λ_ _=>rfl))))
  An)
  (@A5 _ _ _ (@Ag _ _ _ _ A8))),?_⟩
 walk_at "su";ext;rw[Fa];split
 . rename_i hk
   exact Bb hS (X7 h0 (Jak (by omega))) q
 . rename_i hk
   rw[Fc,Hg (by omega)]at q;ext;exact q
variable (Z2a:Def P w K mg base CX0 1 "_law_cell" ["_law_script","_law_k"] (Oz K))
include T in
theorem Zai(F:Fun K "_law_whole" "_law_whole" Z79 f fd):Al P w K mg base CX0 1 f fd ["_law_found"] (K1):=by
 have sc:A9 ["_law_found"] ["_law_found"] (A6 Z79):=by ext:3
 ext:2
 . exact n1 h_ λ_=>rfl
 refine x1 h_ λi e_=>y2 e_ λe0 q=>?_;clear e_ h_;subst e0;refine⟨_,(@A5 _ _ _ (@Ag _ _ _ _ (Ph (Aj Bm rfl T.Zh (by first | rfl | decide+kernel) (A0 (pv 0) (A0 (Da (v:= .ty "int") rfl T.Z9d (by first | rfl | decide+kernel) rfl) A3))) (Nq (Ws (Aj Bm rfl T.Zh (by first | rfl | decide+kernel) (A0 (pv 0) (A0 (Da (v:= .ty "bool") rfl T.Z6z (by first | rfl | decide+kernel) rfl) A3)))))))),?_⟩;walk_at "su";ext;exact q
variable (Z1a:Def P w K mg base CX0 1 "_law_whole" ["_law_found"] (K1))
include T in
theorem Zaj(F:Fun K "_law_names" "_law_names" Z7a f fd):Al P w K mg base CX0 1 f fd ["_law_cell_here","_law_many"] (Kf):=by
 have sc:A9 ["_law_cell_here","_law_many","_law_signs","_law_tail","_law_j","_law_long","_law_at","_law_names_here","_law_k","_law_name","_law_by"] ["_law_cell_here","_law_many"] (A6 Z7a):=by ext:3
 ext:2
 . exact n2 h_ λ_ _=>rfl
 refine x2 h_ λi m e_=>y3 e_ λe0 hm q=>?_;clear e_ h_;subst e0
 refine⟨_,(@A4 _ _ _ _ _ (Aq (i:=2) sc.nd rfl (Or.inr rfl) Wq)
  (@A4 _ _ _ _ _ (Az (Ah Ki (Ao Dn (Ao Io (pv 0) A8) A8) A8 (nomark _))
   (@A4 _ _ _ _ _ (Aq (i:=3) sc.nd rfl (Or.inr rfl) Wq)
   (@A4 _ _ _ _ _ (Ci PassesOwn.never rfl (Cu rfl T.Z0m (A0 A8 A3)) (Ay (i:=4) sc.nd rfl (Or.inl rfl))
    (@A5 _ _ _ (Aq (i:=3) sc.nd rfl (Or.inr rfl) (Ao El (pv 3) (@As _ _ _ _ _ _ _ Pr (pv 2) (Ao Dn (Ao Bk (Ao Mw (Ao Io (pv 0) A8) (Ao Bk (pv 4) A8)) (Ao Ww A8 (pv 4))) A8) (λ_ _=>rfl))))))
   (@A5 _ _ _ (@Ag _ _ _ _ (Gp "_law_k" [2,3,0] rfl rfl (Cu rfl T.Z0m (A0 (pv 1) A3)) (λb=>(Ao El (@As _ _ _ _ _ _ _ Pr (pv 1) (Ao Dn (Ao Bk (pv 3) (Ao Io (pv 0) A8)) A8) (λ_ _=>rfl)) (Mq Jar (pv 2) Y5 (L9 (Ao Dn (pv 0) A8))))))))))
   An)
  (@A4 _ _ _ _ _ (Aq (i:=5) sc.nd rfl (Or.inl rfl) (Ao Bk A8 (Ao Dn (pv 0) A8)))
  (@A4 _ _ _ _ _ (Aq (i:=6) sc.nd rfl (Or.inl rfl) (Ao Dn (Ao Io (pv 0) A8) (pv 5)))
  (@A4 _ _ _ _ _ (Aq (i:=7) sc.nd rfl (Or.inl rfl) (@Ck _ _ _ _ A3))
  (@A4 _ _ _ _ _ (Ci PassesOwn.never rfl (Cu rfl T.Z0m (A0 (pv 1) A3)) (Ay (i:=8) sc.nd rfl (Or.inl rfl))
   (@A4 _ _ _ _ _ (Aq (i:=9) sc.nd rfl (Or.inl rfl) Wq)
   (@A4 _ _ _ _ _ (Ci PassesOwn.never rfl (Cu rfl T.Z0m (A0 (pv 5) A3)) (Ay (i:=4) sc.nd rfl (Or.inl rfl))
    (@A4 _ _ _ _ _ (Aq (i:=10) sc.nd rfl (Or.inl rfl) (Ao Bk (Ao Mw (Ao Io (pv 0) A8) (Ao Bk (pv 4) A8)) (Ao Ww A8 (pv 4))))
    (@A4 _ _ _ _ _ (Az (Ah Ki (pv 4) (pv 6) (nomark _))
     (@A5 _ _ _ (Aq (i:=10) sc.nd rfl (Or.inl rfl) (Ao Bk (pv 10) (pv 8))))
     An)
    (@A5 _ _ _ (Az (Ah Ki (pv 4) A8 (nomark _))
     (@A5 _ _ _ (Aq (i:=9) sc.nd rfl (Or.inl rfl) (Ao El (pv 9) (@As _ _ _ _ _ _ _ Pr (pv 2) (Ao Dn (pv 10) A8) (λ_ _=>rfl)))))
     (@A5 _ _ _ (Aq (i:=9) sc.nd rfl (Or.inl rfl) (Ao El (pv 9) (@As _ _ _ _ _ _ _ Pr (pv 2) (Ao Dn (pv 10) A8) (λ_ _=>rfl))))))))))
   (@A5 _ _ _ (Ak (Dh FA FR FQ Bq (pv 7) (A0 (pv 9) A3)))))))
  (@A5 _ _ _ (@Ag _ _ _ _ (pv 7))))))))),?_⟩
 ext:4;have bl:=Ve;ext;split
 . rename_i hst
   clear hst;ext;rename_i rest hrest;refine Ex (n:=7) (λj σ H'=>∃(v4:Option V),σ=[some (V.int i),some (V.int m),some (V.str (Str.ofString "abcdefghijklmnopqrstuvwxyz0123456789")),some (V.str (tx (L3 i j))),v4,none,none,none,none,none,none]/\H'=H) ⟨none,rfl,rfl⟩ ?_ ?_
   . rintro j σ H' hj ⟨v4,rfl,rfl⟩
     have hzl:(tx (L3 i j)).length=j:=by rw[Vd];simp[L3]
     ext;refine Pu (by omega) (J07 _ (by decide) (by decide)) ?_;ext;rw[J26,<- J06];rfl
   . rintro σ H' ⟨v4,rfl,rfl⟩
     subst hrest;ext;refine Xb (λx=>V.str (tx (nmP i x.toNat))) (by omega) (λb k H2 Q' hk sm q'=>?_) λD hD=>?_
     . rw[show (0+(k:Int)).toNat=k by omega,Xo]at q'
       have k1:=HW (k:Int) (show (8:Int)≠0 by decide);ext;refine Pu (by omega) (J07 _ (by decide) (by decide)) ?_;ext
       have e8:(k:Int) % 8=((k % 8:Nat):Int):=by omega
       have htl:(L3 i 7).length=7:=by unfold L3;rw[Fa,Fw]
       have hsl:=Xq (l:=L3 i 7) (k:=k % 8) (by omega);rw[<- e8]at hsl;rw[hsl];refine⟨by rw[Vd,htl,line];decide,by rw[Vd,Hl,htl];show 1+_<=_;omega,?_⟩;rw[Jcr,J06];exact q'
     . refine q D (J27 i m) _ hD (A7.new hD) ?_ (by unfold J27;rw[Fa,Fw]) (Xp (by omega)) λy hy=>?_
       . rw[A1]
         unfold J27;rw[FP];congr 2;refine Ht λk _=>?_;show V.str (tx (nmP i (0+(k:Int)).toNat))=_;rw[show (0+(k:Int)).toNat=k by omega];rfl
       . unfold J27 at hy
         obtain⟨k,_,rfl⟩:=FH.mp hy;rw[Ku];exact J6h
 . rename_i hst
   clear hst;ext;intro p hp
   obtain⟨L,hL⟩:∃L:Nat,(L:Int)=1+i % 8:=⟨(1+i % 8).toNat,by omega⟩
   have hL2:1<=L:=by omega
   have hL8:L<=8:=by omega
   rw[<- hL];have ha0:=HW (i / 8) (show (L:Int)≠0 by omega);have ha1:=HV (i / 8) (show (0:Int) < L by omega);clear hL;generalize i / 8 % (L:Int)=at' at ha0 ha1 ⊢;ext;refine Ex (λk σ H'=>∃(v7 v8 v9 v10:Option V),σ=[some (V.int i),some (V.int m),some (V.str (Str.ofString "abcdefghijklmnopqrstuvwxyz0123456789")),none,v7,some (V.int L),some (V.int at'),some (V.ref p),v8,v9,v10]/\H'=upd H p (.lst ((nms (λj=>(i / 64).fdiv (j+1)+8 * j) at' L k).map V.str))) ⟨none,none,none,none,rfl,rfl⟩ ?_ ?_
   . rintro k σ H' hk ⟨v7,v8,v9,v10,rfl,rfl⟩
     have hlen:((nms (λj=>(i / 64).fdiv ((j:Int)+1)+8 * j) at' L k).map V.str).length=k:=by rw[Fa];unfold nms;rw[Fa,Fw]
     ext;rename_i rest hrest;refine Ex (λj σ H'=>∃(v9 v10:Option V),σ=[some (V.int i),some (V.int m),some (V.str (Str.ofString "abcdefghijklmnopqrstuvwxyz0123456789")),none,v9,some (V.int L),some (V.int at'),some (V.ref p),some (V.int k),some (V.str (tx (nmL (λj=>(i / 64).fdiv (j+1)+8 * j) at' j k))),v10]/\H'=upd H p (.lst ((nms (λj=>(i / 64).fdiv (j+1)+8 * j) at' L k).map V.str))) ⟨v7,v10,rfl,rfl⟩ ?_ ?_
     . rintro j σ H' hj ⟨v9,v10,rfl,rfl⟩
       have hzl:(tx (nmL (λj=>(i / 64).fdiv ((j:Int)+1)+8 * j) at' j k)).length=j:=by rw[Vd];simp[nmL]
       have hsg:nmL (λj=>(i / 64).fdiv ((j:Int)+1)+8 * j) at' (j+1) k=nmL (λj=>(i / 64).fdiv ((j:Int)+1)+8 * j) at' j k++[sgn (λj=>(i / 64).fdiv ((j:Int)+1)+8 * j) at' k j]:=by
        unfold nmL;rw[Hj,Fo];rfl
       unfold N5.sgn at hsg;ext;rename_i rest hrest
       have key1:∀b1:Int,((i / 64).fdiv ((j:Int)+1)+8 * j+(if (j:Int)=at' then (k:Int) else 0)=b1)->rest [some (V.int i),some (V.int m),some (V.str (Str.ofString "abcdefghijklmnopqrstuvwxyz0123456789")),none,some (V.int j),some (V.int L),some (V.int at'),some (V.ref p),some (V.int k),some (V.str (tx (nmL (λj=>(i / 64).fdiv (j+1)+8 * j) at' j k))),some (V.int b1)] (upd H p (.lst ((nms (λj=>(i / 64).fdiv (j+1)+8 * j) at' L k).map V.str))):=by
        intro b1 hb1;rw[hb1]at hsg;clear hb1;subst hrest;generalize nmL (λj=>(i / 64).fdiv ((j:Int)+1)+8 * j) at' j k=zl at hsg hzl ⊢;ext;split
        . rename_i hj0
          ext;refine Pu (by omega) (J07 _ (by decide) (by decide)) ?_;ext;rw[hsg,<- J06];unfold md;rw[if_pos (by omega)];rfl
        . rename_i hj0
          ext;refine Pu (by omega) (J07 _ (by decide) (by decide)) ?_;ext;rw[hsg,<- J06];unfold md;rw[if_neg (by omega)];rfl
       clear hrest;split
       . rename_i he
         ext;exact key1 _ (by rw[if_pos he])
       . rename_i he
         exact key1 _ (by rw[if_neg he];omega)
     . rintro σ H' ⟨v9,v10,rfl,rfl⟩
       ext;refine⟨.inl ⟨rfl,_,SqL.of A1⟩,p,_,_,rfl,rfl,A1,by omega,?_⟩;ext;unfold nms;rw[Hj,Fo,Fo];rfl
   . rintro σ H' ⟨v7,v8,v9,v10,rfl,rfl⟩
     ext;refine q p _ _ hp (A7.new hp) A1 (by unfold nms;simp) (J1m ha0 ha1 (by omega)) λy hy=>?_;unfold nms at hy;obtain⟨k,_,rfl⟩:=FH.mp hy;rw[Ku];exact Vj (by omega) hL8
variable (Z5x:Def P w K mg base CX0 1 "_law_names" ["_law_cell_here","_law_many"] (Kf))
include T Z2z Z2h Z1x Z3y Z4g Z4h Z09 in
theorem Zar(F:Fun K "_law_book" "_law_book" Z7q f fd):Al P w K mg base CX0 9 f fd ["_law_stock","_law_row","_law_kind","_law_places"] (M9 K Z7 (C7.mk Z4 Z1 Z0 Z5 Z6 Z3 Z2)):=by
 have sc:A9 ["_law_stock","_law_row","_law_kind","_law_places"] ["_law_stock","_law_row","_law_kind","_law_places"] (A6 Z7q):=by ext:3
 refine F.ok sc (λvs H Q E h=>?_) (λcdv A outer s H vs Q E hr h=>?_)
 . obtain⟨_,_,_,_,_,_,_,rfl,_⟩:=h;rfl
 obtain⟨k,P',st,a,ts,ys,h,rfl,hk,ok,hyl,q⟩:=h
 refine⟨_,(@A4 _ _ _ _ _ (Az (Ah Ki (pv 2) A8 (nomark _))
  (@A5 _ _ _ (@Ag _ _ _ _ (Ad Z09 hr rfl Ae (A0 (Dq Z2z hr rfl (B4 Ae) (A0 (pv 0) (A0 (pv 3) A3))) (A0 (Cm Bw rfl T.Z0i (by first | rfl | decide+kernel) (A0 (pv 1) A3)) A3)))))
  An)
  (@A4 _ _ _ _ _ (Az (Ah Ki (pv 2) A8 (nomark _))
   (@A5 _ _ _ (@Ag _ _ _ _ (Ad Z09 hr rfl Ae (A0 (J68 Z2h hr rfl (B4 Ae) (A0 (pv 0) (A0 (pv 3) A3))) (A0 (Cm Bw rfl T.Z0i (by first | rfl | decide+kernel) (A0 (pv 1) A3)) A3)))))
   An)
  (@A4 _ _ _ _ _ (Az (Ah Ki (pv 2) A8 (nomark _))
   (@A5 _ _ _ (@Ag _ _ _ _ (Ad Z09 hr rfl Ae (A0 (Dq Z1x hr rfl (B4 Ae) (A0 (pv 0) (A0 (pv 3) (A0 (Cm Bw rfl T.Z0i (by first | rfl | decide+kernel) (A0 (pv 1) A3)) A3)))) (A0 (Cm Bw rfl T.Z0i (by first | rfl | decide+kernel) (A0 (pv 1) A3)) A3)))))
   An)
  (@A4 _ _ _ _ _ (Az (Ah Ki (pv 2) A8 (nomark _))
   (@A5 _ _ _ (@Ag _ _ _ _ (Ad Z09 hr rfl Ae (A0 (Dq Z3y hr rfl (B4 Ae) (A0 (pv 0) (A0 (pv 3) A3))) (A0 (Cm Bw rfl T.Z0i (by first | rfl | decide+kernel) (A0 (pv 1) A3)) A3)))))
   An)
  (@A4 _ _ _ _ _ (Az (Ah Ki (pv 2) A8 (nomark _))
   (@A5 _ _ _ (@Ag _ _ _ _ (Ad Z09 hr rfl Ae (A0 (Dq Z4g hr rfl (B4 Ae) (A0 (pv 0) (A0 (pv 3) A3))) (A0 (Cm Bw rfl T.Z0i (by first | rfl | decide+kernel) (A0 (pv 1) A3)) A3)))))
   An)
  (@A5 _ _ _ (@Ag _ _ _ _ (Ad Z09 hr rfl Ae (A0 (Dq Z4h hr rfl (B4 Ae) (A0 (pv 0) (A0 (pv 3) A3))) (A0 (Cm Bw rfl T.Z0i (by first | rfl | decide+kernel) (A0 (pv 1) A3)) A3)))))))))),?_⟩
 ext:4;have n1:=ok.n1;have n2:=ok.n2;ext
 by_cases h0:(k:Int)=0
 . rw[if_pos h0]
   have ek:wk ys h k=W7.ol:=by rw[show k=0 by omega];rfl
   intro x dx hx hdx ne;refine⟨Z4,dx,A1,T.Z05,T.Z2c,T.Z1s,T.Z0r,T.Z1o,n1,n2,λH' la sb hla nla hq hl=>?_⟩;have sm:=Ei hx hdx sb;refine⟨_,.inl (SqL.of (sm _ _ ok.a)),λl hl2=>?_⟩;rw[ek]at q
   exact mk8 (w:=W7.ol) (M:=[x,la]) ok hyl sm (λm hm=>by
    simp only[Ft,FW,or_false]at hm;rcases hm with e | e
    . rw[e];exact hx
    . rw[e];exact Ce hla) ⟨la,rfl,⟨dx,hq⟩,hl⟩ hl2 q
 rw[if_neg h0];ext:1
 by_cases h1:(k:Int)=1
 . rw[if_pos h1]
   have ek:wk ys h k=W7.ha:=by rw[show k=1 by omega];rfl
   rw[ek]at q;intro x dx hx hdx ne;refine⟨dx,st,P',8,rfl,A1,n1,n2,by decide,by decide,λH' la pa sb hla hpa hh=>?_⟩;have sm:=Ei hx hdx sb;refine⟨_,.inl (SqL.of (sm _ _ ok.a)),λl hl2=>?_⟩
   exact mk8 (w:=W7.ha) (M:=[x,la,pa]) ok hyl sm (λm hm=>by
    simp only[Ft,FW,or_false]at hm;rcases hm with e | e | e
    . rw[e];exact hx
    . rw[e];exact Ce hla
    . rw[e];exact Ce hpa) hh hl2 q
 rw[if_neg h1];ext:1
 by_cases h2:(k:Int)=2
 . rw[if_pos h2]
   have ek:wk ys h k=W7.fa ys h:=by rw[show k=2 by omega];rfl
   rw[ek]at q;refine⟨_,.inl (SqL.of ok.a),λl1 hl1 x dx hx hdx ne=>?_⟩;have sA:A7 H (upd H l1 (.lst (ys.map V.str))):=A7.new hl1;have hl1A:upd H l1 (.lst (ys.map V.str)) l1=some (.lst (ys.map V.str)):=A1;generalize upd H l1 (.lst (ys.map V.str))=HA at sA hl1A hx hdx ⊢
   have smx:A7 HA (upd (upd HA dx (.own x)) x (.ins Z0 dx [])):=λb o e=>by rw[A2 (Ac e hx),A2 (Ac e hdx)];exact e
   refine⟨dx,A1,ts,(ok.s.same sA).same smx,ok.nd,_,SqL.of (smx _ _ hl1A),by omega,ok.i,ok.r,n1,n2,Ac hl1A hx,λH' la pa sb hla hpa hh=>?_⟩;have smB:=Ei hx hdx sb;have sm:=sA.trans smB;refine⟨_,.inl (SqL.of (sm _ _ ok.a)),λl hl2=>?_⟩
   exact mk8 (w:=W7.fa ys h) (M:=[x,la,pa]) ok hyl sm (λm hm=>by
    simp only[Ft,FW,or_false]at hm;rcases hm with e | e | e
    . rw[e];exact Ar sA hx
    . rw[e];exact Ar sA (Ce hla)
    . rw[e];exact Ar sA (Ce hpa)) hh hl2 q
 rw[if_neg h2];ext:1
 by_cases h3:(k:Int)=3
 . rw[if_pos h3]
   have ek:wk ys h k=W7.fi:=by rw[show k=3 by omega];rfl
   rw[ek]at q;intro x dx hx hdx ne;refine⟨dx,A1,n1,n2,λH' la pa sb hla hpa hh=>?_⟩;have sm:=Ei hx hdx sb;refine⟨_,.inl (SqL.of (sm _ _ ok.a)),λl hl2=>?_⟩
   exact mk8 (w:=W7.fi) (M:=[x,la,pa]) ok hyl sm (λm hm=>by
    simp only[Ft,FW,or_false]at hm;rcases hm with e | e | e
    . rw[e];exact hx
    . rw[e];exact Ce hla
    . rw[e];exact Ce hpa) hh hl2 q
 rw[if_neg h3];ext:1
 by_cases h4:(k:Int)=4
 . rw[if_pos h4]
   have ek:wk ys h k=W7.hd:=by rw[show k=4 by omega];rfl
   rw[ek]at q;intro x dx hx hdx ne;refine⟨dx,A1,n1,n2,λH' la pa sb hla hpa hh=>?_⟩;have sm:=Ei hx hdx sb;refine⟨_,.inl (SqL.of (sm _ _ ok.a)),λl hl2=>?_⟩
   exact mk8 (w:=W7.hd) (M:=[x,la,pa]) ok hyl sm (λm hm=>by
    simp only[Ft,FW,or_false]at hm;rcases hm with e | e | e
    . rw[e];exact hx
    . rw[e];exact Ce hla
    . rw[e];exact Ce hpa) hh hl2 q
 rw[if_neg h4]
 have ek:wk ys h k=W7.ro:=by rw[show k=5 by omega];rfl
 rw[ek]at q;ext:1;intro x dx hx hdx ne;refine⟨dx,A1,n1,n2,λH' l1 l2 l3 l4 sb hl1 hl2 hl3 hl4 hh=>?_⟩;have sm:=Ei hx hdx sb;refine⟨_,.inl (SqL.of (sm _ _ ok.a)),λl hl9=>?_⟩
 exact mk8 (w:=W7.ro) (M:=[x,l1,l2,l3,l4]) ok hyl sm (λm hm=>by
  simp only[Ft,FW,or_false]at hm;rcases hm with e | e | e | e | e
  . rw[e];exact hx
  . rw[e];exact Ce hl1
  . rw[e];exact Ce hl2
  . rw[e];exact Ce hl3
  . rw[e];exact Ce hl4) ⟨l1,l2,l3,l4,rfl,hh⟩ hl9 q
variable (Z5m:Def P w K mg base CX0 9 "_law_book" ["_law_stock","_law_row","_law_kind","_law_places"] (M9 K Z7 (C7.mk Z4 Z1 Z0 Z5 Z6 Z3 Z2)))
include T in
theorem Z8u(F:Fun K "_law_row_holds" "_law_row_holds" Z51 f fd):Al P w K mg base CX0 1 f fd ["_law_line","_law_name","_law_lying","_law_places"] (Kg):=by
 have sc:A9 ["_law_line","_law_name","_law_lying","_law_places"] ["_law_line","_law_name","_law_lying","_law_places"] (A6 Z51):=by ext:3
 ext:2
 . exact n8 h_ λ_ _ _ _ _ _ _ _=>rfl
 refine x8 h_ λt g ly P' z b l L e_=>y9 e_ λe0 ht hg hly hb hL hl1 hl2 q=>?_;clear e_ h_;subst e0
 refine⟨_,(@A4 _ _ _ _ _ (Az (PW.pt (D5 (C8 (Bg (Aj Bm rfl T.Zh (by first | rfl | decide+kernel) (A0 (pv 0) (A0 (Da (v:= .ty "tuple") rfl T.Z6f (by first | rfl | decide+kernel) rfl) A3))))) (D5 (Ah Ko (Aj Ap rfl T.Zq FN (A0 (pv 0) A3)) A8 (nomark _)) (Dm (Ah Ko (@As _ _ _ _ _ _ _ B8 (pv 0) A8 (λ_ _=>rfl)) (pv 1) (nomark _))))))
  (@A5 _ _ _ (@Ag _ _ _ _ Dl))
  An)
  (@A4 _ _ _ _ _ (Az (PW.pt (D5 (C8 (Bg (Aj Bm rfl T.Zh (by first | rfl | decide+kernel) (A0 (@As _ _ _ _ _ _ _ B8 (pv 0) A8 (λ_ _=>rfl)) (A0 (Da (v:= .ty "bool") rfl T.Z6z (by first | rfl | decide+kernel) rfl) A3))))) (D5 (Ah Ko (@As _ _ _ _ _ _ _ B8 (pv 0) A8 (λ_ _=>rfl)) (Ef D2 (pv 1) (pv 2) (by with_unfolding_all rfl)) (nomark _)) (Dm (C8 (Bg (Aj Bm rfl T.Zh (by first | rfl | decide+kernel) (A0 (@As _ _ _ _ _ _ _ B8 (pv 0) A8 (λ_ _=>rfl)) (A0 (Da (v:= .ty "list") rfl T.Z0i (by first | rfl | decide+kernel) rfl) A3)))))))))
   (@A5 _ _ _ (@Ag _ _ _ _ Dl))
   An)
  (@A4 _ _ _ _ _ (Az (PW.pt (D5 (Bg (@As _ _ _ _ _ _ _ B8 (pv 0) A8 (λ_ _=>rfl))) (Dm (Ah Ml (Aj Ap rfl T.Zq FN (A0 (pv 2) A3)) (pv 3) (nomark _)))))
   (@A5 _ _ _ (@Ag _ _ _ _ (Ef (J48 hr) (@As _ _ _ _ _ _ _ B8 (pv 0) A8 (λ_ _=>rfl)) (@Ck _ _ _ _ A3) (nomark _))))
   An)
  (@A5 _ _ _ (@Ag _ _ _ _ (Ph (Ef Ki (Aj Ap rfl T.Zq FN (A0 (@As _ _ _ _ _ _ _ B8 (pv 0) A8 (λ_ _=>rfl)) A3)) A8 (nomark _)) (Nq (Ef D2 (@As _ _ _ _ _ _ _ B9 (@As _ _ _ _ _ _ _ B8 (pv 0) A8 (λ_ _=>rfl)) A8 (λ_ _=>rfl)) (pv 2) (by with_unfolding_all rfl))))))))),?_⟩
 ext:4;ext;refine⟨_,.inr (SqT.of ht),?_⟩;rw[if_neg (by simp)];refine B6 (SqT.of ht) (Ai (j:=0) rfl) ⟨rfl,?_⟩;rw[if_neg (by simp)];ext:1;refine B6 (SqT.of ht) (Ai (j:=1) rfl) ⟨true,X6,?_⟩;rw[if_neg (by decide)];refine B6 (SqT.of ht) (Ai (j:=1) rfl) (Nd (SqL.of hly) ⟨rfl,?_⟩);rw[if_neg (by rw[hb];simp)];refine B6 (SqT.of ht) (Ai (j:=2) rfl) ⟨true,Pt hg,?_⟩;rw[if_neg (by decide)];ext:1;refine B6 (SqT.of ht) (Ai (j:=1) rfl) ⟨b,rfl,?_⟩;rw[hb]
 have nil_:∀H':Hp,l=[]->H'=H->Ja9 K (V.ref t) (V.int 2) H' λx H1=>0<=sizeLine/\∀(p:Addr),H1 p=none->∃r,EqQ K (upd H1 p (HO.lst [])) x (V.ref p) r/\Q (V.bl r) (upd H1 p (HO.lst [])):=by
  intro H' e eH;subst eH;refine B6 (SqT.of ht) (Ai (j:=2) rfl) ⟨FM _,λp hp=>⟨true,⟨g,p,[],[],rfl,rfl,.inl ⟨SqL.of ?_,SqL.of A1⟩,rfl,rfl,rfl⟩,q _ (A7.new hp)⟩⟩;rw[A2 (Ac hg hp),hg,e];rfl
 by_cases hz:z∈L
 . rw[if_pos (Fi hz)]
   exact nil_ H (hl1 (.inl hz)) rfl
 . rw[if_neg (by rw[Fk hz];decide)]
   refine⟨_,.inl (SqL.of hly),?_⟩;rw[Fa]
   by_cases hlt:(L.length:Int) < P'
   . rw[if_pos hlt]
     exact nil_ H (hl1 (.inr hlt)) rfl
   . rw[if_neg hlt]
     obtain⟨u,hu,e⟩:=hl2 (λh=>h.elim hz hlt);rw[e]at hg;ext:1;refine B6 (SqT.of ht) (Ai (j:=2) rfl) ⟨g,rfl,_,.inl (SqL.of hg),?_⟩;rw[if_pos (by simp)];refine B6 (SqT.of ht) (Ai (j:=2) rfl) (Bb (SqL.of hg) (v:=V.str u) (Ai (j:=0) rfl) (Nd (SqL.of hly) ?_));rw[Fi hu];exact q H (A7.refl H)
variable (Z37:Def P w K mg base CX0 1 "_law_row_holds" ["_law_line","_law_name","_law_lying","_law_places"] (Kg))
include T Z37 in
theorem Za1(F:Fun K "_law_walked" "_law_walked" Z6p f fd):Al P w K mg base CX0 2 f fd ["_law_book_here","_law_row","_law_costs","_law_places"] (Gb K):=by
 have sc:A9 ["_law_book_here","_law_row","_law_costs","_law_places","_law_lying","_law_told","_law_paid","_law_line","_law_name"] ["_law_book_here","_law_row","_law_costs","_law_places"] (A6 Z6p):=by ext:3
 ext:2
 . exact n11 h_ λ_ _ _ _ _ _ _ _ _ _ _=>rfl
 refine x11 h_ λb a co P' as gs ys ns rs L C e_=>y9 e_ λe0 hB hS hC hin hl hR hLl q=>?_;clear e_ h_;subst e0
 refine⟨_,(@A4 _ _ _ _ _ (Az (PW.pt (D5 (C8 (Bg (Aj Bm rfl T.Zh (by first | rfl | decide+kernel) (A0 (pv 0) (A0 (Da (v:= .ty "list") rfl T.Z0i (by first | rfl | decide+kernel) rfl) A3))))) (Dm (Ah Ko (Aj Ap rfl T.Zq FN (A0 (pv 0) A3)) (Aj Ap rfl T.Zq FN (A0 (pv 1) A3)) (nomark _)))))
  (@A5 _ _ _ (@Ag _ _ _ _ Cy))
  An)
  (@A4 _ _ _ _ _ (Aq (i:=4) sc.nd rfl (Or.inl rfl) (@Ck _ _ _ _ A3))
  (@A4 _ _ _ _ _ (Aq (i:=5) sc.nd rfl (Or.inl rfl) (@Ck _ _ _ _ A3))
  (@A4 _ _ _ _ _ (Aq (i:=6) sc.nd rfl (Or.inl rfl) A8)
  (@A4 _ _ _ _ _ (Ci PassesOwn.never rfl (Q2 rfl T.Z6k (A0 (pv 0) (A0 (pv 1) A3))) (Il rfl (Bc (Ay (i:=7) sc.nd rfl (Or.inr rfl)) (Bc (Ay (i:=8) sc.nd rfl (Or.inl rfl)) Ee)))
   (@A4 _ _ _ _ _ (Az (C8 (Bg (Ad Z37 hr rfl Ae (A0 (pv 7) (A0 (pv 8) (A0 (pv 4) (A0 (pv 3) A3)))))))
    (@A5 _ _ _ (@Ag _ _ _ _ Cy))
    An)
   (@A4 _ _ _ _ _ (J54 (i:=4) "_law_other" [7] sc.nd rfl rfl rfl rfl (Cs (pv 4)) (λb=>(Ah Ms (pv 0) (@As _ _ _ _ _ _ _ B8 (pv 1) A8 (λ_ _=>rfl)) (by with_unfolding_all rfl))) (λb=>(pv 0)))
   (@A4 _ _ _ _ _ (Az (C8 (Bg (@As _ _ _ _ _ _ _ B8 (pv 7) A8 (λ_ _=>rfl))))
    (@A4 _ _ _ _ _ (Ak (Dh FA FR FQ Bq (pv 4) (A0 (pv 8) A3)))
    (@A5 _ _ _ (Aq (i:=6) sc.nd rfl (Or.inl rfl) (Ao Bk (pv 6) (Ip (Bl hr) (pv 2) (pv 8) (λ_ _=>rfl))))))
    An)
   (@A5 _ _ _ (Ak (Dh FA FR FQ Bq (pv 5) (A0 (Ao Jab (pv 4) (@Ck _ _ _ _ A3)) A3))))))))
  (@A5 _ _ _ (@Ag _ _ _ _ (@Ck _ _ _ _ (A0 (pv 6) (A0 (pv 5) A3)))))))))),?_⟩
 ext:4;ext;refine⟨true,Pt hB.L,?_⟩;rw[if_neg (by decide)];refine⟨_,.inl (SqL.of hB.L),_,.inl hS,?_⟩;rw[if_neg (by rw[Fa,Fa,hB.ln,hR.1];simp)];ext:1;intro ly hly;have sm0:A7 H (upd H ly (.lst [])):=A7.new hly;have hly0:upd H ly (.lst []) ly=some (.lst []):=A1;generalize upd H ly (.lst [])=H0 at sm0 hly0 ⊢;ext:1;intro tl htl;have sm1:A7 H0 (upd H0 tl (.lst [])):=A7.new htl;have hly1:=sm1 _ _ hly0;have htl1:upd H0 tl (.lst []) tl=some (.lst []):=A1;have htlH:H tl=none:=Ar sm0 htl;have nlt:ly≠tl:=Ac hly0 htl;have sm01:=sm0.trans sm1;generalize upd H0 tl (.lst [])=H1 at sm01 hly1 htl1 ⊢;clear sm0 sm1 hly0 htl;ext:1;have hB1:=hB.same sm01;obtain⟨kc,hc1,hc2⟩:=hC;refine⟨⟨_,SqL.of hB1.L⟩,⟨_,sm01.seq hS⟩,?_⟩;rename_i rest hrest;refine Tp (xs:=as.map V.ref) (ys:=ys.map V.str) (by rw[Fa,Fa,hB.ln,hR.1]) (λi σ H'=>∃(ly:Addr) (qs:List Addr) (v7 v8:Option V),σ=[some (V.ref b),some (V.ref a),some (V.ref co),some (V.int P'),some (V.ref ly),some (V.ref tl),some (V.int (Cq C (rs.take i))),v7,v8]/\A7 H H'/\H' ly=some (.lst ((L i).map V.str))/\H ly=none/\ly≠tl/\tl∉qs/\Ov H' tl qs L i) ⟨ly,[],none,none,rfl,sm01,by rw[hR.2.1];exact hly1,hly,nlt,by simp,htl1,rfl,λj q h=>by simp at h⟩ (λi σ H' _ ⟨_,_,_,_,_,sm,_⟩=>⟨SqL.of (sm _ _ hB.L),sm.seq hS⟩) ?_ ?_
 . clear hrest hly1 hly nlt htl1 hB1 sm01
   rintro i x y σ H' t hx hy ⟨ly,qs,v7,v8,rfl,sm,hly',hlyH,nlt,ntq,hTl⟩ ht;rw[Fe]at hx hy
   cases ha:as[i]? with
   | none=>rw[ha]at hx;cases hx
   | some c=>
   cases hz:ys[i]? with
   | none=>rw[hz]at hy;cases hy
   | some z=>
   rw[ha]at hx;rw[hz]at hy;cases hx;cases hy
   have hil:i < rs.length:=by rw[<- hB.ln];exact(Fd.mp ha).1
   obtain⟨r,hr⟩:∃r,rs[i]?=some r:=⟨_,Fb hil⟩
   obtain⟨g,hg⟩:∃g,gs[i]?=some g:=⟨_,Fb (by rw[hB.m];exact hil)⟩
   have ez:ys.getD i Str.empty=z:=by rw[Fc,hz];rfl
   obtain⟨rp,hLP,hLn⟩:=hR.2.2 i r hr;rw[ez]at rp;obtain⟨hbt,hbg⟩:=hB.t i c g r ha hg hr
   have hpay:Cq C (rs.take (i+1))=Cq C (rs.take i)+if r.2.1 then 0 else C r.1:=by rw[Ha,hr];exact Ij
   have hzn:=hin z (Ff hz);have hLi:=hLl i (by have:=hR.1;omega);rw[hpay];clear hpay;have s1:A7 H' (upd H' t (.tup [V.ref c,V.str z])):=A7.new ht;have ht1:upd H' t (.tup [V.ref c,V.str z]) t=some (.tup [V.ref c,V.str z]):=A1;have sm1:=sm.trans s1;have hly1:=s1 _ _ hly';have hTl1:=hTl.same s1;generalize upd H' t (.tup [V.ref c,V.str z])=H2 at ht1 sm1 hly1 hTl1 ⊢;clear s1 ht hly' sm ez hTl;have hbt2:=sm1 _ _ hbt;have hbg2:=sm1 _ _ hbg;have er:r.1=z:=rp.n;have hrb:=rp.b;rw[er]at hbt2;ext;refine⟨_,SqT.of ht1,rfl,_,_,rfl,_,_,rfl,rfl,?_⟩;ext;refine⟨g,_,hbt2,_,hbg2,L i,hly1,hrb,by omega,λh=>?_,λh=>?_,λH3 sm3=>?_⟩
   . rcases h with h | h
     . exact(rp.hit h).1
     . by_cases hm:z∈L i
       . exact(rp.hit hm).1
       . exact(rp.few hm (by omega)).1
   . obtain⟨u,hu,e,_⟩:=rp.full (λhm=>h (.inl hm)) (λhf=>h (.inr (by omega)))
     exact⟨u,hu,e⟩
   have sm13:=sm1.trans sm3;have hly3:=sm3 _ _ hly1;have hTl3:=hTl1.same sm3;have hbt3:=sm3 _ _ hbt2;have hbg3:=sm3 _ _ hbg2;clear sm1 sm3 hly1 hTl1 hbt2 hbg2 ht1;ext:1;rename_i rest2 hrest2;refine⟨⟨_,SqL.of hly3⟩,Q6 (J9t r.2.2) id (SqL.of hly3) (by rw[Fa];omega) (λb x H5 QT hx s5 qt=>?_) (λb x H5 Q' hx hp s5 q'=>?_) λD H5 hD s5 hD5=>?_⟩
   . obtain⟨u,hu,rfl⟩:=FH.mp hx
     ext;refine B6 (SqT.of (s5 _ _ hbt3)) (Ai (j:=2) rfl) (Vu (SqL.of (s5 _ _ hbg3)) ⟨_,rfl,?_⟩);exact qt _ (A7.refl _)
   . ext
     exact q' _ (A7.refl _)
   rw[Xv]at hD5;have hnext:=Xw rp hLn;have hDH:=Ar sm13 hD;have hml:((L i).filter λu=>!decide (u∈r.2.2)).length<=200:=FO (R3 _ _) hLi;generalize (L i).filter (λu=>!decide (u∈r.2.2))=Lm at hD5 hnext hml;have sm15:=sm13.trans s5;have hTl5:=hTl3.same s5;have hbt5:=s5 _ _ hbt3
   have nDt:D≠tl:=λe=>by rw[e,hTl3.l]at hD;cases hD
   have nDq:D∉qs:=λh=>by
    obtain⟨j,hj⟩:=FC.mp h;rw[hTl3.q j D hj]at hD;cases hD
   have hqn:=hTl5.n;clear hTl3 hbt3 hbg3 s5 sm13 hly3 hD nlt hlyH;subst hrest2;ext;refine B6 (SqT.of hbt5) (Ai (j:=1) rfl) ⟨_,rfl,?_⟩;rename_i rest2 hrest2
   have hi2:i<=200:=by have:=hR.1;omega
   have hL2:=hLl (i+1) (by have:=hR.1;omega)
   have fin:∀(pd:Int) (H6:Hp),A7 H H6->H6 D=some (.lst ((L (i+1)).map V.str))->Ov H6 tl qs L i->pd=Cq C (rs.take i)+(if r.2.1 then 0 else C r.1)->rest2 [some (V.ref b),some (V.ref a),some (V.ref co),some (V.int P'),some (V.ref D),some (V.ref tl),some (V.int pd),some (V.ref c),some (V.str z)] H6:=by
    intro pd H6 s6 hD6 hT6 hpd;clear hD5 hTl5 hbt5;subst hrest2;rw[<- hpd];clear hpd;ext;refine⟨.inl ⟨rfl,_,SqL.of hT6.l⟩,FM _,λp hp=>?_⟩;have s7:A7 H6 (upd H6 p (.lst [])):=A7.new hp;have hp7:upd H6 p (.lst []) p=some (.lst []):=A1;have hD7:=s7 _ _ hD6;have hT7:=hT6.same s7;have s07:=s6.trans s7;generalize upd H6 p (.lst [])=H7 at hp7 hD7 hT7 s07 ⊢;refine⟨_,hD7,_,hp7,by rw[Fa];simp;omega,λp2 hp2=>?_⟩;rw[Hd];have s8:A7 H7 (upd H7 p2 (.lst ((L (i+1)).map V.str))):=A7.new hp2;have hp8:upd H7 p2 (.lst ((L (i+1)).map V.str)) p2=some (.lst ((L (i+1)).map V.str)):=A1;have hD8:=s8 _ _ hD7;have hT8:=hT7.same s8;have s08:=s07.trans s8
    have ntp:tl≠p2:=λe=>by rw[<- e,hT7.l]at hp2;cases hp2
    generalize upd H7 p2 (.lst ((L (i+1)).map V.str))=H8 at hp8 hD8 hT8 s08 ⊢;refine⟨tl,_,_,rfl,rfl,hT8.l,by rw[Fa];omega,Cd s08 htlH,?_,hDH,nDt,qs++[p2],λh=>?_,hT8.snoc hp8 ntp ntq⟩
    . rw[A2 nDt];exact hD8
    . rcases FL.mp h with h | h
      . exact ntq h
      . exact ntp (Fj.mp h)
   cases hb2:r.2.1 with
   | true=>
    rw[hb2,if_pos rfl]at hnext;rw[if_neg (by decide)];exact fin _ _ sm15 (by rw[hnext];exact hD5) hTl5 (by rw[hb2];simp)
   | false=>
    rw[hb2,if_neg (by decide)]at hnext
    have gC:∀H3,A7 H H3->Cp H3 co (.str z) (some (.int (C z))):=λH3 s3=>by rw[<- hc2 z hzn];exact Cp.k (k:=Sum.inr z) (s3 _ _ hc1)
    rw[if_pos rfl];ext;refine⟨.inl ⟨rfl,_,SqL.of hD5⟩,D,_,_,rfl,rfl,hD5,by rw[Fa];omega,?_⟩;have smA:A7 H (upd H5 D (.lst (Lm.map V.str++[V.str z]))):=Cd sm15 hDH
    have hlA:upd H5 D (.lst (Lm.map V.str++[V.str z])) D=some (.lst ((L (i+1)).map V.str)):=by rw[A1,hnext,Fo];rfl
    have hTA:Ov (upd H5 D (.lst (Lm.map V.str++[V.str z]))) tl qs L i:=⟨by rw[A2 nDt.symm];exact hTl5.l,hTl5.n,λj q hj=>by rw[A2 (λe=>nDq (by rw[<- e];exact Ff hj))];exact hTl5.q j q hj⟩
    generalize upd H5 D (.lst (Lm.map V.str++[V.str z]))=HA at smA hlA hTA ⊢;ext:1;exact⟨_,gC HA smA,_,rfl,fin _ _ smA hlA hTA (by rw[hb2,er];simp)⟩
 . rintro σ H' ⟨ly,qs,v7,v8,rfl,sm,hly',hlyH,nlt,ntq,hTl⟩
   rw[Fa,hB.ln]at hTl ⊢;rw[HU];subst hrest;ext;intro x hx;have sx:A7 H' (upd H' x (.lst [V.int (Cq C rs),V.ref tl])):=A7.new hx;exact q x tl qs _ (sm.trans sx) A1 (by rw[hR.1]at hTl;exact hTl.same sx)
variable (Z10:Def P w K mg base CX0 2 "_law_walked" ["_law_book_here","_law_row","_law_costs","_law_places"] (Gb K))
include T Z1a in
theorem Zak(F:Fun K "_law_floor" "_law_floor" Z7b f fd):Al P w K mg base CX0 2 f fd ["_law_row","_law_costs","_law_places","_law_prices"] (Kh K):=by
 have sc:A9 ["_law_row","_law_costs","_law_places","_law_prices","_law_tops","_law_price","_law_last","_law_total","_law_at"] ["_law_row","_law_costs","_law_places","_law_prices"] (A6 Z7b):=by ext:3
 ext:2
 . exact n9 h_ λ_ _ _ _ _ _ _ _ _=>rfl
 refine x9 h_ λa co p P' ys ns C ps q0 e_=>y14 e_ λe0 hS hl hC hin hcr hP0 hP1 hp hpl hT hq hWb q=>?_;clear e_ h_;subst e0
 refine⟨_,(@A4 _ _ _ _ _ (Az (PW.pt (D5 (C8 (Bg (Aj Bm rfl T.Zh (by first | rfl | decide+kernel) (A0 (pv 3) (A0 (Da (v:= .ty "list") rfl T.Z0i (by first | rfl | decide+kernel) rfl) A3))))) (Dm (Ah Ko (Aj Ap rfl T.Zq FN (A0 (pv 3) A3)) (Aj Ap rfl T.Zq FN (A0 (pv 0) A3)) (nomark _)))))
  (@A5 _ _ _ (@Ag _ _ _ _ Cy))
  An)
  (@A4 _ _ _ _ _ (Aq (i:=4) sc.nd rfl (Or.inl rfl) (@Ck _ _ _ _ A3))
  (@A4 _ _ _ _ _ (Ci PassesOwn.never rfl (Cs (pv 3)) (Ay (i:=5) sc.nd rfl (Or.inl rfl))
   (@A4 _ _ _ _ _ (Az (PW.pt (D5 (C8 (Bg (Aj Bm rfl T.Zh (by first | rfl | decide+kernel) (A0 (pv 5) (A0 (Da (v:= .ty "tuple") rfl T.Z6f (by first | rfl | decide+kernel) rfl) A3))))) (D5 (Ah Ko (Aj Ap rfl T.Zq FN (A0 (pv 5) A3)) A8 (nomark _)) (D5 (C8 (Bg (Ad Z1a hr rfl Ae (A0 (@As _ _ _ _ _ _ _ B8 (pv 5) A8 (λ_ _=>rfl)) A3)))) (Dm (Ah Ml (@As _ _ _ _ _ _ _ B8 (pv 5) A8 (λ_ _=>rfl)) A8 (nomark _)))))))
    (@A5 _ _ _ (@Ag _ _ _ _ Cy))
    An)
   (@A4 _ _ _ _ _ (Az (PW.pt (D5 (C8 (Bg (Ad Z1a hr rfl Ae (A0 (@As _ _ _ _ _ _ _ B8 (pv 5) A8 (λ_ _=>rfl)) A3)))) (Dm (Ah Ko (@As _ _ _ _ _ _ _ B8 (pv 5) A8 (λ_ _=>rfl)) A8 (nomark _)))))
    (@A5 _ _ _ (@Ag _ _ _ _ Cy))
    An)
   (@A5 _ _ _ (Ak (Dh FA FR FQ Bq (pv 4) (A0 (@As _ _ _ _ _ _ _ B8 (pv 5) A8 (λ_ _=>rfl)) A3)))))))
  (@A4 _ _ _ _ _ (Aq (i:=6) sc.nd rfl (Or.inl rfl) D0)
  (@A4 _ _ _ _ _ (Aq (i:=7) sc.nd rfl (Or.inl rfl) (Ao E9 A8 (Ao Ya (Ao E9 (pv 2) A8) (Aj (O2 rfl) rfl T.Z7g (by first | rfl | decide+kernel) (A0 (pv 4) A3)))))
  (@A4 _ _ _ _ _ (Ci PassesOwn.never rfl (Cu rfl T.Z0m (A0 (Aj Ap rfl T.Zq FN (A0 (pv 0) A3)) A3)) (Ay (i:=8) sc.nd rfl (Or.inl rfl))
   (@A4 _ _ _ _ _ (Az (Pf (Nx (Bl hr) (@As _ _ _ _ _ _ _ B9 (pv 0) (pv 8) (λ_ _=>rfl)) (pv 6)))
    (@A5 _ _ _ (Aq (i:=7) sc.nd rfl (Or.inl rfl) (Ao Bk (pv 7) (Aj (Qu rfl) rfl T.Z52 (by first | rfl | decide+kernel) (A0 (Ip (Bl hr) (pv 1) (@As _ _ _ _ _ _ _ B9 (pv 0) (pv 8) (λ_ _=>rfl)) (λ_ _=>rfl)) (A0 (Aj (O2 rfl) rfl T.Z7g (by first | rfl | decide+kernel) (A0 (Mq Ta (pv 4) (L9 (Ao Bk (Ip (Bl hr) (pv 6) (@As _ _ _ _ _ _ _ B9 (pv 0) (pv 8) (λ_ _=>rfl)) (λ_ _=>rfl)) A8)) (L9 (pv 8))) A3)) A3))))))
    (@A5 _ _ _ (Aq (i:=7) sc.nd rfl (Or.inl rfl) (Ao Bk (pv 7) (Ip (Bl hr) (pv 1) (@As _ _ _ _ _ _ _ B9 (pv 0) (pv 8) (λ_ _=>rfl)) (λ_ _=>rfl))))))
   (@A5 _ _ _ (Cf (Bl hr) (pv 6) (@As _ _ _ _ _ _ _ B9 (pv 0) (pv 8) (λ_ _=>rfl)) (pv 8) rfl))))
  (@A5 _ _ _ (@Ag _ _ _ _ (pv 7))))))))),?_⟩
 ext:4;ext;refine⟨_,.inl (SqL.of hp),_,.inl hS,?_⟩;rw[if_neg (by rw[Fa,Fa,hpl];simp)];ext:1;intro tl htl;have sm0:A7 H (upd H tl (.lst [])):=A7.new htl;have ht0:upd H tl (.lst []) tl=some (.lst []):=A1;generalize upd H tl (.lst [])=H1 at sm0 ht0 ⊢;ext:1;refine⟨⟨_,SqL.of (sm0 _ _ hp)⟩,?_⟩;rename_i rest hrest;refine Iq (xs:=ps.map V.ref) (λi σ H'=>∃(v5:Option V),σ=[some (V.ref a),some (V.ref co),some (V.int P'),some (V.ref p),some (V.ref tl),v5,none,none,none]/\A7 H H'/\H' tl=some (.lst ((C6 q0 i).map V.int))) ⟨none,rfl,sm0,ht0⟩ (λi σ H' _ ⟨_,_,sm,_⟩=>SqL.of (sm _ _ hp)) ?_ ?_
 . clear hrest
   rintro i x σ H' hx ⟨v3,rfl,sm,ht'⟩;rw[Fe]at hx
   cases ha:ps[i]? with
   | none=>rw[ha]at hx;cases hx
   | some c=>
   rw[ha]at hx;cases hx;have hil:=(Fd.mp ha).1;have hc:H' c=some (.tup [V.int (q0 (i+1) - q0 i),V.int 1]):=sm _ _ (hT i c ha);have hqi:=hq i hil;ext;refine⟨_,.inr (SqT.of hc),?_⟩;rw[if_neg (by simp)];refine B6 (SqT.of hc) (Ai (j:=0) rfl) ⟨_,rfl,B6 (SqT.of hc) (Ai (j:=0) rfl) ⟨_,rfl,?_⟩⟩;rw[if_neg (by omega)];ext:1;refine B6 (SqT.of hc) (Ai (j:=1) rfl) ⟨_,rfl,B6 (SqT.of hc) (Ai (j:=1) rfl) ⟨rfl,?_⟩⟩;rw[if_neg (by simp)]
   have er:C6 q0 (i+1)=C6 q0 i++[q0 (i+1) - q0 i]:=by unfold C6;rw[Hj,Fo];rfl
   have erl:=Nn (q:=q0) (N:=i);ext:1;rw[er,Fo];exact⟨.inl ⟨rfl,_,SqL.of ht'⟩,B6 (SqT.of hc) (Ai (j:=0) rfl) ⟨tl,_,_,rfl,rfl,ht',by rw[Fa,erl];omega,Cd sm htl,A1⟩⟩
 . rintro σ H' ⟨v5,rfl,sm,ht'⟩
   rw[Fa,hpl]at ht';have hWl:(C6 q0 ys.length).length=ys.length:=Nn;generalize C6 q0 ys.length=W at ht' hWb hWl q;subst hrest;obtain⟨kc,hc1,hc2⟩:=hC;ext;intro d hd;have s1:A7 H' (upd H' d (.dK [])):=A7.new hd;have hd1:upd H' d (.dK []) d=some (.dK []):=A1;have sm1:=sm.trans s1;have ht1:=s1 _ _ ht';have hdH:H d=none:=Ar sm hd;generalize upd H' d (.dK [])=H1 at sm1 hd1 ht1 ⊢;clear s1 ht' sm;ext:1
   have hsum:0<=W.sum/\W.sum<=200 * 10 ^ 71:=by
    have h:=Jb2 hWb (by omega) (a:=0) (b:=W.length)
    have e:seg W 0 W.length=W.sum:=by unfold seg;rw[HU,List.drop_zero]
    rw[e]at h;exact h
   refine⟨W,SqL.of ht1,⟨by omega,by omega⟩,?_⟩;ext:1;rename_i rest hrest;refine⟨_,.inl (sm1.seq hS),by rw[Fa];omega,by rw[Fa];omega,?_⟩;rw[Fa];refine Ex (λi σ H'=>∃(kvs:List (Key×V)) (v8:Option V),σ=[some (V.ref a),some (V.ref co),some (V.int P'),some (V.ref p),some (V.ref tl),v5,some (V.ref d),some (V.int (gl C W ys i - (P' - 1) * W.sum)),v8]/\A7 H H'/\H' tl=some (.lst (W.map V.int))/\H' d=some (.dK kvs)/\kvs.length<=i/\(∀z,Aw kvs (Sum.inr z)=(Ax ys z i).map λj=>V.int (j:Int))) ⟨[],none,rfl,sm1,ht1,hd1,Fg _,λz=>rfl⟩ ?_ ?_
   . clear hrest
     rintro i σ H' hil ⟨kvs,v8,rfl,sm,ht',hd',hkl,hkv⟩;have hy:=C9 hil;have hyn:=hin _ (Ff hy);obtain⟨c0,c1⟩:=hcr _ hyn;have hya:atI (ys.map V.str) (i:Int)=some (V.str (ys.getD i Str.empty)):=Ai (by rw[Fe,hy];rfl)
     have gC:Cp H' co (.str (ys.getD i Str.empty)) (some (.int (C (ys.getD i Str.empty)))):=by rw[<- hc2 _ hyn];exact Cp.k (k:=Sum.inr (ys.getD i Str.empty)) (sm _ _ hc1)
     have gL:=Cp.k (k:=Sum.inr (ys.getD i Str.empty)) hd'
     have ntd:tl≠d:=λe=>by rw[e,hd']at ht';cases ht'
     have hkv2:Aw kvs (Sum.inr (ys.getD i Str.empty))=Option.map (λj:Nat=>V.int (j:Int)) (N32.Ax ys (ys.getD i Str.empty) i):=by rw[hkv];cases N32.Ax ys (ys.getD i Str.empty) i <;> rfl
     rw[hkv2]at gL;have hputl:=Bf kvs (Sum.inr (ys.getD i Str.empty):Key) (V.int (i:Int));have eg:gl C W ys (i+1)=gl C W ys i+Bo C (λ_=>1) W 1 ys i:=rfl;ext;refine Bb (sm.seq hS) hya ⟨_,gL,?_⟩
     cases hee:N32.Ax ys (ys.getD i Str.empty) i with
     | none=>
      have eL:Bo C (λ_=>1) W 1 ys i=C (ys.getD i Str.empty) * 1:=by unfold Bo ear;rw[hee]
      rw[hee]at gL;rw[if_neg (by simp)];refine Bb (sm.seq hS) hya ⟨_,gC,_,rfl,?_⟩;ext:1;refine Bb (sm.seq hS) hya ⟨_,Eu.k (k:=Sum.inr (ys.getD i Str.empty)) hd' (by omega),?_⟩;exact⟨by rw[eg,eL,Int.mul_one];omega,Cd sm hdH,by rw[A2 ntd];exact ht',_,A1,by omega,N32.Q3 hkv⟩
     | some b=>
      have hb:=(E2 hee).1
      have eL:Bo C (λ_=>1) W 1 ys i=min (C (ys.getD i Str.empty) * 1) (1 * seg W (b+1) i):=by unfold Bo ear;rw[hee]
      rw[hee]at gL;rw[if_pos (by simp)];refine Bb (sm.seq hS) hya ⟨_,gC,Bb (sm.seq hS) hya ⟨_,gL,b,rfl,_,SqL.of ht',λp2 hp2=>?_⟩⟩;rw[show ((b:Int)+1)=((b+1:Nat):Int) by omega,J7t (by omega) (by omega)];have s2:A7 H' (upd H' p2 (.lst (((W.take i).drop (b+1)).map V.int))):=A7.new hp2;refine⟨(W.take i).drop (b+1),SqL.of A1,_,rfl,?_⟩;have sm2:=sm.trans s2;have ht2:=s2 _ _ ht';have hd2:=s2 _ _ hd';generalize upd H' p2 (.lst (((W.take i).drop (b+1)).map V.int))=H2 at sm2 ht2 hd2 ⊢;ext:1;refine Bb (sm2.seq hS) hya ⟨_,Eu.k (k:=Sum.inr (ys.getD i Str.empty)) hd2 (by omega),?_⟩;refine⟨?_,Cd sm2 hdH,by rw[A2 ntd];exact ht2,_,A1,by omega,N32.Q3 hkv⟩;rw[eg,eL,Int.mul_one,Int.one_mul,Jb3];show _+min _ (seg W (b+1) i)=_;omega
   . rintro σ H' ⟨kvs,v8,rfl,sm,ht',hd',hkl,hkv⟩
     have e:=J9r (C:=C) (W:=W) (P:=P') (ys:=ys) ys.length;rw[Ho (by omega)]at e;subst hrest;ext;rw[<- e];exact q H' sm
variable (Z5y:Def P w K mg base CX0 2 "_law_floor" ["_law_row","_law_costs","_law_places","_law_prices"] (Kh K))
include T Z5w Z1a Z10 Z5y in
theorem Zas(F:Fun K "_law_best" "_law_best" Z7r f fd):Al P w K mg base CX0 10 f fd ["_law_stock","_law_row","_law_costs","_law_places"] (Ma 432 (⟨174,25,174,57⟩:Pos) (("paid_by"++".<locals>.")++"<lambda>") K Z7 Z2):=by
 have sc:A9 ["_law_stock","_law_row","_law_costs","_law_places","_law_found","_law_walked_here"] ["_law_stock","_law_row","_law_costs","_law_places"] (A6 Z7r):=by ext:3
 ext:2
 . exact n8 h_ λ_ _ _ _ _ _ _ _=>rfl
 refine x8 h_ λst a co P' ts ys ns C e_=>y11 e_ λe0 ok hyl so hC hin hcr hP1 hP2 hL q=>?_;clear e_ h_;subst e0
 refine⟨_,(@A4 _ _ _ _ _ (Aq (i:=4) sc.nd rfl (Or.inl rfl) (Ad Z5w hr rfl Ae (A0 (pv 0) (A0 (Cm Bw rfl T.Z0i (by first | rfl | decide+kernel) (A0 (pv 1) A3)) (A0 (pv 3) A3)))))
  (@A4 _ _ _ _ _ (Az (PW.pt (D5 (C8 (Bg (Aj Bm rfl T.Zh (by first | rfl | decide+kernel) (A0 (pv 4) (A0 (Da (v:= .ty "tuple") rfl T.Z6f (by first | rfl | decide+kernel) rfl) A3))))) (D5 (Ah Ko (Aj Ap rfl T.Zq FN (A0 (pv 4) A3)) A8 (nomark _)) (Dm (C8 (Bg (Ad Z1a hr rfl Ae (A0 (@As _ _ _ _ _ _ _ B8 (pv 4) A8 (λ_ _=>rfl)) A3))))))))
   (@A5 _ _ _ (@Ag _ _ _ _ Cy))
   An)
  (@A4 _ _ _ _ _ (Aq (i:=5) sc.nd rfl (Or.inl rfl) (Ad Z10 hr rfl Ae (A0 (@As _ _ _ _ _ _ _ B8 (pv 4) A8 (λ_ _=>rfl)) (A0 (pv 1) (A0 (pv 2) (A0 (pv 3) A3))))))
  (@A4 _ _ _ _ _ (Az (PW.pt (D5 (Ah Pk (pv 5) Cy (nomark _)) (D5 (Ah Ko (@As _ _ _ _ _ _ _ B9 (pv 5) A8 (λ_ _=>rfl)) (@As _ _ _ _ _ _ _ B8 (pv 4) A8 (λ_ _=>rfl)) (nomark _)) (Dm (Ah Ko (Ad Z5y hr rfl Ae (A0 (pv 1) (A0 (pv 2) (A0 (pv 3) (A0 (@As _ _ _ _ _ _ _ B8 (pv 4) A8 (λ_ _=>rfl)) A3))))) (@As _ _ _ _ _ _ _ B8 (pv 4) A8 (λ_ _=>rfl)) (nomark _))))))
   (@A5 _ _ _ (@Ag _ _ _ _ Cy))
   An)
  (@A5 _ _ _ (@Ag _ _ _ _ (@As _ _ _ _ _ _ _ B8 (pv 4) A8 (λ_ _=>rfl)))))))),?_⟩
 ext:4;ext;refine⟨_,.inl (SqL.of ok.a),λha hha=>?_⟩;have sm9:A7 H (upd H ha (.lst (ys.map V.str))):=A7.new hha;have hha9:upd H ha (.lst (ys.map V.str)) ha=some (.lst (ys.map V.str)):=A1
 have hL9:D6 432 (⟨174,25,174,57⟩:Pos) (("paid_by"++".<locals>.")++"<lambda>") (upd H ha (.lst (ys.map V.str))):=by
  rcases hL with h | ⟨c,h1,h2⟩
  . exact .inl (sm9 _ _ h)
  . exact .inr ⟨c,sm9 _ _ h1,sm9 _ _ h2⟩
 generalize upd H ha (.lst (ys.map V.str))=HG at sm9 hha9 hL9 ⊢;have hrz:∀y∈ys,rm ts y=1:=λy hy=>so.r y (hin y hy);have hiz:∀y∈ys,y∈ts.map (·.1):=λy hy=>so.i y (hin y hy)
 have okc:∀y∈ys,0<=N41.cst ts y:=λy hy=>by rw[so.c y (hin y hy)];exact(hcr y (hin y hy)).1
 refine⟨P',rfl,ts,Av.same sm9 ok.s,so.nd,by have:=so.l;omega,ys,hha9,hyl,hiz,hrz,okc,hP1,hP2,hL9,λt bk pr bas bgs pas tk h HI tkI ht hbk hpr hbas hbgs ndg nbg npg nbp htI hBI hprI hpl hpt hFl hFE hpi=>?_⟩;ext:1;refine⟨_,.inr (SqT.of htI),?_⟩;rw[if_neg (by simp)];refine B6 (SqT.of htI) (Ai (j:=0) rfl) ⟨_,rfl,?_⟩;have okI:=hin;ext:1;have hrw:=J9o (X:=Z2) hFE hP1 hrz okc hiz;have hCI:E3 HI co ns C:=Qk tkI hL9 (hC.same sm9);have haI:HI a=some (.lst (ys.map V.str)):=tkI.lst hL9 (sm9 _ _ ok.a);have tkF:N55.Tk 432 (⟨174,25,174,57⟩:Pos) (("paid_by"++".<locals>.")++"<lambda>") H HI:=(N55.Tk.of hL sm9).trans tkI;refine B6 (SqT.of htI) (Ai (j:=1) rfl) ⟨bk,rfl,P',rfl,bas,bgs,ys,ns,_,hBI,SqL.of haI,_,C,hCI,hin,by omega,hrw,λi hi=>FO (J8m hP1 hrz hiz hi) (by have:=so.l;omega),λx tl qs HJ smJ hxJ hTJ=>?_⟩;rw[Jd6 so hin]at hxJ;have htJ:=smJ _ _ htI;ext:1;have hq0:∀i,i < pas.length->at' h i<=at' h (i+1):=λi hi=>hFE.up i (by omega)
 refine Bb (SqL.of hxJ) (v:=V.int (Cq (N41.cst ts) (rwP Z2 ts P' ys tk))) (Ai (j:=0) rfl) (B6 (SqT.of htJ) (v:=V.int (Cq (N41.cst ts) (rwP Z2 ts P' ys tk))) (Ai (j:=0) rfl) ⟨rfl,?_⟩);rw[if_neg (by simp)];have hbd:=J8n (C:=N41.cst ts) hFE hpi hyl (λy hy=>by rw[so.c y (hin y hy)];exact hcr y (hin y hy));have hfl:=Xt (X:=Z2) (C:=C) hFE hP1 hrz okc hiz (λy hy=>so.c y (hin y hy));refine B6 (SqT.of htJ) (Ai (j:=2) rfl) ⟨pr,rfl,ys,SqL.of (smJ _ _ haI),by omega,ns,C,hCI.same smJ,hin,hcr,by omega,by omega,pas,smJ _ _ hprI,hpl,at' h,λi c hi=>smJ _ _ (hpt i c hi),hq0,hbd,λHK smK=>?_⟩;have htK:=smK _ _ htJ;refine B6 (SqT.of htK) (v:=V.int (Cq (N41.cst ts) (rwP Z2 ts P' ys tk))) (Ai (j:=0) rfl) ⟨rfl,?_⟩;rw[if_neg (by rw[hfl];simp)];ext:1;refine B6 (SqT.of htK) (Ai (j:=0) rfl) ?_;exact q tk h HK (tkF.trans (N55.Tk.of tkF.lam (smJ.trans smK))) hFE
variable (Z5n:Def P w K mg base CX0 10 "_law_best" ["_law_stock","_law_row","_law_costs","_law_places"] (Ma 432 (⟨174,25,174,57⟩:Pos) (("paid_by"++".<locals>.")++"<lambda>") K Z7 Z2))
include T in
theorem Za2(F:Fun K "_law_within" "_law_within" Z6q f fd):Al P w K mg base CX0 1 f fd ["_law_ones","_law_others"] (Gd):=by
 have sc:A9 ["_law_ones","_law_others","_law_some","_law_more","_law_name"] ["_law_ones","_law_others"] (A6 Z6q):=by ext:3
 ext:2
 . exact n7 h_ λ_ _ _ _ _ _ _=>rfl
 refine x7 h_ λa b as bs A' B' n e_=>y7 e_ λe0 hA hB hn hin hl q=>?_;clear e_ h_;subst e0
 refine⟨_,(@A4 _ _ _ _ _ (Ci PassesOwn.never rfl (Q2 rfl T.Z6k (A0 (pv 0) (A0 (pv 1) A3))) (Il rfl (Bc (Ay (i:=2) sc.nd rfl (Or.inl rfl)) (Bc (Ay (i:=3) sc.nd rfl (Or.inl rfl)) Ee)))
  (@A5 _ _ _ (Ci PassesOwn.never rfl (Cs (pv 2)) (Ay (i:=4) sc.nd rfl (Or.inl rfl))
   (@A5 _ _ _ (Az (Ah Ms (pv 4) (pv 3) (by with_unfolding_all rfl))
    (@A5 _ _ _ (@Ag _ _ _ _ Dl))
    An)))))
  (@A5 _ _ _ (@Ag _ _ _ _ Dl))),?_⟩
 ext:4;ext;rename_i rest hrest;refine⟨⟨_,SqL.of hA.l⟩,⟨_,SqL.of hB.l⟩,?_⟩;refine Tp (xs:=as.map V.ref) (ys:=bs.map V.ref) (by rw[Fa,Fa,hA.n,hB.n]) (λi σ H'=>∃(v2 v3 v4:Option V),σ=[some (V.ref a),some (V.ref b),v2,v3,v4]/\A7 H H') ⟨none,none,none,rfl,A7.refl H⟩ (λi σ H' _ ⟨_,_,_,_,sm⟩=>⟨SqL.of (sm _ _ hA.l),SqL.of (sm _ _ hB.l)⟩) ?_ ?_
 . clear hrest
   rintro i x y σ H' t hx hy ⟨v2,v3,v4,rfl,sm⟩ ht;rw[Fe]at hx hy
   cases ha:as[i]? with
   | none=>rw[ha]at hx;cases hx
   | some c=>
   cases hb:bs[i]? with
   | none=>rw[hb]at hy;cases hy
   | some e=>
   rw[ha]at hx;rw[hb]at hy;cases hx;cases hy
   have hil:i < n:=by rw[<- hA.n];exact(Fd.mp ha).1
   have hc:=sm _ _ (hA.q i c ha);have he:=sm _ _ (hB.q i e hb);have s1:A7 H' (upd H' t (.tup [V.ref c,V.ref e])):=A7.new ht;have ht1:upd H' t (.tup [V.ref c,V.ref e]) t=some (.tup [V.ref c,V.ref e]):=A1;have sm1:=sm.trans s1;have hc1:=s1 _ _ hc;have he1:=s1 _ _ he;generalize upd H' t (.tup [V.ref c,V.ref e])=H2 at ht1 sm1 hc1 he1 ⊢;clear s1 ht sm hc he;ext;refine⟨_,SqT.of ht1,rfl,_,_,rfl,_,_,rfl,rfl,?_⟩;ext;refine⟨⟨_,SqL.of hc1⟩,Iq (xs:=(A' (i+1)).map V.str) (λj σ H'=>∃v4:Option V,σ=[some (V.ref a),some (V.ref b),some (V.ref c),some (V.ref e),v4]/\H'=H2) ⟨v4,rfl,rfl⟩ (λj σ H' _ ⟨_,_,e⟩=>by rw[e];exact SqL.of hc1) ?_ ?_⟩
   . rintro j u σ H' hu ⟨w4,rfl,rfl⟩
     obtain⟨y,hy,rfl⟩:=FH.mp (Ff hu);have hy2:=hin (i+1) (by omega) y hy;ext;refine Vu (SqL.of he1) ⟨_,rfl,?_⟩;simp[hy2]
   . rintro σ H' ⟨w4,rfl,rfl⟩
     exact⟨_,_,_,rfl,sm1⟩
 . rintro σ H' ⟨v2,v3,v4,rfl,sm⟩
   subst hrest;ext;exact q H' sm
variable (Z57:Def P w K mg base CX0 1 "_law_within" ["_law_ones","_law_others"] (Gd))
include T Z2a Z5x Z3s Z5n Z5m Z10 Z57 in
theorem Zb5(F:Fun K "law" "law" Z53 f fd):Al P w K mg base CX0 12 f fd ["_law_script"] (L8 432 K):=by
 have sc:A9 ["_law_script","_law_many","_law_names_here","_law_dearest","_law_costs","_law_k","_law_stock","_law_row","_law_places","_law_least","_law_more","_law_kind","_law_walked_here","_law_other"] ["_law_script"] (A6 Z53):=by ext:3
 ext:2
 . exact n2 h_ λ_ _=>rfl
 refine x2 h_ λa ns e_=>y5 e_ λe0 hS hl hP q=>?_;clear e_ h_;subst e0
 refine⟨_,(@A4 _ _ _ _ _ (Aq (i:=1) sc.nd rfl (Or.inr rfl) (Ao Bk A8 (Ao Dn (Ad Z2a hr rfl Ae (A0 (pv 0) (A0 A8 A3))) A8)))
  (@A4 _ _ _ _ _ (Aq (i:=2) sc.nd rfl (Or.inr rfl) (Ad Z5x hr rfl Ae (A0 (Ad Z2a hr rfl Ae (A0 (pv 0) (A0 A8 A3))) (A0 (pv 1) A3))))
  (@A4 _ _ _ _ _ (Aq (i:=3) sc.nd rfl (Or.inl rfl) (@As _ _ _ _ _ _ _ B9 (@Ck _ _ _ _ (A0 A8 (A0 (Ao Bk (Ao J2l A8 A8) A8) A3))) (Ao Dn (Ad Z2a hr rfl Ae (A0 (pv 0) (A0 A8 A3))) A8) (λ_ _=>rfl)))
  (@A4 _ _ _ _ _ (Aq (i:=4) sc.nd rfl (Or.inr rfl) D0)
  (@A4 _ _ _ _ _ (Ci PassesOwn.never rfl (Cu rfl T.Z0m (A0 (pv 1) A3)) (Ay (i:=5) sc.nd rfl (Or.inl rfl))
   (@A5 _ _ _ (Cf (Bl hr) (pv 4) (@As _ _ _ _ _ _ _ B9 (pv 2) (pv 5) (λ_ _=>rfl)) (Ao Dn (Ao Bk (Ao Mw (Ao Io (Ad Z2a hr rfl Ae (A0 (pv 0) (A0 A8 A3))) A8) (Ao Bk (pv 5) A8)) (Ao Ww (Ao Ya (pv 5) (pv 5)) A8)) (pv 3)) rfl)))
  (@A4 _ _ _ _ _ (Aq (i:=6) sc.nd rfl (Or.inl rfl) (Dq Z3s hr rfl (B4 Ae) (A0 (Gp "_law_name" [4] rfl rfl (Cs (pv 2)) (λb=>(Cj (A0 (pv 0) (A0 (Ip (Bl hr) (pv 1) (pv 0) (λ_ _=>rfl)) (A0 A8 A3)))))) A3)))
  (@A4 _ _ _ _ _ (J41 (i:=7) "_law_x" [2,1] sc.nd rfl rfl rfl rfl (Cs (Mq Ta (pv 0) (L9 A8) (L9 A8))) (λb=>(@As _ _ _ _ _ _ _ B9 (pv 1) (Ao Dn (pv 0) (pv 2)) (λ_ _=>rfl))))
  (@A4 _ _ _ _ _ (Aq (i:=8) sc.nd rfl (Or.inl rfl) (Ao Bk A8 (Ao Dn (Ad Z2a hr rfl Ae (A0 (pv 0) (A0 A8 A3))) A8)))
  (@A4 _ _ _ _ _ (Aq (i:=9) sc.nd rfl (Or.inl rfl) (Ad Z5n hr rfl Ae (A0 (pv 6) (A0 (pv 7) (A0 (pv 4) (A0 (pv 8) A3))))))
  (@A4 _ _ _ _ _ (Aq (i:=10) sc.nd rfl (Or.inl rfl) (Ad Z5n hr rfl Ae (A0 (pv 6) (A0 (pv 7) (A0 (pv 4) (@Gs _ _ _ _ _ _ _ _ (Ao Bk (pv 8) A8) A3))))))
  (@A4 _ _ _ _ _ (Az (PW.pt (D5 (Ah Pk (pv 9) Cy (nomark _)) (D5 (Ah Pk (pv 10) Cy (nomark _)) (Dm (Ah Ew (pv 10) (pv 9) (nomark _))))))
   (@A5 _ _ _ (@Ag _ _ _ _ Dl))
   An)
  (@A4 _ _ _ _ _ (Ci PassesOwn.never rfl (Cu rfl T.Z0m (A0 A8 A3)) (Ay (i:=11) sc.nd rfl (Or.inl rfl))
   (@A4 _ _ _ _ _ (Aq (i:=12) sc.nd rfl (Or.inl rfl) (Ad Z10 hr rfl Ae (A0 (Ad Z5m hr rfl Ae (A0 (pv 6) (A0 (pv 7) (A0 (pv 11) (A0 (pv 8) A3))))) (A0 (pv 7) (A0 (pv 4) (A0 (pv 8) A3))))))
   (@A4 _ _ _ _ _ (Az (PW.pt (D5 (Ah Pk (pv 12) Cy (nomark _)) (Dm (Ah Ml (@As _ _ _ _ _ _ _ B9 (pv 12) A8 (λ_ _=>rfl)) (pv 9) (nomark _)))))
    (@A5 _ _ _ (@Ag _ _ _ _ Dl))
    An)
   (@A5 _ _ _ (Az (Ah Ml (pv 11) A8 (nomark _))
    (@A4 _ _ _ _ _ (Aq (i:=13) sc.nd rfl (Or.inl rfl) (Ad Z10 hr rfl Ae (A0 (Ad Z5m hr rfl Ae (A0 (pv 6) (A0 (pv 7) (A0 (pv 11) (@Gs _ _ _ _ _ _ _ _ (Ao Bk (pv 8) A8) A3))))) (A0 (pv 7) (A0 (pv 4) (@Gs _ _ _ _ _ _ _ _ (Ao Bk (pv 8) A8) A3))))))
    (@A5 _ _ _ (Az (PW.pt (D5 (Ah Pk (pv 13) Cy (nomark _)) (D5 (Ah Ew (@As _ _ _ _ _ _ _ B9 (pv 13) A8 (λ_ _=>rfl)) (@As _ _ _ _ _ _ _ B9 (pv 12) A8 (λ_ _=>rfl)) (nomark _)) (Dm (C8 (Bg (Ad Z57 hr rfl Ae (A0 (@As _ _ _ _ _ _ _ B9 (pv 12) A8 (λ_ _=>rfl)) (A0 (@As _ _ _ _ _ _ _ B9 (pv 13) A8 (λ_ _=>rfl)) A3)))))))))
     (@A5 _ _ _ (@Ag _ _ _ _ Dl))
     An)))
    An)))))
  (@A5 _ _ _ (@Ag _ _ _ _ Dl)))))))))))))),?_⟩
 ext:4;ext
 obtain⟨m,hm⟩:∃m:Nat,1+ns.getD 1 0 % 7=(m:Int):=⟨(1+ns.getD 1 0 % 7).toNat,by omega⟩
 have hm1:1<=m:=by omega
 have hm7:m<=7:=by omega
 rw[hm];refine⟨m,rfl,by omega,λnp ys H1 hnp sm1 hny hyq ynd hyn=>?_⟩
 have hy1:ys.length<=m:=by omega
 have hy2:m<=ys.length:=by omega
 clear hyq;have hS1:=sm1.seq hS;have hP1:=sm1 _ _ hP;ext:1;intro dl hdl;have sd:A7 H1 (upd H1 dl (.lst [V.int 13,V.int (10 ^ 30+1)])):=A7.new hdl;have hdl1:upd H1 dl (.lst [V.int 13,V.int (10 ^ 30+1)]) dl=some (.lst [V.int 13,V.int (10 ^ 30+1)]):=A1;have hSd:=sd.seq hS1;have hPd:=sd _ _ hP1;have hnd:=sd _ _ hny;generalize upd H1 dl (.lst [V.int 13,V.int (10 ^ 30+1)])=H2 at sd hdl1 hSd hPd hnd ⊢;clear hS1 hP1 hny sm1 sd hdl hnp;refine⟨ns,hSd,by decide,hl,by decide,?_⟩;have d0:=HW (ns.getD 2 0) (show (2:Int)≠0 by decide);have d1:=HV (ns.getD 2 0) (show (0:Int) < 2 by decide)
 obtain⟨De,hDe1,hDe2,hDe⟩:∃De:Int,1<=De/\De<=10 ^ 30+1/\atI [V.int 13,V.int (10 ^ 30+1)] (ns.getD 2 0 % 2)=some (V.int De):=by
  by_cases h:ns.getD 2 0 % 2=0
  . exact⟨13,by decide,by decide,by rw[h];exact Ai (j:=0) rfl⟩
  . exact⟨10 ^ 30+1,by decide,by decide,by rw[show ns.getD 2 0 % 2=((1:Nat):Int) by omega];exact Ai (j:=1) rfl⟩
 refine Bb (SqL.of hdl1) hDe ?_;clear hdl1;ext:1;intro co hco;have sm2:A7 H2 (upd H2 co (.dK [])):=A7.new hco;have g1:upd H2 co (.dK []) co=some (.dK []):=A1;generalize upd H2 co (.dK [])=H3 at sm2 g1 ⊢;ext:1;rename_i rest hrest;refine Ex (λi σ H'=>∃(c:Str->Int) (v5:Option V),σ=[some (V.ref a),some (V.int m),some (V.ref np),some (V.int De),some (V.ref co),v5,none,none,none,none,none,none,none,none]/\A7 H2 H'/\H' co=some (.dK (kvN (ys.take i) c))/\∀y,0<=c y/\c y<=10 ^ 30) ⟨λ_=>0,none,rfl,sm2,g1,λ_=>⟨FZ 0,show (0:Int)<=10 ^ 30 by decide⟩⟩ ?_ ?_
 . clear hrest
   rintro i σ H' hi ⟨c,v5,rfl,sm,e5,hcb⟩;have hy:=C9 (ys:=ys) (k:=i) (by omega);generalize hY:ys.getD i Str.empty=y at hy
   have htk:ys.take (i+1)=ys.take i++[y]:=by rw[RA,hy];rfl
   have hyn':y∉ys.take i:=λh=>by
    have h2:(ys.take (i+1)).Nodup:=List.Nodup.sublist (List.take_sublist _ _) ynd;rw[htk,HM]at h2;exact h2.2.2 _ h _ Fy rfl
   have hlen:(kvN (ys.take i) c).length<=26:=by rw[J7w,Hl];omega
   rw[htk];ext;have hv0:=HW ((ns.getD 2 0 / 2).fdiv ((i:Int)+1)+(i:Int) * i * 5) (show De≠0 by omega);have hv1:=HV ((ns.getD 2 0 / 2).fdiv ((i:Int)+1)+(i:Int) * i * 5) (show 0 < De by omega);have hii:(i:Int) * i<=49:=RQ (Int.mul_le_mul (show (i:Int)<=7 by omega) (show (i:Int)<=7 by omega) (by omega) (by decide)) (by decide);have hii0:0<=(i:Int) * i:=Int.mul_nonneg (by omega) (by omega);refine⟨ns,sm.seq hSd,by decide,hl,Tc (by decide) (by decide),by omega,by omega,⟨by omega,by omega⟩,.inr ⟨by decide,by decide⟩,by omega,?_⟩;generalize ((ns.getD 2 0 / 2).fdiv ((i:Int)+1)+(i:Int) * i * 5) % De=v at hv0 hv1;refine Bb (SqL.of (sm _ _ hnd)) (v:=V.str y) (Ai (by rw[Fe,hy];rfl)) ?_;have hputR:=Eu.k (k:=Sum.inr y) (v:=V.int v) e5 (by omega);rw[J58 hyn']at hputR;refine⟨_,hputR,Cd sm hco,_,A1,λu=>?_⟩;unfold upF;split
   . exact⟨hv0,by omega⟩
   . exact hcb u
 . rintro σ H4 ⟨c,v5,rfl,sm,e5,hcb⟩
   rw[Ho (by omega)]at e5;have hnyv:=sm _ _ hnd;have hS4:=sm.seq hSd;have hP4:=sm _ _ hPd
   have hCo:E3 H4 co ys c:=⟨_,e5,λz hz=>J7v hz⟩
   have hcr:∀y∈ys,0<=c y/\c y<=10 ^ 30:=λy _=>hcb y;clear hnd hSd hPd sm2 g1 sm hco e5 hcb;subst hrest;ext;refine⟨⟨_,SqL.of hnyv⟩,N35.J1x (xs:=ys.map V.str) (λi=>[V.str (ys.getD i Str.empty),V.int (c (ys.getD i Str.empty)),V.int 1]) (SqL.of hnyv) (by rw[Fa];omega) (λb i x H' Q' hx sm q'=>?_) λr as H7 hr sm7 hr7 hal hT=>?_⟩
   . rw[Fe]at hx
     cases hy:ys[i]? with
     | none=>rw[hy]at hx;cases hx
     | some y=>
     rw[hy]at hx;cases hx
     have ey:ys.getD i Str.empty=y:=by rw[Fc,hy];rfl
     have hym:=Ff hy;obtain⟨kc,hk1,hk2⟩:=hCo
     have gC:Cp H' co (.str y) (some (.int (c y))):=by rw[<- hk2 y hym];exact Cp.k (k:=Sum.inr y) (sm _ _ hk1)
     rw[ey]at q';ext;exact⟨_,gC,by omega,λt ht=>q' t _ (A7.new ht) A1⟩
   rw[Fa]at hal
   have okF:∀t∈N41.tsF c (λ_=>1) ys,Dr t.1.cps.toList=true/\0<=t.2.1/\t.2.1<=10 ^ 30/\1<=t.2.2/\t.2.2<=1000:=λt ht=>by
    obtain⟨y,hy,rfl⟩:=FH.mp ht;exact⟨hyn y hy,(hcr y hy).1,(hcr y hy).2,by show (1:Int)<=1;decide,by show (1:Int)<=1000;decide⟩
   have hfl:(N41.tsF c (λ_=>1) ys).length=ys.length:=N41.J7x
   have rows:Xg K H7 r as (N41.tsF c (λ_=>1) ys):=⟨SqL.of hr7,by rw[hal,hfl],by rw[hfl];omega,λi a t h1 h2=>SqT.of (by
    have hil:i < ys.length:=by rw[<- hal];exact(Fd.mp h1).1
    rw[N41.Jb5 hil]at h2;cases h2
    exact hT i a h1),okF,by rw[N41.O4];exact ynd⟩
   have so:Wl c ys (N41.tsF c (λ_=>1) ys):=Jbi (by rw[N41.O4];exact ynd) (by rw[hfl];omega) λt ht=>ht;have hrts:∀u∈(N41.tsF c (λ_=>1) ys).map (·.1),rm (N41.tsF c (λ_=>1) ys) u=1:=λu hu=>so.r u (by rw[N41.O4]at hu;exact hu);generalize N41.tsF c (λ_=>1) ys=ts at rows so okF hfl hrts;have hny7:=sm7 _ _ hnyv;have hS7:=sm7.seq hS4;have hP7:=sm7 _ _ hP4;have hC7:=hCo.same sm7;clear hnyv hS4 hP4 hCo sm7 hT hal;intro st dx hst hdx ne1;obtain⟨rws,r1,r2,r3,r4⟩:=rows.init;have smx:A7 H7 (upd (upd H7 dx (.own st)) st (.ins Z7 dx [])):=N63.U5 hst hdx;refine⟨dx,r,rfl,A1,rws,by rw[r1];exact smx.seq rows.l,λt ht=>smx.tup (r2 t ht),r3,λH9 sb9 stk=>?_⟩;rw[r4]at stk;have sm9:A7 H7 H9:=N63.U4 hst hdx sb9;have hny9:=sm9 _ _ hny7;have hS9:=sm9.seq hS7;have hP9:=sm9 _ _ hP7;have hC9:=hC7.same sm9;clear r1 r2 r3 r4 smx sb9 rows hst hdx ne1 hr7 sm9 hny7 hS7 hP7 hC7;ext:1;obtain⟨cs,ecs,hcl,hcl2⟩:=N35.Jb9 ns 4 44
   refine⟨_,hS9,λcp hcp=>?_⟩;rw[show Oo (ns.map V.int) (some 4) (some 44)=cs.map V.int from ecs];have smc:A7 H9 (upd H9 cp (.lst (cs.map V.int))):=A7.new hcp;refine⟨⟨_,SqL.of A1⟩,?_⟩;refine Xa (Jct ys m) (SqL.of A1) (by rw[Fa];omega) (λb x H' Q' hx sm' q'=>?_) λD7 hD7=>?_
   . obtain⟨e,he,rfl⟩:=FH.mp hx
     have hk0:=HW e (show (m:Int)≠0 by omega);have hk1:=HV e (show (0:Int) < m by omega);ext;refine Bb (SqL.of (sm' _ _ (smc _ _ hny9))) (v:=V.str (ys.getD (e % (m:Int)).toNat Str.empty)) ?_ q';rw[show e % (m:Int)=(((e % (m:Int)).toNat:Nat):Int) by omega,Int.toNat_natCast];exact Ai (by rw[Fe,C9 (by omega)];rfl)
   rw[J1s];have smD:=smc.trans (A7.new (o:= .lst ((cs.map (N9 ys m)).map V.str)) hD7)
   have hzin:∀y∈cs.map (N9 ys m),y∈ys:=λy hy=>by
    obtain⟨e,_,rfl⟩:=FH.mp hy;have hk0:=HW e (show (m:Int)≠0 by omega);have hk1:=HV e (show (0:Int) < m by omega);exact Ff (C9 (by omega))
   have hzl:(cs.map (N9 ys m)).length<=40:=by rw[Fa];omega
   have hap:upd (upd H9 cp (.lst (cs.map V.int))) D7 (.lst ((cs.map (N9 ys m)).map V.str)) D7=some (.lst ((cs.map (N9 ys m)).map V.str)):=A1;generalize upd (upd H9 cp (.lst (cs.map V.int))) D7 (.lst ((cs.map (N9 ys m)).map V.str))=HA at smD hap ⊢;generalize cs.map (N9 ys m)=zs at hzin hzl hap;have hSA:=smD.seq hS9;have hCA:=hC9.same smD;have hPA:=smD _ _ hP9;have stkA:=Av.same smD stk;clear hD7 smc hcp hcl hcl2 hny9 hS9 hC9 hP9 smD ecs stk
   obtain⟨P2,hP2⟩:∃P2:Nat,1+ns.getD 3 0 % 8=(P2:Int):=⟨(1+ns.getD 3 0 % 8).toNat,by omega⟩
   have hP21:1<=P2:=by omega
   have hP28:P2<=8:=by omega
   have hrz:∀y∈zs,rm ts y=1:=λy hy=>so.r y (hzin y hy);have hiz:∀y∈zs,y∈ts.map (·.1):=λy hy=>so.i y (hzin y hy);have htl:=so.l
   have okA:N63.Kk K Z7 HA st D7 P2 ts zs:=⟨stkA,so.nd,by omega,hap,by omega,hiz,λy hy=>by rw[hrz y hy];omega,by omega,by omega⟩
   ext:1;refine⟨P2,hP2,ts,zs,okA,hzl,ys,c,so,hCA,hzin,hcr,hP21,by omega,.inl hPA,λtk h HB tkB hFE=>?_⟩;have hLA:D6 432 (⟨174,25,174,57⟩:Pos) (("paid_by"++".<locals>.")++"<lambda>") HA:= .inl hPA;have okB:=J6w tkB hLA okA;have hCB:=Qk tkB hLA hCA
   have okB1:N63.Kk K Z7 HB st D7 ((P2+1:Nat):Int) ts zs:=⟨okB.s,okB.nd,okB.tl,okB.a,okB.l,okB.i,λy hy=>by rw[hrz y hy];omega,by omega,by omega⟩
   have okc:∀y∈zs,0<=N41.cst ts y:=λy hy=>by rw[so.c y (hzin y hy)];exact(hcr y (hzin y hy)).1
   have hrwB:=J9o (X:=Z2) hFE hP21 hrz okc hiz;rw[hP2];ext:1;refine⟨P2+1,by omega,ts,zs,okB1,hzl,ys,c,so,hCB,hzin,hcr,by omega,by omega,tkB.lam,λtk2 h2 HC tkC hFE2=>?_⟩;have okC:=J6w tkC tkB.lam okB;have hCC:=Qk tkC tkB.lam hCB;have hle:=Wn (X:=Z2) (P:=P2) (Q:=P2+1) hFE2 hP21 (by omega) hrz okc hiz hrwB;have hbest:∀(rs:List N14.Row) (L:Nat->List Str),L6 P2 zs rs L->Cq (N41.cst ts) (rwP Z2 ts P2 zs tk)<=Cq (N41.cst ts) rs:=λrs L hR=>Wn (X:=Z2) (P:=P2) (Q:=P2) hFE hP21 (Fg _) hrz okc hiz hR;clear hFE hFE2 hrwB okB okB1 hCB tkB tkC hLA okA hCA hPA hSA stkA hap;generalize Cq (N41.cst ts) (rwP Z2 ts P2 zs tk)=bst at hle hbest;generalize Cq (N41.cst ts) (rwP Z2 ts (P2+1) zs tk2)=bst2 at hle;ext:1;rw[if_neg (by omega)];ext:1
   have hzt:zs.length<=1000:=by omega
   rename_i rest hrest;refine Ex (λi σ H'=>∃(v11 v12 v13:Option V),σ=[some (V.ref a),some (V.int m),some (V.ref np),some (V.int De),some (V.ref co),v5,some (V.ref st),some (V.ref D7),some (V.int P2),some (V.int bst),some (V.int bst2),v11,v12,v13]/\A7 HC H') ⟨none,none,none,rfl,A7.refl _⟩ ?_ ?_
   . clear hrest
     rintro k σ H' hk ⟨v11,v12,v13,rfl,sm⟩;have okH:=okC.same sm;have hCH:=hCC.same sm;ext;refine⟨k,rfl,P2,rfl,by omega,ts,zs,okH,hzl,hzt,λb as gs HD smD hB=>?_⟩;have hR1:=J9q (c:=C7.mk Z4 Z1 Z0 Z5 Z6 Z3 Z2) (w:=wk zs hzt k) hP21 hiz hrz;have hL1:∀i,i<=zs.length->(L7 (C7.mk Z4 Z1 Z0 Z5 Z6 Z3 Z2) ts P2 zs (wk zs hzt k) i).length<=200:=λi hi=>FO (Jd5 hP21 hiz hrz hi) (by omega);have sm2:=sm.trans smD;refine⟨P2,rfl,as,gs,zs,ys,_,hB,SqL.of (sm2 _ _ okC.a),_,c,hCC.same sm2,hzin,by omega,hR1,hL1,λx t qs HE smE hx hTl=>?_⟩;have sm3:=sm2.trans smE;have hb1:=hbest _ _ hR1;rw[J9s hR1 so hzin]at hx;clear hB smD smE sm2 okH hCH sm;ext:1;refine Bb (SqL.of hx) (Ai (j:=0) rfl) ⟨_,rfl,?_⟩;rw[if_neg (by omega)];ext:1
     by_cases hk3:(k:Int) < 3
     . rw[if_pos hk3]
       have ok4:=okC.same sm3
       have ok5:N63.Kk K Z7 HE st D7 ((P2+1:Nat):Int) ts zs:=⟨ok4.s,ok4.nd,ok4.tl,ok4.a,ok4.l,ok4.i,λy hy=>by rw[hrz y hy];omega,by omega,by omega⟩
       ext;refine⟨k,rfl,P2+1,by omega,by omega,ts,zs,ok5,hzl,hzt,λb2 as2 gs2 HF smF hB2=>?_⟩;have hR2:=J9q (c:=C7.mk Z4 Z1 Z0 Z5 Z6 Z3 Z2) (w:=wk zs hzt k) (show 1<=P2+1 by omega) hiz hrz;have hL2:∀i,i<=zs.length->(L7 (C7.mk Z4 Z1 Z0 Z5 Z6 Z3 Z2) ts ((P2+1:Nat):Int) zs (wk zs hzt k) i).length<=200:=λi hi=>FO (Jd5 (by omega) hiz hrz hi) (by omega);have sm4:=sm3.trans smF;refine⟨P2+1,by omega,as2,gs2,zs,ys,_,hB2,SqL.of (sm4 _ _ okC.a),_,c,hCC.same sm4,hzin,by omega,hR2,hL2,λx2 t2 qs2 HG smG hx2 hTl2=>?_⟩
       have hw:wk zs hzt k= .ol\/wk zs hzt k= .ha\/∃h,wk zs hzt k= .fa zs h:=by
        match k,hk3 with
        | 0,_=>exact .inl rfl
        | 1,_=>exact .inr (.inl rfl)
        | 2,_=>exact .inr (.inr ⟨hzt,rfl⟩)
        | k+3,h=>exact absurd h (by omega)
       have hrt:∀u∈ts.map (·.1),rm ts u=1:=hrts;have hin2:∀i,i<=zs.length->∀u∈L7 (C7.mk Z4 Z1 Z0 Z5 Z6 Z3 Z2) ts P2 zs (wk zs hzt k) i,u∈L7 (C7.mk Z4 Z1 Z0 Z5 Z6 Z3 Z2) ts ((P2+1:Nat):Int) zs (wk zs hzt k) i:=λi hi u hu=>in7 hw hP21 hiz hrt hi hu;have hpl:=Wp (C:=N41.cst ts) hR1 hR2 okc hin2 zs.length (Fg _);rw[Ho (by rw[hR2.1];exact Fg _),Ho (by rw[hR1.1];exact Fg _)]at hpl;rw[J9s hR2 so hzin]at hx2;have smH:=smF.trans smG;have hx1:=smH _ _ hx;have hTl1:=hTl.same smH;have sm5:=sm3.trans smH;clear hB2 smF smG smH sm4 hx hTl ok4 ok5;ext:1;refine Bb (SqL.of hx2) (Ai (j:=0) rfl) (Bb (SqL.of hx1) (Ai (j:=0) rfl) ⟨_,rfl,_,rfl,?_⟩);rw[if_neg (by omega)];exact Bb (SqL.of hx1) (Ai (j:=1) rfl) (Bb (SqL.of hx2) (Ai (j:=1) rfl) ⟨t,rfl,t2,rfl,_,_,_,_,_,hTl1,hTl2,by omega,hin2,λi hi=>⟨hL1 i hi,hL2 i hi⟩,λH' s=>sm5.trans s⟩)
     . rw[if_neg hk3]
       exact sm3
   . rintro σ H' ⟨v11,v12,v13,rfl,sm⟩
     subst hrest;ext;exact q _
end
theorem Jbl{l:W.OpenLaw}{w:World}{K:W.Frag}{h:Heap}{mg:Str->Option Value}{fa f20 f29 f30 f32 f40 f47 f55 f62 f82 f103 Z7 Z9 Za Z02 Zd Z4 Z1 Z0 Z5 Z6 Z3 Z2:Addr}(X:K.In h)(G:h.Ns mainGlobals mg)(hfa:mg "law"=some (.ref fa))
 {od20 an20 od29 an29 od30 an30 od32 an32 od40 an40 od47 an47 od55 an55 od62 an62 od82 an82 od103 an103:Option Addr}{sl20 sl29 sl30 sl32 sl40 sl47 sl55 sl62 sl82 sl103:Array (Option Value)}{oc20 kV20 dc20 pm20 cd20 ct20 oc29 kV29 dc29 pm29 cd29 ct29 oc30 kV30 dc30 pm30 cd30 ct30 oc32 kV32 dc32 pm32 cd32 ct32 oc40 kV40 dc40 pm40 cd40 ct40 oc47 kV47 dc47 pm47 cd47 ct47 oc55 kV55 dc55 pm55 cd55 ct55 oc62 kV62 dc62 pm62 cd62 ct62 oc82 kV82 dc82 pm82 cd82 ct82 oc103 kV103 dc103 pm103 cd103 ct103:Value}
 (Za3:Gc K "Stock" Z7) (Zb1:Cls K Z7)
 (Za4:Gc K "Shelf" Z9) (Zb2:Cls K Z9)
 (Za5:Gc K "Climb" Za) (Zb3:Cls K Za)
 (Zat:Gc K "Rule" Z02) (Zb6:Cls K Z02)
 (Z9r:Gc K "Ranked" Zd) (Zay:Cls K Zd)
 (Z9s:Gc K "Oldest" Z4) (Zaz:Cls K Z4)
 (Z8x:Gc K "Halving" Z1) (Zau:Cls K Z1)
 (Z8h:Gc K "Farthest" Z0) (Zal:Cls K Z0)
 (Za6:Gc K "First" Z5) (Zb4:Cls K Z5)
 (Zav:Gc K "Hand" Z6) (Zb7:Cls K Z6)
 (Zaw:Gc K "Rows" Z3) (Zb8:Cls K Z3)
 (Z8y:Gc K "Planned" Z2) (Zax:Cls K Z2)
 (F0:Gf K "is_whole" Z6l)
 (F1:Gf K "is_within" Z63)
 (F2:Gf K "check_places" Z44)
 (F3:Gf K "made_of" Z71)
 (F4:Gf K "is_name" Z72)
 (F5:Gf K "check_thing" Z4r)
 (F6:Gi K Z7 "Stock.__init__" Z5a)
 (F7:Gm K Z7 "has" "Stock.has" Z64)
 (F8:Gm K Z7 "thing_of" "Stock.thing_of" Z38)
 (F9:Gm K Z7 "room_of" "Stock.room_of" Z3i)
 (F10:Gm K Z7 "cost_of" "Stock.cost_of" Z3j)
 (F11:Gf K "check_asks" Z5b)
 (F12:Gf K "earlier_asks" Z45)
 (F13:Gi K Z9 "Shelf.__init__" Z5c)
 (F14:Gm K Z9 "lying" "Shelf.lying" Z4s)
 (F15:Gm K Z9 "holds" "Shelf.holds" Z4t)
 (F16:Gm K Z9 "room_left" "Shelf.room_left" Z2r)
 (F17:Gm K Z9 "put" "Shelf.put" Z65)
 (F18:Gm K Z9 "cast" "Shelf.cast" Z5d)
 (F19:Gf K "weighed" Z73)
 (a20:Gc K "paid_by" f20) (l20:K.lookup f20=some ⟨oc20,od20,.func (W.fnOf "paid_by" "paid_by" (Ba Z25) (B5 Z25) (A6 Z25) .none kV20 dc20 pm20 an20 cd20 ct20),sl20⟩) (c20:W.codeIn K cd20 "paid_by"=true) (k20:W.keepIn K (.ref f20)=true)
 {cq9:Addr} (mc20:cd20= .ref cq9) (mh20:W.codeHdIn K cq9 432=true)
 (F21:Gf K "walkers_at" Z5e)
 (F22:Gf K "moves_by_step" Z3k)
 (F23:Gf K "move_by_jump" Z46)
 (F24:Gi K Za "Climb.__init__" Z5f)
 (F25:Gm K Za "rises_by" "Climb.rises_by" Z39)
 (F26:Gm K Za "jumps_used" "Climb.jumps_used" Z26)
 (F27:Gf K "climb_of" Z6m)
 (F28:Gf K "flow_of" Z74)
 (a29:W.findIn K (.ref Z02) "__init__"=some (some (.ref f29))) (l29:K.lookup f29=some ⟨oc29,od29,.func (W.fnOf "__init__" "Rule.__init__" (Ba Z1q) (B5 Z1q) (A6 Z1q) .none kV29 dc29 pm29 an29 cd29 ct29),sl29⟩) (c29:W.codeIn K cd29 "Rule.__init__"=true) (n29:W.isFn K (.ref f29)=true) (k29:W.keepIn K (.ref Z02)=true) (m29:W.makesIn K Z02=true) (kf29:W.keepIn K (.ref f29)=true)
 (fc29:W.findCls K (.ref Z02) (.type "type") "__init__"=some (.val (.ref f29))) (sc29:W.specialIn K (.ref Z02) "__getattribute__"=some (some (.builtin "type.__getattribute__"))) (rc29:W.readsIn K Z02 (.type "type")=true)
 (a30:W.findIn K (.ref Zd) "__init__"=some (some (.ref f30))) (l30:K.lookup f30=some ⟨oc30,od30,.func (W.fnOf "__init__" "Ranked.__init__" (Ba Z0u) (B5 Z0u) (A6 Z0u) .none kV30 dc30 pm30 an30 cd30 ct30),sl30⟩) (c30:W.codeIn K cd30 "Ranked.__init__"=true) (n30:W.isFn K (.ref f30)=true) (k30:W.keepIn K (.ref Zd)=true) (m30:W.makesIn K Zd=true) (kf30:W.keepIn K (.ref f30)=true)
 (fc30:W.findCls K (.ref Zd) (.type "type") "__init__"=some (.val (.ref f30))) (sc30:W.specialIn K (.ref Zd) "__getattribute__"=some (some (.builtin "type.__getattribute__"))) (rc30:W.readsIn K Zd (.type "type")=true)
 (F31:Gi K Z4 "Ranked.__init__" Z4u)
 {dt32:Addr}{dk32:Tok}{dn32:Nat}{dq32:Value}{de32:Option Addr}{ds32:Array (Option Value)}
 (a32:W.findIn K (.ref Z1) "__init__"=some (some (.ref f32))) (l32:K.lookup f32=some ⟨oc32,od32,.func (W.fnOf "__init__" "Halving.__init__" (Ba Z0n) (B5 Z0n) (A6 Z0n) (.ref dt32) kV32 dc32 pm32 an32 cd32 ct32),sl32⟩) (c32:W.codeIn K cd32 "Halving.__init__"=true) (ld32:K.lookup dt32=some ⟨dq32,de32,.seq #[.int 8 dk32] dn32,ds32⟩) (n32:W.isFn K (.ref f32)=true) (k32:W.keepIn K (.ref Z1)=true) (m32:W.makesIn K Z1=true) (kf32:W.keepIn K (.ref f32)=true)
 (F33:Gi K Z0 "Farthest.__init__" Z3l)
 (F34:Gi K Z5 "First.__init__" Z5g)
 (F35:Gi K Z6 "Hand.__init__" Z66)
 (F36:Gi K Z3 "Rows.__init__" Z67)
 (F37:Gm K Z4 "number_ask" "Ranked.number_ask" Z1r)
 (F38:Gm K Z4 "asked" "Ranked.asked" Z47)
 (F39:Gm K Z4 "last_of" "Ranked.last_of" Z3a)
 (a40:W.findIn K (.ref Z4) "rank"=some (some (.ref f40))) (l40:K.lookup f40=some ⟨oc40,od40,.func (W.fnOf "rank" "Ranked.rank" (Ba Z0v) (B5 Z0v) (A6 Z0v) .none kV40 dc40 pm40 an40 cd40 ct40),sl40⟩) (c40:W.codeIn K cd40 "Ranked.rank"=true) (n40:W.isFn K (.ref f40)=true) (k40:W.keepIn K (.ref f40)=true)
 (gv40:W.specialIn K (.ref f40) "__get__"=some (some (.builtin "function.__get__"))) (tv40:W.takesIn K (.ref f40)=some false)
 (F41:Gm K Z4 "choice" "Ranked.choice" Z3m)
 (F42:Gm K Z4 "gone" "Rule.gone" Z4v)
 (F43:Gm K Z4 "came" "Rule.came" Z4w)
 (F44:Gm K Z1 "halve" "Halving.halve" Z3n)
 (F45:Gm K Z1 "number_ask" "Ranked.number_ask" Z1e)
 (F46:Gm K Z1 "last_of" "Ranked.last_of" Z2s)
 (a47:W.findIn K (.ref Z1) "rank"=some (some (.ref f47))) (l47:K.lookup f47=some ⟨oc47,od47,.func (W.fnOf "rank" "Halving.rank" (Ba Z0o) (B5 Z0o) (A6 Z0o) .none kV47 dc47 pm47 an47 cd47 ct47),sl47⟩) (c47:W.codeIn K cd47 "Halving.rank"=true) (n47:W.isFn K (.ref f47)=true) (k47:W.keepIn K (.ref f47)=true)
 (gv47:W.specialIn K (.ref f47) "__get__"=some (some (.builtin "function.__get__"))) (tv47:W.takesIn K (.ref f47)=some false)
 (F48:Gm K Z1 "asked" "Halving.asked" Z3o)
 (F49:Gm K Z1 "choice" "Ranked.choice" Z3b)
 (F50:Gm K Z1 "gone" "Rule.gone" Z48)
 (F51:Gm K Z1 "came" "Rule.came" Z49)
 (F52:Gm K Z0 "number_ask" "Ranked.number_ask" Z18)
 (F53:Gm K Z0 "last_of" "Ranked.last_of" Z27)
 (F54:Gm K Z0 "coming_of" "Farthest.coming_of" Z1f)
 (a55:W.findIn K (.ref Z0) "rank"=some (some (.ref f55))) (l55:K.lookup f55=some ⟨oc55,od55,.func (W.fnOf "rank" "Farthest.rank" (Ba Z0e) (B5 Z0e) (A6 Z0e) .none kV55 dc55 pm55 an55 cd55 ct55),sl55⟩) (c55:W.codeIn K cd55 "Farthest.rank"=true) (n55:W.isFn K (.ref f55)=true) (k55:W.keepIn K (.ref f55)=true)
 (gv55:W.specialIn K (.ref f55) "__get__"=some (some (.builtin "function.__get__"))) (tv55:W.takesIn K (.ref f55)=some false)
 (F56:Gm K Z0 "asked" "Ranked.asked" Z3c)
 (F57:Gm K Z0 "choice" "Ranked.choice" Z2t)
 (F58:Gm K Z0 "gone" "Rule.gone" Z3p)
 (F59:Gm K Z0 "came" "Rule.came" Z3q)
 (F60:Gm K Z5 "number_ask" "Ranked.number_ask" Z28)
 (F61:Gm K Z5 "asked" "Ranked.asked" Z4x)
 (a62:W.findIn K (.ref Z5) "rank"=some (some (.ref f62))) (l62:K.lookup f62=some ⟨oc62,od62,.func (W.fnOf "rank" "First.rank" (Ba Z19) (B5 Z19) (A6 Z19) .none kV62 dc62 pm62 an62 cd62 ct62),sl62⟩) (c62:W.codeIn K cd62 "First.rank"=true) (n62:W.isFn K (.ref f62)=true) (k62:W.keepIn K (.ref f62)=true)
 (gv62:W.specialIn K (.ref f62) "__get__"=some (some (.builtin "function.__get__"))) (tv62:W.takesIn K (.ref f62)=some false)
 (F63:Gm K Z5 "choice" "Ranked.choice" Z4a)
 (F64:Gm K Z5 "gone" "Rule.gone" Z5h)
 (F65:Gm K Z5 "came" "First.came" Z5i)
 (F66:Gm K Z6 "asked" "Hand.asked" Z5j)
 (F67:Gm K Z6 "choice" "Hand.choice" Z4y)
 (F68:Gm K Z6 "gone" "Hand.gone" Z68)
 (F69:Gm K Z6 "came" "Hand.came" Z69)
 (F70:Gf K "move" Z9f)
 (F71:Gf K "step_of" Z75)
 (F72:Gm K Z3 "take_back" "Rows.take_back" Z3d)
 (F73:Gm K Z3 "asked" "Rows.asked" Z5k)
 (F74:Gm K Z3 "choice" "Rows.choice" Z4z)
 (F75:Gm K Z3 "leave" "Rows.leave" Z5l)
 (F76:Gm K Z3 "gone" "Rows.gone" Z6a)
 (F77:Gm K Z3 "came" "Rows.came" Z6b)
 (F78:Gi K Z2 "Planned.__init__" Z4b)
 (F79:Gm K Z2 "number_ask" "Ranked.number_ask" Z1g)
 (F80:Gm K Z2 "asked" "Ranked.asked" Z3r)
 (F81:Gm K Z2 "last_of" "Ranked.last_of" Z2u)
 (a82:W.findIn K (.ref Z2) "rank"=some (some (.ref f82))) (l82:K.lookup f82=some ⟨oc82,od82,.func (W.fnOf "rank" "Planned.rank" (Ba Z0p) (B5 Z0p) (A6 Z0p) .none kV82 dc82 pm82 an82 cd82 ct82),sl82⟩) (c82:W.codeIn K cd82 "Planned.rank"=true) (n82:W.isFn K (.ref f82)=true) (k82:W.keepIn K (.ref f82)=true)
 (gv82:W.specialIn K (.ref f82) "__get__"=some (some (.builtin "function.__get__"))) (tv82:W.takesIn K (.ref f82)=some false)
 (F83:Gm K Z2 "choice" "Ranked.choice" Z3e)
 (F84:Gm K Z2 "gone" "Rule.gone" Z4c)
 (F85:Gm K Z2 "came" "Rule.came" Z4d)
 (F86:Gf K "make_room" Z6c)
 (F87:Gf K "row_of" Z7o)
 (F88:Gf K "book_of" Z76)
 (F89:Gf K "check_rooms" Z50)
 (F90:Gf K "gaps_of" Z77)
 (F91:Gf K "stays_of" Z6n)
 (F92:Gf K "rises_of" Z6o)
 (F93:Gf K "best_of" Z78)
 (F94:Gf K "_law_cell" Z7p)
 (F95:Gf K "_law_whole" Z79)
 (F96:Gf K "_law_names" Z7a)
 (F97:Gf K "_law_book" Z7q)
 (F98:Gf K "_law_row_holds" Z51)
 (F99:Gf K "_law_walked" Z6p)
 (F100:Gf K "_law_floor" Z7b)
 (F101:Gf K "_law_best" Z7r)
 (F102:Gf K "_law_within" Z6q)
 (a103:Gc K "law" f103) (l103:K.lookup f103=some ⟨oc103,od103,.func (W.fnOf "law" "law" (Ba Z53) (B5 Z53) (A6 Z53) .none kV103 dc103 pm103 an103 cd103 ct103),sl103⟩) (c103:W.codeIn K cd103 "law"=true) (k103:W.keepIn K (.ref f103)=true)
 (Zq:W.nsIn K mainGlobals "len"=some none)
 (Zh:W.nsIn K mainGlobals "isinstance"=some none)
 (Z9d:W.nsIn K mainGlobals "int"=some none)
 (Z6z:W.nsIn K mainGlobals "bool"=some none)
 (Za7:W.nsIn K mainGlobals "str"=some none)
 (Z0i:W.nsIn K mainGlobals "list"=some none)
 (Za8:W.nsIn K mainGlobals "all"=some none)
 (Z0m:W.nsIn K mainGlobals "range"=some none)
 (Z1p:W.nsIn K mainGlobals "enumerate"=some none)
 (Z6k:W.nsIn K mainGlobals "zip"=some none)
 (Z7g:W.nsIn K mainGlobals "sum"=some none)
 (Z52:W.nsIn K mainGlobals "min"=some none)
 (Z6f:W.nsIn K mainGlobals "tuple"=some none)
 (Zao:W.nsIn K mainGlobals "dict"=some none)
 (Z9e:W.nsIn K mainGlobals "max"=some none)
 {Zam:Tok} (Z5p:W.nsIn K mainGlobals "LETTERS"=some (some (.str "abcdefghijklmnopqrstuvwxyz" Zam)))
 {Zan:Tok} (Z70:W.nsIn K mainGlobals "FIGURES"=some (some (.str "0123456789" Zan)))
 {Z9c:Tok} (Z59:W.nsIn K mainGlobals "MOST_SIGNS"=some (some (.int 8 Z9c)))
 {Z8v:Tok} (Z4p:W.nsIn K mainGlobals "MOST_THINGS"=some (some (.int 60 Z8v)))
 {Z9t:Tok} (Z5z:W.nsIn K mainGlobals "MOST_ROOM"=some (some (.int 1000 Z9t)))
 {Z8w:Tok} (Z4q:W.nsIn K mainGlobals "MOST_PLACES"=some (some (.int 1000000 Z8w)))
 {Z9u:Tok} (Z60:W.nsIn K mainGlobals "MOST_ASKS"=some (some (.int 200 Z9u)))
 {Z9v:Tok} (Z61:W.nsIn K mainGlobals "MOST_BEST"=some (some (.int 40 Z9v)))
 {Z9w:Tok} (Z62:W.nsIn K mainGlobals "MOST_TURN"=some (some (.int 200 Z9w)))
 (Zu:Gn K Z7 "things")
 (Z1n:Gn K Z9 "stock")
 (Z2b:Gn K Z9 "places")
 (Z08:Gn K Z9 "rooms")
 (Zg:Gn K Za "heights")
 (Z0q:Gn K Za "ways")
 (Z6y:Gn K Z02 "stock")
 (Z6t:Gn K Z02 "places")
 (Z6e:Gn K Zd "stock")
 (Z5o:Gn K Zd "places")
 (Z58:Gn K Zd "present")
 (Z6u:Gn K Zd "last")
 (Z2c:Gn K Z4 "stock")
 (Z1s:Gn K Z4 "places")
 (Z0r:Gn K Z4 "present")
 (Z1o:Gn K Z4 "last")
 (Z1t:Gn K Z1 "stock")
 (Z1b:Gn K Z1 "places")
 (Z07:Gn K Z1 "present")
 (Z15:Gn K Z1 "last")
 (Z2d:Gn K Z1 "turn")
 (Zo:Gn K Z1 "tally")
 (Z1c:Gn K Z0 "stock")
 (Z11:Gn K Z0 "places")
 (Z06:Gn K Z0 "present")
 (Z0w:Gn K Z0 "last")
 (Z0c:Gn K Z0 "asks")
 (Z2v:Gn K Z5 "stock")
 (Z2e:Gn K Z5 "places")
 (Z0d:Gn K Z5 "present")
 (Z3f:Gn K Z5 "last")
 (Z16:Gn K Z5 "put_at")
 (Z3g:Gn K Z6 "stock")
 (Z2w:Gn K Z6 "places")
 (Zz:Gn K Z6 "order")
 (Z0g:Gn K Z6 "marked")
 (Z3h:Gn K Z3 "stock")
 (Z0t:Gn K Z3 "places")
 (Zs:Gn K Z3 "once")
 (Zr:Gn K Z3 "again")
 (Zj:Gn K Z3 "past_once")
 (Zn:Gn K Z3 "past_again")
 (Z0b:Gn K Z3 "bound")
 (Z0a:Gn K Z3 "returns")
 (Z1u:Gn K Z2 "stock")
 (Z1d:Gn K Z2 "places")
 (Z0h:Gn K Z2 "present")
 (Z17:Gn K Z2 "last")
 (Z1v:Gn K Z2 "stays")
 :(∃c,W.codeHdIn K c 432=true)/\∃fd:FuncData,(∀(s:Shared) (v:Value),BindsTo s fd ⟨[v],[]⟩ [("_law_script",v)])/\∀base:Heap,K.In base->base.Ns mainGlobals mg->base.BuiltinsAt mg 432->Al l.prog w K mg base CX0 12 fa fd ["_law_script"] (L8 432 K):=by
 have e:=hfa.symm.trans (W.mg_of X G a103);cases e
 have T:Txt K mg Z7 Z9 Za Z02 Zd Z4 Z1 Z0 Z5 Z6 Z3 Z2:=⟨W.mg_of X G Za3,Zb1,Zu,W.mg_of X G Za4,Zb2,Z1n,Z2b,Z08,W.mg_of X G Za5,Zb3,Zg,Z0q,W.mg_of X G Zat,Zb6,Z6y,Z6t,W.mg_of X G Z9r,Zay,Z6e,Z5o,Z58,Z6u,W.mg_of X G Z9s,Zaz,Z2c,Z1s,Z0r,Z1o,W.mg_of X G Z8x,Zau,Z1t,Z1b,Z07,Z15,Z2d,Zo,W.mg_of X G Z8h,Zal,Z1c,Z11,Z06,Z0w,Z0c,W.mg_of X G Za6,Zb4,Z2v,Z2e,Z0d,Z3f,Z16,W.mg_of X G Zav,Zb7,Z3g,Z2w,Zz,Z0g,W.mg_of X G Zaw,Zb8,Z3h,Z0t,Zs,Zr,Zj,Zn,Z0b,Z0a,W.mg_of X G Z8y,Zax,Z1u,Z1d,Z0h,Z17,Z1v,W.mg_none_of X G Zq,W.mg_none_of X G Zh,W.mg_none_of X G Z9d,W.mg_none_of X G Z6z,W.mg_none_of X G Za7,W.mg_none_of X G Z0i,W.mg_none_of X G Za8,W.mg_none_of X G Z0m,W.mg_none_of X G Z1p,W.mg_none_of X G Z6k,W.mg_none_of X G Z7g,W.mg_none_of X G Z52,W.mg_none_of X G Z6f,W.mg_none_of X G Zao,W.mg_none_of X G Z9e,⟨_,W.mg_of X G Z5p⟩,⟨_,W.mg_of X G Z70⟩,⟨_,W.mg_of X G Z59⟩,⟨_,W.mg_of X G Z4p⟩,⟨_,W.mg_of X G Z5z⟩,⟨_,W.mg_of X G Z4q⟩,⟨_,W.mg_of X G Z60⟩,⟨_,W.mg_of X G Z61⟩,⟨_,W.mg_of X G Z62⟩⟩
 have F20:=Ea (st:=Z25) l20 c20 k20;have F29:=Ea (st:=Z1q) l29 c29 kf29;have F30:=Ea (st:=Z0u) l30 c30 kf30;have F32:=J8d (st:=Z0n) (dv:=[.int 8 dk32]) l32 c32 kf32 ld32 rfl;have F40:=Ea (st:=Z0v) l40 c40 k40;have F47:=Ea (st:=Z0o) l47 c47 k47;have F55:=Ea (st:=Z0e) l55 c55 k55;have F62:=Ea (st:=Z19) l62 c62 k62;have F82:=Ea (st:=Z0p) l82 c82 k82;have F103:=Ea (st:=Z53) l103 c103 k103;refine⟨⟨_,mh20⟩,W.fnOf "law" "law" (Ba Z53) (B5 Z53) (A6 Z53) .none kV103 dc103 pm103 an103 cd103 ct103,λs v=> .of_eq rfl,λbase _ _ HB=>?_⟩
 have B:Bs l.prog w K mg base:=⟨h,X,G⟩
 have Z54:=F0.d B (Z9x T);have Z00:=F1.d B (Z9g T Z54);have Zl:=F2.d B (Z84 T Z00);have Z5q:=F3.d B (Za9 T);have Z5r:=F4.d B (Zaa T Z5q);have Z2x:=F5.d B (Z8i T Z00 Z5r);have Z3s:=F6.i B Za3 (Z8z T Z2x);have Z4e:=F7.m B (Z9h T);have Z04:=F8.m B (Z7h T);have Ze:=F9.m B (Z7s T Z04);have Zp:=F10.m B (Z7t T Z04);have Z01:=F11.d B (Z90 T Zl Z4e Ze);have Z2f:=F12.d B (Z85 T);have Z3t:=F13.i B Za4 (Z91 T Zl);have Z2y:=F14.m B (Z8j T);have Zt:=F15.m B (Z8k T);have Zy:=F16.m B (Z7c T);have Z4f:=F17.m B (Z9i T Ze Zt Zy);have Z3u:=F18.m B (Z92 T Zt);have Z5s:=F19.d B (Zab T)
 have Z5t:Def l.prog w K mg base CX0 6 "paid_by" ["stock","book"] (Kw 432 (⟨174,25,174,57⟩:Pos) (("paid_by"++".<locals>.")++"<lambda>") K Z7):=⟨⟨f20,_,Zac T Zp Z5s F20 ⟨_,_,_,_,_,l20,mc20,mh20⟩ HB,W.mg_of X G a20,k20,F20.b2 λ_ _ _ _ _ _ _ _=>rfl⟩⟩
 have Z3v:=F21.d B (Z93 T);have Z1w:=F22.d B (Z7u T Z3v);have Z2g:=F23.d B (Z86 T);have Z3w:=F24.i B Za5 (Z94 T);have Z1h:=F25.m B (Z7i T);have Z0x:=F26.m B (Z6v T);have Z3x:=F27.d B (Z9y T Z1w Z2g Z3w Z1h);have Z5u:=F28.d B (Zad T Z0x Z3x)
 have Zm:J5q l.prog w K mg base CX0 4 "Rule" Z02 ["self","stock","places"] (Es K):=⟨⟨f29,_,Z9j T Zl F29,⟨m29,a29,n29,k29⟩,W.mg_of X G Zat,F29.b3 λ_ _ _ _ _ _ _ _ _=>rfl,fc29,kf29⟩,sc29,rc29⟩
 have Zf:J5q l.prog w K mg base CX0 5 "Ranked" Zd ["self","stock","places"] (Dg K):=⟨⟨f30,_,Z8l T Zm F30,⟨m30,a30,n30,k30⟩,W.mg_of X G Z9r,F30.b3 λ_ _ _ _ _ _ _ _ _=>rfl,fc30,kf30⟩,sc30,rc30⟩
 have Z2z:=F31.i B Z9s (Z8m T Zm)
 have Z2h:J65 l.prog w K mg base CX0 6 "Halving" Z1 ["self","stock","places","turn"] "turn" [V.int 8] (Ie Z1):=⟨⟨f32,_,_,Z87 T Z00 Zf F32,⟨m32,a32,n32,k32⟩,W.mg_of X G Z8x,.cons ⟨_,rfl⟩ .nil,F32.binds λ_ _ _ _ _ _ _ _ _ _=>⟨_,rfl,rfl⟩,F32.kbinds λ_ _ _ _ _ _ _ _ _ _ _=>⟨_,rfl,rfl⟩,F32.full λ_ _ _ _ _ _ _ _ _ _ _=>⟨_,rfl,rfl⟩⟩⟩
 have Z1x:=F33.i B Z8h (Z7v T Z01 Zf);have Z3y:=F34.i B Za6 (Z95 T Zf);have Z4g:=F35.i B Zav (Z9k T Zm);have Z4h:=F36.i B Zaw (Z9l T Zm);have Z0s:=F37.m B (Z6r T);have Z2i:=F38.m B (Z88 T Z0s);have Z1i:=F39.m B (Z7j T)
 have Z30:Q9 l.prog w K mg base 2 Z4 "rank" ["self","name"] (Ia Z4):=⟨⟨f40,_,Z8n T Z1i F40,⟨a40,n40,k40⟩,F40.b2 λ_ _ _ _ _ _ _ _=>rfl,gv40,tv40⟩⟩
 have Z1y:=F41.m B (Z7w T Z30);have Z31:=F42.m B (Z8o T);have Z32:=F43.m B (Z8p T);have Z1z:=F44.m B (Z7x T);have Z0j:=F45.m B (Z6g T);have Z12:=F46.m B (Z7d T)
 have Z2j:Q9 l.prog w K mg base 2 Z1 "rank" ["self","name"] (Ig Z1):=⟨⟨f47,_,Z89 T Z12 F47,⟨a47,n47,k47⟩,F47.b2 λ_ _ _ _ _ _ _ _=>rfl,gv47,tv47⟩⟩
 have Z20:=F48.m B (Z7y T Z1z Z0j);have Z1j:=F49.m B (Z7k T Z2j);have Z2k:=F50.m B (Z8a T);have Z2l:=F51.m B (Z8b T);have Z0f:=F52.m B (Z6d T);have Z0y:=F53.m B (Z6w T);have Z0k:=F54.m B (Z6h T)
 have Z21:Q9 l.prog w K mg base 2 Z0 "rank" ["self","name"] (Ic Z0):=⟨⟨f55,_,Z7z T Z0y Z0k F55,⟨a55,n55,k55⟩,F55.b2 λ_ _ _ _ _ _ _ _=>rfl,gv55,tv55⟩⟩
 have Z1k:=F56.m B (Z7l T Z0f);have Z13:=F57.m B (Z7e T Z21);have Z22:=F58.m B (Z80 T);have Z23:=F59.m B (Z81 T);have Z0z:=F60.m B (Z6x T);have Z33:=F61.m B (Z8q T Z0z)
 have Z3z:Q9 l.prog w K mg base 1 Z5 "rank" ["self","name"] (Gz Z5):=⟨⟨f62,_,Z96 T F62,⟨a62,n62,k62⟩,F62.b2 λ_ _ _ _ _ _ _ _=>rfl,gv62,tv62⟩⟩
 have Z2m:=F63.m B (Z8c T Z3z);have Z40:=F64.m B (Z97 T);have Z41:=F65.m B (Z98 T);have Z42:=F66.m B (Z99 T);have Z34:=F67.m B (Z8r T);have Z4i:=F68.m B (Z9m T);have Z4j:=F69.m B (Z9n T);have Z4n:=F70.d B (Zb0 T);have Z4o:=F71.d B (Zae T);have Z1l:=F72.m B (Z7m T Z4o);have Z43:=F73.m B (Z9a T Z4n Z1l);have Z35:=F74.m B (Z8s T);have Z29:=F75.m B (Z9b T Z4n);have Z4k:=F76.m B (Z9o T Z29);have Z4l:=F77.m B (Z9p T);have Z2n:=F78.i B Z8y (Z8d T Zf);have Z0l:=F79.m B (Z6i T);have Z24:=F80.m B (Z82 T Z0l);have Z14:=F81.m B (Z7f T)
 have Z2o:Q9 l.prog w K mg base 2 Z2 "rank" ["self","name"] (Ik Z2):=⟨⟨f82,_,Z8e T Z14 F82,⟨a82,n82,k82⟩,F82.b2 λ_ _ _ _ _ _ _ _=>rfl,gv82,tv82⟩⟩
 have Z1m:=F83.m B (Z7n T Z2o);have Z2p:=F84.m B (Z8f T);have Z2q:=F85.m B (Z8g T);have Z4m:=F86.d B (Z9q T Z2y Zy Z3u Z1y Z31 Z1j Z2k Z13 Z22 Z2m Z40 Z34 Z4i Z35 Z4k Z1m Z2p);have Z6s:=F87.d B (Zap T Ze Zt Z4f Z2i Z32 Z20 Z2l Z1k Z23 Z33 Z41 Z42 Z4j Z43 Z4l Z24 Z2q Z4m);have Z09:=F88.d B (Zaf T Z01 Z3t Z6s);have Z36:=F89.d B (Z8t T Ze);have Z5v:=F90.d B (Zag T Z2f);have Z55:=F91.d B (Z9z T);have Z56:=F92.d B (Za0 T);have Z5w:=F93.d B (Zah T Zp Z01 Z5t Z5u Z2n Z09 Z36 Z5v Z55 Z56);have Z2a:=F94.d B (Zaq T);have Z1a:=F95.d B (Zai T);have Z5x:=F96.d B (Zaj T);have Z5m:=F97.d B (Zar T Z2z Z2h Z1x Z3y Z4g Z4h Z09);have Z37:=F98.d B (Z8u T);have Z10:=F99.d B (Za1 T Z37);have Z5y:=F100.d B (Zak T Z1a);have Z5n:=F101.d B (Zas T Z5w Z1a Z10 Z5y);have Z57:=F102.d B (Za2 T);exact Zb5 T Z3s Z2a Z5x Z5m Z10 Z5n Z57 F103
end K94
open PySem PySem.W PyProof.Rows
set_option maxRecDepth 100000 in
set_option maxHeartbeats 0 in
theorem PySem.Challenge.cw_castoff_k94_whole_best_under_every_rule_holds : PySem.Challenge.rw_castoff_k94_whole_best_under_every_rule.Holds := by
 refine hd94 ?_
 k_fill
 refine L2.J1w (l:=PySem.Challenge.rw_castoff_k94_whole_best_under_every_rule) (n:=63) (k:=12) (x:="_law_script") (CX:=L2.CX0) (sp:=N94.L8 432) (tp:=432) rfl (by decide) rfl ⟨rfl,by decide,by decide⟩ (λw h Y=>PySem.W.km_in_of Y) (λw h Y=>PySem.W.km_tabs_of Y _ (by simp)) (λw=>by kernel_rfl) ?F ?S ?C
 case F=>
  intro w mg fa h KX G hmg;refine' K94.Jbl KX G hmg ..
  any_goals first | k_is | (refine'⟨_,_,?j,L2.Ea ?l ?c ?k⟩;(case j=>k_is);case l|c|k=>k_is) | (refine'⟨_,_,⟨?j,?m,?n⟩,L2.Ea ?l ?c ?k⟩;(case j|m|n=>k_is);case l|c|k=>k_is) | (refine'⟨_,_,⟨?i,?j,?m,?n⟩,L2.Ea ?l ?c ?k⟩;(case i|j|m|n=>k_is);case l|c|k=>k_is) | (refine'⟨?i,?j,?m,?n⟩;case i|j|m|n=>k_is) | rfl | kernel_rfl
 case S=>exact λK H a ns hl hO hS=>⟨a,ns,rfl,hS,hl,hO.1,λ_=>rfl⟩
 case C=>exact λH s e s' z=>z
