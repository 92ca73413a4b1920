import PyProof.Rows.All
import KE.KPairComp
import KE.KLam
import KE.KNestM
import KE.KItem
import KE.KUnpack
import KE.KEqDict
import KE.KFromBytes
import KE.KIntText
import KE.KRevIter
import KE.KDictOf
import KE.KTryMore
import KE.KNestM
import KE.KLam
import PySem.Challenge.RW_castoff_k16_what_misses_weigh
set_option linter.all false
set_option Elab.async false
set_option maxRecDepth 100000
set_option maxHeartbeats 4000000
namespace PySem.W.Fast
theorem tw1192867706316714335:True:=⟨⟩
theorem tw15038096807207702896:True:=⟨⟩
theorem tw10813585679506427092:True:=⟨⟩
theorem tw9537125691350132082:True:=⟨⟩
theorem tw14168449974239378453:True:=⟨⟩
theorem tw2155661036574106047:True:=⟨⟩
theorem tw12111908815055385053:True:=⟨⟩
theorem tw3732379222792173265:True:=⟨⟩
theorem tw11081640878568340826:True:=⟨⟩
theorem tw2163024603101940036:True:=⟨⟩
theorem tw9284625680619435078:True:=⟨⟩
theorem tw6813103303477248764:True:=⟨⟩
theorem tw17897077345375178986:True:=⟨⟩
theorem tw15702345274484520623:True:=⟨⟩
theorem tw13856804194793079237:True:=⟨⟩
theorem tw13442092525951865457:True:=⟨⟩
theorem tw9414734266086664943:True:=⟨⟩
theorem tw18212085734528917751:True:=⟨⟩
theorem tw11737479693991605998:True:=⟨⟩
theorem tw15926292531463488256:True:=⟨⟩
theorem tw18413230414340979188:True:=⟨⟩
theorem tw475910598179709644:True:=⟨⟩
theorem tw7266041013208258400:True:=⟨⟩
theorem tw14665528707025114844:True:=⟨⟩
theorem tw5114165921503942815:True:=⟨⟩
theorem tw1867630594749410173:True:=⟨⟩
theorem tw14493870614762230229:True:=⟨⟩
theorem tw17112196712958206581:True:=⟨⟩
theorem tw13869130616379111772:True:=⟨⟩
theorem tw13224364383349070679:True:=⟨⟩
theorem tw3547784082309498356:True:=⟨⟩
theorem tw368420039727674567:True:=⟨⟩
theorem tw17342772424068843692:True:=⟨⟩
theorem tw1542294094599909581:True:=⟨⟩
theorem tw9051485489420120615:True:=⟨⟩
theorem tw6590619770646365694:True:=⟨⟩
theorem tw5016943174541666989:True:=⟨⟩
theorem tw2248389187012457853:True:=⟨⟩
theorem tw1513621671952481735:True:=⟨⟩
theorem tw2941300544832931449:True:=⟨⟩
theorem tw10656614130612333808:True:=⟨⟩
theorem tw11508168432869526928:True:=⟨⟩
theorem tw16797078727165541108:True:=⟨⟩
theorem tw16090615297577765759:True:=⟨⟩
theorem tw7118395942084843318:True:=⟨⟩
theorem tw3610999237256071480:True:=⟨⟩
theorem tw15182768743989159538:True:=⟨⟩
theorem tw11813919274922596180:True:=⟨⟩
theorem tw5870466939190673366:True:=⟨⟩
theorem tw14991367598624815281:True:=⟨⟩
theorem tw15191397171747385310:True:=⟨⟩
theorem tw8448183834728693047:True:=⟨⟩
theorem tw15625618701148739270:True:=⟨⟩
theorem tw4403217330472588571:True:=⟨⟩
theorem tw4654790433066854987:True:=⟨⟩
theorem tw5971704311763272285:True:=⟨⟩
theorem tw17174806662759898739:True:=⟨⟩
theorem tw7735975466489159127:True:=⟨⟩
theorem tw14799455149231133322:True:=⟨⟩
theorem tw17049006524029915225:True:=⟨⟩
theorem tw13653939873283730267:True:=⟨⟩
theorem tw5438516231617756978:True:=⟨⟩
theorem tw12501668891422156156:True:=⟨⟩
theorem tw5248155994941728492:True:=⟨⟩
theorem tw17567385393617305430:True:=⟨⟩
theorem tw5374471445901866477:True:=⟨⟩
theorem tw7041548029468647522:True:=⟨⟩
theorem tw17803809273692337592:True:=⟨⟩
theorem tw1164674178035314179:True:=⟨⟩
theorem tw5752613490464591442:True:=⟨⟩
theorem tw18122994227617385612:True:=⟨⟩
theorem tw7853306659808286809:True:=⟨⟩
theorem tw7906423046230230948:True:=⟨⟩
theorem tw4036650214122502530:True:=⟨⟩
theorem tw206704923026852815:True:=⟨⟩
theorem tw368320439065176594:True:=⟨⟩
theorem tw12706369561534023363:True:=⟨⟩
theorem tw13754705818188864136:True:=⟨⟩
theorem tw7547550484987744046:True:=⟨⟩
theorem tw12071883644850988467:True:=⟨⟩
theorem tw16617540635066575550:True:=⟨⟩
theorem tw11548513726472358893:True:=⟨⟩
theorem tw443342619326357433:True:=⟨⟩
theorem tw2274398882157523704:True:=⟨⟩
theorem tw12261315293986663267:True:=⟨⟩
theorem tw16036785318530141863:True:=⟨⟩
theorem tw314259505721561605:True:=⟨⟩
theorem tw8530116184485981229:True:=⟨⟩
theorem tw4723534072040851014:True:=⟨⟩
theorem tw9305144102808953810:True:=⟨⟩
theorem tw12167962607525235792:True:=⟨⟩
theorem tw2508068030853908353:True:=⟨⟩
theorem tw4606432113613331917:True:=⟨⟩
theorem tw6884444326474745571:True:=⟨⟩
theorem tw7034016050780435544:True:=⟨⟩
theorem tw5360298663841835592:True:=⟨⟩
theorem tw8264515122504643539:True:=⟨⟩
theorem tw15461476656305722634:True:=⟨⟩
theorem tw8791154309184194714:True:=⟨⟩
theorem tw14430269967967809999:True:=⟨⟩
theorem tw3106776413337788977:True:=⟨⟩
theorem tw6189291238633760692:True:=⟨⟩
theorem tw2907183381521336497:True:=⟨⟩
theorem tw917328267198779256:True:=⟨⟩
theorem tw11953748661921596253:True:=⟨⟩
theorem tw8066445337078384460:True:=⟨⟩
theorem tw10846494554321200141:True:=⟨⟩
theorem tw11273617303328137260:True:=⟨⟩
theorem tw17245510373805827422:True:=⟨⟩
theorem tw8685456477981819901:True:=⟨⟩
theorem tw2921213125236041758:True:=⟨⟩
theorem tw13603830643158650798:True:=⟨⟩
theorem tw1927667661957328550:True:=⟨⟩
theorem tw6561282381718919581:True:=⟨⟩
theorem tw1844395121392148377:True:=⟨⟩
theorem tw4125210942874430086:True:=⟨⟩
theorem tw14116664666744140255:True:=⟨⟩
theorem tw1847716205015979476:True:=⟨⟩
theorem tw10002945250707183269:True:=⟨⟩
theorem tw6772348188016481294:True:=⟨⟩
theorem tw2093634954358583231:True:=⟨⟩
theorem tw3304444960570749213:True:=⟨⟩
theorem tw8691368836144889050:True:=⟨⟩
theorem tw15093163249052498053:True:=⟨⟩
theorem tw16432308041218878364:True:=⟨⟩
theorem tw12796445590255306496:True:=⟨⟩
theorem tw10861272497416408012:True:=⟨⟩
theorem tw3166486454265805271:True:=⟨⟩
theorem tw1670105493359645395:True:=⟨⟩
theorem tw8287930158805398909:True:=⟨⟩
theorem tw13095380533884211158:True:=⟨⟩
theorem tw11640759581807784612:True:=⟨⟩
theorem tw7605451996045989988:True:=⟨⟩
theorem tw12078520610552693244:True:=⟨⟩
theorem tw15775034298879255598:True:=⟨⟩
theorem tw15348600801953703420:True:=⟨⟩
theorem tw6942052579754010885:True:=⟨⟩
end PySem.W.Fast
section
open PySem PySem.W PyProof.Rows
set_option maxHeartbeats 0
open_top hd16 for PySem.Challenge.rw_castoff_k16_what_misses_weigh
end
def Fa:=@List.length_map
def Fb:=@PySem.Heap.get?_push_of_some
def Fc:=@Nat.lt_of_lt_of_le
def Fd:=@PySem.wpAny_bind
def Fe:=@List.getElem?_eq_getElem
def Ff:=@Nat.ne_of_lt
def Fg:=@List.getD_eq_getElem?_getD
def Fh:=@PySem.Heap.lt_size
def Fi:=@List.getElem?_eq_some_iff
def Fj:=@List.mem_singleton
def Fk:=@List.mem_of_getElem?
def Fl:=@List.size_toArray
def Fm:=@List.getElem?_map
def Fn:=@Nat.le_refl
def Fo:=@PySem.Heap.get?_push_size
def Fp:=@List.mem_cons_of_mem
def Fq:=@List.mem_cons_self
def Fs:=@List.getElem?_append_left
def Ft:=@PySem.mem_of_lookup
def Fu:=@PySem.wpAny_pure
def Fv:=@List.getElem?_append_right
def Fw:=@List.mem_map
def Fx:=@List.length_append
def Fy:=@decide_eq_true
def Fz:=@List.map_map
def FA:=@List.mem_append_right
def FB:=@decide_eq_false
def FC:=@List.length_take
def FD:=@List.mem_cons
def FE:=@PySem.wpAny_mono
def FF:=@List.append_nil
def FG:=@Bool.false_ne_true
def FH:=@Nat.le_trans
def FI:=@PySem.lookup_relabel_local
def FJ:=@PySem.W.of_hideAll
def FK:=@List.map_append
def FL:=@List.lookup_cons
def FM:=@Option.some.inj
def FN:=@Array.getElem?_eq_some_iff
def FO:=@Int.emod_lt_of_pos
def FP:=@PySem.boot_len
def FQ:=@PySem.Heap.get?_update_other
def FR:=@List.mem_iff_getElem?
def FS:=@PySem.W.kia_one
def FT:=@Int.emod_nonneg
def FU:=@PySem.wpAny_Call_Name_kw
def FV:=@List.all_eq_true
def FW:=@List.take_add_one
def FX:=@beq_eq_false_iff_ne
def FY:=@Nat.zero_le
def FZ:=@List.nodup_cons
def Hc:=@PySem.W.callWith_K
def Hd:=@List.map_take
def He:=@List.mem_append
def Hf:=@List.filterMap_cons
def Hg:=@Nat.lt_irrefl
def Hh:=@PySem.codeAny_mono
def Hi:=@List.filter_cons_of_pos
def Hj:=@List.filter_append
def Hk:=@List.find?_cons
def Hl:=@List.length_filter_le
def Hm:=@PySem.Heap.get?_update_self
def Hn:=@PySem.wpAny_truthy_bool
def Ho:=@List.mem_of_mem_take
def Hq:=@List.mem_append_left
def Hr:=@Nat.lt_succ_self
def Hs:=@List.take_length
def Ht:=@List.map_congr_left
def Hu:=@List.filter_nil
def Hv:=@PySem.wpAny_call
def Hw:=@PySem.tupleKind_room_in1
def Hx:=@PySem.wpAny_field
def Hy:=@PySem.wpAny_loadPart_at
def Hz:=@List.lookup_cons_self
def HA:=@List.length_singleton
def HC:=@List.getElem?_eq_none
def HD:=@beq_self_eq_true
def HE:=@List.getElem_mem
def HF:=@PySem.wpAny_newFunctionEnv
def HG:=@PySem.Heap.get?_none_of_le
def HI:=@PySem.wpAny_passesOwn
def HJ:=@List.of_mem_zip
def HK:=@Bool.eq_iff_iff
def HL:=@PySem.W.hideAll_get
def HM:=@Nat.le_of_lt
def HN:=@PySem.wpAny_setField
def HP:=@Nat.lt_of_le_of_lt
def HQ:=@List.mem_filterMap
def HR:=@PySem.Heap.size_push
def HS:=@PySem.wpAny_standAt
def HU:=@PySem.wpAny_holding
def HV:=@PySem.wpAny_comprehension_free
def HW:=@PySem.F.type_list_append
def HX:=@PySem.F.slot_list_append
def HY:=@PySem.F.plainAttrs_list
def HZ:=@List.not_mem_nil
def R0:=@List.filter_cons_of_neg
def R1:=@Bool.and_eq_true
def R3:=@beq_iff_eq
def R4:=@Nat.lt_trans
def R5:=@List.getElem?_set_self
def R6:=@PySem.wpAny_execs_nil
def R7:=@Option.map_some
def R8:=@List.length_set
def R9:=@PySem.F.slot_dict_get
def Ra:=@PySem.sizeLine_eq
def Rb:=@PySem.W.hideAll_none
def Rc:=@List.mem_range
def Re:=@List.getElem?_set_ne
def Rf:=@PySem.W.plainGet_of
def Rg:=@Array.length_toList
def Rh:=@PySem.W.km_tabs_of
def Ri:=@PySem.wpAny_pyIter_list
def Rj:=@PySem.wpAny_newObj_type
def Rk:=@Option.isSome_map
def Rl:=@Nat.lt_succ_of_lt
def Rm:=@PySem.wpAny_lookBehind
def Rn:=@PySem.pastItsLine_dict
def Ro:=@Nat.le_of_not_lt
def Rp:=@List.length_drop
def Rq:=@List.any_eq_true
def Rr:=@Prod.mk.inj
def Rt:=@Nat.le_succ
noncomputable section
open PySem PySem.Spec PyProof.Rows
namespace L2
abbrev Key:=Sum Int Str
def G9:Key→Value→Bool
 | .inl k,v=>Value.isInt k v
 | .inr x,v=>Value.isStrOf x v
def J5c(w:World):Key→Int
 | .inl k=>hashInt k
 | .inr x=>hashStr w x
theorem Aw:∀{k:Key} {v:Value},G9 k v=true→(∃i t,k=Sum.inl i∧v=Value.int i t)∨(∃x t,k=Sum.inr x∧v=Value.str x t)
 | .inl i,v,h=>by
  obtain ⟨t,e⟩:=Value.isInt_shape (k:=i) (v:=v) h;exact .inl ⟨i,t,rfl,e⟩
 | .inr x,v,h=>by
  obtain ⟨t,e⟩:=Value.isStrOf_shape (x:=x) (v:=v) h;exact .inr ⟨x,t,rfl,e⟩
theorem S4(i:Int)(t:Tok):G9 (.inl i) (.int i t)=true:=by simp [G9,Value.isInt]
theorem S5(x:Str)(t:Tok):G9 (.inr x) (.str x t)=true:=by simp [G9,Value.isStrOf]
theorem J1u(a b:Int):decide ((Sum.inl a:Key)=Sum.inl b)=(a==b):=by
 by_cases e:a=b
 · subst e;simp
 · have h:¬(Sum.inl a:Key)=Sum.inl b:=fun q=>e (Sum.inl.inj q)
   rw [FB h];exact (FX.mpr e).symm
theorem J1v(a b:Str):decide ((Sum.inr a:Key)=Sum.inr b)=decide (a=b):=by
 by_cases e:a=b
 · subst e;simp
 · have h:¬(Sum.inr a:Key)=Sum.inr b:=fun q=>e (Sum.inr.inj q)
   rw [FB h,FB e]
theorem J1w(a:Int)(b:Str):decide ((Sum.inl a:Key)=Sum.inr b)=false:=FB (fun q=>nomatch q)
theorem J1x(a:Str)(b:Int):decide ((Sum.inr a:Key)=Sum.inl b)=false:=FB (fun q=>nomatch q)
def Am(prog:Program)(w:World):PySem.KeyKind prog w Key where
 is:=G9
 hash:=J5c w
 inj:=fun v a b ha hb=>by
  rcases Aw ha with ⟨i,t,rfl,rfl⟩ | ⟨x,t,rfl,rfl⟩
  · rcases Aw hb with ⟨j,u,rfl,e⟩ | ⟨y,u,rfl,e⟩
    · injection e with e1 _;rw [e1]
    · exact nomatch e
  · rcases Aw hb with ⟨j,u,rfl,e⟩ | ⟨y,u,rfl,e⟩
    · exact nomatch e
    · injection e with e1 _;rw [e1]
 byValue:=fun k v h=>by
   rcases Aw h with ⟨i,t,rfl,rfl⟩ | ⟨x,t,rfl,rfl⟩ <;> rfl
 pyHash:=fun hv h=>by
  rcases Aw hv with ⟨i,t,rfl,rfl⟩ | ⟨x,t,rfl,rfl⟩
  · exact wpAny_pyHash_int h
  · exact wpAny_pyHash_str h
 eqBool:=fun hu hv h=>by
  rcases Aw hu with ⟨i,t,rfl,rfl⟩ | ⟨x,t,rfl,rfl⟩
  · rcases Aw hv with ⟨j,u,rfl,rfl⟩ | ⟨y,u,rfl,rfl⟩
    · rw [J1u]at h;exact wpAny_eqBool_int h
    · rw [J1w]at h;exact SeqAt.EqAt.int_str i t y u _ _ _ _ h
  · rcases Aw hv with ⟨j,u,rfl,rfl⟩ | ⟨y,u,rfl,rfl⟩
    · rw [J1x]at h;exact SeqAt.EqAt.str_int x t j u _ _ _ _ h
    · rw [J1v]at h;exact wpAny_eqBool_str h
 «strs»:=fun k x t v h=>by
  rcases Aw h with ⟨i,u,rfl,e⟩ | ⟨y,u,rfl,e⟩
  · exact nomatch e
  · injection e with e1 _
    subst e1
    cases v <;> rfl
theorem Lz(prog:Program)(w:World)(i:Int)(t:Tok):(Am prog w).is (.inl i) (.int i t)=true:=S4 i t
theorem M0(prog:Program)(w:World)(x:Str)(t:Tok):(Am prog w).is (.inr x) (.str x t)=true:=S5 x t
end L2
namespace L2
inductive V where
 | non | bl (b:Bool) | int (i:Int) | str (x:Str) | byt (b:Array UInt8) | flt (b:UInt64) | ref (a:Addr) | ty (n:String)
 deriving DecidableEq
def Ab:V→Value→Prop
 | .non,u=>u=Value.none
 | .bl b,u=>u=Value.bool b
 | .int i,u=>∃t,u=Value.int i t
 | .str x,u=>∃t,u=Value.str x t
 | .byt b,u=>∃t,u=Value.bytes b t
 | .flt b,u=>∃t,u=Value.float b t
 | .ref a,u=>u=Value.ref a
 | .ty n,u=>u=Value.type n
abbrev Ag:List V→List Value→Prop:=Paired Ab
theorem Ag.length{xs:List V}{us:List Value}(r:Ag xs us):xs.length=us.length:=Paired.length r
theorem Ag.get:∀{xs:List V} {us:List Value} {i:Nat} {x:V},Ag xs us→xs[i]?=some x→∃u,us[i]?=some u∧Ab x u
 | _,_,_,_,.nil,e=>by simp at e
 | _,_,0,_,.cons r _,e=>by simp at e;subst e;exact ⟨_,rfl,r⟩
 | _,_,i+1,x,.cons _ t,e=>by
  obtain ⟨u,h1,h2⟩:=Ag.get (i:=i) (x:=x) t (by simpa using e);exact ⟨u,by simpa using h1,h2⟩
theorem Ag.set{x:V}{u:Value}(r:Ab x u):∀{xs:List V} {us:List Value} (i:Nat),Ag xs us→Ag (xs.set i x) (us.set i u)
 | _,_,_,.nil=> .nil
 | _,_,0,.cons _ t=> .cons r t
 | _,_,i+1,.cons q t=> .cons q (Ag.set r i t)
theorem Ag.append:∀{xs ys:List V} {us ws:List Value},Ag xs us→Ag ys ws→Ag (xs++ys) (us++ws)
 | _,_,_,_,.nil,s=>s
 | _,_,_,_,.cons r t,s=> .cons r (Ag.append t s)
theorem Ag.take:∀{xs:List V} {us:List Value} (n:Nat),Ag xs us→Ag (xs.take n) (us.take n)
 | _,_,0,_=> .nil
 | _,_,_+1,.nil=> .nil
 | _,_,n+1,.cons r t=> .cons r (Ag.take n t)
theorem Ag.drop:∀{xs:List V} {us:List Value} (n:Nat),Ag xs us→Ag (xs.drop n) (us.drop n)
 | _,_,0,r=>r
 | _,_,_+1,.nil=> .nil
 | _,_,n+1,.cons _ t=>Ag.drop n t
def By:Option V→Option Value→Prop
 | some v,some u=>Ab v u
 | none,none=>True
 | _,_=>False
def KV{κ:Type}:List (κ×V)→List (κ×Value)→Prop:=Paired fun (p:κ×V) (q:κ×Value)=>p.1=q.1∧Ab p.2 q.2
def kV:Key→V
 | .inl i=> .int i
 | .inr x=> .str x
inductive HO where
 | lst (xs:List V)
 | tup (xs:List V)
 | dK (kvs:List (Key×V)) | dT (kvs:List (List Key×V))
 | set (S:Int→Bool) (n:Nat)
 | ins (C dx:Addr) (fs:List (Str×V))
 | own (x:Addr)
 | xd (fs:List (Str×V))
 | met (f x:Addr)
 | rng (lo hi:Int)
 | frz (o:Obj) (u:HO)
 | tbl (ps:Array Value)
 | ext (φ:Heap→Prop)
abbrev Hp:=Addr→Option HO
def upd(H:Hp)(a:Addr)(o:HO):Hp:=fun b=>if b=a then some o else H b
theorem A1{H:Hp}{a:Addr}{o:HO}:upd H a o a=some o:=by unfold upd;rw [if_pos rfl]
theorem A0{H:Hp}{a b:Addr}{o:HO}(h:b≠a):upd H a o b=H b:=by unfold upd;rw [if_neg h]
theorem L1{H:Hp}{a:Addr}{o u:HO}:upd (upd H a o) a u=upd H a u:=by
 funext b;unfold upd;split <;> rfl
theorem Ce{H:Hp}{a b:Addr}{o u:HO}(h:H a=some o)(h':H b=some u)(d:o≠u):a≠b:=by
 intro e;subst e;rw [h]at h';exact d (FM h')
theorem A3{H:Hp}{a b:Addr}{o:HO}(h:H a=some o)(h':H b=none):a≠b:=by
 intro e;subst e;rw [h]at h';cases h'
section
variable (P:Program) (w:World)
def Ak(H:Hp)(h:Heap)(a:Addr):HO→Prop
 | .lst xs=>xs.length≤sizeLine∧∃(its:List Value) (n:Nat),Ag xs its∧h.get? a=some {cls:= .type "list",data:= .seq its.toArray n}
 | .tup xs=>xs.length≤sizeLine∧∃its:List Value,Ag xs its∧IsTup h a its.toArray
 | .dK kvs=>kvs.length≤sizeLine∧(a==sysModules)=false∧∃vs,KV kvs vs∧h.DictOf (Am P w) a vs
 | .dT kvs=>kvs.length≤sizeLine∧(a==sysModules)=false∧∃xs:List (List Key×Addr×Value),
  Paired (fun (p:List Key×V) (q:List Key×Addr×Value)=>p.1=q.1∧H q.2.1=some (.tup (p.1.map kV))∧Ab p.2 q.2.2) kvs xs∧
  ∃o es ep,h.get? a=some o∧o.ExactDict∧o.data= .dict es ep∧es.toList=xs.map (entryOfKey (tupleKind (Am P w)))∧(xs.map (·.1)).Nodup
 | .set S n=>h.SetOf (intKind P w) a S n
 | .ins C dx fs=>H dx=some (.own a)∧fs.length≤1000∧dx≠a∧h.get? a=some (PySem.W.instObj C dx)∧
  ∃mA,h.Ns1 dx mA∧(∀f,By (fs.lookup f) (mA f))∧PySem.Within mA (fs.map (·.1))
 | .own _=>∃o,h.get? a=some o
 | .xd fs=>∃mA,h.Ns1 a mA∧∀f,By (fs.lookup f) (mA f)
 | .rng lo hi=>∃t u v,h.get? a=some {cls:= .type "range",data:= .fields #[.int lo t,.int hi u,.int 1 v]}
 | .frz o u=>h.get? a=some o∧Ak H h a u
 | .tbl ps=>h.get? a=some {cls:= .none,data:= .fields ps}
 | .met f x=>h.get? a=some (PySem.W.methodObj (.ref f) (.ref x))
 | .ext φ=>φ h∧(∃o,h.get? a=some o)∧∀h1 h2:Heap,φ h1→(∀o,h1.get? a=some o→h2.get? a=some o)→φ h2
def HOk(H:Hp)(h:Heap):Prop:=∀a o,H a=some o→Ak P w H h a o
end
section
variable {P:Program} {w:World} {H H':Hp} {h h':Heap} {a:Addr} {o:HO}
theorem Ak.lt(x:Ak P w H h a o):a < h.objs.size:=by
 cases o with
 | lst xs=>obtain ⟨_,_,_,_,e⟩:=x;exact Fh e
 | tup xs=>obtain ⟨_,_,_,p⟩:=x;exact p.lt
 | dK kvs=>obtain ⟨_,_,_,_,o,_,_,e,_⟩:=x;exact Fh e
 | dT kvs=>obtain ⟨_,_,_,_,o,_,_,e,_⟩:=x;exact Fh e
 | set S n=>obtain ⟨o,_,_,_,e,_⟩:=x;exact Fh e
 | ins C dx fs=>obtain ⟨_,_,_,e,_⟩:=x;exact Fh e
 | own y=>obtain ⟨_,e⟩:=x;exact Fh e
 | xd fs=>obtain ⟨_,⟨_,_,_,e,_⟩,_⟩:=x;exact Fh e
 | rng lo hi=>obtain ⟨_,_,_,e⟩:=x;exact Fh e
 | frz ob u=>obtain ⟨e,_⟩:=x;exact Fh e
 | tbl ps=>exact Fh (show h.get? a=some _ from x)
 | met f y=>exact Fh (show h.get? a=some _ from x)
 | ext φ=>obtain ⟨_,⟨_,e⟩,_⟩:=x;exact Fh e
theorem Paired.mapP{α β:Type}{F G:α→β→Prop}:∀{l₁:List α} {l₂:List β},Paired F l₁ l₂→(∀a b,F a b→G a b)→Paired G l₁ l₂
 | _,_,.nil,_=> .nil
 | _,_,.cons r t,f=> .cons (f _ _ r) (Paired.mapP t f)
theorem Ak.stay(x:Ak P w H h a o)(k:∀b u,(b=a∨H b=some (.own a))→h.get? b=some u→h'.get? b=some u)
 (ho:∀b,H b=some (.own a)→H' b=some (.own a)) (ht:∀b xs,H b=some (.tup xs)→H' b=some (.tup xs)):Ak P w H' h' a o:=by
 induction o with
 | lst xs=>obtain ⟨z,its,n,r,e⟩:=x;exact ⟨z,its,n,r,k _ _ (.inl rfl) e⟩
 | tup xs=>obtain ⟨z,its,r,ob,e,c⟩:=x;exact ⟨z,its,r,ob,k _ _ (.inl rfl) e,c⟩
 | dK kvs=>obtain ⟨z,y,vs,r,ob,es,ep,e,c⟩:=x;exact ⟨z,y,vs,r,ob,es,ep,k _ _ (.inl rfl) e,c⟩
 | dT kvs=>
  obtain ⟨z,y,xs,r,ob,es,ep,e,c⟩:=x;exact ⟨z,y,xs,Paired.mapP r fun p q z=>⟨z.1,ht _ _ z.2.1,z.2.2⟩,ob,es,ep,k _ _ (.inl rfl) e,c⟩
 | set S n=>obtain ⟨ob,es,ep,t,e,c⟩:=x;exact ⟨ob,es,ep,t,k _ _ (.inl rfl) e,c⟩
 | ins C dx fs=>
  obtain ⟨d,z,ne,e,mA,⟨od,es,ep,e2,c⟩,r⟩:=x;exact ⟨ho _ d,z,ne,k _ _ (.inl rfl) e,mA,⟨od,es,ep,k _ _ (.inr d) e2,c⟩,r⟩
 | own y=>obtain ⟨ob,e⟩:=x;exact ⟨ob,k _ _ (.inl rfl) e⟩
 | xd fs=>obtain ⟨mA,⟨od,es,ep,e,c⟩,r⟩:=x;exact ⟨mA,⟨od,es,ep,k _ _ (.inl rfl) e,c⟩,r⟩
 | rng lo hi=>obtain ⟨t,u,v,e⟩:=x;exact ⟨t,u,v,k _ _ (.inl rfl) e⟩
 | frz ob u ih=>obtain ⟨e,q⟩:=x;exact ⟨k _ _ (.inl rfl) e,ih q⟩
 | tbl ps=>
  have e:h.get? a=some {cls:= .none,data:= .fields ps}:=x;show h'.get? a=some {cls:= .none,data:= .fields ps};exact k a _ (.inl rfl) e
 | met f y=>
  have e:h.get? a=some (PySem.W.methodObj (.ref f) (.ref y)):=x;show h'.get? a=some (PySem.W.methodObj (.ref f) (.ref y));exact k a _ (.inl rfl) e
 | ext φ=>obtain ⟨p,⟨o,e⟩,st⟩:=x;exact ⟨st _ _ p fun o q=>k _ _ (.inl rfl) q,⟨o,k _ _ (.inl rfl) e⟩,st⟩
theorem HOk.lt(x:HOk P w H h)(e:H a=some o):a < h.objs.size:=(x a o e).lt
theorem HOk.fresh(x:HOk P w H h)(e:h.objs.size≤a):H a=none:=by
 cases q:H a with
 | none=>rfl
 | some u=>exact absurd (Fc (x.lt q) e) (Hg _)
theorem HOk.kept(x:HOk P w H h)(k:∀b u,h.get? b=some u→h'.get? b=some u):HOk P w H h':=fun a o e=>
 (x a o e).stay (fun b u _ q=>k b u q) (fun _ q=>q) fun _ _ q=>q
theorem HOk.laid(x:HOk P w H h)(k:∀b u,h.get? b=some u→h'.get? b=some u)(hp:h.objs.size≤a)(new:Ak P w (upd H a o) h' a o):HOk P w (upd H a o) h':=fun b u e=>by
 have hn:=x.fresh hp
 by_cases hb:b=a
 · subst hb;rw [A1]at e;cases e;exact new
 · rw [A0 hb]at e
   exact (x b u e).stay (fun c v _ q=>k c v q) (fun c q=>by rw [A0 (A3 q hn)];exact q) fun c xs q=>by rw [A0 (A3 q hn)];exact q
end
def Rd(H:Hp)(a:Addr)(u:HO):Prop:=H a=some u∨∃o,H a=some (.frz o u)
theorem Rd.ok{P:Program}{w:World}{H:Hp}{h:Heap}{a:Addr}{u:HO}(r:Rd H a u)(x:HOk P w H h):Ak P w H h a u:=by
 rcases r with r | ⟨o,r⟩
 · exact x a u r
 · obtain ⟨_,q⟩:=x a _ r
   exact q
def Mut:Option HO→Prop
 | some (.lst _)=>True
 | some (.dK _)=>True
 | some (.dT _)=>True
 | some (.set _ _)=>True
 | some (.ins _ _ _)=>True
 | some (.ext _)=>True
 | _=>False
section
variable {P:Program} {w:World} {H:Hp} {h h':Heap} {x e:Addr} {o':HO}
theorem HOk.write(ok:HOk P w H h)(mu:Mut (H x))(he:e=x∨H e=some (.own x))(k:∀b u,b≠e→h.get? b=some u→h'.get? b=some u)(heo:∃u,h'.get? e=some u)
 (new:Ak P w (upd H x o') h' x o'):HOk P w (upd H x o') h':=fun b u q=>by
 have nown:∀c y,H c=some (.own y)→c≠x:=fun c y r z=>by subst z;rw [r]at mu;exact mu
 have ntup:∀c xs,H c=some (.tup xs)→c≠x:=fun c xs r z=>by subst z;rw [r]at mu;exact mu
 by_cases hb:b=x
 · subst hb;rw [A1]at q;cases q;exact new
 · rw [A0 hb]at q
   by_cases hbe:b=e
   · have q':H b=some (.own x):=by
      rcases he with z | z
      · exact absurd (hbe.trans z) hb
      · rw [hbe];exact z
     rw [q]at q';cases q';obtain ⟨v,hv⟩:=heo;exact ⟨v,by rw [hbe];exact hv⟩
   · refine (ok b u q).stay (fun c v hc r=>k c v ?_ r) (fun c r=>by rw [A0 (nown c b r)];exact r) fun c xs r=>by rw [A0 (ntup c xs r)];exact r
     rcases hc with rfl | hc
     · exact hbe
     · rintro rfl
       rcases he with z | z
       · exact nown c b hc z
       · rw [hc]at z;cases z;exact hb rfl
end
structure Un(fs ex:List Addr)(H H':Hp)(h h':Heap):Prop where
 keep:∀b o,h.get? b=some o→H b=none→b∉fs→b∉ex→h'.get? b=some o
 slot:∀b o,h.get? b=some o→H b=none→b∈fs→b∉ex→∃sl,h'.get? b=some {o with slots:=sl}
 free:∀b o,h.get? b=some o→H b=none→b∉ex→H' b=none
 there:∀b o,h.get? b=some o→b∉ex→∃o',h'.get? b=some o'
 tups:∀b xs,H b=some (.tup xs)→H' b=some (.tup xs)
 frzs:∀b o u,H b=some (.frz o u)→H' b=some (.frz o u)
 tbls:∀b ps,H b=some (.tbl ps)→∃more,H' b=some (.tbl (ps++more))
section
variable {fs fs' ex ex':List Addr} {H H1 H2:Hp} {h h1 h2 h':Heap} {a x e:Addr} {o:HO}
theorem Un.any(u:Un fs ex H H1 h h1){b:Addr}{ob:Obj}(q:h.get? b=some ob)(n:H b=none)(hx:b∉ex):∃sl,h1.get? b=some {ob with slots:=sl}:=by
 by_cases hb:b∈fs
 · exact u.slot b ob q n hb hx
 · exact ⟨ob.slots,u.keep b ob q n hb hx⟩
theorem Un.kept(k:∀b u,h.get? b=some u→h'.get? b=some u):Un fs ex H H h h':=
 ⟨fun b ob q _ _ _=>k b ob q,fun b ob q _ _ _=>⟨ob.slots,k b ob q⟩,fun _ _ _ n _=>n,fun b ob q _=>⟨ob,k b ob q⟩,fun _ _ q=>q,fun _ _ _ q=>q,fun _ ps q=>⟨#[],by rw [q];simp⟩⟩
theorem Un.refl:Un fs ex H H h h:=Un.kept fun _ _ q=>q
theorem Un.laid(k:∀b u,h.get? b=some u→h'.get? b=some u)(hp:h.objs.size≤a)(hn:H a=none):Un fs ex H (upd H a o) h h' where
 keep:=fun b u q _ _ _=>k b u q
 slot:=fun b u q _ _ _=>⟨u.slots,k b u q⟩
 free:=fun b u q n _=>by rw [A0 (Ff (Fc (Fh q) hp))];exact n
 there:=fun b u q _=>⟨u,k b u q⟩
 tups:=fun b xs q=>by rw [A0 (A3 q hn)];exact q
 frzs:=fun b u xs q=>by rw [A0 (A3 q hn)];exact q
 tbls:=fun b ps q=>⟨#[],by rw [A0 (A3 q hn),q];simp⟩
theorem Un.write(mu:Mut (H x))(he:e=x∨H e=some (.own x))(k:∀b u,b≠e→h.get? b=some u→h'.get? b=some u)(heo:∃u,h'.get? e=some u):Un fs ex H (upd H x o) h h':=by
 have hx:∀b,H b=none→b≠x:=fun b n z=>by subst z;rw [n]at mu;exact mu
 have hb:∀b,H b=none→b≠e:=fun b n z=>by
  subst z;rcases he with r | r
  · exact hx b n r
  · rw [n]at r;cases r
 have hm:∀b u,H b=some u→¬Mut (some u)→b≠x:=fun b u q nm z=>by subst z;rw [q]at mu;exact nm mu
 refine ⟨fun b u q n _ _=>k b u (hb b n) q,fun b u q n _ _=>⟨u.slots,k b u (hb b n) q⟩,fun b u q n _=>by rw [A0 (hx b n)];exact n,fun b u q _=>?_,
  fun b xs q=>by rw [A0 (hm b _ q fun z=>z)];exact q,fun b u xs q=>by rw [A0 (hm b _ q fun z=>z)];exact q,fun b ps q=>⟨#[],by rw [A0 (hm b _ q fun z=>z),q];simp⟩⟩
 by_cases hbe:b=e
 · subst hbe;exact heo
 · exact ⟨u,k b u hbe q⟩
end
def trk(h:Heap)(H:Hp):List Addr:=(List.range h.objs.size).filter fun a=>(H a).isSome
def L3(h:Heap)(H:Hp):Heap:=PySem.W.hideAll h (trk h H)
theorem S6(h:Heap)(H:Hp):(L3 h H).objs.size=h.objs.size:=PySem.W.hideAll_size _ _
theorem Gv{h:Heap}{H:Hp}{b:Addr}{o:Obj}(e:h.get? b=some o)(n:H b=none):(L3 h H).get? b=some o:=
 HL _ e fun hm=>by
  have q:(H b).isSome=true:=(List.mem_filter.mp hm).2;rw [n]at q;simp at q
theorem Xj{h:Heap}{H:Hp}{b:Addr}{o:Obj}(e:(L3 h H).get? b=some o):h.get? b=some o∧H b=none:=by
 have e':h.get? b=some o:=FJ (trk h H) e;refine ⟨e',?_⟩
 cases q:H b with
 | none=>rfl
 | some x=>
  have hm:b∈trk h H:=List.mem_filter.mpr ⟨Rc.mpr (Fh e'),by simp [q]⟩;have z:(L3 h H).get? b=none:=Rb (trk h H) hm;rw [z]at e;cases e
def Xk(g h:Heap)(L:Addr):List (Addr×Obj):=(List.range h.objs.size).filterMap fun a=>if a=L∨(g.get? a).isSome=true then none else (h.get? a).map fun o=>(a,o)
def rest(g h:Heap)(L d:Addr):List (Addr×Obj):=(Xk g h L).filter fun p=>decide (p.1≠d)
end L2
namespace L2
structure Mod(K:PySem.W.Frag)(mg:Str→Option Value)(base:Heap):Prop where
 kin:K.In base
 glob:base.Ns mainGlobals mg
 blt:∃mb,base.Ns builtinsNs mb∧∀x:Str,x≠"__name__"→mb x=bootBuiltins x
 nolimit:base.NoLimit
structure Cx where
 prog:Program
 w:World
 K:PySem.W.Frag
 mg:Str→Option Value
 base:Heap
 A:Around
 N:List Str
 s₀:Shared
 H₀:Hp
 env:Env
 outer:List Env
 stack:List Env
 ex:List Addr
 fn:Str→Bool
 calm:Bool
 pn:List (Addr×Obj)
 xe:Value→Shared→Prop
def frs(l:List Env):List Addr:=l.filterMap (·.frame)
abbrev Cx.fs(X:Cx):List Addr:=frs X.outer
def Vis(sc:Scope)(x:Str):Prop:=sc.names.lookup x=some .local∨sc.names.lookup x=some .cell∨sc.names.lookup x=some .free
def Loc(sc:Scope)(x:Str):Prop:=sc.names.lookup x=some .local∨sc.names.lookup x=some .cell
def J5d(env:Env)(h:Heap)(m:Str→Option Value)(x:Str)(u:Value):Prop:=
 (env.kindOf x=some .local∧m x=some u)∨((env.kindOf x=some .cell∨env.kindOf x=some .free)∧∃c,env.cells.lookup x=some c∧h.IsCell c (some u))
structure Cx.Ok(X:Cx):Prop where
 mod:Mod X.K X.mg X.base
 kind:X.env.scope.kind= .function
 glob:X.env.globals=mainGlobals
 blt:X.env.builtins=builtinsNs
 above:X.s₀.heap.objs.size≤X.env.locals
 inj:∀x y c,X.env.cells.lookup x=some c→X.env.cells.lookup y=some c→x=y
 has:∀x,(X.env.kindOf x=some .cell∨X.env.kindOf x=some .free)→∃c,X.env.cells.lookup x=some c
 cab:∀x c,X.fn x=true→X.env.cells.lookup x=some c→X.s₀.heap.objs.size≤c
 hd:X.calm=true→X.A.handled=none
 frames:X.A.frames=some X.stack
 stk:X.stack=X.outer∨(X.stack=X.env::X.outer∧X.env.frame=some X.env.locals)
 exf:∀b∈X.ex,b≠X.env.locals∧∀x c,X.env.cells.lookup x=some c→c≠b
 bs:∀b o,X.base.get? b=some o→X.s₀.heap.get? b=some o∧X.H₀ b=none
 bsz:X.base.objs.size≤X.s₀.heap.objs.size
 noex:∀b o,X.base.get? b=some o→b∉X.ex
 exfs:∀b∈X.ex,b∉X.fs
 funs:X.s₀.heap.FunFrames X.base X.outer
 frf:∀b∈X.fs,X.H₀ b=none
structure Inv(X:Cx)(pins:List (Addr×Obj))(σ:List (Option V))(H:Hp)(s:Shared):Prop where
 ok:X.Ok
 os:s.os=X.s₀.os
 bare:AllBare s.gens
 base:Un X.fs X.ex X.H₀ H X.s₀.heap s.heap
 loc:∃m,s.heap.Ns X.env.locals m∧∀(i:Nat) (x:Str) (v:V),X.N[i]?=some x→σ[i]?=some (some v)→Vis X.env.scope x→∃u,Ab v u∧J5d X.env s.heap m x u
 cell:∀x c,X.env.cells.lookup x=some c→∃v,s.heap.IsCell c v
 free:H X.env.locals=none
 freeC:∀x c,X.env.cells.lookup x=some c→H c=none
 pin:∀p∈X.pn++pins,s.heap.get? p.1=some p.2∧H p.1=none∧p.1≠X.env.locals∧p.1∉X.fs∧∀v,p.2.data≠ .cell v
 hok:HOk X.prog X.w H s.heap
 len:σ.length=X.N.length
section
variable {X:Cx} {pins:List (Addr×Obj)} {σ:List (Option V)} {H H':Hp} {s:Shared} {h':Heap}
theorem Cx.Ok.nofr(ok:X.Ok){b:Addr}{o:Obj}(e:X.base.get? b=some o):b∉X.fs:=fun hb=>by
 have:=(ok.funs.mem hb).1;rw [e]at this;cases this
theorem Inv.bs(I:Inv X pins σ H s):∀b o,X.base.get? b=some o→s.heap.get? b=some o∧H b=none:=fun b o e=>
 ⟨I.base.keep b o (I.ok.bs b o e).1 (I.ok.bs b o e).2 (I.ok.nofr e) (I.ok.noex b o e),I.base.free b o (I.ok.bs b o e).1 (I.ok.bs b o e).2 (I.ok.noex b o e)⟩
theorem Inv.bk(I:Inv X pins σ H s):∀b o,X.base.get? b=some o→s.heap.get? b=some o:=fun b o e=>(I.bs b o e).1
theorem Inv.mod(I:Inv X pins σ H s):Mod X.K X.mg X.base:=I.ok.mod
theorem Inv.kIn(I:Inv X pins σ H s):X.K.In s.heap:=I.ok.mod.kin.keeps I.bk
theorem Inv.lt(I:Inv X pins σ H s):X.env.locals < s.heap.objs.size:=let ⟨_,hn,_⟩:=I.loc;hn.lt
theorem Inv.sz(I:Inv X pins σ H s):X.s₀.heap.objs.size≤s.heap.objs.size:=FH I.ok.above (HM I.lt)
theorem Inv.nofs(I:Inv X pins σ H s){a:Addr}(h:s.heap.objs.size≤a):a∉X.fs:=fun hb=>by
 obtain ⟨_,o,ho,_⟩:=I.ok.funs.mem hb;exact absurd (Fc (Fh ho) (FH I.sz h)) (Hg _)
theorem Inv.cne(I:Inv X pins σ H s):∀x c,X.env.cells.lookup x=some c→c≠X.env.locals:=fun x c e z=>by
 obtain ⟨v,o,ho,hd⟩:=I.cell x c e;obtain ⟨m,⟨o',es,ep,ho',hd',_⟩,_⟩:=I.loc;rw [z,ho']at ho;cases ho;rw [hd']at hd;cases hd
theorem Inv.funs(I:Inv X pins σ H s):s.heap.FunFrames X.base X.outer:=by
 have all:∀(l:List Env),(∀b∈frs l,b∈X.fs)→X.s₀.heap.FunFrames X.base l→s.heap.FunFrames X.base l:=by
  intro l
  induction l with
  | nil=>intro _ _;trivial
  | cons env r ih=>
   intro hs hl;obtain ⟨hk,⟨L,o,hf,hn,ho,hd⟩,hr⟩:=hl;have hL:L∈X.fs:=hs L (by unfold frs;rw [Hf,hf];exact Fq);obtain ⟨sl,e⟩:=I.base.slot L o ho (I.ok.frf L hL) hL fun z=>I.ok.exfs L z hL;exact ⟨hk,⟨L,_,hf,hn,e,hd⟩,ih (fun b hb=>hs b (by unfold frs;rw [Hf,hf];exact Fp _ hb)) hr⟩
 exact all X.outer (fun _ hb=>hb) I.ok.funs
theorem Inv.stack(I:Inv X pins σ H s):s.heap.FunFrames X.base X.stack:=by
 rcases I.ok.stk with e | ⟨e,hf⟩
 · rw [e];exact I.funs
 · rw [e]
   obtain ⟨m,hn,_⟩:=I.loc;refine .cons (by rw [I.ok.kind];decide) hf hn ?_ I.funs;exact HG (FH I.ok.bsz I.ok.above)
theorem Inv.stkSub(I:Inv X pins σ H s):∀b∈frs X.stack,b∈X.env.locals::X.fs:=fun b hb=>by
 rcases I.ok.stk with e | ⟨e,hf⟩
 · rw [e]at hb;exact Fp _ hb
 · rw [e]at hb
   unfold frs at hb;rw [Hf,hf]at hb;exact hb
theorem Inv.stkFree(I:Inv X pins σ H s):∀b∈frs X.stack,H b=none:=fun b hb=>by
 rcases FD.mp (I.stkSub b hb) with e | hb
 · rw [e];exact I.free
 · obtain ⟨_,o,ho,_⟩:=I.ok.funs.mem hb
   exact I.base.free b o ho (I.ok.frf b hb) fun z=>I.ok.exfs b z hb
theorem Inv.step{g':Array GenState}{t':Nat}{d':Drawn}{ch:List Addr}(I:Inv X pins σ H s)
 (hch:∀b∈ch,(b∈X.ex∨X.s₀.heap.objs.size≤b)∧b≠X.env.locals∧(∀x c,X.env.cells.lookup x=some c→c≠b)∧∀p∈X.pn++pins,p.1≠b)
 (keep:∀b o,b≠X.env.locals→b∉X.fs→b∉ch→s.heap.get? b=some o→H b=none→h'.get? b=some o)
 (slot:∀b o,b≠X.env.locals→b∈X.fs→b∉ch→s.heap.get? b=some o→H b=none→∃sl,h'.get? b=some {o with slots:=sl}) (free:∀b o,b∉ch→s.heap.get? b=some o→H b=none→H' b=none)
 (there:∀b o,b∉ch→s.heap.get? b=some o→∃o',h'.get? b=some o')
 (tups:∀b xs,H b=some (.tup xs)→H' b=some (.tup xs)) (frzs:∀b o u,H b=some (.frz o u)→H' b=some (.frz o u)) (tbls:∀b ps,H b=some (.tbl ps)→∃more,H' b=some (.tbl (ps++more)))
 (ns:∀m,s.heap.Ns X.env.locals m→h'.Ns X.env.locals m) (hok:HOk X.prog X.w H' h') (hg:AllBare g'):
 Inv X pins σ H' {s with heap:=h',gens:=g',drawn:=d',toks:=t'}:=by
 have neL:∀b o,X.s₀.heap.get? b=some o→b≠X.env.locals:=fun b o e=>Ff (Fc (Fh e) I.ok.above)
 have neC:∀b o,X.s₀.heap.get? b=some o→b∉X.ex→b∉ch:=fun b o e hx hb=>by
  rcases (hch b hb).1 with z | z
  · exact hx z
  · exact absurd (Fc (Fh e) z) (Hg _)
 have cellK:∀x c,X.env.cells.lookup x=some c→∀v,s.heap.IsCell c v→h'.IsCell c v:=fun x c e v ⟨o,ho,hd⟩=>by
  have nch:c∉ch:=fun z=>(hch c z).2.2.1 x c e rfl
  by_cases hc:c∈X.fs
  · obtain ⟨sl,q⟩:=slot c o (I.cne x c e) hc nch ho (I.freeC x c e)
    exact ⟨_,q,hd⟩
  · exact ⟨o,keep c o (I.cne x c e) hc nch ho (I.freeC x c e),hd⟩
 refine ⟨I.ok,I.os,hg,⟨fun b o e n hb hx=>?_,fun b o e n hb hx=>?_,fun b o e n hx=>?_,fun b o e hx=>?_,fun b xs e=>tups b xs (I.base.tups b xs e),fun b o xs e=>frzs b o xs (I.base.frzs b o xs e),fun b ps e=>?_⟩,?_,fun x c e=>?_,?_,fun x c e=>?_,fun p hp=>?_,hok,I.len⟩
 · exact keep b o (neL b o e) hb (neC b o e hx) (I.base.keep b o e n hb hx) (I.base.free b o e n hx)
 · obtain ⟨sl,e1⟩:=I.base.slot b o e n hb hx
   obtain ⟨sl',e2⟩:=slot b _ (neL b o e) hb (neC b o e hx) e1 (I.base.free b o e n hx);exact ⟨sl',e2⟩
 · obtain ⟨o',e1⟩:=I.base.there b o e hx
   exact free b o' (neC b o e hx) e1 (I.base.free b o e n hx)
 · obtain ⟨o',e1⟩:=I.base.there b o e hx
   exact there b o' (neC b o e hx) e1
 · obtain ⟨m1,e1⟩:=I.base.tbls b ps e
   obtain ⟨m2,e2⟩:=tbls b _ e1;exact ⟨m1++m2,by rw [e2,Array.append_assoc]⟩
 · obtain ⟨m,hn,hl⟩:=I.loc
   refine ⟨m,ns m hn,fun i x v e1 e2 e3=>?_⟩;obtain ⟨u,r,l⟩:=hl i x v e1 e2 e3;refine ⟨u,r,?_⟩;rcases l with l | ⟨k,c,e,z⟩
   · exact .inl l
   · exact .inr ⟨k,c,e,cellK x c e _ z⟩
 · obtain ⟨v,z⟩:=I.cell x c e
   exact ⟨v,cellK x c e v z⟩
 · obtain ⟨m,⟨o,_,_,ho,_⟩,_⟩:=I.loc
   exact free _ o (fun z=>(hch _ z).2.1 rfl) ho I.free
 · obtain ⟨v,o,ho,hd⟩:=I.cell x c e
   exact free c o (fun z=>(hch c z).2.2.1 x c e rfl) ho (I.freeC x c e)
 · obtain ⟨e,n,ne,nf,d⟩:=I.pin p hp
   have nch:p.1∉ch:=fun z=>(hch p.1 z).2.2.2 p hp rfl;exact ⟨keep p.1 p.2 ne nf nch e n,free p.1 p.2 nch e n,ne,nf,d⟩
theorem Inv.un{t':Nat}(I:Inv X pins σ H s)(u:Un X.fs [] H H' s.heap h')(hok:HOk X.prog X.w H' h'):Inv X pins σ H' {s with heap:=h',toks:=t'}:=by
 obtain ⟨m,⟨o,es,ep,ho,r⟩,_⟩:=id I.loc;obtain ⟨sl,hL⟩:=u.any ho I.free (by simp)
 exact I.step (g':=s.gens) (d':=s.drawn) (ch:=[]) (fun _ z=>nomatch z) (fun b o _ hb _ e n=>u.keep b o e n hb (by simp)) (fun b o _ hb _ e n=>u.slot b o e n hb (by simp)) (fun b o _ e n=>u.free b o e n (by simp)) (fun b o _ e=>u.there b o e (by simp)) u.tups u.frzs u.tbls (fun m' hm=>by
  obtain ⟨o',es',ep',ho',r'⟩:=hm;rw [ho]at ho';cases ho'
  exact ⟨_,es',ep',hL,r'⟩) hok I.bare
theorem Inv.call{g':Array GenState}{t':Nat}{d':Drawn}{ch:List Addr}(I:Inv X pins σ H s)(u:Un (frs X.stack) ch H H' s.heap h')(hok:HOk X.prog X.w H' h')(hg:AllBare g')
 (hch:∀b∈ch,(b∈X.ex∨X.s₀.heap.objs.size≤b)∧b≠X.env.locals∧(∀x c,X.env.cells.lookup x=some c→c≠b)∧∀p∈X.pn++pins,p.1≠b):
 Inv X pins σ H' {s with heap:=h',gens:=g',drawn:=d',toks:=t'}:=by
 obtain ⟨m,⟨o,es,ep,ho,r⟩,_⟩:=id I.loc;obtain ⟨sl,hL⟩:=u.any ho I.free fun z=>(hch _ z).2.1 rfl
 exact I.step (ch:=ch) hch (fun b o hL hb hc e n=>u.keep b o e n (fun z=>(FD.mp (I.stkSub b z)).elim hL hb) hc) (fun b o _ _ hc e n=>u.any e n hc) (fun b o hc e n=>u.free b o e n hc) (fun b o hc e=>u.there b o e hc) u.tups u.frzs u.tbls (fun m' hm=>by
  obtain ⟨o',es',ep',ho',r'⟩:=hm;rw [ho]at ho';cases ho'
  exact ⟨_,es',ep',hL,r'⟩) hok hg
theorem Inv.turned{t':Nat}{it:Addr}(I:Inv X pins σ H s)(k:∀b o,b≠it→s.heap.get? b=some o→h'.get? b=some o)(hn:H it=none)(hL:it≠X.env.locals)
 (h1:it∈X.ex∨X.s₀.heap.objs.size≤it) (h2:∀x c,X.env.cells.lookup x=some c→c≠it) (h3:∀p∈X.pn++pins,p.1≠it):Inv X pins σ H {s with heap:=h',toks:=t'}:=by
 have nit:∀b u,H b=some u→b≠it:=fun b u e z=>by rw [z,hn]at e;cases e
 refine I.step (g':=s.gens) (d':=s.drawn) (ch:=[it]) (fun b hb=>?_) (fun b o _ _ hc e _=>k b o (fun z=>hc (by simp [z])) e) (fun b o _ _ hc e _=>⟨o.slots,k b o (fun z=>hc (by simp [z])) e⟩) (fun _ _ _ _ n=>n)
  (fun b o hc e=>⟨o,k b o (fun z=>hc (by simp [z])) e⟩) (fun _ _ e=>e) (fun _ _ _ e=>e) (fun b ps e=>⟨#[],by rw [e];simp⟩) (fun m hm=>?_) (fun b u e=>?_) I.bare
 · have e:b=it:=by simpa using hb
   subst e;exact ⟨h1,hL,h2,h3⟩
 · obtain ⟨o,es,ep,ho,r⟩:=hm
   exact ⟨o,es,ep,k _ o (Ne.symm hL) ho,r⟩
 · refine (I.hok b u e).stay (fun c v hc q=>k c v ?_ q) (fun _ q=>q) fun _ _ q=>q
   rcases hc with z | z
   · rw [z];exact nit b u e
   · exact nit c _ z
theorem Inv.tok(I:Inv X pins σ H s)(t:Nat):Inv X pins σ H {s with toks:=t}:=I.un (h':=s.heap) (t':=t) Un.refl I.hok
theorem Inv.kept{t':Nat}(I:Inv X pins σ H s)(k:∀b u,s.heap.get? b=some u→h'.get? b=some u):Inv X pins σ H {s with heap:=h',toks:=t'}:=I.un (Un.kept k) (I.hok.kept k)
theorem Inv.laid{a:Addr}{o:HO}{t':Nat}(I:Inv X pins σ H s)(k:∀b u,s.heap.get? b=some u→h'.get? b=some u)(hp:s.heap.objs.size≤a)(new:Ak X.prog X.w (upd H a o) h' a o):
 Inv X pins σ (upd H a o) {s with heap:=h',toks:=t'}:=I.un (Un.laid k hp (I.hok.fresh hp)) (I.hok.laid k hp new)
theorem Inv.write{x e:Addr}{o:HO}{t':Nat}(I:Inv X pins σ H s)(mu:Mut (H x))(he:e=x∨H e=some (.own x))(k:∀b u,b≠e→s.heap.get? b=some u→h'.get? b=some u)(heo:∃u,h'.get? e=some u)
 (new:Ak X.prog X.w (upd H x o) h' x o):Inv X pins σ (upd H x o) {s with heap:=h',toks:=t'}:=I.un (Un.write mu he k heo) (I.hok.write mu he k heo new)
theorem Inv.weak{σ':List (Option V)}(I:Inv X pins σ H s)(hl:σ'.length=σ.length)(w:∀(i:Nat) v,σ'[i]?=some (some v)→σ[i]?=some (some v)):Inv X pins σ' H s:=
 ⟨I.ok,I.os,I.bare,I.base,let ⟨m,hn,hl'⟩:=I.loc;⟨m,hn,fun i x v e1 e2 e3=>hl' i x v e1 (w i v e2) e3⟩,I.cell,I.free,I.freeC,I.pin,I.hok,hl.trans I.len⟩
theorem Inv.pins_of{pins':List (Addr×Obj)}(I:Inv X pins σ H s)(h:∀p∈pins',s.heap.get? p.1=some p.2∧H p.1=none∧p.1≠X.env.locals∧p.1∉X.fs∧∀v,p.2.data≠ .cell v):Inv X pins' σ H s:=
 ⟨I.ok,I.os,I.bare,I.base,I.loc,I.cell,I.free,I.freeC,fun p hp=>(He.mp hp).elim (fun z=>I.pin p (Hq _ z)) (h p),I.hok,I.len⟩
theorem Gw{N:List Str}(hN:N.Nodup){i j:Nat}{x:Str}(a:N[i]?=some x)(b:N[j]?=some x):i=j:=by
 obtain ⟨h1,e1⟩:=Fi.mp a;obtain ⟨h2,e2⟩:=Fi.mp b;exact (List.getElem_inj hN).mp (e1.trans e2.symm)
theorem K7{M:Model}{A:Around}{E:Value→Shared→Prop}{i:Nat}{x:Str}{v:V}{u:Value}{Q:Unit→Shared→Prop}(I:Inv X pins σ H s)(hN:X.N.Nodup)(hi:X.N[i]?=some x)(hx:Loc X.env.scope x)(r:Ab v u)
 (h:∀s',Inv X pins (σ.set i (some v)) H s'→(∃a,Heap.SameBut a s.heap s'.heap∧(a=X.env.locals∨X.env.cells.lookup x=some a))→Q () s') (hf:X.fn x=true∨X.env.scope.names.lookup x=some .local:=by first | exact .inl rfl | exact .inr rfl | assumption):wpAny M A (storeName X.env x u) Q E s:=by
 obtain ⟨m,hn,hl⟩:=id I.loc
 have hcls:(X.env.scope.kind== .class || (X.env.scope.kind== .module && X.env.locals !=X.env.globals))=false:=by rw [I.ok.kind];rfl
 have hiσ:i < σ.length:=by rw [I.len];exact (Fi.mp hi).1
 have cne:=I.cne
 have tracked:∀{a:Addr} {h':Heap},(∃o,s.heap.get? a=some o∧H a=none)→Heap.SameBut a s.heap h'→HOk X.prog X.w H h':=fun {a h'} ha hs b ob e=>by
  obtain ⟨_,_,hfree⟩:=ha;refine (I.hok b ob e).stay (fun c w' hc q=>(hs.2 c ?_).trans q) (fun _ q=>q) fun _ _ q=>q;rintro rfl;rcases hc with rfl | hc
  · rw [hfree]at e;cases e
  · rw [hfree]at hc;cases hc
 rcases hx with hk | hk
 · refine wpAny_storeName_local hk hn (fun h' hn' hs=>?_) hcls
   obtain ⟨oL,_,_,hoL,_⟩:=id hn;refine h _ ⟨I.ok,I.os,I.bare,⟨fun b o e n hb hx=>?_,fun b o e n hb hx=>?_,I.base.free,fun b o e hx=>?_,I.base.tups,I.base.frzs,I.base.tbls⟩,⟨_,hn',fun j y v' e1 e2 e3=>?_⟩,fun y c e=>?_,I.free,I.freeC,fun p hp=>?_,tracked ⟨oL,hoL,I.free⟩ hs,by simpa using I.len⟩ ⟨_,hs,.inl rfl⟩
   · exact (hs.2 b (Ff (Fc (Fh e) I.ok.above))).trans (I.base.keep b o e n hb hx)
   · obtain ⟨sl,e1⟩:=I.base.slot b o e n hb hx
     exact ⟨sl,(hs.2 b (Ff (Fc (Fh e) I.ok.above))).trans e1⟩
   · obtain ⟨o',e1⟩:=I.base.there b o e hx
     exact ⟨o',(hs.2 b (Ff (Fc (Fh e) I.ok.above))).trans e1⟩
   · by_cases hj:j=i
     · subst hj
       rw [hi]at e1;cases e1;rw [R5 hiσ]at e2;cases e2;exact ⟨u,r,.inl ⟨hk,by simp⟩⟩
     · rw [Re (Ne.symm hj)]at e2
       obtain ⟨u',r',q⟩:=hl j y v' e1 e2 e3;refine ⟨u',r',?_⟩;rcases q with ⟨k,e⟩ | ⟨k,c,e,z⟩
       · refine .inl ⟨k,?_⟩
         have:y≠x:=fun e=>hj (Gw hN e1 (e▸hi));simp [this,e]
       · exact .inr ⟨k,c,e,z.sameBut hs (cne y c e)⟩
   · obtain ⟨w',z⟩:=I.cell y c e
     exact ⟨w',z.sameBut hs (cne y c e)⟩
   · obtain ⟨e,n,ne,nf,d⟩:=I.pin p hp
     exact ⟨(hs.2 p.1 ne).trans e,n,ne,nf,d⟩
 · have hfn:X.fn x=true:=by
    rcases hf with z | z
    · exact z
    · rw [z]at hk;cases hk
   obtain ⟨c,hc⟩:=I.ok.has x (.inl hk);obtain ⟨w',z⟩:=I.cell x c hc;refine wpAny_storeName_cell I.ok.kind hk hc z (fun h' hc' hs=>?_);obtain ⟨oc,hoc,hocd⟩:=id z;refine h {s with heap:=h'} ⟨I.ok,I.os,I.bare,⟨fun b o e n hb hx=>?_,fun b o e n hb hx=>?_,I.base.free,fun b o e hx=>?_,I.base.tups,I.base.frzs,I.base.tbls⟩,⟨m,hn.sameBut hs (Ne.symm (cne x c hc)),fun j y v' e1 e2 e3=>?_⟩,fun y c' e=>?_,I.free,I.freeC,fun p hp=>?_,tracked ⟨oc,hoc,I.freeC x c hc⟩ hs,by simpa using I.len⟩ ⟨c,hs,.inr hc⟩
   · exact (hs.2 b (Ff (Fc (Fh e) (I.ok.cab x c hfn hc)))).trans (I.base.keep b o e n hb hx)
   · obtain ⟨sl,e1⟩:=I.base.slot b o e n hb hx
     exact ⟨sl,(hs.2 b (Ff (Fc (Fh e) (I.ok.cab x c hfn hc)))).trans e1⟩
   · obtain ⟨o',e1⟩:=I.base.there b o e hx
     exact ⟨o',(hs.2 b (Ff (Fc (Fh e) (I.ok.cab x c hfn hc)))).trans e1⟩
   · by_cases hj:j=i
     · subst hj
       rw [hi]at e1;cases e1;rw [R5 hiσ]at e2;cases e2;exact ⟨u,r,.inr ⟨.inl hk,c,hc,hc'⟩⟩
     · rw [Re (Ne.symm hj)]at e2
       obtain ⟨u',r',q⟩:=hl j y v' e1 e2 e3;refine ⟨u',r',?_⟩;rcases q with q | ⟨k,c',e,z'⟩
       · exact .inl q
       · refine .inr ⟨k,c',e,z'.sameBut hs ?_⟩
         rintro rfl;exact hj (Gw hN e1 (I.ok.inj _ _ _ e hc▸hi))
   · by_cases hcc:c'=c
     · subst hcc;exact ⟨_,hc'⟩
     · obtain ⟨w2,z2⟩:=I.cell y c' e
       exact ⟨w2,z2.sameBut hs hcc⟩
   · obtain ⟨e,n,ne,nf,d⟩:=I.pin p hp
     refine ⟨(hs.2 p.1 ?_).trans e,n,ne,nf,d⟩;intro q;rw [q,hoc]at e;have q':oc=p.2:=FM e;exact d w' (by rw [← q'];exact hocd)
theorem E9{M:Model}{A:Around}{E:Value→Shared→Prop}{i:Nat}{x:Str}{v:V}{u:Value}{Q:Unit→Shared→Prop}(I:Inv X pins σ H s)(hN:X.N.Nodup)(hi:X.N[i]?=some x)(hx:Loc X.env.scope x)(r:Ab v u)
 (h:∀s',Inv X pins (σ.set i (some v)) H s'→Q () s') (hf:X.fn x=true∨X.env.scope.names.lookup x=some .local:=by first | exact .inl rfl | exact .inr rfl | assumption):wpAny M A (storeName X.env x u) Q E s:=
 K7 I hN hi hx r (fun s' I' _=>h s' I') hf
theorem Inv.call'{s':Shared}{ch:List Addr}(I:Inv X pins σ H s)(ho:s'.os=s.os)(u:Un (frs X.stack) ch H H' s.heap s'.heap)(hok:HOk X.prog X.w H' s'.heap)(hg:AllBare s'.gens)
 (hch:∀b∈ch,(b∈X.ex∨X.s₀.heap.objs.size≤b)∧b≠X.env.locals∧(∀x c,X.env.cells.lookup x=some c→c≠b)∧∀p∈X.pn++pins,p.1≠b):Inv X pins σ H' s':=by
 obtain ⟨h',g',d',t',o'⟩:=s';have e:o'=s.os:=ho;subst e;exact I.call (g':=g') (t':=t') (d':=d') u hok hg hch
end
abbrev XK:=Value→Option Addr→Hp→Prop
abbrev St:=List (Option V)
abbrev VK:=V→Hp→Prop
abbrev TE:=St→Hp→VK→Prop
abbrev TT:=St→Hp→(Bool→Hp→Prop)→Prop
abbrev TA:=St→Hp→(List V→Hp→Prop)→Prop
structure Cc where
 nx:St→Hp→Prop
 rt:VK
 bk:St→Hp→Prop:=fun _ _=>False
 ct:St→Hp→Prop:=fun _ _=>False
abbrev TS:=Cc→St→Hp→Prop
def EP(X:Cx)(pins:List (Addr×Obj))(σ:St)(Q:VK)(u:Value)(s':Shared):Prop:=∃v H',Inv X pins σ H' s'∧Ab v u∧Q v H'
def TP(X:Cx)(pins:List (Addr×Obj))(σ:St)(Q:Bool→Hp→Prop)(b:Bool)(s':Shared):Prop:=∃H',Inv X pins σ H' s'∧Q b H'
def AP(X:Cx)(pins:List (Addr×Obj))(σ:St)(Q:List V→Hp→Prop)(us:List Value)(s':Shared):Prop:=∃vs H',Inv X pins σ H' s'∧Ag vs us∧Q vs H'
def SP(X:Cx)(pins:List (Addr×Obj))(D:Cc)(f:Flow)(s':Shared):Prop:=
 match f with
 | .next=>∃σ' H',Inv X pins σ' H' s'∧D.nx σ' H'
 | .brk=>∃σ' H',Inv X pins σ' H' s'∧D.bk σ' H'
 | .cont=>∃σ' H',Inv X pins σ' H' s'∧D.ct σ' H'
 | .ret u=>∃v σ' H',Inv X pins σ' H' s'∧Ab v u∧D.rt v H'
def PE(X:Cx)(e:Expr)(t:TE):Prop:=
 ∀(pins:List (Addr×Obj)) (s:Shared) (σ:St) (H:Hp) (Q:VK),Inv X pins σ H s→t σ H Q→wpAny (model X.prog X.w) X.A (eval e X.env) (EP X pins σ Q) X.xe s
def PT(X:Cx)(e:Expr)(t:TT):Prop:=
 ∀(pins:List (Addr×Obj)) (s:Shared) (σ:St) (H:Hp) (Q:Bool→Hp→Prop),Inv X pins σ H s→t σ H Q→wpAny (model X.prog X.w) X.A (isTrue e X.env (eval e X.env)) (TP X pins σ Q) X.xe s
def PW(X:Cx)(e:Expr)(t:TT):Prop:=
 ∀(whole:Sem Value) (pins:List (Addr×Obj)) (s:Shared) (σ:St) (H:Hp) (Q:Bool→Hp→Prop),Inv X pins σ H s→t σ H Q→wpAny (model X.prog X.w) X.A (isTrue e X.env whole) (TP X pins σ Q) X.xe s
theorem PW.pt{X:Cx}{e:Expr}{t:TT}(h:PW X e t):PT X e t:=h _
def PA(X:Cx)(es:List Expr)(t:TA):Prop:=
 ∀(pos:Pos) (pins:List (Addr×Obj)) (s:Shared) (σ:St) (H:Hp) (Q:List V→Hp→Prop),Inv X pins σ H s→t σ H Q→wpAny (model X.prog X.w) X.A (spliced (backTo pos (starEach es X.env))) (AP X pins σ Q) X.xe s
def PS(X:Cx)(st:Stmt)(t:TS):Prop:=
 ∀(pins:List (Addr×Obj)) (s:Shared) (σ:St) (H:Hp) (D:Cc),Inv X pins σ H s→t D σ H→wpAny (model X.prog X.w) X.A (exec st X.env) (SP X pins D) X.xe s
def PSs(X:Cx)(st:List Stmt)(t:TS):Prop:=
 ∀(pins:List (Addr×Obj)) (s:Shared) (σ:St) (H:Hp) (D:Cc),Inv X pins σ H s→t D σ H→wpAny (model X.prog X.w) X.A (execs st X.env) (SP X pins D) X.xe s
theorem thn{α:Type}{t:Sem α}{Q Q':α→Shared→Prop}{M:Model}{A:Around}{E:Value→Shared→Prop}{s:Shared}(h:wpAny M A t Q E s)(hQ:∀a s,Q a s→Q' a s):wpAny M A t Q' E s:=FE h hQ fun _ _ x=>x
end L2
namespace L2
section
variable {X:Cx}
def J1y(i:Nat):TE:=fun σ H Q=>∃v,σ[i]?=some (some v)∧Q v H
def tC(v:V):TE:=fun _ H Q=>Q v H
theorem J1z{i:Nat}{x:Str}{pos:Pos}(hN:X.N[i]?=some x)(hv:Vis X.env.scope x)(hd:(x==("__debug__":Str))=false:=by decide)(hcd:(x==("__classdict__":Str))=false:=by decide):PE X (.Name x pos) (J1y i):=by
 intro pins s σ H Q I h;obtain ⟨v,e,h⟩:=h;obtain ⟨m,hn,hl⟩:=I.loc;obtain ⟨u,r,l⟩:=hl i x v hN e hv
 have fin:EP X pins σ Q u s:=⟨v,H,I,r,h⟩
 rcases l with ⟨hk,hm⟩ | ⟨hk,c,hc,hcell⟩
 · exact wpAny_Name (wpAny_loadName_local I.ok.kind hk hn hm fin) hd
 · rcases hk with hk | hk
   · exact wpAny_Name (wpAny_loadName_cell I.ok.kind hk hc hcell fin) hd
   · exact wpAny_Name (wpAny_loadName_free I.ok.kind hk hc hcell fin hcd) hd
theorem A6{i j pos}:PE X (.Constant (.int i) j pos) (tC (.int i)):=fun _ _ _ H _ I h=>wpAny_Constant_int ⟨.int i,H,I.tok _,⟨_,rfl⟩,h⟩
theorem K8{b j pos}:PE X (.Constant (.bool b) j pos) (tC (.bl b)):=fun _ _ _ H _ I h=>Constant_bool ⟨.bl b,H,I,rfl,h⟩
theorem O5{j pos}:PE X (.Constant .none j pos) (tC .non):=fun _ _ _ H _ I h=>Constant_none ⟨.non,H,I,rfl,h⟩
theorem L4{x j pos}:PE X (.Constant (.str x) j pos) (tC (.str x)):=fun _ _ _ H _ I h=>Calls.Constant_str ⟨.str x,H,I.tok _,⟨_,rfl⟩,h⟩
def Gl(X:Cx)(x:Str):Prop:=X.env.kindOf x=some .globalImplicit
theorem C6{E:Value→Shared→Prop}{pins:List (Addr×Obj)}{s:Shared}{σ:St}{H:Hp}{x:Str}{u:Value}{pos:Pos}{Q:Value→Shared→Prop}(I:Inv X pins σ H s)(hg:Gl X x)(hm:X.mg x=some u)(h:Q u s)
 (hd:(x==("__debug__":Str))=false:=by decide):wpAny (model X.prog X.w) X.A (eval (.Name x pos) X.env) Q E s:=
 Calls.Name_function_global I.ok.kind hg (Calls.loadGlobal_global (by rw [I.ok.glob];exact I.mod.glob.keeps I.bk) hm h) hd
theorem L5{E:Value→Shared→Prop}{pins:List (Addr×Obj)}{s:Shared}{σ:St}{H:Hp}{x:Str}{u:Value}{pos:Pos}{Q:Value→Shared→Prop}(I:Inv X pins σ H s)(hg:Gl X x)(hm:X.mg x=none)(hv:bootBuiltins x=some u)(h:Q u s)
 (hn:x≠"__name__":=by decide) (hd:(x==("__debug__":Str))=false:=by decide):wpAny (model X.prog X.w) X.A (eval (.Name x pos) X.env) Q E s:=by
 obtain ⟨mb,h1,h2⟩:=I.mod.blt;exact Calls.Name_function_global I.ok.kind hg (Calls.loadGlobal_builtin (by rw [I.ok.glob];exact I.mod.glob.keeps I.bk) hm (by rw [I.ok.blt];exact h1.keeps I.bk) ((h2 x hn).trans hv) h) hd
theorem Oy{x:Str}{v:V}{u:Value}{pos:Pos}(hg:Gl X x)(hm:X.mg x=some u)(r:Ab v u)(hd:(x==("__debug__":Str))=false:=by decide):PE X (.Name x pos) (tC v):=
 fun _ _ _ H _ I h=>C6 I hg hm ⟨v,H,I,r,h⟩ hd
theorem Ea{x:Str}{v:V}{u:Value}{pos:Pos}(hg:Gl X x)(hm:X.mg x=none)(hv:bootBuiltins x=some u)(r:Ab v u)(hn:x≠"__name__":=by decide)(hd:(x==("__debug__":Str))=false:=by decide):PE X (.Name x pos) (tC v):=
 fun _ _ _ H _ I h=>L5 I hg hm hv ⟨v,H,I,r,h⟩ hn hd
variable {a b:Expr} {ta tb:TE} {pos:Pos}
def PC(X:Cx)(op:CmpOp)(a b:Expr)(t:TE):Prop:=
 ∀(pins:List (Addr×Obj)) (s:Shared) (σ:St) (H:Hp) (Q:VK),Inv X pins σ H s→t σ H Q→
   wpAny (model X.prog X.w) X.A (eval a X.env) (fun v s₁=>wpAny (model X.prog X.w) X.A (eval b X.env) (fun u s₂=>wpAny (model X.prog X.w) X.A (compareOp op v u) (EP X pins σ Q) X.xe s₂) X.xe s₁) X.xe s
theorem M3(b:Expr){op:CmpOp}(h:op≠ .In)(h2:op≠ .NotIn):behindInMarks op b=false:=by
 have e1:(op==CmpOp.In)=false:=by cases op <;> first | rfl | exact absurd rfl h
 have e2:(op==CmpOp.NotIn)=false:=by cases op <;> first | rfl | exact absurd rfl h2
 cases b <;> simp [behindInMarks,e1,e2]
def tB(t:TE):TT:=fun σ H Q=>t σ H fun x H1=>∃c,x= .bl c∧Q c H1
theorem J20{op:CmpOp}{t:TE}(h:PC X op a b t)(h1:behindInMarks op b=false:=by first | exact M3 _ (by decide) (by decide) | rfl):PE X (.Compare a [op] [b] pos) t:=fun pins s σ H Q I hw=>wpAny_Compare1 (h pins s σ H Q I hw) h1
theorem O6{op:CmpOp}{t:TE}(h:PC X op a b t)(h1:behindInMarks op b=false:=by first | exact M3 _ (by decide) (by decide) | rfl):PT X (.Compare a [op] [b] pos) (tB t):=by
 intro pins s σ H Q I hw;refine wpAny_isTrue_Compare1 (thn (h pins s σ H _ I hw) fun v s1 h1=>thn h1 fun u s2 h2=>thn h2 fun c s3 hq_=>?_) h1;obtain ⟨x,H1,I1,r1,q1⟩:=hq_;obtain ⟨d,rfl,q⟩:=q1;cases r1;exact Hn ⟨H1,I1,q⟩
theorem Bz{e:Expr}{t:TE}(h:PE X e t)(he:∀whole,isTrue e X.env whole=(do let v ← whole;standAt e.pos;holding [v] (truthy v)):=by intro _;rfl):PT X e (tB t):=by
 intro pins s σ H Q I hw;refine isTrue_plain (thn (h pins s σ H _ I hw) fun v s1 hq_=>?_) (he _);obtain ⟨x,H1,I1,r1,q1⟩:=hq_;obtain ⟨d,rfl,q⟩:=q1;cases r1;exact Hn ⟨H1,I1,q⟩
variable {tA tB':TT} {rest:List Expr}
def J3m(t u:TT):TT:=fun σ H Q=>t σ H fun c H1=>if c=true then u σ H1 Q else Q false H1
def tOr(t u:TT):TT:=fun σ H Q=>t σ H fun c H1=>if c=true then Q true H1 else u σ H1 Q
def J3n(t:TT):TT:=fun σ H Q=>t σ H fun c H1=>Q (!c) H1
theorem Oz(ha:PT X a tA):PW X (.BoolOp .And [a] pos) tA:=by
 intro wh pins s σ H Q I h;refine isTrue_and (thn (ha pins s σ H Q I h) fun c s1 e=>?_)
 cases c with
 | true=>exact isTrue_and_nil e
 | false=>exact e
theorem L6(ha:PT X a tA):PW X (.BoolOp .Or [a] pos) tA:=by
 intro wh pins s σ H Q I h;refine isTrue_or (thn (ha pins s σ H Q I h) fun c s1 e=>?_)
 cases c with
 | false=>exact isTrue_or_nil e
 | true=>exact e
theorem O7(ha:PT X a tA)(hb:PW X (.BoolOp .And (b::rest) pos) tB'):PW X (.BoolOp .And (a::b::rest) pos) (J3m tA tB'):=by
 intro wh pins s σ H Q I h;refine isTrue_and (thn (ha pins s σ H _ I h) fun c s1 ⟨H1,I1,q1⟩=>?_)
 cases c with
 | true=>exact hb wh pins s1 σ H1 Q I1 q1
 | false=>exact ⟨H1,I1,q1⟩
theorem P0(ha:PT X a tA)(hb:PW X (.BoolOp .Or (b::rest) pos) tB'):PW X (.BoolOp .Or (a::b::rest) pos) (tOr tA tB'):=by
 intro wh pins s σ H Q I h;refine isTrue_or (thn (ha pins s σ H _ I h) fun c s1 ⟨H1,I1,q1⟩=>?_)
 cases c with
 | true=>exact ⟨H1,I1,q1⟩
 | false=>exact hb wh pins s1 σ H1 Q I1 q1
theorem C0(ha:PT X a tA):PT X (.UnaryOp .Not a pos) (J3n tA):=by
 intro pins s σ H Q I h;exact isTrue_not (ha pins s σ H (fun c H1=>Q (!c) H1) I h)
def J0b(ta tb:TE):TE:=fun σ H Q=>ta σ H fun x H1=>∃c,x= .bl c∧if c=true then tb σ H1 Q else Q (.bl false) H1
def J5e(ta tb:TE):TE:=fun σ H Q=>ta σ H fun x H1=>∃c,x= .bl c∧if c=true then Q (.bl true) H1 else tb σ H1 Q
def J0c(ta:TE):TE:=fun σ H Q=>ta σ H fun x H1=>∃c,x= .bl c∧Q (.bl (!c)) H1
theorem Gx{op}{t:TE}(h:PE X a t):PE X (.BoolOp op [a] pos) t:=fun pins s σ H Q I hw=>BoolOp_one (h pins s σ H Q I hw)
theorem Es(ha:PE X a ta)(hb:PE X (.BoolOp .And (b::rest) pos) tb):PE X (.BoolOp .And (a::b::rest) pos) (J0b ta tb):=by
 intro pins s σ H Q I h;refine BoolOp_and (thn (ha pins s σ H _ I h) fun v s1 hq_=>?_);obtain ⟨x,H1,I1,r1,q1⟩:=hq_;obtain ⟨c,rfl,q1⟩:=q1;cases r1;refine Hn ?_
 cases c with
 | true=>exact hb pins s1 σ H1 Q I1 q1
 | false=>exact ⟨.bl false,H1,I1,rfl,q1⟩
theorem Ta(ha:PE X a ta):PE X (.UnaryOp .Not a pos) (J0c ta):=by
 intro pins s σ H Q I h;refine UnaryOp_ (thn (ha pins s σ H _ I h) fun v s1 hq_=>?_);obtain ⟨x,H1,I1,r1,q1⟩:=hq_;obtain ⟨c,rfl,q1⟩:=q1;cases r1;exact not_of (Hn ⟨.bl (!c),H1,I1,rfl,q1⟩)
def tIf(t:TT)(ta tb:TE):TE:=fun σ H Q=>t σ H fun c H1=>if c=true then ta σ H1 Q else tb σ H1 Q
end
end L2
namespace L2
def SqL(K:PySem.W.Frag)(H:Hp)(a:Addr)(xs:List V):Prop:=
 Rd H a (.lst xs)∨
  ∃(o:Obj) (its:Array Value) (n:Nat),K.lookup a=some o∧o.cls= .type "list"∧o.dict=none∧o.data= .seq its n∧its.size≤sizeLine∧Ag xs its.toList
def SqT(K:PySem.W.Frag)(H:Hp)(a:Addr)(xs:List V):Prop:=
 Rd H a (.tup xs)∨
  ∃(o:Obj) (its:Array Value) (n:Nat),K.lookup a=some o∧o.cls= .type "tuple"∧o.data= .seq its n∧its.size≤sizeLine∧Ag xs its.toList
def J5f:Value→Option V
 | .none=>some .non
 | .bool b=>some (.bl b)
 | .int i _=>some (.int i)
 | .str x _=>some (.str x)
 | .bytes b _=>some (.byt b)
 | .float b _=>some (.flt b)
 | .ref a=>some (.ref a)
 | .type n=>some (.ty n)
 | _=>none
theorem Ab.abs{x:V}{u:Value}(r:Ab x u):J5f u=some x:=by
 cases x with
 | non=>cases r;rfl
 | bl _=>cases r;rfl
 | int _=>obtain ⟨t,rfl⟩:=r;rfl
 | str _=>obtain ⟨t,rfl⟩:=r;rfl
 | byt _=>obtain ⟨t,rfl⟩:=r;rfl
 | flt _=>obtain ⟨t,rfl⟩:=r;rfl
 | ref _=>cases r;rfl
 | ty _=>cases r;rfl
theorem Ab.inj{x y:V}{u:Value}(r:Ab x u)(q:Ab y u):x=y:=FM (r.abs.symm.trans q.abs)
theorem Ag.inj:∀{xs ys:List V} {us:List Value},Ag xs us→Ag ys us→xs=ys
 | _,_,_,.nil,.nil=>rfl
 | _,_,_,.cons r t,.cons r' t'=>by rw [r.inj r',Ag.inj t t']
section
variable {X:Cx} {pins:List (Addr×Obj)} {σ:St} {H:Hp} {s:Shared} {a:Addr} {xs ys:List V}
theorem SqL.of{K:PySem.W.Frag}(h:H a=some (.lst xs)):SqL K H a xs:= .inl (.inl h)
theorem SqT.of{K:PySem.W.Frag}(h:H a=some (.tup xs)):SqT K H a xs:= .inl (.inl h)
theorem Inv.list(I:Inv X pins σ H s)(h:SqL X.K H a xs):∃its:List Value,Ag xs its∧PlainL s.heap a its.toArray∧xs.length≤sizeLine:=by
 rcases h with h | ⟨o,its,n,hk,hc,hd,hs,hz,r⟩
 · obtain ⟨z,its,n,r,e⟩:=h.ok I.hok
   exact ⟨its,r,⟨_,n,e,rfl,rfl,rfl⟩,z⟩
 · refine ⟨its.toList,r,⟨o,n,I.kIn a o hk,hc,hd,by simpa using hs⟩,?_⟩
   have e:=r.length;simp only [Rg]at e;omega
theorem Inv.tuple(I:Inv X pins σ H s)(h:SqT X.K H a xs):∃its:List Value,Ag xs its∧IsTup s.heap a its.toArray∧xs.length≤sizeLine:=by
 rcases h with h | ⟨o,its,n,hk,hc,hs,hz,r⟩
 · obtain ⟨z,its,r,p⟩:=h.ok I.hok
   exact ⟨its,r,p,z⟩
 · refine ⟨its.toList,r,⟨o,I.kIn a o hk,hc,n,by simpa using hs⟩,?_⟩
   have e:=r.length;simp only [Rg]at e;omega
theorem Inv.list_inj(I:Inv X pins σ H s)(h:SqL X.K H a xs)(h':SqL X.K H a ys):xs=ys:=by
 obtain ⟨its,r,⟨o,n,e,_,_,d⟩,_⟩:=I.list h;obtain ⟨its',r',⟨o',n',e',_,_,d'⟩,_⟩:=I.list h';rw [e]at e';cases e';rw [d]at d'
 injection d' with d1 _
 have:its=its':=by simpa using congrArg Array.toList d1
 subst this;exact r.inj r'
end
abbrev Cx.wish(X:Cx)(E:Value→Shared→Prop):Cx:={X with xe:=E}
theorem Cx.Ok.wish{X:Cx}(ok:X.Ok)(E:Value→Shared→Prop):(X.wish E).Ok:=
 ⟨ok.mod,ok.kind,ok.glob,ok.blt,ok.above,ok.inj,ok.has,ok.cab,ok.hd,ok.frames,ok.stk,ok.exf,ok.bs,ok.bsz,ok.noex,ok.exfs,ok.funs,ok.frf⟩
theorem Cx.Ok.unwish{X:Cx}{E:Value→Shared→Prop}(ok:(X.wish E).Ok):X.Ok:=
 ⟨ok.mod,ok.kind,ok.glob,ok.blt,ok.above,ok.inj,ok.has,ok.cab,ok.hd,ok.frames,ok.stk,ok.exf,ok.bs,ok.bsz,ok.noex,ok.exfs,ok.funs,ok.frf⟩
section
variable {X:Cx} {pins:List (Addr×Obj)} {σ:St} {H:Hp} {s:Shared} {E:Value→Shared→Prop}
theorem Inv.wish(I:Inv X pins σ H s)(E:Value→Shared→Prop):Inv (X.wish E) pins σ H s:=⟨I.ok.wish E,I.os,I.bare,I.base,I.loc,I.cell,I.free,I.freeC,I.pin,I.hok,I.len⟩
theorem Inv.unwish(I:Inv (X.wish E) pins σ H s):Inv X pins σ H s:=⟨I.ok.unwish,I.os,I.bare,I.base,I.loc,I.cell,I.free,I.freeC,I.pin,I.hok,I.len⟩
end
section
variable {X:Cx} {st:Stmt} {rest:List Stmt} {t u:TS} {e:Expr} {te:TE} {pos:Pos}
def J0d:TS:=fun D σ H=>D.nx σ H
def J3o(t u:TS):TS:=fun D σ H=>t {D with nx:=u D} σ H
theorem Ax:PSs X [] J0d:=fun _ _ σ H _ I h=>R6 ⟨σ,H,I,h⟩
theorem A4(h1:PS X st t)(h2:PSs X rest u):PSs X (st::rest) (J3o t u):=by
 intro pins s σ H D I h;refine wpAny_execs_cons (thn (h1 pins s σ H {D with nx:=u D} I h) fun f s1 q=>?_)
 cases f with
 | next=>
  obtain ⟨σ',H',I',q⟩:=q;exact h2 pins s1 σ' H' D I' q
 | ret v=>exact q
 | brk=>exact q
 | cont=>exact q
theorem A9(h1:PS X st t):PSs X [st] t:=by
 intro pins s σ H D I h;refine wpAny_execs_cons (thn (h1 pins s σ H D I h) fun f s1 q=>?_)
 cases f with
 | next=>exact R6 q
 | ret v=>exact q
 | brk=>exact q
 | cont=>exact q
def J21:TS:=fun D σ H=>D.bk σ H
def J3p:TS:=fun D σ H=>D.ct σ H
theorem Inv.quiet{pins:List (Addr×Obj)}{σ:St}{H:Hp}{s:Shared}(I:Inv X pins σ H s):interactive X.env=false:=by simp [interactive,I.ok.kind]
def J0e(te:TE):TS:=fun D σ H=>te σ H fun _ H1=>D.nx σ H1
theorem Gg(he:PE X e te)(hs:swapsWith e none pos.line X.env=pure false:=by rfl):PS X (.Expr e pos) (J0e te):=by
 intro pins s σ H D I h;exact wpAny_Expr_any (thn (he pins s σ H _ I h) fun v s1 ⟨x,H1,I1,r1,q1⟩=>⟨σ,H1,I1,q1⟩) I.quiet hs
def J3q(te:TE):TS:=fun D σ H=>te σ H D.rt
theorem Ap(he:PE X e te):PS X (.Return (some e) pos) (J3q te):=by
 intro pins s σ H D I h;exact wpAny_Return_some (thn (he pins s σ H _ I h) fun v s1 ⟨x,H1,I1,r1,q1⟩=>⟨x,σ,H1,I1,r1,q1⟩)
def J3r:TS:=fun D _ H=>D.rt .non H
def J3s(c:TT)(t u:TS):TS:=fun D σ H=>c σ H fun b H1=>if b=true then t D σ H1 else u D σ H1
theorem Bn{c:Expr}{a b:List Stmt}{tc:TT}(hc:PT X c tc)(ha:PSs X a t)(hb:PSs X b u):PS X (.If c a b pos) (J3s tc t u):=by
 intro pins s σ H D I h;refine wpAny_If (thn (hc pins s σ H _ I h) fun d s1 ⟨H1,I1,q1⟩=>?_)
 cases d with
 | true=>exact ha pins s1 σ H1 D I1 q1
 | false=>exact hb pins s1 σ H1 D I1 q1
def Tb:TS:=fun _ _ _=>False
theorem Dd:PS X st Tb:=fun _ _ _ _ _ _ h=>h.elim
end
abbrev TG:=V→St→Hp→(St→Hp→Prop)→Prop
abbrev TGs:=List V→St→Hp→(St→Hp→Prop)→Prop
def PG(X:Cx)(target:Expr)(t:TG):Prop:=
 ∀(pins:List (Addr×Obj)) (s:Shared) (σ:St) (H:Hp) (v:V) (u:Value) (Q:St→Hp→Prop),Inv X pins σ H s→Ab v u→t v σ H Q→
   wpAny (model X.prog X.w) X.A (assign target X.env u) (fun _ s'=>∃σ' H',Inv X pins σ' H' s'∧Q σ' H') X.xe s
def PGs(X:Cx)(ts:List Expr)(t:TGs):Prop:=
 ∀(pins:List (Addr×Obj)) (s:Shared) (σ:St) (H:Hp) (vs:List V) (us:List Value) (Q:St→Hp→Prop),Inv X pins σ H s→Ag vs us→t vs σ H Q→
   wpAny (model X.prog X.w) X.A (assignInOrder ((assignEach ts X.env).map (·.2)) us) (fun _ s'=>∃σ' H',Inv X pins σ' H' s'∧Q σ' H') X.xe s
abbrev Xl:=V→V→V→Hp→(Hp→Prop)→Prop
def J3t(X:Cx)(t:Xl):Prop:=
 ∀(pins:List (Addr×Obj)) (s:Shared) (σ:St) (H:Hp) (o i v:V) (ov iv u:Value) (Q:Hp→Prop),Inv X pins σ H s→Ab o ov→Ab i iv→Ab v u→t o i v H Q→
   wpAny (model X.prog X.w) X.A (setItem ov iv u) (fun _ s'=>∃H',Inv X pins σ H' s'∧Q H') X.xe s
section
variable {X:Cx} {pos:Pos}
def B5(i:Nat):TG:=fun v σ H Q=>Q (σ.set i (some v)) H
theorem B1{i:Nat}{x:Str}(hN:X.N.Nodup)(hi:X.N[i]?=some x)(hx:Loc X.env.scope x)(hf:X.fn x=true∨X.env.scope.names.lookup x=some .local:=by first | exact .inl rfl | exact .inr rfl | assumption):PG X (.Name x pos) (B5 i):=by
 intro pins s σ H v u Q I r h;exact wpAny_assign_Name (E9 I hN hi hx r (fun s' I'=>⟨_,H,I',h⟩) hf)
def Xm:TGs:=fun vs σ H Q=>vs=[]∧Q σ H
def Gy(t:TG)(u:TGs):TGs:=fun vs σ H Q=>∃v r,vs=v::r∧t v σ H fun σ' H'=>u r σ' H' Q
theorem Gh:PGs X [] Xm:=by
 intro pins s σ H vs us Q I r h;obtain ⟨e,h⟩:=h;subst e;cases r;exact assignInOrder_nil ⟨σ,H,I,h⟩
theorem Bg{e:Expr}{es:List Expr}{t:TG}{u:TGs}(h1:PG X e t)(h2:PGs X es u)
 (hs:(assignEach (e::es) X.env).map (·.2)=assign e X.env::(assignEach es X.env).map (·.2):=by rfl):PGs X (e::es) (Gy t u):=by
 intro pins s σ H vs us Q I r h;obtain ⟨v,vr,e1,h⟩:=h;subst e1
 cases r with
 | cons r rr=>
  rw [hs];refine assignInOrder_cons (thn (h1 pins s σ H _ _ _ I r h) fun _ s1 hq_=>?_);obtain ⟨σ1,H1,I1,q1⟩:=hq_;exact h2 pins s1 σ1 H1 _ _ Q I1 rr q1
def Xn(K:PySem.W.Frag)(n:Nat)(t:TGs):TG:=fun v σ H Q=>∃a xs,v= .ref a∧SqT K H a xs∧xs.length=n∧t xs σ H Q
theorem L7{es:List Expr}{k:Nat}{t:TGs}{n:Nat}(hc:X.calm=true)(h:PGs X es t)
 (hn:(assignEach es X.env).length=n:=by rfl) (hst:(assignEach es X.env).findIdx? (·.1)=none:=by rfl):PG X (.Tuple es k pos) (Xn X.K n t):=by
 intro pins s σ H v u Q I r hw;obtain ⟨a,xs,e1,hq,hl,hw⟩:=hw;subst e1;cases r;obtain ⟨its,rv,ht,hz⟩:=I.tuple hq;refine assign_Tuple_tuple (I.ok.hd hc) ht (by simp [hn,← hl,rv.length]) hst fun h' hx=>?_;have I1:Inv X pins σ H {s with heap:=h'}:=I.kept (t':=s.toks) fun b o e=>hx b o (Ff (Fh e)) e;exact h pins _ σ H xs _ Q I1 (by simpa using rv) hw
def J3u(to ti:TE)(t:Xl):TG:=fun v σ H Q=>to σ H fun o H1=>ti σ H1 fun i H2=>t o i v H2 fun H3=>Q σ H3
theorem J22{o i:Expr}{to ti:TE}{t:Xl}(ho:PE X o to)(hi:PE X i ti)(hs:J3t X t)
 (ha:∀v,assign (.Subscript o i pos) X.env v=(do
  let ov ← holding [v] (eval o X.env)
  let iv ← holding [v,ov] (eval i X.env)
  standAt pos
  holding [v,ov,iv] (setItem ov iv v)
  release [v,ov,iv] []):=by intro _;rfl):PG X (.Subscript o i pos) (J3u to ti t):=by
 intro pins s σ H v u Q I r h;rw [ha];refine Fd (HU (thn (ho pins s σ H _ I h) fun ov s1 hq_=>?_));obtain ⟨x,H1,I1,r1,q1⟩:=hq_;refine Fd (HU (thn (hi pins s1 σ H1 _ I1 q1) fun iv s2 hq_=>?_));obtain ⟨y,H2,I2,r2,q2⟩:=hq_;refine Fd (HS (Fd (HU (thn (hs pins s2 σ H2 x y v ov iv u _ I2 r1 r2 r q2) fun _ s3 ⟨H3,I3,q3⟩=>?_))));exact wpAny_release ⟨σ,H3,I3,q3⟩
def O8(te:TE)(g:TG):TS:=fun D σ H=>te σ H fun x H1=>g x σ H1 D.nx
theorem Tc{tg e:Expr}{te:TE}{g:TG}(he:PE X e te)(hg:PG X tg g)(hs:swapsWithSole [tg] e pos.line X.env=pure false:=by rfl)(hw:swappedStores [tg] e X.env=pure none:=by rfl)
 (h1:(assignEach [tg] X.env).map (·.2)=[assign tg X.env]:=by rfl):PS X (.Assign [tg] e pos) (O8 te g):=by
 intro pins s σ H D I h;refine wpAny_Assign_stores (thn (he pins s σ H _ I h) fun v s1 hq_=>?_) hs hw;obtain ⟨x,H1,I1,r1,q1⟩:=hq_;rw [h1];exact thn (hg pins s1 σ H1 x v _ I1 r1 q1) fun _ s2 q=>q
theorem Al{i:Nat}{x:Str}{e:Expr}{te:TE}{pos':Pos}(hN:X.N.Nodup)(hi:X.N[i]?=some x)(hx:Loc X.env.scope x)(he:PE X e te)(hs:swapsWith e (some (.Name x pos')) pos.line X.env=pure false:=by rfl)(hf:X.fn x=true∨X.env.scope.names.lookup x=some .local:=by first | exact .inl rfl | exact .inr rfl | assumption):
 PS X (.Assign [.Name x pos'] e pos) (O8 te (B5 i)):=by
 intro pins s σ H D I h;refine wpAny_Assign_Name (thn (he pins s σ H _ I h) fun v s1 hq_=>?_) hs;obtain ⟨y,H1,I1,r1,q1⟩:=hq_;exact E9 I1 hN hi hx r1 (fun s2 I2=>⟨_,H1,I2,q1⟩) hf
def J5g(i j:Nat)(ta:TA):TS:=fun D σ H=>ta σ H fun vs H1=>∃v w,vs=[v,w]∧D.nx ((σ.set i (some v)).set j (some w)) H1
end
structure It where
 go:Nat→Hp→Prop
 yld:Nat→Hp→V→Hp→Prop
 stop:Nat→Hp→Prop
def Dc(X:Cx)(pins:List (Addr×Obj))(H:Hp)(b:Addr):Prop:=
 H b=none∧b≠X.env.locals∧b∉X.fs∧(b∈X.ex∨X.s₀.heap.objs.size≤b)∧(∀x c,X.env.cells.lookup x=some c→c≠b)∧∀p∈X.pn++pins,p.1≠b
theorem Inv.fpOk{X:Cx}{pins:List (Addr×Obj)}{σ:St}{H H':Hp}{s:Shared}{b:Addr}(I:Inv X pins σ H s)(hb:s.heap.objs.size≤b)(hn:H' b=none):Dc X pins H' b:=by
 refine ⟨hn,Nat.ne_of_gt (Fc I.lt hb),I.nofs hb,.inr (FH I.sz hb),fun x c e z=>?_,fun p hp z=>?_⟩
 · obtain ⟨v,q⟩:=I.cell x c e
   exact absurd (Fc q.lt (by rw [z];exact hb)) (Hg _)
 · exact absurd (Fc (Fh (I.pin p hp).1) (by rw [z];exact hb)) (Hg _)
structure Td(P:Program)(w:World)(K:PySem.W.Frag)(tg:Expr)(J:It)(fp:List Addr)(it:Addr)(tn:Nat→Heap→Prop):Prop where
 mem:it∈fp
 obj:∀i h,tn i h→∀b∈fp,∃o,h.get? b=some o∧∀v,o.data≠ .cell v
 keep:∀i h h',tn i h→(∀b∈fp,∀o,h.get? b=some o→h'.get? b=some o)→tn i h'
 item:∀(X:Cx),X.prog=P→X.w=w→X.K=K→X.calm=true→∀(i:Nat) (pins:List (Addr×Obj)) (s:Shared) (σ:St) (H:Hp) (E:Value→Shared→Prop),Inv X pins σ H s→(∀b∈fp,Dc X pins H b)→tn i s.heap→J.go i H→
  wpAny (model P w) X.A (pyNext (.ref it)) (fun r s1=>∃u,r=some u∧
   wpAny (model P w) X.A (letOwnedTupleGo tg (.ref it) u) (fun _ s2=>∃x H',Inv X pins σ H' s2∧Ab x u∧J.yld i H x H'∧tn (i+1) s2.heap∧∀b∈fp,H' b=none) E s1) E s
 done:∀(X:Cx),X.prog=P→X.w=w→X.K=K→X.calm=true→∀(i:Nat) (pins:List (Addr×Obj)) (s:Shared) (σ:St) (H:Hp) (E:Value→Shared→Prop),Inv X pins σ H s→(∀b∈fp,Dc X pins H b)→tn i s.heap→J.stop i H→
   wpAny (model P w) X.A (pyNext (.ref it)) (fun r s1=>r=none∧Inv X pins σ H s1) E s
 self:∀(A:Around) (i:Nat) (s:Shared) (Q:Value→Shared→Prop) (E:Value→Shared→Prop),tn i s.heap→Q (.ref it) s→wpAny (model P w) A (pyIter (.ref it)) Q E s
abbrev TI:=St→Hp→(It→Hp→Prop)→Prop
def PIE(X:Cx)(pins:List (Addr×Obj))(σ:St)(tg:Expr)(R:It→Hp→Prop)(itv:Value)(s2:Shared):Prop:=
 ∃(it:Addr) (fp:List Addr) (tn:Nat→Heap→Prop) (J:It) (H':Hp),itv= .ref it∧Inv X pins σ H' s2∧Td X.prog X.w X.K tg J fp it tn∧tn 0 s2.heap∧(∀b∈fp,Dc X pins H' b)∧R J H'
def PI(X:Cx)(tg iter:Expr)(wi:TI):Prop:=
 ∀(pins:List (Addr×Obj)) (s:Shared) (σ:St) (H:Hp) (R:It→Hp→Prop),Inv X pins σ H s→wi σ H R→
   wpAny (model X.prog X.w) X.A (eval iter X.env) (fun v s1=>wpAny (model X.prog X.w) X.A (pyIter v) (PIE X pins σ tg R) X.xe s1) X.xe s
theorem Te{M:Model}{A:Around}{E:Value→Shared→Prop}{s:Shared}{tg:Expr}{it:Addr}{u:Value}{o:Obj}{n:String}{vs:Array Value}{Q:Unit→Shared→Prop}(ho:s.heap.get? it=some o)(hc:o.cls= .type n)(hd:o.data= .fields vs)
 (hn:["enumerate","zip","dict_itemiterator","dict_reverseitemiterator","odict_iterator","itertools.zip_longest","itertools.pairwise"].contains n=false) (hQ:Q () s):wpAny M A (letOwnedTupleGo tg (.ref it) u) Q E s:=by
 unfold letOwnedTupleGo
 cases tg <;> first
  | exact Fu hQ
  | (cases u <;> first
   | exact Fu hQ
   | (refine Fd (wpAny_load ho ?_)
      rw [hc,hd];show wpAny M A (if (["enumerate","zip","dict_itemiterator","dict_reverseitemiterator","odict_iterator","itertools.zip_longest","itertools.pairwise"].contains n && vs[0]?==some (rawInt _))=true then _ else _) Q E s;rw [if_neg (by intro h;rw [hn,Bool.false_and]at h;cases h)]
      exact Fu hQ))
def Itl(K:PySem.W.Frag)(a:Addr):It:=
 ⟨fun i H=>∃xs x,SqL K H a xs∧xs[i]?=some x,fun i H x H'=>H'=H∧∀xs,SqL K H a xs→xs[i]?=some x,fun i H=>∃xs,SqL K H a xs∧xs.length≤i⟩
def Itt(K:PySem.W.Frag)(a:Addr):It:=
 ⟨fun i H=>∃xs x,SqT K H a xs∧xs[i]?=some x,fun i H x H'=>H'=H∧∀xs,SqT K H a xs→xs[i]?=some x,fun i H=>∃xs,SqT K H a xs∧xs.length≤i⟩
def Itr(lo:Int)(n:Nat):It:=⟨fun i _=>i < n,fun i H x H'=>H'=H∧x= .int (lo+i),fun i _=>n≤i⟩
theorem S7{P:Program}{w:World}{K:PySem.W.Frag}{tg:Expr}(a it:Addr):Td P w K tg (Itl K a) [it] it (fun i h=>h.IsListIter it a i) where
 mem:=by simp
 obj:=fun i h st b hb=>by
  have e:b=it:=by simpa using hb
  subst e;obtain ⟨o,e,c,d⟩:=st;exact ⟨o,e,fun v z=>by rw [d]at z;cases z⟩
 keep:=fun i h h' st k=>st.at fun o e=>k it (by simp) o e
 item:=by
  intro X hP hw hK hc i pins s σ H E I hf st hg;subst hP hw hK;obtain ⟨xs,x,hq,hx⟩:=hg;obtain ⟨its,rv,p,hz⟩:=I.list hq;obtain ⟨u,hu,ru⟩:=rv.get hx;obtain ⟨f0,f1,f2,f3,f4,f5⟩:=hf it (by simp);refine wpAny_pyNext_list_item st p.isList (x:=u) (by simpa using hu) fun h' st' sb=>?_;have I1:Inv X pins σ H {s with heap:=h'}:=I.turned (t':=s.toks) (fun b o hb e=>(sb.2 b hb).trans e) f0 f1 f3 f4 f5;obtain ⟨o,e,c,d⟩:=id st';exact ⟨u,rfl,Te (s:={s with heap:=h'}) e c d (by decide) ⟨x,H,I1,ru,⟨rfl,fun ys hy=>by rw [I.list_inj hy hq];exact hx⟩,st',fun b hb=>(hf b hb).1⟩⟩
 done:=by
   intro X hP hw hK hc i pins s σ H E I hf st hg;subst hP hw hK;obtain ⟨xs,hq,hx⟩:=hg;obtain ⟨its,rv,p,hz⟩:=I.list hq;obtain ⟨f0,f1,f2,f3,f4,f5⟩:=hf it (by simp);have hl:=rv.length
   exact wpAny_pyNext_list_end (I.ok.hd hc) st p.isList (by simp;omega) fun h' eb=>⟨rfl,I.turned (t':=s.toks) (fun b o hb e=>eb b o hb e) f0 f1 f3 f4 f5⟩
 self:=fun _ _ _ _ _ st h=>wpAny_pyIter_listiter st h
theorem O9{P:Program}{w:World}{K:PySem.W.Frag}{tg:Expr}(it:Addr)(lo:Int)(n:Nat):Td P w K tg (Itr lo n) [it] it (fun i h=>IsRangeIter h it (lo+(i:Nat) * 1) ((n:Int) - (i:Nat)) 1) where
 mem:=by simp
 obj:=fun i h st b hb=>by
  have e:b=it:=by simpa using hb
  subst e
  exact ⟨_,st,fun v z=>by
   have z':Data.fields _=Data.cell v:=z
   cases z'⟩
 keep:=fun i h h' st k=>k it (by simp) _ st
 item:=by
  intro X hP hw hK hc i pins s σ H E I hf st hg;subst hP hw hK;obtain ⟨f0,f1,f2,f3,f4,f5⟩:=hf it (by simp);have W:=Walks.range (prog:=X.prog) (w:=X.w) (I.ok.hd hc) it lo 1 n;refine W.item i s _ _ hg st fun v h' tk hv st' kk=>?_;obtain ⟨t,rfl⟩:=hv;have I1:Inv X pins σ H {s with heap:=h',toks:=tk}:=I.turned (fun b o hb e=>kk b o (by simpa using hb) e) f0 f1 f3 f4 f5;refine ⟨_,rfl,Te (s:={s with heap:=h',toks:=tk}) (n:="range_iterator") st' rfl rfl (by decide) ⟨.int (lo+i),H,I1,⟨t,?_⟩,⟨rfl,rfl⟩,st',fun b hb=>(hf b hb).1⟩⟩;rw [Int.mul_one]
 done:=by
   intro X hP hw hK hc i pins s σ H E I hf st hg;subst hP hw hK;obtain ⟨f0,f1,f2,f3,f4,f5⟩:=hf it (by simp)
   exact wpAny_pyNext_range_end (I.ok.hd hc) st (by have:n≤i:=hg;omega) fun h' eb=>⟨rfl,I.turned (t':=s.toks) (fun b o hb e=>eb b o hb e) f0 f1 f3 f4 f5⟩
 self:=fun _ _ _ _ _ st h=>wpAny_pyIter_rangeiter st h
end L2
namespace L2
section
variable {X:Cx} {tg:Expr}
def J0f(K:PySem.W.Frag)(tl:TE):TI:=fun σ H R=>tl σ H fun x H1=>∃a,x= .ref a∧(∃xs,SqL K H1 a xs)∧R (Itl K a) H1
def J5h(K:PySem.W.Frag)(tl:TE):TI:=fun σ H R=>tl σ H fun x H1=>∃a,x= .ref a∧(∃xs,SqT K H1 a xs)∧R (Itt K a) H1
theorem Bq{l:Expr}{tl:TE}(hl:PE X l tl):PI X tg l (J0f X.K tl):=by
 intro pins s σ H R I h;refine thn (hl pins s σ H _ I h) fun v s1 hq_=>?_;obtain ⟨x,H1,I1,r1,q1⟩:=hq_;obtain ⟨a,e,⟨xs,hq⟩,q⟩:=q1;subst e;cases r1;obtain ⟨its,rv,p,hz⟩:=I1.list hq;refine Ri p.isList ?_;refine ⟨s1.heap.objs.size,[s1.heap.objs.size],_,_,H1,rfl,I1.kept (t':=s1.toks) fun b o e=>Fb _ e,S7 a _,⟨_,Fo _ rfl,rfl,rfl⟩,fun b hb=>?_,q⟩
 have e:b=s1.heap.objs.size:=by simpa using hb
 subst e;exact I1.fpOk (Fn _) (I1.hok.fresh (Fn _))
theorem Tf{pins:List (Addr×Obj)}{σ:St}{H:Hp}{s:Shared}{R:It→Hp→Prop}{E:Value→Shared→Prop}{lo hi:Int}{t u v:Tok}{tk:Nat}(I:Inv X pins σ H s)(h1:-(2 ^ 62)≤lo)(h2:lo < 2 ^ 62)(h3:-(2 ^ 62)≤hi)(h4:hi < 2 ^ 62)
 (q:R (Itr lo (hi - lo).toNat) H):wpAny (model X.prog X.w) X.A (pyIter (.ref s.heap.objs.size)) (PIE X pins σ tg R) E {s with heap:=s.heap.push {cls:= .type "range",data:= .fields #[.int lo t,.int hi u,.int 1 v]},toks:=tk}:=by
 refine wpAny_pyIter_range (IsRange.new ..) (small_one h1 h2 h3 h4) ?_;have I1:Inv X pins σ H {s with heap:=s.heap.push {cls:= .type "range",data:= .fields #[.int lo t,.int hi u,.int 1 v]},toks:=tk}:=I.kept fun b o e=>Fb _ e
 refine ⟨(s.heap.push {cls:= .type "range",data:= .fields #[.int lo t,.int hi u,.int 1 v]}).objs.size,[(s.heap.push {cls:= .type "range",data:= .fields #[.int lo t,.int hi u,.int 1 v]}).objs.size],_,_,H,rfl,
  I1.kept (t':=tk) fun b o e=>Fb _ e,O9 _ lo (hi - lo).toNat,?_,fun b hb=>?_,q⟩
 · have e1:lo+((0:Nat):Int) * 1=lo:=by simp
   have e2:(((hi - lo).toNat:Nat):Int) - ((0:Nat):Int)=Builtin.Range.rangeSize lo hi 1:=by rw [rangeSize_one];split <;> omega
   show IsRangeIter _ _ (lo+((0:Nat):Int) * 1) ((((hi - lo).toNat:Nat):Int) - ((0:Nat):Int)) 1;rw [e1,e2];exact Fo _ rfl
 · have e:b=(s.heap.push {cls:= .type "range",data:= .fields #[.int lo t,.int hi u,.int 1 v]}).objs.size:=by simpa using hb
   subst e;exact I1.fpOk (Fn _) (I1.hok.fresh (Fn _))
def J0g(ta:TA):TI:=fun σ H R=>ta σ H fun vs H1=>∃j:Int,vs=[.int j]∧-(2 ^ 62)≤j∧j < 2 ^ 62∧R (Itr 0 j.toNat) H1
def J3v(ta:TA):TI:=fun σ H R=>ta σ H fun vs H1=>∃i j:Int,vs=[.int i,.int j]∧(-(2 ^ 62)≤i∧i < 2 ^ 62∧-(2 ^ 62)≤j∧j < 2 ^ 62)∧R (Itr i (j - i).toNat) H1
theorem Et{a:Expr}{ta:TA}{p pos:Pos}(hg:Gl X "range")(hm:X.mg "range"=none)(ha:PA X [a] ta)(hs:starEach [a] X.env=[(false,eval a X.env)]:=by rfl):PI X tg (.Call (.Name "range" p) [a] [] pos) (J0g ta):=by
 intro pins s σ H R I h;refine Call_ (L5 I hg hm boot_range (PyProof.Rows.callWith_type1 (thn (ha pos pins s σ H _ I h) fun us s1 hq_=>?_) hs rfl));obtain ⟨vs,H1,I1,r1,q1⟩:=hq_;obtain ⟨j,e,q1,q2,q⟩:=q1;subst e
 cases r1 with
 | cons r rr=>
  cases rr;obtain ⟨t,rfl⟩:=r;exact call_range_1 (Tf I1 (by omega) (by omega) q1 q2 (by simpa using q))
def J3w(wi:TI)(g:TG)(tb:TS):TS:=fun D σ H=>wi σ H fun J H1=>∃W:Nat→Nat→St→Hp→Prop,(∃m,W 0 m σ H1)∧∀i m σ H,W i m σ H→
 (J.stop i H∧D.nx σ H)∨(J.go i H∧∃N:St→Hp→Prop,(∀σ' H',N σ' H'→∃m',m' < m∧W (i+1) m' σ' H')∧∀x H',J.yld i H x H'→g x σ H' fun σ2 H2=>tb {D with nx:=N,ct:=N,bk:=D.nx} σ2 H2)
def De(fp:List Addr)(h:Heap):List (Addr×Obj):=fp.filterMap fun b=>(h.get? b).map fun o=>(b,o)
theorem Bo{fp:List Addr}{h:Heap}{b:Addr}{o:Obj}(hb:b∈fp)(e:h.get? b=some o):(b,o)∈De fp h:=HQ.mpr ⟨b,hb,by rw [e];rfl⟩
theorem S8{fp:List Addr}{h:Heap}{p:Addr×Obj}(hp:p∈De fp h):p.1∈fp∧h.get? p.1=some p.2:=by
 obtain ⟨b,hb,e⟩:=HQ.mp hp
 cases q:h.get? b with
 | none=>rw [q]at e;cases e
 | some o=>
  rw [q]at e;have e':(b,o)=p:=FM e;subst e';exact ⟨hb,q⟩
theorem Inv.pinned{pins:List (Addr×Obj)}{σ:St}{H:Hp}{s:Shared}{fp:List Addr}(I:Inv X pins σ H s)(hf:∀b∈fp,Dc X pins H b)(ho:∀b∈fp,∃o,s.heap.get? b=some o∧∀v,o.data≠ .cell v):Inv X (pins++De fp s.heap) σ H s:=
 I.pins_of fun p hp=>(He.mp hp).elim (fun z=>I.pin p (FA _ z)) fun z=>by
  obtain ⟨hb,e⟩:=S8 z;obtain ⟨f0,f1,f2,_⟩:=hf p.1 hb;obtain ⟨o,e',d⟩:=ho p.1 hb;rw [e]at e';cases e';exact ⟨e,f0,f1,f2,d⟩
theorem Inv.unpinned{pins pl:List (Addr×Obj)}{σ:St}{H:Hp}{s:Shared}(I:Inv X (pins++pl) σ H s):Inv X pins σ H s:=I.pins_of fun p hp=>I.pin p (FA _ (Hq _ hp))
theorem Eu{iter:Expr}{body:List Stmt}{wi:TI}{g:TG}{tb:TS}{pos:Pos}(hp:PassesOwn (model X.prog X.w) X.A X.env X.xe)(hc:X.calm=true)(hi:PI X tg iter wi)(hg:PG X tg g)(hb:PSs X body tb)
 (hs:∀x,foldedSetIterable iter X.env x=pure x:=by intro _;rfl):PS X (.For tg iter body [] pos) (J3w wi g tb):=by
 intro pins s σ H D I h;refine wpAny_For (thn (hi pins s σ H _ I h) fun v s1 h1=>thn h1 fun itv s2 h2=>?_) hs;obtain ⟨it,fp,tn,J,H2,e,I2,T,st2,f2,W,⟨m0,w0⟩,turn⟩:=h2;subst e
 have stat:∀{H':Hp},(∀b∈fp,H' b=none)→∀b∈fp,Dc X pins H' b:=fun hn b hb=>⟨hn b hb,(f2 b hb).2⟩
 refine codeAny_forLoop_any (fun n s'=>∃i σ' H',Inv X pins σ' H' s'∧tn i s'.heap∧(∀b∈fp,H' b=none)∧W i n σ' H') ?_ m0 ⟨0,σ,H2,I2,st2,fun b hb=>(f2 b hb).1,w0⟩;rintro n s3 ⟨i,σ3,H3,I3,st3,fr3,w3⟩;rcases turn i n σ3 H3 w3 with ⟨stop,qn⟩ | ⟨go,N,hN,step⟩
 · refine HI hp (thn (T.done X rfl rfl rfl hc i pins s3 σ3 H3 X.xe I3 (stat fr3) st3 stop) fun r s4 ⟨hr,I4⟩=>?_)
   subst hr;exact R6 ⟨σ3,H3,I4,qn⟩
 · refine HI hp (thn (T.item X rfl rfl rfl hc i pins s3 σ3 H3 X.xe I3 (stat fr3) st3 go) fun r s4 ⟨u,hr,h4⟩=>?_)
   subst hr;refine HI hp (thn h4 fun _ s5 hq_=>?_);obtain ⟨x,H5,I5,r5,y5,st5,fr5⟩:=hq_;have I5':=I5.pinned (stat fr5) (T.obj _ _ st5);refine HI hp (thn (hg _ s5 σ3 H5 x u _ I5' r5 (step x H5 y5)) fun _ s6 hq_=>?_);obtain ⟨σ6,H6,I6,q6⟩:=hq_;refine HI hp (thn (hb _ s6 σ6 H6 _ I6 q6) fun f s7 q7=>?_)
   have again:∀{σ7:St} {H7:Hp},Inv X (pins++De fp s5.heap) σ7 H7 s7→N σ7 H7→∃m,m < n∧∃i σ' H',Inv X pins σ' H' s7∧tn i s7.heap∧(∀b∈fp,H' b=none)∧W i m σ' H':=fun {σ7 H7} I7 n7=>by
    obtain ⟨m',hm,w7⟩:=hN σ7 H7 n7;refine ⟨m',hm,i+1,σ7,H7,I7.unpinned,T.keep _ _ _ st5 fun b hb o e=>(I7.pin (b,o) (FA _ (FA _ (Bo hb e)))).1,fun b hb=>?_,w7⟩;obtain ⟨o,e,d⟩:=T.obj _ _ st5 b hb;exact (I7.pin (b,o) (FA _ (FA _ (Bo hb e)))).2.1
   cases f with
   | next=>obtain ⟨σ7,H7,I7,n7⟩:=q7;exact again I7 n7
   | cont=>obtain ⟨σ7,H7,I7,n7⟩:=q7;exact again I7 n7
   | brk=>obtain ⟨σ7,H7,I7,q7⟩:=q7;exact ⟨σ7,H7,I7.unpinned,q7⟩
   | ret v=>obtain ⟨x7,σ7,H7,I7,r7,q7⟩:=q7;exact ⟨x7,σ7,H7,I7.unpinned,r7,q7⟩
end
theorem Tg{K:PySem.W.Frag}{a:Addr}{xs:List V}{g:TG}{tb:TS}{D:Cc}{σ:St}{H:Hp}(Pv:Nat→St→Hp→Prop)(h0:Pv 0 σ H)(hl:∀i σ H,i≤xs.length→Pv i σ H→SqL K H a xs)
 (hs:∀i x σ H,xs[i]?=some x→Pv i σ H→g x σ H fun σ2 H2=>tb {D with nx:=Pv (i+1),ct:=Pv (i+1),bk:=D.nx} σ2 H2) (hd:∀σ H,Pv xs.length σ H→D.nx σ H):
 ∃W:Nat→Nat→St→Hp→Prop,(∃m,W 0 m σ H)∧∀i m σ H,W i m σ H→
  ((Itl K a).stop i H∧D.nx σ H)∨((Itl K a).go i H∧∃N:St→Hp→Prop,(∀σ' H',N σ' H'→∃m',m' < m∧W (i+1) m' σ' H')∧∀x H',(Itl K a).yld i H x H'→g x σ H' fun σ2 H2=>tb {D with nx:=N,ct:=N,bk:=D.nx} σ2 H2):=by
 refine ⟨fun i m σ H=>m=xs.length - i∧i≤xs.length∧Pv i σ H,⟨xs.length,by simp,FY _,h0⟩,?_⟩;rintro i m σ H ⟨rfl,hi,p⟩;have q:=hl i σ H hi p
 by_cases hlt:i < xs.length
 · refine .inr ⟨⟨xs,xs[i],q,by simp [hlt]⟩,Pv (i+1),fun σ' H' p'=>⟨xs.length - (i+1),by omega,rfl,hlt,p'⟩,fun x H' y=>?_⟩
   obtain ⟨e,y⟩:=y;subst e;exact hs i x σ _ (y xs q) p
 · have e:i=xs.length:=by omega
   subst e;exact .inl ⟨⟨xs,q,Fn _⟩,hd σ H p⟩
theorem S9{lo:Int}{n:Nat}{g:TG}{tb:TS}{D:Cc}{σ:St}{H:Hp}(Pv:Nat→St→Hp→Prop)(h0:Pv 0 σ H)
 (hs:∀i σ H,i < n→Pv i σ H→g (.int (lo+i)) σ H fun σ2 H2=>tb {D with nx:=Pv (i+1),ct:=Pv (i+1),bk:=D.nx} σ2 H2) (hd:∀σ H,Pv n σ H→D.nx σ H):
 ∃W:Nat→Nat→St→Hp→Prop,(∃m,W 0 m σ H)∧∀i m σ H,W i m σ H→
  ((Itr lo n).stop i H∧D.nx σ H)∨((Itr lo n).go i H∧∃N:St→Hp→Prop,(∀σ' H',N σ' H'→∃m',m' < m∧W (i+1) m' σ' H')∧∀x H',(Itr lo n).yld i H x H'→g x σ H' fun σ2 H2=>tb {D with nx:=N,ct:=N,bk:=D.nx} σ2 H2):=by
 refine ⟨fun i m σ H=>m=n - i∧i≤n∧Pv i σ H,⟨n,by simp,FY _,h0⟩,?_⟩;rintro i m σ H ⟨rfl,hi,p⟩
 by_cases hlt:i < n
 · refine .inr ⟨hlt,Pv (i+1),fun σ' H' p'=>⟨n - (i+1),by omega,rfl,hlt,p'⟩,fun x H' y=>?_⟩
   obtain ⟨e,y⟩:=y;subst e y;exact hs i σ _ hlt p
 · have e:i=n:=by omega
   subst e;exact .inl ⟨Fn _,hd σ H p⟩
end L2
namespace L2
abbrev R2:=V→V→Hp→VK→Prop
def OpR(X:Cx)(f:Value→Value→Sem Value)(r:R2):Prop:=
 ∀(pins:List (Addr×Obj)) (s:Shared) (σ:St) (H:Hp) (x y:V) (v u:Value) (Q:VK),Inv X pins σ H s→Ab x v→Ab y u→r x y H Q→
   wpAny (model X.prog X.w) X.A (f v u) (EP X pins σ Q) X.xe s
def UnR(X:Cx)(f:Value→Sem Value)(r:V→Hp→VK→Prop):Prop:=
 ∀(pins:List (Addr×Obj)) (s:Shared) (σ:St) (H:Hp) (x:V) (v:Value) (Q:VK),Inv X pins σ H s→Ab x v→r x H Q→
   wpAny (model X.prog X.w) X.A (f v) (EP X pins σ Q) X.xe s
def E7(X:Cx)(f:Value)(r:List V→Hp→VK→Prop):Prop:=
 ∀(pins:List (Addr×Obj)) (s:Shared) (σ:St) (H:Hp) (xs:List V) (us:List Value) (Q:VK),Inv X pins σ H s→Ag xs us→r xs H Q→
   wpAny (model X.prog X.w) X.A (call f us) (EP X pins σ Q) X.xe s
def tOp(r:R2)(ta tb:TE):TE:=fun σ H Q=>ta σ H fun x H1=>tb σ H1 fun y H2=>r x y H2 Q
def tUn(r:V→Hp→VK→Prop)(ta:TE):TE:=fun σ H Q=>ta σ H fun x H1=>r x H1 Q
def rI(C:Int→Int→Prop)(g:Int→Int→V):R2:=fun x y H Q=>∃i j,x= .int i∧y= .int j∧C i j∧Q (g i j) H
def rI0(g:Int→Int→V):R2:=fun x y H Q=>∃i j,x= .int i∧y= .int j∧Q (g i j) H
def rU(g:Int→V):V→Hp→VK→Prop:=fun x H Q=>∃i,x= .int i∧Q (g i) H
section
variable {X:Cx} {a b c:Expr} {ta tb tc:TE} {pos:Pos}
theorem J23(ha:PE X a ta)(hb:PE X b tb){pins:List (Addr×Obj)}{s:Shared}{σ:St}{H:Hp}{R:V→V→Hp→Prop}(I:Inv X pins σ H s)
 (h:ta σ H fun x H1=>tb σ H1 fun y H2=>R x y H2) {Q:Value→Shared→Prop} {f:Value→Value→Sem Value}
 (hf:∀v u s2 x y H2,Inv X pins σ H2 s2→Ab x v→Ab y u→R x y H2→wpAny (model X.prog X.w) X.A (f v u) Q X.xe s2):
 wpAny (model X.prog X.w) X.A (eval a X.env) (fun v s₁=>wpAny (model X.prog X.w) X.A (eval b X.env) (fun u s₂=>wpAny (model X.prog X.w) X.A (f v u) Q X.xe s₂) X.xe s₁) X.xe s:=by
 refine thn (ha pins s σ H _ I h) fun v s1 hq_=>?_;obtain ⟨x,H1,I1,r1,q1⟩:=hq_;refine thn (hb pins s1 σ H1 _ I1 q1) fun u s2 hq_=>?_;obtain ⟨y,H2,I2,r2,q2⟩:=hq_;exact hf v u s2 x y H2 I2 r1 r2 q2
theorem Ad{op:Operator}{r:R2}(ho:OpR X (binaryOp op) r)(ha:PE X a ta)(hb:PE X b tb):PE X (.BinOp a op b pos) (tOp r ta tb):=by
 intro pins s σ H Q I h;exact wpAny_BinOp (J23 ha hb I h fun v u s2 x y H2 I2 rx ry q=>ho pins s2 σ H2 x y v u Q I2 rx ry q)
theorem J0h{op:UnaryOp}{r:V→Hp→VK→Prop}(ho:UnR X (unaryOp op) r)(ha:PE X a ta):PE X (.UnaryOp op a pos) (tUn r ta):=by
 intro pins s σ H Q I h;exact UnaryOp_ (thn (ha pins s σ H _ I h) fun v s1 ⟨x,H1,I1,r1,q1⟩=>ho pins s1 σ H1 x v Q I1 r1 q1)
theorem opI{f:Value→Value→Sem Value}{C:Int→Int→Prop}{g:Int→Int→Int}
 (rule:∀(i j:Int) (t u:Tok) (s:Shared) (Q:Value→Shared→Prop) (E:Value→Shared→Prop),C i j→Q (.int (g i j) s.toks) {s with toks:=s.toks+1}→wpAny (model X.prog X.w) X.A (f (.int i t) (.int j u)) Q E s):
 OpR X f (rI C fun i j=> .int (g i j)):=by
 intro pins s σ H x y v u Q I rx ry h;obtain ⟨i,j,rfl,rfl,hc,q⟩:=h;obtain ⟨t,rfl⟩:=rx;obtain ⟨t',rfl⟩:=ry;exact rule i j t t' s _ _ hc ⟨.int (g i j),H,I.tok _,⟨_,rfl⟩,q⟩
theorem J3x{f:Value→Value→Sem Value}{g:Int→Int→Int}
 (rule:∀(i j:Int) (t u:Tok) (s:Shared) (Q:Value→Shared→Prop) (E:Value→Shared→Prop),Q (.int (g i j) s.toks) {s with toks:=s.toks+1}→wpAny (model X.prog X.w) X.A (f (.int i t) (.int j u)) Q E s):
 OpR X f (rI0 fun i j=> .int (g i j)):=by
 intro pins s σ H x y v u Q I rx ry h;obtain ⟨i,j,rfl,rfl,q⟩:=h;obtain ⟨t,rfl⟩:=rx;obtain ⟨t',rfl⟩:=ry;exact rule i j t t' s _ _ ⟨.int (g i j),H,I.tok _,⟨_,rfl⟩,q⟩
theorem J24{f:Value→Value→Sem Value}{g:Int→Int→Bool}
 (rule:∀(i j:Int) (t u:Tok) (s:Shared) (Q:Value→Shared→Prop) (E:Value→Shared→Prop),Q (.bool (g i j)) s→wpAny (model X.prog X.w) X.A (f (.int i t) (.int j u)) Q E s):
 OpR X f (rI0 fun i j=> .bl (g i j)):=by
 intro pins s σ H x y v u Q I rx ry h;obtain ⟨i,j,rfl,rfl,q⟩:=h;obtain ⟨t,rfl⟩:=rx;obtain ⟨t',rfl⟩:=ry;exact rule i j t t' s _ _ ⟨.bl (g i j),H,I,rfl,q⟩
def J3y(i j:Int):Prop:=0 < j∧j < 1073741824
def J3z(i j:Int):Prop:=0≤j∧j≤1000000∧i.natAbs < 2 ^ 64
def Ti(i j:Int):Prop:=(-(2 ^ 64) < i∧i < 2 ^ 64)∨(-(2 ^ 64) < j∧j < 2 ^ 64)
theorem Ti.ok{i j:Int}(h:Ti i j):IntMulOk i j:=by
 rcases h with ⟨h1,h2⟩ | ⟨h1,h2⟩
 · exact .of_left (intBits_le_64 h1 h2)
 · exact .of_right (intBits_le_64 h1 h2)
theorem Co:OpR X (binaryOp .Add) (rI0 fun i j=> .int (i+j)):=J3x fun _ _ _ _ _ _ _ q=>add_int q
theorem Tj:OpR X (binaryOp .Sub) (rI0 fun i j=> .int (i - j)):=J3x fun _ _ _ _ _ _ _ q=>sub_int q
theorem L8:OpR X (binaryOp .Mult) (rI Ti fun i j=> .int (i * j)):=opI fun _ _ _ _ _ _ _ hc q=>mul_int q hc.ok
theorem Dr:OpR X (binaryOp .FloorDiv) (rI J3y fun i j=> .int (i / j)):=opI fun i j _ _ _ _ _ hc q=>by
 have h1:(0:Int) < j:=hc.1;have h2:j < 1073741824:=hc.2;exact floordiv_int (by omega) (by rw [Int.fdiv_eq_ediv_of_nonneg i (by omega)];exact q) (.inl (PyProof.noPylong_small (by omega)))
theorem B7:OpR X (binaryOp .Mod) (rI (fun _ j=>0 < j) fun i j=> .int (i % j)):=opI fun i j _ _ _ _ _ hc q=>by
 have h1:(0:Int) < j:=hc;exact mod_int' (by omega) (by rw [Int.fmod_eq_emod_of_nonneg i (by omega)];exact q)
theorem Gz:OpR X (binaryOp .Pow) (rI J3z fun i j=> .int (i ^ j.toNat)):=opI fun _ _ _ _ _ _ _ hc q=>pow_int_small hc.1 hc.2.1 hc.2.2 q
theorem unI{f:Value→Sem Value}{g:Int→Int}
 (rule:∀(i:Int) (t:Tok) (s:Shared) (Q:Value→Shared→Prop) (E:Value→Shared→Prop),Q (.int (g i) s.toks) {s with toks:=s.toks+1}→wpAny (model X.prog X.w) X.A (f (.int i t)) Q E s):
 UnR X f (rU fun i=> .int (g i)):=by
 intro pins s σ H x v Q I rx h;obtain ⟨i,rfl,q⟩:=h;obtain ⟨t,rfl⟩:=rx;exact rule i t s _ _ ⟨.int (g i),H,I.tok _,⟨_,rfl⟩,q⟩
theorem Tl:UnR X (unaryOp .USub) (rU fun i=> .int (-i)):=unI fun _ _ _ _ _ q=>neg_int q
end
def scal:V→V→Bool
 | .non,.non=>true | .non,.int _=>true | .int _,.non=>true | .non,.bl _=>true | .bl _,.non=>true | .non,.str _=>true | .str _,.non=>true
 | .int _,.int _=>true | .bl _,.bl _=>true | .str _,.str _=>true | .byt _,.byt _=>true
 | .int _,.str _=>true | .str _,.int _=>true | .bl _,.str _=>true | .str _,.bl _=>true
 | _,_=>false
def rEq:R2:=fun x y H Q=>scal x y=true∧Q (.bl (decide (x=y))) H
def rNe:R2:=fun x y H Q=>scal x y=true∧Q (.bl (!decide (x=y))) H
theorem Xo{i j:Int}:decide (V.int i=V.int j)=(i==j):=by
 rw [HK];simp
theorem J25{i j:Bool}:decide (V.bl i=V.bl j)=(i==j):=by
 rw [HK];simp
theorem Xp{i j:Str}:decide (V.str i=V.str j)=(i==j):=by
 rw [HK];simp
theorem Xq{i j:Array UInt8}:decide (V.byt i=V.byt j)=(i.toList==j.toList):=by
 rw [HK];cases i;cases j;simp
section
variable {X:Cx} {a b c:Expr} {ta tb tc:TE} {pos:Pos}
theorem Ba{pins:List (Addr×Obj)}{σ:St}{H:Hp}{s:Shared}{Q:VK}{k k':Bool}(I:Inv X pins σ H s)(q:Q (.bl k) H)(e:k=k'):EP X pins σ Q (.bool k') s:=by
 subst e;exact ⟨.bl k,H,I,rfl,q⟩
theorem K9:OpR X (compareOp .Eq) rEq:=by
 intro pins s σ H x y v u Q I rx ry h;obtain ⟨hs,q⟩:=h
 cases x with
 | non=>
  cases rx
  cases y with
  | non=>cases ry;exact PySem.EqNone.eq_none_none (Ba I q (by simp))
  | bl j=>cases ry;exact PySem.EqNone.eq_none_bool (Ba I q (by simp))
  | int j=>obtain ⟨t',rfl⟩:=ry;exact PySem.EqNone.eq_none_int (Ba I q (by simp))
  | str j=>obtain ⟨t',rfl⟩:=ry;exact PySem.EqNone.eq_none_str (Ba I q (by simp))
  | _=>exact absurd (show false=true from hs) FG
 | bl i=>
  cases rx
  cases y with
  | non=>cases ry;exact PySem.EqNone.eq_bool_none (Ba I q (by simp))
  | bl j=>cases ry;exact eq_bool (Ba I q J25)
  | str j=>obtain ⟨t',rfl⟩:=ry;exact PySem.EqMixed.eq_bool_str (Ba I q (by simp))
  | _=>exact absurd (show false=true from hs) FG
 | int i=>
  obtain ⟨t,rfl⟩:=rx
  cases y with
  | non=>cases ry;exact PySem.EqNone.eq_int_none (Ba I q (by simp))
  | int j=>obtain ⟨t',rfl⟩:=ry;exact eq_int (Ba I q Xo)
  | str j=>obtain ⟨t',rfl⟩:=ry;exact PySem.EqMixed.eq_int_str (Ba I q (by simp))
  | _=>exact absurd (show false=true from hs) FG
 | str i=>
  obtain ⟨t,rfl⟩:=rx
  cases y with
  | non=>cases ry;exact PySem.EqNone.eq_str_none (Ba I q (by simp))
  | bl j=>cases ry;exact PySem.EqMixed.eq_str_bool (Ba I q (by simp))
  | int j=>obtain ⟨t',rfl⟩:=ry;exact PySem.EqMixed.eq_str_int (Ba I q (by simp))
  | str j=>obtain ⟨t',rfl⟩:=ry;exact eq_str (Ba I q Xp)
  | _=>exact absurd (show false=true from hs) FG
 | byt i=>
  obtain ⟨t,rfl⟩:=rx
  cases y with
  | byt j=>obtain ⟨t',rfl⟩:=ry;exact PySem.W.eq_bytes (Ba I q Xq)
  | _=>exact absurd (show false=true from hs) FG
 | _=>cases y <;> exact absurd (show false=true from hs) FG
theorem Tn:OpR X (compareOp .Lt) (rI0 fun i j=> .bl (decide (i < j))):=J24 fun _ _ _ _ _ _ _ q=>lt_int q
theorem J0i:OpR X (compareOp .LtE) (rI0 fun i j=> .bl (decide (i≤j))):=J24 fun _ _ _ _ _ _ _ q=>le_int q
theorem Ka:OpR X (compareOp .Gt) (rI0 fun i j=> .bl (decide (j < i))):=J24 fun _ _ _ _ _ _ _ q=>gt_int q
theorem Sa:OpR X (compareOp .In) (fun x y H Q=>∃i j,x= .str i∧y= .str j∧Q (.bl (!(Builtin.Str.occurrences j i 0 j.length 1).isEmpty)) H):=by
 intro pins s σ H x y v u Q I rx ry h;obtain ⟨i,j,rfl,rfl,q⟩:=h;obtain ⟨t,rfl⟩:=rx;obtain ⟨t',rfl⟩:=ry;exact in_str (Ba I q rfl)
theorem Xr:OpR X (compareOp .IsNot) (fun x y H Q=>y= .non∧Q (.bl (!decide (x= .non))) H):=by
 intro pins s σ H x y v u Q I rx ry h;obtain ⟨rfl,q⟩:=h;cases ry;refine isnot_none_gen (Ba I q ?_)
 cases x <;> first
  | (cases rx;rfl)
  | (obtain ⟨t,rfl⟩:=rx;rfl)
theorem nomark(b:Expr){op:CmpOp}(h:op≠ .In:=by decide)(h2:op≠ .NotIn:=by decide):behindInMarks op b=false:=by
 have e1:(op==CmpOp.In)=false:=by cases op <;> first | rfl | exact absurd rfl h
 have e2:(op==CmpOp.NotIn)=false:=by cases op <;> first | rfl | exact absurd rfl h2
 cases b <;> simp [behindInMarks,e1,e2]
theorem Ds{op:CmpOp}{r:R2}(ho:OpR X (compareOp op) r)(ha:PE X a ta)(hb:PE X b tb)(hm:behindInMarks op b=false):PE X (.Compare a [op] [b] pos) (tOp r ta tb):=by
 intro pins s σ H Q I h;exact wpAny_Compare1 (J23 ha hb I h fun v u s2 x y H2 I2 rx ry q=>ho pins s2 σ H2 x y v u Q I2 rx ry q) hm
def J0j(t:TE):TT:=fun σ H Q=>t σ H fun x H'=>∃k,x= .bl k∧Q k H'
theorem B3{op:CmpOp}{r:R2}(ho:OpR X (compareOp op) r)(ha:PE X a ta)(hb:PE X b tb)(hm:behindInMarks op b=false):PT X (.Compare a [op] [b] pos) (J0j (tOp r ta tb)):=by
 intro pins s σ H Q I h
 refine wpAny_isTrue_Compare1 (thn (ha pins s σ H _ I h) fun v s1 ⟨x,H1,I1,r1,q1⟩=>thn (hb pins s1 σ H1 _ I1 q1) fun u s2 ⟨y,H2,I2,r2,q2⟩=>
  thn (ho pins s2 σ H2 x y v u _ I2 r1 r2 q2) fun c s3 ⟨z,H3,I3,r3,k,e,q3⟩=>?_) hm
 subst e;cases r3;exact Hn ⟨H3,I3,q3⟩
def To(r r':R2)(ta tb tc:TE):TE:=fun σ H Q=>ta σ H fun x H1=>tb σ H1 fun y H2=>r x y H2 fun z H3=>∃k,z= .bl k∧
 (if k=true then tc σ H3 fun w' H4=>r' y w' H4 Q else Q (.bl false) H3)
theorem Tp{op op':CmpOp}{r r':R2}(ho:OpR X (compareOp op) r)(ho':OpR X (compareOp op') r')(ha:PE X a ta)(hb:PE X b tb)(hc:PE X c tc)
 (hm:lastMarks [op,op'] [b,c]=false:=by with_unfolding_all rfl):PE X (.Compare a [op,op'] [b,c] pos) (To r r' ta tb tc):=by
 intro pins s σ H Q I h
 refine Compare_chain (thn (ha pins s σ H _ I h) fun v s1 ⟨x,H1,I1,r1,q1⟩=>chain_link (thn (hb pins s1 σ H1 _ I1 q1) fun u s2 ⟨y,H2,I2,r2,q2⟩=>
  thn (ho pins s2 σ H2 x y v u _ I2 r1 r2 q2) fun d s3 ⟨z,H3,I3,r3,k,e,q3⟩=>?_)) hm
 subst e;cases r3;refine Hn ?_
 cases k with
 | false=>exact ite_ff ⟨.bl false,H3,I3,rfl,q3⟩
 | true=>exact ite_tt (chain_last (thn (hc pins s3 σ H3 _ I3 q3) fun w' s4 ⟨z',H4,I4,r4,q4⟩=>ho' pins s4 σ H4 y z' u w' Q I4 r2 r4 q4))
theorem Ew:(sizeLine:Nat) < 2 ^ 63:=by rw [Ra];decide
theorem Cp:OpR X (binaryOp .Add) (fun x y H Q=>∃i j,x= .str i∧y= .str j∧i.length+j.length≤sizeLine∧Q (.str (i++j)) H):=by
 intro pins s σ H x y v u Q I rx ry h;obtain ⟨i,j,rfl,rfl,hz,q⟩:=h;obtain ⟨t,rfl⟩:=rx;obtain ⟨t',rfl⟩:=ry;exact add_str (fun t' tk=>⟨.str (i++j),H,I.tok _,⟨_,rfl⟩,q⟩) hz
theorem Ga{x:V}{us:List Value}(r:Ag [x] us):∃u,us=[u]∧Ab x u:=by
 cases r with
 | cons r1 r2=>cases r2;exact ⟨_,rfl,r1⟩
theorem J40{x y:V}{us:List Value}(r:Ag [x,y] us):∃u w',us=[u,w']∧Ab x u∧Ab y w':=by
 cases r with
 | cons r1 r2=>
  cases r2 with
  | cons r3 r4=>cases r4;exact ⟨_,_,rfl,r1,r3⟩
theorem Sb:E7 X (.type "int") (fun xs H Q=>(∃i,xs=[.int i]∧Q (.int i) H)∨∃k,xs=[.bl k]∧Q (.int (if k then 1 else 0)) H):=by
 intro pins s σ H xs us Q I r h;rcases h with ⟨i,rfl,q⟩ | ⟨k,rfl,q⟩
 · obtain ⟨u,rfl,t,rfl⟩:=Ga r
   exact call_int_int ⟨.int i,H,I,⟨_,rfl⟩,q⟩
 · obtain ⟨u,rfl,r1⟩:=Ga r
   cases r1;exact call_int_bool ⟨.int (if k then 1 else 0),H,I.tok _,⟨_,rfl⟩,q⟩
end
end L2
namespace L2
structure Oa(h:Heap)(x dx C:Addr)(mA:Str→Option Value):Prop where
 obj:h.get? x=some (PySem.W.instObj C dx)
 ns:h.Ns1 dx mA
 ne:dx≠x
theorem Kb{h:Heap}{dx:Addr}{mA:Str→Option Value}(n:h.Ns1 dx mA):∃od,h.get? dx=some od∧∀name,PySem.W.lookIn name od=some (mA name):=by
 obtain ⟨o,es,ep,ho,hd,hk,_,hm⟩:=n;refine ⟨o,ho,fun name=>?_⟩;have e:=hm name;unfold nsFind findBy at e;rw [← Array.find?_toList]at e;unfold PySem.W.lookIn;rw [hd];dsimp only;split
 · rename_i y q
   rw [q]at e;exact congrArg some e
 · rename_i q
   rw [q]at e
   have a:es.toList.any (·.refKey)=false:=by
    rw [List.any_eq_false];intro y hy;obtain ⟨z,t,hkey⟩:=hk y (Array.mem_toList_iff.mp hy);simp [DictEntry.refKey,hkey]
   have a':¬es.toList.any (·.refKey)=true:=by rw [a];exact FG
   rw [if_neg a'];exact congrArg some e
theorem Oa.look{h:Heap}{x dx C:Addr}{mA:Str→Option Value}(I:Oa h x dx C mA):∃od,PySem.W.InstAt h x (PySem.W.instObj C dx) C (some od)∧∀name,PySem.W.lookIn name od=some (mA name):=
 let ⟨od,ho,hl⟩:=Kb I.ns
 ⟨od,⟨I.obj,rfl,rfl,ho⟩,hl⟩
section
variable {prog:Program} {w:World} {A:Around} {E:Value→Shared→Prop} {s:Shared} {K:PySem.W.Frag} {x dx C f:Addr} {mA:Str→Option Value} {name:Str} {v:Value}
theorem Xs{expr:Bool}{Q:Value→Shared→Prop}(X:K.In s.heap)(I:Oa s.heap x dx C mA)(hg:PySem.W.plainGet K C name=true)(hh:PySem.W.hasDictIn K C=true)
 (ha:PySem.W.findIn K (.ref C) name=some none) (hv:mA name=some v) (hv':PySem.W.handedIn v=true) (h:Q v {s with toks:=s.toks+1}):
 wpAny (model prog w) A (getAttr (.ref x) name expr) Q E s:=by
 obtain ⟨od,J,hl⟩:=I.look;exact PySem.W.get_value X J (Rf hg).1 (PySem.W.findObj_own hh ha rfl (by rw [hl,hv])) hv' h
theorem Tq{pl:Sem Bool}{Q:Value×List Value→Shared→Prop}(X:K.In s.heap)(I:Oa s.heap x dx C mA)(hg:PySem.W.plainGet K C name=true)
 (hf:PySem.W.findIn K (.ref C) name=some (some (.ref f))) (ht:PySem.W.isFn K (.ref f)=true) (hv:mA name=none) (h:Q (.ref f,[.ref x]) s):
 wpAny (model prog w) A (getMethod (.ref x) name pl) Q E s:=by
 obtain ⟨od,J,hl⟩:=I.look;exact PySem.W.method_fn X J (Rf hg).1 (Rf hg).2 hf (R3.mp ht) (by show (PySem.W.lookIn name od).map (·.isSome)=some false;rw [hl,hv];rfl) h
theorem Xt{ns:List Str}{Q:Unit→Shared→Prop}(X:K.In s.heap)(I:Oa s.heap x dx C mA)
 (hs:PySem.W.findIn K (.ref C) "__setattr__"=some (some (.builtin "object.__setattr__"))) (hp:PySem.W.plainOver K C=true) (ht:PySem.W.takerIn K C name=some none) (hh:PySem.W.hasDictIn K C=true)
 (hw:PySem.Within mA ns) (hsz:ns.length≤sizeLine)
 (h:∀h',Oa h' x dx C (fun y=>if y=name then some v else mA y)→Heap.SameBut dx s.heap h'→Q () {s with heap:=h',toks:=s.toks+2}):
 wpAny (model prog w) A (setAttr (.ref x) name v) Q E s:=by
 obtain ⟨od,J,hl⟩:=I.look;refine PySem.W.set_plain X J hs (PySem.W.osa_open (s:={s with toks:=s.toks+1}) (r:=none) X J hp ht fun b=>?_);obtain ⟨cd,hc,hd'⟩:=PySem.W.any_some hh;have hx:s.heap.get? x=some ⟨.ref C,some dx,.plain,#[]⟩:=I.obj;refine Fd (Fu (Fd (Fd (wpAny_loadPart hx (Fd (PySem.W.Looks.here (s:={s with toks:=s.toks+1}) (PySem.W.looks_clsIn X hc) ?_))))));rw [hd'];refine Fu (a:=some dx) (Fd (Fu (Fd ?_)));refine wpAny_nsSet1 (s:={s with toks:=s.toks+1}) I.ns fun h' hn2 hs2=>?_;obtain ⟨oD,esD,epD,hoD,hdD,hcD⟩:=hn2.count (PySem.Within.cons name v hw);refine Fd (Rm hoD (by rw [hdD];exact Rn (FH hcD (by rw [List.length_cons];omega))) ?_);exact Fu (h _ ⟨(hs2.2 _ (Ne.symm I.ne)).trans I.obj,hn2,I.ne⟩ hs2)
theorem Tr{R:Result→Shared→Prop}{vs:List Value}{kw:List (Str×Value)}(X:K.In s.heap)(hm:PySem.W.makesIn K C=true)
 (hi:PySem.W.findIn K (.ref C) "__init__"=some (some (.ref f))) (hf:PySem.W.typeIn K (.ref f)=some (.type "function"))
 (h:codeAny (model prog w) (A.under (.builtin "type.__call__" ⟨.ref C::vs,kw⟩)) (.call (.ref f) ⟨.ref (s.heap.objs.size+1)::vs,kw⟩) (PySem.W.InitBack (s.heap.objs.size+1) R)
  {s with heap:=(s.heap.push PySem.W.emptyDict).push (PySem.W.instObj C s.heap.objs.size)}):
 codeAny (model prog w) A (.call (.ref C) ⟨vs,kw⟩) R s:=by
 obtain ⟨hh,g,d,t,os⟩:=s;exact PySem.W.make_core (PySem.W.makes_of X hm) (PySem.W.looks_findIn X hi) (fun self=>PySem.W.bind_fn X self hf) (.inl rfl) h
end
def Bh(f:Str)(v:V):List (Str×V)→List (Str×V)
 | []=>[(f,v)]
 | (g,x)::r=>if g=f then (g,v)::r else (g,x)::Bh f v r
theorem Bb(f g:Str)(v:V):∀fs:List (Str×V),(Bh f v fs).lookup g=if g=f then some v else fs.lookup g
 | []=>by
  show List.lookup g [(f,v)]=_
  by_cases h:g=f
  · have hb:(g==f)=true:=R3.mpr h
    simp only [List.lookup,hb,if_pos h]
  · have hb:(g==f)=false:=FX.mpr h
    simp only [List.lookup,hb,if_neg h]
 | (k,x)::r=>by
  have ih:=Bb f g v r;rw [show Bh f v ((k,x)::r)=(if k=f then (k,v)::r else (k,x)::Bh f v r) from rfl]
  by_cases hk:k=f
  · rw [if_pos hk]
    by_cases h:g=k
    · have hb:(g==k)=true:=R3.mpr h
      simp only [List.lookup,hb,if_pos (h.trans hk)]
    · have hb:(g==k)=false:=FX.mpr h
      simp only [List.lookup,hb,if_neg (fun e:g=f=>h (e.trans hk.symm))]
  · rw [if_neg hk]
    by_cases h:g=k
    · have hb:(g==k)=true:=R3.mpr h
      simp only [List.lookup,hb,if_neg (fun e:g=f=>hk (h.symm.trans e))]
    · have hb:(g==k)=false:=FX.mpr h
      simp only [List.lookup,hb];exact ih
theorem Cf(f:Str)(v:V):∀fs:List (Str×V),f∈(Bh f v fs).map (·.1)∧∀g,g∈fs.map (·.1)→g∈(Bh f v fs).map (·.1)
 | []=>⟨by simp [Bh],fun g h=>by simp at h⟩
 | (k,x)::r=>by
  obtain ⟨i1,i2⟩:=Cf f v r;rw [show Bh f v ((k,x)::r)=(if k=f then (k,v)::r else (k,x)::Bh f v r) from rfl]
  by_cases hk:k=f
  · rw [if_pos hk]
    subst hk;exact ⟨by simp,fun g h=>by simpa using h⟩
  · rw [if_neg hk]
    refine ⟨?_,fun g h=>?_⟩
    · rw [List.map_cons]
      exact Fp _ i1
    · rw [List.map_cons]at h ⊢
      rcases FD.mp h with e | e
      · exact FD.mpr (.inl e)
      · exact Fp _ (i2 g e)
theorem Df(f:Str)(v:V):∀fs:List (Str×V),(Bh f v fs).length≤fs.length+1
 | []=>by simp [Bh]
 | (k,x)::r=>by
  have ih:=Df f v r;rw [show Bh f v ((k,x)::r)=(if k=f then (k,v)::r else (k,x)::Bh f v r) from rfl]
  by_cases hk:k=f
  · rw [if_pos hk,List.length_cons,List.length_cons];omega
  · rw [if_neg hk,List.length_cons,List.length_cons];omega
theorem By.some_of{v:V}{o:Option Value}(r:By (some v) o):∃u,o=some u∧Ab v u:=by
 cases o with
 | none=>exact (show False from r).elim
 | some u=>exact ⟨u,rfl,r⟩
theorem By.none_of{o:Option Value}(r:By none o):o=none:=by
 cases o with
 | none=>rfl
 | some u=>exact (show False from r).elim
theorem Kc{v:V}{u:Value}(r:Ab v u):PySem.W.handedIn u=true:=by
 cases v with
 | non=>cases (show u=Value.none from r);rfl
 | bl b=>cases (show u=Value.bool b from r);rfl
 | int i=>obtain ⟨t,e⟩:=(show ∃t,u=Value.int i t from r);cases e;rfl
 | str x=>obtain ⟨t,e⟩:=(show ∃t,u=Value.str x t from r);cases e;rfl
 | byt b=>obtain ⟨t,e⟩:=(show ∃t,u=Value.bytes b t from r);cases e;rfl
 | flt b=>obtain ⟨t,e⟩:=(show ∃t,u=Value.float b t from r);cases e;rfl
 | ref a=>cases (show u=Value.ref a from r);rfl
 | ty n=>cases (show u=Value.type n from r);rfl
section
variable {P:Program} {w:World} {H H':Hp} {h h':Heap} {a C dx:Addr} {fs fs':List (Str×V)}
theorem Gi(hok:HOk P w H h)(e:H a=some (.ins C dx fs)):∃mA,Oa h a dx C mA∧(∀f,By (fs.lookup f) (mA f))∧PySem.Within mA (fs.map (·.1))∧fs.length≤1000∧H dx=some (.own a):=by
 obtain ⟨d,z,ne,ob,mA,n,r,q⟩:=(show Ak P w H h a (.ins C dx fs) from hok a _ e)
 exact ⟨mA,⟨ob,n,ne⟩,r,q,z,d⟩
end
structure Cls(K:PySem.W.Frag)(C:Addr):Prop where
 pg:PySem.W.plainGet K C Str.empty=true
 hd:PySem.W.hasDictIn K C=true
 po:PySem.W.plainOver K C=true
 sa:PySem.W.findIn K (.ref C) "__setattr__"=some (some (.builtin "object.__setattr__"))
theorem Cls.get{K:PySem.W.Frag}{C:Addr}(c:Cls K C)(f:Str):PySem.W.plainGet K C f=true:=c.pg
def Cq(K:PySem.W.Frag)(C:Addr)(f:Str):Prop:=PySem.W.findIn K (.ref C) f=some none
theorem Cq.taker{K:PySem.W.Frag}{C:Addr}{f:Str}(n:Cq K C f):PySem.W.takerIn K C f=some none:=by
 unfold PySem.W.takerIn;rw [show PySem.W.findIn K (.ref C) f=some none from n];rfl
structure Sd(K:PySem.W.Frag)(C:Addr)(m:Str)(f:Addr):Prop where
 at_:PySem.W.findIn K (.ref C) m=some (some (.ref f))
 fn:PySem.W.isFn K (.ref f)=true
 kp:PySem.W.keepIn K (.ref f)=true
section
variable {X:Cx} {pins:List (Addr×Obj)} {σ:St} {H:Hp} {s:Shared} {a C dx:Addr} {fs:List (Str×V)} {f:Str} {v:V} {A:Around} {E:Value→Shared→Prop}
theorem Ob{b:Bool}{Q:Value→Shared→Prop}(I:Inv X pins σ H s)(e:H a=some (.ins C dx fs))(c:Cls X.K C)(n:Cq X.K C f)(l:fs.lookup f=some v)
 (h:∀u s',Inv X pins σ H s'→Ab v u→Q u s'):wpAny (model X.prog X.w) A (getAttr (.ref a) f b) Q E s:=by
 obtain ⟨mA,O,r,_,_,_⟩:=Gi I.hok e;obtain ⟨u,hu,ru⟩:=By.some_of (v:=v) (o:=mA f) (by rw [← l];exact r f);exact Xs I.kIn O (c.get f) c.hd n hu (Kc ru) (h u _ (I.tok _) ru)
theorem Oc{m:Str}{g:Addr}{pl:Sem Bool}{Q:Value×List Value→Shared→Prop}(I:Inv X pins σ H s)(e:H a=some (.ins C dx fs))(c:Cls X.K C)(k:Sd X.K C m g)(l:fs.lookup m=none)
 (h:Q (.ref g,[.ref a]) s):wpAny (model X.prog X.w) A (getMethod (.ref a) m pl) Q E s:=by
 obtain ⟨mA,O,r,_,_,_⟩:=Gi I.hok e;have hn:mA m=none:=By.none_of (by rw [← l];exact r m);exact Tq I.kIn O (c.get m) k.at_ k.fn hn h
theorem Od{y:V}{u:Value}{Q:Unit→Shared→Prop}(I:Inv X pins σ H s)(e:H a=some (.ins C dx fs))(c:Cls X.K C)(n:Cq X.K C f)(hl:fs.length < 1000)(ry:Ab y u)
 (h:∀s',Inv X pins σ (upd H a (.ins C dx (Bh f y fs))) s'→Q () s'):wpAny (model X.prog X.w) A (setAttr (.ref a) f u) Q E s:=by
 obtain ⟨mA,O,r,wi,_,ho⟩:=Gi I.hok e
 have hz:(fs.map (·.1)).length≤sizeLine:=by rw [Fa,Ra];omega
 refine Xt I.kIn O c.sa c.po n.taker c.hd wi hz fun h' O' sb=>h _ ?_;have hd:∃o,h'.get? dx=some o:=let ⟨o,_,_,e',_⟩:=O'.ns;⟨o,e'⟩;refine I.write (x:=a) (e:=dx) (by rw [e];exact True.intro) (.inr ho) (fun b q hb z=>(sb.2 b hb).trans z) hd ?_;refine ⟨by rw [A0 O.ne];exact ho,?_,O.ne,O'.obj,_,O'.ns,fun g=>?_,fun g hg=>?_⟩
 · have:=Df f y fs;omega
 · show By ((Bh f y fs).lookup g) (if g=f then some u else mA g)
   rw [Bb]
   by_cases q:g=f
   · rw [if_pos q,if_pos q];exact ry
   · rw [if_neg q,if_neg q];exact r g
 · by_cases q:g=f
   · rw [q];exact (Cf f y fs).1
   · refine (Cf f y fs).2 g (wi g fun z=>hg ?_)
     show (if g=f then some u else mA g)=none;rw [if_neg q];exact z
theorem Inv.made(I:Inv X pins σ H s):Inv X pins σ (upd (upd H s.heap.objs.size (.own (s.heap.objs.size+1))) (s.heap.objs.size+1) (.ins C s.heap.objs.size []))
 {s with heap:=(s.heap.push PySem.W.emptyDict).push (PySem.W.instObj C s.heap.objs.size)}:=by
 have e1:(s.heap.push PySem.W.emptyDict).get? s.heap.objs.size=some PySem.W.emptyDict:=Fo s.heap rfl
 have e2:((s.heap.push PySem.W.emptyDict).push (PySem.W.instObj C s.heap.objs.size)).get? (s.heap.objs.size+1)=some (PySem.W.instObj C s.heap.objs.size):=by
  have:=Fo (s.heap.push PySem.W.emptyDict) (o:=PySem.W.instObj C s.heap.objs.size) rfl
  rwa [HR]at this
 have e3:(s.heap.push PySem.W.emptyDict).Ns s.heap.objs.size (fun _=>none):=⟨PySem.W.emptyDict,#[],_,e1,rfl,(fun e he=>absurd he (by simp)),fun _=>rfl⟩
 have I1:=I.laid (a:=s.heap.objs.size) (o:= .own (s.heap.objs.size+1)) (h':=s.heap.push PySem.W.emptyDict) (t':=s.toks) (fun b u q=>Fb _ q) (Fn _) ⟨_,e1⟩;refine I1.laid (a:=s.heap.objs.size+1) (o:= .ins C s.heap.objs.size []) (t':=s.toks) (fun b u q=>Fb _ q) (Nat.le_of_eq (HR _ _)) ?_;have ne:s.heap.objs.size≠s.heap.objs.size+1:=Ff (Hr _);refine ⟨by rw [A0 ne,A1],FY _,ne,e2,fun _=>none,(Heap.Ns1.of_empty e3).at fun o q=>Fb _ q,fun _=>True.intro,fun y hy=>absurd rfl hy⟩
theorem P2{prog:Program}{w:World}{env:Env}{e:Expr}{f:Str}{pos:Pos}{s:Shared}{Q:Value→Shared→Prop}(hb:attributeBase e f env (eval e env)=eval e env)
 (h:wpAny (model prog w) A (eval e env) (fun o s₁=>wpAny (model prog w) A (getAttr o f true) Q E s₁) E s):wpAny (model prog w) A (eval (.Attribute e f pos) env) Q E s:=
 Attribute_any_ h (by rw [arm_eval_Attribute,hb])
end
def J41(K:PySem.W.Frag)(ta:TE)(f:Str):TE:=fun σ H Q=>ta σ H fun x H1=>∃a C dx fs v,x= .ref a∧H1 a=some (.ins C dx fs)∧Cls K C∧Cq K C f∧fs.lookup f=some v∧Q v H1
def J42(K:PySem.W.Frag)(ta tv:TE)(f:Str):TS:=fun D σ H=>tv σ H fun y H1=>ta σ H1 fun x H2=>∃a C dx fs,x= .ref a∧H2 a=some (.ins C dx fs)∧Cls K C∧Cq K C f∧fs.length < 1000∧
 D.nx σ (upd H2 a (.ins C dx (Bh f y fs)))
section
variable {X:Cx} {o e value:Expr} {f:Str} {pos pos' tpos:Pos} {ta tv:TE}
theorem Ex(he:PE X e ta)(hb:attributeBase e f X.env (eval e X.env)=eval e X.env):PE X (.Attribute e f pos) (J41 X.K ta f):=by
 intro pins s σ H Q I h;refine P2 hb (thn (he pins s σ H _ I h) fun u s1 hq_=>?_);obtain ⟨x,H1,I1,rx,a,C,dx,fs,v,ex,ea,c,n,l,q⟩:=hq_;subst ex;obtain rfl:u=Value.ref a:=rx
 exact Ob I1 ea c n l fun u' s2 I2 ru=>⟨v,H1,I2,ru,q⟩
theorem J26(ha:PE X o ta)(hv:PE X value tv)(hs:swapsWith value (some (.Attribute o f pos')) pos.line X.env=pure false):PS X (.Assign [.Attribute o f pos'] value pos) (J42 X.K ta tv f):=by
 intro pins s σ H D I h;refine plainObj_wpAny_Assign_Attribute (thn (hv pins s σ H _ I h) fun u s1 ⟨y,H1,I1,ry,q⟩=>thn (ha pins s1 σ H1 _ I1 q) fun ov s2 hq_=>?_) hs;obtain ⟨x,H2,I2,rx,a,C,dx,fs,ex,ea,c,n,l,q2⟩:=hq_;subst ex;obtain rfl:ov=Value.ref a:=rx
 exact Od I2 ea c n l ry fun s3 I3=>⟨σ,_,I3,q2⟩
end
section
variable {X:Cx} {pins:List (Addr×Obj)} {σ:St} {H:Hp} {s:Shared} {A:Around} {E:Value→Shared→Prop} {Q:Value→Shared→Prop} {c:Value} {b:Bool}
inductive Ey(K:PySem.W.Frag)(H:Hp):V→Value→Prop where
 | non:Ey K H .non (.type "NoneType")
 | bl (x:Bool):Ey K H (.bl x) (.type "bool")
 | int (i:Int):Ey K H (.int i) (.type "int")
 | str (x:Str):Ey K H (.str x) (.type "str")
 | flt (x:UInt64):Ey K H (.flt x) (.type "float")
 | lst {a:Addr} {xs:List V} (e:H a=some (.lst xs)):Ey K H (.ref a) (.type "list")
 | frz {a:Addr} {o:Obj} {xs:List V} (e:H a=some (.frz o (.lst xs))):Ey K H (.ref a) (.type "list")
 | tup {a:Addr} {xs:List V} (e:H a=some (.tup xs)):Ey K H (.ref a) (.type "tuple")
 | dK {a:Addr} {kvs:List (Key×V)} (e:H a=some (.dK kvs)):Ey K H (.ref a) (.type "dict")
 | dT {a:Addr} {kvs:List (List Key×V)} (e:H a=some (.dT kvs)):Ey K H (.ref a) (.type "dict")
 | ins {a C dx:Addr} {fs:List (Str×V)} (e:H a=some (.ins C dx fs)) (cl:Cls K C) (ha:PySem.W.findIn K (.ref C) "__class__"=some (some (.builtin "object.__class__")))
  (hn:PySem.W.specialIn K (.builtin "object.__class__") "__get__"=some (some (.builtin "getset_descriptor.__get__"))) (htk:PySem.W.takesIn K (.builtin "object.__class__")=some true)
  (hm:PySem.W.mroIn K C (.type "object")=some true):Ey K H (.ref a) (.ref C)
theorem Se{x:V}{u t:Value}(I:Inv X pins σ H s)(rx:Ab x u)(ty:Ey X.K H x t)(e:PySem.W.kitOne X.K t c=some b)(h:∀tk,Q (.bool b) {s with toks:=tk}):
 wpAny (model X.prog X.w) A (call (.builtin "isinstance") [u,c]) Q E s:=by
 cases ty with
 | non=>cases (show u=Value.none from rx);exact FS PySem.W.kitx_none I.kIn True.intro e (fun z=>nomatch z) h
 | bl y=>cases (show u=Value.bool y from rx);exact FS PySem.W.kitx_bool I.kIn True.intro e (fun z=>nomatch z) h
 | int i=>obtain ⟨t,q⟩:=(show ∃t,u=Value.int i t from rx);cases q;exact FS PySem.W.kitx_int I.kIn True.intro e (fun z=>nomatch z) h
 | str y=>obtain ⟨t,q⟩:=(show ∃t,u=Value.str y t from rx);cases q;exact FS PySem.W.kitx_str I.kIn True.intro e (fun z=>nomatch z) h
 | flt y=>obtain ⟨t,q⟩:=(show ∃t,u=Value.float y t from rx);cases q;exact FS PySem.W.kitx_float I.kIn True.intro e (fun z=>nomatch z) h
 | @lst a xs ea=>
  cases (show u=Value.ref a from rx)
  obtain ⟨_,_,n,_,h1⟩:=(show Ak X.prog X.w H s.heap a (.lst xs) from I.hok a _ ea)
  exact FS PySem.W.kitx_list I.kIn ⟨_,h1,rfl⟩ e (fun z=>nomatch z) h
 | @frz a ob xs ea=>
  cases (show u=Value.ref a from rx)
  obtain ⟨_,_,_,n,_,h1⟩:=(show Ak X.prog X.w H s.heap a (.frz ob (.lst xs)) from I.hok a _ ea)
  exact FS PySem.W.kitx_list I.kIn ⟨_,h1,rfl⟩ e (fun z=>nomatch z) h
 | @tup a xs ea=>
  cases (show u=Value.ref a from rx)
  obtain ⟨_,_,_,p⟩:=(show Ak X.prog X.w H s.heap a (.tup xs) from I.hok a _ ea)
  obtain ⟨o,h1,h2,_⟩:=p;exact FS PySem.W.kitx_tuple I.kIn ⟨o,h1,h2⟩ e (fun z=>nomatch z) h
 | @dK a kvs ea=>
  cases (show u=Value.ref a from rx)
  obtain ⟨_,_,vs,_,p⟩:=(show Ak X.prog X.w H s.heap a (.dK kvs) from I.hok a _ ea)
  obtain ⟨o,es,ep,h1,h2,_⟩:=p;exact FS PySem.W.kitx_dict I.kIn ⟨o,h1,h2.1⟩ e (fun z=>nomatch z) h
 | @dT a kvs ea=>
  cases (show u=Value.ref a from rx)
  obtain ⟨_,_,xs,_,o,es,ep,h1,h2,_⟩:=(show Ak X.prog X.w H s.heap a (.dT kvs) from I.hok a _ ea)
  exact FS PySem.W.kitx_dict I.kIn ⟨o,h1,h2.1⟩ e (fun z=>nomatch z) h
 | @ins a C dx fs ea cl ha hn htk hm=>
  cases (show u=Value.ref a from rx);obtain ⟨mA,O,_⟩:=Gi I.hok ea;obtain ⟨od,J,_⟩:=O.look;exact FS (PySem.W.kitx_own (cl.get _) cl.hd ha hn htk hm) I.kIn J e (fun z=>nomatch z) h
end
end L2
namespace L2
structure B0(k:Nat)(A:Around):Prop where
 hd:A.handled=none
 dp:A.depth+3 * k+5 < recursionLimit
 un:A.units+16 * k+200 < cLine
theorem B0.mono{j k:Nat}{A:Around}(r:B0 k A)(h:j≤k):B0 j A:=⟨r.hd,by have:=r.dp;omega,by have:=r.un;omega⟩
theorem B0.deeper{k:Nat}{A:Around}(r:B0 (k+1) A)(env:Env):B0 k (A.deeper env):=
 ⟨r.hd,by have:=r.dp;show A.depth+1+3 * k+5 < _;omega,by have:=r.un;show A.units+3+16 * k+200 < _;omega⟩
theorem Oe{A:Around}{C:Addr}{us:List Value}{kw:List (Str×Value)}:(A.under (.builtin "type.__call__" ⟨.ref C::us,kw⟩)).depth=A.depth+1:=by
 first | rfl | simp [Around.under,Code.weight,Code.isCreation,Code.isGuard,Code.isCaller,Code.frames,Code.isFrame,guardIds]
theorem Of{A:Around}{C:Addr}{us:List Value}{kw:List (Str×Value)}:(A.under (.builtin "type.__call__" ⟨.ref C::us,kw⟩)).units=A.units+1:=by
 first | rfl | simp [Around.under,Code.cUnits,Code.frames,Code.isFrame]
theorem B0.make{k:Nat}{A:Around}(r:B0 (k+1) A)(C:Addr)(us:List Value)(kw:List (Str×Value)):B0 k (A.under (.builtin "type.__call__" ⟨.ref C::us,kw⟩)):=
 ⟨r.hd,by have:=r.dp;rw [Oe];omega,by have:=r.un;rw [Of];omega⟩
theorem B0.depth{k:Nat}{A:Around}(r:B0 k A):A.depth < recursionLimit:=by have:=r.dp;omega
theorem B0.units{k:Nat}{A:Around}(r:B0 k A):A.units+64 < cLine:=by have:=r.un;omega
def J43:TA:=fun _ H Q=>Q [] H
def J0k(ta:TE)(tr:TA):TA:=fun σ H Q=>ta σ H fun x H1=>tr σ H1 fun xs H2=>Q (x::xs) H2
section
variable {X:Cx} {e:Expr} {es:List Expr} {te:TE} {t:TA} {pos:Pos}
theorem A5:PA X [] J43:=fun _ _ _ _ H Q I h=>Calls.spliced_nil ⟨[],H,I,.nil,h⟩
theorem A2(ha:PE X e te)(hr:PA X es t)(hs:starEach (e::es) X.env=(false,eval e X.env)::starEach es X.env:=by rfl):PA X (e::es) (J0k te t):=by
 intro pos pins s σ H Q I h;rw [hs];show wpAny _ _ (spliced ((false,eval e X.env)::backTo pos (starEach es X.env))) _ _ s;refine Calls.spliced_cons (thn (ha pins s σ H _ I h) fun u s1 hq_=>?_);obtain ⟨x,H1,I1,r1,q1⟩:=hq_
 exact thn (hr pos pins s1 σ H1 _ I1 q1) fun us s2 ⟨xs,H2,I2,r2,q2⟩=>⟨x::xs,H2,I2,.cons r1 r2,q2⟩
def J44(t:TA):TE:=fun σ H Q=>t σ H fun xs H1=>xs.length≤sizeLine∧∀p,H1 p=none→Q (.ref p) (upd H1 p (.tup xs))
def J45(t:TA):TE:=fun σ H Q=>t σ H fun xs H1=>xs.length≤sizeLine∧∀p,H1 p=none→Q (.ref p) (upd H1 p (.lst xs))
theorem E8{x1}(h:PA X es t):PE X (.Tuple es x1 pos) (J44 t):=by
 intro pins s σ H Q I hq;refine wpAny_Tuple_spliced (thn (h pos pins s σ H _ I hq) fun us s1 ⟨xs,H1,I1,r,z,q⟩=>⟨by rw [← r.length];exact z,?_⟩);have hf:H1 s1.heap.objs.size=none:=I1.hok.fresh (Fn _);refine ⟨.ref s1.heap.objs.size,upd H1 s1.heap.objs.size (.tup xs),I1.laid (t':=s1.toks) (fun b u e=>Fb _ e) (Fn _) ?_,rfl,q _ hf⟩;exact ⟨z,us,r,⟨_,Fo _ rfl,rfl,_,rfl⟩⟩
theorem L9(h:PA X es t):PE X (.List es pos) (J45 t):=by
 intro pins s σ H Q I hq;refine wpAny_List_spliced (thn (h pos pins s σ H _ I hq) fun us s1 ⟨xs,H1,I1,r,z,q⟩=>⟨by rw [← r.length];exact z,?_⟩);have hf:H1 s1.heap.objs.size=none:=I1.hok.fresh (Fn _);refine ⟨.ref s1.heap.objs.size,upd H1 s1.heap.objs.size (.lst xs),I1.laid (t':=s1.toks) (fun b u e=>Fb _ e) (Fn _) ?_,rfl,q _ hf⟩;exact ⟨z,us,0,r,Fo _ rfl⟩
end
abbrev Sp:=List V→Hp→VK→XK→Prop
abbrev CXT:=List Env→Hp→Shared→XK→Value→Shared→Prop
structure Ez(P:Program)(w:World)(K:PySem.W.Frag)(mg:Str→Option Value)(base:Heap)(A:Around)(outer:List Env)(s:Shared)(H:Hp):Prop where
 frames:A.frames=some outer
 mod:Mod K mg base
 bs:∀b o,base.get? b=some o→s.heap.get? b=some o∧H b=none
 bsz:base.objs.size≤s.heap.objs.size
 funs:s.heap.FunFrames base outer
 frf:∀b∈frs outer,H b=none
 hok:HOk P w H s.heap
 bare:AllBare s.gens
def CE(outer:List Env)(P:Program)(w:World)(H:Hp)(s:Shared)(Q:VK)(u:Value)(s':Shared):Prop:=
 ∃v H',s'.os=s.os∧AllBare s'.gens∧Un (frs outer) [] H H' s.heap s'.heap∧HOk P w H' s'.heap∧Ab v u∧Q v H'
def CR(CX:CXT)(outer:List Env)(P:Program)(w:World)(H:Hp)(s:Shared)(Q:VK)(E:XK)(r:Result)(s':Shared):Prop:=
 match r with
 | .ok (.ret u)=>CE outer P w H s Q u s'
 | .ok _=>False
 | .error e=>CX outer H s E e s'
structure B2(P:Program)(w:World)(K:PySem.W.Frag)(mg:Str→Option Value)(base:Heap)(CX:CXT)(k:Nat)(f:Addr)(fd:FuncData)(ps:List Str)(sp:Sp):Prop where
 len:∀vs H Q E,sp vs H Q E→vs.length=ps.length
 run:∀(A:Around) (outer:List Env) (s:Shared) (H:Hp) (args:Args) (us:List Value) (vs:List V) (Q:VK) (E:XK),B0 k A→Ez P w K mg base A outer s H→BindsTo s fd args (ps.zip us)→Ag vs us→sp vs H Q E→
  codeAny (model P w) A (.call (.ref f) args) (CR CX outer P w H s Q E) s
theorem B2.mono{P:Program}{w:World}{K:PySem.W.Frag}{mg:Str→Option Value}{base:Heap}{CX:CXT}{j k:Nat}{f:Addr}{fd:FuncData}{ps:List Str}{sp:Sp}(F:B2 P w K mg base CX j f fd ps sp)(h:j≤k):
 B2 P w K mg base CX k f fd ps sp:=⟨F.len,fun A outer s H args us vs Q E hr=>F.run A outer s H args us vs Q E (hr.mono h)⟩
theorem Ez.make{P:Program}{w:World}{K:PySem.W.Frag}{mg:Str→Option Value}{base:Heap}{A:Around}{outer:List Env}{s:Shared}{H:Hp}(e:Ez P w K mg base A outer s H)(C:Addr)(us:List Value)(kw:List (Str×Value)):
 Ez P w K mg base (A.under (.builtin "type.__call__" ⟨.ref C::us,kw⟩)) outer s H:=⟨by first | exact e.frames | (simpa [Around.under,Code.envs,Code.isFrame,pushEnvs] using e.frames),e.mod,e.bs,e.bsz,e.funs,e.frf,e.hok,e.bare⟩
section
variable {X:Cx} {pins:List (Addr×Obj)} {σ:St} {H:Hp} {s s':Shared}
theorem Inv.env0(I:Inv X pins σ H s):Ez X.prog X.w X.K X.mg X.base X.A X.stack s H:=
 ⟨I.ok.frames,I.ok.mod,I.bs,FH I.ok.bsz I.sz,I.stack,I.stkFree,I.hok,I.bare⟩
theorem Inv.after{Q:VK}{u:Value}(I:Inv X pins σ H s)(h:CE X.stack X.prog X.w H s Q u s'):EP X pins σ Q u s':=by
 obtain ⟨v,H',os,bare,un,hok,r,q⟩:=h;obtain ⟨hh,g,d,t,os'⟩:=s';obtain rfl:os'=s.os:=os;exact ⟨v,H',I.call (h':=hh) (g':=g) (d':=d) (t':=t) (ch:=[]) un hok bare (fun b z=>absurd z (by simp)),r,q⟩
end
def J46(sp:Sp)(dvs:List V)(E:XK)(t:TA):TE:=fun σ H Q=>t σ H fun vs H1=>sp (vs++dvs) H1 Q E
def Bi(K:PySem.W.Frag)(fd:FuncData)(ps:List Str)(ds:List Value):Prop:=
 ∀(s:Shared) (us:List Value),K.In s.heap→(us++ds).length=ps.length→BindsTo s fd ⟨us,[]⟩ (ps.zip (us++ds))
theorem Bi.all{K:PySem.W.Frag}{fd:FuncData}{ps:List Str}(h:∀us:List Value,us.length=ps.length→bindArgs fd ⟨us,[]⟩=pure (ps.zip us)):Bi K fd ps []:=fun s us _ hl=>by
 rw [FF]at hl ⊢;exact .of_eq (h us hl)
def Cr(CX:CXT)(X:Cx)(E:XK):Prop:=∀(pins:List (Addr×Obj)) (σ:St) (H:Hp) (s:Shared) (e:Value) (s':Shared),Inv X pins σ H s→CX X.stack H s E e s'→X.xe e s'
section
variable {X:Cx} {CX:CXT} {k:Nat} {f C:Addr} {fd:FuncData} {ps:List Str} {sp:Sp} {dvs:List V} {ds:List Value} {E:XK} {x m:Str} {p pos apos:Pos} {e o:Expr} {es:List Expr} {ta:TE} {t:TA}
theorem J27{pins:List (Addr×Obj)}{σ:St}{H:Hp}{s:Shared}{Q:VK}{us:List Value}{vs:List V}(F:B2 X.prog X.w X.K X.mg X.base CX k f fd ps sp)(hr:B0 k X.A)(hb:Bi X.K fd ps ds)(hd:Ag dvs ds)(hx:Cr CX X E)
 (I:Inv X pins σ H s) (r:Ag vs us) (h:sp (vs++dvs) H Q E):wpAny (model X.prog X.w) X.A (call (.ref f) us) (EP X pins σ Q) X.xe s:=by
 have r2:Ag (vs++dvs) (us++ds):=r.append hd
 have hl:(us++ds).length=ps.length:=by rw [← r2.length];exact F.len _ _ _ _ h
 refine Hv (Hh (F.run X.A X.stack s H ⟨us,[]⟩ (us++ds) (vs++dvs) Q E hr I.env0 (hb s us I.kIn hl) r2 h) fun r s' hq=>?_)
 cases r with
 | error e=>exact hx pins σ H s e s' I hq
 | ok fl=>
  cases fl with
  | ret u=>exact I.after hq
  | next=>exact False.elim hq
  | brk=>exact False.elim hq
  | cont=>exact False.elim hq
theorem Xu(F:B2 X.prog X.w X.K X.mg X.base CX k f fd ps sp)(hr:B0 k X.A)(hg:Gl X x)(hm:X.mg x=some (.ref f))(hk:PySem.W.keepIn X.K (.ref f)=true)(hb:Bi X.K fd ps ds)(hd:Ag dvs ds)(hx:Cr CX X E)
 (ha:PA X (e::es) t) (hdb:(x==("__debug__":Str))=false:=by decide) (he:starEach (e::es) X.env=(false,eval e X.env)::starEach es X.env:=by rfl) (hpl:(backTo pos (starEach es X.env)).any (·.1)=false:=by rfl):
 PE X (.Call (.Name x p) (e::es) [] pos) (J46 sp dvs E t):=by
 intro pins s σ H Q I h;refine FU (C6 I hg hm ?_ hdb);refine Hc (h₀:=X.base) I.ok.mod.kin hk (thn (ha pos pins s σ H _ I h) fun us s1 ⟨vs,H1,I1,r,q⟩=>⟨I1.kIn,?_⟩) he hpl;exact J27 F hr hb hd hx I1 r q
structure Mk(K:PySem.W.Frag)(C f:Addr):Prop where
 makes:PySem.W.makesIn K C=true
 init:PySem.W.findIn K (.ref C) "__init__"=some (some (.ref f))
 fn:PySem.W.isFn K (.ref f)=true
 kp:PySem.W.keepIn K (.ref C)=true
end
structure Ah(N P:List Str)(sc:Scope):Prop where
 kind:sc.kind= .function
 co:sc.isCoroutine=false
 gen:sc.isGenerator=false
 nd:N.Nodup
 pre:N.take P.length=P
 par:∀x∈P,sc.names.lookup x=some .local∨sc.names.lookup x=some .cell
 nofree:∀y∈sc.names,y.2≠ .free
theorem Kd{kindOf:Str→Option NameKind}{x:Str}:∀{binds:List (Str×Value)} {m:Str→Option Value},(∀v,(x,v)∉binds)→bindL kindOf binds m x=m x
 | [],_,_=>rfl
 | (n,v)::r,m,h=>by
  unfold bindL;rw [Kd fun w hw=>h w (Fp _ hw)];split
  · have:x≠n:=by rintro rfl;exact h v Fq
    simp [this]
  · rfl
theorem Ke{kindOf:Str→Option NameKind}{x:Str}:∀{binds:List (Str×Value)} {m:Str→Option Value},(∀v,(x,v)∉binds)→bindC kindOf binds m x=m x
 | [],_,_=>rfl
 | (n,v)::r,m,h=>by
  unfold bindC;rw [Ke fun w hw=>h w (Fp _ hw)];split
  · rfl
  · have:x≠n:=by rintro rfl;exact h v Fq
    simp [this]
theorem Kf{kindOf:Str→Option NameKind}{x:Str}{v:Value}:∀{P:List Str} {vs:List Value} {i:Nat} {m:Str→Option Value},P.Nodup→P[i]?=some x→vs[i]?=some v→kindOf x=some .local→
 bindL kindOf (P.zip vs) m x=some v
 | [],_,_,_,_,h,_,_=>by simp at h
 | _::_,[],_,_,_,_,h,_=>by simp at h
 | p::P,w::vs,0,m,nd,h1,h2,hk=>by
  simp at h1 h2;subst h1;subst h2;show bindL kindOf ((p,w)::P.zip vs) m p=_;unfold bindL;rw [Kd fun v hv=>(FZ.mp nd).1 (HJ hv).1,if_pos hk];simp
 | p::P,w::vs,i+1,m,nd,h1,h2,hk=>by
  show bindL kindOf ((p,w)::P.zip vs) m x=_;unfold bindL;exact Kf (i:=i) (FZ.mp nd).2 (by simpa using h1) (by simpa using h2) hk
theorem Kg{kindOf:Str→Option NameKind}{x:Str}{v:Value}:∀{P:List Str} {vs:List Value} {i:Nat} {m:Str→Option Value},P.Nodup→P[i]?=some x→vs[i]?=some v→kindOf x≠some .local→
 bindC kindOf (P.zip vs) m x=some v
 | [],_,_,_,_,h,_,_=>by simp at h
 | _::_,[],_,_,_,_,h,_=>by simp at h
 | p::P,w::vs,0,m,nd,h1,h2,hk=>by
  simp at h1 h2;subst h1;subst h2;show bindC kindOf ((p,w)::P.zip vs) m p=_;unfold bindC;rw [Ke fun v hv=>(FZ.mp nd).1 (HJ hv).1,if_neg hk];simp
 | p::P,w::vs,i+1,m,nd,h1,h2,hk=>by
  show bindC kindOf ((p,w)::P.zip vs) m x=_;unfold bindC;exact Kg (i:=i) (FZ.mp nd).2 (by simpa using h1) (by simpa using h2) hk
def start(N:List Str)(vs:List V):St:=vs.map some++List.replicate (N.length - vs.length) none
def Dg(CX:CXT)(P:Program)(w:World)(K:PySem.W.Frag)(mg:Str→Option Value)(base:Heap)(N:List Str)(qual:Str)(scope:Scope)(f:Addr)(cd:Value)(A:Around)(outer:List Env)(s:Shared)(H:Hp)(E:XK):Cx where
 prog:=P
 w:=w
 K:=K
 mg:=mg
 base:=base
 A:=A.deeper (envOfC qual scope s.heap.objs.size f cd)
 N:=N
 s₀:=s
 H₀:=H
 env:=envOfC qual scope s.heap.objs.size f cd
 outer:=outer
 stack:=envOfC qual scope s.heap.objs.size f cd::outer
 ex:=[]
 calm:=true
 fn:=fun _=>true
 pn:=[]
 xe:=fun e s'=>wpAny (model P w) (A.deeper (envOfC qual scope s.heap.objs.size f cd)) (leaving (envOfC qual scope s.heap.objs.size f cd) e) (fun _ s''=>CX outer H s E e s'') (fun e' s''=>CX outer H s E e' s'') s'
theorem M4{sc:Scope}{n:Nat}{x:Str}(h:sc.names.lookup x=some .cell):∃c,(cellsFrom n sc.names []).lookup x=some c:=by
 have q:=PySem.W.cellsFrom_some sc.names n [] (.inl h);exact Option.isSome_iff_exists.mp q
theorem Sf{CX:CXT}{P:Program}{w:World}{K:PySem.W.Frag}{mg:Str→Option Value}{base:Heap}{N ps:List Str}{qual:Str}{scope:Scope}{f:Addr}{cd:Value}{A:Around}{outer:List Env}{s s1:Shared}{H:Hp}{E:XK}{us:List Value}{vs:List V}
 (S:Ah N ps scope) (hd:A.handled=none) (e0:Ez P w K mg base A outer s H) (hl:vs.length=ps.length) (r:Ag vs us)
 (x:InCallC s s.heap.objs.size (bindL (envOfC qual scope s.heap.objs.size f cd).kindOf (ps.zip us) fun _=>none) (cellsFrom (s.heap.objs.size+1) scope.names []) (bindC (envOfC qual scope s.heap.objs.size f cd).kindOf (ps.zip us) fun _=>none) s1):
 Inv (Dg CX P w K mg base N qual scope f cd A outer s H E) [] (start N vs) H s1:=by
 have hpl:ps.length≤N.length:=by have:=congrArg List.length S.pre;rw [FC]at this;omega
 obtain ⟨h1,tk,rfl,hk⟩:=x.done;have noA:∀b:Addr,b∉(Dg CX P w K mg base N qual scope f cd A outer s H E).ex:=fun b z=>absurd (show b∈([]:List Addr) from z) (by simp)
 refine ⟨⟨e0.mod,S.kind,rfl,rfl,Fn _,fun y z c h1 h2=>?_,fun y hy=>?_,fun y c _ h=>?_,fun _=>hd,Around.frames_deeper e0.frames,.inr ⟨rfl,rfl⟩,fun b z=>absurd z (noA b),e0.bs,e0.bsz,fun b _ _=>noA b,fun b z=>absurd z (noA b),e0.funs,e0.frf⟩,
  rfl,e0.bare,Un.kept hk,⟨_,x.toInCall.ns,fun i y v h1 h2 h3=>?_⟩,fun y c h=>⟨_,x.cell y c h⟩,e0.hok.fresh (Fn _),fun y c h=>?_,fun p hp=>absurd (show p∈([]:List (Addr×Obj)) from hp) (by simp),e0.hok.kept hk,?_⟩
 · exact name_of_addr x.apart (Ft h1) (Ft h2)
 · have hy:scope.names.lookup y=some .cell∨scope.names.lookup y=some .free:=hy
   rcases hy with hy | hy
   · exact M4 hy
   · exact absurd rfl (S.nofree _ (Ft hy))
 · exact HM (x.above y c (Ft h))
 · have hi:i < vs.length:=by
    unfold start at h2
    by_cases hi:i < vs.length
    · exact hi
    · rw [Fv (by simpa using hi)]at h2
      rw [List.getElem?_replicate]at h2
      split at h2 <;> cases h2
   have ha:vs[i]?=some v:=by
    unfold start at h2;rw [Fs (by simpa using hi),Fm]at h2
    cases e:vs[i]? with
    | none=>rw [e]at h2;cases h2
    | some a=>rw [e]at h2;cases h2;rfl
   obtain ⟨u,hu,rv⟩:=r.get ha
   have hp:ps[i]?=some y:=by
    rw [← S.pre,List.getElem?_take_of_lt (by omega)];exact h1
   have ndP:ps.Nodup:=by rw [← S.pre];exact S.nd.sublist (List.take_sublist _ _)
   refine ⟨u,rv,?_⟩;rcases S.par y (Fk hp) with k | k
   · exact .inl ⟨k,Kf ndP hp hu k⟩
   · obtain ⟨c,e⟩:=M4 (n:=s.heap.objs.size+1) k
     refine .inr ⟨.inl k,c,e,?_⟩;have q:=x.cell y c e;rw [Kg ndP hp hu (by show scope.names.lookup y≠_;rw [k];decide)]at q;exact q
 · exact e0.hok.fresh (HM (x.above y c (Ft h)))
 · unfold start
   show _=N.length;rw [Fx,Fa,List.length_replicate];omega
theorem J0l{CX:CXT}{P:Program}{w:World}{K:PySem.W.Frag}{mg:Str→Option Value}{base:Heap}{k:Nat}{f:Addr}{name qual:Str}{params:Arguments}{body:List Stmt}{scope:Scope}{dV kV doc pm cdv ct oc:Value}{an od:Option Addr}
 {osl:Array (Option Value)} {N ps:List Str} {sp:Sp} (lk:K.lookup f=some ⟨oc,od,.func (PySem.W.fnOf name qual params body scope dV kV doc pm an cdv ct),osl⟩) (hcd:PySem.W.codeIn K cdv qual=true) (S:Ah N ps scope)
 (len:∀vs H Q E,sp vs H Q E→vs.length=ps.length)
 (hbody:∀(A:Around) (outer:List Env) (s:Shared) (H:Hp) (vs:List V) (Q:VK) (E:XK),B0 k (A.deeper (envOfC qual scope s.heap.objs.size f cdv))→sp vs H Q E→
  ∃t,PSs (Dg CX P w K mg base N qual scope f cdv A outer s H E) body t∧t {nx:=fun _ H'=>Q .non H',rt:=Q} (start N vs) H):
 B2 P w K mg base CX (k+1) f (PySem.W.fnOf name qual params body scope dV kV doc pm an cdv ct) ps sp:=by
 refine ⟨len,fun A outer s H args us vs Q E hr e0 hb r hsp=>?_⟩;have hl:=len _ _ _ _ hsp;have KX:K.In s.heap:=e0.mod.kin.keeps fun b o e=>(e0.bs b o e).1;have lim:s.heap.NoLimit:=e0.mod.nolimit.keeps fun b o e=>(e0.bs b o e).1
 have hkind:∀y∈ps.zip us,scope.names.lookup y.1=some .local∨(scope.names.lookup y.1=some .cell∧((cellsFrom (s.heap.objs.size+1) scope.names []).lookup y.1).isSome=true):=fun ⟨n,v⟩ hy=>by
  rcases S.par n (HJ hy).1 with q | q
  · exact .inl q
  · exact .inr ⟨q,PySem.W.cellsFrom_some _ _ _ (.inl q)⟩
 refine codeAny_call_function hr.depth (KX _ _ lk) rfl S.co S.gen rfl (PySem.W.codeRec_of KX hcd) (hb _ _ _ _ ?_);refine wpAny_newFunctionEnv_cells S.kind hkind fun env he s1 x=>?_;subst he;refine ⟨lim.keeps x.toInCall.keep,codeAny_func ?_⟩;obtain ⟨t,ht,hq⟩:=hbody A outer s H vs Q E (hr.deeper _) hsp;have I:Inv (Dg CX P w K mg base N qual scope f cdv A outer s H E) [] (start N vs) H s1:=Sf S hr.hd e0 hl r x;refine FE (ht [] s1 (start N vs) H _ I hq) (fun fl s' hs=>?_) fun e s' hs=>hs
 have fin:∀{σ':St} {H':Hp} {v:V} {u:Value},Inv (Dg CX P w K mg base N qual scope f cdv A outer s H E) [] σ' H' s'→Ab v u→Q v H'→CE outer P w H s Q u s':=
  fun {σ' H' v u} J rv q=>⟨v,H',J.os,J.bare,J.base,J.hok,rv,q⟩
 cases fl with
 | ret u=>
  obtain ⟨v,σ',H',J,rv,q⟩:=hs;exact fin J rv q
 | next=>
  obtain ⟨σ',H',J,q⟩:=hs;exact fin (v:=V.non) (u:=Value.none) J rfl q
 | brk=>
  obtain ⟨_,_,_,q⟩:=hs;exact False.elim q
 | cont=>
  obtain ⟨_,_,_,q⟩:=hs;exact False.elim q
end L2
namespace L2
section
variable {X:Cx} {x:Str} {p pos:Pos} {e:Expr} {es:List Expr} {t:TA} {id T:String} {r:List V→Hp→VK→Prop}
def tCB(r:List V→Hp→VK→Prop)(t:TA):TE:=fun σ H Q=>t σ H fun vs H1=>r vs H1 Q
theorem Af(hc:E7 X (.builtin id) r)(hg:Gl X x)(hm:X.mg x=none)(hv:bootBuiltins x=some (.builtin id))(ha:PA X (e::es) t)(hn:x≠"__name__":=by decide)(hdb:(x==("__debug__":Str))=false:=by decide)
 (he:starEach (e::es) X.env=(false,eval e X.env)::starEach es X.env:=by rfl) (hpl:(backTo pos (starEach es X.env)).any (·.1)=false:=by rfl):PE X (.Call (.Name x p) (e::es) [] pos) (tCB r t):=by
 intro pins s σ H Q I h;refine FU (L5 I hg hm hv ?_ hn hdb);exact PyProof.Rows.callWith_builtin1 (thn (ha pos pins s σ H _ I h) fun us s1 ⟨vs,H1,I1,r1,q1⟩=>hc pins s1 σ H1 vs us Q I1 r1 q1) he hpl
theorem Kh(hc:E7 X (.type T) r)(hg:Gl X x)(hm:X.mg x=none)(hv:bootBuiltins x=some (.type T))(ha:PA X (e::es) t)(hn:x≠"__name__":=by decide)(hdb:(x==("__debug__":Str))=false:=by decide)
 (he:starEach (e::es) X.env=(false,eval e X.env)::starEach es X.env:=by rfl) (hpl:(backTo pos (starEach es X.env)).any (·.1)=false:=by rfl):PE X (.Call (.Name x p) (e::es) [] pos) (tCB r t):=by
 intro pins s σ H Q I h;refine FU (L5 I hg hm hv ?_ hn hdb);exact PyProof.Rows.callWith_type1 (thn (ha pos pins s σ H _ I h) fun us s1 ⟨vs,H1,I1,r1,q1⟩=>hc pins s1 σ H1 vs us Q I1 r1 q1) he hpl
end
end L2
namespace HT
open PySem PyProof.Rows
section
variable {prog:Program} {w:World} {A:Around} {E:Value→Shared→Prop} {s:Shared}
def sIx(n d:Nat):Option Int→Nat
 | none=>d
 | some v=>if v < 0 then (v+(n:Int)).toNat else min v.toNat n
theorem P3(n d k:Nat):sIx n d (some (k:Int))=min k n:=by
 show (if (k:Int) < 0 then ((k:Int)+(n:Int)).toNat else min (k:Int).toNat n)=min k n;rw [if_neg (by omega),Int.toNat_natCast]
end
end HT
namespace L2
abbrev TO:=St→Hp→(Option Int→Hp→Prop)→Prop
def PO(X:Cx)(e:Option Expr)(t:TO):Prop:=
 ∀(pins:List (Addr×Obj)) (s:Shared) (σ:St) (H:Hp) (Q:Option Int→Hp→Prop),Inv X pins σ H s→t σ H Q→
   wpAny (model X.prog X.w) X.A (evalPart e X.env) (fun u s'=>∃o H',Inv X pins σ H' s'∧IsPart u o∧Q o H') X.xe s
def P4:TO:=fun _ H Q=>Q none H
def J0m(t:TE):TO:=fun σ H Q=>t σ H fun x H1=>∃i,x= .int i∧Q (some i) H1
section
variable {X:Cx} {e:Expr} {te:TE} {lo hi:Option Expr} {tl th:TO} {pos p2:Pos}
theorem Gj:PO X none P4:=by
 intro pins s σ H Q I h;rw [evalPart_none];exact Fu ⟨none,H,I,.none,h⟩
theorem Dt(h:PE X e te):PO X (some e) (J0m te):=by
 intro pins s σ H Q I hw;rw [evalPart_some];refine thn (h pins s σ H _ I hw) fun u s1 hq_=>?_;obtain ⟨x,H1,I1,r1,q1⟩:=hq_;obtain ⟨i,rfl,q⟩:=q1;obtain ⟨t,rfl⟩:=r1;exact ⟨some i,H1,I1,.int i t,q⟩
def SlR(X:Cx)(r:V→Option Int→Option Int→Hp→VK→Prop):Prop:=
 ∀(pins:List (Addr×Obj)) (s:Shared) (σ:St) (H:Hp) (x:V) (v vl vu:Value) (lo hi:Option Int) (sl:Addr) (Q:VK),Inv X pins σ H s→Ab x v→s.heap.IsSliceOf sl vl vu .none→IsPart vl lo→IsPart vu hi→r x lo hi H Q→
   ∃T id,typeLookup (.type T) "__getitem__"=pure (some (.builtin id))∧s.TypeIs v T∧wpAny (model X.prog X.w) X.A (getItem v (.ref sl)) (EP X pins σ Q) X.xe s
def tSl(r:V→Option Int→Option Int→Hp→VK→Prop)(te:TE)(tl th:TO):TE:=fun σ H Q=>te σ H fun x H1=>tl σ H1 fun l H2=>th σ H2 fun u H3=>r x l u H3 Q
theorem Dh{r:V→Option Int→Option Int→Hp→VK→Prop}(hr:SlR X r)(he:PE X e te)(hl:PO X lo tl)(hu:PO X hi th):PE X (.Subscript e (.Slice lo hi none p2) pos) (tSl r te tl th):=by
 intro pins s σ H Q I h;refine Subscript_ (thn (he pins s σ H _ I h) fun v s1 hq_=>?_);obtain ⟨x,H1,I1,r1,q1⟩:=hq_;refine wpAny_Slice (thn (hl pins s1 σ H1 _ I1 q1) fun vl s2 ⟨l,H2,I2,pl,q2⟩=>thn (hu pins s2 σ H2 _ I2 q2) fun vu s3 hq_=>?_);obtain ⟨u,H3,I3,pu,q3⟩:=hq_;rw [evalPart_none];refine Fu ?_;have I4:Inv X pins σ H3 {s3 with heap:=s3.heap.push {cls:= .type "slice",data:= .fields #[vl,vu,.none]}}:=I3.kept (t':=s3.toks) fun b ob q=>Fb _ q;obtain ⟨T,id,hT,ht,hg⟩:=hr pins {s3 with heap:=s3.heap.push {cls:= .type "slice",data:= .fields #[vl,vu,.none]}} σ H3 x v vl vu l u s3.heap.objs.size Q I4 r1 (Heap.IsSliceOf.new ..) pl pu q3;show wpAny (model X.prog X.w) X.A (subscriptTail e (.Slice lo hi none p2) v (.ref s3.heap.objs.size)) (EP X pins σ Q) X.xe {s3 with heap:=s3.heap.push {cls:= .type "slice",data:= .fields #[vl,vu,.none]}};exact tail_any (ops:=[.ref s3.heap.objs.size,v]) ht hT hg (by with_unfolding_all rfl)
def Eb(xs:List V)(lo hi:Option Int):List V:=(xs.drop (HT.sIx xs.length 0 lo)).take (HT.sIx xs.length xs.length hi - HT.sIx xs.length 0 lo)
theorem M6(xs:List V)(lo hi:Option Int):(Eb xs lo hi).length≤xs.length:=by
 unfold Eb;rw [FC,Rp];omega
end
end L2
namespace L2
def ixN(n:Nat)(i:Int):Option Nat:=if 0≤i then (if i < n then some i.toNat else none) else if -(n:Int)≤i then some (i+n).toNat else none
def atI{α:Type}(xs:List α)(i:Int):Option α:=(ixN xs.length i).bind fun j=>xs[j]?
theorem P5{n:Nat}{i:Int}{j:Nat}(h:ixN n i=some j):seqIndex? i n=some j∧j < n∧-(n:Int)≤i∧i < n:=by
 unfold ixN at h
 by_cases h0:0≤i
 · rw [if_pos h0]at h
   by_cases h1:i < n
   · rw [if_pos h1]at h
     have e:i.toNat=j:=FM h;exact ⟨by rw [seqIndex_of h0 h1,e],by omega,by omega,h1⟩
   · rw [if_neg h1]at h;cases h
 · rw [if_neg h0]at h
   by_cases h1:-(n:Int)≤i
   · rw [if_pos h1]at h
     have e:(i+n).toNat=j:=FM h;exact ⟨by rw [seqIndex_neg (by omega) h1,e],by omega,h1,by omega⟩
   · rw [if_neg h1]at h;cases h
theorem La{α:Type}{xs:List α}{i:Int}{v:α}(h:atI xs i=some v):∃j,seqIndex? i xs.length=some j∧xs[j]?=some v∧j < xs.length∧-(xs.length:Int)≤i∧i < xs.length:=by
 unfold atI at h
 cases e:ixN xs.length i with
 | none=>rw [e]at h;cases h
 | some j=>
  rw [e]at h;obtain ⟨h1,h2,h3,h4⟩:=P5 e;exact ⟨j,h1,h,h2,h3,h4⟩
theorem Lb{α:Type}{xs:List α}{j:Nat}{v:α}(h:xs[j]?=some v):atI xs (j:Int)=some v:=by
 have hj:j < xs.length:=(Fi.mp h).1
 have e:ixN xs.length (j:Int)=some j:=by
  unfold ixN;rw [if_pos (by omega),if_pos (by omega)];simp
 unfold atI;rw [e];exact h
def Xv(b:Expr):Prop:=∀o i,subscripted b false o i=operate [o,i] (getItem o i)
def IxR(X:Cx)(r:R2):Prop:=
 ∀(value slice:Expr) (pins:List (Addr×Obj)) (s:Shared) (σ:St) (H:Hp) (x y:V) (v u:Value) (Q:VK),Inv X pins σ H s→Ab x v→Ab y u→r x y H Q→
   subscripted slice false v u=operate [v,u] (getItem v u)→wpAny (model X.prog X.w) X.A (subscriptTail value slice v u) (EP X pins σ Q) X.xe s
def MtR(X:Cx)(id:String)(r:V→List V→Hp→VK→Prop):Prop:=
 ∀(pins:List (Addr×Obj)) (s:Shared) (σ:St) (H:Hp) (x:V) (xs:List V) (v:Value) (us:List Value) (Q:VK),Inv X pins σ H s→Ab x v→Ag xs us→r x xs H Q→
   wpAny (model X.prog X.w) X.A (call (.builtin id) (v::us)) (EP X pins σ Q) X.xe s
section
variable {X:Cx} {a b:Expr} {ta tb:TE} {pos:Pos}
theorem C7{r:R2}(hr:IxR X r)(ha:PE X a ta)(hb:PE X b tb)(hs:Xv b):PE X (.Subscript a b pos) (tOp r ta tb):=by
 intro pins s σ H Q I h;exact Subscript_ (J23 ha hb I h fun v u s2 x y H2 I2 rx ry q=>hr a b pins s2 σ H2 x y v u Q I2 rx ry q (hs _ _))
def J47(K:PySem.W.Frag):R2:=fun x y H Q=>∃p xs i v,x= .ref p∧y= .int i∧SqL K H p xs∧atI xs i=some v∧Q v H
def J28(K:PySem.W.Frag):R2:=fun x y H Q=>∃p xs i v,x= .ref p∧y= .int i∧SqT K H p xs∧atI xs i=some v∧Q v H
def J48:R2:=fun x y H Q=>∃z i c,x= .str z∧y= .int i∧z.length≤sizeLine∧atI z.cps.toList i=some c∧Q (.str ⟨#[c]⟩) H
theorem C8:IxR X (J47 X.K):=by
 intro value slice pins s σ H x y v u Q I rx ry h hs;obtain ⟨p,xs,i,z,rfl,rfl,hq,he,q⟩:=h;cases rx;obtain ⟨t,rfl⟩:=ry;obtain ⟨its,r,pl,hz⟩:=I.list hq;obtain ⟨j,h1,h2,h3,h4,h5⟩:=La he;obtain ⟨w,ew,rw'⟩:=r.get h2;have hl:=r.length;have hn:=Ew
 have fin:EP X pins σ Q w s:=⟨z,H,I,rw',q⟩
 by_cases h0:0≤i
 · have hj:i.toNat=j:=by
    rw [seqIndex_of h0 h5]at h1;exact FM h1
   exact item_listR pl.isList h0 (by omega) (by rw [hj];simpa using ew) fin hs
 · have hj:(i+(its.toArray.size:Int)).toNat=j:=by
    rw [seqIndex_neg (by omega) h4]at h1;rw [Fl,← hl];exact FM h1
   exact subscriptTail_builtinR (x:=w) pl.isList.typeIs slot_list_getitem.lookup
    (wpAny_getItem_list_neg (Q:=fun r s'=>r=w∧EP X pins σ Q r s') pl.isList (by omega) (by rw [Fl] <;> omega) (by omega) (by rw [hj];simpa using ew) ⟨rfl,fin⟩) hs
theorem Lc:IxR X (J28 X.K):=by
 intro value slice pins s σ H x y v u Q I rx ry h hs;obtain ⟨p,xs,i,z,rfl,rfl,hq,he,q⟩:=h;cases rx;obtain ⟨t,rfl⟩:=ry;obtain ⟨its,r,pl,hz⟩:=I.tuple hq;obtain ⟨j,h1,h2,h3,h4,h5⟩:=La he;obtain ⟨w,ew,rw'⟩:=r.get h2;have hl:=r.length;have hn:=Ew
 have fin:EP X pins σ Q w s:=⟨z,H,I,rw',q⟩
 exact subscriptTail_builtinR (x:=w) pl.typeIs slot_tuple_getitem.lookup
  (getItem_tuple (j:=j) (Q:=fun r s'=>r=w∧EP X pins σ Q r s') pl (by omega) (by omega) (by rw [Fl,← hl];exact h1) (by simpa using ew) ⟨rfl,fin⟩) hs
theorem Ts:IxR X J48:=by
 intro value slice pins s σ H x y v u Q I rx ry h hs;obtain ⟨z,i,c,rfl,rfl,hz,he,q⟩:=h;obtain ⟨t,rfl⟩:=rx;obtain ⟨t',rfl⟩:=ry;obtain ⟨j,h1,h2,h3,h4,h5⟩:=La he
 have hl:z.cps.toList.length=z.length:=by simp [Str.length]
 rw [hl]at h1 h4 h5;have hn:=Ew
 exact tail_any (typeIs_str s z t) slot_str_getitem.lookup (getItem_str (c:=c) (by
  have e1:decide (i < -(2 ^ 63:Int))=false:=FB (by omega);have e2:decide (i ≥ 2 ^ 63)=false:=FB (by omega)
  rw [e1,e2,Bool.or_false]) (by rw [h1];simpa using h2) ⟨.str ⟨#[c]⟩,H,I.tok _,⟨_,rfl⟩,q⟩) hs
theorem Og(its:List Value)(n j:Nat)(u:Value):Obj.mapSeq (·.setIfInBounds j u) {cls:= .type "list",data:= .seq its.toArray n}={cls:= .type "list",data:= .seq (its.set j u).toArray n}:=by
 simp [Obj.mapSeq]
theorem Inv.lst{pins:List (Addr×Obj)}{σ:St}{H:Hp}{s:Shared}{p:Addr}{xs:List V}(I:Inv X pins σ H s)(h:H p=some (.lst xs)):
 ∃(its:List Value) (n:Nat),Ag xs its∧s.heap.get? p=some {cls:= .type "list",data:= .seq its.toArray n}∧xs.length≤sizeLine:=by
 obtain ⟨z,its,n,r,e⟩:=I.hok p _ h;exact ⟨its,n,r,e,z⟩
theorem Inv.lstUpd{pins:List (Addr×Obj)}{σ:St}{H:Hp}{s:Shared}{p:Addr}{xs ys:List V}{its its':List Value}{n n':Nat}{f:Obj→Obj}(I:Inv X pins σ H s)(h:H p=some (.lst xs))
 (ho:s.heap.get? p=some {cls:= .type "list",data:= .seq its.toArray n}) (hf:f {cls:= .type "list",data:= .seq its.toArray n}={cls:= .type "list",data:= .seq its'.toArray n'}) (r:Ag ys its') (hz:ys.length≤sizeLine) (t:Nat):
 Inv X pins σ (upd H p (.lst ys)) {s with heap:=s.heap.update p f,toks:=t}:=by
 have e:(s.heap.update p f).get? p=some {cls:= .type "list",data:= .seq its'.toArray n'}:=by
  rw [Hm f ho (by rw [hf] <;> rfl),hf]
 refine I.write (x:=p) (e:=p) (by rw [h];trivial) (.inl rfl) (fun b u hb q=>(FQ _ _ (Ne.symm hb)).trans q) ⟨_,e⟩ ?_;exact ⟨hz,its',n',r,e⟩
def J0n:V→V→V→Hp→(Hp→Prop)→Prop:=fun o i v H Q=>∃p xs k j,o= .ref p∧i= .int k∧H p=some (.lst xs)∧ixN xs.length k=some j∧Q (upd H p (.lst (xs.set j v)))
theorem Tt:J3t X J0n:=by
 intro pins s σ H o i v ov iv u Q I ro ri rv h;obtain ⟨p,xs,k,j,rfl,rfl,hp,hj,q⟩:=h;cases ro;obtain ⟨t,rfl⟩:=ri;obtain ⟨its,n,r,ho,hz⟩:=I.lst hp;obtain ⟨h1,h2,h3,h4⟩:=P5 hj;have hl:=r.length;have hn:=Ew
 have I':Inv X pins σ (upd H p (.lst (xs.set j v))) {s with heap:=s.heap.update p (Obj.mapSeq (·.setIfInBounds j u))}:=
  I.lstUpd hp ho (Og its n j u) (r.set rv j) (by rw [R8];exact hz) s.toks
 by_cases h0:0≤k
 · have hk:k.toNat=j:=by
    rw [seqIndex_of h0 h4]at h1;exact FM h1
   exact PySem.W.ki_setAt ho h0 (by omega) (by rw [Fl,← hl];exact h4) (by rw [hk];exact ⟨_,I',q⟩)
 · have hk:(k+(its.toArray.size:Int)).toNat=j:=by
    rw [seqIndex_neg (by omega) h3]at h1;rw [Fl,← hl];exact FM h1
   exact PySem.W.ki_setBack ho (by omega) (by rw [Fl,← hl];exact h3) (by omega) (by rw [hk];exact ⟨_,I',q⟩)
theorem Ld(lo hi:Option Int)(n:Nat):(sliceBounds lo hi none n).1=((HT.sIx n 0 lo:Nat):Int)∧(sliceBounds lo hi none n).2.1=((HT.sIx n n hi:Nat):Int)∧(sliceBounds lo hi none n).2.2=1:=by
 refine ⟨?_,?_,rfl⟩
 · cases lo with
   | none=>simp [sliceBounds,HT.sIx]
   | some i=>
    simp only [sliceBounds,HT.sIx,Option.getD_none,show (1:Int) > 0 by decide,if_true]
    by_cases h:i < 0
    · simp only [h,if_true] <;> omega
    · simp only [h,if_false] <;> omega
 · cases hi with
   | none=>simp [sliceBounds,HT.sIx]
   | some i=>
    simp only [sliceBounds,HT.sIx,Option.getD_none,show (1:Int) > 0 by decide,if_true]
    by_cases h:i < 0
    · simp only [h,if_true] <;> omega
    · simp only [h,if_false] <;> omega
theorem K2(its:List Value)(lo hi:Option Int):slicePick its.toArray lo hi none=((its.drop (HT.sIx its.length 0 lo)).take (HT.sIx its.length its.length hi - HT.sIx its.length 0 lo)).toArray:=by
 obtain ⟨h1,h2,h3⟩:=Ld lo hi its.toArray.size;unfold slicePick;rw [h1,h2,h3]
 simp only [sliceRange_one,pick_run,Fl] <;> rfl
def J49(K:PySem.W.Frag):V→Option Int→Option Int→Hp→VK→Prop:=fun x lo hi H Q=>∃a xs,x= .ref a∧SqL K H a xs∧∀p,H p=none→Q (.ref p) (upd H p (.lst (Eb xs lo hi)))
theorem Ec:SlR X (J49 X.K):=by
 intro pins s σ H x v vl vu lo hi sl Q I rx hs pl pu h;obtain ⟨a,xs,rfl,hx,q⟩:=h;cases rx;obtain ⟨its,r,ht,hz⟩:=I.list hx;have hlen:=r.length;refine ⟨"list",_,slot_list_getitem.lookup,ht.isList.typeIs,?_⟩
 refine wpAny_getItem_list_slice ht.isList hs pl pu .none (by simp) ?_ (by rw [Fl] <;> omega)
 rw [K2,← hlen];refine ⟨.ref s.heap.objs.size,_,I.laid (t':=s.toks) (o:= .lst (Eb xs lo hi)) (fun b ob q=>Fb _ q) (Fn _) ?_,rfl,q _ (I.hok.fresh (Fn _))⟩;exact ⟨FH (M6 xs lo hi) hz,_,0,(r.drop (HT.sIx xs.length 0 lo)).take (HT.sIx xs.length xs.length hi - HT.sIx xs.length 0 lo),Fo _ rfl⟩
def C9:V→Bool
 | .non=>true
 | .bl _=>true
 | .int _=>true
 | .str _=>true
 | _=>false
def eqV:V→V→Bool
 | .non,.non=>true
 | .bl a,.bl b=>a==b
 | .bl a,.int b=>(if a then 1 else 0)==b
 | .int a,.bl b=>a==(if b then 1 else 0)
 | .int a,.int b=>a==b
 | .str a,.str b=>a==b
 | _,_=>false
theorem Tu{A:Around}{s:Shared}{y x:V}{u v:Value}(ry:Ab y u)(rx:Ab x v)(fy:C9 y=true)(fx:C9 x=true):SeqAt.EqAt A s u v (eqV y x):=by
 cases y with
 | non=>
  cases ry
  cases x with
  | non=>cases rx;exact SeqAt.EqAt.same _
  | bl b=>cases rx;exact SeqAt.EqAt.none_bool b
  | int b=>obtain ⟨t,rfl⟩:=rx;exact SeqAt.EqAt.none_int b t
  | str b=>obtain ⟨t,rfl⟩:=rx;exact SeqAt.EqAt.none_str b t
  | _=>exact absurd (show false=true from fx) FG
 | bl a=>
  cases ry
  cases x with
  | non=>cases rx;exact SeqAt.EqAt.bool_none a
  | bl b=>cases rx;exact SeqAt.EqAt.bool_bool a b
  | int b=>obtain ⟨t,rfl⟩:=rx;exact SeqAt.EqAt.bool_int a b t
  | str b=>obtain ⟨t,rfl⟩:=rx;exact SeqAt.EqAt.bool_str a b t
  | _=>exact absurd (show false=true from fx) FG
 | int a=>
  obtain ⟨t',rfl⟩:=ry
  cases x with
  | non=>cases rx;exact SeqAt.EqAt.int_none a t'
  | bl b=>cases rx;exact SeqAt.EqAt.int_bool a t' b
  | int b=>obtain ⟨t,rfl⟩:=rx;exact SeqAt.EqAt.int_int a t' b t
  | str b=>obtain ⟨t,rfl⟩:=rx;exact SeqAt.EqAt.int_str a t' b t
  | _=>exact absurd (show false=true from fx) FG
 | str a=>
  obtain ⟨t',rfl⟩:=ry
  cases x with
  | non=>cases rx;exact SeqAt.EqAt.str_none a t'
  | bl b=>cases rx;exact SeqAt.EqAt.str_bool a t' b
  | int b=>obtain ⟨t,rfl⟩:=rx;exact SeqAt.EqAt.str_int a t' b t
  | str b=>obtain ⟨t,rfl⟩:=rx;exact SeqAt.EqAt.str_str a t' b t
  | _=>exact absurd (show false=true from fx) FG
 | _=>exact absurd (show false=true from fy) FG
theorem Ay:E7 X (.builtin "len") (fun xs H Q=>∃p ys,xs=[.ref p]∧(SqL X.K H p ys∨SqT X.K H p ys)∧Q (.int ys.length) H):=by
 intro pins s σ H xs us Q I r h;obtain ⟨p,ys,rfl,hq,q⟩:=h;obtain ⟨u,rfl,rx⟩:=Ga r;cases rx;have hn:=Ew;rcases hq with hq | hq
 · obtain ⟨its,r',pl,hz⟩:=I.list hq
   have hlen:=r'.length
   exact Calls.call_len_list pl.isList (by simp only [Fl] <;> omega) ⟨.int ys.length,H,I.tok _,⟨s.toks+1,by rw [Fl,hlen]⟩,q⟩
 · obtain ⟨its,r',pl,hz⟩:=I.tuple hq
   have hlen:=r'.length
   exact len_tuple pl (by simp only [Fl] <;> omega) ⟨.int ys.length,H,I.tok _,⟨s.toks+1,by rw [Fl,hlen]⟩,q⟩
theorem Ct:E7 X (.builtin "len") (fun xs H Q=>∃z,xs=[.str z]∧z.length≤sizeLine∧Q (.int z.length) H):=by
 intro pins s σ H xs us Q I r h;obtain ⟨z,rfl,hz,q⟩:=h;obtain ⟨u,rfl,t,rfl⟩:=Ga r;have hn:=Ew;exact len_str (by omega) ⟨.int z.length,H,I.tok _,⟨_,rfl⟩,q⟩
theorem Le:E7 X (.type "list") (fun xs H Q=>∃p ys,xs=[.ref p]∧(SqL X.K H p ys∨SqT X.K H p ys)∧∀l,H l=none→Q (.ref l) (upd H l (.lst ys))):=by
 intro pins s σ H xs us Q I r h;obtain ⟨p,ys,rfl,hq,q⟩:=h;obtain ⟨u,rfl,rx⟩:=Ga r;cases rx
 have fin:∀(its:List Value),Ag ys its→ys.length≤sizeLine→∀(h':Heap) (c':Nat),(∀b o',s.heap.get? b=some o'→h'.get? b=some o')→
  h'.get? s.heap.objs.size=some {cls:= .type "list",dict:=none,data:= .seq its.toArray c',slots:=#[]}→EP X pins σ Q (.ref s.heap.objs.size) {s with heap:=h'}:=fun its r' hz h' c' kp e=>
  ⟨.ref s.heap.objs.size,_,I.laid (t':=s.toks) kp (Fn _) (show Ak X.prog X.w _ h' _ (.lst ys) from ⟨hz,its,c',r',e⟩),rfl,q _ (I.hok.fresh (Fn _))⟩
 rcases hq with hq | hq
 · obtain ⟨its,r',pl,hz⟩:=I.list hq
   have hlen:=r'.length;obtain ⟨o,ho,hc,n,hd⟩:=pl.isList
   exact call_list_seq p (.inl rfl) ho hc hd (fun h' c' kp e=>fin its r' hz h' c' kp e) (by simp only [Fl] <;> omega)
 · obtain ⟨its,r',pl,hz⟩:=I.tuple hq
   have hlen:=r'.length;obtain ⟨o,ho,hc,n,hd⟩:=pl
   exact call_list_seq p (.inr rfl) ho hc hd (fun h' c' kp e=>fin its r' hz h' c' kp e) (by simp only [Fl] <;> omega)
def tyV(K:PySem.W.Frag)(T:String)(x:V)(H:Hp):Prop:=match x with
 | .str _=>T="str"
 | .int _=>T="int"
 | .ref p=>(T="list"∧∃xs,SqL K H p xs)∨(T="tuple"∧∃o,K.lookup p=some o∧o.cls= .type "tuple"∧o.dict=none)∨
  (T="dict"∧((∃kvs,H p=some (.dK kvs))∨∃kvs,H p=some (.dT kvs)))∨(T="set"∧∃S n,H p=some (.set S n))
 | _=>False
theorem Tv{pins:List (Addr×Obj)}{σ:St}{H:Hp}{s:Shared}{T:String}{x:V}{v:Value}(I:Inv X pins σ H s)(r:Ab x v)(ty:tyV X.K T x H):
 s.TypeIs v T∧∀a,v= .ref a→∃ob,s.heap.get? a=some ob∧ob.dict=none:=by
 cases x with
 | str z=>
  obtain ⟨t,rfl⟩:=r;cases (show T="str" from ty);exact ⟨typeIs_str s z t,fun _ e=>nomatch e⟩
 | int i=>
  obtain ⟨t,rfl⟩:=r;cases (show T="int" from ty);exact ⟨typeIs_int s i t,fun _ e=>nomatch e⟩
 | ref p=>
  cases r;rcases ty with ⟨rfl,xs,hq⟩ | ⟨rfl,o,hk,hc,hd⟩ | ⟨rfl,hk⟩ | ⟨rfl,S,n,hk⟩
  · obtain ⟨its,_,pl,_⟩:=I.list hq
    refine ⟨pl.isList.typeIs,fun a e=>?_⟩;cases e;obtain ⟨o,n,e,c,hd,_⟩:=pl;exact ⟨o,e,hd⟩
  · refine ⟨⟨o,I.kIn p o hk,hc⟩,fun a e=>?_⟩
    cases e;exact ⟨o,I.kIn _ o hk,hd⟩
  · have z:∃o,s.heap.get? p=some o∧o.ExactDict:=by
     rcases hk with ⟨kvs,hk⟩ | ⟨kvs,hk⟩
     · obtain ⟨_,_,_,_,o,_,_,e,ex,_⟩:=I.hok p _ hk
       exact ⟨o,e,ex⟩
     · obtain ⟨_,_,_,_,o,_,_,e,ex,_⟩:=I.hok p _ hk
       exact ⟨o,e,ex⟩
    obtain ⟨o,e,ex⟩:=z;refine ⟨⟨o,e,ex.1⟩,fun a e2=>?_⟩;cases e2;exact ⟨o,e,ex.2.1⟩
  · obtain ⟨o,_,_,_,e,ex,_⟩:=I.hok p _ hk
    refine ⟨⟨o,e,ex.1⟩,fun a e2=>?_⟩;cases e2;exact ⟨o,e,ex.2.1⟩
 | _=>exact False.elim ty
def J4a(K:PySem.W.Frag)(T:String)(r:V→List V→Hp→VK→Prop)(to:TE):TE:=fun σ H Q=>to σ H fun x H1=>tyV K T x H1∧r x [] H1 Q
def tBM(K:PySem.W.Frag)(T:String)(r:V→List V→Hp→VK→Prop)(to:TE)(t:TA):TE:=fun σ H Q=>to σ H fun x H1=>tyV K T x H1∧t σ H1 fun xs H2=>r x xs H2 Q
variable {o e:Expr} {es:List Expr} {to:TE} {t:TA} {name:Str} {apos cpos:Pos} {T id:String} {r:V→List V→Hp→VK→Prop}
theorem J29(pa:PlainAttrs T)(slot:Slot T name id)(hty:typeOf (.builtin id)=pure (.type "method_descriptor"))(hm:MtR X id r)(ho:PE X o to)
 (hbase:attributeBase o name X.env (eval o X.env)=eval o X.env:=by rfl) (hline:(apos.endLine==cpos.line)=true:=by rfl):PE X (.Call (.Attribute o name apos) [] [] cpos) (J4a X.K T r to):=by
 intro pins s σ H Q I h;refine wpAny_Call_method0_late hbase hline (thn (ho pins s σ H _ I h) fun v s1 hq_=>?_);obtain ⟨x,H1,I1,r1,ty,q1⟩:=hq_;obtain ⟨h1,h2⟩:=Tv I1 r1 ty;exact ⟨T,id,pa,slot,hty,h1,h2,Calls.callWith_builtin rfl (PySem.evalArgs_none (hm pins s1 σ H1 x [] v [] Q I1 r1 .nil q1))⟩
theorem Tw(pa:PlainAttrs T)(slot:Slot T name id)(hty:typeOf (.builtin id)=pure (.type "method_descriptor"))(hm:MtR X id r)(ho:PE X o to)(ha:PA X (e::es) t)
 (hbase:attributeBase o name X.env (eval o X.env)=eval o X.env:=by rfl)
 (hfew:((backTo cpos (starEach (e::es) X.env)).all (fun x=>!x.1) && (backToKw cpos (keywordEach [] X.env)).all (fun x=>x.1.isSome)
  && decide ((e::es).length+([]:List Keyword).length+(if ([]:List Keyword).isEmpty then 0 else 1) < 30))=true:=by rfl)
 (hline:(apos.endLine==cpos.line)=true:=by rfl) (hs:starEach (e::es) X.env=(false,eval e X.env)::starEach es X.env:=by rfl) (hplain:(backTo cpos (starEach es X.env)).any (·.1)=false:=by rfl):
 PE X (.Call (.Attribute o name apos) (e::es) [] cpos) (tBM X.K T r to t):=by
 intro pins s σ H Q I h;refine wpAny_Call_method_late hbase hfew hline rfl (thn (ho pins s σ H _ I h) fun v s1 hq_=>?_);obtain ⟨x,H1,I1,r1,ty,q1⟩:=hq_;obtain ⟨h1,h2⟩:=Tv I1 r1 ty;refine ⟨T,id,pa,slot,hty,h1,h2,?_⟩;have hA:=ha cpos pins s1 σ H1 _ I1 q1;rw [hs]at hA ⊢
 refine Calls.callWith_builtin (by show (false || (backTo cpos (starEach es X.env)).any (·.1))=false;rw [hplain] <;> rfl) (Calls.evalArgs_plain ?_)
 exact thn hA fun us s2 ⟨vs,H2,I2,r2,q2⟩=>hm pins s2 σ H2 x vs v us Q I2 r1 r2 q2
end
end L2
namespace L2
def MtM(X:Cx)(id:String)(r:V→List V→Hp→VK→Prop):Prop:=
 ∀(pins:List (Addr×Obj)) (s:Shared) (σ:St) (H:Hp) (x:V) (xs:List V) (v:Value) (us:List Value) (Q:VK),Inv X pins σ H s→Ab x v→Ag xs us→r x xs H Q→
   wpAny (model X.prog X.w) X.A (call (.builtin id) (v::us)) (EP X pins σ Q) X.xe s
theorem Ag.one:∀{x:V} {us:List Value},Ag [x] us→∃u,us=[u]∧Ab x u
 | _,_,.cons r .nil=>⟨_,rfl,r⟩
theorem Ag.zero:∀{us:List Value},Ag [] us→us=[]
 | _,.nil=>rfl
section
variable {X:Cx} {pins:List (Addr×Obj)} {σ:St} {H:Hp} {s:Shared} {l b:Addr} {xs ys zs:List V}
theorem Inv.lset{its its':List Value}{n:Nat}{f:Array Value→Array Value}{t':Nat}(I:Inv X pins σ H s)(hH:H l=some (.lst xs))
 (e:s.heap.get? l=some {cls:= .type "list",data:= .seq its.toArray n}) (hf:f its.toArray=its'.toArray) (hv:Ag ys its') (hz:ys.length≤sizeLine):
 Inv X pins σ (upd H l (.lst ys)) {s with heap:=s.heap.update l (Obj.mapSeq f),toks:=t'}:=by
 have q:=PySem.IsL.update e f;rw [hf]at q;refine I.write (x:=l) (e:=l) (by rw [hH];exact trivial) (.inl rfl) (fun b' u hb hu=>(FQ s.heap (Obj.mapSeq f) (Ne.symm hb)).trans hu) ⟨_,q⟩ ?_;exact ⟨hz,its',_,hv,q⟩
theorem Inv.fresh(I:Inv X pins σ H s):H s.heap.objs.size=none:=I.hok.fresh (Fn _)
theorem Inv.lstM(I:Inv X pins σ H s)(hH:H l=some (.lst xs)):xs.length≤sizeLine∧∃(its:List Value) (n:Nat),Ag xs its∧xs.length=its.length∧s.heap.get? l=some {cls:= .type "list",data:= .seq its.toArray n}:=by
 obtain ⟨z,its,n,r,e⟩:=I.hok l _ hH;exact ⟨z,its,n,r,r.length,e⟩
end
section
variable {X:Cx}
def Xw:V→List V→Hp→VK→Prop:=fun x vs H Q=>∃l xs y,x= .ref l∧vs=[y]∧H l=some (.lst xs)∧xs.length < sizeLine∧Q .non (upd H l (.lst (xs++[y])))
theorem Cg:MtM X "list.append" Xw:=by
 intro pins s σ H x vs v us Q I rx rv h;obtain ⟨l,xs,y,rfl,rfl,hH,hz,q⟩:=h;cases rx;obtain ⟨u,rfl,ru⟩:=rv.one;obtain ⟨z,its,n,r,hl,e⟩:=I.lstM hH;refine call_meets F.slot_list_append ⟨_,e,rfl⟩ F.entry_list_append (F.args_list_append_2 _ _) (PySem.list_append l its.toArray n u (by rw [Fl];omega)) ⟨e,?_⟩;refine ⟨.non,_,I.lset (its':=its++[u]) hH e (by simp) (r.append (.cons ru .nil)) ?_,rfl,q⟩;rw [Fx,HA];omega
def J2a:V→List V→Hp→VK→Prop:=fun x vs H Q=>∃l xs i k y,x= .ref l∧vs=[.int i]∧H l=some (.lst xs)∧-(2 ^ 63)≤i∧i < 2 ^ 63∧seqIndex? i xs.length=some k∧xs[k]?=some y∧Q y (upd H l (.lst (xs.eraseIdx k)))
end
end L2
namespace Att
open PySem PySem.W PySem.Calls PyProof.Rows
theorem Gf{P:Params}{h:Heap}:∀(ns:List Int) (vs:List Value),WellAll P h vs (ns.map WData.int)→IntsAre vs ns:=by
 intro ns
 induction ns with
 | nil=>
  intro vs w;rw [List.map_nil]at w;cases w;exact .nil
 | cons n ns ih=>
  intro vs w;rw [List.map_cons]at w
  cases w with
  | cons a b=>
   cases a;exact .cons _ _ (ih _ b)
theorem Sg{l:OpenLaw}{n:Nat}(hn:l.most=some n){P:Params}{h:Heap}{args:List WData}{vals:List Value}
 (hpre:l.row.toRowW.claim.pre args=true) (hwl:WellAll P h vals args):
 ∃a vs ns,vals=[Value.ref a]∧args=[WData.list (ns.map WData.int)]∧h.get? a=some {cls:= .type "list",data:= .seq vs.toArray}∧IntsAre vs ns∧ns.length≤n:=by
 have hsh:WShape.hasAll [] args [.list .int]=true:=(pre_splitW hpre).1;have hc:l.pre.holds [] {args:=args}=true:=(pre_splitW hpre).2;obtain ⟨d,r,rfl,h1,h2⟩:=hasAllW_cons hsh;obtain rfl:=hasAllW_nil h2;obtain ⟨xs,rfl,h3⟩:=hasW_list h1;obtain ⟨ns,rfl⟩:=items_int h3
 have hlen:ns.length≤n:=by
  unfold OpenLaw.pre at hc
  have h4:(WTm.not (.lt (.lit (.int (n:Int))) (.len (.arg 0)))).holds [] {args:=[.list (ns.map .int)]}=true:=by
   have h4:=(holds_andW hc).1;rw [hn]at h4;exact h4
  have h5:=condW_of h4 (w_not (w_lt w_lit (w_len_list (w_arg rfl))));rw [Fa]at h5;refine Ro fun q=>?_
  have q':(n:Int) < ((ns.length:Nat):Int):=by omega
  first
   | (rw [Fy q']at h5;exact absurd h5 (by decide))
   | (simp at h5;omega)
 cases hwl with
 | cons w1 w2=>
  cases w2
  cases w1 with
  | list ho hall=>exact ⟨_,_,ns,rfl,rfl,ho,Gf ns _ hall,hlen⟩
theorem Sh(l:OpenLaw)(args:List WData):l.row.toRowW.claim.post args (.bool true) args=true:=
 postW_of (r:=l.row.toRowW) (X:=(true==true))
  (show WShape.has [] (.bool true) .bool=true by first | rfl | decide | simp [WShape.has,WShape.arms,WShape.armsAll])
  (show (WTm.eq .res (.lit (.bool true))).value [] {args:=args,res:=some (.bool true),after:=args}=some (.bool (true==true)) from w_eq_bool (w_res rfl) w_lit) rfl
theorem Ma{l:OpenLaw}{n:Nat}{q:Program}{loose:List Str}{XP:(Str→Option Value)→Heap→Prop}{YP:World→Heap→Prop}{d:DefRec}
 (hn:l.most=some n) (hdf:d.params.defaults=[])
 (call:∀(w:World) (s₀ s₁:Shared) (mg mb:Str→Option Value) (fa:Addr) (o:Obj) (pm cd doc:Value) (a:Addr) (vs:List Value) (ns:List Int),
  Ground q loose [] XP w s₀ mg mb s₁.heap→YP w s₁.heap→
  s₁.heap.get? fa=some o→o.data= .func (docDef d.name d.params d.body d.scope pm cd doc)→s₁.heap.CodeRec cd d.name→mg d.name=some (.ref fa)→
  s₁.heap.get? a=some {cls:= .type "list",data:= .seq vs.toArray}→IntsAre vs ns→ns.length≤n→s₁.gens=#[]→
  codeAny (model l.prog w) callerA (.call (.ref fa) ⟨[.ref a],[]⟩) (fun r s'=>r= .ok (.ret (.bool true))∧OldK s₁.heap s'.heap∧s'.os=s₁.os∧AllBare s'.gens) s₁):
 WalkO q loose XP YP l.row.toRowW d [] (fun f vs=>PySem.call f vs):=by
 intro w s₀ s₁ mg mb G Y fa o pm cd doc dV kV ho hd hcd hD hmg hg args vals as hpre hlay hrd hwl hlo;obtain rfl:dV= .none:=Dflts.none hD hdf;obtain rfl:kV= .none:=Dflts.noKw hD;obtain ⟨a,vs,ns,rfl,rfl,hobj,hints,hlen⟩:=Sg hn hpre hwl;refine enter_call (Hh (call w s₀ s₁ mg mb fa o pm cd doc a vs ns G Y ho (fd_plain hd) hcd hmg hobj hints hlen hg) fun r s' hq=>?_);obtain ⟨rfl,h2,h3,h4⟩:=hq;exact ⟨.inl ⟨.bool true,.bool true,[],rfl,fun _=>rfl,.bool true,Sh l _,fun _=>⟨List.Pairwise.nil,fun _ hm=>(nomatch hm)⟩⟩,h2,h3,h4⟩
end Att
namespace L2
theorem Ki:∀{vs:List Value} {ns:List Int},IntsAre vs ns→Ag (ns.map V.int) vs
 | _,_,.nil=> .nil
 | _,_,.cons n t h=> .cons ⟨t,rfl⟩ (Ki h)
end L2
namespace L2
def Ed(s:Stmt)(j:Nat):Stmt:=match s with
 | .ClassDef _ _ _ body _ _ _ _ _ _ _=>body.getD j (.Pass ⟨0,0,0,0⟩)
 | _=> .Pass ⟨0,0,0,0⟩
def Au(s:Stmt):Arguments:=match s with
 | .FunctionDef _ a _ _ _ _ _ _ _ _=>a
 | _=>{posonlyargs:=[],args:=[],vararg:=none,kwonlyargs:=[],kw_defaults:=[],kwarg:=none,defaults:=[]}
def An(s:Stmt):List Stmt:=match s with
 | .FunctionDef _ _ b _ _ _ _ _ _ _=>b
 | _=>[]
def A8(s:Stmt):Scope:=match s with
 | .FunctionDef _ _ _ _ _ _ sc _ _ _=>sc
 | _=>{kind:= .function,names:=[],isGenerator:=false,isCoroutine:=false}
structure Fun(K:PySem.W.Frag)(x qual:Str)(st:Stmt)(f:Addr)(fd:FuncData):Prop where
 ex:∃(oc:Value) (od:Option Addr) (kV doc pm:Value) (an:Option Addr) (cdv ct:Value) (osl:Array (Option Value)),
  fd=PySem.W.fnOf x qual (Au st) (An st) (A8 st) .none kV doc pm an cdv ct∧K.lookup f=some ⟨oc,od,.func fd,osl⟩∧PySem.W.codeIn K cdv qual=true
 kp:PySem.W.keepIn K (.ref f)=true
section
variable {P:Program} {w:World} {K:PySem.W.Frag} {mg:Str→Option Value} {base:Heap}
theorem Fun.binds{x qual:Str}{st:Stmt}{f:Addr}{fd:FuncData}{ps:List Str}(F:Fun K x qual st f fd)
 (h:∀(kV doc pm:Value) (an:Option Addr) (cdv ct:Value) (us:List Value),us.length=ps.length→bindArgs (PySem.W.fnOf x qual (Au st) (An st) (A8 st) .none kV doc pm an cdv ct) ⟨us,[]⟩=pure (ps.zip us)):Bi K fd ps []:=by
 obtain ⟨oc,od,kV,doc,pm,an,cdv,ct,osl,rfl,lk,hcd⟩:=F.ex;exact .all (h kV doc pm an cdv ct)
theorem G0{x qual:Str}{st:Stmt}{f:Addr}{oc:Value}{od an:Option Addr}{osl:Array (Option Value)}{kV doc pm cdv ct:Value}(l:K.lookup f=some ⟨oc,od,.func (PySem.W.fnOf x qual (Au st) (An st) (A8 st) .none kV doc pm an cdv ct),osl⟩)
 (c:PySem.W.codeIn K cdv qual=true) (k:PySem.W.keepIn K (.ref f)=true):Fun K x qual st f (PySem.W.fnOf x qual (Au st) (An st) (A8 st) .none kV doc pm an cdv ct):=⟨⟨oc,od,kV,doc,pm,an,cdv,ct,osl,rfl,l,c⟩,k⟩
end
theorem D8{A:Around}{k:Nat}(hr:B0 k A):A.units+1 < cLine:=HP (Nat.add_le_add_left (by decide:1≤64) _) hr.units
section
variable {X:Cx}
theorem pv(i:Nat){x:Str}{pos:Pos}(hN:X.N[i]?=some x:=by rfl)(hv:Vis X.env.scope x:=by first | exact Or.inl rfl | exact Or.inr (Or.inl rfl) | exact Or.inr (Or.inr rfl))(hd:(x==("__debug__":Str))=false:=by decide)
 (hcd:(x==("__classdict__":Str))=false:=by decide):PE X (.Name x pos) (J1y i):=J1z hN hv hd hcd
end
def A7(H H':Hp):Prop:=∀b o,H b=some o→H' b=some o
theorem A7.refl(H:Hp):A7 H H:=fun _ _ h=>h
theorem A7.trans{H H1 H2:Hp}(a:A7 H H1)(b:A7 H1 H2):A7 H H2:=fun c o h=>b c o (a c o h)
theorem A7.seq{K:PySem.W.Frag}{H H':Hp}{a:Addr}{xs:List V}(e:A7 H H')(h:SqL K H a xs):SqL K H' a xs:=by
 rcases h with (h | ⟨o,h⟩) | h
 · exact .inl (.inl (e _ _ h))
 · exact .inl (.inr ⟨o,e _ _ h⟩)
 · exact .inr h
end L2
namespace L2
section
variable {κ:Type} [DecidableEq κ]
def Bc(kvs:List (κ×V))(k:κ):Option V:=(kvs.find? fun kv=>decide (kv.1=k)).map (·.2)
def E5(kvs:List (κ×V))(k:κ)(v:V):List (κ×V):=
 if (kvs.any fun kv=>decide (kv.1=k))=true then kvs.map (fun kv=>if kv.1=k then (kv.1,v) else kv) else kvs++[(k,v)]
def J0o(kvs:List (κ×V))(k:κ):List (κ×V):=kvs.filter fun kv=>decide (kv.1≠k)
theorem Ee{p:κ×V}{r:List (κ×V)}{k:κ}(e:p.1=k):Bc (p::r) k=some p.2:=by simp [Bc,Hk,e]
theorem Ef{p:κ×V}{r:List (κ×V)}{k:κ}(e:¬p.1=k):Bc (p::r) k=Bc r k:=by simp [Bc,Hk,e]
theorem Di(k:κ):∀kvs:List (κ×V),(kvs.any fun kv=>decide (kv.1=k))=(Bc kvs k).isSome
 | []=>rfl
 | p::r=>by
  rw [List.any_cons]
  by_cases e:p.1=k
  · simp only [Ee e,Fy e,Bool.true_or,Option.isSome_some]
  · rw [Ef e,FB e,Bool.false_or];exact Di k r
theorem Gb(kvs:List (κ×V))(k:κ)(v:V):(E5 kvs k v).length≤kvs.length+1:=by
 unfold E5;split
 · rw [Fa];omega
 · rw [Fx,List.length_cons,List.length_nil];omega
theorem Mb{kvs:List (κ×V)}{k:κ}(v:V)(h:Bc kvs k=none):E5 kvs k v=kvs++[(k,v)]:=by
 unfold E5;rw [Di,h];exact if_neg (by decide)
theorem By.isSome_eq{o:Option V}{u:Option Value}(r:By o u):o.isSome=u.isSome:=by
 cases o with
 | none=>cases u with
  | none=>rfl
  | some _=>exact (show False from r).elim
 | some _=>cases u with
  | none=>exact (show False from r).elim
  | some _=>rfl
theorem By.getD{o:Option V}{u:Option Value}{d:V}{d':Value}(r:By o u)(rd:Ab d d'):Ab (o.getD d) (u.getD d'):=by
 cases o with
 | none=>cases u with
  | none=>exact rd
  | some _=>exact (show False from r).elim
 | some _=>cases u with
  | none=>exact (show False from r).elim
  | some _=>exact r
theorem KV.val{kvs:List (κ×V)}{vs:List (κ×Value)}(r:KV kvs vs)(k:κ):By (Bc kvs k) (valueAt vs k):=by
 unfold KV at r
 induction r with
 | nil=>exact True.intro
 | @cons p q ps qs h t ih=>
  obtain ⟨h1,h2⟩:=h
  by_cases e:p.1=k
  · have e':q.1=k:=h1.symm.trans e
    have b:valueAt (q::qs) k=some q.2:=by simp [valueAt,Hk,e']
    rw [Ee e,b];exact h2
  · have e':¬q.1=k:=fun z=>e (h1.trans z)
    have b:valueAt (q::qs) k=valueAt qs k:=by simp [valueAt,Hk,e']
    rw [Ef e,b];exact ih
theorem KV.any{kvs:List (κ×V)}{vs:List (κ×Value)}(r:KV kvs vs)(k:κ):(kvs.any fun kv=>decide (kv.1=k))=vs.any fun kv=>decide (kv.1=k):=by
 unfold KV at r
 induction r with
 | nil=>rfl
 | cons h t ih=>rw [List.any_cons,List.any_cons,ih,h.1]
theorem KV.repl{kvs:List (κ×V)}{vs:List (κ×Value)}(r:KV kvs vs)(k:κ){y:V}{u:Value}(ry:Ab y u):
 KV (kvs.map fun kv=>if kv.1=k then (kv.1,y) else kv) (vs.map fun kv=>if kv.1=k then (kv.1,u) else kv):=by
 unfold KV at r ⊢
 induction r with
 | nil=>exact .nil
 | @cons p q ps qs h t ih=>
  rw [List.map_cons,List.map_cons];refine .cons ?_ ih;obtain ⟨h1,h2⟩:=h
  by_cases e:p.1=k
  · rw [if_pos e,if_pos (h1.symm.trans e)];exact ⟨h1,ry⟩
  · rw [if_neg e,if_neg (fun z=>e (h1.trans z))];exact ⟨h1,h2⟩
theorem KV.put{kvs:List (κ×V)}{vs:List (κ×Value)}(r:KV kvs vs)(k:κ){y:V}{u:Value}(ry:Ab y u):KV (E5 kvs k y) (stored vs k u):=by
 unfold E5 stored;rw [r.any k]
 by_cases e:(vs.any fun kv=>decide (kv.1=k))=true
 · rw [if_pos e,if_pos e];exact r.repl k ry
 · rw [if_neg e,if_neg e];exact Paired.snoc r ⟨rfl,ry⟩
theorem KV.length{kvs:List (κ×V)}{vs:List (κ×Value)}(r:KV kvs vs):kvs.length=vs.length:=Paired.length r
end
theorem Kj{P:Program}{w:World}{k:Key}{u:Value}(r:Ab (kV k) u):(Am P w).is k u=true:=by
 cases k with
 | inl i=>obtain ⟨t,e⟩:=(show ∃t,u=Value.int i t from r);subst e;exact Lz P w i t
 | inr x=>obtain ⟨t,e⟩:=(show ∃t,u=Value.str x t from r);subst e;exact M0 P w x t
theorem Kk{P:Program}{w:World}:∀{ks:List Key} {us:List Value},Ag (ks.map kV) us→ItemsAre (Am P w) ks us
 | [],_,r=>by rw [List.map_nil]at r;cases r;exact .nil
 | k::ks,_,r=>by
  rw [List.map_cons]at r
  cases r with
  | cons h t=>exact .cons (Kj h) (Kk t)
abbrev KT(H:Hp):List (List Key×V)→List (List Key×Addr×Value)→Prop:=Paired fun p q=>p.1=q.1∧H q.2.1=some (.tup (p.1.map kV))∧Ab p.2 q.2.2
theorem KT.val{H:Hp}{kvs:List (List Key×V)}{xs:List (List Key×Addr×Value)}(r:KT H kvs xs)(k:List Key):By (Bc kvs k) ((atKey xs k).map (·.2)):=by
 induction r with
 | nil=>exact True.intro
 | @cons p q ps qs h t ih=>
  obtain ⟨h1,_,h2⟩:=h
  by_cases e:p.1=k
  · have e':q.1=k:=h1.symm.trans e
    have b:atKey (q::qs) k=some q.2:=by simp [atKey,Hk,e']
    rw [Ee e,b];exact h2
  · have e':¬q.1=k:=fun z=>e (h1.trans z)
    have b:atKey (q::qs) k=atKey qs k:=by simp [atKey,Hk,e']
    rw [Ef e,b];exact ih
theorem KT.repl{H:Hp}{kvs:List (List Key×V)}{xs:List (List Key×Addr×Value)}(r:KT H kvs xs)(k:List Key){y:V}{u:Value}(ry:Ab y u):
 KT H (kvs.map fun kv=>if kv.1=k then (kv.1,y) else kv) (xs.map (putAt k u)):=by
 induction r with
 | nil=>exact .nil
 | @cons p q ps qs h t ih=>
  rw [List.map_cons,List.map_cons];refine .cons ?_ ih;obtain ⟨h1,h2,h3⟩:=h;unfold putAt
  by_cases e:p.1=k
  · rw [if_pos e,if_pos (h1.symm.trans e)];exact ⟨h1,h2,ry⟩
  · rw [if_neg e,if_neg (fun z=>e (h1.trans z))];exact ⟨h1,h2,h3⟩
theorem KT.put{H:Hp}{kvs:List (List Key×V)}{xs:List (List Key×Addr×Value)}(r:KT H kvs xs)(k:List Key){b:Addr}{y:V}{u:Value}(hb:H b=some (.tup (k.map kV)))(ry:Ab y u):
 KT H (E5 kvs k y) (storedH xs k b u):=by
 have e:(kvs.any fun kv=>decide (kv.1=k))=(atKey xs k).isSome:=by
  rw [Di,(r.val k).isSome_eq,Rk]
 unfold E5 storedH;rw [e]
 by_cases q:(atKey xs k).isSome=true
 · rw [if_pos q,if_pos q];exact r.repl k ry
 · rw [if_neg q,if_neg q];exact Paired.snoc r ⟨rfl,hb,ry⟩
theorem KT.keeps{H H':Hp}{kvs:List (List Key×V)}{xs:List (List Key×Addr×Value)}(r:KT H kvs xs)(ht:∀b ys,H b=some (.tup ys)→H' b=some (.tup ys)):KT H' kvs xs:=
 Paired.mapP r fun _ _ z=>⟨z.1,ht _ _ z.2.1,z.2.2⟩
section
variable {P:Program} {w:World} {H:Hp} {h:Heap} {a:Addr}
theorem J0p{u:HO}(ok:HOk P w H h)(e:Rd H a u):Ak P w H h a u:=e.ok ok
theorem Gc{kvs:List (Key×V)}(ok:HOk P w H h)(e:Rd H a (.dK kvs)):kvs.length≤sizeLine∧(a==sysModules)=false∧∃vs,KV kvs vs∧h.DictOf (Am P w) a vs:=
 show Ak P w H h a (.dK kvs) from J0p ok e
theorem J4b{kvs:List (Key×V)}(ok:HOk P w H h)(e:H a=some (.dK kvs)):kvs.length≤sizeLine∧(a==sysModules)=false∧∃vs,KV kvs vs∧h.DictOf (Am P w) a vs:=Gc ok (.inl e)
theorem G1{ks:List Key}(ok:HOk P w H h)(e:H a=some (.tup (ks.map kV))):(tupleKind (Am P w)).is h ks a:=by
 obtain ⟨_,its,r,o,h1,h2,n,h3⟩:=(show Ak P w H h a (.tup (ks.map kV)) from ok a _ e)
 exact ⟨o,its.toArray,n,h1,h2,h3,by simpa using Kk r⟩
theorem Ia{kvs:List (List Key×V)}(ok:HOk P w H h)(e:Rd H a (.dT kvs)):kvs.length≤sizeLine∧(a==sysModules)=false∧
 ∃xs,KT H kvs xs∧h.DictOfH (tupleKind (Am P w)) a xs:=by
 obtain ⟨z,y,xs,r,o,es,ep,h1,h2,h3,h4,h5⟩:=(show Ak P w H h a (.dT kvs) from J0p ok e)
 refine ⟨z,y,xs,r,o,es,ep,h1,h2,h3,h4,fun x hx=>?_,h5⟩
 have all:∀{l:List (List Key×V)} {m:List (List Key×Addr×Value)},KT H l m→∀x∈m,(tupleKind (Am P w)).is h x.1 x.2.1:=by
  intro l m q
  induction q with
  | nil=>intro x hx;exact nomatch hx
  | @cons p q ps qs hq t ih=>
   intro x hx;rcases FD.mp hx with e | hx
   · subst e
     exact G1 ok (by rw [← hq.1];exact hq.2.1)
   · exact ih x hx
 exact all r x hx
theorem J4c{kvs:List (List Key×V)}(ok:HOk P w H h)(e:H a=some (.dT kvs)):kvs.length≤sizeLine∧(a==sysModules)=false∧
 ∃xs,KT H kvs xs∧h.DictOfH (tupleKind (Am P w)) a xs:=Ia ok (.inl e)
end
def Cd(H:Hp)(a:Addr)(y:V)(r:Option V):Prop:=
 (∃kvs k,Rd H a (.dK kvs)∧y=kV k∧r=Bc kvs k)∨∃kvs k b,Rd H a (.dT kvs)∧y= .ref b∧H b=some (.tup (k.map kV))∧r=Bc kvs k
def Si(H:Hp)(a:Addr)(y v:V)(H':Hp):Prop:=
 (∃kvs k,H a=some (.dK kvs)∧y=kV k∧kvs.length < sizeLine∧H'=upd H a (.dK (E5 kvs k v)))∨
 ∃kvs k b,H a=some (.dT kvs)∧y= .ref b∧H b=some (.tup (k.map kV))∧kvs.length < sizeLine∧H'=upd H a (.dT (E5 kvs k v))
theorem Cd.k{H:Hp}{a:Addr}{kvs:List (Key×V)}{k:Key}(e:H a=some (.dK kvs)):Cd H a (kV k) (Bc kvs k):= .inl ⟨kvs,k,.inl e,rfl,rfl⟩
theorem Si.k{H:Hp}{a:Addr}{kvs:List (Key×V)}{k:Key}{v:V}(e:H a=some (.dK kvs))(hl:kvs.length < sizeLine):Si H a (kV k) v (upd H a (.dK (E5 kvs k v))):= .inl ⟨kvs,k,e,rfl,hl,rfl⟩
section
variable {X:Cx} {pins:List (Addr×Obj)} {σ:St} {H:Hp} {s:Shared} {a:Addr} {y v:V} {u r:Value} {o:Option V} {A:Around} {E:Value→Shared→Prop}
theorem Inv.big(I:Inv X pins σ H s):sysModules < s.heap.objs.size:=by
 have h:mainGlobals < s.heap.objs.size:=(I.mod.glob.keeps I.bk).lt;exact R4 (by decide) h
theorem Sj{Q:Value→Shared→Prop}(hu:A.units+1 < cLine)(I:Inv X pins σ H s)(g:Cd H a y (some v))(ry:Ab y u)(h:∀w' s',Inv X pins σ H s'→Ab v w'→Q w' s'):
 wpAny (model X.prog X.w) A (getItem (.ref a) u) Q E s:=by
 rcases g with ⟨kvs,k,e,ey,l⟩ | ⟨kvs,k,b,e,ey,eb,l⟩
 · subst ey
   obtain ⟨z,hd,vs,rel,dd⟩:=Gc I.hok e;obtain ⟨w',hw,rw'⟩:=By.some_of (v:=v) (o:=valueAt vs k) (by rw [l];exact rel.val k);exact wpAny_getItem_of (Kj ry) dd.mapOf hw (h w' _ (I.tok _) rw')
 · subst ey
   cases (show u=Value.ref b from ry);obtain ⟨z,hd,xs,rel,dd⟩:=Ia I.hok e;obtain ⟨w',hw,rw'⟩:=By.some_of (v:=v) (o:=(atKey xs k).map (·.2)) (by rw [l];exact rel.val k);obtain ⟨p,hp,hp2⟩:=Option.map_eq_some_iff.mp hw;refine wpAny_getItem_heap (Hw hu) (G1 I.hok eb) dd hp ?_;rw [hp2];exact h w' _ (I.tok _) rw'
theorem J5i{Q:Value→Shared→Prop}(hu:A.units+1 < cLine)(I:Inv X pins σ H s)(g:Cd H a y o)(ry:Ab y u)(h:∀s',Inv X pins σ H s'→Q (.bool o.isSome) s'):
 wpAny (model X.prog X.w) A (compareOp .In u (.ref a)) Q E s:=by
 rcases g with ⟨kvs,k,e,ey,l⟩ | ⟨kvs,k,b,e,ey,eb,l⟩
 · subst ey
   obtain ⟨z,hd,vs,rel,dd⟩:=Gc I.hok e;refine wpAny_in_of (Kj ry) hd dd.mapOf ?_;rw [← (rel.val k).isSome_eq,← l];exact h _ (I.tok _)
 · subst ey
   cases (show u=Value.ref b from ry);obtain ⟨z,hd,xs,rel,dd⟩:=Ia I.hok e;refine wpAny_in_heap (Hw hu) (G1 I.hok eb) hd dd ?_;have q:=(rel.val k).isSome_eq;rw [Rk]at q;rw [← q,← l];exact h _ (I.tok _)
theorem Xx{Q:Value→Shared→Prop}(hu:A.units+1 < cLine)(I:Inv X pins σ H s)(g:Cd H a y o)(ry:Ab y u)(h:∀s',Inv X pins σ H s'→Q (.bool (!o.isSome)) s'):
 wpAny (model X.prog X.w) A (compareOp .NotIn u (.ref a)) Q E s:=by
 rcases g with ⟨kvs,k,e,ey,l⟩ | ⟨kvs,k,b,e,ey,eb,l⟩
 · subst ey
   obtain ⟨z,hd,vs,rel,dd⟩:=Gc I.hok e;refine wpAny_notIn_of (Kj ry) hd dd.mapOf ?_;rw [← (rel.val k).isSome_eq,← l];exact h _ (I.tok _)
 · subst ey
   cases (show u=Value.ref b from ry);obtain ⟨z,hd,xs,rel,dd⟩:=Ia I.hok e;refine wpAny_notIn_heap (Hw hu) (G1 I.hok eb) hd dd ?_;have q:=(rel.val k).isSome_eq;rw [Rk]at q;rw [← q,← l];exact h _ (I.tok _)
theorem P6{h':Heap}{t':Nat}{ob:HO}(I:Inv X pins σ H s)(mu:Mut (H a))(hs:Heap.SameBut a s.heap h')(he:∃q,h'.get? a=some q)(new:Ak X.prog X.w (upd H a ob) h' a ob):
 Inv X pins σ (upd H a ob) {s with heap:=h',toks:=t'}:=
 I.write (x:=a) (e:=a) mu (.inl rfl) (fun b q hb z=>(hs.2 b hb).trans z) he new
theorem J2b{P:Program}{w:World}{H':Hp}{h':Heap}{kvs:List (Key×V)}{vs:List (Key×Value)}(z:kvs.length≤sizeLine)(hd:(a==sysModules)=false)(rel:KV kvs vs)(dd:h'.DictOf (Am P w) a vs):
 Ak P w H' h' a (.dK kvs):=⟨z,hd,vs,rel,dd⟩
theorem Sk{H':Hp}{Q:Unit→Shared→Prop}(hu:A.units+1 < cLine)(I:Inv X pins σ H s)(g:Si H a y v H')(ry:Ab y u)(rv:Ab v r)(h:∀s',Inv X pins σ H' s'→Q () s'):
 wpAny (model X.prog X.w) A (setItem (.ref a) u r) Q E s:=by
 rcases g with ⟨kvs,k,e,ey,l,eH⟩ | ⟨kvs,k,b,e,ey,eb,l,eH⟩
 · subst ey eH
   obtain ⟨z,hd,vs,rel,dd⟩:=J4b I.hok e
   have hz:vs.length≤sizeLine:=by rw [← rel.length];exact z
   have hl:(E5 kvs k v).length≤sizeLine:=by have:=Gb kvs k v;omega
   refine wpAny_setItem_pairs (hsz:=hz) (Kj ry) dd fun h' dd' hs=>h _ ?_;have he:∃q,h'.get? a=some q:=let ⟨q,_,_,hq,_⟩:=dd';⟨q,hq⟩;exact P6 I (by rw [e];exact True.intro) hs he (J2b hl hd (rel.put k rv) dd')
 · subst ey eH
   cases (show u=Value.ref b from ry);obtain ⟨z,hd,xs,rel,dd⟩:=J4c I.hok e
   have hz:xs.length≤sizeLine:=by rw [← Paired.length rel];exact z
   have hl:(E5 kvs k v).length≤sizeLine:=by have:=Gb kvs k v;omega
   refine wpAny_setItem_heap (hsz:=hz) (Hw hu) (G1 I.hok eb) dd fun h' dd' hs=>h _ ?_;obtain ⟨q,es,ep,hq,h2,h3,h4,_,h5⟩:=dd';refine P6 I (by rw [e];exact True.intro) hs ⟨q,hq⟩ ⟨hl,hd,_,(rel.put k eb rv).keeps fun c ys ec=>?_,q,es,ep,hq,h2,h3,h4,h5⟩;rw [A0 (Ce ec e (fun z=>nomatch z))];exact ec
end
section
variable {X:Cx} {pins:List (Addr×Obj)} {σ:St} {H:Hp} {s:Shared} {a:Addr} {kvs:List (Key×V)} {k:Key} {u:Value} {A:Around} {E:Value→Shared→Prop}
theorem J4d{Q:Value→Shared→Prop}(I:Inv X pins σ H s)(e:Rd H a (.dK kvs))(h:∀t s',Inv X pins σ H s'→Q (.int kvs.length t) s'):wpAny (model X.prog X.w) A (call (.builtin "len") [.ref a]) Q E s:=by
 obtain ⟨z,hd,vs,rel,dd⟩:=Gc I.hok e;refine call_len_dict hd dd (by rw [← rel.length];rw [Ra]at z;omega) ?_;rw [← rel.length];exact h _ _ (I.tok _)
end
def J4e(i:Expr):Prop:=∀ov iv,subscripted i false ov iv=operate [ov,iv] (getItem ov iv)
theorem Xy{prog:Program}{w:World}{A:Around}{E:Value→Shared→Prop}{s:Shared}{env:Env}{value slice:Expr}{pos:Pos}{T id:String}{Q:Value→Shared→Prop}
 (hl:typeLookup (.type T) "__getitem__"=pure (some (.builtin id))) (hs:J4e slice)
 (h:wpAny (model prog w) A (eval value env) (fun o s₁=>wpAny (model prog w) A (eval slice env) (fun i s₂=>s₂.TypeIs o T∧wpAny (model prog w) A (getItem o i) Q E s₂) E s₁) E s):
 wpAny (model prog w) A (eval (.Subscript value slice pos) env) Q E s:=by
 refine Subscript_ (FE h (fun o s₁ h₁=>FE h₁ (fun i s₂ h₂=>?_) fun _ _ x=>x) fun _ _ x=>x);obtain ⟨hT,h₂⟩:=h₂;unfold subscriptTail;refine Fd ?_;rw [getitemInPython_of_ne hT.not_modules];refine Fd (wpAny_specialOf hT hl ?_)
 have fin:wpAny (model prog w) A (subscripted slice false o i) (fun r s₃=>wpAny (model prog w) A (letTemporaryGo value o r >>=fun _=>pure r) Q E s₃) E s₂:=by
  rw [hs o i];exact wpAny_operating (FE h₂ (fun r s₃ h₃=>Fd (wpAny_letTemporaryGo (Fu h₃))) fun _ _ x=>x)
 first
  | exact Fu (Fd fin)
  | exact Fd (Fu (Fd fin))
  | exact Fd fin
theorem Mc{X:Cx}{pins:List (Addr×Obj)}{σ:St}{H:Hp}{s:Shared}{a:Addr}{y:V}{o:Option V}(I:Inv X pins σ H s)(g:Cd H a y o):s.TypeIs (.ref a) "dict":=by
 rcases g with ⟨kvs,k,e,_,_⟩ | ⟨kvs,k,b,e,_,_,_⟩
 · obtain ⟨_,_,vs,_,dd⟩:=Gc I.hok e
   exact dd.typeIs
 · obtain ⟨_,_,xs,_,dd⟩:=Ia I.hok e
   exact dd.typeIs
def J0q(td ty:TE):TE:=fun σ H Q=>td σ H fun x H1=>ty σ H1 fun y H2=>∃a v,x= .ref a∧Cd H2 a y (some v)∧Q v H2
def J4f(ty td:TE):TE:=fun σ H Q=>ty σ H fun y H1=>td σ H1 fun x H2=>∃a o,x= .ref a∧Cd H2 a y o∧Q (.bl o.isSome) H2
def P7(ty td:TE):TE:=fun σ H Q=>ty σ H fun y H1=>td σ H1 fun x H2=>∃a o,x= .ref a∧Cd H2 a y o∧Q (.bl (!o.isSome)) H2
def J0r(td ty tv:TE):TS:=fun D σ H=>tv σ H fun v H1=>td σ H1 fun x H2=>ty σ H2 fun y H3=>∃a H4,x= .ref a∧Si H3 a y v H4∧D.nx σ H4
section
variable {X:Cx} {o i e value:Expr} {pos pos' tpos:Pos} {td ty tv:TE}
theorem Lf(hu:X.A.units+1 < cLine)(ho:PE X o td)(hi:PE X i ty)(hs:J4e i):PE X (.Subscript o i pos) (J0q td ty):=by
 intro pins s σ H Q I h;refine Xy PySem.F.slot_dict_getitem.lookup hs (thn (ho pins s σ H _ I h) fun u s1 ⟨x,H1,I1,rx,q1⟩=>thn (hi pins s1 σ H1 _ I1 q1) fun iv s2 hq_=>?_);obtain ⟨y,H2,I2,ry,a,v,ex,g,q2⟩:=hq_;subst ex;obtain rfl:u=Value.ref a:=rx;exact ⟨Mc I2 g,Sj hu I2 g ry fun w' s3 I3 rw'=>⟨v,H2,I3,rw',q2⟩⟩
theorem Tx(hu:X.A.units+1 < cLine)(hi:PE X i ty)(ho:PE X o td):PC X .In i o (J4f ty td):=by
 intro pins s σ H Q I h;refine thn (hi pins s σ H _ I h) fun iv s1 ⟨y,H1,I1,ry,q1⟩=>thn (ho pins s1 σ H1 _ I1 q1) fun u s2 hq_=>?_;obtain ⟨x,H2,I2,rx,a,ov,ex,g,q2⟩:=hq_;subst ex;obtain rfl:u=Value.ref a:=rx
 exact J5i hu I2 g ry fun s3 I3=>⟨.bl ov.isSome,H2,I3,rfl,q2⟩
theorem Kl(hu:X.A.units+1 < cLine)(hi:PE X i ty)(ho:PE X o td):PC X .NotIn i o (P7 ty td):=by
 intro pins s σ H Q I h;refine thn (hi pins s σ H _ I h) fun iv s1 ⟨y,H1,I1,ry,q1⟩=>thn (ho pins s1 σ H1 _ I1 q1) fun u s2 hq_=>?_;obtain ⟨x,H2,I2,rx,a,ov,ex,g,q2⟩:=hq_;subst ex;obtain rfl:u=Value.ref a:=rx
 exact Xx hu I2 g ry fun s3 I3=>⟨.bl (!ov.isSome),H2,I3,rfl,q2⟩
theorem Gk(hu:X.A.units+1 < cLine)(ho:PE X o td)(hi:PE X i ty)(hv:PE X value tv)(hs:swapsWith value (some (.Subscript o i pos')) pos.line X.env=pure false):
 PS X (.Assign [.Subscript o i pos'] value pos) (J0r td ty tv):=by
 intro pins s σ H D I h;refine wpAny_Assign_Subscript (thn (hv pins s σ H _ I h) fun r s1 ⟨v,H1,I1,rv,q1⟩=>thn (ho pins s1 σ H1 _ I1 q1) fun u s2 ⟨x,H2,I2,rx,q2⟩=>thn (hi pins s2 σ H2 _ I2 q2) fun iv s3 hq_=>?_) hs;obtain ⟨y,H3,I3,ry,a,H4,ex,g,q3⟩:=hq_;subst ex;obtain rfl:u=Value.ref a:=rx
 exact Sk hu I3 g ry rv fun s4 I4=>⟨σ,H4,I4,q3⟩
end
theorem Tz{P:Program}{w:World}{H:Hp}(h:Heap)(hb:sysModules < h.objs.size):Ak P w H (h.push {cls:= .type "dict",data:= .dict #[]}) h.objs.size (.dK []):=
 ⟨FY _,FX.mpr (Ne.symm (Ff hb)),[],.nil,Heap.DictOf.new h⟩
def U0:TE:=fun _ H Q=>∀p,H p=none→Q (.ref p) (upd H p (.dK []))
section
variable {X:Cx} {pos:Pos}
theorem Ib:PE X (.Dict [] [] pos) U0:=fun pins s σ H Q I h=>
 wpAny_Dict_empty ⟨.ref s.heap.objs.size,_,I.laid (a:=s.heap.objs.size) (o:= .dK []) (t':=s.toks) (fun _ _ q=>Fb _ q) (Fn _) (Tz s.heap I.big),rfl,h _ (I.hok.fresh (Fn _))⟩
end
structure M2(X:Cx)(o:Expr)(m:Str)(apos:Pos)(e f:Expr)(cpos:Pos):Prop where
 base:attributeBase o m X.env (eval o X.env)=eval o X.env
 few:((backTo cpos (starEach [e,f] X.env)).all (fun x=>!x.1) && (backToKw cpos (keywordEach [] X.env)).all (fun x=>x.1.isSome)
  && decide (([e,f]:List Expr).length+([]:List Keyword).length+(if ([]:List Keyword).isEmpty then 0 else 1) < 30))=true
 line:(apos.endLine==cpos.line)=true
 trees:backTo cpos (starEach [e,f] X.env)=[(false,eval e X.env),(false,eval f X.env)]
def IsD(H:Hp)(a:Addr):Prop:=(∃kvs,Rd H a (.dK kvs))∨∃kvs,Rd H a (.dT kvs)
theorem J2c{X:Cx}{pins:List (Addr×Obj)}{σ:St}{H:Hp}{s:Shared}{a:Addr}(I:Inv X pins σ H s)(d:IsD H a):
 s.TypeIs (.ref a) "dict"∧(∀b,Value.ref a= .ref b→∃ob,s.heap.get? b=some ob∧ob.dict=none)∧(a==sysModules)=false:=by
 rcases d with ⟨kvs,e⟩ | ⟨kvs,e⟩
 · obtain ⟨_,hd,vs,_,dd⟩:=Gc I.hok e
   refine ⟨dd.typeIs,fun b q=>?_,hd⟩;cases q;obtain ⟨ob,_,_,h1,h2,_⟩:=dd;exact ⟨ob,h1,h2.2.1⟩
 · obtain ⟨_,hd,xs,_,dd⟩:=Ia I.hok e
   refine ⟨dd.typeIs,fun b q=>?_,hd⟩;cases q;obtain ⟨ob,_,_,h1,h2,_⟩:=dd;exact ⟨ob,h1,h2.2.1⟩
section
variable {X:Cx} {pins:List (Addr×Obj)} {σ:St} {H:Hp} {s:Shared} {a:Addr} {y d:V} {u r:Value} {o:Option V} {A:Around} {E:Value→Shared→Prop}
theorem J2d{Q:Value→Shared→Prop}(hu:A.units+1 < cLine)(I:Inv X pins σ H s)(g:Cd H a y o)(ry:Ab y u)(rd:Ab d r)(h:∀w' s',Inv X pins σ H s'→Ab (o.getD d) w'→Q w' s'):
 wpAny (model X.prog X.w) A (call (.builtin "dict.get") [.ref a,u,r]) Q E s:=by
 rcases g with ⟨kvs,k,e,ey,l⟩ | ⟨kvs,k,b,e,ey,eb,l⟩
 · subst ey
   obtain ⟨z,hd,vs,rel,dd⟩:=Gc I.hok e;refine call_meetsIn R9 dd.typeIs PySem.F.entry_dict_get (PySem.F.args_dict_get_3 _ _ _) (meets_dict_get_default (Am X.prog X.w) a (Kj ry) hd r) ⟨_,dd.mapOf,h _ _ (I.tok _) ?_⟩;rw [l];exact (rel.val k).getD rd
 · subst ey
   cases (show u=Value.ref b from ry);obtain ⟨z,hd,xs,rel,dd⟩:=Ia I.hok e;refine call_meetsIn R9 dd.typeIs PySem.F.entry_dict_get (PySem.F.args_dict_get_3 _ _ _) (meetsH_dict_get_default (tupleKind (Am X.prog X.w)) a b hd r) ⟨Hw hu,k,xs,G1 I.hok eb,dd,h _ _ (I.tok _) ?_⟩;rw [l];exact (rel.val k).getD rd
end
def J2e(td ty:TE):TE:=fun σ H Q=>td σ H fun x H1=>∃a,x= .ref a∧IsD H1 a∧ty σ H1 fun y H2=>∃o,Cd H2 a y o∧Q (o.getD .non) H2
def U1(td ty tx:TE):TE:=fun σ H Q=>td σ H fun x H1=>∃a,x= .ref a∧IsD H1 a∧ty σ H1 fun y H2=>tx σ H2 fun z H3=>∃o,Cd H3 a y o∧Q (o.getD z) H3
def J2f(td ty:TE):TE:=fun σ H Q=>td σ H fun x H1=>∃a,x= .ref a∧IsD H1 a∧ty σ H1 fun y H2=>∃kvs k v,H2 a=some (.dK kvs)∧y=kV k∧Bc kvs k=some v∧Q v (upd H2 a (.dK (J0o kvs k)))
section
variable {X:Cx} {o e f:Expr} {apos cpos:Pos} {td ty tx:TE}
theorem U2(hu:X.A.units+1 < cLine)(ho:PE X o td)(he:PE X e ty)(hf:PE X f tx)(m:M2 X o "get" apos e f cpos):PE X (.Call (.Attribute o "get" apos) [e,f] [] cpos) (U1 td ty tx):=by
 intro pins s σ H Q I h;refine wpAny_Call_method m.base m.few m.line PySem.F.plainAttrs_dict R9 PySem.F.type_dict_get (thn (ho pins s σ H _ I h) fun u s1 hq_=>?_);obtain ⟨x,H1,I1,rx,a,ex,d,q1⟩:=hq_;subst ex;obtain rfl:u=Value.ref a:=rx;obtain ⟨t1,t2,_⟩:=J2c I1 d;refine ⟨t1,t2,?_⟩;rw [m.trees]
 refine Calls.callWith_builtin rfl (Calls.evalArgs_plain (Calls.spliced_cons (thn (he pins s1 σ H1 _ I1 q1) fun iv s2 ⟨y,H2,I2,ry,q2⟩=>
  Calls.spliced_cons (thn (hf pins s2 σ H2 _ I2 q2) fun fv s3 ⟨z,H3,I3,rz,ov,g,q3⟩=>Calls.spliced_nil ?_))))
 exact J2d hu I3 g ry rz fun w' s4 I4 rw'=>⟨_,H3,I4,rw',q3⟩
end
end L2
namespace L2
section
variable {X:Cx}
theorem Km:E7 X (.builtin "len") (fun xs H Q=>∃a kvs,xs=[V.ref a]∧H a=some (.dK kvs)∧Q (.int kvs.length) H):=by
 intro pins s σ H xs us Q I r h;obtain ⟨a,kvs,rfl,ha,q⟩:=h;obtain ⟨u,rfl,ru⟩:=Ga r;cases ru
 exact J4d I (.inl ha) fun t s' I'=>⟨.int kvs.length,H,I',⟨t,rfl⟩,q⟩
end
section
variable {κ:Type} [DecidableEq κ]
theorem U4{kvs:List (κ×V)}{k:κ}(h:Bc kvs k=none):¬k∈kvs.map (·.1):=by
 intro m;obtain ⟨p,hp,e⟩:=Fw.mp m;have q:(kvs.any fun kv=>decide (kv.1=k))=true:=Rq.mpr ⟨p,hp,Fy e⟩;rw [Di,h]at q;exact absurd q (by simp)
theorem Xz{kvs:List (κ×V)}{k:κ}{v:V}(h:Bc kvs k=some v):k∈kvs.map (·.1):=by
 have q:(kvs.any fun kv=>decide (kv.1=k))=true:=by
  rw [Di,h]
  all_goals rfl
 obtain ⟨p,hp,e⟩:=Rq.mp q;exact Fw.mpr ⟨p,hp,of_decide_eq_true e⟩
end
end L2
namespace L2
structure Def(P:Program)(w:World)(K:PySem.W.Frag)(mg:Str→Option Value)(base:Heap)(CX:CXT)(k:Nat)(x:Str)(ps:List Str)(sp:Sp):Prop where
 ex:∃(f:Addr) (fd:FuncData),B2 P w K mg base CX k f fd ps sp∧mg x=some (.ref f)∧PySem.W.keepIn K (.ref f)=true∧Bi K fd ps []
def U5(sp:Sp)(E:XK)(t:TA):TE:=fun σ H Q=>t σ H fun vs H1=>sp vs H1 Q E
section
variable {X:Cx} {CX:CXT} {k j:Nat} {ps:List Str} {sp:Sp} {E:XK} {x:Str} {p pos:Pos} {e:Expr} {es:List Expr} {t:TA}
theorem Ac(D:Def X.prog X.w X.K X.mg X.base CX j x ps sp)(hr:B0 k X.A)(hg:Gl X x)(hx:Cr CX X E)(ha:PA X (e::es) t)(hj:j≤k:=by decide)
 (hdb:(x==("__debug__":Str))=false:=by decide) (he:starEach (e::es) X.env=(false,eval e X.env)::starEach es X.env:=by rfl) (hpl:(backTo pos (starEach es X.env)).any (·.1)=false:=by rfl):
 PE X (.Call (.Name x p) (e::es) [] pos) (U5 sp E t):=by
 obtain ⟨f,fd,F,hm,hk,hb⟩:=D.ex;intro pins s σ H Q I h;refine Xu (F.mono hj) hr hg hm hk hb .nil hx ha hdb he hpl pins s σ H Q I ?_;show t σ H fun vs H1=>sp (vs++[]) H1 Q E
 have z:(fun (vs:List V) (H1:Hp)=>sp (vs++[]) H1 Q E)=fun vs H1=>sp vs H1 Q E:=by funext vs H1;rw [FF]
 rw [z];exact h
end
def J5j(i j:Int):Prop:=i.natAbs < 10 ^ 100∧j.natAbs < 10 ^ 100
theorem P8:(10:Nat) ^ 100≤2 ^ 1000:=by decide+kernel
theorem P9{i:Int}(h:i.natAbs < 10 ^ 100):Builtin.Int.intBits i≤2 ^ 20:=by
 have h1:Builtin.Int.intBits i≤1000:=by
  unfold Builtin.Int.intBits;split
  · omega
  · rename_i hne
    have:=(Nat.log2_lt (n:=i.natAbs) (k:=1000) (by simpa using hne)).mpr (Fc h P8);omega
 exact FH h1 (by decide)
section
variable {X:Cx}
theorem Du:OpR X (binaryOp .Mult) (rI J5j fun i j=> .int (i * j)):=opI fun _ _ _ _ _ _ _ hc q=>mul_int q (.of_bits (P9 hc.1) (P9 hc.2))
theorem U6:OpR X (binaryOp .FloorDiv) (rI (fun _ j=>j≠0∧j.natAbs < 10 ^ 100) fun i j=> .int (i.fdiv j)):=opI fun i j _ _ _ _ _ hc q=>by
 refine floordiv_int hc.1 q (.inl (PyProof.noPylong_of_log2 ?_))
 have h0:j.natAbs≠0:=by have:=hc.1;omega
 exact R4 ((Nat.log2_lt h0).mpr (Fc hc.2 P8)) (by decide)
end
def Isi(K:PySem.W.Frag)(H:Hp)(x:V)(n:String)(b:Bool):Prop:=∃t,Ey K H x t∧PySem.W.kitOne K t (.type n)=some b
section
variable {X:Cx}
theorem Bt:E7 X (.builtin "isinstance") (fun xs H Q=>∃x n b,xs=[x,.ty n]∧Isi X.K H x n b∧Q (.bl b) H):=by
 intro pins s σ H xs us Q I r h;obtain ⟨x,n,b,rfl,⟨t,ty,e⟩,q⟩:=h;obtain ⟨u,c,rfl,r1,r2⟩:=J40 r;cases r2
 exact Se I r1 ty e fun tk=>⟨.bl b,H,I.tok _,rfl,q⟩
end
section
variable {K:PySem.W.Frag} {H:Hp}
theorem U7{i:Int}:Isi K H (.int i) "int" true:=⟨_,.int i,rfl⟩
theorem U8{i:Int}:Isi K H (.int i) "bool" false:=⟨_,.int i,by with_unfolding_all rfl⟩
theorem J2g{i:Int}:Isi K H (.int i) "str" false:=⟨_,.int i,by with_unfolding_all rfl⟩
theorem U9{i:Bool}:Isi K H (.bl i) "bool" true:=⟨_,.bl i,rfl⟩
theorem Ua{i:Bool}:Isi K H (.bl i) "int" true:=⟨_,.bl i,by with_unfolding_all rfl⟩
theorem J2h{i:Bool}:Isi K H (.bl i) "str" false:=⟨_,.bl i,by with_unfolding_all rfl⟩
theorem J2i{i:Str}:Isi K H (.str i) "str" true:=⟨_,.str i,rfl⟩
theorem Ub{i:Str}:Isi K H (.str i) "int" false:=⟨_,.str i,by with_unfolding_all rfl⟩
theorem J2j{i:Str}:Isi K H (.str i) "bool" false:=⟨_,.str i,by with_unfolding_all rfl⟩
theorem Uc:Isi K H .non "int" false:=⟨_,.non,by with_unfolding_all rfl⟩
theorem J2k:Isi K H .non "str" false:=⟨_,.non,by with_unfolding_all rfl⟩
theorem Ud{a:Addr}{xs:List V}(e:H a=some (.lst xs)):Isi K H (.ref a) "list" true:=⟨_,.lst e,rfl⟩
theorem Ue{a:Addr}{xs:List V}(e:H a=some (.lst xs)):Isi K H (.ref a) "str" false:=⟨_,.lst e,by with_unfolding_all rfl⟩
theorem Ug{a:Addr}{xs:List V}(e:H a=some (.lst xs)):Isi K H (.ref a) "int" false:=⟨_,.lst e,by with_unfolding_all rfl⟩
theorem Uh{a:Addr}{xs:List V}(e:H a=some (.lst xs)):Isi K H (.ref a) "tuple" false:=⟨_,.lst e,by with_unfolding_all rfl⟩
theorem Ui{a:Addr}{xs:List V}(e:H a=some (.tup xs)):Isi K H (.ref a) "tuple" true:=⟨_,.tup e,rfl⟩
theorem Uj{a:Addr}{xs:List V}(e:H a=some (.tup xs)):Isi K H (.ref a) "str" false:=⟨_,.tup e,by with_unfolding_all rfl⟩
theorem Uk{a:Addr}{xs:List V}(e:H a=some (.tup xs)):Isi K H (.ref a) "int" false:=⟨_,.tup e,by with_unfolding_all rfl⟩
theorem Ul{a:Addr}{xs:List V}(e:H a=some (.tup xs)):Isi K H (.ref a) "list" false:=⟨_,.tup e,by with_unfolding_all rfl⟩
theorem J2l{x:V}{n:String}{b:Bool}{R:Bool→Prop}(h:Isi K H x n b)(q:R b):∃b,Isi K H x n b∧R b:=⟨b,h,q⟩
theorem Y0{p:Addr}{xs:List V}{R:List V→Prop}(h:SqL K H p xs)(q:R xs):∃ys,(SqL K H p ys∨SqT K H p ys)∧R ys:=⟨xs,.inl h,q⟩
theorem Y1{p:Addr}{xs:List V}{R:List V→Prop}(h:SqT K H p xs)(q:R xs):∃ys,(SqL K H p ys∨SqT K H p ys)∧R ys:=⟨xs,.inr h,q⟩
theorem G2{p:Addr}{xs:List V}{i:Int}{v:V}{Q:VK}(h:SqT K H p xs)(e:atI xs i=some v)(q:Q v H):J28 K (.ref p) (.int i) H Q:=⟨p,xs,i,v,rfl,rfl,h,e,q⟩
theorem Cu{p:Addr}{xs:List V}{i:Int}{v:V}{Q:VK}(h:SqL K H p xs)(e:atI xs i=some v)(q:Q v H):J47 K (.ref p) (.int i) H Q:=⟨p,xs,i,v,rfl,rfl,h,e,q⟩
end
theorem Ic{α:Type}{xs:List α}{i:Int}{v:α}(h0:0≤i)(h:xs[i.toNat]?=some v):atI xs i=some v:=by
 unfold atI ixN;have hl:i.toNat < xs.length:=(Fi.mp h).1;rw [if_pos h0,if_pos (show i < xs.length by omega)];exact h
theorem Um{CX:CXT}{P:Program}{w:World}{K:PySem.W.Frag}{mg:Str→Option Value}{base:Heap}{N:List Str}{qual:Str}{scope:Scope}{f:Addr}{cd:Value}{A:Around}{outer:List Env}{s:Shared}{H:Hp}{E:XK}:
 (Dg CX P w K mg base N qual scope f cd A outer s H E).K=K:=rfl
theorem J2m{ns:List Int}{k:Nat}(h:k < ns.length):(ns.map V.int)[k]?=some (V.int (ns.getD k 0)):=by
 rw [Fm,Fg,Fe h];rfl
theorem A7.tup{K:PySem.W.Frag}{H H':Hp}{a:Addr}{xs:List V}(e:A7 H H')(h:SqT K H a xs):SqT K H' a xs:=by
 rcases h with (h | ⟨o,h⟩) | h
 · exact .inl (.inl (e _ _ h))
 · exact .inl (.inr ⟨o,e _ _ h⟩)
 · exact .inr h
theorem A7.new{H:Hp}{p:Addr}{o:HO}(h:H p=none):A7 H (upd H p o):=fun b u e=>by
 rw [A0 (A3 e h)];exact e
section
variable {σ:St} {H:Hp} {Q:VK} {QT:Bool→Hp→Prop} {QA:List V→Hp→Prop} {D:Cc} {K:PySem.W.Frag}
theorem Uo{te:TE}{g:TG}:O8 te g D σ H=te σ H fun x H1=>g x σ H1 D.nx:=rfl
theorem Up{i:Nat}:J1y i σ H Q=∃v,σ[i]?=some (some v)∧Q v H:=rfl
theorem J4g{v:V}:tC v σ H Q=Q v H:=rfl
theorem J0s{r:R2}{ta tb:TE}:tOp r ta tb σ H Q=ta σ H fun x H1=>tb σ H1 fun y H2=>r x y H2 Q:=rfl
theorem J0t{g:Int→Int→V}{x y:V}:rI0 g x y H Q=∃i j,x= .int i∧y= .int j∧Q (g i j) H:=rfl
theorem J4h{C:Int→Int→Prop}{g:Int→Int→V}{x y:V}:rI C g x y H Q=∃i j,x= .int i∧y= .int j∧C i j∧Q (g i j) H:=rfl
theorem J4i{g:Int→V}{x:V}:rU g x H Q=∃i,x= .int i∧Q (g i) H:=rfl
theorem Pa{i:Nat}{v:V}{N:St→Hp→Prop}:B5 i v σ H N=N (σ.set i (some v)) H:=rfl
theorem Uq{c:TT}{t u:TS}:J3s c t u D σ H=c σ H fun b H1=>if b=true then t D σ H1 else u D σ H1:=rfl
theorem Pb{t:TE}:J0j t σ H QT=t σ H fun x H'=>∃k,x= .bl k∧QT k H':=rfl
theorem J4j{t:TE}:tB t σ H QT=t σ H fun x H1=>∃c,x= .bl c∧QT c H1:=rfl
theorem Ur{te:TE}:J3q te D σ H=te σ H D.rt:=rfl
theorem Pc:J3r D σ H=D.rt .non H:=rfl
theorem Pd:J0d D σ H=D.nx σ H:=rfl
theorem Md:J21 D σ H=D.bk σ H:=rfl
theorem Pe:J3p D σ H=D.ct σ H:=rfl
theorem J0u{r:List V→Hp→VK→Prop}{t:TA}:tCB r t σ H Q=t σ H fun vs H1=>r vs H1 Q:=rfl
theorem Pf{ta:TE}{tr:TA}:J0k ta tr σ H QA=ta σ H fun x H1=>tr σ H1 fun xs H2=>QA (x::xs) H2:=rfl
theorem Us:J43 σ H QA=QA [] H:=rfl
theorem Ph{sp:Sp}{E:XK}{t:TA}:U5 sp E t σ H Q=t σ H fun vs H1=>sp vs H1 Q E:=rfl
theorem Ut{t:TT}:J3n t σ H QT=t σ H fun c H1=>QT (!c) H1:=rfl
theorem J0v{t u:TT}:tOr t u σ H QT=t σ H fun c H1=>if c=true then QT true H1 else u σ H1 QT:=rfl
theorem Uu{t u:TT}:J3m t u σ H QT=t σ H fun c H1=>if c=true then u σ H1 QT else QT false H1:=rfl
theorem Pj{ta tb:TE}:J0b ta tb σ H Q=ta σ H fun x H1=>∃c,x= .bl c∧if c=true then tb σ H1 Q else Q (.bl false) H1:=rfl
theorem Uv{ta tb:TE}:J5e ta tb σ H Q=ta σ H fun x H1=>∃c,x= .bl c∧if c=true then Q (.bl true) H1 else tb σ H1 Q:=rfl
theorem Pk{ta:TE}:J0c ta σ H Q=ta σ H fun x H1=>∃c,x= .bl c∧Q (.bl (!c)) H1:=rfl
theorem J0w{t:TT}{ta tb:TE}:tIf t ta tb σ H Q=t σ H fun c H1=>if c=true then ta σ H1 Q else tb σ H1 Q:=rfl
theorem J0x{r:V→Hp→VK→Prop}{ta:TE}:tUn r ta σ H Q=ta σ H fun x H1=>r x H1 Q:=rfl
theorem J0y{x y:V}:rEq x y H Q=(scal x y=true∧Q (.bl (decide (x=y))) H):=rfl
theorem J0z{x y:V}:rNe x y H Q=(scal x y=true∧Q (.bl (!decide (x=y))) H):=rfl
theorem Uw{i j:Nat}{ta:TA}:J5g i j ta D σ H=ta σ H fun vs H1=>∃v w,vs=[v,w]∧D.nx ((σ.set i (some v)).set j (some w)) H1:=rfl
theorem Ux{t:TA}:J44 t σ H Q=t σ H fun xs H1=>xs.length≤sizeLine∧∀p,H1 p=none→Q (.ref p) (upd H1 p (.tup xs)):=rfl
theorem Uy{t:TA}:J45 t σ H Q=t σ H fun xs H1=>xs.length≤sizeLine∧∀p,H1 p=none→Q (.ref p) (upd H1 p (.lst xs)):=rfl
theorem Me:Tb D σ H=False:=rfl
theorem Pl{te:TE}:J0e te D σ H=te σ H fun _ H1=>D.nx σ H1:=rfl
theorem Mf{t:TG}{u:TGs}{vs:List V}{N:St→Hp→Prop}:Gy t u vs σ H N=∃v r,vs=v::r∧t v σ H fun σ' H'=>u r σ' H' N:=rfl
theorem Pm{vs:List V}{N:St→Hp→Prop}:Xm vs σ H N=(vs=[]∧N σ H):=rfl
theorem Pn{to ti:TE}{t:Xl}{v:V}{N:St→Hp→Prop}:J3u to ti t v σ H N=to σ H fun o H1=>ti σ H1 fun i H2=>t o i v H2 fun H3=>N σ H3:=rfl
theorem Mg{r r':R2}{ta tb tc:TE}:To r r' ta tb tc σ H Q=ta σ H fun x H1=>tb σ H1 fun y H2=>r x y H2 fun z H3=>∃k,z= .bl k∧
 (if k=true then tc σ H3 fun w' H4=>r' y w' H4 Q else Q (.bl false) H3):=rfl
theorem Po{ta:TA}{R:It→Hp→Prop}:J0g ta σ H R=ta σ H fun vs H1=>∃j:Int,vs=[.int j]∧-(2 ^ 62)≤j∧j < 2 ^ 62∧R (Itr 0 j.toNat) H1:=rfl
theorem Pp{ta:TA}{R:It→Hp→Prop}:J3v ta σ H R=ta σ H fun vs H1=>∃i j:Int,vs=[.int i,.int j]∧(-(2 ^ 62)≤i∧i < 2 ^ 62∧-(2 ^ 62)≤j∧j < 2 ^ 62)∧R (Itr i (j - i).toNat) H1:=rfl
theorem Mh{tl:TE}{R:It→Hp→Prop}:J0f K tl σ H R=tl σ H fun x H1=>∃a,x= .ref a∧(∃xs,SqL K H1 a xs)∧R (Itl K a) H1:=rfl
theorem Pq{tl:TE}{R:It→Hp→Prop}:J5h K tl σ H R=tl σ H fun x H1=>∃a,x= .ref a∧(∃xs,SqT K H1 a xs)∧R (Itt K a) H1:=rfl
def Lg(g:TG)(tb:TS)(D:Cc)(σ:St):It→Hp→Prop:=fun J H1=>∃W:Nat→Nat→St→Hp→Prop,(∃m,W 0 m σ H1)∧∀i m σ H,W i m σ H→
 (J.stop i H∧D.nx σ H)∨(J.go i H∧∃N:St→Hp→Prop,(∀σ' H',N σ' H'→∃m',m' < m∧W (i+1) m' σ' H')∧∀x H',J.yld i H x H'→g x σ H' fun σ2 H2=>tb {D with nx:=N,ct:=N,bk:=D.nx} σ2 H2)
theorem Pr{wi:TI}{g:TG}{tb:TS}:J3w wi g tb D σ H=wi σ H (Lg g tb D σ):=rfl
theorem Lh{lo:Int}{n:Nat}{g:TG}{tb:TS}(Pv:Nat→St→Hp→Prop)(h0:Pv 0 σ H)
 (hs:∀i σ H,i < n→Pv i σ H→g (.int (lo+i)) σ H fun σ2 H2=>tb {D with nx:=Pv (i+1),ct:=Pv (i+1),bk:=D.nx} σ2 H2) (hd:∀σ H,Pv n σ H→D.nx σ H):Lg g tb D σ (Itr lo n) H:=S9 Pv h0 hs hd
theorem Li{a:Addr}{xs:List V}{g:TG}{tb:TS}(Pv:Nat→St→Hp→Prop)(h0:Pv 0 σ H)(hl:∀i σ H,i≤xs.length→Pv i σ H→SqL K H a xs)
 (hs:∀i x σ H,xs[i]?=some x→Pv i σ H→g x σ H fun σ2 H2=>tb {D with nx:=Pv (i+1),ct:=Pv (i+1),bk:=D.nx} σ2 H2) (hd:∀σ H,Pv xs.length σ H→D.nx σ H):Lg g tb D σ (Itl K a) H:=Tg Pv h0 hl hs hd
theorem J2n{t u:TS}(h:∀rest:St→Hp→Prop,rest=u D→t {D with nx:=rest} σ H):J3o t u D σ H:=h _ rfl
theorem Y2{rest r:St→Hp→Prop}(h:rest=r)(q:r σ H):rest σ H:=by rw [h];exact q
theorem Y3{a:Addr}{ns:List Int}{k:Int}{R:List Int→Prop}(h:SqL K H a (ns.map V.int))(h0:0≤k)(hl:ns.length≤63)(q:R ns):∃x:List Int,SqL K H a (x.map V.int)∧0≤k∧x.length≤63∧R x:=⟨ns,h,h0,hl,q⟩
theorem Eg{i j:Int}(h1:0 < j)(h2:j < 1073741824):J3y i j:=⟨h1,h2⟩
theorem Y4{i j:Int}(h1:0≤j)(h2:j≤1000000)(h3:i.natAbs < 2 ^ 64):J3z i j:=⟨h1,h2,h3⟩
theorem J2o{i j:Int}(h1:-(2 ^ 64) < i)(h2:i < 2 ^ 64):Ti i j:= .inl ⟨h1,h2⟩
theorem Uz{i j:Int}(h1:-(2 ^ 64) < j)(h2:j < 2 ^ 64):Ti i j:= .inr ⟨h1,h2⟩
end
end L2
namespace L2
section
variable {P:Program} {w:World} {H:Hp} {h:Heap} {a:Addr} {o:HO}
theorem Ak.there(x:Ak P w H h a o):∃ob,h.get? a=some ob:=by
 cases o with
 | lst xs=>obtain ⟨_,_,_,_,e⟩:=x;exact ⟨_,e⟩
 | tup xs=>obtain ⟨_,_,_,_,e,_⟩:=x;exact ⟨_,e⟩
 | dK kvs=>obtain ⟨_,_,_,_,_,_,_,e,_⟩:=x;exact ⟨_,e⟩
 | dT kvs=>obtain ⟨_,_,_,_,_,_,_,e,_⟩:=x;exact ⟨_,e⟩
 | set S n=>obtain ⟨_,_,_,_,e,_⟩:=x;exact ⟨_,e⟩
 | ins C dx fs=>obtain ⟨_,_,_,e,_⟩:=x;exact ⟨_,e⟩
 | own y=>exact x
 | xd fs=>obtain ⟨_,⟨_,_,_,e,_⟩,_⟩:=x;exact ⟨_,e⟩
 | rng lo hi=>obtain ⟨_,_,_,e⟩:=x;exact ⟨_,e⟩
 | frz ob u=>exact ⟨_,x.1⟩
 | tbl ps=>exact ⟨_,x⟩
 | met f y=>exact ⟨_,x⟩
 | ext φ=>exact x.2.1
theorem HOk.there(x:HOk P w H h)(e:H a=some o):∃ob,h.get? a=some ob:=(x a o e).there
end
def Cv(fs:List Addr)(H':Hp)(g h B:Heap):Prop:=∀b o,h.get? b=some o→b∉fs→(H' b≠none∨∃u,g.get? b=some u)→B.get? b=some o
section
variable {P:Program} {w:World}
theorem Eh{fs:List Addr}{H0 H':Hp}{g h h3 B:Heap}(u:Un fs [] H0 H' g h)(ok:HOk P w H' h)
 (hfr:∀b∈fs,∃o,g.get? b=some o∧∀vs,o.data≠ .fields vs) (hf0:∀b∈fs,H0 b=none) (hB:Cv fs H' g h B) (st:B.StaysIn h3) (up:h.UpToSlots h3):
 Un fs [] H0 H' g h3∧HOk P w H' h3∧Cv fs H' g h3 B:=by
 have fr':∀b∈fs,H' b=none:=fun b hb=>by
  obtain ⟨o,ho,_⟩:=hfr b hb;exact u.free b o ho (hf0 b hb) (by simp)
 have tr:∀b o,H' b=some o→b∉fs:=fun b o e hb=>by rw [fr' b hb]at e;cases e
 have kp:∀b ob,h.get? b=some ob→b∉fs→(H' b≠none∨∃u,g.get? b=some u)→h3.get? b=some ob:=fun b ob e n c=>st b ob (hB b ob e n c)
 have sl:∀b o,g.get? b=some o→H0 b=none→b∈fs→b∉([]:List Addr)→∃sl,h3.get? b=some {o with slots:=sl}:=fun b o e n hb hx=>by
  obtain ⟨sl,e1⟩:=u.slot b o e n hb hx;obtain ⟨o',e',d⟩:=hfr b hb;rw [e]at e';cases e';obtain ⟨sl2,e2⟩:=up b _ e1 d;exact ⟨sl2,e2⟩
 refine ⟨⟨fun b o e n hb hx=>kp b o (u.keep b o e n hb hx) hb (.inr ⟨o,e⟩),sl,u.free,fun b o e hx=>?_,u.tups,u.frzs,u.tbls⟩,fun a o e=>?_,fun b o e hb c=>?_⟩
 · by_cases hb:b∈fs
   · obtain ⟨s1,e1⟩:=sl b o e (hf0 b hb) hb hx
     exact ⟨_,e1⟩
   · obtain ⟨o',e1⟩:=u.there b o e hx
     exact ⟨o',kp b o' e1 hb (.inr ⟨o,e⟩)⟩
 · refine (ok a o e).stay (fun b v hc q=>kp b v q ?_ (.inl ?_)) (fun _ q=>q) fun _ _ q=>q
   · rcases hc with rfl | hc
     · exact tr _ _ e
     · exact tr _ _ hc
   · rcases hc with rfl | hc
     · rw [e];simp
     · rw [hc];simp
 · have z:∃o1,h.get? b=some o1:=by
    rcases c with c | ⟨u0,e0⟩
    · cases q:H' b with
      | none=>exact absurd q c
      | some v=>exact ok.there q
    · exact u.there b u0 e0 (by simp)
   obtain ⟨o1,e1⟩:=z;have e2:=kp b o1 e1 hb c;rw [e]at e2;cases e2;exact hB b o e1 hb c
end
section
variable {X:Cx} {pins:List (Addr×Obj)} {σ:St} {H1 H2:Hp} {s1:Shared} {h2 h3 B:Heap}
theorem Inv.frm(I:Inv X pins σ H1 s1):∀b∈frs X.stack,∃o,s1.heap.get? b=some o∧∀vs,o.data≠ .fields vs:=fun b hb=>(I.stack.mem hb).2
theorem Ie(I:Inv X pins σ H1 s1)(hex:X.ex=[])(u:Un (frs X.stack) [] H1 H2 s1.heap h2)(ok:HOk X.prog X.w H2 h2)(hB:Cv (frs X.stack) H2 s1.heap h2 B)(st:B.StaysIn h3)(up:h2.UpToSlots h3):
 Un X.fs [] X.H₀ H2 X.s₀.heap h3∧HOk X.prog X.w H2 h3∧Cv X.fs H2 X.s₀.heap h3 B:=by
 obtain ⟨U,ok3,hB3⟩:=Eh u ok I.frm I.stkFree hB st up;have bs:=I.base;rw [hex]at bs;have nl:∀b o,X.s₀.heap.get? b=some o→b≠X.env.locals:=fun b o e=>Ff (Fc (Fh e) I.ok.above);have ns:∀b o,X.s₀.heap.get? b=some o→b∉X.fs→b∉frs X.stack:=fun b o e n hb=>(FD.mp (I.stkSub b hb)).elim (nl b o e) n
 have sub:∀b∈X.fs,b∈frs X.stack:=fun b hb=>by
  rcases I.ok.stk with e | ⟨e,hf⟩
  · rw [e];exact hb
  · rw [e];unfold frs;rw [Hf,hf];exact Fp _ hb
 have nt:∀b,H2 b≠none→b∉frs X.stack:=fun b c hb=>by
  obtain ⟨o,ho,_⟩:=I.frm b hb;exact c (U.free b o ho (I.stkFree b hb) (by simp))
 refine ⟨⟨fun b o e n hb hx=>?_,fun b o e n hb hx=>?_,fun b o e n hx=>?_,fun b o e hx=>?_,fun b xs e=>U.tups b xs (bs.tups b xs e),fun b o v e=>U.frzs b o v (bs.frzs b o v e),fun b ps e=>?_⟩,ok3,fun b o e hb c=>?_⟩
 · exact U.keep b o (bs.keep b o e n hb hx) (bs.free b o e n hx) (ns b o e hb) hx
 · obtain ⟨sl,e1⟩:=bs.slot b o e n hb hx
   obtain ⟨sl2,e2⟩:=U.slot b _ e1 (bs.free b o e n hx) (sub b hb) hx;exact ⟨sl2,e2⟩
 · obtain ⟨o',e1⟩:=bs.there b o e hx
   exact U.free b o' e1 (bs.free b o e n hx) hx
 · obtain ⟨o',e1⟩:=bs.there b o e hx
   exact U.there b o' e1 hx
 · obtain ⟨m1,e1⟩:=bs.tbls b ps e
   obtain ⟨m2,e2⟩:=U.tbls b _ e1;exact ⟨m1++m2,by rw [e2,Array.append_assoc]⟩
 · rcases c with c | ⟨v,e0⟩
   · exact hB3 b o e (nt b c) (.inl c)
   · obtain ⟨o',e1⟩:=bs.there b v e0 (by simp)
     exact hB3 b o e (ns b v e0 hb) (.inr ⟨o',e1⟩)
end
end L2
namespace L2
def J2p(C:Addr)(EE:St→XK)(t:TA):TS:=fun _ σ H=>t σ H fun vs H1=>vs.length≤sizeLine∧∀x,H1 x=none→EE σ (.ref C) (some x) H1
def Bl(CX:CXT)(X:Cx)(EE:St→XK):Prop:=∀(pins:List (Addr×Obj)) (σ:St) (H:Hp) (s:Shared) (e:Value) (s':Shared),Inv X pins σ H s→CX X.stack H s (EE σ) e s'→X.xe e s'
def V0(sp:Sp)(EE:St→XK)(t:TA):TE:=fun σ H Q=>t σ H fun vs H1=>sp vs H1 Q (EE σ)
section
variable {X:Cx} {CX:CXT} {k j:Nat} {ps:List Str} {sp:Sp} {EE:St→XK} {x:Str} {p pos:Pos} {e:Expr} {es:List Expr} {t:TA}
theorem V1(D:Def X.prog X.w X.K X.mg X.base CX j x ps sp)(hr:B0 k X.A)(hg:Gl X x)(hx:Bl CX X EE)(ha:PA X (e::es) t)(hj:j≤k:=by decide)
 (hdb:(x==("__debug__":Str))=false:=by decide) (he:starEach (e::es) X.env=(false,eval e X.env)::starEach es X.env:=by rfl) (hpl:(backTo pos (starEach es X.env)).any (·.1)=false:=by rfl):
 PE X (.Call (.Name x p) (e::es) [] pos) (V0 sp EE t):=by
 obtain ⟨f,fd,F,hm,hk,hb⟩:=D.ex;intro pins s σ H Q I h;refine FU (C6 I hg hm ?_ hdb);refine Hc (h₀:=X.base) I.ok.mod.kin hk (thn (ha pos pins s σ H _ I h) fun us s1 ⟨vs,H1,I1,r,q⟩=>⟨I1.kIn,?_⟩) he hpl
 have hl:us.length=ps.length:=by rw [← r.length];exact F.len _ _ _ _ q
 have hb':BindsTo s1 fd ⟨us,[]⟩ (ps.zip us):=by
  have z:=hb s1 us I1.kIn (by rw [FF];exact hl);rw [FF]at z;exact z
 refine Hv (Hh (F.run X.A X.stack s1 H1 ⟨us,[]⟩ us vs Q (EE σ) (hr.mono hj) I1.env0 hb' r q) fun rs s' hq=>?_)
 cases rs with
 | error ev=>exact hx pins σ H1 s1 ev s' I1 hq
 | ok fl=>
  cases fl with
  | ret u=>exact I1.after hq
  | next=>exact False.elim hq
  | brk=>exact False.elim hq
  | cont=>exact False.elim hq
end
structure Air(X:Cx)(pins:List (Addr×Obj))(σ:St)(H:Hp)(x:Addr)(cls:Value)(s:Shared):Prop where
 ex:∃(H0:Hp) (s0:Shared) (a0:Value) (B:Heap),Inv X pins σ H0 s0∧s.os=s0.os∧AllBare s.gens∧Un (frs X.stack) [] H0 H s0.heap s.heap∧HOk X.prog X.w H s.heap∧
  Heap.FlyingW B X.stack x cls a0 s.heap∧Cv (frs X.stack) H s0.heap s.heap B∧H x=none∧s0.heap.get? x=none
section
variable {X:Cx} {pins:List (Addr×Obj)} {σ:St} {H:Hp} {x:Addr} {cls:Value} {s:Shared}
theorem Air.inv(Z:Air X pins σ H x cls s):Inv X pins σ H s:=by
 obtain ⟨H0,s0,a0,B,I,os,bare,u,ok,fl,hB,hx,hn⟩:=Z.ex;exact I.call' os u ok bare fun b hb=>absurd hb (by simp)
theorem Air.obj(Z:Air X pins σ H x cls s):∃ob vs,s.heap.get? x=some ob∧ob.cls=cls∧ob.data= .fields vs:=by
 obtain ⟨H0,s0,a0,B,I,os,bare,u,ok,fl,hB,hx,hn⟩:=Z.ex;obtain ⟨oe,vs,h1,h2,h3,_⟩:=fl.first;exact ⟨oe,vs,h1,h2,h3⟩
end
abbrev Cx.sui(X:Cx)(x:Addr):Cx:={X with A:=X.A.mark (some (.ref x)),calm:=false,xe:=fun _ _=>False}
section
variable {X:Cx} {pins:List (Addr×Obj)} {σ:St} {H:Hp} {x:Addr} {cls:Value} {s:Shared}
theorem Cx.Ok.sui(ok:X.Ok)(x:Addr):(X.sui x).Ok:=
 ⟨ok.mod,ok.kind,ok.glob,ok.blt,ok.above,ok.inj,ok.has,ok.cab,fun z=>(by cases z),ok.frames,ok.stk,ok.exf,ok.bs,ok.bsz,ok.noex,ok.exfs,ok.funs,ok.frf⟩
theorem Inv.sui(I:Inv X pins σ H s)(x:Addr):Inv (X.sui x) pins σ H s:=⟨I.ok.sui x,I.os,I.bare,I.base,I.loc,I.cell,I.free,I.freeC,I.pin,I.hok,I.len⟩
theorem Inv.unsui(I0:X.Ok)(I:Inv (X.sui x) pins σ H s):Inv X pins σ H s:=⟨I0,I.os,I.bare,I.base,I.loc,I.cell,I.free,I.freeC,I.pin,I.hok,I.len⟩
theorem SP.unsui(I0:X.Ok){D:Cc}{f:Flow}{s':Shared}(h:SP (X.sui x) pins D f s'):SP X pins D f s':=by
 cases f with
 | next=>obtain ⟨σ',H',I,q⟩:=h;exact ⟨σ',H',I.unsui I0,q⟩
 | brk=>obtain ⟨σ',H',I,q⟩:=h;exact ⟨σ',H',I.unsui I0,q⟩
 | cont=>obtain ⟨σ',H',I,q⟩:=h;exact ⟨σ',H',I.unsui I0,q⟩
 | ret u=>obtain ⟨v,σ',H',I,r,q⟩:=h;exact ⟨v,σ',H',I.unsui I0,r,q⟩
end
abbrev TH:=Value→Addr→TS
def J4k:TH:=fun _ _ _ _ _=>False
section
variable {X:Cx} {C:Str} {c:Value} {np pos:Pos} {b₀:Stmt} {suite:List Stmt} {rest:List ExceptHandler} {ts:TS} {tr:TH}
theorem Mi{pins:List (Addr×Obj)}{s:Shared}{σ:St}{H:Hp}{x:Addr}{cls:Value}{b:Bool}{R:Result→Shared→Prop}(Z:Air X pins σ H x cls s)(hv:∀(Q:Value→Shared→Prop) (E:Value→Shared→Prop),Q c s→wpAny (model X.prog X.w) (X.A.mark (some (.ref x))) (eval (.Name C np) X.env) Q E s)
 (e:PySem.W.exmOne X.K cls c=some b) (h:R (.ok (if b then .brk else .next)) s):
 codeAny (model X.prog X.w) (X.A.mark (some (.ref x))) (.handlers (.ref x) [.ExceptHandler (some (.Name C np)) none [] pos] X.env) R s:=by
 refine codeAny_handlers_test (hv _ _ ?_);obtain ⟨ob,vs,h1,h2,_⟩:=Z.obj;have LT:PySem.W.Looks (model X.prog X.w) s.heap (typeOf (.ref x)) cls:=h2▸(PySem.W.Looks.ld h1).andThen .now;exact (PySem.W.exm_one Z.inv.kIn LT e).here h
end
def Y5(x:Addr)(cls:Value):HO:= .ext fun h=>∃ob vs,h.get? x=some ob∧ob.cls=cls∧ob.data= .fields vs
section
variable {X:Cx} {pins:List (Addr×Obj)} {σ:St} {H:Hp} {x:Addr} {cls:Value} {s:Shared}
theorem Dv{i:Nat}{n:Str}{M:Model}{A:Around}{E:Value→Shared→Prop}{pos:Pos}{Q:Unit→Shared→Prop}(I:Inv X pins σ H s)(hN:X.N.Nodup)(hi:X.N[i]?=some n)(hl:X.env.kindOf n=some .local)
 (h:∀s',Inv X pins (σ.set i none) H s'→Q () s'):wpAny M A (do bindName X.env n .none;unbindBehindTheSuite X.env n pos) Q E s:=by
 obtain ⟨m,hn,hm⟩:=id I.loc;refine wpAny_nameGoes_keeps hl hn (by rw [I.ok.kind];rfl) fun h' v hn' hs=>h _ ?_;obtain ⟨oL,_,_,hoL,_⟩:=id hn;have nL:∀b o,X.s₀.heap.get? b=some o→b≠X.env.locals:=fun b o e=>Ff (Fc (Fh e) I.ok.above);refine ⟨I.ok,I.os,I.bare,⟨fun b o e n hb hx=>(hs.2 b (nL b o e)).trans (I.base.keep b o e n hb hx),fun b o e n hb hx=>?_,I.base.free,fun b o e hx=>?_,I.base.tups,I.base.frzs,I.base.tbls⟩,⟨_,hn',fun j y v' e1 e2 e3=>?_⟩,fun y c e=>?_,I.free,I.freeC,fun p hp=>?_,fun b o e=>?_,by simpa using I.len⟩
 · obtain ⟨sl,e1⟩:=I.base.slot b o e n hb hx
   exact ⟨sl,(hs.2 b (nL b o e)).trans e1⟩
 · obtain ⟨o',e1⟩:=I.base.there b o e hx
   exact ⟨o',(hs.2 b (nL b o e)).trans e1⟩
 · have hj:j≠i:=by
    rintro rfl
    by_cases hlt:j < σ.length
    · rw [R5 hlt]at e2;cases e2
    · rw [HC (by rw [R8];omega)]at e2;cases e2
   rw [Re (Ne.symm hj)]at e2;obtain ⟨u',r',q⟩:=hm j y v' e1 e2 e3;refine ⟨u',r',?_⟩;rcases q with ⟨k,e⟩ | ⟨k,c,e,z⟩
   · have ny:y≠n:=fun z=>hj (Gw hN e1 (z▸hi))
     exact .inl ⟨k,by simp [ny,e]⟩
   · exact .inr ⟨k,c,e,z.sameBut hs (I.cne y c e)⟩
 · obtain ⟨w',z⟩:=I.cell y c e
   exact ⟨w',z.sameBut hs (I.cne y c e)⟩
 · obtain ⟨e,n1,ne,nf,d⟩:=I.pin p hp
   exact ⟨(hs.2 p.1 ne).trans e,n1,ne,nf,d⟩
 · refine (I.hok b o e).stay (fun c w' hc q=>(hs.2 c ?_).trans q) (fun _ q=>q) fun _ _ q=>q
   rintro rfl;rcases hc with z | hc
   · rw [← z,I.free]at e;cases e
   · rw [I.free]at hc;cases hc
end
def Ig(i:Nat)(D:Cc):Cc:={nx:=fun σ H=>D.nx (σ.set i none) H,rt:=D.rt,bk:=fun σ H=>D.bk (σ.set i none) H,ct:=fun σ H=>D.ct (σ.set i none) H}
abbrev Cx.tryX(X:Cx)(pn:List (Addr×Obj))(xe:Value→Shared→Prop):Cx:={X with pn:=pn,xe:=xe}
section
variable {X:Cx} {body:List Stmt} {h₀:ExceptHandler} {hs:List ExceptHandler} {pos:Pos} {tb:(St→XK)→TS} {th:TH} {pins:List (Addr×Obj)} {σ:St} {H:Hp} {s:Shared} {pn:List (Addr×Obj)} {xe:Value→Shared→Prop}
theorem Inv.tryIn(I:Inv X pins σ H s)(xe:Value→Shared→Prop):Inv (X.tryX (X.pn++pins) xe) [] σ H s:=
 ⟨⟨I.ok.mod,I.ok.kind,I.ok.glob,I.ok.blt,I.ok.above,I.ok.inj,I.ok.has,I.ok.cab,I.ok.hd,I.ok.frames,I.ok.stk,I.ok.exf,I.ok.bs,I.ok.bsz,I.ok.noex,I.ok.exfs,I.ok.funs,I.ok.frf⟩,I.os,I.bare,I.base,I.loc,I.cell,I.free,I.freeC,fun p hp=>I.pin p (by simpa using hp),I.hok,I.len⟩
theorem Inv.tryOut{pl:List (Addr×Obj)}(I0:X.Ok)(I:Inv (X.tryX (X.pn++pins) xe) pl σ H s):Inv X pins σ H s:=
 ⟨I0,I.os,I.bare,I.base,I.loc,I.cell,I.free,I.freeC,fun p hp=>I.pin p (Hq _ hp),I.hok,I.len⟩
theorem SP.tryOut{pl:List (Addr×Obj)}(I0:X.Ok){D:Cc}{f:Flow}{s':Shared}(h:SP (X.tryX (X.pn++pins) xe) pl D f s'):SP X pins D f s':=by
 cases f with
 | next=>obtain ⟨σ',H',I,q⟩:=h;exact ⟨σ',H',I.tryOut I0,q⟩
 | brk=>obtain ⟨σ',H',I,q⟩:=h;exact ⟨σ',H',I.tryOut I0,q⟩
 | cont=>obtain ⟨σ',H',I,q⟩:=h;exact ⟨σ',H',I.tryOut I0,q⟩
 | ret u=>obtain ⟨v,σ',H',I,r,q⟩:=h;exact ⟨v,σ',H',I.tryOut I0,r,q⟩
end
end L2
namespace L2
open PySem.W
def J4l(K:Frag):List V→Hp→VK→Prop:=fun xs H Q=>∃p cls n,xs=[.ref p,.ty n]∧H p=some (Y5 p cls)∧kitOne K cls (.type n)=some true∧Q (.bl true) H
def Ci(es:Array DictEntry):Bool:=es.toList.all fun e=>match e.key with
 | .str _ _=>true
 | _=>false
theorem Oh{es:Array DictEntry}(h:Ci es=true):StrKeys es:=fun e he=>by
 have z:=FV.mp h e (by simpa using he)
 cases k:e.key with
 | str n t=>exact ⟨n,t,rfl⟩
 | _=>rw [k]at z;cases z
theorem J10{K:Frag}{h:Heap}{N:Addr}{oc:Value}{od:Option Addr}{es:Array DictEntry}{ep:Nat}{sl:Array (Option Value)}(X:K.In h)(l:K.lookup N=some ⟨oc,od,.dict es ep,sl⟩)(k:Ci es=true):h.Ns N (nsFind es):=
 ⟨_,es,ep,X _ _ l,rfl,Oh k,fun _=>rfl⟩
theorem Y6{K:Frag}{C:Addr}{cls:Value}{b:Bool}{cd:ClassData}(s1:subIn K (.ref C) (.type "BaseException")=some true)(c1:clsIn K C=some cd)(t1:typeIn K (.ref C)=some (.type "type"))(s2:subIn K cls (.ref C)=some b):exmOne K cls (.ref C)=some b:=by
 unfold exmOne kitCls;dsimp only;rw [s1,c1,t1];exact s2
section
variable {σ:St} {H:Hp} {Q:VK} {D:Cc} {K:Frag}
theorem Mj{C:Addr}{EE:St→XK}{t:TA}:J2p C EE t D σ H=t σ H fun vs H1=>vs.length≤sizeLine∧∀x,H1 x=none→EE σ (.ref C) (some x) H1:=rfl
theorem Ml{sp:Sp}{EE:St→XK}{t:TA}:V0 sp EE t σ H Q=t σ H fun vs H1=>sp vs H1 Q (EE σ):=rfl
theorem Ps{cls:Value}{x:Addr}:J4k cls x D σ H=False:=rfl
theorem Pt{i:Nat}:Ig i D={nx:=fun σ H=>D.nx (σ.set i none) H,rt:=D.rt,bk:=fun σ H=>D.bk (σ.set i none) H,ct:=fun σ H=>D.ct (σ.set i none) H}:=rfl
theorem Pu{xs:List V}:J4l K xs H Q=∃p cls n,xs=[.ref p,.ty n]∧H p=some (Y5 p cls)∧kitOne K cls (.type n)=some true∧Q (.bl true) H:=rfl
end
end L2
namespace L2
theorem Ei{prog:Program}{w:World}{A:Around}{R:Result→Shared→Prop}{s:Shared}{elt target iter:Expr}{ifs:List Expr}{scope:Scope}{pos:Pos}{it acc:Value}{env:Env}(I:Nat→Shared→Prop)
 (turn:∀n s,I n s→wpAny (model prog w) A (pyNext it) (fun r s₁=>match r with
  | none=>R (.ok .next) s₁
  | some v=>wpAny (model prog w) A (letOwnedTupleGo target it v) (fun _ s₁=>wpAny (model prog w) A (assign target env v) (fun _ s₂=>
   wpAny (model prog w) A (forIn ifs true fun c r=>if r=true then do let ok ← isTrue c env (eval c env);pure (ForInStep.yield ok) else pure (ForInStep.yield r)) (fun ok s₃=>
    if ok=true then wpAny (model prog w) A (eval elt env) (fun x s₄=>
     wpAny (model prog w) A (call (.builtin "list.append") [acc,x]) (fun _ s₅=>∃m,m < n∧I m s₅) (notedBy (model prog w) A env fun e s'=>R (.error e) s') s₄) (notedBy (model prog w) A env fun e s'=>R (.error e) s') s₃
    else ∃m,m < n∧I m s₃) (notedBy (model prog w) A env fun e s'=>R (.error e) s') s₂) (notedBy (model prog w) A env fun e s'=>R (.error e) s') s₁) (notedBy (model prog w) A env fun e s'=>R (.error e) s') s₁) (notedBy (model prog w) A env fun e s'=>R (.error e) s') s)
 (n:Nat) (h:I n s):
 codeAny (model prog w) A (.compLoop (.ListComp elt [⟨target,iter,ifs,0⟩] scope pos) 0 it acc env) R s:=by
 refine codeAny_loop rfl I (fun n s hI=>?_) n h;show wpAny _ A ((compTurn (.ListComp elt [⟨target,iter,ifs,0⟩] scope pos) 0 it acc env).onRaise (fun x=>do noteFrame x env;theTreesLotGoes x)) _ _ s;refine wpAny_noted ?_;rw [compTurn_list];refine Fd (HS (Fd (FE (turn n s hI) (fun r s₁ h₁=>?_) fun _ _ h'=>h')))
 cases r with
 | none=>exact Fu h₁
 | some v=>
  refine Fd (FE h₁ (fun _ s₁ h₁=>?_) fun _ _ h'=>h');refine Fd (FE h₁ (fun _ s₂ h₂=>Fd (FE h₂ (fun ok s₃ h₃=>?_) fun _ _ h'=>h')) fun _ _ h'=>h')
  cases ok with
  | false=>exact Fu ⟨rfl,h₃⟩
  | true=>
   exact Fd (Fd (FE h₃ (fun x s₄ h₄=>Fd (FE h₄ (fun _ s₅ h₅=>Fu (Fu ⟨rfl,h₅⟩)) fun _ _ h'=>h')) fun _ _ h'=>h'))
def clo(env:Env):List (Str×NameKind)→List (Str×Addr)→List (Str×Addr)
 | [],cs=>cs
 | (n,k)::r,cs=>clo env r (if (k== .free)=true then (match env.cells.lookup n with | some c=>(n,c)::cs | none=>cs) else cs)
theorem Mm{env:Env}:∀(names:List (Str×NameKind)) (cs:List (Str×Addr)),(∀y∈names,y.2= .free→∃c,env.cells.lookup y.1=some c)→
 (forIn (m:=Sem) names cs fun (x:Str×NameKind) (r:List (Str×Addr))=>match x with | (name,kind)=>if (kind== .free)=true then do let c ← cellOf env name;pure (ForInStep.yield ((name,c)::r)) else pure (ForInStep.yield r))=pure (clo env names cs)
 | [],cs,_=>rfl
 | (n,k)::r,cs,h=>by
  rw [List.forIn_cons];have ih:=fun cs=>Mm r cs fun y hy=>h y (Fp _ hy)
  by_cases hk:(k==NameKind.free)=true
  · obtain ⟨c,hc⟩:=h (n,k) Fq (by simpa using hk)
    have e:cellOf env n=pure c:=by unfold cellOf;rw [show env.cells.lookup n=some c from hc]
    simp only [hk,if_true,e,clo];rw [show env.cells.lookup n=some c from hc];exact ih _
  · simp only [hk,clo]
    exact ih _
theorem Dj{scope:Scope}{env:Env}(h:∀y∈scope.names,y.2= .free→∃c,env.cells.lookup y.1=some c):closureFor scope env=pure (clo env scope.names []):=by
 unfold closureFor;show (forIn (m:=Sem) scope.names ([]:List (Str×Addr)) _ >>=fun r=>pure r)=_;rw [Mm scope.names [] h];rfl
theorem G3{env:Env}{x:Str}{c:Addr}:∀(names:List (Str×NameKind)) (cs:List (Str×Addr)),(clo env names cs).lookup x=some c→env.cells.lookup x=some c∨cs.lookup x=some c
 | [],cs,h=> .inr h
 | (n,k)::r,cs,h=>by
  unfold clo at h;rcases G3 r _ h with q | q
  · exact .inl q
  · split at q
    · split at q
      · rename_i c' hc
        rw [FL]at q
        cases hx:x==n with
        | true=>
         rw [hx]at q
         have e:x=n:=by simpa using hx
         subst e;simp only [Option.some.injEq]at q;subst q;exact .inl hc
        | false=>rw [hx]at q;exact .inr q
      · exact .inr q
    · exact .inr q
theorem Lj{env:Env}{x:Str}{c:Addr}(hc:env.cells.lookup x=some c):∀(names:List (Str×NameKind)) (cs:List (Str×Addr)),(cs.lookup x=some c∨(cs.lookup x=none∧(x,NameKind.free)∈names))→(clo env names cs).lookup x=some c
 | [],cs,h=>by
  rcases h with h | ⟨_,h⟩
  · exact h
  · cases h
 | (n,k)::r,cs,h=>by
  unfold clo;refine Lj hc r _ ?_
  by_cases hx:x=n
  · subst hx
    by_cases hk:(k==NameKind.free)=true
    · rw [if_pos hk,hc]
      exact .inl (by simp [FL])
    · rw [if_neg hk]
      rcases h with h | ⟨h1,h2⟩
      · exact .inl h
      · refine .inr ⟨h1,?_⟩
        rcases FD.mp h2 with e | e
        · cases e;exact absurd rfl hk
        · exact e
  · have hb:(x==n)=false:=by simpa using hx
    have key:∀cs':List (Str×Addr),cs'.lookup x=cs.lookup x→(cs'.lookup x=some c∨(cs'.lookup x=none∧(x,NameKind.free)∈r)):=fun cs' e=>by
     rw [e];rcases h with h | ⟨h1,h2⟩
     · exact .inl h
     · refine .inr ⟨h1,?_⟩
       rcases FD.mp h2 with e | e
       · cases e;exact absurd rfl hx
       · exact e
    refine key _ ?_;split
    · split
      · simp [FL,hb]
      · rfl
    · rfl
theorem Cw{env:Env}{k':NameKind}:∀{names:List (Str×NameKind)} {x:Str},(∀y∈names,y.2≠ .cell)→
 (names.map fun (n,k)=>if (k==NameKind.free && env.scope.kind== .function && env.kindOf n==some .cell) then (n,NameKind.cell) else (n,k)).lookup x=some k'→(k'= .cell∨k'= .free)→(x,NameKind.free)∈names
 | [],_,_,h,_=>by simp at h
 | (n,k)::r,x,hc,h,hk=>by
  have ih:=@Cw env k' r x (fun y hy=>hc y (Fp _ hy));have h':List.lookup x ((if (k==NameKind.free && env.scope.kind== .function && env.kindOf n==some .cell)=true then (n,NameKind.cell) else (n,k))::(r.map fun (n,k)=>if (k==NameKind.free && env.scope.kind== .function && env.kindOf n==some .cell) then (n,NameKind.cell) else (n,k)))=some k':=h
  by_cases hx:x=n
  · subst hx
    by_cases q:(k==NameKind.free && env.scope.kind== .function && env.kindOf x==some .cell)=true
    · have:k= .free:=by simp only [R1,R3]at q;exact q.1.1
      subst this;exact Fq
    · rw [if_neg q,FL]at h'
      simp only [HD]at h';have e:k=k':=FM h';rcases hk with z | z
      · exact absurd (e.trans z) (hc (x,k) Fq)
      · rw [e.trans z];exact Fq
  · have hb:(x==n)=false:=by simpa using hx
    refine Fp _ (ih ?_ hk);split at h'
    · rw [FL,hb]at h';exact h'
    · rw [FL,hb]at h';exact h'
theorem Bw{env:Env}:∀{names:List (Str×NameKind)} {x:Str},names.lookup x=some .free→
 (names.map fun (n,k)=>if (k==NameKind.free && env.scope.kind== .function && env.kindOf n==some .cell) then (n,NameKind.cell) else (n,k)).lookup x=some .cell∨
 (names.map fun (n,k)=>if (k==NameKind.free && env.scope.kind== .function && env.kindOf n==some .cell) then (n,NameKind.cell) else (n,k)).lookup x=some .free
 | [],_,h=>by simp at h
 | (n,k)::r,x,h=>by
  have ih:=@Bw env r x;show List.lookup x ((if (k==NameKind.free && env.scope.kind== .function && env.kindOf n==some .cell)=true then (n,NameKind.cell) else (n,k))::_)=_∨List.lookup x ((if (k==NameKind.free && env.scope.kind== .function && env.kindOf n==some .cell)=true then (n,NameKind.cell) else (n,k))::_)=_
  cases hx:x==n with
  | true=>
   simp only [FL,hx]at h;cases h;split
   · left;simp [FL,hx]
   · right;simp [FL,hx]
  | false=>
   simp only [FL,hx]at h;split
   · simp only [FL,hx];exact ih h
   · simp only [FL,hx];exact ih h
structure Blk where
 s:Shared
 H:Hp
 C:Addr
 fp:List Addr
abbrev Cx.blk(X:Cx)(scope:Scope)(N':List Str)(b:Blk):Cx:=
 {X with N:=N',s₀:=b.s,H₀:=b.H,env:=compEnvC scope (clo X.env scope.names []) b.C X.env,outer:=X.stack,ex:=b.fp,fn:=fun _=>false,pn:=[],xe:=fun _ _=>False}
def around(N:List Str)(fs:List Nat):List Str:=fs.map fun j=>N.getD j ""
def B8(N:List Str)(esc scope:Scope)(xs:List Str)(fs:List Nat):Bool:=
 decide (xs++around N fs).Nodup && (match scope.kind with | .function=>true | _=>false) && xs.all (fun x=>decide (scope.names.lookup x=some .local)) &&
 scope.names.all (fun y=>decide (y.2≠ .cell) && (!decide (y.2= .local) || decide (scope.names.lookup y.1=some .local)) && (!decide (y.2= .free) || decide (esc.names.lookup y.1=some .cell) || decide (esc.names.lookup y.1=some .free))) &&
 fs.all fun j=>decide (j < N.length) && decide (scope.names.lookup (N.getD j "")=some .free)
structure Ih(N:List Str)(esc scope:Scope)(xs:List Str)(fs:List Nat):Prop where
 nd:(xs++around N fs).Nodup
 kind:scope.kind= .function
 own:∀x∈xs,scope.names.lookup x=some .local
 cell:∀y∈scope.names,y.2≠ .cell
 names:∀y∈scope.names,y.2= .local→scope.names.lookup y.1=some .local
 free:∀y∈scope.names,y.2= .free→esc.names.lookup y.1=some .cell∨esc.names.lookup y.1=some .free
 fs:∀j∈fs,j < N.length∧scope.names.lookup (N.getD j "")=some .free
theorem Bj{N:List Str}{esc scope:Scope}{xs:List Str}{fs:List Nat}(h:B8 N esc scope xs fs=true):Ih N esc scope xs fs:=by
 unfold B8 at h;simp only [R1,decide_eq_true_eq,FV]at h;obtain ⟨⟨⟨⟨h1,h2⟩,h3⟩,h4⟩,h5⟩:=h;refine ⟨h1,?_,h3,fun y hy=>(h4 y hy).1.1,fun y hy e=>?_,fun y hy e=>?_,h5⟩
 · split at h2
   · assumption
   · cases h2
 · have:=(h4 y hy).1.2
   simpa [e] using this
 · have:=(h4 y hy).2
   simpa [e] using this
section
variable {X:Cx} {pins:List (Addr×Obj)} {σ:St} {H:Hp} {s:Shared} {scope:Scope} {xs:List Str} {fs:List Nat} {fp:List Addr} {C:Addr}
theorem J2q(I:Inv X pins σ H s)(O:Ih X.N X.env.scope scope xs fs)(hf:∀b∈fp,Dc X pins H b)(hC:s.heap.objs.size≤C)(hfp:∀b∈fp,b < s.heap.objs.size):(X.blk scope (xs++around X.N fs) ⟨s,H,C,fp⟩).Ok:=by
 have hcl:∀x c,(clo X.env scope.names []).lookup x=some c→X.env.cells.lookup x=some c:=fun x c e=>by
  rcases G3 _ _ e with q | q
  · exact q
  · cases q
 have hsz:∀b o,X.base.get? b=some o→b < X.s₀.heap.objs.size:=fun b o e=>Fc (Fh e) I.ok.bsz;refine ⟨I.ok.mod,O.kind,I.ok.glob,I.ok.blt,hC,fun x y c h1 h2=>I.ok.inj x y c (hcl x c h1) (hcl y c h2),fun x hx=>?_,fun x c z=>(by cases z),I.ok.hd,I.ok.frames,.inl rfl,fun b hb=>⟨Ff (Fc (hfp b hb) hC),fun x c e=>(hf b hb).2.2.2.2.1 x c (hcl x c e)⟩,I.bs,FH I.ok.bsz I.sz,fun b o e hb=>?_,fun b hb hs=>?_,I.stack,I.stkFree⟩
 · have hm:(x,NameKind.free)∈scope.names:=by
    rcases hx with hx | hx
    · exact Cw (env:=X.env) O.cell (show (scope.names.map _).lookup x=some NameKind.cell from hx) (.inl rfl)
    · exact Cw (env:=X.env) O.cell (show (scope.names.map _).lookup x=some NameKind.free from hx) (.inr rfl)
   obtain ⟨c,hc⟩:=I.ok.has x (O.free _ hm rfl);exact ⟨c,Lj hc _ _ (.inr ⟨rfl,hm⟩)⟩
 · obtain ⟨_,_,_,h4,_⟩:=hf b hb
   rcases h4 with h4 | h4
   · exact I.ok.noex b o e h4
   · exact absurd (Fc (hsz b o e) h4) (Hg _)
 · obtain ⟨_,h2,h3,_⟩:=hf b hb
   exact (FD.mp (I.stkSub b hs)).elim h2 h3
theorem V2{h1:Heap}{t:Nat}{D:Addr}{m:Str→Option Value}(I:Inv X pins σ H s)(O:Ih X.N X.env.scope scope xs fs)(hf:∀b∈fp,Dc X pins H b)(hD:s.heap.objs.size≤D)(hC:s.heap.objs.size≤C)(hfp:∀b∈fp,b < s.heap.objs.size)(hDC:D≠C)
 (k:∀b u,s.heap.get? b=some u→h1.get? b=some u) (hDo:h1.get? D=some {cls:= .type "list",data:= .seq #[] 0}) (hn:h1.Ns C m):
 Inv (X.blk scope (xs++around X.N fs) ⟨s,H,C,fp⟩) [] (xs.map (fun _=>none)++fs.map fun j=>σ.getD j none) (upd H D (.lst [])) {s with heap:=h1,toks:=t}:=by
 have hcl:∀x c,(clo X.env scope.names []).lookup x=some c→X.env.cells.lookup x=some c:=fun x c e=>by
  rcases G3 _ _ e with q | q
  · exact q
  · cases q
 have ok:=J2q (C:=C) I O hf hC hfp;have hnD:H D=none:=I.hok.fresh hD;refine ⟨ok,rfl,I.bare,Un.laid k hD hnD,⟨m,hn,fun i x v e1 e2 e3=>?_⟩,fun x c e=>?_,?_,fun x c e=>?_,fun p hp=>absurd (show p∈([]:List (Addr×Obj)) from hp) (by simp),I.hok.laid k hD ⟨FY _,[],0,.nil,hDo⟩,by simp [around]⟩
 · by_cases hi:i < xs.length
   · rw [Fs (by simpa using hi),Fm]at e2
     cases q:xs[i]? with
     | none=>rw [q]at e2;cases e2
     | some a=>rw [q]at e2;cases e2
   · have hi:xs.length≤i:=Ro hi
     rw [Fv (by simpa using hi)]at e1 e2;unfold around at e1;rw [Fa]at e2;rw [Fm]at e1 e2
     cases q:fs[i - xs.length]? with
     | none=>rw [q]at e2;cases e2
     | some j=>
      rw [q]at e1 e2;simp only [R7,Option.some.injEq]at e1 e2;obtain ⟨hj,hl⟩:=O.fs j (Fk q);obtain ⟨m0,_,hl0⟩:=I.loc
      have e1':X.N[j]?=some x:=by rw [← e1,Fg,Fe hj];rfl
      have e2':σ[j]?=some (some v):=by
       rw [Fg]at e2
       cases z:σ[j]? with
       | none=>rw [z]at e2;cases e2
       | some y=>rw [z]at e2;simp only [Option.getD_some]at e2;rw [e2]
      rw [e1]at hl;have hm:(x,NameKind.free)∈scope.names:=Ft hl;have hk:=O.free _ hm rfl;obtain ⟨u,r,l⟩:=hl0 j x v e1' e2' (hk.elim (fun z=> .inr (.inl z)) fun z=> .inr (.inr z));refine ⟨u,r,?_⟩;rcases l with ⟨z,_⟩ | ⟨_,c,hc,cell⟩
      · have z':X.env.scope.names.lookup x=some .local:=z
        rcases hk with hk | hk <;> (rw [z']at hk;cases hk)
      · refine .inr ⟨?_,c,Lj hc _ _ (.inr ⟨rfl,hm⟩),?_⟩
        · exact Bw (env:=X.env) hl
        · obtain ⟨o,ho,hd⟩:=cell
          exact ⟨o,k _ _ ho,hd⟩
 · obtain ⟨v,o,ho,hd⟩:=I.cell x c (hcl x c e)
   exact ⟨v,o,k _ _ ho,hd⟩
 · show upd H D (.lst []) C=none
   rw [A0 (Ne.symm hDC)];exact I.hok.fresh hC
 · obtain ⟨v,q⟩:=I.cell x c (hcl x c e)
   rw [A0 (Ff (Fc q.lt hD))];exact I.freeC x c (hcl x c e)
theorem Lk{N':List Str}{σ':St}{H':Hp}{s':Shared}{h2:Heap}{pl:List (Addr×Obj)}(I:Inv X pins σ H s)(hf:∀b∈fp,Dc X pins H b)(hC:s.heap.objs.size≤C)(J:Inv (X.blk scope N' ⟨s,H,C,fp⟩) pl σ' H' s')(sb:Heap.SameBut C s'.heap h2):
 Inv X pins σ H' {s' with heap:=h2}:=by
 have u:=J.base;have ne:∀b o,s.heap.get? b=some o→b≠C:=fun b o e=>Ff (Fc (Fh e) hC);refine I.call' (ch:=fp) J.os ⟨fun b o e n h1 h2=>(sb.2 b (ne b o e)).trans (u.keep b o e n h1 h2),fun b o e n h1 h2=>?_,u.free,fun b o e hx=>?_,u.tups,u.frzs,u.tbls⟩ (fun a o e=>?_) J.bare fun b hb=>?_
 · obtain ⟨sl,q⟩:=u.slot b o e n h1 h2
   exact ⟨sl,(sb.2 b (ne b o e)).trans q⟩
 · obtain ⟨o',q⟩:=u.there b o e hx
   exact ⟨o',(sb.2 b (ne b o e)).trans q⟩
 · have fr:H' C=none:=J.free
   refine (J.hok a o e).stay (fun b v hc q=>(sb.2 b ?_).trans q) (fun _ q=>q) fun _ _ q=>q;rcases hc with rfl | hc
   · exact A3 e fr
   · exact A3 hc fr
 · obtain ⟨_,h2,h3,h4,h5,h6⟩:=hf b hb
   exact ⟨h4,h2,h5,h6⟩
end
end L2
namespace L2
def Y7(σ σ':St):Prop:=∀(i:Nat) (v:V),σ[i]?=some (some v)→σ'[i]?=some (some v)
def PTs(X:Cx)(ifs:List Expr)(t:TT):Prop:=
 ∀(pins:List (Addr×Obj)) (s:Shared) (σ:St) (H:Hp) (Q:Bool→Hp→Prop),Inv X pins σ H s→t σ H Q→
   wpAny (model X.prog X.w) X.A (forIn ifs true fun c r=>if r=true then do let ok ← isTrue c X.env (eval c X.env);pure (ForInStep.yield ok) else pure (ForInStep.yield r)) (TP X pins σ Q) X.xe s
def E6:TT:=fun _ H Q=>Q true H
theorem Ll{X:Cx}:PTs X [] E6:=fun _ _ _ H _ I h=>wpAny_tests_nil ⟨H,I,h⟩
theorem Gm{X:Cx}{c:Expr}{t:TT}(hc:PT X c t):PTs X [c] t:=fun pins s σ H Q I h=>wpAny_tests_one (hc pins s σ H Q I h)
def Ar(σ0:St)(g:Blk→TG)(tt:Blk→TT)(te:Blk→TE)(Q:VK)(J:It)(H1:Hp):Prop:=∀(b:Blk) (D:Addr),H1 D=none→∃W:Nat→Nat→List V→Hp→Prop,(∃m,W 0 m [] (upd H1 D (.lst [])))∧∀i m ys H2,W i m ys H2→H2 D=some (.lst ys)∧
 ((J.stop i H2∧Q (.ref D) H2)∨(J.go i H2∧∀x H3,J.yld i H2 x H3→g b x σ0 H3 fun σ6 H6=>Y7 σ0 σ6∧tt b σ6 H6 fun ok H7=>
   if ok=true then te b σ6 H7 fun y H8=>H8 D=some (.lst ys)∧ys.length < sizeLine∧∃m',m' < m∧W (i+1) m' (ys++[y]) (upd H8 D (.lst (ys++[y])))
   else ∃m',m' < m∧W (i+1) m' ys H7))
def Ii(wi:TI)(n:Nat)(fs:List Nat)(g:Blk→TG)(tt:Blk→TT)(te:Blk→TE):TE:=fun σ H Q=>wi σ H (Ar (List.replicate n none++fs.map fun j=>σ.getD j none) g tt te Q)
section
variable {X:Cx} {pins:List (Addr×Obj)} {σ:St} {scope:Scope} {xs:List Str} {fs:List Nat} {elt tg iter:Expr} {ifs:List Expr} {pos:Pos} {wi:TI} {g:Blk→TG} {tt:Blk→TT} {te:Blk→TE}
theorem G4{H:Hp}{s:Shared}{C:Addr}{h2:Heap}(I:Inv X pins σ H s)(F:Dc X pins H C)(sb:Heap.SameBut C s.heap h2):Inv X pins σ H {s with heap:=h2}:=
 I.turned (t':=s.toks) (fun b o hb e=>(sb.2 b hb).trans e) F.1 F.2.1 F.2.2.2.1 F.2.2.2.2.1 F.2.2.2.2.2
theorem Mn{Q:VK}{itv:Value}{s2:Shared}{E:Value→Shared→Prop}{RR:Value→Addr→Result→Shared→Prop}(hc:X.calm=true)(O:Ih X.N X.env.scope scope xs fs)
 (hg:∀b,PG (X.blk scope (xs++around X.N fs) b) tg (g b)) (ht:∀b,PTs (X.blk scope (xs++around X.N fs) b) ifs (tt b)) (he:∀b,PE (X.blk scope (xs++around X.N fs) b) elt (te b))
 (h:PIE X pins σ tg (Ar (List.replicate xs.length none++fs.map fun j=>σ.getD j none) g tt te Q) itv s2)
 (hR:∀D C s' m H',s'.heap.Ns C m→Inv X pins σ H' s'→Q (.ref D) H'→Dc X pins H' C→RR (.ref D) C (.ok .next) s'):
 wpAny (model X.prog X.w) X.A (newList []) (fun acc s₃=>wpAny (model X.prog X.w) X.A (newFunctionEnv scope X.env.globals (clo X.env scope.names []) [] X.env.qual none .none (some X.env)) (fun cenv s₄=>
  codeAny (model X.prog X.w) X.A (.compStart (.ListComp elt [⟨tg,iter,ifs,0⟩] scope pos) 0 itv acc {cenv with scope:=relabel scope X.env}) (RR acc cenv.locals) s₄) E s₃) E s2:=by
 obtain ⟨it,fp,tn,J,H2,rfl,I2,T,st2,f2,rd⟩:=h
 have hfp:∀b∈fp,b < s2.heap.objs.size:=fun b hb=>by
  obtain ⟨o,e,_⟩:=T.obj _ _ st2 b hb;exact Fh e
 refine Rj (HF O.cell (by intro y hy;simp at hy) (fun h₁ hns₁ hsb₁=>?_) O.kind);dsimp only at hns₁ hsb₁ ⊢;generalize hH2:s2.heap.push {cls:= .type "list",dict:=none,data:= .seq ([]:List Value).toArray}=HH at hns₁ hsb₁ ⊢
 have hC:HH.objs.size=s2.heap.objs.size+1:=by rw [← hH2,HR]
 have hDC:s2.heap.objs.size≠HH.objs.size:=by rw [hC];exact Ff (Hr _)
 have hCle:s2.heap.objs.size≤HH.objs.size:=by rw [hC];exact Rt _
 have old:∀b o,s2.heap.get? b=some o→h₁.get? b=some o:=fun b o e=>hsb₁.extBut b o (by rw [hC];exact Ff (Rl (Fh e))) (Fb _ (hH2▸Fb _ e));have hacc:h₁.get? s2.heap.objs.size=some {cls:= .type "list",data:= .seq #[] 0}:=hsb₁.extBut _ _ hDC (Fb _ (hH2▸Fo _ rfl));obtain ⟨W,⟨m0,w0⟩,turn⟩:=rd ⟨s2,H2,HH.objs.size,fp⟩ s2.heap.objs.size I2.fresh;have I3:=V2 (t:=s2.toks+([]:List (Str×Value)).length) I2 O f2 (Fn _) hCle hfp hDC old hacc hns₁;rw [show xs.map (fun _=>(none:Option V))=List.replicate xs.length none from List.map_const' ..]at I3;generalize hX:X.blk scope (xs++around X.N fs) ⟨s2,H2,HH.objs.size,fp⟩=X' at I3
 have stat:∀{H':Hp},(∀b∈fp,H' b=none)→∀b∈fp,Dc X' [] H' b:=fun hn b hb=>by
  subst hX;refine ⟨hn b hb,?_,?_,.inl hb,fun x c e=>?_,fun p hp=>absurd hp (by simp)⟩
  · exact (I3.ok.exf b hb).1
  · exact I3.ok.exfs b hb
  · exact (I3.ok.exf b hb).2 x c e
 have fr3:∀b∈fp,upd H2 s2.heap.objs.size (.lst []) b=none:=fun b hb=>by
  rw [A0 (Ff (hfp b hb))];exact (f2 b hb).1
 have ccell:∀y c,X.env.cells.lookup y=some c→c≠HH.objs.size:=fun y c e=>by
  obtain ⟨v,q⟩:=I2.cell y c e;exact Ff (Fc q.lt hCle)
 have cloc:HH.objs.size≠X.env.locals:=(Ff (Fc I2.lt hCle)).symm
 have eP:X'.prog=X.prog:=by rw [← hX]
 have ew:X'.w=X.w:=by rw [← hX]
 have eK:X'.K=X.K:=by rw [← hX]
 have eA:X'.A=X.A:=by rw [← hX]
 have ec:X'.calm=true:=by rw [← hX];exact hc
 have ex:X'.xe=fun _ _=>False:=by rw [← hX]
 have een:X'.env=compEnvC scope (clo X.env scope.names []) HH.objs.size X.env:=by rw [← hX]
 have hg':=hg ⟨s2,H2,HH.objs.size,fp⟩;have ht':=ht ⟨s2,H2,HH.objs.size,fp⟩;have he':=he ⟨s2,H2,HH.objs.size,fp⟩;rw [hX]at hg' ht' he';have st1:tn 0 h₁:=T.keep _ _ _ st2 fun b hb o e=>old b o e
 have loop:∀s₃:Shared,s₃={s2 with heap:=h₁,toks:=s2.toks+([]:List (Str×Value)).length}→
  codeAny (model X.prog X.w) X.A (.compLoop (.ListComp elt [⟨tg,iter,ifs,0⟩] scope pos) 0 (.ref it) (.ref s2.heap.objs.size) (compEnvC scope (clo X.env scope.names []) HH.objs.size X.env))
   (RR (.ref s2.heap.objs.size) HH.objs.size) s₃:=by
  rintro s₃ rfl;refine Ei (fun n s'=>∃i ys H',Inv X' [] (List.replicate xs.length none++fs.map fun j=>σ.getD j none) H' s'∧tn i s'.heap∧(∀b∈fp,H' b=none)∧W i n ys H') ?_ m0 ⟨0,[],_,I3,st1,fr3,w0⟩;rintro n s4 ⟨i,ys,H4,I4,st4,fr4,w4⟩;obtain ⟨hD4,tn4⟩:=turn i n ys H4 w4;rcases tn4 with ⟨stop,qn⟩ | ⟨go,step⟩
  · have td:=T.done X' eP ew eK ec i [] s4 _ H4 (notedBy (model X.prog X.w) X.A (compEnvC scope (clo X.env scope.names []) HH.objs.size X.env) fun e s'=>RR (.ref s2.heap.objs.size) HH.objs.size (.error e) s') I4 (stat fr4) st4 stop
    rw [eA]at td;refine thn td fun r s5 ⟨hr,I5⟩=>?_;subst hr;obtain ⟨m5,hn5,_⟩:=I5.loc;rw [een]at hn5
    have fr5:H4 HH.objs.size=none:=by have:=I5.free;rw [een]at this;exact this
    rw [← hX]at I5;exact hR _ _ _ m5 H4 hn5 (Lk I2 f2 hCle I5 (Heap.SameBut.refl ..)) qn (I2.fpOk hCle fr5)
  · have ti:=T.item X' eP ew eK ec i [] s4 _ H4 (notedBy (model X.prog X.w) X.A (compEnvC scope (clo X.env scope.names []) HH.objs.size X.env) fun e s'=>RR (.ref s2.heap.objs.size) HH.objs.size (.error e) s') I4 (stat fr4) st4 go
    rw [eA]at ti;refine thn ti fun r s5 ⟨u,hr,h5⟩=>?_;subst hr;refine thn h5 fun _ s6 hq_=>?_;obtain ⟨x,H6,I6,r6,y6,st6,fr6⟩:=hq_;have I6':=I6.pinned (stat fr6) (T.obj _ _ st6);have g1:=hg' _ s6 _ H6 x u _ I6' r6 (step x H6 y6);rw [eP,ew,eA,een,ex]at g1;refine FE g1 (fun _ s7 hq_=>?_) fun _ _ z=>z.elim;obtain ⟨σ7,H7,I7,kp7,q7⟩:=hq_;have t1:=ht' _ s7 σ7 H7 _ I7 q7;rw [eP,ew,eA,een,ex]at t1
    have back:∀{H9:Hp} {s9:Shared},Inv X' ([]++De fp s6.heap) σ7 H9 s9→Inv X' [] (List.replicate xs.length none++fs.map fun j=>σ.getD j none) H9 s9∧tn (i+1) s9.heap∧∀b∈fp,H9 b=none:=fun {H9 s9} I9=>by
     refine ⟨I9.unpinned.weak ?_ kp7,T.keep _ _ _ st6 fun b hb o e=>(I9.pin (b,o) (FA _ (FA _ (Bo hb e)))).1,fun b hb=>?_⟩
     · rw [I9.len,I4.len]
     · obtain ⟨o,e,d⟩:=T.obj _ _ st6 b hb
       exact (I9.pin (b,o) (FA _ (FA _ (Bo hb e)))).2.1
    refine FE t1 (fun ok s8 ⟨H8,I8,q8⟩=>?_) fun _ _ z=>z.elim
    cases ok with
    | false=>
     rw [if_neg FG]at q8 ⊢;obtain ⟨m',hm,w8⟩:=q8;obtain ⟨b1,b2,b3⟩:=back I8;exact ⟨m',hm,i+1,ys,H8,b1,b2,b3,w8⟩
    | true=>
     rw [if_pos rfl]at q8 ⊢;have e1:=he' _ s8 σ7 H8 _ I8 q8;rw [eP,ew,eA,een,ex]at e1;refine FE e1 (fun uy s9 hq_=>?_) fun _ _ z=>z.elim;obtain ⟨y,H9,I9,r9,hD9,hz,m',hm,w9⟩:=hq_;have a1:=Cg (X:=X') (pins:=[]++De fp s6.heap) (s:=s9) (σ:=σ7) (H:=H9) (x:= .ref s2.heap.objs.size) (xs:=[y]) (v:= .ref s2.heap.objs.size) (us:=[uy]) (Q:=fun _ H'=>H'=upd H9 s2.heap.objs.size (.lst (ys++[y]))) I9 rfl (.cons r9 .nil) ⟨_,ys,y,rfl,rfl,hD9,hz,rfl⟩;rw [eP,ew,eA,ex]at a1;refine FE a1 (fun _ s10 hq_=>?_) fun _ _ z=>z.elim;obtain ⟨_,H10,I10,_,e10⟩:=hq_;subst e10;obtain ⟨b1,b2,b3⟩:=back I10;exact ⟨m',hm,i+1,_,_,b1,b2,b3,w9⟩
 exact codeAny_compStart_list (loop _ rfl) (T.self _ 0 _ _ _ st1 (loop _ rfl))
theorem Ij(hc:X.calm=true)(hok:B8 X.N X.env.scope scope xs fs=true)(hi:PI X tg iter wi)
 (hg:∀b,PG (X.blk scope (xs++around X.N fs) b) tg (g b)) (ht:∀b,PTs (X.blk scope (xs++around X.N fs) b) ifs (tt b)) (he:∀b,PE (X.blk scope (xs++around X.N fs) b) elt (te b))
 (hs:∀x,foldedSetIterable iter X.env x=pure x:=by intro _;rfl):
 PE X (.ListComp elt [⟨tg,iter,ifs,0⟩] scope pos) (Ii wi xs.length fs g tt te):=by
 intro pins s σ H Q I h;have O:=Bj hok;rw [eval_ListComp];refine HV (use:=none) rfl hs (Dj fun y hy hf=>I.ok.has _ (O.free y hy hf)) O.kind O.names (thn (hi pins s σ H _ I h) fun v s1 h1=>thn h1 fun itv s2 h2=>?_)
 exact Mn (RR:=fun acc C=>compPost (model X.prog X.w) X.A X.xe none (EP X pins σ Q) acc C) hc O hg ht he h2 fun D C s' m H' hn I' q F=>⟨m,hn,fun h2 sb=>⟨.ref D,H',G4 I' F sb,rfl,q⟩⟩
theorem Lm{y:Str}{py:Pos}{i:Nat}(hN:X.N.Nodup)(hy:X.N[i]?=some y)(hyl:X.env.kindOf y=some .local)(hc:X.calm=true)(hok:B8 X.N X.env.scope scope xs fs=true)(hi:PI X tg iter wi)
 (hg:∀b,PG (X.blk scope (xs++around X.N fs) b) tg (g b)) (ht:∀b,PTs (X.blk scope (xs++around X.N fs) b) ifs (tt b)) (he:∀b,PE (X.blk scope (xs++around X.N fs) b) elt (te b)) {spos:Pos}
 (hsw:swapsWith (.ListComp elt [⟨tg,iter,ifs,0⟩] scope pos) (some (.Name y py)) spos.line X.env=pure true:=by rfl)
 (hs:∀x,foldedSetIterable iter X.env x=pure x:=by intro _;rfl):
 PS X (.Assign [.Name y py] (.ListComp elt [⟨tg,iter,ifs,0⟩] scope pos) spos) (O8 (Ii wi xs.length fs g tt te) (B5 i)):=by
 intro pins s σ H D I h;have O:=Bj hok;rw [exec_Assign_Name_used _ _ _ _ hsw];refine Fd (HS (Fd ?_));show wpAny _ X.A (do let _ ← comprehension (.ListComp elt [⟨tg,iter,ifs,0⟩] scope pos) scope X.env _ (newList []) false (eval iter X.env) (some (assign (.Name y py) X.env))) _ _ s
 refine Fd (FE (HV (use:=some (assign (.Name y py) X.env)) (Q:=fun _ s'=>SP X pins D .next s') rfl hs (Dj fun y hy hf=>I.ok.has _ (O.free y hy hf)) O.kind O.names
  (thn (hi pins s σ H _ I h) fun v s1 h1=>thn h1 fun itv s2 h2=>?_)) (fun _ s' hq=>Fu (Fu hq)) fun _ _ e=>e)
 refine Mn (RR:=fun acc C=>compPost (model X.prog X.w) X.A X.xe (some (assign (.Name y py) X.env)) (fun _ s'=>SP X pins D .next s') acc C) hc O hg ht he h2 fun D' C s' m H' hn I0 q0 F=>?_;show wpAny _ X.A (assign (.Name y py) X.env (.ref D')) _ _ _;refine wpAny_assign_Name (K7 I0 hN hy (.inl hyl) (v:= .ref D') rfl (fun s3 I3 hsb=>?_) (.inr hyl));obtain ⟨a,sb3,ha⟩:=hsb
 have haC:C≠a:=by
  rcases ha with rfl | ha
  · exact F.2.1
  · exact (F.2.2.2.2.1 y a ha).symm
 exact ⟨m,hn.sameBut sb3 haC,fun h4 sb4=>⟨_,H',G4 I3 F sb4,q0⟩⟩
end
end L2
namespace L2
def sg(c:Nat):Str:=⟨#[c]⟩
def Its(z:Str):It:=⟨fun i _=>i < z.cps.size,fun i H x H'=>H'=H∧∃c,z.cps[i]?=some c∧x= .str ⟨#[c]⟩,fun i _=>z.cps.size≤i⟩
def J4m(tl:TE):TI:=fun σ H R=>tl σ H fun x H1=>∃z,x= .str z∧R (Its z) H1
section
variable {P:Program} {w:World} {K:PySem.W.Frag} {tg:Expr}
theorem V3(ty:String)(hty:ty="str_ascii_iterator"∨ty="str_iterator")(z:Str)(t:Tok)(it:Addr):Td P w K tg (Its z) [it] it (fun i h=>i≤z.cps.size∧h.IsStrIter it ty z t i) where
 mem:=by simp
 obj:=fun i h st b hb=>by
  have e:b=it:=by simpa using hb
  subst e;obtain ⟨o,e,c,d⟩:=st.2;exact ⟨o,e,fun v z=>by rw [d]at z;cases z⟩
 keep:=fun i h h' st k=>⟨st.1,by obtain ⟨o,e,r⟩:=st.2;exact ⟨o,k it (by simp) o e,r⟩⟩
 item:=by
  intro X hP hw hK hc i pins s σ H E I hf st hg;subst hP hw hK;obtain ⟨f0,f1,f2,f3,f4,f5⟩:=hf it (by simp)
  have W:Walks X.prog X.w X.A it [it] [it] z.cps.size (SignAt z) (fun i h=>h.IsStrIter it ty z t i):=by
   rcases hty with rfl | rfl
   · exact Walks.strAscii (I.ok.hd hc) it z t
   · exact Walks.strWide (I.ok.hd hc) it z t
  refine W.item i s _ _ hg st.2 fun v h' tk hv st' kk=>?_;obtain ⟨c,u,hcc,rfl⟩:=hv;have I1:Inv X pins σ H {s with heap:=h',toks:=tk}:=I.turned (fun b o hb e=>kk b o (by simpa using hb) e) f0 f1 f3 f4 f5;obtain ⟨o,e,cc,d⟩:=id st'
  refine ⟨_,rfl,Te (s:={s with heap:=h',toks:=tk}) (n:=ty) e cc d (by rcases hty with rfl | rfl <;> decide) ⟨.str ⟨#[c]⟩,H,I1,⟨u,rfl⟩,⟨rfl,c,hcc,rfl⟩,⟨hg,st'⟩,fun b hb=>(hf b hb).1⟩⟩
 done:=by
   intro X hP hw hK hc i pins s σ H E I hf st hg;subst hP hw hK;obtain ⟨f0,f1,f2,f3,f4,f5⟩:=hf it (by simp)
   have W:Walks X.prog X.w X.A it [it] [it] z.cps.size (SignAt z) (fun i h=>h.IsStrIter it ty z t i):=by
    rcases hty with rfl | rfl
    · exact Walks.strAscii (I.ok.hd hc) it z t
    · exact Walks.strWide (I.ok.hd hc) it z t
   have hi:i=z.cps.size:=Nat.le_antisymm st.1 hg;subst hi
   exact W.done s _ _ st.2 fun h' tk kk=>⟨rfl,I.turned (fun b o hb e=>kk b o (by simpa using hb) e) f0 f1 f3 f4 f5⟩
 self:=fun _ _ _ _ _ st h=>by
  rcases hty with rfl | rfl
  · exact wpAny_pyIter_striter_ascii st.2 h
  · exact wpAny_pyIter_striter_wide st.2 h
end
section
variable {X:Cx} {tg:Expr}
theorem J2r{l:Expr}{tl:TE}(hl:PE X l tl):PI X tg l (J4m tl):=by
 intro pins s σ H R I h;refine thn (hl pins s σ H _ I h) fun v s1 hq_=>?_;obtain ⟨x,H1,I1,r1,q1⟩:=hq_;obtain ⟨z,e,q⟩:=q1;subst e;obtain ⟨t,rfl⟩:=r1
 have fin:∀ty,(ty="str_ascii_iterator"∨ty="str_iterator")→PIE X pins σ tg R (.ref s1.heap.objs.size) {s1 with heap:=s1.heap.push {cls:= .type ty,data:= .fields #[.str z t,.int 0 0]}}:=fun ty hty=>by
  refine ⟨s1.heap.objs.size,[s1.heap.objs.size],_,_,H1,rfl,I1.kept (t':=s1.toks) fun b o e=>Fb _ e,V3 ty hty z t _,⟨FY _,_,Fo _ rfl,rfl,rfl⟩,fun b hb=>?_,q⟩
  have e:b=s1.heap.objs.size:=by simpa using hb
  subst e;exact I1.fpOk (Fn _) I1.fresh
 cases ha:z.cps.all (· < 128)
 · exact wpAny_pyIter_wide ha (fin _ (.inr rfl))
 · exact wpAny_pyIter_ascii ha (fin _ (.inl rfl))
def J5k:V→Option Int→Option Int→Hp→VK→Prop:=fun x lo hi H Q=>∃z,x= .str z∧z.length≤sizeLine∧Q (.str (Txt.slice z lo hi)) H
def J4n(K:PySem.W.Frag):V→List V→Hp→VK→Prop:=fun x vs H Q=>∃z p ys,x= .str z∧vs=[.ref p]∧SqL K H p (ys.map V.str)∧(ys.map (·.length)).sum+ys.length * z.length≤16777216∧Q (.str (Txt.join z ys)) H
def J4o:V→List V→Hp→VK→Prop:=fun x vs H Q=>∃z y,x= .str z∧vs=[.str y]∧Q (.int (Txt.find z y)) H
def J2s:V→List V→Hp→VK→Prop:=fun x vs H Q=>∃z y,x= .str z∧vs=[.str y]∧(y.length==0)=false∧z.length+2≤sizeLine∧∀p,H p=none→Q (.ref p) (upd H p (.lst ((Txt.split z y).map V.str)))
def J4p:R2:=fun x y H Q=>∃z n,x= .str z∧y= .int n∧MulOk z n∧Q (.str (Txt.mul z n)) H
def J4q(K:PySem.W.Frag):List V→Hp→VK→Prop:=fun xs H Q=>∃(p:Addr) (bs:List Bool),xs=[.ref p]∧SqL K H p (bs.map V.bl)∧Q (.bl (bs.all id)) H
theorem V4(hc:X.calm=true):E7 X (.builtin "all") (J4q X.K):=by
 intro pins s σ H xs us Q I r h;obtain ⟨p,bs,rfl,hp,q⟩:=h;obtain ⟨u,rfl,ru⟩:=Ga r;cases ru;obtain ⟨its,r,pl,hz⟩:=I.list hp
 have hlt:p < s.heap.objs.size:=by obtain ⟨o,n,e,_⟩:=pl;exact Fh e
 refine call_all_walk (Ri pl.isList ⟨s.heap.objs.size,_,_,_,_,_,fun i=>bs.getD i true,rfl,Walks.list (show X.A.in1.handled=none from I.ok.hd hc) s.heap.objs.size p (Ff hlt) its.toArray,⟨⟨_,Fo _ rfl,rfl,rfl⟩,pl.isList.push _⟩,?_,fun h' tk kk=>?_⟩)
 · intro i v s' Q' E' hP hQ'
   have hP:its.toArray[i]?=some v:=hP;have hlen:=r.length;rw [Fa]at hlen
   have hi:i < bs.length:=by
    have:=(FN.mp hP).1;rw [Fl]at this;omega
   obtain ⟨u,hu,ru⟩:=r.get (i:=i) (x:=V.bl (bs[i])) (by simp [hi])
   have e:u=v:=by
    have:its[i]?=some v:=by simpa using hP
    rw [hu]at this;exact FM this
   subst e;cases ru;dsimp only at hQ';rw [Fg,Fe hi]at hQ';exact Fu hQ'
 · refine ⟨.bl _,H,I.kept (t':=tk) fun b o e=>kk b o ?_ (Fb _ e),rfl,?_⟩
   · simpa using Ff (Fh e)
   · have hlen:=r.length
     rw [Fa]at hlen
     have:((List.range its.toArray.size).all fun i=>bs.getD i true)=bs.all id:=by
      rw [Fl,← hlen];rw [HK,FV,FV];constructor
      · intro h x hx
        obtain ⟨i,hi,rfl⟩:=List.mem_iff_getElem.mp hx;have:=h i (by simpa using hi)
        simpa [Fg,Fe hi] using this
      · intro h i hi
        have hi:i < bs.length:=by simpa using hi
        rw [Fg,Fe hi];exact h _ (HE hi)
     rw [this];exact q
end
abbrev TJ:=Str→St→Hp→(Str→Hp→Prop)→Prop
def J5l:TJ:=fun acc _ H Q=>Q acc H
def J4r(te:TE)(tr:TJ):TJ:=fun acc σ H Q=>te σ H fun x H1=>∃y,x= .str y∧(acc++y).length≤sizeLine∧tr (acc++y) σ H1 Q
def J4s(t:TJ):TE:=fun σ H Q=>t Str.empty σ H fun out H1=>out.length≤sizeLine∧Q (.str out) H1
def J5m(te:TE):TE:=fun σ H Q=>te σ H fun x H1=>(∃z,x= .str z∧z.length≤sizeLine∧Q (.str z) H1)∨∃i,x= .int i∧i.natAbs.log2 < 1920∧Q (.str (toString i)) H1
def J4t(te:TE):TE:=fun σ H Q=>te σ H fun x H1=>∃z,x= .str z∧(PySem.reprText z).length≤sizeLine∧Q (.str (PySem.reprText z)) H1
end L2
namespace L2
abbrev V5(wi:TI)(fs:List Nat)(te:Blk→TE):TE:=Ii wi 1 fs (fun _=>B5 0) (fun _=>E6) te
section
variable {X:Cx} {scope:Scope} {x:Str} {px:Pos} {fs:List Nat} {elt iter:Expr} {pos:Pos} {wi:TI} {te:Blk→TE}
theorem Ln(hok:B8 X.N X.env.scope scope [x] fs=true)(b:Blk):PG (X.blk scope ([x]++around X.N fs) b) (.Name x px) (B5 0):=
 B1 (Bj hok).nd rfl (.inl (FI ((Bj hok).own x (by simp)))) (.inr (FI ((Bj hok).own x (by simp))))
theorem Ik(x:Str)(fs:List Nat)(hc:X.calm=true)(hok:B8 X.N X.env.scope scope [x] fs=true)(hi:PI X (.Name x px) iter wi)(he:∀b,PE (X.blk scope ([x]++around X.N fs) b) elt (te b))
 (hs:∀x,foldedSetIterable iter X.env x=pure x:=by intro _;rfl):PE X (.ListComp elt [⟨.Name x px,iter,[],0⟩] scope pos) (V5 wi fs te):=
 Ij (xs:=[x]) (g:=fun _=>B5 0) (tt:=fun _=>E6) hc hok hi (Ln hok) (fun _=>Ll) he hs
end
theorem V6{x:Option V}{r:St}:Y7 (none::r) (x::r):=fun i v e=>by
 cases i with
 | zero=>cases e
 | succ i=>exact e
section
variable {K:PySem.W.Frag} {tail:St} {te:Blk→TE} {Q:VK} {H1:Hp}
def Mo(D:Addr)(n i:Nat)(ys:List V)(Pv:Nat→List V→Hp→Prop):VK:=fun y H4=>H4 D=some (.lst ys)∧ys.length < sizeLine∧∃m',m' < n - i∧(m'=n - (i+1)∧i+1≤n∧Pv (i+1) (ys++[y]) (upd H4 D (.lst (ys++[y]))))
theorem Mp{D:Addr}{n i:Nat}{ys:List V}{Pv:Nat→List V→Hp→Prop}{y:V}{H4:Hp}(h1:H4 D=some (.lst ys))(h2:ys.length < sizeLine)(h3:i < n)(h4:Pv (i+1) (ys++[y]) (upd H4 D (.lst (ys++[y])))):Mo D n i ys Pv y H4:=
 ⟨h1,h2,n - (i+1),by omega,rfl,h3,h4⟩
theorem Pw{J:It}(n:Nat)
 (h:∀(b:Blk) (D:Addr),H1 D=none→∃Pv:Nat→List V→Hp→Prop,Pv 0 [] (upd H1 D (.lst []))∧(∀i ys H,Pv i ys H→H D=some (.lst ys))∧(∀ys H,Pv n ys H→J.stop n H∧Q (.ref D) H)∧
  ∀i ys H,i < n→Pv i ys H→J.go i H∧∀x H3,J.yld i H x H3→te b (some x::tail) H3 (Mo D n i ys Pv)):Ar (none::tail) (fun _=>B5 0) (fun _=>E6) te Q J H1:=by
 intro b D hD;obtain ⟨Pv,p0,p1,p2,p3⟩:=h b D hD;refine ⟨fun i m ys H=>m=n - i∧i≤n∧Pv i ys H,⟨n,rfl,FY _,p0⟩,?_⟩;rintro i m ys H ⟨rfl,hi,p⟩;refine ⟨p1 i ys H p,?_⟩
 by_cases hlt:i < n
 · obtain ⟨go,st⟩:=p3 i ys H hlt p
   refine .inr ⟨go,fun x H3 y=>⟨V6,?_⟩⟩;exact st x H3 y
 · have e:i=n:=by omega
   subst e;exact .inl (p2 ys H p)
theorem Bm{D:Addr}{o:HO}(h:H1 D=none):A7 H1 (upd H1 D o):=fun b u e=>by rw [A0 (A3 e h)];exact e
theorem Oi{z:Str}(f:Nat→V)(hz:z.cps.size≤sizeLine)(he:∀b c H Q',c∈z.cps.toList→A7 H1 H→Q' (f c) H→te b (some (.str ⟨#[c]⟩)::tail) H Q')
 (q:∀D,H1 D=none→Q (.ref D) (upd H1 D (.lst (z.cps.toList.map f)))):Ar (none::tail) (fun _=>B5 0) (fun _=>E6) te Q (Its z) H1:=by
 refine Pw z.cps.size (fun b D hD=>⟨fun i ys H=>i≤z.cps.size∧ys=(z.cps.toList.take i).map f∧H=upd H1 D (.lst ys),⟨FY _,rfl,rfl⟩,?_,?_,?_⟩)
 · rintro i ys H ⟨hi,rfl,rfl⟩
   exact A1
 · rintro ys H ⟨_,rfl,rfl⟩
   refine ⟨Fn _,?_⟩;have e:z.cps.toList.take z.cps.size=z.cps.toList:=List.take_of_length_le (by simp);rw [e];exact q D hD
 · rintro i ys H hi ⟨_,rfl,rfl⟩
   refine ⟨hi,fun x H3 ⟨e3,c,hc,ex⟩=>?_⟩;subst e3 ex
   have hc':z.cps.toList[i]?=some c:=by simpa using hc
   refine he b c _ _ (Fk hc') (Bm hD) (Mp A1 (by rw [Fa,FC,Rg];omega) hi ⟨hi,?_,?_⟩)
   · rw [FW,hc'];simp
   · funext a;by_cases ha:a=D <;> simp [upd,ha]
theorem Il{a:Addr}{xs:List V}(f:V→V)(hS:SqL K H1 a xs)(hz:xs.length≤sizeLine)(he:∀b x H Q',x∈xs→A7 H1 H→Q' (f x) H→te b (some x::tail) H Q')
 (q:∀D,H1 D=none→Q (.ref D) (upd H1 D (.lst (xs.map f)))):Ar (none::tail) (fun _=>B5 0) (fun _=>E6) te Q (Itl K a) H1:=by
 refine Pw xs.length (fun b D hD=>⟨fun i ys H=>i≤xs.length∧ys=(xs.take i).map f∧H=upd H1 D (.lst ys),⟨FY _,rfl,rfl⟩,?_,?_,?_⟩)
 · rintro i ys H ⟨hi,rfl,rfl⟩
   exact A1
 · rintro ys H ⟨_,rfl,rfl⟩
   refine ⟨⟨xs,(Bm hD).seq hS,Fn _⟩,?_⟩;rw [Hs];exact q D hD
 · rintro i ys H hi ⟨_,rfl,rfl⟩
   refine ⟨⟨xs,xs[i],(Bm hD).seq hS,by simp [hi]⟩,fun x H3 ⟨e3,ex⟩=>?_⟩;subst e3;have hc':=ex xs ((Bm hD).seq hS);refine he b x _ _ (Fk hc') (Bm hD) (Mp A1 (by rw [Fa,FC];omega) hi ⟨hi,?_,?_⟩)
   · rw [FW,hc'];simp
   · funext a;by_cases ha:a=D <;> simp [upd,ha]
end
section
variable {σ:St} {H:Hp} {Q:VK} {D:Cc} {K:PySem.W.Frag}
theorem Px{wi:TI}{fs:List Nat}{te:Blk→TE}:V5 wi fs te σ H Q=wi σ H (Ar (none::fs.map fun j=>σ.getD j none) (fun _=>B5 0) (fun _=>E6) te Q):=rfl
theorem Py{tl:TE}{R:It→Hp→Prop}:J4m tl σ H R=tl σ H fun x H1=>∃z,x= .str z∧R (Its z) H1:=rfl
theorem J11{r:V→Option Int→Option Int→Hp→VK→Prop}{te:TE}{tl th:TO}:tSl r te tl th σ H Q=te σ H fun x H1=>tl σ H1 fun l H2=>th σ H2 fun u H3=>r x l u H3 Q:=rfl
theorem Kn{QO:Option Int→Hp→Prop}:P4 σ H QO=QO none H:=rfl
theorem Pz{t:TE}{QO:Option Int→Hp→Prop}:J0m t σ H QO=t σ H fun x H1=>∃i,x= .int i∧QO (some i) H1:=rfl
theorem V7{x:V}{lo hi:Option Int}:J5k x lo hi H Q=∃z,x= .str z∧z.length≤sizeLine∧Q (.str (Txt.slice z lo hi)) H:=rfl
theorem V8{x:V}{lo hi:Option Int}:J49 K x lo hi H Q=∃a xs,x= .ref a∧SqL K H a xs∧∀p,H p=none→Q (.ref p) (upd H p (.lst (Eb xs lo hi))):=rfl
theorem J12{T:String}{r:V→List V→Hp→VK→Prop}{to:TE}{t:TA}:tBM K T r to t σ H Q=to σ H fun x H1=>tyV K T x H1∧t σ H1 fun xs H2=>r x xs H2 Q:=rfl
theorem V9{T:String}{r:V→List V→Hp→VK→Prop}{to:TE}:J4a K T r to σ H Q=to σ H fun x H1=>tyV K T x H1∧r x [] H1 Q:=rfl
theorem Q0{z:Str}:tyV K "str" (.str z) H=True:=eq_true rfl
theorem Q1{x:V}{vs:List V}:J4n K x vs H Q=∃z p ys,x= .str z∧vs=[.ref p]∧SqL K H p (ys.map V.str)∧(ys.map (·.length)).sum+ys.length * z.length≤16777216∧Q (.str (Txt.join z ys)) H:=rfl
theorem Q2{x:V}{vs:List V}:J4o x vs H Q=∃z y,x= .str z∧vs=[.str y]∧Q (.int (Txt.find z y)) H:=rfl
theorem Mq{x:V}{vs:List V}:J2s x vs H Q=∃z y,x= .str z∧vs=[.str y]∧(y.length==0)=false∧z.length+2≤sizeLine∧∀p,H p=none→Q (.ref p) (upd H p (.lst ((Txt.split z y).map V.str))):=rfl
theorem Va{xs:List V}:J4q K xs H Q=∃(p:Addr) (bs:List Bool),xs=[.ref p]∧SqL K H p (bs.map V.bl)∧Q (.bl (bs.all id)) H:=rfl
theorem Q3{x y:V}:J4p x y H Q=∃z n,x= .str z∧y= .int n∧MulOk z n∧Q (.str (Txt.mul z n)) H:=rfl
theorem Q4{acc:Str}{QS:Str→Hp→Prop}:J5l acc σ H QS=QS acc H:=rfl
theorem Mr{te:TE}{tr:TJ}{acc:Str}{QS:Str→Hp→Prop}:J4r te tr acc σ H QS=te σ H fun x H1=>∃y,x= .str y∧(acc++y).length≤sizeLine∧tr (acc++y) σ H1 QS:=rfl
theorem Q5{t:TJ}:J4s t σ H Q=t Str.empty σ H fun out H1=>out.length≤sizeLine∧Q (.str out) H1:=rfl
theorem Q6{te:TE}:J4t te σ H Q=te σ H fun x H1=>∃z,x= .str z∧(PySem.reprText z).length≤sizeLine∧Q (.str (PySem.reprText z)) H1:=rfl
theorem Vb{te:TE}:J5m te σ H Q=te σ H fun x H1=>(∃z,x= .str z∧z.length≤sizeLine∧Q (.str z) H1)∨∃i,x= .int i∧i.natAbs.log2 < 1920∧Q (.str (toString i)) H1:=rfl
theorem Ms:U0 σ H Q=∀p,H p=none→Q (.ref p) (upd H p (.dK [])):=rfl
theorem Vc{z:Str}{i:Int}{c:Nat}(hz:z.length≤sizeLine)(e:atI z.cps.toList i=some c)(q:Q (.str ⟨#[c]⟩) H):J48 (.str z) (.int i) H Q:=⟨z,i,c,rfl,rfl,hz,e,q⟩
theorem J13{X:Cx}{scope:Scope}{N':List Str}{b:Blk}:(X.blk scope N' b).K=X.K:=rfl
end
section
variable {X:Cx} {x:Str} {pos:Pos}
theorem Lo{i:Int}(hg:Gl X x)(hm:∃t,X.mg x=some (.int i t))(hd:(x==("__debug__":Str))=false:=by decide):PE X (.Name x pos) (tC (.int i)):=by
 obtain ⟨t,hm⟩:=hm;exact Oy hg hm ⟨t,rfl⟩ hd
theorem Lp{z:Str}(hg:Gl X x)(hm:∃t,X.mg x=some (.str z t))(hd:(x==("__debug__":Str))=false:=by decide):PE X (.Name x pos) (tC (.str z)):=by
 obtain ⟨t,hm⟩:=hm;exact Oy hg hm ⟨t,rfl⟩ hd
end
theorem Aq:sizeLine=16777216:=by decide
theorem Q7{a b:Str}:(a++b).length=a.length+b.length:=strLen_append a b
theorem Q8{c:Nat}:(⟨#[c]⟩:Str).length=1:=rfl
theorem Dw{z:Str}:z.cps.toList.length=z.length:=by simp [Str.length]
theorem Ej{a b:Str}:(a++b).cps.toList=a.cps.toList++b.cps.toList:=by
 show (a.cps++b.cps).toList=_;simp
theorem Sl{K:PySem.W.Frag}{H:Hp}{a:Addr}{ns:List Int}{R:List Int→Prop}(h:SqL K H a (ns.map V.int))(hl:ns.length≤63)(q:R ns):∃x:List Int,SqL K H a (x.map V.int)∧x.length≤63∧R x:=⟨ns,h,hl,q⟩
def Vd(z y:Str):Bool:=!(Builtin.Str.occurrences z y 0 z.length 1).isEmpty
theorem Mt{z:Str}{c:Nat}:Vd z ⟨#[c]⟩=decide (c∈z.cps.toList):=StrLaws.found_one z c
def J4u:R2:=fun x y H Q=>∃i j,x= .str i∧y= .str j∧Q (.bl (Vd j i)) H
def Y8:R2:=fun x y H Q=>∃i j,x= .str i∧y= .str j∧Q (.bl (!Vd j i)) H
theorem Ve{X:Cx}:OpR X (compareOp .In) J4u:=Sa
theorem Vf{x y:V}{H:Hp}{Q:VK}:J4u x y H Q=∃i j,x= .str i∧y= .str j∧Q (.bl (Vd j i)) H:=rfl
theorem Ko{x y:V}{H:Hp}{Q:VK}:Y8 x y H Q=∃i j,x= .str i∧y= .str j∧Q (.bl (!Vd j i)) H:=rfl
theorem J5n{α:Type}{c:α}{r:List α}:atI (c::r) 0=some c:=Ic (by decide) rfl
end L2
namespace L2
def Cy(xs ys:List V):Bool:=match xs,ys with
 | [],[]=>true
 | x::xs,y::ys=>eqV x y && Cy xs ys
 | _,_=>false
theorem C2:∀{xs ys:List V},xs.length≠ys.length→Cy xs ys=false
 | [],[],h=>absurd rfl h
 | [],_::_,_=>rfl
 | _::_,[],_=>rfl
 | x::xs,y::ys,h=>by
  unfold Cy;rw [C2 (fun e=>h (by simp [e])),Bool.and_false]
theorem C3:∀{xs ys:List V},xs.length=ys.length→Cy xs ys=(List.range xs.length).all fun i=>eqV (xs.getD i .non) (ys.getD i .non)
 | [],[],_=>rfl
 | [],_::_,h=>by cases h
 | _::_,[],h=>by cases h
 | x::xs,y::ys,h=>by
  unfold Cy;rw [C3 (by simpa using h),List.length_cons,List.range_succ_eq_map,List.all_cons,List.all_map];rfl
theorem Q9{x y:Str}:eqV (.str x) (.str y)=decide (x=y):=rfl
theorem Gd:∀{xs ys:List Str},Cy (xs.map V.str) (ys.map V.str)=decide (xs=ys)
 | [],[]=>rfl
 | [],_::_=>rfl
 | _::_,[]=>rfl
 | x::xs,y::ys=>by
  show (eqV (.str x) (.str y) && Cy (xs.map V.str) (ys.map V.str))=_;rw [Gd,Q9]
  by_cases h:x=y
  · subst h;simp
  · simp [h]
def EqQ(K:PySem.W.Frag)(H:Hp)(x y:V)(r:Bool):Prop:=∃a b xs ys,x= .ref a∧y= .ref b∧((SqL K H a xs∧SqL K H b ys)∨(SqT K H a xs∧SqT K H b ys))∧xs.all C9=true∧ys.all C9=true∧r=Cy xs ys
section
variable {X:Cx} {pins:List (Addr×Obj)} {σ:St} {H:Hp} {s:Shared}
theorem Cz{xs ys:List V}{us ws:List Value}{A:Around}(rx:Ag xs us)(ry:Ag ys ws)(fx:xs.all C9=true)(fy:ys.all C9=true):
 ∀j (h1:j < us.toArray.size) (h2:j < ws.toArray.size),SeqAt.EqAt A s us.toArray[j] ws.toArray[j] (eqV (xs.getD j .non) (ys.getD j .non)):=by
 intro j h1 h2;have lx:=rx.length;have ly:=ry.length;rw [Fl]at h1 h2
 have hx:j < xs.length:=by omega
 have hy:j < ys.length:=by omega
 obtain ⟨u,hu,ru⟩:=rx.get (i:=j) (x:=xs[j]) (by simp [hx]);obtain ⟨w,hw,rw'⟩:=ry.get (i:=j) (x:=ys[j]) (by simp [hy])
 have eu:us.toArray[j]=u:=by
  have:=Fe h1;rw [this]at hu
  simpa using hu
 have ew:ws.toArray[j]=w:=by
  have:=Fe h2;rw [this]at hw
  simpa using hw
 rw [eu,ew,Fg,Fg,Fe hx,Fe hy];exact Tu ru rw' (FV.mp fx _ (HE hx)) (FV.mp fy _ (HE hy))
theorem J2t{x y:V}{u v:Value}{r:Bool}{A:Around}(I:Inv X pins σ H s)(rx:Ab x u)(ry:Ab y v)(h:EqQ X.K H x y r)(hu:A.units < cLine):SeqAt.RcAt A s u v r:=by
 obtain ⟨a,b,xs,ys,rfl,rfl,hq,fx,fy,rfl⟩:=h;cases rx;cases ry;rcases hq with ⟨h1,h2⟩ | ⟨h1,h2⟩
 · obtain ⟨us,r1,p1,z1⟩:=I.list h1
   obtain ⟨ws,r2,p2,z2⟩:=I.list h2;have lx:=r1.length;have ly:=r2.length
   by_cases hl:xs.length=ys.length
   · rw [C3 hl]
     have:=SeqAt.RcAt.lists p1.isList p2.isList (by simp;omega) hu (Cz r1 r2 fx fy);rw [Fl,← lx]at this;exact this
   · rw [C2 hl]
     exact SeqAt.RcAt.lists_lengths p1.isList p2.isList (by simp;omega) hu
 · obtain ⟨us,r1,p1,z1⟩:=I.tuple h1
   obtain ⟨ws,r2,p2,z2⟩:=I.tuple h2;have lx:=r1.length;have ly:=r2.length;have:=SeqAt.RcAt.tuples (show s.heap.IsTuple a us.toArray from p1) (show s.heap.IsTuple b ws.toArray from p2) hu (Cz r1 r2 fx fy);rw [Fl,Fl,← lx,← ly]at this
   by_cases hl:xs.length=ys.length
   · rw [C3 hl]
     rw [hl,Nat.min_self,HD,Bool.and_true]at this;rw [hl];exact this
   · rw [C2 hl]
     rw [FX.mpr hl,Bool.and_false]at this;exact this
theorem J2u{x y:V}{u v:Value}{r:Bool}{A:Around}(I:Inv X pins σ H s)(rx:Ab x u)(ry:Ab y v)(h:EqQ X.K H x y r)(hu:A.units < cLine):SeqAt.RcNeAt A s u v (!r):=by
 obtain ⟨a,b,xs,ys,rfl,rfl,hq,fx,fy,rfl⟩:=h;cases rx;cases ry;rcases hq with ⟨h1,h2⟩ | ⟨h1,h2⟩
 · obtain ⟨us,r1,p1,z1⟩:=I.list h1
   obtain ⟨ws,r2,p2,z2⟩:=I.list h2;have lx:=r1.length;have ly:=r2.length
   by_cases hl:xs.length=ys.length
   · rw [C3 hl]
     have:=SeqAt.RcNeAt.lists p1.isList p2.isList (by simp;omega) hu (Cz r1 r2 fx fy);rw [Fl,← lx]at this;exact this
   · rw [C2 hl]
     exact SeqAt.RcNeAt.lists_lengths p1.isList p2.isList (by simp;omega) hu
 · obtain ⟨us,r1,p1,z1⟩:=I.tuple h1
   obtain ⟨ws,r2,p2,z2⟩:=I.tuple h2;have lx:=r1.length;have ly:=r2.length;have:=SeqAt.RcNeAt.tuples (show s.heap.IsTuple a us.toArray from p1) (show s.heap.IsTuple b ws.toArray from p2) hu (Cz r1 r2 fx fy);rw [Fl,Fl,← lx,← ly]at this
   by_cases hl:xs.length=ys.length
   · rw [C3 hl]
     rw [hl,Nat.min_self,HD,Bool.and_true]at this;rw [hl];exact this
   · rw [C2 hl]
     rw [FX.mpr hl,Bool.and_false]at this;exact this
def J4v(K:PySem.W.Frag):R2:=fun x y H Q=>∃r,EqQ K H x y r∧Q (.bl r) H
def J4w(K:PySem.W.Frag):R2:=fun x y H Q=>∃r,EqQ K H x y r∧Q (.bl (!r)) H
theorem J2v{k:Nat}(hr:B0 k X.A):OpR X (compareOp .Eq) (J4v X.K):=by
 intro pins s σ H x y v u Q I rx ry h;obtain ⟨r,e,q⟩:=h;exact J2t I rx ry e (HP (by omega) hr.un) X.prog X.w X.xe _ ⟨.bl r,H,I,rfl,q⟩
theorem J2w{k:Nat}(hr:B0 k X.A):OpR X (compareOp .NotEq) (J4w X.K):=by
 intro pins s σ H x y v u Q I rx ry h;obtain ⟨r,e,q⟩:=h;exact J2u I rx ry e (HP (by omega) hr.un) X.prog X.w X.xe _ ⟨.bl (!r),H,I,rfl,q⟩
end
section
variable {K:PySem.W.Frag} {H:Hp} {Q:VK} {x y:V}
theorem Vg:J4v K x y H Q=∃r,EqQ K H x y r∧Q (.bl r) H:=rfl
theorem Vh:J4w K x y H Q=∃r,EqQ K H x y r∧Q (.bl (!r)) H:=rfl
theorem Mu{xs:List Str}:(xs.map V.str).all C9=true:=by
 rw [List.all_map];exact FV.mpr fun _ _=>rfl
theorem Vi{a b:Addr}{xs ys:List Str}(h1:SqL K H a (xs.map V.str))(h2:SqL K H b (ys.map V.str)):EqQ K H (.ref a) (.ref b) (decide (xs=ys)):=⟨a,b,_,_,rfl,rfl,.inl ⟨h1,h2⟩,Mu,Mu,Gd.symm⟩
end
end L2
namespace L2
structure Y9 where
 pn:List (Addr×Obj)
 xe:Value→Shared→Prop
 EE:St→XK
def J14(tb:Y9→TS)(th:TH):TS:=fun D σ H=>∀(pn:List (Addr×Obj)) (xe:Value→Shared→Prop),tb ⟨pn,xe,fun σ' cls ox H'=>∃x,ox=some x∧th cls x D σ' H'⟩ D σ H
def J4x(K:PySem.W.Frag)(c:Value)(ts:Addr→TS)(tr:TH):TH:=fun cls x D σ H=>∃b,PySem.W.exmOne K cls c=some b∧if b=true then ts x D σ H else tr cls x D σ H
def J5o(K:PySem.W.Frag)(c:Value)(i:Nat)(ts:Addr→TS)(tr:TH):TH:=fun cls x D σ H=>∃b,PySem.W.exmOne K cls c=some b∧if b=true then ts x (Ig i D) (σ.set i (some (.ref x))) (upd H x (Y5 x cls)) else tr cls x D σ H
section
variable {σ:St} {H:Hp} {D:Cc} {K:PySem.W.Frag}
theorem Qa{tb:Y9→TS}{th:TH}:J14 tb th D σ H=∀(pn:List (Addr×Obj)) (xe:Value→Shared→Prop),tb ⟨pn,xe,fun σ' cls ox H'=>∃x,ox=some x∧th cls x D σ' H'⟩ D σ H:=rfl
theorem Mv{c cls:Value}{x:Addr}{ts:Addr→TS}{tr:TH}:J4x K c ts tr cls x D σ H=∃b,PySem.W.exmOne K cls c=some b∧if b=true then ts x D σ H else tr cls x D σ H:=rfl
theorem Qb{c cls:Value}{i:Nat}{x:Addr}{ts:Addr→TS}{tr:TH}:J5o K c i ts tr cls x D σ H=∃b,PySem.W.exmOne K cls c=some b∧if b=true then ts x (Ig i D) (σ.set i (some (.ref x))) (upd H x (Y5 x cls)) else tr cls x D σ H:=rfl
theorem Vj{X:Cx}{pn:List (Addr×Obj)}{xe:Value→Shared→Prop}:(X.tryX pn xe).K=X.K:=rfl
theorem J15{X:Cx}{x:Addr}:(X.sui x).K=X.K:=rfl
end
end L2
namespace L2
structure Vk(P:Program)(w:World)(K:PySem.W.Frag)(mg:Str→Option Value)(base:Heap)(CX:CXT)(k:Nat)(C:Addr)(m:Str)(ps:List Str)(sp:Sp):Prop where
 ex:∃(f:Addr) (fd:FuncData),B2 P w K mg base CX k f fd ps sp∧Sd K C m f∧Bi K fd ps []
structure J2x(P:Program)(w:World)(K:PySem.W.Frag)(mg:Str→Option Value)(base:Heap)(CX:CXT)(k:Nat)(x:Str)(C:Addr)(ps:List Str)(sp:Sp):Prop where
 ex:∃(f:Addr) (fd:FuncData),B2 P w K mg base CX k f fd ps sp∧Mk K C f∧mg x=some (.ref C)∧Bi K fd ps []
def Vl(C:Addr)(m:Str)(sp:Sp)(EE:St→XK)(ta:TE)(t:TA):TE:=fun σ H Q=>ta σ H fun x H1=>∃a dx fs,x= .ref a∧H1 a=some (.ins C dx fs)∧fs.lookup m=none∧t σ H1 fun vs H2=>sp (x::vs) H2 Q (EE σ)
def Vm(C:Addr)(sp:Sp)(EE:St→XK)(t:TA):TE:=fun σ H Q=>t σ H fun vs H1=>∀x dx,H1 x=none→H1 dx=none→dx≠x→sp (.ref x::vs) (upd (upd H1 dx (.own x)) x (.ins C dx [])) (fun v H2=>v= .non∧Q (.ref x) H2) (EE σ)
section
variable {X:Cx} {CX:CXT} {k j:Nat} {f C:Addr} {fd:FuncData} {ps:List Str} {sp:Sp} {EE:St→XK} {E:XK} {x m:Str} {p pos apos:Pos} {e o:Expr} {es:List Expr} {ta:TE} {t:TA}
theorem Qc(h:Cr CX X E):Bl CX X fun _=>E:=fun pins σ H s e s' I hc=>h pins σ H s e s' I hc
theorem Ya{pins:List (Addr×Obj)}{σ:St}{H:Hp}{s:Shared}{Q:VK}{us:List Value}{vs:List V}(F:B2 X.prog X.w X.K X.mg X.base CX k f fd ps sp)(hr:B0 k X.A)(hb:Bi X.K fd ps [])(hx:Bl CX X EE)
 (I:Inv X pins σ H s) (r:Ag vs us) (h:sp vs H Q (EE σ)):wpAny (model X.prog X.w) X.A (call (.ref f) us) (EP X pins σ Q) X.xe s:=by
 have hl:us.length=ps.length:=by rw [← r.length];exact F.len _ _ _ _ h
 have hb':=hb s us I.kIn (by simpa using hl);rw [FF]at hb';refine Hv (Hh (F.run X.A X.stack s H ⟨us,[]⟩ us vs Q (EE σ) hr I.env0 hb' r h) fun r s' hq=>?_)
 cases r with
 | error e=>exact hx pins σ H s e s' I hq
 | ok fl=>
  cases fl with
  | ret u=>exact I.after hq
  | next=>exact False.elim hq
  | brk=>exact False.elim hq
  | cont=>exact False.elim hq
theorem Mw{pl:Sem Bool}(D:Vk X.prog X.w X.K X.mg X.base CX j C m ps sp)(c:Cls X.K C)(hr:B0 k X.A)(hx:Bl CX X EE)(he:PE X o ta)(ha:PA X (e::es) t)(hj:j≤k:=by decide)
 (hst:starEach (e::es) X.env=(false,eval e X.env)::starEach es X.env:=by rfl) (hpl:(backTo pos (starEach es X.env)).any (·.1)=false:=by rfl)
 (ht:eval (.Call (.Attribute o m apos) (e::es) [] pos) X.env=(do
  let ov ← eval o X.env
  standAt apos.atName
  let (f,first) ← holding [ov] (getMethod ov m pl)
  callWith pos f first (backTo pos (starEach (e::es) X.env)) (backToKw pos (keywordEach [] X.env))):=by rfl):
 PE X (.Call (.Attribute o m apos) (e::es) [] pos) (Vl C m sp EE ta t):=by
 obtain ⟨f,fd,F,hm,hb⟩:=D.ex;intro pins s σ H Q I h;refine PySem.W.methodCall_KW (pl:=pl) (thn (he pins s σ H _ I h) fun u s1 hq_=>?_) ht;obtain ⟨x,H1,I1,rx,a,dx,fs,ex,ea,l,q⟩:=hq_;subst ex;obtain rfl:u=Value.ref a:=rx;refine Oc I1 ea c hm l ?_;refine Hc (first:=[.ref a]) (h₀:=X.base) I.ok.mod.kin hm.kp (thn (ha pos pins s1 σ H1 _ I1 q) fun us s2 ⟨vs,H2,I2,r,q2⟩=>⟨I2.kIn,?_⟩) hst hpl;exact Ya (us:= .ref a::us) (vs:= .ref a::vs) (F.mono hj) hr hb hx I2 (.cons rfl r) q2
theorem Vn(D:J2x X.prog X.w X.K X.mg X.base CX j x C ps sp)(hr:B0 k X.A)(hg:Gl X x)(hx:Bl CX X EE)(ha:PA X (e::es) t)(hj:j+1≤k:=by decide)(hdb:(x==("__debug__":Str))=false:=by decide)
 (he:starEach (e::es) X.env=(false,eval e X.env)::starEach es X.env:=by rfl) (hpl:(backTo pos (starEach es X.env)).any (·.1)=false:=by rfl):
 PE X (.Call (.Name x p) (e::es) [] pos) (Vm C sp EE t):=by
 obtain ⟨f,fd,F,M,hm,hb⟩:=D.ex;intro pins s0 σ H0 Q I0 h;refine FU (C6 I0 hg hm ?_ hdb);refine Hc (h₀:=X.base) I0.ok.mod.kin M.kp (thn (ha pos pins s0 σ H0 _ I0 h) fun us s ⟨vs,H,I,r,q⟩=>⟨I.kIn,?_⟩) he hpl;have hq:=q (s.heap.objs.size+1) s.heap.objs.size (I.hok.fresh (Rt _)) (I.hok.fresh (Fn _)) (Ff (Hr _));have I2:=Inv.made (C:=C) I;have r2:Ag (V.ref (s.heap.objs.size+1)::vs) (Value.ref (s.heap.objs.size+1)::us):= .cons rfl r
 have hl:(Value.ref (s.heap.objs.size+1)::us).length=ps.length:=by
  rw [← r2.length];exact F.len _ _ _ _ hq
 have hb':=fun s' (h':X.K.In s'.heap)=>hb s' (Value.ref (s.heap.objs.size+1)::us) h' (by simpa using hl);have hr':B0 (j+1) X.A:=hr.mono hj
 refine Hv (Tr (f:=f) I.kIn M.makes M.init (R3.mp M.fn) (Hh (F.run _ X.stack _ _ ⟨Value.ref (s.heap.objs.size+1)::us,[]⟩ (Value.ref (s.heap.objs.size+1)::us) _ _ (EE σ) (hr'.make C us [])
  (I2.env0.make C us []) (by have:=hb' _ I2.kIn;rw [FF]at this;exact this) r2 hq) fun r s' hq'=>?_))
 cases r with
 | error e=>exact hx pins σ _ _ e s' I2 hq'
 | ok fl=>
  cases fl with
  | ret u=>
   obtain ⟨v,H',I3,rv,ev,q3⟩:=I2.after hq';subst ev;exact ⟨rv,⟨V.ref (s.heap.objs.size+1),H',I3,rfl,q3⟩⟩
  | next=>exact False.elim hq'
  | brk=>exact False.elim hq'
  | cont=>exact False.elim hq'
end
section
variable {σ:St} {H:Hp} {Q:VK} {D:Cc} {K:PySem.W.Frag}
theorem Mx{C:Addr}{m:Str}{sp:Sp}{EE:St→XK}{ta:TE}{t:TA}:Vl C m sp EE ta t σ H Q=ta σ H fun x H1=>∃a dx fs,x= .ref a∧H1 a=some (.ins C dx fs)∧fs.lookup m=none∧t σ H1 fun vs H2=>sp (x::vs) H2 Q (EE σ):=rfl
theorem My{C:Addr}{sp:Sp}{EE:St→XK}{t:TA}:Vm C sp EE t σ H Q=t σ H fun vs H1=>∀x dx,H1 x=none→H1 dx=none→dx≠x→sp (.ref x::vs) (upd (upd H1 dx (.own x)) x (.ins C dx [])) (fun v H2=>v= .non∧Q (.ref x) H2) (EE σ):=rfl
theorem Vo{ta:TE}{f:Str}:J41 K ta f σ H Q=ta σ H fun x H1=>∃a C dx fs v,x= .ref a∧H1 a=some (.ins C dx fs)∧Cls K C∧Cq K C f∧fs.lookup f=some v∧Q v H1:=rfl
theorem Qd{ta tv:TE}{f:Str}:J42 K ta tv f D σ H=tv σ H fun y H1=>ta σ H1 fun x H2=>∃a C dx fs,x= .ref a∧H2 a=some (.ins C dx fs)∧Cls K C∧Cq K C f∧fs.length < 1000∧D.nx σ (upd H2 a (.ins C dx (Bh f y fs))):=rfl
theorem Vp{ty td:TE}:J4f ty td σ H Q=ty σ H fun y H1=>td σ H1 fun x H2=>∃a o,x= .ref a∧Cd H2 a y o∧Q (.bl o.isSome) H2:=rfl
theorem Kq{ty td:TE}:P7 ty td σ H Q=ty σ H fun y H1=>td σ H1 fun x H2=>∃a o,x= .ref a∧Cd H2 a y o∧Q (.bl (!o.isSome)) H2:=rfl
theorem Qe{td ty:TE}:J0q td ty σ H Q=td σ H fun x H1=>ty σ H1 fun y H2=>∃a v,x= .ref a∧Cd H2 a y (some v)∧Q v H2:=rfl
theorem Qf{td ty tv:TE}:J0r td ty tv D σ H=tv σ H fun v H1=>td σ H1 fun x H2=>ty σ H2 fun y H3=>∃a H4,x= .ref a∧Si H3 a y v H4∧D.nx σ H4:=rfl
theorem Qg{n:Nat}{t:TGs}{v:V}{N:St→Hp→Prop}:Xn K n t v σ H N=∃a xs,v= .ref a∧SqT K H a xs∧xs.length=n∧t xs σ H N:=rfl
end
theorem J2y{a b:Str}{n:Nat}(h1:a.length≤n / 2)(h2:b.length≤n / 2):(a++b).length≤n:=by
 rw [Q7];omega
end L2
namespace L2
section
variable {K:PySem.W.Frag} {x qual:Str} {st:Stmt} {f:Addr} {fd:FuncData} {p q r t:Str}
theorem Fun.b1(F:Fun K x qual st f fd)(h:∀(kV doc pm:Value) (an:Option Addr) (cdv ct u:Value),bindArgs (PySem.W.fnOf x qual (Au st) (An st) (A8 st) .none kV doc pm an cdv ct) ⟨[u],[]⟩=pure [(p,u)]):Bi K fd [p] []:=
 F.binds (ps:=[p]) fun kV doc pm an cdv ct us hl=>match us,hl with | [u],_=>h kV doc pm an cdv ct u
theorem Fun.b2(F:Fun K x qual st f fd)(h:∀(kV doc pm:Value) (an:Option Addr) (cdv ct u v:Value),bindArgs (PySem.W.fnOf x qual (Au st) (An st) (A8 st) .none kV doc pm an cdv ct) ⟨[u,v],[]⟩=pure [(p,u),(q,v)]):Bi K fd [p,q] []:=
 F.binds (ps:=[p,q]) fun kV doc pm an cdv ct us hl=>match us,hl with | [u,v],_=>h kV doc pm an cdv ct u v
theorem Fun.b3(F:Fun K x qual st f fd)(h:∀(kV doc pm:Value) (an:Option Addr) (cdv ct u v w:Value),bindArgs (PySem.W.fnOf x qual (Au st) (An st) (A8 st) .none kV doc pm an cdv ct) ⟨[u,v,w],[]⟩=pure [(p,u),(q,v),(r,w)]):Bi K fd [p,q,r] []:=
 F.binds (ps:=[p,q,r]) fun kV doc pm an cdv ct us hl=>match us,hl with | [u,v,w],_=>h kV doc pm an cdv ct u v w
end
end L2
namespace N1
open PySem L2
def Aj:List Nat:=List.range' 97 26
def B9:List Nat:=List.range' 48 10
theorem Im:(Str.ofString "abcdefghijklmnopqrstuvwxyz").cps.toList=Aj:=by decide+kernel
theorem Vq:(Str.ofString "0123456789").cps.toList=B9:=by decide+kernel
theorem Yb:(Str.ofString "abcdefghijklmnopqrstuvwxyz").length=26:=by decide+kernel
theorem Yc:(Str.ofString "0123456789").length=10:=by decide+kernel
theorem Sm:(Str.ofString "abcdefghijklmnopqrstuvwxyz0123456789").cps.toList=Aj++B9:=by decide+kernel
theorem Mz:(Aj++B9).length=36:=by decide
def Vr(l:List Nat)(s:List Nat):Bool:=match l with
 | []=>false
 | c::_=>decide (c∈s)
def B6(l:List Nat):Bool:=decide (1≤l.length) && decide (l.length≤8) && Vr l Aj && l.all fun c=>decide (c∈Aj++B9)
end N1
namespace N1
open PySem L2
def tx(l:List Nat):Str:=⟨l.toArray⟩
theorem G5{l:List Nat}:(tx l).cps.toList=l:=by simp [tx]
theorem J5p{z:Str}:tx z.cps.toList=z:=by cases z;simp [tx]
theorem J4y{a b:List Nat}(h:tx a=tx b):a=b:=by rw [← G5 (l:=a),h,G5]
theorem J4z{a b:List Nat}:tx a++tx b=tx (a++b):=by
 have h:=Ej (a:=tx a) (b:=tx b);rw [G5,G5]at h;rw [← J5p (z:=tx a++tx b),h]
theorem J16{l:List Nat}:(tx l).length=l.length:=by rw [← Dw,G5]
theorem J50{c:Nat}:(⟨#[c]⟩:Str)=tx [c]:=rfl
theorem N0:(Str.ofString "abcdefghijklmnopqrstuvwxyz0123456789").length=36:=by decide+kernel
def bc(i:Int):Nat:=(Aj++B9).getD i.toNat 0
theorem J51(i:Int){k:Int}(h0:0 < k)(h1:k≤36):atI (Str.ofString "abcdefghijklmnopqrstuvwxyz0123456789").cps.toList (i % k)=some (bc (i % k)):=by
 have h2:=FO i h0;have h3:=FT i (show k≠0 by omega);refine Ic h3 ?_
 have h4:(i % k).toNat < (Aj++B9).length:=by rw [Mz];omega
 unfold bc;rw [Sm,Fg,Fe h4];rfl
end N1
namespace N1
open L2
def Gn(K:PySem.W.Frag):Sp:=fun vs H Q _=>∃(a:Addr) (ns:List Int) (k:Int),vs=[.ref a,.int k]∧SqL K H a (ns.map V.int)∧0≤k∧ns.length≤63∧Q (.int (ns.getD k.toNat 0)) H
def Gp:Sp:=fun vs H Q _=>∃(z w:Str),vs=[.str z,.str w]∧z.length≤sizeLine∧∀H',A7 H H'→Q (.bl (z.cps.toList.all fun c=>decide (c∈w.cps.toList))) H'
def D0(K:PySem.W.Frag):Sp:=fun vs H Q _=>∃(x:V),vs=[x]∧((∃z:Str,x= .str z∧z.length≤sizeLine∧∀H',A7 H H'→Q (.bl (B6 z.cps.toList)) H')∨(Isi K H x "str" false∧Q (.bl false) H))
end N1
namespace N1
open L2
inductive StE where
 | noname | twice | nonum | many
def nOk:V→Bool
 | .str z=>B6 z.cps.toList
 | _=>false
def sOf:V→Str
 | .str z=>z
 | _=>Str.empty
def wIn(lo hi:Int):V→Bool
 | .int i=>decide (lo≤i) && decide (i≤hi)
 | _=>false
abbrev Rw:=Addr×V×V×V
def N2(ks:List Str)(n c r:V):Option StE:=if nOk n=false then some .noname else if sOf n∈ks then some .twice else if wIn 0 (10 ^ 30) c=false then some .nonum else if wIn 1 1000 r=false then some .nonum else none
def Dk(ks:List Str):List Rw→Option StE
 | []=>none
 | t::rs=>match N2 ks t.2.1 t.2.2.1 t.2.2.2 with
  | some e=>some e
  | none=>Dk (ks++[sOf t.2.1]) rs
def N7(rs:List Rw):Option StE:=if 60 < rs.length then some .many else Dk [] rs
theorem Yd{K:PySem.W.Frag}{H:Hp}{v:V}(h:C9 v=true):∃b c,Isi K H v "int" b∧(b=true→Isi K H v "bool" c)∧((b && !c)=true→∃i,v= .int i)∧((b && !c)=false→∀i,v≠ .int i):=by
 cases v with
 | non=>exact ⟨false,false,Uc,fun h=>by (cases h),fun h=>by (cases h),fun _ i h=>by cases h⟩
 | bl b=>exact ⟨true,true,Ua,fun _=>U9,fun h=>by (cases h),fun _ i h=>by cases h⟩
 | int i=>exact ⟨true,false,U7,fun _=>U8,fun _=>⟨i,rfl⟩,fun h=>by cases h⟩
 | str z=>exact ⟨false,false,Ub,fun h=>by (cases h),fun h=>by (cases h),fun _ i h=>by cases h⟩
 | _=>cases h
def Ca(K:PySem.W.Frag):Sp:=fun vs H Q _=>∃(x:V) (b c:Bool),vs=[x]∧Isi K H x "int" b∧(b=true→Isi K H x "bool" c)∧Q (.bl (b && !c)) H
def Dx(K:PySem.W.Frag):Sp:=fun vs H Q _=>∃(v:V) (lo hi:Int),vs=[v,.int lo,.int hi]∧C9 v=true∧Q (.bl (wIn lo hi v)) H
def SameBut(p:Addr)(H H':Hp):Prop:=∀b o,H b=some o→b≠p→H' b=some o
theorem SameBut.trans{p:Addr}{H H1 H2:Hp}(h1:SameBut p H H1)(h2:SameBut p H1 H2):SameBut p H H2:=fun b o e n=>h2 b o (h1 b o e n) n
theorem SameBut.of{p:Addr}{H H1:Hp}(h:A7 H H1):SameBut p H H1:=fun b o e _=>h b o e
theorem N8{p:Addr}{H:Hp}{o:HO}:SameBut p H (upd H p o):=fun b u e n=>by rw [A0 n];exact e
abbrev Th:=Str×Int×Int
def flds(d:Addr):List (Str×V):=Bh "things" (.ref d) []
structure Ai(K:PySem.W.Frag)(C:Addr)(H:Hp)(p:Addr)(ts:List Th):Prop where
 ex:∃(dx d:Addr) (kvs:List (Key×V)),H p=some (.ins C dx (flds d))∧H d=some (.dK kvs)∧kvs.map (·.1)=ts.map (fun t=>Sum.inr t.1)∧
  ∀(i:Nat) (t:Th),ts[i]?=some t→∃a,kvs[i]?=some (Sum.inr t.1,.ref a)∧SqT K H a [.int i,.int t.2.1,.int t.2.2]
theorem Ai.same{K:PySem.W.Frag}{C:Addr}{H H':Hp}{p:Addr}{ts:List Th}(s:A7 H H')(h:Ai K C H p ts):Ai K C H' p ts:=by
 obtain ⟨dx,d,kvs,h1,h2,h3,h4⟩:=h.ex;refine ⟨dx,d,kvs,s _ _ h1,s _ _ h2,h3,fun i t e=>?_⟩;obtain ⟨a,e1,e2⟩:=h4 i t e;exact ⟨a,e1,s.tup e2⟩
def iOf:V→Int
 | .int i=>i
 | _=>0
def Ye(t:Rw):Th:=(sOf t.2.1,iOf t.2.2.1,iOf t.2.2.2)
theorem SqT.but{K:PySem.W.Frag}{H H':Hp}{p a C dx:Addr}{fs:List (Str×V)}{xs:List V}(s:SameBut p H H')(hp:H p=some (.ins C dx fs))(h:SqT K H a xs):SqT K H' a xs:=by
 rcases h with (h | ⟨o,h⟩) | h
 · exact .inl (.inl (s _ _ h (Ce h hp (by intro z;cases z))))
 · exact .inl (.inr ⟨o,s _ _ h (Ce h hp (by intro z;cases z))⟩)
 · exact .inr h
theorem SqL.but{K:PySem.W.Frag}{H H':Hp}{p a C dx:Addr}{fs:List (Str×V)}{xs:List V}(s:SameBut p H H')(hp:H p=some (.ins C dx fs))(h:SqL K H a xs):SqL K H' a xs:=by
 rcases h with (h | ⟨o,h⟩) | h
 · exact .inl (.inl (s _ _ h (Ce h hp (by intro z;cases z))))
 · exact .inl (.inr ⟨o,s _ _ h (Ce h hp (by intro z;cases z))⟩)
 · exact .inr h
theorem Lq{kvs:List (Key×V)}{ks:List Str}{z:Str}(h:kvs.map (·.1)=ks.map Sum.inr):(Bc kvs (Sum.inr z)).isSome=decide (z∈ks):=by
 have e:(Sum.inr z:Key)∈kvs.map (·.1)↔z∈ks:=by
  rw [h,Fw];constructor
  · rintro ⟨a,ha,e⟩;injection e with e;subst e;exact ha
  · intro h;exact ⟨z,h,rfl⟩
 cases hv:Bc kvs (Sum.inr z:Key) with
 | none=>rw [FB fun q=>U4 hv (e.mpr q)];rfl
 | some v=>rw [Fy (e.mp (Xz hv))];rfl
theorem Bk{d:Addr}:(flds d).lookup ("things":Str)=some (V.ref d):=by
 unfold flds;rw [Bb,if_pos rfl]
theorem Kr{ks:List Str}{n co r:V}(h:N2 ks n co r=none):∃z c q,n= .str z∧co= .int c∧r= .int q∧¬z∈ks∧B6 z.cps.toList=true∧0≤c∧c≤10 ^ 30∧1≤q∧q≤1000:=by
 unfold N2 at h;split at h
 · cases h
 rename_i h1;split at h
 · cases h
 rename_i h2;split at h
 · cases h
 rename_i h3;split at h
 · cases h
 rename_i h4
 cases n with
 | str z=>
  cases co with
  | int c=>
   cases r with
   | int q=>
    simp only [wIn,Bool.and_eq_false_iff,decide_eq_false_iff_not,not_or,Decidable.not_not]at h3 h4;exact ⟨z,c,q,rfl,rfl,rfl,h2,by simpa [nOk] using h1,h3.1,h3.2,h4.1,h4.2⟩
   | _=>exact absurd rfl h4
  | _=>exact absurd rfl h3
 | _=>exact absurd rfl h1
theorem N9{ks:List Str}{rs:List Rw}{i:Nat}{t:Rw}(h:rs[i]?=some t):Dk ks (rs.drop i)=match N2 ks t.2.1 t.2.2.1 t.2.2.2 with
 | some e=>some e
 | none=>Dk (ks++[sOf t.2.1]) (rs.drop (i+1)):=by
 have e:rs.drop i=t::rs.drop (i+1):=by
  obtain ⟨hi,rfl⟩:=Fi.mp h;exact List.drop_eq_getElem_cons hi
 rw [e];rfl
def D9(rs:List Rw):List Str:=rs.map fun t=>sOf t.2.1
structure Qh(K:PySem.W.Frag)(H:Hp)(d:Addr)(rs:List Rw):Prop where
 ex:∃kvs:List (Key×V),H d=some (.dK kvs)∧kvs.map (·.1)=(D9 rs).map Sum.inr∧∀(j:Nat) (t:Rw),rs[j]?=some t→∃a,kvs[j]?=some (Sum.inr (sOf t.2.1),.ref a)∧SqT K H a [.int j,.int (iOf t.2.2.1),.int (iOf t.2.2.2)]
theorem Qh.snoc{K:PySem.W.Frag}{H:Hp}{d a:Addr}{rs:List Rw}{t:Rw}{kvs:List (Key×V)}{c q:Int}{z:Str}(h1:H d=some (.dK kvs))(h2:kvs.map (·.1)=(D9 rs).map Sum.inr)
 (h3:∀(j:Nat) (t:Rw),rs[j]?=some t→∃a,kvs[j]?=some (Sum.inr (sOf t.2.1),.ref a)∧SqT K H a [.int j,.int (iOf t.2.2.1),.int (iOf t.2.2.2)])
 (e1:t.2.1= .str z) (e2:t.2.2.1= .int c) (e3:t.2.2.2= .int q) (nz:¬z∈D9 rs) (ha:H a=some (.tup [.int kvs.length,.int c,.int q])):
 Qh K (upd H d (.dK (E5 kvs (Sum.inr z) (.ref a)))) d (rs++[t]):=by
 have hl:kvs.length=rs.length:=by
  have:=congrArg List.length h2
  simpa [D9] using this
 have hv:Bc kvs (Sum.inr z:Key)=none:=by
  have:=Lq (z:=z) h2;rw [FB nz]at this
  cases h:Bc kvs (Sum.inr z:Key) with
  | none=>rfl
  | some v=>rw [h]at this;cases this
 have Ge:∀{b:Addr} {xs:List V} {o:List (Key×V)},SqT K H b xs→SqT K (upd H d (.dK o)) b xs:=fun {b xs o} h=>by
  rcases h with (h | ⟨o',h⟩) | h
  · exact .inl (.inl (by rw [A0 (Ce h h1 (by intro z;cases z))];exact h))
  · exact .inl (.inr ⟨_,by rw [A0 (Ce h h1 (by intro z;cases z))];exact h⟩)
  · exact .inr h
 refine ⟨_,A1,?_,fun j t' hj=>?_⟩
 · rw [Mb _ hv,FK,h2]
   simp [D9,e1,sOf]
 · rw [Mb _ hv]
   by_cases hlt:j < rs.length
   · rw [Fs hlt]at hj
     obtain ⟨b,e,hb⟩:=h3 j t' hj;exact ⟨b,by rw [Fs (by omega)];exact e,Ge hb⟩
   · rw [Fv (by omega)]at hj
     have hj0:j - rs.length=0:=by
      have:=(Fi.mp hj).1;simp at this;omega
     rw [hj0]at hj;cases hj
     have ej:j=rs.length:=by omega
     subst ej;refine ⟨a,?_,?_⟩
     · rw [← hl,Fv (by omega)];simp [e1,sOf]
     · rw [e2,e3]
       refine Ge (SqT.of ?_);rw [ha,hl];rfl
end N1
namespace L2
open PySem.W
section
variable {X:Cx} {pins:List (Addr×Obj)} {σ:List (Option V)} {H H':Hp} {s:Shared} {h':Heap}
theorem Inv.grown{t':Nat}{tp:Addr}{ps more:Array Value}(I:Inv X pins σ H s)(ht:H tp=some (.tbl ps))(k:∀b u,b≠tp→s.heap.get? b=some u→h'.get? b=some u)(e:h'.get? tp=some (tabObj (ps++more)))
 (hT:H' tp=some (.tbl (ps++more))) (old:∀b,b≠tp→b < s.heap.objs.size→H' b=H b) (new:∀b u,s.heap.objs.size≤b→H' b=some u→Ak X.prog X.w H' h' b u):Inv X pins σ H' {s with heap:=h',toks:=t'}:=by
 have lt:∀b u,H b=some u→b < s.heap.objs.size:=fun b u q=>(I.hok b u q).lt
 have nt:∀b u,H b=some u→(∀ps,u≠ .tbl ps)→b≠tp:=fun b u q n z=>by rw [z,ht]at q;cases q;exact n _ rfl
 have st:∀b u,H b=some u→b≠tp→H' b=some u:=fun b u q n=>by rw [old b n (lt b u q)];exact q
 refine I.un ⟨fun b o q n _ _=>k b o (fun z=>by rw [z,ht]at n;cases n) q,fun b o q n _ _=>⟨o.slots,k b o (fun z=>by rw [z,ht]at n;cases n) q⟩,fun b o q n _=>?_,fun b o q _=>?_,fun b xs q=>st b _ q (nt b _ q fun _ z=>by cases z),fun b o u q=>st b _ q (nt b _ q fun _ z=>by cases z),fun b ps' q=>?_⟩ fun b u q=>?_
 · rw [old b (fun z=>by rw [z,ht]at n;cases n) (Fh q)];exact n
 · by_cases z:b=tp
   · subst z;exact ⟨_,e⟩
   · exact ⟨o,k b o z q⟩
 · by_cases z:b=tp
   · subst z;rw [ht]at q;cases q;exact ⟨more,hT⟩
   · exact ⟨#[],by rw [st b _ q z];simp⟩
 · by_cases z:b=tp
   · subst z;rw [hT]at q;cases q;exact e
   · by_cases hb:b < s.heap.objs.size
     · have q0:H b=some u:=by rw [← old b z hb];exact q
       refine (I.hok b u q0).stay (fun c v hc r=>k c v (fun w'=>?_) r) (fun c r=>st c _ r (nt c _ r fun _ z=>by cases z)) fun c xs r=>st c _ r (nt c _ r fun _ z=>by cases z);rcases hc with rfl | hc
       · exact z w'
       · rw [w',ht]at hc;cases hc
     · exact new b u (Ro hb) q
end
def Cj(c:Addr)(qual:Str):HO:= .ext fun h=>h.CodeRec (.ref c) qual
def fnO(f:Addr)(o:Obj):HO:= .ext fun h=>h.get? f=some o
theorem Io{P:Program}{w:World}{H:Hp}{h:Heap}{c:Addr}{qual:Str}(x:h.CodeRec (.ref c) qual):Ak P w H h c (Cj c qual):=by
 refine ⟨x,?_,fun h1 h2 y k=>?_⟩
 · obtain ⟨c',oc,vs,tq,e,hoc,_⟩:=x
   cases e;exact ⟨oc,hoc⟩
 · obtain ⟨c',oc,vs,tq,e,hoc,r⟩:=y
   cases e;exact ⟨_,oc,vs,tq,rfl,k _ hoc,r⟩
theorem G6{P:Program}{w:World}{H:Hp}{h:Heap}{f:Addr}{o:Obj}(x:h.get? f=some o):Ak P w H h f (fnO f o):=⟨x,⟨o,x⟩,fun _ _ y k=>k _ y⟩
def Av(tp:Addr)(pos:Pos)(qual:Str)(H:Hp):Prop:=H tp=some (.tbl #[])∨∃c,H tp=some (.tbl #[rawInt pos.line,rawInt pos.col,.ref c])∧H c=some (Cj c qual)
def J2z(tp:Addr)(pos:Pos)(qual:Str)(fo:Addr→Value→Obj):TE:=fun _ H Q=>Av tp pos qual H∧∀f c ct H',H f=none→N1.SameBut tp H H'→Av tp pos qual H'→H' c=some (Cj c qual)→H' f=some (fnO f (fo c ct))→Q (.ref f) H'
section
variable {X:Cx}
theorem J30{args:Arguments}{body:Expr}{scope:Scope}{pos:Pos}{c tp:Addr}(hdef:defaultsOf args X.env=([],[]))(hcl:closureFor scope X.env=pure [])(hcode:X.env.code= .ref c)(hc:codeHdIn X.K c tp=true)(hne:mainGlobals≠tp)
 (hB:X.base.BuiltinsAt X.mg tp):
 PE X (.Lambda args body scope pos) (J2z tp pos (X.env.qual++"<lambda>") fun c ct=>kla_obj "<lambda>" (X.env.qual++"<lambda>") args body scope [] ((X.mg "__name__").getD .none) c ct):=by
 intro pins s σ H Q I h;obtain ⟨hL,q⟩:=h;have C:CodeHd s.heap c tp:=codeHd_of_K I.kIn hc;have G:s.heap.Ns mainGlobals X.mg:=I.mod.glob.keeps I.bk;have B:s.heap.BuiltinsAt X.mg tp:=hB.keeps I.bk;refine kla_eval hdef ?_;rcases hL with hE | ⟨c',hE,hc'⟩
 · have hP:s.heap.get? tp=some (tabObj #[]):=I.hok tp _ hE
   have ltt:=Fh hP;refine kla_makeFunction hcl I.ok.glob G hcode C hP (by first | trivial | exact .nil | simp [TriplesOk]) rfl hne B fun c' ctv h' tk hx hge hlt hrec htab=>?_;have ncf:c'≠h'.objs.size:=Ff hlt;have ltc:tp < c':=Fc ltt hge;have szf:s.heap.objs.size≤h'.objs.size:=FH hge (HM hlt);have ntf:tp≠h'.objs.size:=Ff (R4 ltc hlt);have ntc:tp≠c':=Ff ltc;generalize hF:(kla_obj "<lambda>" (X.env.qual++"<lambda>") args body scope [] ((X.mg "__name__").getD .none) c' ctv)=fo
   have I2:Inv X pins σ (upd (upd (upd H tp (.tbl #[rawInt pos.line,rawInt pos.col,.ref c'])) c' (Cj c' (X.env.qual++"<lambda>"))) h'.objs.size (fnO h'.objs.size fo)) {s with heap:=h'.push fo,toks:=tk}:=by
    refine I.grown (more:=#[rawInt pos.line,rawInt pos.col,.ref c']) hE (fun b u nb e=>Fb _ (hx b u nb e)) (Fb _ htab) ?_ (fun b nb lb=>?_) fun b u lb e=>?_
    · rw [A0 ntf,A0 ntc];exact A1
    · rw [A0 (Ff (Fc lb szf)),A0 (Ff (Fc lb hge)),A0 nb]
    · by_cases e1:b=h'.objs.size
      · subst e1
        rw [A1]at e;cases e;exact G6 (Fo _ (by rw [← hF];rfl))
      · rw [A0 e1]at e
        by_cases e2:b=c'
        · subst e2
          rw [A1]at e;cases e;obtain ⟨c2,oc,vs,tq,ec,hoc,r⟩:=hrec;exact Io ⟨c2,oc,vs,tq,ec,Fb _ hoc,r⟩
        · rw [A0 e2,A0 (fun z=>by rw [z]at lb;exact Hg _ (Fc ltt lb)),I.hok.fresh lb]at e
          cases e
   refine ⟨.ref h'.objs.size,_,I2,rfl,q _ c' ctv _ (I.hok.fresh szf) (fun b o e nb=>?_) (.inr ⟨c',?_,?_⟩) ?_ (by rw [A1,← hF])⟩
   · have lb:=(I.hok b o e).lt
     rw [A0 (Ff (Fc lb szf)),A0 (Ff (Fc lb hge)),A0 nb];exact e
   · rw [A0 ntf,A0 ntc];exact A1
   · rw [A0 ncf];exact A1
   · rw [A0 ncf];exact A1
 · have hP:s.heap.get? tp=some (tabObj #[rawInt pos.line,rawInt pos.col,.ref c']):=I.hok tp _ hE
   have ltt:=Fh hP;have ltc:=(I.hok c' _ hc').lt;refine kla_makeFunctionHit (cv:= .ref c') hcl I.ok.glob G hcode C hP (by simp [TriplesOk,rawInt]) (by simp [codeAmong,rawInt]) B fun ctv h' tk hk hsz=>?_;generalize hF:({cls:= .type "function",data:= .func (kla_fn "<lambda>" (X.env.qual++"<lambda>") args body scope [] ((X.mg "__name__").getD .none) (.ref c') ctv)}:Obj)=fo;have I2:=I.laid (a:=h'.objs.size) (o:=fnO h'.objs.size fo) (t':=tk) (h':=h'.push fo) (fun b u e=>Fb _ (hk b u e)) hsz (G6 (Fo _ (by rw [← hF];rfl)));have nw:=I.hok.fresh hsz
   have sm:∀b o,H b=some o→upd H h'.objs.size (fnO h'.objs.size fo) b=some o:=fun b o e=>by rw [A0 (A3 e nw)];exact e
   exact ⟨.ref h'.objs.size,_,I2,rfl,q _ c' ctv _ nw (fun b o e _=>sm b o e) (.inr ⟨c',sm _ _ hE,sm _ _ hc'⟩) (sm _ _ hc') (by rw [A1,← hF])⟩
end
def Yf(K:PySem.W.Frag)(f tp:Addr):Prop:=∃(oc:Value) (od:Option Addr) (fd:FuncData) (sl:Array (Option Value)) (c:Addr),K.lookup f=some ⟨oc,od,.func fd,sl⟩∧fd.code= .ref c∧codeHdIn K c tp=true
theorem Vs{tp:Addr}{pos:Pos}{qual:Str}{fo:Addr→Value→Obj}{σ:St}{H:Hp}{Q:VK}:J2z tp pos qual fo σ H Q=(Av tp pos qual H∧∀f c ct H',H f=none→N1.SameBut tp H H'→Av tp pos qual H'→H' c=some (Cj c qual)→H' f=some (fnO f (fo c ct))→Q (.ref f) H'):=rfl
end L2
namespace L2
open PySem.W
def Az(c:Addr)(o:Obj):HO:= .frz o (.ext fun h=>h.get? c=some o)
theorem Qi{P:Program}{w:World}{H:Hp}{h:Heap}{c:Addr}{o:Obj}(e:h.get? c=some o):Ak P w H h c (Az c o):=⟨e,e,⟨o,e⟩,fun _ _ y k=>k _ y⟩
structure K3 where
 qual:Str
 args:Arguments
 body:Expr
 scope:Scope
abbrev J31(L:K3)(cl:List (Str×Addr))(pm:Value)(cd:Addr)(ct:Value):Obj:=kla_obj "<lambda>" L.qual L.args L.body L.scope cl pm cd ct
def Ip(L:K3)(cl:List (Str×Addr))(H:Hp)(f:Addr):Prop:=∃pm cd ct,H f=some (fnO f (J31 L cl pm cd ct))∧H cd=some (Cj cd L.qual)
def B4(H:Hp)(cl:List (Str×Addr))(vs:List V):Prop:=Paired (fun (p:Str×Addr) (v:V)=>∃o u,H p.2=some (Az p.2 o)∧o.data= .cell (some u)∧Ab v u) cl vs
theorem Ip.same{L:K3}{cl:List (Str×Addr)}{H H':Hp}{f:Addr}(s:A7 H H')(h:Ip L cl H f):Ip L cl H' f:=let ⟨pm,cd,ct,a,b⟩:=h;⟨pm,cd,ct,s _ _ a,s _ _ b⟩
theorem B4.same{cl:List (Str×Addr)}{H H':Hp}{vs:List V}(s:A7 H H')(h:B4 H cl vs):B4 H' cl vs:=Paired.mapP h fun p v ⟨o,u,a,b⟩=>⟨o,u,s _ _ a,b⟩
theorem B4.get{H:Hp}:∀{cl:List (Str×Addr)} {vs:List V},B4 H cl vs→∀p∈cl,∃o u,H p.2=some (Az p.2 o)∧o.data= .cell (some u)
 | _,_,.nil,_,h=>by cases h
 | _,_,.cons ⟨o,u,a,b,_⟩ t,p,h=>by
  rcases FD.mp h with rfl | h
  · exact ⟨o,u,a,b⟩
  · exact B4.get t p h
theorem B4.ix{H:Hp}:∀{cl:List (Str×Addr)} {vs:List V} {i:Nat} {v:V},B4 H cl vs→vs[i]?=some v→∃p o u,cl[i]?=some p∧H p.2=some (Az p.2 o)∧o.data= .cell (some u)∧Ab v u
 | _,_,_,_,.nil,h=>by cases h
 | _,_,0,v,.cons ⟨o,u,a,b,c⟩ t,h=>by
  simp at h;subst h;exact ⟨_,o,u,rfl,a,b,c⟩
 | _,_,i+1,v,.cons _ t,h=>by
  obtain ⟨p,o,u,e,r⟩:=B4.ix (i:=i) (v:=v) t (by simpa using h);exact ⟨p,o,u,by simpa using e,r⟩
def unk(H:Hp)(as:List Addr):Hp:=fun b=>if b∈as then none else H b
def retr(H H0:Hp)(as:List Addr):Hp:=fun b=>if b∈as then H0 b else H b
section
variable {H H0:Hp} {as:List Addr} {b:Addr}
theorem Bp(h:b∈as):unk H as b=none:=if_pos h
theorem Ae(h:b∉as):unk H as b=H b:=if_neg h
theorem Br(h:b∈as):retr H H0 as b=H0 b:=if_pos h
theorem Ao(h:b∉as):retr H H0 as b=H b:=if_neg h
theorem Bd(h:H b=none):unk H as b=none:=by
 by_cases z:b∈as
 · exact Bp z
 · rw [Ae z];exact h
theorem Iq{o:HO}(h:unk H as b=some o):b∉as∧H b=some o:=by
 by_cases z:b∈as
 · rw [Bp z]at h;cases h
 · rw [Ae z]at h;exact ⟨z,h⟩
theorem Yg:unk H []=H:=by funext b;exact Ae (by simp)
theorem Vt:retr H H0 []=H:=by funext b;exact Ao (by simp)
end
structure As(N ps:List Str)(sc:Scope)(cl:List (Str×Addr)):Prop where
 kind:sc.kind= .function
 co:sc.isCoroutine=false
 gen:sc.isGenerator=false
 nd:(ps++cl.map (·.1)).Nodup
 N:N=ps++cl.map (·.1)
 par:∀x∈ps,sc.names.lookup x=some .local
 nocell:∀y∈sc.names,y.2≠ .cell
 fr:∀x,sc.names.lookup x=some .free→∃c,cl.lookup x=some c
 frk:∀p∈cl,sc.names.lookup p.1=some .free
 inj:∀x y c,cl.lookup x=some c→cl.lookup y=some c→x=y
theorem Yh{x:Str}{u:Value}:∀{l:List (Str×Value)},(l.map (·.1)).Nodup→(x,u)∈l→l.lookup x=some u:=by
 intro l
 induction l with
 | nil=>intro _ h;cases h
 | cons p r ih=>
  intro nd h;rw [List.map_cons,FZ]at nd;rcases FD.mp h with e | h
  · rw [← e,Hz]
  · have n:x≠p.1:=fun e=>nd.1 (Fw.mpr ⟨_,h,e⟩)
    rw [FL,show (x==p.1)=false from FX.mpr n];exact ih nd.2 h
theorem Na{x:Str}{u:Value}:∀{ps:List Str} {us:List Value} {i:Nat},ps.Nodup→ps[i]?=some x→us[i]?=some u→(ps.zip us).reverse.lookup x=some u:=by
 intro ps us i nd h1 h2;refine Yh ?_ ?_
 · rw [List.map_reverse]
   refine (List.reverse_perm _).nodup_iff.mpr ?_
   have key:∀(ps:List Str) (us:List Value),((ps.zip us).map (·.1)).Sublist ps:=by
    intro ps
    induction ps with
    | nil=>intro us;cases us <;> exact List.Sublist.refl _
    | cons p r ih=>
     intro us
     cases us with
     | nil=>exact List.nil_sublist _
     | cons u v=>exact (ih v).cons₂ p
   exact nd.sublist (key ps us)
 · rw [List.mem_reverse]
   exact Fk (i:=i) (by rw [List.getElem?_zip_eq_some];exact ⟨h1,h2⟩)
section
variable {P:Program} {w:World} {K:PySem.W.Frag} {mg:Str→Option Value} {base:Heap}
structure Da(P:Program)(w:World)(K:PySem.W.Frag)(mg:Str→Option Value)(base:Heap)(CX:CXT)(k:Nat)(f:Addr)(J:Hp→Prop)(sp:Sp):Prop where
 fnd:PySem.W.keepIn K (.ref f)=true∨∀(H:Hp) (h:Heap),HOk P w H h→J H→FnAt f h
 run:∀(A:Around) (outer:List Env) (s:Shared) (H:Hp) (us:List Value) (vs:List V) (Q:VK) (E:XK),B0 k A→Ez P w K mg base A outer s H→Ag vs us→J H→sp vs H Q E→codeAny (model P w) A (.call (.ref f) ⟨us,[]⟩) (CR CX outer P w H s Q E) s
end
def Vu{ι:Type}(fa:ι→Addr)(J:ι→Hp→Prop)(sp:ι→Sp)(E:XK)(tv:TE)(t:TA):TE:=fun σ H Q=>tv σ H fun x H1=>∃b,x= .ref (fa b)∧J b H1∧t σ H1 fun vs H2=>J b H2∧sp b vs H2 Q E
section
variable {ι:Type} {X:Cx} {CX:CXT} {k j:Nat} {fa:ι→Addr} {J:ι→Hp→Prop} {sp:ι→Sp} {E:XK} {x:Str} {p pos:Pos} {e:Expr} {es:List Expr} {tv:TE} {t:TA}
theorem Vv(D:∀b,Da X.prog X.w X.K X.mg X.base CX j (fa b) (J b) (sp b))(hr:B0 k X.A)(hx:Cr CX X E)(hv:PE X (.Name x p) tv)(ha:PA X (e::es) t)(hj:j≤k:=by decide)
 (he:starEach (e::es) X.env=(false,eval e X.env)::starEach es X.env:=by rfl) (hpl:(backTo pos (starEach es X.env)).any (·.1)=false:=by rfl):
 PE X (.Call (.Name x p) (e::es) [] pos) (Vu fa J sp E tv t):=by
 intro pins s σ H Q I h;refine FU (thn (hv pins s σ H _ I h) fun u s1 hq_=>?_);obtain ⟨y,H1,I1,ry,b,ey,j1,q1⟩:=hq_;subst ey;obtain rfl:u=Value.ref (fa b):=ry
 have go:∀(us:List Value) (s2:Shared) (vs:List V) (H2:Hp),Inv X pins σ H2 s2→Ag vs us→J b H2→sp b vs H2 Q E→wpAny (model X.prog X.w) X.A (call (.ref (fa b)) us) (EP X pins σ Q) X.xe s2:=fun us s2 vs H2 I2 r j2 q2=>by
  refine Hv (Hh ((D b).run X.A X.stack s2 H2 us vs Q E (hr.mono hj) I2.env0 r j2 q2) fun r s' hq=>?_)
  cases r with
  | error e=>exact hx pins σ H2 s2 e s' I2 hq
  | ok fl=>
   cases fl with
   | ret u=>exact I2.after hq
   | next=>exact False.elim hq
   | brk=>exact False.elim hq
   | cont=>exact False.elim hq
 rcases (D b).fnd with hk | hk
 · refine Hc (h₀:=X.base) I.ok.mod.kin hk (thn (ha pos pins s1 σ H1 _ I1 q1) fun us s2 ⟨vs,H2,I2,r,j2,q2⟩=>⟨I2.kIn,go us s2 vs H2 I2 r j2 q2⟩) he hpl
 · refine callWith_F (hk _ _ I1.hok j1) (thn (ha pos pins s1 σ H1 _ I1 q1) fun us s2 ⟨vs,H2,I2,r,j2,q2⟩=>⟨hk _ _ I2.hok j2,go us s2 vs H2 I2 r j2 q2⟩) he hpl
theorem Nb{σ:St}{H:Hp}{Q:VK}:Vu fa J sp E tv t σ H Q=tv σ H fun x H1=>∃b,x= .ref (fa b)∧J b H1∧t σ H1 fun vs H2=>J b H2∧sp b vs H2 Q E:=rfl
end
def J52(s:Stmt):Expr:=match s with
 | .Return (some e) _=>e
 | _=> .Constant .none 0 ⟨0,0,0,0⟩
def J17(qual:Str)(e:Expr):K3:=match e with
 | .Lambda a b s _=>⟨qual,a,b,s⟩
 | _=>⟨qual,Au (.Pass ⟨0,0,0,0⟩),e,A8 (.Pass ⟨0,0,0,0⟩)⟩
theorem As.mk1{ps:List Str}{sc:Scope}{x:Str}{c:Addr}(kind:sc.kind= .function)(co:sc.isCoroutine=false)(gen:sc.isGenerator=false)(nd:(ps++[x]).Nodup)(par:∀y∈ps,sc.names.lookup y=some .local)(nocell:∀y∈sc.names,y.2≠ .cell)
 (fr:∀y∈sc.names,y.2= .free→y.1=x) (frk:sc.names.lookup x=some .free):As (ps++[x]) ps sc [(x,c)]:=by
 refine ⟨kind,co,gen,nd,rfl,par,nocell,fun y hy=>⟨c,?_⟩,fun p hp=>?_,fun y z d h1 h2=>?_⟩
 · have e:y=x:=fr _ (Ft hy) rfl
   rw [e,Hz]
 · rw [Fj.mp hp];exact frk
 · have e1:=Fj.mp (Ft h1)
   have e2:=Fj.mp (Ft h2);rw [(Rr e1).1,(Rr e2).1]
theorem As.mk0{ps:List Str}{sc:Scope}(kind:sc.kind= .function)(co:sc.isCoroutine=false)(gen:sc.isGenerator=false)(nd:ps.Nodup)(par:∀y∈ps,sc.names.lookup y=some .local)(nocell:∀y∈sc.names,y.2≠ .cell)
 (fr:∀y∈sc.names,y.2≠ .free):As ps ps sc []:=
 ⟨kind,co,gen,by rw [List.map_nil,FF];exact nd,by rw [List.map_nil,FF],par,nocell,fun y hy=>absurd rfl (fr _ (Ft hy)),(fun p hp=>by cases hp),(fun y z d h1 _=>by cases h1)⟩
end L2
namespace L2
open PySem.W
section
variable {X:Cx}
theorem Yi{cl:List (Str×Addr)}{args:Arguments}{body:Expr}{scope:Scope}{pos:Pos}{c tp:Addr}(hdef:defaultsOf args X.env=([],[]))(hcl:closureFor scope X.env=pure cl)(hcode:X.env.code= .ref c)(hc:codeHdIn X.K c tp=true)(hne:mainGlobals≠tp)
 (hB:X.base.BuiltinsAt X.mg tp):
 PE X (.Lambda args body scope pos) (J2z tp pos (X.env.qual++"<lambda>") fun c ct=>kla_obj "<lambda>" (X.env.qual++"<lambda>") args body scope cl ((X.mg "__name__").getD .none) c ct):=by
 intro pins s σ H Q I h;obtain ⟨hL,q⟩:=h;have C:CodeHd s.heap c tp:=codeHd_of_K I.kIn hc;have G:s.heap.Ns mainGlobals X.mg:=I.mod.glob.keeps I.bk;have B:s.heap.BuiltinsAt X.mg tp:=hB.keeps I.bk;refine kla_eval hdef ?_;rcases hL with hE | ⟨c',hE,hc'⟩
 · have hP:s.heap.get? tp=some (tabObj #[]):=I.hok tp _ hE
   have ltt:=Fh hP;refine kla_makeFunction hcl I.ok.glob G hcode C hP (by first | trivial | exact .nil | simp [TriplesOk]) rfl hne B fun c' ctv h' tk hx hge hlt hrec htab=>?_;have ncf:c'≠h'.objs.size:=Ff hlt;have ltc:tp < c':=Fc ltt hge;have szf:s.heap.objs.size≤h'.objs.size:=FH hge (HM hlt);have ntf:tp≠h'.objs.size:=Ff (R4 ltc hlt);have ntc:tp≠c':=Ff ltc;generalize hF:(kla_obj "<lambda>" (X.env.qual++"<lambda>") args body scope cl ((X.mg "__name__").getD .none) c' ctv)=fo
   have I2:Inv X pins σ (upd (upd (upd H tp (.tbl #[rawInt pos.line,rawInt pos.col,.ref c'])) c' (Cj c' (X.env.qual++"<lambda>"))) h'.objs.size (fnO h'.objs.size fo)) {s with heap:=h'.push fo,toks:=tk}:=by
    refine I.grown (more:=#[rawInt pos.line,rawInt pos.col,.ref c']) hE (fun b u nb e=>Fb _ (hx b u nb e)) (Fb _ htab) ?_ (fun b nb lb=>?_) fun b u lb e=>?_
    · rw [A0 ntf,A0 ntc];exact A1
    · rw [A0 (Ff (Fc lb szf)),A0 (Ff (Fc lb hge)),A0 nb]
    · by_cases e1:b=h'.objs.size
      · subst e1
        rw [A1]at e;cases e;exact G6 (Fo _ (by rw [← hF];rfl))
      · rw [A0 e1]at e
        by_cases e2:b=c'
        · subst e2
          rw [A1]at e;cases e;obtain ⟨c2,oc,vs,tq,ec,hoc,r⟩:=hrec;exact Io ⟨c2,oc,vs,tq,ec,Fb _ hoc,r⟩
        · rw [A0 e2,A0 (fun z=>by rw [z]at lb;exact Hg _ (Fc ltt lb)),I.hok.fresh lb]at e
          cases e
   refine ⟨.ref h'.objs.size,_,I2,rfl,q _ c' ctv _ (I.hok.fresh szf) (fun b o e nb=>?_) (.inr ⟨c',?_,?_⟩) ?_ (by rw [A1,← hF])⟩
   · have lb:=(I.hok b o e).lt
     rw [A0 (Ff (Fc lb szf)),A0 (Ff (Fc lb hge)),A0 nb];exact e
   · rw [A0 ntf,A0 ntc];exact A1
   · rw [A0 ncf];exact A1
   · rw [A0 ncf];exact A1
 · have hP:s.heap.get? tp=some (tabObj #[rawInt pos.line,rawInt pos.col,.ref c']):=I.hok tp _ hE
   have ltt:=Fh hP;have ltc:=(I.hok c' _ hc').lt;refine kla_makeFunctionHit (cv:= .ref c') hcl I.ok.glob G hcode C hP (by simp [TriplesOk,rawInt]) (by simp [codeAmong,rawInt]) B fun ctv h' tk hk hsz=>?_;generalize hF:({cls:= .type "function",data:= .func (kla_fn "<lambda>" (X.env.qual++"<lambda>") args body scope cl ((X.mg "__name__").getD .none) (.ref c') ctv)}:Obj)=fo;have I2:=I.laid (a:=h'.objs.size) (o:=fnO h'.objs.size fo) (t':=tk) (h':=h'.push fo) (fun b u e=>Fb _ (hk b u e)) hsz (G6 (Fo _ (by rw [← hF];rfl)));have nw:=I.hok.fresh hsz
   have sm:∀b o,H b=some o→upd H h'.objs.size (fnO h'.objs.size fo) b=some o:=fun b o e=>by rw [A0 (A3 e nw)];exact e
   exact ⟨.ref h'.objs.size,_,I2,rfl,q _ c' ctv _ nw (fun b o e _=>sm b o e) (.inr ⟨c',sm _ _ hE,sm _ _ hc'⟩) (sm _ _ hc') (by rw [A1,← hF])⟩
end
theorem HOk.lend{P:Program}{w:World}{H:Hp}{h:Heap}{c:Addr}{o:Obj}(ok:HOk P w H h)(n:H c=none)(e:h.get? c=some o):HOk P w (upd H c (Az c o)) h:=fun b u q=>by
 by_cases z:b=c
 · subst z
   rw [A1]at q;cases q;exact Qi e
 · rw [A0 z]at q
   exact (ok b u q).stay (fun d ob _ q=>q) (fun d q=>by rw [A0 (A3 q n)];exact q) fun d xs q=>by rw [A0 (A3 q n)];exact q
theorem HOk.back{P:Program}{w:World}{H:Hp}{h:Heap}{c:Addr}{o:Obj}(ok:HOk P w H h)(n:H c=some (Az c o)):HOk P w (unk H [c]) h:=fun b u q=>by
 obtain ⟨nb,q⟩:=Iq q;refine (ok b u q).stay (fun d ob _ q=>q) (fun d q=>?_) fun d xs q=>?_
 · rw [Ae fun z=>?_]
   · exact q
   · rw [Fj.mp z,n]at q;cases q
 · rw [Ae fun z=>?_]
   · exact q
   · rw [Fj.mp z,n]at q;cases q
theorem CE.back{outer:List Env}{P:Program}{w:World}{H:Hp}{s s':Shared}{Q:VK}{u:Value}{c:Addr}{o:Obj}(n:H c=none)(e:s.heap.get? c=some o)(nf:c∉frs outer)(h:CE outer P w (upd H c (Az c o)) s (fun y H2=>H2 c=some (Az c o)→Q y (unk H2 [c])) u s'):CE outer P w H s Q u s':=by
 obtain ⟨v,H',os,bare,un,ok,rv,q⟩:=h;have hc:H' c=some (Az c o):=un.frzs c o _ A1;have ec:s'.heap.get? c=some o:=(ok c _ hc).1
 have up:∀b u,H b=some u→upd H c (Az c o) b=some u∧b≠c:=fun b u q=>⟨by rw [A0 (A3 q n)];exact q,A3 q n⟩
 have out:∀b,b≠c→unk H' [c] b=H' b:=fun b nb=>Ae fun z=>nb (Fj.mp z);refine ⟨v,unk H' [c],os,bare,⟨fun b ob q' m hb hx=>?_,fun b ob q' m hb hx=>?_,fun b ob q' m hx=>?_,un.there,fun b xs q'=>?_,fun b ob w' q'=>?_,fun b ps q'=>?_⟩,ok.back hc,rv,q hc⟩
 · by_cases z:b=c
   · rw [z,e]at q'
     cases q';rw [z];exact ec
   · exact un.keep b ob q' (by rw [A0 z];exact m) hb hx
 · have z:b≠c:=fun z=>nf (by rw [← z];exact hb)
   exact un.slot b ob q' (by rw [A0 z];exact m) hb hx
 · by_cases z:b=c
   · subst z;exact Bp (by simp)
   · rw [out b z];exact un.free b ob q' (by rw [A0 z];exact m) hx
 · obtain ⟨a,nb⟩:=up b _ q'
   rw [out b nb];exact un.tups b xs a
 · obtain ⟨a,nb⟩:=up b _ q'
   rw [out b nb];exact un.frzs b ob w' a
 · obtain ⟨a,nb⟩:=up b _ q'
   rw [out b nb];exact un.tbls b ps a
end L2
namespace L2
open PySem.W
def Oj(tps:List Addr)(H:Hp):Prop:=(∀t∈tps,H t=some (.tbl #[]))∧∀b,b∉tps→H b=none∨∃o xs,H b=some (.frz o (.lst xs))
theorem Ol{P:Program}{w:World}{K:PySem.W.Frag}{mg mb:Str→Option Value}{CX:CXT}{k:Nat}{fa a:Addr}{tps:List Addr}{fd:FuncData}{x:Str}{sp:Sp}{s₁:Shared}{vs:List Value}{ns:List Int}
 (KX:K.In s₁.heap) (hns:s₁.heap.Ns mainGlobals mg) (hb:s₁.heap.Ns builtinsNs mb) (hbb:∀x:Str,x≠"__name__"→mb x=bootBuiltins x) (hlim:s₁.heap.NoLimit) (hg:s₁.gens=#[])
 (ha:s₁.heap.get? a=some {cls:= .type "list",data:= .seq vs.toArray}) (hi:IntsAre vs ns) (hl:ns.length≤sizeLine) (hr:B0 k callerA)
 (hT:∀tp∈tps,s₁.heap.get? tp=some (tabObj #[])) (hct:∀tp∈tps,isCodeTable s₁.heap tp) (hKt:∀tp∈tps,K.lookup tp=none)
 (hbm:∃bm ob,mg "__builtins__"=some (.ref bm)∧bm≠builtinsNs∧s₁.heap.get? bm=some ob∧ob.cls= .type "module"∧ob.dict=some builtinsNs∧ob.data= .plain)
 (F:∀base:Heap,K.In base→base.Ns mainGlobals mg→(∀tp∈tps,base.BuiltinsAt mg tp)→B2 P w K mg base CX k fa fd [x] sp) (hbind:∀(s:Shared) (u:Value),BindsTo s fd ⟨[u],[]⟩ [(x,u)])
 (hsp:∀H:Hp,Oj tps H→SqL K H a (ns.map V.int)→sp [.ref a] H (fun v _=>v= .bl true) fun _ _ _=>False)
 (hCX:∀H e s',CX [] H s₁ (fun _ _ _=>False) e s'→False):
 codeAny (model P w) callerA (.call (.ref fa) ⟨[.ref a],[]⟩) (fun r s'=>r= .ok (.ret (.bool true))∧OldK s₁.heap s'.heap∧s'.os=s₁.os∧AllBare s'.gens) s₁:=by
 have rv:=Ki hi;have lenV:=hi.length
 have nta:a∉tps:=fun e=>by have:=hT a e;rw [ha]at this;cases this
 have core:∀H:Hp,Oj tps H→SqL K H a (ns.map V.int)→HOk P w H s₁.heap→(∀b,b∉tps→H b≠none→b=a∧K.lookup a=none)→
  codeAny (model P w) callerA (.call (.ref fa) ⟨[.ref a],[]⟩) (fun r s'=>r= .ok (.ret (.bool true))∧OldK s₁.heap s'.heap∧s'.os=s₁.os∧AllBare s'.gens) s₁:=by
  intro H hO hS hok hA
  have off:∀{b:Addr} {o:Obj} {es:Array DictEntry} {ep:Nat},s₁.heap.get? b=some o→o.data= .dict es ep→H b=none:=fun {b o es ep} e d=>by
   by_cases h1:b∈tps
   · rw [hT b h1]at e;cases e;cases d
   · cases q:H b with
     | none=>rfl
     | some u=>
      obtain ⟨e',_⟩:=hA b h1 (by rw [q];simp);subst e';rw [ha]at e;cases e;cases d
  have nsT:∀{b:Addr} {m:Str→Option Value},s₁.heap.Ns b m→(L3 s₁.heap H).Ns b m:=fun {b m} ⟨o,es,ep,e,d,r⟩=>⟨o,es,ep,Gv e (off e d),d,r⟩
  have inT:K.In (L3 s₁.heap H):=fun b o e=>Gv (KX b o e) (by
   by_cases h1:b∈tps
   · rw [hKt b h1]at e;cases e
   · cases q:H b with
     | none=>rfl
     | some u=>
      obtain ⟨e',hk⟩:=hA b h1 (by rw [q];simp)
      subst e';rw [hk]at e;cases e)
  have mT:Mod K mg (L3 s₁.heap H):=⟨inT,nsT hns,⟨mb,nsT hb,hbb⟩,let ⟨mc,h1,h2⟩:=hlim;⟨mc,nsT h1,h2⟩⟩
  have e0:Ez P w K mg (L3 s₁.heap H) callerA [] s₁ H:=⟨rfl,mT,fun b o e=>Xj e,Nat.le_of_eq (S6 _ _),trivial,fun b hb=>absurd (show b∈([]:List Addr) from hb) (by simp),hok,.of_eq hg⟩
  have bT:∀tp∈tps,(L3 s₁.heap H).BuiltinsAt mg tp:=fun tp htp=>by
   obtain ⟨bm,ob,m1,m2,m3,m4,m5,m6⟩:=hbm
   have ntp:bm∉tps:=fun e=>by rw [hT bm e]at m3;cases m3;cases m4
   refine ⟨bm,ob,m1,m2,fun e=>?_,fun e=>ntp (e▸htp),Gv m3 ?_,m4,m5,m6⟩
   · obtain ⟨o,es,ep,e1,d1,_⟩:=hns
     rw [← e,m3]at e1;cases e1;rw [m6]at d1;cases d1
   · cases q:H bm with
     | none=>rfl
     | some u=>
      obtain ⟨e',_⟩:=hA bm ntp (by rw [q];simp);rw [e',ha]at m3;cases m3;cases m6
  refine Hh ((F _ inT (nsT hns) bT).run callerA [] s₁ H ⟨[.ref a],[]⟩ [.ref a] [.ref a] _ _ hr e0 (hbind s₁ (.ref a)) (.cons rfl .nil) (hsp H hO hS)) fun r s' h=>?_
  cases r with
  | error e=>exact (hCX H e s' h).elim
  | ok fl=>
   cases fl with
   | next=>exact False.elim h
   | brk=>exact False.elim h
   | cont=>exact False.elim h
   | ret u=>
    obtain ⟨v,H',os,bare,un,hok',r',q⟩:=h;obtain rfl:v= .bl true:=q;obtain rfl:u=Value.bool true:=r'
    have kp:∀b o,b∉tps→s₁.heap.get? b=some o→s'.heap.get? b=some o:=fun b o nb e=>by
     cases q:H b with
     | none=>exact un.keep b o e q (by intro z;exact absurd (show b∈([]:List Addr) from z) (by simp)) (by simp)
     | some u=>
      rcases hO.2 b nb with z | ⟨ob,xs,z⟩
      · rw [q]at z;cases z
      · obtain ⟨e1,_⟩:=hok b _ z
        obtain ⟨e2,_⟩:=hok' b _ (un.frzs b ob _ z);rw [e]at e1;cases e1;exact e2
    have tT:∀tp∈tps,∃more,s'.heap.get? tp=some {cls:= .none,data:= .fields (#[]++more)}:=fun tp htp=>by
     obtain ⟨more,hm⟩:=un.tbls tp #[] (hO.1 tp htp);exact ⟨more,hok' tp _ hm⟩
    refine ⟨rfl,⟨fun b o e=>?_,fun b o e=>?_⟩,os,bare⟩
    · by_cases nb:b∈tps
      · rw [hT b nb]at e;cases e
        obtain ⟨more,tT⟩:=tT b nb;exact .inr (.inl ⟨hct b nb,rfl,#[],more,rfl,tT⟩)
      · exact .inl (kp b o nb e)
    · by_cases nb:b∈tps
      · obtain ⟨more,tT⟩:=tT b nb;exact ⟨_,tT⟩
      · exact ⟨o,kp b o nb e⟩
 have tOk:∀H:Hp,∀tp∈tps,Ak P w H s₁.heap tp (.tbl #[]):=fun H=>hT
 cases hk:K.lookup a with
 | some o=>
  have e:=KX a o hk;rw [ha]at e;cases e;refine core (fun b=>if b∈tps then some (.tbl #[]) else none) ⟨fun t ht=>if_pos ht,fun b nb=> .inl (if_neg nb)⟩ (.inr ⟨_,vs.toArray,_,hk,rfl,rfl,rfl,by rw [Fl,lenV];exact hl,by simpa using rv⟩) (fun b u z=>?_) (fun b nb z=>absurd (if_neg nb) z)
  by_cases h1:b∈tps
  · have z':=(if_pos h1).symm.trans z
    cases z';exact tOk _ b h1
  · have z':=(if_neg h1).symm.trans z
    cases z'
 | none=>
  refine core (fun b=>if b∈tps then some (.tbl #[]) else if b=a then some (.frz {cls:= .type "list",data:= .seq vs.toArray} (.lst (ns.map V.int))) else none) ⟨fun t ht=>if_pos ht,fun b nb=>?_⟩ (.inl (.inr ⟨{cls:= .type "list",data:= .seq vs.toArray},(if_neg nta).trans (if_pos rfl)⟩)) (fun b u z=>?_) (fun b nb z=>⟨?_,hk⟩)
  · by_cases h2:b=a
    · exact .inr ⟨_,_,(if_neg nb).trans (if_pos h2)⟩
    · exact .inl ((if_neg nb).trans (if_neg h2))
  · by_cases h1:b∈tps
    · have z':=(if_pos h1).symm.trans z
      cases z';exact tOk _ b h1
    · have z1:=(if_neg h1).symm.trans z
      by_cases h2:b=a
      · have z':=(if_pos h2).symm.trans z1
        cases z';subst h2;exact ⟨ha,by rw [Fa];exact hl,vs,_,rv,ha⟩
      · have z':=(if_neg h2).symm.trans z1
        cases z'
  · by_cases h2:b=a
    · exact h2
    · exact absurd ((if_neg nb).trans (if_neg h2)) z
theorem alln{p:Addr→Prop}:∀t∈([]:List Addr),p t:=fun _ h=>by cases h
theorem allc{p:Addr→Prop}{a:Addr}{l:List Addr}(h:p a)(r:∀t∈l,p t):∀t∈a::l,p t:=fun t ht=>by
 rcases FD.mp ht with e | ht
 · rw [e];exact h
 · exact r t ht
end L2
namespace L2
open Sem (wp)
section
variable {Pg:Program} {w:World} {A:Around} {E:Value→Shared→Prop} {h:Heap} {g:Array GenState} {d:Drawn} {t:Nat} {os:OsState}
variable {nm q:Str} {C N:Addr} {bs bm bmB:List Value} {hd:Bool} {sn:List Str} {su:List Value} {ab:Bool} {co:Option Bool} {dd:Option Addr} {k0 k1 k2 k3 k5:Option Value} {B nw ni:String}
abbrev Qj(h:Heap)(C:Addr):Obj:={cls:= .ref C,data:= .fields #[.ref h.objs.size,.none,.none,.none,.bool false,.none]}
abbrev Dy(h:Heap)(C:Addr)(rest:List Value):Heap:=(h.push {cls:= .type "tuple",data:= .seq rest.toArray}).push (Qj h C)
theorem Ge{rest:List Value}:∀b o,h.get? b=some o→(Dy h C rest).get? b=some o:=fun _ _ e=>Fb _ (Fb _ e)
theorem Nc(F:ExcBaseFacts B nw ni bmB)(T:OwnTail h bmB bm){mN:Str→Option Value}{rest:List Value}{fI:Addr}{oI:Obj}{Q:Fin→Shared→Prop}
 (kC:h.get? C=some (excClassObj nm q C N bs bm hd sn su ab co dd k0 k1 k2 k3 k5 nw)) (hn:h.Ns N mN) (hi:mN "__init__"=some (.ref fI)) (hf:h.get? fI=some oI) (hfc:oI.cls= .type "function")
 (hq:∀h' e,Heap.MadeExcOf h h' e (.ref C) rest→wpAny (model Pg w) A (call (.ref fI) (.ref e::rest)) (fun r s'=>r= .none∧Q (.done (.ret (.ref e))) s') E ⟨h',g,d,t,os⟩) (hz:rest.length≤sizeLine):
 wpAny (model Pg w) A (Builtin.«type.__call__» ⟨.ref C::rest,[]⟩) Q E ⟨h,g,d,t,os⟩:=by
 repeat (first | with_reducible refine Hy kC ?_ | with_reducible refine wpAny_madeBy_exc kC ?_ | wp_step)
 refine codeAny_call_builtin_code (Code.quiet_builtin _ F.quiet) (wpAny_check_new_subT F T kC (codeAny_exc_new_subT F T kC ?_ hz));show wpAny _ _ _ _ _ _;have c1:(Dy h C rest).get? C=some (excClassObj nm q C N bs bm hd sn su ab co dd k0 k1 k2 k3 k5 nw):=Ge _ _ kC;have c2:(Dy h C rest).get? fI=some oI:=Ge _ _ hf
 have c3:(Dy h C rest).Ns N mN:=by obtain ⟨o,es,ep,e,r⟩:=hn;exact ⟨o,es,ep,Ge _ _ e,r⟩
 have c4:(Dy h C rest).get? (h.objs.size+1)=some (Qj h C):=by heap_get
 have c5:(Value.ref C::bm).contains (.ref C)=true:=by simp
 have T1:=T.keeps (Ge (h:=h) (C:=C) (rest:=rest));unfold isInstance
 repeat (first | with_reducible refine Hy c4 ?_ | (with_reducible refine wpAny_isSubtype_exc c1 ?_;rw [c5]) | wp_step)
 show wpAny _ _ (typeLookup (.ref C) _) _ _ _;refine wpAny_typeLookup_tail c1 c3 T1 F.mroIs F.init.lookup ?_;rw [hi];refine HU (Fd ?_);unfold bindSpecial;refine Fd (wpAny_typeOf (T:="function") ⟨_,c2,hfc⟩ ?_);rw [if_pos (by decide)]
 have made:Heap.MadeExcOf h (Dy h C rest) (h.objs.size+1) (.ref C) rest:=⟨Ge,HG (Rt _),h.objs.size,c4,HG (Fn _),Fb _ (Heap.get?_push_at rfl rfl)⟩
 refine Fu (Fd (FE (hq _ _ made) (fun r s' hr=>?_) fun _ _ x=>x));obtain ⟨rfl,hQ⟩:=hr
 wp_walk
 exact hQ
theorem Om(F:ExcBaseFacts B nw ni bmB)(T:OwnTail h bmB bm){mN:Str→Option Value}{rest:List Value}{fI:Addr}{oI:Obj}{Q:Value→Shared→Prop}
 (kC:h.get? C=some (excClassObj nm q C N bs bm hd sn su ab co dd k0 k1 k2 k3 k5 nw)) (hn:h.Ns N mN) (hi:mN "__init__"=some (.ref fI)) (hf:h.get? fI=some oI) (hfc:oI.cls= .type "function")
 (hq:∀h' e,Heap.MadeExcOf h h' e (.ref C) rest→wpAny (model Pg w) (A.under (.builtin "type.__call__" ⟨.ref C::rest,[]⟩)) (call (.ref fI) (.ref e::rest)) (fun r s'=>r= .none∧Q (.ref e) s') E ⟨h',g,d,t,os⟩) (hz:rest.length≤sizeLine):
 wpAny (model Pg w) A (call (.ref C) rest) Q E ⟨h,g,d,t,os⟩:=by
 have f1:=tc_lookup;have f2:=tc_bind (.ref C)
 have f3:(⟨h,g,d,t,os⟩:Shared).TypeIs (.ref C) "type":=⟨_,kC,rfl⟩
 refine Hv (codeAny_of_tree ?_);show wpAny _ _ (callAny (.ref C) _) _ _ _
 repeat (any_goals (first | assumption | with_reducible refine Hy kC ?_ | wp_step))
 refine ⟨rfl,codeAny_call_builtin_at (Code.quiet_builtin _ (by decide+kernel)) entry_typeCall (wpAny_check_type_call_sub kC (Nc F T kC hn hi hf hfc (fun h' e hm=>?_) hz))⟩;exact hq h' e hm
end
section
open PySem.W PySem.Builtin PySem.Builtin.ObjectAttr
variable {Pg:Program} {w:World} {A:Around} {R:Result→Shared→Prop} {s:Shared} {K:Frag} {x C B:Addr} {ox:Obj} {od:Option Obj} {cd:ClassData} {f:Str} {tk:Tok} {v:Value}
abbrev Dl:List Value:=[.type "ValueError",.type "Exception",.type "BaseException",.type "object"]
theorem Qk(X:K.In s.heap)(I:PySem.W.InstAt s.heap x ox C od)(hc:clsIn K C=some cd)(hm0:cd.mro= .ref C:: .ref B::Dl)(ha:findIn K (.ref C) f=some none)
 (h:∀b,wpAny (model Pg w) A.in1 (storeInOwnDict (.ref x) (.ref C) (.str f tk) f v b) (fun fin s'=>match fin with | .done r=>R (.ok r) s' | .again c'=>c'.quiet=true∧codeAny (model Pg w) A c' R s') (fun e s'=>R (.error e) s') s):
 codeAny (model Pg w) A (.call (.builtin "object.__setattr__") ⟨[.ref x,.str f tk,v],[]⟩) R s:=by
 have F1:=PySem.F.store_object;have sub:Looks (model Pg w) s.heap (isInstance (.ref x) (.type "object")) true:=I.type.andThen (looks_mroIn X (by unfold mroIn;rw [hc,Option.bind_some,hm0];rfl));have lm:Looks (model Pg w) s.heap (mroOf (.ref C)) cd.mro:=(looks_clsIn X hc).andThen .now;refine codeAny_call_builtin F1.slot.plain F1.entry (@check_slot (model Pg w) _ _ s "object.__setattr__" "object" "__setattr__" (.ref x) [.str f tk,v] [] _ F1.kind F1.split sub (F1.args _ _ _) ?_);rw [osa_eq,refuse_eq];refine Fd (Fd (I.type.here (Fd (lm.here ?_))));rw [hm0,refuseLoop_ref,refuseLoop_ref,PySem.F.store_ValueError.passes];exact Fu (Fd (I.type.here (Fd ((looks_findIn X ha).here (Fd (Fu (h _)))))))
theorem Vw{Q:Unit→Shared→Prop}{E:Value→Shared→Prop}{vs:Array Value}{sl:Array (Option Value)}(X:K.In s.heap)(hx:s.heap.get? x=some ⟨.ref C,none,.fields vs,sl⟩)(hs:findIn K (.ref C) "__setattr__"=some (some (.builtin "object.__setattr__")))
 (hc:clsIn K C=some cd) (hm0:cd.mro= .ref C:: .ref B::Dl) (hd:cd.hasDict=true) (ha:findIn K (.ref C) f=some none)
 (h:∀h',h'.get? x=some ⟨.ref C,some s.heap.objs.size,.fields vs,sl⟩→h'.Ns1 s.heap.objs.size (fun y=>if y=f then some v else none)→(∀b o,b≠x→s.heap.get? b=some o→h'.get? b=some o)→Q () {s with heap:=h',toks:=s.toks+2}):
 wpAny (model Pg w) A (setAttr (.ref x) f v) Q E s:=by
 have J:PySem.W.InstAt s.heap x ⟨.ref C,none,.fields vs,sl⟩ C none:=⟨hx,rfl,rfl,trivial⟩
 refine set_plain X J hs (Qk (s:={s with toks:=s.toks+1}) X J hc hm0 ha fun b=>?_);refine Fd (Fu (Fd (Fd (wpAny_loadPart hx (Fd (Looks.here (s:={s with toks:=s.toks+1}) (looks_clsIn X hc) ?_))))));rw [hd];have k1:(s.heap.push {cls:= .type "dict",data:= .dict #[]}).get? x=some ⟨.ref C,none,.fields vs,sl⟩:=Fb _ hx;have nx:x≠s.heap.objs.size:=Ff (Fh hx);refine Fd (wpAny_alloc' (Fd (wpAny_update' k1 (Fu ?_))))
 have k2:((s.heap.push {cls:= .type "dict",data:= .dict #[]}).update x fun o=>{cls:=o.cls,dict:=some s.heap.objs.size,data:=o.data,slots:=o.slots}).get? s.heap.objs.size=some {cls:= .type "dict",data:= .dict #[]}:=
  (Heap.get?_update_ne _ _ _ _ nx.symm).trans (Heap.get?_push_at rfl rfl)
 have k3:((s.heap.push {cls:= .type "dict",data:= .dict #[]}).update x fun o=>{cls:=o.cls,dict:=some s.heap.objs.size,data:=o.data,slots:=o.slots}).Ns s.heap.objs.size (fun _=>none):=
  ⟨_,#[],_,k2,rfl,fun e he=>absurd he (by simp),fun _=>rfl⟩
 show wpAny _ _ (storeInDict s.heap.objs.size (.str f s.toks) f v) _ _ _;unfold storeInDict newKeyGuard;refine Fd (Fu (Fd (wpAny_nsSet1 (Heap.Ns1.of_empty k3) fun h' hn2 sb=>?_)));obtain ⟨oD,esD,epD,uo,ud,uc⟩:=hn2.count (Within.cons f v Within.nil);refine Fd (Rm uo (by rw [ud];exact Rn (FH uc (by rw [List.length_cons,List.length_nil,Ra];omega))) ?_);refine Fu (h h' ?_ ?_ fun b o nb e=>?_)
 · refine (sb.2 x nx).trans (Hm _ k1 rfl)
 · obtain ⟨o',es,ep,e1,e2,e3,eu,e4⟩:=hn2
   exact ⟨o',es,ep,e1,e2,e3,eu,fun y=>by rw [e4 y]⟩
 · exact (sb.2 b (Ff (Fh e))).trans ((Heap.get?_update_ne _ _ _ _ nb).trans (Fb _ e))
theorem Vx{Q:Unit→Shared→Prop}{E:Value→Shared→Prop}{vs:Array Value}{sl:Array (Option Value)}{dx:Addr}{mA:Str→Option Value}{ns:List Str}(X:K.In s.heap)(hx:s.heap.get? x=some ⟨.ref C,some dx,.fields vs,sl⟩)(hn:s.heap.Ns1 dx mA)(hw:Within mA ns)(hz:ns.length≤sizeLine)
 (hs:findIn K (.ref C) "__setattr__"=some (some (.builtin "object.__setattr__"))) (hc:clsIn K C=some cd) (hm0:cd.mro= .ref C:: .ref B::Dl) (hd:cd.hasDict=true) (ha:findIn K (.ref C) f=some none)
 (h:∀h',h'.Ns1 dx (fun y=>if y=f then some v else mA y)→(∀b,b≠dx→h'.get? b=s.heap.get? b)→Q () {s with heap:=h',toks:=s.toks+2}):
 wpAny (model Pg w) A (setAttr (.ref x) f v) Q E s:=by
 obtain ⟨oo,es,ep,e1,e2⟩:=id hn
 have J:PySem.W.InstAt s.heap x ⟨.ref C,some dx,.fields vs,sl⟩ C (some oo):=⟨hx,rfl,rfl,e1⟩
 refine set_plain X J hs (Qk (s:={s with toks:=s.toks+1}) X J hc hm0 ha fun b=>?_);refine Fd (Fu (Fd (Fd (wpAny_loadPart hx (Fd (Looks.here (s:={s with toks:=s.toks+1}) (looks_clsIn X hc) ?_))))));rw [hd];refine Fu (a:=some dx) ?_;show wpAny _ _ (storeInDict dx (.str f s.toks) f v) _ _ _;unfold storeInDict newKeyGuard;refine Fd (Fu (Fd (wpAny_nsSet1 (s:={s with toks:=s.toks+1}) hn fun h' hn2 sb=>?_)));obtain ⟨oD,esD,epD,uo,ud,uc⟩:=hn2.count (Within.cons f v hw);refine Fd (Rm uo (by rw [ud];exact Rn (FH uc (by rw [List.length_cons];omega))) ?_);exact Fu (h h' hn2 fun b nb=>sb.2 b nb)
theorem Yj{Q:Value→Shared→Prop}{E:Value→Shared→Prop}{ex:Bool}(X:K.In s.heap)(J:PySem.W.InstAt s.heap x ox C od)(hg:findIn K (.ref C) "__getattribute__"=some (some (.builtin "BaseException.__getattribute__")))
 (hn:findIn K (.ref C) "__getattr__"=some none) (hc:clsIn K C=some cd) (hm0:cd.mro= .ref C:: .ref B::Dl) (hf:findObj K C od f=some (.value v)) (hh:handedIn v=true) (h:Q v {s with toks:=s.toks+1}):
 wpAny (model Pg w) A (getAttr (.ref x) f ex) Q E s:=by
 obtain ⟨hp,g,d,t,os⟩:=s;have l0:=J.type (M:=model Pg w);have l1:=looks_findIn (M:=model Pg w) X hg;have l2:=looks_findIn (M:=model Pg w) X hn;have l3:=looks_find (M:=model Pg w) X J hf;unfold getAttr getAttrBy;refine Fd (wpAny_mkText (HU (Fd (l0.at (Fd (l1.at ?_))))));have b1:=PySem.F.excAttr_ValueError.ga.bind (.ref x)
 have b2:(ex && onTheHeap (Value.builtin "BaseException.__getattribute__"))=false:=by cases ex <;> rfl
 have b3:(Value.builtin "BaseException.__getattribute__"==Value.builtin "object.__getattribute__")=false:=by decide+kernel
 have b4:(onTheHeap (Value.ref C) && Value.builtin "BaseException.__getattribute__"==Value.builtin "object.__getattribute__")=false:=by rw [b3];rfl
 have sub:Looks (model Pg w) hp (isInstance (.ref x) (.type "BaseException")) true:=J.type.andThen (looks_mroIn X (by unfold mroIn;rw [hc,Option.bind_some,hm0];rfl));show wpAny _ _ (if (onTheHeap (Value.ref C) && Value.builtin "BaseException.__getattribute__"==Value.builtin "object.__getattribute__")=true then _ else _) _ _ _;rw [if_neg (by rw [b4];decide)];unfold getAttrByItsOwn hookBefore;rw [if_pos (show onTheHeap (Value.ref C)=true from rfl)];refine Fd (l2.at ?_)
 (repeat (any_goals (first | assumption | wp_step)));refine codeAny_call_builtin PySem.F.excAttr_ValueError.ga.plain PySem.F.entry_bexc_ga (@check_slot (model Pg w) _ _ _ "BaseException.__getattribute__" "BaseException" "__getattribute__" (.ref x) [.str f t] [] _ (by decide+kernel) (by decide+kernel) sub (PySem.F.args_bexc_ga _ _) ?_)
 unfold Builtin.«object.__getattribute__»;repeat (any_goals (first | assumption | with_reducible refine l0.at ?_ | with_reducible refine l3.at ?_ | wp_step))
 show wpAny _ _ (handedOut v) _ _ _;rw [handedOut_of hh];exact Fu h
end
def exO(n:Bool)(x C:Addr)(od:Option Addr):HO:= .ext fun h=>∃vs sl,h.get? x=some ⟨.ref C,od,.fields vs,sl⟩∧(n=true→∃t,vs=#[.ref t,.none,.none,.none,.bool false,.none])
def exD(dx:Addr)(fs:List (Str×V)):HO:= .ext fun h=>fs.length≤1000∧∃mA,h.Ns1 dx mA∧(∀f,By (fs.lookup f) (mA f))∧PySem.Within mA (fs.map (·.1))
section
variable {X:Cx} {pins:List (Addr×Obj)} {σ:St} {H:Hp} {x:Addr} {s:Shared} {h':Heap} {o:HO} {t':Nat}
theorem Inv.born(I:Inv X pins σ H s)(hex:X.ex=[])(k:∀b u,s.heap.get? b=some u→h'.get? b=some u)(hn:s.heap.get? x=none)(new:Ak X.prog X.w (upd H x o) h' x o):Inv X pins σ (upd H x o) {s with heap:=h',toks:=t'}:=by
 have J:Inv X pins σ H {s with heap:=h',toks:=t'}:=I.kept k
 have hx:H x=none:=by
  cases q:H x with
  | none=>rfl
  | some v=>obtain ⟨o1,e1⟩:=I.hok.there q;rw [hn]at e1;cases e1
 have n0:X.s₀.heap.get? x=none:=by
  cases q:X.s₀.heap.get? x with
  | none=>rfl
  | some v=>obtain ⟨o1,e1⟩:=I.base.there x v q (by rw [hex];simp);rw [hn]at e1;cases e1
 have nl:x≠X.env.locals:=by
  rintro rfl;obtain ⟨m,⟨o1,es,ep,e,_⟩,_⟩:=I.loc;rw [hn]at e;cases e
 have nc:∀y c,X.env.cells.lookup y=some c→c≠x:=by
  rintro y c hc rfl;obtain ⟨v,o1,e,_⟩:=I.cell y c hc;rw [hn]at e;cases e
 have np:∀p∈X.pn++pins,p.1≠x:=fun p hp z=>by
  have e:=(I.pin p hp).1;rw [z,hn]at e;cases e
 refine ⟨J.ok,J.os,J.bare,⟨J.base.keep,J.base.slot,fun b o e n hb=>?_,J.base.there,fun b xs e=>?_,fun b o v e=>?_,fun b ps e=>?_⟩,J.loc,J.cell,?_,fun y c hc=>?_,fun p hp=>?_,fun b u e=>?_,J.len⟩
 · rw [A0 (by rintro rfl;rw [n0]at e;cases e)];exact J.base.free b o e n hb
 · have e1:=J.base.tups b xs e;rw [A0 (A3 e1 hx)];exact e1
 · have e1:=J.base.frzs b o v e;rw [A0 (A3 e1 hx)];exact e1
 · obtain ⟨m,e1⟩:=J.base.tbls b ps e;exact ⟨m,by rw [A0 (A3 e1 hx)];exact e1⟩
 · rw [A0 nl.symm];exact J.free
 · rw [A0 (nc y c hc)];exact J.freeC y c hc
 · obtain ⟨a1,a2,a3,a4,a5⟩:=J.pin p hp
   exact ⟨a1,by rw [A0 (np p hp)];exact a2,a3,a4,a5⟩
 · by_cases hb:b=x
   · subst hb
     rw [A1]at e;cases e;exact new
   · rw [A0 hb]at e
     exact (J.hok b u e).stay (fun _ _ _ q=>q) (fun c q=>by rw [A0 (A3 q hx)];exact q) fun c xs q=>by rw [A0 (A3 q hx)];exact q
theorem On{P:Program}{w:World}{n:Bool}{C:Addr}{od:Option Addr}{vs:Array Value}{sl:Array (Option Value)}(e:h'.get? x=some ⟨.ref C,od,.fields vs,sl⟩)(hv:n=true→∃t,vs=#[.ref t,.none,.none,.none,.bool false,.none]):Ak P w H h' x (exO n x C od):=
 ⟨⟨vs,sl,e,hv⟩,⟨_,e⟩,fun _ _ ⟨v1,s1,e1,q1⟩ k=>⟨v1,s1,k _ e1,q1⟩⟩
end
def J32(C:Addr)(t:TA):TE:=fun σ H Q=>t σ H fun vs H1=>vs.length≤sizeLine∧∀x,H1 x=none→Q (.ref x) (upd H1 x (exO true x C none))
structure J5q(K:PySem.W.Frag)(C:Addr):Prop where
 ga:PySem.W.findIn K (.ref C) "__getattribute__"=some (some (.builtin "BaseException.__getattribute__"))
 gh:PySem.W.findIn K (.ref C) "__getattr__"=some none
structure Ir(K:PySem.W.Frag)(C B:Addr):Prop extends J5q K C where
 cd:∃cd:ClassData,PySem.W.clsIn K C=some cd∧cd.mro= .ref C:: .ref B::Dl∧cd.hasDict=true
 sa:PySem.W.findIn K (.ref C) "__setattr__"=some (some (.builtin "object.__setattr__"))
section
variable {X:Cx} {pins:List (Addr×Obj)} {σ:St} {H:Hp} {s:Shared} {nw:Bool} {a dx C B:Addr} {fs:List (Str×V)} {f:Str} {v:V} {A:Around} {E:Value→Shared→Prop}
theorem Ir.hd{K:PySem.W.Frag}(q:Ir K C B):PySem.W.hasDictIn K C=true:=by
 obtain ⟨cd,c1,_,c3⟩:=q.cd;unfold PySem.W.hasDictIn;rw [c1];exact c3
theorem Yk{ex:Bool}{Q:Value→Shared→Prop}(I:Inv X pins σ H s)(q:Ir X.K C B)(hx:H a=some (exO nw a C (some dx)))(hd:H dx=some (exD dx fs))(n:PySem.W.findIn X.K (.ref C) f=some none)(l:fs.lookup f=some v)
 (h:∀u s',Inv X pins σ H s'→Ab v u→Q u s'):wpAny (model X.prog X.w) A (getAttr (.ref a) f ex) Q E s:=by
 obtain ⟨vs,sl,e1,nv⟩:=(I.hok a _ hx).1;obtain ⟨_,mA,hn,r,wi⟩:=(I.hok dx _ hd).1;obtain ⟨od,ho,hlk⟩:=Kb hn;obtain ⟨u,hu,ru⟩:=By.some_of (v:=v) (o:=mA f) (by rw [← l];exact r f);obtain ⟨cd,c1,c2,c3⟩:=q.cd;exact Yj I.kIn ⟨e1,rfl,rfl,ho⟩ q.ga q.gh c1 c2 (PySem.W.findObj_own q.hd n rfl (by rw [hlk,hu])) (Kc ru) (h u _ (I.tok _) ru)
end
section
variable {X:Cx} {pins:List (Addr×Obj)} {σ:St} {H H1:Hp} {s s1:Shared} {x:Addr} {o:HO}
theorem Inv.track(I:Inv X pins σ H1 s1)(hex:X.ex=[])(hn:s1.heap.get? x=none)(J:Inv X pins σ H s)(hx:H x=none)(new:Ak X.prog X.w (upd H x o) s.heap x o):Inv X pins σ (upd H x o) s:=by
 have n0:X.s₀.heap.get? x=none:=by
  cases q:X.s₀.heap.get? x with
  | none=>rfl
  | some v=>obtain ⟨o1,e1⟩:=I.base.there x v q (by rw [hex];simp);rw [hn]at e1;cases e1
 have nl:x≠X.env.locals:=by
  rintro rfl;obtain ⟨m,⟨o1,es,ep,e,_⟩,_⟩:=I.loc;rw [hn]at e;cases e
 have nc:∀y c,X.env.cells.lookup y=some c→c≠x:=by
  rintro y c hc rfl;obtain ⟨v,o1,e,_⟩:=I.cell y c hc;rw [hn]at e;cases e
 have np:∀p∈X.pn++pins,p.1≠x:=fun p hp z=>by
  have e:=(I.pin p hp).1;rw [z,hn]at e;cases e
 refine ⟨J.ok,J.os,J.bare,⟨J.base.keep,J.base.slot,fun b o e n hb=>?_,J.base.there,fun b xs e=>?_,fun b o v e=>?_,fun b ps e=>?_⟩,J.loc,J.cell,?_,fun y c hc=>?_,fun p hp=>?_,fun b u e=>?_,J.len⟩
 · rw [A0 (by rintro rfl;rw [n0]at e;cases e)];exact J.base.free b o e n hb
 · have e1:=J.base.tups b xs e;rw [A0 (A3 e1 hx)];exact e1
 · have e1:=J.base.frzs b o v e;rw [A0 (A3 e1 hx)];exact e1
 · obtain ⟨m,e1⟩:=J.base.tbls b ps e;exact ⟨m,by rw [A0 (A3 e1 hx)];exact e1⟩
 · rw [A0 nl.symm];exact J.free
 · rw [A0 (nc y c hc)];exact J.freeC y c hc
 · obtain ⟨a1,a2,a3,a4,a5⟩:=J.pin p hp
   exact ⟨a1,by rw [A0 (np p hp)];exact a2,a3,a4,a5⟩
 · by_cases hb:b=x
   · subst hb
     rw [A1]at e;cases e;exact new
   · rw [A0 hb]at e
     exact (J.hok b u e).stay (fun _ _ _ q=>q) (fun c q=>by rw [A0 (A3 q hx)];exact q) fun c xs q=>by rw [A0 (A3 q hx)];exact q
theorem Ks{fs:List (Str×V)}{mA:Str→Option Value}{f:Str}{y:V}{u:Value}(r:∀g,By (fs.lookup g) (mA g))(wi:PySem.Within mA (fs.map (·.1)))(ry:Ab y u):
 (∀g,By ((Bh f y fs).lookup g) (if g=f then some u else mA g))∧PySem.Within (fun g=>if g=f then some u else mA g) ((Bh f y fs).map (·.1)):=by
 refine ⟨fun g=>?_,fun g hg=>?_⟩
 · rw [Bb]
   by_cases e:g=f
   · rw [if_pos e,if_pos e];exact ry
   · rw [if_neg e,if_neg e];exact r g
 · by_cases e:g=f
   · subst e;exact (Cf g y fs).1
   · exact (Cf f y fs).2 g (wi g fun z=>hg (by show (if g=f then some u else mA g)=none;rw [if_neg e,z]))
theorem Vy{P:Program}{w:World}{h':Heap}{dx:Addr}{fs:List (Str×V)}{mA:Str→Option Value}(hl:fs.length≤1000)(hn:h'.Ns1 dx mA)(r:∀g,By (fs.lookup g) (mA g))(wi:PySem.Within mA (fs.map (·.1))):Ak P w H h' dx (exD dx fs):=by
 refine ⟨⟨hl,mA,hn,r,wi⟩,?_,fun h1 h2 ⟨b1,mB,b2,b3,b4⟩ k=>?_⟩
 · obtain ⟨o1,es,ep,e2,_⟩:=id hn;exact ⟨o1,e2⟩
 · obtain ⟨o1,es,ep,e2,e3⟩:=id b2
   exact ⟨b1,mB,⟨o1,es,ep,k _ e2,e3⟩,b3,b4⟩
theorem Vz{nw:Bool}{a C B:Addr}{f:Str}{y:V}{u:Value}{A:Around}{E:Value→Shared→Prop}{Q:Unit→Shared→Prop}(I:Inv X pins σ H s)(hex:X.ex=[])(q:Ir X.K C B)(hx:H a=some (exO nw a C none))(n:PySem.W.findIn X.K (.ref C) f=some none)(ry:Ab y u)
 (h:∀dx s',H dx=none→Inv X pins σ (upd (upd H a (exO nw a C (some dx))) dx (exD dx (Bh f y []))) s'→Q () s'):wpAny (model X.prog X.w) A (setAttr (.ref a) f u) Q E s:=by
 obtain ⟨vs,sl,e1,nv⟩:=(I.hok a _ hx).1;obtain ⟨cd,c1,c2,c3⟩:=q.cd;refine Vw I.kIn e1 q.sa c1 c2 c3 n fun h' k1 k2 k3=>?_;have hd0:H s.heap.objs.size=none:=I.hok.fresh (Fn _)
 have nda:s.heap.objs.size≠a:=fun e=>by rw [e,hx]at hd0;cases hd0
 have J:Inv X pins σ (upd H a (exO nw a C (some s.heap.objs.size))) {s with heap:=h',toks:=s.toks+2}:=
  I.write (x:=a) (e:=a) (by rw [hx];exact True.intro) (.inl rfl) k3 ⟨_,k1⟩ (On k1 nv)
 refine h _ _ hd0 (Inv.track I hex (HG (Fn _)) J (by rw [A0 nda];exact hd0) ?_);have pn:=Ks (fs:=[]) (mA:=fun _=>none) (f:=f) (fun _=>trivial) (fun g hg=>absurd rfl hg) ry;exact Vy (by simp [Bh]) k2 pn.1 pn.2
theorem W0{nw:Bool}{a dx C B:Addr}{fs:List (Str×V)}{f:Str}{y:V}{u:Value}{A:Around}{E:Value→Shared→Prop}{Q:Unit→Shared→Prop}(I:Inv X pins σ H s)(q:Ir X.K C B)(hx:H a=some (exO nw a C (some dx)))(hd:H dx=some (exD dx fs))(hl:fs.length < 1000)(n:PySem.W.findIn X.K (.ref C) f=some none)(ry:Ab y u)
 (h:∀s',Inv X pins σ (upd H dx (exD dx (Bh f y fs))) s'→Q () s'):wpAny (model X.prog X.w) A (setAttr (.ref a) f u) Q E s:=by
 obtain ⟨vs,sl,e1,nv⟩:=(I.hok a _ hx).1;obtain ⟨_,mA,hn,r,wi⟩:=(I.hok dx _ hd).1;obtain ⟨cd,c1,c2,c3⟩:=q.cd;refine Vx I.kIn e1 hn wi (by rw [Fa,Ra];omega) q.sa c1 c2 c3 n fun h' k1 k2=>h _ ?_;have pn:=Ks (f:=f) r wi ry;have:=Df f y fs;obtain ⟨o1,es,ep,e2,_⟩:=id k1;exact I.write (x:=dx) (e:=dx) (by rw [hd];exact True.intro) (.inl rfl) (fun b v nb z=>(k2 b nb).trans z) ⟨_,e2⟩ (Vy (by omega) k1 pn.1 pn.2)
end
def J18(K:PySem.W.Frag)(ta:TE)(f:Str):TE:=fun σ H Q=>ta σ H fun x H1=>∃nw a C B dx fs v,x= .ref a∧H1 a=some (exO nw a C (some dx))∧H1 dx=some (exD dx fs)∧Ir K C B∧PySem.W.findIn K (.ref C) f=some none∧fs.lookup f=some v∧Q v H1
def J19(K:PySem.W.Frag)(ta tv:TE)(f:Str):TS:=fun D σ H=>tv σ H fun y H1=>ta σ H1 fun x H2=>∃nw a C B,x= .ref a∧Ir K C B∧PySem.W.findIn K (.ref C) f=some none∧
 ((H2 a=some (exO nw a C none)∧∀dx,H2 dx=none→D.nx σ (upd (upd H2 a (exO nw a C (some dx))) dx (exD dx (Bh f y []))))∨
  ∃dx fs,H2 a=some (exO nw a C (some dx))∧H2 dx=some (exD dx fs)∧fs.length < 1000∧D.nx σ (upd H2 dx (exD dx (Bh f y fs))))
def J33(C:Addr)(m:Str)(sp:Sp)(EE:St→XK)(ta:TE):TE:=fun σ H Q=>ta σ H fun x H1=>∃nw a,x= .ref a∧(H1 a=some (exO nw a C none)∨∃dx fs,H1 a=some (exO nw a C (some dx))∧H1 dx=some (exD dx fs)∧fs.lookup m=none)∧sp [x] H1 Q (EE σ)
section
variable {X:Cx} {CX:CXT} {k j:Nat} {C B:Addr} {ps:List Str} {sp:Sp} {EE:St→XK} {f m:Str} {pos pos' apos:Pos} {e o value:Expr} {ta tv:TE}
theorem Ql(he:PE X e ta)(hb:attributeBase e f X.env (eval e X.env)=eval e X.env):PE X (.Attribute e f pos) (J18 X.K ta f):=by
 intro pins s σ H Q I h;refine P2 hb (thn (he pins s σ H _ I h) fun u s1 hq_=>?_);obtain ⟨x,H1,I1,rx,nw,a,C,B,dx,fs,v,ex,ea,ed,q,n,l,z⟩:=hq_;subst ex;cases (show u=Value.ref a from rx)
 exact Yk I1 q ea ed n l fun u' s2 I2 ru=>⟨v,H1,I2,ru,z⟩
theorem Qm(hex:X.ex=[])(ha:PE X o ta)(hv:PE X value tv)(hs:swapsWith value (some (.Attribute o f pos')) pos.line X.env=pure false):PS X (.Assign [.Attribute o f pos'] value pos) (J19 X.K ta tv f):=by
 intro pins s σ H D I h;refine plainObj_wpAny_Assign_Attribute (thn (hv pins s σ H _ I h) fun u s1 ⟨y,H1,I1,ry,q⟩=>thn (ha pins s1 σ H1 _ I1 q) fun ov s2 hq_=>?_) hs;obtain ⟨x,H2,I2,rx,nw,a,C,B,ex,c,n,z⟩:=hq_;subst ex;cases (show ov=Value.ref a from rx);rcases z with ⟨ea,z⟩ | ⟨dx,fs,ea,ed,l,z⟩
 · exact Vz I2 hex c ea n ry fun dx s3 hd I3=>⟨σ,_,I3,z dx hd⟩
 · exact W0 I2 c ea ed l n ry fun s3 I3=>⟨σ,_,I3,z⟩
end
structure MkX(K:PySem.W.Frag)(C f:Addr):Prop where
 at_:∀h:Heap,K.In h→∃(nm q:Str) (N:Addr) (bs bm:List Value) (hd:Bool) (sn:List Str) (su:List Value) (ab:Bool) (co:Option Bool) (dd:Option Addr) (k0 k1 k2 k3 k5:Option Value) (mN:Str→Option Value),
  h.get? C=some (excClassObj nm q C N bs bm hd sn su ab co dd k0 k1 k2 k3 k5 "ValueError.__new__")∧h.Ns N mN∧mN "__init__"=some (.ref f)∧OwnTail h Dl bm
 fn:∃oI:Obj,K.lookup f=some oI∧oI.cls= .type "function"
 kp:PySem.W.keepIn K (.ref C)=true
structure Sn(P:Program)(w:World)(K:PySem.W.Frag)(mg:Str→Option Value)(base:Heap)(CX:CXT)(k:Nat)(x:Str)(C:Addr)(ps:List Str)(sp:Sp):Prop where
 ex:∃(f:Addr) (fd:FuncData),B2 P w K mg base CX k f fd ps sp∧MkX K C f∧mg x=some (.ref C)∧Bi K fd ps []
def Nd(C:Addr)(sp:Sp)(EE:St→XK)(t:TA):TE:=fun σ H Q=>t σ H fun vs H1=>vs.length≤sizeLine∧∀x,H1 x=none→sp (.ref x::vs) (upd H1 x (exO true x C none)) (fun v H2=>v= .non∧Q (.ref x) H2) (EE σ)
section
variable {X:Cx} {CX:CXT} {k j:Nat} {C:Addr} {ps:List Str} {sp:Sp} {EE:St→XK} {x:Str} {p pos:Pos} {e:Expr} {es:List Expr} {t:TA}
theorem Yl(D:Sn X.prog X.w X.K X.mg X.base CX j x C ps sp)(hex:X.ex=[])(hr:B0 k X.A)(hg:Gl X x)(hx:Bl CX X EE)(ha:PA X (e::es) t)(hj:j+1≤k:=by decide)(hdb:(x==("__debug__":Str))=false:=by decide)
 (he:starEach (e::es) X.env=(false,eval e X.env)::starEach es X.env:=by rfl) (hpl:(backTo pos (starEach es X.env)).any (·.1)=false:=by rfl):
 PE X (.Call (.Name x p) (e::es) [] pos) (Nd C sp EE t):=by
 obtain ⟨f,fd,F,M,hm,hb⟩:=D.ex;intro pins s0 σ H0 Q I0 h;refine FU (C6 I0 hg hm ?_ hdb);refine Hc (h₀:=X.base) I0.ok.mod.kin M.kp (thn (ha pos pins s0 σ H0 _ I0 h) fun us s ⟨vs,H,I,r,z,q⟩=>⟨I.kIn,?_⟩) he hpl;obtain ⟨nm,qn,N,bs,bm,hd,sn,su,ab,co,dd,k0,k1,k2,k3,k5,mN,c1,c2,c3,c4⟩:=M.at_ s.heap I.kIn;obtain ⟨oI,f1,f2⟩:=M.fn;have f3:=I.kIn _ _ f1;obtain ⟨hp,gn,dr,tk,os⟩:=s;refine Om PySem.F.excBase_ValueError c4 c1 c2 c3 f3 f2 (fun h' y hy=>?_) (by show us.length≤sizeLine;rw [← r.length];exact z);obtain ⟨t0,e1,_,_⟩:=hy.there
 have nv:true=true→∃t,(#[.ref t0,.none,.none,.none,.bool false,.none]:Array Value)=#[.ref t,.none,.none,.none,.bool false,.none]:=fun _=>⟨t0,rfl⟩
 have hy0:H y=none:=by
  cases w':H y with
  | none=>rfl
  | some v=>obtain ⟨o1,e2⟩:=I.hok.there w';rw [hy.new]at e2;cases e2
 have hq:=q y hy0;have I2:Inv X pins σ (upd H y (exO true y C none)) ⟨h',gn,dr,tk,os⟩:=I.born hex hy.keeps hy.new (On e1 nv);have r2:Ag (V.ref y::vs) (Value.ref y::us):= .cons rfl r
 have hl:(Value.ref y::us).length=ps.length:=by rw [← r2.length];exact F.len _ _ _ _ hq
 have hb':=hb ⟨h',gn,dr,tk,os⟩ (Value.ref y::us) I2.kIn (by simpa using hl);rw [FF]at hb';have hr':B0 (j+1) X.A:=hr.mono hj;refine Hv (Hh (F.run _ X.stack _ _ ⟨Value.ref y::us,[]⟩ (Value.ref y::us) _ _ (EE σ) (hr'.make C us []) (I2.env0.make C us []) hb' r2 hq) fun r3 s' hq'=>?_)
 cases r3 with
 | error e=>exact hx pins σ _ _ e s' I2 hq'
 | ok fl=>
  cases fl with
  | ret u=>
   obtain ⟨v,H',I3,rv,ev,q3⟩:=I2.after hq';subst ev;exact ⟨rv,⟨V.ref y,H',I3,rfl,q3⟩⟩
  | next=>exact False.elim hq'
  | brk=>exact False.elim hq'
  | cont=>exact False.elim hq'
end
end L2
namespace L2
open Sem (wp)
def D1(h:Heap)(x C:Addr)(od:Option Addr):Prop:=∃vs sl,h.get? x=some ⟨.ref C,od,.fields vs,sl⟩
section
variable {M:Model} {A:Around} {E:Value→Shared→Prop} {s:Shared} {base:Heap} {env:Env} {outer l:List Env} {L x C:Addr} {od:Option Addr} {vs:Array Value} {sl:Array (Option Value)} {a0 fl:Value} {Q:Unit→Shared→Prop}
theorem J34{g1:Heap}{oT:Obj}{ts:Array Value}(tT:oT.data= .fields ts)(t3:ts[3]?=some fl)(ff:s.heap.FunFrames base l)(ex:s.heap.get? x=some ⟨.ref C,od,.fields vs,sl⟩)
 (s1:Heap.SlotsOnly (l.filterMap (·.frame)) s.heap g1) (y1:g1.get? x=some ⟨.ref C,od,.fields vs,sl⟩) (b1:base.StaysIn g1) (bx:base.get? x=none) (z1:1 < vs.size) (z0:vs[0]?=some a0)
 (q:∀h',Heap.NotedW base l x (.ref C) a0 fl s.heap h'→D1 h' x C od→Q () {s with heap:=h'}):
 wpAny M A (setField (.ref x) 1 (.ref g1.objs.size)) Q E {s with heap:=g1.push oT}:=by
 have y2:=Fb oT y1;have nT:g1.objs.size≠x:=Nat.ne_of_gt (Fh y1);have y3:((g1.push oT).update x (Obj.mapFields (·.setIfInBounds 1 (.ref g1.objs.size)))).get? x=some ⟨.ref C,od,.fields (vs.setIfInBounds 1 (.ref g1.objs.size)),sl⟩:=Hm _ y2 rfl;have kp:∀b o,b≠x→g1.get? b=some o→((g1.push oT).update x (Obj.mapFields (·.setIfInBounds 1 (.ref g1.objs.size)))).get? b=some o:=fun b o nb e=>(FQ _ _ (Ne.symm nb)).trans (Fb _ e)
 have nr:∀b o,s.heap.get? b=some o→(∀us,o.data≠ .fields us)→b≠x:=fun b o e n z=>by rw [z,ex]at e;cases e;exact n vs rfl
 refine HN y2 rfl z1 (q _ ⟨fun b o e=>kp b o (fun z=>by rw [z,bx]at e;cases e) (b1 b o e),ff.of_keeps fun b o e n=>?_,?_,fun b o e n=>?_⟩ ⟨_,_,y3⟩)
 · obtain ⟨r,e1⟩:=s1.2.2 b o e;exact ⟨_,kp b _ (nr b o e n) e1,rfl⟩
 · exact ⟨_,_,g1.objs.size,oT,ts,y3,⟨rfl,by rw [Array.getElem?_setIfInBounds_ne (by decide)];exact z0⟩,rfl,by simp [z1],b1.fresh,nT,(FQ _ _ (Ne.symm nT)).trans (Fo g1 (Obj.isFreed_of_fields tT)),tT,t3⟩
 · obtain ⟨r,e1⟩:=s1.2.2 b o e;exact ⟨r,kp b _ (nr b o e n) e1⟩
theorem Oo{hv:Value}{nx:Bool}(fr:A.frames=some (env::outer))(ff:s.heap.FunFrames base (env::outer))(el:env.frame=some L)
 (ex:s.heap.get? x=some ⟨.ref C,od,.fields vs,sl⟩) (bs:base.StaysIn s.heap) (bx:base.get? x=none) (z1:1 < vs.size) (z0:vs[0]?=some a0)
 (q:∀h',Heap.NotedW base (env::outer) x (.ref C) a0 (rawInt L) s.heap h'→D1 h' x C od→Q () {s with heap:=h'}):
 wpAny M A (do let a ← frameOf env;let pl ← entryPlaceOf L nx;let b ← EntryCells.newEntry hv a .none (rawInt L) .none pl;setField (.ref x) 1 b) Q E s:=by
 have nf:x∉(env::outer).filterMap (·.frame):=fun hm=>by
  obtain ⟨_,o1,e1,n1⟩:=ff.mem hm;rw [ex]at e1;cases e1;exact n1 vs rfl
 refine Fd (wpAny_frameOf_fun fr ff el fun g1 s1=>Fd (wpAny_entryPlaceOf fun pl ip=>?_));unfold EntryCells.newEntry newFields;refine Fd (Rj ?_ (ip.sizeOk5 _ _ _ _ _));have y1:=(s1.2.1 x nf).trans ex;have b1:base.StaysIn g1:=fun b o e=>(s1.2.1 b fun hm=>by rw [(ff.mem hm).1]at e;cases e).trans (bs b o e);refine J34 (s:=s) (fl:=rawInt L) rfl ?_ ff ex s1 y1 b1 bx z1 z0 q
 first | (simp;done) | (rcases ip with rfl | ⟨_,_,_,_,_,_,_,rfl⟩ <;> simp)
theorem landD(bs:base.StaysIn s.heap)(ff:s.heap.FunFrames base l)(tr:s.heap.TracedAtW base x (.ref C) a0 fl)(ly:D1 s.heap x C od)
 (q:∀h',base.StaysIn h'→h'.FunFrames base l→h'.TracedW base x (.ref C) a0→s.heap.UpToSlots h'→D1 h' x C od→Q () {s with heap:=h'}):wpAny M A (setFlight (.ref x) none) Q E s:=by
 obtain ⟨oe,ws,T,oT,ts,e1,c1,d1,d2,n1,n2,e3,d3,t3⟩:=tr;obtain ⟨v2,s2,l1⟩:=ly;have z3:3 < ts.size:=(FN.mp t3).1;unfold setFlight;refine Fd (Hx e1 d1 d2 ?_);rw [if_pos (show (Value.ref T !=Value.none)=true from by simp)];have oth:∀b,b≠T→(s.heap.update T (Obj.mapFields (·.setIfInBounds 3 ((none:Option Addr).elim Value.none fun f=>rawInt f)))).get? b=s.heap.get? b:=fun b nb=>FQ _ _ (Ne.symm nb)
 have nr:∀b o,s.heap.get? b=some o→(∀us,o.data≠ .fields us)→b≠T:=fun b o e n z=>by rw [z,e3]at e;cases e;exact n ts d3
 refine HN e3 d3 z3 (q _ (fun b o e=>(oth b fun z=>by rw [z,n1]at e;cases e).trans (bs b o e)) (ff.of_keeps fun b o e n=>⟨o,(oth b (nr b o e n)).trans e,rfl⟩) ?_ (fun b o e n=>⟨o.slots,(oth b (nr b o e n)).trans e⟩) ⟨v2,s2,(oth x (Ne.symm n2)).trans l1⟩);exact ⟨oe,ws,T,_,_,(oth x (Ne.symm n2)).trans e1,c1,d1,d2,n1,n2,Hm _ e3 (Obj.isFreed_of_fields (Obj.data_mapFields d3 _)),Obj.data_mapFields d3 _,by simp [z3]⟩
theorem W1(fr:A.frames=some (env::outer))(ff:s.heap.FunFrames base (env::outer))(el:env.frame=some L)(tr:s.heap.TracedW base x (.ref C) a0)(bs:base.StaysIn s.heap)(bx:base.get? x=none)(ly:D1 s.heap x C od)
 (q:∀h',Heap.NotedW base (env::outer) x (.ref C) a0 (rawInt L) s.heap h'→D1 h' x C od→Q () {s with heap:=h'}):wpAny M A (noteFrame (.ref x) env) Q E s:=by
 obtain ⟨oe,ws,T,oT,ts,e1,⟨c1,c2⟩,d1,d2,n1,n2,e3,d3,t3⟩:=tr;obtain ⟨v2,s2,l1⟩:=ly;rw [l1]at e1;cases e1;cases d1;unfold noteFrame;simp only [el];refine Fd (Hx l1 rfl d2 ?_);rw [if_pos (show (Value.ref T !=Value.none)=true from by simp)];refine Fd (Hx e3 d3 t3 ?_);rw [if_neg (show ¬((Value.none==rawInt L)=true) from by simp [rawInt])];refine Fd (HN e3 d3 (FN.mp t3).1 ?_);have oth:∀b,b≠T→(s.heap.update T (Obj.mapFields (·.setIfInBounds 3 Value.none))).get? b=s.heap.get? b:=fun b nb=>FQ _ _ (Ne.symm nb)
 have nr:∀b o,s.heap.get? b=some o→(∀us,o.data≠ .fields us)→b≠T:=fun b o e n z=>by rw [z,e3]at e;cases e;exact n ts d3
 refine Oo fr (ff.of_keeps fun b o e n=>⟨o,(oth b (nr b o e n)).trans e,rfl⟩) el ((oth x (Ne.symm n2)).trans l1) (fun b o e=>(oth b fun z=>by rw [z,n1]at e;cases e).trans (bs b o e)) bx (FN.mp d2).1 c2 fun h' N ly'=>q h' ⟨N.1,N.2.1,N.2.2.1,fun b o e n=>N.2.2.2 b o ((oth b (nr b o e n)).trans e) n⟩ ly'
def W2(base:Heap)(l:List Env)(x C:Addr)(od:Option Addr)(a0:Value)(h:Heap):Prop:=Heap.FlyingW base l x (.ref C) a0 h∧D1 h x C od
theorem Qn(fr:A.frames=some (env::outer))(el:env.frame=some L)(f:W2 base (env::outer) x C od a0 s.heap)(q:∀h',W2 base outer x C od a0 h'→s.heap.UpToSlots h'→Q () {s with heap:=h'}):wpAny M A (leaving env (.ref x)) Q E s:=by
 obtain ⟨⟨f1,f2,f3,f4⟩,ly⟩:=f;unfold leaving;refine Fd (W1 fr f3 el f4 f1 f2 ly fun h1 N l1=>landD (s:={s with heap:=h1}) N.1 N.2.1 N.2.2.1 l1 fun h2 b2 g2 t2 u2 l2=>?_);obtain ⟨_,_,g3⟩:=g2;exact q h2 ⟨⟨b2,f2,g3,t2⟩,l2⟩ (Heap.UpToSlots.trans N.2.2.2 u2)
theorem W3{t:Addr}(fr:A.frames=some (env::outer))(el:env.frame=some L)(bs:base.StaysIn s.heap)(ff:s.heap.FunFrames base (env::outer))(bx:base.get? x=none)(ex:s.heap.get? x=some ⟨.ref C,od,.fields #[.ref t,.none,.none,.none,.bool false,.none],sl⟩)
 (q:∀h',W2 base outer x C od (.ref t) h'→s.heap.UpToSlots h'→Q () {s with heap:=h'}):wpAny M A (leaving env (.ref x)) Q E s:=by
 unfold leaving noteFrame;simp only [el];refine Fd (Fd (Hx ex rfl (x:= .none) rfl ?_));rw [if_neg (by decide)];refine Oo fr ff el ex bs bx (by simp) rfl fun h1 N l1=>landD (s:={s with heap:=h1}) N.1 N.2.1 N.2.2.1 l1 fun h2 b2 g2 t2 u2 l2=>?_;obtain ⟨_,_,g3⟩:=g2;exact q h2 ⟨⟨b2,bx,g3,t2⟩,l2⟩ (Heap.UpToSlots.trans N.2.2.2 u2)
end
def CXF(P:Program)(w:World):CXT:=fun outer H s E e s'=>∃(x C:Addr) (od:Option Addr) (a0:Value) (H':Hp) (B:Heap),e= .ref x∧s'.os=s.os∧AllBare s'.gens∧Un (frs outer) [] H H' s.heap s'.heap∧HOk P w H' s'.heap∧
 W2 B outer x C od a0 s'.heap∧Cv (frs outer) H' s.heap s'.heap B∧H' x=none∧s.heap.get? x=none∧E (.ref C) (some x) (upd H' x (exO false x C od))
def rem(H:Hp)(x:Addr):Hp:=fun b=>if b=x then none else H b
theorem D2{H:Hp}{x b:Addr}(n:b≠x):rem H x b=H b:=if_neg n
theorem Iu{H:Hp}{x:Addr}:rem H x x=none:=if_pos rfl
theorem Ym{H:Hp}{x:Addr}{o:HO}:upd (rem H x) x o=upd H x o:=by
 funext b
 by_cases h:b=x
 · subst h;rw [A1,A1]
 · rw [A0 h,A0 h,D2 h]
section
variable {X:Cx} {pins:List (Addr×Obj)} {σ:St} {H2:Hp} {s2:Shared} {h3:Heap} {n:Bool} {x C:Addr} {od:Option Addr}
theorem J35(I:Inv X pins σ H2 s2)(hex:X.ex=[])(hx:H2 x=some (exO n x C od))(x0:X.s₀.heap.get? x=none)(st:(PySem.W.hideAll s2.heap (x::frs X.stack)).StaysIn h3)(up:s2.heap.UpToSlots h3):
 Un X.fs [] X.H₀ (rem H2 x) X.s₀.heap h3∧HOk X.prog X.w (rem H2 x) h3∧Cv X.fs (rem H2 x) X.s₀.heap h3 (PySem.W.hideAll s2.heap (x::frs X.stack)):=by
 have bs:=I.base;rw [hex]at bs;have nl:∀b o,X.s₀.heap.get? b=some o→b≠X.env.locals:=fun b o e=>Ff (Fc (Fh e) I.ok.above);have ns:∀b o,X.s₀.heap.get? b=some o→b∉X.fs→b∉frs X.stack:=fun b o e n hb=>(FD.mp (I.stkSub b hb)).elim (nl b o e) n
 have nx:∀b o,X.s₀.heap.get? b=some o→b≠x:=fun b o e z=>by rw [z,x0]at e;cases e
 have sub:∀b∈X.fs,b∈frs X.stack:=fun b hb=>by
  rcases I.ok.stk with e | ⟨e,hf⟩
  · rw [e];exact hb
  · rw [e];unfold frs;rw [Hf,hf];exact Fp _ hb
 have hid:∀b o,s2.heap.get? b=some o→b≠x→b∉frs X.stack→(PySem.W.hideAll s2.heap (x::frs X.stack)).get? b=some o:=fun b o e n1 n2=>HL _ e (fun z=>(FD.mp z).elim n1 n2);have kp:∀b o,s2.heap.get? b=some o→b≠x→b∉frs X.stack→h3.get? b=some o:=fun b o e n1 n2=>st b o (hid b o e n1 n2)
 have tr:∀b o,H2 b=some o→b∉frs X.stack:=fun b o e hb=>by rw [I.stkFree b hb]at e;cases e
 have sl:∀b o,X.s₀.heap.get? b=some o→X.H₀ b=none→b∈X.fs→b∉([]:List Addr)→∃r,h3.get? b=some {o with slots:=r}:=fun b o e n hb hx=>by
  obtain ⟨r1,e1⟩:=bs.slot b o e n hb hx;obtain ⟨o',e',d⟩:=I.frm b (sub b hb);rw [e1]at e';cases e';obtain ⟨r2,e2⟩:=up b _ e1 d;exact ⟨r2,e2⟩
 have th:∀b o,X.s₀.heap.get? b=some o→∃o',s2.heap.get? b=some o':=fun b o e=>bs.there b o e (by simp);refine ⟨⟨fun b o e n hb hx=>kp b o (bs.keep b o e n hb hx) (nx b o e) (ns b o e hb),sl,fun b o e n hx=>?_,fun b o e hx=>?_,fun b xs e=>?_,fun b o v e=>?_,fun b ps e=>?_⟩,fun a o e=>?_,fun b o e hb c=>?_⟩
 · rw [D2 (nx b o e)];exact bs.free b o e n hx
 · obtain ⟨o',e1⟩:=th b o e
   by_cases hb:b∈frs X.stack
   · obtain ⟨o2,e2,d⟩:=I.frm b hb
     rw [e1]at e2;cases e2;obtain ⟨r2,e3⟩:=up b _ e1 d;exact ⟨_,e3⟩
   · exact ⟨o',kp b o' e1 (nx b o e) hb⟩
 · have e1:=bs.tups b xs e
   rw [D2 (fun z=>by rw [z,hx]at e1;cases e1)];exact e1
 · have e1:=bs.frzs b o v e
   rw [D2 (fun z=>by rw [z,hx]at e1;cases e1)];exact e1
 · obtain ⟨m1,e1⟩:=bs.tbls b ps e
   exact ⟨m1,by rw [D2 (fun z=>by rw [z,hx]at e1;cases e1)];exact e1⟩
 · have na:a≠x:=fun z=>by rw [z,Iu]at e;cases e
   rw [D2 na]at e;refine (I.hok a o e).stay (fun b v hc q=>?_) (fun b q=>?_) fun b xs q=>?_
   · rcases hc with rfl | hc
     · exact kp _ _ q na (tr _ _ e)
     · exact kp _ _ q (fun z=>by rw [z,hx]at hc;cases hc) (tr _ _ hc)
   · rw [D2 (fun z=>by rw [z,hx]at q;cases q)];exact q
   · rw [D2 (fun z=>by rw [z,hx]at q;cases q)];exact q
 · have w:∃o1,s2.heap.get? b=some o1∧b≠x∧b∉frs X.stack:=by
    rcases c with c | ⟨u0,e0⟩
    · cases q:rem H2 x b with
      | none=>exact absurd q c
      | some v=>
       have nb:b≠x:=fun z=>by rw [z,Iu]at q;cases q
       rw [D2 nb]at q;obtain ⟨o1,e1⟩:=I.hok.there q;exact ⟨o1,e1,nb,tr _ _ q⟩
    · obtain ⟨o1,e1⟩:=th b u0 e0
      exact ⟨o1,e1,nx b u0 e0,ns b u0 e0 hb⟩
   obtain ⟨o1,e1,n1,n2⟩:=w;have e2:=kp b o1 e1 n1 n2;rw [e]at e2;cases e2;exact hid b o e1 n1 n2
end
section
variable {P:Program} {w:World} {K:PySem.W.Frag} {mg:Str→Option Value} {base:Heap} {N:List Str} {qual:Str} {scope:Scope} {f:Addr} {cd:Value} {A:Around} {outer:List Env} {s:Shared} {H:Hp} {E:XK}
theorem Oq{pins:List (Addr×Obj)}{σ:St}{H2:Hp}{s2:Shared}{x C:Addr}{od:Option Addr}(I:Inv (Dg (CXF P w) P w K mg base N qual scope f cd A outer s H E) pins σ H2 s2)
 (hx:H2 x=some (exO true x C od)) (h0:H x=none) (q:E (.ref C) (some x) (upd H2 x (exO false x C od))):(Dg (CXF P w) P w K mg base N qual scope f cd A outer s H E).xe (.ref x) s2:=by
 have x0:s.heap.get? x=none:=by
  cases z:s.heap.get? x with
  | none=>rfl
  | some v=>
   have e:=I.base.free x v z h0 (by intro c;exact absurd (show x∈([]:List Addr) from c) (by simp));rw [hx]at e;cases e
 obtain ⟨vs,sl,e1,nv⟩:=(I.hok x _ hx).1;obtain ⟨t,rfl⟩:=nv rfl;have hin:∀env∈(Dg (CXF P w) P w K mg base N qual scope f cd A outer s H E).stack,∀a,env.frame=some a→a∈x::frs (Dg (CXF P w) P w K mg base N qual scope f cd A outer s H E).stack:=fun env he a ha=>Fp _ (HQ.mpr ⟨env,he,ha⟩);refine W3 (base:=PySem.W.hideAll s2.heap (x::frs (Dg (CXF P w) P w K mg base N qual scope f cd A outer s H E).stack)) I.ok.frames rfl (fun b o e=>FJ _ e) (PySem.W.funFrames_hide I.stack hin) (Rb _ (Fq ..)) e1 fun h3 fl up=>?_;obtain ⟨U,ok3,hB3⟩:=J35 I rfl hx x0 fl.1.1 up;exact ⟨x,C,od,.ref t,rem H2 x,_,rfl,I.os,I.bare,U,ok3,fl,hB3,Iu,x0,by rw [Ym];exact q⟩
theorem Aa:Cr (CXF P w) (Dg (CXF P w) P w K mg base N qual scope f cd A outer s H E) E:=by
 intro pins σ H1 s1 e s2 I h;obtain ⟨x,C,od,a0,H2,B,rfl,os,bare,u,ok,fl,hB,hx,hnew,q⟩:=h;refine Qn (base:=B) I.ok.frames rfl fl fun h3 fl3 up=>?_;obtain ⟨U,ok3,hB3⟩:=Ie I rfl u ok hB fl3.1.1 up;refine ⟨x,C,od,a0,H2,B,rfl,os.trans I.os,bare,U,ok3,fl3,hB3,hx,?_,q⟩
 cases z:s.heap.get? x with
 | none=>rfl
 | some v=>
  obtain ⟨o1,e1⟩:=I.base.there x v z (by intro c;exact absurd (show x∈([]:List Addr) from c) (by simp));rw [hnew]at e1;cases e1
theorem Ck:PassesOwn (model P w) (A.deeper (envOfC qual scope s.heap.objs.size f cd)) (envOfC qual scope s.heap.objs.size f cd) (Dg (CXF P w) P w K mg base N qual scope f cd A outer s H E).xe:=PassesOwn.leaving
theorem Fun.okF{x:Str}{st:Stmt}{fd:FuncData}{ps:List Str}{k:Nat}{sp:Sp}(F:Fun K x qual st f fd)(S:Ah N ps (A8 st))(len:∀vs H Q E,sp vs H Q E→vs.length=ps.length)
 (hbody:∀(cdv:Value) (A:Around) (outer:List Env) (s:Shared) (H:Hp) (vs:List V) (Q:VK) (E:XK),B0 k (A.deeper (envOfC qual (A8 st) s.heap.objs.size f cdv))→sp vs H Q E→
  ∃t,PSs (Dg (CXF P w) P w K mg base N qual (A8 st) f cdv A outer s H E) (An st) t∧t {nx:=fun _ H'=>Q .non H',rt:=Q} (start N vs) H):B2 P w K mg base (CXF P w) (k+1) f fd ps sp:=by
 obtain ⟨oc,od,kV,doc,pm,an,cdv,ct,osl,rfl,lk,hcd⟩:=F.ex;exact J0l lk hcd S len fun A outer s H vs Q E hr hsp=>hbody cdv A outer s H vs Q E hr hsp
def Lr(X:Cx)(H₀:Hp)(EE:St→XK):Prop:=∀(pins:List (Addr×Obj)) (σ:St) (H2:Hp) (s2:Shared) (x C:Addr) (od:Option Addr),
 Inv X pins σ H2 s2→H2 x=some (exO true x C od)→H₀ x=none→EE σ (.ref C) (some x) (upd H2 x (exO false x C od))→X.xe (.ref x) s2
theorem Yn:Lr (Dg (CXF P w) P w K mg base N qual scope f cd A outer s H E) H (fun _=>E):=fun _ _ _ _ _ _ _ I hx h0 q=>Oq I hx h0 q
end
structure ExK(K:PySem.W.Frag)(C:Addr):Prop where
 at_:∀h:Heap,K.In h→∃(nm q:Str) (N:Addr) (bs bm:List Value) (hd:Bool) (sn:List Str) (su:List Value) (ab:Bool) (co:Option Bool) (dd:Option Addr) (k0 k1 k2 k3 k5:Option Value) (nw:String),
  h.get? C=some (excClassObj nm q C N bs bm hd sn su ab co dd k0 k1 k2 k3 k5 nw)∧bm.contains (.type "BaseException")=true
theorem MkX.k{K:PySem.W.Frag}{C f:Addr}(M:MkX K C f):ExK K C:=⟨fun h X=>by
 obtain ⟨nm,q,N,bs,bm,hd,sn,su,ab,co,dd,k0,k1,k2,k3,k5,mN,c1,c2,c3,c4⟩:=M.at_ h X
 exact ⟨nm,q,N,bs,bm,hd,sn,su,ab,co,dd,k0,k1,k2,k3,k5,_,c1,c4.hasType (by decide)⟩⟩
def Dz(P:St→Addr→Hp→Prop)(ta:TE):TS:=fun _ σ H=>ta σ H fun v H2=>∃x,v= .ref x∧P σ x H2
section
variable {X:Cx} {H₀:Hp} {EE:St→XK} {C:Addr} {e:Expr} {ta:TE} {pos:Pos}
theorem So{P:St→Addr→Hp→Prop}(hP:∀σ x H2,P σ x H2→∃od,H2 x=some (exO true x C od)∧H₀ x=none∧EE σ (.ref C) (some x) (upd H2 x (exO false x C od)))(k:ExK X.K C)(hc:X.calm=true)(hx:Lr X H₀ EE)(he:PE X e ta):
 PS X (.Raise (some e) none pos) (Dz P ta):=by
 intro pins s σ H D I h;rw [arm_exec_Raise];refine Fd (HS ?_);show wpAny _ _ (raiseStmt X.env (some (do let v ← eval e X.env;standAt pos;pure v)) none) _ _ _;unfold raiseStmt;refine Fd (Fd (FE (he pins s σ H _ I h) (fun v s1 hv=>Fd (HS (Fu ?_))) fun _ _ z=>z));obtain ⟨v',H2,I2,rx,x,ev,hp⟩:=hv;obtain ⟨od,hx2,h0,q⟩:=hP σ x H2 hp;subst ev;cases (show v=Value.ref x from rx);obtain ⟨nm,qn,N,bs,bm,hd,sn,su,ab,co,dd,k0,k1,k2,k3,k5,nw,c1,c2⟩:=k.at_ s1.heap I2.kIn;obtain ⟨vs,sl,e1,nv⟩:=(I2.hok x _ hx2).1;obtain ⟨t,rfl⟩:=nv rfl;have fin:=hx pins σ H2 s1 x C od I2 hx2 h0 q
 have hB:(Value.ref C::bm).contains (.type "BaseException")=true:=by rw [List.contains_cons,c2,Bool.or_true]
 obtain ⟨hp',g,d,tk,os⟩:=s1
 repeat (first | with_reducible refine Hy e1 ?_ | with_reducible refine Hy c1 ?_ | (with_reducible refine wpAny_isSubtype_exc c1 ?_;rw [hB]) | wp_step)
 exact wpAny_raiseNew_none (I.ok.hd hc) fin
end
def pN(C:Addr)(H₀:Hp)(EE:St→XK):St→Addr→Hp→Prop:=fun σ x H2=>H2 x=some (exO true x C none)∧H₀ x=none∧EE σ (.ref C) (some x) (upd H2 x (exO false x C none))
def pI(C:Addr)(H₀:Hp)(EE:St→XK):St→Addr→Hp→Prop:=fun σ x H2=>∃od,H2 x=some (exO true x C od)∧H₀ x=none∧EE σ (.ref C) (some x) (upd H2 x (exO false x C od))
section
variable {X:Cx} {H₀:Hp} {CX:CXT} {EE:St→XK} {k j:Nat} {C:Addr} {ps:List Str} {sp:Sp} {x:Str} {np cpos pos:Pos} {e:Expr} {es:List Expr} {t:TA}
theorem Sn.exk(D:Sn X.prog X.w X.K X.mg X.base CX j x C ps sp):ExK X.K C:=by
 obtain ⟨f,fd,F,M,hm,hb⟩:=D.ex;exact M.k
theorem Sq(D:Sn X.prog X.w X.K X.mg X.base CX j x C ps sp)(hex:X.ex=[])(hr:B0 k X.A)(hc:X.calm=true)(hg:Gl X x)(hp:Bl CX X EE)(hx:Lr X H₀ EE)(ha:PA X (e::es) t)(hj:j+1≤k:=by decide)(hdb:(x==("__debug__":Str))=false:=by decide)
 (he:starEach (e::es) X.env=(false,eval e X.env)::starEach es X.env:=by rfl) (hpl:(backTo cpos (starEach es X.env)).any (·.1)=false:=by rfl):
 PS X (.Raise (some (.Call (.Name x np) (e::es) [] cpos)) none pos) (Dz (pI C H₀ EE) (Nd C sp EE t)):=
 So (fun _ _ _ h=>h) D.exk hc hx (Yl D hex hr hg hp ha hj hdb he hpl)
end
section
variable {σ:St} {H H₀:Hp} {Q:VK} {D:Cc} {K:PySem.W.Frag} {C:Addr} {EE:St→XK} {t:TA} {sp:Sp}
theorem Kt:Dz (pN C H₀ EE) (J32 C t) D σ H=t σ H fun vs H1=>vs.length≤sizeLine∧∀x,H1 x=none→H₀ x=none∧EE σ (.ref C) (some x) (upd H1 x (exO false x C none)):=by
 unfold Dz pN J32;simp only [V.ref.injEq,exists_eq_left',A1,L1,true_and]
theorem Ku:Dz (pI C H₀ EE) (Nd C sp EE t) D σ H=t σ H fun vs H1=>vs.length≤sizeLine∧∀x,H1 x=none→sp (.ref x::vs) (upd H1 x (exO true x C none)) (fun v H2=>v= .non∧∃od,H2 x=some (exO true x C od)∧H₀ x=none∧EE σ (.ref C) (some x) (upd H2 x (exO false x C od))) (EE σ):=by
 unfold Dz pI Nd;simp only [V.ref.injEq,exists_eq_left']
end
section
variable {X:Cx} {pins:List (Addr×Obj)} {σ:St} {H:Hp} {x C:Addr} {od:Option Addr} {s:Shared}
theorem Air.landD(Z:Air X pins σ H x (.ref C) s)(ly:D1 s.heap x C od){M:Model}{A:Around}{Q:Unit→Shared→Prop}{E:Value→Shared→Prop}(h:∀s',Air X pins σ H x (.ref C) s'→D1 s'.heap x C od→Q () s'):wpAny M A (setFlight (.ref x) none) Q E s:=by
 obtain ⟨H0,s0,a0,B,I,os,bare,u,ok,fl,hB,hx,hn⟩:=Z.ex;refine L2.landD fl.1 fl.2.2.1 fl.2.2.2.at ly fun h2 b2 g2 t2 u2 l2=>h _ ?_ l2;obtain ⟨U,ok3,hB3⟩:=Eh u ok I.frm I.stkFree hB b2 u2;exact ⟨H0,s0,a0,B,I,os,bare,U,ok3,⟨b2,fl.2.1,g2,t2⟩,hB3,hx,hn⟩
theorem Air.trackF(Z:Air X pins σ H x (.ref C) s)(ly:D1 s.heap x C od)(hex:X.ex=[]):Inv X pins σ (upd H x (exO false x C od)) s:=by
 obtain ⟨H0,s0,a0,B,I0,os,bare,u,ok,fl,hB,hx,hn⟩:=Z.ex;obtain ⟨vs,sl,e⟩:=ly;exact Inv.track (H1:=H0) (s1:=s0) I0 hex hn Z.inv hx (On e fun z=>by cases z)
end
def PHF(X:Cx)(hs:List ExceptHandler)(th:TH):Prop:=∀(pins:List (Addr×Obj)) (s:Shared) (σ:St) (H:Hp) (x C:Addr) (od:Option Addr) (D:Cc),Air X pins σ H x (.ref C) s→D1 s.heap x C od→th (.ref C) x D σ (upd H x (exO false x C od))→
 wpAny (model X.prog X.w) X.A (handleBy (.ref x) X.env hs) (SP X pins D) X.xe s
def J53(K:PySem.W.Frag)(c:Value)(i:Nat)(ts:Addr→TS)(tr:TH):TH:=fun cls x D σ H=>∃b,PySem.W.exmOne K cls c=some b∧if b=true then ts x (Ig i D) (σ.set i (some (.ref x))) H else tr cls x D σ H
section
variable {X:Cx} {Cn n:Str} {c:Value} {i:Nat} {np pos:Pos} {b₀:Stmt} {suite:List Stmt} {rest:List ExceptHandler} {ts:Addr→TS} {tr:TH}
theorem Yo:PHF X [] J4k:=fun _ _ _ _ _ _ _ _ _ _ h=>h.elim
theorem J36(hex:X.ex=[])(hN:X.N.Nodup)(hi:X.N[i]?=some n)(hl:X.env.kindOf n=some .local)(hg:Gl X Cn)(hm:X.mg Cn=some c)(hs:∀x,PSs (X.sui x) (b₀::suite) (ts x))(hr:PHF X rest tr)(hdb:(Cn==("__debug__":Str))=false:=by decide):
 PHF X (.ExceptHandler (some (.Name Cn np)) (some n) (b₀::suite) pos::rest) (J53 X.K c i ts tr):=by
 intro pins s σ H x C od D Z ly h;obtain ⟨b,e,h⟩:=h;refine wpAny_handleBy_cons (Mi (c:=c) Z (fun Q E q=>C6 (X:=X.sui x) (Z.inv.sui x) hg hm q hdb) e ?_) (by intro q;cases q)
 cases b with
 | false=>exact hr pins s σ H x C od D Z ly h
 | true=>
  refine codeAny_handlers_suite_as (Z.landD ly fun s' Z' ly'=>?_);refine E9 (X:=X) (Z'.trackF ly' hex) hN hi (.inl hl) (v:= .ref x) rfl (fun s2 I2=>?_) (.inr hl);refine FE (hs x pins s2 _ _ _ (I2.sui x) h) (fun f s3 q=>?_) fun _ _ q=>False.elim q;have q':=q.unsui Z.inv.ok;show wpAny _ _ _ _ _ _
  cases f with
  | next=>obtain ⟨σ',H',I3,q3⟩:=q';exact Dv I3 hN hi hl fun s4 I4=>⟨_,H',I4,q3⟩
  | brk=>obtain ⟨σ',H',I3,q3⟩:=q';exact Dv I3 hN hi hl fun s4 I4=>⟨_,H',I4,q3⟩
  | cont=>obtain ⟨σ',H',I3,q3⟩:=q';exact Dv I3 hN hi hl fun s4 I4=>⟨_,H',I4,q3⟩
  | ret u=>obtain ⟨v,σ',H',I3,r3,q3⟩:=q';exact Dv I3 hN hi hl fun s4 I4=>⟨v,_,H',I4,r3,q3⟩
theorem Yp{body:List Stmt}{h₀:ExceptHandler}{hs:List ExceptHandler}{tb:Y9→TS}{th:TH}(hst:X.stack=X.env::X.outer)(hfr:X.env.frame=some X.env.locals)
 (hb:∀t:Y9,Bl (CXF X.prog X.w) (X.tryX t.pn t.xe) t.EE→PSs (X.tryX t.pn t.xe) body (tb t)) (hh:PHF X (h₀::hs) th):
 PS X (.Try body (h₀::hs) [] [] pos) (J14 tb th):=by
 intro pins s σ H D I h;refine wpAny_Try_except ?_
 have P1:Bl (CXF X.prog X.w) (X.tryX (X.pn++pins) (fun e s'=>∃σ H' x C od,e= .ref x∧Air X pins σ H' x (.ref C) s'∧D1 s'.heap x C od∧th (.ref C) x D σ (upd H' x (exO false x C od)))) (fun σ' cls ox H'=>∃x,ox=some x∧th cls x D σ' H'):=by
  intro pl σ1 H1 s1 e s2 I1 hc;obtain ⟨x,C,od,a0,H2,B,rfl,os,bare,u,ok,fl,hB,hx,hn,⟨y,hy,q⟩⟩:=hc;cases hy;exact ⟨σ1,H2,x,C,od,rfl,⟨H1,s1,a0,B,I1.tryOut I.ok,os,bare,u,ok,fl.1,hB,hx,hn⟩,fl.2,q⟩
 refine FE (hb ⟨_,_,_⟩ P1 [] s σ H D (I.tryIn _) (h _ _)) (fun f s1 q=>?_) fun e s1 q=>?_
 · have q':=q.tryOut I.ok
   cases f with
   | next=>exact R6 q'
   | brk=>exact q'
   | cont=>exact q'
   | ret u=>exact q'
 · obtain ⟨σ1,H1,x,C,od,rfl,Z,ly,q⟩:=q
   have fr:X.A.frames=some (X.env::X.outer):=by rw [← hst];exact I.ok.frames
   obtain ⟨H0,s0,a0,B,I0,os,bare,u,ok,fl,hB,hx,hn⟩:=Z.ex;have fl':=fl;rw [hst]at fl';obtain ⟨f1,f2,f3,f4⟩:=fl';refine W1 fr f3 hfr f4 f1 f2 ly fun h1 N1 l1=>landD (s:={s1 with heap:=h1}) N1.1 N1.2.1 N1.2.2.1 l1 fun h3 b3 g3 t3 u3 l3=>?_
   have fl3:Heap.FlyingW B X.stack x (.ref C) a0 h3:=by rw [hst];exact ⟨b3,f2,g3,t3⟩
   obtain ⟨U,ok3,hB3⟩:=Eh u ok I0.frm I0.stkFree hB b3 (Heap.UpToSlots.trans N1.2.2.2 u3);exact hh pins _ σ1 H1 x C od D ⟨H0,s0,a0,B,I0,os,bare,U,ok3,fl3,hB3,hx,hn⟩ l3 q
end
section
variable {σ:St} {H:Hp} {D:Cc} {K:PySem.W.Frag}
theorem Qo{c cls:Value}{i:Nat}{x:Addr}{ts:Addr→TS}{tr:TH}:J53 K c i ts tr cls x D σ H=∃b,PySem.W.exmOne K cls c=some b∧if b=true then ts x (Ig i D) (σ.set i (some (.ref x))) H else tr cls x D σ H:=rfl
theorem Qp{Q:VK}{ta:TE}{f:Str}:J18 K ta f σ H Q=ta σ H fun x H1=>∃nw a C B dx fs v,x= .ref a∧H1 a=some (exO nw a C (some dx))∧H1 dx=some (exD dx fs)∧Ir K C B∧PySem.W.findIn K (.ref C) f=some none∧fs.lookup f=some v∧Q v H1:=rfl
theorem Nf{ta tv:TE}{f:Str}:J19 K ta tv f D σ H=tv σ H fun y H1=>ta σ H1 fun x H2=>∃nw a C B,x= .ref a∧Ir K C B∧PySem.W.findIn K (.ref C) f=some none∧
 ((H2 a=some (exO nw a C none)∧∀dx,H2 dx=none→D.nx σ (upd (upd H2 a (exO nw a C (some dx))) dx (exD dx (Bh f y []))))∨
  ∃dx fs,H2 a=some (exO nw a C (some dx))∧H2 dx=some (exD dx fs)∧fs.length < 1000∧D.nx σ (upd H2 dx (exD dx (Bh f y fs)))):=rfl
theorem Ng{C:Addr}{m:Str}{sp:Sp}{EE:St→XK}{ta:TE}{Q:VK}:J33 C m sp EE ta σ H Q=ta σ H fun x H1=>∃nw a,x= .ref a∧(H1 a=some (exO nw a C none)∨∃dx fs,H1 a=some (exO nw a C (some dx))∧H1 dx=some (exD dx fs)∧fs.lookup m=none)∧sp [x] H1 Q (EE σ):=rfl
theorem W4{C:Addr}{t:TA}{Q:VK}:J32 C t σ H Q=t σ H fun vs H1=>vs.length≤sizeLine∧∀x,H1 x=none→Q (.ref x) (upd H1 x (exO true x C none)):=rfl
theorem Qq{C:Addr}{sp:Sp}{EE:St→XK}{t:TA}{Q:VK}:Nd C sp EE t σ H Q=t σ H fun vs H1=>vs.length≤sizeLine∧∀x,H1 x=none→sp (.ref x::vs) (upd H1 x (exO true x C none)) (fun v H2=>v= .non∧Q (.ref x) H2) (EE σ):=rfl
end
section
open PySem.W
variable {K:Frag} {C N A f:Addr} {nm q:Str} {bs:List Value} {hdct:Bool} {sn:List Str} {sub:List Value} {ab:Bool} {col:Option Bool} {dd:Option Addr} {k0 k1 k2 k3 k5:Option Value} {oc c0 oc2:Value} {od dA od2:Option Addr} {es es2:Array DictEntry} {ep ep2:Nat} {sl slA sl2:Array (Option Value)} {cdA:ClassData} {nw:String}
theorem J37{fo:Obj}(lC:K.lookup C=some (excClassObj nm q C N bs (.ref A::Dl) hdct sn sub ab col dd k0 k1 k2 k3 k5 "ValueError.__new__"))(lN:K.lookup N=some ⟨oc,od,.dict es ep,sl⟩)(sN:Ci es=true)(iN:nsFind es "__init__"=some (.ref f))
 (lA:K.lookup A=some ⟨c0,dA,.cls cdA,slA⟩) (lNA:K.lookup cdA.ns=some ⟨oc2,od2,.dict es2 ep2,sl2⟩) (sNA:Ci es2=true) (iNA:nsFind es2 "__init__"=none) (lF:K.lookup f=some fo) (cF:fo.cls= .type "function") (kp:keepIn K (.ref C)=true):MkX K C f:=
 ⟨fun h X=>⟨nm,q,N,bs,_,hdct,sn,sub,ab,col,dd,k0,k1,k2,k3,k5,nsFind es,X _ _ lC,J10 X lN sN,iN,.own (X _ _ lA) (J10 X lNA sNA) iNA .base⟩,⟨fo,lF,cF⟩,kp⟩
theorem Yq(lC:K.lookup C=some (excClassObj nm q C N bs (.ref A::Dl) true sn sub ab col dd k0 k1 k2 k3 k5 nw))(ga:findIn K (.ref C) "__getattribute__"=some (some (.builtin "BaseException.__getattribute__")))(gh:findIn K (.ref C) "__getattr__"=some none)
 (sa:findIn K (.ref C) "__setattr__"=some (some (.builtin "object.__setattr__"))):Ir K C A:=by
 refine ⟨⟨ga,gh⟩,?_,sa⟩;unfold clsIn;rw [lC];exact ⟨_,rfl,rfl,rfl⟩
end
end L2
namespace L2
section
variable {M:Model} {A:Around} {E:Value→Shared→Prop} {s:Shared} {base:Heap} {env:Env} {outer l:List Env} {L e:Addr} {cls a0 fl:Value}
theorem Yr{env':Env}{v:Value}(h:env'.frame=env.frame):noteFrame v env'=noteFrame v env:=by
 unfold noteFrame PySem.frameOf;rw [h]
end
theorem Iv{h h' B B':Heap}:∀{l:List Env},(∀b∈frs l,h'.get? b=h.get? b)→(∀b o,B'.get? b=some o→B.get? b=some o)→h.FunFrames B l→h'.FunFrames B' l
 | [],_,_,_=>trivial
 | env::l,k,kb,⟨h1,⟨L,o,e1,e2,e3,e4⟩,h3⟩=>by
  have hL:L∈frs (env::l):=HQ.mpr ⟨env,Fq,e1⟩;refine ⟨h1,⟨L,o,e1,?_,by rw [k L hL];exact e3,e4⟩,Iv (fun b hb=>k b ?_) kb h3⟩
  · cases z:B'.get? L with
    | none=>rfl
    | some v=>have:=kb L v z;rw [e2]at this;cases this
  · unfold frs
    rw [Hf,e1];exact Fp _ hb
end L2
namespace L2
open PySem.W
theorem Ys{H:Hp}{as:List Addr}{x:Addr}{o:HO}(n:x∉as):unk (upd H x o) as=upd (unk H as) x o:=by
 funext b
 by_cases h:b=x
 · subst h;rw [Ae n,A1,A1]
 · rw [A0 h]
   by_cases z:b∈as
   · rw [Bp z,Bp z]
   · rw [Ae z,Ae z,A0 h]
theorem W5{H H0:Hp}{as:List Addr}{x:Addr}{o:HO}(n:x∉as):retr (upd H x o) H0 as=upd (retr H H0 as) x o:=by
 funext b
 by_cases h:b=x
 · subst h;rw [Ao n,A1,A1]
 · rw [A0 h]
   by_cases z:b∈as
   · rw [Br z,Br z]
   · rw [Ao z,Ao z,A0 h]
theorem Un.lent{fs:List Addr}{H H':Hp}{h h':Heap}{c:Addr}{o:Obj}(n:H c=none)(e:h.get? c=some o)(nf:c∉fs)(hc:H' c=some (Az c o))(ec:h'.get? c=some o)(un:Un fs [] (upd H c (Az c o)) H' h h'):Un fs [] H (unk H' [c]) h h':=by
 have up:∀b u,H b=some u→upd H c (Az c o) b=some u∧b≠c:=fun b u q=>⟨by rw [A0 (A3 q n)];exact q,A3 q n⟩
 have out:∀b,b≠c→unk H' [c] b=H' b:=fun b nb=>Ae fun z=>nb (Fj.mp z);refine ⟨fun b ob q' m hb hx=>?_,fun b ob q' m hb hx=>?_,fun b ob q' m hx=>?_,un.there,fun b xs q'=>?_,fun b ob w' q'=>?_,fun b ps q'=>?_⟩
 · by_cases z:b=c
   · rw [z,e]at q'
     cases q';rw [z];exact ec
   · exact un.keep b ob q' (by rw [A0 z];exact m) hb hx
 · have z:b≠c:=fun z=>nf (by rw [← z];exact hb)
   exact un.slot b ob q' (by rw [A0 z];exact m) hb hx
 · by_cases z:b=c
   · subst z;exact Bp (by simp)
   · rw [out b z];exact un.free b ob q' (by rw [A0 z];exact m) hx
 · obtain ⟨a,nb⟩:=up b _ q'
   rw [out b nb];exact un.tups b xs a
 · obtain ⟨a,nb⟩:=up b _ q'
   rw [out b nb];exact un.frzs b ob w' a
 · obtain ⟨a,nb⟩:=up b _ q'
   rw [out b nb];exact un.tbls b ps a
def Kv(Q:VK)(c:Addr)(o:Obj):VK:=fun y H2=>H2 c=some (Az c o)→Q y (unk H2 [c])
def Iw(E:XK)(c:Addr)(o:Obj):XK:=fun cls ox H2=>H2 c=some (Az c o)→E cls ox (unk H2 [c])
def W6(CX:CXT):Prop:=∀(outer:List Env) (H:Hp) (s s':Shared) (E:XK) (e:Value) (c:Addr) (o:Obj),H c=none→s.heap.get? c=some o→c∉frs outer→CX outer (upd H c (Az c o)) s (Iw E c o) e s'→CX outer H s E e s'
theorem W7{P:Program}{w:World}:W6 (CXF P w):=by
 intro outer H s s' E e c o n ec nf h;obtain ⟨x,C,od,a0,H',B,rfl,os,bare,un,ok,fl,hB,hx,hn,q⟩:=h;have hc:H' c=some (Az c o):=un.frzs c o _ A1;have ec':s'.heap.get? c=some o:=(ok c _ hc).1
 have ncx:x≠c:=fun z=>by rw [z,ec]at hn;cases hn
 have nx:x∉[c]:=fun z=>ncx (Fj.mp z);refine ⟨x,C,od,a0,unk H' [c],B,rfl,os,bare,un.lent n ec nf hc ec',ok.back hc,fl,fun b ob e1 hb z=>hB b ob e1 hb (z.imp (fun z1 z2=>z1 (Bd z2)) id),Bd hx,hn,?_⟩;have:=q (by rw [A0 ncx.symm];exact hc);rw [Ys nx]at this;exact this
theorem Ez.lend{P:Program}{w:World}{K:PySem.W.Frag}{mg:Str→Option Value}{base:Heap}{A:Around}{outer:List Env}{s:Shared}{H:Hp}{c:Addr}{o:Obj}(e0:Ez P w K mg base A outer s H)(fc:H c=none)(ho:s.heap.get? c=some o)(nb:base.get? c=none)(nf:c∉frs outer):Ez P w K mg base A outer s (upd H c (Az c o)):=by
 refine ⟨e0.frames,e0.mod,fun b ob q=>⟨(e0.bs b ob q).1,?_⟩,e0.bsz,e0.funs,fun b hb=>?_,e0.hok.lend fc ho,e0.bare⟩
 · rw [A0 (fun z=>by rw [z,nb]at q;cases q)];exact (e0.bs b ob q).2
 · rw [A0 (fun z=>nf (by rw [← z];exact hb))];exact e0.frf b hb
theorem Inv.cellAt{X:Cx}{pins:List (Addr×Obj)}{σ:St}{H:Hp}{s:Shared}{i:Nat}{x:Str}{c:Addr}{v:V}(I:Inv X pins σ H s)(hN:X.N[i]?=some x)(hk:X.env.scope.names.lookup x=some .cell)(hcx:X.env.cells.lookup x=some c)(hfn:X.fn x=true)(hv:σ[i]?=some (some v)):
 ∃o u,s.heap.get? c=some o∧o.data= .cell (some u)∧Ab v u∧H c=none∧c∉frs X.stack∧X.base.get? c=none:=by
 obtain ⟨m,hns,hloc⟩:=I.loc;obtain ⟨u,ru,lk⟩:=hloc i x v hN hv (.inr (.inl hk))
 obtain ⟨o,ho,hd⟩:∃o,s.heap.get? c=some o∧o.data= .cell (some u):=by
  rcases lk with ⟨z,_⟩ | ⟨_,c2,e,o,a,b⟩
  · have z:X.env.scope.names.lookup x=some .local:=z
    rw [hk]at z;cases z
  · rw [hcx]at e;cases e
    exact ⟨o,a,b⟩
 have fc:H c=none:=I.freeC x c hcx;have cge:X.s₀.heap.objs.size≤c:=I.ok.cab x c hfn hcx;refine ⟨o,u,ho,hd,ru,fc,fun hb=>?_,?_⟩
 · rcases I.ok.stk with z | ⟨z,z2⟩
   · rw [z]at hb
     obtain ⟨_,ob,e1,_⟩:=I.ok.funs.mem hb;exact absurd (Fh e1) (Nat.not_lt.mpr cge)
   · rw [z]at hb
     unfold frs at hb;rw [Hf,z2]at hb;rcases FD.mp hb with w' | hb
     · obtain ⟨ob,es',ep,e1,d1,_⟩:=hns
       rw [← w',ho]at e1;cases e1;rw [hd]at d1;cases d1
     · obtain ⟨_,ob,e1,_⟩:=I.ok.funs.mem hb
       exact absurd (Fh e1) (Nat.not_lt.mpr cge)
 · cases q:X.base.get? c with
   | none=>rfl
   | some ob=>exact absurd (Fc (Fh q) I.ok.bsz) (Nat.not_lt.mpr cge)
def W8(sp:Sp)(c:Addr)(i:Nat)(E:XK)(t:TA):TE:=fun σ H Q=>t σ H fun vs H1=>∃v,σ[i]?=some (some v)∧∀o u,o.data= .cell (some u)→Ab v u→H1 c=none→sp vs (upd H1 c (Az c o)) (Kv Q c o) (Iw E c o)
section
variable {X:Cx} {CX:CXT} {k j:Nat} {ps:List Str} {sp:Sp} {E:XK} {g x x2:Str} {p pos:Pos} {e:Expr} {es:List Expr} {t:TA} {c c2:Addr} {i i2:Nat}
theorem W9(D:Def X.prog X.w X.K X.mg X.base CX j g ps sp)(hL:W6 CX)(hx:Cr CX X E)(hr:B0 k X.A)(hg:Gl X g)(ha:PA X (e::es) t)(hN:X.N[i]?=some x)(hk:X.env.scope.names.lookup x=some .cell)(hcx:X.env.cells.lookup x=some c)(hfn:X.fn x=true:=by rfl)(hj:j≤k:=by decide)
 (hdb:(g==("__debug__":Str))=false:=by decide) (he:starEach (e::es) X.env=(false,eval e X.env)::starEach es X.env:=by rfl) (hpl:(backTo pos (starEach es X.env)).any (·.1)=false:=by rfl):
 PE X (.Call (.Name g p) (e::es) [] pos) (W8 sp c i E t):=by
 obtain ⟨f,fd,F,hm,hkp,hb⟩:=D.ex;intro pins s σ H Q I h;refine FU (C6 I hg hm ?_ hdb);refine Hc (h₀:=X.base) I.ok.mod.kin hkp (thn (ha pos pins s σ H _ I h) fun us s2 ⟨vs,H2,I2,r,q⟩=>⟨I2.kIn,?_⟩) he hpl;obtain ⟨v,hv,q⟩:=q;obtain ⟨o,u,ho,hd,ru,fc,nf,nb⟩:=I2.cellAt hN hk hcx hfn hv;have hs:=q o u hd ru fc
 have hl:us.length=ps.length:=by rw [← r.length];exact F.len _ _ _ _ hs
 have hb':=hb s2 us I2.kIn (by simpa using hl);rw [FF]at hb';refine Hv (Hh ((F.mono hj).run X.A X.stack s2 _ ⟨us,[]⟩ us vs _ _ hr (I2.env0.lend fc ho nb nf) hb' r hs) fun rr s' hq=>?_)
 cases rr with
 | error e=>exact hx pins σ H2 s2 e s' I2 (hL X.stack H2 s2 s' E e c o fc ho nf hq)
 | ok fl=>
  cases fl with
  | ret u'=>exact I2.after (CE.back fc ho nf hq)
  | next=>exact False.elim hq
  | brk=>exact False.elim hq
  | cont=>exact False.elim hq
theorem Nh{σ:St}{H:Hp}{Q:VK}:W8 sp c i E t σ H Q=t σ H fun vs H1=>∃v,σ[i]?=some (some v)∧∀o u,o.data= .cell (some u)→Ab v u→H1 c=none→sp vs (upd H1 c (Az c o)) (Kv Q c o) (Iw E c o):=rfl
def Wa(sp:Sp)(c c2:Addr)(i i2:Nat)(E:XK)(t:TA):TE:=fun σ H Q=>t σ H fun vs H1=>∃v v2,σ[i]?=some (some v)∧σ[i2]?=some (some v2)∧∀o u o2 u2,o.data= .cell (some u)→Ab v u→H1 c=none→o2.data= .cell (some u2)→Ab v2 u2→H1 c2=none→sp vs (upd (upd H1 c (Az c o)) c2 (Az c2 o2)) (Kv (Kv Q c o) c2 o2) (Iw (Iw E c o) c2 o2)
theorem Wb(D:Def X.prog X.w X.K X.mg X.base CX j g ps sp)(hL:W6 CX)(hx:Cr CX X E)(hr:B0 k X.A)(hg:Gl X g)(ha:PA X (e::es) t)(hN:X.N[i]?=some x)(hk:X.env.scope.names.lookup x=some .cell)(hcx:X.env.cells.lookup x=some c)(hN2:X.N[i2]?=some x2)(hk2:X.env.scope.names.lookup x2=some .cell)(hcx2:X.env.cells.lookup x2=some c2)(hne:c≠c2)(hfn:X.fn x=true:=by rfl)(hfn2:X.fn x2=true:=by rfl)(hj:j≤k:=by decide)
 (hdb:(g==("__debug__":Str))=false:=by decide) (he:starEach (e::es) X.env=(false,eval e X.env)::starEach es X.env:=by rfl) (hpl:(backTo pos (starEach es X.env)).any (·.1)=false:=by rfl):
 PE X (.Call (.Name g p) (e::es) [] pos) (Wa sp c c2 i i2 E t):=by
 obtain ⟨f,fd,F,hm,hkp,hb⟩:=D.ex;intro pins s σ H Q I h;refine FU (C6 I hg hm ?_ hdb);refine Hc (h₀:=X.base) I.ok.mod.kin hkp (thn (ha pos pins s σ H _ I h) fun us s2 ⟨vs,H2,I2,r,q⟩=>⟨I2.kIn,?_⟩) he hpl;obtain ⟨v,v2,hv,hv2,q⟩:=q;obtain ⟨o,u,ho,hd,ru,fc,nf,nb⟩:=I2.cellAt hN hk hcx hfn hv;obtain ⟨o2,u2,ho2,hd2,ru2,fc2,nf2,nb2⟩:=I2.cellAt hN2 hk2 hcx2 hfn2 hv2;have hs:=q o u o2 u2 hd ru fc hd2 ru2 fc2
 have fc2':upd H2 c (Az c o) c2=none:=by rw [A0 hne.symm];exact fc2
 have hl:us.length=ps.length:=by rw [← r.length];exact F.len _ _ _ _ hs
 have hb':=hb s2 us I2.kIn (by simpa using hl);rw [FF]at hb';refine Hv (Hh ((F.mono hj).run X.A X.stack s2 _ ⟨us,[]⟩ us vs _ _ hr ((I2.env0.lend fc ho nb nf).lend fc2' ho2 nb2 nf2) hb' r hs) fun rr s' hq=>?_)
 cases rr with
 | error e=>exact hx pins σ H2 s2 e s' I2 (hL X.stack H2 s2 s' E e c o fc ho nf (hL X.stack _ s2 s' _ e c2 o2 fc2' ho2 nf2 hq))
 | ok fl=>
  cases fl with
  | ret u'=>exact I2.after (CE.back fc ho nf (CE.back fc2' ho2 nf2 hq))
  | next=>exact False.elim hq
  | brk=>exact False.elim hq
  | cont=>exact False.elim hq
theorem Ni{σ:St}{H:Hp}{Q:VK}:Wa sp c c2 i i2 E t σ H Q=t σ H fun vs H1=>∃v v2,σ[i]?=some (some v)∧σ[i2]?=some (some v2)∧∀o u o2 u2,o.data= .cell (some u)→Ab v u→H1 c=none→o2.data= .cell (some u2)→Ab v2 u2→H1 c2=none→sp vs (upd (upd H1 c (Az c o)) c2 (Az c2 o2)) (Kv (Kv Q c o) c2 o2) (Iw (Iw E c o) c2 o2):=rfl
end
def K4(E:XK)(H:Hp)(cs:List Addr):XK:=fun cls ox H3=>(∀c∈cs,H3 c=none)→E cls ox (retr H3 H cs)
def K5(P:Program)(w:World)(K:PySem.W.Frag)(mg:Str→Option Value)(base:Heap)(N:List Str)(qual:Str)(scope:Scope)(f:Addr)(cd:Value)(A:Around)(outer:List Env)(s:Shared)(H:Hp)(cl:List (Str×Addr))(E:XK):Cx where
 prog:=P
 w:=w
 K:=K
 mg:=mg
 base:=base
 A:=A.deeper (envX qual scope s.heap.objs.size f cd cl)
 N:=N
 s₀:=s
 H₀:=H
 env:=envX qual scope s.heap.objs.size f cd cl
 outer:=outer
 stack:=envX qual scope s.heap.objs.size f cd cl::outer
 ex:=[]
 calm:=true
 fn:=fun _=>false
 pn:=[]
 xe:=fun e s'=>wpAny (model P w) (A.deeper (envX qual scope s.heap.objs.size f cd cl)) (leaving (envX qual scope s.heap.objs.size f cd cl) e) (fun _ s''=>CXF P w outer H s E e s'') (fun e' s''=>CXF P w outer H s E e' s'') s'
theorem Sr{P:Program}{w:World}{K:PySem.W.Frag}{mg:Str→Option Value}{base:Heap}{N:List Str}{qual:Str}{scope:Scope}{f:Addr}{cd:Value}{A:Around}{outer:List Env}{s:Shared}{H:Hp}{cl:List (Str×Addr)}{E:XK}:Cr (CXF P w) (K5 P w K mg base N qual scope f cd A outer s H cl E) E:=by
 intro pins σ H1 s1 e s2 I h;obtain ⟨x,C,od,a0,H2,B,rfl,os,bare,u,ok,fl,hB,hx,hnew,q⟩:=h;refine Qn (base:=B) I.ok.frames rfl fl fun h3 fl3 up=>?_;obtain ⟨U,ok3,hB3⟩:=Ie I rfl u ok hB fl3.1.1 up;refine ⟨x,C,od,a0,H2,B,rfl,os.trans I.os,bare,U,ok3,fl3,hB3,hx,?_,q⟩
 cases z:s.heap.get? x with
 | none=>rfl
 | some v=>
  obtain ⟨o1,e1⟩:=I.base.there x v z (by intro c;exact absurd (show x∈([]:List Addr) from c) (by simp));rw [hnew]at e1;cases e1
section
variable {P:Program} {w:World} {K:PySem.W.Frag} {mg:Str→Option Value} {base:Heap}
theorem Un.retr{fs:List Addr}{H H':Hp}{h h':Heap}{cs:List Addr}(ub:Un fs [] (unk H cs) H' h h'):Un fs [] H (retr H' H cs) h h':=by
 refine ⟨fun b o e n hb hx=>ub.keep b o e (Bd n) hb hx,fun b o e n hb hx=>ub.slot b o e (Bd n) hb hx,fun b o e n hx=>?_,ub.there,fun b xs e=>?_,fun b o u e=>?_,fun b pp e=>?_⟩
 · by_cases z:b∈cs
   · rw [Br z];exact n
   · rw [Ao z];exact ub.free b o e (Bd n) hx
 · by_cases z:b∈cs
   · rw [Br z];exact e
   · rw [Ao z];exact ub.tups b xs (by rw [Ae z];exact e)
 · by_cases z:b∈cs
   · rw [Br z];exact e
   · rw [Ao z];exact ub.frzs b o u (by rw [Ae z];exact e)
 · by_cases z:b∈cs
   · rw [Br z];exact ⟨#[],by rw [e];simp⟩
   · rw [Ao z];exact ub.tbls b pp (by rw [Ae z];exact e)
theorem HOk.retr{fs:List Addr}{H H':Hp}{h h':Heap}{cs:List Addr}(hcm:∀c∈cs,∃o u,H c=some (Az c o)∧o.data= .cell (some u)∧h.get? c=some o)(nfs:∀c∈cs,c∉fs)(ub:Un fs [] (unk H cs) H' h h')(hc0:∀c∈cs,H' c=none)(ok:HOk P w H' h'):HOk P w (retr H' H cs) h':=fun b o e=>by
 by_cases z:b∈cs
 · rw [Br z]at e
   obtain ⟨ob,u,a,_,e2⟩:=hcm b z;rw [a]at e;cases e;exact Qi (ub.keep b ob e2 (Bp z) (nfs b z) (by simp))
 · rw [Ao z]at e
   refine (ok b o e).stay (fun c v _ q=>q) (fun c q=>?_) fun c xs q=>?_
   · rw [Ao fun z=>?_]
     · exact q
     · rw [hc0 c z]at q;cases q
   · rw [Ao fun z=>?_]
     · exact q
     · rw [hc0 c z]at q;cases q
theorem CXF.retr{outer:List Env}{H:Hp}{s s':Shared}{E:XK}{e:Value}{cs:List Addr}(hcm:∀c∈cs,∃o u,H c=some (Az c o)∧o.data= .cell (some u)∧s.heap.get? c=some o)(nfs:∀c∈cs,c∉frs outer)(h:CXF P w outer (unk H cs) s (K4 E H cs) e s'):CXF P w outer H s E e s':=by
 obtain ⟨x,C,od,a0,H',B,rfl,os,bare,un,ok,fl,hB,hx,hn,q⟩:=h
 have hc0:∀c∈cs,H' c=none:=fun c h=>by
  obtain ⟨o,u,_,_,e⟩:=hcm c h;exact un.free c o e (Bp h) (by simp)
 have nx:x∉cs:=fun z=>by
  obtain ⟨o,u,_,_,e⟩:=hcm x z;rw [hn]at e;cases e
 refine ⟨x,C,od,a0,L2.retr H' H cs,B,rfl,os,bare,Un.retr un,HOk.retr hcm nfs un hc0 ok,fl,fun b ob e1 hb z=>hB b ob e1 hb ?_,by rw [Ao nx];exact hx,hn,?_⟩
 · rcases z with z | z
   · by_cases zb:b∈cs
     · obtain ⟨o,u,_,_,e⟩:=hcm b zb
       exact .inr ⟨o,e⟩
     · rw [Ao zb]at z;exact .inl z
   · exact .inr z
 · have:=q (fun c hc=>by rw [A0 (fun z=>nx (by rw [← z];exact hc))];exact hc0 c hc)
   rw [W5 nx]at this;exact this
theorem Wc{k:Nat}{f:Addr}{L:K3}{cl:List (Str×Addr)}{pm ct:Value}{cd:Addr}{N ps:List Str}{A:Around}{outer:List Env}{s:Shared}{H:Hp}{us:List Value}{vs fvs:List V}{Q:VK}{E:XK}
 (S:As N ps L.scope cl) (hb:bindArgs (kla_fn "<lambda>" L.qual L.args L.body L.scope cl pm (.ref cd) ct) ⟨us,[]⟩=pure (ps.zip us)) (hr:B0 (k+1) A) (e0:Ez P w K mg base A outer s H) (r:Ag vs us) (hl:vs.length=ps.length)
 (hf:H f=some (fnO f (J31 L cl pm cd ct))) (hc:H cd=some (Cj cd L.qual)) (hcs:B4 H cl fvs)
 (hbody:∃t,PE (K5 P w K mg base N L.qual L.scope f (.ref cd) A outer s (unk H (cl.map (·.2))) cl (K4 E H (cl.map (·.2)))) L.body t∧t (vs.map some++fvs.map some) (unk H (cl.map (·.2))) fun v H'=>(∀c∈cl.map (·.2),H' c=none)→Q v (L2.retr H' H (cl.map (·.2)))):
 codeAny (model P w) A (.call (.ref f) ⟨us,[]⟩) (CR (CXF P w) outer P w H s Q E) s:=by
 have hf1:s.heap.get? f=some (J31 L cl pm cd ct):=(e0.hok f _ hf).1;have hc1:s.heap.CodeRec (.ref cd) L.qual:=(e0.hok cd _ hc).1;have lim:s.heap.NoLimit:=e0.mod.nolimit.keeps fun b o e=>(e0.bs b o e).1
 have hcm:∀c∈cl.map (·.2),∃o u,H c=some (Az c o)∧o.data= .cell (some u)∧s.heap.get? c=some o:=fun c h=>by
  obtain ⟨p,hp,rfl⟩:=Fw.mp h;obtain ⟨o,u,a,b⟩:=hcs.get p hp;exact ⟨o,u,a,b,(e0.hok _ _ a).1⟩
 have nfs:∀c∈cl.map (·.2),c∉frs outer:=fun c h z=>by
  obtain ⟨o,u,a,_⟩:=hcm c h;rw [e0.frf c z]at a;cases a
 refine kla_callFunE hr.depth hf1 rfl S.co S.gen rfl hc1 ?_;rw [hb];refine Fu (HF S.nocell (fun y hy=>S.par y.1 (HJ hy).1) (fun h₁ hns hsb=>?_) S.kind);have kp:∀b o,s.heap.get? b=some o→h₁.get? b=some o:=fun b o e=>hsb.extBut b o (Ff (Fh e)) (Fb _ e);refine ⟨lim.keeps kp,?_⟩;show codeAny _ _ (.expr L.body (envX L.qual L.scope s.heap.objs.size f (.ref cd) cl)) _ _;obtain ⟨t,ht,hq⟩:=hbody;have noA:∀b:Addr,b∉(K5 P w K mg base N L.qual L.scope f (.ref cd) A outer s (unk H (cl.map (·.2))) cl (K4 E H (cl.map (·.2)))).ex:=fun b z=>absurd (show b∈([]:List Addr) from z) (by simp);have cin:∀x c,cl.lookup x=some c→c∈cl.map (·.2):=fun x c e=>Fw.mpr ⟨(x,c),Ft e,rfl⟩
 have hok1:HOk P w (unk H (cl.map (·.2))) h₁:=fun b o e=>by
  obtain ⟨nb,e⟩:=Iq e;refine (e0.hok b o e).stay (fun c v _ q=>kp c v q) (fun c q=>?_) fun c xs q=>?_
  · rw [Ae fun z=>?_]
    · exact q
    · obtain ⟨o',_,a,_⟩:=hcm c z
      rw [a]at q;cases q
  · rw [Ae fun z=>?_]
    · exact q
    · obtain ⟨o',_,a,_⟩:=hcm c z
      rw [a]at q;cases q
 have I:Inv (K5 P w K mg base N L.qual L.scope f (.ref cd) A outer s (unk H (cl.map (·.2))) cl (K4 E H (cl.map (·.2)))) [] (vs.map some++fvs.map some) (unk H (cl.map (·.2))) {s with heap:=h₁,toks:=s.toks+(ps.zip us).length}:=by
  refine ⟨⟨e0.mod,S.kind,rfl,rfl,Fn _,S.inj,fun y hy=>?_,fun y c h=>(by cases h),fun _=>hr.hd,Around.frames_deeper e0.frames,.inr ⟨rfl,rfl⟩,fun b z=>absurd z (noA b),fun b o e=>⟨(e0.bs b o e).1,Bd (e0.bs b o e).2⟩,e0.bsz,fun b _ _=>noA b,fun b z=>absurd z (noA b),e0.funs,fun b z=>Bd (e0.frf b z)⟩,
   rfl,e0.bare,Un.kept kp,⟨_,hns,fun i x v h1 h2 _=>?_⟩,fun y c h=>?_,Bd (e0.hok.fresh (Fn _)),fun y c h=>Bp (cin y c h),fun p hp=>absurd (show p∈([]:List (Addr×Obj)) from hp) (by simp),hok1,?_⟩
  · have hy:L.scope.names.lookup y=some .cell∨L.scope.names.lookup y=some .free:=hy
    rcases hy with hy | hy
    · exact absurd rfl (S.nocell _ (Ft hy))
    · exact S.fr y hy
  · have h1:N[i]?=some x:=h1
    rw [S.N]at h1
    by_cases hi:i < ps.length
    · rw [Fs hi]at h1
      rw [Fs (by rw [Fa];omega),Fm]at h2
      cases e:vs[i]? with
      | none=>rw [e]at h2;cases h2
      | some a=>
       rw [e]at h2;cases h2;obtain ⟨u,hu,rv⟩:=r.get e;exact ⟨u,rv,.inl ⟨S.par x (Fk h1),Na (S.nd.sublist (List.sublist_append_left ..)) h1 hu⟩⟩
    · rw [Fv (by omega),Fm]at h1
      rw [Fv (by rw [Fa];omega),Fa,Fm,hl]at h2
      cases e:fvs[i - ps.length]? with
      | none=>rw [e]at h2;cases h2
      | some a=>
       rw [e]at h2;cases h2;obtain ⟨p,o,u,hp,a,b,rv⟩:=hcs.ix e;rw [hp]at h1;cases h1;have hm:=Fk hp;refine ⟨u,rv,.inr ⟨.inr (S.frk p hm),p.2,lookup_of_mem_nodup (S.nd.sublist (List.sublist_append_right ..)) hm,o,kp _ _ (e0.hok _ _ a).1,b⟩⟩
  · obtain ⟨o,u,_,b,e⟩:=hcm c (cin y c h)
    exact ⟨some u,o,kp _ _ e,b⟩
  · show _=N.length
    rw [S.N,Fx,Fx,Fa,Fa,Fa,hl];have:=Paired.length hcs;omega
 refine kla_codeExpr (FE (ht [] _ _ _ _ I hq) (fun v s' hq_=>?_) fun e s' z=>FE z (fun _ _ z=>CXF.retr hcm nfs z) fun _ _ z=>CXF.retr hcm nfs z);obtain ⟨x,H',J,rx,q⟩:=hq_;have ub:Un (frs outer) [] (unk H (cl.map (·.2))) H' s.heap s'.heap:=J.base
 have hc0:∀c∈cl.map (·.2),H' c=none:=fun c h=>by
  obtain ⟨o,u,_,_,e⟩:=hcm c h;exact ub.free c o e (Bp h) (by simp)
 exact ⟨x,L2.retr H' H (cl.map (·.2)),J.os,J.bare,Un.retr ub,HOk.retr hcm nfs ub hc0 J.hok,rx,q hc0⟩
theorem Da.ofLamF{k:Nat}{L:K3}{cl:List (Str×Addr)}{fvs:List V}{N ps:List Str}{sp:Sp}{f:Addr}{J:Hp→Prop}(S:As N ps L.scope cl)
 (hb:∀(pm ct cd:Value) (us:List Value),us.length=ps.length→bindArgs (kla_fn "<lambda>" L.qual L.args L.body L.scope cl pm cd ct) ⟨us,[]⟩=pure (ps.zip us)) (len:∀vs H Q E,sp vs H Q E→vs.length=ps.length) (hJ:∀H,J H→Ip L cl H f∧B4 H cl fvs)
 (hbody:∀(cd:Addr) (A:Around) (outer:List Env) (s:Shared) (H:Hp) (vs:List V) (Q:VK) (E:XK),B0 k (A.deeper (envX L.qual L.scope s.heap.objs.size f (.ref cd) cl))→J H→sp vs H Q E→∃t,PE (K5 P w K mg base N L.qual L.scope f (.ref cd) A outer s (unk H (cl.map (·.2))) cl (K4 E H (cl.map (·.2)))) L.body t∧t (vs.map some++fvs.map some) (unk H (cl.map (·.2))) fun v H'=>(∀c∈cl.map (·.2),H' c=none)→Q v (L2.retr H' H (cl.map (·.2)))):
 Da P w K mg base (CXF P w) (k+1) f J sp:=by
 refine ⟨.inr fun H h ok j=>?_,fun A outer s H us vs Q E hr e0 r j h=>?_⟩
 · obtain ⟨⟨pm,cd,ct,a,_⟩,_⟩:=hJ H j
   exact ⟨_,_,_,_,(ok f _ a).1⟩
 · obtain ⟨⟨pm,cd,ct,a,b⟩,c⟩:=hJ H j
   have hl:=len _ _ _ _ h;exact Wc S (hb _ _ _ us (by rw [← r.length];exact hl)) hr e0 r hl a b c (hbody cd A outer s H vs Q E (hr.deeper _) j h)
end
end L2
namespace L2
open PySem.W
structure Nj where
 name:Str
 qual:Str
 args:Arguments
 body:List Stmt
 scope:Scope
abbrev J38(L:Nj)(cl:List (Str×Addr))(doc pm:Value)(cd:Addr)(ct:Value):Obj:=fnMade L.name L.qual L.args L.body L.scope cl doc pm cd ct
def J1a(L:Nj)(cl:List (Str×Addr))(H:Hp)(f:Addr):Prop:=∃pm cd ct doc,H f=some (fnO f (J38 L cl doc pm cd ct))∧H cd=some (Cj cd L.qual)
def J1b(tp:Addr)(pos:Pos)(qual:Str)(i:Nat)(fo:Addr→Value→Value→Obj):TS:=fun D σ H=>Av tp pos qual H∧∀f c ct doc H',H f=none→N1.SameBut tp H H'→Av tp pos qual H'→H' c=some (Cj c qual)→H' f=some (fnO f (fo c ct doc))→D.nx (σ.set i (some (.ref f))) H'
section
variable {X:Cx}
theorem Yt{cl:List (Str×Addr)}{name:Str}{args:Arguments}{body:List Stmt}{scope:Scope}{pos:Pos}{c tp:Addr}{i:Nat}(hd0:args.defaults=[])(hk0:args.kw_defaults=[])(han:annTrees args none X.env=[])(hcl:closureFor scope X.env=pure cl)(hcode:X.env.code= .ref c)(hc:codeHdIn X.K c tp=true)(hne:mainGlobals≠tp)
 (hB:X.base.BuiltinsAt X.mg tp) (hN:X.N.Nodup) (hi:X.N[i]?=some name) (hl:Loc X.env.scope name) (hf:X.fn name=true∨X.env.scope.names.lookup name=some .local:=by first | exact .inl rfl | exact .inr rfl):
 PS X (.FunctionDef name args body [] none [] scope none name pos) (J1b tp pos (qualnameIn X.env name name) i fun c ct doc=>fnMade name (qualnameIn X.env name name) args body scope cl doc ((X.mg "__name__").getD .none) c ct):=by
 intro pins s σ H D I h;obtain ⟨hL,q⟩:=h;have C:CodeHd s.heap c tp:=codeHd_of_K I.kIn hc;have G:s.heap.Ns mainGlobals X.mg:=I.mod.glob.keeps I.bk;have B:s.heap.BuiltinsAt X.mg tp:=hB.keeps I.bk;refine nestDef_K hd0 hk0 han ?_;have fin:∀(f:Addr) (H2:Hp) (s2:Shared),Inv X pins σ H2 s2→D.nx (σ.set i (some (.ref f))) H2→wpAny (model X.prog X.w) X.A (storeName X.env name (.ref f)) (fun _ s''=>SP X pins D .next s'') X.xe s2:=fun f H2 s2 I2 qn=>E9 I2 hN hi hl (v:= .ref f) rfl (fun s3 I3=>⟨_,H2,I3,qn⟩) hf;rcases hL with hE | ⟨c',hE,hc'⟩
 · have hP:s.heap.get? tp=some (tabObj #[]):=I.hok tp _ hE
   have ltt:=Fh hP;refine makeFunction_K hcl I.ok.glob G hcode C hP (by first | trivial | exact .nil | simp [TriplesOk]) rfl hne B fun c' ctv doc h' tk hx hge hlt hrec htab=>?_;have ncf:c'≠h'.objs.size:=Ff hlt;have ltc:tp < c':=Fc ltt hge;have szf:s.heap.objs.size≤h'.objs.size:=FH hge (HM hlt);have ntf:tp≠h'.objs.size:=Ff (R4 ltc hlt);have ntc:tp≠c':=Ff ltc;generalize hF:(fnMade name (qualnameIn X.env name name) args body scope cl doc ((X.mg "__name__").getD .none) c' ctv)=fo
   have I2:Inv X pins σ (upd (upd (upd H tp (.tbl #[rawInt pos.line,rawInt pos.col,.ref c'])) c' (Cj c' (qualnameIn X.env name name))) h'.objs.size (fnO h'.objs.size fo)) {s with heap:=h'.push fo,toks:=tk}:=by
    refine I.grown (more:=#[rawInt pos.line,rawInt pos.col,.ref c']) hE (fun b u nb e=>Fb _ (hx b u nb e)) (Fb _ htab) ?_ (fun b nb lb=>?_) fun b u lb e=>?_
    · rw [A0 ntf,A0 ntc];exact A1
    · rw [A0 (Ff (Fc lb szf)),A0 (Ff (Fc lb hge)),A0 nb]
    · by_cases e1:b=h'.objs.size
      · subst e1
        rw [A1]at e;cases e;exact G6 (Fo _ (by rw [← hF];rfl))
      · rw [A0 e1]at e
        by_cases e2:b=c'
        · subst e2
          rw [A1]at e;cases e;obtain ⟨c2,oc,vs,tq,ec,hoc,r⟩:=hrec;exact Io ⟨c2,oc,vs,tq,ec,Fb _ hoc,r⟩
        · rw [A0 e2,A0 (fun z=>by rw [z]at lb;exact Hg _ (Fc ltt lb)),I.hok.fresh lb]at e
          cases e
   refine fin _ _ _ I2 (q _ c' ctv doc _ (I.hok.fresh szf) (fun b o e nb=>?_) (.inr ⟨c',?_,?_⟩) ?_ (by rw [A1,← hF]))
   · have lb:=(I.hok b o e).lt
     rw [A0 (Ff (Fc lb szf)),A0 (Ff (Fc lb hge)),A0 nb];exact e
   · rw [A0 ntf,A0 ntc];exact A1
   · rw [A0 ncf];exact A1
   · rw [A0 ncf];exact A1
 · have hP:s.heap.get? tp=some (tabObj #[rawInt pos.line,rawInt pos.col,.ref c']):=I.hok tp _ hE
   have ltt:=Fh hP;refine makeFunction_hit (cv:= .ref c') hcl I.ok.glob G hcode C hP (by simp [TriplesOk,rawInt]) (by simp [codeAmong,rawInt]) B fun ctv doc h' tk hk hsz=>?_;generalize hF:({cls:= .type "function",data:= .func (fnX name (qualnameIn X.env name name) args body scope cl .none .none doc ((X.mg "__name__").getD .none) none (.ref c') ctv)}:Obj)=fo;have I2:=I.laid (a:=h'.objs.size) (o:=fnO h'.objs.size fo) (t':=tk) (h':=h'.push fo) (fun b u e=>Fb _ (hk b u e)) hsz (G6 (Fo _ (by rw [← hF];rfl)));have nw:=I.hok.fresh hsz
   have sm:∀b o,H b=some o→upd H h'.objs.size (fnO h'.objs.size fo) b=some o:=fun b o e=>by rw [A0 (A3 e nw)];exact e
   exact fin _ _ _ I2 (q _ c' ctv doc _ nw (fun b o e _=>sm b o e) (.inr ⟨c',sm _ _ hE,sm _ _ hc'⟩) (sm _ _ hc') (by rw [A1,← hF]))
end
theorem Qr{tp:Addr}{pos:Pos}{qual:Str}{i:Nat}{fo:Addr→Value→Value→Obj}{D:Cc}{σ:St}{H:Hp}:J1b tp pos qual i fo D σ H=(Av tp pos qual H∧∀f c ct doc H',H f=none→N1.SameBut tp H H'→Av tp pos qual H'→H' c=some (Cj c qual)→H' f=some (fnO f (fo c ct doc))→D.nx (σ.set i (some (.ref f))) H'):=rfl
section
variable {P:Program} {w:World} {K:PySem.W.Frag} {mg:Str→Option Value} {base:Heap}
theorem Wd{k:Nat}{f:Addr}{L:Nj}{cl:List (Str×Addr)}{pm ct doc:Value}{cd:Addr}{N ps:List Str}{A:Around}{outer:List Env}{s:Shared}{H:Hp}{us:List Value}{vs fvs:List V}{Q:VK}{E:XK}
 (S:As N ps L.scope cl) (hb:bindArgs (fnX L.name L.qual L.args L.body L.scope cl .none .none doc pm none (.ref cd) ct) ⟨us,[]⟩=pure (ps.zip us)) (hr:B0 (k+1) A) (e0:Ez P w K mg base A outer s H) (r:Ag vs us) (hl:vs.length=ps.length)
 (hf:H f=some (fnO f (J38 L cl doc pm cd ct))) (hc:H cd=some (Cj cd L.qual)) (hcs:B4 H cl fvs)
 (hbody:∃t,PSs (K5 P w K mg base N L.qual L.scope f (.ref cd) A outer s (unk H (cl.map (·.2))) cl (K4 E H (cl.map (·.2)))) L.body t∧t {nx:=fun _ H'=>(∀c∈cl.map (·.2),H' c=none)→Q .non (L2.retr H' H (cl.map (·.2))),rt:=fun v H'=>(∀c∈cl.map (·.2),H' c=none)→Q v (L2.retr H' H (cl.map (·.2)))} (vs.map some++fvs.map some) (unk H (cl.map (·.2)))):
 codeAny (model P w) A (.call (.ref f) ⟨us,[]⟩) (CR (CXF P w) outer P w H s Q E) s:=by
 have hf1:s.heap.get? f=some (J38 L cl doc pm cd ct):=(e0.hok f _ hf).1;have hc1:s.heap.CodeRec (.ref cd) L.qual:=(e0.hok cd _ hc).1;have lim:s.heap.NoLimit:=e0.mod.nolimit.keeps fun b o e=>(e0.bs b o e).1
 have hcm:∀c∈cl.map (·.2),∃o u,H c=some (Az c o)∧o.data= .cell (some u)∧s.heap.get? c=some o:=fun c h=>by
  obtain ⟨p,hp,rfl⟩:=Fw.mp h;obtain ⟨o,u,a,b⟩:=hcs.get p hp;exact ⟨o,u,a,b,(e0.hok _ _ a).1⟩
 have nfs:∀c∈cl.map (·.2),c∉frs outer:=fun c h z=>by
  obtain ⟨o,u,a,_⟩:=hcm c h;rw [e0.frf c z]at a;cases a
 refine codeAny_call_function hr.depth hf1 rfl S.co S.gen rfl hc1 ?_;rw [hb];refine Fu (HF S.nocell (fun y hy=>S.par y.1 (HJ hy).1) (fun h₁ hns hsb=>?_) S.kind);have kp:∀b o,s.heap.get? b=some o→h₁.get? b=some o:=fun b o e=>hsb.extBut b o (Ff (Fh e)) (Fb _ e);refine ⟨lim.keeps kp,?_⟩;show codeAny _ _ (.func L.body (envX L.qual L.scope s.heap.objs.size f (.ref cd) cl)) _ _;obtain ⟨t,ht,hq⟩:=hbody;have noA:∀b:Addr,b∉(K5 P w K mg base N L.qual L.scope f (.ref cd) A outer s (unk H (cl.map (·.2))) cl (K4 E H (cl.map (·.2)))).ex:=fun b z=>absurd (show b∈([]:List Addr) from z) (by simp);have cin:∀x c,cl.lookup x=some c→c∈cl.map (·.2):=fun x c e=>Fw.mpr ⟨(x,c),Ft e,rfl⟩
 have hok1:HOk P w (unk H (cl.map (·.2))) h₁:=fun b o e=>by
  obtain ⟨nb,e⟩:=Iq e;refine (e0.hok b o e).stay (fun c v _ q=>kp c v q) (fun c q=>?_) fun c xs q=>?_
  · rw [Ae fun z=>?_]
    · exact q
    · obtain ⟨o',_,a,_⟩:=hcm c z
      rw [a]at q;cases q
  · rw [Ae fun z=>?_]
    · exact q
    · obtain ⟨o',_,a,_⟩:=hcm c z
      rw [a]at q;cases q
 have I:Inv (K5 P w K mg base N L.qual L.scope f (.ref cd) A outer s (unk H (cl.map (·.2))) cl (K4 E H (cl.map (·.2)))) [] (vs.map some++fvs.map some) (unk H (cl.map (·.2))) {s with heap:=h₁,toks:=s.toks+(ps.zip us).length}:=by
  refine ⟨⟨e0.mod,S.kind,rfl,rfl,Fn _,S.inj,fun y hy=>?_,fun y c h=>(by cases h),fun _=>hr.hd,Around.frames_deeper e0.frames,.inr ⟨rfl,rfl⟩,fun b z=>absurd z (noA b),fun b o e=>⟨(e0.bs b o e).1,Bd (e0.bs b o e).2⟩,e0.bsz,fun b _ _=>noA b,fun b z=>absurd z (noA b),e0.funs,fun b z=>Bd (e0.frf b z)⟩,
   rfl,e0.bare,Un.kept kp,⟨_,hns,fun i x v h1 h2 _=>?_⟩,fun y c h=>?_,Bd (e0.hok.fresh (Fn _)),fun y c h=>Bp (cin y c h),fun p hp=>absurd (show p∈([]:List (Addr×Obj)) from hp) (by simp),hok1,?_⟩
  · have hy:L.scope.names.lookup y=some .cell∨L.scope.names.lookup y=some .free:=hy
    rcases hy with hy | hy
    · exact absurd rfl (S.nocell _ (Ft hy))
    · exact S.fr y hy
  · have h1:N[i]?=some x:=h1
    rw [S.N]at h1
    by_cases hi:i < ps.length
    · rw [Fs hi]at h1
      rw [Fs (by rw [Fa];omega),Fm]at h2
      cases e:vs[i]? with
      | none=>rw [e]at h2;cases h2
      | some a=>
       rw [e]at h2;cases h2;obtain ⟨u,hu,rv⟩:=r.get e;exact ⟨u,rv,.inl ⟨S.par x (Fk h1),Na (S.nd.sublist (List.sublist_append_left ..)) h1 hu⟩⟩
    · rw [Fv (by omega),Fm]at h1
      rw [Fv (by rw [Fa];omega),Fa,Fm,hl]at h2
      cases e:fvs[i - ps.length]? with
      | none=>rw [e]at h2;cases h2
      | some a=>
       rw [e]at h2;cases h2;obtain ⟨p,o,u,hp,a,b,rv⟩:=hcs.ix e;rw [hp]at h1;cases h1;have hm:=Fk hp;refine ⟨u,rv,.inr ⟨.inr (S.frk p hm),p.2,lookup_of_mem_nodup (S.nd.sublist (List.sublist_append_right ..)) hm,o,kp _ _ (e0.hok _ _ a).1,b⟩⟩
  · obtain ⟨o,u,_,b,e⟩:=hcm c (cin y c h)
    exact ⟨some u,o,kp _ _ e,b⟩
  · show _=N.length
    rw [S.N,Fx,Fx,Fa,Fa,Fa,hl];have:=Paired.length hcs;omega
 refine codeAny_func (FE (ht [] _ _ _ _ I hq) (fun fl s' hs=>?_) fun e s' z=>FE z (fun _ _ z=>CXF.retr hcm nfs z) fun _ _ z=>CXF.retr hcm nfs z)
 have fin:∀{σ':St} {H':Hp} {v:V} {u:Value},Inv (K5 P w K mg base N L.qual L.scope f (.ref cd) A outer s (unk H (cl.map (·.2))) cl (K4 E H (cl.map (·.2)))) [] σ' H' s'→Ab v u→((∀c∈cl.map (·.2),H' c=none)→Q v (L2.retr H' H (cl.map (·.2))))→CE outer P w H s Q u s':=fun {σ' H' v u} J rv q=>by
  have ub:Un (frs outer) [] (unk H (cl.map (·.2))) H' s.heap s'.heap:=J.base
  have hc0:∀c∈cl.map (·.2),H' c=none:=fun c h=>by
   obtain ⟨o,u,_,_,e⟩:=hcm c h;exact ub.free c o e (Bp h) (by simp)
  exact ⟨v,L2.retr H' H (cl.map (·.2)),J.os,J.bare,Un.retr ub,HOk.retr hcm nfs ub hc0 J.hok,rv,q hc0⟩
 cases fl with
 | ret u=>
  obtain ⟨v,σ',H',J,rv,q⟩:=hs;exact fin J rv q
 | next=>
  obtain ⟨σ',H',J,q⟩:=hs;exact fin (v:=V.non) (u:=Value.none) J rfl q
 | brk=>
  obtain ⟨_,_,_,q⟩:=hs;exact False.elim q
 | cont=>
  obtain ⟨_,_,_,q⟩:=hs;exact False.elim q
theorem Da.ofDefF{k:Nat}{L:Nj}{cl:List (Str×Addr)}{fvs:List V}{N ps:List Str}{sp:Sp}{f:Addr}{J:Hp→Prop}(S:As N ps L.scope cl)
 (hb:∀(pm ct cd doc:Value) (us:List Value),us.length=ps.length→bindArgs (fnX L.name L.qual L.args L.body L.scope cl .none .none doc pm none cd ct) ⟨us,[]⟩=pure (ps.zip us)) (len:∀vs H Q E,sp vs H Q E→vs.length=ps.length) (hJ:∀H,J H→J1a L cl H f∧B4 H cl fvs)
 (hbody:∀(cd:Addr) (A:Around) (outer:List Env) (s:Shared) (H:Hp) (vs:List V) (Q:VK) (E:XK),B0 k (A.deeper (envX L.qual L.scope s.heap.objs.size f (.ref cd) cl))→J H→sp vs H Q E→∃t,PSs (K5 P w K mg base N L.qual L.scope f (.ref cd) A outer s (unk H (cl.map (·.2))) cl (K4 E H (cl.map (·.2)))) L.body t∧t {nx:=fun _ H'=>(∀c∈cl.map (·.2),H' c=none)→Q .non (L2.retr H' H (cl.map (·.2))),rt:=fun v H'=>(∀c∈cl.map (·.2),H' c=none)→Q v (L2.retr H' H (cl.map (·.2)))} (vs.map some++fvs.map some) (unk H (cl.map (·.2)))):
 Da P w K mg base (CXF P w) (k+1) f J sp:=by
 refine ⟨.inr fun H h ok j=>?_,fun A outer s H us vs Q E hr e0 r j h=>?_⟩
 · obtain ⟨⟨pm,cd,ct,doc,a,_⟩,_⟩:=hJ H j
   exact ⟨_,_,_,_,(ok f _ a).1⟩
 · obtain ⟨⟨pm,cd,ct,doc,a,b⟩,c⟩:=hJ H j
   have hl:=len _ _ _ _ h;exact Wd S (hb _ _ _ _ us (by rw [← r.length];exact hl)) hr e0 r hl a b c (hbody cd A outer s H vs Q E (hr.deeper _) j h)
end
end L2
namespace L2
theorem Qs{o i v:V}{H:Hp}{Q:Hp→Prop}:J0n o i v H Q=∃p xs k j,o= .ref p∧i= .int k∧H p=some (.lst xs)∧ixN xs.length k=some j∧Q (upd H p (.lst (xs.set j v))):=rfl
end L2
namespace N5
open L2 N1
def md(j:Nat):Int:=if j=0 then 26 else 36
def sgn(F:Nat→Int)(at':Int)(k j:Nat):Nat:=bc ((F j+if (j:Int)=at' then (k:Int) else 0) % md j)
def nmL(F:Nat→Int)(at':Int)(long k:Nat):List Nat:=(List.range long).map (sgn F at' k)
theorem We{i:Int}:bc (i % 26)∈Aj:=by
 have h1:=FT i (show (26:Int)≠0 by decide);have h2:=FO i (show (0:Int) < 26 by decide);unfold bc;generalize i % 26=x at *
 have h3:x.toNat < Aj.length:=by simp [Aj];omega
 rw [Fg,Fs h3,Fe h3];exact HE h3
theorem Qt{i:Int}:bc (i % 36)∈Aj++B9:=by
 have h1:=FT i (show (36:Int)≠0 by decide);have h2:=FO i (show (0:Int) < 36 by decide);unfold bc;generalize i % 36=x at *
 have h3:x.toNat < (Aj++B9).length:=by rw [Mz];omega
 rw [Fg,Fe h3];exact HE h3
theorem Os{x y:Int}(hx0:0≤x)(hx:x < 36)(hy0:0≤y)(hy:y < 36)(h:bc x=bc y):x=y:=by
 have key:∀a:Fin 36,∀b:Fin 36,(Aj++B9).getD a.val 0=(Aj++B9).getD b.val 0→a=b:=by decide+kernel
 have:=key ⟨x.toNat,by omega⟩ ⟨y.toNat,by omega⟩ h;have:=congrArg Fin.val this;simp at this;omega
theorem Nk{F:Nat→Int}{at':Int}{long k:Nat}(h1:1≤long)(h2:long≤8):B6 (nmL F at' long k)=true:=by
 obtain ⟨n,rfl⟩:∃n,long=n+1:=⟨long - 1,by omega⟩
 have hall:∀c∈nmL F at' (n+1) k,c∈Aj++B9:=by
  intro c hc;obtain ⟨j,_,rfl⟩:=Fw.mp hc
  have hm:md j=26∨md j=36:=by unfold md;split <;> simp
  unfold sgn
  rcases hm with hm | hm <;> rw [hm]
  · exact Hq _ We
  · exact Qt
 have hl:(nmL F at' (n+1) k).length=n+1:=by simp [nmL]
 have hh:Vr (nmL F at' (n+1) k) Aj=true:=by
  unfold nmL;rw [List.range_succ_eq_map,List.map_cons];show decide (sgn F at' k 0∈Aj)=true;rw [decide_eq_true_eq];unfold sgn md;rw [if_pos rfl];exact We
 unfold B6;rw [hl,hh,Fy h1,Fy h2];simp only [Bool.true_and];exact FV.mpr fun c hc=>Fy (hall c hc)
theorem ne1:Str.ofString "no name"≠Str.ofString "nothing":=by decide+kernel
theorem SqT.butL{K:PySem.W.Frag}{H H':Hp}{p a:Addr}{zs:List V}{xs:List V}(s:SameBut p H H')(hp:H p=some (.lst zs))(h:SqT K H a xs):SqT K H' a xs:=by
 rcases h with (h | ⟨o,h⟩) | h
 · exact .inl (.inl (s _ _ h (Ce h hp (by intro z;cases z))))
 · exact .inl (.inr ⟨o,s _ _ h (Ce h hp (by intro z;cases z))⟩)
 · exact .inr h
theorem Ss{H H':Hp}{x dx C:Addr}(hx:H x=none)(hd:H dx=none)(s:SameBut x (upd (upd H dx (.own x)) x (.ins C dx [])) H'):A7 H H':=fun b o e=>by
 have n1:=A3 e hx;have n2:=A3 e hd;exact s b o (by rw [A0 n1,A0 n2];exact e) n1
theorem Wg{z:Str}(h:B6 z.cps.toList=true):z.length≤8:=by
 unfold B6 at h;simp only [R1,decide_eq_true_eq]at h;have:=h.1.1.2;rw [Dw]at this;exact this
end N5
namespace L2
open N1 N5
theorem Wh{x:V}(h:C9 x=true):eqV x x=true:=by
 cases x with
 | non=>rfl
 | bl b=>cases b <;> rfl
 | int i=>exact HD i
 | str z=>rw [Q9];simp
 | _=>cases h
end L2
namespace L2
abbrev g3(K:PySem.W.Frag):Blk→TG:=fun _=>Xn K 3 (Gy (B5 0) (Gy (B5 1) (Gy (B5 2) Xm)))
abbrev Wi(K:PySem.W.Frag)(wi:TI)(fs:List Nat)(te:Blk→TE):TE:=Ii wi 3 fs (g3 K) (fun _=>E6) te
section
variable {X:Cx} {scope:Scope} {x y z:Str} {px py pz pt:Pos} {n:Nat} {fs:List Nat} {elt iter:Expr} {pos:Pos} {wi:TI} {te:Blk→TE}
theorem Qu(hc:X.calm=true)(hok:B8 X.N X.env.scope scope [x,y,z] fs=true)(b:Blk):PG (X.blk scope ([x,y,z]++around X.N fs) b) (.Tuple [.Name x px,.Name y py,.Name z pz] n pt) (g3 X.K b):=by
 have O:=Bj hok
 refine L7 (X:=X.blk scope ([x,y,z]++around X.N fs) b) hc (Bg (B1 O.nd rfl (.inl (FI (O.own x (by simp)))) (.inr (FI (O.own x (by simp))))) (Bg (B1 O.nd rfl (.inl (FI (O.own y (by simp)))) (.inr (FI (O.own y (by simp)))))
  (Bg (B1 O.nd rfl (.inl (FI (O.own z (by simp)))) (.inr (FI (O.own z (by simp))))) Gh)))
end
section
variable {K:PySem.W.Frag} {tail:St} {te:Blk→TE} {Q:VK} {H1:Hp} {σ:St} {H:Hp}
theorem Nl{wi:TI}{fs:List Nat}:Wi K wi fs te σ H Q=wi σ H (Ar (none::none::none::fs.map fun j=>σ.getD j none) (g3 K) (fun _=>E6) te Q):=rfl
theorem J1c{x y z:Option V}{r:St}:Y7 (none::none::none::r) (x::y::z::r):=fun i v e=>by
 match i with
 | 0=>cases e
 | 1=>cases e
 | 2=>cases e
 | i+3=>exact e
end
end L2
namespace L2
theorem Inv.turned2{X:Cx}{pins:List (Addr×Obj)}{σ:St}{H:Hp}{s:Shared}{h':Heap}{t':Nat}{fp:List Addr}(I:Inv X pins σ H s)(k:∀b o,b∉fp→s.heap.get? b=some o→h'.get? b=some o)(hf:∀it∈fp,Dc X pins H it):
 Inv X pins σ H {s with heap:=h',toks:=t'}:=by
 have nit:∀b u,H b=some u→b∉fp:=fun b u e z=>by rw [(hf b z).1]at e;cases e
 refine I.step (g':=s.gens) (d':=s.drawn) (ch:=fp) (fun b hb=>?_) (fun b o _ _ hc e _=>k b o hc e) (fun b o _ _ hc e _=>⟨o.slots,k b o hc e⟩) (fun _ _ _ _ n=>n)
  (fun b o hc e=>⟨o,k b o hc e⟩) (fun _ _ e=>e) (fun _ _ _ e=>e) (fun b ps e=>⟨#[],by rw [e];simp⟩) (fun m hm=>?_) (fun b u e=>?_) I.bare
 · obtain ⟨_,h1,_,h2,h3,h4⟩:=hf b hb
   exact ⟨h2,h1,h3,h4⟩
 · obtain ⟨o,es,ep,ho,r⟩:=hm
   exact ⟨o,es,ep,k _ o (fun z=>(hf _ z).2.1 rfl) ho,r⟩
 · refine (I.hok b u e).stay (fun c v hc q=>k c v ?_ q) (fun _ q=>q) fun _ _ q=>q
   rcases hc with z | z
   · rw [z];exact nit b u e
   · exact nit c _ z
end L2
namespace L2
abbrev Gq(wi:TI)(fs:List Nat)(tt:Blk→TT)(te:Blk→TE):TE:=Ii wi 1 fs (fun _=>B5 0) tt te
abbrev g2(K:PySem.W.Frag):Blk→TG:=fun _=>Xn K 2 (Gy (B5 0) (Gy (B5 1) Xm))
abbrev Wj(K:PySem.W.Frag)(wi:TI)(fs:List Nat)(tt:Blk→TT)(te:Blk→TE):TE:=Ii wi 2 fs (g2 K) tt te
section
variable {X:Cx} {scope:Scope} {x y:Str} {px py pt:Pos} {n:Nat} {fs:List Nat} {elt iter c:Expr} {pos:Pos} {wi:TI} {tt:Blk→TT} {te:Blk→TE}
theorem Wk(x:Str)(fs:List Nat)(hc:X.calm=true)(hok:B8 X.N X.env.scope scope [x] fs=true)(hi:PI X (.Name x px) iter wi)(ht:∀b,PT (X.blk scope ([x]++around X.N fs) b) c (tt b))(he:∀b,PE (X.blk scope ([x]++around X.N fs) b) elt (te b))
 (hs:∀x,foldedSetIterable iter X.env x=pure x:=by intro _;rfl):PE X (.ListComp elt [⟨.Name x px,iter,[c],0⟩] scope pos) (Gq wi fs tt te):=
 Ij (xs:=[x]) (g:=fun _=>B5 0) (tt:=tt) hc hok hi (Ln hok) (fun b=>Gm (ht b)) he hs
theorem Yu(hc:X.calm=true)(hok:B8 X.N X.env.scope scope [x,y] fs=true)(b:Blk):PG (X.blk scope ([x,y]++around X.N fs) b) (.Tuple [.Name x px,.Name y py] n pt) (g2 X.K b):=by
 have O:=Bj hok
 refine L7 (X:=X.blk scope ([x,y]++around X.N fs) b) hc (Bg (B1 O.nd rfl (.inl (FI (O.own x (by simp)))) (.inr (FI (O.own x (by simp)))))
  (Bg (B1 O.nd rfl (.inl (FI (O.own y (by simp)))) (.inr (FI (O.own y (by simp))))) Gh))
theorem Wl(x y:Str)(fs:List Nat)(hc:X.calm=true)(hok:B8 X.N X.env.scope scope [x,y] fs=true)(hi:PI X (.Tuple [.Name x px,.Name y py] n pt) iter wi)(he:∀b,PE (X.blk scope ([x,y]++around X.N fs) b) elt (te b))
 (hs:∀x,foldedSetIterable iter X.env x=pure x:=by intro _;rfl):PE X (.ListComp elt [⟨.Tuple [.Name x px,.Name y py] n pt,iter,[],0⟩] scope pos) (Wj X.K wi fs (fun _=>E6) te):=
 Ij (xs:=[x,y]) (g:=g2 X.K) (tt:=fun _=>E6) hc hok hi (Yu hc hok) (fun _=>Ll) he hs
end
section
variable {K:PySem.W.Frag} {tail:St} {tt:Blk→TT} {te:Blk→TE} {Q:VK} {H1:Hp} {σ:St} {H:Hp}
theorem Nm{wi:TI}{fs:List Nat}:Gq wi fs tt te σ H Q=wi σ H (Ar (none::fs.map fun j=>σ.getD j none) (fun _=>B5 0) tt te Q):=rfl
theorem Np{wi:TI}{fs:List Nat}:Wj K wi fs tt te σ H Q=wi σ H (Ar (none::none::fs.map fun j=>σ.getD j none) (g2 K) tt te Q):=rfl
theorem J54{x y:Option V}{r:St}:Y7 (none::none::r) (x::y::r):=fun i v e=>by
 match i with
 | 0=>cases e
 | 1=>cases e
 | i+2=>exact e
theorem Nq{H H':Hp}{p:Addr}{o:HO}(s:A7 H H')(h:H p=none):A7 H (upd H' p o):=fun b u e=>by
 rw [A0 (A3 e h)];exact s b u e
theorem Iy{a:Addr}{xs:List V}(p:V→Bool)(f:V→V)(hS:SqL K H1 a xs)(hz:xs.length≤sizeLine)(ht:∀b x H QT,x∈xs→A7 H1 H→(∀H',A7 H H'→QT (p x) H')→tt b (some x::tail) H QT)
 (he:∀b x H Q',x∈xs→p x=true→A7 H1 H→(∀H',A7 H H'→Q' (f x) H')→te b (some x::tail) H Q')
 (q:∀D H',H1 D=none→A7 H1 H'→H' D=some (.lst ((xs.filter p).map f))→Q (.ref D) H'):Ar (none::tail) (fun _=>B5 0) tt te Q (Itl K a) H1:=by
 intro b D hD;refine ⟨fun i m ys H=>m=xs.length - i∧i≤xs.length∧ys=((xs.take i).filter p).map f∧H D=some (.lst ys)∧A7 H1 H,⟨_,rfl,FY _,rfl,A1,Bm hD⟩,?_⟩;rintro i m ys H ⟨rfl,hi,rfl,hd,sm⟩;refine ⟨hd,?_⟩
 by_cases hlt:i < xs.length
 · refine .inr ⟨⟨xs,xs[i],sm.seq hS,by simp [hlt]⟩,fun x H3 ⟨e3,ex⟩=>⟨V6,?_⟩⟩
   subst e3;have hx:=ex xs (sm.seq hS);have hm:=Fk hx
   have hl:(((xs.take i).filter p).map f).length≤i:=by
    rw [Fa];exact FH (Hl _ _) (by rw [FC];omega)
   refine ht b x _ _ hm sm fun H7 s7=>?_
   have htk:(xs.take (i+1)).filter p=(xs.take i).filter p++[x].filter p:=by rw [FW,hx,Hj];rfl
   by_cases hp:p x=true
   · rw [if_pos hp]
     refine he b x H7 _ hm hp (sm.trans s7) fun H8 s8=>?_;have hd8:=(s7.trans s8) _ _ hd;refine ⟨hd8,by omega,xs.length - (i+1),by omega,rfl,hlt,?_,A1,Nq ((sm.trans s7).trans s8) hD⟩;rw [htk,Hi hp,Hu,FK];rfl
   · rw [if_neg hp]
     refine ⟨xs.length - (i+1),by omega,rfl,hlt,?_,s7 _ _ hd,sm.trans s7⟩;rw [htk,R0 hp,Hu,FF]
 · have e:i=xs.length:=by omega
   subst e;refine .inl ⟨⟨xs,sm.seq hS,Fn _⟩,q D H hD sm ?_⟩;rw [hd,Hs]
end
end L2
namespace L2
section
variable {X:Cx} {scope:Scope} {x y v:Str} {px py pt pv':Pos} {n i:Nat} {fs:List Nat} {elt iter c:Expr} {pos spos:Pos} {wi:TI} {tt:Blk→TT} {te:Blk→TE}
theorem Wm(x:Str)(fs:List Nat)(hN:X.N.Nodup)(hy:X.N[i]?=some v)(hyl:X.env.kindOf v=some .local)(hc:X.calm=true)(hok:B8 X.N X.env.scope scope [x] fs=true)(hi:PI X (.Name x px) iter wi)(ht:∀b,PT (X.blk scope ([x]++around X.N fs) b) c (tt b))(he:∀b,PE (X.blk scope ([x]++around X.N fs) b) elt (te b))
 (hsw:swapsWith (.ListComp elt [⟨.Name x px,iter,[c],0⟩] scope pos) (some (.Name v pv')) spos.line X.env=pure true:=by rfl)
 (hs:∀x,foldedSetIterable iter X.env x=pure x:=by intro _;rfl):PS X (.Assign [.Name v pv'] (.ListComp elt [⟨.Name x px,iter,[c],0⟩] scope pos) spos) (O8 (Gq wi fs tt te) (B5 i)):=
 Lm (xs:=[x]) (g:=fun _=>B5 0) (tt:=tt) hN hy hyl hc hok hi (Ln hok) (fun b=>Gm (ht b)) he hsw hs
end
end L2
namespace L2
section
variable {M:Model} {A:Around} {E:Value→Shared→Prop} {s:Shared} {base:Heap} {env:Env} {outer l:List Env} {L x C:Addr} {od:Option Addr} {a0 fl:Value}
theorem Su{Q:Unit→Shared→Prop}(hfr:A.frames=some (env::outer))(hf:env.frame=some L)(st:base.StaysIn s.heap)(bx:base.get? x=none)(ff:s.heap.FunFrames base (env::outer))(tr:s.heap.TracedAtW base x (.ref C) a0 fl)(ly:D1 s.heap x C od)
 (hQ:∀h',base.StaysIn h'→h'.FunFrames base (env::outer)→h'.TracedAtW base x (.ref C) a0 (rawInt L)→s.heap.UpToSlots h'→D1 h' x C od→Q () {s with heap:=h'}):wpAny M A (noteFrame (.ref x) env) Q E s:=by
 by_cases z:fl=rawInt L
 · subst z
   exact wpAny_noteFrame_againW hf tr (hQ s.heap st ff tr (Heap.UpToSlots.refl _) ly)
 · obtain ⟨oe,vs,T,oT,ts,he,⟨hcl,h0⟩,hd,h1,hnT,hTe,hT,hdT,h3⟩:=tr
   obtain ⟨v2,s2,l1⟩:=ly;rw [l1]at he;cases he;cases hd;have off:∀b,b≠T→(s.heap.update T (Obj.mapFields (·.setIfInBounds 3 Value.none))).get? b=s.heap.get? b:=fun b hb=>FQ _ _ (Ne.symm hb);have other:∀b o,s.heap.get? b=some o→(∀vs,o.data≠ .fields vs)→b≠T:=fun b o hb nf q=>nf ts (by rw [q,hT]at hb;cases hb;exact hdT);unfold noteFrame;simp only [hf];refine Fd (Hx l1 rfl h1 ?_);rw [if_pos (by simp)];refine Fd (Hx hT hdT h3 ?_);rw [if_neg (by simpa using z)];refine Fd (HN hT hdT (FN.mp h3).1 ?_);refine Oo hfr (ff.of_keeps fun b o hb nf=>⟨o,(off b (other b o hb nf)).trans hb,rfl⟩) hf ((off x hTe.symm).trans l1) (fun b o hb=>(off b fun q=>by rw [q,hnT]at hb;cases hb).trans (st b o hb)) bx (FN.mp h1).1 h0 fun h' N ly'=>?_;exact hQ h' N.1 N.2.1 N.2.2.1 (fun b o hb nf=>N.2.2.2 b o ((off b (other b o hb nf)).trans hb) nf) ly'
theorem Nr{Q:Unit→Shared→Prop}(hfr:A.frames=some (env::outer))(hf:env.frame=some L)(st:base.StaysIn s.heap)(bx:base.get? x=none)(ff:s.heap.FunFrames base (env::outer))(tr:s.heap.TracedAtW base x (.ref C) a0 fl)(ly:D1 s.heap x C od)
 (hQ:∀h',W2 base outer x C od a0 h'→s.heap.UpToSlots h'→Q () {s with heap:=h'}):wpAny M A (leaving env (.ref x)) Q E s:=by
 unfold leaving;refine Fd (Su hfr hf st bx ff tr ly fun h' st' ff' tr' up ly'=>landD (s:={s with heap:=h'}) st' ff' tr' ly' fun h2 b2 g2 t2 u2 l2=>?_);obtain ⟨_,_,g3⟩:=g2;exact hQ h2 ⟨⟨b2,bx,g3,t2⟩,l2⟩ (Heap.UpToSlots.trans up u2)
theorem Sv{α:Type}{Q:α→Shared→Prop}{what:String}{cenv:Env}(st:base.StaysIn s.heap)(ff:s.heap.FunFrames base l)(tr:s.heap.TracedAtW base x (.ref C) a0 fl)(ly:D1 s.heap x C od)
 (hE:∀h' fl',base.StaysIn h'→h'.FunFrames base l→h'.TracedAtW base x (.ref C) a0 fl'→s.heap.UpToSlots h'→D1 h' x C od→E (.ref x) {s with heap:=h'}):wpAny M A (PySem.passOn what (.ref x) cenv:Sem α) Q E s:=by
 obtain ⟨oe,vs,T,oT,ts,he,hc,hd,h1,hnT,hTe,hT,hdT,h3⟩:=tr;obtain ⟨v2,s2,l1⟩:=ly;have hs3:=(FN.mp h3).1;unfold PySem.passOn setFlight;refine Fd (Hx he hd h1 ?_);rw [if_neg (by simp)];refine Fd (Fd (Hx he hd h1 ?_));rw [if_pos (by simp)];refine HN hT hdT hs3 ?_;have off:∀b,b≠T→(s.heap.update T (Obj.mapFields (·.setIfInBounds 3 (cenv.frame.elim Value.none fun f=>rawInt f)))).get? b=s.heap.get? b:=fun b hb=>FQ _ _ (Ne.symm hb);have other:∀b o,s.heap.get? b=some o→(∀vs,o.data≠ .fields vs)→b≠T:=fun b o hb nf q=>nf ts (by rw [q,hT]at hb;cases hb;exact hdT);refine wpAny_throw (hE _ (cenv.frame.elim Value.none fun f=>rawInt f) (fun b o hb=>(off b fun q=>by rw [q,hnT]at hb;cases hb).trans (st b o hb)) (ff.of_keeps fun b o hb nf=>⟨o,(off b (other b o hb nf)).trans hb,rfl⟩) ?_ (fun b o hb nf=>⟨o.slots,(off b (other b o hb nf)).trans hb⟩) ⟨v2,s2,(off x hTe.symm).trans l1⟩)
 exact ⟨oe,vs,T,_,_,(off x hTe.symm).trans he,hc,hd,h1,hnT,hTe,Hm _ hT (Obj.isFreed_of_fields (Obj.data_mapFields hdT _)),Obj.data_mapFields hdT _,by simp [hs3]⟩
end
def Wn(X:Cx)(E:XK):Prop:=∀(pins:List (Addr×Obj)) (σ:St) (H1 H2:Hp) (s1 s2:Shared) (x C:Addr) (od:Option Addr) (a0 fl:Value) (B:Heap),Inv X pins σ H1 s1→s2.os=s1.os→AllBare s2.gens→Un (frs X.stack) [] H1 H2 s1.heap s2.heap→HOk X.prog X.w H2 s2.heap→
 B.StaysIn s2.heap→B.get? x=none→s2.heap.FunFrames B X.stack→s2.heap.TracedAtW B x (.ref C) a0 fl→D1 s2.heap x C od→Cv (frs X.stack) H2 s1.heap s2.heap B→H2 x=none→s1.heap.get? x=none→E (.ref C) (some x) (upd H2 x (exO false x C od))→X.xe (.ref x) s2
theorem J39{P:Program}{w:World}{K:PySem.W.Frag}{mg:Str→Option Value}{base:Heap}{N:List Str}{qual:Str}{scope:Scope}{f:Addr}{cd:Value}{A:Around}{outer:List Env}{s:Shared}{H:Hp}{E:XK}:Wn (Dg (CXF P w) P w K mg base N qual scope f cd A outer s H E) E:=by
 intro pins σ H1 H2 s1 s2 x C od a0 fl B I os bare u ok st bx ff tr ly hB hx hnew q;refine Nr (base:=B) I.ok.frames rfl st bx ff tr ly fun h3 fl3 up=>?_;obtain ⟨U,ok3,hB3⟩:=Ie I rfl u ok hB fl3.1.1 up;refine ⟨x,C,od,a0,H2,B,rfl,os.trans I.os,bare,U,ok3,fl3,hB3,hx,?_,q⟩
 cases z:s.heap.get? x with
 | none=>rfl
 | some v=>
  obtain ⟨o1,e1⟩:=I.base.there x v z (by intro c;exact absurd (show x∈([]:List Addr) from c) (by simp));rw [hnew]at e1;cases e1
theorem Nt{X:Cx}{E:XK}{pins pl:List (Addr×Obj)}{σ σ1:St}{H H1:Hp}{s s1 s2:Shared}{C:Addr}{fp:List Addr}{scope:Scope}{N':List Str}{cl:List (Str×Addr)}{e acc:Value}{Q:Value→Shared→Prop}(hO:Wn X E)(hst:X.stack=X.env::X.outer){L:Addr}(hL:X.env.frame=some L)
 (I:Inv X pins σ H s) (hf:∀b∈fp,Dc X pins H b) (hC:s.heap.objs.size≤C) (J:Inv (X.blk scope N' ⟨s,H,C,fp⟩) pl σ1 H1 s1) (hc:CXF X.prog X.w X.stack H1 s1 E e s2):
 notedBy (model X.prog X.w) X.A (compEnvC scope cl C X.env) (fun e s'=>compPost (model X.prog X.w) X.A X.xe none Q acc C (.error e) s') e s2:=by
 obtain ⟨x,C',od,a0,H2,B,rfl,os,bare,u,ok,⟨fl,ly⟩,hB,hx,hn,q⟩:=hc;unfold notedBy;rw [Yr (env:=X.env) (env':=compEnvC scope cl C X.env) rfl]
 have fr:X.A.frames=some (X.env::X.outer):=by rw [← hst];exact I.ok.frames
 rw [hst]at fl;obtain ⟨f1,bx,f3,f4⟩:=fl;refine W1 fr f3 hL f4 f1 bx ly fun h3 N3 ly3=>?_;obtain ⟨st3,ff3,tr3,up3⟩:=N3;rw [← hst]at ff3;obtain ⟨U3,ok3,hB3⟩:=Eh u ok J.frm J.stkFree hB st3 up3;obtain ⟨m1,⟨oC,es,ep,hoC,hdC,rC⟩,_⟩:=J.loc;have hoC:s1.heap.get? C=some oC:=hoC;have fC:H1 C=none:=J.free
 have nC:C∉frs X.stack:=fun hb=>by
  obtain ⟨o,ho,_⟩:=I.frm C hb;exact absurd (Fh ho) (Nat.not_lt.mpr hC)
 have e3:h3.get? C=some oC:=U3.keep C oC hoC fC nC (by simp);have fC2:H2 C=none:=U3.free C oC hoC fC (by simp);have bC:B.get? C=some oC:=hB3 C oC e3 nC (.inr ⟨oC,hoC⟩);refine ⟨m1,⟨oC,es,ep,e3,hdC,rC⟩,fun h4 sb4 cenv _=>?_⟩
 have hid:∀{h:Heap} {b:Addr} {o:Obj},(PySem.W.hideAll h [C]).get? b=some o→b≠C:=fun {h b o} e z=>by
  rw [z,Rb [C] (by simp)]at e;cases e
 have sb1:Heap.SameBut C s1.heap (PySem.W.hideAll s1.heap [C]):=⟨PySem.W.hideAll_size _ _,fun b hb=>by
  cases z:s1.heap.get? b with
  | some o=>exact HL _ z (by simpa using hb)
  | none=>
   cases z2:(PySem.W.hideAll s1.heap [C]).get? b with
   | none=>rfl
   | some o=>rw [FJ _ z2]at z;cases z⟩
 have I1:=Lk I hf hC J sb1
 have u4:Un (frs X.stack) [] H1 H2 (PySem.W.hideAll s1.heap [C]) h4:=by
  refine ⟨fun b o e n hb hx=>?_,fun b o e n hb hx=>?_,fun b o e n hx=>U3.free b o (FJ _ e) n hx,fun b o e hx=>?_,U3.tups,U3.frzs,U3.tbls⟩
  · rw [sb4.2 b (hid e)];exact U3.keep b o (FJ _ e) n hb hx
  · obtain ⟨sl,z⟩:=U3.slot b o (FJ _ e) n hb hx
    exact ⟨sl,by rw [sb4.2 b (hid e)];exact z⟩
  · obtain ⟨o',z⟩:=U3.there b o (FJ _ e) hx
    exact ⟨o',by rw [sb4.2 b (hid e)];exact z⟩
 have ok4:HOk X.prog X.w H2 h4:=fun a o e=>by
  refine (ok3 a o e).stay (fun b v hc q=>(sb4.2 b ?_).trans q) (fun _ q=>q) fun _ _ q=>q;rcases hc with rfl | hc
  · exact A3 e fC2
  · exact A3 hc fC2
 have hB4:Cv (frs X.stack) H2 (PySem.W.hideAll s1.heap [C]) h4 (PySem.W.hideAll B [C]):=fun b o e hb c=>by
  have hbC:b≠C:=by
   rcases c with c | ⟨v,c⟩
   · exact fun z=>c (by rw [z];exact fC2)
   · exact hid c
  rw [sb4.2 b hbC]at e;refine HL _ (hB3 b o e hb ?_) (by simpa using hbC)
  exact c.imp id fun ⟨v,c⟩=>⟨v,FJ _ c⟩
 have st4:(PySem.W.hideAll B [C]).StaysIn h4:=fun b o e=>by rw [sb4.2 b (hid e)];exact st3 b o (FJ _ e)
 have bx4:(PySem.W.hideAll B [C]).get? x=none:=by
  cases z:(PySem.W.hideAll B [C]).get? x with
  | none=>rfl
  | some v=>have:=FJ _ z;rw [bx]at this;cases this
 have ff4:h4.FunFrames (PySem.W.hideAll B [C]) X.stack:=Iv (fun b hb=>sb4.2 b fun z=>nC (z▸hb)) (fun b o e=>FJ _ e) ff3
 have tr4:h4.TracedAtW (PySem.W.hideAll B [C]) x (.ref C') a0 (rawInt L):=by
  obtain ⟨oe,vs,T,oT,ts,t1,t2,t3,t4,t5,t6,t7,t8,t9⟩:=tr3
  have xC:x≠C:=fun z=>by rw [z,hoC]at hn;cases hn
  have TC:T≠C:=fun z=>by rw [z,bC]at t5;cases t5
  refine ⟨oe,vs,T,oT,ts,by rw [sb4.2 x xC];exact t1,t2,t3,t4,?_,t6,by rw [sb4.2 T TC];exact t7,t8,t9⟩
  cases z:(PySem.W.hideAll B [C]).get? T with
  | none=>rfl
  | some v=>have:=FJ _ z;rw [t5]at this;cases this
 have ly4:D1 h4 x C' od:=by
  have xC:x≠C:=fun z=>by rw [z,hoC]at hn;cases hn
  obtain ⟨vs,sl,e⟩:=ly3;exact ⟨vs,sl,by rw [sb4.2 x xC];exact e⟩
 refine Sv (s:={s2 with heap:=h4}) st4 ff4 tr4 ly4 fun h5 fl5 st5 ff5 tr5 up5 ly5=>?_;obtain ⟨u5,ok5,hB5⟩:=Eh (h:=h4) u4 ok4 I1.frm I1.stkFree hB4 st5 up5;refine hO pins σ H1 H2 _ _ x C' od a0 fl5 _ I1 os bare u5 ok5 st5 bx4 ff5 tr5 ly5 hB5 hx ?_ q
 cases z:(PySem.W.hideAll s1.heap [C]).get? x with
 | none=>rfl
 | some v=>have:=FJ _ z;rw [hn]at this;cases this
section
variable {X:Cx} {pins:List (Addr×Obj)} {σ:St} {scope:Scope} {xs:List Str} {fs:List Nat} {elt tg iter:Expr} {ifs:List Expr} {pos:Pos} {wi:TI} {g:Blk→TG} {tt:Blk→TT} {te:Blk→TE}
theorem Sw{EX:XK}{Q:VK}{itv:Value}{s2:Shared}{E:Value→Shared→Prop}{RR:Value→Addr→Result→Shared→Prop}(hc:X.calm=true)(O:Ih X.N X.env.scope scope xs fs)
 (hg:∀b,PG (X.blk scope (xs++around X.N fs) b) tg (g b)) (ht:∀b,PTs (X.blk scope (xs++around X.N fs) b) ifs (tt b)) (he:∀b xe,Bl (CXF X.prog X.w) ((X.blk scope (xs++around X.N fs) b).wish xe) (fun _=>EX)→PE ((X.blk scope (xs++around X.N fs) b).wish xe) elt (te b))
 (h:PIE X pins σ tg (Ar (List.replicate xs.length none++fs.map fun j=>σ.getD j none) g tt te Q) itv s2)
 (hE:∀fp H2 D C,Inv X pins σ H2 s2→(∀b∈fp,Dc X pins H2 b)→s2.heap.objs.size≤C→∀pl σ1 H1 s1 e s',Inv (X.blk scope (xs++around X.N fs) ⟨s2,H2,C,fp⟩) pl σ1 H1 s1→CXF X.prog X.w X.stack H1 s1 EX e s'→
  notedBy (model X.prog X.w) X.A (compEnvC scope (clo X.env scope.names []) C X.env) (fun e s'=>RR (.ref D) C (.error e) s') e s')
 (hR:∀D C s' m H',s'.heap.Ns C m→Inv X pins σ H' s'→Q (.ref D) H'→Dc X pins H' C→RR (.ref D) C (.ok .next) s'):
 wpAny (model X.prog X.w) X.A (newList []) (fun acc s₃=>wpAny (model X.prog X.w) X.A (newFunctionEnv scope X.env.globals (clo X.env scope.names []) [] X.env.qual none .none (some X.env)) (fun cenv s₄=>
  codeAny (model X.prog X.w) X.A (.compStart (.ListComp elt [⟨tg,iter,ifs,0⟩] scope pos) 0 itv acc {cenv with scope:=relabel scope X.env}) (RR acc cenv.locals) s₄) E s₃) E s2:=by
 obtain ⟨it,fp,tn,J,H2,rfl,I2,T,st2,f2,rd⟩:=h
 have hfp:∀b∈fp,b < s2.heap.objs.size:=fun b hb=>by
  obtain ⟨o,e,_⟩:=T.obj _ _ st2 b hb;exact Fh e
 refine Rj (HF O.cell (by intro y hy;simp at hy) (fun h₁ hns₁ hsb₁=>?_) O.kind);dsimp only at hns₁ hsb₁ ⊢;generalize hH2:s2.heap.push {cls:= .type "list",dict:=none,data:= .seq ([]:List Value).toArray}=HH at hns₁ hsb₁ ⊢
 have hC:HH.objs.size=s2.heap.objs.size+1:=by rw [← hH2,HR]
 have hDC:s2.heap.objs.size≠HH.objs.size:=by rw [hC];exact Ff (Hr _)
 have hCle:s2.heap.objs.size≤HH.objs.size:=by rw [hC];exact Rt _
 have old:∀b o,s2.heap.get? b=some o→h₁.get? b=some o:=fun b o e=>hsb₁.extBut b o (by rw [hC];exact Ff (Rl (Fh e))) (Fb _ (hH2▸Fb _ e));have hacc:h₁.get? s2.heap.objs.size=some {cls:= .type "list",data:= .seq #[] 0}:=hsb₁.extBut _ _ hDC (Fb _ (hH2▸Fo _ rfl));obtain ⟨W,⟨m0,w0⟩,turn⟩:=rd ⟨s2,H2,HH.objs.size,fp⟩ s2.heap.objs.size I2.fresh;have I3:=V2 (t:=s2.toks+([]:List (Str×Value)).length) I2 O f2 (Fn _) hCle hfp hDC old hacc hns₁;rw [show xs.map (fun _=>(none:Option V))=List.replicate xs.length none from List.map_const' ..]at I3;generalize hX:X.blk scope (xs++around X.N fs) ⟨s2,H2,HH.objs.size,fp⟩=X' at I3
 have stat:∀{H':Hp},(∀b∈fp,H' b=none)→∀b∈fp,Dc X' [] H' b:=fun hn b hb=>by
  subst hX;refine ⟨hn b hb,?_,?_,.inl hb,fun x c e=>?_,fun p hp=>absurd hp (by simp)⟩
  · exact (I3.ok.exf b hb).1
  · exact I3.ok.exfs b hb
  · exact (I3.ok.exf b hb).2 x c e
 have fr3:∀b∈fp,upd H2 s2.heap.objs.size (.lst []) b=none:=fun b hb=>by
  rw [A0 (Ff (hfp b hb))];exact (f2 b hb).1
 have ccell:∀y c,X.env.cells.lookup y=some c→c≠HH.objs.size:=fun y c e=>by
  obtain ⟨v,q⟩:=I2.cell y c e;exact Ff (Fc q.lt hCle)
 have cloc:HH.objs.size≠X.env.locals:=(Ff (Fc I2.lt hCle)).symm
 have eP:X'.prog=X.prog:=by rw [← hX]
 have ew:X'.w=X.w:=by rw [← hX]
 have eK:X'.K=X.K:=by rw [← hX]
 have eA:X'.A=X.A:=by rw [← hX]
 have ec:X'.calm=true:=by rw [← hX];exact hc
 have ex:X'.xe=fun _ _=>False:=by rw [← hX]
 have een:X'.env=compEnvC scope (clo X.env scope.names []) HH.objs.size X.env:=by rw [← hX]
 have hg':=hg ⟨s2,H2,HH.objs.size,fp⟩;have ht':=ht ⟨s2,H2,HH.objs.size,fp⟩
 have he':=he ⟨s2,H2,HH.objs.size,fp⟩ (fun e s'=>∃pl σ1 H1 s1,Inv X' pl σ1 H1 s1∧CXF X.prog X.w X.stack H1 s1 EX e s') (by
  rw [hX];intro pl σ1 H1 s1 e s' I1 hc1;refine ⟨pl,σ1,H1,s1,I1.unwish,?_⟩;rw [← hX]at hc1
  exact hc1)
 rw [hX]at hg' ht' he';have st1:tn 0 h₁:=T.keep _ _ _ st2 fun b hb o e=>old b o e
 have loop:∀s₃:Shared,s₃={s2 with heap:=h₁,toks:=s2.toks+([]:List (Str×Value)).length}→
  codeAny (model X.prog X.w) X.A (.compLoop (.ListComp elt [⟨tg,iter,ifs,0⟩] scope pos) 0 (.ref it) (.ref s2.heap.objs.size) (compEnvC scope (clo X.env scope.names []) HH.objs.size X.env))
   (RR (.ref s2.heap.objs.size) HH.objs.size) s₃:=by
  rintro s₃ rfl;refine Ei (fun n s'=>∃i ys H',Inv X' [] (List.replicate xs.length none++fs.map fun j=>σ.getD j none) H' s'∧tn i s'.heap∧(∀b∈fp,H' b=none)∧W i n ys H') ?_ m0 ⟨0,[],_,I3,st1,fr3,w0⟩;rintro n s4 ⟨i,ys,H4,I4,st4,fr4,w4⟩;obtain ⟨hD4,tn4⟩:=turn i n ys H4 w4;rcases tn4 with ⟨stop,qn⟩ | ⟨go,step⟩
  · have td:=T.done X' eP ew eK ec i [] s4 _ H4 (notedBy (model X.prog X.w) X.A (compEnvC scope (clo X.env scope.names []) HH.objs.size X.env) fun e s'=>RR (.ref s2.heap.objs.size) HH.objs.size (.error e) s') I4 (stat fr4) st4 stop
    rw [eA]at td;refine thn td fun r s5 ⟨hr,I5⟩=>?_;subst hr;obtain ⟨m5,hn5,_⟩:=I5.loc;rw [een]at hn5
    have fr5:H4 HH.objs.size=none:=by have:=I5.free;rw [een]at this;exact this
    rw [← hX]at I5;exact hR _ _ _ m5 H4 hn5 (Lk I2 f2 hCle I5 (Heap.SameBut.refl ..)) qn (I2.fpOk hCle fr5)
  · have ti:=T.item X' eP ew eK ec i [] s4 _ H4 (notedBy (model X.prog X.w) X.A (compEnvC scope (clo X.env scope.names []) HH.objs.size X.env) fun e s'=>RR (.ref s2.heap.objs.size) HH.objs.size (.error e) s') I4 (stat fr4) st4 go
    rw [eA]at ti;refine thn ti fun r s5 ⟨u,hr,h5⟩=>?_;subst hr;refine thn h5 fun _ s6 hq_=>?_;obtain ⟨x,H6,I6,r6,y6,st6,fr6⟩:=hq_;have I6':=I6.pinned (stat fr6) (T.obj _ _ st6);have g1:=hg' _ s6 _ H6 x u _ I6' r6 (step x H6 y6);rw [eP,ew,eA,een,ex]at g1;refine FE g1 (fun _ s7 hq_=>?_) fun _ _ z=>z.elim;obtain ⟨σ7,H7,I7,kp7,q7⟩:=hq_;have t1:=ht' _ s7 σ7 H7 _ I7 q7;rw [eP,ew,eA,een,ex]at t1
    have back:∀{H9:Hp} {s9:Shared},Inv X' ([]++De fp s6.heap) σ7 H9 s9→Inv X' [] (List.replicate xs.length none++fs.map fun j=>σ.getD j none) H9 s9∧tn (i+1) s9.heap∧∀b∈fp,H9 b=none:=fun {H9 s9} I9=>by
     refine ⟨I9.unpinned.weak ?_ kp7,T.keep _ _ _ st6 fun b hb o e=>(I9.pin (b,o) (FA _ (FA _ (Bo hb e)))).1,fun b hb=>?_⟩
     · rw [I9.len,I4.len]
     · obtain ⟨o,e,d⟩:=T.obj _ _ st6 b hb
       exact (I9.pin (b,o) (FA _ (FA _ (Bo hb e)))).2.1
    refine FE t1 (fun ok s8 ⟨H8,I8,q8⟩=>?_) fun _ _ z=>z.elim
    cases ok with
    | false=>
     rw [if_neg FG]at q8 ⊢;obtain ⟨m',hm,w8⟩:=q8;obtain ⟨b1,b2,b3⟩:=back I8;exact ⟨m',hm,i+1,ys,H8,b1,b2,b3,w8⟩
    | true=>
     rw [if_pos rfl]at q8 ⊢;have e1:=he' _ s8 σ7 H8 _ (I8.wish _) q8;dsimp only at e1;rw [eP,ew,eA,een]at e1;refine FE e1 (fun uy s9 ⟨y,H9,I9,r9,hD9,hz,m',hm,w9⟩=>?_) fun e s' ⟨pl,σ1,H1,s1,I1,hc1⟩=>?_
     · have a1:=Cg (X:=X') (pins:=[]++De fp s6.heap) (s:=s9) (σ:=σ7) (H:=H9) (x:= .ref s2.heap.objs.size) (xs:=[y]) (v:= .ref s2.heap.objs.size) (us:=[uy]) (Q:=fun _ H'=>H'=upd H9 s2.heap.objs.size (.lst (ys++[y]))) I9.unwish rfl (.cons r9 .nil) ⟨_,ys,y,rfl,rfl,hD9,hz,rfl⟩
       rw [eP,ew,eA,ex]at a1;refine FE a1 (fun _ s10 hq_=>?_) fun _ _ z=>z.elim;obtain ⟨_,H10,I10,_,e10⟩:=hq_;subst e10;obtain ⟨b1,b2,b3⟩:=back I10;exact ⟨m',hm,i+1,_,_,b1,b2,b3,w9⟩
     · rw [← hX]at I1
       exact hE fp H2 _ _ I2 f2 hCle pl σ1 H1 s1 e s' I1 hc1
 exact codeAny_compStart_list (loop _ rfl) (T.self _ 0 _ _ _ st1 (loop _ rfl))
theorem Sx{E:XK}{px:Pos}{c:Expr}(x:Str)(fs:List Nat)(hO:Wn X E)(hst:X.stack=X.env::X.outer){L:Addr}(hL:X.env.frame=some L)(hc:X.calm=true)(hok:B8 X.N X.env.scope scope [x] fs=true)(hi:PI X (.Name x px) iter wi)(ht:∀b,PT (X.blk scope ([x]++around X.N fs) b) c (tt b))
 (he:∀b xe,Bl (CXF X.prog X.w) ((X.blk scope ([x]++around X.N fs) b).wish xe) (fun _=>E)→PE ((X.blk scope ([x]++around X.N fs) b).wish xe) elt (te b)) (hs:∀x,foldedSetIterable iter X.env x=pure x:=by intro _;rfl):
 PE X (.ListComp elt [⟨.Name x px,iter,[c],0⟩] scope pos) (Gq wi fs tt te):=by
 intro pins s σ H Q I h;have O:=Bj hok;rw [eval_ListComp];refine HV (use:=none) rfl hs (Dj fun y hy hf=>I.ok.has _ (O.free y hy hf)) O.kind O.names (thn (hi pins s σ H _ I h) fun v s1 h1=>thn h1 fun itv s2 h2=>?_)
 exact Sw (EX:=E) (RR:=fun acc C=>compPost (model X.prog X.w) X.A X.xe none (EP X pins σ Q) acc C) hc O (Ln hok) (fun b=>Gm (ht b)) he h2 (fun fp H2 D C I2 f2 hC pl σ1 H1 s1 e s' J hc=>Nt hO hst hL I2 f2 hC J hc) fun D C s' m H' hn I' q F=>⟨m,hn,fun h2 sb=>⟨.ref D,H',G4 I' F sb,rfl,q⟩⟩
end
end L2
namespace N53
open L2 N1 N5
def J5r(K:PySem.W.Frag)(H:Hp)(v:V):Prop:=∃b c,Isi K H v "int" b∧(b=true→Isi K H v "bool" c)∧((b && !c)=true→∃i,v= .int i)∧((b && !c)=false→∀i,v≠ .int i)
end N53
namespace N51
open L2 N1 N5 N53
def sl(ys:List Str)(s e:Nat):List Str:=(ys.drop s).take (e - s)
end N51
namespace L2
open PySem.W
def J1d(K:PySem.W.Frag):List V→Hp→VK→Prop:=fun xs H Q=>∃(p:Addr) (is:List Int),xs=[.ref p]∧SqL K H p (is.map V.int)∧Q (.int is.sum) H
theorem Sy(is:List Int):preSum (fun i=>is.getD i 0) is.length=is.sum:=by
 have key:∀n,n≤is.length→preSum (fun i=>is.getD i 0) n=(is.take n).sum:=by
  intro n
  induction n with
  | zero=>intro _;rfl
  | succ n ih=>
   intro h
   have e:is.take (n+1)=is.take n++[is.getD n 0]:=by
    rw [FW,Fg,Fe (by omega)];rfl
   rw [preSum,ih (by omega),e,List.sum_append];simp
 have:=key is.length (Fn _)
 rwa [Hs]at this
section
variable {X:Cx}
theorem G7(hc:X.calm=true):E7 X (.builtin "sum") (J1d X.K):=by
 intro pins s σ H xs us Q I r h;obtain ⟨p,is,rfl,hp,q⟩:=h;obtain ⟨u,rfl,ru⟩:=Ga r;cases ru;obtain ⟨its,r,pl,hz⟩:=I.list hp
 have hlt:p < s.heap.objs.size:=by obtain ⟨o,n,e,_⟩:=pl;exact Fh e
 have hlen:=r.length;rw [Fa]at hlen;refine call_sum_walkAnyS (Ri pl.isList ⟨s.heap.objs.size,_,_,_,_,_,_,fun i=>is.getD i 0,rfl,(Walks.list (show X.A.in1.handled=none from I.ok.hd hc) s.heap.objs.size p (Ff hlt) its.toArray).toS,⟨⟨_,Fo _ rfl,rfl,rfl⟩,pl.isList.push _⟩,fun b hb=>?_,fun i v hP=>?_,fun s' t' hmv=>?_⟩)
 · show b < (s.heap.push _).objs.size
   rw [HR];rcases FD.mp hb with e | hb
   · rw [e];exact Hr _
   · rw [Fj.mp hb];exact Rl hlt
 · have hP:its.toArray[i]?=some v:=hP
   have hi:i < is.length:=by
    have:=(FN.mp hP).1;rw [Fl]at this;omega
   obtain ⟨u,hu,ru⟩:=r.get (i:=i) (x:=V.int (is[i])) (by simp [hi])
   have e:u=v:=by
    have:its[i]?=some v:=by simpa using hP
    rw [hu]at this;exact FM this
   subst e;show ∃t,u=Value.int (is.getD i 0) t;rw [Fg,Fe hi];exact ru
 · have hk:∀b o,s.heap.get? b=some o→s'.heap.get? b=some o:=fun b o e=>
    hmv.heap b o (fun hI=>absurd (Fh e) (by rw [Fj.mp hI];exact Hg _)) (Fb _ e)
   rw [Moved.eq_with hmv];refine ⟨.int is.sum,H,I.kept (t':=s'.toks) hk,⟨t',?_⟩,q⟩;rw [Fl,← hlen,Sy]
end
section
variable {σ:St} {H:Hp} {Q:VK} {D:Cc} {K:PySem.W.Frag} {xs:List V} {x y:V}
theorem Qv:J1d K xs H Q=∃(p:Addr) (is:List Int),xs=[.ref p]∧SqL K H p (is.map V.int)∧Q (.int is.sum) H:=rfl
end
end L2
namespace N31
open L2 N1 N5
end N31
namespace L2
theorem J55{P:Program}{w:World}{k:Key}{u:Value}(h:(Am P w).is k u=true):Ab (kV k) u:=by
 cases k with
 | inl i=>
  cases u <;> first | (exact absurd h (by intro z;cases z)) | skip
  rename_i j t
  have e:j=i:=by simpa [Am,G9,Value.isInt] using h
  exact ⟨t,by rw [e]⟩
 | inr x=>
  cases u <;> first | (exact absurd h (by intro z;cases z)) | skip
  rename_i j t
  have e:j=x:=by simpa [Am,G9,Value.isStrOf] using h
  exact ⟨t,by rw [e]⟩
theorem Iz{α β:Type}{F:α→β→Prop}:∀{l:List α} {m:List β},Paired F l m→∀{i:Nat} {b:β},m[i]?=some b→∃a,l[i]?=some a∧F a b
 | _,_,.cons r t,0,b,e=>by cases e;exact ⟨_,rfl,r⟩
 | _,_,.cons r t,i+1,b,e=>Iz t (i:=i) e
def Qw(v d:Addr):HO:= .ext fun h=>h.IsValuesView v d
def J3a:List V→Hp→VK→Prop:=fun xs H Q=>∃a kvs,xs=[.ref a]∧H a=some (.dK kvs)∧∀l,H l=none→Q (.ref l) (upd H l (.lst (kvs.map fun p=>kV p.1)))
def Yv:V→List V→Hp→VK→Prop:=fun x vs H Q=>∃a kvs,x= .ref a∧vs=[]∧H a=some (.dK kvs)∧∀v,H v=none→Q (.ref v) (upd H v (Qw v a))
def J56:List V→Hp→VK→Prop:=fun xs H Q=>∃(v d:Addr) (kvs:List (Key×V)) (is:List Int),xs=[.ref v]∧H v=some (Qw v d)∧H d=some (.dK kvs)∧kvs.map (·.2)=is.map V.int∧Q (.int is.sum) H
def Yw:V→List V→Hp→VK→Prop:=fun x vs H Q=>∃(l:Addr) (ys:List Str) (z:Str),x= .ref l∧vs=[.str z]∧H l=some (.lst (ys.map V.str))∧z∈ys∧Q .non (upd H l (.lst ((ys.erase z).map V.str)))
section
variable {X:Cx}
def J5s(K:PySem.W.Frag)(n:Nat)(t:TGs):TG:=fun v σ H Q=>∃a xs,v= .ref a∧SqL K H a xs∧xs.length=n∧t xs σ H Q
def J5t:R2:=fun x y H Q=>∃a b,x= .bl a∧y= .bl b∧Q (.bl (a==b)) H
def J57:R2:=fun x y H Q=>∃a b,x= .bl a∧y= .bl b∧Q (.bl (!(a==b))) H
end
section
variable {σ:St} {H:Hp} {Q:VK} {xs:List V} {x y:V}
theorem Qx{K:PySem.W.Frag}{n:Nat}{t:TGs}{v:V}{N:St→Hp→Prop}:J5s K n t v σ H N=∃a xs,v= .ref a∧SqL K H a xs∧xs.length=n∧t xs σ H N:=rfl
theorem Nu{td ty:TE}:J2f td ty σ H Q=td σ H fun x H1=>∃a,x= .ref a∧IsD H1 a∧ty σ H1 fun y H2=>∃kvs k v,H2 a=some (.dK kvs)∧y=kV k∧Bc kvs k=some v∧Q v (upd H2 a (.dK (J0o kvs k))):=rfl
theorem Ek{td ty tx:TE}:U1 td ty tx σ H Q=td σ H fun x H1=>∃a,x= .ref a∧IsD H1 a∧ty σ H1 fun y H2=>tx σ H2 fun z H3=>∃o,Cd H3 a y o∧Q (o.getD z) H3:=rfl
theorem Nv:J2a x xs H Q=∃l ys i k y,x= .ref l∧xs=[.int i]∧H l=some (.lst ys)∧-(2 ^ 63)≤i∧i < 2 ^ 63∧seqIndex? i ys.length=some k∧ys[k]?=some y∧Q y (upd H l (.lst (ys.eraseIdx k))):=rfl
theorem Nw:J3a xs H Q=∃a kvs,xs=[.ref a]∧H a=some (.dK kvs)∧∀l,H l=none→Q (.ref l) (upd H l (.lst (kvs.map fun p=>kV p.1))):=rfl
theorem Kw:Yv x xs H Q=∃a kvs,x= .ref a∧xs=[]∧H a=some (.dK kvs)∧∀v,H v=none→Q (.ref v) (upd H v (Qw v a)):=rfl
theorem Qy:J56 xs H Q=∃(v d:Addr) (kvs:List (Key×V)) (is:List Int),xs=[.ref v]∧H v=some (Qw v d)∧H d=some (.dK kvs)∧kvs.map (·.2)=is.map V.int∧Q (.int is.sum) H:=rfl
theorem Kx:Yw x xs H Q=∃(l:Addr) (ys:List Str) (z:Str),x= .ref l∧xs=[.str z]∧H l=some (.lst (ys.map V.str))∧z∈ys∧Q .non (upd H l (.lst ((ys.erase z).map V.str))):=rfl
theorem Wo:J5t x y H Q=∃a b,x= .bl a∧y= .bl b∧Q (.bl (a==b)) H:=rfl
theorem Qz:J57 x y H Q=∃a b,x= .bl a∧y= .bl b∧Q (.bl (!(a==b))) H:=rfl
end
section
variable {i j:Int} {a b:Bool} {x y:Str}
theorem J1e:scal .non .non=true:=rfl
theorem J1f:scal .non (.int j)=true:=rfl
theorem J1g:scal (.int i) .non=true:=rfl
theorem J1h:scal .non (.bl b)=true:=rfl
theorem J1i:scal (.bl a) .non=true:=rfl
theorem J1j:scal .non (.str y)=true:=rfl
theorem J1k:scal (.str x) .non=true:=rfl
theorem J1l:scal (.int i) (.int j)=true:=rfl
theorem J1m:scal (.bl a) (.bl b)=true:=rfl
theorem J1n:scal (.str x) (.str y)=true:=rfl
theorem J1o:scal (.int i) (.str y)=true:=rfl
theorem J1p:scal (.str x) (.int j)=true:=rfl
theorem J1q:scal (.bl a) (.str y)=true:=rfl
theorem J1r:scal (.str x) (.bl b)=true:=rfl
end
end L2
namespace L2
open N1 N5
section
variable {K:PySem.W.Frag} {tail:St} {te:Blk→TE} {Q:VK} {H1:Hp}
def Wp(P:V→Hp→Prop):Prop:=∀y H H' l zs,P y H→H l=some (.lst zs)→SameBut l H H'→P y H'
end
end L2
namespace N4
open L2 N1 N5
def Sz(n p:V):List (Str×V):=Bh "place" p (Bh "name" n [])
theorem Wq{n p:V}:(Sz n p).lookup ("name":Str)=some n:=by
 unfold Sz;rw [Bb,if_neg (by decide),Bb,if_pos rfl]
theorem T2{n p:V}:(Sz n p).lookup ("place":Str)=some p:=by
 unfold Sz;rw [Bb,if_pos rfl]
def Wr(C:Addr)(H:Hp)(x:Addr)(n p:V):Prop:=∃dx,H x=some (exO false x C (some dx))∧H dx=some (exD dx (Sz n p))
def K0(C:Addr):Sp:=fun vs H Q _=>∃(x:Addr) (n p:V) (nw:Bool),vs=[.ref x,n,p]∧H x=some (exO nw x C none)∧∀dx,H dx=none→Q .non (upd (upd H x (exO nw x C (some dx))) dx (exD dx (Sz n p)))
def E1(K:PySem.W.Frag):Sp:=fun vs H Q _=>∃(n co r:V) (e:Addr) (kvs:List (Key×V)) (ks:List Str),vs=[n,co,r,.ref e]∧H e=some (.dK kvs)∧kvs.map (·.1)=ks.map Sum.inr∧N2 ks n co r=none∧∀H',A7 H H'→Q .non H'
def El(K:PySem.W.Frag)(C:Addr):Sp:=fun vs H Q _=>∃(p dx ra:Addr) (rs:List Rw),vs=[.ref p,.ref ra]∧H p=some (.ins C dx [])∧SqL K H ra (rs.map fun t=>V.ref t.1)∧(∀t∈rs,SqT K H t.1 [t.2.1,t.2.2.1,t.2.2.2])∧N7 rs=none∧
 ∀H',SameBut p H H'→Ai K C H' p (rs.map Ye)→Q .non H'
theorem Ot{rs:List Rw}(h:N7 rs=none):rs.length≤60∧Dk [] rs=none:=by
 unfold N7 at h;split at h
 · cases h
 · exact ⟨by omega,h⟩
theorem Ls{lo hi c:Int}(h1:lo≤c)(h2:c≤hi):wIn lo hi (.int c)=true:=by
 show (decide (lo≤c) && decide (c≤hi))=true;rw [Fy h1,Fy h2];rfl
theorem Ky:∀(rs:List Rw) (ks:List Str),(∀t∈rs,∃z c q,t.2.1= .str z∧t.2.2.1= .int c∧t.2.2.2= .int q∧B6 z.cps.toList=true∧0≤c∧c≤10 ^ 30∧1≤q∧q≤1000)→(ks++rs.map fun t=>sOf t.2.1).Nodup→Dk ks rs=none
 | [],_,_,_=>rfl
 | t::rs,ks,h,nd=>by
  obtain ⟨z,c,q,e1,e2,e3,hn,h1,h2,h3,h4⟩:=h t (Fq ..)
  have hz:¬z∈ks:=fun hz=>by
   rw [List.map_cons,List.nodup_append]at nd;exact nd.2.2 z hz (sOf t.2.1) (Fq ..) (by rw [e1];rfl)
  have r0:N2 ks t.2.1 t.2.2.1 t.2.2.2=none:=by
   unfold N2;rw [e1,e2,e3];rw [if_neg (by show ¬B6 z.cps.toList=false;rw [hn];decide),if_neg (show ¬sOf (.str z)∈ks from hz),if_neg (by rw [Ls h1 h2];decide),if_neg (by rw [Ls h3 h4];decide)]
  unfold Dk;rw [r0];refine Ky rs _ (fun t' ht=>h t' (Fp _ ht)) ?_;rw [List.append_assoc];exact nd
theorem Ws{kvs:List (Key×V)}{i:Nat}{k:Key}{v:V}(nd:(kvs.map (·.1)).Nodup)(e:kvs[i]?=some (k,v)):Bc kvs k=some v:=by
 induction kvs generalizing i with
 | nil=>rw [List.getElem?_nil]at e;cases e
 | cons p r ih=>
  cases i with
  | zero=>cases e;exact Ee rfl
  | succ i=>
   rw [List.map_cons,FZ]at nd;have hm:(k,v)∈r:=Fk e;rw [Ef (fun z=>nd.1 (by rw [z];exact List.mem_map_of_mem (f:=(·.1)) hm))];exact ih nd.2 e
theorem T3{ks:List Str}(h:ks.Nodup):(ks.map (Sum.inr:Str→Key)).Nodup:=by
 unfold List.Nodup at *;rw [List.pairwise_map];exact h.imp fun n e=>n (by injection e)
section
variable {K:PySem.W.Frag} {C:Addr} {H H':Hp} {p:Addr} {ts:List Th} {z:Str}
theorem Ai.has(h:Ai K C H p ts):∃dx d kvs,H p=some (.ins C dx (flds d))∧H d=some (.dK kvs)∧(kvs.map fun q=>kV q.1)=ts.map (fun t=>V.str t.1)∧(∀z,(Bc kvs (Sum.inr z)).isSome=decide (z∈ts.map (·.1)))∧
 ((ts.map (·.1)).Nodup→∀(i:Nat) (t:Th),ts[i]?=some t→∃a,Bc kvs (Sum.inr t.1)=some (.ref a)∧SqT K H a [.int i,.int t.2.1,.int t.2.2]):=by
 obtain ⟨dx,d,kvs,h1,h2,h3,h4⟩:=h.ex
 have h3':kvs.map (·.1)=(ts.map (·.1)).map Sum.inr:=by rw [h3,Fz];rfl
 refine ⟨dx,d,kvs,h1,h2,?_,fun z=>Lq h3',fun nd i t e=>?_⟩
 · have:=congrArg (List.map kV) h3
   rw [Fz,Fz]at this;exact this
 · obtain ⟨a,e1,e2⟩:=h4 i t e
   exact ⟨a,Ws (by rw [h3'];exact T3 nd) e1,e2⟩
end
def pick(w:Nat)(i:Nat)(t:Th):Int:=if w=0 then i else if w=1 then t.2.1 else t.2.2
def Em(K:PySem.W.Frag)(C U:Addr):Sp:=fun vs H Q E=>∃(p:Addr) (ts:List Th) (z:Str),vs=[.ref p,.str z]∧Ai K C H p ts∧(ts.map (·.1)).Nodup∧
 (∀(i:Nat) (t:Th),ts[i]?=some t→t.1=z→∀a,SqT K H a [.int i,.int t.2.1,.int t.2.2]→Q (.ref a) H)∧(¬z∈ts.map (·.1)→∀H' x,A7 H H'→H x=none→Wr U H' x (.str z) (.int (-1))→E (.ref U) (some x) H')
def En(w:Nat)(K:PySem.W.Frag)(C U:Addr):Sp:=fun vs H Q E=>∃(p:Addr) (ts:List Th) (z:Str),vs=[.ref p,.str z]∧Ai K C H p ts∧(ts.map (·.1)).Nodup∧
 (∀(i:Nat) (t:Th),ts[i]?=some t→t.1=z→Q (.int (pick w i t)) H)∧(¬z∈ts.map (·.1)→∀H' x,A7 H H'→H x=none→Wr U H' x (.str z) (.int (-1))→E (.ref U) (some x) H')
def Ou(K:PySem.W.Frag)(C:Addr):Sp:=fun vs H Q _=>∃(p:Addr) (ts:List Th) (z:Str),vs=[.ref p,.str z]∧Ai K C H p ts∧Q (.bl (decide (z∈ts.map (·.1)))) H
theorem Yx{ts:List Th}{z:Str}(h:z∈ts.map (·.1)):∃(i:Nat) (t:Th),ts[i]?=some t∧t.1=z:=by
 obtain ⟨t,ht,e⟩:=Fw.mp h;obtain ⟨i,hi⟩:=FR.mp ht;exact ⟨i,t,hi,e⟩
end N4
namespace N55
open L2 N1 N5 N53 N51
abbrev BR:=Str×Bool
abbrev Bk5:=Addr×Str×Bool×Addr
structure Dm(H:Hp)(p:Addr)(bs:List Bk5):Prop where
 l:H p=some (.lst (bs.map fun r=>V.ref r.1))
 t:∀r∈bs,H r.1=some (.tup [.str r.2.1,.bl r.2.2.1,.ref r.2.2.2])
theorem Dm.same{H H':Hp}{p:Addr}{bs:List Bk5}(s:A7 H H')(h:Dm H p bs):Dm H' p bs:=⟨s _ _ h.l,fun r hr=>s _ _ (h.t r hr)⟩
def brs(bs:List Bk5):List BR:=bs.map fun r=>(r.2.1,r.2.2.1)
end N55
namespace N55
open L2 N1 N5 N53 N51
section
variable {tp:Addr} {pos:Pos} {qual:Str} {H H1 H2 H':Hp}
theorem Cb(h:Av tp pos qual H):∃ps,H tp=some (.tbl ps):=by
 rcases h with h | ⟨c,h,_⟩
 · exact ⟨_,h⟩
 · exact ⟨_,h⟩
theorem Dn(s:A7 H H')(h:Av tp pos qual H):Av tp pos qual H':=by
 rcases h with h | ⟨c,h,h'⟩
 · exact .inl (s _ _ h)
 · exact .inr ⟨c,s _ _ h,s _ _ h'⟩
theorem J3b(h:Av tp pos qual H){p:Addr}{o:HO}(e:H p=some o)(n:∀ps,o≠ .tbl ps):p≠tp:=fun z=>by
 obtain ⟨ps,h'⟩:=Cb h;rw [z,h']at e;cases e;exact n _ rfl
structure Tk(tp:Addr)(pos:Pos)(qual:Str)(H H':Hp):Prop where
 but:SameBut tp H H'
 lam:Av tp pos qual H'
theorem Tk.trans(a:Tk tp pos qual H H1)(b:Tk tp pos qual H1 H2):Tk tp pos qual H H2:=⟨a.but.trans b.but,b.lam⟩
theorem Tk.of(h:Av tp pos qual H)(s:A7 H H1):Tk tp pos qual H H1:=⟨.of s,Dn s h⟩
theorem Tk.get(t:Tk tp pos qual H H')(h:Av tp pos qual H){p:Addr}{o:HO}(e:H p=some o)(n:∀ps,o≠ .tbl ps):H' p=some o:=t.but _ _ e (J3b h e n)
theorem Tk.lst(t:Tk tp pos qual H H')(h:Av tp pos qual H){p:Addr}{xs:List V}(e:H p=some (.lst xs)):H' p=some (.lst xs):=t.get h e fun _ z=>by cases z
theorem Tk.tup(t:Tk tp pos qual H H')(h:Av tp pos qual H){p:Addr}{xs:List V}(e:H p=some (.tup xs)):H' p=some (.tup xs):=t.get h e fun _ z=>by cases z
theorem Tk.none(t:Tk tp pos qual H H')(h:Av tp pos qual H){p:Addr}(e:H' p=none):H p=none:=by
 cases q:H p with
 | none=>rfl
 | some o=>
  by_cases z:p=tp
  · obtain ⟨ps,g⟩:=Cb t.lam
    rw [z,g]at e;cases e
  · rw [t.but _ _ q z]at e
    cases e
theorem Dm.tk{p:Addr}{bs:List Bk5}(t:Tk tp pos qual H H')(h:Av tp pos qual H)(b:Dm H p bs):Dm H' p bs:=⟨t.lst h b.l,fun r hr=>t.tup h (b.t r hr)⟩
end
def K6(H:Hp):V→Bool
 | .ref t=>match H t with
  | some (.tup [.str _,.bl b,.ref _])=>!b
  | _=>false
 | _=>false
theorem Gr{H:Hp}{t g:Addr}{y:Str}{b:Bool}(h:H t=some (.tup [.str y,.bl b,.ref g])):K6 H (.ref t)=!b:=by
 show (match H t with | some (.tup [.str _,.bl b,.ref _])=>!b | _=>false)=!b;rw [h]
end N55
namespace N4
open L2 N1 N5
theorem Wt{j:Nat}:md j=26∨md j=36:=by unfold md;split <;> simp
theorem J3c{x y:Int}{j:Nat}(h:bc (x % md j)=bc (y % md j)):x % md j=y % md j:=by
 rcases Wt (j:=j) with hm | hm <;> rw [hm]at h ⊢
 · exact Os (by omega) (by omega) (by omega) (by omega) h
 · exact Os (by omega) (by omega) (by omega) (by omega) h
theorem Wu{f:Nat→List Nat}{m:Nat}(h:∀a b,a < m→b < m→f a=f b→a=b):((List.range m).map fun k=>tx (f k)).Nodup:=by
 unfold List.Nodup;rw [List.pairwise_map];refine List.Pairwise.imp_of_mem (R:=fun a b=>a≠b) ?_ List.nodup_range;intro a b ha hb ne e;exact ne (h a b (Rc.mp ha) (Rc.mp hb) (J4y e))
structure Ov(K:PySem.W.Frag)(H:Hp)(r:Addr)(as:List Addr)(ts:List Th):Prop where
 l:SqL K H r (as.map V.ref)
 n:as.length=ts.length
 m:ts.length≤60
 at_:∀(i:Nat) (a:Addr) (t:Th),as[i]?=some a→ts[i]?=some t→SqT K H a [.str t.1,.int t.2.1,.int t.2.2]
 ok:∀t∈ts,B6 t.1.cps.toList=true∧0≤t.2.1∧t.2.1≤10 ^ 30∧1≤t.2.2∧t.2.2≤1000
 nd:(ts.map (·.1)).Nodup
def Wv(a:Addr)(t:Th):Rw:=(a,.str t.1,.int t.2.1,.int t.2.2)
theorem Ov.init{K:PySem.W.Frag}{H:Hp}{r:Addr}{as:List Addr}{ts:List Th}(h:Ov K H r as ts):∃rs:List Rw,rs.map (fun t=>V.ref t.1)=as.map V.ref∧(∀t∈rs,SqT K H t.1 [t.2.1,t.2.2.1,t.2.2.2])∧N7 rs=none∧rs.map Ye=ts:=by
 have hn:=h.n
 have gt:∀(i:Nat) (x:Addr×Th),(as.zip ts)[i]?=some x→as[i]?=some x.1∧ts[i]?=some x.2:=fun i x e=>by
  rw [List.getElem?_zip_eq_some]at e;exact e
 have e1:((as.zip ts).map fun x=>Wv x.1 x.2).map Ye=ts:=by
  rw [Fz]
  have:(Ye∘fun x:Addr×Th=>Wv x.1 x.2)=Prod.snd:=by funext x;rfl
  rw [this,List.map_snd_zip (by omega)]
 refine ⟨(as.zip ts).map fun x=>Wv x.1 x.2,?_,?_,?_,e1⟩
 · rw [Fz]
   have:((fun t:Rw=>V.ref t.1)∘fun x:Addr×Th=>Wv x.1 x.2)=V.ref∘Prod.fst:=by funext x;rfl
   rw [this,← Fz,List.map_fst_zip (by omega)]
 · intro t ht
   obtain ⟨x,hx,rfl⟩:=Fw.mp ht;obtain ⟨i,hi⟩:=FR.mp hx;obtain ⟨h1,h2⟩:=gt i x hi;exact h.at_ i x.1 x.2 h1 h2
 · unfold N7
   rw [if_neg (by rw [Fa,List.length_zip];have:=h.m;omega)];refine Ky _ _ (fun t ht=>?_) ?_
   · obtain ⟨x,hx,rfl⟩:=Fw.mp ht
     obtain ⟨i,hi⟩:=FR.mp hx;obtain ⟨h1,h2⟩:=gt i x hi;obtain ⟨o1,o2,o3,o4,o5⟩:=h.ok x.2 (Fk h2);exact ⟨x.2.1,x.2.2.1,x.2.2.2,rfl,rfl,rfl,o1,o2,o3,o4,o5⟩
   · rw [List.nil_append,Fz]
     have:((fun t:Rw=>sOf t.2.1)∘fun x:Addr×Th=>Wv x.1 x.2)=(fun t:Th=>t.1)∘Prod.snd:=by funext x;rfl
     rw [this,← Fz,List.map_snd_zip (by omega)];exact h.nd
end N4
namespace N32
open L2 N1 N5 N31
def tl(f:Nat→Int)(b n:Nat):Int:=((List.range' b (n - b)).map f).sum
end N32
namespace N32
open L2 N1 N5 N31 N4
section
variable {K:PySem.W.Frag} {σ:L2.St} {H:Hp} {Q:VK}
theorem Nx{td ty:TE}:J2e td ty σ H Q=td σ H fun x H1=>∃a,x= .ref a∧IsD H1 a∧ty σ H1 fun y H2=>∃o,Cd H2 a y o∧Q (o.getD .non) H2:=rfl
end
end N32
open L2 N1 N5 N31 N4 N32
namespace N41
end N41
namespace N41
def cst(ts:List Th)(z:Str):Int:=((ts.find? fun t=>decide (t.1=z)).map (·.2.1)).getD 0
theorem Ww{ts:List Th}(nd:(ts.map (·.1)).Nodup){i:Nat}{t:Th}(h:ts[i]?=some t):cst ts t.1=t.2.1:=by
 induction ts generalizing i with
 | nil=>simp at h
 | cons u r ih=>
  rw [List.map_cons,FZ]at nd
  cases i with
  | zero=>
   rw [List.getElem?_cons_zero]at h;cases h;simp [cst]
  | succ i=>
   rw [List.getElem?_cons_succ]at h;have ne:¬u.1=t.1:=fun e=>nd.1 (by rw [e];exact Fw.mpr ⟨t,Fk h,rfl⟩);have:=ih nd.2 h;unfold cst at this ⊢;rw [List.find?_cons_of_neg (by simpa using ne)];exact this
end N41
namespace NPb
open L2 N1 N5 N53 N51 N55 N32 N41
def wsm(g:Str→Int)(bs:List Bk5):Int:=((bs.filter fun r=>!r.2.2.1).map fun r=>g r.2.1).sum
def nmV(H:Hp):V→Str
 | .ref t=>match H t with
  | some (.tup [.str z,.bl _,.ref _])=>z
  | _=>""
 | _=>""
theorem Wx{H:Hp}{t g:Addr}{y:Str}{b:Bool}(h:H t=some (.tup [.str y,.bl b,.ref g])):nmV H (.ref t)=y:=by
 show (match H t with | some (.tup [.str z,.bl _,.ref _])=>z | _=>("":Str))=y;rw [h]
def Odd(u:HO):Prop:=(∃ps,u= .tbl ps)∨∃c o,u=Az c o
theorem SqT.odd{K:PySem.W.Frag}{H H':Hp}{p a:Addr}{u:HO}{xs:List V}(s:SameBut p H H')(hp:H p=some u)(hu:Odd u)(h:SqT K H a xs):SqT K H' a xs:=by
 rcases h with (h | ⟨o,h⟩) | h
 · refine .inl (.inl (s _ _ h (Ce h hp fun z=>?_)))
   rcases hu with ⟨_,e⟩ | ⟨_,_,e⟩ <;> rw [e]at z <;> cases z
 · refine .inl (.inr ⟨o,s _ _ h (Ce h hp fun z=>?_)⟩)
   rcases hu with ⟨_,e⟩ | ⟨_,_,e⟩ <;> rw [e]at z <;> cases z
 · exact .inr h
theorem Ai.odd{K:PySem.W.Frag}{C:Addr}{H H':Hp}{p st:Addr}{u:HO}{ts:List Th}(s:SameBut p H H')(hp:H p=some u)(hu:Odd u)(h:Ai K C H st ts):Ai K C H' st ts:=by
 obtain ⟨dx,d,kvs,h1,h2,h3,h4⟩:=h.ex;refine ⟨dx,d,kvs,s _ _ h1 (Ce h1 hp fun z=>?_),s _ _ h2 (Ce h2 hp fun z=>?_),h3,fun i t e=>?_⟩
 · rcases hu with ⟨_,e⟩ | ⟨_,_,e⟩ <;> rw [e]at z <;> cases z
 · rcases hu with ⟨_,e⟩ | ⟨_,_,e⟩ <;> rw [e]at z <;> cases z
 · obtain ⟨a,e1,e2⟩:=h4 i t e
   exact ⟨a,e1,SqT.odd s hp hu e2⟩
theorem Yy{H:Hp}{c:Addr}:SameBut c H (unk H [c]):=fun b o e n=>by
 rw [Ae fun z=>n (Fj.mp z)];exact e
theorem Wy{H:Hp}{as:List Addr}:retr (unk H as) H as=H:=by
 funext b
 by_cases z:b∈as
 · rw [Br z]
 · rw [Ao z,Ae z]
def J1s(e:Expr)(i:Nat):Expr:=match e with
 | .Call _ as _ _=>as.getD i e
 | _=>e
def PJ(L:K3)(K:PySem.W.Frag)(C f c st:Addr)(ts:List Th)(H:Hp):Prop:=Ip L [("stock",c)] H f∧B4 H [("stock",c)] [V.ref st]∧Ai K C H st ts
theorem PJ.same{L:K3}{K:PySem.W.Frag}{C f c st:Addr}{ts:List Th}{H H':Hp}(s:A7 H H')(h:PJ L K C f c st ts H):PJ L K C f c st ts H':=⟨h.1.same s,h.2.1.same s,h.2.2.same s⟩
theorem lent{tp:Addr}{pos:Pos}{qual:Str}{H H2 H3:Hp}{c:Addr}{o:Obj}(t:Tk tp pos qual H H2)(n:H2 c=none)(sm:A7 (upd H2 c (Az c o)) H3):Tk tp pos qual H (unk H3 [c]):=by
 have up:∀b u,H2 b=some u→unk H3 [c] b=some u:=fun b u e=>by
  have nb:b≠c:=A3 e n;rw [Ae fun z=>nb (Fj.mp z)];exact sm _ _ (by rw [A0 nb];exact e)
 exact t.trans (Tk.of t.lam fun b u e=>up b u e)
end NPb
namespace N6
open L2 N1 N5 N4
abbrev Ly:=List (Str×Int)
end N6
namespace N6
open L2 N1 N5 N4
theorem Wz:Str.ofString "abcdefghijklmnopqrstuvwxyz"++Str.ofString "0123456789"=Str.ofString "abcdefghijklmnopqrstuvwxyz0123456789":=by decide+kernel
theorem J3d(i:Int):atI (Str.ofString "abcdefghijklmnopqrstuvwxyz").cps.toList (i % 26)=some (bc (i % 26)):=by
 have h2:=FO i (show (0:Int) < 26 by decide);have h3:=FT i (show (26:Int)≠0 by decide);refine Ic h3 ?_
 have hl:Aj.length=26:=by decide
 have h4:(i % 26).toNat < Aj.length:=by rw [hl];omega
 unfold bc;rw [Im,Fg,Fs h4,Fe h4];rfl
theorem J3e{k:Int}(h0:0≤k)(h1:k < 10):bc (26+k)∈Aj++B9:=by
 have:=Qt (i:=26+k)
 rwa [Int.emod_eq_of_lt (by omega) (by omega)]at this
theorem Kz{l:List Nat}{c:Nat}(h:B6 l=true)(hl:l.length < 8)(hc:c∈Aj++B9):B6 (l++[c])=true:=by
 unfold B6 at h ⊢;simp only [R1,decide_eq_true_eq,FV]at h ⊢;obtain ⟨⟨⟨h1,h2⟩,h3⟩,h4⟩:=h;refine ⟨⟨⟨by simp,by simp;omega⟩,?_⟩,fun x hx=>?_⟩
 · cases l with
   | nil=>simp at h1
   | cons a r=>exact h3
 · rcases He.mp hx with hx | hx
   · exact h4 x hx
   · rw [Fj.mp hx];exact hc
theorem D3{F:Nat→Int}{at':Int}{long k:Nat}:(nmL F at' long k).length=long:=by simp [nmL]
theorem Ny{F:Nat→Int}{at':Int}{long k k':Nat}(h0:0≤at')(h1:at' < long)(hk:k < k'+26)(hk':k' < k+26)(h:nmL F at' long k=nmL F at' long k'):k=k':=by
 have hl:at'.toNat < long:=by omega
 have e:=congrArg (fun l=>l[at'.toNat]?) h;simp only [nmL,Fm,List.getElem?_range hl,R7,Option.some.injEq]at e;unfold sgn at e;rw [if_pos (by omega),if_pos (by omega)]at e;have e2:=J3c e
 rcases Wt (j:=at'.toNat) with hm | hm <;> rw [hm]at e2 <;> omega
theorem X0{F:Nat→Int}{at':Int}{j k:Nat}:nmL F at' (j+1) k=nmL F at' j k++[sgn F at' k j]:=by
 unfold nmL;rw [List.range_succ,FK];rfl
def nm3(F:Nat→Int)(at':Int)(long k:Nat):List Nat:=nmL F at' long k++if 25 < k then [bc (26+(k:Int) / 26)] else []
theorem X1{F:Nat→Int}{at':Int}{long k:Nat}(h1:1≤long)(h2:long≤8)(h3:25 < k→long≤7)(hk:k < 61):B6 (nm3 F at' long k)=true:=by
 unfold nm3;split
 · rename_i h
   exact Kz (Nk h1 h2) (by rw [D3];have:=h3 h;omega) (J3e (by omega) (by omega))
 · rw [FF];exact Nk h1 h2
theorem Yz{F:Nat→Int}{at':Int}{long k k':Nat}(h0:0≤at')(h1:at' < long)(hk:k < 61)(hk':k' < 61)(h:nm3 F at' long k=nm3 F at' long k'):k=k':=by
 have hl:=congrArg List.length h;unfold nm3 at h hl;rw [Fx,Fx,D3,D3]at hl;obtain ⟨e1,e2⟩:=List.append_inj h (by rw [D3,D3])
 by_cases c1:25 < k
 · by_cases c2:25 < k'
   · rw [if_pos c1,if_pos c2]at e2
     injection e2 with e3
     have e4:=Os (by omega) (by omega) (by omega) (by omega) e3;exact Ny h0 h1 (by omega) (by omega) e1
   · rw [if_pos c1,if_neg c2]at hl;simp at hl
 · by_cases c2:25 < k'
   · rw [if_neg c1,if_pos c2]at hl;simp at hl
   · exact Ny h0 h1 (by omega) (by omega) e1
theorem X2{ys:List Str}{i:Nat}(h:i < ys.length):ys[i]?=some (ys.getD i Str.empty):=by
 rw [Fg,Fe h];rfl
def aOf:V→Addr
 | .ref a=>a
 | _=>0
def X3:Sp:=fun vs H Q _=>∃c k:Int,vs=[.int c,.int k]∧0≤k∧k≤1000∧∀v:Int,0≤v→Q (.int v) H
end N6
namespace L2
def D4(v d:Addr):HO:= .ext fun h=>h.IsItemsView v d
def Iti(o:Obj)(d:Addr):It:=
 ⟨fun i H=>∃kvs p,H d=some (.frz o (.dK kvs))∧kvs[i]?=some p,fun i H v H'=>∃t k x,v= .ref t∧H t=none∧H'=upd H t (.tup [kV k,x])∧∀kvs,H d=some (.frz o (.dK kvs))→kvs[i]?=some (k,x),
  fun i H=>∃kvs,H d=some (.frz o (.dK kvs))∧kvs.length≤i⟩
def tnI(o:Obj)(I d:Addr)(i:Nat)(h:Heap):Prop:=d≠I∧∃es ep ok ov,o.data= .dict es ep∧IsItemIter h I d i es.size ep ok ov
theorem Ow{P:Program}{w:World}{K:PySem.W.Frag}{es:List Expr}{k:Nat}{pos:Pos}(o:Obj)(d I:Addr):Td P w K (.Tuple es k pos) (Iti o d) [I] I (tnI o I d) where
 mem:=by simp
 obj:=fun i h st c hc=>by
  obtain ⟨_,es,ep,ok,ov,_,h1⟩:=st
  have hc:c=I:=by simpa using hc
  subst hc;exact ⟨_,h1,fun v z=>by cases z⟩
 keep:=fun i h h' st kk=>by
  obtain ⟨ne,es,ep,ok,ov,hd,h1⟩:=st;exact ⟨ne,es,ep,ok,ov,hd,kk I (by simp) _ h1⟩
 item:=by
  intro X hP hw hK hc i pins s σ H E J hf st hg;subst hP hw hK;obtain ⟨kvs,p,hd,hp⟩:=hg;obtain ⟨ne,es,ep,ok,ov,hdat,h1⟩:=st;obtain ⟨e,z,lo,ws,rel,ob,es2,ep2,e1,c1,d1,r1⟩:=J.hok d _ hd;have e1':=e1;rw [e]at e1';cases e1';rw [hdat]at d1;cases d1
  have dat:s.heap.DictAt (Am X.prog X.w) d ws ep:=⟨o,es,e1,c1,hdat,r1⟩
  have hsz:es.size=ws.length:=by
   obtain ⟨_,hpr,_⟩:=r1;rw [← hpr.length];simp
  rw [hsz]at h1
  have hlw:i < ws.length:=by rw [← rel.length];exact (Fi.mp hp).1
  have hw:ws[i]?=some (ws[i]):=Fe hlw;obtain ⟨p',hp',hpk,hpv⟩:=Iz rel hw;rw [hp]at hp';cases hp';have ltI:=Fh h1;refine wpAny_pyNext_items_item h1 dat (k:=(ws[i]).1) (v:=(ws[i]).2) hw fun key h' hkey ho hT hsz' hk=>?_;refine ⟨_,rfl,wpAny_letOwnedTupleGo_items (s:={s with heap:=h'}) ho fun h6 e6 sb=>?_⟩;have hf0:H s.heap.objs.size=none:=J.hok.fresh (Fn _);have nI:I≠s.heap.objs.size:=Ff ltI
  have rk:Ab (kV p.1) key:=by rw [hpk];exact J55 hkey
  have I0:Inv X pins σ (upd H s.heap.objs.size (.tup [kV p.1,p.2])) {s with heap:=s.heap.push {cls:= .type "tuple",data:= .seq #[key,(ws[i]).2]}}:=
   J.laid (t':=s.toks) (fun b u e=>Fb _ e) (Fn _) ⟨by simp [sizeLine];try decide,[key,(ws[i]).2],.cons rk (.cons hpv .nil),⟨_,Fo _ rfl,rfl,_,rfl⟩⟩
  have hfp:∀c∈[I],Dc X pins (upd H s.heap.objs.size (.tup [kV p.1,p.2])) c:=fun c hc'=>by
   have hc2:c=I:=by simpa using hc'
   obtain ⟨f0,f1,f2,f3,f4,f5⟩:=hf c hc';exact ⟨by rw [A0 (hc2▸nI)];exact f0,f1,f2,f3,f4,f5⟩
  have I1:Inv X pins σ (upd H s.heap.objs.size (.tup [kV p.1,p.2])) {s with heap:=h6}:=by
   refine Inv.turned2 (s:={s with heap:=s.heap.push {cls:= .type "tuple",data:= .seq #[key,(ws[i]).2]}}) (t':=s.toks) I0 (fun c o hc' q=>?_) hfp
   have hb':c≠I:=by simpa using hc'
   refine (sb.2 c hb').trans ?_;rcases Heap.get?_push_cases q with ⟨rfl,rfl⟩ | q2
   · exact hT
   · exact hk c o hb' q2
  refine ⟨.ref s.heap.objs.size,upd H s.heap.objs.size (.tup [kV p.1,p.2]),I1,rfl,⟨_,p.1,p.2,rfl,hf0,rfl,fun kvs' hy'=>by rw [hd]at hy';cases hy';exact hp⟩,⟨ne,es,ep,key,(ws[i]).2,hdat,?_⟩,fun c hc'=>(hfp c hc').1⟩;rw [hsz];exact e6
 done:=by
   intro X hP hw hK hc i pins s σ H E J hf st hg;subst hP hw hK;obtain ⟨kvs,hd,hl⟩:=hg;obtain ⟨ne,es,ep,ok,ov,hdat,h1⟩:=st;obtain ⟨e,z,lo,ws,rel,ob,es2,ep2,e1,c1,d1,r1⟩:=J.hok d _ hd;have e1':=e1;rw [e]at e1';cases e1';rw [hdat]at d1;cases d1
   have dat:s.heap.DictAt (Am X.prog X.w) d ws ep:=⟨o,es,e1,c1,hdat,r1⟩
   have hsz:es.size=ws.length:=by
    obtain ⟨_,hpr,_⟩:=r1;rw [← hpr.length];simp
   rw [hsz]at h1;have hn:ws[i]?=none:=HC (by rw [← rel.length];exact hl)
   exact wpAny_pyNext_items_end (J.ok.hd hc) h1 dat hn fun h' eb=>⟨rfl,Inv.turned2 (t':=s.toks) J (fun c o hb q=>eb c o (by simpa using hb) q) hf⟩
 self:=fun A i s Q E st h=>by
  obtain ⟨_,es,ep,ok,ov,_,h1⟩:=st;exact PySem.W.kcp_self h1 h
section
variable {X:Cx}
def X4:V→List V→Hp→VK→Prop:=fun x vs H Q=>∃a kvs,x= .ref a∧vs=[]∧H a=some (.dK kvs)∧∀v,H v=none→Q (.ref v) (upd H v (D4 v a))
theorem X5:MtM X "dict.items" X4:=by
 intro pins s σ H x vs v us Q I rx rv h;obtain ⟨a,kvs,rfl,rfl,ha,q⟩:=h;cases rx;have hus:=rv.zero;subst hus;obtain ⟨z,lo,ws,rel,dd⟩:=I.hok a _ ha;refine call_meetsIn PySem.F.slot_dict_items dd.typeIs PySem.F.entry_dict_items (PySem.F.args_dict_items_1 _) (meets_dict_items (Am X.prog X.w) a lo) ⟨⟨ws,dd⟩,?_⟩;refine ⟨.ref s.heap.objs.size,_,I.laid (t':=s.toks) (fun b o e=>Fb _ e) (Fn _) (show Ak X.prog X.w _ _ _ (D4 s.heap.objs.size a) from ⟨⟨_,Fo _ rfl,rfl,rfl⟩,⟨_,Fo _ rfl⟩,fun h1 h2 ⟨o,e1,e2⟩ k=>⟨o,k _ e1,e2⟩⟩),rfl,q _ I.fresh⟩
def J1t(tv:TE):TI:=fun σ H R=>tv σ H fun x H1=>∃v d kvs,x= .ref v∧H1 v=some (D4 v d)∧H1 d=some (.dK kvs)∧∀o,R (Iti o d) (upd H1 d (.frz o (.dK kvs)))
theorem J00{e:Expr}{tv:TE}{pp:Pos}{es:List Expr}{k:Nat}(hv:PE X e tv):PI X (.Tuple es k pp) e (J1t tv):=by
 intro pins s σ H R I h;refine thn (hv pins s σ H _ I h) fun u s1 hq_=>?_;obtain ⟨x,H1,I1,rx,q⟩:=hq_;obtain ⟨v,d,kvs,rfl,hv,hd,q⟩:=q;cases rx;have hvw:s1.heap.IsItemsView v d:=(I1.hok v _ hv).1;obtain ⟨z,lo,ws,rel,ob,es2,ep2,e1,c1,d1,r1⟩:=I1.hok d _ hd
 have dat:s1.heap.DictAt (Am X.prog X.w) d ws ep2:=⟨ob,es2,e1,c1,d1,r1⟩
 have hsz:es2.size=ws.length:=by
  obtain ⟨_,hpr,_⟩:=r1;rw [← hpr.length];simp
 refine wpAny_pyIter_items hvw dat ?_;have I2:Inv X pins σ (upd H1 d (.frz ob (.dK kvs))) {s1 with heap:=s1.heap,toks:=s1.toks}:=I1.write (x:=d) (e:=d) (by rw [hd];trivial) (.inl rfl) (fun b u _ e=>e) ⟨ob,e1⟩ ⟨e1,z,lo,ws,rel,ob,es2,ep2,e1,c1,d1,r1⟩;have I3:Inv X pins σ (upd H1 d (.frz ob (.dK kvs))) {s1 with heap:=s1.heap.push {cls:= .type "dict_itemiterator",data:= .fields #[.none,.bool false,.ref d,.int 0 0,.int ws.length 0,.int ep2 0,.none,.none]}}:=I2.kept (t':=s1.toks) fun b o e=>Fb _ e;have ltd:=Fh e1;refine ⟨s1.heap.objs.size,[s1.heap.objs.size],_,_,_,rfl,I3,Ow ob d s1.heap.objs.size,⟨Ff ltd,es2,ep2,.none,.none,d1,?_⟩,fun c hc=>?_,q ob⟩
 · rw [hsz];exact Fo _ rfl
 · have hc:c=s1.heap.objs.size:=by simpa using hc
   subst hc;exact I2.fpOk (Fn _) (I2.hok.fresh (Fn _))
end
section
variable {K:PySem.W.Frag} {tail:St} {te:Blk→TE} {Q:VK} {H1:Hp} {σ:St} {H:Hp}
theorem Nz{x:V}{vs:List V}:X4 x vs H Q=∃a kvs,x= .ref a∧vs=[]∧H a=some (.dK kvs)∧∀v,H v=none→Q (.ref v) (upd H v (D4 v a)):=rfl
theorem O0{tv:TE}{R:It→Hp→Prop}:J1t tv σ H R=tv σ H fun x H1=>∃v d kvs,x= .ref v∧H1 v=some (D4 v d)∧H1 d=some (.dK kvs)∧∀o,R (Iti o d) (upd H1 d (.frz o (.dK kvs))):=rfl
end
end L2
namespace L2
open N1 N5
def J58(K:PySem.W.Frag)(H:Hp)(x y:V):Prop:=(C9 x=true∧y=x)∨∃(p q:Addr) (xs:List V),x= .ref p∧y= .ref q∧SqT K H p xs∧SqT K H q xs∧xs.all C9=true
def S0(K:PySem.W.Frag)(H:Hp)(x y:V):Prop:=∃(a b:Addr) (xs ys:List V),x= .ref a∧y= .ref b∧SqT K H a xs∧SqT K H b ys∧xs.length=ys.length∧∀(i:Nat) (u v:V),xs[i]?=some u→ys[i]?=some v→J58 K H u v
def J5u(K:PySem.W.Frag):R2:=fun x y H Q=>S0 K H x y∧Q (.bl false) H
theorem X6{K:PySem.W.Frag}{H:Hp}{Q:VK}{x y:V}:J5u K x y H Q=(S0 K H x y∧Q (.bl false) H):=rfl
section
variable {K:PySem.W.Frag} {tail:St} {te:Blk→TE} {Q:VK} {H1:Hp}
theorem X7{o:Obj}{d:Addr}{kvs:List (Key×V)}(P:Nat→V→Hp→Prop)(hP:∀i,Wp (P i))(hd:H1 d=some (.frz o (.dK kvs)))(hz:kvs.length≤sizeLine)
 (he:∀b (i:Nat) k x H Q',kvs[i]?=some (k,x)→A7 H1 H→(∀y H',A7 H H'→P i y H'→Q' y H')→te b (some (kV k)::some x::tail) H Q')
 (q:∀D ys H',H1 D=none→A7 H1 H'→H' D=some (.lst ys)→ys.length=kvs.length→(∀i y,ys[i]?=some y→P i y H')→Q (.ref D) H'):Ar (none::none::tail) (g2 K) (fun _=>E6) te Q (Iti o d) H1:=by
 intro b D hD;refine ⟨fun i m ys H=>m=kvs.length - i∧i≤kvs.length∧ys.length=i∧H D=some (.lst ys)∧A7 H1 H∧∀j y,ys[j]?=some y→P j y H,⟨_,rfl,FY _,rfl,A1,Bm hD,fun j y e=>by simp at e⟩,?_⟩;rintro i m ys H ⟨rfl,hi,hl,h,sm,hall⟩;refine ⟨h,?_⟩
 by_cases hlt:i < kvs.length
 · have hx:kvs[i]?=some kvs[i]:=Fe hlt
   refine .inr ⟨⟨kvs,_,sm _ _ hd,hx⟩,?_⟩;rintro v H3 ⟨t,k',x',rfl,hn,rfl,g1⟩;have e1:=(g1 kvs (sm _ _ hd)).symm.trans hx;have s3:A7 H (upd H t (.tup [kV k',x'])):=A7.new hn;refine ⟨t,_,rfl,SqT.of A1,rfl,_,_,rfl,_,_,rfl,rfl,J54,?_⟩;change te b (some (kV k')::some x'::tail) _ _;refine he b i k' x' _ _ (hx.trans e1.symm) (sm.trans s3) fun y H4 sm4 py=>?_;have h4:=(s3.trans sm4) _ _ h;have sb:SameBut D H4 (upd H4 D (.lst (ys++[y]))):=N8;refine ⟨h4,by omega,kvs.length - (i+1),by omega,rfl,hlt,by rw [Fx,hl];rfl,A1,fun c o e=>?_,fun j y' e=>?_⟩
   · rw [A0 (A3 e hD)];exact (s3.trans sm4) _ _ (sm _ _ e)
   · by_cases hj:j < ys.length
     · rw [Fs hj]at e
       have:=hall j y' e
       exact hP j _ _ _ _ _ this h fun c o e n=>by rw [A0 n];exact (s3.trans sm4) _ _ e
     · rw [Fv (by omega)]at e
       have hj0:j=i:=by have:=(Fi.mp e).1;simp at this;omega
       subst hj0;rw [show j - ys.length=0 by omega]at e;cases e;exact hP j _ _ _ _ _ py h4 sb
 · have e:i=kvs.length:=by omega
   subst e;exact .inl ⟨⟨kvs,sm _ _ hd,Fn _⟩,q D ys H hD sm h hl hall⟩
end
end L2
namespace N12
open L2 N1 N5 N4 N6
def D5:Sp:=fun vs H Q _=>∃(i:Int) (m:Nat),vs=[.int i,.int m]∧m≤26∧∀(p:Addr) (ys:List Str) (H':Hp),H p=none→A7 H H'→H' p=some (.lst (ys.map V.str))→ys.length≤m→m≤ys.length→ys.Nodup→(∀y∈ys,B6 y.cps.toList=true)→Q (.ref p) H'
theorem T4{ys:List Str}{z:Str}(nd:ys.Nodup)(h:z∉ys)(j:Nat):(ys.set j z).Nodup:=by
 induction ys generalizing j with
 | nil=>exact nd
 | cons a ys ih=>
  rw [FZ]at nd;have h1:z≠a:=fun e=>h (by rw [e];exact Fq);have h2:z∉ys:=fun e=>h (Fp _ e)
  cases j with
  | zero=>exact FZ.mpr ⟨h2,nd.2⟩
  | succ j=>
   refine FZ.mpr ⟨fun e=>?_,ih nd.2 h2 j⟩;rcases List.mem_or_eq_of_mem_set e with e | e
   · exact nd.1 e
   · exact h1 e.symm
theorem J3f{n k:Nat}(h:k < n):ixN n (k:Int)=some k:=by
 unfold ixN;rw [if_pos (by omega),if_pos (by omega)];simp
theorem seven:(Str.ofString "7").cps.toList=[55]∧(Str.ofString "7").length=1:=by decide+kernel
theorem X8{ys:List Str}(nd:ys.Nodup){k:Nat}(h:k < ys.length):¬ys.getD k Str.empty∈ys.take k:=by
 intro z;obtain ⟨i,hi⟩:=FR.mp z;have hl:=(Fi.mp hi).1;rw [FC]at hl;rw [List.getElem?_take_of_lt (by omega)]at hi;have:=(List.getElem?_inj (by omega) nd).mp (hi.trans (X2 h).symm);omega
end N12
namespace L2
open N1 N5
def J5v(K:PySem.W.Frag):R2:=fun x y H Q=>S0 K H x y∧Q (.bl true) H
theorem X9{K:PySem.W.Frag}{H:Hp}{Q:VK}{x y:V}:J5v K x y H Q=(S0 K H x y∧Q (.bl true) H):=rfl
end L2
namespace N13
open L2 N1 N5 N4 N6 N12
open N53 (J5r)
end N13
namespace N41
open L2 N1 N5 N31 N4 N32
theorem Lu{ys:List Str}{k:Nat}(h:k < ys.length):ys[k]?=some (ys.getD k Str.empty):=by rw [Fg,Fe h];rfl
end N41
namespace L2
def Bf(K:PySem.W.Frag):Nat→Hp→V→V→Prop
 | 0,_,x,y=>x=y∧C9 x=true
 | n+1,H,x,y=>Bf K n H x y∨∃a b xs ys,x= .ref a∧y= .ref b∧((SqL K H a xs∧SqL K H b ys)∨(SqT K H a xs∧SqT K H b ys))∧xs.length=ys.length∧∀(i:Nat) (x' y':V),xs[i]?=some x'→ys[i]?=some y'→Bf K n H x' y'
def K1(K:PySem.W.Frag)(n:Nat)(H:Hp)(x y:V):Prop:=∃a b xs ys,x= .ref a∧y= .ref b∧((SqL K H a xs∧SqL K H b ys)∨(SqT K H a xs∧SqT K H b ys))∧xs.length=ys.length∧∀(i:Nat) (x' y':V),xs[i]?=some x'→ys[i]?=some y'→Bf K n H x' y'
theorem Bf.up{K:PySem.W.Frag}{H:Hp}{n:Nat}{x y:V}(h:Bf K n H x y):Bf K (n+1) H x y:=by unfold Bf;exact .inl h
theorem Bf.of{K:PySem.W.Frag}{H:Hp}{n:Nat}{x y:V}(h:K1 K n H x y):Bf K (n+1) H x y:=by unfold Bf;exact .inr h
theorem Bf.flat{K:PySem.W.Frag}{H:Hp}{x:V}(h:C9 x=true):∀{n:Nat},Bf K n H x x:=by
 intro n
 induction n with
 | zero=>unfold Bf;exact ⟨rfl,h⟩
 | succ n ih=>exact ih.up
section
variable {X:Cx} {pins:List (Addr×Obj)} {σ:St} {H:Hp} {s:Shared}
theorem O1{xs ys:List V}{us ws:List Value}{P:V→V→Prop}{R:Value→Value→Prop}(rx:Ag xs us)(ry:Ag ys ws)(hl:xs.length=ys.length)(h:∀(i:Nat) (x y:V),xs[i]?=some x→ys[i]?=some y→P x y)(k:∀x y u w,Ab x u→Ab y w→P x y→R u w):
 ∀j (h1:j < us.toArray.size) (h2:j < ws.toArray.size),R us.toArray[j] ws.toArray[j]:=by
 intro j h1 h2;have lx:=rx.length;have ly:=ry.length;rw [Fl]at h1 h2
 have hx:j < xs.length:=by omega
 have hy:j < ys.length:=by omega
 obtain ⟨u,hu,ru⟩:=rx.get (i:=j) (x:=xs[j]) (by simp [hx]);obtain ⟨w,hw,rw'⟩:=ry.get (i:=j) (x:=ys[j]) (by simp [hy])
 have eu:us.toArray[j]=u:=by
  have:=Fe h1;rw [this]at hu
  simpa using hu
 have ew:ws.toArray[j]=w:=by
  have:=Fe h2;rw [this]at hw
  simpa using hw
 rw [eu,ew];exact k _ _ _ _ ru rw' (h j _ _ (Fe hx) (Fe hy))
theorem O2{n:Nat}:((List.range n).all fun _=>true)=true:=by rw [FV];intros;rfl
theorem O3{n:Nat}{x y:V}{u w:Value}{A:Around}(I:Inv X pins σ H s)(rx:Ab x u)(ry:Ab y w)(h:K1 X.K n H x y)(hu:A.units < cLine)
 (k:∀x y u w,Ab x u→Ab y w→Bf X.K n H x y→SeqAt.EqAt A.in1 s u w true):SeqAt.RcAt A s u w true∧SeqAt.RcNeAt A s u w false:=by
 obtain ⟨a,b,xs,ys,rfl,rfl,hq,hl,hall⟩:=h;cases rx;cases ry;rcases hq with ⟨h1,h2⟩ | ⟨h1,h2⟩
 · obtain ⟨us,r1,p1,z1⟩:=I.list h1
   obtain ⟨ws,r2,p2,z2⟩:=I.list h2;have lx:=r1.length;have ly:=r2.length;have he:=O1 r1 r2 hl hall k;have c1:=SeqAt.RcAt.lists (e:=fun _=>true) p1.isList p2.isList (by simp;omega) hu he;have c2:=SeqAt.RcNeAt.lists (e:=fun _=>true) p1.isList p2.isList (by simp;omega) hu he;rw [O2]at c1 c2;exact ⟨c1,c2⟩
 · obtain ⟨us,r1,p1,z1⟩:=I.tuple h1
   obtain ⟨ws,r2,p2,z2⟩:=I.tuple h2;have lx:=r1.length;have ly:=r2.length;have he:=O1 r1 r2 hl hall k
   have hsz:us.toArray.size=ws.toArray.size:=by simp;omega
   have c1:=SeqAt.RcAt.tuples (e:=fun _=>true) (show s.heap.IsTuple a us.toArray from p1) (show s.heap.IsTuple b ws.toArray from p2) hu he;have c2:=SeqAt.RcNeAt.tuples (e:=fun _=>true) (show s.heap.IsTuple a us.toArray from p1) (show s.heap.IsTuple b ws.toArray from p2) hu he;rw [O2,hsz,HD,Bool.and_true]at c1 c2;exact ⟨c1,c2⟩
theorem Xa(I:Inv X pins σ H s):∀(n:Nat) (x y:V) (u w:Value) (A:Around),Ab x u→Ab y w→Bf X.K n H x y→A.units+n < cLine→SeqAt.EqAt A s u w true:=by
 intro n
 induction n with
 | zero=>
  intro x y u w A rx ry h hu;unfold Bf at h;obtain ⟨rfl,f⟩:=h;have:=Tu (A:=A) (s:=s) rx ry f f;rw [show eqV x x=true from Wh f]at this;exact this
 | succ n ih=>
  intro x y u w A rx ry h hu;unfold Bf at h;rcases h with h | h
  · exact ih x y u w A rx ry h (by omega)
  · have c:=O3 I rx ry h (by omega) (fun x y u w r1 r2 k=>ih x y u w A.in1 r1 r2 k (by show A.units+1+n < cLine;omega))
    obtain ⟨a,b,xs,ys,rfl,rfl,_⟩:=h;cases rx;cases ry
    by_cases e:a=b
    · subst e;exact SeqAt.EqAt.same _
    · exact SeqAt.EqAt.of_refs e c.1
def J5w(K:PySem.W.Frag)(n:Nat):R2:=fun x y H Q=>K1 K n H x y∧Q (.bl true) H
def J59(K:PySem.W.Frag)(n:Nat):R2:=fun x y H Q=>K1 K n H x y∧Q (.bl false) H
theorem J3g{k:Nat}(n:Nat)(hr:B0 k X.A)(hn:n≤100:=by decide):OpR X (compareOp .NotEq) (J59 X.K n):=by
 intro pins s σ H x y v u Q I rx ry h;have hu:X.A.units < cLine:=HP (by omega) hr.un;exact (O3 I rx ry h.1 hu (fun x y u w r1 r2 k=>Xa I n x y u w X.A.in1 r1 r2 k (by have:=hr.un;show X.A.units+1+n < cLine;omega))).2 X.prog X.w X.xe _ ⟨.bl false,H,I,rfl,h.2⟩
theorem Xb{K:PySem.W.Frag}{H:Hp}{Q:VK}{x y:V}{n:Nat}:J5w K n x y H Q=(K1 K n H x y∧Q (.bl true) H):=rfl
theorem Xc{K:PySem.W.Frag}{H:Hp}{Q:VK}{x y:V}{n:Nat}:J59 K n x y H Q=(K1 K n H x y∧Q (.bl false) H):=rfl
end
end L2
namespace N14
open L2 N1 N5 N4 N6 N12 N32
theorem T5{H H':Hp}{d:Addr}(s:A7 H H')(h:H' d=none):H d=none:=by
 cases e:H d with
 | none=>rfl
 | some o=>rw [s _ _ e]at h;cases h
theorem J01{H H':Hp}{l:Addr}{o:HO}(s:A7 H H')(hl:H l=none):A7 H (upd H' l o):=fun b u e=>by
 rw [A0 (fun h=>by rw [h,hl]at e;cases e)];exact s _ _ e
def Kp(M:List Addr)(H H':Hp):Prop:=∀b o,b∉M→H b=some o→H' b=some o
theorem Kp.trans{M:List Addr}{H H1 H2:Hp}(h1:Kp M H H1)(h2:Kp M H1 H2):Kp M H H2:=fun b o n e=>h2 b o n (h1 b o n e)
theorem Kp.of{M:List Addr}{H H1:Hp}(h:A7 H H1):Kp M H H1:=fun b o _ e=>h b o e
theorem Kp.upd{M:List Addr}{H H1:Hp}{p:Addr}{o:HO}(h:Kp M H H1)(hp:p∈M):Kp M H (upd H1 p o):=fun b u n e=>by
 have hb:b≠p:=fun e2=>n (by rw [e2];exact hp);rw [A0 hb];exact h b u n e
theorem J02{α:Type}{xs:List α}{y z:α}{i:Nat}(h:(xs++[y])[i]?=some z):(i < xs.length∧xs[i]?=some z)∨(i=xs.length∧z=y):=by
 rcases Nat.lt_or_ge i xs.length with h1 | h1
 · rw [Fs h1]at h;exact .inl ⟨h1,h⟩
 · rw [Fv h1]at h
   rcases Nat.eq_zero_or_pos (i - xs.length) with e | e
   · rw [e]at h;cases h;exact .inr ⟨by omega,rfl⟩
   · rw [HC (by simp;omega)]at h;cases h
theorem T6{K:PySem.W.Frag}{tail:L2.St}{te:Blk→TE}{Q:VK}{H1:Hp}{a:Addr}{as:List Addr}(x1 x2 x3:Nat→V)(P:Addr→Nat→V→Hp→Prop)(hP:∀D i y H H',P D i y H→SameBut D H H'→P D i y H')(hS:SqL K H1 a (as.map V.ref))(hz:as.length≤sizeLine)(hT:∀i p,as[i]?=some p→SqT K H1 p [x1 i,x2 i,x3 i])
 (he:∀b D i H Q' l,i < as.length→A7 H1 H→H1 D=none→H D=some (.lst l)→(∀y H',A7 H H'→P D i y H'→Q' y H')→te b (some (x1 i)::some (x2 i)::some (x3 i)::tail) H Q')
 (q:∀D ys H',H1 D=none→A7 H1 H'→H' D=some (.lst ys)→ys.length=as.length→(∀i y,ys[i]?=some y→P D i y H')→Q (.ref D) H'):Ar (none::none::none::tail) (g3 K) (fun _=>E6) te Q (Itl K a) H1:=by
 intro b D hD;refine ⟨fun i m ys H=>m=as.length - i∧i≤as.length∧ys.length=i∧H D=some (.lst ys)∧A7 H1 H∧∀j y,ys[j]?=some y→P D j y H,⟨_,rfl,FY _,rfl,A1,A7.new hD,by simp⟩,?_⟩;rintro i m ys H ⟨rfl,hi,hl,h,sm,hall⟩;refine ⟨h,?_⟩
 by_cases hlt:i < as.length
 · refine .inr ⟨⟨_,V.ref as[i],sm.seq hS,by simp [hlt]⟩,fun x H3 ⟨e3,ex⟩=>?_⟩
   subst e3;have hx:=ex _ (sm.seq hS)
   have hx':V.ref as[i]=x:=by simpa [hlt] using hx
   subst hx';refine ⟨as[i],_,rfl,sm.tup (hT i _ (by simp [hlt])),rfl,_,_,rfl,_,_,rfl,_,_,rfl,rfl,J1c,?_⟩;show E6 _ _ _;unfold E6;dsimp only;rw [if_pos rfl];refine he b D i _ _ ys hlt sm hD h fun y H4 sm4 py=>?_;have h4:=sm4 _ _ h
   have sb:SameBut D H4 (upd H4 D (.lst (ys++[y]))):=fun c o e n=>by rw [A0 n];exact e
   refine ⟨h4,by omega,as.length - (i+1),by omega,rfl,hlt,by rw [Fx,hl];rfl,A1,J01 (sm.trans sm4) hD,fun j y' e=>?_⟩;rcases J02 e with ⟨l1,c1⟩ | ⟨l1,c1⟩
   · exact hP _ _ _ _ _ (hP _ _ _ _ _ (hall j y' c1) (fun c o e n=>sm4 _ _ e)) sb
   · rw [c1,l1,hl];exact hP _ _ _ _ _ py sb
 · have e:i=as.length:=by omega
   subst e;exact .inl ⟨⟨_,sm.seq hS,by simp⟩,q D ys H hD sm h hl hall⟩
theorem T7(ns:List Int):∃cs:List Int,Eb (ns.map V.int) (some 4) (some 204)=cs.map V.int∧cs.length≤ns.length:=by
 unfold Eb;rw [← List.map_drop,← Hd];refine ⟨_,rfl,?_⟩;rw [FC,Rp];exact FH (Nat.min_le_right _ _) (Nat.sub_le _ _)
end N14
namespace L2
open PySem.W
theorem Fun.okCF{P:Program}{w:World}{K:PySem.W.Frag}{mg:Str→Option Value}{base:Heap}{x qual:Str}{st:Stmt}{f tp:Addr}{fd:FuncData}{N ps:List Str}{k:Nat}{sp:Sp}(F:Fun K x qual st f fd)(M:Yf K f tp)(S:Ah N ps (A8 st))(len:∀vs H Q E,sp vs H Q E→vs.length=ps.length)
 (hbody:∀(c:Addr) (A:Around) (outer:List Env) (s:Shared) (H:Hp) (vs:List V) (Q:VK) (E:XK),codeHdIn K c tp=true→B0 k (A.deeper (envOfC qual (A8 st) s.heap.objs.size f (.ref c)))→sp vs H Q E→
  ∃t,PSs (Dg (CXF P w) P w K mg base N qual (A8 st) f (.ref c) A outer s H E) (An st) t∧t {nx:=fun _ H'=>Q .non H',rt:=Q} (start N vs) H):B2 P w K mg base (CXF P w) (k+1) f fd ps sp:=by
 obtain ⟨oc,od,kV,doc,pm,an,cdv,ct,osl,rfl,lk,hcd⟩:=F.ex;obtain ⟨oc',od',fd',sl',c,lk',e,hc⟩:=M;rw [lk]at lk';cases lk';have e:cdv= .ref c:=e;subst e;exact J0l lk hcd S len fun A outer s H vs Q E hr hsp=>hbody c A outer s H vs Q E hc hr hsp
theorem As.mk2{ps:List Str}{sc:Scope}{x y:Str}{c d:Addr}(kind:sc.kind= .function)(co:sc.isCoroutine=false)(gen:sc.isGenerator=false)(nd:(ps++[x,y]).Nodup)(par:∀z∈ps,sc.names.lookup z=some .local)(nocell:∀z∈sc.names,z.2≠ .cell)
 (fr:∀z∈sc.names,z.2= .free→z.1=x∨z.1=y) (frx:sc.names.lookup x=some .free) (fry:sc.names.lookup y=some .free) (ne:c≠d) (nxy:(y==x)=false):As (ps++[x,y]) ps sc [(x,c),(y,d)]:=by
 have ly:List.lookup y [(x,c),(y,d)]=some d:=by rw [FL,nxy];exact Hz
 refine ⟨kind,co,gen,nd,rfl,par,nocell,fun z hz=>?_,fun p hp=>?_,fun z u e h1 h2=>?_⟩
 · rcases fr _ (Ft hz) rfl with e | e
   · have e:z=x:=e
     exact ⟨c,by rw [e,Hz]⟩
   · have e:z=y:=e
     exact ⟨d,by rw [e];exact ly⟩
 · simp only [FD,HZ,or_false]at hp
   rcases hp with e | e
   · rw [e];exact frx
   · rw [e];exact fry
 · have e1:=Ft h1
   have e2:=Ft h2;simp only [FD,HZ,or_false,Prod.mk.injEq]at e1 e2
   rcases e1 with e1 | e1 <;> rcases e2 with e2 | e2
   · rw [e1.1,e2.1]
   · exact absurd (e1.2.symm.trans e2.2) ne
   · exact absurd (e2.2.symm.trans e1.2) ne
   · rw [e1.1,e2.1]
section
variable {X:Cx} {scope:Scope} {x y z v:Str} {px py pz pt pv':Pos} {n i:Nat} {fs:List Nat} {elt iter c:Expr} {pos spos:Pos} {wi:TI} {tt:Blk→TT} {te:Blk→TE}
abbrev S1(K:PySem.W.Frag)(wi:TI)(fs:List Nat)(tt:Blk→TT)(te:Blk→TE):TE:=Ii wi 3 fs (g3 K) tt te
theorem Xd(x y z:Str)(fs:List Nat)(hN:X.N.Nodup)(hy:X.N[i]?=some v)(hyl:X.env.kindOf v=some .local)(hc:X.calm=true)(hok:B8 X.N X.env.scope scope [x,y,z] fs=true)(hi:PI X (.Tuple [.Name x px,.Name y py,.Name z pz] n pt) iter wi)(he:∀b,PE (X.blk scope ([x,y,z]++around X.N fs) b) elt (te b))
 (hsw:swapsWith (.ListComp elt [⟨.Tuple [.Name x px,.Name y py,.Name z pz] n pt,iter,[],0⟩] scope pos) (some (.Name v pv')) spos.line X.env=pure true:=by rfl)
 (hs:∀x,foldedSetIterable iter X.env x=pure x:=by intro _;rfl):PS X (.Assign [.Name v pv'] (.ListComp elt [⟨.Tuple [.Name x px,.Name y py,.Name z pz] n pt,iter,[],0⟩] scope pos) spos) (O8 (Wi X.K wi fs te) (B5 i)):=
 Lm (xs:=[x,y,z]) (g:=g3 X.K) (tt:=fun _=>E6) hN hy hyl hc hok hi (Qu hc hok) (fun _=>Ll) he hsw hs
theorem T8(x y z:Str)(fs:List Nat)(hN:X.N.Nodup)(hy:X.N[i]?=some v)(hyl:X.env.kindOf v=some .local)(hc:X.calm=true)(hok:B8 X.N X.env.scope scope [x,y,z] fs=true)(hi:PI X (.Tuple [.Name x px,.Name y py,.Name z pz] n pt) iter wi)(ht:∀b,PT (X.blk scope ([x,y,z]++around X.N fs) b) c (tt b))(he:∀b,PE (X.blk scope ([x,y,z]++around X.N fs) b) elt (te b))
 (hsw:swapsWith (.ListComp elt [⟨.Tuple [.Name x px,.Name y py,.Name z pz] n pt,iter,[c],0⟩] scope pos) (some (.Name v pv')) spos.line X.env=pure true:=by rfl)
 (hs:∀x,foldedSetIterable iter X.env x=pure x:=by intro _;rfl):PS X (.Assign [.Name v pv'] (.ListComp elt [⟨.Tuple [.Name x px,.Name y py,.Name z pz] n pt,iter,[c],0⟩] scope pos) spos) (O8 (S1 X.K wi fs tt te) (B5 i)):=
 Lm (xs:=[x,y,z]) (g:=g3 X.K) (tt:=tt) hN hy hyl hc hok hi (Qu hc hok) (fun b=>Gm (ht b)) he hsw hs
end
section
variable {K:PySem.W.Frag} {tail:St} {tt:Blk→TT} {te:Blk→TE} {Q:VK} {H1:Hp} {σ:St} {H:Hp}
theorem L0{wi:TI}{fs:List Nat}:S1 K wi fs tt te σ H Q=wi σ H (Ar (none::none::none::fs.map fun j=>σ.getD j none) (g3 K) tt te Q):=rfl
theorem Xe{a:Addr}{as:List Addr}(x1 x2 x3:Nat→V)(p:Nat→Bool)(f:Nat→V)(hS:SqL K H1 a (as.map V.ref))(hz:as.length≤sizeLine)(hT:∀i c,as[i]?=some c→SqT K H1 c [x1 i,x2 i,x3 i])
 (ht:∀b i H QT,i < as.length→A7 H1 H→(∀H',A7 H H'→QT (p i) H')→tt b (some (x1 i)::some (x2 i)::some (x3 i)::tail) H QT)
 (he:∀b i H Q',i < as.length→p i=true→A7 H1 H→(∀H',A7 H H'→Q' (f i) H')→te b (some (x1 i)::some (x2 i)::some (x3 i)::tail) H Q')
 (q:∀D H',H1 D=none→A7 H1 H'→H' D=some (.lst (((List.range as.length).filter p).map f))→Q (.ref D) H'):Ar (none::none::none::tail) (g3 K) tt te Q (Itl K a) H1:=by
 intro b D hD;refine ⟨fun i m ys H=>m=as.length - i∧i≤as.length∧ys=((List.range i).filter p).map f∧H D=some (.lst ys)∧A7 H1 H,⟨_,rfl,FY _,rfl,A1,Bm hD⟩,?_⟩;rintro i m ys H ⟨rfl,hi,rfl,hd,sm⟩;refine ⟨hd,?_⟩
 by_cases hlt:i < as.length
 · refine .inr ⟨⟨_,V.ref as[i],sm.seq hS,by simp [hlt]⟩,fun x H3 ⟨e3,ex⟩=>?_⟩
   subst e3;have hx:=ex _ (sm.seq hS)
   have hx':V.ref as[i]=x:=by simpa [hlt] using hx
   subst hx'
   have hl:(((List.range i).filter p).map f).length≤i:=by
    rw [Fa];exact FH (Hl _ _) (by rw [List.length_range];omega)
   have htk:(List.range (i+1)).filter p=(List.range i).filter p++[i].filter p:=by rw [List.range_succ,Hj]
   refine ⟨as[i],_,rfl,sm.tup (hT i _ (by simp [hlt])),rfl,_,_,rfl,_,_,rfl,_,_,rfl,rfl,J1c,?_⟩;refine ht b i _ _ hlt sm fun H7 s7=>?_
   by_cases hp:p i=true
   · rw [if_pos hp]
     refine he b i H7 _ hlt hp (sm.trans s7) fun H8 s8=>?_;have hd8:=(s7.trans s8) _ _ hd;refine ⟨hd8,by omega,as.length - (i+1),by omega,rfl,hlt,?_,A1,Nq ((sm.trans s7).trans s8) hD⟩;rw [htk,Hi hp,Hu,FK];rfl
   · rw [if_neg hp]
     refine ⟨as.length - (i+1),by omega,rfl,hlt,?_,s7 _ _ hd,sm.trans s7⟩;rw [htk,R0 hp,Hu,FF]
 · have e:i=as.length:=by omega
   subst e;exact .inl ⟨⟨_,sm.seq hS,by simp⟩,q D H hD sm hd⟩
end
def J5a(qual:Str)(s:Stmt):Nj:=match s with
 | .FunctionDef name args body _ _ _ scope _ _ _=>⟨name,qual,args,body,scope⟩
 | _=>⟨"","",⟨[],[],none,[],[],none,[]⟩,[],{kind:= .function,names:=[],isGenerator:=false,isCoroutine:=false}⟩
theorem J03{X:Cx}{E:Value→Shared→Prop}:IxR (X.wish E) (J28 X.K):=Lc (X:=X.wish E)
theorem O4{l:PySem.W.OpenLaw}{n k:Nat}{q:Program}{loose:List Str}{XP:(Str→Option Value)→Heap→Prop}{YP:World→Heap→Prop}{d:DefRec}{K:Params→PySem.W.Frag}{sp:PySem.W.Frag→Sp}{x:Str}{tps:List Addr}
 (hn:l.most=some n) (hn2:n≤sizeLine) (hdf:d.params.defaults=[]) (hr:B0 k callerA)
 (hY:∀(w:World) (h:Heap),YP w h→(K w.params).In h) (hT:∀(w:World) (h:Heap),YP w h→∀tp∈tps,h.get? tp=some (tabObj #[])) (hKt:∀w:World,∀tp∈tps,(K w.params).lookup tp=none)
 (F:∀(w:World) (mg:Str→Option Value) (fa:Addr) (h:Heap),(K w.params).In h→h.Ns mainGlobals mg→mg d.name=some (.ref fa)→
  (∀tp∈tps,∃c,codeHdIn (K w.params) c tp=true)∧∃fd:FuncData,(∀(s:Shared) (u:Value),BindsTo s fd ⟨[u],[]⟩ [(x,u)])∧
   ∀base:Heap,(K w.params).In base→base.Ns mainGlobals mg→(∀tp∈tps,base.BuiltinsAt mg tp)→B2 l.prog w (K w.params) mg base (CXF l.prog w) k fa fd [x] (sp (K w.params)))
 (hsp:∀(K:PySem.W.Frag) (H:Hp) (a:Addr) (ns:List Int),ns.length≤n→Oj tps H→SqL K H a (ns.map V.int)→sp K [.ref a] H (fun v _=>v= .bl true) fun _ _ _=>False):
 PySem.W.WalkO q loose XP YP l.row.toRowW d [] (fun f vs=>PySem.call f vs):=by
 refine Att.Ma hn hdf fun w s₀ s₁ mg mb fa o pm cd doc a vs ns G Y ho hd hcd hmg hobj hints hlen hg=>?_;have KX:=hY w _ Y;obtain ⟨hcs,fd,hb,hF⟩:=F w mg fa _ KX G.T.g hmg
 have hct:∀tp∈tps,isCodeTable s₁.heap tp:=fun tp htp=>by
  obtain ⟨c,hc⟩:=hcs tp htp;obtain ⟨o,vs,f,tf,fl,tg,b,n,tt,e1,e2,e3,e4,_⟩:=codeHd_of_K KX hc;exact ⟨c,o,vs,e1,e2,e3,e4⟩
 exact Ol KX G.T.g G.T.b G.T.builtins G.T.nolimit hg hobj hints (FH hlen hn2) hr (hT w _ Y) hct (hKt w) G.T.bmain hF hb (fun H hO hS=>hsp (K w.params) H a ns hlen hO hS) fun H e s' z=>by
  obtain ⟨_,_,_,_,_,_,_,_,_,_,_,_,_,_,_,z⟩:=z;exact z
end L2
namespace N16
open L2 N1 N5 N4 N6 N12 N14 N53 N51 N55 N32 N41 NPb
def Ox(M:List Addr)(J:List Str→Hp→Prop)(good:Str→Prop)(g:Str→Int)(U:Addr):Sp:=fun vs H Q E=>∃(z:Str) (l:List Str),vs=[.str z]∧l.length≤250∧J l H∧(good z→∀H',Kp M H H'→J (l++[z]) H'→Q (.int (g z)) H')∧
 (¬good z→∀H' x,Kp M H H'→H x=none→Wr U H' x (.str z) (.int (-1))→E (.ref U) (some x) H')
structure Wf(P:Program)(w:World)(K:PySem.W.Frag)(mg:Str→Option Value)(base:Heap)(U:Addr) where
 f:Addr
 M:List Addr
 J:List Str→Hp→Prop
 good:Str→Prop
 g:Str→Int
 ok:Da P w K mg base (CXF P w) 6 f (fun H=>∃l,J l H) (Ox M J good g U)
def msn(bs:List Bk5):List Str:=(bs.filter fun r=>!r.2.2.1).map fun r=>r.2.1
theorem Eo{H:Hp}{bs:List Bk5}(h:∀r∈bs,H r.1=some (.tup [.str r.2.1,.bl r.2.2.1,.ref r.2.2.2])):(((bs.map fun r=>V.ref r.1).filter (K6 H)).map (nmV H))=msn bs:=by
 induction bs with
 | nil=>rfl
 | cons r bs ih=>
  have hr:=h r Fq;have e:=Gr hr;have e2:=Wx hr;have ih':=ih fun x hx=>h x (Fp _ hx);unfold msn at ih' ⊢;rw [List.map_cons,List.filter_cons,List.filter_cons,e]
  by_cases hb:(!r.2.2.1)=true
  · rw [if_pos hb,if_pos hb,List.map_cons,List.map_cons,ih',e2]
  · rw [if_neg hb,if_neg hb,ih']
theorem Gs{g:Str→Int}{bs:List Bk5}:wsm g bs=((msn bs).map g).sum:=by unfold wsm msn;rw [Fz];rfl
theorem S2{bs:List Bk5}:(msn bs).length≤bs.length:=by unfold msn;rw [Fa];exact Hl _ _
theorem T9{K:PySem.W.Frag}{H1:Hp}{tail:L2.St}{tt:Blk→TT}{te:Blk→TE}{Q:VK}{a:Addr}{xs:List V}(M:List Addr)(J:List Str→Hp→Prop)(good:Str→Prop)(p:V→Bool)(nm:V→Str)(g:Str→Int)(hS:SqL K H1 a xs)(hzl:xs.length≤250)(hz:250≤sizeLine)
 (hL:∀H,Kp M H1 H→SqL K H a xs) (hJ:∀l D H H',H1 D=none→SameBut D H H'→J l H→J l H') (j0:J [] H1)
 (ht:∀b x H QT,x∈xs→Kp M H1 H→QT (p x) H→tt b (some x::tail) H QT)
 (he:∀b i x H Q',xs[i]?=some x→p x=true→Kp M H1 H→J (((xs.take i).filter p).map nm) H→(∀y∈((xs.take i).filter p).map nm,good y)→(good (nm x)→∀H',Kp M H H'→J (((xs.take i).filter p).map nm++[nm x]) H'→Q' (.int (g (nm x))) H')→te b (some x::tail) H Q')
 (q:∀D H',H1 D=none→Kp M H1 H'→H' D=some (.lst (((xs.filter p).map fun x=>V.int (g (nm x)))))→J ((xs.filter p).map nm) H'→(∀y∈(xs.filter p).map nm,good y)→Q (.ref D) H') (hM:∀m∈M,H1 m≠none):Ar (none::tail) (fun _=>B5 0) tt te Q (Itl K a) H1:=by
 intro b D hD;have nD:D∉M:=fun h=>hM D h hD;refine ⟨fun i m ys H=>m=xs.length - i∧i≤xs.length∧ys=((xs.take i).filter p).map (fun x=>V.int (g (nm x)))∧H D=some (.lst ys)∧Kp M H1 H∧J (((xs.take i).filter p).map nm) H∧∀y∈((xs.take i).filter p).map nm,good y,⟨_,rfl,FY _,rfl,A1,Kp.of (A7.new hD),hJ _ D _ _ hD (fun b o e n=>by rw [A0 n];exact e) j0,fun y hy=>by simp at hy⟩,?_⟩;rintro i m ys H ⟨rfl,hi,rfl,hd,kp,hj,hg⟩;refine ⟨hd,?_⟩
 by_cases hlt:i < xs.length
 · refine .inr ⟨⟨xs,xs[i],hL _ kp,by simp [hlt]⟩,fun x H3 ⟨e3,ex⟩=>⟨V6,?_⟩⟩
   subst e3;have hx:=ex xs (hL _ kp);have hm:=Fk hx
   have hl:(((xs.take i).filter p).map (fun x=>V.int (g (nm x)))).length≤i:=by
    rw [Fa];exact FH (Hl _ _) (by rw [FC];omega)
   have htk:xs.take (i+1)=xs.take i++[x]:=by rw [FW,hx];rfl
   refine ht b x _ _ hm kp ?_
   by_cases hp:p x=true
   · rw [if_pos hp]
     refine he b i x _ _ hx hp kp hj hg fun gx H8 k8 j8=>?_;have hd8:=k8 _ _ nD hd
     have ef:(xs.take (i+1)).filter p=(xs.take i).filter p++[x]:=by rw [htk,Hj,Hi hp,Hu]
     refine ⟨hd8,by omega,xs.length - (i+1),by omega,rfl,hlt,?_,A1,fun b' o n e=>?_,?_,fun y hy=>?_⟩
     · rw [ef,FK];rfl
     · rw [A0 (A3 e hD)];exact k8 _ _ n (kp _ _ n e)
     · rw [ef,FK]
       exact hJ _ D _ _ hD (fun b o e n=>by rw [A0 n];exact e) j8
     · rw [ef,FK]at hy
       rcases He.mp hy with hy | hy
       · exact hg y hy
       · rw [Fj.mp hy];exact gx
   · rw [if_neg hp]
     have ef:(xs.take (i+1)).filter p=(xs.take i).filter p:=by rw [htk,Hj,R0 hp,Hu,FF]
     exact ⟨xs.length - (i+1),by omega,rfl,hlt,by rw [ef],hd,kp,by rw [ef];exact hj,by rw [ef];exact hg⟩
 · have e:i=xs.length:=by omega
   subst e;rw [Hs]at hg hj hd;exact .inl ⟨⟨xs,hL _ kp,Fn _⟩,q D H hD kp hd hj hg⟩
theorem J3h{xs:List V}{i:Nat}{x:V}{p:V→Bool}{nm:V→Str}(hx:xs[i]?=some x)(hp:p x=true):∃l2,(xs.filter p).map nm=((xs.take i).filter p).map nm++nm x::l2:=by
 refine ⟨((xs.drop (i+1)).filter p).map nm,?_⟩
 have e:xs=xs.take i++x::xs.drop (i+1):=by
  have hl:=(Fi.mp hx).1;have h2:=List.drop_eq_getElem_cons hl;have h3:xs[i]=x:=(Fi.mp hx).2;rw [h3]at h2;rw [← h2,List.take_append_drop]
 conv=>lhs;rw [e]
 rw [Hj,Hi hp,FK,List.map_cons]
theorem J5b(xs:List Str)(lo hi:Option Int):∃ys:List Str,Eb (xs.map V.str) lo hi=ys.map V.str∧ys.length≤xs.length:=by
 unfold Eb;rw [← List.map_drop,← Hd];refine ⟨_,rfl,?_⟩;rw [FC,Rp];exact FH (Nat.min_le_right _ _) (Nat.sub_le _ _)
theorem Xf{b a:Addr}{l:List Addr}(h:b∈l)(n:a∉l):b≠a:=fun e=>n (e▸h)
def dkv(xs:List Str)(C:Str→Int):List (Key×V):=xs.map fun y=>(Sum.inr y,V.int (C y))
theorem Lv{xs:List Str}{C:Str→Int}{z:Str}{v:Int}:E5 (dkv xs C) (Sum.inr z) (.int v)=dkv (if z∈xs then xs else xs++[z]) (fun y=>if y=z then v else C y):=by
 have ha:((dkv xs C).any fun kv=>decide (kv.1=(Sum.inr z:Key)))=true↔z∈xs:=by
  unfold dkv;rw [List.any_map,Rq];constructor
  · rintro ⟨y,hy,e⟩
    have e:(Sum.inr y:Key)=Sum.inr z:=of_decide_eq_true e;cases e;exact hy
  · exact fun h=>⟨z,h,Fy rfl⟩
 unfold E5
 by_cases h:z∈xs
 · rw [if_pos (ha.mpr h),if_pos h]
   unfold dkv;rw [Fz];refine Ht fun y _=>?_;show (if (Sum.inr y:Key)=Sum.inr z then ((Sum.inr y:Key),V.int v) else (Sum.inr y,V.int (C y)))=(Sum.inr y,V.int (if y=z then v else C y))
   by_cases e:y=z
   · rw [if_pos (by rw [e]),if_pos e]
   · rw [if_neg (fun z'=>e (Sum.inr.inj z')),if_neg e]
 · rw [if_neg (fun z'=>h (ha.mp z')),if_neg h]
   unfold dkv;rw [FK];congr 1
   · refine Ht fun y hy=>?_
     show (_,_)=(_,V.int (if y=z then v else C y));rw [if_neg fun e=>h (by rw [← e];exact hy)]
   · show [((Sum.inr z:Key),V.int v)]=[(Sum.inr z,V.int (if z=z then v else C z))]
     rw [if_pos rfl]
theorem Ep{C:Str→Int}{z:Str}:∀xs:List Str,Bc (dkv xs C) (Sum.inr z)=if z∈xs then some (.int (C z)) else none
 | []=>rfl
 | y::r=>by
  have ih:=Ep (C:=C) (z:=z) r;unfold Bc dkv at ih ⊢;rw [List.map_cons,Hk]
  by_cases e:y=z
  · subst e
    rw [show decide ((Sum.inr y:Key)=Sum.inr y)=true from Fy rfl,if_pos Fq];rfl
  · rw [show decide ((Sum.inr y:Key)=Sum.inr z)=false from FB fun z'=>e (Sum.inr.inj z')]
    refine Eq.trans ih ?_
    by_cases h:z∈r
    · rw [if_pos h,if_pos (Fp _ h)]
    · rw [if_neg h,if_neg fun h'=>by
       rcases FD.mp h' with e' | e'
       · exact e e'.symm
       · exact h e']
theorem E2{xs:List Str}{C:Str→Int}:(dkv xs C).length=xs.length:=Fa ..
def ths(xs:List Str)(C:Str→Int):List Th:=xs.map fun y=>(y,C y,1)
theorem G8(xs:List Str)(C:Str→Int):(ths xs C).map (·.1)=xs:=by unfold ths;rw [Fz];exact List.map_id xs
theorem J3i{K:PySem.W.Frag}{H:Hp}{D:Addr}{yl:List V}{xs:List Str}{C:Str→Int}(hC:∀y,0≤C y∧C y≤10 ^ 30)(hD:H D=some (.lst yl))(hl:yl.length=xs.length)(hm:xs.length≤60)(nd:xs.Nodup)(hn:∀x∈xs,B6 x.cps.toList=true)
 (hall:∀i y,yl[i]?=some y→∃t,y=V.ref t∧SqT K H t [.str (xs.getD i Str.empty),.int (C (xs.getD i Str.empty)),.int 1]):∃as,yl=as.map V.ref∧Ov K H D as (ths xs C):=by
 have e:yl=(yl.map aOf).map V.ref:=by
  rw [Fz];refine (List.map_id yl).symm.trans (Ht fun y hy=>?_);obtain ⟨i,hi⟩:=FR.mp hy;obtain ⟨t,rfl,_⟩:=hall i y hi;rfl
 have hlen:(ths xs C).length=xs.length:=by unfold ths;rw [Fa]
 refine ⟨yl.map aOf,e,⟨by rw [← e];exact SqL.of hD,by rw [Fa,hlen,hl],by rw [hlen];exact hm,fun i a t h1 h2=>?_,fun t ht=>?_,by rw [G8];exact nd⟩⟩
 · have hi:i < xs.length:=by rw [← hlen];exact (Fi.mp h2).1
   unfold ths at h2;rw [Fm,Lu hi]at h2;cases h2;rw [Fm]at h1
   cases hy':yl[i]? with
   | none=>rw [hy']at h1;cases h1
   | some y=>
    rw [hy']at h1;obtain ⟨t,rfl,hs⟩:=hall i y hy';cases h1;exact hs
 · obtain ⟨x,hx,rfl⟩:=Fw.mp ht
   exact ⟨hn x hx,(hC x).1,(hC x).2,by show (1:Int)≤1;decide,by show (1:Int)≤_;decide⟩
theorem J04{xs:List Str}{C:Str→Int}(nd:xs.Nodup){z:Str}(hz:z∈xs):cst (ths xs C) z=C z:=by
 obtain ⟨i,hi⟩:=FR.mp hz
 have h:(ths xs C)[i]?=some (z,C z,1):=by unfold ths;rw [Fm,hi];rfl
 exact Ww (ts:=ths xs C) (by rw [G8];exact nd) h
def gN(kvs:List (Key×V))(N:Str→Int)(z:Str):Int:=if (Bc kvs (Sum.inr z)).isNone then 10 ^ 33+7 else N z
structure SJ(L:Nj)(cl:List (Str×Addr))(f nu hd:Addr)(kvs:List (Key×V))(l:List Str)(H:Hp):Prop where
 d:J1a L cl H f
 c:B4 H cl [V.ref nu,V.ref hd]
 n:H nu=some (.dK kvs)
 h:H hd=some (.lst (l.map V.str))
theorem SJ.kp{L:Nj}{cl:List (Str×Addr)}{f nu hd:Addr}{kvs:List (Key×V)}{l l':List Str}{H H':Hp}(j:SJ L cl f nu hd kvs l H)(k:Kp [hd] H H')(h:H' hd=some (.lst (l'.map V.str))):SJ L cl f nu hd kvs l' H':=by
 have up:∀b o,(∀xs,o≠ .lst xs)→H b=some o→H' b=some o:=fun b o no e=>k b o (fun z=>by rw [Fj.mp z,j.h]at e;cases e;exact no _ rfl) e;obtain ⟨pm,cd,ct,doc,a,b⟩:=j.d;exact ⟨⟨pm,cd,ct,doc,up _ _ (fun _ z=>by cases z) a,up _ _ (fun _ z=>by cases z) b⟩,Paired.mapP j.c fun p v ⟨o,u,a,b⟩=>⟨o,u,up _ _ (fun _ z=>by cases z) a,b⟩,up _ _ (fun _ z=>by cases z) j.n,h⟩
theorem J3j(ys:List Str)(m:Nat)(h:m≤ys.length):Eb (ys.map V.str) none (some (m:Int))=(ys.take m).map V.str:=by
 unfold Eb
 have e:HT.sIx (ys.map V.str).length (ys.map V.str).length (some (m:Int))=m:=by rw [Fa,HT.P3];exact Nat.min_eq_left h
 have e0:HT.sIx (ys.map V.str).length 0 none=0:=rfl;rw [e,e0,List.drop_zero,Nat.sub_zero,Hd]
theorem Xg{α β:Type}(bs:List α)(b0:α)(P:α→Bool)(g:α→β):((List.range bs.length).filter fun i=>P (bs.getD i b0)).map (fun i=>g (bs.getD i b0))=(bs.filter P).map g:=by
 have e:bs=(List.range bs.length).map fun i=>bs.getD i b0:=by
  apply List.ext_getElem
  · simp
  · intro i h1 h2;simp [Fg,h1]
 conv=>rhs;rw [e]
 rw [List.filter_map,Fz];rfl
def b0:Bk5:=(0,Str.empty,false,0)
theorem Er{bs:List Bk5}{i:Nat}(h:i < bs.length):bs[i]?=some (bs.getD i b0):=by rw [Fg,Fe h];rfl
theorem Lw(xs:List V):Eb xs none (some 1)=xs.take 1:=by
 unfold Eb;have e:HT.sIx xs.length xs.length (some ((1:Nat):Int))=min 1 xs.length:=HT.P3 ..;have e:HT.sIx xs.length xs.length (some 1)=min 1 xs.length:=e;have e0:HT.sIx xs.length 0 none=0:=rfl;rw [e,e0,List.drop_zero,Nat.sub_zero]
 cases xs with
 | nil=>rfl
 | cons x r=>rw [Nat.min_eq_left (by rw [List.length_cons];omega)]
def Be(P:Program)(w:World)(K:PySem.W.Frag)(mg:Str→Option Value)(base:Heap)(U:Addr):Sp:=fun vs H Q E=>∃(p:Addr) (b:Wf P w K mg base U) (bs:List Bk5),vs=[.ref p,.ref b.f]∧Dm H p bs∧bs.length≤250∧p∉b.M∧(∀r∈bs,r.1∉b.M)∧(∀m∈b.M,H m≠none)∧b.J [] H∧(∀l D H1 H2,H D=none→SameBut D H1 H2→b.J l H1→b.J l H2)∧
 ((∀z∈msn bs,b.good z)→∀H',Kp b.M H H'→b.J (msn bs) H'→Q (.int (wsm b.g bs)) H')∧(∀l1 z l2,msn bs=l1++z::l2→(∀y∈l1,b.good y)→¬b.good z→∀H' x,Kp b.M H H'→(x∉b.M→H x=none)→Wr U H' x (.str z) (.int (-1))→E (.ref U) (some x) H')
def Bu(tp:Addr)(pos:Pos)(qual:Str):Sp:=fun vs H Q _=>∃(p:Addr) (bs:List Bk5),vs=[.ref p]∧Dm H p bs∧bs.length≤250∧Av tp pos qual H∧∀H',Tk tp pos qual H H'→Q (.int (msn bs).length) H'
def Cm(tp:Addr)(pos:Pos)(qual:Str)(K:PySem.W.Frag)(C U:Addr):Sp:=fun vs H Q E=>∃(st p:Addr) (ts:List Th) (bs:List Bk5),vs=[.ref st,.ref p]∧Ai K C H st ts∧(ts.map (·.1)).Nodup∧Dm H p bs∧bs.length≤250∧Av tp pos qual H∧
 ((∀z∈msn bs,z∈ts.map (·.1))→∀H',Tk tp pos qual H H'→Q (.int (wsm (cst ts) bs)) H')∧(∀l1 z l2,msn bs=l1++z::l2→(∀y∈l1,y∈ts.map (·.1))→z∉ts.map (·.1)→∀H' x,Tk tp pos qual H H'→H x=none→Wr U H' x (.str z) (.int (-1))→E (.ref U) (some x) H')
theorem Lx{a b A B:Int}(a0:0≤a)(b0:0≤b)(ha:a≤A)(hb:b≤B):0≤a * b∧a * b≤A * B:=⟨Int.mul_nonneg a0 b0,Int.mul_le_mul ha hb b0 (by omega)⟩
def Do:Sp:=fun vs H Q _=>∃c k:Int,vs=[.int c,.int k]∧0≤k∧k≤1000∧∀v:Int,0≤v→v≤10 ^ 10→Q (.int v) H
def D6:Sp:=fun vs H Q _=>∃c k:Int,vs=[.int c,.int k]∧0≤k∧k≤1000∧∀v:Int,0≤v→v < 10 ^ 60→Q (.int v) H
def C5:Sp:=fun vs H Q _=>∃i j:Int,vs=[.int i,.int j]∧Q (.bl (decide (i=j))) H
structure BkG(H:Hp)(p:Addr)(bs:List Bk5)(gs:List (List Str)):Prop where
 b:Dm H p bs
 l:gs.length=bs.length
 g:∀(i:Nat) r g,bs[i]?=some r→gs[i]?=some g→H r.2.2.2=some (.lst (g.map V.str))∧g.length≤2
theorem BkG.same{H H':Hp}{p:Addr}{bs:List Bk5}{gs:List (List Str)}(h:BkG H p bs gs)(s:A7 H H'):BkG H' p bs gs:=⟨h.b.same s,h.l,fun i r g h1 h2=>⟨s _ _ (h.g i r g h1 h2).1,(h.g i r g h1 h2).2⟩⟩
theorem E3{bs:List Bk5}:msn bs=((brs bs).filter fun r=>!r.2).map fun r=>r.1:=by unfold msn brs;rw [List.filter_map,Fz];rfl
theorem Xh:∀(ys:List V) (bs:List Bk5) (F:Nat→Addr→Addr→Prop),ys.length=bs.length→(∀i y,ys[i]?=some y→∃t g,y= .ref t∧F i t g)→∃bs':List Bk5,ys=bs'.map (fun r=>V.ref r.1)∧brs bs'=brs bs∧∀(i:Nat) r,bs'[i]?=some r→F i r.1 r.2.2.2
 | [],[],_,_,_=>⟨[],rfl,rfl,by simp⟩
 | [],_::_,_,h,_=>by cases h
 | _::_,[],_,h,_=>by cases h
 | y::ys,b::bs,F,hl,h=>by
  obtain ⟨t,g,e,hF⟩:=h 0 y rfl;obtain ⟨bs',e1,e2,h2⟩:=Xh ys bs (fun i=>F (i+1)) (Nat.succ.inj hl) (fun i z hz=>h (i+1) z hz);refine ⟨(t,b.2.1,b.2.2.1,g)::bs',by rw [e,e1];rfl,?_,fun i r hr=>?_⟩
  · unfold brs at e2 ⊢
    rw [List.map_cons,List.map_cons,e2]
  · cases i with
    | zero=>cases hr;exact hF
    | succ i=>exact h2 i r hr
theorem Xi{bs bs':List Bk5}(e:brs bs'=brs bs){i:Nat}{r:Bk5}(h:bs'[i]?=some r):i < bs.length∧r.2.1=(bs.getD i b0).2.1∧r.2.2.1=(bs.getD i b0).2.2.1:=by
 have h1:(brs bs')[i]?=some (r.2.1,r.2.2.1):=by unfold brs;rw [Fm,h];rfl
 rw [e]at h1;unfold brs at h1
 have hi:i < bs.length:=by have:=(Fi.mp h1).1;rw [Fa]at this;exact this
 rw [Fm,Er hi]at h1;have h1:=FM h1;exact ⟨hi,(Rr h1).1.symm,(Rr h1).2.symm⟩
theorem J3k{H:Hp}{D:Addr}{ys:List V}{bs:List Bk5}{gs:List (List Str)}(hD:H D=some (.lst ys))(hl:ys.length=bs.length)(gl:gs.length=bs.length)(g2:∀g∈gs,g.length≤2)
 (hall:∀i y,ys[i]?=some y→∃t g,y=V.ref t∧H t=some (.tup [.str (bs.getD i b0).2.1,.bl (bs.getD i b0).2.2.1,.ref g])∧H g=some (.lst ((gs.getD i []).map V.str))):∃bs',BkG H D bs' gs∧brs bs'=brs bs:=by
 obtain ⟨bs',e1,e2,h2⟩:=Xh ys bs (fun i t g=>H t=some (.tup [.str (bs.getD i b0).2.1,.bl (bs.getD i b0).2.2.1,.ref g])∧H g=some (.lst ((gs.getD i []).map V.str))) hl hall
 have el:bs'.length=bs.length:=by have:=congrArg List.length e2;unfold brs at this;rw [Fa,Fa]at this;exact this
 refine ⟨bs',⟨⟨by rw [hD,e1],fun r hr=>?_⟩,by omega,fun i r g h1 h3=>?_⟩,e2⟩
 · obtain ⟨i,hi⟩:=FR.mp hr
   obtain ⟨_,a,b⟩:=Xi e2 hi;rw [a,b];exact (h2 i r hi).1
 · refine ⟨?_,g2 g (Fk h3)⟩
   have:=(h2 i r h1).2;rw [Fg,h3]at this;exact this
abbrev okM(H:Hp):Prop:=Av 246 (⟨94,25,94,39⟩:Pos) (("missed_by"++".<locals>.")++"<lambda>") H
abbrev okP(H:Hp):Prop:=Av 253 (⟨96,25,96,57⟩:Pos) (("paid_by"++".<locals>.")++"<lambda>") H
abbrev okU(H:Hp):Prop:=Av 309 (⟨145,4,147,56⟩:Pos) (("_law_summed"++".<locals>.")++"_law_weigh") H
theorem Gu{tp:Addr}{pos:Pos}{qual:Str}{H H':Hp}(t:Tk tp pos qual H H')(h:Av tp pos qual H)(b:Addr)(o:HO)(no:∀x,o≠ .tbl x)(e:H b=some o):H' b=some o:=by
 obtain ⟨tb,htb⟩:=Cb h
 exact t.1 b o e fun z=>by rw [z,htb]at e;cases e;exact no _ rfl
theorem Bx{tp tp':Addr}{pos pos':Pos}{qual qual':Str}{H H':Hp}(ne:tp'≠tp)(t:Tk tp pos qual H H')(h:Av tp pos qual H)(h':Av tp' pos' qual' H):Av tp' pos' qual' H':=by
 rcases h' with e | ⟨c,e1,e2⟩
 · exact .inl (t.1 _ _ e ne)
 · exact .inr ⟨c,t.1 _ _ e1 ne,Gu t h _ _ (fun _ z=>by cases z) e2⟩
structure S16(K:PySem.W.Frag)(Cs cd st bk hh mi nu sg:Addr)(o:Obj)(X:List Str)(C:Str→Int)(bs bs':List Bk5)(gs:List (List Str))(xs:List Str)(N:Str→Int)(sl:List Str)(H:Hp):Prop where
 b:BkG H bk bs gs
 h:BkG H hh bs' gs
 s:Ai K Cs H st (ths X C)
 d:H cd=some (.frz o (.dK (dkv X C)))
 m:H mi=some (.lst ((msn bs).map V.str))
 n:H nu=some (.dK (dkv xs N))
 g:H sg=some (.lst (sl.map V.str))
 lM:okM H
 lP:okP H
 lU:okU H
section
variable {K:PySem.W.Frag} {Cs cd st bk hh mi nu sg:Addr} {o:Obj} {X:List Str} {C:Str→Int} {bs bs':List Bk5} {gs:List (List Str)} {xs:List Str} {N:Str→Int} {sl:List Str} {H H':Hp}
theorem S16.sf(S:S16 K Cs cd st bk hh mi nu sg o X C bs bs' gs xs N sl H)(k:∀b o,(∀x,o≠ .tbl x)→H b=some o→H' b=some o)(s:Ai K Cs H' st (ths X C))(lM:okM H')(lP:okP H')(lU:okU H'):S16 K Cs cd st bk hh mi nu sg o X C bs bs' gs xs N sl H':=
 have kb:∀{p:Addr} {bs:List Bk5},BkG H p bs gs→BkG H' p bs gs:=fun B=>⟨⟨k _ _ (fun _ z=>by cases z) B.b.l,fun r hr=>k _ _ (fun _ z=>by cases z) (B.b.t r hr)⟩,B.l,fun i r g h1 h2=>⟨k _ _ (fun _ z=>by cases z) (B.g i r g h1 h2).1,(B.g i r g h1 h2).2⟩⟩
 ⟨kb S.b,kb S.h,s,k _ _ (fun _ z=>by cases z) S.d,k _ _ (fun _ z=>by cases z) S.m,k _ _ (fun _ z=>by cases z) S.n,k _ _ (fun _ z=>by cases z) S.g,lM,lP,lU⟩
theorem S16.same(S:S16 K Cs cd st bk hh mi nu sg o X C bs bs' gs xs N sl H)(s:A7 H H'):S16 K Cs cd st bk hh mi nu sg o X C bs bs' gs xs N sl H':=S.sf (fun b o _ e=>s b o e) (S.s.same s) (Dn s S.lM) (Dn s S.lP) (Dn s S.lU)
theorem S16.tM(S:S16 K Cs cd st bk hh mi nu sg o X C bs bs' gs xs N sl H)(t:Tk 246 (⟨94,25,94,39⟩:Pos) (("missed_by"++".<locals>.")++"<lambda>") H H'):S16 K Cs cd st bk hh mi nu sg o X C bs bs' gs xs N sl H':=
 let ⟨_,htb⟩:=Cb S.lM
 S.sf (Gu t S.lM) (Ai.odd t.1 htb (.inl ⟨_,rfl⟩) S.s) t.2 (Bx (by decide) t S.lM S.lP) (Bx (by decide) t S.lM S.lU)
theorem S16.tP(S:S16 K Cs cd st bk hh mi nu sg o X C bs bs' gs xs N sl H)(t:Tk 253 (⟨96,25,96,57⟩:Pos) (("paid_by"++".<locals>.")++"<lambda>") H H'):S16 K Cs cd st bk hh mi nu sg o X C bs bs' gs xs N sl H':=
 let ⟨_,htb⟩:=Cb S.lP
 S.sf (Gu t S.lP) (Ai.odd t.1 htb (.inl ⟨_,rfl⟩) S.s) (Bx (by decide) t S.lP S.lM) t.2 (Bx (by decide) t S.lP S.lU)
theorem S16.tU(S:S16 K Cs cd st bk hh mi nu sg o X C bs bs' gs xs N sl H)(t:Tk 309 (⟨145,4,147,56⟩:Pos) (("_law_summed"++".<locals>.")++"_law_weigh") H H'):S16 K Cs cd st bk hh mi nu sg o X C bs bs' gs xs N sl H':=
 let ⟨_,htb⟩:=Cb S.lU
 S.sf (Gu t S.lU) (Ai.odd t.1 htb (.inl ⟨_,rfl⟩) S.s) (Bx (by decide) t S.lU S.lM) (Bx (by decide) t S.lU S.lP) t.2
end
theorem S3{K:PySem.W.Frag}{H:Hp}{p p':Addr}{bs bs':List Bk5}{gs:List (List Str)}(h:BkG H p bs gs)(h':BkG H p' bs' gs)(e:brs bs'=brs bs):K1 K 3 H (.ref p') (.ref p):=by
 have el:bs'.length=bs.length:=by have:=congrArg List.length e;unfold brs at this;rw [Fa,Fa]at this;exact this
 refine ⟨p',p,_,_,rfl,rfl,.inl ⟨SqL.of h'.b.l,SqL.of h.b.l⟩,by rw [Fa,Fa,el],fun i x y hx hy=>?_⟩
 have hi:i < bs.length:=by have:=(Fi.mp hy).1;rw [Fa]at this;exact this
 have hr:=Er hi;have hr':=Er (bs:=bs') (i:=i) (by omega);rw [Fm,hr']at hx;rw [Fm,hr]at hy;cases hx;cases hy;obtain ⟨_,e1,e2⟩:=Xi e hr'
 have hg:gs[i]?=some (gs.getD i []):=by rw [Fg,Fe (by rw [h.l];exact hi)];rfl
 have t1:=h'.b.t _ (Fk hr');rw [e1,e2]at t1;refine Bf.of ⟨_,_,_,_,rfl,rfl,.inr ⟨SqT.of t1,SqT.of (h.b.t _ (Fk hr))⟩,rfl,fun j x y hx hy=>?_⟩
 match j,hx,hy with
 | 0,hx,hy=>cases hx;cases hy;exact Bf.flat rfl
 | 1,hx,hy=>cases hx;cases hy;exact Bf.flat rfl
 | 2,hx,hy=>
  cases hx;cases hy;refine Bf.of ⟨_,_,_,_,rfl,rfl,.inl ⟨SqL.of (h'.g i _ _ hr' hg).1,SqL.of (h.g i _ _ hr hg).1⟩,rfl,fun k x y hx hy=>?_⟩;rw [hx]at hy;cases hy;obtain ⟨z,_,rfl⟩:=Fw.mp (Fk hx);exact Bf.flat rfl
 | j+3,hx,hy=>cases hx
def E4(K:PySem.W.Frag):Sp:=fun vs H Q _=>∃(a n:Addr) (cs:List Int) (ns:List Str),vs=[.ref a,.ref n]∧SqL K H a (cs.map V.int)∧cs.length≤63∧SqL K H n (ns.map V.str)∧0 < ns.length∧ns.length≤20∧∀(p:Addr) (bs:List Bk5) (gs:List (List Str)) (H':Hp),H p=none→A7 H H'→BkG H' p bs gs→bs.length≤63→(∀r∈bs,r.2.1∈ns)→Q (.ref p) H'
def D7(tp:Addr)(pos:Pos)(qual:Str)(K:PySem.W.Frag)(C:Addr):Sp:=fun vs H Q _=>∃(st p:Addr) (ts:List Th) (bs:List Bk5),vs=[.ref st,.ref p]∧Ai K C H st ts∧(ts.map (·.1)).Nodup∧Dm H p bs∧bs.length≤250∧Av tp pos qual H∧
 ((∀z∈msn bs,z∈ts.map (·.1))→∀t H',Tk tp pos qual H H'→H' t=some (.tup [.int (wsm (cst ts) bs),.non])→Q (.ref t) H')∧(∀l1 z l2,msn bs=l1++z::l2→(∀y∈l1,y∈ts.map (·.1))→z∉ts.map (·.1)→∀t u H',Tk tp pos qual H H'→H' t=some (.tup [.non,.ref u])→H' u=some (.tup [.str z,.int (-1)])→Q (.ref t) H')
def Bv(tp:Addr)(pos:Pos)(qual:Str)(K:PySem.W.Frag):Sp:=fun vs H Q _=>∃(p nu m:Addr) (bs:List Bk5) (kvs:List (Key×V)) (N:Str→Int),vs=[.ref p,.ref nu,.ref m]∧Dm H p bs∧bs.length≤250∧H nu=some (.dK kvs)∧(∀z,Bc kvs (Sum.inr z)=none∨Bc kvs (Sum.inr z)=some (.int (N z)))∧(∀z∈msn bs,Bc kvs (Sum.inr z)=some (.int (N z)))∧H m=some (.lst ((msn bs).map V.str))∧Av tp pos qual H∧∀H',Tk tp pos qual H H'→Q (.bl true) H'
def Dq(tm tp ts:Addr)(K:PySem.W.Frag):Sp:=fun vs H Q _=>∃(a:Addr) (ns:List Int),vs=[.ref a]∧SqL K H a (ns.map V.int)∧ns.length≤63∧H tm=some (.tbl #[])∧H tp=some (.tbl #[])∧H ts=some (.tbl #[])∧∀H',Q (.bl true) H'
end N16
open PySem PySem.W PyProof.Rows
namespace L2
structure Bs(P:Program)(w:World)(K:PySem.W.Frag)(mg:Str→Option Value)(base:Heap):Prop where
 ex:∃h:Heap,K.In h∧h.Ns mainGlobals mg
theorem lc{α:Type}{us:List α}{n:Nat}(h:us.length=n+1):∃u r,us=u::r∧r.length=n:=by
 cases us with
 | nil=>cases h
 | cons u r=>exact ⟨u,r,rfl,Nat.succ.inj h⟩
theorem l0{α:Type}{us:List α}(h:us.length=0):us=[]:=by
 cases us with
 | nil=>rfl
 | cons u r=>cases h
section
variable {P:Program} {w:World} {K:PySem.W.Frag} {mg:Str→Option Value} {base:Heap} {CX:CXT} {k:Nat} {sp:Sp} {ps:List Str} {x qual n p1 p2 p3 p4 p5 p6 p7:Str} {st:Stmt} {f C:Addr} {fd:FuncData}
theorem Fun.d(F:Fun K x qual st f fd)(B:Bs P w K mg base)(a:PySem.W.nsIn K mainGlobals x=some (some (.ref f)))(o:B2 P w K mg base CX k f fd ps sp)(b:Bi K fd ps []):Def P w K mg base CX k x ps sp:=
 let ⟨_,X,G⟩:=B.ex;⟨f,fd,o,PySem.W.mg_of X G a,F.kp,b⟩
theorem Fun.m(F:Fun K x qual st f fd)(B:Bs P w K mg base)(M:Sd K C x f)(o:B2 P w K mg base CX k f fd ps sp)(b:Bi K fd ps []):Vk P w K mg base CX k C x ps sp:=
 ⟨f,fd,o,M,b⟩
theorem Fun.i(F:Fun K x qual st f fd)(B:Bs P w K mg base)(M:Mk K C f)(a:PySem.W.nsIn K mainGlobals n=some (some (.ref C)))(o:B2 P w K mg base CX k f fd ps sp)(b:Bi K fd ps []):J2x P w K mg base CX k n C ps sp:=
 let ⟨_,X,G⟩:=B.ex;⟨f,fd,o,M,PySem.W.mg_of X G a,b⟩
theorem Fun.e1(F:Fun K x qual st f fd)(h:∀(kV doc pm:Value) (an:Option Addr) (cdv ct u:Value),bindArgs (PySem.W.fnOf x qual (Au st) (An st) (A8 st) .none kV doc pm an cdv ct) ⟨[u],[]⟩=pure [(p1,u)]):Bi K fd [p1] []:=
 F.binds (ps:=[p1]) fun kV doc pm an cdv ct us hl=>by
  obtain ⟨u,us,rfl,h1⟩:=lc hl;cases l0 h1;exact h kV doc pm an cdv ct u
theorem Fun.e2(F:Fun K x qual st f fd)(h:∀(kV doc pm:Value) (an:Option Addr) (cdv ct u v:Value),bindArgs (PySem.W.fnOf x qual (Au st) (An st) (A8 st) .none kV doc pm an cdv ct) ⟨[u,v],[]⟩=pure [(p1,u),(p2,v)]):Bi K fd [p1,p2] []:=
 F.binds (ps:=[p1,p2]) fun kV doc pm an cdv ct us hl=>by
  obtain ⟨u,us,rfl,h1⟩:=lc hl;obtain ⟨v,us,rfl,h2⟩:=lc h1;cases l0 h2;exact h kV doc pm an cdv ct u v
theorem Fun.e3(F:Fun K x qual st f fd)(h:∀(kV doc pm:Value) (an:Option Addr) (cdv ct u v w:Value),bindArgs (PySem.W.fnOf x qual (Au st) (An st) (A8 st) .none kV doc pm an cdv ct) ⟨[u,v,w],[]⟩=pure [(p1,u),(p2,v),(p3,w)]):Bi K fd [p1,p2,p3] []:=
 F.binds (ps:=[p1,p2,p3]) fun kV doc pm an cdv ct us hl=>by
  obtain ⟨u,us,rfl,h1⟩:=lc hl;obtain ⟨v,us,rfl,h2⟩:=lc h1;obtain ⟨w,us,rfl,h3⟩:=lc h2;cases l0 h3;exact h kV doc pm an cdv ct u v w
theorem Fun.e4(F:Fun K x qual st f fd)(h:∀(kV doc pm:Value) (an:Option Addr) (cdv ct u v w y:Value),bindArgs (PySem.W.fnOf x qual (Au st) (An st) (A8 st) .none kV doc pm an cdv ct) ⟨[u,v,w,y],[]⟩=pure [(p1,u),(p2,v),(p3,w),(p4,y)]):Bi K fd [p1,p2,p3,p4] []:=
 F.binds (ps:=[p1,p2,p3,p4]) fun kV doc pm an cdv ct us hl=>by
  obtain ⟨u,us,rfl,h1⟩:=lc hl;obtain ⟨v,us,rfl,h2⟩:=lc h1;obtain ⟨w,us,rfl,h3⟩:=lc h2;obtain ⟨y,us,rfl,h4⟩:=lc h3;cases l0 h4;exact h kV doc pm an cdv ct u v w y
end
theorem J5x{n:Str}{N:List Str}{v:V}{vs:List V}:start (n::N) (v::vs)=some v::start N vs:=by
 simp [start]
theorem J5y{n:Str}{N:List Str}:start (n::N) []=none::start N []:=rfl
theorem J5z:start [] []=[]:=rfl
end L2
namespace K16
open L2 N1 N5 N4 N6 N12 N13 N14 N53 N51 N55 N32 N41 NPb N16
local macro_rules | `(tactic| walk_at "rq") => `(tactic| simp only [Uo, Up, J4g, J0s, J0t, J4h, J4i, Pa, Uq, Pb, J4j, Ur, Pc, Pd, Md, Pe, J0u, Pf, Us, Ph, Ut, J0v, Uu, Pj, Uv, Pk, J0w, J0x, J0y, J0z, Uw, Ux, Uy, Me, Pl, Mf, Pm, Pn, Mg, Po, Pp, Mh, Pq, Pr, J1e, J1f, J1g, J1h, J1i, J1j, J1k, J1l, J1m, J1n, J1o, J1p, J1q, J1r, Px, Py, J11, Kn, Pz, V7, V8, J12, V9, Q0, Q1, Q2, Mq, Va, Q3, Q4, Mr, Q5, Vb, Q6, Ms, true_implies, false_implies, Bool.false_and, Bool.true_and, Bool.and_true, Bool.and_false, Bool.false_or, Bool.true_or, Bool.or_true, Bool.or_false, Vg, Vh, Mx, My, Vo, Qd, Vp, Kq, Qe, Qf, Qg, Vf, Ko, Mt, J13, Int.zero_add, Int.toNat_natCast, L1, List.map_cons, List.map_nil, List.getD_cons_zero, List.getD_cons_succ, Um, List.length_cons, List.length_nil, List.getElem?_cons_zero, List.getElem?_cons_succ, List.set_cons_zero, List.set_cons_succ, Option.some.injEq, V.int.injEq, V.bl.injEq, V.str.injEq, V.ref.injEq, V.ty.injEq, exists_eq_left', exists_eq_left, exists_and_left, exists_eq, exists_eq', List.cons.injEq, and_true, true_and, decide_eq_true_eq, Bool.not_eq_true', decide_eq_false_iff_not, reduceCtorEq, exists_const, Bool.true_eq_false, Bool.false_eq_true, if_true, if_false, ite_true, ite_false, Bool.not_true, Bool.not_false, decide_true, decide_false, Bool.not_not, false_and, and_false, exists_false, false_or, or_false, true_or, or_true, and_assoc, not_true_eq_false, not_false_eq_true, Int.reduceToNat, Nat.reduceAdd, Kt, Ku, Qo, Qp, Nf, Ng, W4, Qq, Nw, Kw, Qy, Kx, Wo, Qz, Nu, Ek, Nv, Qx, Qa, Mv, Qb, Vj, J15, Mj, Ml, Ps, Pt, Pu, exists_eq_right, Gn, Gp, D0, Ca, Dx, E1, El, K0, Em, En, Ou, X3, D5, Qs, Nz, O0, Np, Nm, Vs, Nh, Ni, Qr, Nb, Ox, Qv, Xb, Xc, X9, X6, Nx, Ek, Nl, L0, Be, Bu, Cm, Do, D6, C5, E4, D7, Bv, Dq])
local macro_rules | `(tactic| walk_at "rd") => `(tactic| first | (dsimp only [Uo, Up, J4g, J0s, J0t, J4h, J4i, Pa, Uq, Pb, J4j, Ur, Pc, Pd, Md, Pe, J0u, Pf, Us, Ph, Ut, J0v, Uu, Pj, Uv, Pk, J0w, J0x, J0y, J0z, Uw, Ux, Uy, Me, Pl, Mf, Pm, Pn, Mg, Po, Pp, Mh, Pq, Pr, J1e, J1f, J1g, J1h, J1i, J1j, J1k, J1l, J1m, J1n, J1o, J1p, J1q, J1r, Px, Py, J11, Kn, Pz, V7, V8, J12, V9, Q0, Q1, Q2, Mq, Va, Q3, Q4, Mr, Q5, Vb, Q6, Ms, true_implies, false_implies, Bool.false_and, Bool.true_and, Bool.and_true, Bool.and_false, Bool.false_or, Bool.true_or, Bool.or_true, Bool.or_false, Vg, Vh, Mx, My, Vo, Qd, Vp, Kq, Qe, Qf, Qg, Vf, Ko, Mt, J13, Int.zero_add, Int.toNat_natCast, L1, List.map_cons, List.map_nil, List.getD_cons_zero, List.getD_cons_succ, Um, List.length_cons, List.length_nil, List.getElem?_cons_zero, List.getElem?_cons_succ, List.set_cons_zero, List.set_cons_succ, Option.some.injEq, V.int.injEq, V.bl.injEq, V.str.injEq, V.ref.injEq, V.ty.injEq, exists_eq_left', exists_eq_left, exists_and_left, exists_eq, exists_eq', List.cons.injEq, and_true, true_and, decide_eq_true_eq, Bool.not_eq_true', decide_eq_false_iff_not, reduceCtorEq, exists_const, Bool.true_eq_false, Bool.false_eq_true, if_true, if_false, ite_true, ite_false, Bool.not_true, Bool.not_false, decide_true, decide_false, Bool.not_not, false_and, and_false, exists_false, false_or, or_false, true_or, or_true, and_assoc, not_true_eq_false, not_false_eq_true, Int.reduceToNat, Nat.reduceAdd, Kt, Ku, Qo, Qp, Nf, Ng, W4, Qq, Nw, Kw, Qy, Kx, Wo, Qz, Nu, Ek, Nv, Qx, Qa, Mv, Qb, Vj, J15, Mj, Ml, Ps, Pt, Pu, exists_eq_right, Gn, Gp, D0, Ca, Dx, E1, El, K0, Em, En, Ou, X3, D5, Qs, Nz, O0, Np, Nm, Vs, Nh, Ni, Qr, Nb, Ox, Qv, Xb, Xc, X9, X6, Nx, Ek, Nl, L0, Be, Bu, Cm, Do, D6, C5, E4, D7, Bv, Dq]; try walk_at "rq") | walk_at "rq")
local macro_rules | `(tactic| walk_at "hp") => `(tactic| first | with_reducible assumption | exact A1 | (rw [A0 (by first | with_reducible assumption | exact A3 (by with_reducible assumption) (by with_reducible assumption))]; first | with_reducible assumption | exact A1))
local macro_rules | `(tactic| walk_at "sq") => `(tactic| (repeat' first | with_reducible assumption | exact SqT.of A1 | exact SqL.of A1 | refine' A7.tup (A7.new (by with_reducible assumption)) ?_ | refine' A7.seq (A7.new (by with_reducible assumption)) ?_))
local macro_rules | `(tactic| walk_at "isi") => `(tactic| first | exact U7 | exact U8 | exact U9 | exact J2g | exact J2i | exact Ub | exact J2j | exact Ua | exact J2h | exact Uc | exact J2k | exact Ui (by walk_at "hp") | exact Ud (by walk_at "hp") | exact Ul (by walk_at "hp") | exact Uh (by walk_at "hp") | exact Uj (by walk_at "hp") | exact Ue (by walk_at "hp") | exact Uk (by walk_at "hp") | exact Ug (by walk_at "hp"))
local macro_rules | `(tactic| walk_at "slen") => `(tactic| first | omega | decide +kernel | (refine J2y ?_ ?_ <;> walk_at "slen"))
local macro_rules | `(tactic| walk_at "side") => `(tactic| first | with_reducible assumption | with_reducible exact Eg (by omega) (by omega) | with_reducible exact Y4 (by decide) (by decide) (by decide) | with_reducible exact J2o (by omega) (by omega) | with_reducible exact Uz (by omega) (by omega) | omega | decide | decide +kernel | (have := Aq; omega) | (simp only [Q7, Q8, Aq]; omega) | (rw [Aq]; walk_at "slen"; done))
local macro_rules | `(tactic| walk_at "go1") => `(tactic| first | walk_at "rd" | ((with_reducible refine And.intro ?_ ?_); (focus (walk_at "side"; done))) | ((with_reducible apply J2l); (focus (walk_at "isi"; done))) | ((with_reducible apply G2); (focus (walk_at "sq"; done)); (focus rfl)) | ((with_reducible apply Cu); (focus (walk_at "sq"; done)); (focus rfl)) | ((with_reducible apply Y1); (focus (walk_at "sq"; done))) | ((with_reducible apply Y0); (focus (walk_at "sq"; done))) | ((with_reducible apply Sl); (focus (walk_at "sq"; done)); (focus (assumption; done))) | ((with_reducible apply Y3); (focus (walk_at "sq"; done)); (focus (decide; done)); (focus (assumption; done))) | (intro (_ : List (Addr × PySem.Obj)) (_ : PySem.Value → PySem.Shared → Prop)) | with_reducible refine J2n fun _ _ => ?_ | (refine Y2 (by with_reducible assumption) ?_; subst_vars))
local macro_rules | `(tactic| walk_at "go") => `(tactic| repeat walk_at "go1")
def top(i:Nat):Stmt:=PySem.Challenge.pw_castoff_k16_what_misses_weigh.main.body.getD i (.Pass ⟨0,0,0,0⟩)
structure Txt(K:W.Frag)(mg:Str→Option Value)(Z2 Z0 Z1:Addr):Prop where
 Z2l:mg "Stock"=some (.ref Z1)
 Ze:Cls K Z1
 Z3:Cq K Z1 "things"
 Z2j:mg "CastError"=some (.ref Z2)
 Z2d:mg "Unknown"=some (.ref Z0)
 Zn:Ir K Z0 Z2
 Z7:W.findIn K (.ref Z0) "name"=some none
 Z6:W.findIn K (.ref Z0) "place"=some none
 Z10:W.exmOne K (.ref Z0) (.ref Z0)=some true
 Z9:mg "len"=none
 Z4:mg "isinstance"=none
 Z0a:mg "int"=none
 Z09:mg "bool"=none
 Z17:mg "str"=none
 Z0n:mg "list"=none
 Z18:mg "all"=none
 Zq:mg "range"=none
 Z0b:mg "sum"=none
 Zo:∃t,mg "LETTERS"=some (.str "abcdefghijklmnopqrstuvwxyz" t)
 Zu:∃t,mg "FIGURES"=some (.str "0123456789" t)
 Zh:∃t,mg "MOST_SIGNS"=some (.int 8 t)
 Zg:∃t,mg "MOST_THINGS"=some (.int 60 t)
 Zk:∃t,mg "MOST_ROOM"=some (.int 1000 t)
local macro_rules | `(tactic| walk_at "sc") => `(tactic| exact ⟨rfl, rfl, rfl, by decide +kernel, rfl, by decide +kernel, by decide +kernel⟩)
local macro_rules | `(tactic| walk_at "st") => `(tactic| simp only [J5x, J5y, J5z])
section
variable {P:Program} {w:World} {K:W.Frag} {mg:Str→Option Value} {base:Heap} {Z2 Z0 Z1:Addr}
abbrev Z0o:Stmt:=top 17
abbrev Z0p:Stmt:=top 18
abbrev Z0c:Stmt:=top 9
abbrev Z05:Stmt:=top 10
abbrev Zv:Stmt:=top 19
abbrev Z01:Stmt:=Ed (top 20) 0
abbrev Z8:Stmt:=Ed (top 7) 0
abbrev Z06:Stmt:=Ed (top 20) 2
abbrev Zl:Stmt:=Ed (top 20) 3
abbrev Zp:Stmt:=Ed (top 20) 5
abbrev Z0q:Stmt:=top 22
abbrev Zc:Stmt:=top 23
abbrev Zi:Stmt:=top 24
abbrev Z07:Stmt:=top 26
abbrev Z1a:Stmt:=top 27
abbrev Z0r:Stmt:=top 28
abbrev Z0s:Stmt:=top 29
abbrev Z12:Stmt:=top 30
abbrev Z13:Stmt:=top 31
abbrev Z0t:Stmt:=top 32
abbrev Zf:Stmt:=top 33
abbrev Zx:Stmt:=top 34
def J05:K3:=J17 (("missed_by"++".<locals>.")++"<lambda>") (J1s (J52 ((An Zc).getD 0 (.Pass ⟨0,0,0,0⟩))) 1)
def J06:K3:=J17 (("paid_by"++".<locals>.")++"<lambda>") (J1s (J52 ((An Zi).getD 0 (.Pass ⟨0,0,0,0⟩))) 1)
def J07:Nj:=J5a (("_law_summed"++".<locals>.")++"_law_weigh") ((An Zf).getD 1 (.Pass ⟨0,0,0,0⟩))
theorem Z1n{f:Addr}{fd:FuncData}(F:Fun K "made_of" "made_of" Z0o f fd)(T:Txt K mg Z2 Z0 Z1):B2 P w K mg base (CXF P w) 1 f fd ["text","signs"] (Gp):=by
 have sc:Ah ["text","signs"] ["text","signs"] (A8 Z0o):=by walk_at "sc"
 refine F.okF sc (fun vs H Q E h=>?_) (fun cdv A outer s H vs Q E hr h=>?_)
 · obtain ⟨_,_,rfl,_⟩:=h;rfl
 obtain ⟨z,w,rfl,hz,q⟩:=h;refine ⟨_,(@A9 _ _ _ (@Ap _ _ _ _ (Af (V4 rfl) rfl T.Z18 (by first | rfl | decide+kernel) (A2 (Ik "sign" [1] rfl rfl (J2r (pv 0)) (fun b=>(Ds Ve (pv 0) (pv 1) (by with_unfolding_all rfl)))) A5)))),?_⟩;walk_at "st";walk_at "go";refine Oi (fun c=>V.bl (decide (c∈w.cps.toList))) hz (fun b c H' Q' hc sm q'=>?_) fun D hD=>?_
 · walk_at "go"
   exact q'
 · refine ⟨_,rfl,z.cps.toList.map fun c=>decide (c∈w.cps.toList),?_,?_⟩
   · rw [Fz];exact SqL.of A1
   · rw [List.all_map];exact q _ (A7.new hD)
theorem Z1o{f:Addr}{fd:FuncData}(F:Fun K "is_name" "is_name" Z0p f fd)(T:Txt K mg Z2 Z0 Z1)(Z0u:Def P w K mg base (CXF P w) 1 "made_of" ["text","signs"] (Gp)):B2 P w K mg base (CXF P w) 2 f fd ["thing"] (D0 K):=by
 have sc:Ah ["thing"] ["thing"] (A8 Z0p):=by walk_at "sc"
 refine F.okF sc (fun vs H Q E h=>?_) (fun cdv A outer s H vs Q E hr h=>?_)
 · obtain ⟨_,rfl,_⟩:=h;rfl
 obtain ⟨x,rfl,hx⟩:=h
 refine ⟨_,(@A4 _ _ _ _ _ (Bn (C0 (Bz (Af Bt rfl T.Z4 (by first | rfl | decide+kernel) (A2 (pv 0) (A2 (Ea (v:= .ty "str") rfl T.Z17 (by first | rfl | decide+kernel) rfl) A5)))))
  (@A9 _ _ _ (@Ap _ _ _ _ K8))
  Ax)
  (@A4 _ _ _ _ _ (Bn (PW.pt (P0 (B3 Tn (Af Ct rfl T.Z9 FP (A2 (pv 0) A5)) A6 (nomark _)) (L6 (B3 Ka (Af Ct rfl T.Z9 FP (A2 (pv 0) A5)) (Lo rfl T.Zh) (nomark _)))))
   (@A9 _ _ _ (@Ap _ _ _ _ K8))
   Ax)
  (@A9 _ _ _ (@Ap _ _ _ _ (Es (Ds Ve (@C7 _ _ _ _ _ _ _ Ts (pv 0) A6 (fun _ _=>rfl)) (Lp rfl T.Zo) (by with_unfolding_all rfl)) (Gx (Ac Z0u hr rfl Aa (A2 (pv 0) (A2 (Ad Cp (Lp rfl T.Zo) (Lp rfl T.Zu)) A5))))))))),?_⟩
 walk_at "st";rcases hx with ⟨z,rfl,hz,q⟩ | ⟨hi,q⟩
 · walk_at "go"
   have hl:=Dw (z:=z);split
   · rename_i h1
     have e:B6 z.cps.toList=false:=by unfold B6;rw [FB (show ¬1≤z.cps.toList.length by omega)];rfl
     rw [e]at q;exact q _ (A7.refl H)
   · rename_i h1
     refine ⟨hz,?_⟩;split
     · have e:B6 z.cps.toList=false:=by unfold B6;rw [FB (show ¬z.cps.toList.length≤8 by omega),Bool.and_false];rfl
       rw [e]at q;exact q _ (A7.refl H)
     · rename_i h2
       obtain ⟨c,r,hcr⟩:∃c r,z.cps.toList=c::r:=by
        cases h:z.cps.toList with
        | nil=>rw [h]at hl;simp at hl;omega
        | cons c r=>exact ⟨c,r,rfl⟩
       have hn:B6 z.cps.toList=(decide (c∈Aj) && z.cps.toList.all fun c=>decide (c∈Aj++B9)):=by
        unfold B6;rw [Fy (show 1≤z.cps.toList.length by omega),Fy (show z.cps.toList.length≤8 by omega)];rw [hcr];rfl
       rw [hn]at q;walk_at "go";refine Vc hz (by rw [hcr];exact J5n) ?_;walk_at "go";rw [Im];split
       · rename_i hc
         rw [Fy hc,Bool.true_and]at q;walk_at "go";rw [Ej,Im,Vq];exact q
       · rename_i hc
         rw [FB hc,Bool.false_and]at q;exact q _ (A7.refl H)
 · walk_at "go"
   refine ⟨_,hi,?_⟩;walk_at "go";exact q
theorem Z1l{f:Addr}{fd:FuncData}(F:Fun K "is_whole" "is_whole" Z0c f fd)(T:Txt K mg Z2 Z0 Z1):B2 P w K mg base (CXF P w) 1 f fd ["thing"] (Ca K):=by
 have sc:Ah ["thing"] ["thing"] (A8 Z0c):=by walk_at "sc"
 refine F.okF sc (fun vs H Q E h=>?_) (fun cdv A outer s H vs Q E hr h=>?_)
 · obtain ⟨_,_,_,rfl,_⟩:=h;rfl
 obtain ⟨x,b,c,rfl,h1,h2,q⟩:=h;refine ⟨_,(@A9 _ _ _ (@Ap _ _ _ _ (Es (Af Bt rfl T.Z4 (by first | rfl | decide+kernel) (A2 (pv 0) (A2 (Ea (v:= .ty "int") rfl T.Z0a (by first | rfl | decide+kernel) rfl) A5))) (Gx (Ta (Af Bt rfl T.Z4 (by first | rfl | decide+kernel) (A2 (pv 0) (A2 (Ea (v:= .ty "bool") rfl T.Z09 (by first | rfl | decide+kernel) rfl) A5)))))))),?_⟩;walk_at "st";walk_at "go";refine ⟨_,h1,?_⟩;cases b
 · walk_at "go"
   exact q
 · walk_at "go"
   refine ⟨_,h2 rfl,?_⟩;walk_at "go";exact q
theorem Z1g{f:Addr}{fd:FuncData}(F:Fun K "is_within" "is_within" Z05 f fd)(T:Txt K mg Z2 Z0 Z1)(Z0d:Def P w K mg base (CXF P w) 1 "is_whole" ["thing"] (Ca K)):B2 P w K mg base (CXF P w) 2 f fd ["thing","least","most"] (Dx K):=by
 have sc:Ah ["thing","least","most"] ["thing","least","most"] (A8 Z05):=by walk_at "sc"
 refine F.okF sc (fun vs H Q E h=>?_) (fun cdv A outer s H vs Q E hr h=>?_)
 · obtain ⟨_,_,_,rfl,_⟩:=h;rfl
 obtain ⟨v,lo,hi,rfl,hv,q⟩:=h;refine ⟨_,(@A9 _ _ _ (@Ap _ _ _ _ (Es (Ac Z0d hr rfl Aa (A2 (pv 0) A5)) (Gx (Tp J0i J0i (pv 1) (pv 0) (pv 2)))))),?_⟩;walk_at "st";obtain ⟨b,c,h1,h2,h3,h4⟩:=Yd (K:=K) (H:=H) hv;walk_at "go";refine ⟨b,h1,c,h2,?_⟩;split
 · rename_i h
   obtain ⟨i,rfl⟩:=h3 h;simp only [wIn]at q;walk_at "go";split
   · rename_i h'
     rw [Fy h',Bool.true_and]at q;exact q
   · rename_i h'
     rw [FB h',Bool.false_and]at q;exact q
 · rename_i h
   have e:wIn lo hi v=false:=by
    cases v with
    | int i=>exact absurd rfl (h4 (by simpa using h) i)
    | _=>rfl
   rw [e]at q;exact q
theorem Z1b{f:Addr}{fd:FuncData}(F:Fun K "check_thing" "check_thing" Zv f fd)(T:Txt K mg Z2 Z0 Z1)(Z0v:Def P w K mg base (CXF P w) 2 "is_name" ["thing"] (D0 K))(Zs:Def P w K mg base (CXF P w) 2 "is_within" ["thing","least","most"] (Dx K)):B2 P w K mg base (CXF P w) 3 f fd ["name","cost","room","earlier"] (E1 K):=by
 have sc:Ah ["name","cost","room","earlier"] ["name","cost","room","earlier"] (A8 Zv):=by walk_at "sc"
 refine F.okF sc (fun vs H Q E h=>?_) (fun cdv A outer s H vs Q E hr h=>?_)
 · obtain ⟨_,_,_,_,_,_,rfl,_⟩:=h;rfl
 obtain ⟨n,co,r,e,kvs,ks,rfl,he,hk,hrow,q⟩:=h
 refine ⟨_,(@A4 _ _ _ _ _ (Bn (C0 (Bz (Ac Z0v hr rfl Aa (A2 (pv 0) A5))))
  (@A9 _ _ _ Dd)
  Ax)
  (@A4 _ _ _ _ _ (Bn (O6 (Tx (D8 hr) (pv 0) (pv 3)))
   (@A9 _ _ _ Dd)
   Ax)
  (@A4 _ _ _ _ _ (Bn (C0 (Bz (Ac Zs hr rfl Aa (A2 (pv 1) (A2 A6 (A2 (Ad Gz A6 A6) A5))))))
   (@A9 _ _ _ Dd)
   Ax)
  (@A9 _ _ _ (Bn (C0 (Bz (Ac Zs hr rfl Aa (A2 (pv 2) (A2 A6 (A2 (Lo rfl T.Zk) A5))))))
   (@A9 _ _ _ Dd)
   Ax))))),?_⟩
 walk_at "st";obtain ⟨z,c,w,rfl,rfl,rfl,nz,hb,h1,h2,h3,h4⟩:=Kr hrow;have line:=Aq;have hz8:=Wg hb;walk_at "go";intro H1 sm1;rw [hb];have he1:=sm1 _ _ he;walk_at "go";refine ⟨_,Cd.k (k:=Sum.inr z) he1,?_⟩;rw [Lq hk,FB nz];walk_at "go";refine ⟨rfl,?_⟩;split
 · rename_i h
   exact absurd h (by rw [Ls h1 h2];decide)
 · walk_at "go"
   refine ⟨rfl,?_⟩;split
   · rename_i h
     exact absurd h (by rw [Ls h3 h4];decide)
   · walk_at "go"
     exact q _ sm1
theorem Z1e{f:Addr}{fd:FuncData}(F:Fun K "__init__" "Stock.__init__" Z01 f fd)(T:Txt K mg Z2 Z0 Z1)(Zw:Def P w K mg base (CXF P w) 3 "check_thing" ["name","cost","room","earlier"] (E1 K)):B2 P w K mg base (CXF P w) 4 f fd ["self","rows"] (El K Z1):=by
 have sc:Ah ["self","rows","name","cost","room"] ["self","rows"] (A8 Z01):=by walk_at "sc"
 refine F.okF sc (fun vs H Q E h=>?_) (fun cdv A outer s H vs Q E hr h=>?_)
 · obtain ⟨_,_,_,_,rfl,_⟩:=h;rfl
 obtain ⟨p,dx,ra,rs,rfl,hp,hrs,hall,er,q⟩:=h
 refine ⟨_,(@A4 _ _ _ _ _ (Bn (B3 Ka (Af Ay rfl T.Z9 FP (A2 (pv 1) A5)) (Lo rfl T.Zg) (nomark _))
  (@A9 _ _ _ Dd)
  Ax)
  (@A4 _ _ _ _ _ (J26 (pv 0) Ib rfl)
  (@A9 _ _ _ (Eu Ck rfl (Bq (pv 1)) (L7 rfl (Bg (B1 (i:=2) sc.nd rfl (Or.inl rfl)) (Bg (B1 (i:=3) sc.nd rfl (Or.inl rfl)) (Bg (B1 (i:=4) sc.nd rfl (Or.inl rfl)) Gh))))
   (@A4 _ _ _ _ _ (Gg (Ac Zw hr rfl Aa (A2 (pv 2) (A2 (pv 3) (A2 (pv 4) (A2 (Ex (pv 0) rfl) A5))))))
   (@A9 _ _ _ (Gk (D8 hr) (Ex (pv 0) rfl) (pv 2) (E8 (A2 (Af Km rfl T.Z9 FP (A2 (Ex (pv 0) rfl) A5)) (A2 (pv 3) (A2 (pv 4) A5)))) rfl))))))),?_⟩
 walk_at "st";have line:=Aq;obtain ⟨hl60,hstk⟩:=Ot er;walk_at "go";rw [Fa];split
 · rename_i h
   exact absurd h (by omega)
 · rename_i h
   walk_at "go";intro d hd;have npd:p≠d:=A3 hp hd;walk_at "go";refine ⟨Z1,dx,[],by rw [A0 npd];exact hp,T.Ze,T.Z3,by decide,?_⟩
   have sb0:SameBut p H (upd (upd H d (.dK [])) p (.ins Z1 dx (flds d))):=fun b o e n=>by rw [A0 n,A0 (A3 e hd)];exact e
   have hp0:upd (upd H d (.dK [])) p (.ins Z1 dx (flds d)) p=some (.ins Z1 dx (flds d)):=A1
   have hd0:upd (upd H d (.dK [])) p (.ins Z1 dx (flds d)) d=some (.dK []):=by rw [A0 npd.symm,A1]
   unfold flds at sb0 hp0 hd0;generalize upd (upd H d (HO.dK [])) p (HO.ins Z1 dx (Bh (Str.ofString "things") (V.ref d) []))=H0 at sb0 hp0 hd0 ⊢;walk_at "go";refine ⟨⟨_,SqL.but sb0 hp hrs⟩,?_⟩;refine Li (xs:=rs.map fun t=>V.ref t.1) (fun i σ H'=>∃v1 v2 v3,σ=[some (V.ref p),some (V.ref ra),v1,v2,v3]∧SameBut p H H'∧H' p=some (.ins Z1 dx (flds d))∧Qh K H' d (rs.take i)∧Dk (D9 (rs.take i)) (rs.drop i)=none) ⟨none,none,none,rfl,sb0,hp0,⟨[],hd0,rfl,fun j t e=>by simp at e⟩,by rw [List.take_zero,List.drop_zero];exact hstk⟩ (fun i σ H' _ h_=>by obtain ⟨v1,v2,v3,_,sb,_⟩:=h_;exact SqL.but sb hp hrs) ?_ ?_
   · rintro i x σ H' hx ⟨v1,v2,v3,rfl,sb,hp',⟨kvs,hd',hk,hm⟩,hst⟩
     rw [Fm]at hx
     cases ht:rs[i]? with
     | none=>rw [ht]at hx;cases hx
     | some t=>
      rw [ht]at hx;simp only [R7,Option.some.injEq]at hx;subst hx;have hi:i < rs.length:=(Fi.mp ht).1;have r1:=SqT.but sb hp (hall t (Fk ht));rw [N9 ht]at hst
      have hkl:kvs.length=i:=by
       have:=congrArg List.length hk;simp [D9]at this;omega
      cases hrow:N2 (D9 (rs.take i)) t.2.1 t.2.2.1 t.2.2.2 with
      | some e=>rw [hrow]at hst;cases hst
      | none=>
       rw [hrow]at hst;obtain ⟨z,c,q',e1,e2,e3,nz,hb,_⟩:=Kr hrow;walk_at "go";refine ⟨_,r1,rfl,?_⟩;walk_at "go";refine ⟨Z1,dx,flds d,hp',T.Ze,T.Z3,_,Bk,d,rfl,kvs,hd',_,hk,hrow,fun H1 sm1=>?_⟩;rw [e1,e2,e3];have hp1:=sm1 _ _ hp';have hd1:=sm1 _ _ hd';walk_at "go";refine ⟨Z1,dx,flds d,hp1,T.Ze,T.Z3,_,Bk,?_⟩;walk_at "go";refine ⟨kvs,hd1,by omega,fun t2 ht2=>?_⟩;have np2:p≠t2:=A3 hp1 ht2;have nd2:d≠t2:=A3 hd1 ht2
       have hd2:upd H1 t2 (.tup [.int kvs.length,.int c,.int q']) d=some (.dK kvs):=by rw [A0 nd2];exact hd1
       refine ⟨Z1,dx,flds d,by rw [A0 np2];exact hp1,T.Ze,T.Z3,_,Bk,d,rfl,_,Si.k (k:=Sum.inr z) hd2 (by omega),?_,?_,?_,?_⟩
       · intro b o eb nb
         have h1:=sm1 _ _ (sb b o eb nb);rw [A0 (A3 eb hd),A0 (A3 h1 ht2)];exact h1
       · rw [A0 npd,A0 np2];exact hp1
       · rw [FW,ht]
         refine Qh.snoc hd2 hk (fun j t' e=>?_) e1 e2 e3 nz A1;obtain ⟨a,q1,q2⟩:=hm j t' e;exact ⟨a,q1,(sm1.trans (A7.new ht2)).tup q2⟩
       · rw [FW,ht]
         have e:D9 (rs.take kvs.length++(some t).toList)=D9 (rs.take kvs.length)++[sOf t.2.1]:=by unfold D9;simp
         rw [e];exact hst
   · rintro σ H' ⟨v1,v2,v3,rfl,sb,hp',⟨kvs,hd',hk,hm⟩,hst⟩
     simp only [Fa,Hs,List.drop_length]at hk hm hst;show Q V.non H';refine q _ sb ⟨dx,d,kvs,hp',hd',?_,fun i t ht=>?_⟩
     · rw [hk];unfold D9;rw [Fz,Fz];rfl
     · rw [Fm]at ht
       cases hr:rs[i]? with
       | none=>rw [hr]at ht;cases ht
       | some t'=>
        rw [hr]at ht;simp only [R7,Option.some.injEq]at ht;subst ht;exact hm i t' hr
theorem Z19{f:Addr}{fd:FuncData}(F:Fun K "__init__" "Unknown.__init__" Z8 f fd)(T:Txt K mg Z2 Z0 Z1):B2 P w K mg base (CXF P w) 1 f fd ["self","name","place"] (K0 Z0):=by
 have sc:Ah ["self","name","place"] ["self","name","place"] (A8 Z8):=by walk_at "sc"
 refine F.okF sc (fun vs H Q E h=>?_) (fun cdv A outer s H vs Q E hr h=>?_)
 · obtain ⟨_,_,_,_,rfl,_⟩:=h;rfl
 obtain ⟨x,n,p,nw,rfl,hx,q⟩:=h
 refine ⟨_,(@A4 _ _ _ _ _ (Qm rfl (pv 0) (pv 1) rfl)
  (@A9 _ _ _ (Qm rfl (pv 0) (pv 2) rfl))),?_⟩
 walk_at "st";walk_at "go";refine ⟨nw,Z0,Z2,T.Zn,T.Z7,.inl ⟨hx,fun dx hd=>?_⟩⟩;have nd:x≠dx:=A3 hx hd;walk_at "go";refine ⟨nw,Z0,Z2,T.Zn,T.Z6,.inr ⟨dx,by rw [A0 nd,A1],_,A1,by simp [Bh],?_⟩⟩;walk_at "go";exact q dx hd
theorem Z1h{f:Addr}{fd:FuncData}(F:Fun K "has" "Stock.has" Z06 f fd)(T:Txt K mg Z2 Z0 Z1):B2 P w K mg base (CXF P w) 1 f fd ["self","name"] (Ou K Z1):=by
 have sc:Ah ["self","name"] ["self","name"] (A8 Z06):=by walk_at "sc"
 refine F.okF sc (fun vs H Q E h=>?_) (fun cdv A outer s H vs Q E hr h=>?_)
 · obtain ⟨_,_,_,rfl,_⟩:=h;rfl
 obtain ⟨p,ts,z,rfl,hs,q⟩:=h;refine ⟨_,(@A9 _ _ _ (@Ap _ _ _ _ (J20 (Tx (D8 hr) (pv 1) (Ex (pv 0) rfl))))),?_⟩;walk_at "st";obtain ⟨dx,d,kvs,h1,h2,h3,h4,h5⟩:=Ai.has hs;walk_at "go";refine ⟨Z1,dx,flds d,h1,T.Ze,T.Z3,_,Bk,d,rfl,_,Cd.k (k:=Sum.inr z) h2,?_⟩;rw [h4];exact q
theorem Z11{f:Addr}{fd:FuncData}(F:Fun K "thing_of" "Stock.thing_of" Zl f fd)(T:Txt K mg Z2 Z0 Z1)(Zr:Sn P w K mg base (CXF P w) 1 "Unknown" Z0 ["self","name","place"] (K0 Z0)):B2 P w K mg base (CXF P w) 3 f fd ["self","name"] (Em K Z1 Z0):=by
 have sc:Ah ["self","name"] ["self","name"] (A8 Zl):=by walk_at "sc"
 refine F.okF sc (fun vs H Q E h=>?_) (fun cdv A outer s H vs Q E hr h=>?_)
 · obtain ⟨_,_,_,rfl,_⟩:=h;rfl
 obtain ⟨p,ts,z,rfl,hs,nd,q,qe⟩:=h
 refine ⟨_,(@A4 _ _ _ _ _ (Bn (O6 (Kl (D8 hr) (pv 1) (Ex (pv 0) rfl)))
  (@A9 _ _ _ (Sq Zr rfl hr rfl rfl (Qc Aa) Yn (A2 (pv 1) (A2 (J0h Tl A6) A5))))
  Ax)
  (@A9 _ _ _ (@Ap _ _ _ _ (Lf (D8 hr) (Ex (pv 0) rfl) (pv 1) (fun _ _=>rfl))))),?_⟩
 walk_at "st";obtain ⟨dx,d,kvs,h1,h2,h3,h4,h5⟩:=Ai.has hs;have line:=Aq;walk_at "go";refine ⟨Z1,dx,flds d,h1,T.Ze,T.Z3,_,Bk,d,rfl,_,Cd.k (k:=Sum.inr z) h2,?_⟩;rw [h4]
 by_cases hz:z∈ts.map (·.1)
 · rw [Fy hz]
   obtain ⟨i,t,ht,rfl⟩:=Yx hz;obtain ⟨a,e1,e2⟩:=h5 nd i t ht;walk_at "go";refine ⟨Z1,dx,flds d,h1,T.Ze,T.Z3,_,Bk,?_⟩;walk_at "go";refine ⟨V.ref a,by rw [← e1];exact Cd.k (k:=Sum.inr t.1) h2,?_⟩;exact q i t ht rfl a e2
 · rw [FB hz]
   walk_at "go";intro x hx;refine ⟨true,A1,fun dx' hd'=>?_⟩
   have n1:x≠dx':=fun e=>by rw [e,A1]at hd';cases hd'
   have hd2:H dx'=none:=by rw [A0 n1.symm]at hd';exact hd'
   walk_at "go";refine ⟨some dx',by rw [A0 n1,A1],hx,?_⟩;refine qe hz _ x (fun b o e=>?_) hx ⟨dx',A1,by rw [A0 n1.symm,A1]⟩;rw [A0 (A3 e hx),A0 (A3 e hd2),A0 (A3 e hx)];exact e
theorem Z14{f:Addr}{fd:FuncData}(F:Fun K "cost_of" "Stock.cost_of" Zp f fd)(T:Txt K mg Z2 Z0 Z1)(Zm:Vk P w K mg base (CXF P w) 3 Z1 "thing_of" ["self","name"] (Em K Z1 Z0)):B2 P w K mg base (CXF P w) 4 f fd ["self","name"] (En 1 K Z1 Z0):=by
 have sc:Ah ["self","name"] ["self","name"] (A8 Zp):=by walk_at "sc"
 refine F.okF sc (fun vs H Q E h=>?_) (fun cdv A outer s H vs Q E hr h=>?_)
 · obtain ⟨_,_,_,rfl,_⟩:=h;rfl
 obtain ⟨p,ts,z,rfl,hs,nd,q,qe⟩:=h;refine ⟨_,(@A9 _ _ _ (@Ap _ _ _ _ (@C7 _ _ _ _ _ _ _ Lc (Mw Zm T.Ze hr (Qc Aa) (pv 0) (A2 (pv 1) A5)) A6 (fun _ _=>rfl)))),?_⟩;walk_at "st";obtain ⟨dx,d,kvs,h1,h2,h3,h4,h5⟩:=Ai.has hs;walk_at "go";refine ⟨dx,flds d,h1,by rfl,?_⟩;walk_at "go";refine ⟨ts,hs,nd,fun i t ht e a ha=>?_,qe⟩;refine G2 ha rfl ?_;exact q i t ht e
theorem Z1p{f:Addr}{fd:FuncData}(F:Fun K "weighed" "weighed" Z0q f fd)(T:Txt K mg Z2 Z0 Z1):B2 P w K mg base (CXF P w) 7 f fd ["book","weigh"] (Be P w K mg base Z0):=by
 have sc:Ah ["book","weigh"] ["book","weigh"] (A8 Z0q):=by walk_at "sc"
 refine F.okF sc (fun vs H Q E h=>?_) (fun cdv A outer s H vs Q E hr h=>?_)
 · obtain ⟨_,_,_,rfl,_⟩:=h;rfl
 obtain ⟨p,b,bs,rfl,hB,hbl,hpM,hrM,hM,hJ,hst,q,qe⟩:=h;refine ⟨_,(@A9 _ _ _ (@Ap _ _ _ _ (Af (G7 rfl) rfl T.Z0b (by first | rfl | decide+kernel) (A2 (Sx "row" [1] J39 rfl rfl rfl rfl (Bq (pv 0)) (fun b=>(C0 (Bz (@C7 _ _ _ _ _ _ _ Lc (pv 0) A6 (fun _ _=>rfl))))) (fun b xe hp=>(Vv (fa:=(fun b:Wf P w K mg base Z0=>b.f)) (J:=(fun b H=>∃l,b.J l H)) (sp:=(fun b=>Ox b.M b.J b.good b.g Z0)) (fun b=>b.ok) hr hp (pv 1) (A2 (@C7 _ _ _ _ _ _ _ J03 (pv 0) A6 (fun _ _=>rfl)) A5)))) A5)))),?_⟩;walk_at "st";have line:=Aq;walk_at "go";refine ⟨⟨_,SqL.of hB.l⟩,T9 (xs:=bs.map fun r=>V.ref r.1) b.M b.J b.good (K6 H) (nmV H) b.g (SqL.of hB.l) (by rw [Fa];exact hbl) (by omega) (fun H5 kp=>SqL.of (kp _ _ hpM hB.l)) hst hJ ?_ ?_ ?_ hM⟩
 · intro b' v H5 QT hx kp q'
   obtain ⟨r,hr,rfl⟩:=Fw.mp hx;rw [Gr (hB.t r hr)]at q';have g3:=kp _ _ (hrM r hr) (hB.t r hr);walk_at "go";exact G2 (SqT.of g3) rfl ⟨_,rfl,q'⟩
 · intro b' i v H5 Q' hx hm kp hj hg q'
   obtain ⟨r,hr,rfl⟩:=Fw.mp (Fk hx);have g3:=kp _ _ (hrM r hr) (hB.t r hr);have en:=Wx (hB.t r hr);obtain ⟨l2,e2⟩:=J3h (nm:=nmV H) hx hm;rw [Eo hB.t,en]at e2;rw [en]at q'
   have hll:((((bs.map fun r=>V.ref r.1).take i).filter (K6 H)).map (nmV H)).length≤250:=by
    rw [Fa];exact FH (Hl _ _) (by rw [FC,Fa];omega)
   generalize (((bs.map fun r=>V.ref r.1).take i).filter (K6 H)).map (nmV H)=l at hj hg q' e2 hll;walk_at "go";refine ⟨b,rfl,⟨_,hj⟩,G2 (SqT.of g3) rfl ⟨⟨_,hj⟩,r.2.1,rfl,l,hll,hj,q',fun ng H7 x k7 hx7 er=>qe l r.2.1 l2 e2 hg ng H7 x (kp.trans k7) (fun nx=>?_) er⟩⟩
   cases e:H x with
   | none=>rfl
   | some o=>rw [kp _ _ nx e]at hx7;cases hx7
 · intro D H' hD kp hD2 hj hg
   rw [Eo hB.t]at hj hg
   have e:(((bs.map fun r=>V.ref r.1).filter (K6 H)).map fun x=>V.int (b.g (nmV H x)))=((msn bs).map b.g).map V.int:=by rw [← Eo hB.t,Fz,Fz];rfl
   rw [e]at hD2;refine ⟨D,rfl,_,SqL.of hD2,?_⟩;rw [← Gs];exact q hg H' kp hj
theorem J08{f:Addr}{H0:Hp}(h0:Ip J05 [] H0 f)(T:Txt K mg Z2 Z0 Z1):Da P w K mg base (CXF P w) 6 f (fun H=>∃l,(fun (_:List Str) (H:Hp)=>A7 H0 H) l H) (Ox [] ((fun (_:List Str) (H:Hp)=>A7 H0 H)) (fun _=>True) (fun _=>1) Z0):=by
 have sc:As ["name"] ["name"] J05.scope []:=As.mk0 (ps:=["name"]) (sc:=J05.scope) rfl rfl rfl (by decide+kernel) (by decide+kernel) (by decide+kernel) (by decide+kernel);refine Da.ofLamF (fvs:=[]) sc (fun pm ct cd us hl=>match us,hl with | [_],_=>rfl) (fun vs H Q E h=>?_) (fun H h=>h.elim fun _ h=>⟨h0.same h,.nil⟩) (fun cd A outer s H vs Q E hr hJ0 h=>?_)
 · obtain ⟨z,l,rfl,_⟩:=h;rfl
 obtain ⟨z,l,rfl,hl,hJ,q,qe⟩:=h;refine ⟨_,A6,?_⟩;walk_at "go";intro _
 have e:retr (unk H []) H []=H:=by rw [Yg,Vt]
 rw [e];exact q trivial H (Kp.of (A7.refl H)) hJ
theorem Z1i{f:Addr}{fd:FuncData}(F:Fun K "missed_by" "missed_by" Zc f fd)(T:Txt K mg Z2 Z0 Z1)(Za:Def P w K mg base (CXF P w) 7 "weighed" ["book","weigh"] (Be P w K mg base Z0))(M:Yf K f 246)(HB:base.BuiltinsAt mg 246):B2 P w K mg base (CXF P w) 8 f fd ["book"] (Bu 246 (⟨94,25,94,39⟩:Pos) (("missed_by"++".<locals>.")++"<lambda>")):=by
 have sc:Ah ["book"] ["book"] (A8 Zc):=by walk_at "sc"
 refine F.okCF M sc (fun vs H Q E h=>?_) (fun c A outer s H vs Q E hc hr h=>?_)
 · obtain ⟨_,_,rfl,_⟩:=h;rfl
 obtain ⟨p,bs,rfl,hB,hbl,hL,q⟩:=h;refine ⟨_,(@A9 _ _ _ (@Ap _ _ _ _ (Ac Za hr rfl Aa (A2 (pv 0) (A2 (J30 rfl rfl rfl hc (by decide) HB) A5))))),?_⟩;walk_at "st";have line:=Aq;walk_at "go";refine ⟨hL,fun f2 c2 ct H2 hf2 sb hL2 hc2 hff=>?_⟩
 have tk2:Tk 246 (⟨94,25,94,39⟩:Pos) (("missed_by"++".<locals>.")++"<lambda>") H H2:=⟨sb,hL2⟩
 have hB2:=Dm.tk tk2 hL hB
 have hla:Ip J05 [] H2 f2:=⟨_,c2,ct,hff,hc2⟩
 refine ⟨⟨f2,[],(fun (_:List Str) (H:Hp)=>A7 H2 H),fun _=>True,fun _=>1,J08 hla T⟩,rfl,bs,hB2,hbl,by simp,by simp,by simp,A7.refl H2,?_,?_,?_⟩
 · intro l D H1 H3 hD sb2 sm b o e
   exact sb2 b o (sm b o e) (A3 e hD)
 · intro _ H' kp sm
   have e:wsm (fun _=>1) bs=((msn bs).length:Int):=by rw [Gs];induction msn bs with
    | nil=>rfl
    | cons x r ih=>rw [List.map_cons,List.sum_cons,ih,List.length_cons];omega
   show Q (V.int (wsm (fun _=>1) bs)) H';rw [e];exact q H' (tk2.trans (Tk.of hL2 sm))
 · intro l1 z l2 _ _ ng
   exact absurd trivial ng
theorem J09{f c st:Addr}{ts:List Th}{H0:Hp}(nd:(ts.map (·.1)).Nodup)(h0:PJ J06 K Z1 f c st ts H0)(T:Txt K mg Z2 Z0 Z1)(Zb:Vk P w K mg base (CXF P w) 4 Z1 "cost_of" ["self","name"] (En 1 K Z1 Z0)):Da P w K mg base (CXF P w) 6 f (fun H=>∃l,(fun (_:List Str) (H:Hp)=>A7 H0 H) l H) (Ox [] ((fun (_:List Str) (H:Hp)=>A7 H0 H)) (fun z=>z∈ts.map (·.1)) (cst ts) Z0):=by
 have sc:As ["name","stock"] ["name"] J06.scope [("stock",c)]:=As.mk1 (ps:=["name"]) (sc:=J06.scope) (x:="stock") rfl rfl rfl (by decide+kernel) (by decide+kernel) (by decide+kernel) (by decide+kernel) rfl;refine Da.ofLamF (fvs:=[V.ref st]) sc (fun pm ct cd us hl=>match us,hl with | [_],_=>rfl) (fun vs H Q E h=>?_) (fun H h=>h.elim fun _ h=>⟨(h0.same h).1,(h0.same h).2.1⟩) (fun cd A outer s H vs Q E hr hJ0 h=>?_)
 · obtain ⟨z,l,rfl,_⟩:=h;rfl
 obtain ⟨z,l,rfl,hl,hJ,q,qe⟩:=h;refine ⟨_,(Mw Zb T.Ze hr (Qc Sr) (pv 1) (A2 (pv 0) A5)),?_⟩;have h1:=h0.same hJ;obtain ⟨o,u,hco,_⟩:=h1.2.1.get _ (Fq ..);have hst:=Ai.odd Yy hco (.inr ⟨_,_,rfl⟩) h1.2.2;obtain ⟨dx,d,kvs,hi,_⟩:=hst.ex;walk_at "go";refine ⟨_,rfl,_,rfl,dx,_,hi,rfl,_,rfl,_,rfl,ts,z,rfl,hst,nd,fun i t hit et _=>?_,fun nz H' x sm hx er hc=>?_⟩
 · rw [Wy]
   have hz:z∈ts.map (·.1):=Fw.mpr ⟨t,Fk hit,et⟩;have:=q hz H (Kp.of (A7.refl H)) hJ;rw [show cst ts z=pick 1 i t by rw [← et];exact Ww nd hit]at this;exact this
 · obtain ⟨dx',e1,e2⟩:=er
   have nc:∀b o',H' b=some o'→b∉[c]:=fun b o' e z=>by rw [hc b z]at e;cases e
   refine qe nz _ x (fun b o' _ e=>?_) ?_ ⟨dx',by rw [Ao (nc _ _ e1)];exact e1,by rw [Ao (nc _ _ e2)];exact e2⟩
   · by_cases z:b∈[c]
     · rw [Br z];exact e
     · rw [Ao z];exact sm _ _ (by rw [Ae z];exact e)
   · rw [Ae (nc _ _ e1)]at hx;exact hx
theorem Z1q{f:Addr}{fd:FuncData}(F:Fun K "paid_by" "paid_by" Zi f fd)(T:Txt K mg Z2 Z0 Z1)(Za:Def P w K mg base (CXF P w) 7 "weighed" ["book","weigh"] (Be P w K mg base Z0))(Zb:Vk P w K mg base (CXF P w) 4 Z1 "cost_of" ["self","name"] (En 1 K Z1 Z0))(M:Yf K f 253)(HB:base.BuiltinsAt mg 253):B2 P w K mg base (CXF P w) 8 f fd ["stock","book"] (Cm 253 (⟨96,25,96,57⟩:Pos) (("paid_by"++".<locals>.")++"<lambda>") K Z1 Z0):=by
 have sc:Ah ["stock","book"] ["stock","book"] (A8 Zi):=by walk_at "sc"
 refine F.okCF M sc (fun vs H Q E h=>?_) (fun c A outer s H vs Q E hc hr h=>?_)
 · obtain ⟨_,_,_,_,rfl,_⟩:=h;rfl
 obtain ⟨st,p,ts,bs,rfl,hst,nd,hB,hbl,hL,q,qe⟩:=h;refine ⟨_,(@A9 _ _ _ (@Ap _ _ _ _ (W9 (i:=0) Za W7 Aa hr rfl (A2 (pv 1) (A2 (Yi rfl rfl rfl hc (by decide) HB) A5)) rfl rfl rfl))),?_⟩;walk_at "st";have line:=Aq;walk_at "go";refine ⟨hL,fun f2 c2 ct H2 hf2 sb hL2 hc2 hff=>?_⟩
 have tk2:Tk 253 (⟨96,25,96,57⟩:Pos) (("paid_by"++".<locals>.")++"<lambda>") H H2:=⟨sb,hL2⟩
 obtain ⟨tb,htb⟩:=Cb hL;have hst2:=Ai.odd sb htb (.inl ⟨_,rfl⟩) hst;have hB2:=Dm.tk tk2 hL hB;walk_at "go";intro o u ho hu hcn;have s3:A7 H2 (upd H2 (s.heap.objs.size+1) (Az (s.heap.objs.size+1) o)):=Bm hcn
 have h0:PJ J06 K Z1 f2 (s.heap.objs.size+1) st ts (upd H2 (s.heap.objs.size+1) (Az (s.heap.objs.size+1) o)):=⟨⟨_,c2,ct,s3 _ _ hff,s3 _ _ hc2⟩,.cons ⟨o,u,A1,ho,hu⟩ .nil,hst2.same s3⟩
 refine ⟨⟨f2,[],(fun (_:List Str) (H:Hp)=>A7 (upd H2 (s.heap.objs.size+1) (Az (s.heap.objs.size+1) o)) H),fun z=>z∈ts.map (·.1),cst ts,J09 nd h0 T Zb⟩,rfl,bs,hB2.same s3,hbl,by simp,by simp,by simp,A7.refl _,?_,?_,?_⟩
 · intro l D H1 H3 hD sb2 sm b o' e
   exact sb2 b o' (sm b o' e) (A3 e hD)
 · intro hg H3 kp sm3
   intro hc;exact q hg _ (lent tk2 hcn sm3)
 · intro l1 z l2 e1' hg ng H3 x kp hx er
   intro hc;obtain ⟨dx',e1,e2⟩:=er
   have n1:x≠s.heap.objs.size+1:=fun z=>by rw [z,hc]at e1;cases e1
   have n2:dx'≠s.heap.objs.size+1:=fun z=>by rw [z,hc]at e2;cases e2
   have hx2:=hx (by simp);rw [A0 n1]at hx2;exact qe l1 z l2 e1' hg ng _ x (lent tk2 hcn fun b o' e=>kp b o' (by simp) e) (tk2.none hL hx2) ⟨dx',by rw [Ae fun z=>n1 (Fj.mp z)];exact e1,by rw [Ae fun z=>n2 (Fj.mp z)];exact e2⟩
theorem Z1j{f:Addr}{fd:FuncData}(F:Fun K "_law_cell_at" "_law_cell_at" Z07 f fd)(T:Txt K mg Z2 Z0 Z1):B2 P w K mg base (CXF P w) 1 f fd ["_law_script","_law_k"] (Gn K):=by
 have sc:Ah ["_law_script","_law_k"] ["_law_script","_law_k"] (A8 Z07):=by walk_at "sc"
 refine F.okF sc (fun vs H Q E h=>?_) (fun cdv A outer s H vs Q E hr h=>?_)
 · obtain ⟨_,_,_,rfl,_⟩:=h;rfl
 obtain ⟨a,ns,k,rfl,hS,h0,hl,q⟩:=h
 refine ⟨_,(@A4 _ _ _ _ _ (Bn (B3 Tn (pv 1) (Af Ay rfl T.Z9 FP (A2 (pv 0) A5)) (nomark _))
  (@A9 _ _ _ (@Ap _ _ _ _ (@C7 _ _ _ _ _ _ _ C8 (pv 0) (pv 1) (fun _ _=>rfl))))
  Ax)
  (@A9 _ _ _ (@Ap _ _ _ _ A6))),?_⟩
 walk_at "st";walk_at "go";rw [Fa];split
 · rename_i hk
   exact Cu hS (Ic h0 (J2m (by omega))) q
 · rename_i hk
   rw [Fg,HC (by omega)]at q;walk_at "go";exact q
theorem Z2g{f:Addr}{fd:FuncData}(F:Fun K "_law_mix" "_law_mix" Z1a f fd)(T:Txt K mg Z2 Z0 Z1):B2 P w K mg base (CXF P w) 1 f fd ["_law_cell","_law_k"] (Do):=by
 have sc:Ah ["_law_cell","_law_k","_law_number"] ["_law_cell","_law_k"] (A8 Z1a):=by walk_at "sc"
 refine F.okF sc (fun vs H Q E h=>?_) (fun cdv A outer s H vs Q E hr h=>?_)
 · obtain ⟨_,_,rfl,_⟩:=h;rfl
 obtain ⟨c,k,rfl,hk0,hk1,q⟩:=h
 refine ⟨_,(@A4 _ _ _ _ _ (Al (i:=2) sc.nd rfl (Or.inl rfl) (Ad Co (Ad Co (Ad B7 (pv 0) A6) (Ad L8 A6 (pv 1))) A6))
  (@A9 _ _ _ (@Ap _ _ _ _ (Ad B7 (Ad L8 (Ad B7 (Ad Du (pv 2) (pv 2)) A6) A6) A6)))),?_⟩
 walk_at "st";have hx0:=FT c (show (1000000007:Int)≠0 by decide);have hx1:=FO c (show (0:Int) < 1000000007 by decide);walk_at "go"
 have big:(c % 1000000007+7919 * k+1).natAbs < 10 ^ 100:=by omega
 generalize c % 1000000007+7919 * k+1=u at big ⊢;have hy0:=FT (u * u) (show (2147483647:Int)≠0 by decide);have hy1:=FO (u * u) (show (0:Int) < 2147483647 by decide);exact ⟨⟨big,big⟩,by decide,Uz (by omega) (by omega),by decide,q _ (FT _ (by decide)) (by have:=FO (u * u % 2147483647 * 48271) (show (0:Int) < 2147483629 by decide);omega)⟩
theorem Z1r{f:Addr}{fd:FuncData}(F:Fun K "_law_names" "_law_names" Z0r f fd)(T:Txt K mg Z2 Z0 Z1):B2 P w K mg base (CXF P w) 1 f fd ["_law_cell","_law_many"] (D5):=by
 have sc:Ah ["_law_cell","_law_many","_law_letters","_law_long","_law_at","_law_names_here","_law_k","_law_name","_law_j","_law_signs","_law_sign"] ["_law_cell","_law_many"] (A8 Z0r):=by walk_at "sc"
 refine F.okF sc (fun vs H Q E h=>?_) (fun cdv A outer s H vs Q E hr h=>?_)
 · obtain ⟨_,_,rfl,_⟩:=h;rfl
 obtain ⟨i,m,rfl,hm,q⟩:=h
 refine ⟨_,(@A4 _ _ _ _ _ (Al (i:=2) sc.nd rfl (Or.inl rfl) L4)
  (@A4 _ _ _ _ _ (Al (i:=3) sc.nd rfl (Or.inl rfl) (Ad Co A6 (Ad B7 (pv 0) A6)))
  (@A4 _ _ _ _ _ (Al (i:=4) sc.nd rfl (Or.inl rfl) (Ad B7 (Ad Dr (pv 0) A6) (pv 3)))
  (@A4 _ _ _ _ _ (Al (i:=5) sc.nd rfl (Or.inl rfl) (@L9 _ _ _ _ A5))
  (@A4 _ _ _ _ _ (Eu Ck rfl (Et rfl T.Zq (A2 (pv 1) A5)) (B1 (i:=6) sc.nd rfl (Or.inl rfl))
   (@A4 _ _ _ _ _ (Al (i:=7) sc.nd rfl (Or.inl rfl) L4)
   (@A4 _ _ _ _ _ (Eu Ck rfl (Et rfl T.Zq (A2 (pv 3) A5)) (B1 (i:=8) sc.nd rfl (Or.inl rfl))
    (@A4 _ _ _ _ _ (Al (i:=9) sc.nd rfl (Or.inl rfl) (pv 2))
    (@A4 _ _ _ _ _ (Bn (B3 Ka (pv 8) A6 (nomark _))
     (@A9 _ _ _ (Al (i:=9) sc.nd rfl (Or.inl rfl) (Ad Cp (pv 2) L4)))
     Ax)
    (@A4 _ _ _ _ _ (Al (i:=10) sc.nd rfl (Or.inl rfl) (Ad Co (Ad U6 (pv 0) (Ad Co A6 (Ad L8 A6 (pv 8)))) (Ad Du (Kh Sb rfl T.Z0a (by first | rfl | decide+kernel) (A2 (Ds K9 (pv 8) (pv 4) (nomark _)) A5)) (pv 6))))
    (@A9 _ _ _ (Al (i:=7) sc.nd rfl (Or.inl rfl) (Ad Cp (pv 7) (@C7 _ _ _ _ _ _ _ Ts (pv 9) (Ad B7 (pv 10) (Af Ct rfl T.Z9 FP (A2 (pv 9) A5))) (fun _ _=>rfl)))))))))
   (@A9 _ _ _ (Gg (Tw HY HX HW Cg (pv 5) (A2 (pv 7) A5)))))))
  (@A4 _ _ _ _ _ (Bn (PW.pt (O7 (B3 Ka (pv 1) A6 (nomark _)) (O7 (B3 Tn (pv 3) A6 (nomark _)) (Oz (B3 K9 (Ad B7 (Ad Dr (pv 0) A6) A6) A6 (nomark _))))))
   (@A9 _ _ _ (Tc (Ad Cp (@C7 _ _ _ _ _ _ _ C8 (pv 5) A6 (fun _ _=>rfl)) L4) (J22 (pv 5) (Ad Tj (pv 1) A6) Tt)))
   Ax)
  (@A9 _ _ _ (@Ap _ _ _ _ (pv 5))))))))),?_⟩
 walk_at "st";have line:=Aq;have ll:=Yb;have fl:=Yc;have bl:=N0
 have hL1:1≤(1+i % 8).toNat:=by omega
 have hL8:(1+i % 8).toNat≤8:=by omega
 have h8:(1+i % 8)=((1+i % 8).toNat:Int):=by omega
 walk_at "go";rw [h8];clear h8;generalize (1+i % 8).toNat=L at hL1 hL8 ⊢;have ha0:=FT (i / 8) (show (L:Int)≠0 by omega);have ha1:=FO (i / 8) (show (0:Int) < L by omega);walk_at "go";generalize i / 8 % (L:Int)=at' at ha0 ha1 ⊢;intro p hp;walk_at "go";refine Lh (fun k σ H'=>∃(v6 v7 v8 v9 v10:Option V),σ=[some (V.int i),some (V.int m),some (V.str (Str.ofString "abcdefghijklmnopqrstuvwxyz")),some (V.int L),some (V.int at'),some (V.ref p),v6,v7,v8,v9,v10]∧H'=upd H p (.lst (((List.range k).map fun k=>tx (nm3 (fun j:Nat=>i.fdiv (64+7 * (j:Int))) at' L k)).map V.str))) ⟨none,none,none,none,none,rfl,rfl⟩ ?_ ?_
 · rintro k σ H' hk ⟨v6,v7,v8,v9,v10,rfl,rfl⟩
   have hlen:(((List.range k).map fun k=>tx (nm3 (fun j:Nat=>i.fdiv (64+7 * (j:Int))) at' L k)).map V.str).length=k:=by simp
   walk_at "go";rename_i rest hrest;refine Lh (fun j σ H'=>∃(v8 v9 v10:Option V),σ=[some (V.int i),some (V.int m),some (V.str (Str.ofString "abcdefghijklmnopqrstuvwxyz")),some (V.int L),some (V.int at'),some (V.ref p),some (V.int k),some (V.str (tx (nmL (fun j:Nat=>i.fdiv (64+7 * (j:Int))) at' j k))),v8,v9,v10]∧H'=upd H p (.lst (((List.range k).map fun k=>tx (nm3 (fun j:Nat=>i.fdiv (64+7 * (j:Int))) at' L k)).map V.str))) ⟨v8,v9,v10,rfl,rfl⟩ ?_ ?_
   · rintro j σ H' hj ⟨v8,v9,v10,rfl,rfl⟩
     have hzl:(tx (nmL (fun j:Nat=>i.fdiv (64+7 * (j:Int))) at' j k)).length≤8:=by rw [J16,D3];omega
     rw [X0];generalize upd H p (.lst (((List.range k).map fun k=>tx (nm3 (fun j:Nat=>i.fdiv (64+7 * (j:Int))) at' L k)).map V.str))=Hp';generalize nmL (fun j:Nat=>i.fdiv (64+7 * (j:Int))) at' j k=zl at hzl ⊢;unfold sgn md;walk_at "go";rename_i rest hrest
     have key2:∀(z:Str) (M:Nat),0 < M→M≤36→z.length=M→(∀x:Int,atI z.cps.toList (x % M)=some (bc (x % M)))→(M:Int)=(if j=0 then 26 else 36)→rest [some (V.int i),some (V.int m),some (V.str (Str.ofString "abcdefghijklmnopqrstuvwxyz")),some (V.int L),some (V.int at'),some (V.ref p),some (V.int k),some (V.str (tx zl)),some (V.int j),some (V.str z),v10] Hp':=by
      intro z M hM0 hM1 hzM hix hMj;subst hrest;rw [← hMj];clear hMj;walk_at "go"
      refine ⟨⟨by split <;> decide,by omega⟩,?_⟩
      walk_at "go";refine Vc (by omega) (hix _) ⟨_,rfl,by rw [Q8];omega,?_,rfl⟩
      have e:(if (j:Int)=at' then (1:Int) else 0) * k=if (j:Int)=at' then (k:Int) else 0:=by split <;> simp
      rw [J50,J4z,e]
     clear hrest;split
     · rename_i hj0
       refine ⟨by omega,?_⟩;rw [Wz];exact key2 _ 36 (by decide) (by decide) bl (fun x=>J51 x (by decide) (by decide)) (by rw [if_neg (by omega)];rfl)
     · rename_i hj0
       exact key2 _ 26 (by decide) (by decide) ll (fun x=>J3d x) (by rw [if_pos (by omega)];rfl)
   · rintro σ H' ⟨v8,v9,v10,rfl,rfl⟩
     subst hrest;walk_at "go"
     have hz3:tx (nmL (fun j:Nat=>i.fdiv (64+7 * (j:Int))) at' L k)=tx (nm3 (fun j:Nat=>i.fdiv (64+7 * (j:Int))) at' L k)∧True:=by
      unfold nm3;rw [if_neg (by omega),FF];exact ⟨rfl,trivial⟩
     rw [hz3.1];refine ⟨.inl ⟨rfl,_,SqL.of A1⟩,p,_,_,rfl,rfl,A1,by rw [hlen];omega,?_⟩;walk_at "go";congr 2;rw [List.range_succ,FK,FK];rfl
 · rintro σ H' ⟨v6,v7,v8,v9,v10,rfl,rfl⟩
   have ndA:((List.range m).map fun k=>tx (nm3 (fun j:Nat=>i.fdiv (64+7 * (j:Int))) at' L k)).Nodup:=Wu fun a b ha hb e=>Yz ha0 ha1 (by omega) (by omega) e
   have nmA:∀y∈(List.range m).map fun k=>tx (nm3 (fun j:Nat=>i.fdiv (64+7 * (j:Int))) at' L k),B6 y.cps.toList=true∧y.length≤L∧L≤y.length:=fun y hy=>by
    obtain ⟨k,hk,rfl⟩:=Fw.mp hy;have:=Rc.mp hk;rw [G5,J16]
    have e:nm3 (fun j:Nat=>i.fdiv (64+7 * (j:Int))) at' L k=nmL (fun j:Nat=>i.fdiv (64+7 * (j:Int))) at' L k:=by unfold nm3;rw [if_neg (by omega),FF]
    refine ⟨X1 hL1 hL8 (fun h=>by omega) (by omega),?_⟩;rw [e,D3];omega
   have lnA:((List.range m).map fun k=>tx (nm3 (fun j:Nat=>i.fdiv (64+7 * (j:Int))) at' L k)).length≤m∧m≤((List.range m).map fun k=>tx (nm3 (fun j:Nat=>i.fdiv (64+7 * (j:Int))) at' L k)).length:=by simp
   generalize ((List.range m).map fun k=>tx (nm3 (fun j:Nat=>i.fdiv (64+7 * (j:Int))) at' L k))=ys at ndA nmA lnA ⊢;walk_at "go";rename_i rest hrest
   have key:∀zs:List Str,zs.length≤m→m≤zs.length→zs.Nodup→(∀y∈zs,B6 y.cps.toList=true)→rest [some (V.int i),some (V.int m),some (V.str (Str.ofString "abcdefghijklmnopqrstuvwxyz")),some (V.int L),some (V.int at'),some (V.ref p),v6,v7,v8,v9,v10] (upd H p (.lst (zs.map V.str))):=by
    intro zs g1 g2 g3 g4;subst hrest;walk_at "go";exact q p zs _ hp (A7.new hp) A1 g1 g2 g3 g4
   clear hrest;have key0:=key ys lnA.1 lnA.2 ndA fun y hy=>(nmA y hy).1;split
   · rename_i hm1
     split
     · rename_i hL7
       refine ⟨Eg (by decide) (by decide),by decide,?_⟩;split
       · have h0:ys[0]?=some (ys.getD 0 Str.empty):=by rw [Fg,Fe (by omega)];rfl
         have hin:=Fk h0;obtain ⟨n1,n2,n3⟩:=nmA _ hin;obtain ⟨sv,sl⟩:=seven;refine Cu (SqL.of A1) (v:=V.str (ys.getD 0 Str.empty)) (Ic (by decide) (by rw [show (0:Int).toNat=0 from rfl,Fm,h0];rfl)) ⟨_,rfl,by omega,?_⟩;generalize ys.getD 0 Str.empty=y0 at n1 n2 n3 ⊢;walk_at "go";refine ⟨_,A1,m - 1,?_,?_⟩
         · rw [Fa,show ((m:Int) - 1)=((m - 1:Nat):Int) by omega]
           exact J3f (by omega)
         · walk_at "go"
           have hzl:(y0++Str.ofString "7").length=y0.length+1∧True:=⟨by rw [← Dw,Ej,Fx,Dw,sv];rfl,trivial⟩
           rw [← List.map_set];refine key _ (by rw [R8];omega) (by rw [R8];omega) (T4 ndA (fun h=>by have:=nmA _ h;omega) _) fun y hy=>?_;rcases List.mem_or_eq_of_mem_set hy with h | h
           · exact (nmA y h).1
           · rw [h,Ej,sv]
             exact Kz n1 (by rw [Dw];omega) (by decide)
       · exact key0
     · exact key0
   · exact key0
theorem Z1s{f:Addr}{fd:FuncData}(F:Fun K "_law_great" "_law_great" Z0s f fd)(T:Txt K mg Z2 Z0 Z1)(Z00:Def P w K mg base (CXF P w) 1 "_law_mix" ["_law_cell","_law_k"] (Do)):B2 P w K mg base (CXF P w) 2 f fd ["_law_cell","_law_k"] (D6):=by
 have sc:Ah ["_law_cell","_law_k","_law_number"] ["_law_cell","_law_k"] (A8 Z0s):=by walk_at "sc"
 refine F.okF sc (fun vs H Q E h=>?_) (fun cdv A outer s H vs Q E hr h=>?_)
 · obtain ⟨_,_,rfl,_⟩:=h;rfl
 obtain ⟨c,k,rfl,hk0,hk1,q⟩:=h
 refine ⟨_,(@A4 _ _ _ _ _ (Al (i:=2) sc.nd rfl (Or.inl rfl) (Ac Z00 hr rfl Aa (A2 (pv 0) (A2 (pv 1) A5))))
  (@A9 _ _ _ (@Ap _ _ _ _ (Ad Du (Ad Du (Ad Du (Ad Du (pv 2) (pv 2)) (pv 2)) (pv 2)) (pv 2))))),?_⟩
 walk_at "st";have line:=Aq;walk_at "go";intro v hv0 hv1;obtain ⟨a1,b1⟩:=Lx hv0 hv0 hv1 hv1;obtain ⟨a2,b2⟩:=Lx a1 hv0 b1 hv1;obtain ⟨a3,b3⟩:=Lx a2 hv0 b2 hv1;obtain ⟨a4,b4⟩:=Lx a3 hv0 b3 hv1;rename_i rest hrest;subst hrest;walk_at "go";exact ⟨⟨by omega,by omega⟩,⟨by omega,by omega⟩,⟨by omega,by omega⟩,⟨by omega,by omega⟩,q _ a4 (by omega)⟩
theorem Z2e{f:Addr}{fd:FuncData}(F:Fun K "_law_book" "_law_book" Z12 f fd)(T:Txt K mg Z2 Z0 Z1):B2 P w K mg base (CXF P w) 1 f fd ["_law_cells","_law_names_here"] (E4 K):=by
 have sc:Ah ["_law_cells","_law_names_here","_law_book_here","_law_cell","_law_name","_law_gone"] ["_law_cells","_law_names_here"] (A8 Z12):=by walk_at "sc"
 refine F.okF sc (fun vs H Q E h=>?_) (fun cdv A outer s H vs Q E hr h=>?_)
 · obtain ⟨_,_,_,_,rfl,_⟩:=h;rfl
 obtain ⟨a,n,cs,ns,rfl,hS,hcl,hn,hn0,hn1,q⟩:=h
 refine ⟨_,(@A4 _ _ _ _ _ (Al (i:=2) sc.nd rfl (Or.inl rfl) (@L9 _ _ _ _ A5))
  (@A4 _ _ _ _ _ (Eu Ck rfl (Bq (pv 0)) (B1 (i:=3) sc.nd rfl (Or.inl rfl))
   (@A4 _ _ _ _ _ (Al (i:=4) sc.nd rfl (Or.inl rfl) (@C7 _ _ _ _ _ _ _ C8 (pv 1) (Ad B7 (pv 3) (Af Ay rfl T.Z9 FP (A2 (pv 1) A5))) (fun _ _=>rfl)))
   (@A4 _ _ _ _ _ (Al (i:=5) sc.nd rfl (Or.inl rfl) (@L9 _ _ _ _ (A2 (@C7 _ _ _ _ _ _ _ C8 (pv 1) (Ad B7 (Ad Dr (pv 3) A6) (Af Ay rfl T.Z9 FP (A2 (pv 1) A5))) (fun _ _=>rfl)) (A2 (@C7 _ _ _ _ _ _ _ C8 (pv 1) (Ad B7 (Ad Dr (pv 3) A6) (Af Ay rfl T.Z9 FP (A2 (pv 1) A5))) (fun _ _=>rfl)) A5))))
   (@A9 _ _ _ (Gg (Tw HY HX HW Cg (pv 2) (A2 (E8 (A2 (pv 4) (A2 (Ds K9 (Ad B7 (Ad Dr (pv 3) A6) A6) A6 (nomark _)) (A2 (Dh Ec (pv 5) Gj (Dt (Ad B7 (Ad Dr (pv 3) A6) A6))) A5)))) A5)))))))
  (@A9 _ _ _ (@Ap _ _ _ _ (pv 2))))),?_⟩
 walk_at "st";have line:=Aq;walk_at "go";intro p hp;have sm0:A7 H (upd H p (.lst [])):=A7.new hp;have hp0:upd H p (.lst []) p=some (.lst []):=A1;generalize upd H p (.lst [])=H1 at sm0 hp0 ⊢;rename_i rest hrest;subst hrest;walk_at "go";rename_i rest hrest;refine ⟨⟨_,sm0.seq hS⟩,?_⟩;refine Li (xs:=cs.map V.int) (fun i σ H'=>∃(bs:List Bk5) (gs:List (List Str)) (v3 v4 v5:Option V),σ=[some (V.ref a),some (V.ref n),some (V.ref p),v3,v4,v5]∧A7 H H'∧BkG H' p bs gs∧p∉bs.map (·.1)∧p∉bs.map (·.2.2.2)∧bs.length≤i∧∀r∈bs,r.2.1∈ns) ⟨[],[],none,none,none,rfl,sm0,⟨⟨hp0,fun r hr=>by cases hr⟩,rfl,fun i r g h=>by simp at h⟩,by simp,by simp,Fn _,fun r hr=>by cases hr⟩ (fun i σ H' _ ⟨_,_,_,_,_,_,sm,_⟩=>sm.seq hS) ?_ ?_
 · clear hrest
   rintro i x σ H' hx ⟨bs,gs,v3,v4,v5,rfl,sm,hB,np1,np2,hbl,hin⟩;rw [Fm]at hx
   cases hc:cs[i]? with
   | none=>rw [hc]at hx;cases hx
   | some c=>
   rw [hc]at hx;cases hx;have hi:=(Fi.mp hc).1
   have ix:∀e:Int,∃y∈ns,atI (ns.map V.str) (e % (ns.length:Int))=some (V.str y):=fun e=>by
    have h0:=FT e (show (ns.length:Int)≠0 by omega);have h1:=FO e (show (0:Int) < ns.length by omega);refine ⟨_,Fk (Lu (ys:=ns) (k:=(e % (ns.length:Int)).toNat) (by omega)),?_⟩;rw [show e % (ns.length:Int)=(((e % (ns.length:Int)).toNat:Nat):Int) by omega,Int.toNat_natCast];exact Lb (by rw [Fm,Lu (by omega)];rfl)
   have hnH:=sm.seq hn;walk_at "go";rw [Fa];obtain ⟨y1,hy1,e1⟩:=ix c;obtain ⟨y2,hy2,e2⟩:=ix (c / 40);obtain ⟨y3,hy3,e3⟩:=ix (c / 320);refine ⟨by omega,Cu hnH e1 ?_⟩;rename_i rest2 hrest2;subst hrest2;walk_at "go";rename_i rest2 hrest2;refine ⟨by rw [Fa];omega,?_⟩;rw [Fa];refine Cu hnH e2 ⟨Eg (by decide) (by decide),_,.inl hnH,by rw [Fa];omega,?_⟩;rw [Fa];refine Cu hnH e3 ⟨by omega,fun g0 hg0=>?_⟩;have sm2:A7 H' (upd H' g0 (.lst [V.str y2,V.str y3])):=A7.new hg0;have hg2:upd H' g0 (.lst [V.str y2,V.str y3]) g0=some (.lst [V.str y2,V.str y3]):=A1;generalize upd H' g0 (.lst [V.str y2,V.str y3])=H2 at sm2 hg2 ⊢;have hB2:=hB.same sm2;subst hrest2;walk_at "go";refine ⟨.inl ⟨rfl,_,SqL.of hB2.b.l⟩,Eg (by decide) (by decide),by decide,Eg (by decide) (by decide),by decide,_,SqL.of hg2,fun g1 hg1=>⟨by omega,fun t ht=>?_⟩⟩;obtain ⟨g,eg,hgl⟩:=J5b [y2,y3] none (some (c / 5 % 3))
   have eg:Eb [V.str y2,V.str y3] none (some (c / 5 % 3))=g.map V.str:=eg;rw [eg]at ht ⊢;have s3:A7 H2 (upd H2 g1 (.lst (g.map V.str))):=A7.new hg1;have hg3:upd H2 g1 (.lst (g.map V.str)) g1=some (.lst (g.map V.str)):=A1;generalize upd H2 g1 (.lst (g.map V.str))=H3 at s3 hg3 ht ⊢;have s4:A7 H3 (upd H3 t (.tup [V.str y1,V.bl (decide (c / 13 % 3=0)),V.ref g1])):=A7.new ht;have ht4:upd H3 t (.tup [V.str y1,V.bl (decide (c / 13 % 3=0)),V.ref g1]) t=some (.tup [V.str y1,V.bl (decide (c / 13 % 3=0)),V.ref g1]):=A1;generalize upd H3 t (.tup [V.str y1,V.bl (decide (c / 13 % 3=0)),V.ref g1])=H4 at s4 ht4 ⊢;have npt:p≠t:=A3 (hB2.same s3).b.l ht;have npg:p≠g1:=A3 hB2.b.l hg1;have hB4:=(hB2.same s3).same s4;have sA:A7 H H4:=sm.trans (sm2.trans (s3.trans s4));have bl:=hB.l;refine ⟨p,_,_,rfl,rfl,hB4.b.l,by rw [Fa];omega,fun b o e=>by rw [A0 (A3 e hp)];exact sA _ _ e,bs++[(t,y1,decide (c / 13 % 3=0),g1)],gs++[g],⟨⟨by rw [A1,FK];rfl,fun r hr=>?_⟩,by rw [Fx,Fx,bl];rfl,fun j r g' h1 h2=>?_⟩,?_,?_,?_,fun r hr=>?_⟩
   · rcases He.mp hr with hr | hr
     · rw [A0 fun z=>np1 (Fw.mpr ⟨r,hr,z⟩)];exact hB4.b.t r hr
     · rw [Fj.mp hr];exact (A0 (Ne.symm npt)).trans ht4
   · by_cases hj:j < bs.length
     · rw [Fs hj]at h1
       rw [Fs (by omega)]at h2;have:=hB4.g j r g' h1 h2;exact ⟨by rw [A0 fun z=>np2 (Fw.mpr ⟨r,Fk h1,z⟩)];exact this.1,this.2⟩
     · have hj2:=(Fi.mp h1).1
       rw [Fx,HA]at hj2;rw [Fv (by omega),show j - bs.length=0 by omega,List.getElem?_cons_zero]at h1;rw [Fv (by omega),show j - gs.length=0 by omega,List.getElem?_cons_zero]at h2;cases h1;cases h2;exact ⟨(A0 (Ne.symm npg)).trans (s4 _ _ hg3),hgl⟩
   · rw [FK];intro z
     rcases He.mp z with z | z
     · exact np1 z
     · exact npt (Fj.mp z)
   · rw [FK];intro z
     rcases He.mp z with z | z
     · exact np2 z
     · exact npg (Fj.mp z)
   · rw [Fx,HA];omega
   · rcases He.mp hr with hr | hr
     · exact hin r hr
     · rw [Fj.mp hr];exact hy1
 · rintro σ H' ⟨bs,gs,v3,v4,v5,rfl,sm,hB,np1,np2,hbl,hin⟩
   rw [Fa]at hbl;subst hrest;walk_at "go";exact q p bs gs H' hp sm hB (by omega) hin
theorem Z2f{f:Addr}{fd:FuncData}(F:Fun K "_law_paid" "_law_paid" Z13 f fd)(T:Txt K mg Z2 Z0 Z1)(Z0w:Def P w K mg base (CXF P w) 8 "paid_by" ["stock","book"] (Cm 253 (⟨96,25,96,57⟩:Pos) (("paid_by"++".<locals>.")++"<lambda>") K Z1 Z0)):B2 P w K mg base (CXF P w) 9 f fd ["_law_stock","_law_book_here"] (D7 253 (⟨96,25,96,57⟩:Pos) (("paid_by"++".<locals>.")++"<lambda>") K Z1):=by
 have sc:Ah ["_law_stock","_law_book_here","_law_found","_law_told","e"] ["_law_stock","_law_book_here"] (A8 Z13):=by walk_at "sc"
 refine F.okF sc (fun vs H Q E h=>?_) (fun cdv A outer s H vs Q E hr h=>?_)
 · obtain ⟨_,_,_,_,rfl,_⟩:=h;rfl
 obtain ⟨st,p,ts,bs,rfl,hst,nd,hB,hbl,hL,q,qe⟩:=h
 refine ⟨_,(@A4 _ _ _ _ _ (Al (i:=2) sc.nd rfl (Or.inl rfl) O5)
  (@A4 _ _ _ _ _ (Al (i:=3) sc.nd rfl (Or.inl rfl) O5)
  (@A4 _ _ _ _ _ (Yp rfl rfl (fun t hp=>(@A9 _ _ _ (Al (i:=2) sc.nd rfl (Or.inl rfl) (V1 Z0w hr rfl hp (A2 (pv 0) (A2 (pv 1) A5))))))
   (J36 (i:=4) rfl sc.nd rfl rfl rfl T.Z2d (fun x=>(@A9 _ _ _ (Al (i:=3) sc.nd rfl (Or.inl rfl) (E8 (A2 (Ql (pv 4) rfl) (A2 (Ql (pv 4) rfl) A5)))))) Yo))
  (@A9 _ _ _ (@Ap _ _ _ _ (E8 (A2 (pv 2) (A2 (pv 3) A5)))))))),?_⟩
 walk_at "st";have line:=Aq;walk_at "go";refine ⟨ts,hst,nd,bs,hB,hbl,hL,fun hg H' tk=>⟨by omega,fun t ht=>q hg t _ (tk.trans (Tk.of tk.lam (A7.new ht))) A1⟩,fun l1 z l2 e1 hg ng H' x tk hx er=>?_⟩;obtain ⟨dy,e2,e3⟩:=er;refine ⟨true,T.Z10,?_⟩;rw [if_pos rfl];refine ⟨false,Z0,Z2,dy,e2,_,e3,T.Zn,T.Z7,_,Wq,false,Z0,Z2,dy,e2,_,e3,T.Zn,T.Z6,_,T2,by omega,fun p1 hp1=>⟨by omega,fun p2 hp2=>?_⟩⟩;have n12:p1≠p2:=A3 A1 hp2;exact qe l1 z l2 e1 hg ng p2 p1 _ (tk.trans (Tk.of tk.lam ((A7.new hp1).trans (A7.new hp2)))) A1 (by rw [A0 n12];exact A1)
theorem Z1t{f:Addr}{fd:FuncData}(F:Fun K "_law_whole" "_law_whole" Z0t f fd)(T:Txt K mg Z2 Z0 Z1):B2 P w K mg base (CXF P w) 1 f fd ["_law_found","_law_due"] (C5):=by
 have sc:Ah ["_law_found","_law_due"] ["_law_found","_law_due"] (A8 Z0t):=by walk_at "sc"
 refine F.okF sc (fun vs H Q E h=>?_) (fun cdv A outer s H vs Q E hr h=>?_)
 · obtain ⟨_,_,rfl,_⟩:=h;rfl
 obtain ⟨i,j,rfl,q⟩:=h;refine ⟨_,(@A9 _ _ _ (@Ap _ _ _ _ (Es (Af Bt rfl T.Z4 (by first | rfl | decide+kernel) (A2 (pv 0) (A2 (Ea (v:= .ty "int") rfl T.Z0a (by first | rfl | decide+kernel) rfl) A5))) (Es (Ta (Af Bt rfl T.Z4 (by first | rfl | decide+kernel) (A2 (pv 0) (A2 (Ea (v:= .ty "bool") rfl T.Z09 (by first | rfl | decide+kernel) rfl) A5)))) (Gx (Ds K9 (pv 0) (pv 1) (nomark _))))))),?_⟩;walk_at "st";have line:=Aq;walk_at "go";exact q
theorem J0a{f c1 c2 nu hd:Addr}{kvs:List (Key×V)}{Nn:Str→Int}{H0:Hp}(ne:c1≠c2)(h0:SJ J07 [("_law_numbers",c1),("_law_heard",c2)] f nu hd kvs [] H0)(hkI:∀z,Bc kvs (Sum.inr z)=none∨Bc kvs (Sum.inr z)=some (.int (Nn z)))(T:Txt K mg Z2 Z0 Z1):Da P w K mg base (CXF P w) 6 f (fun H=>∃l:List Str,(Kp [hd] H0 H∧H hd=some (.lst (l.map V.str)))) (Ox [hd] (fun l H=>Kp [hd] H0 H∧H hd=some (.lst (l.map V.str))) (fun _=>True) (gN kvs Nn) Z0):=by
 have sc:As ["_law_name","_law_numbers","_law_heard"] ["_law_name"] J07.scope [("_law_numbers",c1),("_law_heard",c2)]:=As.mk2 (ps:=["_law_name"]) (sc:=J07.scope) (x:="_law_numbers") (y:="_law_heard") rfl rfl rfl (by decide+kernel) (by decide+kernel) (by decide+kernel) (by decide+kernel) rfl rfl ne (by decide+kernel);refine Da.ofDefF (fvs:=[V.ref nu,V.ref hd]) sc (fun pm ct cd doc us hl=>match us,hl with | [_],_=>rfl) (fun vs H Q E h=>?_) (fun H ⟨_,k,h⟩=>⟨(h0.kp k h).d,(h0.kp k h).c⟩) (fun cd A outer s H vs Q E hr hJ0 h=>?_)
 · obtain ⟨z,l,rfl,_⟩:=h;rfl
 obtain ⟨z,l,rfl,hl,hJ,q,qe⟩:=h
 refine ⟨_,(A4 (Gg (Tw HY HX HW Cg (pv 2) (A2 (pv 0) A5)))
  (A9 (Ap (U2 (D8 hr) (pv 1) (pv 0) (Ad Co (Ad Gz A6 A6) A6) ⟨rfl,rfl,rfl,rfl⟩)))),?_⟩
 have line:=Aq;have j:=h0.kp hJ.1 hJ.2
 have nh:hd∉[c1,c2]:=fun z=>by
  obtain ⟨a,e⟩:∃a:Str×Addr,a∈[((Str.ofString "_law_numbers":Str),c1),(Str.ofString "_law_heard",c2)]∧a.2=hd:=by
   simp only [FD,HZ,or_false]at z;rcases z with z | z
   · exact ⟨_,Fq,z.symm⟩
   · exact ⟨_,Fp _ Fq,z.symm⟩
  obtain ⟨o,u,h,_⟩:=j.c.get a e.1;rw [e.2,j.h]at h;cases h
 have nn:nu∉[c1,c2]:=fun z=>by
  obtain ⟨a,e⟩:∃a:Str×Addr,a∈[((Str.ofString "_law_numbers":Str),c1),(Str.ofString "_law_heard",c2)]∧a.2=nu:=by
   simp only [FD,HZ,or_false]at z;rcases z with z | z
   · exact ⟨_,Fq,z.symm⟩
   · exact ⟨_,Fp _ Fq,z.symm⟩
  obtain ⟨o,u,h,_⟩:=j.c.get a e.1;rw [e.2,j.n]at h;cases h
 have nuh:nu≠hd:=fun z=>by
  have:=j.n;rw [z,j.h]at this;cases this
 have hh:unk H [c1,c2] hd=some (.lst (l.map V.str)):=by rw [Ae nh];exact j.h
 walk_at "go";simp only [List.cons_append,List.nil_append,List.getElem?_cons_zero,List.getElem?_cons_succ,Option.some.injEq,exists_eq_left'];refine ⟨.inl ⟨rfl,_,SqL.of hh⟩,hd,_,_,rfl,rfl,hh,by rw [Fa];omega,?_⟩
 have hn2:upd (unk H [c1,c2]) hd (.lst (l.map V.str++[V.str z])) nu=some (.dK kvs):=by rw [A0 nuh,Ae nn];exact j.n
 have hcc:∀c∈[c1,c2],upd (unk H [c1,c2]) hd (.lst (l.map V.str++[V.str z])) c=none:=fun c hc=>by rw [A0 (Xf hc nh),Bp hc]
 have hr:retr (upd (unk H [c1,c2]) hd (.lst (l.map V.str++[V.str z]))) H [c1,c2]=upd H hd (.lst ((l++[z]).map V.str)):=by
  funext b
  by_cases hb:b∈[c1,c2]
  · rw [Br hb,A0 (Xf hb nh)]
  · rw [Ao hb]
    by_cases e:b=hd
    · rw [e,A1,A1,FK];rfl
    · rw [A0 e,A0 e,Ae hb]
 rename_i rest hrest;subst hrest;walk_at "go";refine ⟨.inl ⟨_,.inl hn2⟩,⟨by decide,by decide,by decide⟩,_,.inl ⟨kvs,Sum.inr z,.inl hn2,rfl,rfl⟩,fun _=>?_⟩;rw [hr]
 have e:(Bc kvs (Sum.inr z)).getD (V.int (10 ^ 33+7))=V.int (gN kvs Nn z):=by
  unfold gN
  rcases hkI z with e | e <;> rw [e] <;> rfl
 rw [e];have k:Kp [hd] H (upd H hd (.lst ((l++[z]).map V.str))):=Kp.upd (Kp.of (A7.refl H)) Fq;exact q trivial _ k ⟨hJ.1.trans k,A1⟩
theorem Z1m{f:Addr}{fd:FuncData}(F:Fun K "_law_summed" "_law_summed" Zf f fd)(T:Txt K mg Z2 Z0 Z1)(Za:Def P w K mg base (CXF P w) 7 "weighed" ["book","weigh"] (Be P w K mg base Z0))(Zd:Def P w K mg base (CXF P w) 1 "_law_whole" ["_law_found","_law_due"] (C5))(M:Yf K f 309)(HB:base.BuiltinsAt mg 309):B2 P w K mg base (CXF P w) 8 f fd ["_law_book_here","_law_numbers","_law_missed"] (Bv 309 (⟨145,4,147,56⟩:Pos) (("_law_summed"++".<locals>.")++"_law_weigh") K):=by
 have sc:Ah ["_law_book_here","_law_numbers","_law_missed","_law_heard","_law_weigh","_law_found"] ["_law_book_here","_law_numbers","_law_missed"] (A8 Zf):=by walk_at "sc"
 refine F.okCF M sc (fun vs H Q E h=>?_) (fun c A outer s H vs Q E hc hr h=>?_)
 · obtain ⟨_,_,_,_,_,_,rfl,_⟩:=h;rfl
 obtain ⟨p,nu,m,bs,kvs,Nn,rfl,hB,hbl,hnu,hkI,hkv,hm,hL,q⟩:=h
 refine ⟨_,(@A4 _ _ _ _ _ (Al (i:=3) sc.nd rfl (Or.inr rfl) (@L9 _ _ _ _ A5))
  (@A4 _ _ _ _ _ (Yt (i:=4) rfl rfl rfl rfl rfl hc (by decide) HB sc.nd rfl (Or.inl rfl))
  (@A4 _ _ _ _ _ (Al (i:=5) sc.nd rfl (Or.inl rfl) (Wb (i:=3) (i2:=1) Za W7 Aa hr rfl (A2 (pv 0) (A2 (pv 4) A5)) rfl rfl rfl rfl rfl rfl (by show (_:Nat)≠_;simp)))
  (@A9 _ _ _ (@Ap _ _ _ _ (Es (Ac Zd hr rfl Aa (A2 (pv 5) (A2 (Af (G7 rfl) rfl T.Z0b (by first | rfl | decide+kernel) (A2 (Ik "_law_name" [1] rfl rfl (Bq (pv 2)) (fun b=>(Lf (D8 hr) (pv 1) (pv 0) (fun _ _=>rfl)))) A5)) A5))) (Gx (Ds (J2v hr) (pv 3) (pv 2) (nomark _))))))))),?_⟩
 walk_at "st";have line:=Aq;walk_at "go";intro hd hhd;have sm0:A7 H (upd H hd (.lst [])):=A7.new hhd;have hd0:upd H hd (.lst []) hd=some (.lst []):=A1;have hL0:=Tk.of hL sm0;generalize upd H hd (.lst [])=H1 at sm0 hd0 hL0 ⊢;rename_i rest hrest;subst hrest;walk_at "go";refine ⟨hL0.2,fun f2 c2 ct doc H2 hf2 sb hL2 hc2 hff=>?_⟩
 have tk2:Tk 309 (⟨145,4,147,56⟩:Pos) (("_law_summed"++".<locals>.")++"_law_weigh") H H2:=⟨fun b o e n=>sb b o (sm0 b o e) n,hL2⟩
 obtain ⟨tb,htb⟩:=Cb hL
 have up:∀b o,(∀t,o≠ .tbl t)→H1 b=some o→H2 b=some o:=fun b o no e=>sb b o e fun z=>by rw [z,sm0 _ _ htb]at e;cases e;exact no _ rfl
 have hB2:=Dm.tk tk2 hL hB;have hnu2:=up _ _ (fun _ z=>by cases z) (sm0 _ _ hnu);have hm2:=up _ _ (fun _ z=>by cases z) (sm0 _ _ hm);have hd2:=up _ _ (fun _ z=>by cases z) hd0;rename_i rest hrest;subst hrest;walk_at "go";intro o u o2 u2 ho hu hn1 ho2 hu2 hn2;have ncc:s.heap.objs.size+1≠s.heap.objs.size+1+1:=Ff (Hr _)
 have s3:A7 H2 (upd (upd H2 (s.heap.objs.size+1+1) (Az (s.heap.objs.size+1+1) o)) (s.heap.objs.size+1) (Az (s.heap.objs.size+1) o2)):=fun b o' e=>by rw [A0 (A3 e hn2),A0 (A3 e hn1)];exact e
 have hc3:upd (upd H2 (s.heap.objs.size+1+1) (Az (s.heap.objs.size+1+1) o)) (s.heap.objs.size+1) (Az (s.heap.objs.size+1) o2) (s.heap.objs.size+1)=some (Az (s.heap.objs.size+1) o2):=A1;have hc4:upd (upd H2 (s.heap.objs.size+1+1) (Az (s.heap.objs.size+1+1) o)) (s.heap.objs.size+1) (Az (s.heap.objs.size+1) o2) (s.heap.objs.size+1+1)=some (Az (s.heap.objs.size+1+1) o):=(A0 ncc.symm).trans A1;generalize upd (upd H2 (s.heap.objs.size+1+1) (Az (s.heap.objs.size+1+1) o)) (s.heap.objs.size+1) (Az (s.heap.objs.size+1) o2)=H3 at s3 hc3 hc4 ⊢
 have h0:SJ J07 [("_law_numbers",s.heap.objs.size+1),("_law_heard",s.heap.objs.size+1+1)] f2 nu hd kvs [] H3:=⟨⟨_,c2,ct,doc,s3 _ _ hff,s3 _ _ hc2⟩,.cons ⟨o2,u2,hc3,ho2,hu2⟩ (.cons ⟨o,u,hc4,ho,hu⟩ .nil),s3 _ _ hnu2,s3 _ _ hd2⟩
 refine ⟨⟨f2,[hd],fun l H=>Kp [hd] H3 H∧H hd=some (.lst (l.map V.str)),fun _=>True,gN kvs Nn,J0a ncc h0 hkI T⟩,rfl,bs,hB2.same s3,hbl,fun z=>?_,fun r hr z=>?_,fun m hm z=>?_,⟨Kp.of (A7.refl _),s3 _ _ hd2⟩,?_,?_,fun l1 z l2 e hg ng=>absurd trivial ng⟩
 · have:=hB.l
   rw [Fj.mp z,hhd]at this;cases this
 · have:=hB.t r hr
   rw [Fj.mp z,hhd]at this;cases this
 · rw [Fj.mp hm,s3 _ _ hd2]at z;cases z
 · intro l D Ha Hb hD sb2 hk
   exact ⟨fun b o n e=>sb2 b o (hk.1 b o n e) (A3 e hD),sb2 _ _ hk.2 (A3 (s3 _ _ hd2) hD)⟩
 intro hgd H4 kp hk h1 h2;dsimp only
 have up5:∀b o',b≠hd→H2 b=some o'→unk (unk H4 [s.heap.objs.size+1]) [s.heap.objs.size+1+1] b=some o':=fun b o' n e=>by
  rw [Ae fun z=>A3 e hn1 (Fj.mp z),Ae fun z=>A3 e hn2 (Fj.mp z)];exact kp b o' (fun z=>n (Fj.mp z)) (s3 b o' e)
 have hd5:unk (unk H4 [s.heap.objs.size+1]) [s.heap.objs.size+1+1] hd=some (.lst ((msn bs).map V.str)):=by
  rw [Ae fun z=>A3 hd2 hn1 (Fj.mp z),Ae fun z=>A3 hd2 hn2 (Fj.mp z)];exact hk.2
 generalize unk (unk H4 [s.heap.objs.size+1]) [s.heap.objs.size+1+1]=H5 at up5 hd5 ⊢;have nol:∀b o',(∀xs,o'≠ .lst xs)→H2 b=some o'→H5 b=some o':=fun b o' no e=>up5 b o' (fun z=>by rw [z,hd2]at e;cases e;exact no _ rfl) e
 have tk5:Tk 309 (⟨145,4,147,56⟩:Pos) (("_law_summed"++".<locals>.")++"_law_weigh") H H5:=⟨fun b o' e n=>up5 b o' (A3 e hhd) (tk2.1 b o' e n),by
  rcases tk2.2 with e | ⟨c',e1,e2⟩
  · exact .inl (nol _ _ (fun _ z=>by cases z) e)
  · exact .inr ⟨c',nol _ _ (fun _ z=>by cases z) e1,nol _ _ (fun _ z=>by cases z) e2⟩⟩
 have hm5:=up5 _ _ (A3 hm hhd) hm2;have hnu5:=nol _ _ (fun _ z=>by cases z) hnu2;rename_i rest hrest;subst hrest;walk_at "go"
 have ew:wsm (gN kvs Nn) bs=((msn bs).map Nn).sum:=by
  rw [Gs];congr 1;refine Ht fun z hz=>?_;unfold gN;rw [hkv z hz];rfl
 have ml:=S2 (bs:=bs);refine ⟨⟨_,SqL.of hm5⟩,Il (xs:=(msn bs).map V.str) (fun v=>match v with | .str z=>V.int (Nn z) | _=>V.non) (SqL.of hm5) (by rw [Fa];omega) (fun b x H6 Q' hx sm hq=>?_) ?_⟩
 · obtain ⟨z,hz,rfl⟩:=Fw.mp hx
   walk_at "go";exact ⟨_,.inl ⟨kvs,Sum.inr z,.inl (sm _ _ hnu5),rfl,(hkv z hz).symm⟩,hq⟩
 · intro D hD
   have s6:A7 H5 (upd H5 D (.lst (((msn bs).map V.str).map fun v=>match v with | .str z=>V.int (Nn z) | _=>V.non))):=A7.new hD;refine ⟨D,rfl,(msn bs).map Nn,SqL.of (by rw [A1,Fz,Fz];rfl),?_⟩;rw [if_pos ew];have e:=Vi (K:=K) (SqL.of (s6 _ _ hd5)) (SqL.of (s6 _ _ hm5));rw [Fy rfl]at e;exact ⟨true,e,q _ ⟨fun b o e n=>s6 _ _ (tk5.1 b o e n),Dn s6 tk5.2⟩⟩
theorem Z2i{f:Addr}{fd:FuncData}(F:Fun K "law" "law" Zx f fd)(T:Txt K mg Z2 Z0 Z1)(Z5:Def P w K mg base (CXF P w) 1 "_law_cell_at" ["_law_script","_law_k"] (Gn K))(Z00:Def P w K mg base (CXF P w) 1 "_law_mix" ["_law_cell","_law_k"] (Do))(Z0x:Def P w K mg base (CXF P w) 1 "_law_names" ["_law_cell","_law_many"] (D5))(Z03:Def P w K mg base (CXF P w) 2 "_law_great" ["_law_cell","_law_k"] (D6))(Z02:J2x P w K mg base (CXF P w) 4 "Stock" Z1 ["self","rows"] (El K Z1))(Z15:Def P w K mg base (CXF P w) 1 "_law_book" ["_law_cells","_law_names_here"] (E4 K))(Zy:Def P w K mg base (CXF P w) 8 "_law_summed" ["_law_book_here","_law_numbers","_law_missed"] (Bv 309 (⟨145,4,147,56⟩:Pos) (("_law_summed"++".<locals>.")++"_law_weigh") K))(Zd:Def P w K mg base (CXF P w) 1 "_law_whole" ["_law_found","_law_due"] (C5))(Zt:Def P w K mg base (CXF P w) 8 "missed_by" ["book"] (Bu 246 (⟨94,25,94,39⟩:Pos) (("missed_by"++".<locals>.")++"<lambda>")))(Z16:Def P w K mg base (CXF P w) 9 "_law_paid" ["_law_stock","_law_book_here"] (D7 253 (⟨96,25,96,57⟩:Pos) (("paid_by"++".<locals>.")++"<lambda>") K Z1)):B2 P w K mg base (CXF P w) 10 f fd ["_law_script"] (Dq 246 253 309 K):=by
 have sc:Ah ["_law_script","_law_many","_law_names_here","_law_costs","_law_k","_law_stock","_law_some","_law_book_here","_law_missed","_law_numbers","_law_name","_law_strange","_law_handed","_law_paid_here","_law_told"] ["_law_script"] (A8 Zx):=by walk_at "sc"
 refine F.okF sc (fun vs H Q E h=>?_) (fun cdv A outer s H vs Q E hr h=>?_)
 · obtain ⟨_,_,rfl,_⟩:=h;rfl
 obtain ⟨a,ns,rfl,hS,hl,hM,hP,hU,q⟩:=h
 refine ⟨_,(@A4 _ _ _ _ _ (Al (i:=1) sc.nd rfl (Or.inl rfl) (Ad B7 (Ac Z5 hr rfl Aa (A2 (pv 0) (A2 A6 A5))) A6))
  (@A4 _ _ _ _ _ (Al (i:=2) sc.nd rfl (Or.inl rfl) (Ac Z0x hr rfl Aa (A2 (Ac Z5 hr rfl Aa (A2 (pv 0) (A2 A6 A5))) (A2 (Ad Co (pv 1) A6) A5))))
  (@A4 _ _ _ _ _ (Al (i:=3) sc.nd rfl (Or.inr rfl) Ib)
  (@A4 _ _ _ _ _ (Eu Ck rfl (Et rfl T.Zq (A2 (pv 1) A5)) (B1 (i:=4) sc.nd rfl (Or.inl rfl))
   (@A4 _ _ _ _ _ (Gk (D8 hr) (pv 3) (@C7 _ _ _ _ _ _ _ C8 (pv 2) (pv 4) (fun _ _=>rfl)) (Ad B7 (Ac Z00 hr rfl Aa (A2 (Ac Z5 hr rfl Aa (A2 (pv 0) (A2 A6 A5))) (A2 (pv 4) A5))) A6) rfl)
   (@A9 _ _ _ (Bn (B3 K9 (Ad B7 (Ac Z5 hr rfl Aa (A2 (pv 0) (A2 A6 A5))) A6) A6 (nomark _))
    (@A9 _ _ _ (Gk (D8 hr) (pv 3) (@C7 _ _ _ _ _ _ _ C8 (pv 2) (pv 4) (fun _ _=>rfl)) (Ad B7 (Ac Z03 hr rfl Aa (A2 (Ac Z5 hr rfl Aa (A2 (pv 0) (A2 A6 A5))) (A2 (pv 4) A5))) (Ad Co (Ad Gz A6 A6) A6)) rfl))
    Ax))))
  (@A4 _ _ _ _ _ (Al (i:=5) sc.nd rfl (Or.inl rfl) (Vn Z02 hr rfl (Qc Aa) (A2 (Wl "_law_name" "_law_cost" [] rfl rfl (J00 (J29 PySem.F.plainAttrs_dict PySem.F.slot_dict_items PySem.F.type_dict_items X5 (pv 3))) (fun b=>(E8 (A2 (pv 0) (A2 (pv 1) (A2 A6 A5)))))) A5)))
  (@A4 _ _ _ _ _ (Al (i:=6) sc.nd rfl (Or.inl rfl) (pv 2))
  (@A4 _ _ _ _ _ (Bn (PW.pt (O7 (B3 Ka (pv 1) A6 (nomark _)) (Oz (B3 K9 (Ad B7 (Ac Z5 hr rfl Aa (A2 (pv 0) (A2 A6 A5))) A6) A6 (nomark _)))))
   (@A9 _ _ _ (Al (i:=6) sc.nd rfl (Or.inl rfl) (Dh Ec (pv 2) Gj (Dt (pv 1)))))
   Ax)
  (@A4 _ _ _ _ _ (Al (i:=7) sc.nd rfl (Or.inl rfl) (Ac Z15 hr rfl Aa (A2 (Dh Ec (pv 0) (Dt A6) (Dt A6)) (A2 (pv 6) A5))))
  (@A4 _ _ _ _ _ (T8 (i:=8) "_law_name" "_law_there" "_law_gone" [] sc.nd rfl rfl rfl rfl (Bq (pv 7)) (fun b=>(C0 (Bz (pv 1)))) (fun b=>(pv 0)))
  (@A4 _ _ _ _ _ (Al (i:=9) sc.nd rfl (Or.inl rfl) Ib)
  (@A4 _ _ _ _ _ (Eu Ck rfl (Bq (pv 8)) (B1 (i:=10) sc.nd rfl (Or.inl rfl))
   (@A9 _ _ _ (Gk (D8 hr) (pv 9) (pv 10) (Ad Tj (Ad B7 (Ac Z03 hr rfl Aa (A2 (Ac Z5 hr rfl Aa (A2 (pv 0) (A2 A6 A5))) (A2 (Af Km rfl T.Z9 FP (A2 (pv 9) A5)) A5))) (Ad Co (Ad L8 A6 (Ad Gz A6 A6)) A6)) (Ad Gz A6 A6)) rfl)))
  (@A4 _ _ _ _ _ (Wm (i:=11) "_law_name" [3] sc.nd rfl rfl rfl rfl (Bq (pv 8)) (fun b=>(O6 (Kl (D8 hr) (pv 0) (pv 1)))) (fun b=>(pv 0)))
  (@A4 _ _ _ _ _ (Xd (i:=12) "_law_name" "_law_there" "_law_gone" [] sc.nd rfl rfl rfl rfl (Bq (pv 7)) (fun b=>(E8 (A2 (pv 0) (A2 (pv 1) (A2 (Kh Le rfl T.Z0n (by first | rfl | decide+kernel) (A2 (pv 2) A5)) A5))))))
  (@A4 _ _ _ _ _ (Bn (PW.pt (P0 (C0 (Bz (Ac Zy hr rfl Aa (A2 (pv 12) (A2 (pv 9) (A2 (pv 8) A5)))))) (L6 (C0 (Bz (Ac Zd hr rfl Aa (A2 (Ac Zt hr rfl Aa (A2 (pv 12) A5)) (A2 (Af Ay rfl T.Z9 FP (A2 (pv 8) A5)) A5))))))))
   (@A9 _ _ _ (@Ap _ _ _ _ K8))
   Ax)
  (@A4 _ _ _ _ _ (Tc (Ac Z16 hr rfl Aa (A2 (pv 5) (A2 (pv 12) A5))) (L7 rfl (Bg (B1 (i:=13) sc.nd rfl (Or.inl rfl)) (Bg (B1 (i:=14) sc.nd rfl (Or.inl rfl)) Gh))))
  (@A4 _ _ _ _ _ (Bn (B3 Ka (Af Ay rfl T.Z9 FP (A2 (pv 11) A5)) A6 (nomark _))
   (@A9 _ _ _ (Bn (PW.pt (P0 (B3 Xr (pv 13) O5 (nomark _)) (L6 (B3 (J2w hr) (pv 14) (E8 (A2 (@C7 _ _ _ _ _ _ _ C8 (pv 11) A6 (fun _ _=>rfl)) (A2 (J0h Tl A6) A5))) (nomark _)))))
    (@A9 _ _ _ (@Ap _ _ _ _ K8))
    Ax))
   (@A9 _ _ _ (Bn (C0 (Bz (Ac Zd hr rfl Aa (A2 (pv 13) (A2 (Af (G7 rfl) rfl T.Z0b (by first | rfl | decide+kernel) (A2 (Ik "_law_name" [3] rfl rfl (Bq (pv 8)) (fun b=>(Lf (D8 hr) (pv 1) (pv 0) (fun _ _=>rfl)))) A5)) A5)))))
    (@A9 _ _ _ (@Ap _ _ _ _ K8))
    Ax)))
  (@A4 _ _ _ _ _ (Bn (PW.pt (P0 (B3 (J3g 3 hr) (pv 12) (pv 7) (nomark _)) (L6 (C0 (Bz (Ac Zy hr rfl Aa (A2 (pv 12) (A2 (pv 9) (A2 (pv 8) A5)))))))))
   (@A9 _ _ _ (@Ap _ _ _ _ K8))
   Ax)
  (@A9 _ _ _ (@Ap _ _ _ _ (Ac Zd hr rfl Aa (A2 (Ac Zt hr rfl Aa (A2 (Dh Ec (pv 12) Gj (Dt A6)) A5)) (A2 (Af Ay rfl T.Z9 FP (A2 (Wk "_law_row" [] rfl rfl (Bq (Dh Ec (pv 7) Gj (Dt A6))) (fun b=>(C0 (Bz (@C7 _ _ _ _ _ _ _ Lc (pv 0) A6 (fun _ _=>rfl))))) (fun b=>(pv 0))) A5)) A5)))))))))))))))))))))),?_⟩
 walk_at "st";have line:=Aq;walk_at "go";rename_i rest hrest;have m0:=FT (ns.getD 0 0) (show (9:Int)≠0 by decide);have m1:=FO (ns.getD 0 0) (show (0:Int) < 9 by decide);generalize ns.getD 0 0 % 9=mi at m0 m1 ⊢
 obtain ⟨m,rfl⟩:∃m:Nat,mi=(m:Int):=⟨mi.toNat,by omega⟩
 refine ⟨m+2,by omega,by omega,fun na ys H1 hna s1 hys yl1 yl2 ynd ynm=>?_⟩
 have yl:ys.length=m+2:=by omega
 clear yl1 yl2;subst hrest;walk_at "go";intro cd hcd;have s2:A7 H (upd H1 cd (.dK [])):=s1.trans (A7.new hcd);have hcd2:upd H1 cd (.dK []) cd=some (.dK []):=A1;have hys2:upd H1 cd (.dK []) na=some (.lst (ys.map V.str)):=(A7.new hcd) _ _ hys;have hcdn:H cd=none:=T5 s1 hcd;generalize upd H1 cd (.dK [])=H2 at s2 hcd2 hys2 ⊢;rename_i rest hrest;subst hrest;walk_at "go";rename_i rest hrest;refine Lh (fun i σ H'=>∃(C:Str→Int) (v4:Option V),σ=[some (V.ref a),some (V.int (m:Int)),some (V.ref na),some (V.ref cd),v4,none,none,none,none,none,none,none,none,none,none]∧A7 H H'∧H' na=some (.lst (ys.map V.str))∧H' cd=some (.dK (dkv (ys.take i) C))∧∀y,0≤C y∧C y≤10 ^ 30) ⟨fun _=>0,none,rfl,s2,hys2,hcd2,fun _=>⟨Int.le_refl 0,by show (0:Int)≤10 ^ 30;decide⟩⟩ ?_ ?_
 · clear hrest
   rintro i σ H' hi ⟨C,v4,rfl,sm,hn,hc,hC⟩;have hSm:=sm.seq hS
   obtain ⟨z,hz⟩:∃z,ys[i]?=some z:=⟨_,Fe (by omega)⟩
   have hzi:atI (ys.map V.str) ((0:Int)+(i:Int))=some (V.str z):=by rw [Int.zero_add];exact Lb (by rw [Fm,hz];rfl)
   have tk:ys.take (i+1)=ys.take i++[z]:=by rw [FW,hz];rfl
   have ez:ys.getD i Str.empty=z:=by rw [Fg,hz];rfl
   have nz:¬z∈ys.take i:=by rw [← ez];exact X8 ynd (by omega)
   have tl:(ys.take i).length≤ys.length:=by rw [FC];omega
   walk_at "go";rename_i rest2 hrest2
   refine fun v v0 v1=>⟨by decide,?_⟩
   rw [Int.zero_add]at hzi;refine Cu (SqL.of hn) hzi ⟨_,.inl ⟨_,Sum.inr z,hc,rfl,by rw [E2];omega,rfl⟩,?_⟩;rw [Lv,if_neg nz,← tk]
   have nnc:na≠cd:=fun e=>by rw [e,hc]at hn;cases hn
   have e1:∀o,upd H' cd o na=some (.lst (ys.map V.str)):=fun o=>by rw [A0 nnc];exact hn
   have sm3:∀o,A7 H (upd H' cd o):=fun o b u e=>by rw [A0 (A3 e hcdn)];exact sm _ _ e
   have C1:∀y,0≤(fun y=>if y=z then v % 10 else C y) y∧(fun y=>if y=z then v % 10 else C y) y≤10 ^ 30:=fun y=>by
    show 0≤(if y=z then v % 10 else C y)∧(if y=z then v % 10 else C y)≤10 ^ 30
    by_cases e:y=z
    · rw [if_pos e];omega
    · rw [if_neg e];exact hC y
   have sm4:=sm3 (.dK (dkv (ys.take (i+1)) (fun y=>if y=z then v % 10 else C y)));have hn4:=e1 (.dK (dkv (ys.take (i+1)) (fun y=>if y=z then v % 10 else C y)));have hc4:upd H' cd (.dK (dkv (ys.take (i+1)) (fun y=>if y=z then v % 10 else C y))) cd=some (.dK (dkv (ys.take (i+1)) (fun y=>if y=z then v % 10 else C y))):=A1;generalize upd H' cd (.dK (dkv (ys.take (i+1)) (fun y=>if y=z then v % 10 else C y)))=H4 at sm4 hn4 hc4 ⊢;generalize (fun y=>if y=z then v % 10 else C y)=C4 at C1 hc4 ⊢;have hS4:=sm4.seq hS;subst hrest2;walk_at "go"
   by_cases h3:ns.getD 2 0 % 3=1
   · rw [if_pos h3]
     refine ⟨ns,hS4,by decide,hl,by omega,by omega,fun u u0 u1=>⟨⟨by decide,by decide,by decide⟩,by decide,?_⟩⟩
     have hz2:z∈ys.take (i+1):=by rw [tk];simp
     have tl2:(ys.take (i+1)).length≤ys.length:=by rw [FC];omega
     refine Cu (SqL.of hn4) hzi ⟨_,.inl ⟨_,Sum.inr z,hc4,rfl,by rw [E2];omega,rfl⟩,fun b u e=>?_,?_,?_⟩
     · rw [A0 (A3 e hcdn)];exact sm4 _ _ e
     · rw [A0 nnc];exact hn4
     · rw [Lv,if_pos hz2]
       refine ⟨_,A1,fun y=>?_⟩;show 0≤(if y=z then u % (10 ^ 30+1) else C4 y)∧(if y=z then u % (10 ^ 30+1) else C4 y)≤10 ^ 30
       by_cases e:y=z
       · rw [if_pos e]
         have a1:=FT u (show (10 ^ 30+1:Int)≠0 by decide);have a2:=FO u (show (0:Int) < 10 ^ 30+1 by decide);omega
       · rw [if_neg e];exact C1 y
   · rw [if_neg h3]
     exact ⟨sm4,hn4,C4,hc4,C1⟩
 rintro σ H' ⟨C,v4,rfl,sm,hn,hc,hC⟩;have xnd:(ys.take m).Nodup:=ynd.sublist (List.take_sublist _ _);have xnm:∀x∈ys.take m,B6 x.cps.toList=true:=fun x hx=>ynm x (Ho hx)
 have xl:(ys.take m).length=m:=by rw [FC];omega
 subst hrest;walk_at "go";refine ⟨.inr (.inr (.inl ⟨rfl,.inl ⟨_,hc⟩⟩)),_,hc,fun vw hvw=>?_⟩;have nrv:cd≠vw:=A3 hc hvw;refine ⟨cd,A1,_,by rw [A0 nrv];exact hc,fun o=>?_⟩
 have nnc:na≠cd:=fun e=>by rw [e,hc]at hn;cases hn
 have hd5:upd (upd H' vw (D4 vw cd)) cd (.frz o (.dK (dkv (ys.take m) C))) cd=some (.frz o (.dK (dkv (ys.take m) C))):=A1
 have hn5:upd (upd H' vw (D4 vw cd)) cd (.frz o (.dK (dkv (ys.take m) C))) na=some (.lst (ys.map V.str)):=by rw [A0 nnc,A0 (A3 hn hvw)];exact hn
 have sm5:A7 H (upd (upd H' vw (D4 vw cd)) cd (.frz o (.dK (dkv (ys.take m) C)))):=fun b u e=>by rw [A0 (A3 e hcdn),A0 (A3 (sm _ _ e) hvw)];exact sm _ _ e
 generalize upd (upd H' vw (D4 vw cd)) cd (.frz o (.dK (dkv (ys.take m) C)))=H5 at hd5 hn5 sm5 ⊢;clear hc hn sm hvw nrv;rename_i rest hrest;refine X7 (fun i y H=>∃t,y=V.ref t∧SqT K H t [.str ((ys.take m).getD i Str.empty),.int (C ((ys.take m).getD i Str.empty)),.int 1]) (fun i y H H' l zs ⟨t,e,h⟩ hl sb=>⟨t,e,SqT.butL sb hl h⟩) hd5 (by rw [E2];omega) (fun b i k x H' Q' hi sm q'=>?_) fun D yl H6 hD sm6 hyD hyl2 hall=>?_
 · clear hrest
   unfold dkv at hi
   have hil:i < (ys.take m).length:=by
    have:=(Fi.mp hi).1;rw [Fa]at this;exact this
   rw [Fm,Lu hil]at hi;cases hi;generalize (ys.take m).getD i Str.empty=x at q' ⊢;walk_at "go";exact fun t ht=>q' _ _ (A7.new ht) ⟨t,rfl,SqT.of A1⟩
 obtain ⟨as,rfl,rows⟩:=J3i hC hyD (by rw [hyl2,E2]) (by omega) xnd xnm hall;intro st dx hst hdx ne1;obtain ⟨rws,e1,e2,e3,e4⟩:=rows.init
 have smx:A7 H6 (upd (upd H6 dx (.own st)) st (.ins Z1 dx [])):=fun b o e=>by rw [A0 (A3 e hst),A0 (A3 e hdx)];exact e
 refine ⟨dx,D,rfl,A1,rws,by rw [e1];exact smx.seq rows.l,fun t ht=>smx.tup (e2 t ht),e3,fun H7 sb7 stk=>?_⟩;rw [e4]at stk;clear e1 e2 e3 e4 smx hall hyl2;have sm7:A7 H6 H7:=Ss hst hdx sb7;have smA:=sm6.trans sm7;have hn7:=smA _ _ hn5;have hd7:=smA _ _ hd5;have sm8:=sm5.trans smA;clear sb7 sm6 sm7 rows hyD hD hst hdx ne1 smA hn5 sm5 hd5;have hS7:=sm8.seq hS;subst hrest;walk_at "go";rename_i rest hrest
 have fin:∀(so:Addr) (ss:List Str) (H8:Hp),A7 H7 H8→H8 so=some (.lst (ss.map V.str))→0 < ss.length→ss.length≤20→rest [some (V.ref a),some (V.int (m:Int)),some (V.ref na),some (V.ref cd),v4,some (V.ref st),some (V.ref so),none,none,none,none,none,none,none,none] H8:=fun so ss H8 s8 hso ss0 ss1=>by
  have hS8:=s8.seq hS7;have stk8:=stk.same s8;have hd8:=s8 _ _ hd7;have sm9:=sm8.trans s8;clear stk hd7 hn7 hS7 s8 sm8 hS;subst hrest;walk_at "go";obtain ⟨cs,ecs,hcs⟩:=T7 ns;refine ⟨_,hS8,fun cp hcp=>?_⟩;rw [ecs];refine ⟨cs,SqL.of A1,by omega,ss,(A7.new hcp).seq (SqL.of hso),ss0,ss1,fun bk bs gs H9 hbk s9 hB hbl hin=>?_⟩;have s9':A7 H8 H9:=(A7.new hcp).trans s9;have stk9:=stk8.same s9';have hd9:=s9' _ _ hd8;have smB:=sm9.trans s9';have hS9:=s9'.seq hS8;clear hS8 stk8 hd8 sm9 s9' s9 hbk hcp ecs hcs hso hin;rename_i rest hrest;subst hrest;walk_at "go";rename_i rest hrest
  have hT9:∀i c,(bs.map (·.1))[i]?=some c→SqT K H9 c [V.str (bs.getD i b0).2.1,V.bl (bs.getD i b0).2.2.1,V.ref (bs.getD i b0).2.2.2]:=fun i c e=>by
   have hi:i < bs.length:=by have:=(Fi.mp e).1;rw [Fa]at this;exact this
   rw [Fm,Er hi]at e;cases e;exact SqT.of (hB.b.t _ (Fk (Er hi)))
  have hbk9:SqL K H9 bk ((bs.map (·.1)).map V.ref):=SqL.of (by rw [hB.b.l,Fz];rfl);refine ⟨⟨_,hbk9⟩,Xe _ _ _ (fun i=>!(bs.getD i b0).2.2.1) (fun i=>V.str (bs.getD i b0).2.1) hbk9 (by rw [Fa];omega) hT9 (fun b i H' QT hi sm qt=>?_) (fun b i H' Q' hi hp sm q'=>?_) fun mi H10 hmi s10 hmi10=>?_⟩
  · clear hrest
    walk_at "go";exact qt _ (A7.refl _)
  · clear hrest
    walk_at "go";exact q' _ (A7.refl _)
  rw [Fa,Xg bs b0 (fun r=>!r.2.2.1) (fun r=>V.str r.2.1)]at hmi10
  have hmi10:H10 mi=some (.lst ((msn bs).map V.str)):=by rw [hmi10];unfold msn;rw [Fz];rfl
  have hB10:=hB.same s10;have stk10:=stk9.same s10;have hd10:=s10 _ _ hd9;have smC:=smB.trans s10;have hS10:=s10.seq hS9;have ml:=S2 (bs:=bs);clear hB stk9 hd9 smB hS9 hT9 hbk9 hmi s10;subst hrest;walk_at "go";intro nu hnu;have s11:A7 H10 (upd H10 nu (.dK [])):=A7.new hnu;have hnu11:upd H10 nu (.dK []) nu=some (.dK (dkv [] fun _=>0)):=A1;generalize upd H10 nu (.dK [])=H11 at s11 hnu11 ⊢;have hmi11:=s11 _ _ hmi10;rename_i rest hrest;subst hrest;walk_at "go";rename_i rest hrest;refine ⟨⟨_,SqL.of hmi11⟩,?_⟩;refine Li (xs:=(msn bs).map V.str) (fun i σ H'=>∃(xs:List Str) (N:Str→Int) (v10:Option V),σ=[some (V.ref a),some (V.int (m:Int)),some (V.ref na),some (V.ref cd),v4,some (V.ref st),some (V.ref so),some (V.ref bk),some (V.ref mi),some (V.ref nu),v10,none,none,none,none]∧A7 H10 H'∧H' nu=some (.dK (dkv xs N))∧xs.length≤i∧∀z∈(msn bs).take i,z∈xs) ⟨[],fun _=>0,none,rfl,s11,hnu11,Fn _,by simp⟩ (fun i σ H' _ ⟨_,_,_,_,sm,_⟩=>SqL.of (sm _ _ hmi10)) ?_ ?_
  · clear hrest
    rintro i x σ H' hx ⟨xs,N,v10,rfl,sm,hn',xl',hin'⟩;rw [Fm]at hx
    cases hz:(msn bs)[i]? with
    | none=>rw [hz]at hx;cases hx
    | some z=>
    rw [hz]at hx;cases hx;have hi:=(Fi.mp hz).1;have hS':=sm.seq hS10;walk_at "go"
    have tk:(msn bs).take (i+1)=(msn bs).take i++[z]:=by rw [FW,hz];rfl
    refine ⟨_,hn',by omega,by rw [E2];omega,fun v v0 v1=>⟨⟨by decide,by decide,by decide⟩,.inl ⟨by decide,by decide⟩,by decide,⟨by decide,by decide,by decide⟩,_,.inl ⟨_,Sum.inr z,hn',rfl,by rw [E2];omega,rfl⟩,fun b u e=>?_,?_⟩⟩
    · rw [A0 (A3 e hnu)];exact sm _ _ e
    · rw [Lv]
      refine ⟨_,_,A1,?_,fun y hy=>?_⟩
      · by_cases h:z∈xs
        · rw [if_pos h];omega
        · rw [if_neg h,Fx,HA];omega
      · rw [tk]at hy
        have hy:y∈xs∨y=z:=(He.mp hy).imp (hin' y) Fj.mp
        by_cases h:z∈xs
        · rw [if_pos h]
          rcases hy with h' | h'
          · exact h'
          · rw [h'];exact h
        · rw [if_neg h]
          rcases hy with h' | h'
          · exact Hq _ h'
          · rw [h'];simp
  rintro σ H' ⟨xs,N,v10,rfl,sm,hn',xl',hin'⟩;rw [Fa,Hs]at hin';have hS12:=sm.seq hS10;have hB12:=hB10.same sm;have stk12:=stk10.same sm;have hd12:=sm _ _ hd10;have hmi12:=sm _ _ hmi10;have smD:=smC.trans sm;clear hB10 stk10 hd10 hmi10 smC s11 hnu11 hmi11 hS10 sm xl';subst hrest;walk_at "go";rename_i rest hrest;refine ⟨⟨_,SqL.of hmi12⟩,Iy (fun v=>match v with | .str z=>!decide (z∈ys.take m) | _=>false) (fun v=>v) (SqL.of hmi12) (by rw [Fa];omega) (fun b x H2 QT hx sm qt=>?_) (fun b x H2 Q' hx hp sm q'=>?_) fun sg H13 hsg s13 hsg13=>?_⟩
  · clear hrest
    obtain ⟨z,hz,rfl⟩:=Fw.mp hx;walk_at "go";refine ⟨_,.inl ⟨_,Sum.inr z,.inr ⟨o,sm _ _ hd12⟩,rfl,rfl⟩,?_⟩;have:=qt H2 (A7.refl _);rw [Ep]
    by_cases h:z∈ys.take m
    · rw [if_pos h]
      have e:(!decide (z∈ys.take m))=false:=by rw [Fy h];rfl
      rw [show (!(some (V.int (C z))).isSome)=false from rfl,← e];exact this
    · rw [if_neg h]
      have e:(!decide (z∈ys.take m))=true:=by rw [FB h];rfl
      rw [show (!(none:Option V).isSome)=true from rfl,← e];exact this
  · clear hrest
    obtain ⟨z,hz,rfl⟩:=Fw.mp hx;walk_at "go";exact q' _ (A7.refl _)
  have hsg13:H13 sg=some (.lst (((msn bs).filter fun z=>!decide (z∈ys.take m)).map V.str)):=by rw [hsg13,List.filter_map,List.map_id'];rfl
  have hS13:=s13.seq hS12;have hB13:=hB12.same s13;have stk13:=stk12.same s13;have hd13:=s13 _ _ hd12;have hmi13:=s13 _ _ hmi12;have hnu13:=s13 _ _ hn';have smE:=smD.trans s13;clear hS12 hB12 stk12 hd12 hmi12 hn' smD s13 hsg hnu;subst hrest;walk_at "go";rename_i rest hrest;have gl:=hB13.l
  have hT13:∀i c,(bs.map (·.1))[i]?=some c→SqT K H13 c [V.str (bs.getD i b0).2.1,V.bl (bs.getD i b0).2.2.1,V.ref (bs.getD i b0).2.2.2]:=fun i c e=>by
   have hi:i < bs.length:=by have:=(Fi.mp e).1;rw [Fa]at this;exact this
   rw [Fm,Er hi]at e;cases e;exact SqT.of (hB13.b.t _ (Fk (Er hi)))
  have hbk13:SqL K H13 bk ((bs.map (·.1)).map V.ref):=SqL.of (by rw [hB13.b.l,Fz];rfl);refine ⟨⟨_,hbk13⟩,T6 _ _ _ (fun D i y H=>∃t g,y=V.ref t∧t≠D∧g≠D∧H t=some (.tup [.str (bs.getD i b0).2.1,.bl (bs.getD i b0).2.2.1,.ref g])∧H g=some (.lst ((gs.getD i []).map V.str))) (fun D i y H H' ⟨t,g,e,n1,n2,h1,h2⟩ sb=>⟨t,g,e,n1,n2,sb _ _ h1 n1,sb _ _ h2 n2⟩) hbk13 (by rw [Fa];omega) hT13 (fun b D i H2 Q' l hi sm hD hl' q'=>?_) fun hh yl H14 hhh s14 hh14 hyl hall=>?_⟩
  · clear hrest
    rw [Fa]at hi;have hg:=hB13.g i _ (gs.getD i []) (Er hi) (by rw [Fg,Fe (by omega)];rfl);walk_at "go";refine ⟨_,.inl (SqL.of (sm _ _ hg.1)),fun g hgn=>⟨by omega,fun t ht=>?_⟩⟩;have e1:=A3 hl' hgn;have s1:A7 H2 (upd H2 g (.lst ((gs.getD i []).map V.str))):=A7.new hgn;have e2:=A3 (s1 _ _ hl') ht;exact q' _ _ (s1.trans (A7.new ht)) ⟨t,g,rfl,e2.symm,e1.symm,A1,(A7.new ht) _ _ A1⟩
  obtain ⟨bs',hB',eB⟩:=J3k hh14 (by rw [hyl,Fa]) gl (fun g hg=>by
   obtain ⟨i,hi⟩:=FR.mp hg
   have hib:i < bs.length:=by have:=(Fi.mp hi).1;omega
   exact (hB13.g i _ g (Er hib) hi).2) (fun i y e=>by
   obtain ⟨t,g,e1,_,_,h1,h2⟩:=hall i y e
   exact ⟨t,g,e1,h1,h2⟩)
  have hS14:=s14.seq hS13;have hB14:=hB13.same s14;have stk14:=stk13.same s14;have hd14:=s14 _ _ hd13;have hmi14:=s14 _ _ hmi13;have hnu14:=s14 _ _ hnu13;have hsg14:=s14 _ _ hsg13;have smF:=smE.trans s14
  have eM:msn bs'=msn bs:=by rw [E3,E3,eB]
  have el:bs'.length=bs.length:=by have:=congrArg List.length eB;unfold brs at this;rw [Fa,Fa]at this;exact this
  have hM14:=smF _ _ hM;have hP14:=smF _ _ hP;have hU14:=smF _ _ hU;clear hS13 hB13 stk13 hd13 hmi13 hnu13 hsg13 smE s14 hhh hall hyl hT13 hbk13 hh14 hM hP hU smF;subst hrest;walk_at "go";rename_i rest hrest
  have S14:S16 K Z1 cd st bk hh mi nu sg o (ys.take m) C bs bs' gs xs N _ H14:=⟨hB14,hB',stk14,hd14,hmi14,hnu14,hsg14,.inl hM14,.inl hP14,.inl hU14⟩
  clear hB14 hB' stk14 hd14 hmi14 hnu14 hsg14 hM14 hP14 hU14
  have hkI:∀z,Bc (dkv xs N) (Sum.inr z)=none∨Bc (dkv xs N) (Sum.inr z)=some (V.int (N z)):=fun z=>by
   rw [Ep]
   by_cases h:z∈xs
   · rw [if_pos h];exact .inr rfl
   · rw [if_neg h];exact .inl rfl
  have hkv:∀z∈msn bs',Bc (dkv xs N) (Sum.inr z)=some (V.int (N z)):=fun z hz=>by
   rw [eM]at hz;rw [Ep,if_pos (hin' z hz)]
  refine ⟨bs',S14.h.b,by omega,_,S14.n,N,hkI,hkv,by rw [eM];exact S14.m,S14.lU,fun H15 t15=>?_⟩;have S15:=S14.tU t15;refine ⟨bs',S15.h.b,by omega,S15.lM,fun H16 t16=>?_⟩;have S:=S15.tM t16;refine ⟨_,.inl (SqL.of S.m),?_⟩;rw [if_neg (by rw [eM,Fa];exact fun h=>h rfl)];clear t15 t16 S14 S15;subst hrest;walk_at "go";rename_i rest hrest;have exn:=G8 (ys.take m) C;refine ⟨_,S.s,by rw [exn];exact xnd,bs',S.h.b,by omega,S.lP,fun hall t H17 t17 ht=>⟨_,SqT.of ht,rfl,_,_,rfl,_,_,rfl,rfl,?_⟩,fun l1 z l2 e1 hg ng t u H17 t17 ht hu=>⟨_,SqT.of ht,rfl,_,_,rfl,_,_,rfl,rfl,?_⟩⟩
  · rw [exn,eM]at hall
    have S17:=S.tP t17
    have esl:((msn bs).filter fun z=>!decide (z∈ys.take m))=[]:=List.filter_eq_nil_iff.mpr fun z hz h=>by
     rw [Fy (hall z hz)]at h;cases h
    clear ht t17 S;rw [esl]at S17;have hsg:=S17.g;subst hrest;walk_at "go";rename_i rest2 hrest2;refine ⟨_,.inl (SqL.of hsg),?_⟩;rw [if_neg (by simp)];refine ⟨⟨_,SqL.of S17.m⟩,Il (xs:=(msn bs).map V.str) (fun v=>match v with | .str z=>V.int (C z) | _=>V.non) (SqL.of S17.m) (by rw [Fa];omega) (fun b x H2 Q' hx sm hq=>?_) fun D hD=>?_⟩
    · clear hrest2
      obtain ⟨z,hz,rfl⟩:=Fw.mp hx;walk_at "go";exact ⟨_,.inl ⟨_,Sum.inr z,.inr ⟨o,sm _ _ S17.d⟩,rfl,by rw [Ep,if_pos (hall z hz)]⟩,hq⟩
    have ew:wsm (cst (ths (ys.take m) C)) bs'=((msn bs).map C).sum:=by
     rw [Gs,eM];congr 1;exact Ht fun z hz=>J04 xnd (hall z hz)
    refine ⟨D,rfl,(msn bs).map C,SqL.of (by rw [A1,Fz,Fz];rfl),?_⟩;rw [if_neg (fun h=>h ew)];have S18:=S17.same (A7.new (o:= .lst (((msn bs).map V.str).map fun v=>match v with | .str z=>V.int (C z) | _=>V.non)) hD);generalize upd H17 D _=H18 at S18 ⊢;clear hD hsg S17 ew;subst hrest2;walk_at "go";rename_i rest3 hrest3;refine ⟨S3 S18.b S18.h eB,bs',S18.h.b,by omega,_,S18.n,N,hkI,hkv,by rw [eM];exact S18.m,S18.lU,fun H19 t19=>?_⟩;have S19:=S18.tU t19;clear t19 S18;subst hrest3;walk_at "go";refine ⟨_,SqL.of S19.h.b.l,fun p hp=>?_⟩;rw [Lw,← Hd];have S20:=S19.same (A7.new (o:= .lst ((bs'.take 1).map fun r=>V.ref r.1)) hp);have hp20:upd H19 p (.lst ((bs'.take 1).map fun r=>V.ref r.1)) p=some (.lst ((bs'.take 1).map fun r=>V.ref r.1)):=A1;generalize upd H19 p (.lst ((bs'.take 1).map fun r=>V.ref r.1))=H20 at S20 hp20 ⊢;refine ⟨bs'.take 1,⟨hp20,fun r hr=>S20.h.b.t r (Ho hr)⟩,by rw [FC];omega,S20.lM,fun H21 t21=>?_⟩
    have S21:=S20.tM t21;refine ⟨_,SqL.of S21.b.b.l,fun p2 hp2=>?_⟩;rw [Lw,← Hd];have S22:=S21.same (A7.new (o:= .lst ((bs.take 1).map fun r=>V.ref r.1)) hp2);have hp22:upd H21 p2 (.lst ((bs.take 1).map fun r=>V.ref r.1)) p2=some (.lst ((bs.take 1).map fun r=>V.ref r.1)):=A1;generalize upd H21 p2 (.lst ((bs.take 1).map fun r=>V.ref r.1))=H22 at S22 hp22 ⊢
    have hB22:Dm H22 p2 (bs.take 1):=⟨hp22,fun r hr=>S22.b.b.t r (Ho hr)⟩
    refine ⟨⟨_,SqL.of hp22⟩,Iy (K6 H22) (fun v=>v) (SqL.of hp22) (by rw [Fa,FC];omega) (fun b x H2 QT hx sm qt=>?_) (fun b x H2 Q' hx hpx sm q'=>?_) fun D H23 hD s23 hD23=>?_⟩
    · obtain ⟨r,hr,rfl⟩:=Fw.mp hx
      rw [Gr (hB22.t r hr)]at qt;walk_at "go";exact G2 (SqT.of (sm _ _ (hB22.t r hr))) rfl ⟨_,rfl,qt _ (A7.refl _)⟩
    · walk_at "go"
      exact q' _ (A7.refl _)
    refine ⟨D,rfl,_,.inl (SqL.of hD23),?_⟩
    have e9:(((msn (bs'.take 1)).length:Nat):Int)=((((bs.take 1).map fun r=>V.ref r.1).filter (K6 H22)).map fun v=>v).length:=by
     have e8:msn (bs'.take 1)=msn (bs.take 1):=by
      rw [E3,E3];unfold brs at eB ⊢;rw [Hd,Hd,eB]
     rw [e8,← Eo hB22.t,Fa,Fa]
    rw [Fy e9];exact q _
  · rw [exn]at hg ng
    rw [eM]at e1;have S17:=S.tP t17
    obtain ⟨sl,esl⟩:∃sl,((msn bs).filter fun z=>!decide (z∈ys.take m))=z::sl:=by
     refine ⟨l2.filter fun z=>!decide (z∈ys.take m),?_⟩;rw [e1,Hj,List.filter_eq_nil_iff.mpr fun y hy h=>?_,List.nil_append,Hi (by rw [FB ng];rfl)];rw [Fy (hg y hy)]at h;cases h
    clear ht t17 S;rw [esl]at S17;have hsg:=S17.g;subst hrest;walk_at "go";rename_i rest2 hrest2;refine ⟨_,.inl (SqL.of hsg),?_⟩;rw [if_pos (by simp)];refine Cu (v:=V.str z) (SqL.of hsg) (Lb (j:=0) rfl) ⟨by omega,fun tu htu=>⟨true,⟨u,tu,_,_,rfl,rfl,.inr ⟨SqT.of ((A7.new htu) _ _ hu),SqT.of A1⟩,rfl,rfl,by simp [Cy,eqV]⟩,?_⟩⟩;rw [if_neg (by decide)];have S18:=S17.same (A7.new (o:= .tup [V.str z,V.int (-1)]) htu);generalize upd H17 tu (.tup [V.str z,V.int (-1)])=H18 at S18 ⊢;clear htu hsg S17 hu;subst hrest2;walk_at "go";rename_i rest3 hrest3;refine ⟨S3 S18.b S18.h eB,bs',S18.h.b,by omega,_,S18.n,N,hkI,hkv,by rw [eM];exact S18.m,S18.lU,fun H19 t19=>?_⟩;have S19:=S18.tU t19;clear t19 S18;subst hrest3;walk_at "go";refine ⟨_,SqL.of S19.h.b.l,fun p hp=>?_⟩;rw [Lw,← Hd];have S20:=S19.same (A7.new (o:= .lst ((bs'.take 1).map fun r=>V.ref r.1)) hp);have hp20:upd H19 p (.lst ((bs'.take 1).map fun r=>V.ref r.1)) p=some (.lst ((bs'.take 1).map fun r=>V.ref r.1)):=A1
    generalize upd H19 p (.lst ((bs'.take 1).map fun r=>V.ref r.1))=H20 at S20 hp20 ⊢;refine ⟨bs'.take 1,⟨hp20,fun r hr=>S20.h.b.t r (Ho hr)⟩,by rw [FC];omega,S20.lM,fun H21 t21=>?_⟩;have S21:=S20.tM t21;refine ⟨_,SqL.of S21.b.b.l,fun p2 hp2=>?_⟩;rw [Lw,← Hd];have S22:=S21.same (A7.new (o:= .lst ((bs.take 1).map fun r=>V.ref r.1)) hp2);have hp22:upd H21 p2 (.lst ((bs.take 1).map fun r=>V.ref r.1)) p2=some (.lst ((bs.take 1).map fun r=>V.ref r.1)):=A1;generalize upd H21 p2 (.lst ((bs.take 1).map fun r=>V.ref r.1))=H22 at S22 hp22 ⊢
    have hB22:Dm H22 p2 (bs.take 1):=⟨hp22,fun r hr=>S22.b.b.t r (Ho hr)⟩
    refine ⟨⟨_,SqL.of hp22⟩,Iy (K6 H22) (fun v=>v) (SqL.of hp22) (by rw [Fa,FC];omega) (fun b x H2 QT hx sm qt=>?_) (fun b x H2 Q' hx hpx sm q'=>?_) fun D H23 hD s23 hD23=>?_⟩
    · obtain ⟨r,hr,rfl⟩:=Fw.mp hx
      rw [Gr (hB22.t r hr)]at qt;walk_at "go";exact G2 (SqT.of (sm _ _ (hB22.t r hr))) rfl ⟨_,rfl,qt _ (A7.refl _)⟩
    · walk_at "go"
      exact q' _ (A7.refl _)
    refine ⟨D,rfl,_,.inl (SqL.of hD23),?_⟩
    have e9:(((msn (bs'.take 1)).length:Nat):Int)=((((bs.take 1).map fun r=>V.ref r.1).filter (K6 H22)).map fun v=>v).length:=by
     have e8:msn (bs'.take 1)=msn (bs.take 1):=by
      rw [E3,E3];unfold brs at eB ⊢;rw [Hd,Hd,eB]
     rw [e8,← Eo hB22.t,Fa,Fa]
    rw [Fy e9];exact q _
 by_cases hm0:(0:Int) < (m:Int)
 · rw [if_pos hm0]
   refine ⟨ns,hS7,by decide,hl,by decide,?_⟩
   by_cases h2:ns.getD 3 0 % 2=0
   · rw [if_pos h2]
     refine ⟨_,SqL.of hn7,fun so hso=>?_⟩;rw [J3j _ _ (by omega)];exact fin so (ys.take m) _ (A7.new hso) A1 (by omega) (by omega)
   · rw [if_neg h2]
     exact fin na ys _ (A7.refl _) hn7 (by omega) (by omega)
 · rw [if_neg hm0]
   exact fin na ys _ (A7.refl _) hn7 (by omega) (by omega)
end
theorem J3l{l:W.OpenLaw}{w:World}{K:W.Frag}{h:Heap}{mg:Str→Option Value}{fa f0 f1 f2 f3 f4 f5 f6 f7 f8 f9 f10 f11 f12 f13 f14 f15 f16 f17 f18 f19 f20 f21 Z2 Z0 Z1:Addr}(X:K.In h)(G:h.Ns mainGlobals mg)(hfa:mg "law"=some (.ref fa))
 {od6 an6 od11 an11 od12 an12 od20 an20 od21 an21:Option Addr} {sl6 sl11 sl12 sl20 sl21:Array (Option Value)} {oc6 kV6 dc6 pm6 cd6 ct6 oc11 kV11 dc11 pm11 cd11 ct11 oc12 kV12 dc12 pm12 cd12 ct12 oc20 kV20 dc20 pm20 cd20 ct20 oc21 kV21 dc21 pm21 cd21 ct21:Value}
 {d0 d1 d2 d3 d4 d5 d7 d8 d9 d10 d13 d14 d15 d16 d17 d18 d19:FuncData}
 (a0:W.nsIn K mainGlobals "made_of"=some (some (.ref f0))) (F0:Fun K "made_of" "made_of" Z0o f0 d0)
 (a1:W.nsIn K mainGlobals "is_name"=some (some (.ref f1))) (F1:Fun K "is_name" "is_name" Z0p f1 d1)
 (a2:W.nsIn K mainGlobals "is_whole"=some (some (.ref f2))) (F2:Fun K "is_whole" "is_whole" Z0c f2 d2)
 (a3:W.nsIn K mainGlobals "is_within"=some (some (.ref f3))) (F3:Fun K "is_within" "is_within" Z05 f3 d3)
 (a4:W.nsIn K mainGlobals "check_thing"=some (some (.ref f4))) (F4:Fun K "check_thing" "check_thing" Zv f4 d4)
 (M5:Mk K Z1 f5) (F5:Fun K "__init__" "Stock.__init__" Z01 f5 d5)
 (a6:W.findIn K (.ref Z0) "__init__"=some (some (.ref f6))) (l6:K.lookup f6=some ⟨oc6,od6,.func (W.fnOf "__init__" "Unknown.__init__" (Au Z8) (An Z8) (A8 Z8) .none kV6 dc6 pm6 an6 cd6 ct6),sl6⟩) (c6:W.codeIn K cd6 "Unknown.__init__"=true) (k6:W.keepIn K (.ref Z0)=true) (kf6:W.keepIn K (.ref f6)=true) (hc6:oc6= .type "function")
 (M7:Sd K Z1 "has" f7) (F7:Fun K "has" "Stock.has" Z06 f7 d7)
 (M8:Sd K Z1 "thing_of" f8) (F8:Fun K "thing_of" "Stock.thing_of" Zl f8 d8)
 (M9:Sd K Z1 "cost_of" f9) (F9:Fun K "cost_of" "Stock.cost_of" Zp f9 d9)
 (a10:W.nsIn K mainGlobals "weighed"=some (some (.ref f10))) (F10:Fun K "weighed" "weighed" Z0q f10 d10)
 (a11:W.nsIn K mainGlobals "missed_by"=some (some (.ref f11))) (l11:K.lookup f11=some ⟨oc11,od11,.func (W.fnOf "missed_by" "missed_by" (Au Zc) (An Zc) (A8 Zc) .none kV11 dc11 pm11 an11 cd11 ct11),sl11⟩) (c11:W.codeIn K cd11 "missed_by"=true) (k11:W.keepIn K (.ref f11)=true)
 {cq9:Addr} (mc11:cd11= .ref cq9) (mh11:W.codeHdIn K cq9 246=true)
 (a12:W.nsIn K mainGlobals "paid_by"=some (some (.ref f12))) (l12:K.lookup f12=some ⟨oc12,od12,.func (W.fnOf "paid_by" "paid_by" (Au Zi) (An Zi) (A8 Zi) .none kV12 dc12 pm12 an12 cd12 ct12),sl12⟩) (c12:W.codeIn K cd12 "paid_by"=true) (k12:W.keepIn K (.ref f12)=true)
 {cq9:Addr} (mc12:cd12= .ref cq9) (mh12:W.codeHdIn K cq9 253=true)
 (a13:W.nsIn K mainGlobals "_law_cell_at"=some (some (.ref f13))) (F13:Fun K "_law_cell_at" "_law_cell_at" Z07 f13 d13)
 (a14:W.nsIn K mainGlobals "_law_mix"=some (some (.ref f14))) (F14:Fun K "_law_mix" "_law_mix" Z1a f14 d14)
 (a15:W.nsIn K mainGlobals "_law_names"=some (some (.ref f15))) (F15:Fun K "_law_names" "_law_names" Z0r f15 d15)
 (a16:W.nsIn K mainGlobals "_law_great"=some (some (.ref f16))) (F16:Fun K "_law_great" "_law_great" Z0s f16 d16)
 (a17:W.nsIn K mainGlobals "_law_book"=some (some (.ref f17))) (F17:Fun K "_law_book" "_law_book" Z12 f17 d17)
 (a18:W.nsIn K mainGlobals "_law_paid"=some (some (.ref f18))) (F18:Fun K "_law_paid" "_law_paid" Z13 f18 d18)
 (a19:W.nsIn K mainGlobals "_law_whole"=some (some (.ref f19))) (F19:Fun K "_law_whole" "_law_whole" Z0t f19 d19)
 (a20:W.nsIn K mainGlobals "_law_summed"=some (some (.ref f20))) (l20:K.lookup f20=some ⟨oc20,od20,.func (W.fnOf "_law_summed" "_law_summed" (Au Zf) (An Zf) (A8 Zf) .none kV20 dc20 pm20 an20 cd20 ct20),sl20⟩) (c20:W.codeIn K cd20 "_law_summed"=true) (k20:W.keepIn K (.ref f20)=true)
 {cq9:Addr} (mc20:cd20= .ref cq9) (mh20:W.codeHdIn K cq9 309=true)
 (a21:W.nsIn K mainGlobals "law"=some (some (.ref f21))) (l21:K.lookup f21=some ⟨oc21,od21,.func (W.fnOf "law" "law" (Au Zx) (An Zx) (A8 Zx) .none kV21 dc21 pm21 an21 cd21 ct21),sl21⟩) (c21:W.codeIn K cd21 "law"=true) (k21:W.keepIn K (.ref f21)=true)
 (Z9:W.nsIn K mainGlobals "len"=some none)
 (Z4:W.nsIn K mainGlobals "isinstance"=some none)
 (Z0a:W.nsIn K mainGlobals "int"=some none)
 (Z09:W.nsIn K mainGlobals "bool"=some none)
 (Z17:W.nsIn K mainGlobals "str"=some none)
 (Z0n:W.nsIn K mainGlobals "list"=some none)
 (Z18:W.nsIn K mainGlobals "all"=some none)
 (Zq:W.nsIn K mainGlobals "range"=some none)
 (Z0b:W.nsIn K mainGlobals "sum"=some none)
 {Z1u:Tok} (Zo:W.nsIn K mainGlobals "LETTERS"=some (some (.str "abcdefghijklmnopqrstuvwxyz" Z1u)))
 {Z1v:Tok} (Zu:W.nsIn K mainGlobals "FIGURES"=some (some (.str "0123456789" Z1v)))
 {Z1f:Tok} (Zh:W.nsIn K mainGlobals "MOST_SIGNS"=some (some (.int 8 Z1f)))
 {Z1c:Tok} (Zg:W.nsIn K mainGlobals "MOST_THINGS"=some (some (.int 60 Z1c)))
 {Z1k:Tok} (Zk:W.nsIn K mainGlobals "MOST_ROOM"=some (some (.int 1000 Z1k)))
 (Z0z:W.nsIn K mainGlobals "Stock"=some (some (.ref Z1))) (Z2h:Cls K Z1)
 (Z3:W.findIn K (.ref Z1) "things"=some none)
 (Z08:W.nsIn K mainGlobals "CastError"=some (some (.ref Z2)))
 (Z04:W.nsIn K mainGlobals "Unknown"=some (some (.ref Z0)))
 {cA oA:Value} {dA eA:Option Addr} {cdA:ClassData} {slA smA:Array (Option Value)} {esA:Array DictEntry} {epA:Nat} (lA:K.lookup Z2=some ⟨cA,dA,.cls cdA,slA⟩) (lNA:K.lookup cdA.ns=some ⟨oA,eA,.dict esA epA,smA⟩) (sNA:Ci esA=true) (iNA:nsFind esA "__init__"=none)
 {Z1w Zn:Str} {Z1d:Addr} {Z1x:List Value} {Z1y:List Str} {Z1z:List Value} {Z20:Bool} {Z21:Option Bool} {Z22:Option Addr} {Z23 Z24 Z25 Z26 Z27:Option Value} {Z28:Value} {Z29:Option Addr} {Z0e:Array DictEntry} {Z2a:Nat} {Z2b:Array (Option Value)}
 (Zz:K.lookup Z0=some (excClassObj Z1w Zn Z0 Z1d Z1x [.ref Z2,.type "ValueError",.type "Exception",.type "BaseException",.type "object"] true Z1y Z1z Z20 Z21 Z22 Z23 Z24 Z25 Z26 Z27 "ValueError.__new__")) (Z0f:K.lookup Z1d=some ⟨Z28,Z29,.dict Z0e Z2a,Z2b⟩) (Z0g:Ci Z0e=true) (Z0h:nsFind Z0e "__init__"=some (.ref f6))
 (Z0i:W.findIn K (.ref Z0) "__getattribute__"=some (some (.builtin "BaseException.__getattribute__"))) (Z0j:W.findIn K (.ref Z0) "__getattr__"=some none) (Z0k:W.findIn K (.ref Z0) "__setattr__"=some (some (.builtin "object.__setattr__")))
 (Z7:W.findIn K (.ref Z0) "name"=some none)
 (Z6:W.findIn K (.ref Z0) "place"=some none)
 {Z2c:ClassData} (Z0y:W.subIn K (.ref Z0) (.type "BaseException")=some true) (Z0l:W.clsIn K Z0=some Z2c) (Z0m:W.typeIn K (.ref Z0)=some (.type "type"))
 (Zj:W.subIn K (.ref Z0) (.ref Z0)=some true)
 :(∀tp∈([246,253,309]:List Addr),∃c,W.codeHdIn K c tp=true)∧∃fd:FuncData,(∀(s:Shared) (v:Value),BindsTo s fd ⟨[v],[]⟩ [("_law_script",v)])∧∀base:Heap,K.In base→base.Ns mainGlobals mg→(∀tp∈([246,253,309]:List Addr),base.BuiltinsAt mg tp)→B2 l.prog w K mg base (CXF l.prog w) 10 fa fd ["_law_script"] (Dq 246 253 309 K):=by
 have e:=hfa.symm.trans (W.mg_of X G a21);cases e
 have T:Txt K mg Z2 Z0 Z1:=⟨W.mg_of X G Z0z,Z2h,Z3,W.mg_of X G Z08,W.mg_of X G Z04,Yq Zz Z0i Z0j Z0k,Z7,Z6,Y6 Z0y Z0l Z0m Zj,W.mg_none_of X G Z9,W.mg_none_of X G Z4,W.mg_none_of X G Z0a,W.mg_none_of X G Z09,W.mg_none_of X G Z17,W.mg_none_of X G Z0n,W.mg_none_of X G Z18,W.mg_none_of X G Zq,W.mg_none_of X G Z0b,⟨_,W.mg_of X G Zo⟩,⟨_,W.mg_of X G Zu⟩,⟨_,W.mg_of X G Zh⟩,⟨_,W.mg_of X G Zg⟩,⟨_,W.mg_of X G Zk⟩⟩
 have F6:=G0 (st:=Z8) l6 c6 kf6;have F11:=G0 (st:=Zc) l11 c11 k11;have F12:=G0 (st:=Zi) l12 c12 k12;have F20:=G0 (st:=Zf) l20 c20 k20;have F21:=G0 (st:=Zx) l21 c21 k21;refine ⟨L2.allc ⟨_,mh11⟩ (L2.allc ⟨_,mh12⟩ (L2.allc ⟨_,mh20⟩ (L2.alln))),W.fnOf "law" "law" (Au Zx) (An Zx) (A8 Zx) .none kV21 dc21 pm21 an21 cd21 ct21,fun s v=> .of_eq rfl,fun base _ _ HB=>?_⟩
 have B:Bs l.prog w K mg base:=⟨h,X,G⟩
 have Z0u:=F0.d B a0 (Z1n F0 T) (F0.e2 fun _ _ _ _ _ _ _ _=>rfl);have Z0v:=F1.d B a1 (Z1o F1 T Z0u) (F1.e1 fun _ _ _ _ _ _ _=>rfl);have Z0d:=F2.d B a2 (Z1l F2 T) (F2.e1 fun _ _ _ _ _ _ _=>rfl);have Zs:=F3.d B a3 (Z1g F3 T Z0d) (F3.e3 fun _ _ _ _ _ _ _ _ _=>rfl);have Zw:=F4.d B a4 (Z1b F4 T Z0v Zs) (F4.e4 fun _ _ _ _ _ _ _ _ _ _=>rfl);have Z02:=F5.i B M5 Z0z (Z1e F5 T Zw) (F5.e2 fun _ _ _ _ _ _ _ _=>rfl)
 have Zr:Sn l.prog w K mg base (CXF l.prog w) 1 "Unknown" Z0 ["self","name","place"] (K0 Z0):=⟨⟨f6,_,Z19 F6 T,J37 Zz Z0f Z0g Z0h lA lNA sNA iNA l6 hc6 k6,W.mg_of X G Z04,F6.b3 fun _ _ _ _ _ _ _ _ _=>rfl⟩⟩
 have Z2k:=F7.m B M7 (Z1h F7 T) (F7.e2 fun _ _ _ _ _ _ _ _=>rfl);have Zm:=F8.m B M8 (Z11 F8 T Zr) (F8.e2 fun _ _ _ _ _ _ _ _=>rfl);have Zb:=F9.m B M9 (Z14 F9 T Zm) (F9.e2 fun _ _ _ _ _ _ _ _=>rfl);have Za:=F10.d B a10 (Z1p F10 T) (F10.e2 fun _ _ _ _ _ _ _ _=>rfl)
 have Zt:Def l.prog w K mg base (CXF l.prog w) 8 "missed_by" ["book"] (Bu 246 (⟨94,25,94,39⟩:Pos) (("missed_by"++".<locals>.")++"<lambda>")):=⟨⟨f11,_,Z1i F11 T Za ⟨_,_,_,_,_,l11,mc11,mh11⟩ (HB 246 (by simp)),W.mg_of X G a11,k11,F11.b1 fun _ _ _ _ _ _ _=>rfl⟩⟩
 have Z0w:Def l.prog w K mg base (CXF l.prog w) 8 "paid_by" ["stock","book"] (Cm 253 (⟨96,25,96,57⟩:Pos) (("paid_by"++".<locals>.")++"<lambda>") K Z1 Z0):=⟨⟨f12,_,Z1q F12 T Za Zb ⟨_,_,_,_,_,l12,mc12,mh12⟩ (HB 253 (by simp)),W.mg_of X G a12,k12,F12.b2 fun _ _ _ _ _ _ _ _=>rfl⟩⟩
 have Z5:=F13.d B a13 (Z1j F13 T) (F13.e2 fun _ _ _ _ _ _ _ _=>rfl);have Z00:=F14.d B a14 (Z2g F14 T) (F14.e2 fun _ _ _ _ _ _ _ _=>rfl);have Z0x:=F15.d B a15 (Z1r F15 T) (F15.e2 fun _ _ _ _ _ _ _ _=>rfl);have Z03:=F16.d B a16 (Z1s F16 T Z00) (F16.e2 fun _ _ _ _ _ _ _ _=>rfl);have Z15:=F17.d B a17 (Z2e F17 T) (F17.e2 fun _ _ _ _ _ _ _ _=>rfl);have Z16:=F18.d B a18 (Z2f F18 T Z0w) (F18.e2 fun _ _ _ _ _ _ _ _=>rfl);have Zd:=F19.d B a19 (Z1t F19 T) (F19.e2 fun _ _ _ _ _ _ _ _=>rfl)
 have Zy:Def l.prog w K mg base (CXF l.prog w) 8 "_law_summed" ["_law_book_here","_law_numbers","_law_missed"] (Bv 309 (⟨145,4,147,56⟩:Pos) (("_law_summed"++".<locals>.")++"_law_weigh") K):=⟨⟨f20,_,Z1m F20 T Za Zd ⟨_,_,_,_,_,l20,mc20,mh20⟩ (HB 309 (by simp)),W.mg_of X G a20,k20,F20.b3 fun _ _ _ _ _ _ _ _ _=>rfl⟩⟩
 exact Z2i F21 T Z5 Z00 Z0x Z03 Z02 Z15 Zy Zd Zt Z16
end K16
open PySem PySem.W PyProof.Rows
set_option maxRecDepth 100000 in
set_option maxHeartbeats 0 in
theorem PySem.Challenge.cw_castoff_k16_what_misses_weigh_holds : PySem.Challenge.rw_castoff_k16_what_misses_weigh.Holds := by
 refine hd16 ?_
 k_fill
 refine L2.O4 (l:=PySem.Challenge.rw_castoff_k16_what_misses_weigh) (n:=63) (k:=10) (x:="_law_script") (sp:=N16.Dq 246 253 309) (tps:=[246,253,309]) rfl (by decide) rfl ⟨rfl,by decide,by decide⟩ (fun w h Y=>PySem.W.km_in_of Y) (fun w h Y=>L2.allc (Rh Y _ (by simp)) (L2.allc (Rh Y _ (by simp)) (L2.allc (Rh Y _ (by simp)) (L2.alln)))) (fun w=>L2.allc (by kernel_rfl) (L2.allc (by kernel_rfl) (L2.allc (by kernel_rfl) (L2.alln)))) ?F ?S
 case F=>
  intro w mg fa h KX G hmg;refine' K16.J3l KX G hmg ?a0 ?FF0 ?a1 ?FF1 ?a2 ?FF2 ?a3 ?FF3 ?a4 ?FF4 ?MI5 ?FF5 ?a6 ?l6 ?c6 ?k6 ?kf6 ?hc6 ?MM7 ?FF7 ?MM8 ?FF8 ?MM9 ?FF9 ?a10 ?FF10 ?a11 ?l11 ?c11 ?k11 ?mc11 ?mh11 ?a12 ?l12 ?c12 ?k12 ?mc12 ?mh12 ?a13 ?FF13 ?a14 ?FF14 ?a15 ?FF15 ?a16 ?FF16 ?a17 ?FF17 ?a18 ?FF18 ?a19 ?FF19 ?a20 ?l20 ?c20 ?k20 ?mc20 ?mh20 ?a21 ?l21 ?c21 ?k21 ?Z9 ?Z4 ?Z0a ?Z09 ?Z17 ?Z0n ?Z18 ?Zq ?Z0b ?Zo ?Zu ?Zh ?Zg ?Zk ?Z0z ?EE_Stock ?Z3 ?Z08 ?Z04 ?lA ?lNA ?sNA ?iNA ?Zz ?Z0f ?Z0g ?Z0h ?Z0i ?Z0j ?Z0k ?Z7 ?Z6 ?Z0y ?Z0l ?Z0m ?Zj
  case Z0z|Z08|Z04|a0|a1|a2|a3|a4|a6|l6|c6|k6|kf6=>k_is
  case hc6=>rfl
  case a10|a11|l11|c11|k11=>k_is
  case mc11=>rfl
  (case mh11=>kernel_rfl)
  case a12|l12|c12|k12=>k_is
  case mc12=>rfl
  (case mh12=>kernel_rfl)
  case a13|a14|a15|a16|a17|a18|a19|a20|l20|c20|k20=>k_is
  case mc20=>rfl
  (case mh20=>kernel_rfl)
  case a21|l21|c21|k21|Z9|Z4|Z0a|Z09|Z17|Z0n|Z18|Zq|Z0b|Zo|Zu|Zh|Zg|Zk|Z3|lA|lNA=>k_is
  case sNA|iNA=>rfl
  case Zz|Z0f=>k_is
  case Z0g|Z0h=>rfl
  case Z0i|Z0j|Z0k|Z7|Z6|Z0y|Z0l|Z0m|Zj=>k_is
  case EE_Stock|MI5=>refine' ⟨?j1,?j2,?j3,?j4⟩;case j1|j2|j3|j4=>k_is
  case MM7|MM8|MM9=>refine' ⟨?j1,?j2,?j3⟩;case j1|j2|j3=>k_is
  case FF0|FF1|FF2|FF3|FF4|FF5|FF7|FF8|FF9|FF10|FF13|FF14|FF15|FF16|FF17|FF18|FF19=>refine' L2.G0 ?l ?c ?k;case l|c|k=>k_is
 case S=>exact fun K H a ns hl hO hS=>⟨a,ns,rfl,hS,hl,hO.1 _ (by simp),hO.1 _ (by simp),hO.1 _ (by simp),fun _=>rfl⟩
