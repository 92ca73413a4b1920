import PyProof.Rows.All
import Wide.All
import OpenK.AllK
import Wide.FinOn
import Lean
import PyProof.EqAt
import PyProof.EqKinds
import PyProof.TupleCall
import KE.KTryMore
import PyProof.StationsW
import PyProof.ExcBaseAll.ValueError
import PyProof.ExcClass2
import PyProof.RulesAs
import PyProof.NsDelKeeps
import KE.KIntText
import PyProof.StrWalks
import PyProof.StrBlockH
import PyProof.Rows.StrNews
import PyProof.Rows.StrJoin2
import PyProof.ConsumeWalk
import PyProof.FString
import PyProof.NeData
import KE.IntTextLaws
import PyProof.ExcInit
import PyProof.InstStoreFacts
import OpenK.KMake
import OpenK.KCls
import PyProof.ExcArgs
import PyProof.Rows.Catch
import KE.KDictList
import KE.KDictSum
import KE.KUnpack
import PyProof.MeetsSeq
import PyProof.Rows.StrInSeq3
import PyProof.SumAny
import PyProof.WalksS
import PyProof.EnumMake
import PyProof.EnumStmt
import PyProof.EnumFor
import PyProof.LayNew
import PyProof.Rows.EnumRows
import PyProof.ZipIter
import KE.KTurns
import PyProof.Rows.FactsT2
import PyProof.ConsumeS
import PyProof.WalkInts
import KE.KEqDict
import KE.KTurnsDict
import KE.KPairComp
import PyProof.StrLawsChain
import PyProof.StrLawsFirst
import KE.IntTextText
import PyProof.Rows.CatFin
import PyProof.Rows.StrClose5
import PyProof.Rows.StrFirst2
import PyProof.Ascii
import KE.KBoundM
import KE.KMinKey
import KE.KSuperObj
import PyProof.Rows.CallKwBuiltin
import KE.KRevIter
import PyProof.CollectIter
import KE.KDictOf
import KE.KItemsList
import PyProof.Rows.SortStr
import KE.KNestM
import KE.KLam
import PyProof.Rows.SetFrom
import PyProof.SetRoads
import PyProof.ListStr
import PyProof.Rows.StrOver
import PySem.Challenge.RW_castoff_k54_whole_each_thing_once_a_part
set_option linter.all false
set_option Elab.async false
set_option maxRecDepth 100000
set_option maxHeartbeats 4000000
open PySem PySem.Spec PyProof.Rows
namespace L2
noncomputable abbrev Key:=Sum Int Str
noncomputable def keyIs:Key→Value→Bool
 | .inl k,v=>Value.isInt k v
 | .inr x,v=>Value.isStrOf x v
noncomputable def keyH(w:World):Key→Int
 | .inl k=>hashInt k
 | .inr x=>hashStr w x
theorem keyIs_shape:∀{k:Key} {v:Value},keyIs k v=true→(∃i t,k=Sum.inl i∧v=Value.int i t)∨(∃x t,k=Sum.inr x∧v=Value.str x t)
 | .inl i,v,h=>by
  obtain ⟨t,e⟩:=Value.isInt_shape (k:=i) (v:=v) h
  exact .inl ⟨i,t,rfl,e⟩
 | .inr x,v,h=>by
  obtain ⟨t,e⟩:=Value.isStrOf_shape (x:=x) (v:=v) h
  exact .inr ⟨x,t,rfl,e⟩
theorem keyIs_int(i:Int)(t:Tok):keyIs (.inl i) (.int i t)=true:=by simp [keyIs,Value.isInt]
theorem keyIs_str(x:Str)(t:Tok):keyIs (.inr x) (.str x t)=true:=by simp [keyIs,Value.isStrOf]
theorem key_ll(a b:Int):decide ((Sum.inl a:Key)=Sum.inl b)=(a==b):=by
 by_cases e:a=b
 · subst e;simp
 · have h:¬(Sum.inl a:Key)=Sum.inl b:=fun q=>e (Sum.inl.inj q)
   rw [decide_eq_false h]
   exact (beq_eq_false_iff_ne.mpr e).symm
theorem key_rr(a b:Str):decide ((Sum.inr a:Key)=Sum.inr b)=decide (a=b):=by
 by_cases e:a=b
 · subst e;simp
 · have h:¬(Sum.inr a:Key)=Sum.inr b:=fun q=>e (Sum.inr.inj q)
   rw [decide_eq_false h,decide_eq_false e]
theorem key_lr(a:Int)(b:Str):decide ((Sum.inl a:Key)=Sum.inr b)=false:=decide_eq_false (fun q=>nomatch q)
theorem key_rl(a:Str)(b:Int):decide ((Sum.inr a:Key)=Sum.inl b)=false:=decide_eq_false (fun q=>nomatch q)
noncomputable def mixKind(prog:Program)(w:World):PySem.KeyKind prog w Key where
 is:=keyIs
 hash:=keyH w
 inj:=fun v a b ha hb=>by
  rcases keyIs_shape ha with ⟨i,t,rfl,rfl⟩ | ⟨x,t,rfl,rfl⟩
  · rcases keyIs_shape hb with ⟨j,u,rfl,e⟩ | ⟨y,u,rfl,e⟩
    · injection e with e1 _;rw [e1]
    · exact nomatch e
  · rcases keyIs_shape hb with ⟨j,u,rfl,e⟩ | ⟨y,u,rfl,e⟩
    · exact nomatch e
    · injection e with e1 _;rw [e1]
 byValue:=fun k v h=>by
   rcases keyIs_shape h with ⟨i,t,rfl,rfl⟩ | ⟨x,t,rfl,rfl⟩ <;> rfl
 pyHash:=fun hv h=>by
  rcases keyIs_shape hv with ⟨i,t,rfl,rfl⟩ | ⟨x,t,rfl,rfl⟩
  · exact wpAny_pyHash_int h
  · exact wpAny_pyHash_str h
 eqBool:=fun hu hv h=>by
  rcases keyIs_shape hu with ⟨i,t,rfl,rfl⟩ | ⟨x,t,rfl,rfl⟩
  · rcases keyIs_shape hv with ⟨j,u,rfl,rfl⟩ | ⟨y,u,rfl,rfl⟩
    · rw [key_ll]at h;exact wpAny_eqBool_int h
    · rw [key_lr]at h;exact SeqAt.EqAt.int_str i t y u _ _ _ _ h
  · rcases keyIs_shape hv with ⟨j,u,rfl,rfl⟩ | ⟨y,u,rfl,rfl⟩
    · rw [key_rl]at h;exact SeqAt.EqAt.str_int x t j u _ _ _ _ h
    · rw [key_rr]at h;exact wpAny_eqBool_str h
 «strs»:=fun k x t v h=>by
  rcases keyIs_shape h with ⟨i,u,rfl,e⟩ | ⟨y,u,rfl,e⟩
  · exact nomatch e
  · injection e with e1 _
    subst e1
    cases v <;> rfl
theorem mixKind_int(prog:Program)(w:World)(i:Int)(t:Tok):(mixKind prog w).is (.inl i) (.int i t)=true:=keyIs_int i t
theorem mixKind_str(prog:Program)(w:World)(x:Str)(t:Tok):(mixKind prog w).is (.inr x) (.str x t)=true:=keyIs_str x t
end L2
namespace L2
inductive V where
 | non | bl (b:Bool) | int (i:Int) | str (x:Str) | byt (b:Array UInt8) | flt (b:UInt64) | ref (a:Addr) | ty (n:String)
 deriving DecidableEq
noncomputable def RelV:V→Value→Prop
 | .non,u=>u=Value.none
 | .bl b,u=>u=Value.bool b
 | .int i,u=>∃t,u=Value.int i t
 | .str x,u=>∃t,u=Value.str x t
 | .byt b,u=>∃t,u=Value.bytes b t
 | .flt b,u=>∃t,u=Value.float b t
 | .ref a,u=>u=Value.ref a
 | .ty n,u=>u=Value.type n
noncomputable abbrev Vals:List V→List Value→Prop:=Paired RelV
theorem Vals.length{xs:List V}{us:List Value}(r:Vals xs us):xs.length=us.length:=Paired.length r
theorem Vals.get:∀{xs:List V} {us:List Value} {i:Nat} {x:V},Vals xs us→xs[i]?=some x→∃u,us[i]?=some u∧RelV x u
 | _,_,_,_,.nil,e=>by simp at e
 | _,_,0,_,.cons r _,e=>by simp at e;subst e;exact ⟨_,rfl,r⟩
 | _,_,i+1,x,.cons _ t,e=>by
  obtain ⟨u,h1,h2⟩:=Vals.get (i:=i) (x:=x) t (by simpa using e)
  exact ⟨u,by simpa using h1,h2⟩
theorem Vals.append:∀{xs ys:List V} {us ws:List Value},Vals xs us→Vals ys ws→Vals (xs++ys) (us++ws)
 | _,_,_,_,.nil,s=>s
 | _,_,_,_,.cons r t,s=> .cons r (Vals.append t s)
theorem Vals.take:∀{xs:List V} {us:List Value} (n:Nat),Vals xs us→Vals (xs.take n) (us.take n)
 | _,_,0,_=> .nil
 | _,_,_+1,.nil=> .nil
 | _,_,n+1,.cons r t=> .cons r (Vals.take n t)
theorem Vals.drop:∀{xs:List V} {us:List Value} (n:Nat),Vals xs us→Vals (xs.drop n) (us.drop n)
 | _,_,0,r=>r
 | _,_,_+1,.nil=> .nil
 | _,_,n+1,.cons _ t=>Vals.drop n t
noncomputable def RelO:Option V→Option Value→Prop
 | some v,some u=>RelV v u
 | none,none=>True
 | _,_=>False
noncomputable def KV{κ:Type}:List (κ×V)→List (κ×Value)→Prop:=Paired fun (p:κ×V) (q:κ×Value)=>p.1=q.1∧RelV p.2 q.2
noncomputable def kV:Key→V
 | .inl i=> .int i
 | .inr x=> .str x
inductive HO where
 | lst (xs:List V)
 | tup (xs:List V)
 | dK (kvs:List (Key×V)) | dT (kvs:List (List Key×V))
 | set (S:Int→Bool) (n:Nat)
 | ins (C dx:Addr) (fs:List (Str×V))
 | own (x:Addr)
 | xd (fs:List (Str×V))
 | met (f x:Addr)
 | rng (lo hi:Int)
 | frz (o:Obj) (u:HO)
 | tbl (ps:Array Value)
 | ext (φ:Heap→Prop)
noncomputable abbrev Hp:=Addr→Option HO
noncomputable def upd(H:Hp)(a:Addr)(o:HO):Hp:=fun b=>if b=a then some o else H b
theorem upd_same{H:Hp}{a:Addr}{o:HO}:upd H a o a=some o:=by unfold upd;rw [if_pos rfl]
theorem upd_ne{H:Hp}{a b:Addr}{o:HO}(h:b≠a):upd H a o b=H b:=by unfold upd;rw [if_neg h]
theorem upd_upd{H:Hp}{a:Addr}{o u:HO}:upd (upd H a o) a u=upd H a u:=by
 funext b;unfold upd;split <;> rfl
theorem ne_of{H:Hp}{a b:Addr}{o u:HO}(h:H a=some o)(h':H b=some u)(d:o≠u):a≠b:=by
 intro e;subst e;rw [h]at h';exact d (Option.some.inj h')
theorem ne_of_none{H:Hp}{a b:Addr}{o:HO}(h:H a=some o)(h':H b=none):a≠b:=by
 intro e;subst e;rw [h]at h';cases h'
section
variable (P:Program) (w:World)
noncomputable def ObjOk(H:Hp)(h:Heap)(a:Addr):HO→Prop
 | .lst xs=>xs.length≤sizeLine∧∃(its:List Value) (n:Nat),Vals xs its∧h.get? a=some {cls:= .type "list",data:= .seq its.toArray n}
 | .tup xs=>xs.length≤sizeLine∧∃its:List Value,Vals xs its∧IsTup h a its.toArray
 | .dK kvs=>kvs.length≤sizeLine∧(a==sysModules)=false∧∃vs,KV kvs vs∧h.DictOf (mixKind P w) a vs
 | .dT kvs=>kvs.length≤sizeLine∧(a==sysModules)=false∧∃xs:List (List Key×Addr×Value),
  Paired (fun (p:List Key×V) (q:List Key×Addr×Value)=>p.1=q.1∧H q.2.1=some (.tup (p.1.map kV))∧RelV p.2 q.2.2) kvs xs∧
  ∃o es ep,h.get? a=some o∧o.ExactDict∧o.data= .dict es ep∧es.toList=xs.map (entryOfKey (tupleKind (mixKind P w)))∧(xs.map (·.1)).Nodup
 | .set S n=>h.SetOf (intKind P w) a S n
 | .ins C dx fs=>H dx=some (.own a)∧fs.length≤1000∧dx≠a∧h.get? a=some (PySem.W.instObj C dx)∧
  ∃mA,h.Ns1 dx mA∧(∀f,RelO (fs.lookup f) (mA f))∧PySem.Within mA (fs.map (·.1))
 | .own _=>∃o,h.get? a=some o
 | .xd fs=>∃mA,h.Ns1 a mA∧∀f,RelO (fs.lookup f) (mA f)
 | .rng lo hi=>∃t u v,h.get? a=some {cls:= .type "range",data:= .fields #[.int lo t,.int hi u,.int 1 v]}
 | .frz o u=>h.get? a=some o∧ObjOk H h a u
 | .tbl ps=>h.get? a=some {cls:= .none,data:= .fields ps}
 | .met f x=>h.get? a=some (PySem.W.methodObj (.ref f) (.ref x))
 | .ext φ=>φ h∧(∃o,h.get? a=some o)∧∀h1 h2:Heap,φ h1→(∀o,h1.get? a=some o→h2.get? a=some o)→φ h2
noncomputable def HOk(H:Hp)(h:Heap):Prop:=∀a o,H a=some o→ObjOk P w H h a o
end
section
variable {P:Program} {w:World} {H H':Hp} {h h':Heap} {a:Addr} {o:HO}
theorem ObjOk.lt(x:ObjOk P w H h a o):a < h.objs.size:=by
 cases o with
 | lst xs=>obtain ⟨_,_,_,_,e⟩:=x;exact Heap.lt_size e
 | tup xs=>obtain ⟨_,_,_,p⟩:=x;exact p.lt
 | dK kvs=>obtain ⟨_,_,_,_,o,_,_,e,_⟩:=x;exact Heap.lt_size e
 | dT kvs=>obtain ⟨_,_,_,_,o,_,_,e,_⟩:=x;exact Heap.lt_size e
 | set S n=>obtain ⟨o,_,_,_,e,_⟩:=x;exact Heap.lt_size e
 | ins C dx fs=>obtain ⟨_,_,_,e,_⟩:=x;exact Heap.lt_size e
 | own y=>obtain ⟨_,e⟩:=x;exact Heap.lt_size e
 | xd fs=>obtain ⟨_,⟨_,_,_,e,_⟩,_⟩:=x;exact Heap.lt_size e
 | rng lo hi=>obtain ⟨_,_,_,e⟩:=x;exact Heap.lt_size e
 | frz ob u=>obtain ⟨e,_⟩:=x;exact Heap.lt_size e
 | tbl ps=>exact Heap.lt_size (show h.get? a=some _ from x)
 | met f y=>exact Heap.lt_size (show h.get? a=some _ from x)
 | ext φ=>obtain ⟨_,⟨_,e⟩,_⟩:=x;exact Heap.lt_size e
theorem Paired.mapP{α β:Type}{F G:α→β→Prop}:∀{l₁:List α} {l₂:List β},Paired F l₁ l₂→(∀a b,F a b→G a b)→Paired G l₁ l₂
 | _,_,.nil,_=> .nil
 | _,_,.cons r t,f=> .cons (f _ _ r) (Paired.mapP t f)
theorem ObjOk.stay(x:ObjOk P w H h a o)(k:∀b u,(b=a∨H b=some (.own a))→h.get? b=some u→h'.get? b=some u)
 (ho:∀b,H b=some (.own a)→H' b=some (.own a)) (ht:∀b xs,H b=some (.tup xs)→H' b=some (.tup xs)):ObjOk P w H' h' a o:=by
 induction o with
 | lst xs=>obtain ⟨z,its,n,r,e⟩:=x;exact ⟨z,its,n,r,k _ _ (.inl rfl) e⟩
 | tup xs=>obtain ⟨z,its,r,ob,e,c⟩:=x;exact ⟨z,its,r,ob,k _ _ (.inl rfl) e,c⟩
 | dK kvs=>obtain ⟨z,y,vs,r,ob,es,ep,e,c⟩:=x;exact ⟨z,y,vs,r,ob,es,ep,k _ _ (.inl rfl) e,c⟩
 | dT kvs=>
  obtain ⟨z,y,xs,r,ob,es,ep,e,c⟩:=x
  exact ⟨z,y,xs,Paired.mapP r fun p q z=>⟨z.1,ht _ _ z.2.1,z.2.2⟩,ob,es,ep,k _ _ (.inl rfl) e,c⟩
 | set S n=>obtain ⟨ob,es,ep,t,e,c⟩:=x;exact ⟨ob,es,ep,t,k _ _ (.inl rfl) e,c⟩
 | ins C dx fs=>
  obtain ⟨d,z,ne,e,mA,⟨od,es,ep,e2,c⟩,r⟩:=x
  exact ⟨ho _ d,z,ne,k _ _ (.inl rfl) e,mA,⟨od,es,ep,k _ _ (.inr d) e2,c⟩,r⟩
 | own y=>obtain ⟨ob,e⟩:=x;exact ⟨ob,k _ _ (.inl rfl) e⟩
 | xd fs=>obtain ⟨mA,⟨od,es,ep,e,c⟩,r⟩:=x;exact ⟨mA,⟨od,es,ep,k _ _ (.inl rfl) e,c⟩,r⟩
 | rng lo hi=>obtain ⟨t,u,v,e⟩:=x;exact ⟨t,u,v,k _ _ (.inl rfl) e⟩
 | frz ob u ih=>obtain ⟨e,q⟩:=x;exact ⟨k _ _ (.inl rfl) e,ih q⟩
 | tbl ps=>
  have e:h.get? a=some {cls:= .none,data:= .fields ps}:=x
  show h'.get? a=some {cls:= .none,data:= .fields ps}
  exact k a _ (.inl rfl) e
 | met f y=>
  have e:h.get? a=some (PySem.W.methodObj (.ref f) (.ref y)):=x
  show h'.get? a=some (PySem.W.methodObj (.ref f) (.ref y))
  exact k a _ (.inl rfl) e
 | ext φ=>obtain ⟨p,⟨o,e⟩,st⟩:=x;exact ⟨st _ _ p fun o q=>k _ _ (.inl rfl) q,⟨o,k _ _ (.inl rfl) e⟩,st⟩
theorem HOk.lt(x:HOk P w H h)(e:H a=some o):a < h.objs.size:=(x a o e).lt
theorem HOk.fresh(x:HOk P w H h)(e:h.objs.size≤a):H a=none:=by
 cases q:H a with
 | none=>rfl
 | some u=>exact absurd (Nat.lt_of_lt_of_le (x.lt q) e) (Nat.lt_irrefl _)
theorem HOk.kept(x:HOk P w H h)(k:∀b u,h.get? b=some u→h'.get? b=some u):HOk P w H h':=fun a o e=>
 (x a o e).stay (fun b u _ q=>k b u q) (fun _ q=>q) fun _ _ q=>q
theorem HOk.laid(x:HOk P w H h)(k:∀b u,h.get? b=some u→h'.get? b=some u)(hp:h.objs.size≤a)(new:ObjOk P w (upd H a o) h' a o):HOk P w (upd H a o) h':=fun b u e=>by
 have hn:=x.fresh hp
 by_cases hb:b=a
 · subst hb;rw [upd_same]at e;cases e;exact new
 · rw [upd_ne hb]at e
   exact (x b u e).stay (fun c v _ q=>k c v q) (fun c q=>by rw [upd_ne (ne_of_none q hn)];exact q) fun c xs q=>by rw [upd_ne (ne_of_none q hn)];exact q
end
noncomputable def Rd(H:Hp)(a:Addr)(u:HO):Prop:=H a=some u∨∃o,H a=some (.frz o u)
theorem Rd.ok{P:Program}{w:World}{H:Hp}{h:Heap}{a:Addr}{u:HO}(r:Rd H a u)(x:HOk P w H h):ObjOk P w H h a u:=by
 rcases r with r | ⟨o,r⟩
 · exact x a u r
 · obtain ⟨_,q⟩:=x a _ r
   exact q
noncomputable def Mut:Option HO→Prop
 | some (.lst _)=>True
 | some (.dK _)=>True
 | some (.dT _)=>True
 | some (.set _ _)=>True
 | some (.ins _ _ _)=>True
 | some (.ext _)=>True
 | _=>False
section
variable {P:Program} {w:World} {H:Hp} {h h':Heap} {x e:Addr} {o':HO}
theorem HOk.write(ok:HOk P w H h)(mu:Mut (H x))(he:e=x∨H e=some (.own x))(k:∀b u,b≠e→h.get? b=some u→h'.get? b=some u)(heo:∃u,h'.get? e=some u)
 (new:ObjOk P w (upd H x o') h' x o'):HOk P w (upd H x o') h':=fun b u q=>by
 have nown:∀c y,H c=some (.own y)→c≠x:=fun c y r z=>by subst z;rw [r]at mu;exact mu
 have ntup:∀c xs,H c=some (.tup xs)→c≠x:=fun c xs r z=>by subst z;rw [r]at mu;exact mu
 by_cases hb:b=x
 · subst hb;rw [upd_same]at q;cases q;exact new
 · rw [upd_ne hb]at q
   by_cases hbe:b=e
   · have q':H b=some (.own x):=by
      rcases he with z | z
      · exact absurd (hbe.trans z) hb
      · rw [hbe];exact z
     rw [q]at q';cases q'
     obtain ⟨v,hv⟩:=heo
     exact ⟨v,by rw [hbe];exact hv⟩
   · refine (ok b u q).stay (fun c v hc r=>k c v ?_ r) (fun c r=>by rw [upd_ne (nown c b r)];exact r) fun c xs r=>by rw [upd_ne (ntup c xs r)];exact r
     rcases hc with rfl | hc
     · exact hbe
     · rintro rfl
       rcases he with z | z
       · exact nown c b hc z
       · rw [hc]at z;cases z;exact hb rfl
end
structure Un(fs ex:List Addr)(H H':Hp)(h h':Heap):Prop where
 keep:∀b o,h.get? b=some o→H b=none→b∉fs→b∉ex→h'.get? b=some o
 slot:∀b o,h.get? b=some o→H b=none→b∈fs→b∉ex→∃sl,h'.get? b=some {o with slots:=sl}
 free:∀b o,h.get? b=some o→H b=none→b∉ex→H' b=none
 there:∀b o,h.get? b=some o→b∉ex→∃o',h'.get? b=some o'
 tups:∀b xs,H b=some (.tup xs)→H' b=some (.tup xs)
 frzs:∀b o u,H b=some (.frz o u)→H' b=some (.frz o u)
 tbls:∀b ps,H b=some (.tbl ps)→∃more,H' b=some (.tbl (ps++more))
section
variable {fs fs' ex ex':List Addr} {H H1 H2:Hp} {h h1 h2 h':Heap} {a x e:Addr} {o:HO}
theorem Un.any(u:Un fs ex H H1 h h1){b:Addr}{ob:Obj}(q:h.get? b=some ob)(n:H b=none)(hx:b∉ex):∃sl,h1.get? b=some {ob with slots:=sl}:=by
 by_cases hb:b∈fs
 · exact u.slot b ob q n hb hx
 · exact ⟨ob.slots,u.keep b ob q n hb hx⟩
theorem Un.kept(k:∀b u,h.get? b=some u→h'.get? b=some u):Un fs ex H H h h':=
 ⟨fun b ob q _ _ _=>k b ob q,fun b ob q _ _ _=>⟨ob.slots,k b ob q⟩,fun _ _ _ n _=>n,fun b ob q _=>⟨ob,k b ob q⟩,fun _ _ q=>q,fun _ _ _ q=>q,fun _ ps q=>⟨#[],by rw [q];simp⟩⟩
theorem Un.refl:Un fs ex H H h h:=Un.kept fun _ _ q=>q
theorem Un.laid(k:∀b u,h.get? b=some u→h'.get? b=some u)(hp:h.objs.size≤a)(hn:H a=none):Un fs ex H (upd H a o) h h' where
 keep:=fun b u q _ _ _=>k b u q
 slot:=fun b u q _ _ _=>⟨u.slots,k b u q⟩
 free:=fun b u q n _=>by rw [upd_ne (Nat.ne_of_lt (Nat.lt_of_lt_of_le (Heap.lt_size q) hp))];exact n
 there:=fun b u q _=>⟨u,k b u q⟩
 tups:=fun b xs q=>by rw [upd_ne (ne_of_none q hn)];exact q
 frzs:=fun b u xs q=>by rw [upd_ne (ne_of_none q hn)];exact q
 tbls:=fun b ps q=>⟨#[],by rw [upd_ne (ne_of_none q hn),q];simp⟩
theorem Un.write(mu:Mut (H x))(he:e=x∨H e=some (.own x))(k:∀b u,b≠e→h.get? b=some u→h'.get? b=some u)(heo:∃u,h'.get? e=some u):Un fs ex H (upd H x o) h h':=by
 have hx:∀b,H b=none→b≠x:=fun b n z=>by subst z;rw [n]at mu;exact mu
 have hb:∀b,H b=none→b≠e:=fun b n z=>by
  subst z
  rcases he with r | r
  · exact hx b n r
  · rw [n]at r;cases r
 have hm:∀b u,H b=some u→¬Mut (some u)→b≠x:=fun b u q nm z=>by subst z;rw [q]at mu;exact nm mu
 refine ⟨fun b u q n _ _=>k b u (hb b n) q,fun b u q n _ _=>⟨u.slots,k b u (hb b n) q⟩,fun b u q n _=>by rw [upd_ne (hx b n)];exact n,fun b u q _=>?_,
  fun b xs q=>by rw [upd_ne (hm b _ q fun z=>z)];exact q,fun b u xs q=>by rw [upd_ne (hm b _ q fun z=>z)];exact q,fun b ps q=>⟨#[],by rw [upd_ne (hm b _ q fun z=>z),q];simp⟩⟩
 by_cases hbe:b=e
 · subst hbe;exact heo
 · exact ⟨u,k b u hbe q⟩
end
noncomputable def trk(h:Heap)(H:Hp):List Addr:=(List.range h.objs.size).filter fun a=>(H a).isSome
noncomputable def hidT(h:Heap)(H:Hp):Heap:=PySem.W.hideAll h (trk h H)
theorem hidT_size(h:Heap)(H:Hp):(hidT h H).objs.size=h.objs.size:=PySem.W.hideAll_size _ _
theorem hidT_get{h:Heap}{H:Hp}{b:Addr}{o:Obj}(e:h.get? b=some o)(n:H b=none):(hidT h H).get? b=some o:=
 PySem.W.hideAll_get _ e fun hm=>by
  have q:(H b).isSome=true:=(List.mem_filter.mp hm).2
  rw [n]at q;simp at q
theorem of_hidT{h:Heap}{H:Hp}{b:Addr}{o:Obj}(e:(hidT h H).get? b=some o):h.get? b=some o∧H b=none:=by
 have e':h.get? b=some o:=PySem.W.of_hideAll (trk h H) e
 refine ⟨e',?_⟩
 cases q:H b with
 | none=>rfl
 | some x=>
  have hm:b∈trk h H:=List.mem_filter.mpr ⟨List.mem_range.mpr (Heap.lt_size e'),by simp [q]⟩
  have z:(hidT h H).get? b=none:=PySem.W.hideAll_none (trk h H) hm
  rw [z]at e;cases e
noncomputable def allNews(g h:Heap)(L:Addr):List (Addr×Obj):=(List.range h.objs.size).filterMap fun a=>if a=L∨(g.get? a).isSome=true then none else (h.get? a).map fun o=>(a,o)
noncomputable def rest(g h:Heap)(L d:Addr):List (Addr×Obj):=(allNews g h L).filter fun p=>decide (p.1≠d)
end L2
namespace L2
structure Mod(K:PySem.W.Frag)(mg:Str→Option Value)(base:Heap):Prop where
 kin:K.In base
 glob:base.Ns mainGlobals mg
 blt:∃mb,base.Ns builtinsNs mb∧∀x:Str,x≠"__name__"→mb x=bootBuiltins x
 nolimit:base.NoLimit
structure Cx where
 prog:Program
 w:World
 K:PySem.W.Frag
 mg:Str→Option Value
 base:Heap
 A:Around
 N:List Str
 s₀:Shared
 H₀:Hp
 env:Env
 outer:List Env
 stack:List Env
 ex:List Addr
 fn:Str→Bool
 calm:Bool
 pn:List (Addr×Obj)
 xe:Value→Shared→Prop
noncomputable def frs(l:List Env):List Addr:=l.filterMap (·.frame)
noncomputable abbrev Cx.fs(X:Cx):List Addr:=frs X.outer
noncomputable def Vis(sc:Scope)(x:Str):Prop:=sc.names.lookup x=some .local∨sc.names.lookup x=some .cell∨sc.names.lookup x=some .free
noncomputable def Loc(sc:Scope)(x:Str):Prop:=sc.names.lookup x=some .local∨sc.names.lookup x=some .cell
noncomputable def Look(env:Env)(h:Heap)(m:Str→Option Value)(x:Str)(u:Value):Prop:=
 (env.kindOf x=some .local∧m x=some u)∨((env.kindOf x=some .cell∨env.kindOf x=some .free)∧∃c,env.cells.lookup x=some c∧h.IsCell c (some u))
structure Cx.Ok(X:Cx):Prop where
 mod:Mod X.K X.mg X.base
 kind:X.env.scope.kind= .function
 glob:X.env.globals=mainGlobals
 blt:X.env.builtins=builtinsNs
 above:X.s₀.heap.objs.size≤X.env.locals
 inj:∀x y c,X.env.cells.lookup x=some c→X.env.cells.lookup y=some c→x=y
 has:∀x,(X.env.kindOf x=some .cell∨X.env.kindOf x=some .free)→∃c,X.env.cells.lookup x=some c
 cab:∀x c,X.fn x=true→X.env.cells.lookup x=some c→X.s₀.heap.objs.size≤c
 hd:X.calm=true→X.A.handled=none
 frames:X.A.frames=some X.stack
 stk:X.stack=X.outer∨(X.stack=X.env::X.outer∧X.env.frame=some X.env.locals)
 exf:∀b∈X.ex,b≠X.env.locals∧∀x c,X.env.cells.lookup x=some c→c≠b
 bs:∀b o,X.base.get? b=some o→X.s₀.heap.get? b=some o∧X.H₀ b=none
 bsz:X.base.objs.size≤X.s₀.heap.objs.size
 noex:∀b o,X.base.get? b=some o→b∉X.ex
 exfs:∀b∈X.ex,b∉X.fs
 funs:X.s₀.heap.FunFrames X.base X.outer
 frf:∀b∈X.fs,X.H₀ b=none
structure Inv(X:Cx)(pins:List (Addr×Obj))(σ:List (Option V))(H:Hp)(s:Shared):Prop where
 ok:X.Ok
 os:s.os=X.s₀.os
 bare:AllBare s.gens
 base:Un X.fs X.ex X.H₀ H X.s₀.heap s.heap
 loc:∃m,s.heap.Ns X.env.locals m∧∀(i:Nat) (x:Str) (v:V),X.N[i]?=some x→σ[i]?=some (some v)→Vis X.env.scope x→∃u,RelV v u∧Look X.env s.heap m x u
 cell:∀x c,X.env.cells.lookup x=some c→∃v,s.heap.IsCell c v
 free:H X.env.locals=none
 freeC:∀x c,X.env.cells.lookup x=some c→H c=none
 pin:∀p∈X.pn++pins,s.heap.get? p.1=some p.2∧H p.1=none∧p.1≠X.env.locals∧p.1∉X.fs∧∀v,p.2.data≠ .cell v
 hok:HOk X.prog X.w H s.heap
 len:σ.length=X.N.length
section
variable {X:Cx} {pins:List (Addr×Obj)} {σ:List (Option V)} {H H':Hp} {s:Shared} {h':Heap}
theorem Cx.Ok.nofr(ok:X.Ok){b:Addr}{o:Obj}(e:X.base.get? b=some o):b∉X.fs:=fun hb=>by
 have:=(ok.funs.mem hb).1
 rw [e]at this;cases this
theorem Inv.bs(I:Inv X pins σ H s):∀b o,X.base.get? b=some o→s.heap.get? b=some o∧H b=none:=fun b o e=>
 ⟨I.base.keep b o (I.ok.bs b o e).1 (I.ok.bs b o e).2 (I.ok.nofr e) (I.ok.noex b o e),I.base.free b o (I.ok.bs b o e).1 (I.ok.bs b o e).2 (I.ok.noex b o e)⟩
theorem Inv.bk(I:Inv X pins σ H s):∀b o,X.base.get? b=some o→s.heap.get? b=some o:=fun b o e=>(I.bs b o e).1
theorem Inv.mod(I:Inv X pins σ H s):Mod X.K X.mg X.base:=I.ok.mod
theorem Inv.kIn(I:Inv X pins σ H s):X.K.In s.heap:=I.ok.mod.kin.keeps I.bk
theorem Inv.nolimit(I:Inv X pins σ H s):s.heap.NoLimit:=I.ok.mod.nolimit.keeps I.bk
theorem Inv.lt(I:Inv X pins σ H s):X.env.locals < s.heap.objs.size:=let ⟨_,hn,_⟩:=I.loc;hn.lt
theorem Inv.sz(I:Inv X pins σ H s):X.s₀.heap.objs.size≤s.heap.objs.size:=Nat.le_trans I.ok.above (Nat.le_of_lt I.lt)
theorem Inv.nofs(I:Inv X pins σ H s){a:Addr}(h:s.heap.objs.size≤a):a∉X.fs:=fun hb=>by
 obtain ⟨_,o,ho,_⟩:=I.ok.funs.mem hb
 exact absurd (Nat.lt_of_lt_of_le (Heap.lt_size ho) (Nat.le_trans I.sz h)) (Nat.lt_irrefl _)
theorem Inv.cne(I:Inv X pins σ H s):∀x c,X.env.cells.lookup x=some c→c≠X.env.locals:=fun x c e z=>by
 obtain ⟨v,o,ho,hd⟩:=I.cell x c e
 obtain ⟨m,⟨o',es,ep,ho',hd',_⟩,_⟩:=I.loc
 rw [z,ho']at ho;cases ho;rw [hd']at hd;cases hd
theorem Inv.funs(I:Inv X pins σ H s):s.heap.FunFrames X.base X.outer:=by
 have all:∀(l:List Env),(∀b∈frs l,b∈X.fs)→X.s₀.heap.FunFrames X.base l→s.heap.FunFrames X.base l:=by
  intro l
  induction l with
  | nil=>intro _ _;trivial
  | cons env r ih=>
   intro hs hl
   obtain ⟨hk,⟨L,o,hf,hn,ho,hd⟩,hr⟩:=hl
   have hL:L∈X.fs:=hs L (by unfold frs;rw [List.filterMap_cons,hf];exact List.mem_cons_self)
   obtain ⟨sl,e⟩:=I.base.slot L o ho (I.ok.frf L hL) hL fun z=>I.ok.exfs L z hL
   exact ⟨hk,⟨L,_,hf,hn,e,hd⟩,ih (fun b hb=>hs b (by unfold frs;rw [List.filterMap_cons,hf];exact List.mem_cons_of_mem _ hb)) hr⟩
 exact all X.outer (fun _ hb=>hb) I.ok.funs
theorem Inv.stack(I:Inv X pins σ H s):s.heap.FunFrames X.base X.stack:=by
 rcases I.ok.stk with e | ⟨e,hf⟩
 · rw [e];exact I.funs
 · rw [e]
   obtain ⟨m,hn,_⟩:=I.loc
   refine .cons (by rw [I.ok.kind];decide) hf hn ?_ I.funs
   exact Heap.get?_none_of_le (Nat.le_trans I.ok.bsz I.ok.above)
theorem Inv.stkSub(I:Inv X pins σ H s):∀b∈frs X.stack,b∈X.env.locals::X.fs:=fun b hb=>by
 rcases I.ok.stk with e | ⟨e,hf⟩
 · rw [e]at hb;exact List.mem_cons_of_mem _ hb
 · rw [e]at hb
   unfold frs at hb
   rw [List.filterMap_cons,hf]at hb
   exact hb
theorem Inv.stkFree(I:Inv X pins σ H s):∀b∈frs X.stack,H b=none:=fun b hb=>by
 rcases List.mem_cons.mp (I.stkSub b hb) with e | hb
 · rw [e];exact I.free
 · obtain ⟨_,o,ho,_⟩:=I.ok.funs.mem hb
   exact I.base.free b o ho (I.ok.frf b hb) fun z=>I.ok.exfs b z hb
theorem Inv.step{g':Array GenState}{t':Nat}{d':Drawn}{ch:List Addr}(I:Inv X pins σ H s)
 (hch:∀b∈ch,(b∈X.ex∨X.s₀.heap.objs.size≤b)∧b≠X.env.locals∧(∀x c,X.env.cells.lookup x=some c→c≠b)∧∀p∈X.pn++pins,p.1≠b)
 (keep:∀b o,b≠X.env.locals→b∉X.fs→b∉ch→s.heap.get? b=some o→H b=none→h'.get? b=some o)
 (slot:∀b o,b≠X.env.locals→b∈X.fs→b∉ch→s.heap.get? b=some o→H b=none→∃sl,h'.get? b=some {o with slots:=sl}) (free:∀b o,b∉ch→s.heap.get? b=some o→H b=none→H' b=none)
 (there:∀b o,b∉ch→s.heap.get? b=some o→∃o',h'.get? b=some o')
 (tups:∀b xs,H b=some (.tup xs)→H' b=some (.tup xs)) (frzs:∀b o u,H b=some (.frz o u)→H' b=some (.frz o u)) (tbls:∀b ps,H b=some (.tbl ps)→∃more,H' b=some (.tbl (ps++more)))
 (ns:∀m,s.heap.Ns X.env.locals m→h'.Ns X.env.locals m) (hok:HOk X.prog X.w H' h') (hg:AllBare g'):
 Inv X pins σ H' {s with heap:=h',gens:=g',drawn:=d',toks:=t'}:=by
 have neL:∀b o,X.s₀.heap.get? b=some o→b≠X.env.locals:=fun b o e=>Nat.ne_of_lt (Nat.lt_of_lt_of_le (Heap.lt_size e) I.ok.above)
 have neC:∀b o,X.s₀.heap.get? b=some o→b∉X.ex→b∉ch:=fun b o e hx hb=>by
  rcases (hch b hb).1 with z | z
  · exact hx z
  · exact absurd (Nat.lt_of_lt_of_le (Heap.lt_size e) z) (Nat.lt_irrefl _)
 have cellK:∀x c,X.env.cells.lookup x=some c→∀v,s.heap.IsCell c v→h'.IsCell c v:=fun x c e v ⟨o,ho,hd⟩=>by
  have nch:c∉ch:=fun z=>(hch c z).2.2.1 x c e rfl
  by_cases hc:c∈X.fs
  · obtain ⟨sl,q⟩:=slot c o (I.cne x c e) hc nch ho (I.freeC x c e)
    exact ⟨_,q,hd⟩
  · exact ⟨o,keep c o (I.cne x c e) hc nch ho (I.freeC x c e),hd⟩
 refine ⟨I.ok,I.os,hg,⟨fun b o e n hb hx=>?_,fun b o e n hb hx=>?_,fun b o e n hx=>?_,fun b o e hx=>?_,fun b xs e=>tups b xs (I.base.tups b xs e),fun b o xs e=>frzs b o xs (I.base.frzs b o xs e),fun b ps e=>?_⟩,?_,fun x c e=>?_,?_,fun x c e=>?_,fun p hp=>?_,hok,I.len⟩
 · exact keep b o (neL b o e) hb (neC b o e hx) (I.base.keep b o e n hb hx) (I.base.free b o e n hx)
 · obtain ⟨sl,e1⟩:=I.base.slot b o e n hb hx
   obtain ⟨sl',e2⟩:=slot b _ (neL b o e) hb (neC b o e hx) e1 (I.base.free b o e n hx)
   exact ⟨sl',e2⟩
 · obtain ⟨o',e1⟩:=I.base.there b o e hx
   exact free b o' (neC b o e hx) e1 (I.base.free b o e n hx)
 · obtain ⟨o',e1⟩:=I.base.there b o e hx
   exact there b o' (neC b o e hx) e1
 · obtain ⟨m1,e1⟩:=I.base.tbls b ps e
   obtain ⟨m2,e2⟩:=tbls b _ e1
   exact ⟨m1++m2,by rw [e2,Array.append_assoc]⟩
 · obtain ⟨m,hn,hl⟩:=I.loc
   refine ⟨m,ns m hn,fun i x v e1 e2 e3=>?_⟩
   obtain ⟨u,r,l⟩:=hl i x v e1 e2 e3
   refine ⟨u,r,?_⟩
   rcases l with l | ⟨k,c,e,z⟩
   · exact .inl l
   · exact .inr ⟨k,c,e,cellK x c e _ z⟩
 · obtain ⟨v,z⟩:=I.cell x c e
   exact ⟨v,cellK x c e v z⟩
 · obtain ⟨m,⟨o,_,_,ho,_⟩,_⟩:=I.loc
   exact free _ o (fun z=>(hch _ z).2.1 rfl) ho I.free
 · obtain ⟨v,o,ho,hd⟩:=I.cell x c e
   exact free c o (fun z=>(hch c z).2.2.1 x c e rfl) ho (I.freeC x c e)
 · obtain ⟨e,n,ne,nf,d⟩:=I.pin p hp
   have nch:p.1∉ch:=fun z=>(hch p.1 z).2.2.2 p hp rfl
   exact ⟨keep p.1 p.2 ne nf nch e n,free p.1 p.2 nch e n,ne,nf,d⟩
theorem Inv.un{t':Nat}(I:Inv X pins σ H s)(u:Un X.fs [] H H' s.heap h')(hok:HOk X.prog X.w H' h'):Inv X pins σ H' {s with heap:=h',toks:=t'}:=by
 obtain ⟨m,⟨o,es,ep,ho,r⟩,_⟩:=id I.loc
 obtain ⟨sl,hL⟩:=u.any ho I.free (by simp)
 exact I.step (g':=s.gens) (d':=s.drawn) (ch:=[]) (fun _ z=>nomatch z) (fun b o _ hb _ e n=>u.keep b o e n hb (by simp)) (fun b o _ hb _ e n=>u.slot b o e n hb (by simp)) (fun b o _ e n=>u.free b o e n (by simp)) (fun b o _ e=>u.there b o e (by simp)) u.tups u.frzs u.tbls (fun m' hm=>by
  obtain ⟨o',es',ep',ho',r'⟩:=hm
  rw [ho]at ho';cases ho'
  exact ⟨_,es',ep',hL,r'⟩) hok I.bare
theorem Inv.call{g':Array GenState}{t':Nat}{d':Drawn}{ch:List Addr}(I:Inv X pins σ H s)(u:Un (frs X.stack) ch H H' s.heap h')(hok:HOk X.prog X.w H' h')(hg:AllBare g')
 (hch:∀b∈ch,(b∈X.ex∨X.s₀.heap.objs.size≤b)∧b≠X.env.locals∧(∀x c,X.env.cells.lookup x=some c→c≠b)∧∀p∈X.pn++pins,p.1≠b):
 Inv X pins σ H' {s with heap:=h',gens:=g',drawn:=d',toks:=t'}:=by
 obtain ⟨m,⟨o,es,ep,ho,r⟩,_⟩:=id I.loc
 obtain ⟨sl,hL⟩:=u.any ho I.free fun z=>(hch _ z).2.1 rfl
 exact I.step (ch:=ch) hch (fun b o hL hb hc e n=>u.keep b o e n (fun z=>(List.mem_cons.mp (I.stkSub b z)).elim hL hb) hc) (fun b o _ _ hc e n=>u.any e n hc) (fun b o hc e n=>u.free b o e n hc) (fun b o hc e=>u.there b o e hc) u.tups u.frzs u.tbls (fun m' hm=>by
  obtain ⟨o',es',ep',ho',r'⟩:=hm
  rw [ho]at ho';cases ho'
  exact ⟨_,es',ep',hL,r'⟩) hok hg
theorem Inv.turned{t':Nat}{it:Addr}(I:Inv X pins σ H s)(k:∀b o,b≠it→s.heap.get? b=some o→h'.get? b=some o)(hn:H it=none)(hL:it≠X.env.locals)
 (h1:it∈X.ex∨X.s₀.heap.objs.size≤it) (h2:∀x c,X.env.cells.lookup x=some c→c≠it) (h3:∀p∈X.pn++pins,p.1≠it):Inv X pins σ H {s with heap:=h',toks:=t'}:=by
 have nit:∀b u,H b=some u→b≠it:=fun b u e z=>by rw [z,hn]at e;cases e
 refine I.step (g':=s.gens) (d':=s.drawn) (ch:=[it]) (fun b hb=>?_) (fun b o _ _ hc e _=>k b o (fun z=>hc (by simp [z])) e) (fun b o _ _ hc e _=>⟨o.slots,k b o (fun z=>hc (by simp [z])) e⟩) (fun _ _ _ _ n=>n)
  (fun b o hc e=>⟨o,k b o (fun z=>hc (by simp [z])) e⟩) (fun _ _ e=>e) (fun _ _ _ e=>e) (fun b ps e=>⟨#[],by rw [e];simp⟩) (fun m hm=>?_) (fun b u e=>?_) I.bare
 · have e:b=it:=by simpa using hb
   subst e
   exact ⟨h1,hL,h2,h3⟩
 · obtain ⟨o,es,ep,ho,r⟩:=hm
   exact ⟨o,es,ep,k _ o (Ne.symm hL) ho,r⟩
 · refine (I.hok b u e).stay (fun c v hc q=>k c v ?_ q) (fun _ q=>q) fun _ _ q=>q
   rcases hc with z | z
   · rw [z];exact nit b u e
   · exact nit c _ z
theorem Inv.tok(I:Inv X pins σ H s)(t:Nat):Inv X pins σ H {s with toks:=t}:=I.un (h':=s.heap) (t':=t) Un.refl I.hok
theorem Inv.kept{t':Nat}(I:Inv X pins σ H s)(k:∀b u,s.heap.get? b=some u→h'.get? b=some u):Inv X pins σ H {s with heap:=h',toks:=t'}:=I.un (Un.kept k) (I.hok.kept k)
theorem Inv.laid{a:Addr}{o:HO}{t':Nat}(I:Inv X pins σ H s)(k:∀b u,s.heap.get? b=some u→h'.get? b=some u)(hp:s.heap.objs.size≤a)(new:ObjOk X.prog X.w (upd H a o) h' a o):
 Inv X pins σ (upd H a o) {s with heap:=h',toks:=t'}:=I.un (Un.laid k hp (I.hok.fresh hp)) (I.hok.laid k hp new)
theorem Inv.write{x e:Addr}{o:HO}{t':Nat}(I:Inv X pins σ H s)(mu:Mut (H x))(he:e=x∨H e=some (.own x))(k:∀b u,b≠e→s.heap.get? b=some u→h'.get? b=some u)(heo:∃u,h'.get? e=some u)
 (new:ObjOk X.prog X.w (upd H x o) h' x o):Inv X pins σ (upd H x o) {s with heap:=h',toks:=t'}:=I.un (Un.write mu he k heo) (I.hok.write mu he k heo new)
theorem Inv.weak{σ':List (Option V)}(I:Inv X pins σ H s)(hl:σ'.length=σ.length)(w:∀(i:Nat) v,σ'[i]?=some (some v)→σ[i]?=some (some v)):Inv X pins σ' H s:=
 ⟨I.ok,I.os,I.bare,I.base,let ⟨m,hn,hl'⟩:=I.loc;⟨m,hn,fun i x v e1 e2 e3=>hl' i x v e1 (w i v e2) e3⟩,I.cell,I.free,I.freeC,I.pin,I.hok,hl.trans I.len⟩
theorem Inv.pins_of{pins':List (Addr×Obj)}(I:Inv X pins σ H s)(h:∀p∈pins',s.heap.get? p.1=some p.2∧H p.1=none∧p.1≠X.env.locals∧p.1∉X.fs∧∀v,p.2.data≠ .cell v):Inv X pins' σ H s:=
 ⟨I.ok,I.os,I.bare,I.base,I.loc,I.cell,I.free,I.freeC,fun p hp=>(List.mem_append.mp hp).elim (fun z=>I.pin p (List.mem_append_left _ z)) (h p),I.hok,I.len⟩
theorem nodup_ix{N:List Str}(hN:N.Nodup){i j:Nat}{x:Str}(a:N[i]?=some x)(b:N[j]?=some x):i=j:=by
 obtain ⟨h1,e1⟩:=List.getElem?_eq_some_iff.mp a
 obtain ⟨h2,e2⟩:=List.getElem?_eq_some_iff.mp b
 exact (List.getElem_inj hN).mp (e1.trans e2.symm)
theorem store_ok2{M:Model}{A:Around}{E:Value→Shared→Prop}{i:Nat}{x:Str}{v:V}{u:Value}{Q:Unit→Shared→Prop}(I:Inv X pins σ H s)(hN:X.N.Nodup)(hi:X.N[i]?=some x)(hx:Loc X.env.scope x)(r:RelV v u)
 (h:∀s',Inv X pins (σ.set i (some v)) H s'→(∃a,Heap.SameBut a s.heap s'.heap∧(a=X.env.locals∨X.env.cells.lookup x=some a))→Q () s') (hf:X.fn x=true∨X.env.scope.names.lookup x=some .local:=by first | exact .inl rfl | exact .inr rfl | assumption):wpAny M A (storeName X.env x u) Q E s:=by
 obtain ⟨m,hn,hl⟩:=id I.loc
 have hcls:(X.env.scope.kind== .class || (X.env.scope.kind== .module && X.env.locals !=X.env.globals))=false:=by rw [I.ok.kind];rfl
 have hiσ:i < σ.length:=by rw [I.len];exact (List.getElem?_eq_some_iff.mp hi).1
 have cne:=I.cne
 have tracked:∀{a:Addr} {h':Heap},(∃o,s.heap.get? a=some o∧H a=none)→Heap.SameBut a s.heap h'→HOk X.prog X.w H h':=fun {a h'} ha hs b ob e=>by
  obtain ⟨_,_,hfree⟩:=ha
  refine (I.hok b ob e).stay (fun c w' hc q=>(hs.2 c ?_).trans q) (fun _ q=>q) fun _ _ q=>q
  rintro rfl
  rcases hc with rfl | hc
  · rw [hfree]at e;cases e
  · rw [hfree]at hc;cases hc
 rcases hx with hk | hk
 · refine wpAny_storeName_local hk hn (fun h' hn' hs=>?_) hcls
   obtain ⟨oL,_,_,hoL,_⟩:=id hn
   refine h _ ⟨I.ok,I.os,I.bare,⟨fun b o e n hb hx=>?_,fun b o e n hb hx=>?_,I.base.free,fun b o e hx=>?_,I.base.tups,I.base.frzs,I.base.tbls⟩,⟨_,hn',fun j y v' e1 e2 e3=>?_⟩,fun y c e=>?_,I.free,I.freeC,fun p hp=>?_,tracked ⟨oL,hoL,I.free⟩ hs,by simpa using I.len⟩ ⟨_,hs,.inl rfl⟩
   · exact (hs.2 b (Nat.ne_of_lt (Nat.lt_of_lt_of_le (Heap.lt_size e) I.ok.above))).trans (I.base.keep b o e n hb hx)
   · obtain ⟨sl,e1⟩:=I.base.slot b o e n hb hx
     exact ⟨sl,(hs.2 b (Nat.ne_of_lt (Nat.lt_of_lt_of_le (Heap.lt_size e) I.ok.above))).trans e1⟩
   · obtain ⟨o',e1⟩:=I.base.there b o e hx
     exact ⟨o',(hs.2 b (Nat.ne_of_lt (Nat.lt_of_lt_of_le (Heap.lt_size e) I.ok.above))).trans e1⟩
   · by_cases hj:j=i
     · subst hj
       rw [hi]at e1;cases e1
       rw [List.getElem?_set_self hiσ]at e2
       cases e2
       exact ⟨u,r,.inl ⟨hk,by simp⟩⟩
     · rw [List.getElem?_set_ne (Ne.symm hj)]at e2
       obtain ⟨u',r',q⟩:=hl j y v' e1 e2 e3
       refine ⟨u',r',?_⟩
       rcases q with ⟨k,e⟩ | ⟨k,c,e,z⟩
       · refine .inl ⟨k,?_⟩
         have:y≠x:=fun e=>hj (nodup_ix hN e1 (e▸hi))
         simp [this,e]
       · exact .inr ⟨k,c,e,z.sameBut hs (cne y c e)⟩
   · obtain ⟨w',z⟩:=I.cell y c e
     exact ⟨w',z.sameBut hs (cne y c e)⟩
   · obtain ⟨e,n,ne,nf,d⟩:=I.pin p hp
     exact ⟨(hs.2 p.1 ne).trans e,n,ne,nf,d⟩
 · have hfn:X.fn x=true:=by
    rcases hf with z | z
    · exact z
    · rw [z]at hk;cases hk
   obtain ⟨c,hc⟩:=I.ok.has x (.inl hk)
   obtain ⟨w',z⟩:=I.cell x c hc
   refine wpAny_storeName_cell I.ok.kind hk hc z (fun h' hc' hs=>?_)
   obtain ⟨oc,hoc,hocd⟩:=id z
   refine h {s with heap:=h'} ⟨I.ok,I.os,I.bare,⟨fun b o e n hb hx=>?_,fun b o e n hb hx=>?_,I.base.free,fun b o e hx=>?_,I.base.tups,I.base.frzs,I.base.tbls⟩,⟨m,hn.sameBut hs (Ne.symm (cne x c hc)),fun j y v' e1 e2 e3=>?_⟩,fun y c' e=>?_,I.free,I.freeC,fun p hp=>?_,tracked ⟨oc,hoc,I.freeC x c hc⟩ hs,by simpa using I.len⟩ ⟨c,hs,.inr hc⟩
   · exact (hs.2 b (Nat.ne_of_lt (Nat.lt_of_lt_of_le (Heap.lt_size e) (I.ok.cab x c hfn hc)))).trans (I.base.keep b o e n hb hx)
   · obtain ⟨sl,e1⟩:=I.base.slot b o e n hb hx
     exact ⟨sl,(hs.2 b (Nat.ne_of_lt (Nat.lt_of_lt_of_le (Heap.lt_size e) (I.ok.cab x c hfn hc)))).trans e1⟩
   · obtain ⟨o',e1⟩:=I.base.there b o e hx
     exact ⟨o',(hs.2 b (Nat.ne_of_lt (Nat.lt_of_lt_of_le (Heap.lt_size e) (I.ok.cab x c hfn hc)))).trans e1⟩
   · by_cases hj:j=i
     · subst hj
       rw [hi]at e1;cases e1
       rw [List.getElem?_set_self hiσ]at e2
       cases e2
       exact ⟨u,r,.inr ⟨.inl hk,c,hc,hc'⟩⟩
     · rw [List.getElem?_set_ne (Ne.symm hj)]at e2
       obtain ⟨u',r',q⟩:=hl j y v' e1 e2 e3
       refine ⟨u',r',?_⟩
       rcases q with q | ⟨k,c',e,z'⟩
       · exact .inl q
       · refine .inr ⟨k,c',e,z'.sameBut hs ?_⟩
         rintro rfl
         exact hj (nodup_ix hN e1 (I.ok.inj _ _ _ e hc▸hi))
   · by_cases hcc:c'=c
     · subst hcc;exact ⟨_,hc'⟩
     · obtain ⟨w2,z2⟩:=I.cell y c' e
       exact ⟨w2,z2.sameBut hs hcc⟩
   · obtain ⟨e,n,ne,nf,d⟩:=I.pin p hp
     refine ⟨(hs.2 p.1 ?_).trans e,n,ne,nf,d⟩
     intro q
     rw [q,hoc]at e
     have q':oc=p.2:=Option.some.inj e
     exact d w' (by rw [← q'];exact hocd)
theorem store_ok{M:Model}{A:Around}{E:Value→Shared→Prop}{i:Nat}{x:Str}{v:V}{u:Value}{Q:Unit→Shared→Prop}(I:Inv X pins σ H s)(hN:X.N.Nodup)(hi:X.N[i]?=some x)(hx:Loc X.env.scope x)(r:RelV v u)
 (h:∀s',Inv X pins (σ.set i (some v)) H s'→Q () s') (hf:X.fn x=true∨X.env.scope.names.lookup x=some .local:=by first | exact .inl rfl | exact .inr rfl | assumption):wpAny M A (storeName X.env x u) Q E s:=
 store_ok2 I hN hi hx r (fun s' I' _=>h s' I') hf
theorem Inv.call'{s':Shared}{ch:List Addr}(I:Inv X pins σ H s)(ho:s'.os=s.os)(u:Un (frs X.stack) ch H H' s.heap s'.heap)(hok:HOk X.prog X.w H' s'.heap)(hg:AllBare s'.gens)
 (hch:∀b∈ch,(b∈X.ex∨X.s₀.heap.objs.size≤b)∧b≠X.env.locals∧(∀x c,X.env.cells.lookup x=some c→c≠b)∧∀p∈X.pn++pins,p.1≠b):Inv X pins σ H' s':=by
 obtain ⟨h',g',d',t',o'⟩:=s'
 have e:o'=s.os:=ho
 subst e
 exact I.call (g':=g') (t':=t') (d':=d') u hok hg hch
end
noncomputable abbrev XK:=Value→Option Addr→Hp→Prop
noncomputable abbrev St:=List (Option V)
noncomputable abbrev VK:=V→Hp→Prop
noncomputable abbrev TE:=St→Hp→VK→Prop
noncomputable abbrev TT:=St→Hp→(Bool→Hp→Prop)→Prop
noncomputable abbrev TA:=St→Hp→(List V→Hp→Prop)→Prop
structure Ends where
 nx:St→Hp→Prop
 rt:VK
 bk:St→Hp→Prop:=fun _ _=>False
 ct:St→Hp→Prop:=fun _ _=>False
noncomputable abbrev TS:=Ends→St→Hp→Prop
noncomputable def EP(X:Cx)(pins:List (Addr×Obj))(σ:St)(Q:VK)(u:Value)(s':Shared):Prop:=∃v H',Inv X pins σ H' s'∧RelV v u∧Q v H'
noncomputable def TP(X:Cx)(pins:List (Addr×Obj))(σ:St)(Q:Bool→Hp→Prop)(b:Bool)(s':Shared):Prop:=∃H',Inv X pins σ H' s'∧Q b H'
noncomputable def AP(X:Cx)(pins:List (Addr×Obj))(σ:St)(Q:List V→Hp→Prop)(us:List Value)(s':Shared):Prop:=∃vs H',Inv X pins σ H' s'∧Vals vs us∧Q vs H'
noncomputable def SP(X:Cx)(pins:List (Addr×Obj))(D:Ends)(f:Flow)(s':Shared):Prop:=
 match f with
 | .next=>∃σ' H',Inv X pins σ' H' s'∧D.nx σ' H'
 | .brk=>∃σ' H',Inv X pins σ' H' s'∧D.bk σ' H'
 | .cont=>∃σ' H',Inv X pins σ' H' s'∧D.ct σ' H'
 | .ret u=>∃v σ' H',Inv X pins σ' H' s'∧RelV v u∧D.rt v H'
noncomputable def PE(X:Cx)(e:Expr)(t:TE):Prop:=
 ∀(pins:List (Addr×Obj)) (s:Shared) (σ:St) (H:Hp) (Q:VK),Inv X pins σ H s→t σ H Q→wpAny (model X.prog X.w) X.A (eval e X.env) (EP X pins σ Q) X.xe s
noncomputable def PT(X:Cx)(e:Expr)(t:TT):Prop:=
 ∀(pins:List (Addr×Obj)) (s:Shared) (σ:St) (H:Hp) (Q:Bool→Hp→Prop),Inv X pins σ H s→t σ H Q→wpAny (model X.prog X.w) X.A (isTrue e X.env (eval e X.env)) (TP X pins σ Q) X.xe s
noncomputable def PW(X:Cx)(e:Expr)(t:TT):Prop:=
 ∀(whole:Sem Value) (pins:List (Addr×Obj)) (s:Shared) (σ:St) (H:Hp) (Q:Bool→Hp→Prop),Inv X pins σ H s→t σ H Q→wpAny (model X.prog X.w) X.A (isTrue e X.env whole) (TP X pins σ Q) X.xe s
theorem PW.pt{X:Cx}{e:Expr}{t:TT}(h:PW X e t):PT X e t:=h _
noncomputable def PA(X:Cx)(es:List Expr)(t:TA):Prop:=
 ∀(pos:Pos) (pins:List (Addr×Obj)) (s:Shared) (σ:St) (H:Hp) (Q:List V→Hp→Prop),Inv X pins σ H s→t σ H Q→wpAny (model X.prog X.w) X.A (spliced (backTo pos (starEach es X.env))) (AP X pins σ Q) X.xe s
noncomputable def PS(X:Cx)(st:Stmt)(t:TS):Prop:=
 ∀(pins:List (Addr×Obj)) (s:Shared) (σ:St) (H:Hp) (D:Ends),Inv X pins σ H s→t D σ H→wpAny (model X.prog X.w) X.A (exec st X.env) (SP X pins D) X.xe s
noncomputable def PSs(X:Cx)(st:List Stmt)(t:TS):Prop:=
 ∀(pins:List (Addr×Obj)) (s:Shared) (σ:St) (H:Hp) (D:Ends),Inv X pins σ H s→t D σ H→wpAny (model X.prog X.w) X.A (execs st X.env) (SP X pins D) X.xe s
theorem thn{α:Type}{t:Sem α}{Q Q':α→Shared→Prop}{M:Model}{A:Around}{E:Value→Shared→Prop}{s:Shared}(h:wpAny M A t Q E s)(hQ:∀a s,Q a s→Q' a s):wpAny M A t Q' E s:=wpAny_mono h hQ fun _ _ x=>x
end L2
namespace L2
section
variable {X:Cx}
noncomputable def tVar(i:Nat):TE:=fun σ H Q=>∃v,σ[i]?=some (some v)∧Q v H
noncomputable def tC(v:V):TE:=fun _ H Q=>Q v H
theorem pe_var{i:Nat}{x:Str}{pos:Pos}(hN:X.N[i]?=some x)(hv:Vis X.env.scope x)(hd:(x==("__debug__":Str))=false:=by decide)(hcd:(x==("__classdict__":Str))=false:=by decide):PE X (.Name x pos) (tVar i):=by
 intro pins s σ H Q I h
 obtain ⟨v,e,h⟩:=h
 obtain ⟨m,hn,hl⟩:=I.loc
 obtain ⟨u,r,l⟩:=hl i x v hN e hv
 have fin:EP X pins σ Q u s:=⟨v,H,I,r,h⟩
 rcases l with ⟨hk,hm⟩ | ⟨hk,c,hc,hcell⟩
 · exact wpAny_Name (wpAny_loadName_local I.ok.kind hk hn hm fin) hd
 · rcases hk with hk | hk
   · exact wpAny_Name (wpAny_loadName_cell I.ok.kind hk hc hcell fin) hd
   · exact wpAny_Name (wpAny_loadName_free I.ok.kind hk hc hcell fin hcd) hd
theorem pe_int{i j pos}:PE X (.Constant (.int i) j pos) (tC (.int i)):=fun _ _ _ H _ I h=>wpAny_Constant_int ⟨.int i,H,I.tok _,⟨_,rfl⟩,h⟩
theorem pe_bl{b j pos}:PE X (.Constant (.bool b) j pos) (tC (.bl b)):=fun _ _ _ H _ I h=>Constant_bool ⟨.bl b,H,I,rfl,h⟩
theorem pe_str{x j pos}:PE X (.Constant (.str x) j pos) (tC (.str x)):=fun _ _ _ H _ I h=>Calls.Constant_str ⟨.str x,H,I.tok _,⟨_,rfl⟩,h⟩
noncomputable def Gl(X:Cx)(x:Str):Prop:=X.env.kindOf x=some .globalImplicit
theorem ld_glob{E:Value→Shared→Prop}{pins:List (Addr×Obj)}{s:Shared}{σ:St}{H:Hp}{x:Str}{u:Value}{pos:Pos}{Q:Value→Shared→Prop}(I:Inv X pins σ H s)(hg:Gl X x)(hm:X.mg x=some u)(h:Q u s)
 (hd:(x==("__debug__":Str))=false:=by decide):wpAny (model X.prog X.w) X.A (eval (.Name x pos) X.env) Q E s:=
 Calls.Name_function_global I.ok.kind hg (Calls.loadGlobal_global (by rw [I.ok.glob];exact I.mod.glob.keeps I.bk) hm h) hd
theorem ld_blt{E:Value→Shared→Prop}{pins:List (Addr×Obj)}{s:Shared}{σ:St}{H:Hp}{x:Str}{u:Value}{pos:Pos}{Q:Value→Shared→Prop}(I:Inv X pins σ H s)(hg:Gl X x)(hm:X.mg x=none)(hv:bootBuiltins x=some u)(h:Q u s)
 (hn:x≠"__name__":=by decide) (hd:(x==("__debug__":Str))=false:=by decide):wpAny (model X.prog X.w) X.A (eval (.Name x pos) X.env) Q E s:=by
 obtain ⟨mb,h1,h2⟩:=I.mod.blt
 exact Calls.Name_function_global I.ok.kind hg (Calls.loadGlobal_builtin (by rw [I.ok.glob];exact I.mod.glob.keeps I.bk) hm (by rw [I.ok.blt];exact h1.keeps I.bk) ((h2 x hn).trans hv) h) hd
theorem pe_glob{x:Str}{v:V}{u:Value}{pos:Pos}(hg:Gl X x)(hm:X.mg x=some u)(r:RelV v u)(hd:(x==("__debug__":Str))=false:=by decide):PE X (.Name x pos) (tC v):=
 fun _ _ _ H _ I h=>ld_glob I hg hm ⟨v,H,I,r,h⟩ hd
theorem pe_bltn{x:Str}{v:V}{u:Value}{pos:Pos}(hg:Gl X x)(hm:X.mg x=none)(hv:bootBuiltins x=some u)(r:RelV v u)(hn:x≠"__name__":=by decide)(hd:(x==("__debug__":Str))=false:=by decide):PE X (.Name x pos) (tC v):=
 fun _ _ _ H _ I h=>ld_blt I hg hm hv ⟨v,H,I,r,h⟩ hn hd
variable {a b:Expr} {ta tb:TE} {pos:Pos}
noncomputable def PC(X:Cx)(op:CmpOp)(a b:Expr)(t:TE):Prop:=
 ∀(pins:List (Addr×Obj)) (s:Shared) (σ:St) (H:Hp) (Q:VK),Inv X pins σ H s→t σ H Q→
   wpAny (model X.prog X.w) X.A (eval a X.env) (fun v s₁=>wpAny (model X.prog X.w) X.A (eval b X.env) (fun u s₂=>wpAny (model X.prog X.w) X.A (compareOp op v u) (EP X pins σ Q) X.xe s₂) X.xe s₁) X.xe s
theorem nobehind(b:Expr){op:CmpOp}(h:op≠ .In)(h2:op≠ .NotIn):behindInMarks op b=false:=by
 have e1:(op==CmpOp.In)=false:=by cases op <;> first | rfl | exact absurd rfl h
 have e2:(op==CmpOp.NotIn)=false:=by cases op <;> first | rfl | exact absurd rfl h2
 cases b <;> simp [behindInMarks,e1,e2]
noncomputable def tB(t:TE):TT:=fun σ H Q=>t σ H fun x H1=>∃c,x= .bl c∧Q c H1
theorem pe_cmp{op:CmpOp}{t:TE}(h:PC X op a b t)(h1:behindInMarks op b=false:=by first | exact nobehind _ (by decide) (by decide) | rfl):PE X (.Compare a [op] [b] pos) t:=fun pins s σ H Q I hw=>wpAny_Compare1 (h pins s σ H Q I hw) h1
theorem pt_cmp{op:CmpOp}{t:TE}(h:PC X op a b t)(h1:behindInMarks op b=false:=by first | exact nobehind _ (by decide) (by decide) | rfl):PT X (.Compare a [op] [b] pos) (tB t):=by
 intro pins s σ H Q I hw
 refine wpAny_isTrue_Compare1 (thn (h pins s σ H _ I hw) fun v s1 h1=>thn h1 fun u s2 h2=>thn h2 fun c s3 hq_=>?_) h1
 obtain ⟨x,H1,I1,r1,q1⟩:=hq_
 obtain ⟨d,rfl,q⟩:=q1
 cases r1
 exact wpAny_truthy_bool ⟨H1,I1,q⟩
theorem pt_val{e:Expr}{t:TE}(h:PE X e t)(he:∀whole,isTrue e X.env whole=(do let v ← whole;standAt e.pos;holding [v] (truthy v)):=by intro _;rfl):PT X e (tB t):=by
 intro pins s σ H Q I hw
 refine isTrue_plain (thn (h pins s σ H _ I hw) fun v s1 hq_=>?_) (he _)
 obtain ⟨x,H1,I1,r1,q1⟩:=hq_
 obtain ⟨d,rfl,q⟩:=q1
 cases r1
 exact wpAny_truthy_bool ⟨H1,I1,q⟩
variable {tA tB':TT} {rest:List Expr}
noncomputable def tAnd(t u:TT):TT:=fun σ H Q=>t σ H fun c H1=>if c=true then u σ H1 Q else Q false H1
noncomputable def tOr(t u:TT):TT:=fun σ H Q=>t σ H fun c H1=>if c=true then Q true H1 else u σ H1 Q
noncomputable def tNot(t:TT):TT:=fun σ H Q=>t σ H fun c H1=>Q (!c) H1
theorem pw_and1(ha:PT X a tA):PW X (.BoolOp .And [a] pos) tA:=by
 intro wh pins s σ H Q I h
 refine isTrue_and (thn (ha pins s σ H Q I h) fun c s1 e=>?_)
 cases c with
 | true=>exact isTrue_and_nil e
 | false=>exact e
theorem pw_or1(ha:PT X a tA):PW X (.BoolOp .Or [a] pos) tA:=by
 intro wh pins s σ H Q I h
 refine isTrue_or (thn (ha pins s σ H Q I h) fun c s1 e=>?_)
 cases c with
 | false=>exact isTrue_or_nil e
 | true=>exact e
theorem pw_and(ha:PT X a tA)(hb:PW X (.BoolOp .And (b::rest) pos) tB'):PW X (.BoolOp .And (a::b::rest) pos) (tAnd tA tB'):=by
 intro wh pins s σ H Q I h
 refine isTrue_and (thn (ha pins s σ H _ I h) fun c s1 ⟨H1,I1,q1⟩=>?_)
 cases c with
 | true=>exact hb wh pins s1 σ H1 Q I1 q1
 | false=>exact ⟨H1,I1,q1⟩
theorem pw_or(ha:PT X a tA)(hb:PW X (.BoolOp .Or (b::rest) pos) tB'):PW X (.BoolOp .Or (a::b::rest) pos) (tOr tA tB'):=by
 intro wh pins s σ H Q I h
 refine isTrue_or (thn (ha pins s σ H _ I h) fun c s1 ⟨H1,I1,q1⟩=>?_)
 cases c with
 | true=>exact ⟨H1,I1,q1⟩
 | false=>exact hb wh pins s1 σ H1 Q I1 q1
theorem pt_not(ha:PT X a tA):PT X (.UnaryOp .Not a pos) (tNot tA):=by
 intro pins s σ H Q I h
 exact isTrue_not (ha pins s σ H (fun c H1=>Q (!c) H1) I h)
noncomputable def tAndV(ta tb:TE):TE:=fun σ H Q=>ta σ H fun x H1=>∃c,x= .bl c∧if c=true then tb σ H1 Q else Q (.bl false) H1
noncomputable def tOrV(ta tb:TE):TE:=fun σ H Q=>ta σ H fun x H1=>∃c,x= .bl c∧if c=true then Q (.bl true) H1 else tb σ H1 Q
noncomputable def tNotV(ta:TE):TE:=fun σ H Q=>ta σ H fun x H1=>∃c,x= .bl c∧Q (.bl (!c)) H1
theorem pe_one{op}{t:TE}(h:PE X a t):PE X (.BoolOp op [a] pos) t:=fun pins s σ H Q I hw=>BoolOp_one (h pins s σ H Q I hw)
theorem pe_and(ha:PE X a ta)(hb:PE X (.BoolOp .And (b::rest) pos) tb):PE X (.BoolOp .And (a::b::rest) pos) (tAndV ta tb):=by
 intro pins s σ H Q I h
 refine BoolOp_and (thn (ha pins s σ H _ I h) fun v s1 hq_=>?_)
 obtain ⟨x,H1,I1,r1,q1⟩:=hq_
 obtain ⟨c,rfl,q1⟩:=q1
 cases r1
 refine wpAny_truthy_bool ?_
 cases c with
 | true=>exact hb pins s1 σ H1 Q I1 q1
 | false=>exact ⟨.bl false,H1,I1,rfl,q1⟩
theorem pe_not(ha:PE X a ta):PE X (.UnaryOp .Not a pos) (tNotV ta):=by
 intro pins s σ H Q I h
 refine UnaryOp_ (thn (ha pins s σ H _ I h) fun v s1 hq_=>?_)
 obtain ⟨x,H1,I1,r1,q1⟩:=hq_
 obtain ⟨c,rfl,q1⟩:=q1
 cases r1
 exact not_of (wpAny_truthy_bool ⟨.bl (!c),H1,I1,rfl,q1⟩)
noncomputable def tIf(t:TT)(ta tb:TE):TE:=fun σ H Q=>t σ H fun c H1=>if c=true then ta σ H1 Q else tb σ H1 Q
end
end L2
namespace L2
noncomputable def SqL(K:PySem.W.Frag)(H:Hp)(a:Addr)(xs:List V):Prop:=
 Rd H a (.lst xs)∨
  ∃(o:Obj) (its:Array Value) (n:Nat),K.lookup a=some o∧o.cls= .type "list"∧o.dict=none∧o.data= .seq its n∧its.size≤sizeLine∧Vals xs its.toList
noncomputable def SqT(K:PySem.W.Frag)(H:Hp)(a:Addr)(xs:List V):Prop:=
 Rd H a (.tup xs)∨
  ∃(o:Obj) (its:Array Value) (n:Nat),K.lookup a=some o∧o.cls= .type "tuple"∧o.data= .seq its n∧its.size≤sizeLine∧Vals xs its.toList
noncomputable def absV:Value→Option V
 | .none=>some .non
 | .bool b=>some (.bl b)
 | .int i _=>some (.int i)
 | .str x _=>some (.str x)
 | .bytes b _=>some (.byt b)
 | .float b _=>some (.flt b)
 | .ref a=>some (.ref a)
 | .type n=>some (.ty n)
 | _=>none
theorem RelV.abs{x:V}{u:Value}(r:RelV x u):absV u=some x:=by
 cases x with
 | non=>cases r;rfl
 | bl _=>cases r;rfl
 | int _=>obtain ⟨t,rfl⟩:=r;rfl
 | str _=>obtain ⟨t,rfl⟩:=r;rfl
 | byt _=>obtain ⟨t,rfl⟩:=r;rfl
 | flt _=>obtain ⟨t,rfl⟩:=r;rfl
 | ref _=>cases r;rfl
 | ty _=>cases r;rfl
theorem RelV.inj{x y:V}{u:Value}(r:RelV x u)(q:RelV y u):x=y:=Option.some.inj (r.abs.symm.trans q.abs)
theorem Vals.inj:∀{xs ys:List V} {us:List Value},Vals xs us→Vals ys us→xs=ys
 | _,_,_,.nil,.nil=>rfl
 | _,_,_,.cons r t,.cons r' t'=>by rw [r.inj r',Vals.inj t t']
section
variable {X:Cx} {pins:List (Addr×Obj)} {σ:St} {H:Hp} {s:Shared} {a:Addr} {xs ys:List V}
theorem SqL.of{K:PySem.W.Frag}(h:H a=some (.lst xs)):SqL K H a xs:= .inl (.inl h)
theorem SqT.of{K:PySem.W.Frag}(h:H a=some (.tup xs)):SqT K H a xs:= .inl (.inl h)
theorem Inv.list(I:Inv X pins σ H s)(h:SqL X.K H a xs):∃its:List Value,Vals xs its∧PlainL s.heap a its.toArray∧xs.length≤sizeLine:=by
 rcases h with h | ⟨o,its,n,hk,hc,hd,hs,hz,r⟩
 · obtain ⟨z,its,n,r,e⟩:=h.ok I.hok
   exact ⟨its,r,⟨_,n,e,rfl,rfl,rfl⟩,z⟩
 · refine ⟨its.toList,r,⟨o,n,I.kIn a o hk,hc,hd,by simpa using hs⟩,?_⟩
   have e:=r.length
   simp only [Array.length_toList]at e
   omega
theorem Inv.tuple(I:Inv X pins σ H s)(h:SqT X.K H a xs):∃its:List Value,Vals xs its∧IsTup s.heap a its.toArray∧xs.length≤sizeLine:=by
 rcases h with h | ⟨o,its,n,hk,hc,hs,hz,r⟩
 · obtain ⟨z,its,r,p⟩:=h.ok I.hok
   exact ⟨its,r,p,z⟩
 · refine ⟨its.toList,r,⟨o,I.kIn a o hk,hc,n,by simpa using hs⟩,?_⟩
   have e:=r.length
   simp only [Array.length_toList]at e
   omega
theorem Inv.list_inj(I:Inv X pins σ H s)(h:SqL X.K H a xs)(h':SqL X.K H a ys):xs=ys:=by
 obtain ⟨its,r,⟨o,n,e,_,_,d⟩,_⟩:=I.list h
 obtain ⟨its',r',⟨o',n',e',_,_,d'⟩,_⟩:=I.list h'
 rw [e]at e';cases e'
 rw [d]at d'
 injection d' with d1 _
 have:its=its':=by simpa using congrArg Array.toList d1
 subst this
 exact r.inj r'
end
noncomputable abbrev Cx.wish(X:Cx)(E:Value→Shared→Prop):Cx:={X with xe:=E}
noncomputable abbrev Cx.nox(X:Cx):Cx:=X.wish fun _ _=>False
theorem Cx.Ok.wish{X:Cx}(ok:X.Ok)(E:Value→Shared→Prop):(X.wish E).Ok:=
 ⟨ok.mod,ok.kind,ok.glob,ok.blt,ok.above,ok.inj,ok.has,ok.cab,ok.hd,ok.frames,ok.stk,ok.exf,ok.bs,ok.bsz,ok.noex,ok.exfs,ok.funs,ok.frf⟩
theorem Cx.Ok.unwish{X:Cx}{E:Value→Shared→Prop}(ok:(X.wish E).Ok):X.Ok:=
 ⟨ok.mod,ok.kind,ok.glob,ok.blt,ok.above,ok.inj,ok.has,ok.cab,ok.hd,ok.frames,ok.stk,ok.exf,ok.bs,ok.bsz,ok.noex,ok.exfs,ok.funs,ok.frf⟩
section
variable {X:Cx} {pins:List (Addr×Obj)} {σ:St} {H:Hp} {s:Shared} {E:Value→Shared→Prop}
theorem Inv.wish(I:Inv X pins σ H s)(E:Value→Shared→Prop):Inv (X.wish E) pins σ H s:=⟨I.ok.wish E,I.os,I.bare,I.base,I.loc,I.cell,I.free,I.freeC,I.pin,I.hok,I.len⟩
theorem Inv.unwish(I:Inv (X.wish E) pins σ H s):Inv X pins σ H s:=⟨I.ok.unwish,I.os,I.bare,I.base,I.loc,I.cell,I.free,I.freeC,I.pin,I.hok,I.len⟩
theorem SP.unwish{D:Ends}{f:Flow}{s':Shared}(h:SP (X.wish E) pins D f s'):SP X pins D f s':=by
 cases f with
 | next=>obtain ⟨σ',H',I,q⟩:=h;exact ⟨σ',H',I.unwish,q⟩
 | brk=>obtain ⟨σ',H',I,q⟩:=h;exact ⟨σ',H',I.unwish,q⟩
 | cont=>obtain ⟨σ',H',I,q⟩:=h;exact ⟨σ',H',I.unwish,q⟩
 | ret u=>obtain ⟨v,σ',H',I,r,q⟩:=h;exact ⟨v,σ',H',I.unwish,r,q⟩
theorem PSs.nox{st:List Stmt}{t:TS}(h:PSs X.nox st t):PSs X st t:=fun pins s σ H D I hw=>
 wpAny_mono (h pins s σ H D (I.wish _) hw) (fun _ _ q=>q.unwish) fun _ _ z=>False.elim z
end
section
variable {X:Cx} {st:Stmt} {rest:List Stmt} {t u:TS} {e:Expr} {te:TE} {pos:Pos}
noncomputable def tNext:TS:=fun D σ H=>D.nx σ H
noncomputable def tSeq(t u:TS):TS:=fun D σ H=>t {D with nx:=u D} σ H
theorem pss_nil:PSs X [] tNext:=fun _ _ σ H _ I h=>wpAny_execs_nil ⟨σ,H,I,h⟩
theorem pss_cons(h1:PS X st t)(h2:PSs X rest u):PSs X (st::rest) (tSeq t u):=by
 intro pins s σ H D I h
 refine wpAny_execs_cons (thn (h1 pins s σ H {D with nx:=u D} I h) fun f s1 q=>?_)
 cases f with
 | next=>
  obtain ⟨σ',H',I',q⟩:=q
  exact h2 pins s1 σ' H' D I' q
 | ret v=>exact q
 | brk=>exact q
 | cont=>exact q
theorem pss_one(h1:PS X st t):PSs X [st] t:=by
 intro pins s σ H D I h
 refine wpAny_execs_cons (thn (h1 pins s σ H D I h) fun f s1 q=>?_)
 cases f with
 | next=>exact wpAny_execs_nil q
 | ret v=>exact q
 | brk=>exact q
 | cont=>exact q
noncomputable def tBreak:TS:=fun D σ H=>D.bk σ H
noncomputable def tCont:TS:=fun D σ H=>D.ct σ H
theorem ps_pass:PS X (.Pass pos) tNext:=fun _ _ σ H _ I h=>wpAny_Pass ⟨σ,H,I,h⟩
theorem Inv.quiet{pins:List (Addr×Obj)}{σ:St}{H:Hp}{s:Shared}(I:Inv X pins σ H s):interactive X.env=false:=by simp [interactive,I.ok.kind]
noncomputable def tDrop(te:TE):TS:=fun D σ H=>te σ H fun _ H1=>D.nx σ H1
theorem ps_expr(he:PE X e te)(hs:swapsWith e none pos.line X.env=pure false:=by rfl):PS X (.Expr e pos) (tDrop te):=by
 intro pins s σ H D I h
 exact wpAny_Expr_any (thn (he pins s σ H _ I h) fun v s1 ⟨x,H1,I1,r1,q1⟩=>⟨σ,H1,I1,q1⟩) I.quiet hs
noncomputable def tRet(te:TE):TS:=fun D σ H=>te σ H D.rt
theorem ps_ret(he:PE X e te):PS X (.Return (some e) pos) (tRet te):=by
 intro pins s σ H D I h
 exact wpAny_Return_some (thn (he pins s σ H _ I h) fun v s1 ⟨x,H1,I1,r1,q1⟩=>⟨x,σ,H1,I1,r1,q1⟩)
noncomputable def tRetN:TS:=fun D _ H=>D.rt .non H
noncomputable def tIfS(c:TT)(t u:TS):TS:=fun D σ H=>c σ H fun b H1=>if b=true then t D σ H1 else u D σ H1
theorem ps_if{c:Expr}{a b:List Stmt}{tc:TT}(hc:PT X c tc)(ha:PSs X a t)(hb:PSs X b u):PS X (.If c a b pos) (tIfS tc t u):=by
 intro pins s σ H D I h
 refine wpAny_If (thn (hc pins s σ H _ I h) fun d s1 ⟨H1,I1,q1⟩=>?_)
 cases d with
 | true=>exact ha pins s1 σ H1 D I1 q1
 | false=>exact hb pins s1 σ H1 D I1 q1
noncomputable def tNever:TS:=fun _ _ _=>False
theorem ps_never:PS X st tNever:=fun _ _ _ _ _ _ h=>h.elim
end
noncomputable abbrev TG:=V→St→Hp→(St→Hp→Prop)→Prop
noncomputable abbrev TGs:=List V→St→Hp→(St→Hp→Prop)→Prop
noncomputable def PG(X:Cx)(target:Expr)(t:TG):Prop:=
 ∀(pins:List (Addr×Obj)) (s:Shared) (σ:St) (H:Hp) (v:V) (u:Value) (Q:St→Hp→Prop),Inv X pins σ H s→RelV v u→t v σ H Q→
   wpAny (model X.prog X.w) X.A (assign target X.env u) (fun _ s'=>∃σ' H',Inv X pins σ' H' s'∧Q σ' H') X.xe s
noncomputable def PGs(X:Cx)(ts:List Expr)(t:TGs):Prop:=
 ∀(pins:List (Addr×Obj)) (s:Shared) (σ:St) (H:Hp) (vs:List V) (us:List Value) (Q:St→Hp→Prop),Inv X pins σ H s→Vals vs us→t vs σ H Q→
   wpAny (model X.prog X.w) X.A (assignInOrder ((assignEach ts X.env).map (·.2)) us) (fun _ s'=>∃σ' H',Inv X pins σ' H' s'∧Q σ' H') X.xe s
noncomputable abbrev TSet:=V→V→V→Hp→(Hp→Prop)→Prop
noncomputable abbrev TIp:=V→V→Hp→VK→Prop
section
variable {X:Cx} {pos:Pos}
noncomputable def gName(i:Nat):TG:=fun v σ H Q=>Q (σ.set i (some v)) H
theorem pg_name{i:Nat}{x:Str}(hN:X.N.Nodup)(hi:X.N[i]?=some x)(hx:Loc X.env.scope x)(hf:X.fn x=true∨X.env.scope.names.lookup x=some .local:=by first | exact .inl rfl | exact .inr rfl | assumption):PG X (.Name x pos) (gName i):=by
 intro pins s σ H v u Q I r h
 exact wpAny_assign_Name (store_ok I hN hi hx r (fun s' I'=>⟨_,H,I',h⟩) hf)
noncomputable def gNil:TGs:=fun vs σ H Q=>vs=[]∧Q σ H
noncomputable def gCons(t:TG)(u:TGs):TGs:=fun vs σ H Q=>∃v r,vs=v::r∧t v σ H fun σ' H'=>u r σ' H' Q
theorem pgs_nil:PGs X [] gNil:=by
 intro pins s σ H vs us Q I r h
 obtain ⟨e,h⟩:=h
 subst e
 cases r
 exact assignInOrder_nil ⟨σ,H,I,h⟩
theorem pgs_cons{e:Expr}{es:List Expr}{t:TG}{u:TGs}(h1:PG X e t)(h2:PGs X es u)
 (hs:(assignEach (e::es) X.env).map (·.2)=assign e X.env::(assignEach es X.env).map (·.2):=by rfl):PGs X (e::es) (gCons t u):=by
 intro pins s σ H vs us Q I r h
 obtain ⟨v,vr,e1,h⟩:=h
 subst e1
 cases r with
 | cons r rr=>
  rw [hs]
  refine assignInOrder_cons (thn (h1 pins s σ H _ _ _ I r h) fun _ s1 hq_=>?_)
  obtain ⟨σ1,H1,I1,q1⟩:=hq_
  exact h2 pins s1 σ1 H1 _ _ Q I1 rr q1
noncomputable def gTup(K:PySem.W.Frag)(n:Nat)(t:TGs):TG:=fun v σ H Q=>∃a xs,v= .ref a∧SqT K H a xs∧xs.length=n∧t xs σ H Q
theorem pg_tup{es:List Expr}{k:Nat}{t:TGs}{n:Nat}(hc:X.calm=true)(h:PGs X es t)
 (hn:(assignEach es X.env).length=n:=by rfl) (hst:(assignEach es X.env).findIdx? (·.1)=none:=by rfl):PG X (.Tuple es k pos) (gTup X.K n t):=by
 intro pins s σ H v u Q I r hw
 obtain ⟨a,xs,e1,hq,hl,hw⟩:=hw
 subst e1
 cases r
 obtain ⟨its,rv,ht,hz⟩:=I.tuple hq
 refine assign_Tuple_tuple (I.ok.hd hc) ht (by simp [hn,← hl,rv.length]) hst fun h' hx=>?_
 have I1:Inv X pins σ H {s with heap:=h'}:=I.kept (t':=s.toks) fun b o e=>hx b o (Nat.ne_of_lt (Heap.lt_size e)) e
 exact h pins _ σ H xs _ Q I1 (by simpa using rv) hw
noncomputable def gSub(to ti:TE)(t:TSet):TG:=fun v σ H Q=>to σ H fun o H1=>ti σ H1 fun i H2=>t o i v H2 fun H3=>Q σ H3
noncomputable def tAsg(te:TE)(g:TG):TS:=fun D σ H=>te σ H fun x H1=>g x σ H1 D.nx
theorem ps_set{i:Nat}{x:Str}{e:Expr}{te:TE}{pos':Pos}(hN:X.N.Nodup)(hi:X.N[i]?=some x)(hx:Loc X.env.scope x)(he:PE X e te)(hs:swapsWith e (some (.Name x pos')) pos.line X.env=pure false:=by rfl)(hf:X.fn x=true∨X.env.scope.names.lookup x=some .local:=by first | exact .inl rfl | exact .inr rfl | assumption):
 PS X (.Assign [.Name x pos'] e pos) (tAsg te (gName i)):=by
 intro pins s σ H D I h
 refine wpAny_Assign_Name (thn (he pins s σ H _ I h) fun v s1 hq_=>?_) hs
 obtain ⟨y,H1,I1,r1,q1⟩:=hq_
 exact store_ok I1 hN hi hx r1 (fun s2 I2=>⟨_,H1,I2,q1⟩) hf
noncomputable def tPar(i j:Nat)(ta:TA):TS:=fun D σ H=>ta σ H fun vs H1=>∃v w,vs=[v,w]∧D.nx ((σ.set i (some v)).set j (some w)) H1
noncomputable def tAug(i:Nat)(te:TE)(ti:TIp):TS:=fun D σ H=>∃x,σ[i]?=some (some x)∧te σ H fun y H1=>ti x y H1 fun z H2=>D.nx (σ.set i (some z)) H2
noncomputable def ipI(f:Int→Int→Int):TIp:=fun x y H Q=>∃i j,x= .int i∧y= .int j∧Q (.int (f i j)) H
end
section
variable {X:Cx} {pos:Pos}
noncomputable def tWhile(c:TT)(tb:TS):TS:=fun D σ H=>∃W:Nat→St→Hp→Prop,(∃m,W m σ H)∧∀m σ H,W m σ H→
 c σ H fun b H1=>if b=true then ∃N:St→Hp→Prop,(∀σ' H',N σ' H'→∃m',m' < m∧W m' σ' H')∧tb {D with nx:=N,ct:=N,bk:=D.nx} σ H1 else D.nx σ H1
theorem ps_while{c:Expr}{body:List Stmt}{tc:TT}{tb:TS}(hp:PassesOwn (model X.prog X.w) X.A X.env X.xe)(hc:PT X c tc)(hb:PSs X body tb):PS X (.While c body [] pos) (tWhile tc tb):=by
 intro pins s σ H D I h
 obtain ⟨W,⟨m0,w0⟩,turn⟩:=h
 refine wpAny_While (codeAny_whileLoop (fun n s'=>∃σ' H',Inv X pins σ' H' s'∧W n σ' H') ?_ m0 ⟨σ,H,I,w0⟩)
 rintro n s1 ⟨σ1,H1,I1,w1⟩
 refine wpAny_passesOwn hp (thn (hc pins s1 σ1 H1 _ I1 (turn n σ1 H1 w1)) fun b s2 ⟨H2,I2,q2⟩=>?_)
 cases b with
 | true=>
  obtain ⟨N,hN,q2⟩:=q2
  rw [if_pos rfl]
  refine wpAny_passesOwn hp (thn (hb pins s2 σ1 H2 _ I2 q2) fun f s3 q3=>?_)
  cases f with
  | next=>
   obtain ⟨σ3,H3,I3,n3⟩:=q3
   obtain ⟨m',hm,w3⟩:=hN σ3 H3 n3
   exact ⟨m',hm,σ3,H3,I3,w3⟩
  | cont=>
   obtain ⟨σ3,H3,I3,n3⟩:=q3
   obtain ⟨m',hm,w3⟩:=hN σ3 H3 n3
   exact ⟨m',hm,σ3,H3,I3,w3⟩
  | brk=>exact q3
  | ret v=>exact q3
 | false=>
  rw [if_neg Bool.false_ne_true]
  exact wpAny_execs_nil ⟨σ1,H2,I2,q2⟩
end
structure It where
 go:Nat→Hp→Prop
 yld:Nat→Hp→V→Hp→Prop
 stop:Nat→Hp→Prop
noncomputable def FpOk(X:Cx)(pins:List (Addr×Obj))(H:Hp)(b:Addr):Prop:=
 H b=none∧b≠X.env.locals∧b∉X.fs∧(b∈X.ex∨X.s₀.heap.objs.size≤b)∧(∀x c,X.env.cells.lookup x=some c→c≠b)∧∀p∈X.pn++pins,p.1≠b
theorem Inv.fpOk{X:Cx}{pins:List (Addr×Obj)}{σ:St}{H H':Hp}{s:Shared}{b:Addr}(I:Inv X pins σ H s)(hb:s.heap.objs.size≤b)(hn:H' b=none):FpOk X pins H' b:=by
 refine ⟨hn,Nat.ne_of_gt (Nat.lt_of_lt_of_le I.lt hb),I.nofs hb,.inr (Nat.le_trans I.sz hb),fun x c e z=>?_,fun p hp z=>?_⟩
 · obtain ⟨v,q⟩:=I.cell x c e
   exact absurd (Nat.lt_of_lt_of_le q.lt (by rw [z];exact hb)) (Nat.lt_irrefl _)
 · exact absurd (Nat.lt_of_lt_of_le (Heap.lt_size (I.pin p hp).1) (by rw [z];exact hb)) (Nat.lt_irrefl _)
structure Turn(P:Program)(w:World)(K:PySem.W.Frag)(tg:Expr)(J:It)(fp:List Addr)(it:Addr)(tn:Nat→Heap→Prop):Prop where
 mem:it∈fp
 obj:∀i h,tn i h→∀b∈fp,∃o,h.get? b=some o∧∀v,o.data≠ .cell v
 keep:∀i h h',tn i h→(∀b∈fp,∀o,h.get? b=some o→h'.get? b=some o)→tn i h'
 item:∀(X:Cx),X.prog=P→X.w=w→X.K=K→X.calm=true→∀(i:Nat) (pins:List (Addr×Obj)) (s:Shared) (σ:St) (H:Hp) (E:Value→Shared→Prop),Inv X pins σ H s→(∀b∈fp,FpOk X pins H b)→tn i s.heap→J.go i H→
  wpAny (model P w) X.A (pyNext (.ref it)) (fun r s1=>∃u,r=some u∧
   wpAny (model P w) X.A (letOwnedTupleGo tg (.ref it) u) (fun _ s2=>∃x H',Inv X pins σ H' s2∧RelV x u∧J.yld i H x H'∧tn (i+1) s2.heap∧∀b∈fp,H' b=none) E s1) E s
 done:∀(X:Cx),X.prog=P→X.w=w→X.K=K→X.calm=true→∀(i:Nat) (pins:List (Addr×Obj)) (s:Shared) (σ:St) (H:Hp) (E:Value→Shared→Prop),Inv X pins σ H s→(∀b∈fp,FpOk X pins H b)→tn i s.heap→J.stop i H→
   wpAny (model P w) X.A (pyNext (.ref it)) (fun r s1=>r=none∧Inv X pins σ H s1) E s
 self:∀(A:Around) (i:Nat) (s:Shared) (Q:Value→Shared→Prop) (E:Value→Shared→Prop),tn i s.heap→Q (.ref it) s→wpAny (model P w) A (pyIter (.ref it)) Q E s
noncomputable abbrev TI:=St→Hp→(It→Hp→Prop)→Prop
noncomputable def PIE(X:Cx)(pins:List (Addr×Obj))(σ:St)(tg:Expr)(R:It→Hp→Prop)(itv:Value)(s2:Shared):Prop:=
 ∃(it:Addr) (fp:List Addr) (tn:Nat→Heap→Prop) (J:It) (H':Hp),itv= .ref it∧Inv X pins σ H' s2∧Turn X.prog X.w X.K tg J fp it tn∧tn 0 s2.heap∧(∀b∈fp,FpOk X pins H' b)∧R J H'
noncomputable def PI(X:Cx)(tg iter:Expr)(wi:TI):Prop:=
 ∀(pins:List (Addr×Obj)) (s:Shared) (σ:St) (H:Hp) (R:It→Hp→Prop),Inv X pins σ H s→wi σ H R→
   wpAny (model X.prog X.w) X.A (eval iter X.env) (fun v s1=>wpAny (model X.prog X.w) X.A (pyIter v) (PIE X pins σ tg R) X.xe s1) X.xe s
theorem go_of{M:Model}{A:Around}{E:Value→Shared→Prop}{s:Shared}{tg:Expr}{it:Addr}{u:Value}{o:Obj}{n:String}{vs:Array Value}{Q:Unit→Shared→Prop}(ho:s.heap.get? it=some o)(hc:o.cls= .type n)(hd:o.data= .fields vs)
 (hn:["enumerate","zip","dict_itemiterator","dict_reverseitemiterator","odict_iterator","itertools.zip_longest","itertools.pairwise"].contains n=false) (hQ:Q () s):wpAny M A (letOwnedTupleGo tg (.ref it) u) Q E s:=by
 unfold letOwnedTupleGo
 cases tg <;> first
  | exact wpAny_pure hQ
  | (cases u <;> first
   | exact wpAny_pure hQ
   | (refine wpAny_bind (wpAny_load ho ?_)
      rw [hc,hd]
      show wpAny M A (if (["enumerate","zip","dict_itemiterator","dict_reverseitemiterator","odict_iterator","itertools.zip_longest","itertools.pairwise"].contains n && vs[0]?==some (rawInt _))=true then _ else _) Q E s
      rw [if_neg (by intro h;rw [hn,Bool.false_and]at h;cases h)]
      exact wpAny_pure hQ))
noncomputable def Itl(K:PySem.W.Frag)(a:Addr):It:=
 ⟨fun i H=>∃xs x,SqL K H a xs∧xs[i]?=some x,fun i H x H'=>H'=H∧∀xs,SqL K H a xs→xs[i]?=some x,fun i H=>∃xs,SqL K H a xs∧xs.length≤i⟩
noncomputable def Itt(K:PySem.W.Frag)(a:Addr):It:=
 ⟨fun i H=>∃xs x,SqT K H a xs∧xs[i]?=some x,fun i H x H'=>H'=H∧∀xs,SqT K H a xs→xs[i]?=some x,fun i H=>∃xs,SqT K H a xs∧xs.length≤i⟩
noncomputable def Itr(lo:Int)(n:Nat):It:=⟨fun i _=>i < n,fun i H x H'=>H'=H∧x= .int (lo+i),fun i _=>n≤i⟩
theorem turn_list{P:Program}{w:World}{K:PySem.W.Frag}{tg:Expr}(a it:Addr):Turn P w K tg (Itl K a) [it] it (fun i h=>h.IsListIter it a i) where
 mem:=by simp
 obj:=fun i h st b hb=>by
  have e:b=it:=by simpa using hb
  subst e
  obtain ⟨o,e,c,d⟩:=st
  exact ⟨o,e,fun v z=>by rw [d]at z;cases z⟩
 keep:=fun i h h' st k=>st.at fun o e=>k it (by simp) o e
 item:=by
  intro X hP hw hK hc i pins s σ H E I hf st hg
  subst hP hw hK
  obtain ⟨xs,x,hq,hx⟩:=hg
  obtain ⟨its,rv,p,hz⟩:=I.list hq
  obtain ⟨u,hu,ru⟩:=rv.get hx
  obtain ⟨f0,f1,f2,f3,f4,f5⟩:=hf it (by simp)
  refine wpAny_pyNext_list_item st p.isList (x:=u) (by simpa using hu) fun h' st' sb=>?_
  have I1:Inv X pins σ H {s with heap:=h'}:=I.turned (t':=s.toks) (fun b o hb e=>(sb.2 b hb).trans e) f0 f1 f3 f4 f5
  obtain ⟨o,e,c,d⟩:=id st'
  exact ⟨u,rfl,go_of (s:={s with heap:=h'}) e c d (by decide) ⟨x,H,I1,ru,⟨rfl,fun ys hy=>by rw [I.list_inj hy hq];exact hx⟩,st',fun b hb=>(hf b hb).1⟩⟩
 done:=by
   intro X hP hw hK hc i pins s σ H E I hf st hg
   subst hP hw hK
   obtain ⟨xs,hq,hx⟩:=hg
   obtain ⟨its,rv,p,hz⟩:=I.list hq
   obtain ⟨f0,f1,f2,f3,f4,f5⟩:=hf it (by simp)
   have hl:=rv.length
   exact wpAny_pyNext_list_end (I.ok.hd hc) st p.isList (by simp;omega) fun h' eb=>⟨rfl,I.turned (t':=s.toks) (fun b o hb e=>eb b o hb e) f0 f1 f3 f4 f5⟩
 self:=fun _ _ _ _ _ st h=>wpAny_pyIter_listiter st h
theorem turn_range{P:Program}{w:World}{K:PySem.W.Frag}{tg:Expr}(it:Addr)(lo:Int)(n:Nat):Turn P w K tg (Itr lo n) [it] it (fun i h=>IsRangeIter h it (lo+(i:Nat) * 1) ((n:Int) - (i:Nat)) 1) where
 mem:=by simp
 obj:=fun i h st b hb=>by
  have e:b=it:=by simpa using hb
  subst e
  exact ⟨_,st,fun v z=>by
   have z':Data.fields _=Data.cell v:=z
   cases z'⟩
 keep:=fun i h h' st k=>k it (by simp) _ st
 item:=by
  intro X hP hw hK hc i pins s σ H E I hf st hg
  subst hP hw hK
  obtain ⟨f0,f1,f2,f3,f4,f5⟩:=hf it (by simp)
  have W:=Walks.range (prog:=X.prog) (w:=X.w) (I.ok.hd hc) it lo 1 n
  refine W.item i s _ _ hg st fun v h' tk hv st' kk=>?_
  obtain ⟨t,rfl⟩:=hv
  have I1:Inv X pins σ H {s with heap:=h',toks:=tk}:=I.turned (fun b o hb e=>kk b o (by simpa using hb) e) f0 f1 f3 f4 f5
  refine ⟨_,rfl,go_of (s:={s with heap:=h',toks:=tk}) (n:="range_iterator") st' rfl rfl (by decide) ⟨.int (lo+i),H,I1,⟨t,?_⟩,⟨rfl,rfl⟩,st',fun b hb=>(hf b hb).1⟩⟩
  rw [Int.mul_one]
 done:=by
   intro X hP hw hK hc i pins s σ H E I hf st hg
   subst hP hw hK
   obtain ⟨f0,f1,f2,f3,f4,f5⟩:=hf it (by simp)
   exact wpAny_pyNext_range_end (I.ok.hd hc) st (by have:n≤i:=hg;omega) fun h' eb=>⟨rfl,I.turned (t':=s.toks) (fun b o hb e=>eb b o hb e) f0 f1 f3 f4 f5⟩
 self:=fun _ _ _ _ _ st h=>wpAny_pyIter_rangeiter st h
end L2
namespace L2
section
variable {X:Cx} {tg:Expr}
noncomputable def iList(K:PySem.W.Frag)(tl:TE):TI:=fun σ H R=>tl σ H fun x H1=>∃a,x= .ref a∧(∃xs,SqL K H1 a xs)∧R (Itl K a) H1
noncomputable def iTup(K:PySem.W.Frag)(tl:TE):TI:=fun σ H R=>tl σ H fun x H1=>∃a,x= .ref a∧(∃xs,SqT K H1 a xs)∧R (Itt K a) H1
theorem pi_list{l:Expr}{tl:TE}(hl:PE X l tl):PI X tg l (iList X.K tl):=by
 intro pins s σ H R I h
 refine thn (hl pins s σ H _ I h) fun v s1 hq_=>?_
 obtain ⟨x,H1,I1,r1,q1⟩:=hq_
 obtain ⟨a,e,⟨xs,hq⟩,q⟩:=q1
 subst e
 cases r1
 obtain ⟨its,rv,p,hz⟩:=I1.list hq
 refine wpAny_pyIter_list p.isList ?_
 refine ⟨s1.heap.objs.size,[s1.heap.objs.size],_,_,H1,rfl,I1.kept (t':=s1.toks) fun b o e=>Heap.get?_push_of_some _ e,turn_list a _,⟨_,Heap.get?_push_size _ rfl,rfl,rfl⟩,fun b hb=>?_,q⟩
 have e:b=s1.heap.objs.size:=by simpa using hb
 subst e
 exact I1.fpOk (Nat.le_refl _) (I1.hok.fresh (Nat.le_refl _))
theorem range_it{pins:List (Addr×Obj)}{σ:St}{H:Hp}{s:Shared}{R:It→Hp→Prop}{E:Value→Shared→Prop}{lo hi:Int}{t u v:Tok}{tk:Nat}(I:Inv X pins σ H s)(h1:-(2 ^ 62)≤lo)(h2:lo < 2 ^ 62)(h3:-(2 ^ 62)≤hi)(h4:hi < 2 ^ 62)
 (q:R (Itr lo (hi - lo).toNat) H):wpAny (model X.prog X.w) X.A (pyIter (.ref s.heap.objs.size)) (PIE X pins σ tg R) E {s with heap:=s.heap.push {cls:= .type "range",data:= .fields #[.int lo t,.int hi u,.int 1 v]},toks:=tk}:=by
 refine wpAny_pyIter_range (IsRange.new ..) (small_one h1 h2 h3 h4) ?_
 have I1:Inv X pins σ H {s with heap:=s.heap.push {cls:= .type "range",data:= .fields #[.int lo t,.int hi u,.int 1 v]},toks:=tk}:=I.kept fun b o e=>Heap.get?_push_of_some _ e
 refine ⟨(s.heap.push {cls:= .type "range",data:= .fields #[.int lo t,.int hi u,.int 1 v]}).objs.size,[(s.heap.push {cls:= .type "range",data:= .fields #[.int lo t,.int hi u,.int 1 v]}).objs.size],_,_,H,rfl,
  I1.kept (t':=tk) fun b o e=>Heap.get?_push_of_some _ e,turn_range _ lo (hi - lo).toNat,?_,fun b hb=>?_,q⟩
 · have e1:lo+((0:Nat):Int) * 1=lo:=by simp
   have e2:(((hi - lo).toNat:Nat):Int) - ((0:Nat):Int)=Builtin.Range.rangeSize lo hi 1:=by rw [rangeSize_one];split <;> omega
   show IsRangeIter _ _ (lo+((0:Nat):Int) * 1) ((((hi - lo).toNat:Nat):Int) - ((0:Nat):Int)) 1
   rw [e1,e2]
   exact Heap.get?_push_size _ rfl
 · have e:b=(s.heap.push {cls:= .type "range",data:= .fields #[.int lo t,.int hi u,.int 1 v]}).objs.size:=by simpa using hb
   subst e
   exact I1.fpOk (Nat.le_refl _) (I1.hok.fresh (Nat.le_refl _))
noncomputable def iRng1(ta:TA):TI:=fun σ H R=>ta σ H fun vs H1=>∃j:Int,vs=[.int j]∧-(2 ^ 62)≤j∧j < 2 ^ 62∧R (Itr 0 j.toNat) H1
noncomputable def iRng2(ta:TA):TI:=fun σ H R=>ta σ H fun vs H1=>∃i j:Int,vs=[.int i,.int j]∧(-(2 ^ 62)≤i∧i < 2 ^ 62∧-(2 ^ 62)≤j∧j < 2 ^ 62)∧R (Itr i (j - i).toNat) H1
theorem pi_range1{a:Expr}{ta:TA}{p pos:Pos}(hg:Gl X "range")(hm:X.mg "range"=none)(ha:PA X [a] ta)(hs:starEach [a] X.env=[(false,eval a X.env)]:=by rfl):PI X tg (.Call (.Name "range" p) [a] [] pos) (iRng1 ta):=by
 intro pins s σ H R I h
 refine Call_ (ld_blt I hg hm boot_range (PyProof.Rows.callWith_type1 (thn (ha pos pins s σ H _ I h) fun us s1 hq_=>?_) hs rfl))
 obtain ⟨vs,H1,I1,r1,q1⟩:=hq_
 obtain ⟨j,e,q1,q2,q⟩:=q1
 subst e
 cases r1 with
 | cons r rr=>
  cases rr
  obtain ⟨t,rfl⟩:=r
  exact call_range_1 (range_it I1 (by omega) (by omega) q1 q2 (by simpa using q))
theorem pi_range2{a b:Expr}{ta:TA}{p pos:Pos}(hg:Gl X "range")(hm:X.mg "range"=none)(ha:PA X [a,b] ta)(hs:starEach [a,b] X.env=[(false,eval a X.env),(false,eval b X.env)]:=by rfl)(hs2:starEach [b] X.env=[(false,eval b X.env)]:=by rfl):
 PI X tg (.Call (.Name "range" p) [a,b] [] pos) (iRng2 ta):=by
 intro pins s σ H R I h
 refine Call_ (ld_blt I hg hm boot_range (PyProof.Rows.callWith_type1 (thn (ha pos pins s σ H _ I h) fun us s1 ⟨vs,H1,I1,r1,q1⟩=>?_) (by rw [hs,hs2]) (by rw [hs2];rfl)))
 obtain ⟨i,j,e,⟨q1,q2,q3,q4⟩,q⟩:=q1
 subst e
 cases r1 with
 | cons r rr=>
  cases rr with
  | cons r' rr=>
   cases rr
   obtain ⟨t,rfl⟩:=r
   obtain ⟨t',rfl⟩:=r'
   exact call_range_2 (range_it I1 q1 q2 q3 q4 q)
noncomputable def tFor(wi:TI)(g:TG)(tb:TS):TS:=fun D σ H=>wi σ H fun J H1=>∃W:Nat→Nat→St→Hp→Prop,(∃m,W 0 m σ H1)∧∀i m σ H,W i m σ H→
 (J.stop i H∧D.nx σ H)∨(J.go i H∧∃N:St→Hp→Prop,(∀σ' H',N σ' H'→∃m',m' < m∧W (i+1) m' σ' H')∧∀x H',J.yld i H x H'→g x σ H' fun σ2 H2=>tb {D with nx:=N,ct:=N,bk:=D.nx} σ2 H2)
noncomputable def pinsAt(fp:List Addr)(h:Heap):List (Addr×Obj):=fp.filterMap fun b=>(h.get? b).map fun o=>(b,o)
theorem mem_pinsAt{fp:List Addr}{h:Heap}{b:Addr}{o:Obj}(hb:b∈fp)(e:h.get? b=some o):(b,o)∈pinsAt fp h:=List.mem_filterMap.mpr ⟨b,hb,by rw [e];rfl⟩
theorem of_pinsAt{fp:List Addr}{h:Heap}{p:Addr×Obj}(hp:p∈pinsAt fp h):p.1∈fp∧h.get? p.1=some p.2:=by
 obtain ⟨b,hb,e⟩:=List.mem_filterMap.mp hp
 cases q:h.get? b with
 | none=>rw [q]at e;cases e
 | some o=>
  rw [q]at e
  have e':(b,o)=p:=Option.some.inj e
  subst e'
  exact ⟨hb,q⟩
theorem Inv.pinned{pins:List (Addr×Obj)}{σ:St}{H:Hp}{s:Shared}{fp:List Addr}(I:Inv X pins σ H s)(hf:∀b∈fp,FpOk X pins H b)(ho:∀b∈fp,∃o,s.heap.get? b=some o∧∀v,o.data≠ .cell v):Inv X (pins++pinsAt fp s.heap) σ H s:=
 I.pins_of fun p hp=>(List.mem_append.mp hp).elim (fun z=>I.pin p (List.mem_append_right _ z)) fun z=>by
  obtain ⟨hb,e⟩:=of_pinsAt z
  obtain ⟨f0,f1,f2,_⟩:=hf p.1 hb
  obtain ⟨o,e',d⟩:=ho p.1 hb
  rw [e]at e';cases e'
  exact ⟨e,f0,f1,f2,d⟩
theorem Inv.unpinned{pins pl:List (Addr×Obj)}{σ:St}{H:Hp}{s:Shared}(I:Inv X (pins++pl) σ H s):Inv X pins σ H s:=I.pins_of fun p hp=>I.pin p (List.mem_append_right _ (List.mem_append_left _ hp))
theorem ps_for{iter:Expr}{body:List Stmt}{wi:TI}{g:TG}{tb:TS}{pos:Pos}(hp:PassesOwn (model X.prog X.w) X.A X.env X.xe)(hc:X.calm=true)(hi:PI X tg iter wi)(hg:PG X tg g)(hb:PSs X body tb)
 (hs:∀x,foldedSetIterable iter X.env x=pure x:=by intro _;rfl):PS X (.For tg iter body [] pos) (tFor wi g tb):=by
 intro pins s σ H D I h
 refine wpAny_For (thn (hi pins s σ H _ I h) fun v s1 h1=>thn h1 fun itv s2 h2=>?_) hs
 obtain ⟨it,fp,tn,J,H2,e,I2,T,st2,f2,W,⟨m0,w0⟩,turn⟩:=h2
 subst e
 have stat:∀{H':Hp},(∀b∈fp,H' b=none)→∀b∈fp,FpOk X pins H' b:=fun hn b hb=>⟨hn b hb,(f2 b hb).2⟩
 refine codeAny_forLoop_any (fun n s'=>∃i σ' H',Inv X pins σ' H' s'∧tn i s'.heap∧(∀b∈fp,H' b=none)∧W i n σ' H') ?_ m0 ⟨0,σ,H2,I2,st2,fun b hb=>(f2 b hb).1,w0⟩
 rintro n s3 ⟨i,σ3,H3,I3,st3,fr3,w3⟩
 rcases turn i n σ3 H3 w3 with ⟨stop,qn⟩ | ⟨go,N,hN,step⟩
 · refine wpAny_passesOwn hp (thn (T.done X rfl rfl rfl hc i pins s3 σ3 H3 X.xe I3 (stat fr3) st3 stop) fun r s4 ⟨hr,I4⟩=>?_)
   subst hr
   exact wpAny_execs_nil ⟨σ3,H3,I4,qn⟩
 · refine wpAny_passesOwn hp (thn (T.item X rfl rfl rfl hc i pins s3 σ3 H3 X.xe I3 (stat fr3) st3 go) fun r s4 ⟨u,hr,h4⟩=>?_)
   subst hr
   refine wpAny_passesOwn hp (thn h4 fun _ s5 hq_=>?_)
   obtain ⟨x,H5,I5,r5,y5,st5,fr5⟩:=hq_
   have I5':=I5.pinned (stat fr5) (T.obj _ _ st5)
   refine wpAny_passesOwn hp (thn (hg _ s5 σ3 H5 x u _ I5' r5 (step x H5 y5)) fun _ s6 hq_=>?_)
   obtain ⟨σ6,H6,I6,q6⟩:=hq_
   refine wpAny_passesOwn hp (thn (hb _ s6 σ6 H6 _ I6 q6) fun f s7 q7=>?_)
   have again:∀{σ7:St} {H7:Hp},Inv X (pins++pinsAt fp s5.heap) σ7 H7 s7→N σ7 H7→∃m,m < n∧∃i σ' H',Inv X pins σ' H' s7∧tn i s7.heap∧(∀b∈fp,H' b=none)∧W i m σ' H':=fun {σ7 H7} I7 n7=>by
    obtain ⟨m',hm,w7⟩:=hN σ7 H7 n7
    refine ⟨m',hm,i+1,σ7,H7,I7.unpinned,T.keep _ _ _ st5 fun b hb o e=>(I7.pin (b,o) (List.mem_append_right _ (List.mem_append_right _ (mem_pinsAt hb e)))).1,fun b hb=>?_,w7⟩
    obtain ⟨o,e,d⟩:=T.obj _ _ st5 b hb
    exact (I7.pin (b,o) (List.mem_append_right _ (List.mem_append_right _ (mem_pinsAt hb e)))).2.1
   cases f with
   | next=>obtain ⟨σ7,H7,I7,n7⟩:=q7;exact again I7 n7
   | cont=>obtain ⟨σ7,H7,I7,n7⟩:=q7;exact again I7 n7
   | brk=>obtain ⟨σ7,H7,I7,q7⟩:=q7;exact ⟨σ7,H7,I7.unpinned,q7⟩
   | ret v=>obtain ⟨x7,σ7,H7,I7,r7,q7⟩:=q7;exact ⟨x7,σ7,H7,I7.unpinned,r7,q7⟩
end
theorem for_list{K:PySem.W.Frag}{a:Addr}{xs:List V}{g:TG}{tb:TS}{D:Ends}{σ:St}{H:Hp}(Pv:Nat→St→Hp→Prop)(h0:Pv 0 σ H)(hl:∀i σ H,i≤xs.length→Pv i σ H→SqL K H a xs)
 (hs:∀i x σ H,xs[i]?=some x→Pv i σ H→g x σ H fun σ2 H2=>tb {D with nx:=Pv (i+1),ct:=Pv (i+1),bk:=D.nx} σ2 H2) (hd:∀σ H,Pv xs.length σ H→D.nx σ H):
 ∃W:Nat→Nat→St→Hp→Prop,(∃m,W 0 m σ H)∧∀i m σ H,W i m σ H→
  ((Itl K a).stop i H∧D.nx σ H)∨((Itl K a).go i H∧∃N:St→Hp→Prop,(∀σ' H',N σ' H'→∃m',m' < m∧W (i+1) m' σ' H')∧∀x H',(Itl K a).yld i H x H'→g x σ H' fun σ2 H2=>tb {D with nx:=N,ct:=N,bk:=D.nx} σ2 H2):=by
 refine ⟨fun i m σ H=>m=xs.length - i∧i≤xs.length∧Pv i σ H,⟨xs.length,by simp,Nat.zero_le _,h0⟩,?_⟩
 rintro i m σ H ⟨rfl,hi,p⟩
 have q:=hl i σ H hi p
 by_cases hlt:i < xs.length
 · refine .inr ⟨⟨xs,xs[i],q,by simp [hlt]⟩,Pv (i+1),fun σ' H' p'=>⟨xs.length - (i+1),by omega,rfl,hlt,p'⟩,fun x H' y=>?_⟩
   obtain ⟨e,y⟩:=y
   subst e
   exact hs i x σ _ (y xs q) p
 · have e:i=xs.length:=by omega
   subst e
   exact .inl ⟨⟨xs,q,Nat.le_refl _⟩,hd σ H p⟩
theorem for_range{lo:Int}{n:Nat}{g:TG}{tb:TS}{D:Ends}{σ:St}{H:Hp}(Pv:Nat→St→Hp→Prop)(h0:Pv 0 σ H)
 (hs:∀i σ H,i < n→Pv i σ H→g (.int (lo+i)) σ H fun σ2 H2=>tb {D with nx:=Pv (i+1),ct:=Pv (i+1),bk:=D.nx} σ2 H2) (hd:∀σ H,Pv n σ H→D.nx σ H):
 ∃W:Nat→Nat→St→Hp→Prop,(∃m,W 0 m σ H)∧∀i m σ H,W i m σ H→
  ((Itr lo n).stop i H∧D.nx σ H)∨((Itr lo n).go i H∧∃N:St→Hp→Prop,(∀σ' H',N σ' H'→∃m',m' < m∧W (i+1) m' σ' H')∧∀x H',(Itr lo n).yld i H x H'→g x σ H' fun σ2 H2=>tb {D with nx:=N,ct:=N,bk:=D.nx} σ2 H2):=by
 refine ⟨fun i m σ H=>m=n - i∧i≤n∧Pv i σ H,⟨n,by simp,Nat.zero_le _,h0⟩,?_⟩
 rintro i m σ H ⟨rfl,hi,p⟩
 by_cases hlt:i < n
 · refine .inr ⟨hlt,Pv (i+1),fun σ' H' p'=>⟨n - (i+1),by omega,rfl,hlt,p'⟩,fun x H' y=>?_⟩
   obtain ⟨e,y⟩:=y
   subst e y
   exact hs i σ _ hlt p
 · have e:i=n:=by omega
   subst e
   exact .inl ⟨Nat.le_refl _,hd σ H p⟩
end L2
namespace L2
noncomputable abbrev R2:=V→V→Hp→VK→Prop
noncomputable def OpR(X:Cx)(f:Value→Value→Sem Value)(r:R2):Prop:=
 ∀(pins:List (Addr×Obj)) (s:Shared) (σ:St) (H:Hp) (x y:V) (v u:Value) (Q:VK),Inv X pins σ H s→RelV x v→RelV y u→r x y H Q→
   wpAny (model X.prog X.w) X.A (f v u) (EP X pins σ Q) X.xe s
noncomputable def CallR(X:Cx)(f:Value)(r:List V→Hp→VK→Prop):Prop:=
 ∀(pins:List (Addr×Obj)) (s:Shared) (σ:St) (H:Hp) (xs:List V) (us:List Value) (Q:VK),Inv X pins σ H s→Vals xs us→r xs H Q→
   wpAny (model X.prog X.w) X.A (call f us) (EP X pins σ Q) X.xe s
noncomputable def tOp(r:R2)(ta tb:TE):TE:=fun σ H Q=>ta σ H fun x H1=>tb σ H1 fun y H2=>r x y H2 Q
noncomputable def tUn(r:V→Hp→VK→Prop)(ta:TE):TE:=fun σ H Q=>ta σ H fun x H1=>r x H1 Q
noncomputable def rI(C:Int→Int→Prop)(g:Int→Int→V):R2:=fun x y H Q=>∃i j,x= .int i∧y= .int j∧C i j∧Q (g i j) H
noncomputable def rI0(g:Int→Int→V):R2:=fun x y H Q=>∃i j,x= .int i∧y= .int j∧Q (g i j) H
noncomputable def rU(g:Int→V):V→Hp→VK→Prop:=fun x H Q=>∃i,x= .int i∧Q (g i) H
section
variable {X:Cx} {a b c:Expr} {ta tb tc:TE} {pos:Pos}
theorem binT(ha:PE X a ta)(hb:PE X b tb){pins:List (Addr×Obj)}{s:Shared}{σ:St}{H:Hp}{R:V→V→Hp→Prop}(I:Inv X pins σ H s)
 (h:ta σ H fun x H1=>tb σ H1 fun y H2=>R x y H2) {Q:Value→Shared→Prop} {f:Value→Value→Sem Value}
 (hf:∀v u s2 x y H2,Inv X pins σ H2 s2→RelV x v→RelV y u→R x y H2→wpAny (model X.prog X.w) X.A (f v u) Q X.xe s2):
 wpAny (model X.prog X.w) X.A (eval a X.env) (fun v s₁=>wpAny (model X.prog X.w) X.A (eval b X.env) (fun u s₂=>wpAny (model X.prog X.w) X.A (f v u) Q X.xe s₂) X.xe s₁) X.xe s:=by
 refine thn (ha pins s σ H _ I h) fun v s1 hq_=>?_
 obtain ⟨x,H1,I1,r1,q1⟩:=hq_
 refine thn (hb pins s1 σ H1 _ I1 q1) fun u s2 hq_=>?_
 obtain ⟨y,H2,I2,r2,q2⟩:=hq_
 exact hf v u s2 x y H2 I2 r1 r2 q2
theorem pe_op{op:Operator}{r:R2}(ho:OpR X (binaryOp op) r)(ha:PE X a ta)(hb:PE X b tb):PE X (.BinOp a op b pos) (tOp r ta tb):=by
 intro pins s σ H Q I h
 exact wpAny_BinOp (binT ha hb I h fun v u s2 x y H2 I2 rx ry q=>ho pins s2 σ H2 x y v u Q I2 rx ry q)
theorem opI{f:Value→Value→Sem Value}{C:Int→Int→Prop}{g:Int→Int→Int}
 (rule:∀(i j:Int) (t u:Tok) (s:Shared) (Q:Value→Shared→Prop) (E:Value→Shared→Prop),C i j→Q (.int (g i j) s.toks) {s with toks:=s.toks+1}→wpAny (model X.prog X.w) X.A (f (.int i t) (.int j u)) Q E s):
 OpR X f (rI C fun i j=> .int (g i j)):=by
 intro pins s σ H x y v u Q I rx ry h
 obtain ⟨i,j,rfl,rfl,hc,q⟩:=h
 obtain ⟨t,rfl⟩:=rx
 obtain ⟨t',rfl⟩:=ry
 exact rule i j t t' s _ _ hc ⟨.int (g i j),H,I.tok _,⟨_,rfl⟩,q⟩
theorem opI0{f:Value→Value→Sem Value}{g:Int→Int→Int}
 (rule:∀(i j:Int) (t u:Tok) (s:Shared) (Q:Value→Shared→Prop) (E:Value→Shared→Prop),Q (.int (g i j) s.toks) {s with toks:=s.toks+1}→wpAny (model X.prog X.w) X.A (f (.int i t) (.int j u)) Q E s):
 OpR X f (rI0 fun i j=> .int (g i j)):=by
 intro pins s σ H x y v u Q I rx ry h
 obtain ⟨i,j,rfl,rfl,q⟩:=h
 obtain ⟨t,rfl⟩:=rx
 obtain ⟨t',rfl⟩:=ry
 exact rule i j t t' s _ _ ⟨.int (g i j),H,I.tok _,⟨_,rfl⟩,q⟩
theorem opB0{f:Value→Value→Sem Value}{g:Int→Int→Bool}
 (rule:∀(i j:Int) (t u:Tok) (s:Shared) (Q:Value→Shared→Prop) (E:Value→Shared→Prop),Q (.bool (g i j)) s→wpAny (model X.prog X.w) X.A (f (.int i t) (.int j u)) Q E s):
 OpR X f (rI0 fun i j=> .bl (g i j)):=by
 intro pins s σ H x y v u Q I rx ry h
 obtain ⟨i,j,rfl,rfl,q⟩:=h
 obtain ⟨t,rfl⟩:=rx
 obtain ⟨t',rfl⟩:=ry
 exact rule i j t t' s _ _ ⟨.bl (g i j),H,I,rfl,q⟩
noncomputable def CDiv(i j:Int):Prop:=0 < j∧j < 1073741824
noncomputable def CPow(i j:Int):Prop:=0≤j∧j≤1000000∧i.natAbs < 2 ^ 64
noncomputable def CMul(i j:Int):Prop:=(-(2 ^ 64) < i∧i < 2 ^ 64)∨(-(2 ^ 64) < j∧j < 2 ^ 64)
theorem CMul.ok{i j:Int}(h:CMul i j):IntMulOk i j:=by
 rcases h with ⟨h1,h2⟩ | ⟨h1,h2⟩
 · exact .of_left (intBits_le_64 h1 h2)
 · exact .of_right (intBits_le_64 h1 h2)
theorem op_add:OpR X (binaryOp .Add) (rI0 fun i j=> .int (i+j)):=opI0 fun _ _ _ _ _ _ _ q=>add_int q
theorem op_sub:OpR X (binaryOp .Sub) (rI0 fun i j=> .int (i - j)):=opI0 fun _ _ _ _ _ _ _ q=>sub_int q
theorem op_mul:OpR X (binaryOp .Mult) (rI CMul fun i j=> .int (i * j)):=opI fun _ _ _ _ _ _ _ hc q=>mul_int q hc.ok
theorem op_fdiv:OpR X (binaryOp .FloorDiv) (rI CDiv fun i j=> .int (i / j)):=opI fun i j _ _ _ _ _ hc q=>by
 have h1:(0:Int) < j:=hc.1
 have h2:j < 1073741824:=hc.2
 exact floordiv_int (by omega) (by rw [Int.fdiv_eq_ediv_of_nonneg i (by omega)];exact q) (.inl (PyProof.noPylong_small (by omega)))
theorem op_mod:OpR X (binaryOp .Mod) (rI (fun _ j=>0 < j) fun i j=> .int (i % j)):=opI fun i j _ _ _ _ _ hc q=>by
 have h1:(0:Int) < j:=hc
 exact mod_int' (by omega) (by rw [Int.fmod_eq_emod_of_nonneg i (by omega)];exact q)
theorem op_pow:OpR X (binaryOp .Pow) (rI CPow fun i j=> .int (i ^ j.toNat)):=opI fun _ _ _ _ _ _ _ hc q=>pow_int_small hc.1 hc.2.1 hc.2.2 q
end
noncomputable def scal:V→V→Bool
 | .non,.non=>true | .non,.int _=>true | .int _,.non=>true | .non,.bl _=>true | .bl _,.non=>true | .non,.str _=>true | .str _,.non=>true
 | .int _,.int _=>true | .bl _,.bl _=>true | .str _,.str _=>true | .byt _,.byt _=>true
 | .int _,.str _=>true | .str _,.int _=>true | .bl _,.str _=>true | .str _,.bl _=>true
 | _,_=>false
noncomputable def rEq:R2:=fun x y H Q=>scal x y=true∧Q (.bl (decide (x=y))) H
noncomputable def rNe:R2:=fun x y H Q=>scal x y=true∧Q (.bl (!decide (x=y))) H
theorem dec_int{i j:Int}:decide (V.int i=V.int j)=(i==j):=by
 rw [Bool.eq_iff_iff]
 simp
theorem dec_bl{i j:Bool}:decide (V.bl i=V.bl j)=(i==j):=by
 rw [Bool.eq_iff_iff]
 simp
theorem dec_str{i j:Str}:decide (V.str i=V.str j)=(i==j):=by
 rw [Bool.eq_iff_iff]
 simp
theorem dec_byt{i j:Array UInt8}:decide (V.byt i=V.byt j)=(i.toList==j.toList):=by
 rw [Bool.eq_iff_iff]
 cases i
 cases j
 simp
section
variable {X:Cx} {a b c:Expr} {ta tb tc:TE} {pos:Pos}
theorem fin_bl{pins:List (Addr×Obj)}{σ:St}{H:Hp}{s:Shared}{Q:VK}{k k':Bool}(I:Inv X pins σ H s)(q:Q (.bl k) H)(e:k=k'):EP X pins σ Q (.bool k') s:=by
 subst e
 exact ⟨.bl k,H,I,rfl,q⟩
theorem op_eq:OpR X (compareOp .Eq) rEq:=by
 intro pins s σ H x y v u Q I rx ry h
 obtain ⟨hs,q⟩:=h
 cases x with
 | non=>
  cases rx
  cases y with
  | non=>cases ry;exact PySem.EqNone.eq_none_none (fin_bl I q (by simp))
  | bl j=>cases ry;exact PySem.EqNone.eq_none_bool (fin_bl I q (by simp))
  | int j=>obtain ⟨t',rfl⟩:=ry;exact PySem.EqNone.eq_none_int (fin_bl I q (by simp))
  | str j=>obtain ⟨t',rfl⟩:=ry;exact PySem.EqNone.eq_none_str (fin_bl I q (by simp))
  | _=>exact absurd (show false=true from hs) Bool.false_ne_true
 | bl i=>
  cases rx
  cases y with
  | non=>cases ry;exact PySem.EqNone.eq_bool_none (fin_bl I q (by simp))
  | bl j=>cases ry;exact eq_bool (fin_bl I q dec_bl)
  | str j=>obtain ⟨t',rfl⟩:=ry;exact PySem.EqMixed.eq_bool_str (fin_bl I q (by simp))
  | _=>exact absurd (show false=true from hs) Bool.false_ne_true
 | int i=>
  obtain ⟨t,rfl⟩:=rx
  cases y with
  | non=>cases ry;exact PySem.EqNone.eq_int_none (fin_bl I q (by simp))
  | int j=>obtain ⟨t',rfl⟩:=ry;exact eq_int (fin_bl I q dec_int)
  | str j=>obtain ⟨t',rfl⟩:=ry;exact PySem.EqMixed.eq_int_str (fin_bl I q (by simp))
  | _=>exact absurd (show false=true from hs) Bool.false_ne_true
 | str i=>
  obtain ⟨t,rfl⟩:=rx
  cases y with
  | non=>cases ry;exact PySem.EqNone.eq_str_none (fin_bl I q (by simp))
  | bl j=>cases ry;exact PySem.EqMixed.eq_str_bool (fin_bl I q (by simp))
  | int j=>obtain ⟨t',rfl⟩:=ry;exact PySem.EqMixed.eq_str_int (fin_bl I q (by simp))
  | str j=>obtain ⟨t',rfl⟩:=ry;exact eq_str (fin_bl I q dec_str)
  | _=>exact absurd (show false=true from hs) Bool.false_ne_true
 | byt i=>
  obtain ⟨t,rfl⟩:=rx
  cases y with
  | byt j=>obtain ⟨t',rfl⟩:=ry;exact PySem.W.eq_bytes (fin_bl I q dec_byt)
  | _=>exact absurd (show false=true from hs) Bool.false_ne_true
 | _=>cases y <;> exact absurd (show false=true from hs) Bool.false_ne_true
theorem op_ne:OpR X (compareOp .NotEq) rNe:=by
 intro pins s σ H x y v u Q I rx ry h
 obtain ⟨hs,q⟩:=h
 cases x with
 | non=>
  cases rx
  cases y with
  | non=>cases ry;exact PySem.EqNone.ne_none_none (fin_bl I q (by simp))
  | bl j=>cases ry;exact PySem.EqNone.ne_none_bool (fin_bl I q (by simp))
  | int j=>obtain ⟨t',rfl⟩:=ry;exact PySem.EqNone.ne_none_int (fin_bl I q (by simp))
  | str j=>obtain ⟨t',rfl⟩:=ry;exact PySem.EqNone.ne_none_str (fin_bl I q (by simp))
  | _=>exact absurd (show false=true from hs) Bool.false_ne_true
 | bl i=>
  cases rx
  cases y with
  | non=>cases ry;exact PySem.EqNone.ne_bool_none (fin_bl I q (by simp))
  | bl j=>cases ry;exact ne_bool (fin_bl I q (congrArg not dec_bl))
  | str j=>obtain ⟨t',rfl⟩:=ry;exact PySem.EqMixed.ne_bool_str (fin_bl I q (by simp))
  | _=>exact absurd (show false=true from hs) Bool.false_ne_true
 | int i=>
  obtain ⟨t,rfl⟩:=rx
  cases y with
  | non=>cases ry;exact PySem.EqNone.ne_int_none (fin_bl I q (by simp))
  | int j=>obtain ⟨t',rfl⟩:=ry;exact ne_int (fin_bl I q (congrArg not dec_int))
  | str j=>obtain ⟨t',rfl⟩:=ry;exact PySem.EqMixed.ne_int_str (fin_bl I q (by simp))
  | _=>exact absurd (show false=true from hs) Bool.false_ne_true
 | str i=>
  obtain ⟨t,rfl⟩:=rx
  cases y with
  | non=>cases ry;exact PySem.EqNone.ne_str_none (fin_bl I q (by simp))
  | bl j=>cases ry;exact PySem.EqMixed.ne_str_bool (fin_bl I q (by simp))
  | int j=>obtain ⟨t',rfl⟩:=ry;exact PySem.EqMixed.ne_str_int (fin_bl I q (by simp))
  | str j=>obtain ⟨t',rfl⟩:=ry;exact ne_str (fin_bl I q (congrArg not dec_str))
  | _=>exact absurd (show false=true from hs) Bool.false_ne_true
 | byt i=>
  obtain ⟨t,rfl⟩:=rx
  cases y with
  | byt j=>obtain ⟨t',rfl⟩:=ry;exact PySem.W.ne_bytes (fin_bl I q (congrArg not dec_byt))
  | _=>exact absurd (show false=true from hs) Bool.false_ne_true
 | _=>cases y <;> exact absurd (show false=true from hs) Bool.false_ne_true
theorem op_lt:OpR X (compareOp .Lt) (rI0 fun i j=> .bl (decide (i < j))):=opB0 fun _ _ _ _ _ _ _ q=>lt_int q
theorem op_le:OpR X (compareOp .LtE) (rI0 fun i j=> .bl (decide (i≤j))):=opB0 fun _ _ _ _ _ _ _ q=>le_int q
theorem op_gt:OpR X (compareOp .Gt) (rI0 fun i j=> .bl (decide (j < i))):=opB0 fun _ _ _ _ _ _ _ q=>gt_int q
theorem op_in_str:OpR X (compareOp .In) (fun x y H Q=>∃i j,x= .str i∧y= .str j∧Q (.bl (!(Builtin.Str.occurrences j i 0 j.length 1).isEmpty)) H):=by
 intro pins s σ H x y v u Q I rx ry h
 obtain ⟨i,j,rfl,rfl,q⟩:=h
 obtain ⟨t,rfl⟩:=rx
 obtain ⟨t',rfl⟩:=ry
 exact in_str (fin_bl I q rfl)
theorem nomark(b:Expr){op:CmpOp}(h:op≠ .In:=by decide)(h2:op≠ .NotIn:=by decide):behindInMarks op b=false:=by
 have e1:(op==CmpOp.In)=false:=by cases op <;> first | rfl | exact absurd rfl h
 have e2:(op==CmpOp.NotIn)=false:=by cases op <;> first | rfl | exact absurd rfl h2
 cases b <;> simp [behindInMarks,e1,e2]
theorem pe_cmpR{op:CmpOp}{r:R2}(ho:OpR X (compareOp op) r)(ha:PE X a ta)(hb:PE X b tb)(hm:behindInMarks op b=false):PE X (.Compare a [op] [b] pos) (tOp r ta tb):=by
 intro pins s σ H Q I h
 exact wpAny_Compare1 (binT ha hb I h fun v u s2 x y H2 I2 rx ry q=>ho pins s2 σ H2 x y v u Q I2 rx ry q) hm
noncomputable def tTest(t:TE):TT:=fun σ H Q=>t σ H fun x H'=>∃k,x= .bl k∧Q k H'
theorem pt_cmpR{op:CmpOp}{r:R2}(ho:OpR X (compareOp op) r)(ha:PE X a ta)(hb:PE X b tb)(hm:behindInMarks op b=false):PT X (.Compare a [op] [b] pos) (tTest (tOp r ta tb)):=by
 intro pins s σ H Q I h
 refine wpAny_isTrue_Compare1 (thn (ha pins s σ H _ I h) fun v s1 ⟨x,H1,I1,r1,q1⟩=>thn (hb pins s1 σ H1 _ I1 q1) fun u s2 ⟨y,H2,I2,r2,q2⟩=>
  thn (ho pins s2 σ H2 x y v u _ I2 r1 r2 q2) fun c s3 ⟨z,H3,I3,r3,k,e,q3⟩=>?_) hm
 subst e
 cases r3
 exact wpAny_truthy_bool ⟨H3,I3,q3⟩
noncomputable def tChain(r r':R2)(ta tb tc:TE):TE:=fun σ H Q=>ta σ H fun x H1=>tb σ H1 fun y H2=>r x y H2 fun z H3=>∃k,z= .bl k∧
 (if k=true then tc σ H3 fun w' H4=>r' y w' H4 Q else Q (.bl false) H3)
theorem pe_chain{op op':CmpOp}{r r':R2}(ho:OpR X (compareOp op) r)(ho':OpR X (compareOp op') r')(ha:PE X a ta)(hb:PE X b tb)(hc:PE X c tc)
 (hm:lastMarks [op,op'] [b,c]=false:=by with_unfolding_all rfl):PE X (.Compare a [op,op'] [b,c] pos) (tChain r r' ta tb tc):=by
 intro pins s σ H Q I h
 refine Compare_chain (thn (ha pins s σ H _ I h) fun v s1 ⟨x,H1,I1,r1,q1⟩=>chain_link (thn (hb pins s1 σ H1 _ I1 q1) fun u s2 ⟨y,H2,I2,r2,q2⟩=>
  thn (ho pins s2 σ H2 x y v u _ I2 r1 r2 q2) fun d s3 ⟨z,H3,I3,r3,k,e,q3⟩=>?_)) hm
 subst e
 cases r3
 refine wpAny_truthy_bool ?_
 cases k with
 | false=>exact ite_ff ⟨.bl false,H3,I3,rfl,q3⟩
 | true=>exact ite_tt (chain_last (thn (hc pins s3 σ H3 _ I3 q3) fun w' s4 ⟨z',H4,I4,r4,q4⟩=>ho' pins s4 σ H4 y z' u w' Q I4 r2 r4 q4))
theorem line63:(sizeLine:Nat) < 2 ^ 63:=by rw [sizeLine_eq];decide
theorem op_add_str:OpR X (binaryOp .Add) (fun x y H Q=>∃i j,x= .str i∧y= .str j∧i.length+j.length≤sizeLine∧Q (.str (i++j)) H):=by
 intro pins s σ H x y v u Q I rx ry h
 obtain ⟨i,j,rfl,rfl,hz,q⟩:=h
 obtain ⟨t,rfl⟩:=rx
 obtain ⟨t',rfl⟩:=ry
 exact add_str (fun t' tk=>⟨.str (i++j),H,I.tok _,⟨_,rfl⟩,q⟩) hz
theorem vals1{x:V}{us:List Value}(r:Vals [x] us):∃u,us=[u]∧RelV x u:=by
 cases r with
 | cons r1 r2=>cases r2;exact ⟨_,rfl,r1⟩
theorem vals2{x y:V}{us:List Value}(r:Vals [x,y] us):∃u w',us=[u,w']∧RelV x u∧RelV y w':=by
 cases r with
 | cons r1 r2=>
  cases r2 with
  | cons r3 r4=>cases r4;exact ⟨_,_,rfl,r1,r3⟩
theorem call_min2(hc:X.calm=true):CallR X (.builtin "min") (fun xs H Q=>∃i j,xs=[.int i,.int j]∧Q (.int (if j < i then j else i)) H):=by
 intro pins s σ H xs us Q I r h
 obtain ⟨i,j,rfl,q⟩:=h
 obtain ⟨u,w',rfl,⟨t,rfl⟩,⟨t',rfl⟩⟩:=vals2 r
 refine min_two_ints (I.ok.hd hc) fun h' tk k=>⟨_,H,I.kept k,?_,q⟩
 by_cases hj:j < i
 · rw [if_pos hj,if_pos hj];exact ⟨_,rfl⟩
 · rw [if_neg hj,if_neg hj];exact ⟨_,rfl⟩
theorem call_int1:CallR X (.type "int") (fun xs H Q=>(∃i,xs=[.int i]∧Q (.int i) H)∨∃k,xs=[.bl k]∧Q (.int (if k then 1 else 0)) H):=by
 intro pins s σ H xs us Q I r h
 rcases h with ⟨i,rfl,q⟩ | ⟨k,rfl,q⟩
 · obtain ⟨u,rfl,t,rfl⟩:=vals1 r
   exact call_int_int ⟨.int i,H,I,⟨_,rfl⟩,q⟩
 · obtain ⟨u,rfl,r1⟩:=vals1 r
   cases r1
   exact call_int_bool ⟨.int (if k then 1 else 0),H,I.tok _,⟨_,rfl⟩,q⟩
end
end L2
namespace L2
structure ObjM(h:Heap)(x dx C:Addr)(mA:Str→Option Value):Prop where
 obj:h.get? x=some (PySem.W.instObj C dx)
 ns:h.Ns1 dx mA
 ne:dx≠x
theorem lookIn_ns{h:Heap}{dx:Addr}{mA:Str→Option Value}(n:h.Ns1 dx mA):∃od,h.get? dx=some od∧∀name,PySem.W.lookIn name od=some (mA name):=by
 obtain ⟨o,es,ep,ho,hd,hk,_,hm⟩:=n
 refine ⟨o,ho,fun name=>?_⟩
 have e:=hm name
 unfold nsFind findBy at e
 rw [← Array.find?_toList]at e
 unfold PySem.W.lookIn
 rw [hd]
 dsimp only
 split
 · rename_i y q
   rw [q]at e
   exact congrArg some e
 · rename_i q
   rw [q]at e
   have a:es.toList.any (·.refKey)=false:=by
    rw [List.any_eq_false]
    intro y hy
    obtain ⟨z,t,hkey⟩:=hk y (Array.mem_toList_iff.mp hy)
    simp [DictEntry.refKey,hkey]
   have a':¬es.toList.any (·.refKey)=true:=by rw [a];exact Bool.false_ne_true
   rw [if_neg a']
   exact congrArg some e
theorem ObjM.look{h:Heap}{x dx C:Addr}{mA:Str→Option Value}(I:ObjM h x dx C mA):∃od,PySem.W.InstAt h x (PySem.W.instObj C dx) C (some od)∧∀name,PySem.W.lookIn name od=some (mA name):=
 let ⟨od,ho,hl⟩:=lookIn_ns I.ns
 ⟨od,⟨I.obj,rfl,rfl,ho⟩,hl⟩
section
variable {prog:Program} {w:World} {A:Around} {E:Value→Shared→Prop} {s:Shared} {K:PySem.W.Frag} {x dx C f:Addr} {mA:Str→Option Value} {name:Str} {v:Value}
theorem get_map{expr:Bool}{Q:Value→Shared→Prop}(X:K.In s.heap)(I:ObjM s.heap x dx C mA)(hg:PySem.W.plainGet K C name=true)(hh:PySem.W.hasDictIn K C=true)
 (ha:PySem.W.findIn K (.ref C) name=some none) (hv:mA name=some v) (hv':PySem.W.handedIn v=true) (h:Q v {s with toks:=s.toks+1}):
 wpAny (model prog w) A (getAttr (.ref x) name expr) Q E s:=by
 obtain ⟨od,J,hl⟩:=I.look
 exact PySem.W.get_value X J (PySem.W.plainGet_of hg).1 (PySem.W.findObj_own hh ha rfl (by rw [hl,hv])) hv' h
theorem get_meth{pl:Sem Bool}{Q:Value×List Value→Shared→Prop}(X:K.In s.heap)(I:ObjM s.heap x dx C mA)(hg:PySem.W.plainGet K C name=true)
 (hf:PySem.W.findIn K (.ref C) name=some (some (.ref f))) (ht:PySem.W.isFn K (.ref f)=true) (hv:mA name=none) (h:Q (.ref f,[.ref x]) s):
 wpAny (model prog w) A (getMethod (.ref x) name pl) Q E s:=by
 obtain ⟨od,J,hl⟩:=I.look
 exact PySem.W.method_fn X J (PySem.W.plainGet_of hg).1 (PySem.W.plainGet_of hg).2 hf (beq_iff_eq.mp ht) (by show (PySem.W.lookIn name od).map (·.isSome)=some false;rw [hl,hv];rfl) h
theorem set_map{ns:List Str}{Q:Unit→Shared→Prop}(X:K.In s.heap)(I:ObjM s.heap x dx C mA)
 (hs:PySem.W.findIn K (.ref C) "__setattr__"=some (some (.builtin "object.__setattr__"))) (hp:PySem.W.plainOver K C=true) (ht:PySem.W.takerIn K C name=some none) (hh:PySem.W.hasDictIn K C=true)
 (hw:PySem.Within mA ns) (hsz:ns.length≤sizeLine)
 (h:∀h',ObjM h' x dx C (fun y=>if y=name then some v else mA y)→Heap.SameBut dx s.heap h'→Q () {s with heap:=h',toks:=s.toks+2}):
 wpAny (model prog w) A (setAttr (.ref x) name v) Q E s:=by
 obtain ⟨od,J,hl⟩:=I.look
 refine PySem.W.set_plain X J hs (PySem.W.osa_open (s:={s with toks:=s.toks+1}) (r:=none) X J hp ht fun b=>?_)
 obtain ⟨cd,hc,hd'⟩:=PySem.W.any_some hh
 have hx:s.heap.get? x=some ⟨.ref C,some dx,.plain,#[]⟩:=I.obj
 refine wpAny_bind (wpAny_pure (wpAny_bind (wpAny_bind (wpAny_loadPart hx (wpAny_bind (PySem.W.Looks.here (s:={s with toks:=s.toks+1}) (PySem.W.looks_clsIn X hc) ?_))))))
 rw [hd']
 refine wpAny_pure (a:=some dx) (wpAny_bind (wpAny_pure (wpAny_bind ?_)))
 refine wpAny_nsSet1 (s:={s with toks:=s.toks+1}) I.ns fun h' hn2 hs2=>?_
 obtain ⟨oD,esD,epD,hoD,hdD,hcD⟩:=hn2.count (PySem.Within.cons name v hw)
 refine wpAny_bind (wpAny_lookBehind hoD (by rw [hdD];exact pastItsLine_dict (Nat.le_trans hcD (by rw [List.length_cons];omega))) ?_)
 exact wpAny_pure (h _ ⟨(hs2.2 _ (Ne.symm I.ne)).trans I.obj,hn2,I.ne⟩ hs2)
theorem make_map{R:Result→Shared→Prop}{vs:List Value}{kw:List (Str×Value)}(X:K.In s.heap)(hm:PySem.W.makesIn K C=true)
 (hi:PySem.W.findIn K (.ref C) "__init__"=some (some (.ref f))) (hf:PySem.W.typeIn K (.ref f)=some (.type "function"))
 (h:codeAny (model prog w) (A.under (.builtin "type.__call__" ⟨.ref C::vs,kw⟩)) (.call (.ref f) ⟨.ref (s.heap.objs.size+1)::vs,kw⟩) (PySem.W.InitBack (s.heap.objs.size+1) R)
  {s with heap:=(s.heap.push PySem.W.emptyDict).push (PySem.W.instObj C s.heap.objs.size)}):
 codeAny (model prog w) A (.call (.ref C) ⟨vs,kw⟩) R s:=by
 obtain ⟨hh,g,d,t,os⟩:=s
 exact PySem.W.make_core (PySem.W.makes_of X hm) (PySem.W.looks_findIn X hi) (fun self=>PySem.W.bind_fn X self hf) (.inl rfl) h
end
noncomputable def putF(f:Str)(v:V):List (Str×V)→List (Str×V)
 | []=>[(f,v)]
 | (g,x)::r=>if g=f then (g,v)::r else (g,x)::putF f v r
theorem lookup_putF(f g:Str)(v:V):∀fs:List (Str×V),(putF f v fs).lookup g=if g=f then some v else fs.lookup g
 | []=>by
  show List.lookup g [(f,v)]=_
  by_cases h:g=f
  · have hb:(g==f)=true:=beq_iff_eq.mpr h
    simp only [List.lookup,hb,if_pos h]
  · have hb:(g==f)=false:=beq_eq_false_iff_ne.mpr h
    simp only [List.lookup,hb,if_neg h]
 | (k,x)::r=>by
  have ih:=lookup_putF f g v r
  rw [show putF f v ((k,x)::r)=(if k=f then (k,v)::r else (k,x)::putF f v r) from rfl]
  by_cases hk:k=f
  · rw [if_pos hk]
    by_cases h:g=k
    · have hb:(g==k)=true:=beq_iff_eq.mpr h
      simp only [List.lookup,hb,if_pos (h.trans hk)]
    · have hb:(g==k)=false:=beq_eq_false_iff_ne.mpr h
      simp only [List.lookup,hb,if_neg (fun e:g=f=>h (e.trans hk.symm))]
  · rw [if_neg hk]
    by_cases h:g=k
    · have hb:(g==k)=true:=beq_iff_eq.mpr h
      simp only [List.lookup,hb,if_neg (fun e:g=f=>hk (h.symm.trans e))]
    · have hb:(g==k)=false:=beq_eq_false_iff_ne.mpr h
      simp only [List.lookup,hb]
      exact ih
theorem keys_putF(f:Str)(v:V):∀fs:List (Str×V),f∈(putF f v fs).map (·.1)∧∀g,g∈fs.map (·.1)→g∈(putF f v fs).map (·.1)
 | []=>⟨by simp [putF],fun g h=>by simp at h⟩
 | (k,x)::r=>by
  obtain ⟨i1,i2⟩:=keys_putF f v r
  rw [show putF f v ((k,x)::r)=(if k=f then (k,v)::r else (k,x)::putF f v r) from rfl]
  by_cases hk:k=f
  · rw [if_pos hk]
    subst hk
    exact ⟨by simp,fun g h=>by simpa using h⟩
  · rw [if_neg hk]
    refine ⟨?_,fun g h=>?_⟩
    · rw [List.map_cons]
      exact List.mem_cons_of_mem _ i1
    · rw [List.map_cons]at h ⊢
      rcases List.mem_cons.mp h with e | e
      · exact List.mem_cons.mpr (.inl e)
      · exact List.mem_cons_of_mem _ (i2 g e)
theorem length_putF(f:Str)(v:V):∀fs:List (Str×V),(putF f v fs).length≤fs.length+1
 | []=>by simp [putF]
 | (k,x)::r=>by
  have ih:=length_putF f v r
  rw [show putF f v ((k,x)::r)=(if k=f then (k,v)::r else (k,x)::putF f v r) from rfl]
  by_cases hk:k=f
  · rw [if_pos hk,List.length_cons,List.length_cons];omega
  · rw [if_neg hk,List.length_cons,List.length_cons];omega
theorem RelO.some_of{v:V}{o:Option Value}(r:RelO (some v) o):∃u,o=some u∧RelV v u:=by
 cases o with
 | none=>exact (show False from r).elim
 | some u=>exact ⟨u,rfl,r⟩
theorem RelO.none_of{o:Option Value}(r:RelO none o):o=none:=by
 cases o with
 | none=>rfl
 | some u=>exact (show False from r).elim
theorem handed_of{v:V}{u:Value}(r:RelV v u):PySem.W.handedIn u=true:=by
 cases v with
 | non=>cases (show u=Value.none from r);rfl
 | bl b=>cases (show u=Value.bool b from r);rfl
 | int i=>obtain ⟨t,e⟩:=(show ∃t,u=Value.int i t from r);cases e;rfl
 | str x=>obtain ⟨t,e⟩:=(show ∃t,u=Value.str x t from r);cases e;rfl
 | byt b=>obtain ⟨t,e⟩:=(show ∃t,u=Value.bytes b t from r);cases e;rfl
 | flt b=>obtain ⟨t,e⟩:=(show ∃t,u=Value.float b t from r);cases e;rfl
 | ref a=>cases (show u=Value.ref a from r);rfl
 | ty n=>cases (show u=Value.type n from r);rfl
section
variable {P:Program} {w:World} {H H':Hp} {h h':Heap} {a C dx:Addr} {fs fs':List (Str×V)}
theorem ins_get(hok:HOk P w H h)(e:H a=some (.ins C dx fs)):∃mA,ObjM h a dx C mA∧(∀f,RelO (fs.lookup f) (mA f))∧PySem.Within mA (fs.map (·.1))∧fs.length≤1000∧H dx=some (.own a):=by
 obtain ⟨d,z,ne,ob,mA,n,r,q⟩:=(show ObjOk P w H h a (.ins C dx fs) from hok a _ e)
 exact ⟨mA,⟨ob,n,ne⟩,r,q,z,d⟩
end
structure Cls(K:PySem.W.Frag)(C:Addr):Prop where
 pg:PySem.W.plainGet K C Str.empty=true
 hd:PySem.W.hasDictIn K C=true
 po:PySem.W.plainOver K C=true
 sa:PySem.W.findIn K (.ref C) "__setattr__"=some (some (.builtin "object.__setattr__"))
theorem Cls.get{K:PySem.W.Frag}{C:Addr}(c:Cls K C)(f:Str):PySem.W.plainGet K C f=true:=c.pg
noncomputable def NoAttr(K:PySem.W.Frag)(C:Addr)(f:Str):Prop:=PySem.W.findIn K (.ref C) f=some none
theorem NoAttr.taker{K:PySem.W.Frag}{C:Addr}{f:Str}(n:NoAttr K C f):PySem.W.takerIn K C f=some none:=by
 unfold PySem.W.takerIn
 rw [show PySem.W.findIn K (.ref C) f=some none from n]
 rfl
structure Meth(K:PySem.W.Frag)(C:Addr)(m:Str)(f:Addr):Prop where
 at_:PySem.W.findIn K (.ref C) m=some (some (.ref f))
 fn:PySem.W.isFn K (.ref f)=true
 kp:PySem.W.keepIn K (.ref f)=true
section
variable {X:Cx} {pins:List (Addr×Obj)} {σ:St} {H:Hp} {s:Shared} {a C dx:Addr} {fs:List (Str×V)} {f:Str} {v:V} {A:Around} {E:Value→Shared→Prop}
theorem getattr_ok{b:Bool}{Q:Value→Shared→Prop}(I:Inv X pins σ H s)(e:H a=some (.ins C dx fs))(c:Cls X.K C)(n:NoAttr X.K C f)(l:fs.lookup f=some v)
 (h:∀u s',Inv X pins σ H s'→RelV v u→Q u s'):wpAny (model X.prog X.w) A (getAttr (.ref a) f b) Q E s:=by
 obtain ⟨mA,O,r,_,_,_⟩:=ins_get I.hok e
 obtain ⟨u,hu,ru⟩:=RelO.some_of (v:=v) (o:=mA f) (by rw [← l];exact r f)
 exact get_map I.kIn O (c.get f) c.hd n hu (handed_of ru) (h u _ (I.tok _) ru)
theorem getmeth_ok{m:Str}{g:Addr}{pl:Sem Bool}{Q:Value×List Value→Shared→Prop}(I:Inv X pins σ H s)(e:H a=some (.ins C dx fs))(c:Cls X.K C)(k:Meth X.K C m g)(l:fs.lookup m=none)
 (h:Q (.ref g,[.ref a]) s):wpAny (model X.prog X.w) A (getMethod (.ref a) m pl) Q E s:=by
 obtain ⟨mA,O,r,_,_,_⟩:=ins_get I.hok e
 have hn:mA m=none:=RelO.none_of (by rw [← l];exact r m)
 exact get_meth I.kIn O (c.get m) k.at_ k.fn hn h
theorem setattr_ok{y:V}{u:Value}{Q:Unit→Shared→Prop}(I:Inv X pins σ H s)(e:H a=some (.ins C dx fs))(c:Cls X.K C)(n:NoAttr X.K C f)(hl:fs.length < 1000)(ry:RelV y u)
 (h:∀s',Inv X pins σ (upd H a (.ins C dx (putF f y fs))) s'→Q () s'):wpAny (model X.prog X.w) A (setAttr (.ref a) f u) Q E s:=by
 obtain ⟨mA,O,r,wi,_,ho⟩:=ins_get I.hok e
 have hz:(fs.map (·.1)).length≤sizeLine:=by rw [List.length_map,sizeLine_eq];omega
 refine set_map I.kIn O c.sa c.po n.taker c.hd wi hz fun h' O' sb=>h _ ?_
 have hd:∃o,h'.get? dx=some o:=let ⟨o,_,_,e',_⟩:=O'.ns;⟨o,e'⟩
 refine I.write (x:=a) (e:=dx) (by rw [e];exact True.intro) (.inr ho) (fun b q hb z=>(sb.2 b hb).trans z) hd ?_
 refine ⟨by rw [upd_ne O.ne];exact ho,?_,O.ne,O'.obj,_,O'.ns,fun g=>?_,fun g hg=>?_⟩
 · have:=length_putF f y fs;omega
 · show RelO ((putF f y fs).lookup g) (if g=f then some u else mA g)
   rw [lookup_putF]
   by_cases q:g=f
   · rw [if_pos q,if_pos q];exact ry
   · rw [if_neg q,if_neg q];exact r g
 · by_cases q:g=f
   · rw [q];exact (keys_putF f y fs).1
   · refine (keys_putF f y fs).2 g (wi g fun z=>hg ?_)
     show (if g=f then some u else mA g)=none
     rw [if_neg q];exact z
theorem Inv.made(I:Inv X pins σ H s):Inv X pins σ (upd (upd H s.heap.objs.size (.own (s.heap.objs.size+1))) (s.heap.objs.size+1) (.ins C s.heap.objs.size []))
 {s with heap:=(s.heap.push PySem.W.emptyDict).push (PySem.W.instObj C s.heap.objs.size)}:=by
 have e1:(s.heap.push PySem.W.emptyDict).get? s.heap.objs.size=some PySem.W.emptyDict:=Heap.get?_push_size s.heap rfl
 have e2:((s.heap.push PySem.W.emptyDict).push (PySem.W.instObj C s.heap.objs.size)).get? (s.heap.objs.size+1)=some (PySem.W.instObj C s.heap.objs.size):=by
  have:=Heap.get?_push_size (s.heap.push PySem.W.emptyDict) (o:=PySem.W.instObj C s.heap.objs.size) rfl
  rwa [Heap.size_push]at this
 have e3:(s.heap.push PySem.W.emptyDict).Ns s.heap.objs.size (fun _=>none):=⟨PySem.W.emptyDict,#[],_,e1,rfl,(fun e he=>absurd he (by simp)),fun _=>rfl⟩
 have I1:=I.laid (a:=s.heap.objs.size) (o:= .own (s.heap.objs.size+1)) (h':=s.heap.push PySem.W.emptyDict) (t':=s.toks) (fun b u q=>Heap.get?_push_of_some _ q) (Nat.le_refl _) ⟨_,e1⟩
 refine I1.laid (a:=s.heap.objs.size+1) (o:= .ins C s.heap.objs.size []) (t':=s.toks) (fun b u q=>Heap.get?_push_of_some _ q) (Nat.le_of_eq (Heap.size_push _ _)) ?_
 have ne:s.heap.objs.size≠s.heap.objs.size+1:=Nat.ne_of_lt (Nat.lt_succ_self _)
 refine ⟨by rw [upd_ne ne,upd_same],Nat.zero_le _,ne,e2,fun _=>none,(Heap.Ns1.of_empty e3).at fun o q=>Heap.get?_push_of_some _ q,fun _=>True.intro,fun y hy=>absurd rfl hy⟩
theorem attr_of{prog:Program}{w:World}{env:Env}{e:Expr}{f:Str}{pos:Pos}{s:Shared}{Q:Value→Shared→Prop}(hb:attributeBase e f env (eval e env)=eval e env)
 (h:wpAny (model prog w) A (eval e env) (fun o s₁=>wpAny (model prog w) A (getAttr o f true) Q E s₁) E s):wpAny (model prog w) A (eval (.Attribute e f pos) env) Q E s:=
 Attribute_any_ h (by rw [arm_eval_Attribute,hb])
end
noncomputable def tFld(K:PySem.W.Frag)(ta:TE)(f:Str):TE:=fun σ H Q=>ta σ H fun x H1=>∃a C dx fs v,x= .ref a∧H1 a=some (.ins C dx fs)∧Cls K C∧NoAttr K C f∧fs.lookup f=some v∧Q v H1
noncomputable def sFld(K:PySem.W.Frag)(ta tv:TE)(f:Str):TS:=fun D σ H=>tv σ H fun y H1=>ta σ H1 fun x H2=>∃a C dx fs,x= .ref a∧H2 a=some (.ins C dx fs)∧Cls K C∧NoAttr K C f∧fs.length < 1000∧
 D.nx σ (upd H2 a (.ins C dx (putF f y fs)))
noncomputable def InOp(X:Cx)(op:Operator)(rd:V→V→Hp→VK→Prop):Prop:=
 ∀(pins:List (Addr×Obj)) (s:Shared) (σ:St) (H:Hp) (x y:V) (u v:Value) (Q:VK),Inv X pins σ H s→RelV x u→RelV y v→rd x y H Q→wpAny (model X.prog X.w) X.A (inplaceOp op u v) (EP X pins σ Q) X.xe s
noncomputable def sFldAug(K:PySem.W.Frag)(ta tv:TE)(rd:V→V→Hp→VK→Prop)(f:Str):TS:=fun D σ H=>ta σ H fun x H1=>∃a C dx fs v,x= .ref a∧H1 a=some (.ins C dx fs)∧Cls K C∧NoAttr K C f∧fs.lookup f=some v∧
 tv σ H1 fun y H2=>rd v y H2 fun z H3=>∃dx' fs',H3 a=some (.ins C dx' fs')∧fs'.length < 1000∧D.nx σ (upd H3 a (.ins C dx' (putF f z fs')))
section
variable {X:Cx} {o e value:Expr} {f:Str} {pos pos' tpos:Pos} {ta tv:TE}
theorem pe_fld(he:PE X e ta)(hb:attributeBase e f X.env (eval e X.env)=eval e X.env):PE X (.Attribute e f pos) (tFld X.K ta f):=by
 intro pins s σ H Q I h
 refine attr_of hb (thn (he pins s σ H _ I h) fun u s1 hq_=>?_)
 obtain ⟨x,H1,I1,rx,a,C,dx,fs,v,ex,ea,c,n,l,q⟩:=hq_
 subst ex
 obtain rfl:u=Value.ref a:=rx
 exact getattr_ok I1 ea c n l fun u' s2 I2 ru=>⟨v,H1,I2,ru,q⟩
theorem ps_fld(ha:PE X o ta)(hv:PE X value tv)(hs:swapsWith value (some (.Attribute o f pos')) pos.line X.env=pure false):PS X (.Assign [.Attribute o f pos'] value pos) (sFld X.K ta tv f):=by
 intro pins s σ H D I h
 refine plainObj_wpAny_Assign_Attribute (thn (hv pins s σ H _ I h) fun u s1 ⟨y,H1,I1,ry,q⟩=>thn (ha pins s1 σ H1 _ I1 q) fun ov s2 hq_=>?_) hs
 obtain ⟨x,H2,I2,rx,a,C,dx,fs,ex,ea,c,n,l,q2⟩:=hq_
 subst ex
 obtain rfl:ov=Value.ref a:=rx
 exact setattr_ok I2 ea c n l ry fun s3 I3=>⟨σ,_,I3,q2⟩
theorem ps_fldaug{op:Operator}{rd:V→V→Hp→VK→Prop}(ha:PE X o ta)(hv:PE X value tv)(hop:InOp X op rd):PS X (.AugAssign (.Attribute o f tpos) op value pos) (sFldAug X.K ta tv rd f):=by
 intro pins s σ H D I h
 refine wpAny_AugAssign_AttributeAny (thn (ha pins s σ H _ I h) fun ov s1 hq_=>?_)
 obtain ⟨x,H1,I1,rx,a,C,dx,fs,v,ex,ea,c,n,l,q⟩:=hq_
 subst ex
 obtain rfl:ov=Value.ref a:=rx
 refine getattr_ok I1 ea c n l fun u s2 I2 ru=>thn (hv pins s2 σ H1 _ I2 q) fun w3 s3 ⟨y,H2,I3,ry,q3⟩=>thn (hop pins s3 σ H2 v y u w3 _ I3 ru ry q3) fun w4 s4 hq_=>?_
 obtain ⟨z,H3,I4,rz,dx',fs',ea',l',q4⟩:=hq_
 exact setattr_ok I4 ea' c n l' rz fun s5 I5=>⟨σ,_,I5,q4⟩
noncomputable def rAdd:V→V→Hp→VK→Prop:=fun x y H Q=>∃i j,x= .int i∧y= .int j∧Q (.int (i+j)) H
theorem in_add:InOp X .Add rAdd:=by
 rintro pins s σ H x y u v Q I rx ry ⟨i,j,rfl,rfl,q⟩
 obtain ⟨t,rfl⟩:=(show ∃t,u=Value.int i t from rx)
 obtain ⟨t',rfl⟩:=(show ∃t',v=Value.int j t' from ry)
 exact PyProof.Rows.iadd_int ⟨.int (i+j),H,I.tok _,⟨_,rfl⟩,q⟩
end
section
variable {X:Cx} {pins:List (Addr×Obj)} {σ:St} {H:Hp} {s:Shared} {A:Around} {E:Value→Shared→Prop} {Q:Value→Shared→Prop} {c:Value} {b:Bool}
inductive TyOf(K:PySem.W.Frag)(H:Hp):V→Value→Prop where
 | non:TyOf K H .non (.type "NoneType")
 | bl (x:Bool):TyOf K H (.bl x) (.type "bool")
 | int (i:Int):TyOf K H (.int i) (.type "int")
 | str (x:Str):TyOf K H (.str x) (.type "str")
 | flt (x:UInt64):TyOf K H (.flt x) (.type "float")
 | lst {a:Addr} {xs:List V} (e:H a=some (.lst xs)):TyOf K H (.ref a) (.type "list")
 | frz {a:Addr} {o:Obj} {xs:List V} (e:H a=some (.frz o (.lst xs))):TyOf K H (.ref a) (.type "list")
 | tup {a:Addr} {xs:List V} (e:H a=some (.tup xs)):TyOf K H (.ref a) (.type "tuple")
 | dK {a:Addr} {kvs:List (Key×V)} (e:H a=some (.dK kvs)):TyOf K H (.ref a) (.type "dict")
 | dT {a:Addr} {kvs:List (List Key×V)} (e:H a=some (.dT kvs)):TyOf K H (.ref a) (.type "dict")
 | ins {a C dx:Addr} {fs:List (Str×V)} (e:H a=some (.ins C dx fs)) (cl:Cls K C) (ha:PySem.W.findIn K (.ref C) "__class__"=some (some (.builtin "object.__class__")))
  (hn:PySem.W.specialIn K (.builtin "object.__class__") "__get__"=some (some (.builtin "getset_descriptor.__get__"))) (htk:PySem.W.takesIn K (.builtin "object.__class__")=some true)
  (hm:PySem.W.mroIn K C (.type "object")=some true):TyOf K H (.ref a) (.ref C)
theorem isinst_ok{x:V}{u t:Value}(I:Inv X pins σ H s)(rx:RelV x u)(ty:TyOf X.K H x t)(e:PySem.W.kitOne X.K t c=some b)(h:∀tk,Q (.bool b) {s with toks:=tk}):
 wpAny (model X.prog X.w) A (call (.builtin "isinstance") [u,c]) Q E s:=by
 cases ty with
 | non=>cases (show u=Value.none from rx);exact PySem.W.kia_one PySem.W.kitx_none I.kIn True.intro e (fun z=>nomatch z) h
 | bl y=>cases (show u=Value.bool y from rx);exact PySem.W.kia_one PySem.W.kitx_bool I.kIn True.intro e (fun z=>nomatch z) h
 | int i=>obtain ⟨t,q⟩:=(show ∃t,u=Value.int i t from rx);cases q;exact PySem.W.kia_one PySem.W.kitx_int I.kIn True.intro e (fun z=>nomatch z) h
 | str y=>obtain ⟨t,q⟩:=(show ∃t,u=Value.str y t from rx);cases q;exact PySem.W.kia_one PySem.W.kitx_str I.kIn True.intro e (fun z=>nomatch z) h
 | flt y=>obtain ⟨t,q⟩:=(show ∃t,u=Value.float y t from rx);cases q;exact PySem.W.kia_one PySem.W.kitx_float I.kIn True.intro e (fun z=>nomatch z) h
 | @lst a xs ea=>
  cases (show u=Value.ref a from rx)
  obtain ⟨_,_,n,_,h1⟩:=(show ObjOk X.prog X.w H s.heap a (.lst xs) from I.hok a _ ea)
  exact PySem.W.kia_one PySem.W.kitx_list I.kIn ⟨_,h1,rfl⟩ e (fun z=>nomatch z) h
 | @frz a ob xs ea=>
  cases (show u=Value.ref a from rx)
  obtain ⟨_,_,_,n,_,h1⟩:=(show ObjOk X.prog X.w H s.heap a (.frz ob (.lst xs)) from I.hok a _ ea)
  exact PySem.W.kia_one PySem.W.kitx_list I.kIn ⟨_,h1,rfl⟩ e (fun z=>nomatch z) h
 | @tup a xs ea=>
  cases (show u=Value.ref a from rx)
  obtain ⟨_,_,_,p⟩:=(show ObjOk X.prog X.w H s.heap a (.tup xs) from I.hok a _ ea)
  obtain ⟨o,h1,h2,_⟩:=p
  exact PySem.W.kia_one PySem.W.kitx_tuple I.kIn ⟨o,h1,h2⟩ e (fun z=>nomatch z) h
 | @dK a kvs ea=>
  cases (show u=Value.ref a from rx)
  obtain ⟨_,_,vs,_,p⟩:=(show ObjOk X.prog X.w H s.heap a (.dK kvs) from I.hok a _ ea)
  obtain ⟨o,es,ep,h1,h2,_⟩:=p
  exact PySem.W.kia_one PySem.W.kitx_dict I.kIn ⟨o,h1,h2.1⟩ e (fun z=>nomatch z) h
 | @dT a kvs ea=>
  cases (show u=Value.ref a from rx)
  obtain ⟨_,_,xs,_,o,es,ep,h1,h2,_⟩:=(show ObjOk X.prog X.w H s.heap a (.dT kvs) from I.hok a _ ea)
  exact PySem.W.kia_one PySem.W.kitx_dict I.kIn ⟨o,h1,h2.1⟩ e (fun z=>nomatch z) h
 | @ins a C dx fs ea cl ha hn htk hm=>
  cases (show u=Value.ref a from rx)
  obtain ⟨mA,O,_⟩:=ins_get I.hok ea
  obtain ⟨od,J,_⟩:=O.look
  exact PySem.W.kia_one (PySem.W.kitx_own (cl.get _) cl.hd ha hn htk hm) I.kIn J e (fun z=>nomatch z) h
end
end L2
namespace L2
structure Room(k:Nat)(A:Around):Prop where
 hd:A.handled=none
 dp:A.depth+3 * k+5 < recursionLimit
 un:A.units+16 * k+200 < cLine
theorem Room.mono{j k:Nat}{A:Around}(r:Room k A)(h:j≤k):Room j A:=⟨r.hd,by have:=r.dp;omega,by have:=r.un;omega⟩
theorem Room.deeper{k:Nat}{A:Around}(r:Room (k+1) A)(env:Env):Room k (A.deeper env):=
 ⟨r.hd,by have:=r.dp;show A.depth+1+3 * k+5 < _;omega,by have:=r.un;show A.units+3+16 * k+200 < _;omega⟩
theorem Room.in1{k:Nat}{A:Around}(r:Room (k+1) A):Room k A.in1:=
 ⟨r.hd,by have:=r.dp;show A.depth+3 * k+5 < _;omega,by have:=r.un;show A.units+1+16 * k+200 < _;omega⟩
theorem make_depth{A:Around}{C:Addr}{us:List Value}{kw:List (Str×Value)}:(A.under (.builtin "type.__call__" ⟨.ref C::us,kw⟩)).depth=A.depth+1:=by
 first | rfl | simp [Around.under,Code.weight,Code.isCreation,Code.isGuard,Code.isCaller,Code.frames,Code.isFrame,guardIds]
theorem make_units{A:Around}{C:Addr}{us:List Value}{kw:List (Str×Value)}:(A.under (.builtin "type.__call__" ⟨.ref C::us,kw⟩)).units=A.units+1:=by
 first | rfl | simp [Around.under,Code.cUnits,Code.frames,Code.isFrame]
theorem Room.make{k:Nat}{A:Around}(r:Room (k+1) A)(C:Addr)(us:List Value)(kw:List (Str×Value)):Room k (A.under (.builtin "type.__call__" ⟨.ref C::us,kw⟩)):=
 ⟨r.hd,by have:=r.dp;rw [make_depth];omega,by have:=r.un;rw [make_units];omega⟩
theorem Room.depth{k:Nat}{A:Around}(r:Room k A):A.depth < recursionLimit:=by have:=r.dp;omega
theorem Room.units{k:Nat}{A:Around}(r:Room k A):A.units+64 < cLine:=by have:=r.un;omega
noncomputable def tNil:TA:=fun _ H Q=>Q [] H
noncomputable def tCons(ta:TE)(tr:TA):TA:=fun σ H Q=>ta σ H fun x H1=>tr σ H1 fun xs H2=>Q (x::xs) H2
section
variable {X:Cx} {e:Expr} {es:List Expr} {te:TE} {t:TA} {pos:Pos}
theorem pa_nil:PA X [] tNil:=fun _ _ _ _ H Q I h=>Calls.spliced_nil ⟨[],H,I,.nil,h⟩
theorem pa_cons(ha:PE X e te)(hr:PA X es t)(hs:starEach (e::es) X.env=(false,eval e X.env)::starEach es X.env:=by rfl):PA X (e::es) (tCons te t):=by
 intro pos pins s σ H Q I h
 rw [hs]
 show wpAny _ _ (spliced ((false,eval e X.env)::backTo pos (starEach es X.env))) _ _ s
 refine Calls.spliced_cons (thn (ha pins s σ H _ I h) fun u s1 hq_=>?_)
 obtain ⟨x,H1,I1,r1,q1⟩:=hq_
 exact thn (hr pos pins s1 σ H1 _ I1 q1) fun us s2 ⟨xs,H2,I2,r2,q2⟩=>⟨x::xs,H2,I2,.cons r1 r2,q2⟩
noncomputable def tTup(t:TA):TE:=fun σ H Q=>t σ H fun xs H1=>xs.length≤sizeLine∧∀p,H1 p=none→Q (.ref p) (upd H1 p (.tup xs))
noncomputable def tLst(t:TA):TE:=fun σ H Q=>t σ H fun xs H1=>xs.length≤sizeLine∧∀p,H1 p=none→Q (.ref p) (upd H1 p (.lst xs))
theorem pe_tup{x1}(h:PA X es t):PE X (.Tuple es x1 pos) (tTup t):=by
 intro pins s σ H Q I hq
 refine wpAny_Tuple_spliced (thn (h pos pins s σ H _ I hq) fun us s1 ⟨xs,H1,I1,r,z,q⟩=>⟨by rw [← r.length];exact z,?_⟩)
 have hf:H1 s1.heap.objs.size=none:=I1.hok.fresh (Nat.le_refl _)
 refine ⟨.ref s1.heap.objs.size,upd H1 s1.heap.objs.size (.tup xs),I1.laid (t':=s1.toks) (fun b u e=>Heap.get?_push_of_some _ e) (Nat.le_refl _) ?_,rfl,q _ hf⟩
 exact ⟨z,us,r,⟨_,Heap.get?_push_size _ rfl,rfl,_,rfl⟩⟩
theorem pe_lst(h:PA X es t):PE X (.List es pos) (tLst t):=by
 intro pins s σ H Q I hq
 refine wpAny_List_spliced (thn (h pos pins s σ H _ I hq) fun us s1 ⟨xs,H1,I1,r,z,q⟩=>⟨by rw [← r.length];exact z,?_⟩)
 have hf:H1 s1.heap.objs.size=none:=I1.hok.fresh (Nat.le_refl _)
 refine ⟨.ref s1.heap.objs.size,upd H1 s1.heap.objs.size (.lst xs),I1.laid (t':=s1.toks) (fun b u e=>Heap.get?_push_of_some _ e) (Nat.le_refl _) ?_,rfl,q _ hf⟩
 exact ⟨z,us,0,r,Heap.get?_push_size _ rfl⟩
end
noncomputable abbrev Sp:=List V→Hp→VK→XK→Prop
noncomputable abbrev CXT:=List Env→Hp→Shared→XK→Value→Shared→Prop
structure Env0(P:Program)(w:World)(K:PySem.W.Frag)(mg:Str→Option Value)(base:Heap)(A:Around)(outer:List Env)(s:Shared)(H:Hp):Prop where
 frames:A.frames=some outer
 mod:Mod K mg base
 bs:∀b o,base.get? b=some o→s.heap.get? b=some o∧H b=none
 bsz:base.objs.size≤s.heap.objs.size
 funs:s.heap.FunFrames base outer
 frf:∀b∈frs outer,H b=none
 hok:HOk P w H s.heap
 bare:AllBare s.gens
noncomputable def CE(outer:List Env)(P:Program)(w:World)(H:Hp)(s:Shared)(Q:VK)(u:Value)(s':Shared):Prop:=
 ∃v H',s'.os=s.os∧AllBare s'.gens∧Un (frs outer) [] H H' s.heap s'.heap∧HOk P w H' s'.heap∧RelV v u∧Q v H'
noncomputable def CR(CX:CXT)(outer:List Env)(P:Program)(w:World)(H:Hp)(s:Shared)(Q:VK)(E:XK)(r:Result)(s':Shared):Prop:=
 match r with
 | .ok (.ret u)=>CE outer P w H s Q u s'
 | .ok _=>False
 | .error e=>CX outer H s E e s'
structure FnOk(P:Program)(w:World)(K:PySem.W.Frag)(mg:Str→Option Value)(base:Heap)(CX:CXT)(k:Nat)(f:Addr)(fd:FuncData)(ps:List Str)(sp:Sp):Prop where
 len:∀vs H Q E,sp vs H Q E→vs.length=ps.length
 run:∀(A:Around) (outer:List Env) (s:Shared) (H:Hp) (args:Args) (us:List Value) (vs:List V) (Q:VK) (E:XK),Room k A→Env0 P w K mg base A outer s H→BindsTo s fd args (ps.zip us)→Vals vs us→sp vs H Q E→
  codeAny (model P w) A (.call (.ref f) args) (CR CX outer P w H s Q E) s
theorem FnOk.mono{P:Program}{w:World}{K:PySem.W.Frag}{mg:Str→Option Value}{base:Heap}{CX:CXT}{j k:Nat}{f:Addr}{fd:FuncData}{ps:List Str}{sp:Sp}(F:FnOk P w K mg base CX j f fd ps sp)(h:j≤k):
 FnOk P w K mg base CX k f fd ps sp:=⟨F.len,fun A outer s H args us vs Q E hr=>F.run A outer s H args us vs Q E (hr.mono h)⟩
theorem Env0.make{P:Program}{w:World}{K:PySem.W.Frag}{mg:Str→Option Value}{base:Heap}{A:Around}{outer:List Env}{s:Shared}{H:Hp}(e:Env0 P w K mg base A outer s H)(C:Addr)(us:List Value)(kw:List (Str×Value)):
 Env0 P w K mg base (A.under (.builtin "type.__call__" ⟨.ref C::us,kw⟩)) outer s H:=⟨by first | exact e.frames | (simpa [Around.under,Code.envs,Code.isFrame,pushEnvs] using e.frames),e.mod,e.bs,e.bsz,e.funs,e.frf,e.hok,e.bare⟩
theorem Env0.in1{P:Program}{w:World}{K:PySem.W.Frag}{mg:Str→Option Value}{base:Heap}{A:Around}{outer:List Env}{s:Shared}{H:Hp}(e:Env0 P w K mg base A outer s H):
 Env0 P w K mg base A.in1 outer s H:=⟨e.frames,e.mod,e.bs,e.bsz,e.funs,e.frf,e.hok,e.bare⟩
section
variable {X:Cx} {pins:List (Addr×Obj)} {σ:St} {H:Hp} {s s':Shared}
theorem Inv.env0(I:Inv X pins σ H s):Env0 X.prog X.w X.K X.mg X.base X.A X.stack s H:=
 ⟨I.ok.frames,I.ok.mod,I.bs,Nat.le_trans I.ok.bsz I.sz,I.stack,I.stkFree,I.hok,I.bare⟩
theorem Inv.after{Q:VK}{u:Value}(I:Inv X pins σ H s)(h:CE X.stack X.prog X.w H s Q u s'):EP X pins σ Q u s':=by
 obtain ⟨v,H',os,bare,un,hok,r,q⟩:=h
 obtain ⟨hh,g,d,t,os'⟩:=s'
 obtain rfl:os'=s.os:=os
 exact ⟨v,H',I.call (h':=hh) (g':=g) (d':=d) (t':=t) (ch:=[]) un hok bare (fun b z=>absurd z (by simp)),r,q⟩
end
noncomputable def tCall(sp:Sp)(dvs:List V)(E:XK)(t:TA):TE:=fun σ H Q=>t σ H fun vs H1=>sp (vs++dvs) H1 Q E
noncomputable def Binds(K:PySem.W.Frag)(fd:FuncData)(ps:List Str)(ds:List Value):Prop:=
 ∀(s:Shared) (us:List Value),K.In s.heap→(us++ds).length=ps.length→BindsTo s fd ⟨us,[]⟩ (ps.zip (us++ds))
theorem Binds.all{K:PySem.W.Frag}{fd:FuncData}{ps:List Str}(h:∀us:List Value,us.length=ps.length→bindArgs fd ⟨us,[]⟩=pure (ps.zip us)):Binds K fd ps []:=fun s us _ hl=>by
 rw [List.append_nil]at hl ⊢
 exact .of_eq (h us hl)
noncomputable def Passes(CX:CXT)(X:Cx)(E:XK):Prop:=∀(pins:List (Addr×Obj)) (σ:St) (H:Hp) (s:Shared) (e:Value) (s':Shared),Inv X pins σ H s→CX X.stack H s E e s'→X.xe e s'
section
variable {X:Cx} {CX:CXT} {k:Nat} {f C:Addr} {fd:FuncData} {ps:List Str} {sp:Sp} {dvs:List V} {ds:List Value} {E:XK} {x m:Str} {p pos apos:Pos} {e o:Expr} {es:List Expr} {ta:TE} {t:TA}
theorem run_fn{pins:List (Addr×Obj)}{σ:St}{H:Hp}{s:Shared}{Q:VK}{us:List Value}{vs:List V}(F:FnOk X.prog X.w X.K X.mg X.base CX k f fd ps sp)(hr:Room k X.A)(hb:Binds X.K fd ps ds)(hd:Vals dvs ds)(hx:Passes CX X E)
 (I:Inv X pins σ H s) (r:Vals vs us) (h:sp (vs++dvs) H Q E):wpAny (model X.prog X.w) X.A (call (.ref f) us) (EP X pins σ Q) X.xe s:=by
 have r2:Vals (vs++dvs) (us++ds):=r.append hd
 have hl:(us++ds).length=ps.length:=by rw [← r2.length];exact F.len _ _ _ _ h
 refine wpAny_call (codeAny_mono (F.run X.A X.stack s H ⟨us,[]⟩ (us++ds) (vs++dvs) Q E hr I.env0 (hb s us I.kIn hl) r2 h) fun r s' hq=>?_)
 cases r with
 | error e=>exact hx pins σ H s e s' I hq
 | ok fl=>
  cases fl with
  | ret u=>exact I.after hq
  | next=>exact False.elim hq
  | brk=>exact False.elim hq
  | cont=>exact False.elim hq
theorem pe_call(F:FnOk X.prog X.w X.K X.mg X.base CX k f fd ps sp)(hr:Room k X.A)(hg:Gl X x)(hm:X.mg x=some (.ref f))(hk:PySem.W.keepIn X.K (.ref f)=true)(hb:Binds X.K fd ps ds)(hd:Vals dvs ds)(hx:Passes CX X E)
 (ha:PA X (e::es) t) (hdb:(x==("__debug__":Str))=false:=by decide) (he:starEach (e::es) X.env=(false,eval e X.env)::starEach es X.env:=by rfl) (hpl:(backTo pos (starEach es X.env)).any (·.1)=false:=by rfl):
 PE X (.Call (.Name x p) (e::es) [] pos) (tCall sp dvs E t):=by
 intro pins s σ H Q I h
 refine wpAny_Call_Name_kw (ld_glob I hg hm ?_ hdb)
 refine PySem.W.callWith_K (h₀:=X.base) I.ok.mod.kin hk (thn (ha pos pins s σ H _ I h) fun us s1 ⟨vs,H1,I1,r,q⟩=>⟨I1.kIn,?_⟩) he hpl
 exact run_fn F hr hb hd hx I1 r q
structure Mk(K:PySem.W.Frag)(C f:Addr):Prop where
 makes:PySem.W.makesIn K C=true
 init:PySem.W.findIn K (.ref C) "__init__"=some (some (.ref f))
 fn:PySem.W.isFn K (.ref f)=true
 kp:PySem.W.keepIn K (.ref C)=true
end
structure FnScope(N P:List Str)(sc:Scope):Prop where
 kind:sc.kind= .function
 co:sc.isCoroutine=false
 gen:sc.isGenerator=false
 nd:N.Nodup
 pre:N.take P.length=P
 par:∀x∈P,sc.names.lookup x=some .local∨sc.names.lookup x=some .cell
 nofree:∀y∈sc.names,y.2≠ .free
theorem bindL_out{kindOf:Str→Option NameKind}{x:Str}:∀{binds:List (Str×Value)} {m:Str→Option Value},(∀v,(x,v)∉binds)→bindL kindOf binds m x=m x
 | [],_,_=>rfl
 | (n,v)::r,m,h=>by
  unfold bindL
  rw [bindL_out fun w hw=>h w (List.mem_cons_of_mem _ hw)]
  split
  · have:x≠n:=by rintro rfl;exact h v List.mem_cons_self
    simp [this]
  · rfl
theorem bindC_out{kindOf:Str→Option NameKind}{x:Str}:∀{binds:List (Str×Value)} {m:Str→Option Value},(∀v,(x,v)∉binds)→bindC kindOf binds m x=m x
 | [],_,_=>rfl
 | (n,v)::r,m,h=>by
  unfold bindC
  rw [bindC_out fun w hw=>h w (List.mem_cons_of_mem _ hw)]
  split
  · rfl
  · have:x≠n:=by rintro rfl;exact h v List.mem_cons_self
    simp [this]
theorem bindL_get{kindOf:Str→Option NameKind}{x:Str}{v:Value}:∀{P:List Str} {vs:List Value} {i:Nat} {m:Str→Option Value},P.Nodup→P[i]?=some x→vs[i]?=some v→kindOf x=some .local→
 bindL kindOf (P.zip vs) m x=some v
 | [],_,_,_,_,h,_,_=>by simp at h
 | _::_,[],_,_,_,_,h,_=>by simp at h
 | p::P,w::vs,0,m,nd,h1,h2,hk=>by
  simp at h1 h2;subst h1;subst h2
  show bindL kindOf ((p,w)::P.zip vs) m p=_
  unfold bindL
  rw [bindL_out fun v hv=>(List.nodup_cons.mp nd).1 (List.of_mem_zip hv).1,if_pos hk]
  simp
 | p::P,w::vs,i+1,m,nd,h1,h2,hk=>by
  show bindL kindOf ((p,w)::P.zip vs) m x=_
  unfold bindL
  exact bindL_get (i:=i) (List.nodup_cons.mp nd).2 (by simpa using h1) (by simpa using h2) hk
theorem bindC_get{kindOf:Str→Option NameKind}{x:Str}{v:Value}:∀{P:List Str} {vs:List Value} {i:Nat} {m:Str→Option Value},P.Nodup→P[i]?=some x→vs[i]?=some v→kindOf x≠some .local→
 bindC kindOf (P.zip vs) m x=some v
 | [],_,_,_,_,h,_,_=>by simp at h
 | _::_,[],_,_,_,_,h,_=>by simp at h
 | p::P,w::vs,0,m,nd,h1,h2,hk=>by
  simp at h1 h2;subst h1;subst h2
  show bindC kindOf ((p,w)::P.zip vs) m p=_
  unfold bindC
  rw [bindC_out fun v hv=>(List.nodup_cons.mp nd).1 (List.of_mem_zip hv).1,if_neg hk]
  simp
 | p::P,w::vs,i+1,m,nd,h1,h2,hk=>by
  show bindC kindOf ((p,w)::P.zip vs) m x=_
  unfold bindC
  exact bindC_get (i:=i) (List.nodup_cons.mp nd).2 (by simpa using h1) (by simpa using h2) hk
noncomputable def start(N:List Str)(vs:List V):St:=vs.map some++List.replicate (N.length - vs.length) none
noncomputable def cxOf(CX:CXT)(P:Program)(w:World)(K:PySem.W.Frag)(mg:Str→Option Value)(base:Heap)(N:List Str)(qual:Str)(scope:Scope)(f:Addr)(cd:Value)(A:Around)(outer:List Env)(s:Shared)(H:Hp)(E:XK):Cx where
 prog:=P
 w:=w
 K:=K
 mg:=mg
 base:=base
 A:=A.deeper (envOfC qual scope s.heap.objs.size f cd)
 N:=N
 s₀:=s
 H₀:=H
 env:=envOfC qual scope s.heap.objs.size f cd
 outer:=outer
 stack:=envOfC qual scope s.heap.objs.size f cd::outer
 ex:=[]
 calm:=true
 fn:=fun _=>true
 pn:=[]
 xe:=fun e s'=>wpAny (model P w) (A.deeper (envOfC qual scope s.heap.objs.size f cd)) (leaving (envOfC qual scope s.heap.objs.size f cd) e) (fun _ s''=>CX outer H s E e s'') (fun e' s''=>CX outer H s E e' s'') s'
theorem cell_has{sc:Scope}{n:Nat}{x:Str}(h:sc.names.lookup x=some .cell):∃c,(cellsFrom n sc.names []).lookup x=some c:=by
 have q:=PySem.W.cellsFrom_some sc.names n [] (.inl h)
 exact Option.isSome_iff_exists.mp q
theorem inv_start{CX:CXT}{P:Program}{w:World}{K:PySem.W.Frag}{mg:Str→Option Value}{base:Heap}{N ps:List Str}{qual:Str}{scope:Scope}{f:Addr}{cd:Value}{A:Around}{outer:List Env}{s s1:Shared}{H:Hp}{E:XK}{us:List Value}{vs:List V}
 (S:FnScope N ps scope) (hd:A.handled=none) (e0:Env0 P w K mg base A outer s H) (hl:vs.length=ps.length) (r:Vals vs us)
 (x:InCallC s s.heap.objs.size (bindL (envOfC qual scope s.heap.objs.size f cd).kindOf (ps.zip us) fun _=>none) (cellsFrom (s.heap.objs.size+1) scope.names []) (bindC (envOfC qual scope s.heap.objs.size f cd).kindOf (ps.zip us) fun _=>none) s1):
 Inv (cxOf CX P w K mg base N qual scope f cd A outer s H E) [] (start N vs) H s1:=by
 have hpl:ps.length≤N.length:=by have:=congrArg List.length S.pre;rw [List.length_take]at this;omega
 obtain ⟨h1,tk,rfl,hk⟩:=x.done
 have noA:∀b:Addr,b∉(cxOf CX P w K mg base N qual scope f cd A outer s H E).ex:=fun b z=>absurd (show b∈([]:List Addr) from z) (by simp)
 refine ⟨⟨e0.mod,S.kind,rfl,rfl,Nat.le_refl _,fun y z c h1 h2=>?_,fun y hy=>?_,fun y c _ h=>?_,fun _=>hd,Around.frames_deeper e0.frames,.inr ⟨rfl,rfl⟩,fun b z=>absurd z (noA b),e0.bs,e0.bsz,fun b _ _=>noA b,fun b z=>absurd z (noA b),e0.funs,e0.frf⟩,
  rfl,e0.bare,Un.kept hk,⟨_,x.toInCall.ns,fun i y v h1 h2 h3=>?_⟩,fun y c h=>⟨_,x.cell y c h⟩,e0.hok.fresh (Nat.le_refl _),fun y c h=>?_,fun p hp=>absurd (show p∈([]:List (Addr×Obj)) from hp) (by simp),e0.hok.kept hk,?_⟩
 · exact name_of_addr x.apart (PySem.mem_of_lookup h1) (PySem.mem_of_lookup h2)
 · have hy:scope.names.lookup y=some .cell∨scope.names.lookup y=some .free:=hy
   rcases hy with hy | hy
   · exact cell_has hy
   · exact absurd rfl (S.nofree _ (PySem.mem_of_lookup hy))
 · exact Nat.le_of_lt (x.above y c (PySem.mem_of_lookup h))
 · have hi:i < vs.length:=by
    unfold start at h2
    by_cases hi:i < vs.length
    · exact hi
    · rw [List.getElem?_append_right (by simpa using hi)]at h2
      rw [List.getElem?_replicate]at h2
      split at h2 <;> cases h2
   have ha:vs[i]?=some v:=by
    unfold start at h2
    rw [List.getElem?_append_left (by simpa using hi),List.getElem?_map]at h2
    cases e:vs[i]? with
    | none=>rw [e]at h2;cases h2
    | some a=>rw [e]at h2;cases h2;rfl
   obtain ⟨u,hu,rv⟩:=r.get ha
   have hp:ps[i]?=some y:=by
    rw [← S.pre,List.getElem?_take_of_lt (by omega)];exact h1
   have ndP:ps.Nodup:=by rw [← S.pre];exact S.nd.sublist (List.take_sublist _ _)
   refine ⟨u,rv,?_⟩
   rcases S.par y (List.mem_of_getElem? hp) with k | k
   · exact .inl ⟨k,bindL_get ndP hp hu k⟩
   · obtain ⟨c,e⟩:=cell_has (n:=s.heap.objs.size+1) k
     refine .inr ⟨.inl k,c,e,?_⟩
     have q:=x.cell y c e
     rw [bindC_get ndP hp hu (by show scope.names.lookup y≠_;rw [k];decide)]at q
     exact q
 · exact e0.hok.fresh (Nat.le_of_lt (x.above y c (PySem.mem_of_lookup h)))
 · unfold start
   show _=N.length
   rw [List.length_append,List.length_map,List.length_replicate]
   omega
theorem fn_of{CX:CXT}{P:Program}{w:World}{K:PySem.W.Frag}{mg:Str→Option Value}{base:Heap}{k:Nat}{f:Addr}{name qual:Str}{params:Arguments}{body:List Stmt}{scope:Scope}{dV kV doc pm cdv ct oc:Value}{an od:Option Addr}
 {osl:Array (Option Value)} {N ps:List Str} {sp:Sp} (lk:K.lookup f=some ⟨oc,od,.func (PySem.W.fnOf name qual params body scope dV kV doc pm an cdv ct),osl⟩) (hcd:PySem.W.codeIn K cdv qual=true) (S:FnScope N ps scope)
 (len:∀vs H Q E,sp vs H Q E→vs.length=ps.length)
 (hbody:∀(A:Around) (outer:List Env) (s:Shared) (H:Hp) (vs:List V) (Q:VK) (E:XK),Room k (A.deeper (envOfC qual scope s.heap.objs.size f cdv))→sp vs H Q E→
  ∃t,PSs (cxOf CX P w K mg base N qual scope f cdv A outer s H E) body t∧t {nx:=fun _ H'=>Q .non H',rt:=Q} (start N vs) H):
 FnOk P w K mg base CX (k+1) f (PySem.W.fnOf name qual params body scope dV kV doc pm an cdv ct) ps sp:=by
 refine ⟨len,fun A outer s H args us vs Q E hr e0 hb r hsp=>?_⟩
 have hl:=len _ _ _ _ hsp
 have KX:K.In s.heap:=e0.mod.kin.keeps fun b o e=>(e0.bs b o e).1
 have lim:s.heap.NoLimit:=e0.mod.nolimit.keeps fun b o e=>(e0.bs b o e).1
 have hkind:∀y∈ps.zip us,scope.names.lookup y.1=some .local∨(scope.names.lookup y.1=some .cell∧((cellsFrom (s.heap.objs.size+1) scope.names []).lookup y.1).isSome=true):=fun ⟨n,v⟩ hy=>by
  rcases S.par n (List.of_mem_zip hy).1 with q | q
  · exact .inl q
  · exact .inr ⟨q,PySem.W.cellsFrom_some _ _ _ (.inl q)⟩
 refine codeAny_call_function hr.depth (KX _ _ lk) rfl S.co S.gen rfl (PySem.W.codeRec_of KX hcd) (hb _ _ _ _ ?_)
 refine wpAny_newFunctionEnv_cells S.kind hkind fun env he s1 x=>?_
 subst he
 refine ⟨lim.keeps x.toInCall.keep,codeAny_func ?_⟩
 obtain ⟨t,ht,hq⟩:=hbody A outer s H vs Q E (hr.deeper _) hsp
 have I:Inv (cxOf CX P w K mg base N qual scope f cdv A outer s H E) [] (start N vs) H s1:=inv_start S hr.hd e0 hl r x
 refine wpAny_mono (ht [] s1 (start N vs) H _ I hq) (fun fl s' hs=>?_) fun e s' hs=>hs
 have fin:∀{σ':St} {H':Hp} {v:V} {u:Value},Inv (cxOf CX P w K mg base N qual scope f cdv A outer s H E) [] σ' H' s'→RelV v u→Q v H'→CE outer P w H s Q u s':=
  fun {σ' H' v u} J rv q=>⟨v,H',J.os,J.bare,J.base,J.hok,rv,q⟩
 cases fl with
 | ret u=>
  obtain ⟨v,σ',H',J,rv,q⟩:=hs
  exact fin J rv q
 | next=>
  obtain ⟨σ',H',J,q⟩:=hs
  exact fin (v:=V.non) (u:=Value.none) J rfl q
 | brk=>
  obtain ⟨_,_,_,q⟩:=hs
  exact False.elim q
 | cont=>
  obtain ⟨_,_,_,q⟩:=hs
  exact False.elim q
end L2
namespace L2
section
variable {X:Cx} {x:Str} {p pos:Pos} {e:Expr} {es:List Expr} {t:TA} {id T:String} {r:List V→Hp→VK→Prop}
noncomputable def tCB(r:List V→Hp→VK→Prop)(t:TA):TE:=fun σ H Q=>t σ H fun vs H1=>r vs H1 Q
theorem pe_callB(hc:CallR X (.builtin id) r)(hg:Gl X x)(hm:X.mg x=none)(hv:bootBuiltins x=some (.builtin id))(ha:PA X (e::es) t)(hn:x≠"__name__":=by decide)(hdb:(x==("__debug__":Str))=false:=by decide)
 (he:starEach (e::es) X.env=(false,eval e X.env)::starEach es X.env:=by rfl) (hpl:(backTo pos (starEach es X.env)).any (·.1)=false:=by rfl):PE X (.Call (.Name x p) (e::es) [] pos) (tCB r t):=by
 intro pins s σ H Q I h
 refine wpAny_Call_Name_kw (ld_blt I hg hm hv ?_ hn hdb)
 exact PyProof.Rows.callWith_builtin1 (thn (ha pos pins s σ H _ I h) fun us s1 ⟨vs,H1,I1,r1,q1⟩=>hc pins s1 σ H1 vs us Q I1 r1 q1) he hpl
theorem pe_callTy(hc:CallR X (.type T) r)(hg:Gl X x)(hm:X.mg x=none)(hv:bootBuiltins x=some (.type T))(ha:PA X (e::es) t)(hn:x≠"__name__":=by decide)(hdb:(x==("__debug__":Str))=false:=by decide)
 (he:starEach (e::es) X.env=(false,eval e X.env)::starEach es X.env:=by rfl) (hpl:(backTo pos (starEach es X.env)).any (·.1)=false:=by rfl):PE X (.Call (.Name x p) (e::es) [] pos) (tCB r t):=by
 intro pins s σ H Q I h
 refine wpAny_Call_Name_kw (ld_blt I hg hm hv ?_ hn hdb)
 exact PyProof.Rows.callWith_type1 (thn (ha pos pins s σ H _ I h) fun us s1 ⟨vs,H1,I1,r1,q1⟩=>hc pins s1 σ H1 vs us Q I1 r1 q1) he hpl
end
end L2
namespace HT
open PySem PyProof.Rows
noncomputable def lexLt:List Int→List Int→Bool
 | [],[]=>false
 | [],_::_=>true
 | _::_,[]=>false
 | x::xs,y::ys=>if x=y then lexLt xs ys else decide (x < y)
theorem lexLt_cons(x y:Int)(xs ys:List Int):lexLt (x::xs) (y::ys)=if x=y then lexLt xs ys else decide (x < y):=rfl
theorem lexLt_nil_nil:lexLt [] []=false:=rfl
theorem lexLt_nil_cons(y:Int)(ys:List Int):lexLt [] (y::ys)=true:=rfl
theorem lexLt_cons_nil(x:Int)(xs:List Int):lexLt (x::xs) []=false:=rfl
theorem eqAt_int(A:Around)(s:Shared)(a:Int)(t:Tok)(c:Int)(u:Tok):∃e,SeqAt.EqAt A s (.int a t) (.int c u) e∧(e=true↔a=c):=
 ⟨(a==c),SeqAt.EqAt.int_int a t c u,by simp⟩
theorem rcLt_int(A:Around)(s:Shared)(a:Int)(t:Tok)(c:Int)(u:Tok)(prog:Program)(w:World)(E:Value→Shared→Prop)(Q:Value→Shared→Prop)(h:Q (.bool (decide (a < c))) s):
 wpAny (model prog w) A (richCompare .Lt (.int a t) (.int c u)) Q E s:=
 (PyProof.Rows.lt_int h:wpAny (model prog w) A (compareOp .Lt (.int a t) (.int c u)) Q E s)
section
open PySem.SeqAt
open PySem.AutoSeq1 (wpAny_loadPart')
open PySem.MeetsSeq PySem.MeetsSeq2 PySem.MeetsSeq3
theorem tuple_lt_ints(l b:Addr)(items items2:Array Value)(n n2:Nat)(dd dd2:Option Addr)(sl sl2:Array (Option Value))(ns ms:List Int)(hi:IntsAre items.toList ns)(hj:IntsAre items2.toList ms):
 Meets (Builtin.«tuple.__lt__» ⟨[.ref l,.ref b],[]⟩)
  (fun _ R s=>s.heap.get? l=some {cls:= .type "tuple",dict:=dd,data:= .seq items n,slots:=sl}∧s.heap.get? b=some {cls:= .type "tuple",dict:=dd2,data:= .seq items2 n2,slots:=sl2}∧
   R (.ok (.ret (.bool (lexLt ns ms)))) s):=
 .of_wp fun prog w A R s h=>by
  obtain ⟨hp,g,d,tk,os⟩:=s;obtain ⟨hl,hb,h⟩:=h
  have f2:=AutoSeq1.sub_tuple_tuple
  have z1:items.size=ns.length:=by rw [← hi.length];simp
  have z2:items2.size=ms.length:=by rw [← hj.length];simp
  wp_walk using wpAny_loadPart' hl,wpAny_loadPart' hb,wpAny_forIn_list _ (fun rest b s'=>b.1=none∧s'=⟨hp,g,d,tk,os⟩∧∃(vs ws:List Value) (ns' ms':List Int),rest=vs.zip ws∧
   IntsAre vs ns'∧IntsAre ws ms'∧ns'.length+items2.size=ms'.length+items.size∧R (.ok (.ret (.bool (lexLt ns' ms')))) ⟨hp,g,d,tk,os⟩) _
  case turn=>
   rintro ⟨y,x⟩ rest b s' ⟨hb',rfl,vs,ws,ns',ms',hz,hvi,hwi,hlen,hR⟩
   cases hvi with
   | nil=>rw [List.zip_nil_left]at hz;cases hz
   | cons a t hvi'=>
    cases hwi with
    | nil=>rw [List.zip_nil_right]at hz;cases hz
    | cons c u hwi'=>
     rw [List.zip_cons_cons]at hz
     injection hz with hyx hrest
     injection hyx with hy hx
     subst hy hx
     rw [lexLt_cons]at hR
     simp only [List.length_cons]at hlen
     obtain ⟨e,he,hiff⟩:=eqAt_int A.in1 ⟨hp,g,d,tk,os⟩ a t c u
     refine wpAny_bind (he prog w _ _ ?_)
     cases e with
     | true=>
      rw [if_pos (hiff.mp rfl)]at hR
      wp_walk
      exact ⟨rfl,rfl,_,_,_,_,hrest,hvi',hwi',by omega,hR⟩
     | false=>
      rw [if_neg (fun q=>absurd (hiff.mpr q) Bool.false_ne_true)]at hR
      have hri:=rcLt_int A.in1 ⟨hp,g,d,tk,os⟩ a t c u prog w
      wp_walk using hri
      exact ⟨_,rfl,by simpa using hR⟩
  case fin=>
   rintro ⟨b1,b2⟩ s' ⟨hb',rfl,vs,ws,ns',ms',hz,hvi,hwi,hlen,hR⟩
   simp only at hb'
   subst hb'
   have hv:lexLt ns' ms'=decide (items.size < items2.size):=by
    cases hvi with
    | nil=>
     cases hwi with
     | nil=>
      simp only [List.length_nil]at hlen
      rw [lexLt_nil_nil]
      exact (decide_eq_false (by omega)).symm
     | cons c u hw=>
      simp only [List.length_nil,List.length_cons]at hlen
      rw [lexLt_nil_cons]
      exact (decide_eq_true (by omega)).symm
    | cons a t hv=>
     cases hwi with
     | nil=>
      simp only [List.length_nil,List.length_cons]at hlen
      rw [lexLt_cons_nil]
      exact (decide_eq_false (by omega)).symm
     | cons c u hw=>
      rw [List.zip_cons_cons]at hz
      cases hz
   rw [hv]at hR
   wp_walk
   exact ⟨_,rfl,by simpa [Builtin.Tuple.tupleCompareSizes] using hR⟩
  case h=>
   exact ⟨rfl,rfl,items.toList,items2.toList,ns,ms,rfl,hi,hj,by omega,h⟩
end
section
variable {prog:Program} {w:World} {A:Around} {E:Value→Shared→Prop} {s:Shared}
theorem lt_tupInts{l b:Addr}{items items2:Array Value}{ns ms:List Int}{Q:Value→Shared→Prop}(hl:IsTup s.heap l items)(hb:IsTup s.heap b items2)(hi:IntsAre items.toList ns)(hj:IntsAre items2.toList ms)
 (hu:A.units < cLine) (h:Q (.bool (lexLt ns ms)) s):wpAny (model prog w) A (compareOp .Lt (.ref l) (.ref b)) Q E s:=by
 obtain ⟨⟨cls,dd,data,sl⟩,ho,hc,n,hd⟩:=id hl
 obtain ⟨⟨cls2,dd2,data2,sl2⟩,ho2,hc2,n2,hd2⟩:=id hb
 simp only at hc hd hc2 hd2
 subst hc hd hc2 hd2
 exact richCompare_meets_room (op:= .Lt) ⟨_,ho,rfl⟩ ⟨_,ho2,rfl⟩ PySem.F.slot_tuple_lt PySem.F.entry_tuple_lt (PySem.F.args_tuple_lt_2 _ _) (tuple_lt_ints l b items items2 n n2 dd dd2 sl sl2 ns ms hi hj)
  ⟨ho,ho2,show Value.bool (lexLt ns ms)≠Value.notImplemented∧Q (.bool (lexLt ns ms)) s from ⟨(fun x=>nomatch x),h⟩⟩ hu
noncomputable def sIx(n d:Nat):Option Int→Nat
 | none=>d
 | some v=>if v < 0 then (v+(n:Int)).toNat else min v.toNat n
theorem sIx_nat(n d k:Nat):sIx n d (some (k:Int))=min k n:=by
 show (if (k:Int) < 0 then ((k:Int)+(n:Int)).toNat else min (k:Int).toNat n)=min k n
 rw [if_neg (by omega),Int.toNat_natCast]
end
end HT
namespace L2
noncomputable abbrev TO:=St→Hp→(Option Int→Hp→Prop)→Prop
noncomputable def PO(X:Cx)(e:Option Expr)(t:TO):Prop:=
 ∀(pins:List (Addr×Obj)) (s:Shared) (σ:St) (H:Hp) (Q:Option Int→Hp→Prop),Inv X pins σ H s→t σ H Q→
   wpAny (model X.prog X.w) X.A (evalPart e X.env) (fun u s'=>∃o H',Inv X pins σ H' s'∧IsPart u o∧Q o H') X.xe s
noncomputable def tNoPart:TO:=fun _ H Q=>Q none H
noncomputable def tPart(t:TE):TO:=fun σ H Q=>t σ H fun x H1=>∃i,x= .int i∧Q (some i) H1
theorem intsAre_of{ns:List Int}:∀{us:List Value},Vals (ns.map V.int) us→IntsAre us ns:=by
 induction ns with
 | nil=>intro us r;rw [List.map_nil]at r;cases r;exact .nil
 | cons n ns ih=>
  intro us r
  rw [List.map_cons]at r
  cases r with
  | cons r1 r2=>
   obtain ⟨t,e⟩:=r1
   subst e
   exact .cons n t (ih r2)
section
variable {X:Cx} {e:Expr} {te:TE} {lo hi:Option Expr} {tl th:TO} {pos p2:Pos}
theorem po_none:PO X none tNoPart:=by
 intro pins s σ H Q I h
 rw [evalPart_none]
 exact wpAny_pure ⟨none,H,I,.none,h⟩
theorem po_some(h:PE X e te):PO X (some e) (tPart te):=by
 intro pins s σ H Q I hw
 rw [evalPart_some]
 refine thn (h pins s σ H _ I hw) fun u s1 hq_=>?_
 obtain ⟨x,H1,I1,r1,q1⟩:=hq_
 obtain ⟨i,rfl,q⟩:=q1
 obtain ⟨t,rfl⟩:=r1
 exact ⟨some i,H1,I1,.int i t,q⟩
noncomputable def SlR(X:Cx)(r:V→Option Int→Option Int→Hp→VK→Prop):Prop:=
 ∀(pins:List (Addr×Obj)) (s:Shared) (σ:St) (H:Hp) (x:V) (v vl vu:Value) (lo hi:Option Int) (sl:Addr) (Q:VK),Inv X pins σ H s→RelV x v→s.heap.IsSliceOf sl vl vu .none→IsPart vl lo→IsPart vu hi→r x lo hi H Q→
   ∃T id,typeLookup (.type T) "__getitem__"=pure (some (.builtin id))∧s.TypeIs v T∧wpAny (model X.prog X.w) X.A (getItem v (.ref sl)) (EP X pins σ Q) X.xe s
noncomputable def tSl(r:V→Option Int→Option Int→Hp→VK→Prop)(te:TE)(tl th:TO):TE:=fun σ H Q=>te σ H fun x H1=>tl σ H1 fun l H2=>th σ H2 fun u H3=>r x l u H3 Q
theorem pe_slice{r:V→Option Int→Option Int→Hp→VK→Prop}(hr:SlR X r)(he:PE X e te)(hl:PO X lo tl)(hu:PO X hi th):PE X (.Subscript e (.Slice lo hi none p2) pos) (tSl r te tl th):=by
 intro pins s σ H Q I h
 refine Subscript_ (thn (he pins s σ H _ I h) fun v s1 hq_=>?_)
 obtain ⟨x,H1,I1,r1,q1⟩:=hq_
 refine wpAny_Slice (thn (hl pins s1 σ H1 _ I1 q1) fun vl s2 ⟨l,H2,I2,pl,q2⟩=>thn (hu pins s2 σ H2 _ I2 q2) fun vu s3 hq_=>?_)
 obtain ⟨u,H3,I3,pu,q3⟩:=hq_
 rw [evalPart_none]
 refine wpAny_pure ?_
 have I4:Inv X pins σ H3 {s3 with heap:=s3.heap.push {cls:= .type "slice",data:= .fields #[vl,vu,.none]}}:=I3.kept (t':=s3.toks) fun b ob q=>Heap.get?_push_of_some _ q
 obtain ⟨T,id,hT,ht,hg⟩:=hr pins {s3 with heap:=s3.heap.push {cls:= .type "slice",data:= .fields #[vl,vu,.none]}} σ H3 x v vl vu l u s3.heap.objs.size Q I4 r1 (Heap.IsSliceOf.new ..) pl pu q3
 show wpAny (model X.prog X.w) X.A (subscriptTail e (.Slice lo hi none p2) v (.ref s3.heap.objs.size)) (EP X pins σ Q) X.xe {s3 with heap:=s3.heap.push {cls:= .type "slice",data:= .fields #[vl,vu,.none]}}
 exact tail_any (ops:=[.ref s3.heap.objs.size,v]) ht hT hg (by with_unfolding_all rfl)
noncomputable def cutV(xs:List V)(lo hi:Option Int):List V:=(xs.drop (HT.sIx xs.length 0 lo)).take (HT.sIx xs.length xs.length hi - HT.sIx xs.length 0 lo)
theorem cutV_length(xs:List V)(lo hi:Option Int):(cutV xs lo hi).length≤xs.length:=by
 unfold cutV
 rw [List.length_take,List.length_drop]
 omega
end
end L2
namespace L2
noncomputable def ixN(n:Nat)(i:Int):Option Nat:=if 0≤i then (if i < n then some i.toNat else none) else if -(n:Int)≤i then some (i+n).toNat else none
noncomputable def atI{α:Type}(xs:List α)(i:Int):Option α:=(ixN xs.length i).bind fun j=>xs[j]?
theorem ixN_seq{n:Nat}{i:Int}{j:Nat}(h:ixN n i=some j):seqIndex? i n=some j∧j < n∧-(n:Int)≤i∧i < n:=by
 unfold ixN at h
 by_cases h0:0≤i
 · rw [if_pos h0]at h
   by_cases h1:i < n
   · rw [if_pos h1]at h
     have e:i.toNat=j:=Option.some.inj h
     exact ⟨by rw [seqIndex_of h0 h1,e],by omega,by omega,h1⟩
   · rw [if_neg h1]at h;cases h
 · rw [if_neg h0]at h
   by_cases h1:-(n:Int)≤i
   · rw [if_pos h1]at h
     have e:(i+n).toNat=j:=Option.some.inj h
     exact ⟨by rw [seqIndex_neg (by omega) h1,e],by omega,h1,by omega⟩
   · rw [if_neg h1]at h;cases h
theorem atI_get{α:Type}{xs:List α}{i:Int}{v:α}(h:atI xs i=some v):∃j,seqIndex? i xs.length=some j∧xs[j]?=some v∧j < xs.length∧-(xs.length:Int)≤i∧i < xs.length:=by
 unfold atI at h
 cases e:ixN xs.length i with
 | none=>rw [e]at h;cases h
 | some j=>
  rw [e]at h
  obtain ⟨h1,h2,h3,h4⟩:=ixN_seq e
  exact ⟨j,h1,h,h2,h3,h4⟩
theorem atI_nat{α:Type}{xs:List α}{j:Nat}{v:α}(h:xs[j]?=some v):atI xs (j:Int)=some v:=by
 have hj:j < xs.length:=(List.getElem?_eq_some_iff.mp h).1
 have e:ixN xs.length (j:Int)=some j:=by
  unfold ixN
  rw [if_pos (by omega),if_pos (by omega)];simp
 unfold atI;rw [e];exact h
noncomputable def PlainIx(b:Expr):Prop:=∀o i,subscripted b false o i=operate [o,i] (getItem o i)
noncomputable def IxR(X:Cx)(r:R2):Prop:=
 ∀(value slice:Expr) (pins:List (Addr×Obj)) (s:Shared) (σ:St) (H:Hp) (x y:V) (v u:Value) (Q:VK),Inv X pins σ H s→RelV x v→RelV y u→r x y H Q→
   subscripted slice false v u=operate [v,u] (getItem v u)→wpAny (model X.prog X.w) X.A (subscriptTail value slice v u) (EP X pins σ Q) X.xe s
noncomputable def MtR(X:Cx)(id:String)(r:V→List V→Hp→VK→Prop):Prop:=
 ∀(pins:List (Addr×Obj)) (s:Shared) (σ:St) (H:Hp) (x:V) (xs:List V) (v:Value) (us:List Value) (Q:VK),Inv X pins σ H s→RelV x v→Vals xs us→r x xs H Q→
   wpAny (model X.prog X.w) X.A (call (.builtin id) (v::us)) (EP X pins σ Q) X.xe s
section
variable {X:Cx} {a b:Expr} {ta tb:TE} {pos:Pos}
theorem pe_ix{r:R2}(hr:IxR X r)(ha:PE X a ta)(hb:PE X b tb)(hs:PlainIx b):PE X (.Subscript a b pos) (tOp r ta tb):=by
 intro pins s σ H Q I h
 exact Subscript_ (binT ha hb I h fun v u s2 x y H2 I2 rx ry q=>hr a b pins s2 σ H2 x y v u Q I2 rx ry q (hs _ _))
noncomputable def rIxL(K:PySem.W.Frag):R2:=fun x y H Q=>∃p xs i v,x= .ref p∧y= .int i∧SqL K H p xs∧atI xs i=some v∧Q v H
noncomputable def rIxT(K:PySem.W.Frag):R2:=fun x y H Q=>∃p xs i v,x= .ref p∧y= .int i∧SqT K H p xs∧atI xs i=some v∧Q v H
noncomputable def rIxS:R2:=fun x y H Q=>∃z i c,x= .str z∧y= .int i∧z.length≤sizeLine∧atI z.cps.toList i=some c∧Q (.str ⟨#[c]⟩) H
theorem ix_list:IxR X (rIxL X.K):=by
 intro value slice pins s σ H x y v u Q I rx ry h hs
 obtain ⟨p,xs,i,z,rfl,rfl,hq,he,q⟩:=h
 cases rx
 obtain ⟨t,rfl⟩:=ry
 obtain ⟨its,r,pl,hz⟩:=I.list hq
 obtain ⟨j,h1,h2,h3,h4,h5⟩:=atI_get he
 obtain ⟨w,ew,rw'⟩:=r.get h2
 have hl:=r.length
 have hn:=line63
 have fin:EP X pins σ Q w s:=⟨z,H,I,rw',q⟩
 by_cases h0:0≤i
 · have hj:i.toNat=j:=by
    rw [seqIndex_of h0 h5]at h1
    exact Option.some.inj h1
   exact item_listR pl.isList h0 (by omega) (by rw [hj];simpa using ew) fin hs
 · have hj:(i+(its.toArray.size:Int)).toNat=j:=by
    rw [seqIndex_neg (by omega) h4]at h1
    rw [List.size_toArray,← hl]
    exact Option.some.inj h1
   exact subscriptTail_builtinR (x:=w) pl.isList.typeIs slot_list_getitem.lookup
    (wpAny_getItem_list_neg (Q:=fun r s'=>r=w∧EP X pins σ Q r s') pl.isList (by omega) (by rw [List.size_toArray] <;> omega) (by omega) (by rw [hj];simpa using ew) ⟨rfl,fin⟩) hs
theorem ix_tup:IxR X (rIxT X.K):=by
 intro value slice pins s σ H x y v u Q I rx ry h hs
 obtain ⟨p,xs,i,z,rfl,rfl,hq,he,q⟩:=h
 cases rx
 obtain ⟨t,rfl⟩:=ry
 obtain ⟨its,r,pl,hz⟩:=I.tuple hq
 obtain ⟨j,h1,h2,h3,h4,h5⟩:=atI_get he
 obtain ⟨w,ew,rw'⟩:=r.get h2
 have hl:=r.length
 have hn:=line63
 have fin:EP X pins σ Q w s:=⟨z,H,I,rw',q⟩
 exact subscriptTail_builtinR (x:=w) pl.typeIs slot_tuple_getitem.lookup
  (getItem_tuple (j:=j) (Q:=fun r s'=>r=w∧EP X pins σ Q r s') pl (by omega) (by omega) (by rw [List.size_toArray,← hl];exact h1) (by simpa using ew) ⟨rfl,fin⟩) hs
theorem ix_str:IxR X rIxS:=by
 intro value slice pins s σ H x y v u Q I rx ry h hs
 obtain ⟨z,i,c,rfl,rfl,hz,he,q⟩:=h
 obtain ⟨t,rfl⟩:=rx
 obtain ⟨t',rfl⟩:=ry
 obtain ⟨j,h1,h2,h3,h4,h5⟩:=atI_get he
 have hl:z.cps.toList.length=z.length:=by simp [Str.length]
 rw [hl]at h1 h4 h5
 have hn:=line63
 exact tail_any (typeIs_str s z t) slot_str_getitem.lookup (getItem_str (c:=c) (by
  have e1:decide (i < -(2 ^ 63:Int))=false:=decide_eq_false (by omega)
  have e2:decide (i ≥ 2 ^ 63)=false:=decide_eq_false (by omega)
  rw [e1,e2,Bool.or_false]) (by rw [h1];simpa using h2) ⟨.str ⟨#[c]⟩,H,I.tok _,⟨_,rfl⟩,q⟩) hs
noncomputable def rSetL:V→V→V→Hp→(Hp→Prop)→Prop:=fun o i v H Q=>∃p xs k j,o= .ref p∧i= .int k∧H p=some (.lst xs)∧ixN xs.length k=some j∧Q (upd H p (.lst (xs.set j v)))
theorem slice_bounds(lo hi:Option Int)(n:Nat):(sliceBounds lo hi none n).1=((HT.sIx n 0 lo:Nat):Int)∧(sliceBounds lo hi none n).2.1=((HT.sIx n n hi:Nat):Int)∧(sliceBounds lo hi none n).2.2=1:=by
 refine ⟨?_,?_,rfl⟩
 · cases lo with
   | none=>simp [sliceBounds,HT.sIx]
   | some i=>
    simp only [sliceBounds,HT.sIx,Option.getD_none,show (1:Int) > 0 by decide,if_true]
    by_cases h:i < 0
    · simp only [h,if_true] <;> omega
    · simp only [h,if_false] <;> omega
 · cases hi with
   | none=>simp [sliceBounds,HT.sIx]
   | some i=>
    simp only [sliceBounds,HT.sIx,Option.getD_none,show (1:Int) > 0 by decide,if_true]
    by_cases h:i < 0
    · simp only [h,if_true] <;> omega
    · simp only [h,if_false] <;> omega
theorem slicePick_cut(its:List Value)(lo hi:Option Int):slicePick its.toArray lo hi none=((its.drop (HT.sIx its.length 0 lo)).take (HT.sIx its.length its.length hi - HT.sIx its.length 0 lo)).toArray:=by
 obtain ⟨h1,h2,h3⟩:=slice_bounds lo hi its.toArray.size
 unfold slicePick
 rw [h1,h2,h3]
 simp only [sliceRange_one,pick_run,List.size_toArray] <;> rfl
noncomputable def rSlL(K:PySem.W.Frag):V→Option Int→Option Int→Hp→VK→Prop:=fun x lo hi H Q=>∃a xs,x= .ref a∧SqL K H a xs∧∀p,H p=none→Q (.ref p) (upd H p (.lst (cutV xs lo hi)))
theorem sl_list:SlR X (rSlL X.K):=by
 intro pins s σ H x v vl vu lo hi sl Q I rx hs pl pu h
 obtain ⟨a,xs,rfl,hx,q⟩:=h
 cases rx
 obtain ⟨its,r,ht,hz⟩:=I.list hx
 have hlen:=r.length
 refine ⟨"list",_,slot_list_getitem.lookup,ht.isList.typeIs,?_⟩
 refine wpAny_getItem_list_slice ht.isList hs pl pu .none (by simp) ?_ (by rw [List.size_toArray] <;> omega)
 rw [slicePick_cut,← hlen]
 refine ⟨.ref s.heap.objs.size,_,I.laid (t':=s.toks) (o:= .lst (cutV xs lo hi)) (fun b ob q=>Heap.get?_push_of_some _ q) (Nat.le_refl _) ?_,rfl,q _ (I.hok.fresh (Nat.le_refl _))⟩
 exact ⟨Nat.le_trans (cutV_length xs lo hi) hz,_,0,(r.drop (HT.sIx xs.length 0 lo)).take (HT.sIx xs.length xs.length hi - HT.sIx xs.length 0 lo),Heap.get?_push_size _ rfl⟩
noncomputable def flatV:V→Bool
 | .non=>true
 | .bl _=>true
 | .int _=>true
 | .str _=>true
 | _=>false
noncomputable def eqV:V→V→Bool
 | .non,.non=>true
 | .bl a,.bl b=>a==b
 | .bl a,.int b=>(if a then 1 else 0)==b
 | .int a,.bl b=>a==(if b then 1 else 0)
 | .int a,.int b=>a==b
 | .str a,.str b=>a==b
 | _,_=>false
theorem eqAt_V{A:Around}{s:Shared}{y x:V}{u v:Value}(ry:RelV y u)(rx:RelV x v)(fy:flatV y=true)(fx:flatV x=true):SeqAt.EqAt A s u v (eqV y x):=by
 cases y with
 | non=>
  cases ry
  cases x with
  | non=>cases rx;exact SeqAt.EqAt.same _
  | bl b=>cases rx;exact SeqAt.EqAt.none_bool b
  | int b=>obtain ⟨t,rfl⟩:=rx;exact SeqAt.EqAt.none_int b t
  | str b=>obtain ⟨t,rfl⟩:=rx;exact SeqAt.EqAt.none_str b t
  | _=>exact absurd (show false=true from fx) Bool.false_ne_true
 | bl a=>
  cases ry
  cases x with
  | non=>cases rx;exact SeqAt.EqAt.bool_none a
  | bl b=>cases rx;exact SeqAt.EqAt.bool_bool a b
  | int b=>obtain ⟨t,rfl⟩:=rx;exact SeqAt.EqAt.bool_int a b t
  | str b=>obtain ⟨t,rfl⟩:=rx;exact SeqAt.EqAt.bool_str a b t
  | _=>exact absurd (show false=true from fx) Bool.false_ne_true
 | int a=>
  obtain ⟨t',rfl⟩:=ry
  cases x with
  | non=>cases rx;exact SeqAt.EqAt.int_none a t'
  | bl b=>cases rx;exact SeqAt.EqAt.int_bool a t' b
  | int b=>obtain ⟨t,rfl⟩:=rx;exact SeqAt.EqAt.int_int a t' b t
  | str b=>obtain ⟨t,rfl⟩:=rx;exact SeqAt.EqAt.int_str a t' b t
  | _=>exact absurd (show false=true from fx) Bool.false_ne_true
 | str a=>
  obtain ⟨t',rfl⟩:=ry
  cases x with
  | non=>cases rx;exact SeqAt.EqAt.str_none a t'
  | bl b=>cases rx;exact SeqAt.EqAt.str_bool a t' b
  | int b=>obtain ⟨t,rfl⟩:=rx;exact SeqAt.EqAt.str_int a t' b t
  | str b=>obtain ⟨t,rfl⟩:=rx;exact SeqAt.EqAt.str_str a t' b t
  | _=>exact absurd (show false=true from fx) Bool.false_ne_true
 | _=>exact absurd (show false=true from fy) Bool.false_ne_true
noncomputable def eqU(x:V)(u:Value):Bool:=match u with
 | .none=>eqV .non x
 | .bool b=>eqV (.bl b) x
 | .int i _=>eqV (.int i) x
 | .str z _=>eqV (.str z) x
 | _=>false
theorem eqU_of{x y:V}{u:Value}(r:RelV y u)(f:flatV y=true):eqU x u=eqV y x:=by
 cases y with
 | non=>cases r;rfl
 | bl b=>cases r;rfl
 | int i=>obtain ⟨t,rfl⟩:=r;rfl
 | str z=>obtain ⟨t,rfl⟩:=r;rfl
 | _=>exact absurd (show false=true from f) Bool.false_ne_true
theorem any_eqU{x:V}:∀{xs:List V} {us:List Value},Vals xs us→xs.all flatV=true→us.any (eqU x)=xs.any fun y=>eqV y x
 | _,_,.nil,_=>rfl
 | y::xs,u::us,.cons r t,f=>by
  rw [List.all_cons,Bool.and_eq_true]at f
  rw [List.any_cons,List.any_cons,eqU_of r f.1,any_eqU t f.2]
theorem mem_eqAt{A:Around}{s:Shared}{x:V}{v:Value}(rx:RelV x v)(fx:flatV x=true):∀{xs:List V} {us:List Value},Vals xs us→xs.all flatV=true→∀u∈us,SeqAt.EqAt A s u v (eqU x u)
 | _,_,.nil,_=>fun u hu=>by cases hu
 | y::xs,u::us,.cons r t,f=>fun u' hu=>by
  rw [List.all_cons,Bool.and_eq_true]at f
  rcases List.mem_cons.mp hu with rfl | hu
  · rw [eqU_of r f.1];exact eqAt_V r rx f.1 fx
  · exact mem_eqAt rx fx t f.2 u' hu
noncomputable def inV(x:V)(xs:List V):Bool:=xs.any fun y=>eqV y x
noncomputable def rIn(K:PySem.W.Frag)(neg:Bool):R2:=fun x y H Q=>∃p xs,y= .ref p∧(SqL K H p xs∨SqT K H p xs)∧flatV x=true∧xs.all flatV=true∧Q (.bl (if neg then !inV x xs else inV x xs)) H
theorem op_in_seq:OpR X (compareOp .In) (rIn X.K false):=by
 intro pins s σ H x y v u Q I rx ry h
 obtain ⟨p,xs,rfl,hq,fx,fs,q⟩:=h
 cases ry
 rcases hq with hq | hq
 · obtain ⟨its,r,pl,hz⟩:=I.list hq
   refine SeqAt.in_listAt (eqU x) pl.isList (fun w hw=>mem_eqAt rx fx r fs w (by simpa using hw)) ⟨.bl _,H,I,rfl,?_⟩
   rw [show its.toArray.any (eqU x)=its.any (eqU x) by simp,any_eqU r fs]
   exact q
 · obtain ⟨its,r,pl,hz⟩:=I.tuple hq
   refine SeqAt.in_tupleAt (eqU x) pl (fun w hw=>mem_eqAt rx fx r fs w (by simpa using hw)) ⟨.bl _,H,I,rfl,?_⟩
   rw [show its.toArray.any (eqU x)=its.any (eqU x) by simp,any_eqU r fs]
   exact q
theorem call_len_seq:CallR X (.builtin "len") (fun xs H Q=>∃p ys,xs=[.ref p]∧(SqL X.K H p ys∨SqT X.K H p ys)∧Q (.int ys.length) H):=by
 intro pins s σ H xs us Q I r h
 obtain ⟨p,ys,rfl,hq,q⟩:=h
 obtain ⟨u,rfl,rx⟩:=vals1 r
 cases rx
 have hn:=line63
 rcases hq with hq | hq
 · obtain ⟨its,r',pl,hz⟩:=I.list hq
   have hlen:=r'.length
   exact Calls.call_len_list pl.isList (by simp only [List.size_toArray] <;> omega) ⟨.int ys.length,H,I.tok _,⟨s.toks+1,by rw [List.size_toArray,hlen]⟩,q⟩
 · obtain ⟨its,r',pl,hz⟩:=I.tuple hq
   have hlen:=r'.length
   exact len_tuple pl (by simp only [List.size_toArray] <;> omega) ⟨.int ys.length,H,I.tok _,⟨s.toks+1,by rw [List.size_toArray,hlen]⟩,q⟩
theorem call_len_str:CallR X (.builtin "len") (fun xs H Q=>∃z,xs=[.str z]∧z.length≤sizeLine∧Q (.int z.length) H):=by
 intro pins s σ H xs us Q I r h
 obtain ⟨z,rfl,hz,q⟩:=h
 obtain ⟨u,rfl,t,rfl⟩:=vals1 r
 have hn:=line63
 exact len_str (by omega) ⟨.int z.length,H,I.tok _,⟨_,rfl⟩,q⟩
theorem call_list_of:CallR X (.type "list") (fun xs H Q=>∃p ys,xs=[.ref p]∧(SqL X.K H p ys∨SqT X.K H p ys)∧∀l,H l=none→Q (.ref l) (upd H l (.lst ys))):=by
 intro pins s σ H xs us Q I r h
 obtain ⟨p,ys,rfl,hq,q⟩:=h
 obtain ⟨u,rfl,rx⟩:=vals1 r
 cases rx
 have fin:∀(its:List Value),Vals ys its→ys.length≤sizeLine→∀(h':Heap) (c':Nat),(∀b o',s.heap.get? b=some o'→h'.get? b=some o')→
  h'.get? s.heap.objs.size=some {cls:= .type "list",dict:=none,data:= .seq its.toArray c',slots:=#[]}→EP X pins σ Q (.ref s.heap.objs.size) {s with heap:=h'}:=fun its r' hz h' c' kp e=>
  ⟨.ref s.heap.objs.size,_,I.laid (t':=s.toks) kp (Nat.le_refl _) (show ObjOk X.prog X.w _ h' _ (.lst ys) from ⟨hz,its,c',r',e⟩),rfl,q _ (I.hok.fresh (Nat.le_refl _))⟩
 rcases hq with hq | hq
 · obtain ⟨its,r',pl,hz⟩:=I.list hq
   have hlen:=r'.length
   obtain ⟨o,ho,hc,n,hd⟩:=pl.isList
   exact call_list_seq p (.inl rfl) ho hc hd (fun h' c' kp e=>fin its r' hz h' c' kp e) (by simp only [List.size_toArray] <;> omega)
 · obtain ⟨its,r',pl,hz⟩:=I.tuple hq
   have hlen:=r'.length
   obtain ⟨o,ho,hc,n,hd⟩:=pl
   exact call_list_seq p (.inr rfl) ho hc hd (fun h' c' kp e=>fin its r' hz h' c' kp e) (by simp only [List.size_toArray] <;> omega)
noncomputable def tyV(K:PySem.W.Frag)(T:String)(x:V)(H:Hp):Prop:=match x with
 | .str _=>T="str"
 | .int _=>T="int"
 | .ref p=>(T="list"∧∃xs,SqL K H p xs)∨(T="tuple"∧∃o,K.lookup p=some o∧o.cls= .type "tuple"∧o.dict=none)∨
  (T="dict"∧((∃kvs,H p=some (.dK kvs))∨∃kvs,H p=some (.dT kvs)))∨(T="set"∧∃S n,H p=some (.set S n))
 | _=>False
theorem tyV_is{pins:List (Addr×Obj)}{σ:St}{H:Hp}{s:Shared}{T:String}{x:V}{v:Value}(I:Inv X pins σ H s)(r:RelV x v)(ty:tyV X.K T x H):
 s.TypeIs v T∧∀a,v= .ref a→∃ob,s.heap.get? a=some ob∧ob.dict=none:=by
 cases x with
 | str z=>
  obtain ⟨t,rfl⟩:=r
  cases (show T="str" from ty)
  exact ⟨typeIs_str s z t,fun _ e=>nomatch e⟩
 | int i=>
  obtain ⟨t,rfl⟩:=r
  cases (show T="int" from ty)
  exact ⟨typeIs_int s i t,fun _ e=>nomatch e⟩
 | ref p=>
  cases r
  rcases ty with ⟨rfl,xs,hq⟩ | ⟨rfl,o,hk,hc,hd⟩ | ⟨rfl,hk⟩ | ⟨rfl,S,n,hk⟩
  · obtain ⟨its,_,pl,_⟩:=I.list hq
    refine ⟨pl.isList.typeIs,fun a e=>?_⟩
    cases e
    obtain ⟨o,n,e,c,hd,_⟩:=pl
    exact ⟨o,e,hd⟩
  · refine ⟨⟨o,I.kIn p o hk,hc⟩,fun a e=>?_⟩
    cases e
    exact ⟨o,I.kIn _ o hk,hd⟩
  · have z:∃o,s.heap.get? p=some o∧o.ExactDict:=by
     rcases hk with ⟨kvs,hk⟩ | ⟨kvs,hk⟩
     · obtain ⟨_,_,_,_,o,_,_,e,ex,_⟩:=I.hok p _ hk
       exact ⟨o,e,ex⟩
     · obtain ⟨_,_,_,_,o,_,_,e,ex,_⟩:=I.hok p _ hk
       exact ⟨o,e,ex⟩
    obtain ⟨o,e,ex⟩:=z
    refine ⟨⟨o,e,ex.1⟩,fun a e2=>?_⟩
    cases e2
    exact ⟨o,e,ex.2.1⟩
  · obtain ⟨o,_,_,_,e,ex,_⟩:=I.hok p _ hk
    refine ⟨⟨o,e,ex.1⟩,fun a e2=>?_⟩
    cases e2
    exact ⟨o,e,ex.2.1⟩
 | _=>exact False.elim ty
noncomputable def tBM0(K:PySem.W.Frag)(T:String)(r:V→List V→Hp→VK→Prop)(to:TE):TE:=fun σ H Q=>to σ H fun x H1=>tyV K T x H1∧r x [] H1 Q
noncomputable def tBM(K:PySem.W.Frag)(T:String)(r:V→List V→Hp→VK→Prop)(to:TE)(t:TA):TE:=fun σ H Q=>to σ H fun x H1=>tyV K T x H1∧t σ H1 fun xs H2=>r x xs H2 Q
variable {o e:Expr} {es:List Expr} {to:TE} {t:TA} {name:Str} {apos cpos:Pos} {T id:String} {r:V→List V→Hp→VK→Prop}
theorem pe_bm0(pa:PlainAttrs T)(slot:Slot T name id)(hty:typeOf (.builtin id)=pure (.type "method_descriptor"))(hm:MtR X id r)(ho:PE X o to)
 (hbase:attributeBase o name X.env (eval o X.env)=eval o X.env:=by rfl) (hline:(apos.endLine==cpos.line)=true:=by rfl):PE X (.Call (.Attribute o name apos) [] [] cpos) (tBM0 X.K T r to):=by
 intro pins s σ H Q I h
 refine wpAny_Call_method0_late hbase hline (thn (ho pins s σ H _ I h) fun v s1 hq_=>?_)
 obtain ⟨x,H1,I1,r1,ty,q1⟩:=hq_
 obtain ⟨h1,h2⟩:=tyV_is I1 r1 ty
 exact ⟨T,id,pa,slot,hty,h1,h2,Calls.callWith_builtin rfl (PySem.evalArgs_none (hm pins s1 σ H1 x [] v [] Q I1 r1 .nil q1))⟩
theorem pe_bm(pa:PlainAttrs T)(slot:Slot T name id)(hty:typeOf (.builtin id)=pure (.type "method_descriptor"))(hm:MtR X id r)(ho:PE X o to)(ha:PA X (e::es) t)
 (hbase:attributeBase o name X.env (eval o X.env)=eval o X.env:=by rfl)
 (hfew:((backTo cpos (starEach (e::es) X.env)).all (fun x=>!x.1) && (backToKw cpos (keywordEach [] X.env)).all (fun x=>x.1.isSome)
  && decide ((e::es).length+([]:List Keyword).length+(if ([]:List Keyword).isEmpty then 0 else 1) < 30))=true:=by rfl)
 (hline:(apos.endLine==cpos.line)=true:=by rfl) (hs:starEach (e::es) X.env=(false,eval e X.env)::starEach es X.env:=by rfl) (hplain:(backTo cpos (starEach es X.env)).any (·.1)=false:=by rfl):
 PE X (.Call (.Attribute o name apos) (e::es) [] cpos) (tBM X.K T r to t):=by
 intro pins s σ H Q I h
 refine wpAny_Call_method_late hbase hfew hline rfl (thn (ho pins s σ H _ I h) fun v s1 hq_=>?_)
 obtain ⟨x,H1,I1,r1,ty,q1⟩:=hq_
 obtain ⟨h1,h2⟩:=tyV_is I1 r1 ty
 refine ⟨T,id,pa,slot,hty,h1,h2,?_⟩
 have hA:=ha cpos pins s1 σ H1 _ I1 q1
 rw [hs]at hA ⊢
 refine Calls.callWith_builtin (by show (false || (backTo cpos (starEach es X.env)).any (·.1))=false;rw [hplain] <;> rfl) (Calls.evalArgs_plain ?_)
 exact thn hA fun us s2 ⟨vs,H2,I2,r2,q2⟩=>hm pins s2 σ H2 x vs v us Q I2 r1 r2 q2
end
end L2
namespace L2
noncomputable def MtM(X:Cx)(id:String)(r:V→List V→Hp→VK→Prop):Prop:=
 ∀(pins:List (Addr×Obj)) (s:Shared) (σ:St) (H:Hp) (x:V) (xs:List V) (v:Value) (us:List Value) (Q:VK),Inv X pins σ H s→RelV x v→Vals xs us→r x xs H Q→
   wpAny (model X.prog X.w) X.A (call (.builtin id) (v::us)) (EP X pins σ Q) X.xe s
theorem Vals.one:∀{x:V} {us:List Value},Vals [x] us→∃u,us=[u]∧RelV x u
 | _,_,.cons r .nil=>⟨_,rfl,r⟩
theorem Vals.zero:∀{us:List Value},Vals [] us→us=[]
 | _,.nil=>rfl
theorem Vals.eraseIdx:∀{xs:List V} {us:List Value} (i:Nat),Vals xs us→Vals (xs.eraseIdx i) (us.eraseIdx i)
 | _,_,_,.nil=> .nil
 | _,_,0,.cons _ t=>t
 | _,_,i+1,.cons r t=> .cons r (Vals.eraseIdx i t)
theorem len_erase{α:Type}:∀(l:List α) (i:Nat),(l.eraseIdx i).length≤l.length
 | [],_=>Nat.le_refl _
 | _::_,0=>Nat.le_succ _
 | _::r,i+1=>Nat.succ_le_succ (len_erase r i)
section
variable {X:Cx} {pins:List (Addr×Obj)} {σ:St} {H:Hp} {s:Shared} {l b:Addr} {xs ys zs:List V}
theorem Inv.lset{its its':List Value}{n:Nat}{f:Array Value→Array Value}{t':Nat}(I:Inv X pins σ H s)(hH:H l=some (.lst xs))
 (e:s.heap.get? l=some {cls:= .type "list",data:= .seq its.toArray n}) (hf:f its.toArray=its'.toArray) (hv:Vals ys its') (hz:ys.length≤sizeLine):
 Inv X pins σ (upd H l (.lst ys)) {s with heap:=s.heap.update l (Obj.mapSeq f),toks:=t'}:=by
 have q:=PySem.IsL.update e f
 rw [hf]at q
 refine I.write (x:=l) (e:=l) (by rw [hH];exact trivial) (.inl rfl) (fun b' u hb hu=>(Heap.get?_update_other s.heap (Obj.mapSeq f) (Ne.symm hb)).trans hu) ⟨_,q⟩ ?_
 exact ⟨hz,its',_,hv,q⟩
theorem Inv.lnew{its:List Value}{t':Nat}(I:Inv X pins σ H s)(hv:Vals ys its)(hz:ys.length≤sizeLine):
 Inv X pins σ (upd H s.heap.objs.size (.lst ys)) {s with heap:=s.heap.push {cls:= .type "list",data:= .seq its.toArray},toks:=t'}:=
 I.laid (fun _ _ q=>Heap.get?_push_of_some _ q) (Nat.le_refl _) ⟨hz,its,0,hv,Heap.get?_push_size _ rfl⟩
theorem Inv.fresh(I:Inv X pins σ H s):H s.heap.objs.size=none:=I.hok.fresh (Nat.le_refl _)
theorem Inv.lstM(I:Inv X pins σ H s)(hH:H l=some (.lst xs)):xs.length≤sizeLine∧∃(its:List Value) (n:Nat),Vals xs its∧xs.length=its.length∧s.heap.get? l=some {cls:= .type "list",data:= .seq its.toArray n}:=by
 obtain ⟨z,its,n,r,e⟩:=I.hok l _ hH
 exact ⟨z,its,n,r,r.length,e⟩
end
section
variable {X:Cx}
noncomputable def rAppend:V→List V→Hp→VK→Prop:=fun x vs H Q=>∃l xs y,x= .ref l∧vs=[y]∧H l=some (.lst xs)∧xs.length < sizeLine∧Q .non (upd H l (.lst (xs++[y])))
theorem mt_append:MtM X "list.append" rAppend:=by
 intro pins s σ H x vs v us Q I rx rv h
 obtain ⟨l,xs,y,rfl,rfl,hH,hz,q⟩:=h
 cases rx
 obtain ⟨u,rfl,ru⟩:=rv.one
 obtain ⟨z,its,n,r,hl,e⟩:=I.lstM hH
 refine call_meets F.slot_list_append ⟨_,e,rfl⟩ F.entry_list_append (F.args_list_append_2 _ _) (PySem.list_append l its.toArray n u (by rw [List.size_toArray];omega)) ⟨e,?_⟩
 refine ⟨.non,_,I.lset (its':=its++[u]) hH e (by simp) (r.append (.cons ru .nil)) ?_,rfl,q⟩
 rw [List.length_append,List.length_singleton]
 omega
noncomputable def rPopAt:V→List V→Hp→VK→Prop:=fun x vs H Q=>∃l xs i k y,x= .ref l∧vs=[.int i]∧H l=some (.lst xs)∧-(2 ^ 63)≤i∧i < 2 ^ 63∧seqIndex? i xs.length=some k∧xs[k]?=some y∧Q y (upd H l (.lst (xs.eraseIdx k)))
theorem mt_popAt:MtM X "list.pop" rPopAt:=by
 intro pins s σ H x vs v us Q I rx rv h
 obtain ⟨l,xs,i,k,y,rfl,rfl,hH,h1,h2,hk,hy,q⟩:=h
 cases rx
 obtain ⟨u,rfl,ru⟩:=rv.one
 obtain ⟨t,rfl⟩:=ru
 obtain ⟨z,its,n,r,hl,e⟩:=I.lstM hH
 obtain ⟨w,hw,rw'⟩:=r.get hy
 refine call_meets F.slot_list_pop ⟨_,e,rfl⟩ F.entry_list_pop (F.args_list_pop_2 _ _)
  (MeetsSeq.list_pop_at l its.toArray n i t k w (fitsIndex_both h1 h2) (by rw [List.size_toArray,← hl];exact hk) (by rw [← Array.getElem?_toList];exact hw) (by rw [List.size_toArray];omega)) ⟨e,?_⟩
 refine ⟨y,_,I.lset (its':=its.eraseIdx k) hH e ?_ (r.eraseIdx k) ?_,rw',q⟩
 · show its.toArray.eraseIdxIfInBounds k=(its.eraseIdx k).toArray
   rw [List.eraseIdxIfInBounds_toArray]
 · have:=len_erase xs k
   omega
noncomputable def rCat:R2:=fun x y H Q=>∃l b xs zs,x= .ref l∧y= .ref b∧H l=some (.lst xs)∧H b=some (.lst zs)∧xs.length+zs.length≤sizeLine∧∀p,H p=none→Q (.ref p) (upd H p (.lst (xs++zs)))
theorem op_cat:OpR X (binaryOp .Add) rCat:=by
 intro pins s σ H x y v u Q I rx ry h
 obtain ⟨l,b,xs,zs,rfl,rfl,hH,hB,hz,q⟩:=h
 cases rx
 cases ry
 obtain ⟨z,its,n,r,hl,e⟩:=I.lstM hH
 obtain ⟨z2,its2,n2,r2,hl2,e2⟩:=I.lstM hB
 refine PySem.P.add_list e e2 ?_ (by rw [List.size_toArray,List.size_toArray];omega)
 have ea:its.toArray++its2.toArray=(its++its2).toArray:=by simp
 rw [ea]
 exact ⟨.ref _,_,I.lnew (t':=s.toks) (r.append r2) (by rw [List.length_append];omega),rfl,q _ I.fresh⟩
end
end L2
namespace Att
open PySem PySem.W PySem.Calls PyProof.Rows
theorem ints_of_wellAll{P:Params}{h:Heap}:∀(ns:List Int) (vs:List Value),WellAll P h vs (ns.map WData.int)→IntsAre vs ns:=by
 intro ns
 induction ns with
 | nil=>
  intro vs w
  rw [List.map_nil]at w
  cases w
  exact .nil
 | cons n ns ih=>
  intro vs w
  rw [List.map_cons]at w
  cases w with
  | cons a b=>
   cases a
   exact .cons _ _ (ih _ b)
theorem script_of{l:OpenLaw}{n:Nat}(hn:l.most=some n){P:Params}{h:Heap}{args:List WData}{vals:List Value}
 (hpre:l.row.toRowW.claim.pre args=true) (hwl:WellAll P h vals args):
 ∃a vs ns,vals=[Value.ref a]∧args=[WData.list (ns.map WData.int)]∧h.get? a=some {cls:= .type "list",data:= .seq vs.toArray}∧IntsAre vs ns∧ns.length≤n:=by
 have hsh:WShape.hasAll [] args [.list .int]=true:=(pre_splitW hpre).1
 have hc:l.pre.holds [] {args:=args}=true:=(pre_splitW hpre).2
 obtain ⟨d,r,rfl,h1,h2⟩:=hasAllW_cons hsh
 obtain rfl:=hasAllW_nil h2
 obtain ⟨xs,rfl,h3⟩:=hasW_list h1
 obtain ⟨ns,rfl⟩:=items_int h3
 have hlen:ns.length≤n:=by
  unfold OpenLaw.pre at hc
  have h4:(WTm.not (.lt (.lit (.int (n:Int))) (.len (.arg 0)))).holds [] {args:=[.list (ns.map .int)]}=true:=by
   have h4:=(holds_andW hc).1
   rw [hn]at h4
   exact h4
  have h5:=condW_of h4 (w_not (w_lt w_lit (w_len_list (w_arg rfl))))
  rw [List.length_map]at h5
  refine Nat.le_of_not_lt fun q=>?_
  have q':(n:Int) < ((ns.length:Nat):Int):=by omega
  first
   | (rw [decide_eq_true q']at h5;exact absurd h5 (by decide))
   | (simp at h5;omega)
 cases hwl with
 | cons w1 w2=>
  cases w2
  cases w1 with
  | list ho hall=>exact ⟨_,_,ns,rfl,rfl,ho,ints_of_wellAll ns _ hall,hlen⟩
theorem post_true(l:OpenLaw)(args:List WData):l.row.toRowW.claim.post args (.bool true) args=true:=
 postW_of (r:=l.row.toRowW) (X:=(true==true))
  (show WShape.has [] (.bool true) .bool=true by first | rfl | decide | simp [WShape.has,WShape.arms,WShape.armsAll])
  (show (WTm.eq .res (.lit (.bool true))).value [] {args:=args,res:=some (.bool true),after:=args}=some (.bool (true==true)) from w_eq_bool (w_res rfl) w_lit) rfl
theorem attach_call{l:OpenLaw}{n:Nat}{q:Program}{loose:List Str}{XP:(Str→Option Value)→Heap→Prop}{YP:World→Heap→Prop}{d:DefRec}
 (hn:l.most=some n) (hdf:d.params.defaults=[])
 (call:∀(w:World) (s₀ s₁:Shared) (mg mb:Str→Option Value) (fa:Addr) (o:Obj) (pm cd doc:Value) (a:Addr) (vs:List Value) (ns:List Int),
  Ground q loose [] XP w s₀ mg mb s₁.heap→YP w s₁.heap→
  s₁.heap.get? fa=some o→o.data= .func (docDef d.name d.params d.body d.scope pm cd doc)→s₁.heap.CodeRec cd d.name→mg d.name=some (.ref fa)→
  s₁.heap.get? a=some {cls:= .type "list",data:= .seq vs.toArray}→IntsAre vs ns→ns.length≤n→s₁.gens=#[]→
  codeAny (model l.prog w) callerA (.call (.ref fa) ⟨[.ref a],[]⟩) (fun r s'=>r= .ok (.ret (.bool true))∧OldK s₁.heap s'.heap∧s'.os=s₁.os∧AllBare s'.gens) s₁):
 WalkO q loose XP YP l.row.toRowW d [] (fun f vs=>PySem.call f vs):=by
 intro w s₀ s₁ mg mb G Y fa o pm cd doc dV kV ho hd hcd hD hmg hg args vals as hpre hlay hrd hwl hlo
 obtain rfl:dV= .none:=Dflts.none hD hdf
 obtain rfl:kV= .none:=Dflts.noKw hD
 obtain ⟨a,vs,ns,rfl,rfl,hobj,hints,hlen⟩:=script_of hn hpre hwl
 refine enter_call (codeAny_mono (call w s₀ s₁ mg mb fa o pm cd doc a vs ns G Y ho (fd_plain hd) hcd hmg hobj hints hlen hg) fun r s' hq=>?_)
 obtain ⟨rfl,h2,h3,h4⟩:=hq
 exact ⟨.inl ⟨.bool true,.bool true,[],rfl,fun _=>rfl,.bool true,post_true l _,fun _=>⟨List.Pairwise.nil,fun _ hm=>(nomatch hm)⟩⟩,h2,h3,h4⟩
end Att
namespace L2
theorem vals_ints:∀{vs:List Value} {ns:List Int},IntsAre vs ns→Vals (ns.map V.int) vs
 | _,_,.nil=> .nil
 | _,_,.cons n t h=> .cons ⟨t,rfl⟩ (vals_ints h)
end L2
namespace L2
noncomputable def inClass(s:Stmt)(j:Nat):Stmt:=match s with
 | .ClassDef _ _ _ body _ _ _ _ _ _ _=>body.getD j (.Pass ⟨0,0,0,0⟩)
 | _=> .Pass ⟨0,0,0,0⟩
noncomputable def defArgs(s:Stmt):Arguments:=match s with
 | .FunctionDef _ a _ _ _ _ _ _ _ _=>a
 | _=>{posonlyargs:=[],args:=[],vararg:=none,kwonlyargs:=[],kw_defaults:=[],kwarg:=none,defaults:=[]}
noncomputable def defBody(s:Stmt):List Stmt:=match s with
 | .FunctionDef _ _ b _ _ _ _ _ _ _=>b
 | _=>[]
noncomputable def defScope(s:Stmt):Scope:=match s with
 | .FunctionDef _ _ _ _ _ _ sc _ _ _=>sc
 | _=>{kind:= .function,names:=[],isGenerator:=false,isCoroutine:=false}
noncomputable abbrev CX0:CXT:=fun _ _ _ _ _ _=>False
noncomputable abbrev E0:XK:=fun _ _ _=>False
theorem pass0{X:Cx}:Passes CX0 X E0:=fun _ _ _ _ _ _ _ h=>h.elim
structure Fun(K:PySem.W.Frag)(x qual:Str)(st:Stmt)(f:Addr)(fd:FuncData):Prop where
 ex:∃(oc:Value) (od:Option Addr) (kV doc pm:Value) (an:Option Addr) (cdv ct:Value) (osl:Array (Option Value)),
  fd=PySem.W.fnOf x qual (defArgs st) (defBody st) (defScope st) .none kV doc pm an cdv ct∧K.lookup f=some ⟨oc,od,.func fd,osl⟩∧PySem.W.codeIn K cdv qual=true
 kp:PySem.W.keepIn K (.ref f)=true
section
variable {P:Program} {w:World} {K:PySem.W.Frag} {mg:Str→Option Value} {base:Heap}
theorem Fun.ok{x qual:Str}{st:Stmt}{f:Addr}{fd:FuncData}{N ps:List Str}{k:Nat}{sp:Sp}(F:Fun K x qual st f fd)(S:FnScope N ps (defScope st))(len:∀vs H Q E,sp vs H Q E→vs.length=ps.length)
 (hbody:∀(cdv:Value) (A:Around) (outer:List Env) (s:Shared) (H:Hp) (vs:List V) (Q:VK) (E:XK),Room k (A.deeper (envOfC qual (defScope st) s.heap.objs.size f cdv))→sp vs H Q E→
  ∃t,PSs (cxOf CX0 P w K mg base N qual (defScope st) f cdv A outer s H E).nox (defBody st) t∧t {nx:=fun _ H'=>Q .non H',rt:=Q} (start N vs) H):FnOk P w K mg base CX0 (k+1) f fd ps sp:=by
 obtain ⟨oc,od,kV,doc,pm,an,cdv,ct,osl,rfl,lk,hcd⟩:=F.ex
 refine fn_of lk hcd S len fun A outer s H vs Q E hr hsp=>?_
 obtain ⟨t,h,q⟩:=hbody cdv A outer s H vs Q E hr hsp
 exact ⟨t,h.nox,q⟩
theorem Fun.binds{x qual:Str}{st:Stmt}{f:Addr}{fd:FuncData}{ps:List Str}(F:Fun K x qual st f fd)
 (h:∀(kV doc pm:Value) (an:Option Addr) (cdv ct:Value) (us:List Value),us.length=ps.length→bindArgs (PySem.W.fnOf x qual (defArgs st) (defBody st) (defScope st) .none kV doc pm an cdv ct) ⟨us,[]⟩=pure (ps.zip us)):Binds K fd ps []:=by
 obtain ⟨oc,od,kV,doc,pm,an,cdv,ct,osl,rfl,lk,hcd⟩:=F.ex
 exact .all (h kV doc pm an cdv ct)
theorem fun_mk{x qual:Str}{st:Stmt}{f:Addr}{oc:Value}{od an:Option Addr}{osl:Array (Option Value)}{kV doc pm cdv ct:Value}(l:K.lookup f=some ⟨oc,od,.func (PySem.W.fnOf x qual (defArgs st) (defBody st) (defScope st) .none kV doc pm an cdv ct),osl⟩)
 (c:PySem.W.codeIn K cdv qual=true) (k:PySem.W.keepIn K (.ref f)=true):Fun K x qual st f (PySem.W.fnOf x qual (defArgs st) (defBody st) (defScope st) .none kV doc pm an cdv ct):=⟨⟨oc,od,kV,doc,pm,an,cdv,ct,osl,rfl,l,c⟩,k⟩
end
theorem hu_of{A:Around}{k:Nat}(hr:Room k A):A.units+1 < cLine:=Nat.lt_of_le_of_lt (Nat.add_le_add_left (by decide:1≤64) _) hr.units
section
variable {X:Cx}
theorem pv(i:Nat){x:Str}{pos:Pos}(hN:X.N[i]?=some x:=by rfl)(hv:Vis X.env.scope x:=by first | exact Or.inl rfl | exact Or.inr (Or.inl rfl) | exact Or.inr (Or.inr rfl))(hd:(x==("__debug__":Str))=false:=by decide)
 (hcd:(x==("__classdict__":Str))=false:=by decide):PE X (.Name x pos) (tVar i):=pe_var hN hv hd hcd
end
noncomputable def Same(H H':Hp):Prop:=∀b o,H b=some o→H' b=some o
theorem Same.refl(H:Hp):Same H H:=fun _ _ h=>h
theorem Same.trans{H H1 H2:Hp}(a:Same H H1)(b:Same H1 H2):Same H H2:=fun c o h=>b c o (a c o h)
theorem Same.seq{K:PySem.W.Frag}{H H':Hp}{a:Addr}{xs:List V}(e:Same H H')(h:SqL K H a xs):SqL K H' a xs:=by
 rcases h with (h | ⟨o,h⟩) | h
 · exact .inl (.inl (e _ _ h))
 · exact .inl (.inr ⟨o,e _ _ h⟩)
 · exact .inr h
end L2
namespace L2
section
variable {κ:Type} [DecidableEq κ]
noncomputable def valV(kvs:List (κ×V))(k:κ):Option V:=(kvs.find? fun kv=>decide (kv.1=k)).map (·.2)
noncomputable def putK(kvs:List (κ×V))(k:κ)(v:V):List (κ×V):=
 if (kvs.any fun kv=>decide (kv.1=k))=true then kvs.map (fun kv=>if kv.1=k then (kv.1,v) else kv) else kvs++[(k,v)]
noncomputable def dropK(kvs:List (κ×V))(k:κ):List (κ×V):=kvs.filter fun kv=>decide (kv.1≠k)
theorem valV_pos{p:κ×V}{r:List (κ×V)}{k:κ}(e:p.1=k):valV (p::r) k=some p.2:=by simp [valV,List.find?_cons,e]
theorem valV_neg{p:κ×V}{r:List (κ×V)}{k:κ}(e:¬p.1=k):valV (p::r) k=valV r k:=by simp [valV,List.find?_cons,e]
theorem valV_any(k:κ):∀kvs:List (κ×V),(kvs.any fun kv=>decide (kv.1=k))=(valV kvs k).isSome
 | []=>rfl
 | p::r=>by
  rw [List.any_cons]
  by_cases e:p.1=k
  · simp only [valV_pos e,decide_eq_true e,Bool.true_or,Option.isSome_some]
  · rw [valV_neg e,decide_eq_false e,Bool.false_or];exact valV_any k r
theorem valV_map(k j:κ)(y:V):∀kvs:List (κ×V),valV (kvs.map fun kv=>if kv.1=k then (kv.1,y) else kv) j=(valV kvs j).map fun x=>if j=k then y else x
 | []=>rfl
 | p::r=>by
  have ih:=valV_map k j y r
  rw [List.map_cons]
  by_cases h:p.1=k
  · rw [if_pos h]
    by_cases e:p.1=j
    · rw [valV_pos (p:=(p.1,y)) e,valV_pos e,Option.map_some,if_pos (e.symm.trans h)]
    · rw [valV_neg (p:=(p.1,y)) e,valV_neg e,ih]
  · rw [if_neg h]
    by_cases e:p.1=j
    · rw [valV_pos (p:=p) e,valV_pos e,Option.map_some,if_neg (fun z=>h (e.trans z))]
    · rw [valV_neg (p:=p) e,valV_neg e,ih]
theorem valV_snoc(k j:κ)(y:V):∀kvs:List (κ×V),valV kvs k=none→valV (kvs++[(k,y)]) j=if j=k then some y else valV kvs j
 | [],_=>by
  by_cases e:k=j
  · rw [if_pos e.symm];exact valV_pos (p:=(k,y)) e
  · rw [if_neg (fun z=>e z.symm)];exact valV_neg (p:=(k,y)) e
 | p::r,hn=>by
  rw [List.cons_append]
  have hk:¬p.1=k:=fun z=>by rw [valV_pos z]at hn;cases hn
  rw [valV_neg hk]at hn
  have ih:=valV_snoc k j y r hn
  by_cases e:p.1=j
  · rw [valV_pos e,valV_pos e,if_neg (fun z=>hk (e.trans z))]
  · rw [valV_neg e,valV_neg e,ih]
theorem valV_put(kvs:List (κ×V))(k j:κ)(y:V):valV (putK kvs k y) j=if j=k then some y else valV kvs j:=by
 unfold putK
 by_cases a:(kvs.any fun kv=>decide (kv.1=k))=true
 · rw [if_pos a,valV_map]
   rw [valV_any]at a
   by_cases e:j=k
   · obtain ⟨x,hx⟩:=Option.isSome_iff_exists.mp a
     rw [if_pos e,e,hx,Option.map_some,if_pos rfl]
   · rw [if_neg e]
     cases valV kvs j with
     | none=>rfl
     | some x=>rw [Option.map_some,if_neg e]
 · rw [if_neg a]
   refine valV_snoc k j y kvs ?_
   rw [valV_any]at a
   cases q:valV kvs k with
   | none=>rfl
   | some x=>rw [q]at a;exact (a rfl).elim
theorem length_putK(kvs:List (κ×V))(k:κ)(v:V):(putK kvs k v).length≤kvs.length+1:=by
 unfold putK
 split
 · rw [List.length_map];omega
 · rw [List.length_append,List.length_cons,List.length_nil];omega
theorem putK_new{kvs:List (κ×V)}{k:κ}(v:V)(h:valV kvs k=none):putK kvs k v=kvs++[(k,v)]:=by
 unfold putK
 rw [valV_any,h]
 exact if_neg (by decide)
theorem RelO.isSome_eq{o:Option V}{u:Option Value}(r:RelO o u):o.isSome=u.isSome:=by
 cases o with
 | none=>cases u with
  | none=>rfl
  | some _=>exact (show False from r).elim
 | some _=>cases u with
  | none=>exact (show False from r).elim
  | some _=>rfl
theorem RelO.getD{o:Option V}{u:Option Value}{d:V}{d':Value}(r:RelO o u)(rd:RelV d d'):RelV (o.getD d) (u.getD d'):=by
 cases o with
 | none=>cases u with
  | none=>exact rd
  | some _=>exact (show False from r).elim
 | some _=>cases u with
  | none=>exact (show False from r).elim
  | some _=>exact r
theorem KV.val{kvs:List (κ×V)}{vs:List (κ×Value)}(r:KV kvs vs)(k:κ):RelO (valV kvs k) (valueAt vs k):=by
 unfold KV at r
 induction r with
 | nil=>exact True.intro
 | @cons p q ps qs h t ih=>
  obtain ⟨h1,h2⟩:=h
  by_cases e:p.1=k
  · have e':q.1=k:=h1.symm.trans e
    have b:valueAt (q::qs) k=some q.2:=by simp [valueAt,List.find?_cons,e']
    rw [valV_pos e,b];exact h2
  · have e':¬q.1=k:=fun z=>e (h1.trans z)
    have b:valueAt (q::qs) k=valueAt qs k:=by simp [valueAt,List.find?_cons,e']
    rw [valV_neg e,b];exact ih
theorem KV.any{kvs:List (κ×V)}{vs:List (κ×Value)}(r:KV kvs vs)(k:κ):(kvs.any fun kv=>decide (kv.1=k))=vs.any fun kv=>decide (kv.1=k):=by
 unfold KV at r
 induction r with
 | nil=>rfl
 | cons h t ih=>rw [List.any_cons,List.any_cons,ih,h.1]
theorem KV.repl{kvs:List (κ×V)}{vs:List (κ×Value)}(r:KV kvs vs)(k:κ){y:V}{u:Value}(ry:RelV y u):
 KV (kvs.map fun kv=>if kv.1=k then (kv.1,y) else kv) (vs.map fun kv=>if kv.1=k then (kv.1,u) else kv):=by
 unfold KV at r ⊢
 induction r with
 | nil=>exact .nil
 | @cons p q ps qs h t ih=>
  rw [List.map_cons,List.map_cons]
  refine .cons ?_ ih
  obtain ⟨h1,h2⟩:=h
  by_cases e:p.1=k
  · rw [if_pos e,if_pos (h1.symm.trans e)];exact ⟨h1,ry⟩
  · rw [if_neg e,if_neg (fun z=>e (h1.trans z))];exact ⟨h1,h2⟩
theorem KV.put{kvs:List (κ×V)}{vs:List (κ×Value)}(r:KV kvs vs)(k:κ){y:V}{u:Value}(ry:RelV y u):KV (putK kvs k y) (stored vs k u):=by
 unfold putK stored
 rw [r.any k]
 by_cases e:(vs.any fun kv=>decide (kv.1=k))=true
 · rw [if_pos e,if_pos e];exact r.repl k ry
 · rw [if_neg e,if_neg e];exact Paired.snoc r ⟨rfl,ry⟩
theorem KV.drop{kvs:List (κ×V)}{vs:List (κ×Value)}(r:KV kvs vs)(k:κ):KV (dropK kvs k) (without vs k):=by
 unfold KV at r ⊢
 unfold dropK without
 induction r with
 | nil=>exact .nil
 | @cons p q ps qs h t ih=>
  obtain ⟨h1,h2⟩:=h
  rw [List.filter_cons,List.filter_cons]
  by_cases e:p.1=k
  · have a:¬decide (p.1≠k)=true:=by simp [e]
    have b:¬decide (q.1≠k)=true:=by simp [h1.symm.trans e]
    rw [if_neg a,if_neg b];exact ih
  · have e':¬q.1=k:=fun z=>e (h1.trans z)
    have a:decide (p.1≠k)=true:=by simp [e]
    have b:decide (q.1≠k)=true:=by simp [e']
    rw [if_pos a,if_pos b];exact .cons ⟨h1,h2⟩ ih
theorem KV.length{kvs:List (κ×V)}{vs:List (κ×Value)}(r:KV kvs vs):kvs.length=vs.length:=Paired.length r
theorem dropK_le(kvs:List (κ×V))(k:κ):(dropK kvs k).length≤kvs.length:=List.length_filter_le _ _
end
theorem kV_is{P:Program}{w:World}{k:Key}{u:Value}(r:RelV (kV k) u):(mixKind P w).is k u=true:=by
 cases k with
 | inl i=>obtain ⟨t,e⟩:=(show ∃t,u=Value.int i t from r);subst e;exact mixKind_int P w i t
 | inr x=>obtain ⟨t,e⟩:=(show ∃t,u=Value.str x t from r);subst e;exact mixKind_str P w x t
theorem items_are{P:Program}{w:World}:∀{ks:List Key} {us:List Value},Vals (ks.map kV) us→ItemsAre (mixKind P w) ks us
 | [],_,r=>by rw [List.map_nil]at r;cases r;exact .nil
 | k::ks,_,r=>by
  rw [List.map_cons]at r
  cases r with
  | cons h t=>exact .cons (kV_is h) (items_are t)
noncomputable abbrev KT(H:Hp):List (List Key×V)→List (List Key×Addr×Value)→Prop:=Paired fun p q=>p.1=q.1∧H q.2.1=some (.tup (p.1.map kV))∧RelV p.2 q.2.2
theorem KT.val{H:Hp}{kvs:List (List Key×V)}{xs:List (List Key×Addr×Value)}(r:KT H kvs xs)(k:List Key):RelO (valV kvs k) ((atKey xs k).map (·.2)):=by
 induction r with
 | nil=>exact True.intro
 | @cons p q ps qs h t ih=>
  obtain ⟨h1,_,h2⟩:=h
  by_cases e:p.1=k
  · have e':q.1=k:=h1.symm.trans e
    have b:atKey (q::qs) k=some q.2:=by simp [atKey,List.find?_cons,e']
    rw [valV_pos e,b];exact h2
  · have e':¬q.1=k:=fun z=>e (h1.trans z)
    have b:atKey (q::qs) k=atKey qs k:=by simp [atKey,List.find?_cons,e']
    rw [valV_neg e,b];exact ih
theorem KT.repl{H:Hp}{kvs:List (List Key×V)}{xs:List (List Key×Addr×Value)}(r:KT H kvs xs)(k:List Key){y:V}{u:Value}(ry:RelV y u):
 KT H (kvs.map fun kv=>if kv.1=k then (kv.1,y) else kv) (xs.map (putAt k u)):=by
 induction r with
 | nil=>exact .nil
 | @cons p q ps qs h t ih=>
  rw [List.map_cons,List.map_cons]
  refine .cons ?_ ih
  obtain ⟨h1,h2,h3⟩:=h
  unfold putAt
  by_cases e:p.1=k
  · rw [if_pos e,if_pos (h1.symm.trans e)];exact ⟨h1,h2,ry⟩
  · rw [if_neg e,if_neg (fun z=>e (h1.trans z))];exact ⟨h1,h2,h3⟩
theorem KT.put{H:Hp}{kvs:List (List Key×V)}{xs:List (List Key×Addr×Value)}(r:KT H kvs xs)(k:List Key){b:Addr}{y:V}{u:Value}(hb:H b=some (.tup (k.map kV)))(ry:RelV y u):
 KT H (putK kvs k y) (storedH xs k b u):=by
 have e:(kvs.any fun kv=>decide (kv.1=k))=(atKey xs k).isSome:=by
  rw [valV_any,(r.val k).isSome_eq,Option.isSome_map]
 unfold putK storedH
 rw [e]
 by_cases q:(atKey xs k).isSome=true
 · rw [if_pos q,if_pos q];exact r.repl k ry
 · rw [if_neg q,if_neg q];exact Paired.snoc r ⟨rfl,hb,ry⟩
theorem KT.keeps{H H':Hp}{kvs:List (List Key×V)}{xs:List (List Key×Addr×Value)}(r:KT H kvs xs)(ht:∀b ys,H b=some (.tup ys)→H' b=some (.tup ys)):KT H' kvs xs:=
 Paired.mapP r fun _ _ z=>⟨z.1,ht _ _ z.2.1,z.2.2⟩
section
variable {P:Program} {w:World} {H:Hp} {h:Heap} {a:Addr}
theorem rd_of{u:HO}(ok:HOk P w H h)(e:Rd H a u):ObjOk P w H h a u:=e.ok ok
theorem dk_rd{kvs:List (Key×V)}(ok:HOk P w H h)(e:Rd H a (.dK kvs)):kvs.length≤sizeLine∧(a==sysModules)=false∧∃vs,KV kvs vs∧h.DictOf (mixKind P w) a vs:=
 show ObjOk P w H h a (.dK kvs) from rd_of ok e
theorem dk_of{kvs:List (Key×V)}(ok:HOk P w H h)(e:H a=some (.dK kvs)):kvs.length≤sizeLine∧(a==sysModules)=false∧∃vs,KV kvs vs∧h.DictOf (mixKind P w) a vs:=dk_rd ok (.inl e)
theorem key_of{ks:List Key}(ok:HOk P w H h)(e:H a=some (.tup (ks.map kV))):(tupleKind (mixKind P w)).is h ks a:=by
 obtain ⟨_,its,r,o,h1,h2,n,h3⟩:=(show ObjOk P w H h a (.tup (ks.map kV)) from ok a _ e)
 exact ⟨o,its.toArray,n,h1,h2,h3,by simpa using items_are r⟩
theorem dt_rd{kvs:List (List Key×V)}(ok:HOk P w H h)(e:Rd H a (.dT kvs)):kvs.length≤sizeLine∧(a==sysModules)=false∧
 ∃xs,KT H kvs xs∧h.DictOfH (tupleKind (mixKind P w)) a xs:=by
 obtain ⟨z,y,xs,r,o,es,ep,h1,h2,h3,h4,h5⟩:=(show ObjOk P w H h a (.dT kvs) from rd_of ok e)
 refine ⟨z,y,xs,r,o,es,ep,h1,h2,h3,h4,fun x hx=>?_,h5⟩
 have all:∀{l:List (List Key×V)} {m:List (List Key×Addr×Value)},KT H l m→∀x∈m,(tupleKind (mixKind P w)).is h x.1 x.2.1:=by
  intro l m q
  induction q with
  | nil=>intro x hx;exact nomatch hx
  | @cons p q ps qs hq t ih=>
   intro x hx
   rcases List.mem_cons.mp hx with e | hx
   · subst e
     exact key_of ok (by rw [← hq.1];exact hq.2.1)
   · exact ih x hx
 exact all r x hx
theorem dt_of{kvs:List (List Key×V)}(ok:HOk P w H h)(e:H a=some (.dT kvs)):kvs.length≤sizeLine∧(a==sysModules)=false∧
 ∃xs,KT H kvs xs∧h.DictOfH (tupleKind (mixKind P w)) a xs:=dt_rd ok (.inl e)
end
noncomputable def DGet(H:Hp)(a:Addr)(y:V)(r:Option V):Prop:=
 (∃kvs k,Rd H a (.dK kvs)∧y=kV k∧r=valV kvs k)∨∃kvs k b,Rd H a (.dT kvs)∧y= .ref b∧H b=some (.tup (k.map kV))∧r=valV kvs k
noncomputable def DPut(H:Hp)(a:Addr)(y v:V)(H':Hp):Prop:=
 (∃kvs k,H a=some (.dK kvs)∧y=kV k∧kvs.length < sizeLine∧H'=upd H a (.dK (putK kvs k v)))∨
 ∃kvs k b,H a=some (.dT kvs)∧y= .ref b∧H b=some (.tup (k.map kV))∧kvs.length < sizeLine∧H'=upd H a (.dT (putK kvs k v))
theorem DGet.k{H:Hp}{a:Addr}{kvs:List (Key×V)}{k:Key}(e:H a=some (.dK kvs)):DGet H a (kV k) (valV kvs k):= .inl ⟨kvs,k,.inl e,rfl,rfl⟩
theorem DPut.k{H:Hp}{a:Addr}{kvs:List (Key×V)}{k:Key}{v:V}(e:H a=some (.dK kvs))(hl:kvs.length < sizeLine):DPut H a (kV k) v (upd H a (.dK (putK kvs k v))):= .inl ⟨kvs,k,e,rfl,hl,rfl⟩
section
variable {X:Cx} {pins:List (Addr×Obj)} {σ:St} {H:Hp} {s:Shared} {a:Addr} {y v:V} {u r:Value} {o:Option V} {A:Around} {E:Value→Shared→Prop}
theorem Inv.big(I:Inv X pins σ H s):sysModules < s.heap.objs.size:=by
 have h:mainGlobals < s.heap.objs.size:=(I.mod.glob.keeps I.bk).lt
 exact Nat.lt_trans (by decide) h
theorem d_getItem{Q:Value→Shared→Prop}(hu:A.units+1 < cLine)(I:Inv X pins σ H s)(g:DGet H a y (some v))(ry:RelV y u)(h:∀w' s',Inv X pins σ H s'→RelV v w'→Q w' s'):
 wpAny (model X.prog X.w) A (getItem (.ref a) u) Q E s:=by
 rcases g with ⟨kvs,k,e,ey,l⟩ | ⟨kvs,k,b,e,ey,eb,l⟩
 · subst ey
   obtain ⟨z,hd,vs,rel,dd⟩:=dk_rd I.hok e
   obtain ⟨w',hw,rw'⟩:=RelO.some_of (v:=v) (o:=valueAt vs k) (by rw [l];exact rel.val k)
   exact wpAny_getItem_of (kV_is ry) dd.mapOf hw (h w' _ (I.tok _) rw')
 · subst ey
   cases (show u=Value.ref b from ry)
   obtain ⟨z,hd,xs,rel,dd⟩:=dt_rd I.hok e
   obtain ⟨w',hw,rw'⟩:=RelO.some_of (v:=v) (o:=(atKey xs k).map (·.2)) (by rw [l];exact rel.val k)
   obtain ⟨p,hp,hp2⟩:=Option.map_eq_some_iff.mp hw
   refine wpAny_getItem_heap (tupleKind_room_in1 hu) (key_of I.hok eb) dd hp ?_
   rw [hp2]
   exact h w' _ (I.tok _) rw'
theorem d_in{Q:Value→Shared→Prop}(hu:A.units+1 < cLine)(I:Inv X pins σ H s)(g:DGet H a y o)(ry:RelV y u)(h:∀s',Inv X pins σ H s'→Q (.bool o.isSome) s'):
 wpAny (model X.prog X.w) A (compareOp .In u (.ref a)) Q E s:=by
 rcases g with ⟨kvs,k,e,ey,l⟩ | ⟨kvs,k,b,e,ey,eb,l⟩
 · subst ey
   obtain ⟨z,hd,vs,rel,dd⟩:=dk_rd I.hok e
   refine wpAny_in_of (kV_is ry) hd dd.mapOf ?_
   rw [← (rel.val k).isSome_eq,← l]
   exact h _ (I.tok _)
 · subst ey
   cases (show u=Value.ref b from ry)
   obtain ⟨z,hd,xs,rel,dd⟩:=dt_rd I.hok e
   refine wpAny_in_heap (tupleKind_room_in1 hu) (key_of I.hok eb) hd dd ?_
   have q:=(rel.val k).isSome_eq
   rw [Option.isSome_map]at q
   rw [← q,← l]
   exact h _ (I.tok _)
theorem d_notIn{Q:Value→Shared→Prop}(hu:A.units+1 < cLine)(I:Inv X pins σ H s)(g:DGet H a y o)(ry:RelV y u)(h:∀s',Inv X pins σ H s'→Q (.bool (!o.isSome)) s'):
 wpAny (model X.prog X.w) A (compareOp .NotIn u (.ref a)) Q E s:=by
 rcases g with ⟨kvs,k,e,ey,l⟩ | ⟨kvs,k,b,e,ey,eb,l⟩
 · subst ey
   obtain ⟨z,hd,vs,rel,dd⟩:=dk_rd I.hok e
   refine wpAny_notIn_of (kV_is ry) hd dd.mapOf ?_
   rw [← (rel.val k).isSome_eq,← l]
   exact h _ (I.tok _)
 · subst ey
   cases (show u=Value.ref b from ry)
   obtain ⟨z,hd,xs,rel,dd⟩:=dt_rd I.hok e
   refine wpAny_notIn_heap (tupleKind_room_in1 hu) (key_of I.hok eb) hd dd ?_
   have q:=(rel.val k).isSome_eq
   rw [Option.isSome_map]at q
   rw [← q,← l]
   exact h _ (I.tok _)
theorem d_write{h':Heap}{t':Nat}{ob:HO}(I:Inv X pins σ H s)(mu:Mut (H a))(hs:Heap.SameBut a s.heap h')(he:∃q,h'.get? a=some q)(new:ObjOk X.prog X.w (upd H a ob) h' a ob):
 Inv X pins σ (upd H a ob) {s with heap:=h',toks:=t'}:=
 I.write (x:=a) (e:=a) mu (.inl rfl) (fun b q hb z=>(hs.2 b hb).trans z) he new
theorem dk_new{P:Program}{w:World}{H':Hp}{h':Heap}{kvs:List (Key×V)}{vs:List (Key×Value)}(z:kvs.length≤sizeLine)(hd:(a==sysModules)=false)(rel:KV kvs vs)(dd:h'.DictOf (mixKind P w) a vs):
 ObjOk P w H' h' a (.dK kvs):=⟨z,hd,vs,rel,dd⟩
theorem d_setItem{H':Hp}{Q:Unit→Shared→Prop}(hu:A.units+1 < cLine)(I:Inv X pins σ H s)(g:DPut H a y v H')(ry:RelV y u)(rv:RelV v r)(h:∀s',Inv X pins σ H' s'→Q () s'):
 wpAny (model X.prog X.w) A (setItem (.ref a) u r) Q E s:=by
 rcases g with ⟨kvs,k,e,ey,l,eH⟩ | ⟨kvs,k,b,e,ey,eb,l,eH⟩
 · subst ey eH
   obtain ⟨z,hd,vs,rel,dd⟩:=dk_of I.hok e
   have hz:vs.length≤sizeLine:=by rw [← rel.length];exact z
   have hl:(putK kvs k v).length≤sizeLine:=by have:=length_putK kvs k v;omega
   refine wpAny_setItem_pairs (hsz:=hz) (kV_is ry) dd fun h' dd' hs=>h _ ?_
   have he:∃q,h'.get? a=some q:=let ⟨q,_,_,hq,_⟩:=dd';⟨q,hq⟩
   exact d_write I (by rw [e];exact True.intro) hs he (dk_new hl hd (rel.put k rv) dd')
 · subst ey eH
   cases (show u=Value.ref b from ry)
   obtain ⟨z,hd,xs,rel,dd⟩:=dt_of I.hok e
   have hz:xs.length≤sizeLine:=by rw [← Paired.length rel];exact z
   have hl:(putK kvs k v).length≤sizeLine:=by have:=length_putK kvs k v;omega
   refine wpAny_setItem_heap (hsz:=hz) (tupleKind_room_in1 hu) (key_of I.hok eb) dd fun h' dd' hs=>h _ ?_
   obtain ⟨q,es,ep,hq,h2,h3,h4,_,h5⟩:=dd'
   refine d_write I (by rw [e];exact True.intro) hs ⟨q,hq⟩ ⟨hl,hd,_,(rel.put k eb rv).keeps fun c ys ec=>?_,q,es,ep,hq,h2,h3,h4,h5⟩
   rw [upd_ne (ne_of ec e (fun z=>nomatch z))]
   exact ec
end
section
variable {X:Cx} {pins:List (Addr×Obj)} {σ:St} {H:Hp} {s:Shared} {a:Addr} {kvs:List (Key×V)} {k:Key} {u:Value} {A:Around} {E:Value→Shared→Prop}
theorem d_pop{v:V}{more:List Value}{Q:Value→Shared→Prop}(I:Inv X pins σ H s)(e:H a=some (.dK kvs))(ry:RelV (kV k) u)(l:valV kvs k=some v)(hm:more=[]∨∃x,more=[x])
 (h:∀w' s',Inv X pins σ (upd H a (.dK (dropK kvs k))) s'→RelV v w'→Q w' s'):wpAny (model X.prog X.w) A (call (.builtin "dict.pop") (.ref a::u::more)) Q E s:=by
 obtain ⟨z,hd,vs,rel,dd⟩:=dk_of I.hok e
 obtain ⟨w',hw,rw'⟩:=RelO.some_of (v:=v) (o:=valueAt vs k) (by rw [← l];exact rel.val k)
 have hp:(keyPart u).isSome=true:=by
  cases k with
  | inl i=>obtain ⟨t,q⟩:=(show ∃t,u=Value.int i t from ry);subst q;rfl
  | inr x=>obtain ⟨t,q⟩:=(show ∃t,u=Value.str x t from ry);subst q;rfl
 have ha:argsOk "dict.pop" ⟨.ref a::u::more,[]⟩:=by
  rcases hm with q | ⟨x,q⟩
  · subst q;exact PySem.F.args_dict_pop_2 _ _
  · subst q;exact PySem.F.args_dict_pop_3 _ _ _
 refine call_meetsIn PySem.F.slot_dict_pop dd.typeIs PySem.F.entry_dict_pop ha (meets_dict_pop_there (mixKind X.prog X.w) a (kV_is ry) more hm hp)
  ⟨vs,w',dd,by rw [← rel.length];exact z,hw,fun h' dd' hs=>h w' _ ?_ rw'⟩
 have he:∃q,h'.get? a=some q:=let ⟨q,_,_,hq,_⟩:=dd';⟨q,hq⟩
 exact d_write I (by rw [e];exact True.intro) hs he (dk_new (Nat.le_trans (dropK_le kvs k) z) hd (rel.drop k) dd')
theorem d_len{Q:Value→Shared→Prop}(I:Inv X pins σ H s)(e:Rd H a (.dK kvs))(h:∀t s',Inv X pins σ H s'→Q (.int kvs.length t) s'):wpAny (model X.prog X.w) A (call (.builtin "len") [.ref a]) Q E s:=by
 obtain ⟨z,hd,vs,rel,dd⟩:=dk_rd I.hok e
 refine call_len_dict hd dd (by rw [← rel.length];rw [sizeLine_eq]at z;omega) ?_
 rw [← rel.length]
 exact h _ _ (I.tok _)
end
noncomputable def NoSl(i:Expr):Prop:=∀ov iv,subscripted i false ov iv=operate [ov,iv] (getItem ov iv)
theorem subD_of{prog:Program}{w:World}{A:Around}{E:Value→Shared→Prop}{s:Shared}{env:Env}{value slice:Expr}{pos:Pos}{T id:String}{Q:Value→Shared→Prop}
 (hl:typeLookup (.type T) "__getitem__"=pure (some (.builtin id))) (hs:NoSl slice)
 (h:wpAny (model prog w) A (eval value env) (fun o s₁=>wpAny (model prog w) A (eval slice env) (fun i s₂=>s₂.TypeIs o T∧wpAny (model prog w) A (getItem o i) Q E s₂) E s₁) E s):
 wpAny (model prog w) A (eval (.Subscript value slice pos) env) Q E s:=by
 refine Subscript_ (wpAny_mono h (fun o s₁ h₁=>wpAny_mono h₁ (fun i s₂ h₂=>?_) fun _ _ x=>x) fun _ _ x=>x)
 obtain ⟨hT,h₂⟩:=h₂
 unfold subscriptTail
 refine wpAny_bind ?_
 rw [getitemInPython_of_ne hT.not_modules]
 refine wpAny_bind (wpAny_specialOf hT hl ?_)
 have fin:wpAny (model prog w) A (subscripted slice false o i) (fun r s₃=>wpAny (model prog w) A (letTemporaryGo value o r >>=fun _=>pure r) Q E s₃) E s₂:=by
  rw [hs o i]
  exact wpAny_operating (wpAny_mono h₂ (fun r s₃ h₃=>wpAny_bind (wpAny_letTemporaryGo (wpAny_pure h₃))) fun _ _ x=>x)
 first
  | exact wpAny_pure (wpAny_bind fin)
  | exact wpAny_bind (wpAny_pure (wpAny_bind fin))
  | exact wpAny_bind fin
theorem dict_typeIs{X:Cx}{pins:List (Addr×Obj)}{σ:St}{H:Hp}{s:Shared}{a:Addr}{y:V}{o:Option V}(I:Inv X pins σ H s)(g:DGet H a y o):s.TypeIs (.ref a) "dict":=by
 rcases g with ⟨kvs,k,e,_,_⟩ | ⟨kvs,k,b,e,_,_,_⟩
 · obtain ⟨_,_,vs,_,dd⟩:=dk_rd I.hok e
   exact dd.typeIs
 · obtain ⟨_,_,xs,_,dd⟩:=dt_rd I.hok e
   exact dd.typeIs
noncomputable def tDGet(td ty:TE):TE:=fun σ H Q=>td σ H fun x H1=>ty σ H1 fun y H2=>∃a v,x= .ref a∧DGet H2 a y (some v)∧Q v H2
noncomputable def tDIn(ty td:TE):TE:=fun σ H Q=>ty σ H fun y H1=>td σ H1 fun x H2=>∃a o,x= .ref a∧DGet H2 a y o∧Q (.bl o.isSome) H2
noncomputable def tDNotIn(ty td:TE):TE:=fun σ H Q=>ty σ H fun y H1=>td σ H1 fun x H2=>∃a o,x= .ref a∧DGet H2 a y o∧Q (.bl (!o.isSome)) H2
noncomputable def sDPut(td ty tv:TE):TS:=fun D σ H=>tv σ H fun v H1=>td σ H1 fun x H2=>ty σ H2 fun y H3=>∃a H4,x= .ref a∧DPut H3 a y v H4∧D.nx σ H4
section
variable {X:Cx} {o i e value:Expr} {pos pos' tpos:Pos} {td ty tv:TE}
theorem pe_dget(hu:X.A.units+1 < cLine)(ho:PE X o td)(hi:PE X i ty)(hs:NoSl i):PE X (.Subscript o i pos) (tDGet td ty):=by
 intro pins s σ H Q I h
 refine subD_of PySem.F.slot_dict_getitem.lookup hs (thn (ho pins s σ H _ I h) fun u s1 ⟨x,H1,I1,rx,q1⟩=>thn (hi pins s1 σ H1 _ I1 q1) fun iv s2 hq_=>?_)
 obtain ⟨y,H2,I2,ry,a,v,ex,g,q2⟩:=hq_
 subst ex
 obtain rfl:u=Value.ref a:=rx
 exact ⟨dict_typeIs I2 g,d_getItem hu I2 g ry fun w' s3 I3 rw'=>⟨v,H2,I3,rw',q2⟩⟩
theorem pc_din(hu:X.A.units+1 < cLine)(hi:PE X i ty)(ho:PE X o td):PC X .In i o (tDIn ty td):=by
 intro pins s σ H Q I h
 refine thn (hi pins s σ H _ I h) fun iv s1 ⟨y,H1,I1,ry,q1⟩=>thn (ho pins s1 σ H1 _ I1 q1) fun u s2 hq_=>?_
 obtain ⟨x,H2,I2,rx,a,ov,ex,g,q2⟩:=hq_
 subst ex
 obtain rfl:u=Value.ref a:=rx
 exact d_in hu I2 g ry fun s3 I3=>⟨.bl ov.isSome,H2,I3,rfl,q2⟩
theorem pc_dnotin(hu:X.A.units+1 < cLine)(hi:PE X i ty)(ho:PE X o td):PC X .NotIn i o (tDNotIn ty td):=by
 intro pins s σ H Q I h
 refine thn (hi pins s σ H _ I h) fun iv s1 ⟨y,H1,I1,ry,q1⟩=>thn (ho pins s1 σ H1 _ I1 q1) fun u s2 hq_=>?_
 obtain ⟨x,H2,I2,rx,a,ov,ex,g,q2⟩:=hq_
 subst ex
 obtain rfl:u=Value.ref a:=rx
 exact d_notIn hu I2 g ry fun s3 I3=>⟨.bl (!ov.isSome),H2,I3,rfl,q2⟩
theorem ps_dput(hu:X.A.units+1 < cLine)(ho:PE X o td)(hi:PE X i ty)(hv:PE X value tv)(hs:swapsWith value (some (.Subscript o i pos')) pos.line X.env=pure false):
 PS X (.Assign [.Subscript o i pos'] value pos) (sDPut td ty tv):=by
 intro pins s σ H D I h
 refine wpAny_Assign_Subscript (thn (hv pins s σ H _ I h) fun r s1 ⟨v,H1,I1,rv,q1⟩=>thn (ho pins s1 σ H1 _ I1 q1) fun u s2 ⟨x,H2,I2,rx,q2⟩=>thn (hi pins s2 σ H2 _ I2 q2) fun iv s3 hq_=>?_) hs
 obtain ⟨y,H3,I3,ry,a,H4,ex,g,q3⟩:=hq_
 subst ex
 obtain rfl:u=Value.ref a:=rx
 exact d_setItem hu I3 g ry rv fun s4 I4=>⟨σ,H4,I4,q3⟩
end
theorem dk_empty{P:Program}{w:World}{H:Hp}(h:Heap)(hb:sysModules < h.objs.size):ObjOk P w H (h.push {cls:= .type "dict",data:= .dict #[]}) h.objs.size (.dK []):=
 ⟨Nat.zero_le _,beq_eq_false_iff_ne.mpr (Ne.symm (Nat.ne_of_lt hb)),[],.nil,Heap.DictOf.new h⟩
noncomputable def tDNewK:TE:=fun _ H Q=>∀p,H p=none→Q (.ref p) (upd H p (.dK []))
section
variable {X:Cx} {pos:Pos}
theorem pe_dnewK:PE X (.Dict [] [] pos) tDNewK:=fun pins s σ H Q I h=>
 wpAny_Dict_empty ⟨.ref s.heap.objs.size,_,I.laid (a:=s.heap.objs.size) (o:= .dK []) (t':=s.toks) (fun _ _ q=>Heap.get?_push_of_some _ q) (Nat.le_refl _) (dk_empty s.heap I.big),rfl,h _ (I.hok.fresh (Nat.le_refl _))⟩
end
structure M1(X:Cx)(o:Expr)(m:Str)(apos:Pos)(e:Expr)(cpos:Pos):Prop where
 base:attributeBase o m X.env (eval o X.env)=eval o X.env
 few:((backTo cpos (starEach [e] X.env)).all (fun x=>!x.1) && (backToKw cpos (keywordEach [] X.env)).all (fun x=>x.1.isSome)
  && decide (([e]:List Expr).length+([]:List Keyword).length+(if ([]:List Keyword).isEmpty then 0 else 1) < 30))=true
 line:(apos.endLine==cpos.line)=true
 trees:backTo cpos (starEach [e] X.env)=[(false,eval e X.env)]
structure M2(X:Cx)(o:Expr)(m:Str)(apos:Pos)(e f:Expr)(cpos:Pos):Prop where
 base:attributeBase o m X.env (eval o X.env)=eval o X.env
 few:((backTo cpos (starEach [e,f] X.env)).all (fun x=>!x.1) && (backToKw cpos (keywordEach [] X.env)).all (fun x=>x.1.isSome)
  && decide (([e,f]:List Expr).length+([]:List Keyword).length+(if ([]:List Keyword).isEmpty then 0 else 1) < 30))=true
 line:(apos.endLine==cpos.line)=true
 trees:backTo cpos (starEach [e,f] X.env)=[(false,eval e X.env),(false,eval f X.env)]
noncomputable def IsD(H:Hp)(a:Addr):Prop:=(∃kvs,Rd H a (.dK kvs))∨∃kvs,Rd H a (.dT kvs)
theorem isD_at{X:Cx}{pins:List (Addr×Obj)}{σ:St}{H:Hp}{s:Shared}{a:Addr}(I:Inv X pins σ H s)(d:IsD H a):
 s.TypeIs (.ref a) "dict"∧(∀b,Value.ref a= .ref b→∃ob,s.heap.get? b=some ob∧ob.dict=none)∧(a==sysModules)=false:=by
 rcases d with ⟨kvs,e⟩ | ⟨kvs,e⟩
 · obtain ⟨_,hd,vs,_,dd⟩:=dk_rd I.hok e
   refine ⟨dd.typeIs,fun b q=>?_,hd⟩
   cases q
   obtain ⟨ob,_,_,h1,h2,_⟩:=dd
   exact ⟨ob,h1,h2.2.1⟩
 · obtain ⟨_,hd,xs,_,dd⟩:=dt_rd I.hok e
   refine ⟨dd.typeIs,fun b q=>?_,hd⟩
   cases q
   obtain ⟨ob,_,_,h1,h2,_⟩:=dd
   exact ⟨ob,h1,h2.2.1⟩
section
variable {X:Cx} {pins:List (Addr×Obj)} {σ:St} {H:Hp} {s:Shared} {a:Addr} {y d:V} {u r:Value} {o:Option V} {A:Around} {E:Value→Shared→Prop}
theorem d_get2{Q:Value→Shared→Prop}(hu:A.units+1 < cLine)(I:Inv X pins σ H s)(g:DGet H a y o)(ry:RelV y u)(rd:RelV d r)(h:∀w' s',Inv X pins σ H s'→RelV (o.getD d) w'→Q w' s'):
 wpAny (model X.prog X.w) A (call (.builtin "dict.get") [.ref a,u,r]) Q E s:=by
 rcases g with ⟨kvs,k,e,ey,l⟩ | ⟨kvs,k,b,e,ey,eb,l⟩
 · subst ey
   obtain ⟨z,hd,vs,rel,dd⟩:=dk_rd I.hok e
   refine call_meetsIn PySem.F.slot_dict_get dd.typeIs PySem.F.entry_dict_get (PySem.F.args_dict_get_3 _ _ _) (meets_dict_get_default (mixKind X.prog X.w) a (kV_is ry) hd r) ⟨_,dd.mapOf,h _ _ (I.tok _) ?_⟩
   rw [l]
   exact (rel.val k).getD rd
 · subst ey
   cases (show u=Value.ref b from ry)
   obtain ⟨z,hd,xs,rel,dd⟩:=dt_rd I.hok e
   refine call_meetsIn PySem.F.slot_dict_get dd.typeIs PySem.F.entry_dict_get (PySem.F.args_dict_get_3 _ _ _) (meetsH_dict_get_default (tupleKind (mixKind X.prog X.w)) a b hd r) ⟨tupleKind_room_in1 hu,k,xs,key_of I.hok eb,dd,h _ _ (I.tok _) ?_⟩
   rw [l]
   exact (rel.val k).getD rd
end
noncomputable def tDGet1(td ty:TE):TE:=fun σ H Q=>td σ H fun x H1=>∃a,x= .ref a∧IsD H1 a∧ty σ H1 fun y H2=>∃o,DGet H2 a y o∧Q (o.getD .non) H2
noncomputable def tDGet2(td ty tx:TE):TE:=fun σ H Q=>td σ H fun x H1=>∃a,x= .ref a∧IsD H1 a∧ty σ H1 fun y H2=>tx σ H2 fun z H3=>∃o,DGet H3 a y o∧Q (o.getD z) H3
noncomputable def tDPop1(td ty:TE):TE:=fun σ H Q=>td σ H fun x H1=>∃a,x= .ref a∧IsD H1 a∧ty σ H1 fun y H2=>∃kvs k v,H2 a=some (.dK kvs)∧y=kV k∧valV kvs k=some v∧Q v (upd H2 a (.dK (dropK kvs k)))
section
variable {X:Cx} {o e f:Expr} {apos cpos:Pos} {td ty tx:TE}
theorem pe_dget2(hu:X.A.units+1 < cLine)(ho:PE X o td)(he:PE X e ty)(hf:PE X f tx)(m:M2 X o "get" apos e f cpos):PE X (.Call (.Attribute o "get" apos) [e,f] [] cpos) (tDGet2 td ty tx):=by
 intro pins s σ H Q I h
 refine wpAny_Call_method m.base m.few m.line PySem.F.plainAttrs_dict PySem.F.slot_dict_get PySem.F.type_dict_get (thn (ho pins s σ H _ I h) fun u s1 hq_=>?_)
 obtain ⟨x,H1,I1,rx,a,ex,d,q1⟩:=hq_
 subst ex
 obtain rfl:u=Value.ref a:=rx
 obtain ⟨t1,t2,_⟩:=isD_at I1 d
 refine ⟨t1,t2,?_⟩
 rw [m.trees]
 refine Calls.callWith_builtin rfl (Calls.evalArgs_plain (Calls.spliced_cons (thn (he pins s1 σ H1 _ I1 q1) fun iv s2 ⟨y,H2,I2,ry,q2⟩=>
  Calls.spliced_cons (thn (hf pins s2 σ H2 _ I2 q2) fun fv s3 ⟨z,H3,I3,rz,ov,g,q3⟩=>Calls.spliced_nil ?_))))
 exact d_get2 hu I3 g ry rz fun w' s4 I4 rw'=>⟨_,H3,I4,rw',q3⟩
theorem pe_dpop1(ho:PE X o td)(he:PE X e ty)(m:M1 X o "pop" apos e cpos):PE X (.Call (.Attribute o "pop" apos) [e] [] cpos) (tDPop1 td ty):=by
 intro pins s σ H Q I h
 refine wpAny_Call_method m.base m.few m.line PySem.F.plainAttrs_dict PySem.F.slot_dict_pop PySem.F.type_dict_pop (thn (ho pins s σ H _ I h) fun u s1 hq_=>?_)
 obtain ⟨x,H1,I1,rx,a,ex,d,q1⟩:=hq_
 subst ex
 obtain rfl:u=Value.ref a:=rx
 obtain ⟨t1,t2,_⟩:=isD_at I1 d
 refine ⟨t1,t2,?_⟩
 rw [m.trees]
 refine Calls.callWith_builtin rfl (Calls.evalArgs_plain (Calls.spliced_cons (thn (he pins s1 σ H1 _ I1 q1) fun iv s2 ⟨y,H2,I2,ry,kvs,k,v,ea,ey,l,q2⟩=>Calls.spliced_nil ?_)))
 subst ey
 exact d_pop I2 ea ry l (.inl rfl) fun w' s3 I3 rw'=>⟨v,_,I3,rw',q2⟩
end
end L2
namespace L2
section
variable {X:Cx}
theorem call_lenD:CallR X (.builtin "len") (fun xs H Q=>∃a kvs,xs=[V.ref a]∧H a=some (.dK kvs)∧Q (.int kvs.length) H):=by
 intro pins s σ H xs us Q I r h
 obtain ⟨a,kvs,rfl,ha,q⟩:=h
 obtain ⟨u,rfl,ru⟩:=vals1 r
 cases ru
 exact d_len I (.inl ha) fun t s' I'=>⟨.int kvs.length,H,I',⟨t,rfl⟩,q⟩
end
section
variable {κ:Type} [DecidableEq κ]
theorem valV_not{kvs:List (κ×V)}{k:κ}(h:valV kvs k=none):¬k∈kvs.map (·.1):=by
 intro m
 obtain ⟨p,hp,e⟩:=List.mem_map.mp m
 have q:(kvs.any fun kv=>decide (kv.1=k))=true:=List.any_eq_true.mpr ⟨p,hp,decide_eq_true e⟩
 rw [valV_any,h]at q
 exact absurd q (by simp)
theorem valV_in{kvs:List (κ×V)}{k:κ}{v:V}(h:valV kvs k=some v):k∈kvs.map (·.1):=by
 have q:(kvs.any fun kv=>decide (kv.1=k))=true:=by
  rw [valV_any,h]
  all_goals rfl
 obtain ⟨p,hp,e⟩:=List.any_eq_true.mp q
 exact List.mem_map.mpr ⟨p,hp,of_decide_eq_true e⟩
end
end L2
namespace L2
structure Def(P:Program)(w:World)(K:PySem.W.Frag)(mg:Str→Option Value)(base:Heap)(CX:CXT)(k:Nat)(x:Str)(ps:List Str)(sp:Sp):Prop where
 ex:∃(f:Addr) (fd:FuncData),FnOk P w K mg base CX k f fd ps sp∧mg x=some (.ref f)∧PySem.W.keepIn K (.ref f)=true∧Binds K fd ps []
noncomputable def tCallD(sp:Sp)(E:XK)(t:TA):TE:=fun σ H Q=>t σ H fun vs H1=>sp vs H1 Q E
section
variable {X:Cx} {CX:CXT} {k j:Nat} {ps:List Str} {sp:Sp} {E:XK} {x:Str} {p pos:Pos} {e:Expr} {es:List Expr} {t:TA}
theorem pe_callD(D:Def X.prog X.w X.K X.mg X.base CX j x ps sp)(hr:Room k X.A)(hg:Gl X x)(hx:Passes CX X E)(ha:PA X (e::es) t)(hj:j≤k:=by decide)
 (hdb:(x==("__debug__":Str))=false:=by decide) (he:starEach (e::es) X.env=(false,eval e X.env)::starEach es X.env:=by rfl) (hpl:(backTo pos (starEach es X.env)).any (·.1)=false:=by rfl):
 PE X (.Call (.Name x p) (e::es) [] pos) (tCallD sp E t):=by
 obtain ⟨f,fd,F,hm,hk,hb⟩:=D.ex
 intro pins s σ H Q I h
 refine pe_call (F.mono hj) hr hg hm hk hb .nil hx ha hdb he hpl pins s σ H Q I ?_
 show t σ H fun vs H1=>sp (vs++[]) H1 Q E
 have z:(fun (vs:List V) (H1:Hp)=>sp (vs++[]) H1 Q E)=fun vs H1=>sp vs H1 Q E:=by funext vs H1;rw [List.append_nil]
 rw [z]
 exact h
end
noncomputable def CBig(i j:Int):Prop:=i.natAbs < 10 ^ 100∧j.natAbs < 10 ^ 100
theorem big_pow:(10:Nat) ^ 100≤2 ^ 1000:=by decide+kernel
theorem bits_of{i:Int}(h:i.natAbs < 10 ^ 100):Builtin.Int.intBits i≤2 ^ 20:=by
 have h1:Builtin.Int.intBits i≤1000:=by
  unfold Builtin.Int.intBits
  split
  · omega
  · rename_i hne
    have:=(Nat.log2_lt (n:=i.natAbs) (k:=1000) (by simpa using hne)).mpr (Nat.lt_of_lt_of_le h big_pow)
    omega
 exact Nat.le_trans h1 (by decide)
section
variable {X:Cx}
theorem op_mulB:OpR X (binaryOp .Mult) (rI CBig fun i j=> .int (i * j)):=opI fun _ _ _ _ _ _ _ hc q=>mul_int q (.of_bits (bits_of hc.1) (bits_of hc.2))
end
noncomputable def Isi(K:PySem.W.Frag)(H:Hp)(x:V)(n:String)(b:Bool):Prop:=∃t,TyOf K H x t∧PySem.W.kitOne K t (.type n)=some b
section
variable {X:Cx}
theorem call_isinst:CallR X (.builtin "isinstance") (fun xs H Q=>∃x n b,xs=[x,.ty n]∧Isi X.K H x n b∧Q (.bl b) H):=by
 intro pins s σ H xs us Q I r h
 obtain ⟨x,n,b,rfl,⟨t,ty,e⟩,q⟩:=h
 obtain ⟨u,c,rfl,r1,r2⟩:=vals2 r
 cases r2
 exact isinst_ok I r1 ty e fun tk=>⟨.bl b,H,I.tok _,rfl,q⟩
end
section
variable {K:PySem.W.Frag} {H:Hp}
theorem isi_ii{i:Int}:Isi K H (.int i) "int" true:=⟨_,.int i,rfl⟩
theorem isi_ib{i:Int}:Isi K H (.int i) "bool" false:=⟨_,.int i,by with_unfolding_all rfl⟩
theorem isi_is{i:Int}:Isi K H (.int i) "str" false:=⟨_,.int i,by with_unfolding_all rfl⟩
theorem isi_bb{i:Bool}:Isi K H (.bl i) "bool" true:=⟨_,.bl i,rfl⟩
theorem isi_bi{i:Bool}:Isi K H (.bl i) "int" true:=⟨_,.bl i,by with_unfolding_all rfl⟩
theorem isi_bs{i:Bool}:Isi K H (.bl i) "str" false:=⟨_,.bl i,by with_unfolding_all rfl⟩
theorem isi_ss{i:Str}:Isi K H (.str i) "str" true:=⟨_,.str i,rfl⟩
theorem isi_si{i:Str}:Isi K H (.str i) "int" false:=⟨_,.str i,by with_unfolding_all rfl⟩
theorem isi_sb{i:Str}:Isi K H (.str i) "bool" false:=⟨_,.str i,by with_unfolding_all rfl⟩
theorem isi_ni:Isi K H .non "int" false:=⟨_,.non,by with_unfolding_all rfl⟩
theorem isi_ns:Isi K H .non "str" false:=⟨_,.non,by with_unfolding_all rfl⟩
theorem isi_lstl{a:Addr}{xs:List V}(e:H a=some (.lst xs)):Isi K H (.ref a) "list" true:=⟨_,.lst e,rfl⟩
theorem isi_lsts{a:Addr}{xs:List V}(e:H a=some (.lst xs)):Isi K H (.ref a) "str" false:=⟨_,.lst e,by with_unfolding_all rfl⟩
theorem isi_lsti{a:Addr}{xs:List V}(e:H a=some (.lst xs)):Isi K H (.ref a) "int" false:=⟨_,.lst e,by with_unfolding_all rfl⟩
theorem isi_lstt{a:Addr}{xs:List V}(e:H a=some (.lst xs)):Isi K H (.ref a) "tuple" false:=⟨_,.lst e,by with_unfolding_all rfl⟩
theorem isi_tupt{a:Addr}{xs:List V}(e:H a=some (.tup xs)):Isi K H (.ref a) "tuple" true:=⟨_,.tup e,rfl⟩
theorem isi_tups{a:Addr}{xs:List V}(e:H a=some (.tup xs)):Isi K H (.ref a) "str" false:=⟨_,.tup e,by with_unfolding_all rfl⟩
theorem isi_tupi{a:Addr}{xs:List V}(e:H a=some (.tup xs)):Isi K H (.ref a) "int" false:=⟨_,.tup e,by with_unfolding_all rfl⟩
theorem isi_tupl{a:Addr}{xs:List V}(e:H a=some (.tup xs)):Isi K H (.ref a) "list" false:=⟨_,.tup e,by with_unfolding_all rfl⟩
theorem isi_go{x:V}{n:String}{b:Bool}{R:Bool→Prop}(h:Isi K H x n b)(q:R b):∃b,Isi K H x n b∧R b:=⟨b,h,q⟩
theorem len_goL{p:Addr}{xs:List V}{R:List V→Prop}(h:SqL K H p xs)(q:R xs):∃ys,(SqL K H p ys∨SqT K H p ys)∧R ys:=⟨xs,.inl h,q⟩
theorem len_goT{p:Addr}{xs:List V}{R:List V→Prop}(h:SqT K H p xs)(q:R xs):∃ys,(SqL K H p ys∨SqT K H p ys)∧R ys:=⟨xs,.inr h,q⟩
theorem ixT_of{p:Addr}{xs:List V}{i:Int}{v:V}{Q:VK}(h:SqT K H p xs)(e:atI xs i=some v)(q:Q v H):rIxT K (.ref p) (.int i) H Q:=⟨p,xs,i,v,rfl,rfl,h,e,q⟩
theorem ixL_of{p:Addr}{xs:List V}{i:Int}{v:V}{Q:VK}(h:SqL K H p xs)(e:atI xs i=some v)(q:Q v H):rIxL K (.ref p) (.int i) H Q:=⟨p,xs,i,v,rfl,rfl,h,e,q⟩
end
theorem while_d{c:TT}{tb:TS}{D:Ends}{σ:St}{H:Hp}{m0:Nat}(Pv:Nat→St→Hp→Prop)(h0:Pv m0 σ H)
 (hs:∀m σ H,Pv m σ H→c σ H fun b H1=>if b=true then ∃N:St→Hp→Prop,(∀σ' H',N σ' H'→∃m',m' < m∧Pv m' σ' H')∧tb {D with nx:=N,ct:=N,bk:=D.nx} σ H1 else D.nx σ H1):tWhile c tb D σ H:=⟨Pv,⟨m0,h0⟩,hs⟩
theorem atI_of{α:Type}{xs:List α}{i:Int}{v:α}(h0:0≤i)(h:xs[i.toNat]?=some v):atI xs i=some v:=by
 unfold atI ixN
 have hl:i.toNat < xs.length:=(List.getElem?_eq_some_iff.mp h).1
 rw [if_pos h0,if_pos (show i < xs.length by omega)]
 exact h
theorem cxOf_K{CX:CXT}{P:Program}{w:World}{K:PySem.W.Frag}{mg:Str→Option Value}{base:Heap}{N:List Str}{qual:Str}{scope:Scope}{f:Addr}{cd:Value}{A:Around}{outer:List Env}{s:Shared}{H:Hp}{E:XK}:
 (cxOf CX P w K mg base N qual scope f cd A outer s H E).K=K:=rfl
theorem getMap{ns:List Int}{k:Nat}(h:k < ns.length):(ns.map V.int)[k]?=some (V.int (ns.getD k 0)):=by
 rw [List.getElem?_map,List.getD_eq_getElem?_getD,List.getElem?_eq_getElem h];rfl
theorem Same.tup{K:PySem.W.Frag}{H H':Hp}{a:Addr}{xs:List V}(e:Same H H')(h:SqT K H a xs):SqT K H' a xs:=by
 rcases h with (h | ⟨o,h⟩) | h
 · exact .inl (.inl (e _ _ h))
 · exact .inl (.inr ⟨o,e _ _ h⟩)
 · exact .inr h
theorem Same.new{H:Hp}{p:Addr}{o:HO}(h:H p=none):Same H (upd H p o):=fun b u e=>by
 rw [upd_ne (ne_of_none e h)];exact e
section
variable {σ:St} {H:Hp} {Q:VK} {QT:Bool→Hp→Prop} {QA:List V→Hp→Prop} {D:Ends} {K:PySem.W.Frag}
theorem rd_asg{te:TE}{g:TG}:tAsg te g D σ H=te σ H fun x H1=>g x σ H1 D.nx:=rfl
theorem rd_var{i:Nat}:tVar i σ H Q=∃v,σ[i]?=some (some v)∧Q v H:=rfl
theorem rd_c{v:V}:tC v σ H Q=Q v H:=rfl
theorem rd_op{r:R2}{ta tb:TE}:tOp r ta tb σ H Q=ta σ H fun x H1=>tb σ H1 fun y H2=>r x y H2 Q:=rfl
theorem rd_I0{g:Int→Int→V}{x y:V}:rI0 g x y H Q=∃i j,x= .int i∧y= .int j∧Q (g i j) H:=rfl
theorem rd_I{C:Int→Int→Prop}{g:Int→Int→V}{x y:V}:rI C g x y H Q=∃i j,x= .int i∧y= .int j∧C i j∧Q (g i j) H:=rfl
theorem rd_U{g:Int→V}{x:V}:rU g x H Q=∃i,x= .int i∧Q (g i) H:=rfl
theorem rd_name{i:Nat}{v:V}{N:St→Hp→Prop}:gName i v σ H N=N (σ.set i (some v)) H:=rfl
theorem rd_ifS{c:TT}{t u:TS}:tIfS c t u D σ H=c σ H fun b H1=>if b=true then t D σ H1 else u D σ H1:=rfl
theorem rd_test{t:TE}:tTest t σ H QT=t σ H fun x H'=>∃k,x= .bl k∧QT k H':=rfl
theorem rd_b{t:TE}:tB t σ H QT=t σ H fun x H1=>∃c,x= .bl c∧QT c H1:=rfl
theorem rd_ret{te:TE}:tRet te D σ H=te σ H D.rt:=rfl
theorem rd_retN:tRetN D σ H=D.rt .non H:=rfl
theorem rd_next:tNext D σ H=D.nx σ H:=rfl
theorem rd_break:tBreak D σ H=D.bk σ H:=rfl
theorem rd_cont:tCont D σ H=D.ct σ H:=rfl
theorem rd_cb{r:List V→Hp→VK→Prop}{t:TA}:tCB r t σ H Q=t σ H fun vs H1=>r vs H1 Q:=rfl
theorem rd_cons{ta:TE}{tr:TA}:tCons ta tr σ H QA=ta σ H fun x H1=>tr σ H1 fun xs H2=>QA (x::xs) H2:=rfl
theorem rd_nil:tNil σ H QA=QA [] H:=rfl
theorem rd_call{sp:Sp}{E:XK}{t:TA}:tCallD sp E t σ H Q=t σ H fun vs H1=>sp vs H1 Q E:=rfl
theorem rd_not{t:TT}:tNot t σ H QT=t σ H fun c H1=>QT (!c) H1:=rfl
theorem rd_or{t u:TT}:tOr t u σ H QT=t σ H fun c H1=>if c=true then QT true H1 else u σ H1 QT:=rfl
theorem rd_and{t u:TT}:tAnd t u σ H QT=t σ H fun c H1=>if c=true then u σ H1 QT else QT false H1:=rfl
theorem rd_andV{ta tb:TE}:tAndV ta tb σ H Q=ta σ H fun x H1=>∃c,x= .bl c∧if c=true then tb σ H1 Q else Q (.bl false) H1:=rfl
theorem rd_orV{ta tb:TE}:tOrV ta tb σ H Q=ta σ H fun x H1=>∃c,x= .bl c∧if c=true then Q (.bl true) H1 else tb σ H1 Q:=rfl
theorem rd_notV{ta:TE}:tNotV ta σ H Q=ta σ H fun x H1=>∃c,x= .bl c∧Q (.bl (!c)) H1:=rfl
theorem rd_if{t:TT}{ta tb:TE}:tIf t ta tb σ H Q=t σ H fun c H1=>if c=true then ta σ H1 Q else tb σ H1 Q:=rfl
theorem rd_un{r:V→Hp→VK→Prop}{ta:TE}:tUn r ta σ H Q=ta σ H fun x H1=>r x H1 Q:=rfl
theorem rd_eq{x y:V}:rEq x y H Q=(scal x y=true∧Q (.bl (decide (x=y))) H):=rfl
theorem rd_ne{x y:V}:rNe x y H Q=(scal x y=true∧Q (.bl (!decide (x=y))) H):=rfl
theorem rd_par{i j:Nat}{ta:TA}:tPar i j ta D σ H=ta σ H fun vs H1=>∃v w,vs=[v,w]∧D.nx ((σ.set i (some v)).set j (some w)) H1:=rfl
theorem rd_tup{t:TA}:tTup t σ H Q=t σ H fun xs H1=>xs.length≤sizeLine∧∀p,H1 p=none→Q (.ref p) (upd H1 p (.tup xs)):=rfl
theorem rd_lst{t:TA}:tLst t σ H Q=t σ H fun xs H1=>xs.length≤sizeLine∧∀p,H1 p=none→Q (.ref p) (upd H1 p (.lst xs)):=rfl
theorem rd_never:tNever D σ H=False:=rfl
theorem rd_drop{te:TE}:tDrop te D σ H=te σ H fun _ H1=>D.nx σ H1:=rfl
theorem rd_gcons{t:TG}{u:TGs}{vs:List V}{N:St→Hp→Prop}:gCons t u vs σ H N=∃v r,vs=v::r∧t v σ H fun σ' H'=>u r σ' H' N:=rfl
theorem rd_gnil{vs:List V}{N:St→Hp→Prop}:gNil vs σ H N=(vs=[]∧N σ H):=rfl
theorem rd_gsub{to ti:TE}{t:TSet}{v:V}{N:St→Hp→Prop}:gSub to ti t v σ H N=to σ H fun o H1=>ti σ H1 fun i H2=>t o i v H2 fun H3=>N σ H3:=rfl
theorem rd_chain{r r':R2}{ta tb tc:TE}:tChain r r' ta tb tc σ H Q=ta σ H fun x H1=>tb σ H1 fun y H2=>r x y H2 fun z H3=>∃k,z= .bl k∧
 (if k=true then tc σ H3 fun w' H4=>r' y w' H4 Q else Q (.bl false) H3):=rfl
theorem rd_rng1{ta:TA}{R:It→Hp→Prop}:iRng1 ta σ H R=ta σ H fun vs H1=>∃j:Int,vs=[.int j]∧-(2 ^ 62)≤j∧j < 2 ^ 62∧R (Itr 0 j.toNat) H1:=rfl
theorem rd_rng2{ta:TA}{R:It→Hp→Prop}:iRng2 ta σ H R=ta σ H fun vs H1=>∃i j:Int,vs=[.int i,.int j]∧(-(2 ^ 62)≤i∧i < 2 ^ 62∧-(2 ^ 62)≤j∧j < 2 ^ 62)∧R (Itr i (j - i).toNat) H1:=rfl
theorem rd_ilist{tl:TE}{R:It→Hp→Prop}:iList K tl σ H R=tl σ H fun x H1=>∃a,x= .ref a∧(∃xs,SqL K H1 a xs)∧R (Itl K a) H1:=rfl
theorem rd_itup{tl:TE}{R:It→Hp→Prop}:iTup K tl σ H R=tl σ H fun x H1=>∃a,x= .ref a∧(∃xs,SqT K H1 a xs)∧R (Itt K a) H1:=rfl
noncomputable def ForTail(g:TG)(tb:TS)(D:Ends)(σ:St):It→Hp→Prop:=fun J H1=>∃W:Nat→Nat→St→Hp→Prop,(∃m,W 0 m σ H1)∧∀i m σ H,W i m σ H→
 (J.stop i H∧D.nx σ H)∨(J.go i H∧∃N:St→Hp→Prop,(∀σ' H',N σ' H'→∃m',m' < m∧W (i+1) m' σ' H')∧∀x H',J.yld i H x H'→g x σ H' fun σ2 H2=>tb {D with nx:=N,ct:=N,bk:=D.nx} σ2 H2)
theorem rd_for'{wi:TI}{g:TG}{tb:TS}:tFor wi g tb D σ H=wi σ H (ForTail g tb D σ):=rfl
theorem forR_by{lo:Int}{n:Nat}{g:TG}{tb:TS}(Pv:Nat→St→Hp→Prop)(h0:Pv 0 σ H)
 (hs:∀i σ H,i < n→Pv i σ H→g (.int (lo+i)) σ H fun σ2 H2=>tb {D with nx:=Pv (i+1),ct:=Pv (i+1),bk:=D.nx} σ2 H2) (hd:∀σ H,Pv n σ H→D.nx σ H):ForTail g tb D σ (Itr lo n) H:=for_range Pv h0 hs hd
theorem forL_by{a:Addr}{xs:List V}{g:TG}{tb:TS}(Pv:Nat→St→Hp→Prop)(h0:Pv 0 σ H)(hl:∀i σ H,i≤xs.length→Pv i σ H→SqL K H a xs)
 (hs:∀i x σ H,xs[i]?=some x→Pv i σ H→g x σ H fun σ2 H2=>tb {D with nx:=Pv (i+1),ct:=Pv (i+1),bk:=D.nx} σ2 H2) (hd:∀σ H,Pv xs.length σ H→D.nx σ H):ForTail g tb D σ (Itl K a) H:=for_list Pv h0 hl hs hd
theorem seq_go{t u:TS}(h:∀rest:St→Hp→Prop,rest=u D→t {D with nx:=rest} σ H):tSeq t u D σ H:=h _ rfl
theorem leaf_go{rest r:St→Hp→Prop}(h:rest=r)(q:r σ H):rest σ H:=by rw [h];exact q
theorem cell_go{a:Addr}{ns:List Int}{k:Int}{R:List Int→Prop}(h:SqL K H a (ns.map V.int))(h0:0≤k)(hl:ns.length≤63)(q:R ns):∃x:List Int,SqL K H a (x.map V.int)∧0≤k∧x.length≤63∧R x:=⟨ns,h,h0,hl,q⟩
theorem cdiv_of{i j:Int}(h1:0 < j)(h2:j < 1073741824):CDiv i j:=⟨h1,h2⟩
theorem cpow_of{i j:Int}(h1:0≤j)(h2:j≤1000000)(h3:i.natAbs < 2 ^ 64):CPow i j:=⟨h1,h2,h3⟩
theorem cmul_l{i j:Int}(h1:-(2 ^ 64) < i)(h2:i < 2 ^ 64):CMul i j:= .inl ⟨h1,h2⟩
theorem cmul_r{i j:Int}(h1:-(2 ^ 64) < j)(h2:j < 2 ^ 64):CMul i j:= .inr ⟨h1,h2⟩
end
end L2
namespace L2
noncomputable def PassesS(CX:CXT)(X:Cx)(EE:St→XK):Prop:=∀(pins:List (Addr×Obj)) (σ:St) (H:Hp) (s:Shared) (e:Value) (s':Shared),Inv X pins σ H s→CX X.stack H s (EE σ) e s'→X.xe e s'
noncomputable abbrev TH:=Value→Addr→TS
end L2
namespace L2
theorem compLoop_any{prog:Program}{w:World}{A:Around}{R:Result→Shared→Prop}{s:Shared}{elt target iter:Expr}{ifs:List Expr}{scope:Scope}{pos:Pos}{it acc:Value}{env:Env}(I:Nat→Shared→Prop)
 (turn:∀n s,I n s→wpAny (model prog w) A (pyNext it) (fun r s₁=>match r with
  | none=>R (.ok .next) s₁
  | some v=>wpAny (model prog w) A (letOwnedTupleGo target it v) (fun _ s₁=>wpAny (model prog w) A (assign target env v) (fun _ s₂=>
   wpAny (model prog w) A (forIn ifs true fun c r=>if r=true then do let ok ← isTrue c env (eval c env);pure (ForInStep.yield ok) else pure (ForInStep.yield r)) (fun ok s₃=>
    if ok=true then wpAny (model prog w) A (eval elt env) (fun x s₄=>
     wpAny (model prog w) A (call (.builtin "list.append") [acc,x]) (fun _ s₅=>∃m,m < n∧I m s₅) (notedBy (model prog w) A env fun e s'=>R (.error e) s') s₄) (notedBy (model prog w) A env fun e s'=>R (.error e) s') s₃
    else ∃m,m < n∧I m s₃) (notedBy (model prog w) A env fun e s'=>R (.error e) s') s₂) (notedBy (model prog w) A env fun e s'=>R (.error e) s') s₁) (notedBy (model prog w) A env fun e s'=>R (.error e) s') s₁) (notedBy (model prog w) A env fun e s'=>R (.error e) s') s)
 (n:Nat) (h:I n s):
 codeAny (model prog w) A (.compLoop (.ListComp elt [⟨target,iter,ifs,0⟩] scope pos) 0 it acc env) R s:=by
 refine codeAny_loop rfl I (fun n s hI=>?_) n h
 show wpAny _ A ((compTurn (.ListComp elt [⟨target,iter,ifs,0⟩] scope pos) 0 it acc env).onRaise (fun x=>do noteFrame x env;theTreesLotGoes x)) _ _ s
 refine wpAny_noted ?_
 rw [compTurn_list]
 refine wpAny_bind (wpAny_standAt (wpAny_bind (wpAny_mono (turn n s hI) (fun r s₁ h₁=>?_) fun _ _ h'=>h')))
 cases r with
 | none=>exact wpAny_pure h₁
 | some v=>
  refine wpAny_bind (wpAny_mono h₁ (fun _ s₁ h₁=>?_) fun _ _ h'=>h')
  refine wpAny_bind (wpAny_mono h₁ (fun _ s₂ h₂=>wpAny_bind (wpAny_mono h₂ (fun ok s₃ h₃=>?_) fun _ _ h'=>h')) fun _ _ h'=>h')
  cases ok with
  | false=>exact wpAny_pure ⟨rfl,h₃⟩
  | true=>
   exact wpAny_bind (wpAny_bind (wpAny_mono h₃ (fun x s₄ h₄=>wpAny_bind (wpAny_mono h₄ (fun _ s₅ h₅=>wpAny_pure (wpAny_pure ⟨rfl,h₅⟩)) fun _ _ h'=>h')) fun _ _ h'=>h'))
noncomputable def clo(env:Env):List (Str×NameKind)→List (Str×Addr)→List (Str×Addr)
 | [],cs=>cs
 | (n,k)::r,cs=>clo env r (if (k== .free)=true then (match env.cells.lookup n with | some c=>(n,c)::cs | none=>cs) else cs)
theorem clo_loop{env:Env}:∀(names:List (Str×NameKind)) (cs:List (Str×Addr)),(∀y∈names,y.2= .free→∃c,env.cells.lookup y.1=some c)→
 (forIn (m:=Sem) names cs fun (x:Str×NameKind) (r:List (Str×Addr))=>match x with | (name,kind)=>if (kind== .free)=true then do let c ← cellOf env name;pure (ForInStep.yield ((name,c)::r)) else pure (ForInStep.yield r))=pure (clo env names cs)
 | [],cs,_=>rfl
 | (n,k)::r,cs,h=>by
  rw [List.forIn_cons]
  have ih:=fun cs=>clo_loop r cs fun y hy=>h y (List.mem_cons_of_mem _ hy)
  by_cases hk:(k==NameKind.free)=true
  · obtain ⟨c,hc⟩:=h (n,k) List.mem_cons_self (by simpa using hk)
    have e:cellOf env n=pure c:=by unfold cellOf;rw [show env.cells.lookup n=some c from hc]
    simp only [hk,if_true,e,clo]
    rw [show env.cells.lookup n=some c from hc]
    exact ih _
  · simp only [hk,clo]
    exact ih _
theorem clo_closure{scope:Scope}{env:Env}(h:∀y∈scope.names,y.2= .free→∃c,env.cells.lookup y.1=some c):closureFor scope env=pure (clo env scope.names []):=by
 unfold closureFor
 show (forIn (m:=Sem) scope.names ([]:List (Str×Addr)) _ >>=fun r=>pure r)=_
 rw [clo_loop scope.names [] h]
 rfl
theorem clo_cells{env:Env}{x:Str}{c:Addr}:∀(names:List (Str×NameKind)) (cs:List (Str×Addr)),(clo env names cs).lookup x=some c→env.cells.lookup x=some c∨cs.lookup x=some c
 | [],cs,h=> .inr h
 | (n,k)::r,cs,h=>by
  unfold clo at h
  rcases clo_cells r _ h with q | q
  · exact .inl q
  · split at q
    · split at q
      · rename_i c' hc
        rw [List.lookup_cons]at q
        cases hx:x==n with
        | true=>
         rw [hx]at q
         have e:x=n:=by simpa using hx
         subst e
         simp only [Option.some.injEq]at q
         subst q
         exact .inl hc
        | false=>rw [hx]at q;exact .inr q
      · exact .inr q
    · exact .inr q
theorem clo_has{env:Env}{x:Str}{c:Addr}(hc:env.cells.lookup x=some c):∀(names:List (Str×NameKind)) (cs:List (Str×Addr)),(cs.lookup x=some c∨(cs.lookup x=none∧(x,NameKind.free)∈names))→(clo env names cs).lookup x=some c
 | [],cs,h=>by
  rcases h with h | ⟨_,h⟩
  · exact h
  · cases h
 | (n,k)::r,cs,h=>by
  unfold clo
  refine clo_has hc r _ ?_
  by_cases hx:x=n
  · subst hx
    by_cases hk:(k==NameKind.free)=true
    · rw [if_pos hk,hc]
      exact .inl (by simp [List.lookup_cons])
    · rw [if_neg hk]
      rcases h with h | ⟨h1,h2⟩
      · exact .inl h
      · refine .inr ⟨h1,?_⟩
        rcases List.mem_cons.mp h2 with e | e
        · cases e;exact absurd rfl hk
        · exact e
  · have hb:(x==n)=false:=by simpa using hx
    have key:∀cs':List (Str×Addr),cs'.lookup x=cs.lookup x→(cs'.lookup x=some c∨(cs'.lookup x=none∧(x,NameKind.free)∈r)):=fun cs' e=>by
     rw [e]
     rcases h with h | ⟨h1,h2⟩
     · exact .inl h
     · refine .inr ⟨h1,?_⟩
       rcases List.mem_cons.mp h2 with e | e
       · cases e;exact absurd rfl hx
       · exact e
    refine key _ ?_
    split
    · split
      · simp [List.lookup_cons,hb]
      · rfl
    · rfl
theorem relabel_kind{env:Env}{k':NameKind}:∀{names:List (Str×NameKind)} {x:Str},(∀y∈names,y.2≠ .cell)→
 (names.map fun (n,k)=>if (k==NameKind.free && env.scope.kind== .function && env.kindOf n==some .cell) then (n,NameKind.cell) else (n,k)).lookup x=some k'→(k'= .cell∨k'= .free)→(x,NameKind.free)∈names
 | [],_,_,h,_=>by simp at h
 | (n,k)::r,x,hc,h,hk=>by
  have ih:=@relabel_kind env k' r x (fun y hy=>hc y (List.mem_cons_of_mem _ hy))
  have h':List.lookup x ((if (k==NameKind.free && env.scope.kind== .function && env.kindOf n==some .cell)=true then (n,NameKind.cell) else (n,k))::(r.map fun (n,k)=>if (k==NameKind.free && env.scope.kind== .function && env.kindOf n==some .cell) then (n,NameKind.cell) else (n,k)))=some k':=h
  by_cases hx:x=n
  · subst hx
    by_cases q:(k==NameKind.free && env.scope.kind== .function && env.kindOf x==some .cell)=true
    · have:k= .free:=by simp only [Bool.and_eq_true,beq_iff_eq]at q;exact q.1.1
      subst this
      exact List.mem_cons_self
    · rw [if_neg q,List.lookup_cons]at h'
      simp only [beq_self_eq_true]at h'
      have e:k=k':=Option.some.inj h'
      rcases hk with z | z
      · exact absurd (e.trans z) (hc (x,k) List.mem_cons_self)
      · rw [e.trans z];exact List.mem_cons_self
  · have hb:(x==n)=false:=by simpa using hx
    refine List.mem_cons_of_mem _ (ih ?_ hk)
    split at h'
    · rw [List.lookup_cons,hb]at h';exact h'
    · rw [List.lookup_cons,hb]at h';exact h'
theorem lookup_relabel_free{env:Env}:∀{names:List (Str×NameKind)} {x:Str},names.lookup x=some .free→
 (names.map fun (n,k)=>if (k==NameKind.free && env.scope.kind== .function && env.kindOf n==some .cell) then (n,NameKind.cell) else (n,k)).lookup x=some .cell∨
 (names.map fun (n,k)=>if (k==NameKind.free && env.scope.kind== .function && env.kindOf n==some .cell) then (n,NameKind.cell) else (n,k)).lookup x=some .free
 | [],_,h=>by simp at h
 | (n,k)::r,x,h=>by
  have ih:=@lookup_relabel_free env r x
  show List.lookup x ((if (k==NameKind.free && env.scope.kind== .function && env.kindOf n==some .cell)=true then (n,NameKind.cell) else (n,k))::_)=_∨List.lookup x ((if (k==NameKind.free && env.scope.kind== .function && env.kindOf n==some .cell)=true then (n,NameKind.cell) else (n,k))::_)=_
  cases hx:x==n with
  | true=>
   simp only [List.lookup_cons,hx]at h
   cases h
   split
   · left;simp [List.lookup_cons,hx]
   · right;simp [List.lookup_cons,hx]
  | false=>
   simp only [List.lookup_cons,hx]at h
   split
   · simp only [List.lookup_cons,hx];exact ih h
   · simp only [List.lookup_cons,hx];exact ih h
structure Blk where
 s:Shared
 H:Hp
 C:Addr
 fp:List Addr
noncomputable abbrev Cx.blk(X:Cx)(scope:Scope)(N':List Str)(b:Blk):Cx:=
 {X with N:=N',s₀:=b.s,H₀:=b.H,env:=compEnvC scope (clo X.env scope.names []) b.C X.env,outer:=X.stack,ex:=b.fp,fn:=fun _=>false,pn:=[],xe:=fun _ _=>False}
noncomputable def around(N:List Str)(fs:List Nat):List Str:=fs.map fun j=>N.getD j ""
noncomputable def compOkB(N:List Str)(esc scope:Scope)(xs:List Str)(fs:List Nat):Bool:=
 decide (xs++around N fs).Nodup && (match scope.kind with | .function=>true | _=>false) && xs.all (fun x=>decide (scope.names.lookup x=some .local)) &&
 scope.names.all (fun y=>decide (y.2≠ .cell) && (!decide (y.2= .local) || decide (scope.names.lookup y.1=some .local)) && (!decide (y.2= .free) || decide (esc.names.lookup y.1=some .cell) || decide (esc.names.lookup y.1=some .free))) &&
 fs.all fun j=>decide (j < N.length) && decide (scope.names.lookup (N.getD j "")=some .free)
structure CompOk(N:List Str)(esc scope:Scope)(xs:List Str)(fs:List Nat):Prop where
 nd:(xs++around N fs).Nodup
 kind:scope.kind= .function
 own:∀x∈xs,scope.names.lookup x=some .local
 cell:∀y∈scope.names,y.2≠ .cell
 names:∀y∈scope.names,y.2= .local→scope.names.lookup y.1=some .local
 free:∀y∈scope.names,y.2= .free→esc.names.lookup y.1=some .cell∨esc.names.lookup y.1=some .free
 fs:∀j∈fs,j < N.length∧scope.names.lookup (N.getD j "")=some .free
theorem compOk_of{N:List Str}{esc scope:Scope}{xs:List Str}{fs:List Nat}(h:compOkB N esc scope xs fs=true):CompOk N esc scope xs fs:=by
 unfold compOkB at h
 simp only [Bool.and_eq_true,decide_eq_true_eq,List.all_eq_true]at h
 obtain ⟨⟨⟨⟨h1,h2⟩,h3⟩,h4⟩,h5⟩:=h
 refine ⟨h1,?_,h3,fun y hy=>(h4 y hy).1.1,fun y hy e=>?_,fun y hy e=>?_,h5⟩
 · split at h2
   · assumption
   · cases h2
 · have:=(h4 y hy).1.2
   simpa [e] using this
 · have:=(h4 y hy).2
   simpa [e] using this
section
variable {X:Cx} {pins:List (Addr×Obj)} {σ:St} {H:Hp} {s:Shared} {scope:Scope} {xs:List Str} {fs:List Nat} {fp:List Addr} {C:Addr}
theorem blk_ok(I:Inv X pins σ H s)(O:CompOk X.N X.env.scope scope xs fs)(hf:∀b∈fp,FpOk X pins H b)(hC:s.heap.objs.size≤C)(hfp:∀b∈fp,b < s.heap.objs.size):(X.blk scope (xs++around X.N fs) ⟨s,H,C,fp⟩).Ok:=by
 have hcl:∀x c,(clo X.env scope.names []).lookup x=some c→X.env.cells.lookup x=some c:=fun x c e=>by
  rcases clo_cells _ _ e with q | q
  · exact q
  · cases q
 have hsz:∀b o,X.base.get? b=some o→b < X.s₀.heap.objs.size:=fun b o e=>Nat.lt_of_lt_of_le (Heap.lt_size e) I.ok.bsz
 refine ⟨I.ok.mod,O.kind,I.ok.glob,I.ok.blt,hC,fun x y c h1 h2=>I.ok.inj x y c (hcl x c h1) (hcl y c h2),fun x hx=>?_,fun x c z=>(by cases z),I.ok.hd,I.ok.frames,.inl rfl,fun b hb=>⟨Nat.ne_of_lt (Nat.lt_of_lt_of_le (hfp b hb) hC),fun x c e=>(hf b hb).2.2.2.2.1 x c (hcl x c e)⟩,I.bs,Nat.le_trans I.ok.bsz I.sz,fun b o e hb=>?_,fun b hb hs=>?_,I.stack,I.stkFree⟩
 · have hm:(x,NameKind.free)∈scope.names:=by
    rcases hx with hx | hx
    · exact relabel_kind (env:=X.env) O.cell (show (scope.names.map _).lookup x=some NameKind.cell from hx) (.inl rfl)
    · exact relabel_kind (env:=X.env) O.cell (show (scope.names.map _).lookup x=some NameKind.free from hx) (.inr rfl)
   obtain ⟨c,hc⟩:=I.ok.has x (O.free _ hm rfl)
   exact ⟨c,clo_has hc _ _ (.inr ⟨rfl,hm⟩)⟩
 · obtain ⟨_,_,_,h4,_⟩:=hf b hb
   rcases h4 with h4 | h4
   · exact I.ok.noex b o e h4
   · exact absurd (Nat.lt_of_lt_of_le (hsz b o e) h4) (Nat.lt_irrefl _)
 · obtain ⟨_,h2,h3,_⟩:=hf b hb
   exact (List.mem_cons.mp (I.stkSub b hs)).elim h2 h3
theorem blk_in{h1:Heap}{t:Nat}{D:Addr}{m:Str→Option Value}(I:Inv X pins σ H s)(O:CompOk X.N X.env.scope scope xs fs)(hf:∀b∈fp,FpOk X pins H b)(hD:s.heap.objs.size≤D)(hC:s.heap.objs.size≤C)(hfp:∀b∈fp,b < s.heap.objs.size)(hDC:D≠C)
 (k:∀b u,s.heap.get? b=some u→h1.get? b=some u) (hDo:h1.get? D=some {cls:= .type "list",data:= .seq #[] 0}) (hn:h1.Ns C m):
 Inv (X.blk scope (xs++around X.N fs) ⟨s,H,C,fp⟩) [] (xs.map (fun _=>none)++fs.map fun j=>σ.getD j none) (upd H D (.lst [])) {s with heap:=h1,toks:=t}:=by
 have hcl:∀x c,(clo X.env scope.names []).lookup x=some c→X.env.cells.lookup x=some c:=fun x c e=>by
  rcases clo_cells _ _ e with q | q
  · exact q
  · cases q
 have ok:=blk_ok (C:=C) I O hf hC hfp
 have hnD:H D=none:=I.hok.fresh hD
 refine ⟨ok,rfl,I.bare,Un.laid k hD hnD,⟨m,hn,fun i x v e1 e2 e3=>?_⟩,fun x c e=>?_,?_,fun x c e=>?_,fun p hp=>absurd (show p∈([]:List (Addr×Obj)) from hp) (by simp),I.hok.laid k hD ⟨Nat.zero_le _,[],0,.nil,hDo⟩,by simp [around]⟩
 · by_cases hi:i < xs.length
   · rw [List.getElem?_append_left (by simpa using hi),List.getElem?_map]at e2
     cases q:xs[i]? with
     | none=>rw [q]at e2;cases e2
     | some a=>rw [q]at e2;cases e2
   · have hi:xs.length≤i:=Nat.le_of_not_lt hi
     rw [List.getElem?_append_right (by simpa using hi)]at e1 e2
     unfold around at e1
     rw [List.length_map]at e2
     rw [List.getElem?_map]at e1 e2
     cases q:fs[i - xs.length]? with
     | none=>rw [q]at e2;cases e2
     | some j=>
      rw [q]at e1 e2
      simp only [Option.map_some,Option.some.injEq]at e1 e2
      obtain ⟨hj,hl⟩:=O.fs j (List.mem_of_getElem? q)
      obtain ⟨m0,_,hl0⟩:=I.loc
      have e1':X.N[j]?=some x:=by rw [← e1,List.getD_eq_getElem?_getD,List.getElem?_eq_getElem hj];rfl
      have e2':σ[j]?=some (some v):=by
       rw [List.getD_eq_getElem?_getD]at e2
       cases z:σ[j]? with
       | none=>rw [z]at e2;cases e2
       | some y=>rw [z]at e2;simp only [Option.getD_some]at e2;rw [e2]
      rw [e1]at hl
      have hm:(x,NameKind.free)∈scope.names:=PySem.mem_of_lookup hl
      have hk:=O.free _ hm rfl
      obtain ⟨u,r,l⟩:=hl0 j x v e1' e2' (hk.elim (fun z=> .inr (.inl z)) fun z=> .inr (.inr z))
      refine ⟨u,r,?_⟩
      rcases l with ⟨z,_⟩ | ⟨_,c,hc,cell⟩
      · have z':X.env.scope.names.lookup x=some .local:=z
        rcases hk with hk | hk <;> (rw [z']at hk;cases hk)
      · refine .inr ⟨?_,c,clo_has hc _ _ (.inr ⟨rfl,hm⟩),?_⟩
        · exact lookup_relabel_free (env:=X.env) hl
        · obtain ⟨o,ho,hd⟩:=cell
          exact ⟨o,k _ _ ho,hd⟩
 · obtain ⟨v,o,ho,hd⟩:=I.cell x c (hcl x c e)
   exact ⟨v,o,k _ _ ho,hd⟩
 · show upd H D (.lst []) C=none
   rw [upd_ne (Ne.symm hDC)];exact I.hok.fresh hC
 · obtain ⟨v,q⟩:=I.cell x c (hcl x c e)
   rw [upd_ne (Nat.ne_of_lt (Nat.lt_of_lt_of_le q.lt hD))]
   exact I.freeC x c (hcl x c e)
theorem blk_out{N':List Str}{σ':St}{H':Hp}{s':Shared}{h2:Heap}{pl:List (Addr×Obj)}(I:Inv X pins σ H s)(hf:∀b∈fp,FpOk X pins H b)(hC:s.heap.objs.size≤C)(J:Inv (X.blk scope N' ⟨s,H,C,fp⟩) pl σ' H' s')(sb:Heap.SameBut C s'.heap h2):
 Inv X pins σ H' {s' with heap:=h2}:=by
 have u:=J.base
 have ne:∀b o,s.heap.get? b=some o→b≠C:=fun b o e=>Nat.ne_of_lt (Nat.lt_of_lt_of_le (Heap.lt_size e) hC)
 refine I.call' (ch:=fp) J.os ⟨fun b o e n h1 h2=>(sb.2 b (ne b o e)).trans (u.keep b o e n h1 h2),fun b o e n h1 h2=>?_,u.free,fun b o e hx=>?_,u.tups,u.frzs,u.tbls⟩ (fun a o e=>?_) J.bare fun b hb=>?_
 · obtain ⟨sl,q⟩:=u.slot b o e n h1 h2
   exact ⟨sl,(sb.2 b (ne b o e)).trans q⟩
 · obtain ⟨o',q⟩:=u.there b o e hx
   exact ⟨o',(sb.2 b (ne b o e)).trans q⟩
 · have fr:H' C=none:=J.free
   refine (J.hok a o e).stay (fun b v hc q=>(sb.2 b ?_).trans q) (fun _ q=>q) fun _ _ q=>q
   rcases hc with rfl | hc
   · exact ne_of_none e fr
   · exact ne_of_none hc fr
 · obtain ⟨_,h2,h3,h4,h5,h6⟩:=hf b hb
   exact ⟨h4,h2,h5,h6⟩
end
end L2
namespace L2
noncomputable def Kept(σ σ':St):Prop:=∀(i:Nat) (v:V),σ[i]?=some (some v)→σ'[i]?=some (some v)
noncomputable def PTs(X:Cx)(ifs:List Expr)(t:TT):Prop:=
 ∀(pins:List (Addr×Obj)) (s:Shared) (σ:St) (H:Hp) (Q:Bool→Hp→Prop),Inv X pins σ H s→t σ H Q→
   wpAny (model X.prog X.w) X.A (forIn ifs true fun c r=>if r=true then do let ok ← isTrue c X.env (eval c X.env);pure (ForInStep.yield ok) else pure (ForInStep.yield r)) (TP X pins σ Q) X.xe s
noncomputable def tYes:TT:=fun _ H Q=>Q true H
theorem pts_nil{X:Cx}:PTs X [] tYes:=fun _ _ _ H _ I h=>wpAny_tests_nil ⟨H,I,h⟩
theorem pts_one{X:Cx}{c:Expr}{t:TT}(hc:PT X c t):PTs X [c] t:=fun pins s σ H Q I h=>wpAny_tests_one (hc pins s σ H Q I h)
noncomputable def CompTail(σ0:St)(g:Blk→TG)(tt:Blk→TT)(te:Blk→TE)(Q:VK)(J:It)(H1:Hp):Prop:=∀(b:Blk) (D:Addr),H1 D=none→∃W:Nat→Nat→List V→Hp→Prop,(∃m,W 0 m [] (upd H1 D (.lst [])))∧∀i m ys H2,W i m ys H2→H2 D=some (.lst ys)∧
 ((J.stop i H2∧Q (.ref D) H2)∨(J.go i H2∧∀x H3,J.yld i H2 x H3→g b x σ0 H3 fun σ6 H6=>Kept σ0 σ6∧tt b σ6 H6 fun ok H7=>
   if ok=true then te b σ6 H7 fun y H8=>H8 D=some (.lst ys)∧ys.length < sizeLine∧∃m',m' < m∧W (i+1) m' (ys++[y]) (upd H8 D (.lst (ys++[y])))
   else ∃m',m' < m∧W (i+1) m' ys H7))
noncomputable def tComp(wi:TI)(n:Nat)(fs:List Nat)(g:Blk→TG)(tt:Blk→TT)(te:Blk→TE):TE:=fun σ H Q=>wi σ H (CompTail (List.replicate n none++fs.map fun j=>σ.getD j none) g tt te Q)
section
variable {X:Cx} {pins:List (Addr×Obj)} {σ:St} {scope:Scope} {xs:List Str} {fs:List Nat} {elt tg iter:Expr} {ifs:List Expr} {pos:Pos} {wi:TI} {g:Blk→TG} {tt:Blk→TT} {te:Blk→TE}
theorem turned_of{H:Hp}{s:Shared}{C:Addr}{h2:Heap}(I:Inv X pins σ H s)(F:FpOk X pins H C)(sb:Heap.SameBut C s.heap h2):Inv X pins σ H {s with heap:=h2}:=
 I.turned (t':=s.toks) (fun b o hb e=>(sb.2 b hb).trans e) F.1 F.2.1 F.2.2.2.1 F.2.2.2.2.1 F.2.2.2.2.2
theorem comp_run{Q:VK}{itv:Value}{s2:Shared}{E:Value→Shared→Prop}{RR:Value→Addr→Result→Shared→Prop}(hc:X.calm=true)(O:CompOk X.N X.env.scope scope xs fs)
 (hg:∀b,PG (X.blk scope (xs++around X.N fs) b) tg (g b)) (ht:∀b,PTs (X.blk scope (xs++around X.N fs) b) ifs (tt b)) (he:∀b,PE (X.blk scope (xs++around X.N fs) b) elt (te b))
 (h:PIE X pins σ tg (CompTail (List.replicate xs.length none++fs.map fun j=>σ.getD j none) g tt te Q) itv s2)
 (hR:∀D C s' m H',s'.heap.Ns C m→Inv X pins σ H' s'→Q (.ref D) H'→FpOk X pins H' C→RR (.ref D) C (.ok .next) s'):
 wpAny (model X.prog X.w) X.A (newList []) (fun acc s₃=>wpAny (model X.prog X.w) X.A (newFunctionEnv scope X.env.globals (clo X.env scope.names []) [] X.env.qual none .none (some X.env)) (fun cenv s₄=>
  codeAny (model X.prog X.w) X.A (.compStart (.ListComp elt [⟨tg,iter,ifs,0⟩] scope pos) 0 itv acc {cenv with scope:=relabel scope X.env}) (RR acc cenv.locals) s₄) E s₃) E s2:=by
 obtain ⟨it,fp,tn,J,H2,rfl,I2,T,st2,f2,rd⟩:=h
 have hfp:∀b∈fp,b < s2.heap.objs.size:=fun b hb=>by
  obtain ⟨o,e,_⟩:=T.obj _ _ st2 b hb
  exact Heap.lt_size e
 refine wpAny_newObj_type (wpAny_newFunctionEnv O.cell (by intro y hy;simp at hy) (fun h₁ hns₁ hsb₁=>?_) O.kind)
 dsimp only at hns₁ hsb₁ ⊢
 generalize hH2:s2.heap.push {cls:= .type "list",dict:=none,data:= .seq ([]:List Value).toArray}=HH at hns₁ hsb₁ ⊢
 have hC:HH.objs.size=s2.heap.objs.size+1:=by rw [← hH2,Heap.size_push]
 have hDC:s2.heap.objs.size≠HH.objs.size:=by rw [hC];exact Nat.ne_of_lt (Nat.lt_succ_self _)
 have hCle:s2.heap.objs.size≤HH.objs.size:=by rw [hC];exact Nat.le_succ _
 have old:∀b o,s2.heap.get? b=some o→h₁.get? b=some o:=fun b o e=>hsb₁.extBut b o (by rw [hC];exact Nat.ne_of_lt (Nat.lt_succ_of_lt (Heap.lt_size e))) (Heap.get?_push_of_some _ (hH2▸Heap.get?_push_of_some _ e))
 have hacc:h₁.get? s2.heap.objs.size=some {cls:= .type "list",data:= .seq #[] 0}:=hsb₁.extBut _ _ hDC (Heap.get?_push_of_some _ (hH2▸Heap.get?_push_size _ rfl))
 obtain ⟨W,⟨m0,w0⟩,turn⟩:=rd ⟨s2,H2,HH.objs.size,fp⟩ s2.heap.objs.size I2.fresh
 have I3:=blk_in (t:=s2.toks+([]:List (Str×Value)).length) I2 O f2 (Nat.le_refl _) hCle hfp hDC old hacc hns₁
 rw [show xs.map (fun _=>(none:Option V))=List.replicate xs.length none from List.map_const' ..]at I3
 generalize hX:X.blk scope (xs++around X.N fs) ⟨s2,H2,HH.objs.size,fp⟩=X' at I3
 have stat:∀{H':Hp},(∀b∈fp,H' b=none)→∀b∈fp,FpOk X' [] H' b:=fun hn b hb=>by
  subst hX
  refine ⟨hn b hb,?_,?_,.inl hb,fun x c e=>?_,fun p hp=>absurd hp (by simp)⟩
  · exact (I3.ok.exf b hb).1
  · exact I3.ok.exfs b hb
  · exact (I3.ok.exf b hb).2 x c e
 have fr3:∀b∈fp,upd H2 s2.heap.objs.size (.lst []) b=none:=fun b hb=>by
  rw [upd_ne (Nat.ne_of_lt (hfp b hb))];exact (f2 b hb).1
 have ccell:∀y c,X.env.cells.lookup y=some c→c≠HH.objs.size:=fun y c e=>by
  obtain ⟨v,q⟩:=I2.cell y c e
  exact Nat.ne_of_lt (Nat.lt_of_lt_of_le q.lt hCle)
 have cloc:HH.objs.size≠X.env.locals:=(Nat.ne_of_lt (Nat.lt_of_lt_of_le I2.lt hCle)).symm
 have eP:X'.prog=X.prog:=by rw [← hX]
 have ew:X'.w=X.w:=by rw [← hX]
 have eK:X'.K=X.K:=by rw [← hX]
 have eA:X'.A=X.A:=by rw [← hX]
 have ec:X'.calm=true:=by rw [← hX];exact hc
 have ex:X'.xe=fun _ _=>False:=by rw [← hX]
 have een:X'.env=compEnvC scope (clo X.env scope.names []) HH.objs.size X.env:=by rw [← hX]
 have hg':=hg ⟨s2,H2,HH.objs.size,fp⟩
 have ht':=ht ⟨s2,H2,HH.objs.size,fp⟩
 have he':=he ⟨s2,H2,HH.objs.size,fp⟩
 rw [hX]at hg' ht' he'
 have st1:tn 0 h₁:=T.keep _ _ _ st2 fun b hb o e=>old b o e
 have loop:∀s₃:Shared,s₃={s2 with heap:=h₁,toks:=s2.toks+([]:List (Str×Value)).length}→
  codeAny (model X.prog X.w) X.A (.compLoop (.ListComp elt [⟨tg,iter,ifs,0⟩] scope pos) 0 (.ref it) (.ref s2.heap.objs.size) (compEnvC scope (clo X.env scope.names []) HH.objs.size X.env))
   (RR (.ref s2.heap.objs.size) HH.objs.size) s₃:=by
  rintro s₃ rfl
  refine compLoop_any (fun n s'=>∃i ys H',Inv X' [] (List.replicate xs.length none++fs.map fun j=>σ.getD j none) H' s'∧tn i s'.heap∧(∀b∈fp,H' b=none)∧W i n ys H') ?_ m0 ⟨0,[],_,I3,st1,fr3,w0⟩
  rintro n s4 ⟨i,ys,H4,I4,st4,fr4,w4⟩
  obtain ⟨hD4,tn4⟩:=turn i n ys H4 w4
  rcases tn4 with ⟨stop,qn⟩ | ⟨go,step⟩
  · have td:=T.done X' eP ew eK ec i [] s4 _ H4 (notedBy (model X.prog X.w) X.A (compEnvC scope (clo X.env scope.names []) HH.objs.size X.env) fun e s'=>RR (.ref s2.heap.objs.size) HH.objs.size (.error e) s') I4 (stat fr4) st4 stop
    rw [eA]at td
    refine thn td fun r s5 ⟨hr,I5⟩=>?_
    subst hr
    obtain ⟨m5,hn5,_⟩:=I5.loc
    rw [een]at hn5
    have fr5:H4 HH.objs.size=none:=by have:=I5.free;rw [een]at this;exact this
    rw [← hX]at I5
    exact hR _ _ _ m5 H4 hn5 (blk_out I2 f2 hCle I5 (Heap.SameBut.refl ..)) qn (I2.fpOk hCle fr5)
  · have ti:=T.item X' eP ew eK ec i [] s4 _ H4 (notedBy (model X.prog X.w) X.A (compEnvC scope (clo X.env scope.names []) HH.objs.size X.env) fun e s'=>RR (.ref s2.heap.objs.size) HH.objs.size (.error e) s') I4 (stat fr4) st4 go
    rw [eA]at ti
    refine thn ti fun r s5 ⟨u,hr,h5⟩=>?_
    subst hr
    refine thn h5 fun _ s6 hq_=>?_
    obtain ⟨x,H6,I6,r6,y6,st6,fr6⟩:=hq_
    have I6':=I6.pinned (stat fr6) (T.obj _ _ st6)
    have g1:=hg' _ s6 _ H6 x u _ I6' r6 (step x H6 y6)
    rw [eP,ew,eA,een,ex]at g1
    refine wpAny_mono g1 (fun _ s7 hq_=>?_) fun _ _ z=>z.elim
    obtain ⟨σ7,H7,I7,kp7,q7⟩:=hq_
    have t1:=ht' _ s7 σ7 H7 _ I7 q7
    rw [eP,ew,eA,een,ex]at t1
    have back:∀{H9:Hp} {s9:Shared},Inv X' ([]++pinsAt fp s6.heap) σ7 H9 s9→Inv X' [] (List.replicate xs.length none++fs.map fun j=>σ.getD j none) H9 s9∧tn (i+1) s9.heap∧∀b∈fp,H9 b=none:=fun {H9 s9} I9=>by
     refine ⟨I9.unpinned.weak ?_ kp7,T.keep _ _ _ st6 fun b hb o e=>(I9.pin (b,o) (List.mem_append_right _ (List.mem_append_right _ (mem_pinsAt hb e)))).1,fun b hb=>?_⟩
     · rw [I9.len,I4.len]
     · obtain ⟨o,e,d⟩:=T.obj _ _ st6 b hb
       exact (I9.pin (b,o) (List.mem_append_right _ (List.mem_append_right _ (mem_pinsAt hb e)))).2.1
    refine wpAny_mono t1 (fun ok s8 ⟨H8,I8,q8⟩=>?_) fun _ _ z=>z.elim
    cases ok with
    | false=>
     rw [if_neg Bool.false_ne_true]at q8 ⊢
     obtain ⟨m',hm,w8⟩:=q8
     obtain ⟨b1,b2,b3⟩:=back I8
     exact ⟨m',hm,i+1,ys,H8,b1,b2,b3,w8⟩
    | true=>
     rw [if_pos rfl]at q8 ⊢
     have e1:=he' _ s8 σ7 H8 _ I8 q8
     rw [eP,ew,eA,een,ex]at e1
     refine wpAny_mono e1 (fun uy s9 hq_=>?_) fun _ _ z=>z.elim
     obtain ⟨y,H9,I9,r9,hD9,hz,m',hm,w9⟩:=hq_
     have a1:=mt_append (X:=X') (pins:=[]++pinsAt fp s6.heap) (s:=s9) (σ:=σ7) (H:=H9) (x:= .ref s2.heap.objs.size) (xs:=[y]) (v:= .ref s2.heap.objs.size) (us:=[uy]) (Q:=fun _ H'=>H'=upd H9 s2.heap.objs.size (.lst (ys++[y]))) I9 rfl (.cons r9 .nil) ⟨_,ys,y,rfl,rfl,hD9,hz,rfl⟩
     rw [eP,ew,eA,ex]at a1
     refine wpAny_mono a1 (fun _ s10 hq_=>?_) fun _ _ z=>z.elim
     obtain ⟨_,H10,I10,_,e10⟩:=hq_
     subst e10
     obtain ⟨b1,b2,b3⟩:=back I10
     exact ⟨m',hm,i+1,_,_,b1,b2,b3,w9⟩
 exact codeAny_compStart_list (loop _ rfl) (T.self _ 0 _ _ _ st1 (loop _ rfl))
theorem pe_compG(hc:X.calm=true)(hok:compOkB X.N X.env.scope scope xs fs=true)(hi:PI X tg iter wi)
 (hg:∀b,PG (X.blk scope (xs++around X.N fs) b) tg (g b)) (ht:∀b,PTs (X.blk scope (xs++around X.N fs) b) ifs (tt b)) (he:∀b,PE (X.blk scope (xs++around X.N fs) b) elt (te b))
 (hs:∀x,foldedSetIterable iter X.env x=pure x:=by intro _;rfl):
 PE X (.ListComp elt [⟨tg,iter,ifs,0⟩] scope pos) (tComp wi xs.length fs g tt te):=by
 intro pins s σ H Q I h
 have O:=compOk_of hok
 rw [eval_ListComp]
 refine wpAny_comprehension_free (use:=none) rfl hs (clo_closure fun y hy hf=>I.ok.has _ (O.free y hy hf)) O.kind O.names (thn (hi pins s σ H _ I h) fun v s1 h1=>thn h1 fun itv s2 h2=>?_)
 exact comp_run (RR:=fun acc C=>compPost (model X.prog X.w) X.A X.xe none (EP X pins σ Q) acc C) hc O hg ht he h2 fun D C s' m H' hn I' q F=>⟨m,hn,fun h2 sb=>⟨.ref D,H',turned_of I' F sb,rfl,q⟩⟩
end
end L2
namespace L2
noncomputable def Its(z:Str):It:=⟨fun i _=>i < z.cps.size,fun i H x H'=>H'=H∧∃c,z.cps[i]?=some c∧x= .str ⟨#[c]⟩,fun i _=>z.cps.size≤i⟩
noncomputable def iStr(tl:TE):TI:=fun σ H R=>tl σ H fun x H1=>∃z,x= .str z∧R (Its z) H1
section
variable {P:Program} {w:World} {K:PySem.W.Frag} {tg:Expr}
theorem turn_str(ty:String)(hty:ty="str_ascii_iterator"∨ty="str_iterator")(z:Str)(t:Tok)(it:Addr):Turn P w K tg (Its z) [it] it (fun i h=>i≤z.cps.size∧h.IsStrIter it ty z t i) where
 mem:=by simp
 obj:=fun i h st b hb=>by
  have e:b=it:=by simpa using hb
  subst e
  obtain ⟨o,e,c,d⟩:=st.2
  exact ⟨o,e,fun v z=>by rw [d]at z;cases z⟩
 keep:=fun i h h' st k=>⟨st.1,by obtain ⟨o,e,r⟩:=st.2;exact ⟨o,k it (by simp) o e,r⟩⟩
 item:=by
  intro X hP hw hK hc i pins s σ H E I hf st hg
  subst hP hw hK
  obtain ⟨f0,f1,f2,f3,f4,f5⟩:=hf it (by simp)
  have W:Walks X.prog X.w X.A it [it] [it] z.cps.size (SignAt z) (fun i h=>h.IsStrIter it ty z t i):=by
   rcases hty with rfl | rfl
   · exact Walks.strAscii (I.ok.hd hc) it z t
   · exact Walks.strWide (I.ok.hd hc) it z t
  refine W.item i s _ _ hg st.2 fun v h' tk hv st' kk=>?_
  obtain ⟨c,u,hcc,rfl⟩:=hv
  have I1:Inv X pins σ H {s with heap:=h',toks:=tk}:=I.turned (fun b o hb e=>kk b o (by simpa using hb) e) f0 f1 f3 f4 f5
  obtain ⟨o,e,cc,d⟩:=id st'
  refine ⟨_,rfl,go_of (s:={s with heap:=h',toks:=tk}) (n:=ty) e cc d (by rcases hty with rfl | rfl <;> decide) ⟨.str ⟨#[c]⟩,H,I1,⟨u,rfl⟩,⟨rfl,c,hcc,rfl⟩,⟨hg,st'⟩,fun b hb=>(hf b hb).1⟩⟩
 done:=by
   intro X hP hw hK hc i pins s σ H E I hf st hg
   subst hP hw hK
   obtain ⟨f0,f1,f2,f3,f4,f5⟩:=hf it (by simp)
   have W:Walks X.prog X.w X.A it [it] [it] z.cps.size (SignAt z) (fun i h=>h.IsStrIter it ty z t i):=by
    rcases hty with rfl | rfl
    · exact Walks.strAscii (I.ok.hd hc) it z t
    · exact Walks.strWide (I.ok.hd hc) it z t
   have hi:i=z.cps.size:=Nat.le_antisymm st.1 hg
   subst hi
   exact W.done s _ _ st.2 fun h' tk kk=>⟨rfl,I.turned (fun b o hb e=>kk b o (by simpa using hb) e) f0 f1 f3 f4 f5⟩
 self:=fun _ _ _ _ _ st h=>by
  rcases hty with rfl | rfl
  · exact wpAny_pyIter_striter_ascii st.2 h
  · exact wpAny_pyIter_striter_wide st.2 h
end
section
variable {X:Cx} {tg:Expr}
theorem pi_str{l:Expr}{tl:TE}(hl:PE X l tl):PI X tg l (iStr tl):=by
 intro pins s σ H R I h
 refine thn (hl pins s σ H _ I h) fun v s1 hq_=>?_
 obtain ⟨x,H1,I1,r1,q1⟩:=hq_
 obtain ⟨z,e,q⟩:=q1
 subst e
 obtain ⟨t,rfl⟩:=r1
 have fin:∀ty,(ty="str_ascii_iterator"∨ty="str_iterator")→PIE X pins σ tg R (.ref s1.heap.objs.size) {s1 with heap:=s1.heap.push {cls:= .type ty,data:= .fields #[.str z t,.int 0 0]}}:=fun ty hty=>by
  refine ⟨s1.heap.objs.size,[s1.heap.objs.size],_,_,H1,rfl,I1.kept (t':=s1.toks) fun b o e=>Heap.get?_push_of_some _ e,turn_str ty hty z t _,⟨Nat.zero_le _,_,Heap.get?_push_size _ rfl,rfl,rfl⟩,fun b hb=>?_,q⟩
  have e:b=s1.heap.objs.size:=by simpa using hb
  subst e
  exact I1.fpOk (Nat.le_refl _) I1.fresh
 cases ha:z.cps.all (· < 128)
 · exact wpAny_pyIter_wide ha (fin _ (.inr rfl))
 · exact wpAny_pyIter_ascii ha (fin _ (.inl rfl))
noncomputable def rSlS:V→Option Int→Option Int→Hp→VK→Prop:=fun x lo hi H Q=>∃z,x= .str z∧z.length≤sizeLine∧Q (.str (Txt.slice z lo hi)) H
theorem sl_str:SlR X rSlS:=by
 intro pins s σ H x v vl vu lo hi sl Q I rx hs pl pu h
 obtain ⟨z,rfl,hz,q⟩:=h
 obtain ⟨t,rfl⟩:=rx
 obtain ⟨o,ho,hc,hd⟩:=hs
 refine ⟨"str",_,F.slot_str_getitem.lookup,typeIs_str _ _ _,?_⟩
 have fin:∀(l u:Option (Int×Tok)),s.heap.IsSlice sl l u none→l.map (·.1)=lo→u.map (·.1)=hi→wpAny (model X.prog X.w) X.A (getItem (.str z t) (.ref sl)) (EP X pins σ Q) X.xe s:=fun l u hsl hl hu=>by
  subst hl hu
  exact wpAny_getItem_str_slice (l:=l) (u:=u) (st:=none) hsl rfl (post_val_or_str ⟨Nat.le_trans (Txt.slice_le z _ _) hz,fun t' k=>⟨.str _,H,I.tok k,⟨t',rfl⟩,q⟩⟩)
 cases pl <;> cases pu
 · exact fin none none ⟨o,ho,hc,hd⟩ rfl rfl
 · exact fin none (some (_,_)) ⟨o,ho,hc,hd⟩ rfl rfl
 · exact fin (some (_,_)) none ⟨o,ho,hc,hd⟩ rfl rfl
 · exact fin (some (_,_)) (some (_,_)) ⟨o,ho,hc,hd⟩ rfl rfl
theorem strsAre_of:∀{ys:List Str} {us:List Value},Vals (ys.map V.str) us→StrsAre us ys
 | [],_,r=>by rw [List.map_nil]at r;cases r;exact .nil
 | y::ys,us,r=>by
  rw [List.map_cons]at r
  cases r with
  | cons r1 r2=>
   obtain ⟨t,e⟩:=r1
   subst e
   exact .cons y t (strsAre_of r2)
noncomputable def rJoin(K:PySem.W.Frag):V→List V→Hp→VK→Prop:=fun x vs H Q=>∃z p ys,x= .str z∧vs=[.ref p]∧SqL K H p (ys.map V.str)∧(ys.map (·.length)).sum+ys.length * z.length≤16777216∧Q (.str (Txt.join z ys)) H
theorem mt_join:MtR X "str.join" (rJoin X.K):=by
 intro pins s σ H x vs v us Q I rx rv h
 obtain ⟨z,p,ys,rfl,rfl,hp,hw,q⟩:=h
 obtain ⟨t,rfl⟩:=rx
 obtain ⟨u,rfl,ru⟩:=rv.one
 cases ru
 obtain ⟨its,r,pl,hz⟩:=I.list hp
 exact join_list pl.isList (by simpa using strsAre_of r) hw fun t' k=>⟨.str _,H,I.tok k,⟨t',rfl⟩,q⟩
noncomputable def rFind:V→List V→Hp→VK→Prop:=fun x vs H Q=>∃z y,x= .str z∧vs=[.str y]∧Q (.int (Txt.find z y)) H
noncomputable def rSplit:V→List V→Hp→VK→Prop:=fun x vs H Q=>∃z y,x= .str z∧vs=[.str y]∧(y.length==0)=false∧z.length+2≤sizeLine∧∀p,H p=none→Q (.ref p) (upd H p (.lst ((Txt.split z y).map V.str)))
noncomputable def rMulS:R2:=fun x y H Q=>∃z n,x= .str z∧y= .int n∧MulOk z n∧Q (.str (Txt.mul z n)) H
noncomputable def rAll(K:PySem.W.Frag):List V→Hp→VK→Prop:=fun xs H Q=>∃(p:Addr) (bs:List Bool),xs=[.ref p]∧SqL K H p (bs.map V.bl)∧Q (.bl (bs.all id)) H
theorem call_all(hc:X.calm=true):CallR X (.builtin "all") (rAll X.K):=by
 intro pins s σ H xs us Q I r h
 obtain ⟨p,bs,rfl,hp,q⟩:=h
 obtain ⟨u,rfl,ru⟩:=vals1 r
 cases ru
 obtain ⟨its,r,pl,hz⟩:=I.list hp
 have hlt:p < s.heap.objs.size:=by obtain ⟨o,n,e,_⟩:=pl;exact Heap.lt_size e
 refine call_all_walk (wpAny_pyIter_list pl.isList ⟨s.heap.objs.size,_,_,_,_,_,fun i=>bs.getD i true,rfl,Walks.list (show X.A.in1.handled=none from I.ok.hd hc) s.heap.objs.size p (Nat.ne_of_lt hlt) its.toArray,⟨⟨_,Heap.get?_push_size _ rfl,rfl,rfl⟩,pl.isList.push _⟩,?_,fun h' tk kk=>?_⟩)
 · intro i v s' Q' E' hP hQ'
   have hP:its.toArray[i]?=some v:=hP
   have hlen:=r.length
   rw [List.length_map]at hlen
   have hi:i < bs.length:=by
    have:=(Array.getElem?_eq_some_iff.mp hP).1
    rw [List.size_toArray]at this
    omega
   obtain ⟨u,hu,ru⟩:=r.get (i:=i) (x:=V.bl (bs[i])) (by simp [hi])
   have e:u=v:=by
    have:its[i]?=some v:=by simpa using hP
    rw [hu]at this;exact Option.some.inj this
   subst e
   cases ru
   dsimp only at hQ'
   rw [List.getD_eq_getElem?_getD,List.getElem?_eq_getElem hi]at hQ'
   exact wpAny_pure hQ'
 · refine ⟨.bl _,H,I.kept (t':=tk) fun b o e=>kk b o ?_ (Heap.get?_push_of_some _ e),rfl,?_⟩
   · simpa using Nat.ne_of_lt (Heap.lt_size e)
   · have hlen:=r.length
     rw [List.length_map]at hlen
     have:((List.range its.toArray.size).all fun i=>bs.getD i true)=bs.all id:=by
      rw [List.size_toArray,← hlen]
      rw [Bool.eq_iff_iff,List.all_eq_true,List.all_eq_true]
      constructor
      · intro h x hx
        obtain ⟨i,hi,rfl⟩:=List.mem_iff_getElem.mp hx
        have:=h i (by simpa using hi)
        simpa [List.getD_eq_getElem?_getD,List.getElem?_eq_getElem hi] using this
      · intro h i hi
        have hi:i < bs.length:=by simpa using hi
        rw [List.getD_eq_getElem?_getD,List.getElem?_eq_getElem hi]
        exact h _ (List.getElem_mem hi)
     rw [this];exact q
end
noncomputable abbrev TJ:=Str→St→Hp→(Str→Hp→Prop)→Prop
noncomputable def jNil:TJ:=fun acc _ H Q=>Q acc H
noncomputable def jCons(te:TE)(tr:TJ):TJ:=fun acc σ H Q=>te σ H fun x H1=>∃y,x= .str y∧(acc++y).length≤sizeLine∧tr (acc++y) σ H1 Q
noncomputable def tFstr(t:TJ):TE:=fun σ H Q=>t Str.empty σ H fun out H1=>out.length≤sizeLine∧Q (.str out) H1
noncomputable def tFmt(te:TE):TE:=fun σ H Q=>te σ H fun x H1=>(∃z,x= .str z∧z.length≤sizeLine∧Q (.str z) H1)∨∃i,x= .int i∧i.natAbs.log2 < 1920∧Q (.str (toString i)) H1
noncomputable def tFmtR(te:TE):TE:=fun σ H Q=>te σ H fun x H1=>∃z,x= .str z∧(PySem.reprText z).length≤sizeLine∧Q (.str (PySem.reprText z)) H1
end L2
namespace L2
noncomputable abbrev tComp1(wi:TI)(fs:List Nat)(te:Blk→TE):TE:=tComp wi 1 fs (fun _=>gName 0) (fun _=>tYes) te
section
variable {X:Cx} {scope:Scope} {x:Str} {px:Pos} {fs:List Nat} {elt iter:Expr} {pos:Pos} {wi:TI} {te:Blk→TE}
theorem pg_own(hok:compOkB X.N X.env.scope scope [x] fs=true)(b:Blk):PG (X.blk scope ([x]++around X.N fs) b) (.Name x px) (gName 0):=
 pg_name (compOk_of hok).nd rfl (.inl (lookup_relabel_local ((compOk_of hok).own x (by simp)))) (.inr (lookup_relabel_local ((compOk_of hok).own x (by simp))))
theorem pe_comp1(x:Str)(fs:List Nat)(hc:X.calm=true)(hok:compOkB X.N X.env.scope scope [x] fs=true)(hi:PI X (.Name x px) iter wi)(he:∀b,PE (X.blk scope ([x]++around X.N fs) b) elt (te b))
 (hs:∀x,foldedSetIterable iter X.env x=pure x:=by intro _;rfl):PE X (.ListComp elt [⟨.Name x px,iter,[],0⟩] scope pos) (tComp1 wi fs te):=
 pe_compG (xs:=[x]) (g:=fun _=>gName 0) (tt:=fun _=>tYes) hc hok hi (pg_own hok) (fun _=>pts_nil) he hs
end
theorem kept0{x:Option V}{r:St}:Kept (none::r) (x::r):=fun i v e=>by
 cases i with
 | zero=>cases e
 | succ i=>exact e
section
variable {K:PySem.W.Frag} {tail:St} {te:Blk→TE} {Q:VK} {H1:Hp}
noncomputable def CompNext(D:Addr)(n i:Nat)(ys:List V)(Pv:Nat→List V→Hp→Prop):VK:=fun y H4=>H4 D=some (.lst ys)∧ys.length < sizeLine∧∃m',m' < n - i∧(m'=n - (i+1)∧i+1≤n∧Pv (i+1) (ys++[y]) (upd H4 D (.lst (ys++[y]))))
theorem compNext{D:Addr}{n i:Nat}{ys:List V}{Pv:Nat→List V→Hp→Prop}{y:V}{H4:Hp}(h1:H4 D=some (.lst ys))(h2:ys.length < sizeLine)(h3:i < n)(h4:Pv (i+1) (ys++[y]) (upd H4 D (.lst (ys++[y])))):CompNext D n i ys Pv y H4:=
 ⟨h1,h2,n - (i+1),by omega,rfl,h3,h4⟩
theorem comp_by{J:It}(n:Nat)
 (h:∀(b:Blk) (D:Addr),H1 D=none→∃Pv:Nat→List V→Hp→Prop,Pv 0 [] (upd H1 D (.lst []))∧(∀i ys H,Pv i ys H→H D=some (.lst ys))∧(∀ys H,Pv n ys H→J.stop n H∧Q (.ref D) H)∧
  ∀i ys H,i < n→Pv i ys H→J.go i H∧∀x H3,J.yld i H x H3→te b (some x::tail) H3 (CompNext D n i ys Pv)):CompTail (none::tail) (fun _=>gName 0) (fun _=>tYes) te Q J H1:=by
 intro b D hD
 obtain ⟨Pv,p0,p1,p2,p3⟩:=h b D hD
 refine ⟨fun i m ys H=>m=n - i∧i≤n∧Pv i ys H,⟨n,rfl,Nat.zero_le _,p0⟩,?_⟩
 rintro i m ys H ⟨rfl,hi,p⟩
 refine ⟨p1 i ys H p,?_⟩
 by_cases hlt:i < n
 · obtain ⟨go,st⟩:=p3 i ys H hlt p
   refine .inr ⟨go,fun x H3 y=>⟨kept0,?_⟩⟩
   exact st x H3 y
 · have e:i=n:=by omega
   subst e
   exact .inl (p2 ys H p)
theorem same_new{D:Addr}{o:HO}(h:H1 D=none):Same H1 (upd H1 D o):=fun b u e=>by rw [upd_ne (ne_of_none e h)];exact e
theorem compS_pure{z:Str}(f:Nat→V)(hz:z.cps.size≤sizeLine)(he:∀b c H Q',c∈z.cps.toList→Same H1 H→Q' (f c) H→te b (some (.str ⟨#[c]⟩)::tail) H Q')
 (q:∀D,H1 D=none→Q (.ref D) (upd H1 D (.lst (z.cps.toList.map f)))):CompTail (none::tail) (fun _=>gName 0) (fun _=>tYes) te Q (Its z) H1:=by
 refine comp_by z.cps.size (fun b D hD=>⟨fun i ys H=>i≤z.cps.size∧ys=(z.cps.toList.take i).map f∧H=upd H1 D (.lst ys),⟨Nat.zero_le _,rfl,rfl⟩,?_,?_,?_⟩)
 · rintro i ys H ⟨hi,rfl,rfl⟩
   exact upd_same
 · rintro ys H ⟨_,rfl,rfl⟩
   refine ⟨Nat.le_refl _,?_⟩
   have e:z.cps.toList.take z.cps.size=z.cps.toList:=List.take_of_length_le (by simp)
   rw [e];exact q D hD
 · rintro i ys H hi ⟨_,rfl,rfl⟩
   refine ⟨hi,fun x H3 ⟨e3,c,hc,ex⟩=>?_⟩
   subst e3 ex
   have hc':z.cps.toList[i]?=some c:=by simpa using hc
   refine he b c _ _ (List.mem_of_getElem? hc') (same_new hD) (compNext upd_same (by rw [List.length_map,List.length_take,Array.length_toList];omega) hi ⟨hi,?_,?_⟩)
   · rw [List.take_add_one,hc'];simp
   · funext a;by_cases ha:a=D <;> simp [upd,ha]
theorem compL_pure{a:Addr}{xs:List V}(f:V→V)(hS:SqL K H1 a xs)(hz:xs.length≤sizeLine)(he:∀b x H Q',x∈xs→Same H1 H→Q' (f x) H→te b (some x::tail) H Q')
 (q:∀D,H1 D=none→Q (.ref D) (upd H1 D (.lst (xs.map f)))):CompTail (none::tail) (fun _=>gName 0) (fun _=>tYes) te Q (Itl K a) H1:=by
 refine comp_by xs.length (fun b D hD=>⟨fun i ys H=>i≤xs.length∧ys=(xs.take i).map f∧H=upd H1 D (.lst ys),⟨Nat.zero_le _,rfl,rfl⟩,?_,?_,?_⟩)
 · rintro i ys H ⟨hi,rfl,rfl⟩
   exact upd_same
 · rintro ys H ⟨_,rfl,rfl⟩
   refine ⟨⟨xs,(same_new hD).seq hS,Nat.le_refl _⟩,?_⟩
   rw [List.take_length];exact q D hD
 · rintro i ys H hi ⟨_,rfl,rfl⟩
   refine ⟨⟨xs,xs[i],(same_new hD).seq hS,by simp [hi]⟩,fun x H3 ⟨e3,ex⟩=>?_⟩
   subst e3
   have hc':=ex xs ((same_new hD).seq hS)
   refine he b x _ _ (List.mem_of_getElem? hc') (same_new hD) (compNext upd_same (by rw [List.length_map,List.length_take];omega) hi ⟨hi,?_,?_⟩)
   · rw [List.take_add_one,hc'];simp
   · funext a;by_cases ha:a=D <;> simp [upd,ha]
theorem compR_pure{lo:Int}{n:Nat}(f:Int→V)(hz:n≤sizeLine)(he:∀b (i:Nat) H Q',i < n→Same H1 H→Q' (f (lo+i)) H→te b (some (.int (lo+i))::tail) H Q')
 (q:∀D,H1 D=none→Q (.ref D) (upd H1 D (.lst ((List.range n).map fun (i:Nat)=>f (lo+(i:Int)))))):CompTail (none::tail) (fun _=>gName 0) (fun _=>tYes) te Q (Itr lo n) H1:=by
 refine comp_by n (fun b D hD=>⟨fun i ys H=>i≤n∧ys=(List.range i).map (fun (i:Nat)=>f (lo+(i:Int)))∧H=upd H1 D (.lst ys),⟨Nat.zero_le _,rfl,rfl⟩,?_,?_,?_⟩)
 · rintro i ys H ⟨hi,rfl,rfl⟩
   exact upd_same
 · rintro ys H ⟨_,rfl,rfl⟩
   exact ⟨Nat.le_refl _,q D hD⟩
 · rintro i ys H hi ⟨_,rfl,rfl⟩
   refine ⟨hi,fun x H3 ⟨e3,ex⟩=>?_⟩
   subst e3 ex
   refine he b i _ _ hi (same_new hD) (compNext upd_same (by rw [List.length_map,List.length_range];omega) hi ⟨hi,?_,?_⟩)
   · rw [List.range_succ];simp
   · funext a;by_cases ha:a=D <;> simp [upd,ha]
end
section
variable {σ:St} {H:Hp} {Q:VK} {D:Ends} {K:PySem.W.Frag}
theorem rd_comp{wi:TI}{fs:List Nat}{te:Blk→TE}:tComp1 wi fs te σ H Q=wi σ H (CompTail (none::fs.map fun j=>σ.getD j none) (fun _=>gName 0) (fun _=>tYes) te Q):=rfl
theorem rd_istr{tl:TE}{R:It→Hp→Prop}:iStr tl σ H R=tl σ H fun x H1=>∃z,x= .str z∧R (Its z) H1:=rfl
theorem rd_sl{r:V→Option Int→Option Int→Hp→VK→Prop}{te:TE}{tl th:TO}:tSl r te tl th σ H Q=te σ H fun x H1=>tl σ H1 fun l H2=>th σ H2 fun u H3=>r x l u H3 Q:=rfl
theorem rd_noPart{QO:Option Int→Hp→Prop}:tNoPart σ H QO=QO none H:=rfl
theorem rd_part{t:TE}{QO:Option Int→Hp→Prop}:tPart t σ H QO=t σ H fun x H1=>∃i,x= .int i∧QO (some i) H1:=rfl
theorem rd_slS{x:V}{lo hi:Option Int}:rSlS x lo hi H Q=∃z,x= .str z∧z.length≤sizeLine∧Q (.str (Txt.slice z lo hi)) H:=rfl
theorem rd_slL{x:V}{lo hi:Option Int}:rSlL K x lo hi H Q=∃a xs,x= .ref a∧SqL K H a xs∧∀p,H p=none→Q (.ref p) (upd H p (.lst (cutV xs lo hi))):=rfl
theorem rd_bm{T:String}{r:V→List V→Hp→VK→Prop}{to:TE}{t:TA}:tBM K T r to t σ H Q=to σ H fun x H1=>tyV K T x H1∧t σ H1 fun xs H2=>r x xs H2 Q:=rfl
theorem rd_bm0{T:String}{r:V→List V→Hp→VK→Prop}{to:TE}:tBM0 K T r to σ H Q=to σ H fun x H1=>tyV K T x H1∧r x [] H1 Q:=rfl
theorem tyV_str{z:Str}:tyV K "str" (.str z) H=True:=eq_true rfl
theorem rd_join{x:V}{vs:List V}:rJoin K x vs H Q=∃z p ys,x= .str z∧vs=[.ref p]∧SqL K H p (ys.map V.str)∧(ys.map (·.length)).sum+ys.length * z.length≤16777216∧Q (.str (Txt.join z ys)) H:=rfl
theorem rd_find{x:V}{vs:List V}:rFind x vs H Q=∃z y,x= .str z∧vs=[.str y]∧Q (.int (Txt.find z y)) H:=rfl
theorem rd_split{x:V}{vs:List V}:rSplit x vs H Q=∃z y,x= .str z∧vs=[.str y]∧(y.length==0)=false∧z.length+2≤sizeLine∧∀p,H p=none→Q (.ref p) (upd H p (.lst ((Txt.split z y).map V.str))):=rfl
theorem rd_all{xs:List V}:rAll K xs H Q=∃(p:Addr) (bs:List Bool),xs=[.ref p]∧SqL K H p (bs.map V.bl)∧Q (.bl (bs.all id)) H:=rfl
theorem rd_mulS{x y:V}:rMulS x y H Q=∃z n,x= .str z∧y= .int n∧MulOk z n∧Q (.str (Txt.mul z n)) H:=rfl
theorem rd_jnil{acc:Str}{QS:Str→Hp→Prop}:jNil acc σ H QS=QS acc H:=rfl
theorem rd_jcons{te:TE}{tr:TJ}{acc:Str}{QS:Str→Hp→Prop}:jCons te tr acc σ H QS=te σ H fun x H1=>∃y,x= .str y∧(acc++y).length≤sizeLine∧tr (acc++y) σ H1 QS:=rfl
theorem rd_fstr{t:TJ}:tFstr t σ H Q=t Str.empty σ H fun out H1=>out.length≤sizeLine∧Q (.str out) H1:=rfl
theorem rd_fmtR{te:TE}:tFmtR te σ H Q=te σ H fun x H1=>∃z,x= .str z∧(PySem.reprText z).length≤sizeLine∧Q (.str (PySem.reprText z)) H1:=rfl
theorem rd_fmt{te:TE}:tFmt te σ H Q=te σ H fun x H1=>(∃z,x= .str z∧z.length≤sizeLine∧Q (.str z) H1)∨∃i,x= .int i∧i.natAbs.log2 < 1920∧Q (.str (toString i)) H1:=rfl
theorem rd_dnewK:tDNewK σ H Q=∀p,H p=none→Q (.ref p) (upd H p (.dK [])):=rfl
theorem ixS_of{z:Str}{i:Int}{c:Nat}(hz:z.length≤sizeLine)(e:atI z.cps.toList i=some c)(q:Q (.str ⟨#[c]⟩) H):rIxS (.str z) (.int i) H Q:=⟨z,i,c,rfl,rfl,hz,e,q⟩
theorem blk_K{X:Cx}{scope:Scope}{N':List Str}{b:Blk}:(X.blk scope N' b).K=X.K:=rfl
end
section
variable {X:Cx} {x:Str} {pos:Pos}
theorem pe_gint{i:Int}(hg:Gl X x)(hm:∃t,X.mg x=some (.int i t))(hd:(x==("__debug__":Str))=false:=by decide):PE X (.Name x pos) (tC (.int i)):=by
 obtain ⟨t,hm⟩:=hm
 exact pe_glob hg hm ⟨t,rfl⟩ hd
theorem pe_gstr{z:Str}(hg:Gl X x)(hm:∃t,X.mg x=some (.str z t))(hd:(x==("__debug__":Str))=false:=by decide):PE X (.Name x pos) (tC (.str z)):=by
 obtain ⟨t,hm⟩:=hm
 exact pe_glob hg hm ⟨t,rfl⟩ hd
end
theorem line_val:sizeLine=16777216:=by decide
theorem len_app{a b:Str}:(a++b).length=a.length+b.length:=strLen_append a b
theorem len_one{c:Nat}:(⟨#[c]⟩:Str).length=1:=rfl
theorem str_len{z:Str}:z.cps.toList.length=z.length:=by simp [Str.length]
theorem app_list{a b:Str}:(a++b).cps.toList=a.cps.toList++b.cps.toList:=by
 show (a.cps++b.cps).toList=_
 simp
theorem script_go{K:PySem.W.Frag}{H:Hp}{a:Addr}{ns:List Int}{R:List Int→Prop}(h:SqL K H a (ns.map V.int))(hl:ns.length≤63)(q:R ns):∃x:List Int,SqL K H a (x.map V.int)∧x.length≤63∧R x:=⟨ns,h,hl,q⟩
noncomputable def hasS(z y:Str):Bool:=!(Builtin.Str.occurrences z y 0 z.length 1).isEmpty
theorem hasS_one{z:Str}{c:Nat}:hasS z ⟨#[c]⟩=decide (c∈z.cps.toList):=StrLaws.found_one z c
noncomputable def rInS:R2:=fun x y H Q=>∃i j,x= .str i∧y= .str j∧Q (.bl (hasS j i)) H
noncomputable def rNotInS:R2:=fun x y H Q=>∃i j,x= .str i∧y= .str j∧Q (.bl (!hasS j i)) H
theorem op_inS{X:Cx}:OpR X (compareOp .In) rInS:=op_in_str
theorem rd_inS{x y:V}{H:Hp}{Q:VK}:rInS x y H Q=∃i j,x= .str i∧y= .str j∧Q (.bl (hasS j i)) H:=rfl
theorem rd_notinS{x y:V}{H:Hp}{Q:VK}:rNotInS x y H Q=∃i j,x= .str i∧y= .str j∧Q (.bl (!hasS j i)) H:=rfl
theorem at_0{α:Type}{c:α}{r:List α}:atI (c::r) 0=some c:=atI_of (by decide) rfl
end L2
namespace L2
noncomputable def flatEq(xs ys:List V):Bool:=match xs,ys with
 | [],[]=>true
 | x::xs,y::ys=>eqV x y && flatEq xs ys
 | _,_=>false
theorem flatEq_len:∀{xs ys:List V},xs.length≠ys.length→flatEq xs ys=false
 | [],[],h=>absurd rfl h
 | [],_::_,_=>rfl
 | _::_,[],_=>rfl
 | x::xs,y::ys,h=>by
  unfold flatEq
  rw [flatEq_len (fun e=>h (by simp [e])),Bool.and_false]
theorem flatEq_all:∀{xs ys:List V},xs.length=ys.length→flatEq xs ys=(List.range xs.length).all fun i=>eqV (xs.getD i .non) (ys.getD i .non)
 | [],[],_=>rfl
 | [],_::_,h=>by cases h
 | _::_,[],h=>by cases h
 | x::xs,y::ys,h=>by
  unfold flatEq
  rw [flatEq_all (by simpa using h),List.length_cons,List.range_succ_eq_map,List.all_cons,List.all_map]
  rfl
theorem eqV_str{x y:Str}:eqV (.str x) (.str y)=decide (x=y):=rfl
noncomputable def EqQ(K:PySem.W.Frag)(H:Hp)(x y:V)(r:Bool):Prop:=∃a b xs ys,x= .ref a∧y= .ref b∧((SqL K H a xs∧SqL K H b ys)∨(SqT K H a xs∧SqT K H b ys))∧xs.all flatV=true∧ys.all flatV=true∧r=flatEq xs ys
section
variable {X:Cx} {pins:List (Addr×Obj)} {σ:St} {H:Hp} {s:Shared}
theorem flat_items{xs ys:List V}{us ws:List Value}{A:Around}(rx:Vals xs us)(ry:Vals ys ws)(fx:xs.all flatV=true)(fy:ys.all flatV=true):
 ∀j (h1:j < us.toArray.size) (h2:j < ws.toArray.size),SeqAt.EqAt A s us.toArray[j] ws.toArray[j] (eqV (xs.getD j .non) (ys.getD j .non)):=by
 intro j h1 h2
 have lx:=rx.length
 have ly:=ry.length
 rw [List.size_toArray]at h1 h2
 have hx:j < xs.length:=by omega
 have hy:j < ys.length:=by omega
 obtain ⟨u,hu,ru⟩:=rx.get (i:=j) (x:=xs[j]) (by simp [hx])
 obtain ⟨w,hw,rw'⟩:=ry.get (i:=j) (x:=ys[j]) (by simp [hy])
 have eu:us.toArray[j]=u:=by
  have:=List.getElem?_eq_getElem h1
  rw [this]at hu
  simpa using hu
 have ew:ws.toArray[j]=w:=by
  have:=List.getElem?_eq_getElem h2
  rw [this]at hw
  simpa using hw
 rw [eu,ew,List.getD_eq_getElem?_getD,List.getD_eq_getElem?_getD,List.getElem?_eq_getElem hx,List.getElem?_eq_getElem hy]
 exact eqAt_V ru rw' (List.all_eq_true.mp fx _ (List.getElem_mem hx)) (List.all_eq_true.mp fy _ (List.getElem_mem hy))
theorem eqQ_ne{x y:V}{u v:Value}{r:Bool}{A:Around}(I:Inv X pins σ H s)(rx:RelV x u)(ry:RelV y v)(h:EqQ X.K H x y r)(hu:A.units < cLine):SeqAt.RcNeAt A s u v (!r):=by
 obtain ⟨a,b,xs,ys,rfl,rfl,hq,fx,fy,rfl⟩:=h
 cases rx
 cases ry
 rcases hq with ⟨h1,h2⟩ | ⟨h1,h2⟩
 · obtain ⟨us,r1,p1,z1⟩:=I.list h1
   obtain ⟨ws,r2,p2,z2⟩:=I.list h2
   have lx:=r1.length
   have ly:=r2.length
   by_cases hl:xs.length=ys.length
   · rw [flatEq_all hl]
     have:=SeqAt.RcNeAt.lists p1.isList p2.isList (by simp;omega) hu (flat_items r1 r2 fx fy)
     rw [List.size_toArray,← lx]at this
     exact this
   · rw [flatEq_len hl]
     exact SeqAt.RcNeAt.lists_lengths p1.isList p2.isList (by simp;omega) hu
 · obtain ⟨us,r1,p1,z1⟩:=I.tuple h1
   obtain ⟨ws,r2,p2,z2⟩:=I.tuple h2
   have lx:=r1.length
   have ly:=r2.length
   have:=SeqAt.RcNeAt.tuples (show s.heap.IsTuple a us.toArray from p1) (show s.heap.IsTuple b ws.toArray from p2) hu (flat_items r1 r2 fx fy)
   rw [List.size_toArray,List.size_toArray,← lx,← ly]at this
   by_cases hl:xs.length=ys.length
   · rw [flatEq_all hl]
     rw [hl,Nat.min_self,beq_self_eq_true,Bool.and_true]at this
     rw [hl];exact this
   · rw [flatEq_len hl]
     rw [beq_eq_false_iff_ne.mpr hl,Bool.and_false]at this
     exact this
noncomputable def rEqQ(K:PySem.W.Frag):R2:=fun x y H Q=>∃r,EqQ K H x y r∧Q (.bl r) H
noncomputable def rNeQ(K:PySem.W.Frag):R2:=fun x y H Q=>∃r,EqQ K H x y r∧Q (.bl (!r)) H
theorem op_neQ{k:Nat}(hr:Room k X.A):OpR X (compareOp .NotEq) (rNeQ X.K):=by
 intro pins s σ H x y v u Q I rx ry h
 obtain ⟨r,e,q⟩:=h
 exact eqQ_ne I rx ry e (Nat.lt_of_le_of_lt (by omega) hr.un) X.prog X.w X.xe _ ⟨.bl (!r),H,I,rfl,q⟩
end
section
variable {K:PySem.W.Frag} {H:Hp} {Q:VK} {x y:V}
theorem rd_eqQ:rEqQ K x y H Q=∃r,EqQ K H x y r∧Q (.bl r) H:=rfl
theorem rd_neQ:rNeQ K x y H Q=∃r,EqQ K H x y r∧Q (.bl (!r)) H:=rfl
theorem all_strs{xs:List Str}:(xs.map V.str).all flatV=true:=by
 rw [List.all_map]
 exact List.all_eq_true.mpr fun _ _=>rfl
end
end L2
namespace L2
structure DefM(P:Program)(w:World)(K:PySem.W.Frag)(mg:Str→Option Value)(base:Heap)(CX:CXT)(k:Nat)(C:Addr)(m:Str)(ps:List Str)(sp:Sp):Prop where
 ex:∃(f:Addr) (fd:FuncData),FnOk P w K mg base CX k f fd ps sp∧Meth K C m f∧Binds K fd ps []
structure DefI(P:Program)(w:World)(K:PySem.W.Frag)(mg:Str→Option Value)(base:Heap)(CX:CXT)(k:Nat)(x:Str)(C:Addr)(ps:List Str)(sp:Sp):Prop where
 ex:∃(f:Addr) (fd:FuncData),FnOk P w K mg base CX k f fd ps sp∧Mk K C f∧mg x=some (.ref C)∧Binds K fd ps []
noncomputable def tMethE(C:Addr)(m:Str)(sp:Sp)(EE:St→XK)(ta:TE)(t:TA):TE:=fun σ H Q=>ta σ H fun x H1=>∃a dx fs,x= .ref a∧H1 a=some (.ins C dx fs)∧fs.lookup m=none∧t σ H1 fun vs H2=>sp (x::vs) H2 Q (EE σ)
noncomputable def tMakeE(C:Addr)(sp:Sp)(EE:St→XK)(t:TA):TE:=fun σ H Q=>t σ H fun vs H1=>∀x dx,H1 x=none→H1 dx=none→dx≠x→sp (.ref x::vs) (upd (upd H1 dx (.own x)) x (.ins C dx [])) (fun v H2=>v= .non∧Q (.ref x) H2) (EE σ)
section
variable {X:Cx} {CX:CXT} {k j:Nat} {f C:Addr} {fd:FuncData} {ps:List Str} {sp:Sp} {EE:St→XK} {E:XK} {x m:Str} {p pos apos:Pos} {e o:Expr} {es:List Expr} {ta:TE} {t:TA}
theorem passS(h:Passes CX X E):PassesS CX X fun _=>E:=fun pins σ H s e s' I hc=>h pins σ H s e s' I hc
theorem run_fnS{pins:List (Addr×Obj)}{σ:St}{H:Hp}{s:Shared}{Q:VK}{us:List Value}{vs:List V}(F:FnOk X.prog X.w X.K X.mg X.base CX k f fd ps sp)(hr:Room k X.A)(hb:Binds X.K fd ps [])(hx:PassesS CX X EE)
 (I:Inv X pins σ H s) (r:Vals vs us) (h:sp vs H Q (EE σ)):wpAny (model X.prog X.w) X.A (call (.ref f) us) (EP X pins σ Q) X.xe s:=by
 have hl:us.length=ps.length:=by rw [← r.length];exact F.len _ _ _ _ h
 have hb':=hb s us I.kIn (by simpa using hl)
 rw [List.append_nil]at hb'
 refine wpAny_call (codeAny_mono (F.run X.A X.stack s H ⟨us,[]⟩ us vs Q (EE σ) hr I.env0 hb' r h) fun r s' hq=>?_)
 cases r with
 | error e=>exact hx pins σ H s e s' I hq
 | ok fl=>
  cases fl with
  | ret u=>exact I.after hq
  | next=>exact False.elim hq
  | brk=>exact False.elim hq
  | cont=>exact False.elim hq
theorem pe_methS{pl:Sem Bool}(D:DefM X.prog X.w X.K X.mg X.base CX j C m ps sp)(c:Cls X.K C)(hr:Room k X.A)(hx:PassesS CX X EE)(he:PE X o ta)(ha:PA X (e::es) t)(hj:j≤k:=by decide)
 (hst:starEach (e::es) X.env=(false,eval e X.env)::starEach es X.env:=by rfl) (hpl:(backTo pos (starEach es X.env)).any (·.1)=false:=by rfl)
 (ht:eval (.Call (.Attribute o m apos) (e::es) [] pos) X.env=(do
  let ov ← eval o X.env
  standAt apos.atName
  let (f,first) ← holding [ov] (getMethod ov m pl)
  callWith pos f first (backTo pos (starEach (e::es) X.env)) (backToKw pos (keywordEach [] X.env))):=by rfl):
 PE X (.Call (.Attribute o m apos) (e::es) [] pos) (tMethE C m sp EE ta t):=by
 obtain ⟨f,fd,F,hm,hb⟩:=D.ex
 intro pins s σ H Q I h
 refine PySem.W.methodCall_KW (pl:=pl) (thn (he pins s σ H _ I h) fun u s1 hq_=>?_) ht
 obtain ⟨x,H1,I1,rx,a,dx,fs,ex,ea,l,q⟩:=hq_
 subst ex
 obtain rfl:u=Value.ref a:=rx
 refine getmeth_ok I1 ea c hm l ?_
 refine PySem.W.callWith_K (first:=[.ref a]) (h₀:=X.base) I.ok.mod.kin hm.kp (thn (ha pos pins s1 σ H1 _ I1 q) fun us s2 ⟨vs,H2,I2,r,q2⟩=>⟨I2.kIn,?_⟩) hst hpl
 exact run_fnS (us:= .ref a::us) (vs:= .ref a::vs) (F.mono hj) hr hb hx I2 (.cons rfl r) q2
theorem pe_methS0{pl:Sem Bool}(D:DefM X.prog X.w X.K X.mg X.base CX j C m ps sp)(c:Cls X.K C)(hr:Room k X.A)(hx:PassesS CX X EE)(he:PE X o ta)(hj:j≤k:=by decide)
 (ht:eval (.Call (.Attribute o m apos) [] [] pos) X.env=(do
  let ov ← eval o X.env
  standAt apos.atName
  let (f,first) ← holding [ov] (getMethod ov m pl)
  callWith pos f first (backTo pos (starEach [] X.env)) (backToKw pos (keywordEach [] X.env))):=by rfl):
 PE X (.Call (.Attribute o m apos) [] [] pos) (tMethE C m sp EE ta tNil):=by
 obtain ⟨f,fd,F,hm,hb⟩:=D.ex
 intro pins s σ H Q I h
 refine PySem.W.methodCall_KW (pl:=pl) (thn (he pins s σ H _ I h) fun u s1 hq_=>?_) ht
 obtain ⟨x,H1,I1,rx,a,dx,fs,ex,ea,l,q⟩:=hq_
 subst ex
 obtain rfl:u=Value.ref a:=rx
 refine getmeth_ok I1 ea c hm l ?_
 exact PySem.W.callWith_K0 (first:=[.ref a]) I1.kIn hm.kp (run_fnS (us:=[.ref a]) (vs:=[.ref a]) (F.mono hj) hr hb hx I1 (.cons rfl .nil) q)
theorem pe_makeS(D:DefI X.prog X.w X.K X.mg X.base CX j x C ps sp)(hr:Room k X.A)(hg:Gl X x)(hx:PassesS CX X EE)(ha:PA X (e::es) t)(hj:j+1≤k:=by decide)(hdb:(x==("__debug__":Str))=false:=by decide)
 (he:starEach (e::es) X.env=(false,eval e X.env)::starEach es X.env:=by rfl) (hpl:(backTo pos (starEach es X.env)).any (·.1)=false:=by rfl):
 PE X (.Call (.Name x p) (e::es) [] pos) (tMakeE C sp EE t):=by
 obtain ⟨f,fd,F,M,hm,hb⟩:=D.ex
 intro pins s0 σ H0 Q I0 h
 refine wpAny_Call_Name_kw (ld_glob I0 hg hm ?_ hdb)
 refine PySem.W.callWith_K (h₀:=X.base) I0.ok.mod.kin M.kp (thn (ha pos pins s0 σ H0 _ I0 h) fun us s ⟨vs,H,I,r,q⟩=>⟨I.kIn,?_⟩) he hpl
 have hq:=q (s.heap.objs.size+1) s.heap.objs.size (I.hok.fresh (Nat.le_succ _)) (I.hok.fresh (Nat.le_refl _)) (Nat.ne_of_lt (Nat.lt_succ_self _))
 have I2:=Inv.made (C:=C) I
 have r2:Vals (V.ref (s.heap.objs.size+1)::vs) (Value.ref (s.heap.objs.size+1)::us):= .cons rfl r
 have hl:(Value.ref (s.heap.objs.size+1)::us).length=ps.length:=by
  rw [← r2.length];exact F.len _ _ _ _ hq
 have hb':=fun s' (h':X.K.In s'.heap)=>hb s' (Value.ref (s.heap.objs.size+1)::us) h' (by simpa using hl)
 have hr':Room (j+1) X.A:=hr.mono hj
 refine wpAny_call (make_map (f:=f) I.kIn M.makes M.init (beq_iff_eq.mp M.fn) (codeAny_mono (F.run _ X.stack _ _ ⟨Value.ref (s.heap.objs.size+1)::us,[]⟩ (Value.ref (s.heap.objs.size+1)::us) _ _ (EE σ) (hr'.make C us [])
  (I2.env0.make C us []) (by have:=hb' _ I2.kIn;rw [List.append_nil]at this;exact this) r2 hq) fun r s' hq'=>?_))
 cases r with
 | error e=>exact hx pins σ _ _ e s' I2 hq'
 | ok fl=>
  cases fl with
  | ret u=>
   obtain ⟨v,H',I3,rv,ev,q3⟩:=I2.after hq'
   subst ev
   exact ⟨rv,⟨V.ref (s.heap.objs.size+1),H',I3,rfl,q3⟩⟩
  | next=>exact False.elim hq'
  | brk=>exact False.elim hq'
  | cont=>exact False.elim hq'
end
section
variable {σ:St} {H:Hp} {Q:VK} {D:Ends} {K:PySem.W.Frag}
theorem rd_methE{C:Addr}{m:Str}{sp:Sp}{EE:St→XK}{ta:TE}{t:TA}:tMethE C m sp EE ta t σ H Q=ta σ H fun x H1=>∃a dx fs,x= .ref a∧H1 a=some (.ins C dx fs)∧fs.lookup m=none∧t σ H1 fun vs H2=>sp (x::vs) H2 Q (EE σ):=rfl
theorem rd_makeE{C:Addr}{sp:Sp}{EE:St→XK}{t:TA}:tMakeE C sp EE t σ H Q=t σ H fun vs H1=>∀x dx,H1 x=none→H1 dx=none→dx≠x→sp (.ref x::vs) (upd (upd H1 dx (.own x)) x (.ins C dx [])) (fun v H2=>v= .non∧Q (.ref x) H2) (EE σ):=rfl
theorem rd_fld{ta:TE}{f:Str}:tFld K ta f σ H Q=ta σ H fun x H1=>∃a C dx fs v,x= .ref a∧H1 a=some (.ins C dx fs)∧Cls K C∧NoAttr K C f∧fs.lookup f=some v∧Q v H1:=rfl
theorem rd_sfld{ta tv:TE}{f:Str}:sFld K ta tv f D σ H=tv σ H fun y H1=>ta σ H1 fun x H2=>∃a C dx fs,x= .ref a∧H2 a=some (.ins C dx fs)∧Cls K C∧NoAttr K C f∧fs.length < 1000∧D.nx σ (upd H2 a (.ins C dx (putF f y fs))):=rfl
theorem rd_din{ty td:TE}:tDIn ty td σ H Q=ty σ H fun y H1=>td σ H1 fun x H2=>∃a o,x= .ref a∧DGet H2 a y o∧Q (.bl o.isSome) H2:=rfl
theorem rd_dnotin{ty td:TE}:tDNotIn ty td σ H Q=ty σ H fun y H1=>td σ H1 fun x H2=>∃a o,x= .ref a∧DGet H2 a y o∧Q (.bl (!o.isSome)) H2:=rfl
theorem rd_dget{td ty:TE}:tDGet td ty σ H Q=td σ H fun x H1=>ty σ H1 fun y H2=>∃a v,x= .ref a∧DGet H2 a y (some v)∧Q v H2:=rfl
theorem rd_dput{td ty tv:TE}:sDPut td ty tv D σ H=tv σ H fun v H1=>td σ H1 fun x H2=>ty σ H2 fun y H3=>∃a H4,x= .ref a∧DPut H3 a y v H4∧D.nx σ H4:=rfl
theorem rd_gtup{n:Nat}{t:TGs}{v:V}{N:St→Hp→Prop}:gTup K n t v σ H N=∃a xs,v= .ref a∧SqT K H a xs∧xs.length=n∧t xs σ H N:=rfl
end
theorem le_app{a b:Str}{n:Nat}(h1:a.length≤n / 2)(h2:b.length≤n / 2):(a++b).length≤n:=by
 rw [len_app];omega
end L2
namespace N1
open PySem L2
noncomputable def letters:List Nat:=List.range' 97 26
noncomputable def figures:List Nat:=List.range' 48 10
theorem let_list:(Str.ofString "abcdefghijklmnopqrstuvwxyz").cps.toList=letters:=by decide+kernel
theorem fig_list:(Str.ofString "0123456789").cps.toList=figures:=by decide+kernel
theorem both_list:(Str.ofString "abcdefghijklmnopqrstuvwxyz0123456789").cps.toList=letters++figures:=by decide+kernel
theorem both_len:(letters++figures).length=36:=by decide
noncomputable def headIn(l:List Nat)(s:List Nat):Bool:=match l with
 | []=>false
 | c::_=>decide (c∈s)
noncomputable def nameB(l:List Nat):Bool:=decide (1≤l.length) && decide (l.length≤8) && headIn l letters && l.all fun c=>decide (c∈letters++figures)
end N1
namespace N1
open PySem L2
noncomputable def tx(l:List Nat):Str:=⟨l.toArray⟩
theorem T_list{l:List Nat}:(tx l).cps.toList=l:=by simp [tx]
theorem T_eq{z:Str}:tx z.cps.toList=z:=by cases z;simp [tx]
theorem T_inj{a b:List Nat}(h:tx a=tx b):a=b:=by rw [← T_list (l:=a),h,T_list]
theorem T_app{a b:List Nat}:tx a++tx b=tx (a++b):=by
 have h:=app_list (a:=tx a) (b:=tx b)
 rw [T_list,T_list]at h
 rw [← T_eq (z:=tx a++tx b),h]
theorem T_len{l:List Nat}:(tx l).length=l.length:=by rw [← str_len,T_list]
theorem T_one{c:Nat}:(⟨#[c]⟩:Str)=tx [c]:=rfl
theorem T_nil:Str.ofString ""=tx []:=by decide+kernel
theorem T_empty:Str.empty=tx []:=by decide+kernel
theorem both_length:(Str.ofString "abcdefghijklmnopqrstuvwxyz0123456789").length=36:=by decide+kernel
noncomputable def bc(i:Int):Nat:=(letters++figures).getD i.toNat 0
theorem ix_bc(i:Int){k:Int}(h0:0 < k)(h1:k≤36):atI (Str.ofString "abcdefghijklmnopqrstuvwxyz0123456789").cps.toList (i % k)=some (bc (i % k)):=by
 have h2:=Int.emod_lt_of_pos i h0
 have h3:=Int.emod_nonneg i (show k≠0 by omega)
 refine atI_of h3 ?_
 have h4:(i % k).toNat < (letters++figures).length:=by rw [both_len];omega
 unfold bc
 rw [both_list,List.getD_eq_getElem?_getD,List.getElem?_eq_getElem h4]
 rfl
end N1
namespace N1
open L2
noncomputable def sp_cell(K:PySem.W.Frag):Sp:=fun vs H Q _=>∃(a:Addr) (ns:List Int) (k:Int),vs=[.ref a,.int k]∧SqL K H a (ns.map V.int)∧0≤k∧ns.length≤63∧Q (.int (ns.getD k.toNat 0)) H
noncomputable def sp_made:Sp:=fun vs H Q _=>∃(z w:Str),vs=[.str z,.str w]∧z.length≤sizeLine∧∀H',Same H H'→Q (.bl (z.cps.toList.all fun c=>decide (c∈w.cps.toList))) H'
noncomputable def sp_is_name(K:PySem.W.Frag):Sp:=fun vs H Q _=>∃(x:V),vs=[x]∧((∃z:Str,x= .str z∧z.length≤sizeLine∧∀H',Same H H'→Q (.bl (nameB z.cps.toList)) H')∨(Isi K H x "str" false∧Q (.bl false) H))
noncomputable def sp_law(K:PySem.W.Frag):Sp:=fun vs H Q _=>∃(a:Addr) (ns:List Int),vs=[.ref a]∧SqL K H a (ns.map V.int)∧ns.length≤63∧∀H',Q (.bl true) H'
end N1
namespace N1
open L2
inductive StE where
 | noname | twice | nonum | many
noncomputable def nOk:V→Bool
 | .str z=>nameB z.cps.toList
 | _=>false
noncomputable def sOf:V→Str
 | .str z=>z
 | _=>Str.empty
noncomputable def wIn(lo hi:Int):V→Bool
 | .int i=>decide (lo≤i) && decide (i≤hi)
 | _=>false
noncomputable abbrev Rw:=Addr×V×V×V
noncomputable def rowR(ks:List Str)(n c r:V):Option StE:=if nOk n=false then some .noname else if sOf n∈ks then some .twice else if wIn 0 (10 ^ 30) c=false then some .nonum else if wIn 1 1000 r=false then some .nonum else none
noncomputable def stockR(ks:List Str):List Rw→Option StE
 | []=>none
 | t::rs=>match rowR ks t.2.1 t.2.2.1 t.2.2.2 with
  | some e=>some e
  | none=>stockR (ks++[sOf t.2.1]) rs
noncomputable def initR(rs:List Rw):Option StE:=if 60 < rs.length then some .many else stockR [] rs
theorem num_isi{K:PySem.W.Frag}{H:Hp}{v:V}(h:flatV v=true):∃b c,Isi K H v "int" b∧(b=true→Isi K H v "bool" c)∧((b && !c)=true→∃i,v= .int i)∧((b && !c)=false→∀i,v≠ .int i):=by
 cases v with
 | non=>exact ⟨false,false,isi_ni,fun h=>by (cases h),fun h=>by (cases h),fun _ i h=>by cases h⟩
 | bl b=>exact ⟨true,true,isi_bi,fun _=>isi_bb,fun h=>by (cases h),fun _ i h=>by cases h⟩
 | int i=>exact ⟨true,false,isi_ii,fun _=>isi_ib,fun _=>⟨i,rfl⟩,fun h=>by cases h⟩
 | str z=>exact ⟨false,false,isi_si,fun h=>by (cases h),fun h=>by (cases h),fun _ i h=>by cases h⟩
 | _=>cases h
noncomputable def sp_is_whole(K:PySem.W.Frag):Sp:=fun vs H Q _=>∃(x:V) (b c:Bool),vs=[x]∧Isi K H x "int" b∧(b=true→Isi K H x "bool" c)∧Q (.bl (b && !c)) H
noncomputable def sp_within(K:PySem.W.Frag):Sp:=fun vs H Q _=>∃(v:V) (lo hi:Int),vs=[v,.int lo,.int hi]∧flatV v=true∧Q (.bl (wIn lo hi v)) H
noncomputable def SameBut(p:Addr)(H H':Hp):Prop:=∀b o,H b=some o→b≠p→H' b=some o
theorem SameBut.trans{p:Addr}{H H1 H2:Hp}(h1:SameBut p H H1)(h2:SameBut p H1 H2):SameBut p H H2:=fun b o e n=>h2 b o (h1 b o e n) n
theorem SameBut.of{p:Addr}{H H1:Hp}(h:Same H H1):SameBut p H H1:=fun b o e _=>h b o e
theorem sameBut_upd{p:Addr}{H:Hp}{o:HO}:SameBut p H (upd H p o):=fun b u e n=>by rw [upd_ne n];exact e
noncomputable abbrev Th:=Str×Int×Int
noncomputable def flds(d:Addr):List (Str×V):=putF "things" (.ref d) []
structure StockAt(K:PySem.W.Frag)(C:Addr)(H:Hp)(p:Addr)(ts:List Th):Prop where
 ex:∃(dx d:Addr) (kvs:List (Key×V)),H p=some (.ins C dx (flds d))∧H d=some (.dK kvs)∧kvs.map (·.1)=ts.map (fun t=>Sum.inr t.1)∧
  ∀(i:Nat) (t:Th),ts[i]?=some t→∃a,kvs[i]?=some (Sum.inr t.1,.ref a)∧SqT K H a [.int i,.int t.2.1,.int t.2.2]
theorem StockAt.same{K:PySem.W.Frag}{C:Addr}{H H':Hp}{p:Addr}{ts:List Th}(s:Same H H')(h:StockAt K C H p ts):StockAt K C H' p ts:=by
 obtain ⟨dx,d,kvs,h1,h2,h3,h4⟩:=h.ex
 refine ⟨dx,d,kvs,s _ _ h1,s _ _ h2,h3,fun i t e=>?_⟩
 obtain ⟨a,e1,e2⟩:=h4 i t e
 exact ⟨a,e1,s.tup e2⟩
noncomputable def iOf:V→Int
 | .int i=>i
 | _=>0
noncomputable def thOf(t:Rw):Th:=(sOf t.2.1,iOf t.2.2.1,iOf t.2.2.2)
theorem SqT.but{K:PySem.W.Frag}{H H':Hp}{p a C dx:Addr}{fs:List (Str×V)}{xs:List V}(s:SameBut p H H')(hp:H p=some (.ins C dx fs))(h:SqT K H a xs):SqT K H' a xs:=by
 rcases h with (h | ⟨o,h⟩) | h
 · exact .inl (.inl (s _ _ h (ne_of h hp (by intro z;cases z))))
 · exact .inl (.inr ⟨o,s _ _ h (ne_of h hp (by intro z;cases z))⟩)
 · exact .inr h
theorem SqL.but{K:PySem.W.Frag}{H H':Hp}{p a C dx:Addr}{fs:List (Str×V)}{xs:List V}(s:SameBut p H H')(hp:H p=some (.ins C dx fs))(h:SqL K H a xs):SqL K H' a xs:=by
 rcases h with (h | ⟨o,h⟩) | h
 · exact .inl (.inl (s _ _ h (ne_of h hp (by intro z;cases z))))
 · exact .inl (.inr ⟨o,s _ _ h (ne_of h hp (by intro z;cases z))⟩)
 · exact .inr h
theorem key_mem{kvs:List (Key×V)}{ks:List Str}{z:Str}(h:kvs.map (·.1)=ks.map Sum.inr):(valV kvs (Sum.inr z)).isSome=decide (z∈ks):=by
 have e:(Sum.inr z:Key)∈kvs.map (·.1)↔z∈ks:=by
  rw [h,List.mem_map]
  constructor
  · rintro ⟨a,ha,e⟩;injection e with e;subst e;exact ha
  · intro h;exact ⟨z,h,rfl⟩
 cases hv:valV kvs (Sum.inr z:Key) with
 | none=>rw [decide_eq_false fun q=>valV_not hv (e.mpr q)];rfl
 | some v=>rw [decide_eq_true (e.mp (valV_in hv))];rfl
theorem flds_things{d:Addr}:(flds d).lookup ("things":Str)=some (V.ref d):=by
 unfold flds
 rw [lookup_putF,if_pos rfl]
theorem rowR_none{ks:List Str}{n co r:V}(h:rowR ks n co r=none):∃z c q,n= .str z∧co= .int c∧r= .int q∧¬z∈ks∧nameB z.cps.toList=true∧0≤c∧c≤10 ^ 30∧1≤q∧q≤1000:=by
 unfold rowR at h
 split at h
 · cases h
 rename_i h1
 split at h
 · cases h
 rename_i h2
 split at h
 · cases h
 rename_i h3
 split at h
 · cases h
 rename_i h4
 cases n with
 | str z=>
  cases co with
  | int c=>
   cases r with
   | int q=>
    simp only [wIn,Bool.and_eq_false_iff,decide_eq_false_iff_not,not_or,Decidable.not_not]at h3 h4
    exact ⟨z,c,q,rfl,rfl,rfl,h2,by simpa [nOk] using h1,h3.1,h3.2,h4.1,h4.2⟩
   | _=>exact absurd rfl h4
  | _=>exact absurd rfl h3
 | _=>exact absurd rfl h1
theorem stockR_step{ks:List Str}{rs:List Rw}{i:Nat}{t:Rw}(h:rs[i]?=some t):stockR ks (rs.drop i)=match rowR ks t.2.1 t.2.2.1 t.2.2.2 with
 | some e=>some e
 | none=>stockR (ks++[sOf t.2.1]) (rs.drop (i+1)):=by
 have e:rs.drop i=t::rs.drop (i+1):=by
  obtain ⟨hi,rfl⟩:=List.getElem?_eq_some_iff.mp h
  exact List.drop_eq_getElem_cons hi
 rw [e]
 rfl
noncomputable def nmsOf(rs:List Rw):List Str:=rs.map fun t=>sOf t.2.1
structure MidAt(K:PySem.W.Frag)(H:Hp)(d:Addr)(rs:List Rw):Prop where
 ex:∃kvs:List (Key×V),H d=some (.dK kvs)∧kvs.map (·.1)=(nmsOf rs).map Sum.inr∧∀(j:Nat) (t:Rw),rs[j]?=some t→∃a,kvs[j]?=some (Sum.inr (sOf t.2.1),.ref a)∧SqT K H a [.int j,.int (iOf t.2.2.1),.int (iOf t.2.2.2)]
theorem MidAt.snoc{K:PySem.W.Frag}{H:Hp}{d a:Addr}{rs:List Rw}{t:Rw}{kvs:List (Key×V)}{c q:Int}{z:Str}(h1:H d=some (.dK kvs))(h2:kvs.map (·.1)=(nmsOf rs).map Sum.inr)
 (h3:∀(j:Nat) (t:Rw),rs[j]?=some t→∃a,kvs[j]?=some (Sum.inr (sOf t.2.1),.ref a)∧SqT K H a [.int j,.int (iOf t.2.2.1),.int (iOf t.2.2.2)])
 (e1:t.2.1= .str z) (e2:t.2.2.1= .int c) (e3:t.2.2.2= .int q) (nz:¬z∈nmsOf rs) (ha:H a=some (.tup [.int kvs.length,.int c,.int q])):
 MidAt K (upd H d (.dK (putK kvs (Sum.inr z) (.ref a)))) d (rs++[t]):=by
 have hl:kvs.length=rs.length:=by
  have:=congrArg List.length h2
  simpa [nmsOf] using this
 have hv:valV kvs (Sum.inr z:Key)=none:=by
  have:=key_mem (z:=z) h2
  rw [decide_eq_false nz]at this
  cases h:valV kvs (Sum.inr z:Key) with
  | none=>rfl
  | some v=>rw [h]at this;cases this
 have keep2:∀{b:Addr} {xs:List V} {o:List (Key×V)},SqT K H b xs→SqT K (upd H d (.dK o)) b xs:=fun {b xs o} h=>by
  rcases h with (h | ⟨o',h⟩) | h
  · exact .inl (.inl (by rw [upd_ne (ne_of h h1 (by intro z;cases z))];exact h))
  · exact .inl (.inr ⟨_,by rw [upd_ne (ne_of h h1 (by intro z;cases z))];exact h⟩)
  · exact .inr h
 refine ⟨_,upd_same,?_,fun j t' hj=>?_⟩
 · rw [putK_new _ hv,List.map_append,h2]
   simp [nmsOf,e1,sOf]
 · rw [putK_new _ hv]
   by_cases hlt:j < rs.length
   · rw [List.getElem?_append_left hlt]at hj
     obtain ⟨b,e,hb⟩:=h3 j t' hj
     exact ⟨b,by rw [List.getElem?_append_left (by omega)];exact e,keep2 hb⟩
   · rw [List.getElem?_append_right (by omega)]at hj
     have hj0:j - rs.length=0:=by
      have:=(List.getElem?_eq_some_iff.mp hj).1
      simp at this;omega
     rw [hj0]at hj
     cases hj
     have ej:j=rs.length:=by omega
     subst ej
     refine ⟨a,?_,?_⟩
     · rw [← hl,List.getElem?_append_right (by omega)];simp [e1,sOf]
     · rw [e2,e3]
       refine keep2 (SqT.of ?_)
       rw [ha,hl];rfl
end N1
namespace L2
theorem rd_setL{o i v:V}{H:Hp}{Q:Hp→Prop}:rSetL o i v H Q=∃p xs k j,o= .ref p∧i= .int k∧H p=some (.lst xs)∧ixN xs.length k=some j∧Q (upd H p (.lst (xs.set j v))):=rfl
end L2
namespace N5
open L2 N1
noncomputable def md(j:Nat):Int:=if j=0 then 26 else 36
noncomputable def sgn(F:Nat→Int)(at':Int)(k j:Nat):Nat:=bc ((F j+if (j:Int)=at' then (k:Int) else 0) % md j)
noncomputable def nmL(F:Nat→Int)(at':Int)(long k:Nat):List Nat:=(List.range long).map (sgn F at' k)
theorem bc_let{i:Int}:bc (i % 26)∈letters:=by
 have h1:=Int.emod_nonneg i (show (26:Int)≠0 by decide)
 have h2:=Int.emod_lt_of_pos i (show (0:Int) < 26 by decide)
 unfold bc
 generalize i % 26=x at *
 have h3:x.toNat < letters.length:=by simp [letters];omega
 rw [List.getD_eq_getElem?_getD,List.getElem?_append_left h3,List.getElem?_eq_getElem h3]
 exact List.getElem_mem h3
theorem bc_both{i:Int}:bc (i % 36)∈letters++figures:=by
 have h1:=Int.emod_nonneg i (show (36:Int)≠0 by decide)
 have h2:=Int.emod_lt_of_pos i (show (0:Int) < 36 by decide)
 unfold bc
 generalize i % 36=x at *
 have h3:x.toNat < (letters++figures).length:=by rw [both_len];omega
 rw [List.getD_eq_getElem?_getD,List.getElem?_eq_getElem h3]
 exact List.getElem_mem h3
theorem bc_inj{x y:Int}(hx0:0≤x)(hx:x < 36)(hy0:0≤y)(hy:y < 36)(h:bc x=bc y):x=y:=by
 have key:∀a:Fin 36,∀b:Fin 36,(letters++figures).getD a.val 0=(letters++figures).getD b.val 0→a=b:=by decide+kernel
 have:=key ⟨x.toNat,by omega⟩ ⟨y.toNat,by omega⟩ h
 have:=congrArg Fin.val this
 simp at this
 omega
noncomputable def nms(F:Nat→Int)(at':Int)(long m:Nat):List Str:=(List.range m).map fun k=>tx (nmL F at' long k)
theorem ne1:Str.ofString "no name"≠Str.ofString "nothing":=by decide+kernel
theorem SqT.butL{K:PySem.W.Frag}{H H':Hp}{p a:Addr}{zs:List V}{xs:List V}(s:SameBut p H H')(hp:H p=some (.lst zs))(h:SqT K H a xs):SqT K H' a xs:=by
 rcases h with (h | ⟨o,h⟩) | h
 · exact .inl (.inl (s _ _ h (ne_of h hp (by intro z;cases z))))
 · exact .inl (.inr ⟨o,s _ _ h (ne_of h hp (by intro z;cases z))⟩)
 · exact .inr h
theorem same_made{H H':Hp}{x dx C:Addr}(hx:H x=none)(hd:H dx=none)(s:SameBut x (upd (upd H dx (.own x)) x (.ins C dx [])) H'):Same H H':=fun b o e=>by
 have n1:=ne_of_none e hx
 have n2:=ne_of_none e hd
 exact s b o (by rw [upd_ne n1,upd_ne n2];exact e) n1
theorem name_len{z:Str}(h:nameB z.cps.toList=true):z.length≤8:=by
 unfold nameB at h
 simp only [Bool.and_eq_true,decide_eq_true_eq]at h
 have:=h.1.1.2
 rw [str_len]at this;exact this
end N5
namespace L2
open Sem (wp)
section
variable {Pg:Program} {w:World} {A:Around} {E:Value→Shared→Prop} {h:Heap} {g:Array GenState} {d:Drawn} {t:Nat} {os:OsState}
variable {nm q:Str} {C N:Addr} {bs bm bmB:List Value} {hd:Bool} {sn:List Str} {su:List Value} {ab:Bool} {co:Option Bool} {dd:Option Addr} {k0 k1 k2 k3 k5:Option Value} {B nw ni:String}
noncomputable abbrev bareExc(h:Heap)(C:Addr):Obj:={cls:= .ref C,data:= .fields #[.ref h.objs.size,.none,.none,.none,.bool false,.none]}
noncomputable abbrev twoMore(h:Heap)(C:Addr)(rest:List Value):Heap:=(h.push {cls:= .type "tuple",data:= .seq rest.toArray}).push (bareExc h C)
theorem keep2{rest:List Value}:∀b o,h.get? b=some o→(twoMore h C rest).get? b=some o:=fun _ _ e=>Heap.get?_push_of_some _ (Heap.get?_push_of_some _ e)
end
noncomputable def exO(n:Bool)(x C:Addr)(od:Option Addr):HO:= .ext fun h=>∃vs sl,h.get? x=some ⟨.ref C,od,.fields vs,sl⟩∧(n=true→∃t,vs=#[.ref t,.none,.none,.none,.bool false,.none])
end L2
namespace L2
open Sem (wp)
noncomputable def pI(C:Addr)(H₀:Hp)(EE:St→XK):St→Addr→Hp→Prop:=fun σ x H2=>∃od,H2 x=some (exO true x C od)∧H₀ x=none∧EE σ (.ref C) (some x) (upd H2 x (exO false x C od))
end L2
namespace L2
theorem kV_of{P:Program}{w:World}{k:Key}{u:Value}(h:(mixKind P w).is k u=true):RelV (kV k) u:=by
 cases k with
 | inl i=>
  cases u <;> first | (exact absurd h (by intro z;cases z)) | skip
  rename_i j t
  have e:j=i:=by simpa [mixKind,keyIs,Value.isInt] using h
  exact ⟨t,by rw [e]⟩
 | inr x=>
  cases u <;> first | (exact absurd h (by intro z;cases z)) | skip
  rename_i j t
  have e:j=x:=by simpa [mixKind,keyIs,Value.isStrOf] using h
  exact ⟨t,by rw [e]⟩
theorem vals_get:∀{xs:List V} {us:List Value},Vals xs us→∀{i:Nat} {u:Value},us[i]?=some u→∃x,xs[i]?=some x∧RelV x u
 | _,_,.cons r t,0,u,e=>by cases e;exact ⟨_,rfl,r⟩
 | _,_,.cons r t,i+1,u,e=>vals_get t (i:=i) e
theorem vals_at:∀{xs:List V} {us:List Value},xs.length=us.length→(∀(j:Nat) (u:Value),us[j]?=some u→∃x,xs[j]?=some x∧RelV x u)→Vals xs us
 | [],[],_,_=> .nil
 | x::xs,u::us,hl,h=>by
  obtain ⟨y,e,r⟩:=h 0 u rfl
  cases e
  exact .cons r (vals_at (by simpa using hl) fun j v e=>h (j+1) v e)
theorem paired_get{α β:Type}{F:α→β→Prop}:∀{l:List α} {m:List β},Paired F l m→∀{i:Nat} {b:β},m[i]?=some b→∃a,l[i]?=some a∧F a b
 | _,_,.cons r t,0,b,e=>by cases e;exact ⟨_,rfl,r⟩
 | _,_,.cons r t,i+1,b,e=>paired_get t (i:=i) e
theorem erase_map{α β:Type}(f:α→β):∀(l:List α) (i:Nat),(l.map f).eraseIdx i=(l.eraseIdx i).map f
 | [],_=>rfl
 | _::_,0=>rfl
 | a::l,i+1=>by rw [List.map_cons,List.eraseIdx_cons_succ,List.eraseIdx_cons_succ,List.map_cons,erase_map f l i]
theorem erase_at(z:Str):∀l:List Str,l.eraseIdx (l.idxOf z)=l.erase z
 | []=>rfl
 | a::l=>by
  by_cases h:a=z
  · subst h;simp
  · have e:(a::l).idxOf z=l.idxOf z+1:=by rw [List.idxOf_cons,show (a==z)=false from beq_false_of_ne h];rfl
    rw [e,List.eraseIdx_cons_succ,erase_at z l,List.erase_cons_tail (by simpa using h)]
noncomputable def viewO(v d:Addr):HO:= .ext fun h=>h.IsValuesView v d
theorem preSum_eq:∀(is:List Int),preSum (fun i=>is.getD i 0) is.length=is.sum:=by
 intro is
 have key:∀n,n≤is.length→preSum (fun i=>is.getD i 0) n=(is.take n).sum:=by
  intro n
  induction n with
  | zero=>intro _;rfl
  | succ n ih=>
   intro h
   have e:is.take (n+1)=is.take n++[is.getD n 0]:=by
    rw [List.take_add_one,List.getD_eq_getElem?_getD,List.getElem?_eq_getElem (by omega)]
    rfl
   rw [preSum,ih (by omega),e,List.sum_append]
   simp
 have:=key is.length (Nat.le_refl _)
 rwa [List.take_length]at this
noncomputable def rListD:List V→Hp→VK→Prop:=fun xs H Q=>∃a kvs,xs=[.ref a]∧H a=some (.dK kvs)∧∀l,H l=none→Q (.ref l) (upd H l (.lst (kvs.map fun p=>kV p.1)))
noncomputable def rValues:V→List V→Hp→VK→Prop:=fun x vs H Q=>∃a kvs,x= .ref a∧vs=[]∧H a=some (.dK kvs)∧∀v,H v=none→Q (.ref v) (upd H v (viewO v a))
noncomputable def rSumV:List V→Hp→VK→Prop:=fun xs H Q=>∃(v d:Addr) (kvs:List (Key×V)) (is:List Int),xs=[.ref v]∧H v=some (viewO v d)∧H d=some (.dK kvs)∧kvs.map (·.2)=is.map V.int∧Q (.int is.sum) H
noncomputable def rRemove:V→List V→Hp→VK→Prop:=fun x vs H Q=>∃(l:Addr) (ys:List Str) (z:Str),x= .ref l∧vs=[.str z]∧H l=some (.lst (ys.map V.str))∧z∈ys∧Q .non (upd H l (.lst ((ys.erase z).map V.str)))
section
variable {X:Cx}
theorem call_listD(hc:X.calm=true):CallR X (.type "list") rListD:=by
 intro pins s σ H xs us Q I r h
 obtain ⟨a,kvs,rfl,ha,q⟩:=h
 obtain ⟨u,rfl,rx⟩:=vals1 r
 cases rx
 obtain ⟨z,lo,ws,rel,ob,es,ep,e1,e2⟩:=I.hok a _ ha
 have dat:s.heap.DictAt (mixKind X.prog X.w) a ws ep:=⟨ob,es,e1,e2⟩
 refine PySem.W.kdl_call (PySem.W.kdl_dict (knd:=mixKind X.prog X.w) (kvs:=ws) (ep:=ep) lo) (I.ok.hd hc) dat (by rw [← rel.length];exact z) fun h' tk acc c' kp e hi=>?_
 have hv:Vals (kvs.map fun p=>kV p.1) acc.toList:=by
  have h1:=hi.1
  have h2:=rel.length
  refine vals_at (by rw [List.length_map];exact h2.trans (h1.symm.trans (Array.length_toList (xs:=acc)).symm)) fun j u ej=>?_
  obtain ⟨k,x,ek,hk⟩:=hi.2 j u (by rw [← Array.getElem?_toList];exact ej)
  obtain ⟨p,ep',hp⟩:=paired_get rel ek
  exact ⟨kV p.1,by rw [List.getElem?_map,ep'];rfl,by rw [hp.1];exact kV_of hk⟩
 refine ⟨.ref s.heap.objs.size,_,I.laid (t':=tk) kp (Nat.le_refl _) (show ObjOk X.prog X.w _ h' _ (.lst (kvs.map fun p=>kV p.1)) from ⟨by rw [List.length_map];exact z,acc.toList,c',hv,?_⟩),rfl,q _ I.fresh⟩
 rw [Array.toArray_toList];exact e
theorem mt_values:MtM X "dict.values" rValues:=by
 intro pins s σ H x vs v us Q I rx rv h
 obtain ⟨a,kvs,rfl,rfl,ha,q⟩:=h
 cases rx
 have hus:=rv.zero
 subst hus
 obtain ⟨z,lo,ws,rel,dd⟩:=I.hok a _ ha
 refine call_meetsIn PySem.F.slot_dict_values dd.typeIs PySem.F.entry_dict_values (PySem.F.args_dict_values_1 _) (meets_dict_values (mixKind X.prog X.w) a lo) ⟨⟨ws,dd⟩,?_⟩
 refine ⟨.ref s.heap.objs.size,_,I.laid (t':=s.toks) (fun b o e=>Heap.get?_push_of_some _ e) (Nat.le_refl _) (show ObjOk X.prog X.w _ _ _ (viewO s.heap.objs.size a) from ⟨⟨_,Heap.get?_push_size _ rfl,rfl,rfl⟩,⟨_,Heap.get?_push_size _ rfl⟩,fun h1 h2 ⟨o,e1,e2⟩ k=>⟨o,k _ e1,e2⟩⟩),rfl,q _ I.fresh⟩
theorem call_sumV(hc:X.calm=true):CallR X (.builtin "sum") rSumV:=by
 intro pins s σ H xs us Q I r h
 obtain ⟨v,d,kvs,is,rfl,hv,hd,hm,q⟩:=h
 obtain ⟨u,rfl,rx⟩:=vals1 r
 cases rx
 obtain ⟨z,lo,ws,rel,ob,es,ep,e1,e2⟩:=I.hok d _ hd
 have dat:s.heap.DictAt (mixKind X.prog X.w) d ws ep:=⟨ob,es,e1,e2⟩
 have hvw:s.heap.IsValuesView v d:=(I.hok v _ hv).1
 have src:=PySem.W.kdl_values (prog:=X.prog) (w:=X.w) (r:=v) (d:=d) (knd:=mixKind X.prog X.w) (kvs:=ws) (ep:=ep)
 have hlen:ws.length=is.length:=by
  have:=congrArg List.length hm
  simp only [List.length_map]at this
  rw [← rel.length];exact this
 refine call_sum_walkAnyS ?_
 obtain ⟨oI,St,hit,W,st⟩:=src.iter X.A.in1 s (I.ok.hd hc) ⟨hvw,dat⟩
 refine hit _ _ ⟨s.heap.objs.size,_,_,_,_,_,_,fun i=>is.getD i 0,rfl,W.toS,st,fun b hb=>?_,fun i u hp=>?_,fun s' t' hmv=>?_⟩
 · show b < (s.heap.push oI).objs.size
   rw [size_push']
   rcases List.mem_cons.mp hb with e | hb
   · rw [e];exact Nat.lt_succ_self _
   · rw [List.mem_singleton.mp hb];exact Nat.lt_succ_of_lt (Heap.lt_size e1)
 · obtain ⟨k,ek⟩:=hp
   obtain ⟨p,ep',hp'⟩:=paired_get rel ek
   have e3:(kvs.map (·.2))[i]?=some p.2:=by rw [List.getElem?_map,ep'];rfl
   rw [hm,List.getElem?_map]at e3
   cases hi:is[i]? with
   | none=>rw [hi]at e3;cases e3
   | some n=>
    rw [hi]at e3
    have e4:V.int n=p.2:=Option.some.inj e3
    have r2:=hp'.2
    rw [← e4]at r2
    show ∃t,u=Value.int (is.getD i 0) t
    rw [List.getD_eq_getElem?_getD,hi]
    exact r2
 · have hk:∀b o,s.heap.get? b=some o→s'.heap.get? b=some o:=fun b o e=>
    hmv.heap b o (fun hI=>absurd (Heap.lt_size e) (by rw [List.mem_singleton.mp hI];exact Nat.lt_irrefl _)) (Heap.get?_push_of_some _ e)
   rw [Moved.eq_with hmv]
   refine ⟨.int is.sum,H,I.kept (t':=s'.toks) hk,⟨t',?_⟩,q⟩
   rw [hlen,preSum_eq]
theorem mt_remove:MtM X "list.remove" rRemove:=by
 intro pins s σ H x vs v us Q I rx rv h
 obtain ⟨l,ys,z,rfl,rfl,hH,hz,q⟩:=h
 cases rx
 obtain ⟨u,rfl,ru⟩:=rv.one
 obtain ⟨t,rfl⟩:=ru
 obtain ⟨hs,its,n,r,hl,e⟩:=I.lstM hH
 have hj:ys.idxOf z < ys.length:=List.idxOf_lt_length_iff.mpr hz
 have at_:∀(m:Nat) (u:Value),its[m]?=some u→∃y t,ys[m]?=some y∧u= .str y t:=fun m u em=>by
  obtain ⟨x,ex,rx⟩:=vals_get r em
  rw [List.getElem?_map]at ex
  cases hy:ys[m]? with
  | none=>rw [hy]at ex;cases ex
  | some y=>
   rw [hy]at ex
   cases ex
   obtain ⟨t,e⟩:=rx
   exact ⟨y,t,rfl,e⟩
 have ev:∀y,y∈its.toArray→MeetsSeq.EqGives y (.str z t) (PyProof.Rows.isStrOf z y):=fun y hy=>by
  obtain ⟨m,hm⟩:=List.mem_iff_getElem?.mp (by simpa using hy)
  obtain ⟨y',t',_,rfl⟩:=at_ m y hm
  exact eqGives_str y' z t' t
 have hit:∀(m:Nat) (hm:m < its.toArray.size),∃y t,ys[m]?=some y∧its.toArray[m]= .str y t:=fun m hm=>at_ m _ (by simp)
 refine call_meets F.slot_list_remove ⟨_,e,rfl⟩ F.entry_list_remove (F.args_list_remove_2 _ _) (MeetsSeq.list_remove l its.toArray n (.str z t) (isStrOf z) ev (ys.idxOf z) (by rw [List.size_toArray,← hl,List.length_map];exact hj) ?_ ?_ (by rw [List.size_toArray];omega)) ⟨e,?_⟩
 · obtain ⟨y,t',h1,h2⟩:=hit (ys.idxOf z) (by rw [List.size_toArray,← hl,List.length_map];exact hj)
   rw [h2]
   have e3:ys[ys.idxOf z]?=some z:=by rw [List.getElem?_eq_getElem hj,List.getElem_idxOf hj]
   rw [e3]at h1;cases h1
   simp [isStrOf]
 · intro m hm hlt
   obtain ⟨y,t',h1,h2⟩:=hit m hm
   rw [h2]
   have e3:(ys[m]'(by omega)==z)=false:=List.not_of_lt_findIdx hlt
   rw [List.getElem?_eq_getElem (by omega)]at h1
   cases h1
   exact e3
 · refine ⟨.non,_,I.lset (its':=its.eraseIdx (ys.idxOf z)) hH e ?_ (ys:=(ys.erase z).map V.str) ?_ ?_,rfl,q⟩
   · rw [List.eraseIdxIfInBounds_toArray]
   · have:=r.eraseIdx (ys.idxOf z)
     have e5:(ys.map V.str).eraseIdx (ys.idxOf z)=(ys.erase z).map V.str:=by
      rw [erase_map,erase_at]
     rw [e5]at this
     exact this
   · have:=List.length_erase_le (a:=z) (l:=ys)
     rw [List.length_map]at hs ⊢
     omega
noncomputable def rIsNB:R2:=fun x y H Q=>∃a b,x= .bl a∧y= .bl b∧Q (.bl (!(a==b))) H
end
section
variable {σ:St} {H:Hp} {Q:VK} {xs:List V} {x y:V}
theorem rd_dpop1{td ty:TE}:tDPop1 td ty σ H Q=td σ H fun x H1=>∃a,x= .ref a∧IsD H1 a∧ty σ H1 fun y H2=>∃kvs k v,H2 a=some (.dK kvs)∧y=kV k∧valV kvs k=some v∧Q v (upd H2 a (.dK (dropK kvs k))):=rfl
theorem rd_dget2{td ty tx:TE}:tDGet2 td ty tx σ H Q=td σ H fun x H1=>∃a,x= .ref a∧IsD H1 a∧ty σ H1 fun y H2=>tx σ H2 fun z H3=>∃o,DGet H3 a y o∧Q (o.getD z) H3:=rfl
theorem rd_listD:rListD xs H Q=∃a kvs,xs=[.ref a]∧H a=some (.dK kvs)∧∀l,H l=none→Q (.ref l) (upd H l (.lst (kvs.map fun p=>kV p.1))):=rfl
theorem rd_values:rValues x xs H Q=∃a kvs,x= .ref a∧xs=[]∧H a=some (.dK kvs)∧∀v,H v=none→Q (.ref v) (upd H v (viewO v a)):=rfl
theorem rd_sumV:rSumV xs H Q=∃(v d:Addr) (kvs:List (Key×V)) (is:List Int),xs=[.ref v]∧H v=some (viewO v d)∧H d=some (.dK kvs)∧kvs.map (·.2)=is.map V.int∧Q (.int is.sum) H:=rfl
theorem rd_remove:rRemove x xs H Q=∃(l:Addr) (ys:List Str) (z:Str),x= .ref l∧xs=[.str z]∧H l=some (.lst (ys.map V.str))∧z∈ys∧Q .non (upd H l (.lst ((ys.erase z).map V.str))):=rfl
theorem rd_isnB:rIsNB x y H Q=∃a b,x= .bl a∧y= .bl b∧Q (.bl (!(a==b))) H:=rfl
end
end L2
namespace N4
open L2 N1 N5
noncomputable def sp_checkG(K:PySem.W.Frag):Sp:=fun vs H Q _=>∃(n co r:V) (e:Addr) (kvs:List (Key×V)) (ks:List Str),vs=[n,co,r,.ref e]∧H e=some (.dK kvs)∧kvs.map (·.1)=ks.map Sum.inr∧rowR ks n co r=none∧∀H',Same H H'→Q .non H'
noncomputable def sp_initG(K:PySem.W.Frag)(C:Addr):Sp:=fun vs H Q _=>∃(p dx ra:Addr) (rs:List Rw),vs=[.ref p,.ref ra]∧H p=some (.ins C dx [])∧SqL K H ra (rs.map fun t=>V.ref t.1)∧(∀t∈rs,SqT K H t.1 [t.2.1,t.2.2.1,t.2.2.2])∧initR rs=none∧
 ∀H',SameBut p H H'→StockAt K C H' p (rs.map thOf)→Q .non H'
theorem initR_none{rs:List Rw}(h:initR rs=none):rs.length≤60∧stockR [] rs=none:=by
 unfold initR at h
 split at h
 · cases h
 · exact ⟨by omega,h⟩
theorem wIn_ok{lo hi c:Int}(h1:lo≤c)(h2:c≤hi):wIn lo hi (.int c)=true:=by
 show (decide (lo≤c) && decide (c≤hi))=true
 rw [decide_eq_true h1,decide_eq_true h2];rfl
theorem stockR_ok:∀(rs:List Rw) (ks:List Str),(∀t∈rs,∃z c q,t.2.1= .str z∧t.2.2.1= .int c∧t.2.2.2= .int q∧nameB z.cps.toList=true∧0≤c∧c≤10 ^ 30∧1≤q∧q≤1000)→(ks++rs.map fun t=>sOf t.2.1).Nodup→stockR ks rs=none
 | [],_,_,_=>rfl
 | t::rs,ks,h,nd=>by
  obtain ⟨z,c,q,e1,e2,e3,hn,h1,h2,h3,h4⟩:=h t (List.mem_cons_self ..)
  have hz:¬z∈ks:=fun hz=>by
   rw [List.map_cons,List.nodup_append]at nd
   exact nd.2.2 z hz (sOf t.2.1) (List.mem_cons_self ..) (by rw [e1];rfl)
  have r0:rowR ks t.2.1 t.2.2.1 t.2.2.2=none:=by
   unfold rowR
   rw [e1,e2,e3]
   rw [if_neg (by show ¬nameB z.cps.toList=false;rw [hn];decide),if_neg (show ¬sOf (.str z)∈ks from hz),if_neg (by rw [wIn_ok h1 h2];decide),if_neg (by rw [wIn_ok h3 h4];decide)]
  unfold stockR
  rw [r0]
  refine stockR_ok rs _ (fun t' ht=>h t' (List.mem_cons_of_mem _ ht)) ?_
  rw [List.append_assoc]
  exact nd
theorem valV_nth{kvs:List (Key×V)}{i:Nat}{k:Key}{v:V}(nd:(kvs.map (·.1)).Nodup)(e:kvs[i]?=some (k,v)):valV kvs k=some v:=by
 induction kvs generalizing i with
 | nil=>rw [List.getElem?_nil]at e;cases e
 | cons p r ih=>
  cases i with
  | zero=>cases e;exact valV_pos rfl
  | succ i=>
   rw [List.map_cons,List.nodup_cons]at nd
   have hm:(k,v)∈r:=List.mem_of_getElem? e
   rw [valV_neg (fun z=>nd.1 (by rw [z];exact List.mem_map_of_mem (f:=(·.1)) hm))]
   exact ih nd.2 e
theorem inr_nodup{ks:List Str}(h:ks.Nodup):(ks.map (Sum.inr:Str→Key)).Nodup:=by
 unfold List.Nodup at *
 rw [List.pairwise_map]
 exact h.imp fun n e=>n (by injection e)
section
variable {K:PySem.W.Frag} {C:Addr} {H H':Hp} {p:Addr} {ts:List Th} {z:Str}
theorem StockAt.has(h:StockAt K C H p ts):∃dx d kvs,H p=some (.ins C dx (flds d))∧H d=some (.dK kvs)∧(kvs.map fun q=>kV q.1)=ts.map (fun t=>V.str t.1)∧(∀z,(valV kvs (Sum.inr z)).isSome=decide (z∈ts.map (·.1)))∧
 ((ts.map (·.1)).Nodup→∀(i:Nat) (t:Th),ts[i]?=some t→∃a,valV kvs (Sum.inr t.1)=some (.ref a)∧SqT K H a [.int i,.int t.2.1,.int t.2.2]):=by
 obtain ⟨dx,d,kvs,h1,h2,h3,h4⟩:=h.ex
 have h3':kvs.map (·.1)=(ts.map (·.1)).map Sum.inr:=by rw [h3,List.map_map];rfl
 refine ⟨dx,d,kvs,h1,h2,?_,fun z=>key_mem h3',fun nd i t e=>?_⟩
 · have:=congrArg (List.map kV) h3
   rw [List.map_map,List.map_map]at this
   exact this
 · obtain ⟨a,e1,e2⟩:=h4 i t e
   exact ⟨a,valV_nth (by rw [h3'];exact inr_nodup nd) e1,e2⟩
end
noncomputable def pick(w:Nat)(i:Nat)(t:Th):Int:=if w=0 then i else if w=1 then t.2.1 else t.2.2
noncomputable def sp_has(K:PySem.W.Frag)(C:Addr):Sp:=fun vs H Q _=>∃(p:Addr) (ts:List Th) (z:Str),vs=[.ref p,.str z]∧StockAt K C H p ts∧Q (.bl (decide (z∈ts.map (·.1)))) H
noncomputable def sp_nms(K:PySem.W.Frag)(C:Addr):Sp:=fun vs H Q _=>∃(p:Addr) (ts:List Th),vs=[.ref p]∧StockAt K C H p ts∧∀l,H l=none→Q (.ref l) (upd H l (.lst ((ts.map (·.1)).map V.str)))
theorem mem_nth{ts:List Th}{z:Str}(h:z∈ts.map (·.1)):∃(i:Nat) (t:Th),ts[i]?=some t∧t.1=z:=by
 obtain ⟨t,ht,e⟩:=List.mem_map.mp h
 obtain ⟨i,hi⟩:=List.mem_iff_getElem?.mp ht
 exact ⟨i,t,hi,e⟩
end N4
namespace N4
open L2 N1 N5
noncomputable def nm1(c:Int)(G:Nat→Int)(k:Nat):List Nat:=bc ((c+k / 8) % 26)::((List.range 7).map fun j=>bc (G j % 36)).take (k % 8)
theorem nm1_name{c:Int}{G:Nat→Int}{k:Nat}:nameB (nm1 c G k)=true:=by
 have hall:∀x∈nm1 c G k,x∈letters++figures:=by
  intro x hx
  rcases List.mem_cons.mp hx with rfl | hx
  · exact List.mem_append_left _ bc_let
  · obtain ⟨j,_,rfl⟩:=List.mem_map.mp (List.mem_of_mem_take hx)
    exact bc_both
 have hl:(nm1 c G k).length≤8:=by simp [nm1];omega
 have hl1:1≤(nm1 c G k).length:=by simp [nm1]
 unfold nameB
 rw [decide_eq_true hl1,decide_eq_true hl]
 simp only [Bool.true_and]
 rw [show headIn (nm1 c G k) letters=true from decide_eq_true bc_let,Bool.true_and]
 exact List.all_eq_true.mpr fun x hx=>decide_eq_true (hall x hx)
theorem nm1_inj{c:Int}{G:Nat→Int}{k k':Nat}(hk:k < 61)(hk':k' < 61)(h:nm1 c G k=nm1 c G k'):k=k':=by
 unfold nm1 at h
 injection h with h1 h2
 have e1:=bc_inj (by omega) (by omega) (by omega) (by omega) h1
 have e2:=congrArg List.length h2
 simp only [List.length_take,List.length_map,List.length_range]at e2
 omega
theorem tx_nodup{f:Nat→List Nat}{m:Nat}(h:∀a b,a < m→b < m→f a=f b→a=b):((List.range m).map fun k=>tx (f k)).Nodup:=by
 unfold List.Nodup
 rw [List.pairwise_map]
 refine List.Pairwise.imp_of_mem (R:=fun a b=>a≠b) ?_ List.nodup_range
 intro a b ha hb ne e
 exact ne (h a b (List.mem_range.mp ha) (List.mem_range.mp hb) (T_inj e))
structure RowsAt(K:PySem.W.Frag)(H:Hp)(r:Addr)(as:List Addr)(ts:List Th):Prop where
 l:SqL K H r (as.map V.ref)
 n:as.length=ts.length
 m:ts.length≤60
 at_:∀(i:Nat) (a:Addr) (t:Th),as[i]?=some a→ts[i]?=some t→SqT K H a [.str t.1,.int t.2.1,.int t.2.2]
 ok:∀t∈ts,nameB t.1.cps.toList=true∧0≤t.2.1∧t.2.1≤10 ^ 30∧1≤t.2.2∧t.2.2≤1000
 nd:(ts.map (·.1)).Nodup
theorem slice_to{l:List Nat}{n:Int}(h0:0≤n)(h1:n≤l.length):Txt.slice (tx l) none (some n)=tx (l.take n.toNat):=by
 have h:=slice_closes_toL (x:=tx l) h0 (by rw [T_len];exact h1)
 rw [beq_iff_eq.mp h,T_list]
 show tx _=tx _
 rw [show (0:Int).toNat=0 from rfl,List.drop_zero,Int.sub_zero]
noncomputable def rwOf(a:Addr)(t:Th):Rw:=(a,.str t.1,.int t.2.1,.int t.2.2)
theorem RowsAt.init{K:PySem.W.Frag}{H:Hp}{r:Addr}{as:List Addr}{ts:List Th}(h:RowsAt K H r as ts):∃rs:List Rw,rs.map (fun t=>V.ref t.1)=as.map V.ref∧(∀t∈rs,SqT K H t.1 [t.2.1,t.2.2.1,t.2.2.2])∧initR rs=none∧rs.map thOf=ts:=by
 have hn:=h.n
 have gt:∀(i:Nat) (x:Addr×Th),(as.zip ts)[i]?=some x→as[i]?=some x.1∧ts[i]?=some x.2:=fun i x e=>by
  rw [List.getElem?_zip_eq_some]at e;exact e
 have e1:((as.zip ts).map fun x=>rwOf x.1 x.2).map thOf=ts:=by
  rw [List.map_map]
  have:(thOf∘fun x:Addr×Th=>rwOf x.1 x.2)=Prod.snd:=by funext x;rfl
  rw [this,List.map_snd_zip (by omega)]
 refine ⟨(as.zip ts).map fun x=>rwOf x.1 x.2,?_,?_,?_,e1⟩
 · rw [List.map_map]
   have:((fun t:Rw=>V.ref t.1)∘fun x:Addr×Th=>rwOf x.1 x.2)=V.ref∘Prod.fst:=by funext x;rfl
   rw [this,← List.map_map,List.map_fst_zip (by omega)]
 · intro t ht
   obtain ⟨x,hx,rfl⟩:=List.mem_map.mp ht
   obtain ⟨i,hi⟩:=List.mem_iff_getElem?.mp hx
   obtain ⟨h1,h2⟩:=gt i x hi
   exact h.at_ i x.1 x.2 h1 h2
 · unfold initR
   rw [if_neg (by rw [List.length_map,List.length_zip];have:=h.m;omega)]
   refine stockR_ok _ _ (fun t ht=>?_) ?_
   · obtain ⟨x,hx,rfl⟩:=List.mem_map.mp ht
     obtain ⟨i,hi⟩:=List.mem_iff_getElem?.mp hx
     obtain ⟨h1,h2⟩:=gt i x hi
     obtain ⟨o1,o2,o3,o4,o5⟩:=h.ok x.2 (List.mem_of_getElem? h2)
     exact ⟨x.2.1,x.2.2.1,x.2.2.2,rfl,rfl,rfl,o1,o2,o3,o4,o5⟩
   · rw [List.nil_append,List.map_map]
     have:((fun t:Rw=>sOf t.2.1)∘fun x:Addr×Th=>rwOf x.1 x.2)=(fun t:Th=>t.1)∘Prod.snd:=by funext x;rfl
     rw [this,← List.map_map,List.map_snd_zip (by omega)]
     exact h.nd
end N4
namespace L2
open PySem.W
noncomputable def rSumL(K:PySem.W.Frag):List V→Hp→VK→Prop:=fun xs H Q=>∃(p:Addr) (is:List Int),xs=[.ref p]∧SqL K H p (is.map V.int)∧Q (.int is.sum) H
theorem preSum_is(is:List Int):preSum (fun i=>is.getD i 0) is.length=is.sum:=by
 have key:∀n,n≤is.length→preSum (fun i=>is.getD i 0) n=(is.take n).sum:=by
  intro n
  induction n with
  | zero=>intro _;rfl
  | succ n ih=>
   intro h
   have e:is.take (n+1)=is.take n++[is.getD n 0]:=by
    rw [List.take_add_one,List.getD_eq_getElem?_getD,List.getElem?_eq_getElem (by omega)]
    rfl
   rw [preSum,ih (by omega),e,List.sum_append]
   simp
 have:=key is.length (Nat.le_refl _)
 rwa [List.take_length]at this
section
variable {X:Cx}
theorem call_sumL(hc:X.calm=true):CallR X (.builtin "sum") (rSumL X.K):=by
 intro pins s σ H xs us Q I r h
 obtain ⟨p,is,rfl,hp,q⟩:=h
 obtain ⟨u,rfl,ru⟩:=vals1 r
 cases ru
 obtain ⟨its,r,pl,hz⟩:=I.list hp
 have hlt:p < s.heap.objs.size:=by obtain ⟨o,n,e,_⟩:=pl;exact Heap.lt_size e
 have hlen:=r.length
 rw [List.length_map]at hlen
 refine call_sum_walkAnyS (wpAny_pyIter_list pl.isList ⟨s.heap.objs.size,_,_,_,_,_,_,fun i=>is.getD i 0,rfl,(Walks.list (show X.A.in1.handled=none from I.ok.hd hc) s.heap.objs.size p (Nat.ne_of_lt hlt) its.toArray).toS,⟨⟨_,Heap.get?_push_size _ rfl,rfl,rfl⟩,pl.isList.push _⟩,fun b hb=>?_,fun i v hP=>?_,fun s' t' hmv=>?_⟩)
 · show b < (s.heap.push _).objs.size
   rw [Heap.size_push]
   rcases List.mem_cons.mp hb with e | hb
   · rw [e];exact Nat.lt_succ_self _
   · rw [List.mem_singleton.mp hb];exact Nat.lt_succ_of_lt hlt
 · have hP:its.toArray[i]?=some v:=hP
   have hi:i < is.length:=by
    have:=(Array.getElem?_eq_some_iff.mp hP).1
    rw [List.size_toArray]at this
    omega
   obtain ⟨u,hu,ru⟩:=r.get (i:=i) (x:=V.int (is[i])) (by simp [hi])
   have e:u=v:=by
    have:its[i]?=some v:=by simpa using hP
    rw [hu]at this;exact Option.some.inj this
   subst e
   show ∃t,u=Value.int (is.getD i 0) t
   rw [List.getD_eq_getElem?_getD,List.getElem?_eq_getElem hi]
   exact ru
 · have hk:∀b o,s.heap.get? b=some o→s'.heap.get? b=some o:=fun b o e=>
    hmv.heap b o (fun hI=>absurd (Heap.lt_size e) (by rw [List.mem_singleton.mp hI];exact Nat.lt_irrefl _)) (Heap.get?_push_of_some _ e)
   rw [Moved.eq_with hmv]
   refine ⟨.int is.sum,H,I.kept (t':=s'.toks) hk,⟨t',?_⟩,q⟩
   rw [List.size_toArray,← hlen,preSum_is]
end
section
variable {σ:St} {H:Hp} {Q:VK} {D:Ends} {K:PySem.W.Frag} {xs:List V} {x y:V}
theorem rd_sumL:rSumL K xs H Q=∃(p:Addr) (is:List Int),xs=[.ref p]∧SqL K H p (is.map V.int)∧Q (.int is.sum) H:=rfl
theorem rd_ipI{f:Int→Int→Int}:ipI f x y H Q=∃i j,x= .int i∧y= .int j∧Q (.int (f i j)) H:=rfl
end
end L2
namespace N31
open L2 N1 N5
end N31
namespace L2
theorem Inv.turned2{X:Cx}{pins:List (Addr×Obj)}{σ:St}{H:Hp}{s:Shared}{h':Heap}{t':Nat}{fp:List Addr}(I:Inv X pins σ H s)(k:∀b o,b∉fp→s.heap.get? b=some o→h'.get? b=some o)(hf:∀it∈fp,FpOk X pins H it):
 Inv X pins σ H {s with heap:=h',toks:=t'}:=by
 have nit:∀b u,H b=some u→b∉fp:=fun b u e z=>by rw [(hf b z).1]at e;cases e
 refine I.step (g':=s.gens) (d':=s.drawn) (ch:=fp) (fun b hb=>?_) (fun b o _ _ hc e _=>k b o hc e) (fun b o _ _ hc e _=>⟨o.slots,k b o hc e⟩) (fun _ _ _ _ n=>n)
  (fun b o hc e=>⟨o,k b o hc e⟩) (fun _ _ e=>e) (fun _ _ _ e=>e) (fun b ps e=>⟨#[],by rw [e];simp⟩) (fun m hm=>?_) (fun b u e=>?_) I.bare
 · obtain ⟨_,h1,_,h2,h3,h4⟩:=hf b hb
   exact ⟨h2,h1,h3,h4⟩
 · obtain ⟨o,es,ep,ho,r⟩:=hm
   exact ⟨o,es,ep,k _ o (fun z=>(hf _ z).2.1 rfl) ho,r⟩
 · refine (I.hok b u e).stay (fun c v hc q=>k c v ?_ q) (fun _ q=>q) fun _ _ q=>q
   rcases hc with z | z
   · rw [z];exact nit b u e
   · exact nit c _ z
noncomputable def Ite(K:PySem.W.Frag)(a:Addr):It:=
 ⟨fun i H=>∃xs x,SqL K H a xs∧xs[i]?=some x,fun i H y H'=>∃t x,y= .ref t∧H t=none∧H'=upd H t (.tup [.int i,x])∧∀xs,SqL K H a xs→xs[i]?=some x,fun i H=>∃xs,SqL K H a xs∧xs.length≤i⟩
noncomputable def tnE(e it a:Addr)(i:Nat)(h:Heap):Prop:=(∃old,IsEnum h e it i old)∧h.IsListIter it a i
theorem turn_enum{P:Program}{w:World}{K:PySem.W.Frag}{es:List Expr}{k:Nat}{pos:Pos}(a e it:Addr)(ne:e≠it):Turn P w K (.Tuple es k pos) (Ite K a) [e,it] e (tnE e it a) where
 mem:=by simp
 obj:=fun i h st b hb=>by
  obtain ⟨⟨old,h1⟩,o,h2,c,d⟩:=st
  have hb:b=e∨b=it:=by simpa using hb
  rcases hb with rfl | rfl
  · exact ⟨_,h1,fun v z=>by cases z⟩
  · exact ⟨o,h2,fun v z=>by rw [d]at z;cases z⟩
 keep:=fun i h h' st kk=>by
  obtain ⟨⟨old,h1⟩,h2⟩:=st
  exact ⟨⟨old,kk e (by simp) _ h1⟩,h2.at fun o q=>kk it (by simp) o q⟩
 item:=by
  intro X hP hw hK hc i pins s σ H E I hf st hg
  subst hP hw hK
  obtain ⟨xs,x,hq,hx⟩:=hg
  obtain ⟨its,rv,p,hz⟩:=I.list hq
  obtain ⟨u,hu,ru⟩:=rv.get hx
  obtain ⟨⟨old,h1⟩,h2⟩:=st
  have hlt:e < s.heap.objs.size:=Heap.lt_size h1
  have hit:it < s.heap.objs.size:=by obtain ⟨o,q,_⟩:=id h2;exact Heap.lt_size q
  refine wpAny_pyNext_enum_item h1 h2 p.isList (x:=u) (by simpa using hu) ne fun h' eo it' ht hs hk=>?_
  refine ⟨_,rfl,wpAny_letOwnedTupleGo_enum (s:={s with heap:=h',toks:=s.toks+1}) eo fun h3 e3 sb=>?_⟩
  have hf0:H s.heap.objs.size=none:=I.hok.fresh (Nat.le_refl _)
  have nt:∀b∈[e,it],b≠s.heap.objs.size:=fun b hb=>by
   have hb:b=e∨b=it:=by simpa using hb
   rcases hb with rfl | rfl
   · exact Nat.ne_of_lt hlt
   · exact Nat.ne_of_lt hit
  have I0:Inv X pins σ (upd H s.heap.objs.size (.tup [.int i,x])) {s with heap:=s.heap.push {cls:= .type "tuple",data:= .seq #[.int i s.toks,u]},toks:=s.toks+1}:=
   I.laid (fun b u e=>Heap.get?_push_of_some _ e) (Nat.le_refl _) ⟨by simp [sizeLine];try decide,[.int i s.toks,u],.cons ⟨_,rfl⟩ (.cons ru .nil),⟨_,Heap.get?_push_size _ rfl,rfl,_,rfl⟩⟩
  have hfp:∀b∈[e,it],FpOk X pins (upd H s.heap.objs.size (.tup [.int i,x])) b:=fun b hb=>by
   obtain ⟨f0,f1,f2,f3,f4,f5⟩:=hf b hb
   exact ⟨by rw [upd_ne (nt b hb)];exact f0,f1,f2,f3,f4,f5⟩
  have I1:Inv X pins σ (upd H s.heap.objs.size (.tup [.int i,x])) {s with heap:=h3,toks:=s.toks+1}:=by
   refine Inv.turned2 (s:={s with heap:=s.heap.push {cls:= .type "tuple",data:= .seq #[.int i s.toks,u]},toks:=s.toks+1}) (t':=s.toks+1) I0 (fun b o hb q=>?_) hfp
   have hb':b≠e∧b≠it:=by simpa using hb
   refine (sb.2 b hb'.1).trans ?_
   rcases Heap.get?_push_cases q with ⟨rfl,rfl⟩ | q2
   · exact ht
   · exact hk b o hb'.1 hb'.2 q2
  refine ⟨.ref s.heap.objs.size,upd H s.heap.objs.size (.tup [.int i,x]),I1,rfl,⟨_,x,rfl,hf0,rfl,fun ys hy=>by rw [I.list_inj hy hq];exact hx⟩,⟨⟨u,?_⟩,?_⟩,fun b hb=>(hfp b hb).1⟩
  · show IsEnum h3 e it ((i+1:Nat):Int) u
    rw [show ((i+1:Nat):Int)=(i:Int)+1 from rfl]
    exact e3
  · exact it'.at fun o q=>(sb.2 it (Ne.symm ne)).trans q
 done:=by
   intro X hP hw hK hc i pins s σ H E I hf st hg
   subst hP hw hK
   obtain ⟨xs,hq,hx⟩:=hg
   obtain ⟨its,rv,p,hz⟩:=I.list hq
   obtain ⟨⟨old,h1⟩,h2⟩:=st
   have hl:=rv.length
   exact wpAny_pyNext_enum_end (I.ok.hd hc) h1 h2 p.isList (by simp;omega) fun h' eb=>⟨rfl,Inv.turned2 (t':=s.toks) I (fun b o hb q=>eb b o (fun z=>hb (by simp [z])) q) hf⟩
 self:=fun _ _ _ _ _ st h=>wpAny_pyIter_enum st.1.choose_spec h
section
variable {X:Cx}
noncomputable def iEnum(K:PySem.W.Frag)(ta:TA):TI:=fun σ H R=>ta σ H fun vs H1=>∃a,vs=[.ref a]∧(∃xs,SqL K H1 a xs)∧R (Ite K a) H1
theorem pi_enum{l:Expr}{ta:TA}{p pos pp:Pos}{es:List Expr}{k:Nat}(hg:Gl X "enumerate")(hm:X.mg "enumerate"=none)(ha:PA X [l] ta)(hs:starEach [l] X.env=[(false,eval l X.env)]:=by rfl):PI X (.Tuple es k pp) (.Call (.Name "enumerate" p) [l] [] pos) (iEnum X.K ta):=by
 intro pins s σ H R I h
 refine Call_ (ld_blt I hg hm boot_enumerate (PyProof.Rows.callWith_type1 (thn (ha pos pins s σ H _ I h) fun us s1 hq_=>?_) hs rfl))
 obtain ⟨vs,H1,I1,r1,q1⟩:=hq_
 obtain ⟨a,e,⟨xs,hq⟩,q⟩:=q1
 subst e
 cases r1 with
 | cons r rr=>
  cases rr
  cases r
  obtain ⟨its,rv,p',hz⟩:=I1.list hq
  refine call_enumerate_list p'.isList fun h' h1 h2 h3 h4=>?_
  refine wpAny_pyIter_enum h1 ?_
  refine ⟨_,[s1.heap.objs.size+1,s1.heap.objs.size],_,_,H1,rfl,I1.kept (t':=s1.toks) h4,turn_enum a _ _ (Nat.succ_ne_self _),⟨⟨_,h1⟩,h2⟩,fun b hb=>?_,q⟩
  have hb:b=s1.heap.objs.size+1∨b=s1.heap.objs.size:=by simpa using hb
  rcases hb with rfl | rfl
  · exact I1.fpOk (Nat.le_succ _) (I1.hok.fresh (Nat.le_succ _))
  · exact I1.fpOk (Nat.le_refl _) (I1.hok.fresh (Nat.le_refl _))
end
section
variable {K:PySem.W.Frag} {σ:St} {H:Hp} {D:Ends}
theorem rd_ienum{ta:TA}{R:It→Hp→Prop}:iEnum K ta σ H R=ta σ H fun vs H1=>∃a,vs=[.ref a]∧(∃xs,SqL K H1 a xs)∧R (Ite K a) H1:=rfl
theorem forE_by{a:Addr}{xs:List V}{g:TG}{tb:TS}(Pv:Nat→St→Hp→Prop)(h0:Pv 0 σ H)(hl:∀i σ H,i≤xs.length→Pv i σ H→SqL K H a xs)
 (hs:∀i x σ H t,xs[i]?=some x→Pv i σ H→H t=none→g (.ref t) σ (upd H t (.tup [.int i,x])) fun σ2 H2=>tb {D with nx:=Pv (i+1),ct:=Pv (i+1),bk:=D.nx} σ2 H2) (hd:∀σ H,Pv xs.length σ H→D.nx σ H):ForTail g tb D σ (Ite K a) H:=by
 refine ⟨fun i m σ H=>i≤xs.length∧m=xs.length - i∧Pv i σ H,⟨_,Nat.zero_le _,rfl,h0⟩,fun i m σ H ⟨hi,hm,hP⟩=>?_⟩
 have hq:=hl i σ H hi hP
 cases hx:xs[i]? with
 | none=>
  have hn:xs.length≤i:=by simpa using hx
  have e:i=xs.length:=Nat.le_antisymm hi hn
  subst e
  exact .inl ⟨⟨xs,hq,Nat.le_refl _⟩,hd σ H hP⟩
 | some x=>
  have hlt:i < xs.length:=(List.getElem?_eq_some_iff.mp hx).1
  refine .inr ⟨⟨xs,x,hq,hx⟩,Pv (i+1),fun σ' H' h=>⟨xs.length - (i+1),by omega,by omega,rfl,h⟩,?_⟩
  rintro y H' ⟨t,x',rfl,ht,rfl,hy⟩
  have e:=(hy xs hq).symm.trans hx
  cases e
  exact hs i x σ H t hx hP ht
end
end L2
namespace L2
noncomputable def Itz(K:PySem.W.Frag)(a b:Addr):It:=
 ⟨fun i H=>∃xs ys x y,SqL K H a xs∧SqL K H b ys∧xs[i]?=some x∧ys[i]?=some y,fun i H v H'=>∃t x y,v= .ref t∧H t=none∧H'=upd H t (.tup [x,y])∧(∀xs,SqL K H a xs→xs[i]?=some x)∧∀ys,SqL K H b ys→ys[i]?=some y,
  fun i H=>∃xs ys,SqL K H a xs∧SqL K H b ys∧(xs.length≤i∨ys.length≤i)⟩
noncomputable def tnZ(z TI TO i1 i2 a b:Addr)(i:Nat)(h:Heap):Prop:=IsZip h z TI TO .none∧IsPair h TI (.ref i1) (.ref i2)∧(∃x y,IsPair h TO x y)∧h.IsListIter i1 a i∧h.IsListIter i2 b i
theorem turn_zip{P:Program}{w:World}{K:PySem.W.Frag}{es:List Expr}{k:Nat}{pos:Pos}(a b z TI TO i1 i2:Addr)(D:ZipApart z TI TO i1 i2 a b):Turn P w K (.Tuple es k pos) (Itz K a b) [z,TI,TO,i1,i2] z (tnZ z TI TO i1 i2 a b) where
 mem:=by simp
 obj:=fun i h st c hc=>by
  obtain ⟨h1,h2,⟨x,y,h3⟩,⟨o4,e4,c4,d4⟩,⟨o5,e5,c5,d5⟩⟩:=st
  have hc:c=z∨c=TI∨c=TO∨c=i1∨c=i2:=by simpa using hc
  rcases hc with rfl | rfl | rfl | rfl | rfl
  · exact ⟨_,h1,fun v z=>by cases z⟩
  · exact ⟨_,h2,fun v z=>by cases z⟩
  · exact ⟨_,h3,fun v z=>by cases z⟩
  · exact ⟨o4,e4,fun v z=>by rw [d4]at z;cases z⟩
  · exact ⟨o5,e5,fun v z=>by rw [d5]at z;cases z⟩
 keep:=fun i h h' st kk=>by
  obtain ⟨h1,h2,⟨x,y,h3⟩,h4,h5⟩:=st
  exact ⟨kk z (by simp) _ h1,kk TI (by simp) _ h2,⟨x,y,kk TO (by simp) _ h3⟩,h4.at fun o q=>kk i1 (by simp) o q,h5.at fun o q=>kk i2 (by simp) o q⟩
 item:=by
  intro X hP hw hK hc i pins s σ H E I hf st hg
  subst hP hw hK
  obtain ⟨xs,ys,x,y,hq,hq2,hx,hy⟩:=hg
  obtain ⟨its,rv,p,hz⟩:=I.list hq
  obtain ⟨jts,rv2,p2,hz2⟩:=I.list hq2
  obtain ⟨u,hu,ru⟩:=rv.get hx
  obtain ⟨v,hv,rw'⟩:=rv2.get hy
  obtain ⟨h1,h2,⟨x0,y0,h3⟩,h4,h5⟩:=st
  have lts:∀c∈[z,TI,TO,i1,i2],c < s.heap.objs.size:=fun c hc'=>by
   have hc':c=z∨c=TI∨c=TO∨c=i1∨c=i2:=by simpa using hc'
   rcases hc' with rfl | rfl | rfl | rfl | rfl
   · exact Heap.lt_size h1
   · exact Heap.lt_size h2
   · exact Heap.lt_size h3
   · obtain ⟨o,q,_⟩:=id h4;exact Heap.lt_size q
   · obtain ⟨o,q,_⟩:=id h5;exact Heap.lt_size q
  refine wpAny_pyNext_zip_item D h1 h2 h3 h4 h5 p.isList p2.isList (x:=u) (y:=v) (by simpa using hu) (by simpa using hv) fun h' e1 e3 e4 e5 ht hs hk=>?_
  refine ⟨_,rfl,wpAny_letOwnedTupleGo_zip (s:={s with heap:=h'}) e1 fun h6 e6 sb=>?_⟩
  have hf0:H s.heap.objs.size=none:=I.hok.fresh (Nat.le_refl _)
  have nt:∀c∈[z,TI,TO,i1,i2],c≠s.heap.objs.size:=fun c hc'=>Nat.ne_of_lt (lts c hc')
  have I0:Inv X pins σ (upd H s.heap.objs.size (.tup [x,y])) {s with heap:=s.heap.push {cls:= .type "tuple",data:= .seq #[u,v]}}:=
   I.laid (t':=s.toks) (fun b u e=>Heap.get?_push_of_some _ e) (Nat.le_refl _) ⟨by simp [sizeLine];try decide,[u,v],.cons ru (.cons rw' .nil),⟨_,Heap.get?_push_size _ rfl,rfl,_,rfl⟩⟩
  have hfp:∀c∈[z,TI,TO,i1,i2],FpOk X pins (upd H s.heap.objs.size (.tup [x,y])) c:=fun c hc'=>by
   obtain ⟨f0,f1,f2,f3,f4,f5⟩:=hf c hc'
   exact ⟨by rw [upd_ne (nt c hc')];exact f0,f1,f2,f3,f4,f5⟩
  have I1:Inv X pins σ (upd H s.heap.objs.size (.tup [x,y])) {s with heap:=h6}:=by
   refine Inv.turned2 (s:={s with heap:=s.heap.push {cls:= .type "tuple",data:= .seq #[u,v]}}) (t':=s.toks) I0 (fun c o hc' q=>?_) hfp
   have hb':c≠z∧c≠TI∧c≠TO∧c≠i1∧c≠i2:=by simpa using hc'
   refine (sb.2 c hb'.1).trans ?_
   rcases Heap.get?_push_cases q with ⟨rfl,rfl⟩ | q2
   · exact ht
   · exact hk c o hb'.1 hb'.2.2.1 hb'.2.2.2.1 hb'.2.2.2.2 q2
  refine ⟨.ref s.heap.objs.size,upd H s.heap.objs.size (.tup [x,y]),I1,rfl,⟨_,x,y,rfl,hf0,rfl,fun zs hy'=>by rw [I.list_inj hy' hq];exact hx,fun zs hy'=>by rw [I.list_inj hy' hq2];exact hy⟩,?_,fun c hc'=>(hfp c hc').1⟩
  have k6:∀c o,c≠z→h'.get? c=some o→h6.get? c=some o:=fun c o n q=>(sb.2 c n).trans q
  exact ⟨e6,k6 TI _ D.TIz (hk TI _ D.TIz D.TITO D.TIi1 D.TIi2 h2),⟨_,_,k6 TO _ D.TOz e3⟩,e4.at fun o q=>k6 i1 o D.i1z q,e5.at fun o q=>k6 i2 o D.i2z q⟩
 done:=by
   intro X hP hw hK hc i pins s σ H E I hf st hg
   subst hP hw hK
   obtain ⟨xs,ys,hq,hq2,hx⟩:=hg
   obtain ⟨its,rv,p,hz⟩:=I.list hq
   obtain ⟨jts,rv2,p2,hz2⟩:=I.list hq2
   obtain ⟨h1,h2,⟨x0,y0,h3⟩,h4,h5⟩:=st
   have hl:=rv.length
   have hl2:=rv2.length
   exact wpAny_pyNext_zip_end (I.ok.hd hc) D h1 h2 h3 h4 h5 p.isList p2.isList (hx.imp (fun h=>by simp;omega) fun h=>by simp;omega) fun h' eb=>⟨rfl,Inv.turned2 (t':=s.toks) I (fun c o hb q=>by
    have hb':c≠z∧c≠TI∧c≠TO∧c≠i1∧c≠i2:=by simpa using hb
    exact eb c o hb'.1 hb'.2.2.1 hb'.2.2.2.1 hb'.2.2.2.2 q) hf⟩
 self:=fun _ _ _ _ _ st h=>wpAny_pyIter_zip st.1 h
section
variable {X:Cx}
noncomputable def iZip(K:PySem.W.Frag)(ta:TA):TI:=fun σ H R=>ta σ H fun vs H1=>∃a b,vs=[.ref a,.ref b]∧(∃xs,SqL K H1 a xs)∧(∃ys,SqL K H1 b ys)∧R (Itz K a b) H1
theorem pi_zip{l r:Expr}{ta:TA}{p pos pp:Pos}{es:List Expr}{k:Nat}(hg:Gl X "zip")(hm:X.mg "zip"=none)(ha:PA X [l,r] ta)(hs:starEach [l,r] X.env=[(false,eval l X.env),(false,eval r X.env)]:=by rfl)(hs2:starEach [r] X.env=[(false,eval r X.env)]:=by rfl):
 PI X (.Tuple es k pp) (.Call (.Name "zip" p) [l,r] [] pos) (iZip X.K ta):=by
 intro pins s σ H R I h
 refine Call_ (ld_blt I hg hm boot_zip (PyProof.Rows.callWith_type1 (thn (ha pos pins s σ H _ I h) fun us s1 ⟨vs,H1,I1,r1,q1⟩=>?_) (by rw [hs,hs2]) (by rw [hs2];rfl)))
 obtain ⟨a,b,e,⟨xs,hq⟩,⟨ys,hq2⟩,q⟩:=q1
 subst e
 cases r1 with
 | cons r rr=>
  cases rr with
  | cons r' rr=>
   cases rr
   cases r
   cases r'
   obtain ⟨its,rv,p',hz⟩:=I1.list hq
   obtain ⟨jts,rv2,p2,hz2⟩:=I1.list hq2
   have la:a < s1.heap.objs.size:=by obtain ⟨o,e,_⟩:=p'.isList;exact Heap.lt_size e
   have lb:b < s1.heap.objs.size:=by obtain ⟨o,e,_⟩:=p2.isList;exact Heap.lt_size e
   refine call_zip_2 p'.isList p2.isList fun h' h1 h2 h3 h4 h5 h6 h7=>?_
   refine wpAny_pyIter_zip h1 ?_
   refine ⟨_,[s1.heap.objs.size+4,s1.heap.objs.size+2,s1.heap.objs.size+3,s1.heap.objs.size,s1.heap.objs.size+1],_,_,H1,rfl,I1.kept (t':=s1.toks) h7,turn_zip a b _ _ _ _ _ (PySem.W.ktu_apart _ _ _ la lb),⟨h1,h2,⟨_,_,h3⟩,h4,h5⟩,fun c hc=>?_,q⟩
   have hc:s1.heap.objs.size≤c:=by
    have hc:c=s1.heap.objs.size+4∨c=s1.heap.objs.size+2∨c=s1.heap.objs.size+3∨c=s1.heap.objs.size∨c=s1.heap.objs.size+1:=by simpa using hc
    rcases hc with rfl | rfl | rfl | rfl | rfl
    · exact Nat.le_add_right _ _
    · exact Nat.le_add_right _ _
    · exact Nat.le_add_right _ _
    · exact Nat.le_refl _
    · exact Nat.le_add_right _ _
   exact I1.fpOk hc (I1.hok.fresh hc)
end
section
variable {K:PySem.W.Frag} {σ:St} {H:Hp} {D:Ends}
theorem rd_izip{ta:TA}{R:It→Hp→Prop}:iZip K ta σ H R=ta σ H fun vs H1=>∃a b,vs=[.ref a,.ref b]∧(∃xs,SqL K H1 a xs)∧(∃ys,SqL K H1 b ys)∧R (Itz K a b) H1:=rfl
end
end L2
namespace N32
open L2 N1 N5 N31
noncomputable def lastIx(ys:List Str)(z:Str):Nat→Option Nat
 | 0=>none
 | n+1=>if ys.getD n Str.empty=z then some n else lastIx ys z n
noncomputable def ear(ys:List Str)(i:Nat):Option Nat:=lastIx ys (ys.getD i Str.empty) i
noncomputable def W(R:Str→Int)(ys:List Str)(n j:Nat):Int:=if lastIx ys (ys.getD j Str.empty) n=some j then R (ys.getD j Str.empty) else 0
noncomputable def tl(f:Nat→Int)(b n:Nat):Int:=((List.range' b (n - b)).map f).sum
noncomputable def dep(R:Str→Int)(ys:List Str)(n:Nat):Option Int:=(ear ys n).map fun b=>tl (W R ys n) b n
end N32
namespace N32
open L2 N1 N5 N31 N4
noncomputable def rm(ts:List Th)(z:Str):Int:=((ts.find? fun t=>decide (t.1=z)).map (·.2.2)).getD 0
theorem rm_at{ts:List Th}(nd:(ts.map (·.1)).Nodup){i:Nat}{t:Th}(h:ts[i]?=some t):rm ts t.1=t.2.2:=by
 induction ts generalizing i with
 | nil=>simp at h
 | cons u r ih=>
  rw [List.map_cons,List.nodup_cons]at nd
  cases i with
  | zero=>
   rw [List.getElem?_cons_zero]at h
   cases h
   simp [rm]
  | succ i=>
   rw [List.getElem?_cons_succ]at h
   have ne:¬u.1=t.1:=fun e=>nd.1 (by rw [e];exact List.mem_map.mpr ⟨t,List.mem_of_getElem? h,rfl⟩)
   have:=ih nd.2 h
   unfold rm at this ⊢
   rw [List.find?_cons_of_neg (by simpa using ne)]
   exact this
noncomputable def sp32_check:Sp:=fun vs H Q _=>∃(i:Int),vs=[.int i]∧1≤i∧i≤1000000∧Q .non H
noncomputable def sp32_thing(K:PySem.W.Frag)(C:Addr):Sp:=fun vs H Q _=>∃(p:Addr) (ts:List Th) (z:Str),vs=[.ref p,.str z]∧StockAt K C H p ts∧(ts.map (·.1)).Nodup∧z∈ts.map (·.1)∧∀(i:Nat) (t:Th),ts[i]?=some t→t.1=z→∀a,SqT K H a [.int i,.int t.2.1,.int t.2.2]→Q (.ref a) H
noncomputable def sp32_room(K:PySem.W.Frag)(C:Addr):Sp:=fun vs H Q _=>∃(p:Addr) (ts:List Th) (z:Str),vs=[.ref p,.str z]∧StockAt K C H p ts∧(ts.map (·.1)).Nodup∧z∈ts.map (·.1)∧Q (.int (rm ts z)) H
section
variable {K:PySem.W.Frag} {σ:L2.St} {H:Hp} {Q:VK}
theorem rd_dget1{td ty:TE}:tDGet1 td ty σ H Q=td σ H fun x H1=>∃a,x= .ref a∧IsD H1 a∧ty σ H1 fun y H2=>∃o,DGet H2 a y o∧Q (o.getD .non) H2:=rfl
end
end N32
namespace N32
open L2 N1 N5 N31 N4
noncomputable def rmK(ns:List Int)(mo:Int)(j:Nat):Int:=1+(ns.getD 2 0 / 2).fdiv ((j:Int)+1) % mo
end N32
open L2 N1 N5 N31 N4 N32
namespace N41
noncomputable def seg(T:List Int)(a b:Nat):Int:=((T.take b).drop a).sum
noncomputable def leastAt(c r:Str→Int)(T:List Int)(S:Int)(ys:List Str)(n:Nat):Int:=
 match ear ys n with
 | none=>c (ys.getD n Str.empty) * S
 | some e=>min (c (ys.getD n Str.empty) * S) (r (ys.getD n Str.empty) * seg T (e+1) n)
noncomputable def fl(c r:Str→Int)(T:List Int)(S P:Int)(ys:List Str):Nat→Int
 | 0=>0
 | n+1=>fl c r T S P ys n+(leastAt c r T S ys n - T.getD n 0 * (P - r (ys.getD n Str.empty)))
noncomputable def sm(f:Str→Int)(L:List Str):Int:=(L.map f).sum
theorem sm_nil(f:Str→Int):sm f []=0:=rfl
theorem sm_cons(f:Str→Int)(x:Str)(L:List Str):sm f (x::L)=f x+sm f L:=by unfold sm;rw [List.map_cons,List.sum_cons]
end N41
namespace N41
noncomputable def cst(ts:List Th)(z:Str):Int:=((ts.find? fun t=>decide (t.1=z)).map (·.2.1)).getD 0
theorem cst_at{ts:List Th}(nd:(ts.map (·.1)).Nodup){i:Nat}{t:Th}(h:ts[i]?=some t):cst ts t.1=t.2.1:=by
 induction ts generalizing i with
 | nil=>simp at h
 | cons u r ih=>
  rw [List.map_cons,List.nodup_cons]at nd
  cases i with
  | zero=>
   rw [List.getElem?_cons_zero]at h
   cases h
   simp [cst]
  | succ i=>
   rw [List.getElem?_cons_succ]at h
   have ne:¬u.1=t.1:=fun e=>nd.1 (by rw [e];exact List.mem_map.mpr ⟨t,List.mem_of_getElem? h,rfl⟩)
   have:=ih nd.2 h
   unfold cst at this ⊢
   rw [List.find?_cons_of_neg (by simpa using ne)]
   exact this
noncomputable def sp41_asks(K:PySem.W.Frag)(C:Addr):Sp:=fun vs H Q _=>∃(p a:Addr) (pl:Int) (ts:List Th) (ys:List Str),vs=[.ref p,.ref a,.int pl]∧StockAt K C H p ts∧(ts.map (·.1)).Nodup∧SqL K H a (ys.map V.str)∧ys.length≤200∧(∀y∈ys,y∈ts.map (·.1))∧(∀y∈ys,rm ts y≤pl)∧1≤pl∧pl≤1000000∧∀H',Same H H'→Q (.bl true) H'
end N41
namespace L2
noncomputable abbrev tComp1I(wi:TI)(fs:List Nat)(tt:Blk→TT)(te:Blk→TE):TE:=tComp wi 1 fs (fun _=>gName 0) tt te
noncomputable abbrev g2(K:PySem.W.Frag):Blk→TG:=fun _=>gTup K 2 (gCons (gName 0) (gCons (gName 1) gNil))
noncomputable abbrev tComp2(K:PySem.W.Frag)(wi:TI)(fs:List Nat)(tt:Blk→TT)(te:Blk→TE):TE:=tComp wi 2 fs (g2 K) tt te
section
variable {X:Cx} {scope:Scope} {x y:Str} {px py pt:Pos} {n:Nat} {fs:List Nat} {elt iter c:Expr} {pos:Pos} {wi:TI} {tt:Blk→TT} {te:Blk→TE}
theorem pe_compI(x:Str)(fs:List Nat)(hc:X.calm=true)(hok:compOkB X.N X.env.scope scope [x] fs=true)(hi:PI X (.Name x px) iter wi)(ht:∀b,PT (X.blk scope ([x]++around X.N fs) b) c (tt b))(he:∀b,PE (X.blk scope ([x]++around X.N fs) b) elt (te b))
 (hs:∀x,foldedSetIterable iter X.env x=pure x:=by intro _;rfl):PE X (.ListComp elt [⟨.Name x px,iter,[c],0⟩] scope pos) (tComp1I wi fs tt te):=
 pe_compG (xs:=[x]) (g:=fun _=>gName 0) (tt:=tt) hc hok hi (pg_own hok) (fun b=>pts_one (ht b)) he hs
theorem pg_own2(hc:X.calm=true)(hok:compOkB X.N X.env.scope scope [x,y] fs=true)(b:Blk):PG (X.blk scope ([x,y]++around X.N fs) b) (.Tuple [.Name x px,.Name y py] n pt) (g2 X.K b):=by
 have O:=compOk_of hok
 refine pg_tup (X:=X.blk scope ([x,y]++around X.N fs) b) hc (pgs_cons (pg_name O.nd rfl (.inl (lookup_relabel_local (O.own x (by simp)))) (.inr (lookup_relabel_local (O.own x (by simp)))))
  (pgs_cons (pg_name O.nd rfl (.inl (lookup_relabel_local (O.own y (by simp)))) (.inr (lookup_relabel_local (O.own y (by simp))))) pgs_nil))
theorem pe_comp2(x y:Str)(fs:List Nat)(hc:X.calm=true)(hok:compOkB X.N X.env.scope scope [x,y] fs=true)(hi:PI X (.Tuple [.Name x px,.Name y py] n pt) iter wi)(he:∀b,PE (X.blk scope ([x,y]++around X.N fs) b) elt (te b))
 (hs:∀x,foldedSetIterable iter X.env x=pure x:=by intro _;rfl):PE X (.ListComp elt [⟨.Tuple [.Name x px,.Name y py] n pt,iter,[],0⟩] scope pos) (tComp2 X.K wi fs (fun _=>tYes) te):=
 pe_compG (xs:=[x,y]) (g:=g2 X.K) (tt:=fun _=>tYes) hc hok hi (pg_own2 hc hok) (fun _=>pts_nil) he hs
end
section
variable {K:PySem.W.Frag} {tail:St} {tt:Blk→TT} {te:Blk→TE} {Q:VK} {H1:Hp} {σ:St} {H:Hp}
theorem rd_compI{wi:TI}{fs:List Nat}:tComp1I wi fs tt te σ H Q=wi σ H (CompTail (none::fs.map fun j=>σ.getD j none) (fun _=>gName 0) tt te Q):=rfl
theorem rd_comp2{wi:TI}{fs:List Nat}:tComp2 K wi fs tt te σ H Q=wi σ H (CompTail (none::none::fs.map fun j=>σ.getD j none) (g2 K) tt te Q):=rfl
theorem kept2{x y:Option V}{r:St}:Kept (none::none::r) (x::y::r):=fun i v e=>by
 match i with
 | 0=>cases e
 | 1=>cases e
 | i+2=>exact e
theorem same_put{H H':Hp}{p:Addr}{o:HO}(s:Same H H')(h:H p=none):Same H (upd H' p o):=fun b u e=>by
 rw [upd_ne (ne_of_none e h)];exact s b u e
theorem compL_if{a:Addr}{xs:List V}(p:V→Bool)(f:V→V)(hS:SqL K H1 a xs)(hz:xs.length≤sizeLine)(ht:∀b x H QT,x∈xs→Same H1 H→(∀H',Same H H'→QT (p x) H')→tt b (some x::tail) H QT)
 (he:∀b x H Q',x∈xs→p x=true→Same H1 H→(∀H',Same H H'→Q' (f x) H')→te b (some x::tail) H Q')
 (q:∀D H',H1 D=none→Same H1 H'→H' D=some (.lst ((xs.filter p).map f))→Q (.ref D) H'):CompTail (none::tail) (fun _=>gName 0) tt te Q (Itl K a) H1:=by
 intro b D hD
 refine ⟨fun i m ys H=>m=xs.length - i∧i≤xs.length∧ys=((xs.take i).filter p).map f∧H D=some (.lst ys)∧Same H1 H,⟨_,rfl,Nat.zero_le _,rfl,upd_same,same_new hD⟩,?_⟩
 rintro i m ys H ⟨rfl,hi,rfl,hd,sm⟩
 refine ⟨hd,?_⟩
 by_cases hlt:i < xs.length
 · refine .inr ⟨⟨xs,xs[i],sm.seq hS,by simp [hlt]⟩,fun x H3 ⟨e3,ex⟩=>⟨kept0,?_⟩⟩
   subst e3
   have hx:=ex xs (sm.seq hS)
   have hm:=List.mem_of_getElem? hx
   have hl:(((xs.take i).filter p).map f).length≤i:=by
    rw [List.length_map];exact Nat.le_trans (List.length_filter_le _ _) (by rw [List.length_take];omega)
   refine ht b x _ _ hm sm fun H7 s7=>?_
   have htk:(xs.take (i+1)).filter p=(xs.take i).filter p++[x].filter p:=by rw [List.take_add_one,hx,List.filter_append];rfl
   by_cases hp:p x=true
   · rw [if_pos hp]
     refine he b x H7 _ hm hp (sm.trans s7) fun H8 s8=>?_
     have hd8:=(s7.trans s8) _ _ hd
     refine ⟨hd8,by omega,xs.length - (i+1),by omega,rfl,hlt,?_,upd_same,same_put ((sm.trans s7).trans s8) hD⟩
     rw [htk,List.filter_cons_of_pos hp,List.filter_nil,List.map_append];rfl
   · rw [if_neg hp]
     refine ⟨xs.length - (i+1),by omega,rfl,hlt,?_,s7 _ _ hd,sm.trans s7⟩
     rw [htk,List.filter_cons_of_neg hp,List.filter_nil,List.append_nil]
 · have e:i=xs.length:=by omega
   subst e
   refine .inl ⟨⟨xs,sm.seq hS,Nat.le_refl _⟩,q D H hD sm ?_⟩
   rw [hd,List.take_length]
end
end L2
namespace L2
open PySem.W
noncomputable def rMaxL(K:PySem.W.Frag):List V→Hp→VK→Prop:=fun xs H Q=>∃(p:Addr) (is:List Int),xs=[.ref p]∧SqL K H p (is.map V.int)∧is≠[]∧∀v∈is,(∀x∈is,x≤v)→Q (.int v) H
theorem best_lt(val:Nat→Int):∀k,argBest (fun i j=>decide (val i < val j)) k≤k∧∀j,j≤k→val (argBest (fun i j=>decide (val i < val j)) k)≤val j:=by
 intro k
 induction k with
 | zero=>exact ⟨Nat.le_refl _,fun j hj=>by rw [Nat.le_zero.mp hj];exact Int.le_refl _⟩
 | succ k ih=>
  unfold argBest
  split
  · rename_i h
    have h:=of_decide_eq_true h
    refine ⟨Nat.le_refl _,fun j hj=>?_⟩
    by_cases e:j=k+1
    · rw [e];exact Int.le_refl _
    · have:=ih.2 j (by omega);omega
  · rename_i h
    have h:¬(val (k+1) < _):=fun z=>h (decide_eq_true z)
    refine ⟨Nat.le_succ_of_le ih.1,fun j hj=>?_⟩
    by_cases e:j=k+1
    · rw [e];omega
    · exact ih.2 j (by omega)
section
variable {K:PySem.W.Frag} {H:Hp} {Q:VK} {xs:List V}
theorem rd_maxL:rMaxL K xs H Q=∃(p:Addr) (is:List Int),xs=[.ref p]∧SqL K H p (is.map V.int)∧is≠[]∧∀v∈is,(∀x∈is,x≤v)→Q (.int v) H:=rfl
end
end L2
namespace L2
noncomputable def itemsO(v d:Addr):HO:= .ext fun h=>h.IsItemsView v d
noncomputable def Iti(o:Obj)(d:Addr):It:=
 ⟨fun i H=>∃kvs p,H d=some (.frz o (.dK kvs))∧kvs[i]?=some p,fun i H v H'=>∃t k x,v= .ref t∧H t=none∧H'=upd H t (.tup [kV k,x])∧∀kvs,H d=some (.frz o (.dK kvs))→kvs[i]?=some (k,x),
  fun i H=>∃kvs,H d=some (.frz o (.dK kvs))∧kvs.length≤i⟩
section
variable {X:Cx}
noncomputable def rItems:V→List V→Hp→VK→Prop:=fun x vs H Q=>∃a kvs,x= .ref a∧vs=[]∧H a=some (.dK kvs)∧∀v,H v=none→Q (.ref v) (upd H v (itemsO v a))
noncomputable def iView(tv:TE):TI:=fun σ H R=>tv σ H fun x H1=>∃v d kvs,x= .ref v∧H1 v=some (itemsO v d)∧H1 d=some (.dK kvs)∧∀o,R (Iti o d) (upd H1 d (.frz o (.dK kvs)))
end
section
variable {K:PySem.W.Frag} {tail:St} {te:Blk→TE} {Q:VK} {H1:Hp} {σ:St} {H:Hp}
theorem rd_items{x:V}{vs:List V}:rItems x vs H Q=∃a kvs,x= .ref a∧vs=[]∧H a=some (.dK kvs)∧∀v,H v=none→Q (.ref v) (upd H v (itemsO v a)):=rfl
theorem rd_iview{tv:TE}{R:It→Hp→Prop}:iView tv σ H R=tv σ H fun x H1=>∃v d kvs,x= .ref v∧H1 v=some (itemsO v d)∧H1 d=some (.dK kvs)∧∀o,R (Iti o d) (upd H1 d (.frz o (.dK kvs))):=rfl
end
end L2
namespace L2
theorem rd_augN{σ:St}{H:Hp}{D:Ends}{i:Nat}{te:TE}{ti:TIp}:tAug i te ti D σ H=∃x,σ[i]?=some (some x)∧te σ H fun y H1=>ti x y H1 fun z H2=>D.nx (σ.set i (some z)) H2:=rfl
end L2
namespace N41
open L2 N1 N5 N31 N4 N32
theorem getD_s{ys:List Str}{k:Nat}(h:k < ys.length):ys[k]?=some (ys.getD k Str.empty):=by rw [List.getD_eq_getElem?_getD,List.getElem?_eq_getElem h];rfl
noncomputable def tsF(C R:Str→Int)(ys:List Str):List Th:=ys.map fun y=>(y,C y,R y)
theorem tsF_names{C R:Str→Int}{ys:List Str}:(tsF C R ys).map (·.1)=ys:=by
 unfold tsF;rw [List.map_map];exact (List.map_congr_left fun _ _=>rfl).trans (List.map_id ys)
theorem tsF_len{C R:Str→Int}{ys:List Str}:(tsF C R ys).length=ys.length:=by unfold tsF;rw [List.length_map]
theorem tsF_at{C R:Str→Int}{ys:List Str}{i:Nat}(h:i < ys.length):(tsF C R ys)[i]?=some (ys.getD i Str.empty,C (ys.getD i Str.empty),R (ys.getD i Str.empty)):=by
 unfold tsF;rw [List.getElem?_map,getD_s h];rfl
theorem tsF_cst{C R:Str→Int}{ys:List Str}{y:Str}(nd:ys.Nodup)(h:y∈ys):cst (tsF C R ys) y=C y∧rm (tsF C R ys) y=R y:=by
 obtain ⟨i,hi⟩:=List.mem_iff_getElem?.mp h
 have hl:=(List.getElem?_eq_some_iff.mp hi).1
 have e:ys.getD i Str.empty=y:=by rw [List.getD_eq_getElem?_getD,hi];rfl
 have ht:=tsF_at (C:=C) (R:=R) hl
 rw [e]at ht
 have hn:((tsF C R ys).map (·.1)).Nodup:=by rw [tsF_names];exact nd
 exact ⟨cst_at hn ht,rm_at hn ht⟩
theorem rows41{K:PySem.W.Frag}{H:Hp}{D:Addr}{as:List Addr}{ys:List Str}{C R:Str→Int}(hD:H D=some (.lst (as.map V.ref)))(hl:as.length=ys.length)(hm:ys.length≤60)(nd:ys.Nodup)(hn:∀y∈ys,nameB y.cps.toList=true)(hb:∀y∈ys,0≤C y∧C y≤10 ^ 30∧1≤R y∧R y≤1000)
 (hall:∀(i:Nat) (a:Addr),as[i]?=some a→SqT K H a [.str (ys.getD i Str.empty),.int (C (ys.getD i Str.empty)),.int (R (ys.getD i Str.empty))]):RowsAt K H D as (tsF C R ys):=by
 refine ⟨SqL.of hD,by rw [hl,tsF_len],by rw [tsF_len];exact hm,fun i a t h1 h2=>?_,fun t ht=>?_,by rw [tsF_names];exact nd⟩
 · have hi:i < ys.length:=by rw [← tsF_len (C:=C) (R:=R)];exact (List.getElem?_eq_some_iff.mp h2).1
   rw [tsF_at hi]at h2
   cases h2
   exact hall i a h1
 · unfold tsF at ht
   obtain ⟨y,hy,rfl⟩:=List.mem_map.mp ht
   exact ⟨hn y hy,hb y hy⟩
noncomputable def ask1S(ys:List Str)(m:Nat)(c:Int):Str:=ys.getD (c % (m:Int)).toNat Str.empty
noncomputable def ask1(ys:List Str)(m:Nat):V→V
 | .int c=> .str (ask1S ys m c)
 | _=> .non
theorem ask1_list{ys:List Str}{m:Nat}{cs:List Int}:(cs.map V.int).map (ask1 ys m)=(cs.map (ask1S ys m)).map V.str:=by
 rw [List.map_map,List.map_map];rfl
end N41
namespace N6
open L2 N1 N5 N4
noncomputable def sfl(p d:Addr)(n:Int):List (Str×V):=putF "rooms" (.ref d) (putF "places" (.int n) (putF "stock" (.ref p) []))
theorem sfl_stock{p d:Addr}{n:Int}:(sfl p d n).lookup ("stock":Str)=some (V.ref p):=by
 unfold sfl
 rw [lookup_putF,if_neg (by decide),lookup_putF,if_neg (by decide),lookup_putF,if_pos rfl]
theorem sfl_places{p d:Addr}{n:Int}:(sfl p d n).lookup ("places":Str)=some (V.int n):=by
 unfold sfl
 rw [lookup_putF,if_neg (by decide),lookup_putF,if_pos rfl]
theorem sfl_rooms{p d:Addr}{n:Int}:(sfl p d n).lookup ("rooms":Str)=some (V.ref d):=by
 unfold sfl
 rw [lookup_putF,if_pos rfl]
noncomputable abbrev Ly:=List (Str×Int)
noncomputable def lyK(ls:Ly):List (Key×V):=ls.map fun x=>(Sum.inr x.1,.int x.2)
noncomputable def lyN(ls:Ly):List Str:=ls.map (·.1)
noncomputable def lyS(ls:Ly):Int:=(ls.map (·.2)).sum
structure ShelfAt(S:Addr)(H:Hp)(q p d:Addr)(n:Int)(ls:Ly):Prop where
 o:∃dx,H q=some (.ins S dx (sfl p d n))
 d:H d=some (.dK (lyK ls))
 nd:(lyN ls).Nodup
theorem ShelfAt.same{S:Addr}{H H':Hp}{q p d:Addr}{n:Int}{ls:Ly}(s:Same H H')(h:ShelfAt S H q p d n ls):ShelfAt S H' q p d n ls:=
 ⟨h.o.imp fun _ e=>s _ _ e,s _ _ h.d,h.nd⟩
structure StockX(K:PySem.W.Frag)(C:Addr)(H:Hp)(p:Addr)(ts:List Th)(d:Addr):Prop where
 ex:∃(dx e:Addr) (kvs:List (Key×V)),e≠d∧H p=some (.ins C dx (flds e))∧H e=some (.dK kvs)∧kvs.map (·.1)=ts.map (fun t=>Sum.inr t.1)∧
  ∀(i:Nat) (t:Th),ts[i]?=some t→∃a,kvs[i]?=some (Sum.inr t.1,.ref a)∧SqT K H a [.int i,.int t.2.1,.int t.2.2]
section
variable {K:PySem.W.Frag} {C S:Addr} {H H':Hp} {p q d:Addr} {ts:List Th} {n:Int} {ls:Ly} {z:Str}
theorem StockX.at(h:StockX K C H p ts d):StockAt K C H p ts:=by
 obtain ⟨dx,e,kvs,_,r⟩:=h.ex
 exact ⟨dx,e,kvs,r⟩
theorem StockX.of(h:StockAt K C H p ts)(hd:H d=none):StockX K C H p ts d:=by
 obtain ⟨dx,e,kvs,h1,h2,r⟩:=h.ex
 exact ⟨dx,e,kvs,ne_of_none h2 hd,h1,h2,r⟩
theorem StockX.same(s:Same H H')(h:StockX K C H p ts d):StockX K C H' p ts d:=by
 obtain ⟨dx,e,kvs,n,h1,h2,h3,h4⟩:=h.ex
 refine ⟨dx,e,kvs,n,s _ _ h1,s _ _ h2,h3,fun i t q=>?_⟩
 obtain ⟨a,e1,e2⟩:=h4 i t q
 exact ⟨a,e1,s.tup e2⟩
theorem ShelfAt.butL{l:Addr}{zs:List V}(s:SameBut l H H')(hl:H l=some (.lst zs))(h:ShelfAt S H q p d n ls):ShelfAt S H' q p d n ls:=
 ⟨h.o.imp fun _ e=>s _ _ e (ne_of e hl (by intro z;cases z)),s _ _ h.d (ne_of h.d hl (by intro z;cases z)),h.nd⟩
theorem lyK_map:(lyK ls).map (·.1)=(lyN ls).map Sum.inr:=by unfold lyK lyN;rw [List.map_map,List.map_map];rfl
theorem lyK_names:((lyK ls).map fun x=>kV x.1)=(lyN ls).map V.str:=by unfold lyK lyN;rw [List.map_map,List.map_map];rfl
theorem lyK_vals:(lyK ls).map (·.2)=(ls.map (·.2)).map V.int:=by unfold lyK;rw [List.map_map,List.map_map];rfl
theorem lyK_mem:(valV (lyK ls) (Sum.inr z)).isSome=decide (z∈lyN ls):=key_mem lyK_map
theorem lyK_put{r:Int}(h:¬z∈lyN ls):putK (lyK ls) (Sum.inr z) (.int r)=lyK (ls++[(z,r)]):=by
 have hv:valV (lyK ls) (Sum.inr z:Key)=none:=by
  have:=lyK_mem (ls:=ls) (z:=z)
  rw [decide_eq_false h]at this
  cases hv:valV (lyK ls) (Sum.inr z:Key) with
  | none=>rfl
  | some v=>rw [hv]at this;cases this
 rw [putK_new _ hv]
 unfold lyK
 rw [List.map_append]
 rfl
noncomputable def lyD(ls:Ly)(z:Str):Ly:=ls.filter fun x=>decide (x.1≠z)
theorem lyK_drop:dropK (lyK ls) (Sum.inr z)=lyK (lyD ls z):=by
 unfold dropK lyK lyD
 rw [List.filter_map]
 congr 1
 refine List.filter_congr fun x _=>?_
 show decide ((Sum.inr x.1:Key)≠Sum.inr z)=decide (x.1≠z)
 exact decide_eq_decide.mpr ⟨fun h e=>h (by rw [e]),fun h e=>h (by injection e)⟩
theorem lyD_names(nd:(lyN ls).Nodup):lyN (lyD ls z)=(lyN ls).erase z:=by
 unfold lyN lyD at *
 rw [List.Nodup.erase_eq_filter nd,List.filter_map]
 congr 1
 refine List.filter_congr fun x _=>?_
 by_cases h:x.1=z
 · simp [h]
 · simp [h]
end
theorem ShelfAt.put{S:Addr}{H H1:Hp}{q p d:Addr}{n:Int}{ls:Ly}{z:Str}{r:Int}(h:ShelfAt S H q p d n ls)(s:Same H H1)(hz:¬z∈lyN ls):ShelfAt S (upd H1 d (.dK (putK (lyK ls) (Sum.inr z) (.int r)))) q p d n (ls++[(z,r)]):=by
 obtain ⟨dx,ho⟩:=h.o
 have h1:=s _ _ ho
 have h2:=s _ _ h.d
 refine ⟨⟨dx,by rw [upd_ne (ne_of h1 h2 (by intro z;cases z))];exact h1⟩,by rw [upd_same,lyK_put hz],?_⟩
 have e:lyN (ls++[(z,r)])=lyN ls++[z]:=by unfold lyN;rw [List.map_append];rfl
 rw [e,List.nodup_append]
 exact ⟨h.nd,by simp,fun a ha b hb e=>hz (by rw [List.mem_singleton.mp hb]at e;rw [← e];exact ha)⟩
theorem ShelfAt.cast{S:Addr}{H:Hp}{q p d:Addr}{n:Int}{ls:Ly}{z:Str}(h:ShelfAt S H q p d n ls):ShelfAt S (upd H d (.dK (dropK (lyK ls) (Sum.inr z)))) q p d n (lyD ls z):=by
 obtain ⟨dx,ho⟩:=h.o
 refine ⟨⟨dx,by rw [upd_ne (ne_of ho h.d (by intro z;cases z))];exact ho⟩,by rw [upd_same,lyK_drop],?_⟩
 rw [lyD_names h.nd]
 exact h.nd.erase z
noncomputable def sp_sinit(S:Addr):Sp:=fun vs H Q _=>∃(q dx p:Addr) (n:Int),vs=[.ref q,.ref p,.int n]∧H q=some (.ins S dx [])∧1≤n∧n≤1000000∧∀H' d,SameBut q H H'→H d=none→ShelfAt S H' q p d n []→Q .non H'
noncomputable def sp_lying(S:Addr):Sp:=fun vs H Q _=>∃(q p d:Addr) (n:Int) (ls:Ly),vs=[.ref q]∧ShelfAt S H q p d n ls∧∀l,H l=none→Q (.ref l) (upd H l (.lst ((lyN ls).map V.str)))
noncomputable def sp_holds(S:Addr):Sp:=fun vs H Q _=>∃(q p d:Addr) (n:Int) (ls:Ly) (z:Str),vs=[.ref q,.str z]∧ShelfAt S H q p d n ls∧Q (.bl (decide (z∈lyN ls))) H
noncomputable def sp_left(S:Addr):Sp:=fun vs H Q _=>∃(q p d:Addr) (n:Int) (ls:Ly),vs=[.ref q]∧ShelfAt S H q p d n ls∧∀H',Same H H'→Q (.int (n - lyS ls)) H'
end N6
namespace N6
open L2 N1 N5 N4
theorem inV_strs{z:Str}{ys:List Str}:inV (.str z) (ys.map V.str)=decide (z∈ys):=by
 unfold inV
 induction ys with
 | nil=>rfl
 | cons y ys ih=>
  rw [List.map_cons,List.any_cons,ih,eqV_str]
  by_cases h:y=z
  · subst h;simp
  · have h':¬z=y:=fun e=>h e.symm
    simp [h,h']
theorem in_go{K:PySem.W.Frag}{H:Hp}{p:Addr}{z:Str}{ys:List Str}{Q:VK}(h:SqL K H p (ys.map V.str))(q:Q (.bl (decide (z∈ys))) H):rIn K false (.str z) (.ref p) H Q:=by
 refine ⟨p,_,rfl,.inl h,rfl,all_strs,?_⟩
 rw [if_neg (by decide),inV_strs]
 exact q
noncomputable def aOf:V→Addr
 | .ref a=>a
 | _=>0
noncomputable def sp_mix:Sp:=fun vs H Q _=>∃c k:Int,vs=[.int c,.int k]∧0≤k∧k≤1000∧∀v:Int,0≤v→Q (.int v) H
end N6
namespace N6
open L2 N1 N5 N4
noncomputable def sp_thingG(K:PySem.W.Frag)(C:Addr):Sp:=fun vs H Q _=>∃(p:Addr) (ts:List Th) (z:Str),vs=[.ref p,.str z]∧StockAt K C H p ts∧(ts.map (·.1)).Nodup∧z∈ts.map (·.1)∧∀(i:Nat) (t:Th),ts[i]?=some t→t.1=z→∀a,SqT K H a [.int i,.int t.2.1,.int t.2.2]→Q (.ref a) H
noncomputable def sp_roomG(K:PySem.W.Frag)(C:Addr):Sp:=fun vs H Q _=>∃(p:Addr) (ts:List Th) (z:Str),vs=[.ref p,.str z]∧StockAt K C H p ts∧(ts.map (·.1)).Nodup∧z∈ts.map (·.1)∧∀(i:Nat) (t:Th),ts[i]?=some t→t.1=z→Q (.int t.2.2) H
noncomputable def sp_putG(K:PySem.W.Frag)(C S:Addr):Sp:=fun vs H Q _=>∃(q p d:Addr) (n:Int) (ls:Ly) (ts:List Th) (z:Str) (r:Int),vs=[.ref q,.str z]∧ShelfAt S H q p d n ls∧StockX K C H p ts d∧(ts.map (·.1)).Nodup∧ls.length≤1000∧
 z∈ts.map (·.1)∧(∀t∈ts,t.1=z→t.2.2=r)∧¬z∈lyN ls∧r≤n - lyS ls∧∀H',SameBut d H H'→ShelfAt S H' q p d n (ls++[(z,r)])→Q .non H'
noncomputable def sp_castG(S:Addr):Sp:=fun vs H Q _=>∃(q p d:Addr) (n:Int) (ls:Ly) (z:Str),vs=[.ref q,.str z]∧ShelfAt S H q p d n ls∧z∈lyN ls∧∀H',SameBut d H H'→ShelfAt S H' q p d n (lyD ls z)→Q .non H'
end N6
namespace L2
open N1 N5
theorem eqV_self{x:V}(h:flatV x=true):eqV x x=true:=by
 cases x with
 | non=>rfl
 | bl b=>cases b <;> rfl
 | int i=>exact beq_self_eq_true i
 | str z=>rw [eqV_str];simp
 | _=>cases h
theorem flatEq_self:∀{xs:List V},xs.all flatV=true→flatEq xs xs=true
 | [],_=>rfl
 | x::xs,h=>by
  rw [List.all_cons,Bool.and_eq_true]at h
  show (eqV x x && flatEq xs xs)=true
  rw [eqV_self h.1,flatEq_self h.2];rfl
section
variable {K:PySem.W.Frag} {tail:St} {te:Blk→TE} {Q:VK} {H1:Hp}
noncomputable def OffL(P:V→Hp→Prop):Prop:=∀y H H' l zs,P y H→H l=some (.lst zs)→SameBut l H H'→P y H'
theorem compL_mk{a:Addr}{xs:List V}(P:Nat→V→Hp→Prop)(G:Nat→Prop)(hP:∀i,OffL (P i))(hS:SqL K H1 a xs)(hz:xs.length≤sizeLine)
 (he:∀b i x H Q',xs[i]?=some x→Same H1 H→(∀j,j < i→G j)→(∀y H',Same H H'→P i y H'→G i→Q' y H')→te b (some x::tail) H Q')
 (q:∀D ys H',H1 D=none→Same H1 H'→H' D=some (.lst ys)→ys.length=xs.length→(∀i y,ys[i]?=some y→P i y H')→(∀j,j < xs.length→G j)→Q (.ref D) H'):CompTail (none::tail) (fun _=>gName 0) (fun _=>tYes) te Q (Itl K a) H1:=by
 refine comp_by xs.length (fun b D hD=>⟨fun i ys H=>i≤xs.length∧ys.length=i∧H D=some (.lst ys)∧Same H1 H∧(∀j y,ys[j]?=some y→P j y H)∧∀j,j < i→G j,⟨Nat.zero_le _,rfl,upd_same,same_new hD,fun j y e=>by simp at e,fun j h=>absurd h (Nat.not_lt_zero j)⟩,?_,?_,?_⟩)
 · rintro i ys H ⟨hi,_,h,_⟩
   exact h
 · rintro ys H ⟨_,hl,h,sm,hall,hg⟩
   exact ⟨⟨xs,sm.seq hS,Nat.le_refl _⟩,q D ys H hD sm h hl hall hg⟩
 · rintro i ys H hi ⟨_,hl,h,sm,hall,hg⟩
   refine ⟨⟨xs,xs[i],sm.seq hS,by simp [hi]⟩,fun x H3 ⟨e3,ex⟩=>?_⟩
   subst e3
   refine he b i x _ _ (ex xs (sm.seq hS)) sm hg fun y H4 sm4 py gi=>?_
   have h4:=sm4 _ _ h
   have sb:SameBut D H4 (upd H4 D (.lst (ys++[y]))):=sameBut_upd
   refine compNext h4 (by omega) hi ⟨hi,by rw [List.length_append,hl];rfl,upd_same,fun c o e=>?_,fun j y' e=>?_,fun j hj=>?_⟩
   · rw [upd_ne (ne_of_none e hD)];exact sm4 _ _ (sm _ _ e)
   · by_cases hj:j < ys.length
     · rw [List.getElem?_append_left hj]at e
       exact hP j _ _ _ _ _ (hall j y' e) h fun c o e n=>by rw [upd_ne n];exact sm4 _ _ e
     · rw [List.getElem?_append_right (by omega)]at e
       have hj0:j=i:=by have:=(List.getElem?_eq_some_iff.mp e).1;simp at this;omega
       subst hj0
       rw [show j - ys.length=0 by omega]at e
       cases e
       exact hP j _ _ _ _ _ py h4 sb
   · by_cases e:j=i
     · rw [e];exact gi
     · exact hg j (by omega)
end
end L2
namespace L2
noncomputable abbrev g3(K:PySem.W.Frag):Blk→TG:=fun _=>gTup K 3 (gCons (gName 0) (gCons (gName 1) (gCons (gName 2) gNil)))
noncomputable abbrev tComp3(K:PySem.W.Frag)(wi:TI)(fs:List Nat)(te:Blk→TE):TE:=tComp wi 3 fs (g3 K) (fun _=>tYes) te
section
variable {K:PySem.W.Frag} {tail:St} {te:Blk→TE} {Q:VK} {H1:Hp} {σ:St} {H:Hp}
theorem rd_comp3{wi:TI}{fs:List Nat}:tComp3 K wi fs te σ H Q=wi σ H (CompTail (none::none::none::fs.map fun j=>σ.getD j none) (g3 K) (fun _=>tYes) te Q):=rfl
end
end L2
namespace N12
open L2 N1 N5 N4 N6
noncomputable def sp12_names:Sp:=fun vs H Q _=>∃(i:Int) (m:Nat),vs=[.int i,.int m]∧m≤26∧∀(p:Addr) (ys:List Str) (H':Hp),H p=none→Same H H'→H' p=some (.lst (ys.map V.str))→ys.length≤m→m≤ys.length→ys.Nodup→(∀y∈ys,nameB y.cps.toList=true)→Q (.ref p) H'
end N12
namespace L2
noncomputable def LikeN(K:PySem.W.Frag):Nat→Hp→V→V→Prop
 | 0,_,x,y=>x=y∧flatV x=true
 | n+1,H,x,y=>LikeN K n H x y∨∃a b xs ys,x= .ref a∧y= .ref b∧((SqL K H a xs∧SqL K H b ys)∨(SqT K H a xs∧SqT K H b ys))∧xs.length=ys.length∧∀(i:Nat) (x' y':V),xs[i]?=some x'→ys[i]?=some y'→LikeN K n H x' y'
noncomputable def LikeR(K:PySem.W.Frag)(n:Nat)(H:Hp)(x y:V):Prop:=∃a b xs ys,x= .ref a∧y= .ref b∧((SqL K H a xs∧SqL K H b ys)∨(SqT K H a xs∧SqT K H b ys))∧xs.length=ys.length∧∀(i:Nat) (x' y':V),xs[i]?=some x'→ys[i]?=some y'→LikeN K n H x' y'
theorem LikeN.up{K:PySem.W.Frag}{H:Hp}{n:Nat}{x y:V}(h:LikeN K n H x y):LikeN K (n+1) H x y:=by unfold LikeN;exact .inl h
theorem LikeN.of{K:PySem.W.Frag}{H:Hp}{n:Nat}{x y:V}(h:LikeR K n H x y):LikeN K (n+1) H x y:=by unfold LikeN;exact .inr h
theorem LikeN.flat{K:PySem.W.Frag}{H:Hp}{x:V}(h:flatV x=true):∀{n:Nat},LikeN K n H x x:=by
 intro n
 induction n with
 | zero=>unfold LikeN;exact ⟨rfl,h⟩
 | succ n ih=>exact ih.up
section
variable {X:Cx} {pins:List (Addr×Obj)} {σ:St} {H:Hp} {s:Shared}
theorem items_of{xs ys:List V}{us ws:List Value}{P:V→V→Prop}{R:Value→Value→Prop}(rx:Vals xs us)(ry:Vals ys ws)(hl:xs.length=ys.length)(h:∀(i:Nat) (x y:V),xs[i]?=some x→ys[i]?=some y→P x y)(k:∀x y u w,RelV x u→RelV y w→P x y→R u w):
 ∀j (h1:j < us.toArray.size) (h2:j < ws.toArray.size),R us.toArray[j] ws.toArray[j]:=by
 intro j h1 h2
 have lx:=rx.length
 have ly:=ry.length
 rw [List.size_toArray]at h1 h2
 have hx:j < xs.length:=by omega
 have hy:j < ys.length:=by omega
 obtain ⟨u,hu,ru⟩:=rx.get (i:=j) (x:=xs[j]) (by simp [hx])
 obtain ⟨w,hw,rw'⟩:=ry.get (i:=j) (x:=ys[j]) (by simp [hy])
 have eu:us.toArray[j]=u:=by
  have:=List.getElem?_eq_getElem h1
  rw [this]at hu
  simpa using hu
 have ew:ws.toArray[j]=w:=by
  have:=List.getElem?_eq_getElem h2
  rw [this]at hw
  simpa using hw
 rw [eu,ew]
 exact k _ _ _ _ ru rw' (h j _ _ (List.getElem?_eq_getElem hx) (List.getElem?_eq_getElem hy))
theorem all_true{n:Nat}:((List.range n).all fun _=>true)=true:=by rw [List.all_eq_true];intros;rfl
theorem likeR_rc{n:Nat}{x y:V}{u w:Value}{A:Around}(I:Inv X pins σ H s)(rx:RelV x u)(ry:RelV y w)(h:LikeR X.K n H x y)(hu:A.units < cLine)
 (k:∀x y u w,RelV x u→RelV y w→LikeN X.K n H x y→SeqAt.EqAt A.in1 s u w true):SeqAt.RcAt A s u w true∧SeqAt.RcNeAt A s u w false:=by
 obtain ⟨a,b,xs,ys,rfl,rfl,hq,hl,hall⟩:=h
 cases rx
 cases ry
 rcases hq with ⟨h1,h2⟩ | ⟨h1,h2⟩
 · obtain ⟨us,r1,p1,z1⟩:=I.list h1
   obtain ⟨ws,r2,p2,z2⟩:=I.list h2
   have lx:=r1.length
   have ly:=r2.length
   have he:=items_of r1 r2 hl hall k
   have c1:=SeqAt.RcAt.lists (e:=fun _=>true) p1.isList p2.isList (by simp;omega) hu he
   have c2:=SeqAt.RcNeAt.lists (e:=fun _=>true) p1.isList p2.isList (by simp;omega) hu he
   rw [all_true]at c1 c2
   exact ⟨c1,c2⟩
 · obtain ⟨us,r1,p1,z1⟩:=I.tuple h1
   obtain ⟨ws,r2,p2,z2⟩:=I.tuple h2
   have lx:=r1.length
   have ly:=r2.length
   have he:=items_of r1 r2 hl hall k
   have hsz:us.toArray.size=ws.toArray.size:=by simp;omega
   have c1:=SeqAt.RcAt.tuples (e:=fun _=>true) (show s.heap.IsTuple a us.toArray from p1) (show s.heap.IsTuple b ws.toArray from p2) hu he
   have c2:=SeqAt.RcNeAt.tuples (e:=fun _=>true) (show s.heap.IsTuple a us.toArray from p1) (show s.heap.IsTuple b ws.toArray from p2) hu he
   rw [all_true,hsz,beq_self_eq_true,Bool.and_true]at c1 c2
   exact ⟨c1,c2⟩
theorem likeN_at(I:Inv X pins σ H s):∀(n:Nat) (x y:V) (u w:Value) (A:Around),RelV x u→RelV y w→LikeN X.K n H x y→A.units+n < cLine→SeqAt.EqAt A s u w true:=by
 intro n
 induction n with
 | zero=>
  intro x y u w A rx ry h hu
  unfold LikeN at h
  obtain ⟨rfl,f⟩:=h
  have:=eqAt_V (A:=A) (s:=s) rx ry f f
  rw [show eqV x x=true from eqV_self f]at this
  exact this
 | succ n ih=>
  intro x y u w A rx ry h hu
  unfold LikeN at h
  rcases h with h | h
  · exact ih x y u w A rx ry h (by omega)
  · have c:=likeR_rc I rx ry h (by omega) (fun x y u w r1 r2 k=>ih x y u w A.in1 r1 r2 k (by show A.units+1+n < cLine;omega))
    obtain ⟨a,b,xs,ys,rfl,rfl,_⟩:=h
    cases rx
    cases ry
    by_cases e:a=b
    · subst e;exact SeqAt.EqAt.same _
    · exact SeqAt.EqAt.of_refs e c.1
noncomputable def rNeN(K:PySem.W.Frag)(n:Nat):R2:=fun x y H Q=>LikeR K n H x y∧Q (.bl false) H
theorem op_neN{k:Nat}(n:Nat)(hr:Room k X.A)(hn:n≤100:=by decide):OpR X (compareOp .NotEq) (rNeN X.K n):=by
 intro pins s σ H x y v u Q I rx ry h
 have hu:X.A.units < cLine:=Nat.lt_of_le_of_lt (by omega) hr.un
 exact (likeR_rc I rx ry h.1 hu (fun x y u w r1 r2 k=>likeN_at I n x y u w X.A.in1 r1 r2 k (by have:=hr.un;show X.A.units+1+n < cLine;omega))).2 X.prog X.w X.xe _ ⟨.bl false,H,I,rfl,h.2⟩
theorem rd_neN{K:PySem.W.Frag}{H:Hp}{Q:VK}{x y:V}{n:Nat}:rNeN K n x y H Q=(LikeR K n H x y∧Q (.bl false) H):=rfl
end
end L2
namespace L2
open PySem.W
noncomputable def rMaxV:List V→Hp→VK→Prop:=fun xs H Q=>∃(v d:Addr) (kvs:List (Key×V)) (is:List Int),xs=[.ref v]∧H v=some (viewO v d)∧H d=some (.dK kvs)∧kvs.map (·.2)=is.map V.int∧is≠[]∧∀m∈is,(∀x∈is,x≤m)→Q (.int m) H
section
variable {X:Cx}
theorem rd_maxV{xs:List V}{H:Hp}{Q:VK}:rMaxV xs H Q=∃(v d:Addr) (kvs:List (Key×V)) (is:List Int),xs=[.ref v]∧H v=some (viewO v d)∧H d=some (.dK kvs)∧kvs.map (·.2)=is.map V.int∧is≠[]∧∀m∈is,(∀x∈is,x≤m)→Q (.int m) H:=rfl
end
end L2
namespace N14
open L2 N1 N5 N4 N6 N12 N32
noncomputable abbrev Row:=Str×Bool×List Str
noncomputable def lyDs(ls:Ly)(gone:List Str):Ly:=gone.foldl lyD ls
noncomputable def okG(z:Str):Ly→List Str→Prop
 | _,[]=>True
 | ls,o::r=>o≠z∧o∈lyN ls∧okG z (lyD ls o) r
noncomputable def okRow(R:Str→Int)(n:Int)(ls:Ly)(z:Str)(row:Row):Prop:=row.1=z∧row.2.1=decide (z∈lyN ls)∧okG z ls row.2.2∧(z∉lyN ls→R z≤n - lyS (lyDs ls row.2.2))
noncomputable def stepL(R:Str→Int)(ls:Ly)(z:Str)(gone:List Str):Ly:=if z∈lyN ls then lyDs ls gone else lyDs ls gone++[(z,R z)]
noncomputable def lastL(R:Str→Int):Ly→List (Str×List Str)→Ly
 | ls,[]=>ls
 | ls,(z,g)::r=>lastL R (stepL R ls z g) r
structure BookAt(K:PySem.W.Frag)(H:Hp)(b:Addr)(as gs:List Addr)(rs:List Row):Prop where
 l:SqL K H b (as.map V.ref)
 n:as.length=rs.length
 m:gs.length=rs.length
 t:∀(i:Nat) (a g:Addr) (r:Row),as[i]?=some a→gs[i]?=some g→rs[i]?=some r→SqT K H a [.str r.1,.bl r.2.1,.ref g]∧SqL K H g (r.2.2.map V.str)
noncomputable def sp14_casts(K:PySem.W.Frag)(S:Addr):Sp:=fun vs H Q _=>∃(q p d g:Addr) (n:Int) (ls:Ly) (z:Str) (gone:List Str),vs=[.ref q,.str z,.ref g]∧ShelfAt S H q p d n ls∧SqL K H g (gone.map V.str)∧okG z ls gone∧
 ∀H',SameBut d H H'→ShelfAt S H' q p d n (lyDs ls gone)→Q (.bl true) H'
noncomputable def sp14_serves(K:PySem.W.Frag)(C S:Addr):Sp:=fun vs H Q _=>∃(q p d r g:Addr) (n:Int) (ls:Ly) (ts:List Th) (z:Str) (row:Row),vs=[.ref q,.str z,.ref r]∧ShelfAt S H q p d n ls∧StockX K C H p ts d∧(ts.map (·.1)).Nodup∧z∈ts.map (·.1)∧ls.length≤500∧SqT K H r [.str row.1,.bl row.2.1,.ref g]∧SqL K H g (row.2.2.map V.str)∧okRow (rm ts) n ls z row∧
 ∀H',SameBut d H H'→ShelfAt S H' q p d n (stepL (rm ts) ls z row.2.2)→Q (.bl true) H'
theorem rm_of{ts:List Th}{z:Str}{r:Int}(nd:(ts.map (·.1)).Nodup)(hz:z∈ts.map (·.1))(h:∀t∈ts,t.1=z→t.2.2=r):rm ts z=r:=by
 obtain ⟨i,t,ht,rfl⟩:=mem_nth hz
 rw [rm_at nd ht,h t (List.mem_of_getElem? ht) rfl]
theorem lyD_mem{ls:Ly}{z u:Str}:u∈lyN (lyD ls z)↔u∈lyN ls∧u≠z:=by
 unfold lyN lyD
 simp only [List.mem_map,List.mem_filter,decide_eq_true_eq]
 constructor
 · rintro ⟨x,⟨h1,h2⟩,rfl⟩;exact ⟨⟨x,h1,rfl⟩,h2⟩
 · rintro ⟨⟨x,h1,rfl⟩,h2⟩;exact ⟨x,⟨h1,h2⟩,rfl⟩
noncomputable def zipG(ys:List Str)(rs:List Row):List (Str×List Str):=ys.zip (rs.map (·.2.2))
noncomputable def stL(R:Str→Int)(ys:List Str)(rs:List Row)(i:Nat):Ly:=lastL R [] ((zipG ys rs).take i)
structure Lawful(R:Str→Int)(n:Int)(ys:List Str)(rs:List Row):Prop where
 len:ys.length=rs.length
 row:∀{i:Nat} {z:Str} {r:Row},ys[i]?=some z→rs[i]?=some r→okRow R n (stL R ys rs i) z r
structure Told(H H':Hp)(l:Addr)(qs:List Addr)(W:Nat→Ly)(n:Nat):Prop where
 L:H' l=some (.lst (qs.map V.ref))
 N:qs.length=n
 d:(l::qs).Nodup
 q:∀(j:Nat) (q:Addr),qs[j]?=some q→H q=none∧H' q=some (.lst ((lyN (W (j+1))).map V.str))
noncomputable def sp14_after(K:PySem.W.Frag)(C:Addr):Sp:=fun vs H Q _=>∃(p a b:Addr) (n:Int) (ts:List Th) (ys:List Str) (as gs:List Addr) (rs:List Row),vs=[.ref p,.ref a,.int n,.ref b]∧StockAt K C H p ts∧(ts.map (·.1)).Nodup∧SqL K H a (ys.map V.str)∧ys.length≤200∧(∀y∈ys,y∈ts.map (·.1))∧(∀y∈ys,rm ts y≤n)∧1≤n∧n≤1000000∧
 BookAt K H b as gs rs∧Lawful (rm ts) n ys rs∧∀l qs H',H l=none→Same H H'→Told H H' l qs (stL (rm ts) ys rs) ys.length→Q (.ref l) H'
theorem new_same{H H':Hp}{x dx:Addr}{o1 o2:HO}(h1:H x=none)(h2:H dx=none)(sb:SameBut x (upd (upd H dx o1) x o2) H'):Same H H':=fun b o e=>by
 have n1:b≠x:=fun h=>by rw [h,h1]at e;cases e
 have n2:b≠dx:=fun h=>by rw [h,h2]at e;cases e
 exact sb _ _ (by rw [upd_ne n1,upd_ne n2];exact e) n1
theorem new_none{H:Hp}{x dx d:Addr}{o1 o2:HO}(h:upd (upd H dx o1) x o2 d=none):H d=none:=by
 by_cases e1:d=x
 · rw [e1,upd_same]at h;cases h
 rw [upd_ne e1]at h
 by_cases e2:d=dx
 · rw [e2,upd_same]at h;cases h
 rw [upd_ne e2]at h;exact h
theorem same_none{H H':Hp}{d:Addr}(s:Same H H')(h:H' d=none):H d=none:=by
 cases e:H d with
 | none=>rfl
 | some o=>rw [s _ _ e]at h;cases h
theorem but_same{H H' H1:Hp}{d:Addr}(s:Same H H')(hd:H d=none)(sb:SameBut d H' H1):Same H H1:=fun b o e=>sb _ _ (s _ _ e) fun h=>by rw [h,hd]at e;cases e
structure OkL(R:Str→Int)(ns:List Str)(ls:Ly):Prop where
 nd:(lyN ls).Nodup
 r:∀x∈ls,x.2=R x.1
 s:∀u∈lyN ls,u∈ns
theorem OkL.nil{R:Str→Int}{ns:List Str}:OkL R ns []:=⟨List.nodup_nil,by simp,by simp [lyN]⟩
theorem OkL.drop{R:Str→Int}{ns:List Str}{ls:Ly}{z:Str}(h:OkL R ns ls):OkL R ns (lyD ls z):=
 ⟨by rw [lyD_names h.nd];exact h.nd.erase _,fun x hx=>h.r x (List.mem_filter.mp hx).1,fun u hu=>h.s u (lyD_mem.mp hu).1⟩
theorem OkL.put{R:Str→Int}{ns:List Str}{ls:Ly}{z:Str}(h:OkL R ns ls)(hz:z∉lyN ls)(hn:z∈ns):OkL R ns (ls++[(z,R z)]):=by
 have e:lyN (ls++[(z,R z)])=lyN ls++[z]:=by unfold lyN;rw [List.map_append];rfl
 refine ⟨?_,?_,?_⟩
 · rw [e,List.nodup_append]
   refine ⟨h.nd,by simp,fun y hy u hu=>?_⟩
   rw [List.mem_singleton]at hu
   rw [hu]
   exact fun e=>hz (e▸hy)
 · intro x hx
   rcases List.mem_append.mp hx with h1 | h1
   · exact h.r x h1
   · rw [List.mem_singleton.mp h1]
 · intro u hu
   rw [e]at hu
   rcases List.mem_append.mp hu with h1 | h1
   · exact h.s u h1
   · rw [List.mem_singleton.mp h1];exact hn
noncomputable def Kp(M:List Addr)(H H':Hp):Prop:=∀b o,b∉M→H b=some o→H' b=some o
theorem Kp.trans{M:List Addr}{H H1 H2:Hp}(h1:Kp M H H1)(h2:Kp M H1 H2):Kp M H H2:=fun b o n e=>h2 b o n (h1 b o n e)
theorem Kp.of{M:List Addr}{H H1:Hp}(h:Same H H1):Kp M H H1:=fun b o _ e=>h b o e
theorem Kp.upd{M:List Addr}{H H1:Hp}{p:Addr}{o:HO}(h:Kp M H H1)(hp:p∈M):Kp M H (upd H1 p o):=fun b u n e=>by
 have hb:b≠p:=fun e2=>n (by rw [e2];exact hp)
 rw [upd_ne hb];exact h b u n e
theorem Kp.same{M:List Addr}{H0 H H1:Hp}(s:Same H0 H)(h:Kp M H H1)(hn:∀p∈M,H0 p=none):Same H0 H1:=fun b o e=>h b o (fun hb=>by rw [hn b hb]at e;cases e) (s b o e)
theorem at_snoc{α:Type}{xs:List α}{y z:α}{i:Nat}(h:(xs++[y])[i]?=some z):(i < xs.length∧xs[i]?=some z)∨(i=xs.length∧z=y):=by
 rcases Nat.lt_or_ge i xs.length with h1 | h1
 · rw [List.getElem?_append_left h1]at h;exact .inl ⟨h1,h⟩
 · rw [List.getElem?_append_right h1]at h
   rcases Nat.eq_zero_or_pos (i - xs.length) with e | e
   · rw [e]at h;cases h;exact .inr ⟨by omega,rfl⟩
   · rw [List.getElem?_eq_none (by simp;omega)]at h;cases h
theorem strs_like{K:PySem.W.Frag}{H:Hp}{g g2:Addr}{xs:List Str}(h1:SqL K H g (xs.map V.str))(h2:SqL K H g2 (xs.map V.str)):LikeN K 1 H (.ref g) (.ref g2):=by
 refine LikeN.of ⟨g,g2,_,_,rfl,rfl,.inl ⟨h1,h2⟩,rfl,fun i x y e1 e2=>?_⟩
 rw [e1]at e2
 cases e2
 rw [List.getElem?_map]at e1
 cases e:xs[i]? with
 | none=>rw [e]at e1;cases e1
 | some s=>rw [e]at e1;cases e1;exact LikeN.flat rfl
end N14
namespace L2
structure DefB(P:Program)(w:World)(K:PySem.W.Frag)(mg:Str→Option Value)(base:Heap)(CX:CXT)(k:Nat)(x:Str)(C:Addr)(ps:List Str)(sp:Sp):Prop where
 ex:∃(f:Addr) (fd:FuncData),FnOk P w K mg base CX k f fd ps sp∧Mk K C f∧mg x=some (.ref C)∧Binds K fd ps []∧PySem.W.findCls K (.ref C) (.type "type") "__init__"=some (.val (.ref f))∧PySem.W.keepIn K (.ref f)=true
 sp:PySem.W.specialIn K (.ref C) "__getattribute__"=some (some (.builtin "type.__getattribute__"))
 rd:PySem.W.readsIn K C (.type "type")=true
theorem DefB.toI{P:Program}{w:World}{K:PySem.W.Frag}{mg:Str→Option Value}{base:Heap}{CX:CXT}{k:Nat}{x:Str}{C:Addr}{ps:List Str}{sp:Sp}(D:DefB P w K mg base CX k x C ps sp):DefI P w K mg base CX k x C ps sp:=
 let ⟨f,fd,a,b,c,d,_⟩:=D.ex;⟨f,fd,a,b,c,d⟩
noncomputable def tCallS(sp:Sp)(EE:St→XK)(t:TA):TE:=fun σ H Q=>t σ H fun vs H1=>sp vs H1 Q (EE σ)
section
variable {X:Cx} {CX:CXT} {k j:Nat} {C:Addr} {ps:List Str} {sp:Sp} {EE:St→XK} {x:Str} {pos apos:Pos} {e o:Expr} {es:List Expr} {t:TA}
theorem pe_initC{pl:Sem Bool}(D:DefB X.prog X.w X.K X.mg X.base CX j x C ps sp)(hr:Room k X.A)(hx:PassesS CX X EE)(he:PE X o (tC (.ref C)))(ha:PA X (e::es) t)(hj:j≤k:=by decide)
 (hst:starEach (e::es) X.env=(false,eval e X.env)::starEach es X.env:=by rfl) (hpl:(backTo pos (starEach es X.env)).any (·.1)=false:=by rfl)
 (ht:eval (.Call (.Attribute o "__init__" apos) (e::es) [] pos) X.env=(do
  let ov ← eval o X.env
  standAt apos.atName
  let (f,first) ← holding [ov] (getMethod ov "__init__" pl)
  callWith pos f first (backTo pos (starEach (e::es) X.env)) (backToKw pos (keywordEach [] X.env))):=by rfl):
 PE X (.Call (.Attribute o "__init__" apos) (e::es) [] pos) (tCallS sp EE t):=by
 obtain ⟨f,fd,F,M,hm,hb,hc,hk⟩:=D.ex
 intro pins s σ H Q I h
 refine PySem.W.methodCall_KW (pl:=pl) (thn (he pins s σ H (fun v H1=>v= .ref C∧t σ H1 fun vs H2=>sp vs H2 Q (EE σ)) I ⟨rfl,h⟩) fun u s1 hq_=>?_) ht
 obtain ⟨x,H1,I1,rx,q⟩:=hq_
 obtain ⟨rfl,q⟩:=q
 obtain rfl:u=Value.ref C:=rx
 refine PySem.W.method_cls I1.kIn D.sp (PySem.W.cls_value I1.kIn D.rd hc rfl ?_)
 have I2:=I1.tok (s1.toks+1)
 exact PySem.W.callWith_K (first:=[]) (h₀:=X.base) I.ok.mod.kin hk (thn (ha pos pins _ σ H1 _ I2 q) fun us s2 ⟨vs,H2,I3,r,q2⟩=>⟨I3.kIn,run_fnS (us:=us) (vs:=vs) (F.mono hj) hr hb hx I3 r q2⟩) hst hpl
theorem rd_callS{σ:St}{H:Hp}{Q:VK}:tCallS sp EE t σ H Q=t σ H fun vs H1=>sp vs H1 Q (EE σ):=rfl
end
end L2
namespace L2
noncomputable def ipM:TIp:=fun x y H Q=>∃i j,x= .int i∧y= .int j∧CMul i j∧Q (.int (i * j)) H
theorem rd_ipM{x y:V}{H:Hp}{Q:VK}:ipM x y H Q=∃i j,x= .int i∧y= .int j∧CMul i j∧Q (.int (i * j)) H:=rfl
end L2
namespace L2
section
variable {X:Cx} {pins:List (Addr×Obj)} {σ:St} {H:Hp} {s:Shared} {a C dx g:Addr} {fs:List (Str×V)} {m:Str} {A:Around} {E:Value→Shared→Prop}
theorem getbound_ok{b:Bool}{Q:Value→Shared→Prop}(I:Inv X pins σ H s)(e:H a=some (.ins C dx fs))(c:Cls X.K C)(k:Meth X.K C m g)(l:fs.lookup m=none)
 (hgf:PySem.W.specialIn X.K (.ref g) "__get__"=some (some (.builtin "function.__get__"))) (ht:PySem.W.takesIn X.K (.ref g)=some false) (hc:PySem.W.copiedNames.contains m=false)
 (h:Q (.ref s.heap.objs.size) {s with heap:=s.heap.push (PySem.W.methodObj (.ref g) (.ref a)),toks:=s.toks+1}):wpAny (model X.prog X.w) A (getAttr (.ref a) m b) Q E s:=by
 obtain ⟨mA,O,r,_,_,_⟩:=ins_get I.hok e
 have hn:mA m=none:=RelO.none_of (by rw [← l];exact r m)
 obtain ⟨od,J,hl⟩:=O.look
 have hK:X.K.In ({s with toks:=s.toks+1}:Shared).heap:=I.kIn
 exact PySem.W.get_bind I.kIn J (PySem.W.plainGet_of (c.get m)).1 (PySem.W.findObj_fn c.hd k.at_ hgf ht hc (by rw [hl,hn])) (PySem.W.plainGet_of (c.get m)).2
  (wpAny_call (PySem.W.fn_get (s:={s with toks:=s.toks+1}) hK (beq_iff_eq.mp k.fn) (PySem.W.handed_on rfl h)))
end
end L2
namespace L2
section
variable {X:Cx} {k:Nat} {f a q:Addr} {fd:FuncData} {ps:List Str} {sp:Sp}
theorem run_bound0{pins:List (Addr×Obj)}{σ:St}{H:Hp}{s:Shared}{Q:VK}{us:List Value}{vs:List V}{E:Value→Shared→Prop}(F:FnOk X.prog X.w X.K X.mg X.base CX0 k f fd ps sp)(hr:Room (k+1) X.A)(hb:Binds X.K fd ps [])
 (I:Inv X pins σ H s) (r:Vals vs us) (hq:s.heap.get? q=some (PySem.W.methodObj (.ref f) (.ref a))) (h:sp (.ref a::vs) H Q E0):wpAny (model X.prog X.w) X.A.in1 (call (.ref q) us) (EP X pins σ Q) E s:=by
 have r':Vals (V.ref a::vs) (Value.ref a::us):= .cons rfl r
 have hl:(Value.ref a::us).length=ps.length:=by rw [← r'.length];exact F.len _ _ _ _ h
 have hb':=hb s (Value.ref a::us) I.kIn (by simpa using hl)
 rw [List.append_nil]at hb'
 refine wpAny_call (ks_codeAny_call_bound (a:=⟨us,[]⟩) hq (codeAny_mono (F.run X.A.in1 X.stack s H ⟨Value.ref a::us,[]⟩ (Value.ref a::us) (V.ref a::vs) Q E0 hr.in1 (Env0.in1 I.env0) hb' r' h) fun r s' hq=>?_))
 cases r with
 | error e=>exact False.elim hq
 | ok fl=>
  cases fl with
  | ret u=>exact I.after hq
  | next=>exact False.elim hq
  | brk=>exact False.elim hq
  | cont=>exact False.elim hq
end
noncomputable def btK(kf:Nat→List Int):Nat→Nat→Bool:=fun i j=>HT.lexLt (kf i) (kf j)
section
variable {X:Cx} {pins:List (Addr×Obj)} {σ:St} {k:Nat} {g a q mo it S:Addr} {fd:FuncData} {ps:List Str} {sp:Sp} {H0:Hp} {xs:List V} {kf:Nat→List Int} {R:Result→Shared→Prop}
theorem Inv.turn1{H:Hp}{s:Shared}{b:Addr}{h':Heap}{t':Nat}(I:Inv X pins σ H s)(fp:FpOk X pins H b)(hk:∀c o,c≠b→s.heap.get? c=some o→h'.get? c=some o):Inv X pins σ H {s with heap:=h',toks:=t'}:=
 I.turned hk fp.1 fp.2.1 fp.2.2.2.1 fp.2.2.2.2.1 fp.2.2.2.2.2
theorem FpOk.at{H H':Hp}{b:Addr}(h:FpOk X pins H b)(hn:H' b=none):FpOk X pins H' b:=⟨hn,h.2⟩
theorem minK_loop(F:FnOk X.prog X.w X.K X.mg X.base CX0 k g fd ps sp)(hr:Room (k+1) X.A)(hb:Binds X.K fd ps [])(hq:SqL X.K H0 a xs)(hai:a≠it)
 (turn:∀i v,xs[i]?=some v→∀H',Same H0 H'→sp [.ref q,v] H' (fun u H''=>Same H' H''∧∃t,u= .ref t∧H'' t=some (.tup ((kf i).map V.int))) E0)
 (hR:∀v u H' s',Same H0 H'→Inv X pins σ H' s'→RelV v u→xs[argBest (btK kf) (xs.length - 1)]?=some v→R (.ok (.ret u)) s')
 (nmi:mo≠it) (nms:mo≠S) (nis:it≠S):
 ∀(r j:Nat) (s:Shared) (H:Hp) (vb:Value) (t:Addr) (c:Nat) (v0:V),xs.length - (j+1)=r→j+1≤xs.length→Inv X pins σ H s→Same H0 H→FpOk X pins H mo→FpOk X pins H it→FpOk X pins H S→
   s.heap.get? mo=some (PySem.W.methodObj (.ref g) (.ref q))→s.heap.get? S=some (seqObj "list" #[vb,.ref t] c)→s.heap.IsListIter it a (j+1)→
   xs[argBest (btK kf) j]?=some v0→RelV v0 vb→H t=some (.tup ((kf (argBest (btK kf) j)).map V.int))→
   codeAny (model X.prog X.w) X.A (.builtin "min.loop" ⟨[.ref it,.ref mo,.ref S],[]⟩) R s:=by
 have hname:(toString "min"++toString ".loop":String)="min.loop":=by decide
 have hh:X.A.in1.handled=none:=hr.hd
 intro r
 induction r with
 | zero=>
  intro j s H vb t c v0 hrr hj I sm fm fi fs gm gS hit hx0 rv0 ht
  obtain ⟨its,rv,p,hz⟩:=I.list (sm.seq hq)
  have hln:=rv.length
  have W:=Walks.list (prog:=X.prog) (w:=X.w) (A:=X.A.in1) hh it a hai its.toArray
  have hsz:its.toArray.size=xs.length:=by rw [List.size_toArray,hln]
  have hin:j+1=xs.length:=by omega
  refine codeAny_builtin PySem.F.entry_min_loop ?_
  rw [Around.under_plainId PySem.F.plain_min_loop _]
  show wpAny _ X.A.in1 (seqItems? (.ref S) >>=_) _ _ _
  refine wpAny_bind (wpAny_seqItems gS rfl ?_)
  show wpAny _ X.A.in1 (tryCatch (pyNext (.ref it)) _ >>=_) _ _ _
  refine wpAny_bind (wpAny_tryCatch (W.done _ _ _ ⟨by rw [hsz,← hin];exact hit,p.isList⟩ fun h' tk' hk'=>?_))
  have hk2:∀b o,b≠it→s.heap.get? b=some o→h'.get? b=some o:=fun b o e=>hk' b o (by simpa using e)
  have I1:Inv X pins σ H {s with heap:=h',toks:=tk'}:=I.turn1 fi hk2
  have gS':=hk2 S _ (Ne.symm nis) gS
  have s1:=Heap.SameBut.update h' S (Obj.mapSeq fun _=>(#[]:Array Value))
  show wpAny _ X.A.in1 (updateSeq S (fun _=>#[]) >>=_) _ _ _
  refine wpAny_bind ?_
  refine wpAny_updateSeq gS' rfl (wpAny_bind (wpAny_letGo (wpAny_pure ?_)))
  refine hR v0 vb H _ sm (I1.turn1 (t':=tk') fs fun b o e e2=>(s1.2 b e).trans e2) rv0 ?_
  rw [show xs.length - 1=j by omega]
  exact hx0
 | succ r ih=>
  intro j s H vb t c v0 hrr hj I sm fm fi fs gm gS hit hx0 rv0 ht
  obtain ⟨its,rv,p,hz⟩:=I.list (sm.seq hq)
  have hln:=rv.length
  have W:=Walks.list (prog:=X.prog) (w:=X.w) (A:=X.A.in1) hh it a hai its.toArray
  have hsz:its.toArray.size=xs.length:=by rw [List.size_toArray,hln]
  have hlt:j+1 < xs.length:=by omega
  refine codeAny_builtin PySem.F.entry_min_loop ?_
  rw [Around.under_plainId PySem.F.plain_min_loop _]
  show wpAny _ X.A.in1 (seqItems? (.ref S) >>=_) _ _ _
  refine wpAny_bind (wpAny_seqItems gS rfl ?_)
  show wpAny _ X.A.in1 (tryCatch (pyNext (.ref it)) _ >>=_) _ _ _
  refine wpAny_bind (wpAny_tryCatch (W.item (j+1) _ _ _ (by rw [hsz];exact hlt) ⟨hit,p.isList⟩ fun v h' tk' hP hst' hk'=>?_))
  have hk2:∀b o,b≠it→s.heap.get? b=some o→h'.get? b=some o:=fun b o e=>hk' b o (by simpa using e)
  have hxj:=List.getElem?_eq_getElem hlt
  obtain ⟨v',hv',rv'⟩:=rv.get hxj
  have hvv:v'=v:=by
   have:its[j+1]?=some v:=by simpa using hP
   rw [hv']at this;exact Option.some.inj this
  subst hvv
  obtain ⟨oI',hoI',hoc,hod⟩:=id hst'.1
  have I1:Inv X pins σ H {s with heap:=h',toks:=tk'}:=I.turn1 fi hk2
  have gS':=hk2 S _ (Ne.symm nis) gS
  have gm':=hk2 mo _ nmi gm
  have I1p:Inv X (pins++[(mo,PySem.W.methodObj (.ref g) (.ref q)),(S,seqObj "list" #[vb,.ref t] c),(it,oI')]) σ H {s with heap:=h',toks:=tk'}:=I1.pins_of fun p hp=>by
   rcases List.mem_append.mp hp with hp | hp
   · exact I1.pin p (List.mem_append_right _ hp)
   · simp only [List.mem_cons,List.not_mem_nil,or_false]at hp
     rcases hp with rfl | rfl | rfl
     · exact ⟨gm',fm.1,fm.2.1,fm.2.2.1,fun v e=>by cases e⟩
     · exact ⟨gS',fs.1,fs.2.1,fs.2.2.1,fun v e=>by cases e⟩
     · exact ⟨hoI',fi.1,fi.2.1,fi.2.2.1,fun v e=>by rw [hod]at e;cases e⟩
  show wpAny _ X.A.in1 (tryCatch (holding [v'] (call (.ref mo) [v'])) _ >>=_) _ _ _
  refine wpAny_bind (wpAny_tryCatch (wpAny_holding (thn (run_bound0 (vs:=[xs[j+1]]) F hr hb I1p (.cons rv' .nil) gm' (turn (j+1) _ hxj H sm)) fun x s2 he=>?_)))
  obtain ⟨y,H2,I2p,ry,sm2,t2,rfl,ht2⟩:=he
  obtain rfl:x=Value.ref t2:=ry
  have P2:=fun p hp=>I2p.pin p (List.mem_append_right _ (List.mem_append_right _ hp))
  have pm:=P2 (mo,PySem.W.methodObj (.ref g) (.ref q)) (by simp)
  have pS:=P2 (S,seqObj "list" #[vb,.ref t] c) (by simp)
  have pI:=P2 (it,oI') (by simp)
  have I2:Inv X pins σ H2 s2:=I2p.pins_of fun p hp=>I2p.pin p (List.mem_append_right _ (List.mem_append_left _ hp))
  have hit2:s2.heap.IsListIter it a (j+1+1):=⟨oI',pI.1,hoc,hod⟩
  have smx:=sm.trans sm2
  have ht':=sm2 _ _ ht
  obtain ⟨us1,r1,p1,_⟩:=I2.tuple (SqT.of ht2)
  obtain ⟨us2,r2,p2,_⟩:=I2.tuple (SqT.of ht')
  have hu:X.A.in1.units < cLine:=Nat.lt_of_le_of_lt (by omega) hr.in1.un
  show wpAny _ X.A.in1 (tryCatch (holding [v',.ref t2] (richCompare .Lt (.ref t2) (.ref t) >>=_)) _ >>=_) _ _ _
  refine wpAny_bind (wpAny_tryCatch (wpAny_holding (wpAny_bind (HT.lt_tupInts p1 p2 (intsAre_of r1) (intsAre_of r2) hu ?_))))
  refine wpAny_bind (wpAny_holding (wpAny_truthy_bool ?_))
  refine wpAny_bind (wpAny_letGo (wpAny_pure ?_))
  have eB:argBest (btK kf) (j+1)=if HT.lexLt (kf (j+1)) (kf (argBest (btK kf) j))=true then j+1 else argBest (btK kf) j:=rfl
  by_cases hb':HT.lexLt (kf (j+1)) (kf (argBest (btK kf) j))=true
  · have s1:=Heap.SameBut.update s2.heap S (Obj.mapSeq fun _=>#[v',.ref t2])
    obtain ⟨c2,hc2⟩:∃c2,(s2.heap.update S (Obj.mapSeq fun _=>#[v',.ref t2])).get? S=some (seqObj "list" #[v',.ref t2] c2):=⟨_,get?_update_seq pS.1 fun _=>#[v',.ref t2]⟩
    rw [if_pos hb']at eB
    simp only [hb',if_true]
    refine wpAny_bind ?_
    refine wpAny_updateSeq pS.1 rfl (wpAny_bind (wpAny_letGo ?_))
    rw [hname]
    have I3:Inv X pins σ H2 {s2 with heap:=s2.heap.update S (Obj.mapSeq fun _=>#[v',.ref t2]),toks:=s2.toks}:=I2.turn1 (fs.at pS.2.1) fun b o e e2=>(s1.2 b e).trans e2
    exact wpAny_pure ⟨plainId_quiet PySem.F.plain_min_loop _,ih (j+1) _ H2 v' t2 c2 _ (by omega) hlt I3 smx (fm.at pm.2.1) (fi.at pI.2.1) (fs.at pS.2.1) ((s1.2 mo nms).trans pm.1) hc2 ⟨oI',(s1.2 it nis).trans pI.1,hoc,hod⟩ (by rw [eB];exact hxj) rv' (by rw [eB];exact ht2)⟩
  · rw [if_neg hb']at eB
    simp only [hb',Bool.false_eq_true,if_false]
    refine wpAny_bind (wpAny_letGo ?_)
    rw [hname]
    exact wpAny_pure ⟨plainId_quiet PySem.F.plain_min_loop _,ih (j+1) s2 H2 vb t c v0 (by omega) hlt I2 smx (fm.at pm.2.1) (fi.at pI.2.1) (fs.at pS.2.1) pm.1 pS.1 hit2 (by rw [eB];exact hx0) rv0 (by rw [eB];exact ht')⟩
end
section
variable {X:Cx} {pins:List (Addr×Obj)} {σ:St} {k:Nat} {g a q mo:Addr} {fd:FuncData} {ps:List Str} {sp:Sp} {H:Hp} {s:Shared} {xs:List V} {kf:Nat→List Int} {Q:VK}
theorem minK_call(F:FnOk X.prog X.w X.K X.mg X.base CX0 k g fd ps sp)(hr:Room (k+1) X.A)(hb:Binds X.K fd ps [])(I:Inv X pins σ H s)(hq:SqL X.K H a xs)(hne:xs≠[])
 (gm:s.heap.get? mo=some (PySem.W.methodObj (.ref g) (.ref q))) (fm:FpOk X pins H mo)
 (turn:∀i v,xs[i]?=some v→∀H',Same H H'→sp [.ref q,v] H' (fun u H''=>Same H' H''∧∃t,u= .ref t∧H'' t=some (.tup ((kf i).map V.int))) E0)
 (hQ:∀v H',Same H H'→xs[argBest (btK kf) (xs.length - 1)]?=some v→Q v H'):
 wpAny (model X.prog X.w) X.A (call (.builtin "min") [.ref a] [(Str.ofString "key",.ref mo)]) (EP X pins σ Q) X.xe s:=by
 have hname:(toString "min"++toString ".loop":String)="min.loop":=by decide
 have hh:X.A.in1.handled=none:=hr.hd
 obtain ⟨its,rv,p,hz⟩:=I.list hq
 have hln:=rv.length
 have hpos:0 < xs.length:=List.length_pos_iff.mpr hne
 have hla:a < s.heap.objs.size:=by obtain ⟨o,n,e,_⟩:=p;exact Heap.lt_size e
 have hlm:mo < s.heap.objs.size:=Heap.lt_size gm
 refine kmk_tree PySem.F.kind_min PySem.F.plain_min PySem.F.entry_min (kmk_min_key _ _) ?_
 show wpAny _ X.A.in1 (Builtin.Builtins.bindParams "min" ["key","default"] 0 ⟨[],[(Str.ofString "key",.ref mo)]⟩ >>=_) _ _ s
 refine wpAny_bind (wpAny_of_eq (show Builtin.Builtins.bindParams "min" ["key","default"] 0 ⟨[],[(Str.ofString "key",.ref mo)]⟩=pure [some (.ref mo),none] from rfl) ?_)
 refine wpAny_bind (wpAny_pure ?_)
 refine wpAny_bind (wpAny_pyIter_list p.isList ?_)
 refine wpAny_bind (wpAny_newList ?_ (Nat.zero_le _))
 rw [hname]
 refine wpAny_pure ⟨plainId_quiet PySem.F.plain_min_loop _,?_⟩
 have hS:(s.heap.push {cls:= .type "list_iterator",data:= .fields #[.ref a,.int 0 0]}).objs.size=s.heap.objs.size+1:=size_push' ..
 generalize hSe:(s.heap.push {cls:= .type "list_iterator",data:= .fields #[.ref a,.int 0 0]}).objs.size=S at hS
 have hai:a≠s.heap.objs.size:=Nat.ne_of_lt hla
 have nmi:mo≠s.heap.objs.size:=Nat.ne_of_lt hlm
 have nms:mo≠S:=by rw [hS];exact Nat.ne_of_lt (Nat.lt_succ_of_lt hlm)
 have nis:s.heap.objs.size≠S:=by rw [hS];exact Nat.ne_of_lt (Nat.lt_succ_self _)
 have k1:∀b o,s.heap.get? b=some o→((s.heap.push {cls:= .type "list_iterator",data:= .fields #[.ref a,.int 0 0]}).push (seqObj "list" #[] 0)).get? b=some o:=fun b o e=>Heap.get?_push_of_some _ (Heap.get?_push_of_some _ e)
 have fi:FpOk X pins H s.heap.objs.size:=I.fpOk (Nat.le_refl _) (I.hok.fresh (Nat.le_refl _))
 have fs:FpOk X pins H S:=I.fpOk (by rw [hS];exact Nat.le_succ _) (I.hok.fresh (by rw [hS];exact Nat.le_succ _))
 have gI:((s.heap.push {cls:= .type "list_iterator",data:= .fields #[.ref a,.int 0 0]}).push (seqObj "list" #[] 0)).get? s.heap.objs.size=some {cls:= .type "list_iterator",data:= .fields #[.ref a,.int 0 0]}:=Heap.get?_push_of_some _ (Heap.get?_push_size _ rfl)
 have gS:((s.heap.push {cls:= .type "list_iterator",data:= .fields #[.ref a,.int 0 0]}).push (seqObj "list" #[] 0)).get? S=some (seqObj "list" #[] 0):=by rw [← hSe];exact Heap.get?_push_size _ rfl
 have gm1:=k1 _ _ gm
 have I1:Inv X pins σ H {s with heap:=(s.heap.push {cls:= .type "list_iterator",data:= .fields #[.ref a,.int 0 0]}).push (seqObj "list" #[] 0),toks:=s.toks}:=I.kept k1
 obtain ⟨its',rv1,p1,_⟩:=I1.list hq
 have hln1:=rv1.length
 have W:=Walks.list (prog:=X.prog) (w:=X.w) (A:=X.A.in1) hh s.heap.objs.size a hai its'.toArray
 have hsz:its'.toArray.size=xs.length:=by rw [List.size_toArray,hln1]
 refine codeAny_builtin PySem.F.entry_min_loop ?_
 rw [Around.under_plainId PySem.F.plain_min_loop _]
 show wpAny _ X.A.in1 (seqItems? (.ref S) >>=_) _ _ _
 refine wpAny_bind (wpAny_seqItems gS rfl ?_)
 show wpAny _ X.A.in1 (tryCatch (pyNext (.ref s.heap.objs.size)) _ >>=_) _ _ _
 refine wpAny_bind (wpAny_tryCatch (W.item 0 _ _ _ (by rw [hsz];exact hpos) ⟨⟨_,gI,rfl,rfl⟩,p1.isList⟩ fun v h' tk' hP hst' hk'=>?_))
 have hk2:∀b o,b≠s.heap.objs.size→((s.heap.push {cls:= .type "list_iterator",data:= .fields #[.ref a,.int 0 0]}).push (seqObj "list" #[] 0)).get? b=some o→h'.get? b=some o:=fun b o e=>hk' b o (by simpa using e)
 have hx0:=List.getElem?_eq_getElem hpos
 obtain ⟨v',hv',rv'⟩:=rv1.get hx0
 have hvv:v'=v:=by
  have:its'[0]?=some v:=by simpa using hP
  rw [hv']at this;exact Option.some.inj this
 subst hvv
 obtain ⟨oI',hoI',hoc,hod⟩:=id hst'.1
 have I2:Inv X pins σ H {s with heap:=h',toks:=tk'}:=I1.turn1 fi hk2
 have gS':=hk2 S _ (Ne.symm nis) gS
 have gm':=hk2 mo _ nmi gm1
 have I2p:Inv X (pins++[(mo,PySem.W.methodObj (.ref g) (.ref q)),(S,seqObj "list" #[] 0),(s.heap.objs.size,oI')]) σ H {s with heap:=h',toks:=tk'}:=I2.pins_of fun p hp=>by
  rcases List.mem_append.mp hp with hp | hp
  · exact I2.pin p (List.mem_append_right _ hp)
  · simp only [List.mem_cons,List.not_mem_nil,or_false]at hp
    rcases hp with rfl | rfl | rfl
    · exact ⟨gm',fm.1,fm.2.1,fm.2.2.1,fun v e=>by cases e⟩
    · exact ⟨gS',fs.1,fs.2.1,fs.2.2.1,fun v e=>by cases e⟩
    · exact ⟨hoI',fi.1,fi.2.1,fi.2.2.1,fun v e=>by rw [hod]at e;cases e⟩
 show wpAny _ X.A.in1 (tryCatch (holding [v'] (call (.ref mo) [v'])) _ >>=_) _ _ _
 refine wpAny_bind (wpAny_tryCatch (wpAny_holding (thn (run_bound0 (vs:=[xs[0]]) F hr hb I2p (.cons rv' .nil) gm' (turn 0 _ hx0 H (Same.refl H))) fun x s2 he=>?_)))
 obtain ⟨y,H2,I3p,ry,sm2,t2,rfl,ht2⟩:=he
 obtain rfl:x=Value.ref t2:=ry
 have P2:=fun p hp=>I3p.pin p (List.mem_append_right _ (List.mem_append_right _ hp))
 have pm:=P2 (mo,PySem.W.methodObj (.ref g) (.ref q)) (by simp)
 have pS:=P2 (S,seqObj "list" #[] 0) (by simp)
 have pI:=P2 (s.heap.objs.size,oI') (by simp)
 have I3:Inv X pins σ H2 s2:=I3p.pins_of fun p hp=>I3p.pin p (List.mem_append_right _ (List.mem_append_left _ hp))
 have s1:=Heap.SameBut.update s2.heap S (Obj.mapSeq fun _=>#[v',.ref t2])
 obtain ⟨c2,hc2⟩:∃c2,(s2.heap.update S (Obj.mapSeq fun _=>#[v',.ref t2])).get? S=some (seqObj "list" #[v',.ref t2] c2):=⟨_,get?_update_seq pS.1 fun _=>#[v',.ref t2]⟩
 show wpAny _ X.A.in1 (updateSeq S (fun _=>#[v',.ref t2]) >>=_) _ _ _
 refine wpAny_bind ?_
 refine wpAny_updateSeq pS.1 rfl ?_
 rw [hname]
 have I4:Inv X pins σ H2 {s2 with heap:=s2.heap.update S (Obj.mapSeq fun _=>#[v',.ref t2]),toks:=s2.toks}:=I3.turn1 (fs.at pS.2.1) fun b o e e2=>(s1.2 b e).trans e2
 refine wpAny_pure ⟨plainId_quiet PySem.F.plain_min_loop _,minK_loop (H0:=H) (kf:=kf) (xs:=xs) (a:=a) F hr hb hq hai turn (fun v u H' s' smH I' ru hv=>?_) nmi nms nis _ 0 _ H2 v' t2 c2 xs[0] rfl hpos I4 sm2 (fm.at pm.2.1) (fi.at pI.2.1) (fs.at pS.2.1) ((s1.2 mo nms).trans pm.1) hc2 ⟨oI',(s1.2 _ nis).trans pI.1,hoc,hod⟩ hx0 rv' ht2⟩
 exact ⟨v,H',I',ru,hQ v H' smH hv⟩
end
structure DefV(P:Program)(w:World)(K:PySem.W.Frag)(mg:Str→Option Value)(base:Heap)(k:Nat)(C:Addr)(m:Str)(ps:List Str)(sp:Sp):Prop where
 ex:∃(f:Addr) (fd:FuncData),FnOk P w K mg base CX0 k f fd ps sp∧Meth K C m f∧Binds K fd ps []∧PySem.W.specialIn K (.ref f) "__get__"=some (some (.builtin "function.__get__"))∧PySem.W.takesIn K (.ref f)=some false
noncomputable def tMinK(K:PySem.W.Frag)(C:Addr)(m:Str)(sp:Sp)(ta:TA)(to:TE):TE:=fun σ H Q=>ta σ H fun vs H1=>to σ H1 fun o H2=>∃(a q dx:Addr) (fs:List (Str×V)) (xs:List V) (kf:Nat→List Int),vs=[.ref a]∧o= .ref q∧H2 q=some (.ins C dx fs)∧fs.lookup m=none∧SqL K H2 a xs∧xs≠[]∧
 (∀i v,xs[i]?=some v→∀H',Same H2 H'→sp [.ref q,v] H' (fun u H''=>Same H' H''∧∃t,u= .ref t∧H'' t=some (.tup ((kf i).map V.int))) E0)∧∀v H',Same H2 H'→xs[argBest (btK kf) (xs.length - 1)]?=some v→Q v H'
section
variable {X:Cx} {k j:Nat} {C:Addr} {ps:List Str} {sp:Sp} {m:Str} {x:Str} {p pos apos kp:Pos} {e o:Expr} {t:TA} {to:TE}
theorem pe_minK(D:DefV X.prog X.w X.K X.mg X.base j C m ps sp)(c:Cls X.K C)(hr:Room k X.A)(hg:Gl X x)(hm:X.mg x=none)(hv:bootBuiltins x=some (.builtin "min"))(ha:PA X [e] t)(ho:PE X o to)(hba:attributeBase o m X.env (eval o X.env)=eval o X.env)(hcn:PySem.W.copiedNames.contains m=false:=by decide+kernel)(hj:j+1≤k:=by decide)(hn:x≠"__name__":=by decide)(hdb:(x==("__debug__":Str))=false:=by decide)
 (he:backTo pos (starEach [e] X.env)=(false,eval e X.env)::backTo pos (starEach [] X.env):=by rfl) (hpl:(backTo pos (starEach [e] X.env)).any (·.1)=false:=by rfl):
 PE X (.Call (.Name x p) [e] [⟨some (Str.ofString "key"),.Attribute o m apos,kp⟩] pos) (tMinK X.K C m sp t to):=by
 obtain ⟨g,fd,F,M,hb,hgf,htk⟩:=D.ex
 intro pins s σ H Q I h
 refine wpAny_Call_Name_kw (ld_blt I hg hm hv ?_ hn hdb)
 refine callWith_kw (thn (ha pos pins s σ H _ I h) fun us s1 hq_=>?_) he hpl
 obtain ⟨vs,H1,I1,r1,q1⟩:=hq_
 refine kws_cons (attr_of hba (thn (ho pins s1 σ H1 _ I1 q1) fun u s2 hq_=>?_))
 obtain ⟨y,H2,I2,ry,a,q,dx,fs,xs,kf,ev,ey,hq,hl,hx,hne,turn,fin⟩:=hq_
 subst ev ey
 obtain rfl:u=Value.ref q:=ry
 obtain ⟨u,rfl,ru⟩:=vals1 r1
 obtain rfl:u=Value.ref a:=ru
 refine getbound_ok I2 hq c M hl hgf htk hcn (kws_nil ?_)
 have I3:Inv X pins σ H2 {s2 with heap:=s2.heap.push (PySem.W.methodObj (.ref g) (.ref q)),toks:=s2.toks+1}:=I2.kept fun b o e=>Heap.get?_push_of_some _ e
 exact minK_call (q:=q) (g:=g) (F.mono (show j≤j from Nat.le_refl j)) (hr.mono hj) hb I3 hx hne (Heap.get?_push_size _ rfl) (I2.fpOk (Nat.le_refl _) (I2.hok.fresh (Nat.le_refl _))) turn fin
theorem rd_minK{K:PySem.W.Frag}{σ:St}{H:Hp}{Q:VK}:tMinK K C m sp t to σ H Q=t σ H fun vs H1=>to σ H1 fun o H2=>∃(a q dx:Addr) (fs:List (Str×V)) (xs:List V) (kf:Nat→List Int),vs=[.ref a]∧o= .ref q∧H2 q=some (.ins C dx fs)∧fs.lookup m=none∧SqL K H2 a xs∧xs≠[]∧
 (∀i v,xs[i]?=some v→∀H',Same H2 H'→sp [.ref q,v] H' (fun u H''=>Same H' H''∧∃t,u= .ref t∧H'' t=some (.tup ((kf i).map V.int))) E0)∧∀v H',Same H2 H'→xs[argBest (btK kf) (xs.length - 1)]?=some v→Q v H':=rfl
end
end L2
namespace N20
open L2 N1 N5 N4 N6 N12 N32 N14
theorem join_nilL:∀(l:List Nat),Str.join (Str.ofString "") (l.map fun c=>(⟨#[c]⟩:Str))=tx l
 | []=>T_empty
 | [c]=>rfl
 | c::d::r=>by
  have ih:=join_nilL (d::r)
  show (⟨#[c]⟩:Str)++Str.ofString ""++Str.join (Str.ofString "") ((d::r).map fun c=>(⟨#[c]⟩:Str))=tx (c::d::r)
  rw [ih,T_one,T_nil,T_app,T_app]
  rfl
theorem join_ones(l:List Nat):Txt.join (Str.ofString "") (l.map fun c=>(⟨#[c]⟩:Str))=tx l:=by
 rw [← join_nilL]
 exact StrLaws.glued_eq_join _ _
theorem slice_from{l:List Nat}{n:Int}(h0:0≤n)(h1:n≤l.length):Txt.slice (tx l) (some n) none=tx (l.drop n.toNat):=by
 rw [PyProof.Rows.slice_from_eq (b:=((tx l).length:Int)) h0 (by rw [T_len];exact h1) rfl]
 show tx _=tx _
 rw [T_list,T_len,List.take_of_length_le (by rw [List.length_drop];omega)]
noncomputable def nm3(B:List Nat)(at':Nat)(e:Int)(k:Nat):List Nat:=B.take at'++[bc ((e+k) % 26)]++B.drop (at'+1)++List.replicate (k / 26) 122
theorem nm3_len{B:List Nat}{at':Nat}{e:Int}{k:Nat}(h:at' < B.length):(nm3 B at' e k).length=B.length+k / 26:=by
 unfold nm3
 simp only [List.length_append,List.length_take,List.length_drop,List.length_cons,List.length_nil,List.length_replicate]
 omega
theorem nm3_at{B:List Nat}{at':Nat}{e:Int}{k:Nat}(h:at' < B.length):(nm3 B at' e k)[at']?=some (bc ((e+k) % 26)):=by
 unfold nm3
 rw [List.append_assoc,List.append_assoc,List.getElem?_append_right (by rw [List.length_take];omega)]
 rw [List.length_take,show at' - min at' B.length=0 by omega]
 rfl
theorem nm3_inj{B:List Nat}{at':Nat}{e:Int}{k k':Nat}(h:at' < B.length)(he:nm3 B at' e k=nm3 B at' e k'):k=k':=by
 have e1:=congrArg List.length he
 rw [nm3_len h,nm3_len h]at e1
 have e2:=nm3_at (e:=e) (k:=k) h
 rw [he,nm3_at h]at e2
 have e3:=bc_inj (by omega) (by omega) (by omega) (by omega) (Option.some.inj e2)
 omega
theorem nm3_name{B:List Nat}{at':Nat}{e:Int}{k:Nat}(h:at' < B.length)(h6:B.length≤6)(hk:k < 78)(hB:∀c∈B,c∈letters++figures)(hh:∃c r,B=c::r∧c∈letters):nameB (nm3 B at' e k)=true:=by
 have hall:∀x∈nm3 B at' e k,x∈letters++figures:=by
  intro x hx
  unfold nm3 at hx
  rcases List.mem_append.mp hx with hx | hx
  · rcases List.mem_append.mp hx with hx | hx
    · rcases List.mem_append.mp hx with hx | hx
      · exact hB x (List.mem_of_mem_take hx)
      · rw [List.mem_singleton.mp hx];exact List.mem_append_left _ bc_let
    · exact hB x (List.mem_of_mem_drop hx)
  · rw [List.eq_of_mem_replicate hx];decide
 have hl:=nm3_len (e:=e) (k:=k) h
 have hl1:1≤(nm3 B at' e k).length:=by omega
 have hl8:(nm3 B at' e k).length≤8:=by omega
 have hhd:headIn (nm3 B at' e k) letters=true:=by
  obtain ⟨c,r,rfl,hc⟩:=hh
  cases at' with
  | zero=>exact decide_eq_true bc_let
  | succ n=>exact decide_eq_true hc
 unfold nameB
 rw [decide_eq_true hl1,decide_eq_true hl8,hhd]
 simp only [Bool.true_and]
 exact List.all_eq_true.mpr fun x hx=>decide_eq_true (hall x hx)
noncomputable def sp20_stream:Sp:=fun vs H Q _=>∃(c:Int) (m:Nat),vs=[.int c,.int m]∧m≤1000∧∀(p:Addr) (xs:List Int) (H':Hp),H p=none→Same H H'→H' p=some (.lst (xs.map V.int))→xs.length=m→(∀x∈xs,0≤x)→Q (.ref p) H'
noncomputable def sp20_names:Sp:=fun vs H Q _=>∃(c:Int) (m:Nat),vs=[.int c,.int m]∧m≤60∧∀(p:Addr) (ys:List Str) (H':Hp),H p=none→Same H H'→H' p=some (.lst (ys.map V.str))→ys.length=m→ys.Nodup→(∀y∈ys,nameB y.cps.toList=true)→Q (.ref p) H'
noncomputable def sp20_rows(K:PySem.W.Frag):Sp:=fun vs H Q _=>∃(a:Addr) (ns:List Int),vs=[.ref a]∧SqL K H a (ns.map V.int)∧ns.length≤63∧
 ∀(r:Addr) (as:List Addr) (ts:List Th) (H':Hp),Same H H'→H' r=some (.lst (as.map V.ref))→RowsAt K H' r as ts→1≤ts.length→Q (.ref r) H'
noncomputable def sp20_places(K:PySem.W.Frag):Sp:=fun vs H Q _=>∃(r:Addr) (c:Int) (as:List Addr) (ts:List Th),vs=[.ref r,.int c]∧RowsAt K H r as ts∧1≤ts.length∧∀(n:Int) (H':Hp),Same H H'→1≤n→n≤1000000→(∀t∈ts,t.2.2≤n)→Q (.int n) H'
noncomputable def sp20_asks(K:PySem.W.Frag):Sp:=fun vs H Q _=>∃(a r:Addr) (ns:List Int) (as:List Addr) (ts:List Th),vs=[.ref a,.ref r]∧SqL K H a (ns.map V.int)∧ns.length≤63∧RowsAt K H r as ts∧1≤ts.length∧
 ∀(p:Addr) (ys:List Str) (H':Hp),Same H H'→H' p=some (.lst (ys.map V.str))→ys.length≤200→(∀y∈ys,y∈ts.map (·.1))→Q (.ref p) H'
noncomputable def rmK(ts:List Th):List (Key×V):=ts.map fun t=>(Sum.inr t.1,.int t.2.2)
noncomputable def sp20_rooms(K:PySem.W.Frag):Sp:=fun vs H Q _=>∃(r:Addr) (as:List Addr) (ts:List Th),vs=[.ref r]∧RowsAt K H r as ts∧∀(e:Addr) (H':Hp),Same H H'→H' e=some (.dK (rmK ts))→Q (.ref e) H'
noncomputable def sp20_same(K:PySem.W.Frag):Sp:=fun vs H Q _=>∃(x y:Addr) (as gs as2 gs2:List Addr) (rs:List N14.Row),vs=[.ref x,.ref y]∧H x=some (.lst (as.map V.ref))∧(∀(i:Nat) a,as[i]?=some a→∃xs,H a=some (.tup xs))∧BookAt K H x as gs rs∧BookAt K H y as2 gs2 rs∧rs.length≤200∧∀H',Same H H'→Q (.bl true) H'
end N20
namespace N20
open L2 N1 N5 N4 N6 N12 N32 N14
theorem cat_ints(a b:List Int):a.map V.int++b.map V.int=(a++b).map V.int:=(List.map_append ..).symm
theorem cut_8_68(ns:List Int):∃cs:List Int,cutV (ns.map V.int) (some 8) (some 68)=cs.map V.int∧cs.length≤ns.length - 8:=by
 unfold cutV
 rw [← List.map_drop,← List.map_take]
 refine ⟨_,rfl,?_⟩
 rw [List.length_take,List.length_drop,List.length_map]
 have e:HT.sIx ns.length 0 (some 8)=min 8 ns.length:=HT.sIx_nat _ _ 8
 rw [e]
 omega
theorem zz_slice{k:Nat}(h:k < 78):Txt.slice (Str.ofString "zz") none (some ((k:Int) / 26))=tx (List.replicate (k / 26) 122):=by
 have e:Str.ofString "zz"=tx [122,122]:=by decide+kernel
 rw [e,slice_to (by omega) (by simp only [List.length_cons,List.length_nil];omega),show ((k:Int) / 26).toNat=k / 26 by omega]
 have hq:k / 26=0∨k / 26=1∨k / 26=2:=by omega
 rcases hq with e | e | e <;> rw [e] <;> rfl
end N20
namespace N71
open L2 N1 N5 N4 N6 N12
theorem valV_drop_same(kvs:List (Key×V))(k:Key):valV (dropK kvs k) k=none:=by
 induction kvs with
 | nil=>rfl
 | cons p r ih=>
  by_cases e:p.1=k
  · have:dropK (p::r) k=dropK r k:=by unfold dropK;rw [List.filter_cons_of_neg (by simp [e])]
    rw [this];exact ih
  · have:dropK (p::r) k=p::dropK r k:=by unfold dropK;rw [List.filter_cons_of_pos (by simp [e])]
    rw [this,valV_neg e];exact ih
theorem valV_dropK{kvs:List (Key×V)}{k j:Key}(n:j≠k):valV (dropK kvs k) j=valV kvs j:=by
 induction kvs with
 | nil=>rfl
 | cons p r ih=>
  by_cases e:p.1=k
  · have h1:dropK (p::r) k=dropK r k:=by unfold dropK;rw [List.filter_cons_of_neg (by simp [e])]
    rw [h1,ih,valV_neg (fun z=>n (by rw [← z,e]))]
  · have h1:dropK (p::r) k=p::dropK r k:=by unfold dropK;rw [List.filter_cons_of_pos (by simp [e])]
    rw [h1]
    by_cases e2:p.1=j
    · rw [valV_pos e2,valV_pos e2]
    · rw [valV_neg e2,valV_neg e2];exact ih
structure TwA where
 st:Addr
 si:Addr
 ro:Addr
 he:Addr
 la:Addr
 so:Addr
 en:Addr
 fi:Addr
structure TwS where
 zs:List Int
 R:List Str
 kh:List (Key×V)
 kl:List (Key×V)
 ks:List (Key×V)
 es:List V
 ff:List Int
 pd:Int
noncomputable def own(t:Addr)(x:TwA):List Addr:=[t,x.ro,x.he,x.la,x.so,x.en,x.fi]
noncomputable def pre(zs:List Int)(i:Nat):Int:=(zs.take i).sum
noncomputable def f1(x:TwA):List (Str×V):=putF (Str.ofString "sizes") (.ref x.si) (putF (Str.ofString "stock") (.ref x.st) [])
noncomputable def f3(x:TwA):List (Str×V):=putF (Str.ofString "late") (.ref x.la) (putF (Str.ofString "held") (.ref x.he) (putF (Str.ofString "row") (.ref x.ro) (f1 x)))
noncomputable def f6(x:TwA):List (Str×V):=putF (Str.ofString "paid") (.int 0) (putF (Str.ofString "finds") (.ref x.fi) (putF (Str.ofString "entries") (.ref x.en) (putF (Str.ofString "store") (.ref x.so) (f3 x))))
end N71
namespace L2
section
variable {K:PySem.W.Frag} {σ:St} {H:Hp} {D:Ends} {Q:VK}
theorem rd_fldaug{ta tv:TE}{rd:V→V→Hp→VK→Prop}{f:Str}:sFldAug K ta tv rd f D σ H=ta σ H fun x H1=>∃a C dx fs v,x= .ref a∧H1 a=some (.ins C dx fs)∧Cls K C∧NoAttr K C f∧fs.lookup f=some v∧
 tv σ H1 fun y H2=>rd v y H2 fun z H3=>∃dx' fs',H3 a=some (.ins C dx' fs')∧fs'.length < 1000∧D.nx σ (upd H3 a (.ins C dx' (putF f z fs'))):=rfl
end
end L2
namespace N53
open L2 N1 N5
theorem wIn_is{lo hi i:Int}(h1:lo≤i)(h2:i≤hi):wIn lo hi (.int i)=true:=by
 simp only [wIn,Bool.and_eq_true,decide_eq_true_eq];exact ⟨h1,h2⟩
noncomputable def stp(m:Int)(i:Nat)(y:Str)(s:List (Nat×Nat)×Nat×List Str):List (Nat×Nat)×Nat×List Str:=
 if y∉s.2.2∧(s.2.2.length:Int)=m then (s.1++[(s.2.1,i)],i,[y]) else (s.1,s.2.1,if y∈s.2.2 then s.2.2 else s.2.2++[y])
noncomputable def pst(m:Int)(ys:List Str):Nat→List (Nat×Nat)×Nat×List Str
 | 0=>([],0,[])
 | i+1=>stp m i (ys.getD i Str.empty) (pst m ys i)
noncomputable def partsOf(m:Int)(ys:List Str):List (Nat×Nat):=if (pst m ys ys.length).2.1 < ys.length then (pst m ys ys.length).1++[((pst m ys ys.length).2.1,ys.length)] else (pst m ys ys.length).1
theorem pst_small{m:Int}{ys:List Str}:∀i,(pst m ys i).1.length≤i∧(pst m ys i).2.1≤i∧(pst m ys i).2.2.length≤i:=by
 intro i
 induction i with
 | zero=>simp [pst]
 | succ i ih=>
  show (stp m i (ys.getD i Str.empty) (pst m ys i)).1.length≤i+1∧(stp m i (ys.getD i Str.empty) (pst m ys i)).2.1≤i+1∧(stp m i (ys.getD i Str.empty) (pst m ys i)).2.2.length≤i+1
  unfold stp
  split
  · simp;omega
  · refine ⟨by simp;omega,by simp;omega,?_⟩
    simp only
    split
    · omega
    · simp;omega
noncomputable abbrev Pt:=Addr×Nat×Nat
noncomputable def PtsAt(K:PySem.W.Frag)(H:Hp)(p:Addr)(rs:List Pt):Prop:=H p=some (.lst (rs.map fun r=>V.ref r.1))∧∀r∈rs,H r.1=some (.tup [.int r.2.1,.int r.2.2])
theorem PtsAt.same{K:PySem.W.Frag}{H H':Hp}{p:Addr}{rs:List Pt}(s:Same H H')(h:PtsAt K H p rs):PtsAt K H' p rs:=⟨s _ _ h.1,fun r hr=>s _ _ (h.2 r hr)⟩
end N53
namespace N53
open L2 N1 N5
theorem same_upd{H H':Hp}{p:Addr}{o:HO}(s:Same H H')(h:H p=none):Same H (upd H' p o):=fun b u e=>by
 rw [upd_ne (ne_of_none e h)];exact s b u e
theorem none_of{H H':Hp}{D:Addr}(s:Same H H')(h:H' D=none):H D=none:=by
 cases e:H D with
 | none=>rfl
 | some o=>rw [s _ _ e]at h;cases h
theorem put_both{kvs:List (Key×V)}{ks:List Str}{z:Str}{v:V}(h:kvs.map (·.1)=ks.map Sum.inr):(putK kvs (Sum.inr z) v).map (·.1)=(if z∈ks then ks else ks++[z]).map Sum.inr:=by
 have hm:=key_mem (z:=z) h
 by_cases hz:z∈ks
 · rw [if_pos hz,← h]
   unfold putK
   rw [valV_any,hm,decide_eq_true hz,if_pos rfl,List.map_map]
   refine List.map_congr_left fun e _=>?_
   show (if e.1=Sum.inr z then (e.1,v) else e).1=e.1
   split <;> rfl
 · rw [if_neg hz,putK_new v (by rw [decide_eq_false hz]at hm;simpa using hm),List.map_append,List.map_append,h]
   rfl
end N53
namespace N18
open L2 N1 N5 N4 N6 N12 N32 N14
end N18
namespace N25
open L2 N1 N5 N4 N6 N12 N32 N14 N20
noncomputable def hgo(R:Str→Int)(n need:Int):Nat→List Str→List Str→List Str→List Str×List Str×List Str
 | 0,L,D,w=>(L,D,w)
 | _+1,[],D,w=>([],D,w)
 | k+1,f::r,D,w=>if need≤n - N41.sm R (f::r) then (f::r,D,w) else if f∈D then hgo R n need k (r++[f]) (D.erase f) w else hgo R n need k r D (w++[f])
noncomputable def hfin(R:Str→Int)(n need:Int)(L D w:List Str):List Str×List Str×List Str:=hgo R n need (L.length+D.length) L D w
noncomputable def mkD(D:List Str)(z:Str):List Str:=if z∈D then D else D++[z]
noncomputable def hask(R:Str→Int)(n:Int)(s:List Str×List Str)(z:Str):(List Str×List Str)×N14.Row:=
 if z∈s.1 then ((s.1,mkD s.2 z),(z,true,[])) else (((hfin R n (R z) s.1 s.2 []).1++[z],mkD (hfin R n (R z) s.1 s.2 []).2.1 z),(z,false,(hfin R n (R z) s.1 s.2 []).2.2))
noncomputable def hst(R:Str→Int)(n:Int)(ys:List Str)(i:Nat):List Str×List Str:=(ys.take i).foldl (fun s z=>(hask R n s z).1) ([],[])
noncomputable def hrow(R:Str→Int)(n:Int)(ys:List Str)(i:Nat):N14.Row:=(hask R n (hst R n ys i) (ys.getD i Str.empty)).2
noncomputable def hfl(p od md:Addr)(n:Int):List (Str×V):=putF "marked" (.ref md) (putF "order" (.ref od) (putF "places" (.int n) (putF "stock" (.ref p) [])))
theorem hfl_stock{p od md:Addr}{n:Int}:(hfl p od md n).lookup ("stock":Str)=some (V.ref p):=by
 unfold hfl
 rw [lookup_putF,if_neg (by decide),lookup_putF,if_neg (by decide),lookup_putF,if_neg (by decide),lookup_putF,if_pos rfl]
theorem hfl_places{p od md:Addr}{n:Int}:(hfl p od md n).lookup ("places":Str)=some (V.int n):=by
 unfold hfl
 rw [lookup_putF,if_neg (by decide),lookup_putF,if_neg (by decide),lookup_putF,if_pos rfl]
theorem hfl_order{p od md:Addr}{n:Int}:(hfl p od md n).lookup ("order":Str)=some (V.ref od):=by
 unfold hfl
 rw [lookup_putF,if_neg (by decide),lookup_putF,if_pos rfl]
theorem hfl_marked{p od md:Addr}{n:Int}:(hfl p od md n).lookup ("marked":Str)=some (V.ref md):=by
 unfold hfl
 rw [lookup_putF,if_pos rfl]
theorem inr_ne'{y z:Str}(h:y≠z):(Sum.inr y:Key)≠Sum.inr z:=fun e=>h (by injection e)
theorem okl_sum{R:Str→Int}{ns:List Str}:∀{ls:Ly},(∀x∈ls,x.2=R x.1)→lyS ls=N41.sm R (lyN ls)
 | [],_=>rfl
 | x::r,h=>by
  have ih:=okl_sum (R:=R) (ns:=ns) (ls:=r) fun y hy=>h y (List.mem_cons_of_mem _ hy)
  have h1:=h x (List.mem_cons_self ..)
  unfold lyS at ih ⊢
  unfold lyN at ih ⊢
  rw [List.map_cons,List.sum_cons,List.map_cons,N41.sm_cons,ih,h1]
end N25
namespace N25
open L2 N1 N5 N4 N6 N12 N32 N14 N20
theorem kp_of_but{M:List Addr}{a:Addr}{H H':Hp}(s:SameBut a H H')(h:a∈M):Kp M H H':=fun b o n e=>s b o e (fun e2=>n (e2▸h))
theorem kp_none{M:List Addr}{H H':Hp}{b:Addr}(k:Kp M H H')(hb:b∉M)(h:H' b=none):H b=none:=by
 cases e:H b with
 | none=>rfl
 | some o=>rw [k b o hb e]at h;cases h
theorem kp_new{M:List Addr}{H H':Hp}{w:Addr}{o:HO}(k:Kp M H H')(hw:H w=none):Kp M H (upd H' w o):=fun b u n e=>by
 rw [upd_ne (fun h=>by rw [h,hw]at e;cases e)];exact k b u n e
theorem nd_len{L M:List Str}(h:L.Nodup)(hs:∀z∈L,z∈M):L.length≤M.length:=by
 induction L generalizing M with
 | nil=>exact Nat.zero_le _
 | cons x r ih=>
  obtain ⟨hx,hr⟩:=List.nodup_cons.mp h
  have hm:=hs x (List.mem_cons_self ..)
  have:=ih (M:=M.erase x) hr fun z hz=>(List.mem_erase_of_ne (fun e=>hx (by rw [← e];exact hz))).mpr (hs z (List.mem_cons_of_mem _ hz))
  rw [List.length_erase_of_mem hm]at this
  have hp:0 < M.length:=List.length_pos_of_mem hm
  rw [List.length_cons]
  omega
end N25
namespace NR
open L2 N1 N5 N4 N6 N12 N32 N14 N20 N18 N25
structure RuleT where
 C:Addr
 St:Type
 At:Hp→List Addr→Addr→Addr→Int→St→Prop
 asked:Int→St→Str→St
 pick:Int→St→List Str→St×Str
 gone:Int→St→Str→St
 came:Int→St→Str→St
 inv:List Str→Int→St→List Str→Prop
 mid:List Str→Int→Str→St→List Str→Prop
 dep:∀{H H':Hp} {M:List Addr} {q p:Addr} {n:Int} {s:St},(∀m∈M,∀o,H m=some o→H' m=some o)→At H M q p n s→At H' M q p n s
 live:∀{H:Hp} {M:List Addr} {q p:Addr} {n:Int} {s:St},At H M q p n s→∀m∈M,H m≠none
 obj:∀{H:Hp} {M:List Addr} {q p:Addr} {n:Int} {s:St},At H M q p n s→∃dx fs,H q=some (.ins C dx fs)∧fs.lookup ("stock":Str)=some (.ref p)∧fs.lookup ("places":Str)=some (.int n)∧fs.lookup ("asked":Str)=none∧fs.lookup ("choice":Str)=none∧fs.lookup ("gone":Str)=none∧fs.lookup ("came":Str)=none∧fs.lookup ("nests":Str)=none
 i_hit:∀{ns:List Str} {n:Int} {s:St} {l:List Str} {z:Str},inv ns n s l→z∈ns→z∈l→inv ns n (asked n s z) l
 i_mid:∀{ns:List Str} {n:Int} {s:St} {l:List Str} {z:Str},inv ns n s l→z∈ns→z∉l→mid ns n z (asked n s z) l
 i_pick:∀{ns:List Str} {n:Int} {s:St} {l:List Str} {z:Str},mid ns n z s l→l≠[]→(pick n s l).2∈l∧mid ns n z (gone n (pick n s l).1 (pick n s l).2) (l.erase (pick n s l).2)
 i_came:∀{ns:List Str} {n:Int} {s:St} {l:List Str} {z:Str},mid ns n z s l→z∈ns→z∉l→inv ns n (came n s z) (l++[z])
 cnt:St→Nat:=fun _=>0
 c_ask:∀n s z,cnt (asked n s z)≤cnt s+1:=by exact fun _ _ _=>Nat.zero_le _
 c_pick:∀n s l,cnt (pick n s l).1≤cnt s:=by exact fun _ _ _=>Nat.zero_le _
 c_gone:∀n s z,cnt (gone n s z)≤cnt s:=by exact fun _ _ _=>Nat.zero_le _
 c_came:∀n s z,cnt (came n s z)≤cnt s:=by exact fun _ _ _=>Nat.zero_le _
noncomputable def gfin(T:RuleT)(R:Str→Int)(n need:Int):Nat→T.St→List Str→List Str→T.St×List Str×List Str
 | 0,s,l,w=>(s,l,w)
 | k+1,s,l,w=>if need≤n - N41.sm R l then (s,l,w) else gfin T R n need k (T.gone n (T.pick n s l).1 (T.pick n s l).2) (l.erase (T.pick n s l).2) (w++[(T.pick n s l).2])
noncomputable def gf(T:RuleT)(R:Str→Int)(n need:Int)(s:T.St)(l w:List Str):T.St×List Str×List Str:=gfin T R n need l.length s l w
section
variable {T:RuleT} {R:Str→Int} {n need:Int} {s:T.St} {l w ns:List Str} {z:Str}
theorem gf_end(h:need≤n - N41.sm R l):gf T R n need s l w=(s,l,w):=by
 unfold gf
 cases hk:l.length with
 | zero=>rfl
 | succ k=>
  show (if _ then _ else _)=_
  rw [if_pos h]
theorem gf_go(h:¬need≤n - N41.sm R l)(hp:(T.pick n s l).2∈l):gf T R n need s l w=gf T R n need (T.gone n (T.pick n s l).1 (T.pick n s l).2) (l.erase (T.pick n s l).2) (w++[(T.pick n s l).2]):=by
 unfold gf
 have hl:=List.length_erase_of_mem hp
 have h0:0 < l.length:=List.length_pos_of_mem hp
 rw [show l.length=(l.erase (T.pick n s l).2).length+1 by omega]
 show (if _ then _ else _)=_
 rw [if_neg h]
theorem gf_pos:∀(k:Nat) (s:T.St) (l w:List Str),l.length=k→T.mid ns n z s l→need≤n→T.mid ns n z (gf T R n need s l w).1 (gf T R n need s l w).2.1∧need≤n - N41.sm R (gf T R n need s l w).2.1∧(∀u∈(gf T R n need s l w).2.1,u∈l)∧(l.Nodup→(gf T R n need s l w).2.1.Nodup)∧(gf T R n need s l w).2.1.length≤l.length:=by
 intro k
 induction k with
 | zero=>
  intro s l w hk hm hn
  have hL:l=[]:=List.length_eq_zero_iff.mp hk
  subst hL
  have he:need≤n - N41.sm R []:=by rw [N41.sm_nil];omega
  rw [gf_end he]
  exact ⟨hm,he,fun z hz=>hz,id,Nat.le_refl _⟩
 | succ k ih=>
  intro s l w hk hm hn
  by_cases he:need≤n - N41.sm R l
  · rw [gf_end he]
    exact ⟨hm,he,fun z hz=>hz,id,Nat.le_refl _⟩
  · have hne:l≠[]:=fun e=>by rw [e]at hk;cases hk
    obtain ⟨hp,hm2⟩:=T.i_pick hm hne
    rw [gf_go he hp]
    have hl:=List.length_erase_of_mem hp
    obtain ⟨a,b,c,d,e⟩:=ih _ _ (w++[(T.pick n s l).2]) (by omega) hm2 hn
    exact ⟨a,b,fun u hu=>List.mem_of_mem_erase (c u hu),fun hnd=>d (hnd.erase _),by omega⟩
end
noncomputable def gask(T:RuleT)(R:Str→Int)(n:Int)(s:T.St×List Str)(z:Str):(T.St×List Str)×N14.Row:=
 if z∈s.2 then ((T.asked n s.1 z,s.2),(z,true,[]))
 else ((T.came n (gf T R n (R z) (T.asked n s.1 z) s.2 []).1 z,(gf T R n (R z) (T.asked n s.1 z) s.2 []).2.1++[z]),(z,false,(gf T R n (R z) (T.asked n s.1 z) s.2 []).2.2))
noncomputable def gst(T:RuleT)(R:Str→Int)(n:Int)(s0:T.St)(ys:List Str)(i:Nat):T.St×List Str:=(ys.take i).foldl (fun s z=>(gask T R n s z).1) (s0,[])
noncomputable def grow(T:RuleT)(R:Str→Int)(n:Int)(s0:T.St)(ys:List Str)(i:Nat):N14.Row:=(gask T R n (gst T R n s0 ys i) (ys.getD i Str.empty)).2
noncomputable def grows(T:RuleT)(R:Str→Int)(n:Int)(s0:T.St)(ys:List Str)(i:Nat):List N14.Row:=(List.range i).map (grow T R n s0 ys)
section
variable {T:RuleT} {R:Str→Int} {n:Int} {s0:T.St} {ys ns:List Str} {i:Nat} {z:Str}
theorem gst_succ(h:ys[i]?=some z):gst T R n s0 ys (i+1)=(gask T R n (gst T R n s0 ys i) z).1:=by
 unfold gst
 rw [List.take_add_one,h,List.foldl_append];rfl
theorem grow_at(h:ys[i]?=some z):grow T R n s0 ys i=(gask T R n (gst T R n s0 ys i) z).2:=by
 unfold grow
 rw [List.getD_eq_getElem?_getD,h];rfl
theorem grows_len:(grows T R n s0 ys i).length=i:=by unfold grows;rw [List.length_map,List.length_range]
theorem mem_eq{u v:Str}{l:List Str}(e:u=v)(h:u∈l):v∈l:=e▸h
structure GI(T:RuleT)(ns:List Str)(n:Int)(s:T.St×List Str):Prop where
 i:T.inv ns n s.1 s.2
 nd:s.2.Nodup
 s:∀u∈s.2,u∈ns
theorem GI.ask{s:T.St×List Str}(h:GI T ns n s)(hz:z∈ns)(hR:R z≤n):GI T ns n (gask T R n s z).1:=by
 unfold gask
 split
 · rename_i hm
   exact ⟨T.i_hit h.i hz hm,h.nd,h.s⟩
 · rename_i hm
   obtain ⟨a,b,c,d,e⟩:=gf_pos (R:=R) _ _ _ [] rfl (T.i_mid h.i hz hm) hR
   have hm2:z∉(gf T R n (R z) (T.asked n s.1 z) s.2 []).2.1:=fun hh=>hm (c z hh)
   refine ⟨T.i_came a hz hm2,?_,fun u hu=>?_⟩
   · show ((gf T R n (R z) (T.asked n s.1 z) s.2 []).2.1++[z]).Nodup
     rw [List.nodup_append]
     refine ⟨d h.nd,by simp,fun y hy u hu e=>hm2 (mem_eq (e.trans (List.mem_singleton.mp hu)) hy)⟩
   · rcases List.mem_append.mp hu with hu | hu
     · exact h.s u (c u hu)
     · rw [List.mem_singleton.mp hu];exact hz
theorem gst_inv(h0:T.inv ns n s0 [])(hin:∀y∈ys,y∈ns)(hR:∀y∈ys,R y≤n):∀i,i≤ys.length→GI T ns n (gst T R n s0 ys i)
 | 0,_=>⟨h0,List.nodup_nil,by simp [gst]⟩
 | i+1,h=>by
  have hz:=List.getElem?_eq_getElem (show i < ys.length by omega)
  have hm:=List.mem_of_getElem? hz
  rw [gst_succ hz]
  exact (gst_inv h0 hin hR i (by omega)).ask (hin _ hm) (hR _ hm)
end
theorem gfin_cnt{T:RuleT}{R:Str→Int}{n need:Int}:∀(k:Nat) (s:T.St) (l w:List Str),T.cnt (gfin T R n need k s l w).1≤T.cnt s:=by
 intro k
 induction k with
 | zero=>intro s l w;exact Nat.le_refl _
 | succ k ih=>
  intro s l w
  unfold gfin
  split
  · exact Nat.le_refl _
  · exact Nat.le_trans (ih _ _ _) (Nat.le_trans (T.c_gone _ _ _) (T.c_pick _ _ _))
theorem gask_cnt{T:RuleT}{R:Str→Int}{n:Int}{s:T.St×List Str}{z:Str}:T.cnt (gask T R n s z).1.1≤T.cnt s.1+1:=by
 unfold gask
 split
 · exact T.c_ask _ _ _
 · exact Nat.le_trans (T.c_came _ _ _) (Nat.le_trans (gfin_cnt _ _ _ _) (T.c_ask _ _ _))
theorem gst_cnt{T:RuleT}{R:Str→Int}{n:Int}{s0:T.St}{ys:List Str}:∀i,i≤ys.length→T.cnt (gst T R n s0 ys i).1≤T.cnt s0+i
 | 0,_=>Nat.le_refl _
 | i+1,h=>by
  have hz:=List.getElem?_eq_getElem (show i < ys.length by omega)
  rw [gst_succ hz]
  have:=gst_cnt (T:=T) (R:=R) (n:=n) (s0:=s0) (ys:=ys) i (by omega)
  have h2:=gask_cnt (T:=T) (R:=R) (n:=n) (s:=gst T R n s0 ys i) (z:=ys[i])
  omega
structure RunG(T:RuleT)(K:PySem.W.Frag)(C S:Addr)(H0 H:Hp)(q p sh d:Addr)(M:List Addr)(n:Int)(ts:List Th)(ls:Ly)(s:T.St):Prop where
 h:T.At H M q p n s
 shf:ShelfAt S H sh p d n ls
 st:StockAt K C H0 p ts
 sm:Same H0 H
 n0:∀m∈M,H0 m=none
 nd:H0 d=none
 nsh:sh∉M
 ndm:d∉M
 ok:OkL (rm ts) (ts.map (·.1)) ls
section
variable {T:RuleT} {K:PySem.W.Frag} {C S:Addr} {H0 H H' H1 H2:Hp} {q p sh d w:Addr} {M:List Addr} {n:Int} {ts:List Th} {ls:Ly} {s s':T.St}
theorem at_same(e:Same H H')(h:T.At H M q p n s):T.At H' M q p n s:=T.dep (fun m _ o=>e m o) h
theorem at_but(e:SameBut d H H')(hd:d∉M)(h:T.At H M q p n s):T.At H' M q p n s:=T.dep (fun m hm o e1=>e m o e1 (fun e2=>hd (e2▸hm))) h
theorem RunG.same(r:RunG T K C S H0 H q p sh d M n ts ls s)(e:Same H H'):RunG T K C S H0 H' q p sh d M n ts ls s:=
 ⟨at_same e r.h,r.shf.same e,r.st,r.sm.trans e,r.n0,r.nd,r.nsh,r.ndm,r.ok⟩
theorem RunG.x(r:RunG T K C S H0 H q p sh d M n ts ls s):StockX K C H p ts d:=(StockX.of r.st r.nd).same r.sm
theorem RunG.left(r:RunG T K C S H0 H q p sh d M n ts ls s):n - lyS ls=n - N41.sm (rm ts) (lyN ls):=by rw [okl_sum (ns:=ts.map (·.1)) r.ok.r]
theorem RunG.rule(r:RunG T K C S H0 H q p sh d M n ts ls s)(k:Kp M H H')(h:T.At H' M q p n s'):RunG T K C S H0 H' q p sh d M n ts ls s':=
 ⟨h,⟨r.shf.o.imp fun _ e=>k _ _ r.nsh e,k _ _ r.ndm r.shf.d,r.shf.nd⟩,r.st,Kp.same r.sm k r.n0,r.n0,r.nd,r.nsh,r.ndm,r.ok⟩
theorem RunG.shelf{ls':Ly}(r:RunG T K C S H0 H q p sh d M n ts ls s)(k:SameBut d H H')(hs:ShelfAt S H' sh p d n ls')(ok:OkL (rm ts) (ts.map (·.1)) ls'):RunG T K C S H0 H' q p sh d M n ts ls' s:=
 ⟨at_but k r.ndm r.h,hs,r.st,but_same r.sm r.nd k,r.n0,r.nd,r.nsh,r.ndm,ok⟩
theorem RunG.lst{zs:List V}(r:RunG T K C S H0 H q p sh d M n ts ls s)(k:SameBut w H H')(hw:H w=some (.lst zs))(hm:w∉M)(h0:H0 w=none):RunG T K C S H0 H' q p sh d M n ts ls s:=
 ⟨at_but k hm r.h,r.shf.butL k hw,r.st,but_same r.sm h0 k,r.n0,r.nd,r.nsh,r.ndm,r.ok⟩
theorem RunG.free{b:Addr}(r:RunG T K C S H0 H q p sh d M n ts ls s)(hb:H b=none):b∉d::M:=fun hm=>by
 rcases List.mem_cons.mp hm with e | e
 · rw [e,r.shf.d]at hb;cases hb
 · exact T.live r.h b e hb
theorem kp_cons{M:List Addr}{d:Addr}{H H':Hp}(k:Kp M H H'):Kp (d::M) H H':=fun b o n e=>k b o (fun h=>n (List.mem_cons_of_mem _ h)) e
theorem SqL_kp{a:Addr}{xs:List V}(h:SqL K H a xs)(k:Kp M H H')(na:a∉M):SqL K H' a xs:=by
 rcases h with (h | ⟨o,h⟩) | h
 · exact .inl (.inl (k _ _ na h))
 · exact .inl (.inr ⟨o,k _ _ na h⟩)
 · exact .inr h
end
noncomputable def spR_nests(T:RuleT)(b:Bool):Sp:=fun vs H Q _=>∃(q:Addr),vs=[.ref q]∧Q (.bl b) H
noncomputable def spR_asked(T:RuleT):Sp:=fun vs H Q _=>∃(q p:Addr) (n:Int) (M:List Addr) (s:T.St) (l ns:List Str) (z:Str),vs=[.ref q,.str z]∧T.At H M q p n s∧T.inv ns n s l∧z∈ns∧ns.length≤60∧∀H',Kp M H H'→T.At H' M q p n (T.asked n s z)→Q .non H'
noncomputable def spR_choice(T:RuleT)(K:PySem.W.Frag):Sp:=fun vs H Q _=>∃(q p a:Addr) (n:Int) (M:List Addr) (s:T.St) (l ns:List Str) (z:Str),vs=[.ref q,.ref a]∧T.At H M q p n s∧T.mid ns n z s l∧l≠[]∧H a=some (.lst (l.map V.str))∧a∉M∧ns.length≤60∧l.length≤60∧T.cnt s≤300∧∀H',Kp M H H'→T.At H' M q p n (T.pick n s l).1→Q (.str (T.pick n s l).2) H'
noncomputable def spR_gone(T:RuleT):Sp:=fun vs H Q _=>∃(q p:Addr) (n:Int) (M:List Addr) (s:T.St) (l ns:List Str) (z:Str),vs=[.ref q,.str (T.pick n s l).2]∧T.At H M q p n (T.pick n s l).1∧T.mid ns n z s l∧l≠[]∧ns.length≤60∧∀H',Kp M H H'→T.At H' M q p n (T.gone n (T.pick n s l).1 (T.pick n s l).2)→Q .non H'
noncomputable def spR_came(T:RuleT):Sp:=fun vs H Q _=>∃(q p:Addr) (n:Int) (M:List Addr) (s:T.St) (l ns:List Str) (z:Str),vs=[.ref q,.str z]∧T.At H M q p n s∧T.mid ns n z s l∧z∈ns∧z∉l∧ns.length≤60∧∀H',Kp M H H'→T.At H' M q p n (T.came n s z)→Q .non H'
noncomputable def spR_room(T:RuleT)(K:PySem.W.Frag)(C S:Addr):Sp:=fun vs H Q _=>∃(H0:Hp) (q p sh d:Addr) (M:List Addr) (n need:Int) (ts:List Th) (ls:Ly) (s:T.St) (z:Str),vs=[.ref q,.ref sh,.int need]∧RunG T K C S H0 H q p sh d M n ts ls s∧T.mid (ts.map (·.1)) n z s (lyN ls)∧need≤n∧ls.length≤60∧ts.length≤60∧T.cnt s≤300∧
 ∀(w:Addr) (ls':Ly) (H':Hp),Kp (d::M) H H'→H w=none→H' w=some (.lst ((gf T (rm ts) n need s (lyN ls) []).2.2.map V.str))→lyN ls'=(gf T (rm ts) n need s (lyN ls) []).2.1→RunG T K C S H0 H' q p sh d M n ts ls' (gf T (rm ts) n need s (lyN ls) []).1→Q (.ref w) H'
noncomputable def spR_row(T:RuleT)(K:PySem.W.Frag)(C S:Addr):Sp:=fun vs H Q _=>∃(H0:Hp) (q p sh d:Addr) (M:List Addr) (n:Int) (ts:List Th) (ls:Ly) (s:T.St) (z:Str),vs=[.ref q,.ref sh,.str z]∧RunG T K C S H0 H q p sh d M n ts ls s∧T.inv (ts.map (·.1)) n s (lyN ls)∧(ts.map (·.1)).Nodup∧ts.length≤60∧z∈ts.map (·.1)∧rm ts z≤n∧T.cnt s≤299∧
 ∀(t g:Addr) (ls':Ly) (H':Hp),Kp (d::M) H H'→H t=none→H g=none→H' t=some (.tup [.str (gask T (rm ts) n (s,lyN ls) z).2.1,.bl (gask T (rm ts) n (s,lyN ls) z).2.2.1,.ref g])→H' g=some (.lst ((gask T (rm ts) n (s,lyN ls) z).2.2.2.map V.str))→lyN ls'=(gask T (rm ts) n (s,lyN ls) z).1.2→RunG T K C S H0 H' q p sh d M n ts ls' (gask T (rm ts) n (s,lyN ls) z).1.1→Q (.ref t) H'
noncomputable def spR_book(T:RuleT)(K:PySem.W.Frag)(C S:Addr):Sp:=fun vs H Q _=>∃(H0:Hp) (q p a:Addr) (M:List Addr) (n:Int) (ts:List Th) (ys:List Str) (s0:T.St),vs=[.ref q,.ref a]∧T.At H M q p n s0∧T.inv (ts.map (·.1)) n s0 []∧StockAt K C H0 p ts∧Same H0 H∧(∀m∈M,H0 m=none)∧(ts.map (·.1)).Nodup∧ts.length≤60∧SqL K H a (ys.map V.str)∧a∉M∧ys.length≤200∧(∀y∈ys,y∈ts.map (·.1))∧(∀y∈ys,rm ts y≤n)∧1≤n∧n≤1000000∧T.cnt s0≤50∧
 ∀(b:Addr) (as gs:List Addr) (H':Hp),Kp M H H'→H' b=some (.lst (as.map V.ref))→(∀(i:Nat) a,as[i]?=some a→∃xs,H' a=some (.tup xs))→BookAt K H' b as gs (grows T (rm ts) n s0 ys ys.length)→T.At H' M q p n (gst T (rm ts) n s0 ys ys.length).1→Q (.ref b) H'
end NR
namespace N22
open L2 N1 N5 N4 N6 N12 N32 N14 N20 N18 N25 NR
noncomputable def rf0(p:Addr)(n:Int):List (Str×V):=putF "places" (.int n) (putF "stock" (.ref p) [])
noncomputable def rf1(p:Addr)(n k:Int)(la pa:Addr):List (Str×V):=putF "put_at" (.ref pa) (putF "last" (.ref la) (putF "present" (.int k) (rf0 p n)))
theorem headD_mem{l:List Str}(h:l≠[]):l.headD Str.empty∈l:=by
 cases l with
 | nil=>exact absurd rfl h
 | cons x r=>exact List.mem_cons_self ..
noncomputable def T0(C:Addr):RuleT where
 C:=C
 St:=Unit
 At:=fun H M q p n _=>M=[q]∧∃dx,H q=some (.ins C dx (rf0 p n))
 asked:=fun _ s _=>s
 pick:=fun _ s l=>(s,l.headD Str.empty)
 gone:=fun _ s _=>s
 came:=fun _ s _=>s
 inv:=fun _ _ _ _=>True
 mid:=fun _ _ _ _ _=>True
 dep:=fun e h=>⟨h.1,h.2.imp fun _ ho=>e _ (by rw [h.1];simp) _ ho⟩
 live:=fun h m hm e=>by
  obtain ⟨dx,ho⟩:=h.2
  rw [h.1,List.mem_singleton]at hm
  rw [hm,ho]at e;cases e
 obj:=fun h=>h.2.imp fun dx ho=>⟨_,ho,by rfl,by rfl,by rfl,by rfl,by rfl,by rfl,by rfl⟩
 i_hit:=fun _ _ _=>trivial
 i_mid:=fun _ _ _=>trivial
 i_pick:=fun _ h=>⟨headD_mem h,trivial⟩
 i_came:=fun _ _ _=>trivial
structure S1 where
 k:Int
 la:List (Key×V)
 pu:List (Key×V)
noncomputable def pv(s:S1)(z:Str):Int:=match valV s.pu (Sum.inr z) with
 | some (.int i)=>i
 | _=>0
noncomputable def KeysIn(kvs:List (Key×V))(ns:List Str):Prop:=∃ks:List Str,kvs.map (·.1)=ks.map Sum.inr∧ks.Nodup∧∀z∈ks,z∈ns
theorem KeysIn.nil{ns:List Str}:KeysIn [] ns:=⟨[],rfl,List.nodup_nil,by simp⟩
theorem KeysIn.len{kvs:List (Key×V)}{ns:List Str}(h:KeysIn kvs ns):kvs.length≤ns.length:=by
 obtain ⟨ks,e,nd,s⟩:=h
 have:=congrArg List.length e
 rw [List.length_map,List.length_map]at this
 have:=nd_len nd s
 omega
theorem KeysIn.put{kvs:List (Key×V)}{ns:List Str}{z:Str}{v:V}(h:KeysIn kvs ns)(hz:z∈ns):KeysIn (putK kvs (Sum.inr z) v) ns:=by
 obtain ⟨ks,e,nd,s⟩:=h
 refine ⟨if z∈ks then ks else ks++[z],N53.put_both e,?_,?_⟩
 · split
   · exact nd
   · rename_i hn
     rw [List.nodup_append]
     exact ⟨nd,by simp,fun a ha b hb e2=>hn (mem_eq (e2.trans (List.mem_singleton.mp hb)) ha)⟩
 · intro u hu
   split at hu
   · exact s u hu
   · rcases List.mem_append.mp hu with hu | hu
     · exact s u hu
     · rw [List.mem_singleton.mp hu];exact hz
structure FI(ns:List Str)(s:S1)(l:List Str)(B:Int):Prop where
 a:KeysIn s.la ns
 b:KeysIn s.pu ns
 v:∀z∈l,∃i,valV s.pu (Sum.inr z)=some (.int i)∧i≤B
 o:l.Pairwise fun x y=>pv s x < pv s y
theorem pv_at{s:S1}{z:Str}{i:Int}(h:valV s.pu (Sum.inr z)=some (.int i)):pv s z=i:=by unfold pv;rw [h]
noncomputable def f1ask(s:S1)(z:Str):S1:=⟨s.k+1,putK s.la (Sum.inr z) (.int (s.k+1)),s.pu⟩
noncomputable def f1came(s:S1)(z:Str):S1:=⟨s.k,s.la,putK s.pu (Sum.inr z) (.int s.k)⟩
theorem FI.ask{ns:List Str}{s:S1}{l:List Str}{z:Str}{B:Int}(h:FI ns s l B)(hz:z∈ns):FI ns (f1ask s z) l B:=⟨h.a.put hz,h.b,h.v,h.o⟩
theorem FI.mono{ns:List Str}{s:S1}{l:List Str}{B B':Int}(h:FI ns s l B)(hb:B≤B'):FI ns s l B':=⟨h.a,h.b,fun z hz=>(h.v z hz).imp fun _ e=>⟨e.1,Int.le_trans e.2 hb⟩,h.o⟩
theorem FI.drop{ns:List Str}{s:S1}{l:List Str}{z:Str}{B:Int}(h:FI ns s l B):FI ns s (l.erase z) B:=
 ⟨h.a,h.b,fun u hu=>h.v u (List.mem_of_mem_erase hu),h.o.sublist List.erase_sublist⟩
theorem FI.came{ns:List Str}{s:S1}{l:List Str}{z:Str}(h:FI ns s l (s.k - 1))(hz:z∈ns)(hn:z∉l):FI ns (f1came s z) (l++[z]) s.k:=by
 have hne:∀u∈l,(Sum.inr u:Key)≠Sum.inr z:=fun u hu e=>hn (by injection e with e;rw [← e];exact hu)
 have hold:∀u∈l,valV (putK s.pu (Sum.inr z) (.int s.k)) (Sum.inr u)=valV s.pu (Sum.inr u):=fun u hu=>by rw [valV_put,if_neg (hne u hu)]
 have hnew:valV (putK s.pu (Sum.inr z) (.int s.k)) (Sum.inr z)=some (.int s.k):=by rw [valV_put,if_pos rfl]
 have pold:∀u∈l,pv (f1came s z) u=pv s u:=fun u hu=>by
  unfold pv f1came
  simp only
  rw [hold u hu]
 refine ⟨h.a,h.b.put hz,fun u hu=>?_,?_⟩
 · rcases List.mem_append.mp hu with hu | hu
   · obtain ⟨i,e,hi⟩:=h.v u hu
     exact ⟨i,(hold u hu).trans e,by omega⟩
   · rw [List.mem_singleton.mp hu]
     exact ⟨s.k,hnew,Int.le_refl _⟩
 · rw [List.pairwise_append]
   refine ⟨?_,List.pairwise_singleton ..,fun u hu y hy=>?_⟩
   · exact h.o.imp_of_mem fun hx hy hxy=>by rw [pold _ hx,pold _ hy];exact hxy
   · rw [List.mem_singleton]at hy
     rw [hy,pold u hu]
     obtain ⟨i,e,hi⟩:=h.v u hu
     rw [pv_at e,pv_at (s:=f1came s z) hnew]
     omega
noncomputable def FAt(C:Addr)(H:Hp)(M:List Addr)(q p:Addr)(n:Int)(s:S1):Prop:=∃la pa,M=[q,la,pa]∧la≠pa∧(∃dx,H q=some (.ins C dx (rf1 p n s.k la pa)))∧H la=some (.dK s.la)∧H pa=some (.dK s.pu)
noncomputable def T1(C:Addr):RuleT where
 C:=C
 St:=S1
 At:=FAt C
 asked:=fun _ s z=>f1ask s z
 pick:=fun _ s l=>(s,l.headD Str.empty)
 gone:=fun _ s _=>s
 came:=fun _ s z=>f1came s z
 inv:=fun ns _ s l=>FI ns s l s.k
 mid:=fun ns _ _ s l=>FI ns s l (s.k - 1)
 dep:=fun e ⟨la,pa,hM,d,⟨dx,ho⟩,h1,h2⟩=>by
  rw [hM]at e
  exact ⟨la,pa,hM,d,⟨dx,e _ (by simp) _ ho⟩,e _ (by simp) _ h1,e _ (by simp) _ h2⟩
 live:=fun ⟨la,pa,hM,d,⟨dx,ho⟩,h1,h2⟩ m hm e=>by
  rw [hM]at hm
  simp only [List.mem_cons,List.not_mem_nil,or_false]at hm
  rcases hm with e1 | e1 | e1
  · rw [e1,ho]at e;cases e
  · rw [e1,h1]at e;cases e
  · rw [e1,h2]at e;cases e
 obj:=fun ⟨la,pa,hM,d,⟨dx,ho⟩,h1,h2⟩=>⟨dx,_,ho,by rfl,by rfl,by rfl,by rfl,by rfl,by rfl,by rfl⟩
 i_hit:=fun {ns n s l z} h hz _=>(FI.ask h hz).mono (show s.k≤s.k+1 by omega)
 i_mid:=fun {ns n s l z} h hz _=>(FI.ask h hz).mono (show s.k≤s.k+1 - 1 by omega)
 i_pick:=fun h hl=>⟨headD_mem hl,FI.drop h⟩
 i_came:=fun h hz hn=>FI.came h hz hn
theorem best_head{kf:Nat→List Int}{v:Nat→Int}{m:Nat}(hk:∀i,i≤m→kf i=[v i])(ho:∀i,i≤m→v 0≤v i):argBest (btK kf) m=0:=by
 have:∀j,j≤m→argBest (btK kf) j=0:=by
  intro j
  induction j with
  | zero=>intro _;rfl
  | succ j ih=>
   intro hj
   show (if btK kf (j+1) (argBest (btK kf) j)=true then j+1 else argBest (btK kf) j)=0
   rw [ih (by omega)]
   have:btK kf (j+1) 0=false:=by
    unfold btK
    rw [hk _ hj,hk 0 (by omega)]
    show (if v (j+1)=v 0 then false else decide (v (j+1) < v 0))=false
    have:=ho (j+1) hj
    split
    · rfl
    · exact decide_eq_false (by omega)
   rw [this];rfl
 exact this m (Nat.le_refl _)
noncomputable def sp22_init(C:Addr):Sp:=fun vs H Q _=>∃(q dx p:Addr) (n:Int),vs=[.ref q,.ref p,.int n]∧H q=some (.ins C dx [])∧1≤n∧n≤1000000∧∀H' la pa,SameBut q H H'→H la=none→H pa=none→FAt C H' [q,la,pa] q p n ⟨0,[],[]⟩→Q .non H'
noncomputable def sp22_number(C:Addr):Sp:=fun vs H Q _=>∃(q p:Addr) (n:Int) (M:List Addr) (s:S1) (z:Str),vs=[.ref q,.str z]∧FAt C H M q p n s∧s.la.length≤1000∧∀H',Kp M H H'→FAt C H' M q p n (f1ask s z)→Q .non H'
noncomputable def sp22_rank(C:Addr):Sp:=fun vs H Q _=>∃(q p:Addr) (n:Int) (M:List Addr) (s:S1) (z:Str) (i:Int),vs=[.ref q,.str z]∧FAt C H M q p n s∧valV s.pu (Sum.inr z)=some (.int i)∧∀t,H t=none→Q (.ref t) (upd H t (.tup [.int i]))
noncomputable def spR2_room(T:Bool→RuleT)(K:PySem.W.Frag)(C S:Addr):Sp:=fun vs H Q E=>∃b,spR_room (T b) K C S vs H Q E
noncomputable def spR2_row(T:Bool→RuleT)(K:PySem.W.Frag)(C S:Addr):Sp:=fun vs H Q E=>∃b,spR_row (T b) K C S vs H Q E
noncomputable def spR2_book(T:Bool→RuleT)(K:PySem.W.Frag)(C S:Addr):Sp:=fun vs H Q E=>∃b,spR_book (T b) K C S vs H Q E
section
variable {p la pa:Addr} {n k k':Int}
theorem rf1_len:(rf1 p n k la pa).length=5:=by rfl
theorem rf1_present:(rf1 p n k la pa).lookup ("present":Str)=some (V.int k):=by rfl
theorem rf1_last:(rf1 p n k la pa).lookup ("last":Str)=some (V.ref la):=by rfl
theorem rf1_put:(rf1 p n k la pa).lookup ("put_at":Str)=some (V.ref pa):=by rfl
end
end N22
namespace N21
open L2 N1 N5 N4 N6 N12 N32 N14 N20 N18 N25 NR N22
structure S2 where
 k:Int
 la:List (Key×V)
noncomputable def lv(s:S2)(z:Str):Int:=match valV s.la (Sum.inr z) with
 | some (.int i)=>i
 | _=>0
theorem lv_at{s:S2}{z:Str}{i:Int}(h:valV s.la (Sum.inr z)=some (.int i)):lv s z=i:=by unfold lv;rw [h]
noncomputable def lmin(v:Str→Int)(l:List Str):Str:=l.getD (argBest (fun i j=>decide (v (l.getD i Str.empty) < v (l.getD j Str.empty))) (l.length - 1)) Str.empty
theorem lmin_ok{v:Str→Int}{l:List Str}(h:l≠[]):lmin v l∈l∧∀u∈l,v (lmin v l)≤v u:=by
 have hl0:0 < l.length:=List.length_pos_iff.mpr h
 have hb:=best_lt (fun i=>v (l.getD i Str.empty)) (l.length - 1)
 unfold lmin
 generalize argBest (fun i j=>decide (v (l.getD i Str.empty) < v (l.getD j Str.empty))) (l.length - 1)=m at hb
 have hm:m < l.length:=by omega
 refine ⟨?_,fun u hu=>?_⟩
 · rw [List.getD_eq_getElem?_getD,List.getElem?_eq_getElem hm];exact List.getElem_mem hm
 · obtain ⟨j,hj⟩:=List.mem_iff_getElem?.mp hu
   have hjl:=(List.getElem?_eq_some_iff.mp hj).1
   have:=hb.2 j (by omega)
   rw [show l.getD j Str.empty=u by rw [List.getD_eq_getElem?_getD,hj];rfl]at this
   exact this
structure LI(ns:List Str)(s:S2)(l:List Str):Prop where
 a:KeysIn s.la ns
 v:∀z∈l,∃i,valV s.la (Sum.inr z)=some (.int i)∧i≤s.k
 o:l.Pairwise fun x y=>lv s x≠lv s y
noncomputable def ask2(s:S2)(z:Str):S2:=⟨s.k+1,putK s.la (Sum.inr z) (.int (s.k+1))⟩
theorem ask_old{s:S2}{z u:Str}(h:u≠z):valV (ask2 s z).la (Sum.inr u)=valV s.la (Sum.inr u):=by
 unfold ask2;simp only;rw [valV_put,if_neg (inr_ne' h)]
theorem ask_new{s:S2}{z:Str}:valV (ask2 s z).la (Sum.inr z)=some (.int (s.k+1)):=by
 unfold ask2;simp only;rw [valV_put,if_pos rfl]
theorem lv_old{s:S2}{z u:Str}(h:u≠z):lv (ask2 s z) u=lv s u:=by unfold lv;rw [ask_old h]
theorem lv_new{s:S2}{z:Str}:lv (ask2 s z) z=s.k+1:=lv_at ask_new
theorem LI.le{ns:List Str}{s:S2}{l:List Str}(h:LI ns s l):∀z∈l,lv s z≤s.k:=fun z hz=>by
 obtain ⟨i,e,hi⟩:=h.v z hz
 rw [lv_at e];exact hi
theorem LI.inj{ns:List Str}{s:S2}{l:List Str}(h:LI ns s l):∀x∈l,∀y∈l,lv s x=lv s y→x=y:=fun x hx y hy e=>by
 obtain ⟨i,hi⟩:=List.mem_iff_getElem?.mp hx
 obtain ⟨j,hj⟩:=List.mem_iff_getElem?.mp hy
 obtain ⟨hil,hi⟩:=List.getElem?_eq_some_iff.mp hi
 obtain ⟨hjl,hj⟩:=List.getElem?_eq_some_iff.mp hj
 rcases Nat.lt_trichotomy i j with c | c | c
 · exact absurd (by rw [hi,hj];exact e) ((List.pairwise_iff_getElem.mp h.o) i j hil hjl c)
 · subst c;rw [← hi,← hj]
 · exact absurd (by rw [hi,hj];exact e.symm) ((List.pairwise_iff_getElem.mp h.o) j i hjl hil c)
theorem LI.ask{ns:List Str}{s:S2}{l:List Str}{z:Str}(h:LI ns s l)(hz:z∈ns):LI ns (ask2 s z) l:=by
 refine ⟨h.a.put hz,fun u hu=>?_,h.o.imp_of_mem fun {x y} hx hy hxy=>?_⟩
 · by_cases e:u=z
   · rw [e];exact ⟨_,ask_new,Int.le_refl _⟩
   · obtain ⟨i,e1,e2⟩:=h.v u hu
     exact ⟨i,(ask_old e).trans e1,by show i≤s.k+1;omega⟩
 · have lx:=h.le x hx
   have ly:=h.le y hy
   by_cases ex:x=z
   · by_cases ey:y=z
     · exact absurd (by rw [ex,ey]) hxy
     · rw [ex,lv_new,lv_old ey];omega
   · by_cases ey:y=z
     · rw [ey,lv_new,lv_old ex];omega
     · rw [lv_old ex,lv_old ey];exact hxy
theorem LI.drop{ns:List Str}{s:S2}{l:List Str}{z:Str}(h:LI ns s l):LI ns s (l.erase z):=
 ⟨h.a,fun u hu=>h.v u (List.mem_of_mem_erase hu),h.o.sublist List.erase_sublist⟩
structure LM(ns:List Str)(z:Str)(s:S2)(l:List Str):Prop where
 i:LI ns s l
 z:valV s.la (Sum.inr z)=some (.int s.k)
 b:∀u∈l,lv s u < s.k
theorem LI.mid{ns:List Str}{s:S2}{l:List Str}{z:Str}(h:LI ns s l)(hz:z∈ns)(hn:z∉l):LM ns z (ask2 s z) l:=
 ⟨h.ask hz,ask_new,fun u hu=>by
  have:=h.le u hu
  have e:lv (ask2 s z) u=lv s u:=lv_old (fun e=>hn (by rw [← e];exact hu))
  show lv (ask2 s z) u < s.k+1
  omega⟩
theorem LM.came{ns:List Str}{s:S2}{l:List Str}{z:Str}(h:LM ns z s l):LI ns s (l++[z]):=by
 refine ⟨h.i.a,fun u hu=>?_,?_⟩
 · rcases List.mem_append.mp hu with hu | hu
   · exact h.i.v u hu
   · rw [List.mem_singleton.mp hu];exact ⟨_,h.z,Int.le_refl _⟩
 · rw [List.pairwise_append]
   refine ⟨h.i.o,List.pairwise_singleton ..,fun u hu y hy=>?_⟩
   rw [List.mem_singleton.mp hy,lv_at h.z]
   have:=h.b u hu
   omega
noncomputable def rf2(p:Addr)(n k:Int)(la:Addr):List (Str×V):=putF "last" (.ref la) (putF "present" (.int k) (rf0 p n))
noncomputable def OAt(C:Addr)(H:Hp)(M:List Addr)(q p:Addr)(n:Int)(s:S2):Prop:=∃la,M=[q,la]∧(∃dx,H q=some (.ins C dx (rf2 p n s.k la)))∧H la=some (.dK s.la)
noncomputable def T2(C:Addr):RuleT where
 C:=C
 St:=S2
 At:=OAt C
 asked:=fun _ s z=>ask2 s z
 pick:=fun _ s l=>(s,lmin (lv s) l)
 gone:=fun _ s _=>s
 came:=fun _ s _=>s
 inv:=fun ns _ s l=>LI ns s l
 mid:=fun ns _ z s l=>LM ns z s l
 dep:=fun e ⟨la,hM,⟨dx,ho⟩,h1⟩=>by
  rw [hM]at e
  exact ⟨la,hM,⟨dx,e _ (by simp) _ ho⟩,e _ (by simp) _ h1⟩
 live:=fun ⟨la,hM,⟨dx,ho⟩,h1⟩ m hm e=>by
  rw [hM]at hm
  simp only [List.mem_cons,List.not_mem_nil,or_false]at hm
  rcases hm with e1 | e1
  · rw [e1,ho]at e;cases e
  · rw [e1,h1]at e;cases e
 obj:=fun ⟨la,hM,⟨dx,ho⟩,h1⟩=>⟨dx,_,ho,by rfl,by rfl,by rfl,by rfl,by rfl,by rfl,by rfl⟩
 i_hit:=fun h hz _=>LI.ask h hz
 i_mid:=fun h hz hn=>LI.mid h hz hn
 i_pick:=fun h hl=>⟨(lmin_ok hl).1,LI.drop h.i,h.z,fun u hu=>h.b u (List.mem_of_mem_erase hu)⟩
 i_came:=fun h _ _=>LM.came h
noncomputable def RT2(c1 c2:Addr)(b:Bool):RuleT:=bif b then T2 c1 else T2 c2
noncomputable def s20:S2:=⟨0,[]⟩
noncomputable def st2(c1 c2:Addr):(b:Bool)→(T2 c1).St→(RT2 c1 c2 b).St
 | true,s=>s
 | false,s=>s
section
variable {p la:Addr} {n k k':Int}
theorem rf2_len:(rf2 p n k la).length=4:=by rfl
theorem rf2_present:(rf2 p n k la).lookup ("present":Str)=some (V.int k):=by rfl
theorem rf2_last:(rf2 p n k la).lookup ("last":Str)=some (V.ref la):=by rfl
end
noncomputable def sp21_number(C:Addr):Sp:=fun vs H Q _=>∃(q p:Addr) (n:Int) (M:List Addr) (s:S2) (z:Str),vs=[.ref q,.str z]∧OAt C H M q p n s∧s.la.length≤1000∧∀H',Kp M H H'→OAt C H' M q p n (ask2 s z)→Q .non H'
noncomputable def sp21_last(C:Addr):Sp:=fun vs H Q _=>∃(q p:Addr) (n:Int) (M:List Addr) (s:S2) (z:Str) (i:Int),vs=[.ref q,.str z]∧OAt C H M q p n s∧valV s.la (Sum.inr z)=some (.int i)∧Q (.int i) H
noncomputable def sp21_rank(C:Addr):Sp:=fun vs H Q _=>∃(q p:Addr) (n:Int) (M:List Addr) (s:S2) (z:Str) (i:Int),vs=[.ref q,.str z]∧OAt C H M q p n s∧valV s.la (Sum.inr z)=some (.int i)∧∀t,H t=none→Q (.ref t) (upd H t (.tup [.int i]))
theorem bt_one{v:Nat→Int}:btK (fun i=>[v i])=fun i j=>decide (v i < v j):=by
 funext i j
 show (if v i=v j then false else decide (v i < v j))=decide (v i < v j)
 split
 · rename_i e;rw [e];exact (decide_eq_false (Int.lt_irrefl _)).symm
 · rfl
noncomputable def spR_bookN(T:RuleT)(K:PySem.W.Frag)(C S:Addr):Sp:=fun vs H Q _=>∃(H0:Hp) (q p a:Addr) (M:List Addr) (n:Int) (ts:List Th) (ys:List Str) (s0:T.St),vs=[.ref q,.ref a]∧T.At H M q p n s0∧T.inv (ts.map (·.1)) n s0 []∧StockAt K C H0 p ts∧Same H0 H∧(∀m∈M,H0 m=none)∧(ts.map (·.1)).Nodup∧ts.length≤60∧SqL K H a (ys.map V.str)∧a∉M∧ys.length≤200∧(∀y∈ys,y∈ts.map (·.1))∧(∀y∈ys,rm ts y≤n)∧1≤n∧n≤1000000∧T.cnt s0≤50∧
 ∀(b:Addr) (as gs:List Addr) (H':Hp),Kp M H H'→H' b=some (.lst (as.map V.ref))→(∀(i:Nat) a,as[i]?=some a→∃xs,H' a=some (.tup xs))→BookAt K H' b as gs (grows T (rm ts) n s0 ys ys.length)→T.At H' M q p n (gst T (rm ts) n s0 ys ys.length).1→H b=none→b∉gs→gs.Nodup→(∀(i:Nat) a g,as[i]?=some a→gs[i]?=some g→H a=none∧H g=none∧g∉M∧H' a=some (.tup [.str (NR.grow T (rm ts) n s0 ys i).1,.bl (NR.grow T (rm ts) n s0 ys i).2.1,.ref g])∧H' g=some (.lst ((NR.grow T (rm ts) n s0 ys i).2.2.map V.str)))→Q (.ref b) H'
end N21
namespace N24
open L2 N1 N5 N4 N6 N12 N32 N14 N20 N18 N25 NR N22 N21
noncomputable def nx(ys:List Str)(j:Nat)(z:Str):Nat:=min (j+(ys.drop j).findIdx fun y=>decide (y=z)) ys.length
end N24
namespace L2
noncomputable def rDictOf:List V→Hp→VK→Prop:=fun xs H Q=>∃a kvs,xs=[.ref a]∧H a=some (.dK kvs)∧∀l,H l=none→Q (.ref l) (upd H l (.dK kvs))
section
variable {H:Hp} {Q:VK} {x:V} {xs:List V}
theorem rd_dictOf:rDictOf xs H Q=∃a kvs,xs=[.ref a]∧H a=some (.dK kvs)∧∀l,H l=none→Q (.ref l) (upd H l (.dK kvs)):=rfl
end
end L2
namespace L2
section
variable {P:Program} {w:World} {K:PySem.W.Frag} {mg:Str→Option Value} {base:Heap} {x qual:Str} {st:Stmt} {f:Addr} {fd:FuncData} {dv:List Value} {N ps:List Str} {k:Nat} {sp:Sp}
noncomputable def gV31:List V→List V→List V
 | [a,b,c],[d]=>[a,b,c,d]
 | _,_=>[]
theorem gV31_at{a b c d:V}:gV31 [a,b,c] [d]=[a,b,c,d]:=rfl
end
noncomputable def tMakeD(C:Addr)(sp:Sp)(dvs:List V)(EE:St→XK)(t:TA):TE:=fun σ H Q=>t σ H fun vs H1=>∀x dx,H1 x=none→H1 dx=none→dx≠x→sp (.ref x::(vs++dvs)) (upd (upd H1 dx (.own x)) x (.ins C dx [])) (fun v H2=>v= .non∧Q (.ref x) H2) (EE σ)
noncomputable def tMakeK(C:Addr)(sp:Sp)(EE:St→XK)(t tk:TA):TE:=fun σ H Q=>t σ H fun vs H1=>tk σ H1 fun zs H2=>∀x dx,H2 x=none→H2 dx=none→dx≠x→sp (gV31 (.ref x::vs) zs) (upd (upd H2 dx (.own x)) x (.ins C dx [])) (fun v H3=>v= .non∧Q (.ref x) H3) (EE σ)
section
variable {X:Cx} {CX:CXT} {k j:Nat} {f C:Addr} {fd:FuncData} {ps:List Str} {sp:Sp} {EE:St→XK} {x kn:Str} {p pos kpos:Pos} {e ke:Expr} {es:List Expr} {kws:List Keyword} {t tk:TA} {te:TE} {dvs:List V}
theorem rd_makeD{σ:St}{H:Hp}{Q:VK}:tMakeD C sp dvs EE t σ H Q=t σ H fun vs H1=>∀x dx,H1 x=none→H1 dx=none→dx≠x→sp (.ref x::(vs++dvs)) (upd (upd H1 dx (.own x)) x (.ins C dx [])) (fun v H2=>v= .non∧Q (.ref x) H2) (EE σ):=rfl
theorem rd_makeK{σ:St}{H:Hp}{Q:VK}:tMakeK C sp EE t tk σ H Q=t σ H fun vs H1=>tk σ H1 fun zs H2=>∀x dx,H2 x=none→H2 dx=none→dx≠x→sp (gV31 (.ref x::vs) zs) (upd (upd H2 dx (.own x)) x (.ins C dx [])) (fun v H3=>v= .non∧Q (.ref x) H3) (EE σ):=rfl
end
end L2
namespace N23
open L2 N1 N5 N4 N6 N12 N32 N14 N20 N18 N25 NR N22 N21 N24
noncomputable def tvK(d:List (Key×V))(k:Key):Int:=match valV d k with
 | some (.int i)=>i
 | _=>0
noncomputable def stepH(d:List (Key×V))(k:Key):List (Key×V):=putK d k (.int (tvK d k / 2))
noncomputable def hvi(d:List (Key×V))(i:Nat):List (Key×V):=((d.map (·.1)).take i).foldl stepH d
noncomputable def hvd(d:List (Key×V)):List (Key×V):=hvi d d.length
noncomputable def tbl(e k:Int)(d:List (Key×V)):List (Key×V):=if k % e=0 then hvd d else d
end N23
namespace L2
noncomputable def tMethI{ι:Type}(C:ι→Addr)(m:Str)(sp:ι→Sp)(EE:St→XK)(ta:TE)(t:TA):TE:=fun σ H Q=>ta σ H fun x H1=>∃b a dx fs,x= .ref a∧H1 a=some (.ins (C b) dx fs)∧fs.lookup m=none∧t σ H1 fun vs H2=>sp b (x::vs) H2 Q (EE σ)
section
variable {ι:Type} {X:Cx} {CX:CXT} {k j:Nat} {C:ι→Addr} {ps:List Str} {sp:ι→Sp} {EE:St→XK} {m:Str} {pos apos:Pos} {e o:Expr} {es:List Expr} {ta:TE} {t:TA}
theorem pe_methI{pl:Sem Bool}(D:∀b,DefM X.prog X.w X.K X.mg X.base CX j (C b) m ps (sp b))(c:∀b,Cls X.K (C b))(hr:Room k X.A)(hx:PassesS CX X EE)(he:PE X o ta)(ha:PA X (e::es) t)(hj:j≤k:=by decide)
 (hst:starEach (e::es) X.env=(false,eval e X.env)::starEach es X.env:=by rfl) (hpl:(backTo pos (starEach es X.env)).any (·.1)=false:=by rfl)
 (ht:eval (.Call (.Attribute o m apos) (e::es) [] pos) X.env=(do
  let ov ← eval o X.env
  standAt apos.atName
  let (f,first) ← holding [ov] (getMethod ov m pl)
  callWith pos f first (backTo pos (starEach (e::es) X.env)) (backToKw pos (keywordEach [] X.env))):=by rfl):
 PE X (.Call (.Attribute o m apos) (e::es) [] pos) (tMethI C m sp EE ta t):=by
 intro pins s σ H Q I h
 refine PySem.W.methodCall_KW (pl:=pl) (thn (he pins s σ H _ I h) fun u s1 hq_=>?_) ht
 obtain ⟨x,H1,I1,rx,b,a,dx,fs,ex,ea,l,q⟩:=hq_
 obtain ⟨f,fd,F,hm,hb⟩:=(D b).ex
 subst ex
 obtain rfl:u=Value.ref a:=rx
 refine getmeth_ok I1 ea (c b) hm l ?_
 refine PySem.W.callWith_K (first:=[.ref a]) (h₀:=X.base) I.ok.mod.kin hm.kp (thn (ha pos pins s1 σ H1 _ I1 q) fun us s2 ⟨vs,H2,I2,r,q2⟩=>⟨I2.kIn,?_⟩) hst hpl
 exact run_fnS (us:= .ref a::us) (vs:= .ref a::vs) (F.mono hj) hr hb hx I2 (.cons rfl r) q2
theorem rd_methI{σ:St}{H:Hp}{Q:VK}:tMethI C m sp EE ta t σ H Q=ta σ H fun x H1=>∃b a dx fs,x= .ref a∧H1 a=some (.ins (C b) dx fs)∧fs.lookup m=none∧t σ H1 fun vs H2=>sp b (x::vs) H2 Q (EE σ):=rfl
end
noncomputable def rNeDD:R2:=fun x y H Q=>∃a b kvs,x= .ref a∧y= .ref b∧H a=some (.dK kvs)∧H b=some (.dK kvs)∧(∀p∈kvs,flatV p.2=true)∧Q (.bl false) H
section
variable {X:Cx}
theorem rd_neDD{x y:V}{H:Hp}{Q:VK}:rNeDD x y H Q=∃a b kvs,x= .ref a∧y= .ref b∧H a=some (.dK kvs)∧H b=some (.dK kvs)∧(∀p∈kvs,flatV p.2=true)∧Q (.bl false) H:=rfl
end
end L2
namespace L2
open PySem.W
noncomputable def rIsiO(K:PySem.W.Frag):List V→Hp→VK→Prop:=fun xs H Q=>∃(p C dx D:Addr) (fs:List (Str×V)),xs=[.ref p,.ref D]∧H p=some (.ins C dx fs)∧PySem.W.kitOne K (.ref C) (.ref D)=some true∧Q (.bl true) H
theorem rd_isiO{K:PySem.W.Frag}{xs:List V}{H:Hp}{Q:VK}:rIsiO K xs H Q=∃(p C dx D:Addr) (fs:List (Str×V)),xs=[.ref p,.ref D]∧H p=some (.ins C dx fs)∧PySem.W.kitOne K (.ref C) (.ref D)=some true∧Q (.bl true) H:=rfl
end L2
namespace L2
noncomputable def rSortS(K:PySem.W.Frag):List V→Hp→VK→Prop:=fun xs H Q=>∃(p:Addr) (ys:List Str),xs=[.ref p]∧SqL K H p (ys.map V.str)∧ys.length < 64∧∀(q:Addr) (zs:List Str),H q=none→zs.Perm ys→sortedS zs=true→Q (.ref q) (upd H q (.lst (zs.map V.str)))
theorem rd_sortS{K:PySem.W.Frag}{xs:List V}{H:Hp}{Q:VK}:rSortS K xs H Q=∃(p:Addr) (ys:List Str),xs=[.ref p]∧SqL K H p (ys.map V.str)∧ys.length < 64∧∀(q:Addr) (zs:List Str),H q=none→zs.Perm ys→sortedS zs=true→Q (.ref q) (upd H q (.lst (zs.map V.str))):=rfl
end L2
namespace N26
open L2 N1 N5 N4 N6 N12 N32 N14 N20 N18 N25 NR
structure R4 where
 a:List Str
 b:List Str
 p:List Str
 q:List Str
 k:Int
 r:Bool
noncomputable def cnt(s:R4)(u:Str):Nat:=s.a.count u+s.b.count u+s.p.count u+s.q.count u
noncomputable def l4(s:R4)(j:Nat):List Str:=match j with
 | 0=>s.a
 | 1=>s.b
 | 2=>s.p
 | _=>s.q
end N26
namespace N28
open L2 N1 N5 N4 N6 N12 N32 N14 N20 N18 N25 NR N22 N21 N24 N23 N26
structure H6 where
 L:List Str
 k:List (Key×V)
noncomputable def hrot:Nat→H6→H6
 | 0,s=>s
 | m+1,s=>match s.L with
  | []=>s
  | f::r=>if (valV s.k (Sum.inr f)).isSome=true then hrot m ⟨r++[f],dropK s.k (Sum.inr f)⟩ else s
noncomputable def hpk(s:H6):H6:=hrot s.k.length s
theorem hrot_cons{m:Nat}{f:Str}{r:List Str}{k:List (Key×V)}:hrot (m+1) ⟨f::r,k⟩=if (valV k (Sum.inr f)).isSome=true then hrot m ⟨r++[f],dropK k (Sum.inr f)⟩ else ⟨f::r,k⟩:=rfl
theorem drop_len{d:List (Key×V)}{k:Key}(h:(valV d k).isSome=true):(dropK d k).length < d.length:=by
 rw [← valV_any,List.any_eq_true]at h
 obtain ⟨p,hp,e⟩:=h
 have:(d.filter fun kv=>decide (kv.1≠k)).length < d.length:=by
  refine Nat.lt_of_le_of_ne (List.length_filter_le _ _) fun e2=>?_
  have:=(List.length_filter_eq_length_iff.mp e2) p hp
  simp only [decide_eq_true_eq]at this e
  exact this e
 exact this
theorem hrot_fuel:∀(m1 m2:Nat) (s:H6),s.k.length≤m1→s.k.length≤m2→hrot m1 s=hrot m2 s:=by
 intro m1
 induction m1 with
 | zero=>
  intro m2 s h1 h2
  obtain ⟨L,k⟩:=s
  have:k=[]:=List.length_eq_zero_iff.mp (Nat.le_zero.mp h1)
  subst this
  cases m2 with
  | zero=>rfl
  | succ m2=>
   cases L with
   | nil=>rfl
   | cons f r=>rw [hrot_cons,if_neg (by simp [valV])];rfl
 | succ m1 ih=>
  intro m2 s h1 h2
  obtain ⟨L,k⟩:=s
  cases L with
  | nil=>cases m2 <;> rfl
  | cons f r=>
   by_cases hf:(valV k (Sum.inr f)).isSome=true
   · have hd:=drop_len hf
     cases m2 with
     | zero=>simp only at h2 hd;omega
     | succ m2=>
      rw [hrot_cons,hrot_cons,if_pos hf,if_pos hf]
      simp only at h1 h2
      exact ih m2 _ (by show (dropK k (Sum.inr f)).length≤m1;omega) (by show (dropK k (Sum.inr f)).length≤m2;omega)
   · cases m2 with
     | zero=>rw [hrot_cons,if_neg hf];rfl
     | succ m2=>rw [hrot_cons,hrot_cons,if_neg hf,if_neg hf]
theorem hpk_go{f:Str}{r:List Str}{k:List (Key×V)}(h:(valV k (Sum.inr f)).isSome=true):hpk ⟨f::r,k⟩=hpk ⟨r++[f],dropK k (Sum.inr f)⟩:=by
 have hd:=drop_len h
 unfold hpk
 rw [hrot_fuel _ (k.length - 1+1) ⟨f::r,k⟩ (Nat.le_refl _) (by show k.length≤_;omega)]
 rw [hrot_cons,if_pos h]
 exact hrot_fuel _ _ _ (by show (dropK k (Sum.inr f)).length≤_;omega) (Nat.le_refl _)
theorem hpk_end{f:Str}{r:List Str}{k:List (Key×V)}(h:¬(valV k (Sum.inr f)).isSome=true):hpk ⟨f::r,k⟩=⟨f::r,k⟩:=by
 unfold hpk
 rw [hrot_fuel _ (k.length+1) ⟨f::r,k⟩ (Nat.le_refl _) (Nat.le_succ _)]
 rw [hrot_cons,if_neg h]
theorem KeysIn.drop{kvs:List (Key×V)}{ns:List Str}{z:Str}(h:KeysIn kvs ns):KeysIn (dropK kvs (Sum.inr z)) ns:=by
 obtain ⟨ks,e,nd,s⟩:=h
 refine ⟨ks.filter (fun u=>decide (u≠z)),?_,nd.filter _,fun u hu=>s u (List.mem_filter.mp hu).1⟩
 unfold dropK
 clear nd s
 induction kvs generalizing ks with
 | nil=>cases ks with
  | nil=>rfl
  | cons a b=>cases e
 | cons p q ih=>
  cases ks with
  | nil=>cases e
  | cons a b=>
   rw [List.map_cons,List.map_cons]at e
   obtain ⟨e1,e2⟩:=List.cons.inj e
   have:=ih b e2
   by_cases ha:a=z
   · rw [List.filter_cons_of_neg (by rw [e1,ha];simp),List.filter_cons_of_neg (by rw [ha];simp)];exact this
   · rw [List.filter_cons_of_pos (by rw [e1];simp [ha]),List.filter_cons_of_pos (by simp [ha]),List.map_cons,List.map_cons,this,e1]
structure HI6(ns:List Str)(s:H6)(l:List Str):Prop where
 k:KeysIn s.k ns
 p:s.L.Perm l
 nd:s.L.Nodup
 s:∀u∈s.L,u∈ns
theorem hrot_inv{ns l:List Str}:∀(m:Nat) (s:H6),HI6 ns s l→HI6 ns (hrot m s) l:=by
 intro m
 induction m with
 | zero=>exact fun s h=>h
 | succ m ih=>
  intro s h
  obtain ⟨L,k⟩:=s
  cases L with
  | nil=>exact h
  | cons f r=>
   rw [hrot_cons]
   split
   · have hp:(r++[f]).Perm (f::r):=List.perm_append_singleton ..
     exact ih _ ⟨KeysIn.drop h.k,hp.trans h.p,hp.nodup_iff.mpr h.nd,fun u hu=>h.s u (hp.mem_iff.mp hu)⟩
   · exact h
noncomputable def HkAt(C:Addr)(H:Hp)(M:List Addr)(q p:Addr)(n:Int)(s:H6):Prop:=∃od md,M=[q,od,md]∧(∃dx,H q=some (.ins C dx (hfl p od md n)))∧H od=some (.lst (s.L.map V.str))∧H md=some (.dK s.k)
noncomputable def ask6(s:H6)(z:Str):H6:=if z∈s.L then ⟨s.L,putK s.k (Sum.inr z) (.bl true)⟩ else s
theorem ask6_in{s:H6}{z:Str}(h:z∈s.L):ask6 s z=⟨s.L,putK s.k (Sum.inr z) (.bl true)⟩:=by unfold ask6;rw [if_pos h]
theorem ask6_out{s:H6}{z:Str}(h:z∉s.L):ask6 s z=s:=by unfold ask6;rw [if_neg h]
noncomputable def T6(C:Addr):RuleT where
 C:=C
 St:=H6
 At:=HkAt C
 asked:=fun _ s z=>ask6 s z
 pick:=fun _ s _=>(hpk s,(hpk s).L.headD Str.empty)
 gone:=fun _ s z=>⟨s.L.erase z,s.k⟩
 came:=fun _ s z=>⟨s.L++[z],putK s.k (Sum.inr z) (.bl true)⟩
 inv:=fun ns _ s l=>HI6 ns s l
 mid:=fun ns _ _ s l=>HI6 ns s l
 dep:=fun e ⟨od,md,hM,⟨dx,ho⟩,h1,h2⟩=>by
  subst hM
  exact ⟨od,md,rfl,⟨dx,e _ (by simp) _ ho⟩,e _ (by simp) _ h1,e _ (by simp) _ h2⟩
 live:=fun ⟨od,md,hM,⟨dx,ho⟩,h1,h2⟩ m hm e=>by
  subst hM
  simp only [List.mem_cons,List.not_mem_nil,or_false]at hm
  rcases hm with e1 | e1 | e1
  · rw [e1,ho]at e;cases e
  · rw [e1,h1]at e;cases e
  · rw [e1,h2]at e;cases e
 obj:=fun ⟨od,md,hM,⟨dx,ho⟩,h1,h2⟩=>⟨dx,_,ho,hfl_stock,hfl_places,by rfl,by rfl,by rfl,by rfl,by rfl⟩
 i_hit:=fun {ns n s l z} h hn hz=>by
  show HI6 ns (ask6 s z) l
  unfold ask6
  split
  · exact ⟨h.k.put hn,h.p,h.nd,h.s⟩
  · exact h
 i_mid:=fun {ns n s l z} h hn hz=>by
  show HI6 ns (ask6 s z) l
  unfold ask6
  split
  · exact ⟨h.k.put hn,h.p,h.nd,h.s⟩
  · exact h
 i_pick:=fun {ns n s l z} h hl=>by
  have h2:HI6 ns (hpk s) l:=hrot_inv _ _ h
  have hm:(hpk s).L.headD Str.empty∈(hpk s).L:=by
   cases e:(hpk s).L with
   | nil=>have:=h2.p;rw [e]at this;exact absurd (List.nil_perm.mp this) hl
   | cons f r=>exact List.mem_cons_self ..
  exact ⟨h2.p.mem_iff.mp hm,h2.k,h2.p.erase _,h2.nd.erase _,fun u hu=>h2.s u (List.mem_of_mem_erase hu)⟩
 i_came:=fun {ns n s l z} h hn hz=>by
  refine ⟨h.k.put hn,h.p.append_right _,?_,fun u hu=>?_⟩
  · show (s.L++[z]).Nodup
    rw [List.nodup_append]
    refine ⟨h.nd,by simp,fun a ha b hb e=>hz (h.p.mem_iff.mp ?_)⟩
    rw [List.mem_singleton]at hb
    rw [← hb,← e];exact ha
  · rcases List.mem_append.mp hu with hu | hu
    · exact h.s u hu
    · rw [List.mem_singleton.mp hu];exact hn
noncomputable def s60:H6:=⟨[],[]⟩
theorem hi60{ns:List Str}:HI6 ns s60 []:=⟨KeysIn.nil,List.Perm.refl _,List.nodup_nil,by simp [s60]⟩
noncomputable def spI_room{ι:Type}(T:ι→RuleT)(K:PySem.W.Frag)(C S:Addr):Sp:=fun vs H Q E=>∃b,spR_room (T b) K C S vs H Q E
noncomputable def spI_row{ι:Type}(T:ι→RuleT)(K:PySem.W.Frag)(C S:Addr):Sp:=fun vs H Q E=>∃b,spR_row (T b) K C S vs H Q E
noncomputable def sp28_rinit(K:PySem.W.Frag):Sp:=fun vs H Q _=>∃(X q dx p:Addr) (n:Int),vs=[.ref q,.ref p,.int n]∧H q=some (.ins X dx [])∧Cls K X∧NoAttr K X "stock"∧NoAttr K X "places"∧1≤n∧n≤1000000∧∀H',SameBut q H H'→H' q=some (.ins X dx (rf0 p n))→Q .non H'
noncomputable def sp28_kinit(K:PySem.W.Frag):Sp:=fun vs H Q _=>∃(X q dx p:Addr) (n:Int),vs=[.ref q,.ref p,.int n]∧H q=some (.ins X dx [])∧Cls K X∧(NoAttr K X "stock"∧NoAttr K X "places")∧NoAttr K X "present"∧NoAttr K X "last"∧1≤n∧n≤1000000∧∀H' la,SameBut q H H'→H la=none→la≠q→H' q=some (.ins X dx (rf2 p n 0 la))→H' la=some (.dK [])→Q .non H'
noncomputable def sp28_hinit(C:Addr):Sp:=fun vs H Q _=>∃(q dx p:Addr) (n:Int),vs=[.ref q,.ref p,.int n]∧H q=some (.ins C dx [])∧1≤n∧n≤1000000∧∀H' od md,SameBut q H H'→H od=none→H md=none→HkAt C H' [q,od,md] q p n s60→Q .non H'
noncomputable def spI_bookN{ι:Type}(T:ι→RuleT)(K:PySem.W.Frag)(C S:Addr):Sp:=fun vs H Q E=>∃b,spR_bookN (T b) K C S vs H Q E
end N28
namespace N63
open L2 N1 N5 N4 N6 N12 N32 N14 N20 N18 N25 NR N22 N21 N28
section
variable {C:Addr} {R:Str→Int} {n1 n2:Int} {ns ys:List Str}
theorem li0:LI ns s20 []:=⟨KeysIn.nil,by simp,List.Pairwise.nil⟩
end
noncomputable def pm(H:Hp):V→Bool
 | .ref a=>match H a with
  | some (.tup [_,.bl b,_])=>!b
  | _=>false
 | _=>false
end N63
namespace L2
open PySem.W
noncomputable def OnlyT(tp:Addr)(H:Hp):Prop:=H tp=some (.tbl #[])∧∀b,b≠tp→H b=none∨∃o xs,H b=some (.frz o (.lst xs))
theorem law_callT{P:Program}{w:World}{K:PySem.W.Frag}{mg mb:Str→Option Value}{CX:CXT}{k:Nat}{fa a tp:Addr}{fd:FuncData}{x:Str}{sp:Sp}{s₁:Shared}{vs:List Value}{ns:List Int}
 (KX:K.In s₁.heap) (hns:s₁.heap.Ns mainGlobals mg) (hb:s₁.heap.Ns builtinsNs mb) (hbb:∀x:Str,x≠"__name__"→mb x=bootBuiltins x) (hlim:s₁.heap.NoLimit) (hg:s₁.gens=#[])
 (ha:s₁.heap.get? a=some {cls:= .type "list",data:= .seq vs.toArray}) (hi:IntsAre vs ns) (hl:ns.length≤sizeLine) (hr:Room k callerA)
 (hT:s₁.heap.get? tp=some (tabObj #[])) (hct:isCodeTable s₁.heap tp) (hKt:K.lookup tp=none)
 (hbm:∃bm ob,mg "__builtins__"=some (.ref bm)∧bm≠builtinsNs∧s₁.heap.get? bm=some ob∧ob.cls= .type "module"∧ob.dict=some builtinsNs∧ob.data= .plain)
 (F:∀base:Heap,K.In base→base.Ns mainGlobals mg→base.BuiltinsAt mg tp→FnOk P w K mg base CX k fa fd [x] sp) (hbind:∀(s:Shared) (u:Value),BindsTo s fd ⟨[u],[]⟩ [(x,u)])
 (hsp:∀H:Hp,OnlyT tp H→SqL K H a (ns.map V.int)→sp [.ref a] H (fun v _=>v= .bl true) fun _ _ _=>False)
 (hCX:∀H e s',CX [] H s₁ (fun _ _ _=>False) e s'→False):
 codeAny (model P w) callerA (.call (.ref fa) ⟨[.ref a],[]⟩) (fun r s'=>r= .ok (.ret (.bool true))∧OldK s₁.heap s'.heap∧s'.os=s₁.os∧AllBare s'.gens) s₁:=by
 have rv:=vals_ints hi
 have lenV:=hi.length
 have nta:tp≠a:=fun e=>by rw [e,ha]at hT;cases hT
 have core:∀H:Hp,OnlyT tp H→SqL K H a (ns.map V.int)→HOk P w H s₁.heap→(∀b,b≠tp→H b≠none→b=a∧K.lookup a=none)→
  codeAny (model P w) callerA (.call (.ref fa) ⟨[.ref a],[]⟩) (fun r s'=>r= .ok (.ret (.bool true))∧OldK s₁.heap s'.heap∧s'.os=s₁.os∧AllBare s'.gens) s₁:=by
  intro H hO hS hok hA
  have off:∀{b:Addr} {o:Obj} {es:Array DictEntry} {ep:Nat},s₁.heap.get? b=some o→o.data= .dict es ep→H b=none:=fun {b o es ep} e d=>by
   by_cases h1:b=tp
   · subst h1;rw [hT]at e;cases e;cases d
   · cases q:H b with
     | none=>rfl
     | some u=>
      obtain ⟨e',_⟩:=hA b h1 (by rw [q];simp)
      subst e';rw [ha]at e;cases e;cases d
  have nsT:∀{b:Addr} {m:Str→Option Value},s₁.heap.Ns b m→(hidT s₁.heap H).Ns b m:=fun {b m} ⟨o,es,ep,e,d,r⟩=>⟨o,es,ep,hidT_get e (off e d),d,r⟩
  have inT:K.In (hidT s₁.heap H):=fun b o e=>hidT_get (KX b o e) (by
   by_cases h1:b=tp
   · subst h1;rw [hKt]at e;cases e
   · cases q:H b with
     | none=>rfl
     | some u=>
      obtain ⟨e',hk⟩:=hA b h1 (by rw [q];simp)
      subst e';rw [hk]at e;cases e)
  have mT:Mod K mg (hidT s₁.heap H):=⟨inT,nsT hns,⟨mb,nsT hb,hbb⟩,let ⟨mc,h1,h2⟩:=hlim;⟨mc,nsT h1,h2⟩⟩
  have e0:Env0 P w K mg (hidT s₁.heap H) callerA [] s₁ H:=⟨rfl,mT,fun b o e=>of_hidT e,Nat.le_of_eq (hidT_size _ _),trivial,fun b hb=>absurd (show b∈([]:List Addr) from hb) (by simp),hok,.of_eq hg⟩
  have bT:(hidT s₁.heap H).BuiltinsAt mg tp:=by
   obtain ⟨bm,ob,m1,m2,m3,m4,m5,m6⟩:=hbm
   have ntp:bm≠tp:=fun e=>by rw [e,hT]at m3;cases m3;cases m4
   refine ⟨bm,ob,m1,m2,fun e=>?_,ntp,hidT_get m3 ?_,m4,m5,m6⟩
   · obtain ⟨o,es,ep,e1,d1,_⟩:=hns
     rw [← e,m3]at e1
     cases e1
     rw [m6]at d1
     cases d1
   · cases q:H bm with
     | none=>rfl
     | some u=>
      obtain ⟨e',_⟩:=hA bm ntp (by rw [q];simp)
      rw [e',ha]at m3
      cases m3
      cases m6
  refine codeAny_mono ((F _ inT (nsT hns) bT).run callerA [] s₁ H ⟨[.ref a],[]⟩ [.ref a] [.ref a] _ _ hr e0 (hbind s₁ (.ref a)) (.cons rfl .nil) (hsp H hO hS)) fun r s' h=>?_
  cases r with
  | error e=>exact (hCX H e s' h).elim
  | ok fl=>
   cases fl with
   | next=>exact False.elim h
   | brk=>exact False.elim h
   | cont=>exact False.elim h
   | ret u=>
    obtain ⟨v,H',os,bare,un,hok',r',q⟩:=h
    obtain rfl:v= .bl true:=q
    obtain rfl:u=Value.bool true:=r'
    have kp:∀b o,b≠tp→s₁.heap.get? b=some o→s'.heap.get? b=some o:=fun b o nb e=>by
     cases q:H b with
     | none=>exact un.keep b o e q (by intro z;exact absurd (show b∈([]:List Addr) from z) (by simp)) (by simp)
     | some u=>
      rcases hO.2 b nb with z | ⟨ob,xs,z⟩
      · rw [q]at z;cases z
      · obtain ⟨e1,_⟩:=hok b _ z
        obtain ⟨e2,_⟩:=hok' b _ (un.frzs b ob _ z)
        rw [e]at e1;cases e1
        exact e2
    obtain ⟨more,hm⟩:=un.tbls tp #[] hO.1
    have tT:s'.heap.get? tp=some {cls:= .none,data:= .fields (#[]++more)}:=hok' tp _ hm
    refine ⟨rfl,⟨fun b o e=>?_,fun b o e=>?_⟩,os,bare⟩
    · by_cases nb:b=tp
      · subst nb
        rw [hT]at e;cases e
        exact .inr (.inl ⟨hct,rfl,#[],more,rfl,tT⟩)
      · exact .inl (kp b o nb e)
    · by_cases nb:b=tp
      · subst nb;exact ⟨_,tT⟩
      · exact ⟨o,kp b o nb e⟩
 have tOk:∀H:Hp,ObjOk P w H s₁.heap tp (.tbl #[]):=fun H=>hT
 cases hk:K.lookup a with
 | some o=>
  have e:=KX a o hk
  rw [ha]at e
  cases e
  refine core (fun b=>if b=tp then some (.tbl #[]) else none) ⟨if_pos rfl,fun b nb=> .inl (if_neg nb)⟩ (.inr ⟨_,vs.toArray,_,hk,rfl,rfl,rfl,by rw [List.size_toArray,lenV];exact hl,by simpa using rv⟩) (fun b u z=>?_) (fun b nb z=>absurd (if_neg nb) z)
  by_cases h1:b=tp
  · have z':=(if_pos h1).symm.trans z
    cases z';subst h1;exact tOk _
  · have z':=(if_neg h1).symm.trans z
    cases z'
 | none=>
  refine core (fun b=>if b=tp then some (.tbl #[]) else if b=a then some (.frz {cls:= .type "list",data:= .seq vs.toArray} (.lst (ns.map V.int))) else none) ⟨if_pos rfl,fun b nb=>?_⟩ (.inl (.inr ⟨{cls:= .type "list",data:= .seq vs.toArray},(if_neg nta.symm).trans (if_pos rfl)⟩)) (fun b u z=>?_) (fun b nb z=>⟨?_,hk⟩)
  · by_cases h2:b=a
    · exact .inr ⟨_,_,(if_neg nb).trans (if_pos h2)⟩
    · exact .inl ((if_neg nb).trans (if_neg h2))
  · by_cases h1:b=tp
    · have z':=(if_pos h1).symm.trans z
      cases z';subst h1;exact tOk _
    · have z1:=(if_neg h1).symm.trans z
      by_cases h2:b=a
      · have z':=(if_pos h2).symm.trans z1
        cases z';subst h2
        exact ⟨ha,by rw [List.length_map];exact hl,vs,_,rv,ha⟩
      · have z':=(if_neg h2).symm.trans z1
        cases z'
  · by_cases h2:b=a
    · exact h2
    · exact absurd ((if_neg nb).trans (if_neg h2)) z
theorem walk_ofKT{l:PySem.W.OpenLaw}{n k:Nat}{q:Program}{loose:List Str}{XP:(Str→Option Value)→Heap→Prop}{YP:World→Heap→Prop}{d:DefRec}{K:Params→PySem.W.Frag}{CX:CXT}{sp:PySem.W.Frag→Sp}{x:Str}{tp:Addr}
 (hn:l.most=some n) (hn2:n≤sizeLine) (hdf:d.params.defaults=[]) (hr:Room k callerA)
 (hY:∀(w:World) (h:Heap),YP w h→(K w.params).In h) (hT:∀(w:World) (h:Heap),YP w h→h.get? tp=some (tabObj #[])) (hKt:∀w:World,(K w.params).lookup tp=none)
 (F:∀(w:World) (mg:Str→Option Value) (fa:Addr) (h:Heap),(K w.params).In h→h.Ns mainGlobals mg→mg d.name=some (.ref fa)→
  (∃c,codeHdIn (K w.params) c tp=true)∧∃fd:FuncData,(∀(s:Shared) (u:Value),BindsTo s fd ⟨[u],[]⟩ [(x,u)])∧
   ∀base:Heap,(K w.params).In base→base.Ns mainGlobals mg→base.BuiltinsAt mg tp→FnOk l.prog w (K w.params) mg base CX k fa fd [x] (sp (K w.params)))
 (hsp:∀(K:PySem.W.Frag) (H:Hp) (a:Addr) (ns:List Int),ns.length≤n→OnlyT tp H→SqL K H a (ns.map V.int)→sp K [.ref a] H (fun v _=>v= .bl true) fun _ _ _=>False)
 (hCX:∀(H:Hp) (s:Shared) (e:Value) (s':Shared),CX [] H s (fun _ _ _=>False) e s'→False):
 PySem.W.WalkO q loose XP YP l.row.toRowW d [] (fun f vs=>PySem.call f vs):=by
 refine Att.attach_call hn hdf fun w s₀ s₁ mg mb fa o pm cd doc a vs ns G Y ho hd hcd hmg hobj hints hlen hg=>?_
 have KX:=hY w _ Y
 obtain ⟨⟨c,hc⟩,fd,hb,hF⟩:=F w mg fa _ KX G.T.g hmg
 have hct:isCodeTable s₁.heap tp:=by
  obtain ⟨o,vs,f,tf,fl,tg,b,n,tt,e1,e2,e3,e4,_⟩:=codeHd_of_K KX hc
  exact ⟨c,o,vs,e1,e2,e3,e4⟩
 exact law_callT KX G.T.g G.T.b G.T.builtins G.T.nolimit hg hobj hints (Nat.le_trans hlen hn2) hr (hT w _ Y) hct (hKt w) G.T.bmain hF hb (fun H hO hS=>hsp (K w.params) H a ns hlen hO hS) fun H e s'=>hCX H s₁ e s'
section
variable {X:Cx} {pins:List (Addr×Obj)} {σ:List (Option V)} {H H':Hp} {s:Shared} {h':Heap}
theorem Inv.grown{t':Nat}{tp:Addr}{ps more:Array Value}(I:Inv X pins σ H s)(ht:H tp=some (.tbl ps))(k:∀b u,b≠tp→s.heap.get? b=some u→h'.get? b=some u)(e:h'.get? tp=some (tabObj (ps++more)))
 (hT:H' tp=some (.tbl (ps++more))) (old:∀b,b≠tp→b < s.heap.objs.size→H' b=H b) (new:∀b u,s.heap.objs.size≤b→H' b=some u→ObjOk X.prog X.w H' h' b u):Inv X pins σ H' {s with heap:=h',toks:=t'}:=by
 have lt:∀b u,H b=some u→b < s.heap.objs.size:=fun b u q=>(I.hok b u q).lt
 have nt:∀b u,H b=some u→(∀ps,u≠ .tbl ps)→b≠tp:=fun b u q n z=>by rw [z,ht]at q;cases q;exact n _ rfl
 have st:∀b u,H b=some u→b≠tp→H' b=some u:=fun b u q n=>by rw [old b n (lt b u q)];exact q
 refine I.un ⟨fun b o q n _ _=>k b o (fun z=>by rw [z,ht]at n;cases n) q,fun b o q n _ _=>⟨o.slots,k b o (fun z=>by rw [z,ht]at n;cases n) q⟩,fun b o q n _=>?_,fun b o q _=>?_,fun b xs q=>st b _ q (nt b _ q fun _ z=>by cases z),fun b o u q=>st b _ q (nt b _ q fun _ z=>by cases z),fun b ps' q=>?_⟩ fun b u q=>?_
 · rw [old b (fun z=>by rw [z,ht]at n;cases n) (Heap.lt_size q)];exact n
 · by_cases z:b=tp
   · subst z;exact ⟨_,e⟩
   · exact ⟨o,k b o z q⟩
 · by_cases z:b=tp
   · subst z;rw [ht]at q;cases q;exact ⟨more,hT⟩
   · exact ⟨#[],by rw [st b _ q z];simp⟩
 · by_cases z:b=tp
   · subst z;rw [hT]at q;cases q;exact e
   · by_cases hb:b < s.heap.objs.size
     · have q0:H b=some u:=by rw [← old b z hb];exact q
       refine (I.hok b u q0).stay (fun c v hc r=>k c v (fun w'=>?_) r) (fun c r=>st c _ r (nt c _ r fun _ z=>by cases z)) fun c xs r=>st c _ r (nt c _ r fun _ z=>by cases z)
       rcases hc with rfl | hc
       · exact z w'
       · rw [w',ht]at hc;cases hc
     · exact new b u (Nat.le_of_not_lt hb) q
end
noncomputable def codeO(c:Addr)(qual:Str):HO:= .ext fun h=>h.CodeRec (.ref c) qual
noncomputable def fnO(f:Addr)(o:Obj):HO:= .ext fun h=>h.get? f=some o
theorem codeO_ok{P:Program}{w:World}{H:Hp}{h:Heap}{c:Addr}{qual:Str}(x:h.CodeRec (.ref c) qual):ObjOk P w H h c (codeO c qual):=by
 refine ⟨x,?_,fun h1 h2 y k=>?_⟩
 · obtain ⟨c',oc,vs,tq,e,hoc,_⟩:=x
   cases e
   exact ⟨oc,hoc⟩
 · obtain ⟨c',oc,vs,tq,e,hoc,r⟩:=y
   cases e
   exact ⟨_,oc,vs,tq,rfl,k _ hoc,r⟩
theorem fnO_ok{P:Program}{w:World}{H:Hp}{h:Heap}{f:Addr}{o:Obj}(x:h.get? f=some o):ObjOk P w H h f (fnO f o):=⟨x,⟨o,x⟩,fun _ _ y k=>k _ y⟩
noncomputable def LamOk(tp:Addr)(pos:Pos)(qual:Str)(H:Hp):Prop:=H tp=some (.tbl #[])∨∃c,H tp=some (.tbl #[rawInt pos.line,rawInt pos.col,.ref c])∧H c=some (codeO c qual)
noncomputable def tLam(tp:Addr)(pos:Pos)(qual:Str)(fo:Addr→Value→Obj):TE:=fun _ H Q=>LamOk tp pos qual H∧∀f c ct H',H f=none→N1.SameBut tp H H'→LamOk tp pos qual H'→H' c=some (codeO c qual)→H' f=some (fnO f (fo c ct))→Q (.ref f) H'
section
variable {X:Cx}
theorem pe_lam{args:Arguments}{body:Expr}{scope:Scope}{pos:Pos}{c tp:Addr}(hdef:defaultsOf args X.env=([],[]))(hcl:closureFor scope X.env=pure [])(hcode:X.env.code= .ref c)(hc:codeHdIn X.K c tp=true)(hne:mainGlobals≠tp)
 (hB:X.base.BuiltinsAt X.mg tp):
 PE X (.Lambda args body scope pos) (tLam tp pos (X.env.qual++"<lambda>") fun c ct=>kla_obj "<lambda>" (X.env.qual++"<lambda>") args body scope [] ((X.mg "__name__").getD .none) c ct):=by
 intro pins s σ H Q I h
 obtain ⟨hL,q⟩:=h
 have C:CodeHd s.heap c tp:=codeHd_of_K I.kIn hc
 have G:s.heap.Ns mainGlobals X.mg:=I.mod.glob.keeps I.bk
 have B:s.heap.BuiltinsAt X.mg tp:=hB.keeps I.bk
 refine kla_eval hdef ?_
 rcases hL with hE | ⟨c',hE,hc'⟩
 · have hP:s.heap.get? tp=some (tabObj #[]):=I.hok tp _ hE
   have ltt:=Heap.lt_size hP
   refine kla_makeFunction hcl I.ok.glob G hcode C hP (by first | trivial | exact .nil | simp [TriplesOk]) rfl hne B fun c' ctv h' tk hx hge hlt hrec htab=>?_
   have ncf:c'≠h'.objs.size:=Nat.ne_of_lt hlt
   have ltc:tp < c':=Nat.lt_of_lt_of_le ltt hge
   have szf:s.heap.objs.size≤h'.objs.size:=Nat.le_trans hge (Nat.le_of_lt hlt)
   have ntf:tp≠h'.objs.size:=Nat.ne_of_lt (Nat.lt_trans ltc hlt)
   have ntc:tp≠c':=Nat.ne_of_lt ltc
   generalize hF:(kla_obj "<lambda>" (X.env.qual++"<lambda>") args body scope [] ((X.mg "__name__").getD .none) c' ctv)=fo
   have I2:Inv X pins σ (upd (upd (upd H tp (.tbl #[rawInt pos.line,rawInt pos.col,.ref c'])) c' (codeO c' (X.env.qual++"<lambda>"))) h'.objs.size (fnO h'.objs.size fo)) {s with heap:=h'.push fo,toks:=tk}:=by
    refine I.grown (more:=#[rawInt pos.line,rawInt pos.col,.ref c']) hE (fun b u nb e=>Heap.get?_push_of_some _ (hx b u nb e)) (Heap.get?_push_of_some _ htab) ?_ (fun b nb lb=>?_) fun b u lb e=>?_
    · rw [upd_ne ntf,upd_ne ntc];exact upd_same
    · rw [upd_ne (Nat.ne_of_lt (Nat.lt_of_lt_of_le lb szf)),upd_ne (Nat.ne_of_lt (Nat.lt_of_lt_of_le lb hge)),upd_ne nb]
    · by_cases e1:b=h'.objs.size
      · subst e1
        rw [upd_same]at e;cases e
        exact fnO_ok (Heap.get?_push_size _ (by rw [← hF];rfl))
      · rw [upd_ne e1]at e
        by_cases e2:b=c'
        · subst e2
          rw [upd_same]at e;cases e
          obtain ⟨c2,oc,vs,tq,ec,hoc,r⟩:=hrec
          exact codeO_ok ⟨c2,oc,vs,tq,ec,Heap.get?_push_of_some _ hoc,r⟩
        · rw [upd_ne e2,upd_ne (fun z=>by rw [z]at lb;exact Nat.lt_irrefl _ (Nat.lt_of_lt_of_le ltt lb)),I.hok.fresh lb]at e
          cases e
   refine ⟨.ref h'.objs.size,_,I2,rfl,q _ c' ctv _ (I.hok.fresh szf) (fun b o e nb=>?_) (.inr ⟨c',?_,?_⟩) ?_ (by rw [upd_same,← hF])⟩
   · have lb:=(I.hok b o e).lt
     rw [upd_ne (Nat.ne_of_lt (Nat.lt_of_lt_of_le lb szf)),upd_ne (Nat.ne_of_lt (Nat.lt_of_lt_of_le lb hge)),upd_ne nb];exact e
   · rw [upd_ne ntf,upd_ne ntc];exact upd_same
   · rw [upd_ne ncf];exact upd_same
   · rw [upd_ne ncf];exact upd_same
 · have hP:s.heap.get? tp=some (tabObj #[rawInt pos.line,rawInt pos.col,.ref c']):=I.hok tp _ hE
   have ltt:=Heap.lt_size hP
   have ltc:=(I.hok c' _ hc').lt
   refine kla_makeFunctionHit (cv:= .ref c') hcl I.ok.glob G hcode C hP (by simp [TriplesOk,rawInt]) (by simp [codeAmong,rawInt]) B fun ctv h' tk hk hsz=>?_
   generalize hF:({cls:= .type "function",data:= .func (kla_fn "<lambda>" (X.env.qual++"<lambda>") args body scope [] ((X.mg "__name__").getD .none) (.ref c') ctv)}:Obj)=fo
   have I2:=I.laid (a:=h'.objs.size) (o:=fnO h'.objs.size fo) (t':=tk) (h':=h'.push fo) (fun b u e=>Heap.get?_push_of_some _ (hk b u e)) hsz (fnO_ok (Heap.get?_push_size _ (by rw [← hF];rfl)))
   have nw:=I.hok.fresh hsz
   have sm:∀b o,H b=some o→upd H h'.objs.size (fnO h'.objs.size fo) b=some o:=fun b o e=>by rw [upd_ne (ne_of_none e nw)];exact e
   exact ⟨.ref h'.objs.size,_,I2,rfl,q _ c' ctv _ nw (fun b o e _=>sm b o e) (.inr ⟨c',sm _ _ hE,sm _ _ hc'⟩) (sm _ _ hc') (by rw [upd_same,← hF])⟩
end
noncomputable def ConstFn(i:Int)(H:Hp)(f:Addr):Prop:=∃(nm qual:Str) (args:Arguments) (j:Nat) (bp:Pos) (scope:Scope) (pm:Value) (cd:Addr) (ct:Value),
 (∀(cd ct u:Value),bindArgs (kla_fn "<lambda>" qual args (.Constant (.int i) j bp) scope [] pm cd ct) ⟨[u],[]⟩=pure [(nm,u)])∧scope.isCoroutine=false∧scope.isGenerator=false∧scope.kind= .function∧(∀y∈scope.names,y.2≠ .cell)∧scope.names.lookup nm=some .local∧
 H f=some (fnO f (kla_obj "<lambda>" qual args (.Constant (.int i) j bp) scope [] pm cd ct))∧H cd=some (codeO cd qual)
theorem ConstFn.same{i:Int}{H H':Hp}{f:Addr}(s:Same H H')(h:ConstFn i H f):ConstFn i H' f:=by
 obtain ⟨nm,qual,args,j,bp,scope,pm,cd,ct,h1,h2,h3,h4,h5,h6,h7,h8⟩:=h
 exact ⟨nm,qual,args,j,bp,scope,pm,cd,ct,h1,h2,h3,h4,h5,h6,s _ _ h7,s _ _ h8⟩
noncomputable def tCallO(i:Int)(tv:TE)(ta:TA):TE:=fun σ H Q=>tv σ H fun x H1=>∃f:Addr,x= .ref f∧ConstFn i H1 f∧ta σ H1 fun vs H2=>∃v,vs=[v]∧ConstFn i H2 f∧Q (.int i) H2
section
variable {X:Cx}
theorem pe_callO(i:Int){x:Str}{e:Expr}{tv:TE}{ta:TA}{k:Nat}{p pos:Pos}(hr:Room k X.A)(hv:PE X (.Name x p) tv)(ha:PA X [e] ta)
 (he:starEach [e] X.env=(false,eval e X.env)::starEach [] X.env:=by rfl):
 PE X (.Call (.Name x p) [e] [] pos) (tCallO i tv ta):=by
 intro pins s σ H Q I h
 refine wpAny_Call_Name_kw (thn (hv pins s σ H _ I h) fun u s1 hq_=>?_)
 obtain ⟨y,H1,I1,ry,q1⟩:=hq_
 obtain ⟨f,rfl,⟨nm,qual,args,j,bp,scope,pm,cd,ct,_,_,_,_,_,_,hf,_⟩,q1⟩:=q1
 cases ry
 have hf1:s1.heap.get? f=some (kla_obj "<lambda>" qual args (.Constant (.int i) j bp) scope [] pm cd ct):=(I1.hok f _ hf).1
 refine callWith_F ⟨_,_,_,_,hf1⟩ (thn (ha pos pins s1 σ H1 _ I1 q1) fun us s2 hq_=>?_) he rfl
 obtain ⟨vs,H2,I2,r2,q2⟩:=hq_
 obtain ⟨v,rfl,⟨nm,qual,args,j,bp,scope,pm,cd,ct,hb,hco,hgen,hk,hcell,hloc,hf',hc'⟩,q⟩:=q2
 obtain ⟨u,rfl,ru⟩:=vals1 r2
 have hf2:s2.heap.get? f=some (kla_obj "<lambda>" qual args (.Constant (.int i) j bp) scope [] pm cd ct):=(I2.hok f _ hf').1
 have hc2:s2.heap.CodeRec (.ref cd) qual:=(I2.hok cd _ hc').1
 refine ⟨⟨_,_,_,_,hf2⟩,wpAny_call (kla_callFunE (by have:=hr.dp;omega) hf2 rfl hco hgen rfl hc2 ?_)⟩
 rw [show ([]++[u]:List Value)=[u] from rfl,hb]
 refine wpAny_pure (wpAny_newFunctionEnv hcell (fun y hy=>by rw [List.mem_singleton.mp hy];exact hloc) (fun h₁ hns hsb=>⟨(I2.nolimit).fresh _ hsb,?_⟩) hk)
 refine kla_codeExpr (wpAny_Constant_int ?_)
 have kp:∀b o,s2.heap.get? b=some o→h₁.get? b=some o:=fun b o e=>hsb.extBut b o (Nat.ne_of_lt (Heap.lt_size e)) (Heap.get?_push_of_some _ e)
 exact ⟨.int i,H2,I2.kept kp,⟨_,rfl⟩,q⟩
end
noncomputable def MkAt(K:PySem.W.Frag)(f tp:Addr):Prop:=∃(oc:Value) (od:Option Addr) (fd:FuncData) (sl:Array (Option Value)) (c:Addr),K.lookup f=some ⟨oc,od,.func fd,sl⟩∧fd.code= .ref c∧codeHdIn K c tp=true
section
variable {P:Program} {w:World} {K:PySem.W.Frag} {mg:Str→Option Value} {base:Heap}
theorem Fun.okC{x qual:Str}{st:Stmt}{f tp:Addr}{fd:FuncData}{N ps:List Str}{k:Nat}{sp:Sp}(F:Fun K x qual st f fd)(M:MkAt K f tp)(S:FnScope N ps (defScope st))(len:∀vs H Q E,sp vs H Q E→vs.length=ps.length)
 (hbody:∀(c:Addr) (A:Around) (outer:List Env) (s:Shared) (H:Hp) (vs:List V) (Q:VK) (E:XK),codeHdIn K c tp=true→Room k (A.deeper (envOfC qual (defScope st) s.heap.objs.size f (.ref c)))→sp vs H Q E→
  ∃t,PSs (cxOf CX0 P w K mg base N qual (defScope st) f (.ref c) A outer s H E).nox (defBody st) t∧t {nx:=fun _ H'=>Q .non H',rt:=Q} (start N vs) H):FnOk P w K mg base CX0 (k+1) f fd ps sp:=by
 obtain ⟨oc,od,kV,doc,pm,an,cdv,ct,osl,rfl,lk,hcd⟩:=F.ex
 obtain ⟨oc',od',fd',sl',c,lk',e,hc⟩:=M
 rw [lk]at lk'
 cases lk'
 have e:cdv= .ref c:=e
 subst e
 refine fn_of lk hcd S len fun A outer s H vs Q E hr hsp=>?_
 obtain ⟨t,h,q⟩:=hbody c A outer s H vs Q E hc hr hsp
 exact ⟨t,h.nox,q⟩
end
theorem rd_lam{tp:Addr}{pos:Pos}{qual:Str}{fo:Addr→Value→Obj}{σ:St}{H:Hp}{Q:VK}:tLam tp pos qual fo σ H Q=(LamOk tp pos qual H∧∀f c ct H',H f=none→N1.SameBut tp H H'→LamOk tp pos qual H'→H' c=some (codeO c qual)→H' f=some (fnO f (fo c ct))→Q (.ref f) H'):=rfl
theorem rd_callO{i:Int}{tv:TE}{ta:TA}{σ:St}{H:Hp}{Q:VK}:tCallO i tv ta σ H Q=tv σ H fun x H1=>∃f:Addr,x= .ref f∧ConstFn i H1 f∧ta σ H1 fun vs H2=>∃v,vs=[v]∧ConstFn i H2 f∧Q (.int i) H2:=rfl
end L2
namespace N64
open L2 N1 N5 N4 N6 N12 N32 N14 N20 N18 N25 NR N22 N21 N24 N23 N28 N63
section
variable {T:RuleT} {pk:T.St→List Str→Str} {ak:T.St→Str→T.St}
theorem sm_one{R:Str→Int}:∀{l:List Str},(∀u∈l,R u=1)→N41.sm R l=l.length:=by
 intro l
 induction l with
 | nil=>intro _;rfl
 | cons x r ih=>
  intro h
  rw [N41.sm_cons,ih (fun u hu=>h u (List.mem_cons_of_mem _ hu)),h x List.mem_cons_self,List.length_cons]
  omega
variable {R:Str→Int} {n1 n2:Int} {ns ys:List Str} {s0:T.St}
end
inductive W2 where
 | ha
 | fa (ys:List Str) (h:ys.length≤1000)
structure C2 where
 ha:Addr
 fa:Addr
noncomputable def L6(T:RuleT)(s0:T.St)(ts:List Th)(n:Int)(ys:List Str)(i:Nat):List Str:=(gst T (rm ts) n s0 ys i).2
noncomputable def r6(T:RuleT)(s0:T.St)(ts:List Th)(n:Int)(ys:List Str)(i:Nat):N14.Row:=NR.grow T (rm ts) n s0 ys i
structure Bk6(T:RuleT)(s0:T.St)(H:Hp)(b:Addr)(as gs:List Addr)(ts:List Th)(n:Int)(ys:List Str):Prop where
 L:H b=some (.lst (as.map V.ref))
 ln:as.length=ys.length
 m:gs.length=ys.length
 t:∀(i:Nat) (a g:Addr),as[i]?=some a→gs[i]?=some g→H a=some (.tup [.str (r6 T s0 ts n ys i).1,.bl (r6 T s0 ts n ys i).2.1,.ref g])∧H g=some (.lst ((r6 T s0 ts n ys i).2.2.map V.str))
end N64
namespace N62
open L2 N1 N5 N4 N6 N12 N32 N14 N20 N18 N25 NR N22 N21 N28 N63 N64 N41
inductive W3 where
 | ol | fi | hd
 deriving DecidableEq
structure C3 where
 ol:Addr
 fi:Addr
 hd:Addr
noncomputable def TQ(c:C3):W3→RuleT
 | .ol=>T2 c.ol
 | .fi=>T1 c.fi
 | .hd=>T6 c.hd
noncomputable def lackN(a b:List Str):List Str:=a.filter fun u=>decide (u∉b)
noncomputable def pS(b:List Str):V→Bool
 | .str u=>decide (u∉b)
 | _=>false
noncomputable def lk(T:RuleT)(s0:T.St)(ts:List Th)(n1 n2:Int)(ys:List Str)(i:Nat):List Str:=lackN (L6 T s0 ts n1 ys (i+1)) (L6 T s0 ts n2 ys (i+1))
theorem pop0_go{H:Hp}{p:Addr}{f:Str}{r:List Str}{Q:VK}(h:H p=some (.lst ((f::r).map V.str)))(q:Q (.str f) (upd H p (.lst (r.map V.str)))):rPopAt (.ref p) [.int 0] H Q:=
 ⟨p,_,0,0,.str f,rfl,rfl,h,by decide,by decide,by unfold seqIndex?;rw [List.length_map,List.length_cons];simp,rfl,q⟩
end N62
namespace L2
noncomputable def dis1(s:List Str)(y:Str):List Str:=if y∈s then s else s++[y]
noncomputable def dis(ys:List Str):List Str:=ys.foldl dis1 []
theorem dis_snoc(ys:List Str)(y:Str):dis (ys++[y])=dis1 (dis ys) y:=by unfold dis;rw [List.foldl_append];rfl
theorem dis_take{ys:List Str}{i:Nat}(h:i < ys.length):dis (ys.take (i+1))=dis1 (dis (ys.take i)) (ys.getD i Str.empty):=by
 rw [List.take_add_one,List.getElem?_eq_getElem h,← dis_snoc,List.getD_eq_getElem?_getD,List.getElem?_eq_getElem h];rfl
theorem mem_dis1{s:List Str}{y z:Str}:z∈dis1 s y↔z∈s∨z=y:=by
 unfold dis1
 split
 · rename_i h
   exact ⟨.inl,fun h'=>h'.elim id fun e=>e▸h⟩
 · rw [List.mem_append,List.mem_singleton]
theorem len_dis1{s:List Str}{y:Str}:(dis1 s y).length=if decide (y∈s)=true then s.length else s.length+1:=by
 unfold dis1
 by_cases h:y∈s
 · rw [if_pos h,if_pos (decide_eq_true h)]
 · rw [if_neg h,if_neg (by simp [h])];simp
theorem len_dis_le(ys:List Str):∀i,(dis (ys.take i)).length≤i:=by
 intro i
 induction i with
 | zero=>rw [List.take_zero];exact Nat.le_refl _
 | succ i ih=>
  by_cases h:i < ys.length
  · rw [dis_take h,len_dis1]
    split <;> omega
  · rw [List.take_of_length_le (by omega),← List.take_of_length_le (i:=i) (l:=ys) (by omega)];omega
section
variable {prog:Program} {w:World} {A:Around}
noncomputable abbrev SetT(prog:Program)(w:World)(h:Heap)(S:Addr)(l:List Str):Prop:=h.SetOf (strKind prog w) S (fun z=>decide (z∈l)) l.length
theorem SetT.at{h h':Heap}{S:Addr}{l:List Str}(q:SetT prog w h S l)(k:∀o,h.get? S=some o→h'.get? S=some o):SetT prog w h' S l:=let ⟨o,es,ep,t,ho,r⟩:=q;⟨o,es,ep,t,k o ho,r⟩
theorem setT_run{R:Result→Shared→Prop}{I:Addr}{fp wr:List Addr}{G:Array GenState→Array GenState→Prop}{n:Nat}{Pv:Nat→Value→Prop}{St:Nat→Shared→Prop}(W:WalksS prog w A.in1 I fp wr G n Pv St){S:Addr}(off:S∉fp){ys:List Str}
 (hy:n=ys.length) (hv:∀i v,Pv i v→∃t,v= .str (ys.getD i Str.empty) t) (hb:n+1 < scanBound):
 ∀(left i:Nat) (s:Shared),left=n - i→i≤n→St i s→SetT prog w s.heap S (dis (ys.take i))→
   (∀s',Moved (S::wr) G s s'→SetT prog w s'.heap S (dis ys)→R (.ok (.ret .none)) s')→codeAny (model prog w) A (.builtin "set.update.loop" ⟨[.ref S,.ref I],[]⟩) R s:=by
 have offw:S∉wr:=fun z=>off (W.sub _ z)
 have more:∀b∈wr,b∈S::wr:=fun _ z=> .tail _ z
 intro left
 induction left with
 | zero=>
  intro i s e hi st q hR
  have hin:i=n:=by omega
  rw [hin,hy,List.take_length]at q
  rw [hin]at st
  refine codeAny_builtin F.entry_set_update_loop (by
   rw [Around.under_plainId F.plain_set_update_loop _]
   show wpAny _ A.in1 (pyNext (.ref I) >>=_) _ _ s
   refine wpAny_bind (W.done s _ _ st fun s' mv=>?_)
   show wpAny _ A.in1 (ret Value.none) _ _ s'
   exact wpAny_pure (hR s' (mv.mono more) (q.at fun o ho=>mv.heap S _ offw ho)))
 | succ left ih=>
  intro i s e hi st q hR
  have hlt:i < n:=by omega
  refine codeAny_builtin F.entry_set_update_loop (by
   rw [Around.under_plainId F.plain_set_update_loop _]
   show wpAny _ A.in1 (pyNext (.ref I) >>=_) _ _ s
   refine wpAny_bind (W.item i s _ _ hlt st fun v s1 pv st1 mv=>?_)
   obtain ⟨t,rfl⟩:=hv i v pv
   have q1:SetT prog w s1.heap S (dis (ys.take i)):=q.at fun o ho=>mv.heap S _ offw ho
   show wpAny _ A.in1 (holding [Value.str (ys.getD i Str.empty) t] (setAdd S (.str (ys.getD i Str.empty) t)) >>=_) _ _ s1
   refine wpAny_bind (wpAny_holding ?_)
   unfold setAdd
   refine wpAny_holding (wpAny_bind ((strKind prog w).pyHash (k:=ys.getD i Str.empty) (strKind_is _ _ _ _) ?_))
   have room:(dis (ys.take i)).length+1 < scanBound:=Nat.lt_of_le_of_lt (Nat.succ_le_succ (len_dis_le ys i)) (by omega)
   refine wpAny_setAddHashed_of (knd:=strKind prog w) (s:={s1 with toks:=s1.toks+1}) (strKind_is _ _ _ _) rfl q1 room fun h2 sb q2=>?_
   have q3:SetT prog w h2 S (dis (ys.take (i+1))):=by
    rw [dis_take (by omega)]
    refine SetOf_congr q2 (fun z=>?_) len_dis1.symm
    rw [Bool.eq_iff_iff,Bool.or_eq_true,decide_eq_true_eq,decide_eq_true_eq,decide_eq_true_eq,mem_dis1]
   refine wpAny_pure ⟨plainId_quiet F.plain_set_update_loop _,ih (i+1) _ (by omega) hlt (W.frame _ s1 _ _ st1 (Nat.le_succ _) fun b hb' o ho=>by rw [sb.2 b fun z=>off (z▸hb')];exact ho) q3 fun s3 mv3 q4=>hR s3 (Moved.trans W.gtrans ((mv.mono more).then_heap (Nat.le_succ _) fun b o hb' ho=>by rw [sb.2 b fun z=>hb' (z▸ .head _)];exact ho) mv3) q4⟩)
noncomputable abbrev newSet(led:Bool):Obj:={cls:= .type "set",dict:=none,data:= .set #[] 0 (.fresh 0 0 led)}
theorem text_at:∀{vs:List Value} {ys:List Str},StrsAre vs ys→∀(i:Nat) (v:Value),vs[i]?=some v→∃t,v= .str (ys.getD i Str.empty) t
 | _,_,.nil,i,v,h=>by simp at h
 | _,_,.cons z t r,0,v,h=>⟨t,by rw [List.getElem?_cons_zero]at h;cases h;rfl⟩
 | _,_,.cons z t r,i+1,v,h=>by
  rw [List.getElem?_cons_succ]at h
  obtain ⟨t',e⟩:=text_at r i v h
  exact ⟨t',e⟩
variable {E:Value→Shared→Prop} {s:Shared}
set_option maxHeartbeats 8000000 in
theorem call_setT{l:Addr}{us:Array Value}{ys:List Str}{Q:Value→Shared→Prop}(hh:A.handled=none)(hl:s.heap.IsList l us)(hy:StrsAre us.toList ys)(hb:us.size+1 < scanBound)
 (q:∀(h':Heap) (tk:Nat),SetT prog w h' s.heap.objs.size (dis ys)→(∀b o,s.heap.get? b=some o→h'.get? b=some o)→Q (.ref s.heap.objs.size) {s with heap:=h',toks:=tk}):
 wpAny (model prog w) A (call (.type "set") [.ref l]) Q E s:=by
 have len:us.size=ys.length:=by rw [← Array.length_toList];exact hy.length
 obtain ⟨c,tl,mro⟩:=F.called_set.mro
 have g1:=F.called_set.made
 have g2:=F.called_set.sub
 refine wpAny_call (codeAny_of_tree (by
  show wpAny _ _ (callAny (.type "set") _) _ _ _
  refine wpAny_pure ⟨Code.quiet_builtin _ (by decide+kernel),codeAny_builtin F.entry_type_call ?_⟩
  rw [Around.under_plain (weight_type_call_type "set" [.ref l] []) rfl]
  have g3:=F.called_set.notType
  have g4:=F.called_set.canCreate
  have g5:=F.typeCall_set_1 (.ref l)
  repeat (any_goals (first | assumption | wp_step))
  refine codeAny_mono (code_set_new_1 (.ref l) (E:=E) (Q₁:=fun v s1=>∃led:Bool,v= .ref s.heap.objs.size∧s1={s with heap:=s.heap.push (newSet led)}) fun led=>⟨led,rfl,rfl⟩) fun r s1 hr=>?_
  cases r with
  | error e=>exact hr
  | ok fl=>
   cases fl with
   | ret v=>
    obtain ⟨led,rfl,rfl⟩:=hr
    have at0:(s.heap.push (newSet led)).get? s.heap.objs.size=some (newSet led):=Heap.get?_push_size _ rfl
    have ty0:Shared.TypeIs {s with heap:=s.heap.push (newSet led)} (.ref s.heap.objs.size) "set":=⟨_,at0,rfl⟩
    have g6:=F.called_set.init.lookup
    have g7:=F.called_set.init.bind (.ref s.heap.objs.size)
    repeat (any_goals (first | assumption | wp_step))
    refine codeAny_mono (codeAny_call_builtin (R:=wants (fun r s2=>r= .none∧∃h' tk,s2={s with heap:=h',toks:=tk}∧SetT prog w h' s.heap.objs.size (dis ys)∧(∀b o,s.heap.get? b=some o→h'.get? b=some o)) E) F.called_set.init.plain F.entry_set_init (check_set_init_1 ty0 ?_)) fun r2 s2 hr2=>?_
    · obtain ⟨⟨oc,od,oe,os'⟩,hol,hcl,nl,hdl⟩:=hl
      simp only at hcl hdl
      subst hcl hdl
      have at1:(s.heap.push (newSet led)).get? l=some {cls:= .type "list",dict:=od,data:= .seq us nl,slots:=os'}:=Heap.get?_push_of_some _ hol
      have g8:=F.sub_list_set
      have g9:=F.sub_list_frozenset
      have g10:(Value.type "list"==Value.type "dict")=false:=by decide
      have l1:(s.heap.push (newSet led)).IsList l us:=⟨_,at1,rfl,nl,rfl⟩
      unfold Builtin.«set.__init__» noKeywords Builtin.Frozenset.updateFrom
      generalize hPI:pyIter=PI
      wp_walk
      subst hPI
      refine wpAny_pyIter_list l1 (wpAny_bind (wpAny_runValue ?_))
      have lt:l < s.heap.objs.size:=Heap.lt_size hol
      have h3:A.in1.in1.in1.handled=none:=by simp [hh]
      have sz:(s.heap.push (newSet led)).objs.size=s.heap.objs.size+1:=Heap.size_push ..
      have ne1:l≠(s.heap.push (newSet led)).objs.size:=by rw [sz];exact Nat.ne_of_lt (Nat.lt_succ_of_lt lt)
      have off:s.heap.objs.size∉[(s.heap.push (newSet led)).objs.size,l]:=by
       rw [sz]
       intro z
       rcases List.mem_cons.mp z with z | z
       · exact absurd z (Nat.ne_of_lt (Nat.lt_succ_self _))
       · exact absurd (List.mem_singleton.mp z) (Nat.ne_of_gt lt)
      refine setT_run ((Walks.list h3 _ l ne1 us).toS) off (ys:=ys) len (fun i v hv=>text_at hy i v (by rw [Array.getElem?_toList];exact hv)) hb (us.size - 0) 0 _ rfl (Nat.zero_le _) ⟨⟨_,Heap.get?_push_size _ rfl,rfl,rfl⟩,l1.push _⟩ ?_ ?_
      · exact SetOf_congr ((setObjOf_fresh (knd:=strKind prog w) led).setOf (Heap.get?_push_of_some _ at0) (by unfold scanBound;omega)) (fun _=>rfl) rfl
      · rintro ⟨h',g',d',tk',os2⟩ mv q'
        have eg:g'=s.gens:=mv.gens
        have ed:d'=s.drawn:=mv.drawn
        have eo:os2=s.os:=mv.os
        subst eg ed eo
        show wpAny _ _ _ _ _ _
        refine wpAny_pure ?_
        show wpAny _ _ (ret Value.none) _ _ _
        refine wpAny_pure ⟨rfl,h',tk',rfl,q',fun b o ho=>mv.heap b o (fun z=>?_) (Heap.get?_push_of_some _ (Heap.get?_push_of_some _ ho))⟩
        have ltb:=Heap.lt_size ho
        rw [sz]at z
        rcases List.mem_cons.mp z with z | z
        · exact absurd z (Nat.ne_of_lt ltb)
        · exact absurd (List.mem_singleton.mp z) (Nat.ne_of_lt (Nat.lt_succ_of_lt ltb))
    · cases r2 with
      | error e=>exact hr2
      | ok fl2=>
       cases fl2 with
       | ret r=>
        obtain ⟨rfl,h',tk,rfl,q',k'⟩:=hr2
        repeat (any_goals (first | assumption | wp_step))
        exact q _ _ q' k'
       | _=>exact hr2.elim
   | _=>exact hr.elim))
end
section
variable {X:Cx}
noncomputable def tLenSet(K:PySem.W.Frag)(t:TA):TE:=fun σ H Q=>t σ H fun vs H1=>∃a ys,vs=[.ref a]∧SqL K H1 a (ys.map V.str)∧ys.length≤250∧Q (.int (dis ys).length) H1
theorem pe_lenset{e:Expr}{t:TA}{p p2 pos pos2:Pos}(hc:X.calm=true)(hg:Gl X "len")(hm:X.mg "len"=none)(hg2:Gl X "set")(hm2:X.mg "set"=none)(ha:PA X [e] t)(he:starEach [e] X.env=(false,eval e X.env)::starEach [] X.env:=by rfl)
 (he2:starEach [.Call (.Name "set" p2) [e] [] pos2] X.env=(false,eval (.Call (.Name "set" p2) [e] [] pos2) X.env)::starEach [] X.env:=by rfl):PE X (.Call (.Name "len" p) [.Call (.Name "set" p2) [e] [] pos2] [] pos) (tLenSet X.K t):=by
 intro pins s σ H Q I h
 have hv:bootBuiltins "set"=some (.type "set"):=by decide+kernel
 refine wpAny_Call_Name_kw (ld_blt I hg hm PySem.boot_len (callWith_builtin1 (by
  rw [he2]
  show wpAny _ _ (spliced ((false,eval (.Call (.Name "set" p2) [e] [] pos2) X.env)::backTo pos (starEach [] X.env))) _ _ s
  refine Calls.spliced_cons (wpAny_Call_Name_kw (ld_blt I hg2 hm2 hv (callWith_type1 (thn (ha pos2 pins s σ H _ I h) fun us s1 hq_=>?_) he (by rfl))))
  obtain ⟨vs,H1,I1,r1,q1⟩:=hq_
  obtain ⟨a,ys,rfl,hq,hz,q⟩:=q1
  cases r1 with
  | cons r rr=>
   cases rr
   cases r
   obtain ⟨its,rv,pl,_⟩:=I1.list hq
   have hl:=rv.length
   rw [List.length_map]at hl
   refine call_setT (I1.ok.hd hc) pl.isList (by simpa using strsAre_of rv) (by rw [List.size_toArray,← hl];unfold scanBound;omega) fun h' tk st k=>?_
   refine Calls.spliced_nil ?_
   obtain ⟨o,es,ep,tb,ho,ex,hd,_,_,hb,hf,hn⟩:=st
   refine call_len_set ho ex hd hf (by unfold scanBound at hb;omega) ?_
   exact ⟨.int (dis ys).length,H1,I1.kept (h':=h') (t':=tk+1+1) k,⟨_,by rw [← hn]⟩,q⟩) he2 (by rfl)))
end
theorem rd_lenset{K:PySem.W.Frag}{σ:St}{H:Hp}{Q:VK}{t:TA}:tLenSet K t σ H Q=t σ H fun vs H1=>∃a ys,vs=[.ref a]∧SqL K H1 a (ys.map V.str)∧ys.length≤250∧Q (.int (dis ys).length) H1:=rfl
end L2
namespace L2
noncomputable def sgn(z:Str):List Str:=z.cps.toList.map fun c=>⟨#[c]⟩
end L2
namespace N66
open L2 N1 N5 N4 N6 N12 N32 N14 N20 N18 N25 NR N22 N21 N26 N28 N63 N64 N62
noncomputable def lt(i:Nat):Str:=⟨#[97+i]⟩
noncomputable def lts(n:Nat):List Str:=(List.range n).map lt
noncomputable def ms(T:RuleT)(R:Str→Int)(n:Int)(s0:T.St)(ys:List Str)(i:Nat):Nat:=(List.range i).countP fun j=>!(NR.grow T R n s0 ys j).2.1
section
variable {T:RuleT} {R R':Str→Int} {n:Int} {s0:T.St} {ys ns:List Str}
theorem gask_b{s:T.St}{l:List Str}{z:Str}:(gask T R n (s,l) z).2.2.1=decide (z∈l):=by
 by_cases h:z∈l
 · have e:gask T R n (s,l) z=((T.asked n s z,l),(z,true,[])):=if_pos h
   rw [e,decide_eq_true h]
 · have e:gask T R n (s,l) z=((T.came n (gf T R n (R z) (T.asked n s z) l []).1 z,(gf T R n (R z) (T.asked n s z) l []).2.1++[z]),(z,false,(gf T R n (R z) (T.asked n s z) l []).2.2)):=if_neg h
   rw [e,decide_eq_false h]
theorem gf_few{s:T.St}{l:List Str}{z:Str}(hR:∀u∈l,R u=1)(hz:R z=1)(hl:(l.length:Int) < n):gf T R n (R z) s l []=(s,l,[]):=gf_end (by rw [sm_one hR,hz];omega)
theorem gf_full{s:T.St}{l:List Str}{z:Str}(hm:T.mid ns n z s l)(hR:∀u∈l,R u=1)(hz:R z=1)(hl:(l.length:Int)=n)(hn:1≤n):(T.pick n s l).2∈l∧gf T R n (R z) s l []=(T.gone n (T.pick n s l).1 (T.pick n s l).2,l.erase (T.pick n s l).2,[(T.pick n s l).2]):=by
 have hne:l≠[]:=fun e=>by rw [e]at hl;simp at hl;omega
 obtain ⟨hp,_⟩:=T.i_pick hm hne
 refine ⟨hp,?_⟩
 have hle:=List.length_erase_of_mem hp
 have hl0:=List.length_pos_of_mem hp
 rw [gf_go (by rw [sm_one hR,hz];omega) hp]
 exact gf_end (by rw [sm_one (fun u hu=>hR u (List.mem_of_mem_erase hu)),hz];omega)
theorem len_ask{s:T.St}{l:List Str}{z:Str}(hm:z∉l→T.mid ns n z (T.asked n s z) l)(hR:∀u∈l,R u=1)(hz:R z=1)(hl:(l.length:Int)≤n)(hn:1≤n):((gask T R n (s,l) z).1.2.length:Int)≤n:=by
 by_cases h:z∈l
 · have e:gask T R n (s,l) z=((T.asked n s z,l),(z,true,[])):=if_pos h
   rw [e];exact hl
 · have e:gask T R n (s,l) z=((T.came n (gf T R n (R z) (T.asked n s z) l []).1 z,(gf T R n (R z) (T.asked n s z) l []).2.1++[z]),(z,false,(gf T R n (R z) (T.asked n s z) l []).2.2)):=if_neg h
   rw [e]
   by_cases hlt:(l.length:Int) < n
   · rw [gf_few hR hz hlt]
     show ((l++[z]).length:Int)≤n
     rw [List.length_append,List.length_singleton];omega
   · obtain ⟨hp,hg⟩:=gf_full (hm h) hR hz (by omega) hn
     have hle:=List.length_erase_of_mem hp
     have hl0:=List.length_pos_of_mem hp
     rw [hg]
     show ((l.erase _++[z]).length:Int)≤n
     rw [List.length_append,List.length_singleton];omega
theorem len_st(hR:∀u∈ns,R u=1)(h0:T.inv ns n s0 [])(hn:1≤n)(hin:∀y∈ys,y∈ns):∀i,i≤ys.length→((gst T R n s0 ys i).2.length:Int)≤n:=by
 intro i
 induction i with
 | zero=>intro _;show ((0:Nat):Int)≤n;omega
 | succ i ih=>
  intro hi
  have hz:=List.getElem?_eq_getElem (show i < ys.length by omega)
  have hm:=List.mem_of_getElem? hz
  have gi:=gst_inv (T:=T) (R:=R) (n:=n) (s0:=s0) h0 hin (fun y hy=>by rw [hR y (hin y hy)];exact hn) i (by omega)
  rw [gst_succ hz]
  exact len_ask (s:=(gst T R n s0 ys i).1) (l:=(gst T R n s0 ys i).2) (fun h=>T.i_mid gi.i (hin _ hm) h) (fun u hu=>hR u (gi.s u hu)) (hR _ (hin _ hm)) (ih (by omega)) hn
end
theorem mem_dis{ys:List Str}{z:Str}:z∈dis ys↔z∈ys:=by
 have key:∀(l:List Str) (s:List Str),z∈l.foldl dis1 s↔z∈s∨z∈l:=by
  intro l
  induction l with
  | nil=>intro s;simp
  | cons y l ih=>intro s;rw [List.foldl_cons,ih,mem_dis1,List.mem_cons,or_assoc]
 unfold dis
 rw [key];simp
theorem dis_nodup(ys:List Str):(dis ys).Nodup:=by
 have key:∀(l s:List Str),s.Nodup→(l.foldl dis1 s).Nodup:=by
  intro l
  induction l with
  | nil=>exact fun s h=>h
  | cons y l ih=>
   intro s h
   refine ih _ ?_
   unfold dis1
   split
   · exact h
   · rename_i hn
     exact List.nodup_append.mpr ⟨h,List.nodup_cons.mpr ⟨List.not_mem_nil,List.nodup_nil⟩,fun a ha b hb e=>hn (by rw [← List.mem_singleton.mp hb,← e];exact ha)⟩
 exact key ys [] List.nodup_nil
end N66
namespace N51
open L2 N1 N5 N53
noncomputable def sl(ys:List Str)(s e:Nat):List Str:=(ys.drop s).take (e - s)
theorem sl_len{ys:List Str}{s e:Nat}:(sl ys s e).length≤ys.length:=by unfold sl;rw [List.length_take,List.length_drop];omega
theorem sl_none{ys:List Str}{s:Nat}:sl ys s s=[]:=by unfold sl;rw [Nat.sub_self];rfl
theorem sl_snoc{ys:List Str}{s i:Nat}(h1:s≤i)(h2:i < ys.length):sl ys s (i+1)=sl ys s i++[ys.getD i Str.empty]:=by
 unfold sl
 rw [show i+1 - s=(i - s)+1 by omega,List.take_add_one,List.getElem?_drop,show s+(i - s)=i by omega,List.getD_eq_getElem?_getD,List.getElem?_eq_getElem h2]
 rfl
theorem mem_dis{ys:List Str}{z:Str}:z∈dis ys↔z∈ys:=by
 have key:∀(l:List Str) (s:List Str),z∈l.foldl dis1 s↔z∈s∨z∈l:=by
  intro l
  induction l with
  | nil=>intro s;simp
  | cons y l ih=>intro s;rw [List.foldl_cons,ih,mem_dis1,List.mem_cons,or_assoc]
 unfold dis
 rw [key];simp
theorem dis_zero{l:List Str}(h:l=[]):(dis l).length=0:=by rw [h];rfl
noncomputable def OkP(ys:List Str)(m:Int):Nat→List (Nat×Nat)→Prop
 | at',[]=>at'=ys.length
 | at',(s,e)::r=>s=at'∧at' < e∧e≤ys.length∧((dis (sl ys at' e)).length:Int)≤m∧(e < ys.length→((dis (sl ys at' e)).length:Int)=m∧ys.getD e Str.empty∉sl ys at' e)∧OkP ys m e r
noncomputable def Ch(ys:List Str)(m:Int):Nat→List (Nat×Nat)→Nat→Prop
 | a,[],b=>a=b
 | a,(s,e)::r,b=>s=a∧a < e∧e < ys.length∧((dis (sl ys a e)).length:Int)=m∧ys.getD e Str.empty∉sl ys a e∧Ch ys m e r b
theorem Ch.snoc{ys:List Str}{m:Int}{e:Nat}:∀{ps:List (Nat×Nat)} {a b:Nat},Ch ys m a ps b→b < e→e < ys.length→((dis (sl ys b e)).length:Int)=m→ys.getD e Str.empty∉sl ys b e→Ch ys m a (ps++[(b,e)]) e
 | [],a,b,h,h1,h2,h3,h4=>by
  have h:a=b:=h
  subst h
  exact ⟨rfl,h1,h2,h3,h4,rfl⟩
 | (s,f)::r,a,b,⟨g1,g2,g3,g4,g5,g6⟩,h1,h2,h3,h4=>⟨g1,g2,g3,g4,g5,Ch.snoc g6 h1 h2 h3 h4⟩
theorem Ch.ok{ys:List Str}{m:Int}:∀{ps:List (Nat×Nat)} {a b:Nat} {r:List (Nat×Nat)},Ch ys m a ps b→OkP ys m b r→OkP ys m a (ps++r)
 | [],a,b,r,h,q=>by
  have h:a=b:=h
  subst h
  exact q
 | (s,f)::ps,a,b,r,⟨g1,g2,g3,g4,g5,g6⟩,q=>⟨g1,g2,by omega,by omega,fun _=>⟨g4,g5⟩,Ch.ok g6 q⟩
theorem pst_ok{m:Int}(hm:1≤m)(ys:List Str):∀i,i≤ys.length→(pst m ys i).2.2=dis (sl ys (pst m ys i).2.1 i)∧(pst m ys i).2.1≤i∧(((pst m ys i).2.2.length:Int)≤m)∧Ch ys m 0 (pst m ys i).1 (pst m ys i).2.1:=by
 intro i
 induction i with
 | zero=>intro _;exact ⟨rfl,Nat.le_refl _,by show ((0:Nat):Int)≤m;omega,rfl⟩
 | succ i ih=>
  intro hi
  obtain ⟨h1,h2,h3,h4⟩:=ih (by omega)
  have e:pst m ys (i+1)=stp m i (ys.getD i Str.empty) (pst m ys i):=rfl
  rw [e]
  generalize pst m ys i=p at *
  obtain ⟨p1,p2,p3⟩:=p
  simp only at h1 h2 h3 h4
  unfold stp
  by_cases hc:ys.getD i Str.empty∉p3∧(p3.length:Int)=m
  · rw [if_pos hc]
    have hlt:p2 < i:=by
     rcases Nat.lt_or_eq_of_le h2 with h | h
     · exact h
     · have h0:=dis_zero (sl_none (ys:=ys) (s:=i))
       rw [h]at h1
       rw [← h1]at h0
       omega
    refine ⟨?_,by simp,by simp;omega,?_⟩
    · show [ys.getD i Str.empty]=dis (sl ys i (i+1))
      rw [sl_snoc (Nat.le_refl _) (by omega),sl_none]
      rfl
    · refine Ch.snoc h4 hlt (by omega) (by rw [← h1];exact hc.2) fun z=>hc.1 ?_
      rw [h1];exact mem_dis.mpr z
  · rw [if_neg hc]
    have e1:(if ys.getD i Str.empty∈p3 then p3 else p3++[ys.getD i Str.empty])=dis (sl ys p2 (i+1)):=by
     rw [sl_snoc h2 (by omega),dis_snoc,← h1];rfl
    refine ⟨e1,by show p2≤i+1;omega,?_,h4⟩
    show (((if ys.getD i Str.empty∈p3 then p3 else p3++[ys.getD i Str.empty]).length:Nat):Int)≤m
    split
    · exact h3
    · rename_i hn
      have:¬(p3.length:Int)=m:=fun h=>hc ⟨hn,h⟩
      simp;omega
theorem parts_ok{m:Int}(hm:1≤m)(ys:List Str):OkP ys m 0 (partsOf m ys):=by
 obtain ⟨h1,h2,h3,h4⟩:=pst_ok hm ys ys.length (Nat.le_refl _)
 unfold partsOf
 split
 · rename_i h
   refine Ch.ok h4 ⟨rfl,h,Nat.le_refl _,by rw [← h1];exact h3,fun z=>absurd z (Nat.lt_irrefl _),rfl⟩
 · rename_i h
   have e:(pst m ys ys.length).2.1=ys.length:=by omega
   have:=Ch.ok (r:=[]) h4 e
   rw [List.append_nil]at this
   exact this
end N51
namespace N55
open L2 N1 N5 N53 N51
noncomputable abbrev BR:=Str×Bool
noncomputable def mis(b:List BR):Nat:=b.countP fun r=>!r.2
theorem mis_append(a b:List BR):mis (a++b)=mis a+mis b:=List.countP_append
noncomputable def slB(b:List BR)(s e:Nat):List BR:=(b.drop s).take (e - s)
noncomputable def sp55_parts(K:PySem.W.Frag):Sp:=fun vs H Q _=>∃(a:Addr) (ys:List Str) (m:Int),vs=[.ref a,.int m]∧SqL K H a (ys.map V.str)∧ys.length≤250∧1≤m∧m≤1000000∧∀(p:Addr) (rs:List Pt) (H':Hp),H p=none→Same H H'→PtsAt K H' p rs→rs.map (·.2)=partsOf m ys→Q (.ref p) H'
noncomputable abbrev Bk5:=Addr×Str×Bool×Addr
structure BkAt(H:Hp)(p:Addr)(bs:List Bk5):Prop where
 l:H p=some (.lst (bs.map fun r=>V.ref r.1))
 t:∀r∈bs,H r.1=some (.tup [.str r.2.1,.bl r.2.2.1,.ref r.2.2.2])
theorem BkAt.same{H H':Hp}{p:Addr}{bs:List Bk5}(s:Same H H')(h:BkAt H p bs):BkAt H' p bs:=⟨s _ _ h.l,fun r hr=>s _ _ (h.t r hr)⟩
noncomputable def brs(bs:List Bk5):List BR:=bs.map fun r=>(r.2.1,r.2.2.1)
end N55
namespace N55
open L2 N1 N5 N53 N51
section
variable {tp:Addr} {pos:Pos} {qual:Str} {H H1 H2 H':Hp}
theorem lam_tab(h:LamOk tp pos qual H):∃ps,H tp=some (.tbl ps):=by
 rcases h with h | ⟨c,h,_⟩
 · exact ⟨_,h⟩
 · exact ⟨_,h⟩
theorem lam_same(s:Same H H')(h:LamOk tp pos qual H):LamOk tp pos qual H':=by
 rcases h with h | ⟨c,h,h'⟩
 · exact .inl (s _ _ h)
 · exact .inr ⟨c,s _ _ h,s _ _ h'⟩
theorem lam_ne(h:LamOk tp pos qual H){p:Addr}{o:HO}(e:H p=some o)(n:∀ps,o≠ .tbl ps):p≠tp:=fun z=>by
 obtain ⟨ps,h'⟩:=lam_tab h
 rw [z,h']at e
 cases e
 exact n _ rfl
theorem lam_put{D:Addr}{ys zs:List V}(h:LamOk tp pos qual H)(e:H D=some (.lst ys)):LamOk tp pos qual (upd H D (.lst zs)):=by
 have n1:tp≠D:=(lam_ne h e fun _ z=>by cases z).symm
 rcases h with h | ⟨c,h,h'⟩
 · exact .inl (by rw [upd_ne n1];exact h)
 · refine .inr ⟨c,by rw [upd_ne n1];exact h,?_⟩
   rw [upd_ne (ne_of h' e (by unfold codeO;intro z;cases z))]
   exact h'
structure Tk(tp:Addr)(pos:Pos)(qual:Str)(H H':Hp):Prop where
 but:SameBut tp H H'
 lam:LamOk tp pos qual H'
theorem Tk.trans(a:Tk tp pos qual H H1)(b:Tk tp pos qual H1 H2):Tk tp pos qual H H2:=⟨a.but.trans b.but,b.lam⟩
theorem Tk.of(h:LamOk tp pos qual H)(s:Same H H1):Tk tp pos qual H H1:=⟨.of s,lam_same s h⟩
theorem Tk.get(t:Tk tp pos qual H H')(h:LamOk tp pos qual H){p:Addr}{o:HO}(e:H p=some o)(n:∀ps,o≠ .tbl ps):H' p=some o:=t.but _ _ e (lam_ne h e n)
theorem Tk.lst(t:Tk tp pos qual H H')(h:LamOk tp pos qual H){p:Addr}{xs:List V}(e:H p=some (.lst xs)):H' p=some (.lst xs):=t.get h e fun _ z=>by cases z
theorem Tk.tup(t:Tk tp pos qual H H')(h:LamOk tp pos qual H){p:Addr}{xs:List V}(e:H p=some (.tup xs)):H' p=some (.tup xs):=t.get h e fun _ z=>by cases z
theorem compL_2T{K:PySem.W.Frag}{tail:L2.St}{te:Blk→TE}{Q:VK}{a:Addr}{as:List Addr}(x1 x2 f:Nat→V)(hL:LamOk tp pos qual H1)(hS:H1 a=some (.lst (as.map V.ref)))(hz:as.length≤sizeLine)(hT:∀i c,as[i]?=some c→H1 c=some (.tup [x1 i,x2 i]))
 (he:∀b i H Q',i < as.length→Tk tp pos qual H1 H→(∀H',Tk tp pos qual H H'→Q' (f i) H')→te b (some (x1 i)::some (x2 i)::tail) H Q')
 (q:∀D H',H1 D=none→Tk tp pos qual H1 H'→H' D=some (.lst ((List.range as.length).map f))→Q (.ref D) H'):CompTail (none::none::tail) (g2 K) (fun _=>tYes) te Q (Itl K a) H1:=by
 intro b D hD
 refine ⟨fun i m ys H=>m=as.length - i∧i≤as.length∧ys=(List.range i).map f∧H D=some (.lst ys)∧Tk tp pos qual H1 H,⟨_,rfl,Nat.zero_le _,rfl,upd_same,.of hL (same_new hD)⟩,?_⟩
 rintro i m ys H ⟨rfl,hi,rfl,hd,sm⟩
 refine ⟨hd,?_⟩
 have hS2:SqL K H a (as.map V.ref):=SqL.of (sm.lst hL hS)
 by_cases hlt:i < as.length
 · refine .inr ⟨⟨_,V.ref as[i],hS2,by simp [hlt]⟩,fun x H3 ⟨e3,ex⟩=>?_⟩
   subst e3
   have hx:=ex _ hS2
   have hx':V.ref as[i]=x:=by simpa [hlt] using hx
   subst hx'
   refine ⟨as[i],_,rfl,SqT.of (sm.tup hL (hT i _ (by simp [hlt]))),rfl,_,_,rfl,_,_,rfl,rfl,kept2,?_⟩
   change te b (some (x1 i)::some (x2 i)::tail) _ _
   refine he b i _ _ hlt sm fun H8 t8=>?_
   have hd8:=t8.lst sm.lam hd
   refine ⟨hd8,by rw [List.length_map,List.length_range];omega,as.length - (i+1),by omega,rfl,hlt,?_,upd_same,⟨fun b' o e n=>?_,lam_put t8.lam hd8⟩⟩
   · rw [List.range_succ,List.map_append];rfl
   · rw [upd_ne (ne_of_none e hD)]
     exact (sm.trans t8).but _ _ e n
 · have e:i=as.length:=by omega
   subst e
   exact .inl ⟨⟨_,hS2,by simp⟩,q D H hD sm hd⟩
theorem BkAt.tk{p:Addr}{bs:List Bk5}(t:Tk tp pos qual H H')(h:LamOk tp pos qual H)(b:BkAt H p bs):BkAt H' p bs:=⟨t.lst h b.l,fun r hr=>t.tup h (b.t r hr)⟩
theorem ptsAt_tk{K:PySem.W.Frag}{p:Addr}{rs:List Pt}(t:Tk tp pos qual H H')(h:LamOk tp pos qual H)(b:PtsAt K H p rs):PtsAt K H' p rs:=⟨t.lst h b.1,fun r hr=>t.tup h (b.2 r hr)⟩
end
noncomputable def misV(H:Hp):V→Bool
 | .ref t=>match H t with
  | some (.tup [.str _,.bl b,.ref _])=>!b
  | _=>false
 | _=>false
theorem misV_is{H:Hp}{t g:Addr}{y:Str}{b:Bool}(h:H t=some (.tup [.str y,.bl b,.ref g])):misV H (.ref t)=!b:=by
 show (match H t with | some (.tup [.str _,.bl b,.ref _])=>!b | _=>false)=!b
 rw [h]
theorem mis_cons(r:BR)(b:List BR):mis (r::b)=mis b+if (!r.2)=true then 1 else 0:=List.countP_cons ..
theorem mis_len{H:Hp}{bs:List Bk5}(h:∀r∈bs,H r.1=some (.tup [.str r.2.1,.bl r.2.2.1,.ref r.2.2.2])):((bs.map fun r=>V.ref r.1).filter (misV H)).length=mis (brs bs):=by
 induction bs with
 | nil=>rfl
 | cons r bs ih=>
  have e:=misV_is (h r List.mem_cons_self)
  have ih':=ih fun x hx=>h x (List.mem_cons_of_mem _ hx)
  rw [List.map_cons,List.filter_cons,e]
  show _=mis ((r.2.1,r.2.2.1)::brs bs)
  rw [mis_cons]
  show _=mis (brs bs)+if (!r.2.2.1)=true then 1 else 0
  by_cases hb:(!r.2.2.1)=true
  · rw [if_pos hb,if_pos hb,List.length_cons,ih']
  · rw [if_neg hb,if_neg hb,ih'];rfl
theorem ones_sumI(n:Nat):(List.replicate n (1:Int)).sum=n:=by
 induction n with
 | zero=>rfl
 | succ n ih=>rw [List.replicate_succ,List.sum_cons,ih];omega
theorem ones_map{xs:List V}:(xs.map fun _=>V.int 1)=(List.replicate xs.length (1:Int)).map V.int:=by
 rw [List.map_const',List.map_replicate]
theorem cut_rows(bs:List Bk5)(s e:Nat)(h1:s≤e)(h2:e≤bs.length):cutV (bs.map fun r=>V.ref r.1) (some (s:Int)) (some (e:Int))=((bs.drop s).take (e - s)).map fun r=>V.ref r.1:=by
 unfold cutV
 rw [List.length_map,HT.sIx_nat,HT.sIx_nat,Nat.min_eq_left h2,Nat.min_eq_left (Nat.le_trans h1 h2),← List.map_drop,← List.map_take]
theorem brs_sl(bs:List Bk5)(s e:Nat):brs ((bs.drop s).take (e - s))=slB (brs bs) s e:=by
 unfold brs slB
 rw [List.map_take,List.map_drop]
noncomputable def sp55_weighed(K:PySem.W.Frag):Sp:=fun vs H Q _=>∃(p f:Addr) (bs:List Bk5),vs=[.ref p,.ref f]∧BkAt H p bs∧bs.length≤201∧ConstFn 1 H f∧∀H',Same H H'→Q (.int (mis (brs bs))) H'
noncomputable def sp55_missed(tp:Addr)(pos:Pos)(qual:Str):Sp:=fun vs H Q _=>∃(p:Addr) (bs:List Bk5),vs=[.ref p]∧BkAt H p bs∧bs.length≤201∧LamOk tp pos qual H∧∀H',Tk tp pos qual H H'→Q (.int (mis (brs bs))) H'
noncomputable def sp55_in(K:PySem.W.Frag)(tp:Addr)(pos:Pos)(qual:Str):Sp:=fun vs H Q _=>∃(p q:Addr) (bs:List Bk5) (rs:List Pt),vs=[.ref p,.ref q]∧BkAt H p bs∧bs.length≤201∧PtsAt K H q rs∧rs.length≤250∧(∀r∈rs,r.2.1≤r.2.2∧r.2.2≤bs.length)∧LamOk tp pos qual H∧
 ∀D H',H D=none→Tk tp pos qual H H'→H' D=some (.lst (rs.map fun r=>V.int (mis (slB (brs bs) r.2.1 r.2.2))))→Q (.ref D) H'
noncomputable def pt0:Pt:=(0,0,0)
theorem pt_at{rs:List Pt}{i:Nat}(h:i < rs.length):rs.getD i pt0∈rs∧(rs.map fun r=>r.1)[i]?=some (rs.getD i pt0).1∧(rs.map fun r=>V.ref r.1)[i]?=some (V.ref (rs.getD i pt0).1):=by
 rw [List.getD_eq_getElem?_getD,List.getElem?_eq_getElem h,List.getElem?_map,List.getElem?_map,List.getElem?_eq_getElem h]
 exact ⟨List.getElem_mem h,rfl,rfl⟩
theorem pts_list(rs:List Pt)(g:Pt→V):(List.range (rs.map fun r=>r.1).length).map (fun i=>g (rs.getD i pt0))=rs.map g:=by
 refine List.ext_getElem? fun i=>?_
 rw [List.length_map,List.getElem?_map,List.getElem?_map]
 by_cases h:i < rs.length
 · rw [List.getElem?_range h,List.getElem?_eq_getElem h]
   show some (g (rs.getD i pt0))=some (g rs[i])
   rw [List.getD_eq_getElem?_getD,List.getElem?_eq_getElem h];rfl
 · rw [List.getElem?_eq_none (by rw [List.length_range];omega),List.getElem?_eq_none (by omega)];rfl
end N55
namespace N54
open L2 N1 N5 N4 N6 N12 N32 N14 N20 N18 N25 NR N22 N21 N28 N53 N64 N66
structure Cv(T:RuleT)(n:Int)(ns:List Str) where
 J:(Str→Prop)→Str→T.St→List Str→Prop
 mono:∀{A B:Str→Prop} {z:Str} {s:T.St} {l:List Str},(∀x,A x→B x)→J A z s l→J B z s l
 hit:∀{A:Str→Prop} {z y:Str} {s:T.St} {l:List Str},T.inv ns n s l→l.Nodup→J A z s l→z∈l→y∈l→A y→J A z (T.asked n s y) l
 mid:∀{A:Str→Prop} {z y:Str} {s:T.St} {l:List Str},T.inv ns n s l→J A z s l→z∈l→y∉l→J A z (T.asked n s y) l
 go:∀{A:Str→Prop} {z y:Str} {s:T.St} {l:List Str},T.mid ns n y s l→l.Nodup→J A z s l→z∈l→(T.pick n s l).2≠z→J A z (T.gone n (T.pick n s l).1 (T.pick n s l).2) (l.erase (T.pick n s l).2)
 out:∀{A:Str→Prop} {z y:Str} {s:T.St} {l:List Str},T.mid ns n y s l→l.Nodup→J A z s l→z∈l→(T.pick n s l).2=z→∀x∈l,x≠z→A x
 new:∀{A:Str→Prop} {z y:Str} {s:T.St} {l:List Str},T.mid ns n y s l→J A z s l→z∈l→y∉l→A y→J A z (T.came n s y) (l++[y])
 come:∀{A:Str→Prop} {z:Str} {s:T.St} {l:List Str},T.mid ns n z s l→z∉l→J A z (T.came n s z) (l++[z])
theorem dis_mono{a b:List Str}:(dis a).length≤(dis (a++b)).length:=nd_len (dis_nodup a) fun x hx=>mem_dis.mpr (List.mem_append_left _ (mem_dis.mp hx))
section
variable {T:RuleT} {R:Str→Int} {n:Int} {s0:T.St} {ys ns:List Str}
theorem keep_z(c:Cv T n ns)(hR:∀u∈ns,R u=1)(h0:T.inv ns n s0 [])(hn:1≤n)(hin:∀y∈ys,y∈ns){i:Nat}{z:Str}(hi:ys[i]?=some z)(hm:z∉(gst T R n s0 ys i).2):
 ∀k,i+1+k≤ys.length→(z∈(gst T R n s0 ys (i+1+k)).2∧c.J (· ∈N51.sl ys i (i+1+k)) z (gst T R n s0 ys (i+1+k)).1 (gst T R n s0 ys (i+1+k)).2)∨n < ((dis (N51.sl ys i (i+1+k))).length:Int):=by
 have hRn:∀y∈ys,R y≤n:=fun y hy=>by rw [hR y (hin y hy)];exact hn
 have hil:=(List.getElem?_eq_some_iff.mp hi).1
 intro k
 induction k with
 | zero=>
  intro _
  left
  have gi:=gst_inv (T:=T) (R:=R) (n:=n) (s0:=s0) h0 hin hRn i (by omega)
  have hle:=len_st (T:=T) (R:=R) (n:=n) (s0:=s0) hR h0 hn hin i (by omega)
  rw [show i+1+0=i+1 from rfl,gst_succ hi]
  generalize gst T R n s0 ys i=gs at gi hle hm
  obtain ⟨s,l⟩:=gs
  replace hle:(l.length:Int)≤n:=hle
  replace hm:z∉l:=hm
  have hzn:=hin z (List.mem_of_getElem? hi)
  have hm1:T.mid ns n z (T.asked n s z) l:=T.i_mid gi.i hzn hm
  have hR1:∀u∈l,R u=1:=fun u hu=>hR u (gi.s u hu)
  have e:gask T R n (s,l) z=((T.came n (gf T R n (R z) (T.asked n s z) l []).1 z,(gf T R n (R z) (T.asked n s z) l []).2.1++[z]),(z,false,(gf T R n (R z) (T.asked n s z) l []).2.2)):=if_neg hm
  rw [e]
  refine ⟨List.mem_append_right _ (List.mem_singleton.mpr rfl),?_⟩
  by_cases hlt:(l.length:Int) < n
  · rw [gf_few hR1 (hR z hzn) hlt]
    exact c.come hm1 hm
  · obtain ⟨hp,hg⟩:=gf_full hm1 hR1 (hR z hzn) (by omega) hn
    rw [hg]
    have hne:l≠[]:=fun e=>by rw [e]at hp;simp at hp
    exact c.come (T.i_pick hm1 hne).2 fun h=>hm (List.mem_of_mem_erase h)
 | succ k ih=>
  intro hk
  have hy:=List.getElem?_eq_getElem (show i+1+k < ys.length by omega)
  have hyn:=hin _ (List.mem_of_getElem? hy)
  have hsl:N51.sl ys i (i+1+(k+1))=N51.sl ys i (i+1+k)++[ys[i+1+k]]:=by
   have:=N51.sl_snoc (ys:=ys) (s:=i) (i:=i+1+k) (by omega) (by omega)
   rw [show i+1+(k+1)=i+1+k+1 from rfl,this,List.getD_eq_getElem?_getD,hy]
   rfl
  rcases ih (by omega) with ⟨hz,hJ⟩ | hd
  · have gi:=gst_inv (T:=T) (R:=R) (n:=n) (s0:=s0) h0 hin hRn (i+1+k) (by omega)
    have hle:=len_st (T:=T) (R:=R) (n:=n) (s0:=s0) hR h0 hn hin (i+1+k) (by omega)
    rw [show i+1+(k+1)=i+1+k+1 from rfl]at hsl ⊢
    rw [gst_succ hy]
    generalize gst T R n s0 ys (i+1+k)=gs at gi hle hz hJ
    obtain ⟨s,l⟩:=gs
    replace hle:(l.length:Int)≤n:=hle
    replace hz:z∈l:=hz
    replace hJ:c.J (· ∈N51.sl ys i (i+1+k)) z s l:=hJ
    generalize ys[i+1+k]=y at hy hyn hsl
    have hJ2:=c.mono (B:=(· ∈N51.sl ys i (i+1+k+1))) (fun x hx=>by rw [hsl];exact List.mem_append_left _ hx) hJ
    have hyA:y∈N51.sl ys i (i+1+k+1):=by rw [hsl];exact List.mem_append_right _ (List.mem_singleton.mpr rfl)
    by_cases hyl:y∈l
    · have e:gask T R n (s,l) y=((T.asked n s y,l),(y,true,[])):=if_pos hyl
      rw [e]
      exact .inl ⟨hz,c.hit gi.i gi.nd hJ2 hz hyl hyA⟩
    · have e:gask T R n (s,l) y=((T.came n (gf T R n (R y) (T.asked n s y) l []).1 y,(gf T R n (R y) (T.asked n s y) l []).2.1++[y]),(y,false,(gf T R n (R y) (T.asked n s y) l []).2.2)):=if_neg hyl
      rw [e]
      have hm1:T.mid ns n y (T.asked n s y) l:=T.i_mid gi.i hyn hyl
      have hJm:=c.mid gi.i hJ2 hz hyl
      have hR1:∀u∈l,R u=1:=fun u hu=>hR u (gi.s u hu)
      by_cases hlt:(l.length:Int) < n
      · rw [gf_few hR1 (hR y hyn) hlt]
        exact .inl ⟨List.mem_append_left _ hz,c.new hm1 hJm hz hyl hyA⟩
      · obtain ⟨hp,hg⟩:=gf_full hm1 hR1 (hR y hyn) (by omega) hn
        have hne:l≠[]:=fun e=>by rw [e]at hp;simp at hp
        rw [hg]
        by_cases hpz:(T.pick n (T.asked n s y) l).2=z
        · right
          have hall:=c.out hm1 gi.nd hJm hz hpz
          have hzA:z∈N51.sl ys i (i+1+k+1):=by
           unfold N51.sl
           refine List.mem_of_getElem? (i:=0) ?_
           rw [List.getElem?_take_of_lt (by omega),List.getElem?_drop]
           exact hi
          have hnd:(y::l).Nodup:=List.nodup_cons.mpr ⟨hyl,gi.nd⟩
          have hsub:∀x∈y::l,x∈dis (N51.sl ys i (i+1+k+1)):=fun x hx=>by
           rcases List.mem_cons.mp hx with h | h
           · rw [h];exact mem_dis.mpr hyA
           · by_cases hxz:x=z
             · rw [hxz];exact mem_dis.mpr hzA
             · exact mem_dis.mpr (hall x h hxz)
          have:=nd_len hnd hsub
          rw [List.length_cons]at this
          omega
        · have hze:z∈l.erase (T.pick n (T.asked n s y) l).2:=(List.mem_erase_of_ne (fun h=>hpz h.symm)).mpr hz
          exact .inl ⟨List.mem_append_left _ hze,c.new (T.i_pick hm1 hne).2 (c.go hm1 gi.nd hJm hz hpz) hze (fun h=>hyl (List.mem_of_mem_erase h)) hyA⟩
  · right
    rw [hsl]
    have:=dis_mono (a:=N51.sl ys i (i+1+k)) (b:=[ys[i+1+k]])
    omega
theorem apart(c:Cv T n ns)(hR:∀u∈ns,R u=1)(h0:T.inv ns n s0 [])(hn:1≤n)(hin:∀y∈ys,y∈ns){i j:Nat}{z:Str}(hi:ys[i]?=some z)(hm:z∉(gst T R n s0 ys i).2)(hij:i < j)(hj:j < ys.length)(hm2:z∉(gst T R n s0 ys j).2):n < ((dis (N51.sl ys i (j+1))).length:Int):=by
 have hk:=keep_z c hR h0 hn hin hi hm (j - (i+1)) (by omega)
 rw [show i+1+(j - (i+1))=j by omega]at hk
 rcases hk with ⟨hz,_⟩ | h
 · exact absurd hz hm2
 · rw [N51.sl_snoc (by omega) hj]
   have:=dis_mono (a:=N51.sl ys i j) (b:=[ys.getD j Str.empty])
   omega
end
noncomputable def JF(A:Str→Prop)(z:Str)(l:List Str):Prop:=∃U W,l=U++z::W∧∀x∈W,A x
noncomputable def cvF(T:RuleT)(n:Int)(ns:List Str)(hp:∀s l,(T.pick n s l).2=l.headD Str.empty):Cv T n ns where
 J:=fun A z _ l=>JF A z l
 mono:=fun h ⟨U,W,e,hw⟩=>⟨U,W,e,fun x hx=>h x (hw x hx)⟩
 hit:=fun _ _ h _ _ _=>h
 mid:=fun _ h _ _=>h
 go:=fun {A z y s l} _ _ h _ hz=>by
  obtain ⟨U,W,e,hw⟩:=h
  rw [hp]at hz ⊢
  subst e
  cases U with
  | nil=>exact absurd rfl hz
  | cons f r=>exact ⟨r,W,by show (f::(r++z::W)).erase f=_;rw [List.erase_cons_head],hw⟩
 out:=fun {A z y s l} _ nd h _ hz x hx hxz=>by
  obtain ⟨U,W,e,hw⟩:=h
  rw [hp]at hz
  subst e
  cases U with
  | nil=>exact hw x ((List.mem_cons.mp hx).resolve_left hxz)
  | cons f r=>
   have hz:f=z:=hz
   subst hz
   exact absurd (List.mem_append_right r (List.mem_cons_self ..)) (List.nodup_cons.mp nd).1
 new:=fun {A z y s l} _ h _ _ hy=>by
  obtain ⟨U,W,e,hw⟩:=h
  subst e
  refine ⟨U,W++[y],by rw [List.append_assoc];rfl,fun x hx=>?_⟩
  rcases List.mem_append.mp hx with h | h
  · exact hw x h
  · rw [List.mem_singleton.mp h];exact hy
 come:=fun {A z s l} _ _=>⟨l,[],rfl,by simp⟩
theorem j2_hit{A:Str→Prop}{ns:List Str}{s:S2}{l:List Str}{z y:Str}(hi:LI ns s l)(hJ:∀x∈l,lv s z < lv s x→A x)(hA:A y):∀x∈l,lv (ask2 s y) z < lv (ask2 s y) x→A x:=by
 intro x hx hlt
 by_cases ezy:z=y
 · subst ezy
   rw [lv_new]at hlt
   by_cases exz:x=z
   · rw [exz,lv_new]at hlt;omega
   · rw [lv_old exz]at hlt
     have:=hi.le x hx
     omega
 · rw [lv_old ezy]at hlt
   by_cases exy:x=y
   · rw [exy];exact hA
   · rw [lv_old exy]at hlt
     exact hJ x hx hlt
theorem j2_mid{A:Str→Prop}{s:S2}{l:List Str}{z y:Str}(hJ:∀x∈l,lv s z < lv s x→A x)(hz:z∈l)(hy:y∉l):∀x∈l,lv (ask2 s y) z < lv (ask2 s y) x→A x:=by
 intro x hx hlt
 rw [lv_old (fun e=>hy (by rw [← e];exact hz)),lv_old (fun e=>hy (by rw [← e];exact hx))]at hlt
 exact hJ x hx hlt
noncomputable def cv2(C:Addr)(n:Int)(ns:List Str):Cv (T2 C) n ns where
 J:=fun A z s l=>∀x∈l,lv s z < lv s x→A x
 mono:=fun h hJ x hx hlt=>h x (hJ x hx hlt)
 hit:=fun hi _ hJ _ _ hA=>j2_hit hi hJ hA
 mid:=fun _ hJ hz hy=>j2_mid hJ hz hy
 go:=fun _ _ hJ _ _ x hx hlt=>hJ x (List.mem_of_mem_erase hx) hlt
 out:=fun {A z y s l} hm nd hJ hz hp x hx hxz=>by
  have hm:LM ns y s l:=hm
  have hp:lmin (lv s) l=z:=hp
  have hne:l≠[]:=fun e=>by rw [e]at hz;simp at hz
  have h2:=(lmin_ok (v:=lv s) hne).2 x hx
  rw [hp]at h2
  have h3:lv s z≠lv s x:=fun e=>hxz (hm.i.inj z hz x hx e).symm
  exact hJ x hx (by omega)
 new:=fun {A z y s l} _ hJ hz hy hA x hx hlt=>by
  rcases List.mem_append.mp hx with h | h
  · exact hJ x h hlt
  · rw [List.mem_singleton.mp h];exact hA
 come:=fun {A z s l} hm hz x hx hlt=>by
  have hm:LM ns z s l:=hm
  have hlt:lv s z < lv s x:=hlt
  rcases List.mem_append.mp hx with h | h
  · have:=hm.b x h
    rw [lv_at hm.z]at hlt
    omega
  · rw [List.mem_singleton.mp h]at hlt;omega
noncomputable def mkd(s:H6)(x:Str):Prop:=(valV s.k (Sum.inr x)).isSome=true
noncomputable def JH(A:Str→Prop)(z:Str)(s:H6):Prop:=∃U W,s.L=U++z::W∧((mkd s z∧∀x∈W,A x∨¬mkd s x)∨((∀x∈U,A x∨¬mkd s x)∧∀x∈W,A x))
theorem mkd_put{s:H6}{L:List Str}{x y:Str}:mkd ⟨L,putK s.k (Sum.inr y) (.bl true)⟩ x↔x=y∨mkd s x:=by
 unfold mkd
 simp only
 rw [valV_put]
 by_cases e:x=y
 · rw [if_pos (by rw [e])];simp [e]
 · rw [if_neg (inr_ne' e)];simp [e]
theorem mkd_drop{s:H6}{L:List Str}{x y:Str}:mkd ⟨L,dropK s.k (Sum.inr y)⟩ x↔x≠y∧mkd s x:=by
 unfold mkd
 simp only
 by_cases e:x=y
 · rw [e,N71.valV_drop_same];simp
 · rw [N71.valV_dropK (inr_ne' e)];simp [e]
theorem jh_turn{A:Str→Prop}{z f:Str}{r:List Str}{k:List (Key×V)}(nd:(f::r).Nodup)(hf:(valV k (Sum.inr f)).isSome=true)(h:JH A z ⟨f::r,k⟩):JH A z ⟨r++[f],dropK k (Sum.inr f)⟩:=by
 obtain ⟨U,W,e,h⟩:=h
 have e:f::r=U++z::W:=e
 cases U with
 | nil=>
  injection e with e1 e2
  subst e1 e2
  refine ⟨r,[],rfl,.inr ⟨fun x hx=>?_,by simp⟩⟩
  rcases h with ⟨_,h⟩ | ⟨_,h⟩
  · rcases h x hx with h | h
    · exact .inl h
    · exact .inr fun hm=>h (mkd_drop.mp hm).2
  · exact .inl (h x hx)
 | cons g U=>
  rw [List.cons_append]at e
  injection e with e1 e2
  subst e1 e2
  have nfz:z≠f:=fun e=>(List.nodup_cons.mp nd).1 (by rw [← e];exact List.mem_append_right _ (List.mem_cons_self ..))
  refine ⟨U,W++[f],by show (U++z::W)++[f]=_;rw [List.append_assoc];rfl,?_⟩
  rcases h with ⟨hz,h⟩ | ⟨h1,h2⟩
  · refine .inl ⟨mkd_drop.mpr ⟨nfz,hz⟩,fun x hx=>?_⟩
    rcases List.mem_append.mp hx with hx | hx
    · rcases h x hx with h | h
      · exact .inl h
      · exact .inr fun hm=>h (mkd_drop.mp hm).2
    · rw [List.mem_singleton.mp hx]
      exact .inr fun hm=>(mkd_drop (s:=⟨U++z::W,k⟩).mp hm).1 rfl
  · refine .inr ⟨fun x hx=>?_,fun x hx=>?_⟩
    · rcases h1 x (List.mem_cons_of_mem _ hx) with h | h
      · exact .inl h
      · exact .inr fun hm=>h (mkd_drop.mp hm).2
    · rcases List.mem_append.mp hx with hx | hx
      · exact h2 x hx
      · rw [List.mem_singleton.mp hx]
        exact (h1 f (List.mem_cons_self ..)).resolve_right fun h=>h hf
theorem jh_pick{A:Str→Prop}{z:Str}:∀(m:Nat) (s:H6),s.k.length≤m→s.L.Nodup→s.L≠[]→JH A z s→JH A z (hpk s)∧(hpk s).L.Nodup∧∃f r,(hpk s).L=f::r∧¬mkd (hpk s) f:=by
 intro m
 induction m with
 | zero=>
  intro s hk nd hne h
  obtain ⟨L,k⟩:=s
  cases L with
  | nil=>exact absurd rfl hne
  | cons f r=>
   have hk0:k=[]:=List.length_eq_zero_iff.mp (by simpa using hk)
   subst hk0
   have hf:¬(valV ([]:List (Key×V)) (Sum.inr f)).isSome=true:=by simp [valV]
   rw [hpk_end hf]
   exact ⟨h,nd,f,r,rfl,hf⟩
 | succ m ih=>
  intro s hk nd hne h
  obtain ⟨L,k⟩:=s
  cases L with
  | nil=>exact absurd rfl hne
  | cons f r=>
   by_cases hf:(valV k (Sum.inr f)).isSome=true
   · rw [hpk_go hf]
     have hl:=drop_len hf
     have hk:k.length≤m+1:=hk
     exact ih ⟨r++[f],dropK k (Sum.inr f)⟩ (by show (dropK k (Sum.inr f)).length≤m;omega) ((List.perm_append_singleton f r).nodup_iff.mpr nd) (by simp) (jh_turn nd hf h)
   · rw [hpk_end hf]
     exact ⟨h,nd,f,r,rfl,hf⟩
noncomputable def cv6(C:Addr)(n:Int)(ns:List Str):Cv (T6 C) n ns where
 J:=fun A z s _=>JH A z s
 mono:=fun {A B z s l} h ⟨U,W,e,hw⟩=>⟨U,W,e,by
  rcases hw with ⟨a,b⟩ | ⟨a,b⟩
  · exact .inl ⟨a,fun x hx=>(b x hx).imp (h x) id⟩
  · exact .inr ⟨fun x hx=>(a x hx).imp (h x) id,fun x hx=>h x (b x hx)⟩⟩
 hit:=fun {A z y s l} hi nd h hz hy hA=>by
  have hi:HI6 ns s l:=hi
  show JH A z (ask6 s y)
  rw [ask6_in (hi.p.mem_iff.mpr hy)]
  obtain ⟨U,W,e,hw⟩:=h
  have key:∀x,A x∨¬mkd s x→A x∨¬mkd ⟨s.L,putK s.k (Sum.inr y) (.bl true)⟩ x:=fun x hx=>by
   by_cases exy:x=y
   · rw [exy];exact .inl hA
   · exact hx.imp id fun h hm=>h ((mkd_put.mp hm).resolve_left exy)
  refine ⟨U,W,e,?_⟩
  rcases hw with ⟨a,b⟩ | ⟨a,b⟩
  · exact .inl ⟨mkd_put.mpr (.inr a),fun x hx=>key x (b x hx)⟩
  · exact .inr ⟨fun x hx=>key x (a x hx),b⟩
 mid:=fun {A z y s l} hi h hz hy=>by
  have hi:HI6 ns s l:=hi
  show JH A z (ask6 s y)
  rw [ask6_out fun hm=>hy (hi.p.mem_iff.mp hm)]
  exact h
 go:=fun {A z y s l} hm nd h hz hp=>by
  have hi:HI6 ns s l:=hm
  have hne:s.L≠[]:=fun e=>by have:=hi.p;rw [e]at this;rw [List.nil_perm.mp this]at hz;simp at hz
  obtain ⟨h1,nd1,f,r,e,_⟩:=jh_pick s.k.length s (Nat.le_refl _) hi.nd hne h
  have hp:(hpk s).L.headD Str.empty≠z:=hp
  show JH A z ⟨(hpk s).L.erase ((hpk s).L.headD Str.empty),(hpk s).k⟩
  generalize hpk s=s' at h1 nd1 e hp
  obtain ⟨L,k⟩:=s'
  have e:L=f::r:=e
  subst e
  have hp:f≠z:=hp
  show JH A z ⟨(f::r).erase f,k⟩
  rw [List.erase_cons_head]
  obtain ⟨U,W,e,hw⟩:=h1
  have e:f::r=U++z::W:=e
  cases U with
  | nil=>cases e;exact absurd rfl hp
  | cons g U=>
   rw [List.cons_append]at e
   injection e with e1 e2
   subst e1 e2
   refine ⟨U,W,rfl,?_⟩
   rcases hw with ⟨a,b⟩ | ⟨a,b⟩
   · exact .inl ⟨a,b⟩
   · exact .inr ⟨fun x hx=>a x (List.mem_cons_of_mem _ hx),b⟩
 out:=fun {A z y s l} hm nd h hz hp x hx hxz=>by
  have hi:HI6 ns s l:=hm
  have hne:s.L≠[]:=fun e=>by have:=hi.p;rw [e]at this;rw [List.nil_perm.mp this]at hz;simp at hz
  obtain ⟨h1,nd1,f,r,e,hf⟩:=jh_pick s.k.length s (Nat.le_refl _) hi.nd hne h
  have hp:(hpk s).L.headD Str.empty=z:=hp
  have h2:HI6 ns (hpk s) l:=hrot_inv _ _ hi
  have hx2:x∈(hpk s).L:=h2.p.mem_iff.mpr hx
  generalize hpk s=s' at h1 nd1 e hf hp hx2
  obtain ⟨L,k⟩:=s'
  have e:L=f::r:=e
  subst e
  have hp:f=z:=hp
  subst hp
  obtain ⟨U,W,e,hw⟩:=h1
  have e:f::r=U++f::W:=e
  cases U with
  | cons g U=>
   rw [List.cons_append]at e
   injection e with e1 e2
   have nd1:(f::r).Nodup:=nd1
   rw [e2]at nd1
   exact absurd (List.mem_append_right U (List.mem_cons_self ..)) (List.nodup_cons.mp nd1).1
  | nil=>
   cases e
   rcases hw with ⟨a,b⟩ | ⟨a,b⟩
   · exact absurd a hf
   · have hx2:x∈f::r:=hx2
     exact b x ((List.mem_cons.mp hx2).resolve_left hxz)
 new:=fun {A z y s l} hm h hz hy hA=>by
  have hi:HI6 ns s l:=hm
  obtain ⟨U,W,e,hw⟩:=h
  have hyL:y∉s.L:=fun hh=>hy (hi.p.mem_iff.mp hh)
  have key:∀x∈s.L,A x∨¬mkd s x→A x∨¬mkd ⟨s.L++[y],putK s.k (Sum.inr y) (.bl true)⟩ x:=fun x hx h=>
   h.imp id fun h hm=>h ((mkd_put.mp hm).resolve_left fun e=>hyL (by rw [← e];exact hx))
  have inU:∀x∈U,x∈s.L:=fun x hx=>by rw [e];exact List.mem_append_left _ hx
  have inW:∀x∈W,x∈s.L:=fun x hx=>by rw [e];exact List.mem_append_right _ (List.mem_cons_of_mem _ hx)
  refine ⟨U,W++[y],by show s.L++[y]=_;rw [e,List.append_assoc];rfl,?_⟩
  rcases hw with ⟨a,b⟩ | ⟨a,b⟩
  · refine .inl ⟨mkd_put.mpr (.inr a),fun x hx=>?_⟩
    rcases List.mem_append.mp hx with hx | hx
    · exact key x (inW x hx) (b x hx)
    · rw [List.mem_singleton.mp hx];exact .inl hA
  · refine .inr ⟨fun x hx=>key x (inU x hx) (a x hx),fun x hx=>?_⟩
    rcases List.mem_append.mp hx with hx | hx
    · exact b x hx
    · rw [List.mem_singleton.mp hx];exact hA
 come:=fun {A z s l} hm hz=>⟨s.L,[],rfl,.inl ⟨mkd_put.mpr (.inl rfl),by simp⟩⟩
inductive W5 where
 | hd | fi | ol | ra | ru
structure C5 where
 hd:Addr
 fi:Addr
 ol:Addr
 ra:Addr
 ru:Addr
noncomputable def T5(c:C5):W5→RuleT
 | .hd=>T6 c.hd
 | .fi=>T1 c.fi
 | .ol=>T2 c.ol
 | .ra=>T2 c.ra
 | .ru=>T0 c.ru
noncomputable def z5(c:C5):(w:W5)→(T5 c w).St
 | .hd=>s60
 | .fi=>(⟨0,[],[]⟩:S1)
 | .ol=>s20
 | .ra=>s20
 | .ru=>()
theorem inv5{c:C5}{ns:List Str}{n:Int}{w:W5}:(T5 c w).inv ns n (z5 c w) []:=by
 cases w with
 | hd=>exact hi60
 | fi=>exact ⟨KeysIn.nil,KeysIn.nil,by simp,List.Pairwise.nil⟩
 | ol=>exact N63.li0
 | ra=>exact N63.li0
 | ru=>trivial
theorem cnt5{c:C5}{w:W5}:(T5 c w).cnt (z5 c w)=0:=by cases w <;> rfl
noncomputable def cv5(c:C5)(n:Int)(ns:List Str):(w:W5)→Cv (T5 c w) n ns
 | .hd=>cv6 c.hd n ns
 | .fi=>cvF (T1 c.fi) n ns fun _ _=>rfl
 | .ol=>cv2 c.ol n ns
 | .ra=>cv2 c.ra n ns
 | .ru=>cvF (T0 c.ru) n ns fun _ _=>rfl
noncomputable def W5.i:W5→Int
 | .hd=>0
 | .fi=>1
 | .ol=>2
 | .ra=>3
 | .ru=>4
theorem w5_of(x:Int):∃w:W5,x % 5=w.i:=by
 have h:x % 5=0∨x % 5=1∨x % 5=2∨x % 5=3∨x % 5=4:=by omega
 rcases h with h | h | h | h | h
 · exact ⟨.hd,h⟩
 · exact ⟨.fi,h⟩
 · exact ⟨.ol,h⟩
 · exact ⟨.ra,h⟩
 · exact ⟨.ru,h⟩
section
variable {T:RuleT} {s0:T.St} {ts:List Th} {n:Int} {ys:List Str}
noncomputable def rws(T:RuleT)(s0:T.St)(ts:List Th)(n:Int)(ys:List Str):List N55.BR:=(List.range ys.length).map fun j=>((r6 T s0 ts n ys j).1,(r6 T s0 ts n ys j).2.1)
theorem r6_at{j:Nat}{z:Str}(hz:ys[j]?=some z):(r6 T s0 ts n ys j).1=z∧((r6 T s0 ts n ys j).2.1=true↔z∈(gst T (rm ts) n s0 ys j).2):=by
 unfold r6
 rw [grow_at hz]
 have b:=gask_b (T:=T) (R:=rm ts) (n:=n) (s:=(gst T (rm ts) n s0 ys j).1) (l:=(gst T (rm ts) n s0 ys j).2) (z:=z)
 refine ⟨?_,?_⟩
 · show (gask T (rm ts) n ((gst T (rm ts) n s0 ys j).1,(gst T (rm ts) n s0 ys j).2) z).2.1=z
   unfold gask
   split <;> rfl
 · show (gask T (rm ts) n ((gst T (rm ts) n s0 ys j).1,(gst T (rm ts) n s0 ys j).2) z).2.2.1=true↔_
   rw [b,decide_eq_true_eq]
theorem take_r:∀(k m s:Nat),k≤m→(List.range' s m).take k=List.range' s k:=by
 intro k
 induction k with
 | zero=>intro m s _;rfl
 | succ k ih=>
  intro m s h
  obtain ⟨m,rfl⟩:∃m',m=m'+1:=⟨m - 1,by omega⟩
  rw [List.range'_succ,List.range'_succ,List.take_succ_cons,ih m _ (by omega)]
theorem rws_sl{s e:Nat}(h2:e≤ys.length):N55.slB (rws T s0 ts n ys) s e=(List.range' s (e - s)).map fun j=>((r6 T s0 ts n ys j).1,(r6 T s0 ts n ys j).2.1):=by
 unfold N55.slB rws
 rw [← List.map_drop,← List.map_take,List.range_eq_range',List.drop_range',Nat.zero_add,Nat.mul_one,take_r _ _ _ (by omega)]
theorem sl_in{j s e:Nat}(h1:s≤j)(h2:j < e)(h3:e≤ys.length):ys.getD j Str.empty∈N51.sl ys s e:=by
 unfold N51.sl
 refine List.mem_of_getElem? (i:=j - s) ?_
 rw [List.getElem?_take_of_lt (by omega),List.getElem?_drop,show s+(j - s)=j by omega,List.getD_eq_getElem?_getD,List.getElem?_eq_getElem (show j < ys.length by omega)]
 rfl
theorem sl_sub{i j s e:Nat}(h1:s≤i)(h2:j≤e):∀x∈N51.sl ys i j,x∈N51.sl ys s e:=by
 intro x hx
 unfold N51.sl at hx ⊢
 obtain ⟨k,hk⟩:=List.mem_iff_getElem?.mp hx
 have hkl:=(List.getElem?_eq_some_iff.mp hk).1
 rw [List.length_take]at hkl
 rw [List.getElem?_take_of_lt (by omega),List.getElem?_drop]at hk
 refine List.mem_of_getElem? (i:=i+k - s) ?_
 rw [List.getElem?_take_of_lt (by omega),List.getElem?_drop,show s+(i+k - s)=i+k by omega]
 exact hk
theorem part_le(c:Cv T n (ts.map (·.1)))(hR:∀u∈ts.map (·.1),rm ts u=1)(h0:T.inv (ts.map (·.1)) n s0 [])(hn:1≤n)(hin:∀y∈ys,y∈ts.map (·.1)){s e:Nat}(h2:e≤ys.length)(hd:((dis (N51.sl ys s e)).length:Int)≤n):N55.mis (N55.slB (rws T s0 ts n ys) s e)≤(dis (N51.sl ys s e)).length:=by
 rw [rws_sl h2]
 unfold N55.mis
 rw [List.countP_map,List.countP_eq_length_filter]
 have hgt:∀j,j < ys.length→ys[j]?=some (ys.getD j Str.empty):=fun j hj=>by rw [List.getD_eq_getElem?_getD,List.getElem?_eq_getElem hj];rfl
 have hmem:∀j,j∈(List.range' s (e - s)).filter ((fun r:N55.BR=>!r.2)∘fun j=>((r6 T s0 ts n ys j).1,(r6 T s0 ts n ys j).2.1))→s≤j∧j < e∧ys.getD j Str.empty∉(gst T (rm ts) n s0 ys j).2:=fun j hj=>by
  obtain ⟨h1,h3⟩:=List.mem_filter.mp hj
  rw [List.mem_range'_1]at h1
  refine ⟨h1.1,by omega,fun hm=>?_⟩
  have:=(r6_at (T:=T) (s0:=s0) (ts:=ts) (n:=n) (hgt j (by omega))).2.mpr hm
  have h3:(!(r6 T s0 ts n ys j).2.1)=true:=h3
  rw [this]at h3
  cases h3
 have hp:((List.range' s (e - s)).filter ((fun r:N55.BR=>!r.2)∘fun j=>((r6 T s0 ts n ys j).1,(r6 T s0 ts n ys j).2.1))).Pairwise (· < ·):=List.Pairwise.filter _ List.pairwise_lt_range'
 generalize (List.range' s (e - s)).filter ((fun r:N55.BR=>!r.2)∘fun j=>((r6 T s0 ts n ys j).1,(r6 T s0 ts n ys j).2.1))=js at hmem hp
 have hnd:(js.map fun j=>ys.getD j Str.empty).Nodup:=by
  unfold List.Nodup
  rw [List.pairwise_map]
  refine hp.imp_of_mem fun {a b} ha hb hab heq=>?_
  obtain ⟨a1,a2,a3⟩:=hmem a ha
  obtain ⟨b1,b2,b3⟩:=hmem b hb
  rw [← heq]at b3
  have:=apart c hR h0 hn hin (hgt a (by omega)) a3 hab (by omega) b3
  have hle:=nd_len (dis_nodup (N51.sl ys a (b+1))) fun x hx=>mem_dis.mpr (sl_sub (e:=e) a1 (by omega) x (mem_dis.mp hx))
  omega
 have:=nd_len hnd (fun x hx=>by
  obtain ⟨j,hj,rfl⟩:=List.mem_map.mp hx
  obtain ⟨a1,a2,_⟩:=hmem j hj
  exact mem_dis.mpr (sl_in a1 a2 h2):∀x∈js.map (fun j=>ys.getD j Str.empty),x∈dis (N51.sl ys s e))
 rw [List.length_map]at this
 exact this
end
theorem cut_sl(ys:List Str)(s e:Nat)(h1:s≤e)(h2:e≤ys.length):cutV (ys.map V.str) (some (s:Int)) (some (e:Int))=(N51.sl ys s e).map V.str:=by
 unfold cutV N51.sl
 rw [List.length_map,HT.sIx_nat,HT.sIx_nat,Nat.min_eq_left h2,Nat.min_eq_left (Nat.le_trans h1 h2),← List.map_drop,← List.map_take]
theorem mis_snoc{b:List N55.BR}{r:N55.BR}:N55.mis (b++[r])=N55.mis b+if r.2=true then 0 else 1:=by
 rw [N55.mis_append]
 unfold N55.mis
 rw [List.countP_singleton]
 cases r.2 <;> rfl
noncomputable def mk5(T:RuleT)(s0:T.St)(ts:List Th)(n:Int)(ys:List Str)(as gs:List Addr):List N55.Bk5:=(List.range ys.length).map fun j=>(as.getD j 0,(r6 T s0 ts n ys j).1,(r6 T s0 ts n ys j).2.1,gs.getD j 0)
theorem bk5_of{T:RuleT}{s0:T.St}{ts:List Th}{n:Int}{ys:List Str}{H:Hp}{b:Addr}{as gs:List Addr}(B:Bk6 T s0 H b as gs ts n ys):N55.BkAt H b (mk5 T s0 ts n ys as gs)∧N55.brs (mk5 T s0 ts n ys as gs)=rws T s0 ts n ys∧∀r∈mk5 T s0 ts n ys as gs,∃l:List Str,H r.2.2.2=some (.lst (l.map V.str)):=by
 have hg:∀(l:List Addr) (j:Nat),j < l.length→l[j]?=some (l.getD j 0):=fun l j hj=>by rw [List.getD_eq_getElem?_getD,List.getElem?_eq_getElem hj];rfl
 have hat:∀r∈mk5 T s0 ts n ys as gs,∃j,j < ys.length∧r=(as.getD j 0,(r6 T s0 ts n ys j).1,(r6 T s0 ts n ys j).2.1,gs.getD j 0):=fun r hr=>by
  obtain ⟨j,hj,rfl⟩:=List.mem_map.mp hr
  exact ⟨j,List.mem_range.mp hj,rfl⟩
 refine ⟨⟨?_,fun r hr=>?_⟩,?_,fun r hr=>?_⟩
 · rw [B.L]
   congr 2
   refine List.ext_getElem? fun j=>?_
   unfold mk5
   rw [List.getElem?_map,List.getElem?_map,List.getElem?_map]
   by_cases hj:j < ys.length
   · rw [hg as j (by rw [B.ln];exact hj),List.getElem?_range hj]
     rfl
   · rw [List.getElem?_eq_none (by rw [B.ln];omega),List.getElem?_eq_none (by rw [List.length_range];omega)]
     rfl
 · obtain ⟨j,hj,rfl⟩:=hat r hr
   exact (B.t j _ _ (hg as j (by rw [B.ln];exact hj)) (hg gs j (by rw [B.m];exact hj))).1
 · unfold N55.brs mk5 rws
   rw [List.map_map]
   rfl
 · obtain ⟨j,hj,rfl⟩:=hat r hr
   exact ⟨_,(B.t j _ _ (hg as j (by rw [B.ln];exact hj)) (hg gs j (by rw [B.m];exact hj))).2⟩
theorem compL_mkD{K:PySem.W.Frag}{H1:Hp}{tail:L2.St}{te:Blk→TE}{Q:VK}{a:Addr}{xs:List V}(P:Addr→Nat→V→Hp→Prop)(hP:∀{D i y H H'},P D i y H→SameBut D H H'→P D i y H')(hS:SqL K H1 a xs)(hz:xs.length≤sizeLine)(he:∀b D (i:Nat) x H Q',xs[i]?=some x→Same H1 H→H1 D=none→(∃zs,H D=some (.lst zs))→(∀y H',Same H H'→P D i y H'→Q' y H')→te b (some x::tail) H Q')
 (q:∀D ys H',H1 D=none→Same H1 H'→H' D=some (.lst ys)→ys.length=xs.length→(∀i y,ys[i]?=some y→P D i y H')→Q (.ref D) H'):CompTail (none::tail) (fun _=>gName 0) (fun _=>tYes) te Q (Itl K a) H1:=by
 refine comp_by xs.length (fun b D hD=>⟨fun i ys H=>i≤xs.length∧ys.length=i∧H D=some (.lst ys)∧Same H1 H∧∀j y,ys[j]?=some y→P D j y H,⟨Nat.zero_le _,rfl,upd_same,same_new hD,fun j y e=>by simp at e⟩,?_,?_,?_⟩)
 · rintro i ys H ⟨hi,_,h,_⟩
   exact h
 · rintro ys H ⟨_,hl,h,sm,hall⟩
   exact ⟨⟨xs,sm.seq hS,Nat.le_refl _⟩,q D ys H hD sm h hl hall⟩
 · rintro i ys H hi ⟨_,hl,h,sm,hall⟩
   refine ⟨⟨xs,xs[i],sm.seq hS,by simp [hi]⟩,fun x H3 ⟨e3,ex⟩=>?_⟩
   subst e3
   refine he b D i x _ _ (ex xs (sm.seq hS)) sm hD ⟨_,h⟩ fun y H4 sm4 py=>?_
   have h4:=sm4 _ _ h
   have sb:SameBut D H4 (upd H4 D (.lst (ys++[y]))):=sameBut_upd
   refine compNext h4 (by omega) hi ⟨hi,by rw [List.length_append,hl];rfl,upd_same,fun c o e=>?_,fun j y' e=>?_⟩
   · rw [upd_ne (ne_of_none e hD)];exact sm4 _ _ (sm _ _ e)
   · by_cases hj:j < ys.length
     · rw [List.getElem?_append_left hj]at e
       exact hP (hall j y' e) fun c o e n=>by rw [upd_ne n];exact sm4 _ _ e
     · rw [List.getElem?_append_right (by omega)]at e
       have hj0:j=i:=by have:=(List.getElem?_eq_some_iff.mp e).1;simp at this;omega
       subst hj0
       rw [show j - ys.length=0 by omega]at e
       cases e
       exact hP py sb
theorem okp_len{ys:List Str}{m:Int}:∀(rs:List (Nat×Nat)) (a:Nat),N51.OkP ys m a rs→rs.length+a≤ys.length
 | [],a,h=>by
  have h:a=ys.length:=h
  rw [h,List.length_nil,Nat.zero_add]
  exact Nat.le_refl _
 | (s,e)::r,a,⟨h1,h2,h3,h4,h5,h6⟩=>by
  have:=okp_len r e h6
  rw [List.length_cons]
  omega
theorem okp_in{ys:List Str}{m:Int}:∀(rs:List (Nat×Nat)) (a:Nat),N51.OkP ys m a rs→∀r∈rs,r.1≤r.2∧r.2≤ys.length∧((dis (N51.sl ys r.1 r.2)).length:Int)≤m
 | [],a,h,r,hr=>by cases hr
 | (s,e)::r,a,⟨h1,h2,h3,h4,h5,h6⟩,x,hx=>by
  rcases List.mem_cons.mp hx with h | h
  · rw [h]
    rw [← h1]at h4 h2
    exact ⟨Nat.le_of_lt h2,h3,h4⟩
  · exact okp_in r e h6 x h
noncomputable def endP(rs:List (Nat×Nat))(i:Nat):Nat:=if i=0 then 0 else (rs.getD (i - 1) (0,0)).2
theorem okp_at{ys:List Str}{m:Int}:∀(rs:List (Nat×Nat)) (a:Nat),N51.OkP ys m a rs→∀i,i < rs.length→(rs.getD i (0,0)).1=if i=0 then a else (rs.getD (i - 1) (0,0)).2
 | [],a,h,i,hi=>by cases hi
 | (s,e)::r,a,⟨h1,h2,h3,h4,h5,h6⟩,i,hi=>by
  cases i with
  | zero=>exact h1
  | succ i=>
   have:=okp_at r e h6 i (by simpa using hi)
   have e0:((s,e)::r).getD (i+1) (0,0)=r.getD i (0,0):=rfl
   rw [e0,this]
   cases i with
   | zero=>rfl
   | succ i=>rfl
theorem okp_end{ys:List Str}{m:Int}:∀(rs:List (Nat×Nat)) (a:Nat),N51.OkP ys m a rs→(if rs.length=0 then a else (rs.getD (rs.length - 1) (0,0)).2)=ys.length
 | [],a,h=>h
 | (s,e)::r,a,⟨h1,h2,h3,h4,h5,h6⟩=>by
  have:=okp_end r e h6
  rw [if_neg (by simp)]
  cases r with
  | nil=>exact this
  | cons x r=>
   rw [if_neg (by simp)]at this
   exact this
theorem cp5{H:Hp}:∀(bs:List N55.Bk5) (yl:List V),yl.length=bs.length→(∀(i:Nat) y,yl[i]?=some y→∃(t g:Addr) (r:N55.Bk5),bs[i]?=some r∧y=V.ref t∧H t=some (.tup [.str r.2.1,.bl r.2.2.1,.ref g]))→∃bs2:List N55.Bk5,yl=bs2.map (fun r=>V.ref r.1)∧(∀r∈bs2,H r.1=some (.tup [.str r.2.1,.bl r.2.2.1,.ref r.2.2.2]))∧N55.brs bs2=N55.brs bs:=by
 intro bs
 induction bs with
 | nil=>
  intro yl hl _
  cases yl with
  | nil=>exact ⟨[],rfl,(fun r hr=>by cases hr),rfl⟩
  | cons y yl=>cases hl
 | cons r bs ih=>
  intro yl hl h
  cases yl with
  | nil=>cases hl
  | cons y yl=>
   obtain ⟨t,g,r',h1,h2,h3⟩:=h 0 y rfl
   cases h1
   obtain ⟨bs2,a,b,c⟩:=ih yl (by simpa using hl) fun i y hy=>h (i+1) y hy
   refine ⟨(t,r.2.1,r.2.2.1,g)::bs2,by rw [h2,a];rfl,fun x hx=>?_,?_⟩
   · rcases List.mem_cons.mp hx with e | e
     · rw [e];exact h3
     · exact b x e
   · unfold N55.brs at c ⊢
     rw [List.map_cons,List.map_cons,c]
theorem hand_like{K:PySem.W.Frag}{H:Hp}{hd p D so2 b1 so:Addr}{yl:List V}{bs:List N55.Bk5}{rs:List N53.Pt}(h1:H hd=some (.lst [.ref D,.ref so2]))(h2:H p=some (.lst [.ref b1,.ref so]))(h3:H D=some (.lst yl))(h4:N55.BkAt H b1 bs)(hl:yl.length=bs.length)
 (hall:∀(i:Nat) y,yl[i]?=some y→∃(t g:Addr) (r:N55.Bk5) (l:List Str),bs[i]?=some r∧y=V.ref t∧H t=some (.tup [.str r.2.1,.bl r.2.2.1,.ref g])∧H g=some (.lst (l.map V.str))∧H r.2.2.2=some (.lst (l.map V.str))) (h5:H so2=some (.lst (rs.map fun r=>V.ref r.1))) (h6:N53.PtsAt K H so rs):LikeR K 3 H (.ref hd) (.ref p):=by
 refine ⟨hd,p,_,_,rfl,rfl,.inl ⟨SqL.of h1,SqL.of h2⟩,rfl,fun i x y e1 e2=>?_⟩
 match i,e1,e2 with
 | 0,e1,e2=>
  cases e1;cases e2
  refine LikeN.of ⟨D,b1,_,_,rfl,rfl,.inl ⟨SqL.of h3,SqL.of h4.l⟩,by rw [List.length_map];exact hl,fun j x y e1 e2=>?_⟩
  obtain ⟨t,g,r,l,k1,rfl,k3,k4,k5⟩:=hall j x e1
  rw [List.getElem?_map,k1]at e2
  cases e2
  refine LikeN.of ⟨t,r.1,_,_,rfl,rfl,.inr ⟨SqT.of k3,SqT.of (h4.t r (List.mem_of_getElem? k1))⟩,rfl,fun m x y e1 e2=>?_⟩
  match m,e1,e2 with
  | 0,e1,e2=>cases e1;cases e2;exact LikeN.flat rfl
  | 1,e1,e2=>cases e1;cases e2;exact LikeN.flat rfl
  | 2,e1,e2=>cases e1;cases e2;exact strs_like (SqL.of k4) (SqL.of k5)
  | m+3,e1,_=>simp at e1
 | 1,e1,e2=>
  cases e1;cases e2
  refine LikeN.of ⟨so2,so,_,_,rfl,rfl,.inl ⟨SqL.of h5,SqL.of h6.1⟩,rfl,fun j x y e1 e2=>?_⟩
  rw [e1]at e2
  cases e2
  obtain ⟨r,hr,rfl⟩:=List.mem_map.mp (List.mem_of_getElem? e1)
  refine LikeN.of ⟨r.1,r.1,_,_,rfl,rfl,.inr ⟨SqT.of (h6.2 r hr),SqT.of (h6.2 r hr)⟩,rfl,fun m x y e1 e2=>?_⟩
  rw [e1]at e2
  cases e2
  match m,e1 with
  | 0,e1=>cases e1;exact LikeN.flat rfl
  | 1,e1=>cases e1;exact LikeN.flat rfl
  | m+2,e1=>simp at e1
 | i+2,e1,_=>simp at e1
theorem forZ_le{K:PySem.W.Frag}{σ:L2.St}{H:Hp}{D:Ends}{a b:Addr}{xs ys:List V}{g:TG}{tb:TS}(hlen:xs.length≤ys.length)(Pv:Nat→L2.St→Hp→Prop)(h0:Pv 0 σ H)(hl:∀i σ H,i≤xs.length→Pv i σ H→SqL K H a xs∧SqL K H b ys)
 (hs:∀i x y σ H t,xs[i]?=some x→ys[i]?=some y→Pv i σ H→H t=none→g (.ref t) σ (upd H t (.tup [x,y])) fun σ2 H2=>tb {D with nx:=Pv (i+1),ct:=Pv (i+1),bk:=D.nx} σ2 H2) (hd:∀σ H,Pv xs.length σ H→D.nx σ H):ForTail g tb D σ (Itz K a b) H:=by
 refine ⟨fun i m σ H=>i≤xs.length∧m=xs.length - i∧Pv i σ H,⟨_,Nat.zero_le _,rfl,h0⟩,fun i m σ H ⟨hi,hm,hP⟩=>?_⟩
 obtain ⟨hq,hq2⟩:=hl i σ H hi hP
 by_cases hlt:i < xs.length
 · have hx:xs[i]?=some xs[i]:=List.getElem?_eq_getElem hlt
   have hy:ys[i]?=some (ys[i]'(by omega)):=List.getElem?_eq_getElem (by omega)
   refine .inr ⟨⟨xs,ys,_,_,hq,hq2,hx,hy⟩,Pv (i+1),fun σ' H' h=>⟨xs.length - (i+1),by omega,by omega,rfl,h⟩,?_⟩
   rintro v H' ⟨t,x',y',rfl,ht,rfl,h1,h2⟩
   have e:=(h1 xs hq).symm.trans hx
   have e2:=(h2 ys hq2).symm.trans hy
   cases e
   cases e2
   exact hs i _ _ σ H t hx hy hP ht
 · have e:i=xs.length:=by omega
   subst e
   exact .inl ⟨⟨xs,ys,hq,hq2,.inl (Nat.le_refl _)⟩,hd σ H hP⟩
noncomputable def sp54_things(K:PySem.W.Frag):Sp:=fun vs H Q _=>∃(a:Addr) (ns:List Int),vs=[.ref a]∧SqL K H a (ns.map V.int)∧ns.length≤63∧∀(p:Addr) (ys:List Str) (H':Hp),H p=none→Same H H'→H' p=some (.lst (ys.map V.str))→1≤ys.length→ys.length≤60→ys.Nodup→(∀y∈ys,nameB y.cps.toList=true)→Q (.ref p) H'
noncomputable def sp54_row(K:PySem.W.Frag):Sp:=fun vs H Q _=>∃(a p:Addr) (ns:List Int) (ys:List Str),vs=[.ref a,.ref p]∧SqL K H a (ns.map V.int)∧ns.length≤63∧H p=some (.lst (ys.map V.str))∧1≤ys.length∧ys.length≤60∧∀(q:Addr) (zs:List Str) (H':Hp),Same H H'→H' q=some (.lst (zs.map V.str))→zs.length≤200→(∀z∈zs,z∈ys)→Q (.ref q) H'
noncomputable def sp54_made(c:C5):Sp:=fun vs H Q _=>∃(w:W5) (st:Addr) (n:Int),vs=[.int w.i,.ref st,.int n]∧1≤n∧n≤1000000∧∀(q:Addr) (M:List Addr) (H':Hp),Same H H'→(∀m∈M,H m=none)→(T5 c w).At H' M q st n (z5 c w)→Q (.ref q) H'
noncomputable def sp54_stretches(K:PySem.W.Frag):Sp:=fun vs H Q _=>∃(sz:Nat) (c:Int),vs=[.int (sz:Int),.int c]∧sz≤200∧∀(p:Addr) (rs:List N53.Pt) (H':Hp),Same H H'→N53.PtsAt K H' p rs→rs.length≤5→(∀r∈rs,r.2.1≤r.2.2∧r.2.2≤sz)→Q (.ref p) H'
noncomputable def sp54_missed(K:PySem.W.Frag):Sp:=fun vs H Q _=>∃(b p:Addr) (bs:List N55.Bk5) (rs:List N53.Pt),vs=[.ref b,.ref p]∧N55.BkAt H b bs∧bs.length≤200∧N53.PtsAt K H p rs∧rs.length≤250∧(∀r∈rs,r.2.1≤r.2.2∧r.2.2≤bs.length)∧∀D H',Same H H'→H' D=some (.lst (rs.map fun r=>V.int (N55.mis (N55.slB (N55.brs bs) r.2.1 r.2.2))))→Q (.ref D) H'
structure Run5(K:PySem.W.Frag)(c:C5)(w:W5)(H:Hp)(b a:Addr)(bs:List N55.Bk5)(n:Int)(ts:List Th)(ys:List Str):Prop where
 b:N55.BkAt H b bs
 r:N55.brs bs=rws (T5 c w) (z5 c w) ts n ys
 a:SqL K H a (ys.map V.str)
 l:ys.length≤200
 i:∀y∈ys,y∈ts.map (·.1)
 o:∀u∈ts.map (·.1),rm ts u=1
 t:ts.length≤60
 n1:1≤n
noncomputable def sp54_apart(K:PySem.W.Frag)(c:C5):Sp:=fun vs H Q _=>∃(w:W5) (b a:Addr) (bs:List N55.Bk5) (n:Int) (ts:List Th) (ys:List Str),vs=[.ref b,.ref a,.int n]∧Run5 K c w H b a bs n ts ys∧∀H',Same H H'→Q (.bl true) H'
noncomputable def sp54_law(tp:Addr)(K:PySem.W.Frag):Sp:=fun vs H Q _=>∃(a:Addr) (ns:List Int),vs=[.ref a]∧SqL K H a (ns.map V.int)∧ns.length≤63∧H tp=some (.tbl #[])∧∀H',Q (.bl true) H'
end N54
open PySem PySem.W PyProof.Rows
namespace L2
structure Bs(P:Program)(w:World)(K:PySem.W.Frag)(mg:Str→Option Value)(base:Heap):Prop where
 ex:∃h:Heap,K.In h∧h.Ns mainGlobals mg
theorem lc{α:Type}{us:List α}{n:Nat}(h:us.length=n+1):∃u r,us=u::r∧r.length=n:=by
 cases us with
 | nil=>cases h
 | cons u r=>exact ⟨u,r,rfl,Nat.succ.inj h⟩
theorem l0{α:Type}{us:List α}(h:us.length=0):us=[]:=by
 cases us with
 | nil=>rfl
 | cons u r=>cases h
section
variable {P:Program} {w:World} {K:PySem.W.Frag} {mg:Str→Option Value} {base:Heap} {CX:CXT} {k:Nat} {sp:Sp} {ps:List Str} {x qual n p1 p2 p3 p4 p5 p6 p7:Str} {st:Stmt} {f C:Addr} {fd:FuncData}
theorem Fun.d(F:Fun K x qual st f fd)(B:Bs P w K mg base)(a:PySem.W.nsIn K mainGlobals x=some (some (.ref f)))(o:FnOk P w K mg base CX k f fd ps sp)(b:Binds K fd ps []):Def P w K mg base CX k x ps sp:=
 let ⟨_,X,G⟩:=B.ex;⟨f,fd,o,PySem.W.mg_of X G a,F.kp,b⟩
theorem Fun.m(F:Fun K x qual st f fd)(B:Bs P w K mg base)(M:Meth K C x f)(o:FnOk P w K mg base CX k f fd ps sp)(b:Binds K fd ps []):DefM P w K mg base CX k C x ps sp:=
 ⟨f,fd,o,M,b⟩
theorem Fun.i(F:Fun K x qual st f fd)(B:Bs P w K mg base)(M:Mk K C f)(a:PySem.W.nsIn K mainGlobals n=some (some (.ref C)))(o:FnOk P w K mg base CX k f fd ps sp)(b:Binds K fd ps []):DefI P w K mg base CX k n C ps sp:=
 let ⟨_,X,G⟩:=B.ex;⟨f,fd,o,M,PySem.W.mg_of X G a,b⟩
theorem Fun.e1(F:Fun K x qual st f fd)(h:∀(kV doc pm:Value) (an:Option Addr) (cdv ct u:Value),bindArgs (PySem.W.fnOf x qual (defArgs st) (defBody st) (defScope st) .none kV doc pm an cdv ct) ⟨[u],[]⟩=pure [(p1,u)]):Binds K fd [p1] []:=
 F.binds (ps:=[p1]) fun kV doc pm an cdv ct us hl=>by
  obtain ⟨u,us,rfl,h1⟩:=lc hl
  cases l0 h1
  exact h kV doc pm an cdv ct u
theorem Fun.e2(F:Fun K x qual st f fd)(h:∀(kV doc pm:Value) (an:Option Addr) (cdv ct u v:Value),bindArgs (PySem.W.fnOf x qual (defArgs st) (defBody st) (defScope st) .none kV doc pm an cdv ct) ⟨[u,v],[]⟩=pure [(p1,u),(p2,v)]):Binds K fd [p1,p2] []:=
 F.binds (ps:=[p1,p2]) fun kV doc pm an cdv ct us hl=>by
  obtain ⟨u,us,rfl,h1⟩:=lc hl
  obtain ⟨v,us,rfl,h2⟩:=lc h1
  cases l0 h2
  exact h kV doc pm an cdv ct u v
theorem Fun.e3(F:Fun K x qual st f fd)(h:∀(kV doc pm:Value) (an:Option Addr) (cdv ct u v w:Value),bindArgs (PySem.W.fnOf x qual (defArgs st) (defBody st) (defScope st) .none kV doc pm an cdv ct) ⟨[u,v,w],[]⟩=pure [(p1,u),(p2,v),(p3,w)]):Binds K fd [p1,p2,p3] []:=
 F.binds (ps:=[p1,p2,p3]) fun kV doc pm an cdv ct us hl=>by
  obtain ⟨u,us,rfl,h1⟩:=lc hl
  obtain ⟨v,us,rfl,h2⟩:=lc h1
  obtain ⟨w,us,rfl,h3⟩:=lc h2
  cases l0 h3
  exact h kV doc pm an cdv ct u v w
theorem Fun.e4(F:Fun K x qual st f fd)(h:∀(kV doc pm:Value) (an:Option Addr) (cdv ct u v w y:Value),bindArgs (PySem.W.fnOf x qual (defArgs st) (defBody st) (defScope st) .none kV doc pm an cdv ct) ⟨[u,v,w,y],[]⟩=pure [(p1,u),(p2,v),(p3,w),(p4,y)]):Binds K fd [p1,p2,p3,p4] []:=
 F.binds (ps:=[p1,p2,p3,p4]) fun kV doc pm an cdv ct us hl=>by
  obtain ⟨u,us,rfl,h1⟩:=lc hl
  obtain ⟨v,us,rfl,h2⟩:=lc h1
  obtain ⟨w,us,rfl,h3⟩:=lc h2
  obtain ⟨y,us,rfl,h4⟩:=lc h3
  cases l0 h4
  exact h kV doc pm an cdv ct u v w y
end
theorem st_c{n:Str}{N:List Str}{v:V}{vs:List V}:start (n::N) (v::vs)=some v::start N vs:=by
 simp [start]
theorem st_n{n:Str}{N:List Str}:start (n::N) []=none::start N []:=rfl
theorem st_e:start [] []=[]:=rfl
end L2
namespace K54
open L2 N1 N5 N4 N6 N12 N32 N14 N20 N18 N25 NR N22 N21 N28 N53 N51 N55 N64 N66 N54
local macro_rules | `(tactic| walk_at "rq") => `(tactic| simp only [rd_asg, rd_var, rd_c, rd_op, rd_I0, rd_I, rd_U, rd_name, rd_ifS, rd_test, rd_b, rd_ret, rd_retN, rd_next, rd_break, rd_cont, rd_cb, rd_cons, rd_nil, rd_call, rd_not, rd_or, rd_and, rd_andV, rd_orV, rd_notV, rd_if, rd_un, rd_eq, rd_ne, rd_par, rd_tup, rd_lst, rd_never, rd_drop, rd_gcons, rd_gnil, rd_gsub, rd_chain, rd_rng1, rd_rng2, rd_ilist, rd_itup, rd_for', scal, rd_comp, rd_istr, rd_sl, rd_noPart, rd_part, rd_slS, rd_slL, rd_bm, rd_bm0, tyV_str, rd_join, rd_find, rd_split, rd_all, rd_mulS, rd_jnil, rd_jcons, rd_fstr, rd_fmt, rd_fmtR, rd_dnewK, true_implies, false_implies, Bool.false_and, Bool.true_and, Bool.and_true, Bool.and_false, Bool.false_or, Bool.true_or, Bool.or_true, Bool.or_false, rd_eqQ, rd_neQ, rd_methE, rd_makeE, rd_fld, rd_sfld, rd_din, rd_dnotin, rd_dget, rd_dput, rd_gtup, rd_inS, rd_notinS, hasS_one, blk_K, Int.zero_add, Int.toNat_natCast, upd_upd, List.map_cons, List.map_nil, List.getD_cons_zero, List.getD_cons_succ, cxOf_K, List.length_cons, List.length_nil, List.getElem?_cons_zero, List.getElem?_cons_succ, List.set_cons_zero, List.set_cons_succ, Option.some.injEq, V.int.injEq, V.bl.injEq, V.str.injEq, V.ref.injEq, V.ty.injEq, exists_eq_left', exists_eq_left, exists_and_left, exists_eq, exists_eq', List.cons.injEq, and_true, true_and, decide_eq_true_eq, Bool.not_eq_true', decide_eq_false_iff_not, reduceCtorEq, exists_const, Bool.true_eq_false, Bool.false_eq_true, if_true, if_false, ite_true, ite_false, Bool.not_true, Bool.not_false, decide_true, decide_false, Bool.not_not, false_and, and_false, exists_false, false_or, or_false, true_or, or_true, and_assoc, not_true_eq_false, not_false_eq_true, Int.reduceToNat, Nat.reduceAdd, sp_cell, sp_made, sp_is_name, sp_law, sp_is_whole, sp_within, sp_checkG, sp_initG, sp_has, sp_thingG, sp_roomG, sp32_room, sp32_thing, sp32_check, N41.sp41_asks, sp_putG, sp_castG, rd_listD, rd_values, rd_sumV, rd_remove, rd_dpop1, sp_nms, sp_sinit, sp_lying, sp_holds, sp_left, rd_ienum, rd_izip, sp_mix, sp12_names, rd_items, rd_iview, sp14_casts, sp14_serves, sp14_after, rd_comp3, rd_compI, rd_comp2, rd_maxL, rd_maxV, rd_neN, rd_setL, rd_dget1, sp20_stream, sp20_names, sp20_rows, sp20_places, sp20_asks, sp20_rooms, sp20_same, rd_callS, rd_sumL, rd_minK, spR_nests, spR_asked, spR_choice, spR_gone, spR_came, spR2_room, spR2_row, spR2_book, spR_room, spR_row, spR_book, rd_fldaug, rd_dget2, rAdd, rd_augN, rd_ipI, rd_isnB, sp28_rinit, sp28_kinit, sp28_hinit, rd_isiO, rd_sortS, sp21_number, sp21_last, sp21_rank, sp22_number, sp22_rank, sp22_init, spI_room, spI_row, spI_bookN, spR_bookN, rd_makeD, rd_makeK, gV31_at, rd_dictOf, rd_methI, rd_neDD, rd_ipM, List.cons_append, List.nil_append, rd_callO, rd_lam, rd_lenset, sp55_weighed, sp55_missed, sp55_in, sp55_parts, sp54_things, sp54_row, sp54_made, sp54_stretches, sp54_missed, sp54_apart, sp54_law])
local macro_rules | `(tactic| walk_at "rd") => `(tactic| first | (dsimp only [rd_asg, rd_var, rd_c, rd_op, rd_I0, rd_I, rd_U, rd_name, rd_ifS, rd_test, rd_b, rd_ret, rd_retN, rd_next, rd_break, rd_cont, rd_cb, rd_cons, rd_nil, rd_call, rd_not, rd_or, rd_and, rd_andV, rd_orV, rd_notV, rd_if, rd_un, rd_eq, rd_ne, rd_par, rd_tup, rd_lst, rd_never, rd_drop, rd_gcons, rd_gnil, rd_gsub, rd_chain, rd_rng1, rd_rng2, rd_ilist, rd_itup, rd_for', scal, rd_comp, rd_istr, rd_sl, rd_noPart, rd_part, rd_slS, rd_slL, rd_bm, rd_bm0, tyV_str, rd_join, rd_find, rd_split, rd_all, rd_mulS, rd_jnil, rd_jcons, rd_fstr, rd_fmt, rd_fmtR, rd_dnewK, true_implies, false_implies, Bool.false_and, Bool.true_and, Bool.and_true, Bool.and_false, Bool.false_or, Bool.true_or, Bool.or_true, Bool.or_false, rd_eqQ, rd_neQ, rd_methE, rd_makeE, rd_fld, rd_sfld, rd_din, rd_dnotin, rd_dget, rd_dput, rd_gtup, rd_inS, rd_notinS, hasS_one, blk_K, Int.zero_add, Int.toNat_natCast, upd_upd, List.map_cons, List.map_nil, List.getD_cons_zero, List.getD_cons_succ, cxOf_K, List.length_cons, List.length_nil, List.getElem?_cons_zero, List.getElem?_cons_succ, List.set_cons_zero, List.set_cons_succ, Option.some.injEq, V.int.injEq, V.bl.injEq, V.str.injEq, V.ref.injEq, V.ty.injEq, exists_eq_left', exists_eq_left, exists_and_left, exists_eq, exists_eq', List.cons.injEq, and_true, true_and, decide_eq_true_eq, Bool.not_eq_true', decide_eq_false_iff_not, reduceCtorEq, exists_const, Bool.true_eq_false, Bool.false_eq_true, if_true, if_false, ite_true, ite_false, Bool.not_true, Bool.not_false, decide_true, decide_false, Bool.not_not, false_and, and_false, exists_false, false_or, or_false, true_or, or_true, and_assoc, not_true_eq_false, not_false_eq_true, Int.reduceToNat, Nat.reduceAdd, sp_cell, sp_made, sp_is_name, sp_law, sp_is_whole, sp_within, sp_checkG, sp_initG, sp_has, sp_thingG, sp_roomG, sp32_room, sp32_thing, sp32_check, N41.sp41_asks, sp_putG, sp_castG, rd_listD, rd_values, rd_sumV, rd_remove, rd_dpop1, sp_nms, sp_sinit, sp_lying, sp_holds, sp_left, rd_ienum, rd_izip, sp_mix, sp12_names, rd_items, rd_iview, sp14_casts, sp14_serves, sp14_after, rd_comp3, rd_compI, rd_comp2, rd_maxL, rd_maxV, rd_neN, rd_setL, rd_dget1, sp20_stream, sp20_names, sp20_rows, sp20_places, sp20_asks, sp20_rooms, sp20_same, rd_callS, rd_sumL, rd_minK, spR_nests, spR_asked, spR_choice, spR_gone, spR_came, spR2_room, spR2_row, spR2_book, spR_room, spR_row, spR_book, rd_fldaug, rd_dget2, rAdd, rd_augN, rd_ipI, rd_isnB, sp28_rinit, sp28_kinit, sp28_hinit, rd_isiO, rd_sortS, sp21_number, sp21_last, sp21_rank, sp22_number, sp22_rank, sp22_init, spI_room, spI_row, spI_bookN, spR_bookN, rd_makeD, rd_makeK, gV31_at, rd_dictOf, rd_methI, rd_neDD, rd_ipM, List.cons_append, List.nil_append, rd_callO, rd_lam, rd_lenset, sp55_weighed, sp55_missed, sp55_in, sp55_parts, sp54_things, sp54_row, sp54_made, sp54_stretches, sp54_missed, sp54_apart, sp54_law]; try walk_at "rq") | walk_at "rq")
local macro_rules | `(tactic| walk_at "hp") => `(tactic| first | with_reducible assumption | exact upd_same | (rw [upd_ne (by first | with_reducible assumption | exact ne_of_none (by with_reducible assumption) (by with_reducible assumption))]; first | with_reducible assumption | exact upd_same))
local macro_rules | `(tactic| walk_at "sq") => `(tactic| (repeat' first | with_reducible assumption | exact SqT.of upd_same | exact SqL.of upd_same | refine' Same.tup (Same.new (by with_reducible assumption)) ?_ | refine' Same.seq (Same.new (by with_reducible assumption)) ?_))
local macro_rules | `(tactic| walk_at "isi") => `(tactic| first | exact isi_ii | exact isi_ib | exact isi_bb | exact isi_is | exact isi_ss | exact isi_si | exact isi_sb | exact isi_bi | exact isi_bs | exact isi_ni | exact isi_ns | exact isi_tupt (by walk_at "hp") | exact isi_lstl (by walk_at "hp") | exact isi_tupl (by walk_at "hp") | exact isi_lstt (by walk_at "hp") | exact isi_tups (by walk_at "hp") | exact isi_lsts (by walk_at "hp") | exact isi_tupi (by walk_at "hp") | exact isi_lsti (by walk_at "hp"))
local macro_rules | `(tactic| walk_at "slen") => `(tactic| first | omega | decide +kernel | (refine le_app ?_ ?_ <;> walk_at "slen"))
local macro_rules | `(tactic| walk_at "side") => `(tactic| first | with_reducible assumption | with_reducible exact cdiv_of (by omega) (by omega) | with_reducible exact cpow_of (by decide) (by decide) (by decide) | with_reducible exact cmul_l (by omega) (by omega) | with_reducible exact cmul_r (by omega) (by omega) | omega | decide | decide +kernel | (have := line_val; omega) | (simp only [len_app, len_one, line_val]; omega) | (rw [line_val]; walk_at "slen"; done))
local macro_rules | `(tactic| walk_at "go1") => `(tactic| first | walk_at "rd" | ((with_reducible refine And.intro ?_ ?_); (focus (walk_at "side"; done))) | ((with_reducible apply isi_go); (focus (walk_at "isi"; done))) | ((with_reducible apply ixT_of); (focus (walk_at "sq"; done)); (focus rfl)) | ((with_reducible apply ixL_of); (focus (walk_at "sq"; done)); (focus rfl)) | ((with_reducible apply len_goT); (focus (walk_at "sq"; done))) | ((with_reducible apply len_goL); (focus (walk_at "sq"; done))) | ((with_reducible apply script_go); (focus (walk_at "sq"; done)); (focus (assumption; done))) | ((with_reducible apply cell_go); (focus (walk_at "sq"; done)); (focus (decide; done)); (focus (assumption; done))) | (intro (_ : List (Addr × PySem.Obj)) (_ : PySem.Value → PySem.Shared → Prop)) | with_reducible refine seq_go fun _ _ => ?_ | (refine leaf_go (by with_reducible assumption) ?_; subst_vars))
local macro_rules | `(tactic| walk_at "go") => `(tactic| repeat walk_at "go1")
noncomputable def top(i:Nat):Stmt:=PySem.Challenge.pw_castoff_k54_whole_each_thing_once_a_part.main.body.getD i (.Pass ⟨0,0,0,0⟩)
structure Txt(K:W.Frag)(mg:Str→Option Value)(Z6 Z5 Z4 Z0 Z1 Z2 Z3:Addr):Prop where
 Z6x:mg "Stock"=some (.ref Z6)
 Zv:Cls K Z6
 Z7:NoAttr K Z6 "things"
 Z6y:mg "Shelf"=some (.ref Z5)
 Z8:Cls K Z5
 Zw:NoAttr K Z5 "stock"
 Zz:NoAttr K Z5 "places"
 Zb:NoAttr K Z5 "rooms"
 Z5r:mg "Rule"=some (.ref Z4)
 Z26:Cls K Z4
 Z0c:NoAttr K Z4 "stock"
 Z03:NoAttr K Z4 "places"
 Z6m:mg "Ranked"=some (.ref Z0)
 Zn:Cls K Z0
 Z00:NoAttr K Z0 "stock"
 Zt:NoAttr K Z0 "places"
 Zk:NoAttr K Z0 "present"
 Zx:NoAttr K Z0 "last"
 Z6w:mg "Oldest"=some (.ref Z1)
 Zo:Cls K Z1
 Z01:NoAttr K Z1 "stock"
 Zu:NoAttr K Z1 "places"
 Zl:NoAttr K Z1 "present"
 Zy:NoAttr K Z1 "last"
 Z6z:mg "First"=some (.ref Z2)
 Zm:Cls K Z2
 Z04:NoAttr K Z2 "stock"
 Z02:NoAttr K Z2 "places"
 Zg:NoAttr K Z2 "present"
 Z0d:NoAttr K Z2 "last"
 Zs:NoAttr K Z2 "put_at"
 Z70:mg "Hand"=some (.ref Z3)
 Zd:Cls K Z3
 Z0e:NoAttr K Z3 "stock"
 Z05:NoAttr K Z3 "places"
 Z9:NoAttr K Z3 "order"
 Zi:NoAttr K Z3 "marked"
 Zq:mg "len"=none
 Zh:mg "isinstance"=none
 Z44:mg "int"=none
 Z27:mg "bool"=none
 Z4m:mg "str"=none
 Z0t:mg "list"=none
 Z45:mg "tuple"=none
 Z4n:mg "all"=none
 Z0h:mg "range"=none
 Z46:mg "sum"=none
 Z0i:mg "enumerate"=none
 Z4o:mg "zip"=none
 Z5q:mg "max"=none
 Z2r:mg "min"=none
 Z4p:mg "dict"=none
 Z3c:mg "sorted"=none
 Z47:mg "set"=none
 Z12:∃t,mg "LETTERS"=some (.str "abcdefghijklmnopqrstuvwxyz" t)
 Z1f:∃t,mg "FIGURES"=some (.str "0123456789" t)
 Z0o:∃t,mg "MOST_SIGNS"=some (.int 8 t)
 Z0g:∃t,mg "MOST_THINGS"=some (.int 60 t)
 Z0u:∃t,mg "MOST_ROOM"=some (.int 1000 t)
 Z06:∃t,mg "MOST_PLACES"=some (.int 1000000 t)
 Z0v:∃t,mg "MOST_ASKS"=some (.int 200 t)
local macro_rules | `(tactic| walk_at "sc") => `(tactic| exact ⟨rfl, rfl, rfl, by decide +kernel, rfl, by decide +kernel, by decide +kernel⟩)
local macro_rules | `(tactic| walk_at "st") => `(tactic| simp only [st_c, st_n, st_e])
section
variable {P:Program} {w:World} {K:W.Frag} {mg:Str→Option Value} {base:Heap} {Z6 Z5 Z4 Z0 Z1 Z2 Z3:Addr}
noncomputable abbrev Z3r:Stmt:=top 25
noncomputable abbrev Z3s:Stmt:=top 26
noncomputable abbrev Z3d:Stmt:=top 13
noncomputable abbrev Z2s:Stmt:=top 14
noncomputable abbrev Z18:Stmt:=top 17
noncomputable abbrev Z1g:Stmt:=top 27
noncomputable abbrev Z28:Stmt:=inClass (top 28) 0
noncomputable abbrev Z2t:Stmt:=inClass (top 28) 2
noncomputable abbrev Z0w:Stmt:=inClass (top 28) 3
noncomputable abbrev Z13:Stmt:=inClass (top 28) 6
noncomputable abbrev Z29:Stmt:=top 31
noncomputable abbrev Z2a:Stmt:=inClass (top 18) 0
noncomputable abbrev Z1h:Stmt:=inClass (top 18) 1
noncomputable abbrev Z1i:Stmt:=inClass (top 18) 2
noncomputable abbrev Z0s:Stmt:=inClass (top 18) 3
noncomputable abbrev Z2u:Stmt:=inClass (top 18) 4
noncomputable abbrev Z2b:Stmt:=inClass (top 18) 5
noncomputable abbrev Z0j:Stmt:=inClass (top 38) 0
noncomputable abbrev Z07:Stmt:=inClass (top 39) 0
noncomputable abbrev Z1j:Stmt:=inClass (top 39) 0
noncomputable abbrev Z2c:Stmt:=inClass (top 41) 0
noncomputable abbrev Z2v:Stmt:=inClass (top 46) 0
noncomputable abbrev Z2d:Stmt:=inClass (top 38) 2
noncomputable abbrev Z1k:Stmt:=inClass (top 38) 3
noncomputable abbrev Z2w:Stmt:=inClass (top 38) 4
noncomputable abbrev Z2x:Stmt:=inClass (top 38) 5
noncomputable abbrev Z0k:Stmt:=inClass (top 39) 2
noncomputable abbrev Z19:Stmt:=inClass (top 39) 1
noncomputable abbrev Z0x:Stmt:=inClass (top 39) 3
noncomputable abbrev Z08:Stmt:=inClass (top 39) 4
noncomputable abbrev Z14:Stmt:=inClass (top 39) 5
noncomputable abbrev Z1l:Stmt:=inClass (top 38) 4
noncomputable abbrev Z1m:Stmt:=inClass (top 38) 5
noncomputable abbrev Z0l:Stmt:=inClass (top 39) 2
noncomputable abbrev Z1a:Stmt:=inClass (top 39) 1
noncomputable abbrev Z0y:Stmt:=inClass (top 39) 3
noncomputable abbrev Z09:Stmt:=inClass (top 39) 4
noncomputable abbrev Z15:Stmt:=inClass (top 39) 5
noncomputable abbrev Z1n:Stmt:=inClass (top 38) 4
noncomputable abbrev Z1o:Stmt:=inClass (top 38) 5
noncomputable abbrev Z0p:Stmt:=inClass (top 39) 2
noncomputable abbrev Z1p:Stmt:=inClass (top 39) 1
noncomputable abbrev Z0f:Stmt:=inClass (top 41) 2
noncomputable abbrev Z1b:Stmt:=inClass (top 39) 5
noncomputable abbrev Z2e:Stmt:=inClass (top 38) 4
noncomputable abbrev Z2f:Stmt:=inClass (top 41) 1
noncomputable abbrev Z2g:Stmt:=inClass (top 46) 1
noncomputable abbrev Z1q:Stmt:=inClass (top 46) 2
noncomputable abbrev Z2y:Stmt:=inClass (top 46) 3
noncomputable abbrev Z2z:Stmt:=inClass (top 46) 4
noncomputable abbrev Z30:Stmt:=top 42
noncomputable abbrev Z4e:Stmt:=top 43
noncomputable abbrev Z3t:Stmt:=top 44
noncomputable abbrev Z3e:Stmt:=top 35
noncomputable abbrev Z3u:Stmt:=top 32
noncomputable abbrev Z0b:Stmt:=top 33
noncomputable abbrev Z31:Stmt:=top 36
noncomputable abbrev Z4f:Stmt:=top 48
noncomputable abbrev Z3f:Stmt:=top 49
noncomputable abbrev Z3v:Stmt:=top 50
noncomputable abbrev Z3g:Stmt:=top 51
noncomputable abbrev Z4w:Stmt:=top 52
noncomputable abbrev Z4g:Stmt:=top 53
noncomputable abbrev Z1r:Stmt:=top 54
noncomputable abbrev Z3h:Stmt:=top 55
noncomputable abbrev Z3w:Stmt:=top 56
noncomputable abbrev Z25:Stmt:=top 57
theorem Z6b{f:Addr}{fd:FuncData}(F:Fun K "made_of" "made_of" Z3r f fd)(T:Txt K mg Z6 Z5 Z4 Z0 Z1 Z2 Z3):FnOk P w K mg base CX0 1 f fd ["text","signs"] (sp_made):=by
 have sc:FnScope ["text","signs"] ["text","signs"] (defScope Z3r):=by walk_at "sc"
 refine F.ok sc (fun vs H Q E h=>?_) (fun cdv A outer s H vs Q E hr h=>?_)
 · obtain ⟨_,_,rfl,_⟩:=h;rfl
 obtain ⟨z,w,rfl,hz,q⟩:=h
 refine ⟨_,(@pss_one _ _ _ (@ps_ret _ _ _ _ (pe_callB (call_all rfl) rfl T.Z4n (by first | rfl | decide+kernel) (pa_cons (pe_comp1 "sign" [1] rfl rfl (pi_str (pv 0)) (fun b=>(pe_cmpR op_inS (pv 0) (pv 1) (by with_unfolding_all rfl)))) pa_nil)))),?_⟩
 walk_at "st"
 walk_at "go"
 refine compS_pure (fun c=>V.bl (decide (c∈w.cps.toList))) hz (fun b c H' Q' hc sm q'=>?_) fun D hD=>?_
 · walk_at "go"
   exact q'
 · refine ⟨_,rfl,z.cps.toList.map fun c=>decide (c∈w.cps.toList),?_,?_⟩
   · rw [List.map_map];exact SqL.of upd_same
   · rw [List.all_map];exact q _ (Same.new hD)
theorem Z6c{f:Addr}{fd:FuncData}(F:Fun K "is_name" "is_name" Z3s f fd)(T:Txt K mg Z6 Z5 Z4 Z0 Z1 Z2 Z3)(Z3x:Def P w K mg base CX0 1 "made_of" ["text","signs"] (sp_made)):FnOk P w K mg base CX0 2 f fd ["thing"] (sp_is_name K):=by
 have sc:FnScope ["thing"] ["thing"] (defScope Z3s):=by walk_at "sc"
 refine F.ok sc (fun vs H Q E h=>?_) (fun cdv A outer s H vs Q E hr h=>?_)
 · obtain ⟨_,rfl,_⟩:=h;rfl
 obtain ⟨x,rfl,hx⟩:=h
 refine ⟨_,(@pss_cons _ _ _ _ _ (ps_if (pt_not (pt_val (pe_callB call_isinst rfl T.Zh (by first | rfl | decide+kernel) (pa_cons (pv 0) (pa_cons (pe_bltn (v:= .ty "str") rfl T.Z4m (by first | rfl | decide+kernel) rfl) pa_nil)))))
  (@pss_one _ _ _ (@ps_ret _ _ _ _ pe_bl))
  pss_nil)
  (@pss_cons _ _ _ _ _ (ps_if (PW.pt (pw_or (pt_cmpR op_lt (pe_callB call_len_str rfl T.Zq PySem.boot_len (pa_cons (pv 0) pa_nil)) pe_int (nomark _)) (pw_or1 (pt_cmpR op_gt (pe_callB call_len_str rfl T.Zq PySem.boot_len (pa_cons (pv 0) pa_nil)) (pe_gint rfl T.Z0o) (nomark _)))))
   (@pss_one _ _ _ (@ps_ret _ _ _ _ pe_bl))
   pss_nil)
  (@pss_one _ _ _ (@ps_ret _ _ _ _ (pe_and (pe_cmpR op_inS (@pe_ix _ _ _ _ _ _ _ ix_str (pv 0) pe_int (fun _ _=>rfl)) (pe_gstr rfl T.Z12) (by with_unfolding_all rfl)) (pe_one (pe_callD Z3x hr rfl pass0 (pa_cons (pv 0) (pa_cons (pe_op op_add_str (pe_gstr rfl T.Z12) (pe_gstr rfl T.Z1f)) pa_nil))))))))),?_⟩
 walk_at "st"
 rcases hx with ⟨z,rfl,hz,q⟩ | ⟨hi,q⟩
 · walk_at "go"
   have hl:=str_len (z:=z)
   split
   · rename_i h1
     have e:nameB z.cps.toList=false:=by unfold nameB;rw [decide_eq_false (show ¬1≤z.cps.toList.length by omega)];rfl
     rw [e]at q;exact q _ (Same.refl H)
   · rename_i h1
     refine ⟨hz,?_⟩
     split
     · have e:nameB z.cps.toList=false:=by unfold nameB;rw [decide_eq_false (show ¬z.cps.toList.length≤8 by omega),Bool.and_false];rfl
       rw [e]at q;exact q _ (Same.refl H)
     · rename_i h2
       obtain ⟨c,r,hcr⟩:∃c r,z.cps.toList=c::r:=by
        cases h:z.cps.toList with
        | nil=>rw [h]at hl;simp at hl;omega
        | cons c r=>exact ⟨c,r,rfl⟩
       have hn:nameB z.cps.toList=(decide (c∈letters) && z.cps.toList.all fun c=>decide (c∈letters++figures)):=by
        unfold nameB;rw [decide_eq_true (show 1≤z.cps.toList.length by omega),decide_eq_true (show z.cps.toList.length≤8 by omega)];rw [hcr];rfl
       rw [hn]at q
       walk_at "go"
       refine ixS_of hz (by rw [hcr];exact at_0) ?_
       walk_at "go"
       rw [let_list]
       split
       · rename_i hc
         rw [decide_eq_true hc,Bool.true_and]at q
         walk_at "go"
         rw [app_list,let_list,fig_list]
         exact q
       · rename_i hc
         rw [decide_eq_false hc,Bool.false_and]at q
         exact q _ (Same.refl H)
 · walk_at "go"
   refine ⟨_,hi,?_⟩
   walk_at "go"
   exact q
theorem Z66{f:Addr}{fd:FuncData}(F:Fun K "is_whole" "is_whole" Z3d f fd)(T:Txt K mg Z6 Z5 Z4 Z0 Z1 Z2 Z3):FnOk P w K mg base CX0 1 f fd ["thing"] (sp_is_whole K):=by
 have sc:FnScope ["thing"] ["thing"] (defScope Z3d):=by walk_at "sc"
 refine F.ok sc (fun vs H Q E h=>?_) (fun cdv A outer s H vs Q E hr h=>?_)
 · obtain ⟨_,_,_,rfl,_⟩:=h;rfl
 obtain ⟨x,b,c,rfl,h1,h2,q⟩:=h
 refine ⟨_,(@pss_one _ _ _ (@ps_ret _ _ _ _ (pe_and (pe_callB call_isinst rfl T.Zh (by first | rfl | decide+kernel) (pa_cons (pv 0) (pa_cons (pe_bltn (v:= .ty "int") rfl T.Z44 (by first | rfl | decide+kernel) rfl) pa_nil))) (pe_one (pe_not (pe_callB call_isinst rfl T.Zh (by first | rfl | decide+kernel) (pa_cons (pv 0) (pa_cons (pe_bltn (v:= .ty "bool") rfl T.Z27 (by first | rfl | decide+kernel) rfl) pa_nil)))))))),?_⟩
 walk_at "st"
 walk_at "go"
 refine ⟨_,h1,?_⟩
 cases b
 · walk_at "go"
   exact q
 · walk_at "go"
   refine ⟨_,h2 rfl,?_⟩
   walk_at "go"
   exact q
theorem Z5s{f:Addr}{fd:FuncData}(F:Fun K "is_within" "is_within" Z2s f fd)(T:Txt K mg Z6 Z5 Z4 Z0 Z1 Z2 Z3)(Z3i:Def P w K mg base CX0 1 "is_whole" ["thing"] (sp_is_whole K)):FnOk P w K mg base CX0 2 f fd ["thing","least","most"] (sp_within K):=by
 have sc:FnScope ["thing","least","most"] ["thing","least","most"] (defScope Z2s):=by walk_at "sc"
 refine F.ok sc (fun vs H Q E h=>?_) (fun cdv A outer s H vs Q E hr h=>?_)
 · obtain ⟨_,_,_,rfl,_⟩:=h;rfl
 obtain ⟨v,lo,hi,rfl,hv,q⟩:=h
 refine ⟨_,(@pss_one _ _ _ (@ps_ret _ _ _ _ (pe_and (pe_callD Z3i hr rfl pass0 (pa_cons (pv 0) pa_nil)) (pe_one (pe_chain op_le op_le (pv 1) (pv 0) (pv 2)))))),?_⟩
 walk_at "st"
 obtain ⟨b,c,h1,h2,h3,h4⟩:=num_isi (K:=K) (H:=H) hv
 walk_at "go"
 refine ⟨b,h1,c,h2,?_⟩
 split
 · rename_i h
   obtain ⟨i,rfl⟩:=h3 h
   simp only [wIn]at q
   walk_at "go"
   split
   · rename_i h'
     rw [decide_eq_true h',Bool.true_and]at q;exact q
   · rename_i h'
     rw [decide_eq_false h',Bool.false_and]at q;exact q
 · rename_i h
   have e:wIn lo hi v=false:=by
    cases v with
    | int i=>exact absurd rfl (h4 (by simpa using h) i)
    | _=>rfl
   rw [e]at q;exact q
theorem Z4q{f:Addr}{fd:FuncData}(F:Fun K "check_places" "check_places" Z18 f fd)(T:Txt K mg Z6 Z5 Z4 Z0 Z1 Z2 Z3)(Zp:Def P w K mg base CX0 2 "is_within" ["thing","least","most"] (sp_within K)):FnOk P w K mg base CX0 3 f fd ["places"] (sp32_check):=by
 have sc:FnScope ["places"] ["places"] (defScope Z18):=by walk_at "sc"
 refine F.ok sc (fun vs H Q E h=>?_) (fun cdv A outer s H vs Q E hr h=>?_)
 · obtain ⟨_,rfl,_⟩:=h;rfl
 obtain ⟨i,rfl,h1,h2,q⟩:=h
 refine ⟨_,(@pss_one _ _ _ (ps_if (pt_not (pt_val (pe_callD Zp hr rfl pass0 (pa_cons (pv 0) (pa_cons pe_int (pa_cons (pe_gint rfl T.Z06) pa_nil))))))
  (@pss_one _ _ _ ps_never)
  pss_nil)),?_⟩
 walk_at "st"
 walk_at "go"
 rw [if_neg (by rw [wIn_ok h1 h2];decide)]
 exact ⟨rfl,q⟩
theorem Z4x{f:Addr}{fd:FuncData}(F:Fun K "check_thing" "check_thing" Z1g f fd)(T:Txt K mg Z6 Z5 Z4 Z0 Z1 Z2 Z3)(Z3y:Def P w K mg base CX0 2 "is_name" ["thing"] (sp_is_name K))(Zp:Def P w K mg base CX0 2 "is_within" ["thing","least","most"] (sp_within K)):FnOk P w K mg base CX0 3 f fd ["name","cost","room","earlier"] (sp_checkG K):=by
 have sc:FnScope ["name","cost","room","earlier"] ["name","cost","room","earlier"] (defScope Z1g):=by walk_at "sc"
 refine F.ok sc (fun vs H Q E h=>?_) (fun cdv A outer s H vs Q E hr h=>?_)
 · obtain ⟨_,_,_,_,_,_,rfl,_⟩:=h;rfl
 obtain ⟨n,co,r,e,kvs,ks,rfl,he,hk,hrow,q⟩:=h
 refine ⟨_,(@pss_cons _ _ _ _ _ (ps_if (pt_not (pt_val (pe_callD Z3y hr rfl pass0 (pa_cons (pv 0) pa_nil))))
  (@pss_one _ _ _ ps_never)
  pss_nil)
  (@pss_cons _ _ _ _ _ (ps_if (pt_cmp (pc_din (hu_of hr) (pv 0) (pv 3)))
   (@pss_one _ _ _ ps_never)
   pss_nil)
  (@pss_cons _ _ _ _ _ (ps_if (pt_not (pt_val (pe_callD Zp hr rfl pass0 (pa_cons (pv 1) (pa_cons pe_int (pa_cons (pe_op op_pow pe_int pe_int) pa_nil))))))
   (@pss_one _ _ _ ps_never)
   pss_nil)
  (@pss_one _ _ _ (ps_if (pt_not (pt_val (pe_callD Zp hr rfl pass0 (pa_cons (pv 2) (pa_cons pe_int (pa_cons (pe_gint rfl T.Z0u) pa_nil))))))
   (@pss_one _ _ _ ps_never)
   pss_nil))))),?_⟩
 walk_at "st"
 obtain ⟨z,c,w,rfl,rfl,rfl,nz,hb,h1,h2,h3,h4⟩:=rowR_none hrow
 have line:=line_val
 have hz8:=name_len hb
 walk_at "go"
 intro H1 sm1
 rw [hb]
 have he1:=sm1 _ _ he
 walk_at "go"
 refine ⟨_,DGet.k (k:=Sum.inr z) he1,?_⟩
 rw [key_mem hk,decide_eq_false nz]
 walk_at "go"
 refine ⟨rfl,?_⟩
 split
 · rename_i h
   exact absurd h (by rw [wIn_ok h1 h2];decide)
 · walk_at "go"
   refine ⟨rfl,?_⟩
   split
   · rename_i h
     exact absurd h (by rw [wIn_ok h3 h4];decide)
   · walk_at "go"
     exact q _ sm1
theorem Z5f{f:Addr}{fd:FuncData}(F:Fun K "__init__" "Stock.__init__" Z28 f fd)(T:Txt K mg Z6 Z5 Z4 Z0 Z1 Z2 Z3)(Z1s:Def P w K mg base CX0 3 "check_thing" ["name","cost","room","earlier"] (sp_checkG K)):FnOk P w K mg base CX0 4 f fd ["self","rows"] (sp_initG K Z6):=by
 have sc:FnScope ["self","rows","name","cost","room"] ["self","rows"] (defScope Z28):=by walk_at "sc"
 refine F.ok sc (fun vs H Q E h=>?_) (fun cdv A outer s H vs Q E hr h=>?_)
 · obtain ⟨_,_,_,_,rfl,_⟩:=h;rfl
 obtain ⟨p,dx,ra,rs,rfl,hp,hrs,hall,er,q⟩:=h
 refine ⟨_,(@pss_cons _ _ _ _ _ (ps_if (pt_cmpR op_gt (pe_callB call_len_seq rfl T.Zq PySem.boot_len (pa_cons (pv 1) pa_nil)) (pe_gint rfl T.Z0g) (nomark _))
  (@pss_one _ _ _ ps_never)
  pss_nil)
  (@pss_cons _ _ _ _ _ (ps_fld (pv 0) pe_dnewK rfl)
  (@pss_one _ _ _ (ps_for PassesOwn.never rfl (pi_list (pv 1)) (pg_tup rfl (pgs_cons (pg_name (i:=2) sc.nd rfl (Or.inl rfl)) (pgs_cons (pg_name (i:=3) sc.nd rfl (Or.inl rfl)) (pgs_cons (pg_name (i:=4) sc.nd rfl (Or.inl rfl)) pgs_nil))))
   (@pss_cons _ _ _ _ _ (ps_expr (pe_callD Z1s hr rfl pass0 (pa_cons (pv 2) (pa_cons (pv 3) (pa_cons (pv 4) (pa_cons (pe_fld (pv 0) rfl) pa_nil))))))
   (@pss_one _ _ _ (ps_dput (hu_of hr) (pe_fld (pv 0) rfl) (pv 2) (pe_tup (pa_cons (pe_callB call_lenD rfl T.Zq PySem.boot_len (pa_cons (pe_fld (pv 0) rfl) pa_nil)) (pa_cons (pv 3) (pa_cons (pv 4) pa_nil)))) rfl))))))),?_⟩
 walk_at "st"
 have line:=line_val
 obtain ⟨hl60,hstk⟩:=initR_none er
 walk_at "go"
 rw [List.length_map]
 split
 · rename_i h
   exact absurd h (by omega)
 · rename_i h
   walk_at "go"
   intro d hd
   have npd:p≠d:=ne_of_none hp hd
   walk_at "go"
   refine ⟨Z6,dx,[],by rw [upd_ne npd];exact hp,T.Zv,T.Z7,by decide,?_⟩
   have sb0:SameBut p H (upd (upd H d (.dK [])) p (.ins Z6 dx (flds d))):=fun b o e n=>by rw [upd_ne n,upd_ne (ne_of_none e hd)];exact e
   have hp0:upd (upd H d (.dK [])) p (.ins Z6 dx (flds d)) p=some (.ins Z6 dx (flds d)):=upd_same
   have hd0:upd (upd H d (.dK [])) p (.ins Z6 dx (flds d)) d=some (.dK []):=by rw [upd_ne npd.symm,upd_same]
   unfold flds at sb0 hp0 hd0
   generalize upd (upd H d (HO.dK [])) p (HO.ins Z6 dx (putF (Str.ofString "things") (V.ref d) []))=H0 at sb0 hp0 hd0 ⊢
   walk_at "go"
   refine ⟨⟨_,SqL.but sb0 hp hrs⟩,?_⟩
   refine forL_by (xs:=rs.map fun t=>V.ref t.1) (fun i σ H'=>∃v1 v2 v3,σ=[some (V.ref p),some (V.ref ra),v1,v2,v3]∧SameBut p H H'∧H' p=some (.ins Z6 dx (flds d))∧MidAt K H' d (rs.take i)∧stockR (nmsOf (rs.take i)) (rs.drop i)=none) ⟨none,none,none,rfl,sb0,hp0,⟨[],hd0,rfl,fun j t e=>by simp at e⟩,by rw [List.take_zero,List.drop_zero];exact hstk⟩ (fun i σ H' _ h_=>by obtain ⟨v1,v2,v3,_,sb,_⟩:=h_;exact SqL.but sb hp hrs) ?_ ?_
   · rintro i x σ H' hx ⟨v1,v2,v3,rfl,sb,hp',⟨kvs,hd',hk,hm⟩,hst⟩
     rw [List.getElem?_map]at hx
     cases ht:rs[i]? with
     | none=>rw [ht]at hx;cases hx
     | some t=>
      rw [ht]at hx
      simp only [Option.map_some,Option.some.injEq]at hx
      subst hx
      have hi:i < rs.length:=(List.getElem?_eq_some_iff.mp ht).1
      have r1:=SqT.but sb hp (hall t (List.mem_of_getElem? ht))
      rw [stockR_step ht]at hst
      have hkl:kvs.length=i:=by
       have:=congrArg List.length hk
       simp [nmsOf]at this;omega
      cases hrow:rowR (nmsOf (rs.take i)) t.2.1 t.2.2.1 t.2.2.2 with
      | some e=>rw [hrow]at hst;cases hst
      | none=>
       rw [hrow]at hst
       obtain ⟨z,c,q',e1,e2,e3,nz,hb,_⟩:=rowR_none hrow
       walk_at "go"
       refine ⟨_,r1,rfl,?_⟩
       walk_at "go"
       refine ⟨Z6,dx,flds d,hp',T.Zv,T.Z7,_,flds_things,d,rfl,kvs,hd',_,hk,hrow,fun H1 sm1=>?_⟩
       rw [e1,e2,e3]
       have hp1:=sm1 _ _ hp'
       have hd1:=sm1 _ _ hd'
       walk_at "go"
       refine ⟨Z6,dx,flds d,hp1,T.Zv,T.Z7,_,flds_things,?_⟩
       walk_at "go"
       refine ⟨kvs,hd1,by omega,fun t2 ht2=>?_⟩
       have np2:p≠t2:=ne_of_none hp1 ht2
       have nd2:d≠t2:=ne_of_none hd1 ht2
       have hd2:upd H1 t2 (.tup [.int kvs.length,.int c,.int q']) d=some (.dK kvs):=by rw [upd_ne nd2];exact hd1
       refine ⟨Z6,dx,flds d,by rw [upd_ne np2];exact hp1,T.Zv,T.Z7,_,flds_things,d,rfl,_,DPut.k (k:=Sum.inr z) hd2 (by omega),?_,?_,?_,?_⟩
       · intro b o eb nb
         have h1:=sm1 _ _ (sb b o eb nb)
         rw [upd_ne (ne_of_none eb hd),upd_ne (ne_of_none h1 ht2)]
         exact h1
       · rw [upd_ne npd,upd_ne np2];exact hp1
       · rw [List.take_add_one,ht]
         refine MidAt.snoc hd2 hk (fun j t' e=>?_) e1 e2 e3 nz upd_same
         obtain ⟨a,q1,q2⟩:=hm j t' e
         exact ⟨a,q1,(sm1.trans (Same.new ht2)).tup q2⟩
       · rw [List.take_add_one,ht]
         have e:nmsOf (rs.take kvs.length++(some t).toList)=nmsOf (rs.take kvs.length)++[sOf t.2.1]:=by unfold nmsOf;simp
         rw [e];exact hst
   · rintro σ H' ⟨v1,v2,v3,rfl,sb,hp',⟨kvs,hd',hk,hm⟩,hst⟩
     simp only [List.length_map,List.take_length,List.drop_length]at hk hm hst
     show Q V.non H'
     refine q _ sb ⟨dx,d,kvs,hp',hd',?_,fun i t ht=>?_⟩
     · rw [hk];unfold nmsOf;rw [List.map_map,List.map_map];rfl
     · rw [List.getElem?_map]at ht
       cases hr:rs[i]? with
       | none=>rw [hr]at ht;cases ht
       | some t'=>
        rw [hr]at ht
        simp only [Option.map_some,Option.some.injEq]at ht
        subst ht
        exact hm i t' hr
theorem Z5t{f:Addr}{fd:FuncData}(F:Fun K "has" "Stock.has" Z2t f fd)(T:Txt K mg Z6 Z5 Z4 Z0 Z1 Z2 Z3):FnOk P w K mg base CX0 1 f fd ["self","name"] (sp_has K Z6):=by
 have sc:FnScope ["self","name"] ["self","name"] (defScope Z2t):=by walk_at "sc"
 refine F.ok sc (fun vs H Q E h=>?_) (fun cdv A outer s H vs Q E hr h=>?_)
 · obtain ⟨_,_,_,rfl,_⟩:=h;rfl
 obtain ⟨p,ts,z,rfl,hs,q⟩:=h
 refine ⟨_,(@pss_one _ _ _ (@ps_ret _ _ _ _ (pe_cmp (pc_din (hu_of hr) (pv 1) (pe_fld (pv 0) rfl))))),?_⟩
 walk_at "st"
 obtain ⟨dx,d,kvs,h1,h2,h3,h4,h5⟩:=StockAt.has hs
 walk_at "go"
 refine ⟨Z6,dx,flds d,h1,T.Zv,T.Z7,_,flds_things,d,rfl,_,DGet.k (k:=Sum.inr z) h2,?_⟩
 rw [h4]
 exact q
theorem Z4b{f:Addr}{fd:FuncData}(F:Fun K "thing_of" "Stock.thing_of" Z0w f fd)(T:Txt K mg Z6 Z5 Z4 Z0 Z1 Z2 Z3):FnOk P w K mg base CX0 1 f fd ["self","name"] (sp32_thing K Z6):=by
 have sc:FnScope ["self","name"] ["self","name"] (defScope Z0w):=by walk_at "sc"
 refine F.ok sc (fun vs H Q E h=>?_) (fun cdv A outer s H vs Q E hr h=>?_)
 · obtain ⟨_,_,_,rfl,_⟩:=h;rfl
 obtain ⟨p,ts,z,rfl,hs,nd,hz,q⟩:=h
 refine ⟨_,(@pss_cons _ _ _ _ _ (ps_if (pt_cmp (pc_dnotin (hu_of hr) (pv 1) (pe_fld (pv 0) rfl)))
  (@pss_one _ _ _ ps_never)
  pss_nil)
  (@pss_one _ _ _ (@ps_ret _ _ _ _ (pe_dget (hu_of hr) (pe_fld (pv 0) rfl) (pv 1) (fun _ _=>rfl))))),?_⟩
 walk_at "st"
 obtain ⟨dx,d,kvs,h1,h2,h3,h4,h5⟩:=StockAt.has hs
 have line:=line_val
 walk_at "go"
 refine ⟨Z6,dx,flds d,h1,T.Zv,T.Z7,_,flds_things,d,rfl,_,DGet.k (k:=Sum.inr z) h2,?_⟩
 rw [h4,decide_eq_true hz]
 obtain ⟨i,t,ht,rfl⟩:=mem_nth hz
 obtain ⟨a,e1,e2⟩:=h5 nd i t ht
 walk_at "go"
 refine ⟨Z6,dx,flds d,h1,T.Zv,T.Z7,_,flds_things,?_⟩
 walk_at "go"
 refine ⟨V.ref a,by rw [← e1];exact DGet.k (k:=Sum.inr t.1) h2,?_⟩
 exact q i t ht rfl a e2
theorem Z4h{f:Addr}{fd:FuncData}(F:Fun K "room_of" "Stock.room_of" Z13 f fd)(T:Txt K mg Z6 Z5 Z4 Z0 Z1 Z2 Z3)(Z0z:DefM P w K mg base CX0 1 Z6 "thing_of" ["self","name"] (sp32_thing K Z6)):FnOk P w K mg base CX0 2 f fd ["self","name"] (sp32_room K Z6):=by
 have sc:FnScope ["self","name"] ["self","name"] (defScope Z13):=by walk_at "sc"
 refine F.ok sc (fun vs H Q E h=>?_) (fun cdv A outer s H vs Q E hr h=>?_)
 · obtain ⟨_,_,_,rfl,_⟩:=h;rfl
 obtain ⟨p,ts,z,rfl,hs,nd,hz,q⟩:=h
 refine ⟨_,(@pss_one _ _ _ (@ps_ret _ _ _ _ (@pe_ix _ _ _ _ _ _ _ ix_tup (pe_methS Z0z T.Zv hr (passS pass0) (pv 0) (pa_cons (pv 1) pa_nil)) pe_int (fun _ _=>rfl)))),?_⟩
 walk_at "st"
 obtain ⟨dx,d,kvs,h1,h2,h3,h4,h5⟩:=StockAt.has hs
 walk_at "go"
 refine ⟨dx,flds d,h1,by rfl,?_⟩
 walk_at "go"
 refine ⟨ts,hs,nd,hz,fun i t ht e a ha=>?_⟩
 subst e
 refine ixT_of ha rfl ?_
 rw [rm_at nd ht]at q
 exact q
theorem Z5g{f:Addr}{fd:FuncData}(F:Fun K "check_asks" "check_asks" Z29 f fd)(T:Txt K mg Z6 Z5 Z4 Z0 Z1 Z2 Z3)(Ze:Def P w K mg base CX0 3 "check_places" ["places"] (sp32_check))(Z32:DefM P w K mg base CX0 1 Z6 "has" ["self","name"] (sp_has K Z6))(Za:DefM P w K mg base CX0 2 Z6 "room_of" ["self","name"] (sp32_room K Z6)):FnOk P w K mg base CX0 4 f fd ["stock","asks","places"] (N41.sp41_asks K Z6):=by
 have sc:FnScope ["stock","asks","places","number","name"] ["stock","asks","places"] (defScope Z29):=by walk_at "sc"
 refine F.ok sc (fun vs H Q E h=>?_) (fun cdv A outer s H vs Q E hr h=>?_)
 · obtain ⟨_,_,_,_,_,rfl,_⟩:=h;rfl
 obtain ⟨p,a,pl,ts,ys,rfl,hs,nd,hS,hl,hin,hw,h1,h2,q⟩:=h
 refine ⟨_,(@pss_cons _ _ _ _ _ (ps_expr (pe_callD Ze hr rfl pass0 (pa_cons (pv 2) pa_nil)))
  (@pss_cons _ _ _ _ _ (ps_if (pt_cmpR op_gt (pe_callB call_len_seq rfl T.Zq PySem.boot_len (pa_cons (pv 1) pa_nil)) (pe_gint rfl T.Z0v) (nomark _))
   (@pss_one _ _ _ ps_never)
   pss_nil)
  (@pss_cons _ _ _ _ _ (ps_for PassesOwn.never rfl (pi_enum rfl T.Z0i (pa_cons (pv 1) pa_nil)) (pg_tup rfl (pgs_cons (pg_name (i:=3) sc.nd rfl (Or.inl rfl)) (pgs_cons (pg_name (i:=4) sc.nd rfl (Or.inl rfl)) pgs_nil)))
   (@pss_cons _ _ _ _ _ (ps_if (pt_not (pt_val (pe_methS Z32 T.Zv hr (passS pass0) (pv 0) (pa_cons (pv 4) pa_nil))))
    (@pss_one _ _ _ ps_never)
    pss_nil)
   (@pss_one _ _ _ (ps_if (pt_cmpR op_gt (pe_methS Za T.Zv hr (passS pass0) (pv 0) (pa_cons (pv 4) pa_nil)) (pv 2) (nomark _))
    (@pss_one _ _ _ ps_never)
    pss_nil))))
  (@pss_one _ _ _ (@ps_ret _ _ _ _ pe_bl))))),?_⟩
 walk_at "st"
 have line:=line_val
 walk_at "go"
 rw [List.length_map,if_neg (by omega)]
 walk_at "go"
 refine ⟨⟨_,hS⟩,?_⟩
 rename_i rest hrest
 refine forE_by (xs:=ys.map V.str) (fun i σ H'=>∃v3 v4,σ=[some (V.ref p),some (V.ref a),some (V.int pl),v3,v4]∧Same H H') ⟨none,none,rfl,Same.refl _⟩ (fun i σ H' _ ⟨v3,v4,_,sm⟩=>sm.seq hS) ?_ ?_
 · rintro i x σ H' t hx ⟨v3,v4,rfl,sm⟩ ht
   rw [List.getElem?_map]at hx
   cases hy:ys[i]? with
   | none=>rw [hy]at hx;cases hx
   | some y=>
    rw [hy]at hx
    cases hx
    have hyin:=hin y (List.mem_of_getElem? hy)
    walk_at "go"
    refine ⟨_,SqT.of upd_same,rfl,_,_,rfl,_,_,rfl,rfl,?_⟩
    have sm2:=sm.trans (Same.new (o:= .tup [.int i,.str y]) ht)
    generalize upd H' t (.tup [.int i,.str y])=H2 at sm2 ⊢
    have hs2:=StockAt.same sm2 hs
    obtain ⟨dx,d,kvs,g1,g2,_⟩:=StockAt.has hs2
    walk_at "go"
    refine ⟨dx,flds d,g1,by rfl,ts,hs2,?_⟩
    rw [if_neg (fun h=>h hyin)]
    walk_at "go"
    refine ⟨dx,flds d,g1,by rfl,ts,hs2,nd,hyin,?_⟩
    rw [if_neg (by have:=hw y (List.mem_of_getElem? hy);omega)]
    exact sm2
 · rintro σ H' ⟨v3,v4,rfl,sm⟩
   walk_at "go"
   exact q _ sm
theorem Z5h{f:Addr}{fd:FuncData}(F:Fun K "__init__" "Shelf.__init__" Z2a f fd)(T:Txt K mg Z6 Z5 Z4 Z0 Z1 Z2 Z3)(Ze:Def P w K mg base CX0 3 "check_places" ["places"] (sp32_check)):FnOk P w K mg base CX0 4 f fd ["self","stock","places"] (sp_sinit Z5):=by
 have sc:FnScope ["self","stock","places"] ["self","stock","places"] (defScope Z2a):=by walk_at "sc"
 refine F.ok sc (fun vs H Q E h=>?_) (fun cdv A outer s H vs Q E hr h=>?_)
 · obtain ⟨_,_,_,_,rfl,_⟩:=h;rfl
 obtain ⟨s,dx,p,n,rfl,hs,h1,h2,q⟩:=h
 refine ⟨_,(@pss_cons _ _ _ _ _ (ps_expr (pe_callD Ze hr rfl pass0 (pa_cons (pv 2) pa_nil)))
  (@pss_cons _ _ _ _ _ (ps_fld (pv 0) (pv 1) rfl)
  (@pss_cons _ _ _ _ _ (ps_fld (pv 0) (pv 2) rfl)
  (@pss_one _ _ _ (ps_fld (pv 0) pe_dnewK rfl))))),?_⟩
 walk_at "st"
 walk_at "go"
 refine ⟨Z5,dx,[],hs,T.Z8,T.Zw,by decide,?_⟩
 walk_at "go"
 refine ⟨Z5,dx,_,upd_same,T.Z8,T.Zz,by simp [putF],?_⟩
 walk_at "go"
 intro d hd
 have nd:d≠s:=fun e=>by rw [e,upd_same]at hd;cases hd
 have hd0:H d=none:=by rw [upd_ne nd]at hd;exact hd
 refine ⟨Z5,dx,_,by rw [upd_ne nd.symm,upd_same],T.Z8,T.Zb,by have:=length_putF "places" (V.int n) (putF "stock" (V.ref p) []);have:=length_putF "stock" (V.ref p) [];simp at *;omega,?_⟩
 refine q _ d (fun b o e nb=>?_) hd0 ⟨⟨dx,upd_same⟩,by rw [upd_ne nd,upd_same];rfl,List.nodup_nil⟩
 rw [upd_ne nb,upd_ne (ne_of_none e hd0),upd_ne nb]
 exact e
theorem Z4y{f:Addr}{fd:FuncData}(F:Fun K "lying" "Shelf.lying" Z1h f fd)(T:Txt K mg Z6 Z5 Z4 Z0 Z1 Z2 Z3):FnOk P w K mg base CX0 1 f fd ["self"] (sp_lying Z5):=by
 have sc:FnScope ["self"] ["self"] (defScope Z1h):=by walk_at "sc"
 refine F.ok sc (fun vs H Q E h=>?_) (fun cdv A outer s H vs Q E hr h=>?_)
 · obtain ⟨_,_,_,_,_,rfl,_⟩:=h;rfl
 obtain ⟨s,p,d,n,ls,rfl,hs,q⟩:=h
 refine ⟨_,(@pss_one _ _ _ (@ps_ret _ _ _ _ (pe_callTy (call_listD rfl) rfl T.Z0t (by first | rfl | decide+kernel) (pa_cons (pe_fld (pv 0) rfl) pa_nil)))),?_⟩
 walk_at "st"
 obtain ⟨⟨dx,ho⟩,hd,_⟩:=hs
 walk_at "go"
 refine ⟨Z5,dx,_,ho,T.Z8,T.Zb,_,sfl_rooms,?_⟩
 walk_at "go"
 refine ⟨_,hd,fun l hl=>?_⟩
 rw [lyK_names]
 exact q l hl
theorem Z4z{f:Addr}{fd:FuncData}(F:Fun K "holds" "Shelf.holds" Z1i f fd)(T:Txt K mg Z6 Z5 Z4 Z0 Z1 Z2 Z3):FnOk P w K mg base CX0 1 f fd ["self","name"] (sp_holds Z5):=by
 have sc:FnScope ["self","name"] ["self","name"] (defScope Z1i):=by walk_at "sc"
 refine F.ok sc (fun vs H Q E h=>?_) (fun cdv A outer s H vs Q E hr h=>?_)
 · obtain ⟨_,_,_,_,_,_,rfl,_⟩:=h;rfl
 obtain ⟨s,p,d,n,ls,z,rfl,hs,q⟩:=h
 refine ⟨_,(@pss_one _ _ _ (@ps_ret _ _ _ _ (pe_cmp (pc_din (hu_of hr) (pv 1) (pe_fld (pv 0) rfl))))),?_⟩
 walk_at "st"
 obtain ⟨⟨dx,ho⟩,hd,_⟩:=hs
 walk_at "go"
 refine ⟨Z5,dx,_,ho,T.Z8,T.Zb,_,sfl_rooms,d,rfl,_,DGet.k (k:=Sum.inr z) hd,?_⟩
 rw [lyK_mem]
 exact q
theorem Z3z{f:Addr}{fd:FuncData}(F:Fun K "room_left" "Shelf.room_left" Z0s f fd)(T:Txt K mg Z6 Z5 Z4 Z0 Z1 Z2 Z3):FnOk P w K mg base CX0 1 f fd ["self"] (sp_left Z5):=by
 have sc:FnScope ["self"] ["self"] (defScope Z0s):=by walk_at "sc"
 refine F.ok sc (fun vs H Q E h=>?_) (fun cdv A outer s H vs Q E hr h=>?_)
 · obtain ⟨_,_,_,_,_,rfl,_⟩:=h;rfl
 obtain ⟨s,p,d,n,ls,rfl,hs,q⟩:=h
 refine ⟨_,(@pss_one _ _ _ (@ps_ret _ _ _ _ (pe_op op_sub (pe_fld (pv 0) rfl) (pe_callB (call_sumV rfl) rfl T.Z46 (by first | rfl | decide+kernel) (pa_cons (pe_bm0 PySem.F.plainAttrs_dict PySem.F.slot_dict_values PySem.F.type_dict_values mt_values (pe_fld (pv 0) rfl)) pa_nil))))),?_⟩
 walk_at "st"
 obtain ⟨⟨dx,ho⟩,hd,_⟩:=hs
 walk_at "go"
 refine ⟨Z5,dx,_,ho,T.Z8,T.Zz,_,sfl_places,Z5,dx,_,ho,T.Z8,T.Zb,_,sfl_rooms,?_⟩
 refine ⟨.inr (.inr (.inl ⟨rfl,.inl ⟨_,hd⟩⟩)),d,rfl,_,hd,fun v hv=>⟨d,upd_same,_,(Same.new hv) _ _ hd,_,lyK_vals,n,rfl,q _ (Same.new hv)⟩⟩
theorem Z5u{f:Addr}{fd:FuncData}(F:Fun K "put" "Shelf.put" Z2u f fd)(T:Txt K mg Z6 Z5 Z4 Z0 Z1 Z2 Z3)(Za:DefM P w K mg base CX0 2 Z6 "room_of" ["self","name"] (sp32_room K Z6))(Zj:DefM P w K mg base CX0 1 Z5 "holds" ["self","name"] (sp_holds Z5))(Zr:DefM P w K mg base CX0 1 Z5 "room_left" ["self"] (sp_left Z5)):FnOk P w K mg base CX0 4 f fd ["self","name"] (sp_putG K Z6 Z5):=by
 have sc:FnScope ["self","name","room"] ["self","name"] (defScope Z2u):=by walk_at "sc"
 refine F.ok sc (fun vs H Q E h=>?_) (fun cdv A outer s H vs Q E hr h=>?_)
 · obtain ⟨_,_,_,_,_,_,_,_,rfl,_⟩:=h;rfl
 obtain ⟨s,p,d,n,ls,ts,z,r,rfl,hs,hx,nd,hl,hz,hr',hin,hle,q⟩:=h
 refine ⟨_,(@pss_cons _ _ _ _ _ (ps_set (i:=2) sc.nd rfl (Or.inl rfl) (pe_methS Za T.Zv hr (passS pass0) (pe_fld (pv 0) rfl) (pa_cons (pv 1) pa_nil)))
  (@pss_cons _ _ _ _ _ (ps_if (pt_val (pe_methS Zj T.Z8 hr (passS pass0) (pv 0) (pa_cons (pv 1) pa_nil)))
   (@pss_one _ _ _ ps_never)
   pss_nil)
  (@pss_cons _ _ _ _ _ (ps_if (pt_cmpR op_gt (pv 2) (pe_methS0 Zr T.Z8 hr (passS pass0) (pv 0)) (nomark _))
   (@pss_one _ _ _ ps_never)
   pss_nil)
  (@pss_one _ _ _ (ps_dput (hu_of hr) (pe_fld (pv 0) rfl) (pv 1) (pv 2) rfl))))),?_⟩
 walk_at "st"
 have line:=line_val
 have hsA:=hs
 obtain ⟨⟨dx,ho⟩,hd,hnd⟩:=hs
 obtain ⟨dy,e,kvs,h1,h2,h3,h4,h5⟩:=StockAt.has hx.at
 walk_at "go"
 refine ⟨Z5,dx,_,ho,T.Z8,T.Zw,_,sfl_stock,?_⟩
 walk_at "go"
 refine ⟨dy,flds e,h1,by rfl,ts,hx.at,nd,hz,?_⟩
 rw [rm_of nd hz hr']
 walk_at "go"
 refine ⟨dx,_,ho,by rfl,?_⟩
 walk_at "go"
 refine ⟨_,_,_,_,hsA,?_⟩
 rw [if_neg (by simpa using hin)]
 walk_at "go"
 refine ⟨dx,_,ho,by rfl,_,_,_,_,hsA,fun H1 sm1=>?_⟩
 rw [if_neg (by omega)]
 walk_at "go"
 refine ⟨Z5,dx,_,sm1 _ _ ho,T.Z8,T.Zb,_,sfl_rooms,?_⟩
 have hll:(lyK ls).length < sizeLine:=by unfold lyK;rw [List.length_map];omega
 refine ⟨d,rfl,_,DPut.k (k:=Sum.inr z) (sm1 _ _ hd) hll,?_⟩
 refine q _ (fun b o e n=>?_) (hsA.put sm1 hin)
 rw [upd_ne n];exact sm1 _ _ e
theorem Z5i{f:Addr}{fd:FuncData}(F:Fun K "cast" "Shelf.cast" Z2b f fd)(T:Txt K mg Z6 Z5 Z4 Z0 Z1 Z2 Z3)(Zj:DefM P w K mg base CX0 1 Z5 "holds" ["self","name"] (sp_holds Z5)):FnOk P w K mg base CX0 2 f fd ["self","name"] (sp_castG Z5):=by
 have sc:FnScope ["self","name"] ["self","name"] (defScope Z2b):=by walk_at "sc"
 refine F.ok sc (fun vs H Q E h=>?_) (fun cdv A outer s H vs Q E hr h=>?_)
 · obtain ⟨_,_,_,_,_,_,rfl,_⟩:=h;rfl
 obtain ⟨s,p,d,n,ls,z,rfl,hs,hin,q⟩:=h
 refine ⟨_,(@pss_cons _ _ _ _ _ (ps_if (pt_not (pt_val (pe_methS Zj T.Z8 hr (passS pass0) (pv 0) (pa_cons (pv 1) pa_nil))))
  (@pss_one _ _ _ ps_never)
  pss_nil)
  (@pss_one _ _ _ (ps_expr (pe_dpop1 (pe_fld (pv 0) rfl) (pv 1) ⟨rfl,rfl,rfl,rfl⟩)))),?_⟩
 walk_at "st"
 have line:=line_val
 have hsA:=hs
 obtain ⟨⟨dx,ho⟩,hd,hnd⟩:=hs
 walk_at "go"
 refine ⟨dx,_,ho,by rfl,_,_,_,_,hsA,?_⟩
 rw [if_neg (fun h=>h hin)]
 walk_at "go"
 have hv:=lyK_mem (ls:=ls) (z:=z)
 rw [decide_eq_true hin]at hv
 obtain ⟨v,hv⟩:=Option.isSome_iff_exists.mp hv
 refine ⟨Z5,dx,_,ho,T.Z8,T.Zb,_,sfl_rooms,d,rfl,.inl ⟨_,.inl hd⟩,_,hd,Sum.inr z,rfl,v,hv,?_⟩
 exact q _ (fun b o e n=>by rw [upd_ne n];exact e) hsA.cast
theorem Z5v{f:Addr}{fd:FuncData}(F:Fun K "__init__" "Rule.__init__" Z0j f fd)(T:Txt K mg Z6 Z5 Z4 Z0 Z1 Z2 Z3)(Ze:Def P w K mg base CX0 3 "check_places" ["places"] (sp32_check)):FnOk P w K mg base CX0 4 f fd ["self","stock","places"] (sp28_rinit K):=by
 have sc:FnScope ["self","stock","places"] ["self","stock","places"] (defScope Z0j):=by walk_at "sc"
 refine F.ok sc (fun vs H Q E h=>?_) (fun cdv A outer s H vs Q E hr h=>?_)
 · obtain ⟨_,_,_,_,_,rfl,_⟩:=h;rfl
 obtain ⟨X,q',dx,p,n,rfl,hq,hcl,hns,hnp,h1,h2,q⟩:=h
 refine ⟨_,(@pss_cons _ _ _ _ _ (ps_expr (pe_callD Ze hr rfl pass0 (pa_cons (pv 2) pa_nil)))
  (@pss_cons _ _ _ _ _ (ps_fld (pv 0) (pv 1) rfl)
  (@pss_one _ _ _ (ps_fld (pv 0) (pv 2) rfl)))),?_⟩
 walk_at "st"
 walk_at "go"
 refine ⟨X,dx,[],hq,hcl,hns,by decide,?_⟩
 walk_at "go"
 refine ⟨X,dx,_,upd_same,hcl,hnp,by simp [putF],?_⟩
 walk_at "go"
 exact q _ (fun b o e nb=>by rw [upd_ne nb];exact e) upd_same
theorem Z50{f:Addr}{fd:FuncData}(F:Fun K "__init__" "Ranked.__init__" Z07 f fd)(T:Txt K mg Z6 Z5 Z4 Z0 Z1 Z2 Z3)(Zc:DefB P w K mg base CX0 4 "Rule" Z4 ["self","stock","places"] (sp28_rinit K)):FnOk P w K mg base CX0 5 f fd ["self","stock","places"] (sp28_kinit K):=by
 have sc:FnScope ["self","stock","places"] ["self","stock","places"] (defScope Z07):=by walk_at "sc"
 refine F.ok sc (fun vs H Q E h=>?_) (fun cdv A outer s H vs Q E hr h=>?_)
 · obtain ⟨_,_,_,_,_,rfl,_⟩:=h;rfl
 obtain ⟨X,q',dx,p,n,rfl,hq,hcl,⟨hns,hnp⟩,hpr,hla5,h1,h2,q⟩:=h
 refine ⟨_,(@pss_cons _ _ _ _ _ (ps_expr (pe_initC Zc hr (passS pass0) (pe_glob (v:= .ref Z4) rfl T.Z5r rfl) (pa_cons (pv 0) (pa_cons (pv 1) (pa_cons (pv 2) pa_nil)))))
  (@pss_cons _ _ _ _ _ (ps_fld (pv 0) pe_int rfl)
  (@pss_one _ _ _ (ps_fld (pv 0) pe_dnewK rfl)))),?_⟩
 walk_at "st"
 have line:=line_val
 walk_at "go"
 refine ⟨X,dx,hq,hcl,hns,hnp,h1,h2,fun H1 sb1 hq1=>?_⟩
 rename_i rest hrest
 subst hrest
 walk_at "go"
 refine ⟨X,dx,_,hq1,hcl,hpr,by rw [show (rf0 p n).length=2 from rfl];decide,?_⟩
 have sb2:SameBut q' H1 (upd H1 q' (.ins X dx (putF "present" (V.int 0) (rf0 p n)))):=fun b o e nb=>by rw [upd_ne nb];exact e
 have hq2:upd H1 q' (.ins X dx (putF "present" (V.int 0) (rf0 p n))) q'=some (.ins X dx (putF "present" (V.int 0) (rf0 p n))):=upd_same
 generalize upd H1 q' (.ins X dx (putF "present" (V.int 0) (rf0 p n)))=H2 at sb2 hq2 ⊢
 rename_i rest hrest
 subst hrest
 walk_at "go"
 intro la hla
 have n1:la≠q':=fun e=>by rw [e,hq2]at hla;cases hla
 refine ⟨X,dx,_,by rw [upd_ne n1.symm];exact hq2,hcl,hla5,by rw [show (putF "present" (V.int 0) (rf0 p n)).length=3 from rfl];decide,?_⟩
 have sb12:=sb1.trans sb2
 have hla0:H la=none:=by
  cases e2:H la with
  | none=>rfl
  | some o=>rw [sb12 _ _ e2 n1]at hla;cases hla
 walk_at "go"
 exact q _ la (fun b o e nb=>by rw [upd_ne nb,upd_ne (fun e2=>by rw [e2,hla0]at e;cases e)];exact sb12 _ _ e nb) hla0 n1 upd_same (by rw [upd_ne n1,upd_same])
theorem Z51{f:Addr}{fd:FuncData}(F:Fun K "__init__" "Ranked.__init__" Z1j f fd)(T:Txt K mg Z6 Z5 Z4 Z0 Z1 Z2 Z3)(Zc:DefB P w K mg base CX0 4 "Rule" Z4 ["self","stock","places"] (sp28_rinit K)):FnOk P w K mg base CX0 5 f fd ["self","stock","places"] (sp28_kinit K):=by
 have sc:FnScope ["self","stock","places"] ["self","stock","places"] (defScope Z1j):=by walk_at "sc"
 refine F.ok sc (fun vs H Q E h=>?_) (fun cdv A outer s H vs Q E hr h=>?_)
 · obtain ⟨_,_,_,_,_,rfl,_⟩:=h;rfl
 obtain ⟨X,q',dx,p,n,rfl,hq,hcl,⟨hns,hnp⟩,hpr,hla5,h1,h2,q⟩:=h
 refine ⟨_,(@pss_cons _ _ _ _ _ (ps_expr (pe_initC Zc hr (passS pass0) (pe_glob (v:= .ref Z4) rfl T.Z5r rfl) (pa_cons (pv 0) (pa_cons (pv 1) (pa_cons (pv 2) pa_nil)))))
  (@pss_cons _ _ _ _ _ (ps_fld (pv 0) pe_int rfl)
  (@pss_one _ _ _ (ps_fld (pv 0) pe_dnewK rfl)))),?_⟩
 walk_at "st"
 have line:=line_val
 walk_at "go"
 refine ⟨X,dx,hq,hcl,hns,hnp,h1,h2,fun H1 sb1 hq1=>?_⟩
 rename_i rest hrest
 subst hrest
 walk_at "go"
 refine ⟨X,dx,_,hq1,hcl,hpr,by rw [show (rf0 p n).length=2 from rfl];decide,?_⟩
 have sb2:SameBut q' H1 (upd H1 q' (.ins X dx (putF "present" (V.int 0) (rf0 p n)))):=fun b o e nb=>by rw [upd_ne nb];exact e
 have hq2:upd H1 q' (.ins X dx (putF "present" (V.int 0) (rf0 p n))) q'=some (.ins X dx (putF "present" (V.int 0) (rf0 p n))):=upd_same
 generalize upd H1 q' (.ins X dx (putF "present" (V.int 0) (rf0 p n)))=H2 at sb2 hq2 ⊢
 rename_i rest hrest
 subst hrest
 walk_at "go"
 intro la hla
 have n1:la≠q':=fun e=>by rw [e,hq2]at hla;cases hla
 refine ⟨X,dx,_,by rw [upd_ne n1.symm];exact hq2,hcl,hla5,by rw [show (putF "present" (V.int 0) (rf0 p n)).length=3 from rfl];decide,?_⟩
 have sb12:=sb1.trans sb2
 have hla0:H la=none:=by
  cases e2:H la with
  | none=>rfl
  | some o=>rw [sb12 _ _ e2 n1]at hla;cases hla
 walk_at "go"
 exact q _ la (fun b o e nb=>by rw [upd_ne nb,upd_ne (fun e2=>by rw [e2,hla0]at e;cases e)];exact sb12 _ _ e nb) hla0 n1 upd_same (by rw [upd_ne n1,upd_same])
theorem Z5j{f:Addr}{fd:FuncData}(F:Fun K "__init__" "First.__init__" Z2c f fd)(T:Txt K mg Z6 Z5 Z4 Z0 Z1 Z2 Z3)(Z0a:DefB P w K mg base CX0 5 "Ranked" Z0 ["self","stock","places"] (sp28_kinit K)):FnOk P w K mg base CX0 6 f fd ["self","stock","places"] (sp22_init Z2):=by
 have sc:FnScope ["self","stock","places"] ["self","stock","places"] (defScope Z2c):=by walk_at "sc"
 refine F.ok sc (fun vs H Q E h=>?_) (fun cdv A outer s H vs Q E hr h=>?_)
 · obtain ⟨_,_,_,_,rfl,_⟩:=h;rfl
 obtain ⟨q',dx,p,n,rfl,hq,h1,h2,q⟩:=h
 refine ⟨_,(@pss_cons _ _ _ _ _ (ps_expr (pe_initC Z0a hr (passS pass0) (pe_glob (v:= .ref Z0) rfl T.Z6m rfl) (pa_cons (pv 0) (pa_cons (pv 1) (pa_cons (pv 2) pa_nil)))))
  (@pss_one _ _ _ (ps_fld (pv 0) pe_dnewK rfl))),?_⟩
 walk_at "st"
 have line:=line_val
 walk_at "go"
 refine ⟨Z2,dx,hq,T.Zm,T.Z04,T.Z02,T.Zg,T.Z0d,h1,h2,fun H1 la sb1 hla n1 hq1' hl1=>?_⟩
 have hq1:H1 q'=some (.ins Z2 dx (putF "last" (V.ref la) (putF "present" (V.int 0) (rf0 p n)))):=hq1'
 clear hq1'
 rename_i rest hrest
 subst hrest
 walk_at "go"
 intro pa hpa
 have n2:pa≠q':=fun e=>by rw [e,hq1]at hpa;cases hpa
 have n3:la≠pa:=fun e=>by rw [← e,hl1]at hpa;cases hpa
 refine ⟨Z2,dx,_,by rw [upd_ne n2.symm];exact hq1,T.Zm,T.Zs,by rw [show (putF "last" (V.ref la) (putF "present" (V.int 0) (rf0 p n))).length=4 from rfl];decide,?_⟩
 have hpa0:H pa=none:=by
  cases e2:H pa with
  | none=>rfl
  | some o=>rw [sb1 _ _ e2 n2]at hpa;cases hpa
 walk_at "go"
 exact q _ la pa (fun b o e nb=>by rw [upd_ne nb,upd_ne (fun e2=>by rw [e2,hpa0]at e;cases e)];exact sb1 _ _ e nb) hla hpa0 ⟨la,pa,rfl,n3,⟨dx,upd_same⟩,by rw [upd_ne n1,upd_ne n3];exact hl1,by rw [upd_ne n2,upd_same]⟩
theorem Z5w{f:Addr}{fd:FuncData}(F:Fun K "__init__" "Hand.__init__" Z2v f fd)(T:Txt K mg Z6 Z5 Z4 Z0 Z1 Z2 Z3)(Zc:DefB P w K mg base CX0 4 "Rule" Z4 ["self","stock","places"] (sp28_rinit K)):FnOk P w K mg base CX0 6 f fd ["self","stock","places"] (sp28_hinit Z3):=by
 have sc:FnScope ["self","stock","places"] ["self","stock","places"] (defScope Z2v):=by walk_at "sc"
 refine F.ok sc (fun vs H Q E h=>?_) (fun cdv A outer s H vs Q E hr h=>?_)
 · obtain ⟨_,_,_,_,rfl,_⟩:=h;rfl
 obtain ⟨q',dx,p,n,rfl,hq,h1,h2,q⟩:=h
 refine ⟨_,(@pss_cons _ _ _ _ _ (ps_expr (pe_initC Zc hr (passS pass0) (pe_glob (v:= .ref Z4) rfl T.Z5r rfl) (pa_cons (pv 0) (pa_cons (pv 1) (pa_cons (pv 2) pa_nil)))))
  (@pss_cons _ _ _ _ _ (ps_fld (pv 0) (@pe_lst _ _ _ _ pa_nil) rfl)
  (@pss_one _ _ _ (ps_fld (pv 0) pe_dnewK rfl)))),?_⟩
 walk_at "st"
 have line:=line_val
 walk_at "go"
 refine ⟨Z3,dx,hq,T.Zd,T.Z0e,T.Z05,h1,h2,fun H1 sb1 hq1'=>?_⟩
 have hq1:H1 q'=some (.ins Z3 dx (putF "places" (V.int n) (putF "stock" (V.ref p) []))):=hq1'
 clear hq1'
 have back:∀b,b≠q'→H1 b=none→H b=none:=fun b nb e=>by
  cases e2:H b with
  | none=>rfl
  | some o=>rw [sb1 _ _ e2 nb]at e;cases e
 rename_i rest hrest
 subst hrest
 walk_at "go"
 intro od hod
 have n1:od≠q':=fun e=>by rw [e,hq1]at hod;cases hod
 have fl1:(putF "places" (V.int n) (putF "stock" (V.ref p) [])).length≤2:=by
  have e1:=length_putF "places" (V.int n) (putF "stock" (V.ref p) [])
  have e2:=length_putF "stock" (V.ref p) []
  simp at *;omega
 refine ⟨Z3,dx,_,by rw [upd_ne n1.symm];exact hq1,T.Zd,T.Z9,by omega,?_⟩
 rename_i rest hrest
 subst hrest
 walk_at "go"
 intro md hmd
 have n2:md≠q':=fun e=>by rw [e,upd_same]at hmd;cases hmd
 have n3:md≠od:=fun e=>by rw [upd_ne n2,e,upd_same]at hmd;cases hmd
 have hmd1:H1 md=none:=by rw [upd_ne n2,upd_ne n3]at hmd;exact hmd
 have fl2:(putF "order" (V.ref od) (putF "places" (V.int n) (putF "stock" (V.ref p) []))).length≤3:=by
  have e1:=length_putF "order" (V.ref od) (putF "places" (V.int n) (putF "stock" (V.ref p) []))
  omega
 refine ⟨Z3,dx,_,by rw [upd_ne n2.symm,upd_same],T.Zd,T.Zi,by omega,?_⟩
 walk_at "go"
 refine q _ od md (fun b o e nb=>?_) (back od n1 hod) (back md n2 hmd1) ⟨od,md,rfl,⟨dx,upd_same⟩,?_,?_⟩
 · have e1:=sb1 _ _ e nb
   rw [upd_ne nb,upd_ne (ne_of_none e1 hmd1),upd_ne nb,upd_ne (ne_of_none e1 hod)]
   exact e1
 · rw [upd_ne n1,upd_ne n3.symm,upd_ne n1,upd_same];rfl
 · rw [upd_ne n2,upd_same];rfl
theorem Z5k{f:Addr}{fd:FuncData}(F:Fun K "asked" "Rule.asked" Z2d f fd)(T:Txt K mg Z6 Z5 Z4 Z0 Z1 Z2 Z3):FnOk P w K mg base CX0 3 f fd ["self","name"] (spR_asked (T0 Z4)):=by
 have sc:FnScope ["self","name"] ["self","name"] (defScope Z2d):=by walk_at "sc"
 refine F.ok sc (fun vs H Q E h=>?_) (fun cdv A outer s H vs Q E hr h=>?_)
 · obtain ⟨_,_,_,_,_,_,_,_,rfl,_⟩:=h;rfl
 obtain ⟨q',p,n,M,s,l,ns,z,rfl,hh,hi,hz,hns,q⟩:=h
 refine ⟨_,(@pss_one _ _ _ ps_pass),?_⟩
 walk_at "st"
 walk_at "go"
 exact q _ (Kp.of (Same.refl _)) hh
theorem Z52{f:Addr}{fd:FuncData}(F:Fun K "choice" "Rule.choice" Z1k f fd)(T:Txt K mg Z6 Z5 Z4 Z0 Z1 Z2 Z3):FnOk P w K mg base CX0 4 f fd ["self","lying"] (spR_choice (T0 Z4) K):=by
 have sc:FnScope ["self","lying"] ["self","lying"] (defScope Z1k):=by walk_at "sc"
 refine F.ok sc (fun vs H Q E h=>?_) (fun cdv A outer s H vs Q E hr h=>?_)
 · obtain ⟨_,_,_,_,_,_,_,_,_,rfl,_⟩:=h;rfl
 obtain ⟨q',p,a,n,M,s,l,ns,z,rfl,hh,hm,hl,ha,ham,hns,hll,hcn,q⟩:=h
 refine ⟨_,(@pss_one _ _ _ (@ps_ret _ _ _ _ (@pe_ix _ _ _ _ _ _ _ ix_list (pv 1) pe_int (fun _ _=>rfl)))),?_⟩
 walk_at "st"
 have q2:=q _ (Kp.of (Same.refl _)) hh
 clear q
 cases l with
 | nil=>exact absurd rfl hl
 | cons x r=>
 walk_at "go"
 exact ixL_of (SqL.of ha) (v:=V.str x) (atI_nat (j:=0) rfl) q2
theorem Z5x{f:Addr}{fd:FuncData}(F:Fun K "gone" "Rule.gone" Z2w f fd)(T:Txt K mg Z6 Z5 Z4 Z0 Z1 Z2 Z3):FnOk P w K mg base CX0 3 f fd ["self","name"] (spR_gone (T0 Z4)):=by
 have sc:FnScope ["self","name"] ["self","name"] (defScope Z2w):=by walk_at "sc"
 refine F.ok sc (fun vs H Q E h=>?_) (fun cdv A outer s H vs Q E hr h=>?_)
 · obtain ⟨_,_,_,_,_,_,_,_,rfl,_⟩:=h;rfl
 obtain ⟨q',p,n,M,s,l,ns,z,rfl,hh,hm,hl,hns,q⟩:=h
 refine ⟨_,(@pss_one _ _ _ ps_pass),?_⟩
 walk_at "st"
 walk_at "go"
 exact q _ (Kp.of (Same.refl _)) hh
theorem Z5y{f:Addr}{fd:FuncData}(F:Fun K "came" "Rule.came" Z2x f fd)(T:Txt K mg Z6 Z5 Z4 Z0 Z1 Z2 Z3):FnOk P w K mg base CX0 1 f fd ["self","name"] (spR_came (T0 Z4)):=by
 have sc:FnScope ["self","name"] ["self","name"] (defScope Z2x):=by walk_at "sc"
 refine F.ok sc (fun vs H Q E h=>?_) (fun cdv A outer s H vs Q E hr h=>?_)
 · obtain ⟨_,_,_,_,_,_,_,_,rfl,_⟩:=h;rfl
 obtain ⟨q',p,n,M,s,l,ns,z,rfl,hh,hm,hz,hzl,hns,q⟩:=h
 refine ⟨_,(@pss_one _ _ _ ps_pass),?_⟩
 walk_at "st"
 walk_at "go"
 exact q _ (Kp.of (Same.refl _)) hh
theorem Z3j{f:Addr}{fd:FuncData}(F:Fun K "number_ask" "Ranked.number_ask" Z0k f fd)(T:Txt K mg Z6 Z5 Z4 Z0 Z1 Z2 Z3):FnOk P w K mg base CX0 1 f fd ["self","name"] (sp21_number Z0):=by
 have sc:FnScope ["self","name"] ["self","name"] (defScope Z0k):=by walk_at "sc"
 refine F.ok sc (fun vs H Q E h=>?_) (fun cdv A outer s H vs Q E hr h=>?_)
 · obtain ⟨_,_,_,_,_,_,rfl,_⟩:=h;rfl
 obtain ⟨q',p,n,M,s,z,rfl,hh,hl,q⟩:=h
 refine ⟨_,(@pss_cons _ _ _ _ _ (ps_fldaug (pv 0) pe_int in_add)
  (@pss_one _ _ _ (ps_dput (hu_of hr) (pe_fld (pv 0) rfl) (pv 1) (pe_fld (pv 0) rfl) rfl))),?_⟩
 walk_at "st"
 have line:=line_val
 obtain ⟨la,hM,⟨dx,ho⟩,hla⟩:=hh
 have hM2:M=[q',la]∧True:=⟨hM,trivial⟩
 clear hM
 have nq1:q'≠la:=fun e=>by rw [e,hla]at ho;cases ho
 walk_at "go"
 refine ⟨Z0,dx,_,ho,T.Zn,T.Zk,_,rf2_present,s.k,rfl,dx,_,ho,by rw [rf2_len];decide,?_⟩
 have ho1:upd H q' (.ins Z0 dx (rf2 p n (s.k+1) la)) q'=some (.ins Z0 dx (rf2 p n (s.k+1) la)):=upd_same
 have hla1:upd H q' (.ins Z0 dx (rf2 p n (s.k+1) la)) la=some (.dK s.la):=by rw [upd_ne nq1.symm];exact hla
 have kp1:Kp M H (upd H q' (.ins Z0 dx (rf2 p n (s.k+1) la))):=(Kp.of (Same.refl H)).upd (by rw [hM2.1];simp)
 rename_i rest hrest
 show rest _ (upd H q' (.ins Z0 dx (rf2 p n (s.k+1) la)))
 generalize upd H q' (.ins Z0 dx (rf2 p n (s.k+1) la))=H1 at ho1 hla1 kp1 ⊢
 have hlp:=length_putK s.la (Sum.inr z:Key) (V.int (s.k+1))
 subst hrest
 walk_at "go"
 exact ⟨Z0,dx,_,ho1,T.Zn,T.Zk,_,rf2_present,Z0,dx,_,ho1,T.Zn,T.Zx,_,rf2_last,la,rfl,_,DPut.k (k:=Sum.inr z) hla1 (by omega),q _ (kp1.upd (by rw [hM2.1];simp)) ⟨la,hM2.1,⟨dx,by rw [upd_ne nq1];exact ho1⟩,upd_same⟩⟩
theorem Z4r{f:Addr}{fd:FuncData}(F:Fun K "asked" "Ranked.asked" Z19 f fd)(T:Txt K mg Z6 Z5 Z4 Z0 Z1 Z2 Z3)(Z0m:DefM P w K mg base CX0 1 Z0 "number_ask" ["self","name"] (sp21_number Z0)):FnOk P w K mg base CX0 3 f fd ["self","name"] (spR_asked (T2 Z0)):=by
 have sc:FnScope ["self","name"] ["self","name"] (defScope Z19):=by walk_at "sc"
 refine F.ok sc (fun vs H Q E h=>?_) (fun cdv A outer s H vs Q E hr h=>?_)
 · obtain ⟨_,_,_,_,_,_,_,_,rfl,_⟩:=h;rfl
 obtain ⟨q',p,n,M,s,l,ns,z,rfl,hh,hi,hz,hns,q⟩:=h
 refine ⟨_,(@pss_one _ _ _ (ps_expr (pe_methS Z0m T.Zn hr (passS pass0) (pv 0) (pa_cons (pv 1) pa_nil)))),?_⟩
 walk_at "st"
 have line:=line_val
 have hh':OAt Z0 H M q' p n s:=hh
 obtain ⟨la,hM,⟨dx,ho⟩,hla⟩:=id hh'
 have hlen:=hi.a.len
 walk_at "go"
 exact ⟨dx,_,ho,by rfl,p,n,M,s,hh',by omega,fun H1 kp1 h1=>q H1 kp1 h1⟩
theorem Z4c{f:Addr}{fd:FuncData}(F:Fun K "last_of" "Ranked.last_of" Z0x f fd)(T:Txt K mg Z6 Z5 Z4 Z0 Z1 Z2 Z3):FnOk P w K mg base CX0 1 f fd ["self","name"] (sp21_last Z0):=by
 have sc:FnScope ["self","name"] ["self","name"] (defScope Z0x):=by walk_at "sc"
 refine F.ok sc (fun vs H Q E h=>?_) (fun cdv A outer s H vs Q E hr h=>?_)
 · obtain ⟨_,_,_,_,_,_,_,rfl,_⟩:=h;rfl
 obtain ⟨q',p,n,M,s,z,i,rfl,hh,hv,q⟩:=h
 refine ⟨_,(@pss_one _ _ _ (@ps_ret _ _ _ _ (pe_dget2 (hu_of hr) (pe_fld (pv 0) rfl) (pv 1) pe_int ⟨rfl,rfl,rfl,rfl⟩))),?_⟩
 walk_at "st"
 have line:=line_val
 obtain ⟨la,hM,⟨dx,ho⟩,hla⟩:=hh
 clear hM
 walk_at "go"
 exact ⟨Z0,dx,_,ho,T.Zn,T.Zx,_,rf2_last,la,rfl,.inl ⟨_,.inl hla⟩,some (.int i),by rw [← hv];exact DGet.k (k:=Sum.inr z) hla,q⟩
theorem Z53{f:Addr}{fd:FuncData}(F:Fun K "rank" "Ranked.rank" Z08 f fd)(T:Txt K mg Z6 Z5 Z4 Z0 Z1 Z2 Z3)(Z10:DefM P w K mg base CX0 1 Z0 "last_of" ["self","name"] (sp21_last Z0)):FnOk P w K mg base CX0 2 f fd ["self","name"] (sp21_rank Z0):=by
 have sc:FnScope ["self","name"] ["self","name"] (defScope Z08):=by walk_at "sc"
 refine F.ok sc (fun vs H Q E h=>?_) (fun cdv A outer s H vs Q E hr h=>?_)
 · obtain ⟨_,_,_,_,_,_,_,rfl,_⟩:=h;rfl
 obtain ⟨q',p,n,M,s,z,i,rfl,hh,hv,q⟩:=h
 refine ⟨_,(@pss_one _ _ _ (@ps_ret _ _ _ _ (pe_tup (pa_cons (pe_methS Z10 T.Zn hr (passS pass0) (pv 0) (pa_cons (pv 1) pa_nil)) pa_nil)))),?_⟩
 walk_at "st"
 have line:=line_val
 obtain ⟨la,hM,⟨dx,ho⟩,hla⟩:=id hh
 clear hM
 walk_at "go"
 exact ⟨dx,_,ho,by rfl,p,n,M,s,hh,i,hv,by omega,fun t ht=>q t ht⟩
theorem Z4i{f:Addr}{fd:FuncData}(F:Fun K "choice" "Ranked.choice" Z14 f fd)(T:Txt K mg Z6 Z5 Z4 Z0 Z1 Z2 Z3)(Z1t:DefV P w K mg base 2 Z0 "rank" ["self","name"] (sp21_rank Z0)):FnOk P w K mg base CX0 4 f fd ["self","lying"] (spR_choice (T2 Z0) K):=by
 have sc:FnScope ["self","lying"] ["self","lying"] (defScope Z14):=by walk_at "sc"
 refine F.ok sc (fun vs H Q E h=>?_) (fun cdv A outer s H vs Q E hr h=>?_)
 · obtain ⟨_,_,_,_,_,_,_,_,_,rfl,_⟩:=h;rfl
 obtain ⟨q',p,a,n,M,s,l,ns,z,rfl,hh,hm,hl,ha,ham,hns,hll,hcn,q⟩:=h
 refine ⟨_,(@pss_one _ _ _ (@ps_ret _ _ _ _ (pe_minK Z1t T.Zn hr rfl T.Z2r (by first | rfl | decide+kernel) (pa_cons (pv 1) pa_nil) (pv 0) rfl))),?_⟩
 walk_at "st"
 have line:=line_val
 have hh':OAt Z0 H M q' p n s:=hh
 obtain ⟨la,hM,⟨dx,ho⟩,hla⟩:=id hh'
 clear hM
 have hm':LM ns z s l:=hm
 have q2:∀H',Kp M H H'→OAt Z0 H' M q' p n s→Q (.str (lmin (lv s) l)) H':=q
 clear q hm
 walk_at "go"
 refine ⟨dx,_,ho,by rfl,l.map V.str,SqL.of ha,by simpa using hl,fun i=>[lv s (l.getD i Str.empty)],fun i v hv H1 sm1=>?_,fun v H1 sm1 hv=>?_⟩
 · rw [List.getElem?_map]at hv
   cases hz:l[i]? with
   | none=>rw [hz]at hv;cases hv
   | some u=>
   rw [hz]at hv
   cases hv
   obtain ⟨j,hj,_⟩:=hm'.i.v u (List.mem_of_getElem? hz)
   refine ⟨p,n,M,s,u,rfl,(T2 Z0).dep (fun m _ o=>sm1 m o) hh',j,hj,fun t ht=>⟨Same.new ht,?_⟩⟩
   rw [upd_same]
   show _=some (HO.tup [V.int (lv s (l.getD i Str.empty))])
   rw [List.getD_eq_getElem?_getD,hz]
   show _=some (HO.tup [V.int (lv s u)])
   rw [lv_at hj]
 · rw [bt_one,List.length_map,List.getElem?_map]at hv
   have hb:=best_lt (fun i=>lv s (l.getD i Str.empty)) (l.length - 1)
   have hl0:0 < l.length:=List.length_pos_iff.mpr hl
   have hlt:argBest (fun i j=>decide (lv s (l.getD i Str.empty) < lv s (l.getD j Str.empty))) (l.length - 1) < l.length:=by omega
   have e:v=V.str (lmin (lv s) l):=by
    unfold lmin
    rw [List.getD_eq_getElem?_getD,List.getElem?_eq_getElem hlt]
    rw [List.getElem?_eq_getElem hlt]at hv
    exact (Option.some.inj hv).symm
   rw [e]
   exact q2 _ (Kp.of sm1) ((T2 Z0).dep (fun m _ o=>sm1 m o) hh')
theorem Z54{f:Addr}{fd:FuncData}(F:Fun K "gone" "Rule.gone" Z1l f fd)(T:Txt K mg Z6 Z5 Z4 Z0 Z1 Z2 Z3):FnOk P w K mg base CX0 3 f fd ["self","name"] (spR_gone (T2 Z0)):=by
 have sc:FnScope ["self","name"] ["self","name"] (defScope Z1l):=by walk_at "sc"
 refine F.ok sc (fun vs H Q E h=>?_) (fun cdv A outer s H vs Q E hr h=>?_)
 · obtain ⟨_,_,_,_,_,_,_,_,rfl,_⟩:=h;rfl
 obtain ⟨q',p,n,M,s,l,ns,z,rfl,hh,hm,hl,hns,q⟩:=h
 refine ⟨_,(@pss_one _ _ _ ps_pass),?_⟩
 walk_at "st"
 walk_at "go"
 exact q _ (Kp.of (Same.refl _)) hh
theorem Z55{f:Addr}{fd:FuncData}(F:Fun K "came" "Rule.came" Z1m f fd)(T:Txt K mg Z6 Z5 Z4 Z0 Z1 Z2 Z3):FnOk P w K mg base CX0 1 f fd ["self","name"] (spR_came (T2 Z0)):=by
 have sc:FnScope ["self","name"] ["self","name"] (defScope Z1m):=by walk_at "sc"
 refine F.ok sc (fun vs H Q E h=>?_) (fun cdv A outer s H vs Q E hr h=>?_)
 · obtain ⟨_,_,_,_,_,_,_,_,rfl,_⟩:=h;rfl
 obtain ⟨q',p,n,M,s,l,ns,z,rfl,hh,hm,hz,hzl,hns,q⟩:=h
 refine ⟨_,(@pss_one _ _ _ ps_pass),?_⟩
 walk_at "st"
 walk_at "go"
 exact q _ (Kp.of (Same.refl _)) hh
theorem Z3k{f:Addr}{fd:FuncData}(F:Fun K "number_ask" "Ranked.number_ask" Z0l f fd)(T:Txt K mg Z6 Z5 Z4 Z0 Z1 Z2 Z3):FnOk P w K mg base CX0 1 f fd ["self","name"] (sp21_number Z1):=by
 have sc:FnScope ["self","name"] ["self","name"] (defScope Z0l):=by walk_at "sc"
 refine F.ok sc (fun vs H Q E h=>?_) (fun cdv A outer s H vs Q E hr h=>?_)
 · obtain ⟨_,_,_,_,_,_,rfl,_⟩:=h;rfl
 obtain ⟨q',p,n,M,s,z,rfl,hh,hl,q⟩:=h
 refine ⟨_,(@pss_cons _ _ _ _ _ (ps_fldaug (pv 0) pe_int in_add)
  (@pss_one _ _ _ (ps_dput (hu_of hr) (pe_fld (pv 0) rfl) (pv 1) (pe_fld (pv 0) rfl) rfl))),?_⟩
 walk_at "st"
 have line:=line_val
 obtain ⟨la,hM,⟨dx,ho⟩,hla⟩:=hh
 have hM2:M=[q',la]∧True:=⟨hM,trivial⟩
 clear hM
 have nq1:q'≠la:=fun e=>by rw [e,hla]at ho;cases ho
 walk_at "go"
 refine ⟨Z1,dx,_,ho,T.Zo,T.Zl,_,rf2_present,s.k,rfl,dx,_,ho,by rw [rf2_len];decide,?_⟩
 have ho1:upd H q' (.ins Z1 dx (rf2 p n (s.k+1) la)) q'=some (.ins Z1 dx (rf2 p n (s.k+1) la)):=upd_same
 have hla1:upd H q' (.ins Z1 dx (rf2 p n (s.k+1) la)) la=some (.dK s.la):=by rw [upd_ne nq1.symm];exact hla
 have kp1:Kp M H (upd H q' (.ins Z1 dx (rf2 p n (s.k+1) la))):=(Kp.of (Same.refl H)).upd (by rw [hM2.1];simp)
 rename_i rest hrest
 show rest _ (upd H q' (.ins Z1 dx (rf2 p n (s.k+1) la)))
 generalize upd H q' (.ins Z1 dx (rf2 p n (s.k+1) la))=H1 at ho1 hla1 kp1 ⊢
 have hlp:=length_putK s.la (Sum.inr z:Key) (V.int (s.k+1))
 subst hrest
 walk_at "go"
 exact ⟨Z1,dx,_,ho1,T.Zo,T.Zl,_,rf2_present,Z1,dx,_,ho1,T.Zo,T.Zy,_,rf2_last,la,rfl,_,DPut.k (k:=Sum.inr z) hla1 (by omega),q _ (kp1.upd (by rw [hM2.1];simp)) ⟨la,hM2.1,⟨dx,by rw [upd_ne nq1];exact ho1⟩,upd_same⟩⟩
theorem Z4s{f:Addr}{fd:FuncData}(F:Fun K "asked" "Ranked.asked" Z1a f fd)(T:Txt K mg Z6 Z5 Z4 Z0 Z1 Z2 Z3)(Z0n:DefM P w K mg base CX0 1 Z1 "number_ask" ["self","name"] (sp21_number Z1)):FnOk P w K mg base CX0 3 f fd ["self","name"] (spR_asked (T2 Z1)):=by
 have sc:FnScope ["self","name"] ["self","name"] (defScope Z1a):=by walk_at "sc"
 refine F.ok sc (fun vs H Q E h=>?_) (fun cdv A outer s H vs Q E hr h=>?_)
 · obtain ⟨_,_,_,_,_,_,_,_,rfl,_⟩:=h;rfl
 obtain ⟨q',p,n,M,s,l,ns,z,rfl,hh,hi,hz,hns,q⟩:=h
 refine ⟨_,(@pss_one _ _ _ (ps_expr (pe_methS Z0n T.Zo hr (passS pass0) (pv 0) (pa_cons (pv 1) pa_nil)))),?_⟩
 walk_at "st"
 have line:=line_val
 have hh':OAt Z1 H M q' p n s:=hh
 obtain ⟨la,hM,⟨dx,ho⟩,hla⟩:=id hh'
 have hlen:=hi.a.len
 walk_at "go"
 exact ⟨dx,_,ho,by rfl,p,n,M,s,hh',by omega,fun H1 kp1 h1=>q H1 kp1 h1⟩
theorem Z4d{f:Addr}{fd:FuncData}(F:Fun K "last_of" "Ranked.last_of" Z0y f fd)(T:Txt K mg Z6 Z5 Z4 Z0 Z1 Z2 Z3):FnOk P w K mg base CX0 1 f fd ["self","name"] (sp21_last Z1):=by
 have sc:FnScope ["self","name"] ["self","name"] (defScope Z0y):=by walk_at "sc"
 refine F.ok sc (fun vs H Q E h=>?_) (fun cdv A outer s H vs Q E hr h=>?_)
 · obtain ⟨_,_,_,_,_,_,_,rfl,_⟩:=h;rfl
 obtain ⟨q',p,n,M,s,z,i,rfl,hh,hv,q⟩:=h
 refine ⟨_,(@pss_one _ _ _ (@ps_ret _ _ _ _ (pe_dget2 (hu_of hr) (pe_fld (pv 0) rfl) (pv 1) pe_int ⟨rfl,rfl,rfl,rfl⟩))),?_⟩
 walk_at "st"
 have line:=line_val
 obtain ⟨la,hM,⟨dx,ho⟩,hla⟩:=hh
 clear hM
 walk_at "go"
 exact ⟨Z1,dx,_,ho,T.Zo,T.Zy,_,rf2_last,la,rfl,.inl ⟨_,.inl hla⟩,some (.int i),by rw [← hv];exact DGet.k (k:=Sum.inr z) hla,q⟩
theorem Z56{f:Addr}{fd:FuncData}(F:Fun K "rank" "Ranked.rank" Z09 f fd)(T:Txt K mg Z6 Z5 Z4 Z0 Z1 Z2 Z3)(Z11:DefM P w K mg base CX0 1 Z1 "last_of" ["self","name"] (sp21_last Z1)):FnOk P w K mg base CX0 2 f fd ["self","name"] (sp21_rank Z1):=by
 have sc:FnScope ["self","name"] ["self","name"] (defScope Z09):=by walk_at "sc"
 refine F.ok sc (fun vs H Q E h=>?_) (fun cdv A outer s H vs Q E hr h=>?_)
 · obtain ⟨_,_,_,_,_,_,_,rfl,_⟩:=h;rfl
 obtain ⟨q',p,n,M,s,z,i,rfl,hh,hv,q⟩:=h
 refine ⟨_,(@pss_one _ _ _ (@ps_ret _ _ _ _ (pe_tup (pa_cons (pe_methS Z11 T.Zo hr (passS pass0) (pv 0) (pa_cons (pv 1) pa_nil)) pa_nil)))),?_⟩
 walk_at "st"
 have line:=line_val
 obtain ⟨la,hM,⟨dx,ho⟩,hla⟩:=id hh
 clear hM
 walk_at "go"
 exact ⟨dx,_,ho,by rfl,p,n,M,s,hh,i,hv,by omega,fun t ht=>q t ht⟩
theorem Z4j{f:Addr}{fd:FuncData}(F:Fun K "choice" "Ranked.choice" Z15 f fd)(T:Txt K mg Z6 Z5 Z4 Z0 Z1 Z2 Z3)(Z1u:DefV P w K mg base 2 Z1 "rank" ["self","name"] (sp21_rank Z1)):FnOk P w K mg base CX0 4 f fd ["self","lying"] (spR_choice (T2 Z1) K):=by
 have sc:FnScope ["self","lying"] ["self","lying"] (defScope Z15):=by walk_at "sc"
 refine F.ok sc (fun vs H Q E h=>?_) (fun cdv A outer s H vs Q E hr h=>?_)
 · obtain ⟨_,_,_,_,_,_,_,_,_,rfl,_⟩:=h;rfl
 obtain ⟨q',p,a,n,M,s,l,ns,z,rfl,hh,hm,hl,ha,ham,hns,hll,hcn,q⟩:=h
 refine ⟨_,(@pss_one _ _ _ (@ps_ret _ _ _ _ (pe_minK Z1u T.Zo hr rfl T.Z2r (by first | rfl | decide+kernel) (pa_cons (pv 1) pa_nil) (pv 0) rfl))),?_⟩
 walk_at "st"
 have line:=line_val
 have hh':OAt Z1 H M q' p n s:=hh
 obtain ⟨la,hM,⟨dx,ho⟩,hla⟩:=id hh'
 clear hM
 have hm':LM ns z s l:=hm
 have q2:∀H',Kp M H H'→OAt Z1 H' M q' p n s→Q (.str (lmin (lv s) l)) H':=q
 clear q hm
 walk_at "go"
 refine ⟨dx,_,ho,by rfl,l.map V.str,SqL.of ha,by simpa using hl,fun i=>[lv s (l.getD i Str.empty)],fun i v hv H1 sm1=>?_,fun v H1 sm1 hv=>?_⟩
 · rw [List.getElem?_map]at hv
   cases hz:l[i]? with
   | none=>rw [hz]at hv;cases hv
   | some u=>
   rw [hz]at hv
   cases hv
   obtain ⟨j,hj,_⟩:=hm'.i.v u (List.mem_of_getElem? hz)
   refine ⟨p,n,M,s,u,rfl,(T2 Z1).dep (fun m _ o=>sm1 m o) hh',j,hj,fun t ht=>⟨Same.new ht,?_⟩⟩
   rw [upd_same]
   show _=some (HO.tup [V.int (lv s (l.getD i Str.empty))])
   rw [List.getD_eq_getElem?_getD,hz]
   show _=some (HO.tup [V.int (lv s u)])
   rw [lv_at hj]
 · rw [bt_one,List.length_map,List.getElem?_map]at hv
   have hb:=best_lt (fun i=>lv s (l.getD i Str.empty)) (l.length - 1)
   have hl0:0 < l.length:=List.length_pos_iff.mpr hl
   have hlt:argBest (fun i j=>decide (lv s (l.getD i Str.empty) < lv s (l.getD j Str.empty))) (l.length - 1) < l.length:=by omega
   have e:v=V.str (lmin (lv s) l):=by
    unfold lmin
    rw [List.getD_eq_getElem?_getD,List.getElem?_eq_getElem hlt]
    rw [List.getElem?_eq_getElem hlt]at hv
    exact (Option.some.inj hv).symm
   rw [e]
   exact q2 _ (Kp.of sm1) ((T2 Z1).dep (fun m _ o=>sm1 m o) hh')
theorem Z57{f:Addr}{fd:FuncData}(F:Fun K "gone" "Rule.gone" Z1n f fd)(T:Txt K mg Z6 Z5 Z4 Z0 Z1 Z2 Z3):FnOk P w K mg base CX0 3 f fd ["self","name"] (spR_gone (T2 Z1)):=by
 have sc:FnScope ["self","name"] ["self","name"] (defScope Z1n):=by walk_at "sc"
 refine F.ok sc (fun vs H Q E h=>?_) (fun cdv A outer s H vs Q E hr h=>?_)
 · obtain ⟨_,_,_,_,_,_,_,_,rfl,_⟩:=h;rfl
 obtain ⟨q',p,n,M,s,l,ns,z,rfl,hh,hm,hl,hns,q⟩:=h
 refine ⟨_,(@pss_one _ _ _ ps_pass),?_⟩
 walk_at "st"
 walk_at "go"
 exact q _ (Kp.of (Same.refl _)) hh
theorem Z58{f:Addr}{fd:FuncData}(F:Fun K "came" "Rule.came" Z1o f fd)(T:Txt K mg Z6 Z5 Z4 Z0 Z1 Z2 Z3):FnOk P w K mg base CX0 1 f fd ["self","name"] (spR_came (T2 Z1)):=by
 have sc:FnScope ["self","name"] ["self","name"] (defScope Z1o):=by walk_at "sc"
 refine F.ok sc (fun vs H Q E h=>?_) (fun cdv A outer s H vs Q E hr h=>?_)
 · obtain ⟨_,_,_,_,_,_,_,_,rfl,_⟩:=h;rfl
 obtain ⟨q',p,n,M,s,l,ns,z,rfl,hh,hm,hz,hzl,hns,q⟩:=h
 refine ⟨_,(@pss_one _ _ _ ps_pass),?_⟩
 walk_at "st"
 walk_at "go"
 exact q _ (Kp.of (Same.refl _)) hh
theorem Z3q{f:Addr}{fd:FuncData}(F:Fun K "number_ask" "Ranked.number_ask" Z0p f fd)(T:Txt K mg Z6 Z5 Z4 Z0 Z1 Z2 Z3):FnOk P w K mg base CX0 1 f fd ["self","name"] (sp22_number Z2):=by
 have sc:FnScope ["self","name"] ["self","name"] (defScope Z0p):=by walk_at "sc"
 refine F.ok sc (fun vs H Q E h=>?_) (fun cdv A outer s H vs Q E hr h=>?_)
 · obtain ⟨_,_,_,_,_,_,rfl,_⟩:=h;rfl
 obtain ⟨q',p,n,M,s,z,rfl,hh,hl,q⟩:=h
 refine ⟨_,(@pss_cons _ _ _ _ _ (ps_fldaug (pv 0) pe_int in_add)
  (@pss_one _ _ _ (ps_dput (hu_of hr) (pe_fld (pv 0) rfl) (pv 1) (pe_fld (pv 0) rfl) rfl))),?_⟩
 walk_at "st"
 have line:=line_val
 obtain ⟨la,pa,hM,d,⟨dx,ho⟩,hla,hpa⟩:=hh
 have hM2:M=[q',la,pa]∧True:=⟨hM,trivial⟩
 clear hM
 have nq1:q'≠la:=fun e=>by rw [e,hla]at ho;cases ho
 have nq2:q'≠pa:=fun e=>by rw [e,hpa]at ho;cases ho
 walk_at "go"
 refine ⟨Z2,dx,_,ho,T.Zm,T.Zg,_,rf1_present,s.k,rfl,dx,_,ho,by rw [rf1_len];decide,?_⟩
 have ho1:upd H q' (.ins Z2 dx (rf1 p n (s.k+1) la pa)) q'=some (.ins Z2 dx (rf1 p n (s.k+1) la pa)):=upd_same
 have hla1:upd H q' (.ins Z2 dx (rf1 p n (s.k+1) la pa)) la=some (.dK s.la):=by rw [upd_ne nq1.symm];exact hla
 have hpa1:upd H q' (.ins Z2 dx (rf1 p n (s.k+1) la pa)) pa=some (.dK s.pu):=by rw [upd_ne nq2.symm];exact hpa
 have kp1:Kp M H (upd H q' (.ins Z2 dx (rf1 p n (s.k+1) la pa))):=(Kp.of (Same.refl H)).upd (by rw [hM2.1];simp)
 rename_i rest hrest
 show rest _ (upd H q' (.ins Z2 dx (rf1 p n (s.k+1) la pa)))
 generalize upd H q' (.ins Z2 dx (rf1 p n (s.k+1) la pa))=H1 at ho1 hla1 hpa1 kp1 ⊢
 have hlp:=length_putK s.la (Sum.inr z:Key) (V.int (s.k+1))
 subst hrest
 walk_at "go"
 exact ⟨Z2,dx,_,ho1,T.Zm,T.Zg,_,rf1_present,Z2,dx,_,ho1,T.Zm,T.Z0d,_,rf1_last,la,rfl,_,DPut.k (k:=Sum.inr z) hla1 (by omega),q _ (kp1.upd (by rw [hM2.1];simp)) ⟨la,pa,hM2.1,d,⟨dx,by rw [upd_ne nq1];exact ho1⟩,upd_same,by rw [upd_ne d.symm];exact hpa1⟩⟩
theorem Z59{f:Addr}{fd:FuncData}(F:Fun K "asked" "Ranked.asked" Z1p f fd)(T:Txt K mg Z6 Z5 Z4 Z0 Z1 Z2 Z3)(Z0q:DefM P w K mg base CX0 1 Z2 "number_ask" ["self","name"] (sp22_number Z2)):FnOk P w K mg base CX0 3 f fd ["self","name"] (spR_asked (T1 Z2)):=by
 have sc:FnScope ["self","name"] ["self","name"] (defScope Z1p):=by walk_at "sc"
 refine F.ok sc (fun vs H Q E h=>?_) (fun cdv A outer s H vs Q E hr h=>?_)
 · obtain ⟨_,_,_,_,_,_,_,_,rfl,_⟩:=h;rfl
 obtain ⟨q',p,n,M,s,l,ns,z,rfl,hh,hi,hz,hns,q⟩:=h
 refine ⟨_,(@pss_one _ _ _ (ps_expr (pe_methS Z0q T.Zm hr (passS pass0) (pv 0) (pa_cons (pv 1) pa_nil)))),?_⟩
 walk_at "st"
 have line:=line_val
 have hh':FAt Z2 H M q' p n s:=hh
 obtain ⟨la,pa,hM,d,⟨dx,ho⟩,hla,hpa⟩:=id hh'
 have hlen:=hi.a.len
 walk_at "go"
 exact ⟨dx,_,ho,by rfl,p,n,M,s,hh',by omega,fun H1 kp1 h1=>q H1 kp1 h1⟩
theorem Z5l{f:Addr}{fd:FuncData}(F:Fun K "rank" "First.rank" Z0f f fd)(T:Txt K mg Z6 Z5 Z4 Z0 Z1 Z2 Z3):FnOk P w K mg base CX0 1 f fd ["self","name"] (sp22_rank Z2):=by
 have sc:FnScope ["self","name"] ["self","name"] (defScope Z0f):=by walk_at "sc"
 refine F.ok sc (fun vs H Q E h=>?_) (fun cdv A outer s H vs Q E hr h=>?_)
 · obtain ⟨_,_,_,_,_,_,_,rfl,_⟩:=h;rfl
 obtain ⟨q',p,n,M,s,z,i,rfl,hh,hv,q⟩:=h
 refine ⟨_,(@pss_one _ _ _ (@ps_ret _ _ _ _ (pe_tup (pa_cons (pe_dget2 (hu_of hr) (pe_fld (pv 0) rfl) (pv 1) pe_int ⟨rfl,rfl,rfl,rfl⟩) pa_nil)))),?_⟩
 walk_at "st"
 have line:=line_val
 obtain ⟨la,pa,hM,d,⟨dx,ho⟩,hla,hpa⟩:=hh
 clear hM
 walk_at "go"
 exact ⟨Z2,dx,_,ho,T.Zm,T.Zs,_,rf1_put,pa,rfl,.inl ⟨_,.inl hpa⟩,some (.int i),by rw [← hv];exact DGet.k (k:=Sum.inr z) hpa,by omega,fun t ht=>q t ht⟩
theorem Z4t{f:Addr}{fd:FuncData}(F:Fun K "choice" "Ranked.choice" Z1b f fd)(T:Txt K mg Z6 Z5 Z4 Z0 Z1 Z2 Z3)(Z2h:DefV P w K mg base 1 Z2 "rank" ["self","name"] (sp22_rank Z2)):FnOk P w K mg base CX0 4 f fd ["self","lying"] (spR_choice (T1 Z2) K):=by
 have sc:FnScope ["self","lying"] ["self","lying"] (defScope Z1b):=by walk_at "sc"
 refine F.ok sc (fun vs H Q E h=>?_) (fun cdv A outer s H vs Q E hr h=>?_)
 · obtain ⟨_,_,_,_,_,_,_,_,_,rfl,_⟩:=h;rfl
 obtain ⟨q',p,a,n,M,s,l,ns,z,rfl,hh,hm,hl,ha,ham,hns,hll,hcn,q⟩:=h
 refine ⟨_,(@pss_one _ _ _ (@ps_ret _ _ _ _ (pe_minK Z2h T.Zm hr rfl T.Z2r (by first | rfl | decide+kernel) (pa_cons (pv 1) pa_nil) (pv 0) rfl))),?_⟩
 walk_at "st"
 have line:=line_val
 have hh':FAt Z2 H M q' p n s:=hh
 obtain ⟨la,pa,hM,d,⟨dx,ho⟩,hla,hpa⟩:=id hh'
 clear hM
 have hm':FI ns s l (s.k - 1):=hm
 have q2:∀H',Kp M H H'→FAt Z2 H' M q' p n s→Q (.str (l.headD Str.empty)) H':=q
 clear q hm
 walk_at "go"
 refine ⟨dx,_,ho,by rfl,l.map V.str,SqL.of ha,by simpa using hl,fun i=>[N22.pv s (l.getD i Str.empty)],fun i v hv H1 sm1=>?_,fun v H1 sm1 hv=>?_⟩
 · rw [List.getElem?_map]at hv
   cases hz:l[i]? with
   | none=>rw [hz]at hv;cases hv
   | some u=>
   rw [hz]at hv
   cases hv
   obtain ⟨j,hj,_⟩:=hm'.v u (List.mem_of_getElem? hz)
   refine ⟨p,n,M,s,u,rfl,(T1 Z2).dep (fun m _ o=>sm1 m o) hh',j,hj,fun t ht=>⟨Same.new ht,?_⟩⟩
   rw [upd_same]
   show _=some (HO.tup [V.int (N22.pv s (l.getD i Str.empty))])
   rw [List.getD_eq_getElem?_getD,hz]
   show _=some (HO.tup [V.int (N22.pv s u)])
   rw [pv_at hj]
 · have hb:argBest (btK fun i=>[N22.pv s (l.getD i Str.empty)]) ((l.map V.str).length - 1)=0:=by
    rw [List.length_map]
    refine best_head (v:=fun i=>N22.pv s (l.getD i Str.empty)) (fun i _=>rfl) (fun i hi=>?_)
    have hl0:0 < l.length:=List.length_pos_iff.mpr hl
    by_cases e:i=0
    · rw [e];exact Int.le_refl _
    · have:=(List.pairwise_iff_getElem.mp hm'.o) 0 i hl0 (by omega) (by omega)
      rw [List.getD_eq_getElem?_getD,List.getD_eq_getElem?_getD,List.getElem?_eq_getElem hl0,List.getElem?_eq_getElem (show i < l.length by omega)]
      exact Int.le_of_lt this
   rw [hb]at hv
   cases l with
   | nil=>exact absurd rfl hl
   | cons x r=>
    cases hv
    exact q2 _ (Kp.of sm1) ((T1 Z2).dep (fun m _ o=>sm1 m o) hh')
theorem Z5m{f:Addr}{fd:FuncData}(F:Fun K "gone" "Rule.gone" Z2e f fd)(T:Txt K mg Z6 Z5 Z4 Z0 Z1 Z2 Z3):FnOk P w K mg base CX0 3 f fd ["self","name"] (spR_gone (T1 Z2)):=by
 have sc:FnScope ["self","name"] ["self","name"] (defScope Z2e):=by walk_at "sc"
 refine F.ok sc (fun vs H Q E h=>?_) (fun cdv A outer s H vs Q E hr h=>?_)
 · obtain ⟨_,_,_,_,_,_,_,_,rfl,_⟩:=h;rfl
 obtain ⟨q',p,n,M,s,l,ns,z,rfl,hh,hm,hl,hns,q⟩:=h
 refine ⟨_,(@pss_one _ _ _ ps_pass),?_⟩
 walk_at "st"
 walk_at "go"
 exact q _ (Kp.of (Same.refl _)) hh
theorem Z5n{f:Addr}{fd:FuncData}(F:Fun K "came" "First.came" Z2f f fd)(T:Txt K mg Z6 Z5 Z4 Z0 Z1 Z2 Z3):FnOk P w K mg base CX0 1 f fd ["self","name"] (spR_came (T1 Z2)):=by
 have sc:FnScope ["self","name"] ["self","name"] (defScope Z2f):=by walk_at "sc"
 refine F.ok sc (fun vs H Q E h=>?_) (fun cdv A outer s H vs Q E hr h=>?_)
 · obtain ⟨_,_,_,_,_,_,_,_,rfl,_⟩:=h;rfl
 obtain ⟨q',p,n,M,s,l,ns,z,rfl,hh,hm,hz,hzl,hns,q⟩:=h
 refine ⟨_,(@pss_one _ _ _ (ps_dput (hu_of hr) (pe_fld (pv 0) rfl) (pv 1) (pe_fld (pv 0) rfl) rfl)),?_⟩
 walk_at "st"
 have line:=line_val
 have hh':FAt Z2 H M q' p n s:=hh
 obtain ⟨la,pa,hM,d,⟨dx,ho⟩,hla,hpa⟩:=id hh'
 have hM2:M=[q',la,pa]∧True:=⟨hM,trivial⟩
 clear hM
 have hlen:=hm.b.len
 have nq2:q'≠pa:=fun e=>by rw [e,hpa]at ho;cases ho
 have q2:∀H',Kp M H H'→FAt Z2 H' M q' p n (f1came s z)→Q .non H':=q
 clear q
 have hlp:=length_putK s.pu (Sum.inr z:Key) (V.int s.k)
 walk_at "go"
 refine ⟨Z2,dx,_,ho,T.Zm,T.Zg,_,rf1_present,Z2,dx,_,ho,T.Zm,T.Zs,_,rf1_put,pa,rfl,_,DPut.k (k:=Sum.inr z) hpa (by omega),q2 _ ((Kp.of (Same.refl H)).upd (by rw [hM2.1];simp)) ⟨la,pa,hM2.1,d,⟨dx,by rw [upd_ne nq2];exact ho⟩,by rw [upd_ne d];exact hla,upd_same⟩⟩
theorem Z5o{f:Addr}{fd:FuncData}(F:Fun K "asked" "Hand.asked" Z2g f fd)(T:Txt K mg Z6 Z5 Z4 Z0 Z1 Z2 Z3):FnOk P w K mg base CX0 3 f fd ["self","name"] (spR_asked (T6 Z3)):=by
 have sc:FnScope ["self","name"] ["self","name"] (defScope Z2g):=by walk_at "sc"
 refine F.ok sc (fun vs H Q E h=>?_) (fun cdv A outer s H vs Q E hr h=>?_)
 · obtain ⟨_,_,_,_,_,_,_,_,rfl,_⟩:=h;rfl
 obtain ⟨q',p,n,M,s,l,ns,z,rfl,hh,hi,hz,hns,q⟩:=h
 refine ⟨_,(@pss_one _ _ _ (ps_if (pt_cmpR op_in_seq (pv 1) (pe_fld (pv 0) rfl) (by with_unfolding_all rfl))
  (@pss_one _ _ _ (ps_dput (hu_of hr) (pe_fld (pv 0) rfl) (pv 1) pe_bl rfl))
  pss_nil)),?_⟩
 walk_at "st"
 have line:=line_val
 obtain ⟨s,rfl⟩:∃s':H6,s=s':=⟨s,rfl⟩
 have hh':HkAt Z3 H M q' p n s:=hh
 obtain ⟨od,md,hM,⟨dx,ho⟩,hl,hk⟩:=id hh'
 have nqo:q'≠od:=ne_of ho hl (by intro z;cases z)
 have nqm:q'≠md:=ne_of ho hk (by intro z;cases z)
 have nom:od≠md:=ne_of hl hk (by intro z;cases z)
 subst hM
 have hi':HI6 ns s l:=hi
 have hlen:=hi'.k.len
 have q2:∀H',Kp [q',od,md] H H'→HkAt Z3 H' [q',od,md] q' p n (ask6 s z)→Q .non H':=q
 clear q
 walk_at "go"
 refine ⟨Z3,dx,_,ho,T.Zd,T.Z9,_,hfl_order,in_go (SqL.of hl) ⟨_,rfl,?_⟩⟩
 by_cases hz:z∈s.L
 · rw [if_pos (decide_eq_true hz)]
   have hlp:=length_putK s.k (Sum.inr z:Key) (V.bl true)
   refine ⟨Z3,dx,_,ho,T.Zd,T.Zi,_,hfl_marked,md,rfl,_,DPut.k (k:=Sum.inr z) hk (by omega),?_⟩
   exact q2 _ ((Kp.of (Same.refl _)).upd (by simp)) (by rw [ask6_in hz];exact ⟨od,md,rfl,⟨dx,by rw [upd_ne nqm];exact ho⟩,by rw [upd_ne nom];exact hl,upd_same⟩)
 · rw [if_neg (by simp [hz])]
   exact q2 H (.of (Same.refl _)) (by rw [ask6_out hz];exact hh')
theorem Z5a{f:Addr}{fd:FuncData}(F:Fun K "choice" "Hand.choice" Z1q f fd)(T:Txt K mg Z6 Z5 Z4 Z0 Z1 Z2 Z3):FnOk P w K mg base CX0 4 f fd ["self","lying"] (spR_choice (T6 Z3) K):=by
 have sc:FnScope ["self","lying","front"] ["self","lying"] (defScope Z1q):=by walk_at "sc"
 refine F.ok sc (fun vs H Q E h=>?_) (fun cdv A outer s H vs Q E hr h=>?_)
 · obtain ⟨_,_,_,_,_,_,_,_,_,rfl,_⟩:=h;rfl
 obtain ⟨q',p,a,n,M,s,l,ns,z,rfl,hh,hm,hl0,ha,ham,hns,hll,hcn,q⟩:=h
 refine ⟨_,(@pss_cons _ _ _ _ _ (ps_while PassesOwn.never (pt_cmp (pc_din (hu_of hr) (@pe_ix _ _ _ _ _ _ _ ix_list (pe_fld (pv 0) rfl) pe_int (fun _ _=>rfl)) (pe_fld (pv 0) rfl)))
  (@pss_cons _ _ _ _ _ (ps_set (i:=2) sc.nd rfl (Or.inl rfl) (pe_bm PySem.F.plainAttrs_list PySem.F.slot_list_pop PySem.F.type_list_pop mt_popAt (pe_fld (pv 0) rfl) (pa_cons pe_int pa_nil)))
  (@pss_cons _ _ _ _ _ (ps_expr (pe_dpop1 (pe_fld (pv 0) rfl) (pv 2) ⟨rfl,rfl,rfl,rfl⟩))
  (@pss_one _ _ _ (ps_expr (pe_bm PySem.F.plainAttrs_list PySem.F.slot_list_append PySem.F.type_list_append mt_append (pe_fld (pv 0) rfl) (pa_cons (pv 2) pa_nil)))))))
  (@pss_one _ _ _ (@ps_ret _ _ _ _ (@pe_ix _ _ _ _ _ _ _ ix_list (pe_fld (pv 0) rfl) pe_int (fun _ _=>rfl))))),?_⟩
 walk_at "st"
 have line:=line_val
 obtain ⟨s,rfl⟩:∃s':H6,s=s':=⟨s,rfl⟩
 have hh':HkAt Z3 H M q' p n s:=hh
 obtain ⟨od,md,hM,⟨dx,ho⟩,hl,hk⟩:=id hh'
 have nqo:q'≠od:=ne_of ho hl (by intro z;cases z)
 have nqm:q'≠md:=ne_of ho hk (by intro z;cases z)
 have nom:od≠md:=ne_of hl hk (by intro z;cases z)
 subst hM
 have hi':HI6 ns s l:=hm
 have q2:∀H',Kp [q',od,md] H H'→HkAt Z3 H' [q',od,md] q' p n (hpk s)→Q (.str ((hpk s).L.headD Str.empty)) H':=q
 clear q hm
 walk_at "go"
 rename_i rest hrest
 refine while_d (m0:=s.k.length) (fun m σ H5=>∃(s':H6) (v2:Option V),σ=[some (V.ref q'),some (V.ref a),v2]∧Kp [q',od,md] H H5∧H5 q'=some (.ins Z3 dx (hfl p od md n))∧H5 od=some (.lst (s'.L.map V.str))∧H5 md=some (.dK s'.k)∧HI6 ns s' l∧hpk s'=hpk s∧m=s'.k.length) ⟨s,none,rfl,Kp.of (Same.refl _),ho,hl,hk,hi',rfl,rfl⟩ ?_
 clear ho hl hk
 rintro m' σ H5 ⟨⟨L',k'⟩,v2,rfl,kp5,ho,hl,hk,hi5,hf5,rfl⟩
 have hpl:=hi5.p.length_eq
 cases L' with
 | nil=>exact absurd (List.length_eq_zero_iff.mp (by simpa using hpl.symm)) hl0
 | cons f r=>
 simp only at ho hl hk hpl
 walk_at "go"
 refine ⟨Z3,dx,_,ho,T.Zd,T.Z9,_,hfl_order,ixL_of (SqL.of hl) (v:=V.str f) (atI_nat (j:=0) rfl) ?_⟩
 refine ⟨Z3,dx,_,ho,T.Zd,T.Zi,_,hfl_marked,md,rfl,_,DGet.k (k:=Sum.inr f) hk,?_⟩
 by_cases hfd:(valV k' (Sum.inr f)).isSome=true
 · rw [if_pos hfd]
   clear hrest
   refine ⟨_,fun σ' H7 h=>h,?_⟩
   walk_at "go"
   refine ⟨Z3,dx,_,ho,T.Zd,T.Z9,_,hfl_order,.inl ⟨rfl,_,SqL.of hl⟩,N62.pop0_go hl ?_⟩
   have kp6:Kp [q',od,md] H (upd H5 od (.lst (r.map V.str))):=kp5.upd (by simp)
   have ho6:upd H5 od (.lst (r.map V.str)) q'=_:=(upd_ne nqo).trans ho
   have hl6:upd H5 od (.lst (r.map V.str)) od=some (.lst (r.map V.str)):=upd_same
   have hk6:upd H5 od (.lst (r.map V.str)) md=_:=(upd_ne nom.symm).trans hk
   rename_i rest2 hrest2
   show rest2 _ (upd H5 od (.lst (r.map V.str)))
   generalize upd H5 od (.lst (r.map V.str))=H6 at ho6 hl6 hk6 kp6 ⊢
   clear ho hl hk kp5
   subst hrest2
   walk_at "go"
   obtain ⟨v,hv⟩:∃v,valV k' (Sum.inr f)=some v:=Option.isSome_iff_exists.mp hfd
   refine ⟨Z3,dx,_,ho6,T.Zd,T.Zi,_,hfl_marked,md,rfl,.inl ⟨_,.inl hk6⟩,k',hk6,Sum.inr f,rfl,v,hv,?_⟩
   have kp7:Kp [q',od,md] H (upd H6 md (.dK (dropK k' (Sum.inr f)))):=kp6.upd (by simp)
   have ho7:upd H6 md (.dK (dropK k' (Sum.inr f))) q'=_:=(upd_ne nqm).trans ho6
   have hl7:upd H6 md (.dK (dropK k' (Sum.inr f))) od=_:=(upd_ne nom).trans hl6
   have hk7:upd H6 md (.dK (dropK k' (Sum.inr f))) md=some (.dK (dropK k' (Sum.inr f))):=upd_same
   generalize upd H6 md (.dK (dropK k' (Sum.inr f)))=H7 at ho7 hl7 hk7 kp7 ⊢
   clear hk6 ho6 hl6 hv kp6
   have hdl:=drop_len hfd
   have hpg:=(hpk_go (r:=r) hfd).symm.trans hf5
   clear hf5
   rename_i rest2 hrest2
   subst hrest2
   walk_at "go"
   rw [List.length_cons]at hpl
   have hp:(r++[f]).Perm (f::r):=List.perm_append_singleton ..
   refine ⟨Z3,dx,_,ho7,T.Zd,T.Z9,_,hfl_order,.inl ⟨rfl,_,SqL.of hl7⟩,od,_,_,rfl,rfl,hl7,by rw [List.length_map];omega,(dropK k' (Sum.inr f)).length,hdl,kp7.upd (by simp),by rw [upd_ne nqo];exact ho7,⟨r++[f],dropK k' (Sum.inr f)⟩,by rw [upd_same,List.map_append];rfl,by rw [upd_ne nom.symm];exact hk7,⟨KeysIn.drop hi5.k,hp.trans hi5.p,hp.nodup_iff.mpr hi5.nd,fun u hu=>hi5.s u (hp.mem_iff.mp hu)⟩,hpg,rfl⟩
 · rw [if_neg hfd]
   have hpe:hpk s=⟨f::r,k'⟩∧True:=⟨hf5.symm.trans (hpk_end hfd),trivial⟩
   clear hf5
   subst hrest
   walk_at "go"
   rw [hpe.1]at q2
   exact ⟨Z3,dx,_,ho,T.Zd,T.Z9,_,hfl_order,ixL_of (SqL.of hl) (v:=V.str f) (atI_nat (j:=0) rfl) (q2 H5 kp5 ⟨od,md,rfl,⟨dx,ho⟩,hl,hk⟩)⟩
theorem Z5z{f:Addr}{fd:FuncData}(F:Fun K "gone" "Hand.gone" Z2y f fd)(T:Txt K mg Z6 Z5 Z4 Z0 Z1 Z2 Z3):FnOk P w K mg base CX0 3 f fd ["self","name"] (spR_gone (T6 Z3)):=by
 have sc:FnScope ["self","name"] ["self","name"] (defScope Z2y):=by walk_at "sc"
 refine F.ok sc (fun vs H Q E h=>?_) (fun cdv A outer s H vs Q E hr h=>?_)
 · obtain ⟨_,_,_,_,_,_,_,_,rfl,_⟩:=h;rfl
 obtain ⟨q',p,n,M,s,l,ns,z,rfl,hh,hm,hl0,hns,q⟩:=h
 refine ⟨_,(@pss_one _ _ _ (ps_expr (pe_bm PySem.F.plainAttrs_list PySem.F.slot_list_remove PySem.F.type_list_remove mt_remove (pe_fld (pv 0) rfl) (pa_cons (pv 1) pa_nil)))),?_⟩
 walk_at "st"
 have hi':HI6 ns s l:=hm
 have hi2:HI6 ns (hpk s) l:=hrot_inv _ _ hi'
 have hpm:(hpk s).L.headD Str.empty∈(hpk s).L:=hi2.p.mem_iff.mpr ((RuleT.i_pick (T6 Z3) (ns:=ns) (n:=n) (z:=z) hm hl0).1)
 have q2:∀H',Kp M H H'→HkAt Z3 H' M q' p n ⟨(hpk s).L.erase ((hpk s).L.headD Str.empty),(hpk s).k⟩→Q .non H':=q
 have hh0:HkAt Z3 H M q' p n (hpk s):=hh
 show _
 rw [show ((T6 Z3).pick n s l).2=(hpk s).L.headD Str.empty from rfl]
 clear q hh hm
 generalize (hpk s).L.headD Str.empty=y at hpm q2 ⊢
 generalize hpk s=s at hh0 hpm q2 hi2
 have hh:=hh0
 have line:=line_val
 obtain ⟨s,rfl⟩:∃s':H6,s=s':=⟨s,rfl⟩
 have hh':HkAt Z3 H M q' p n s:=hh
 obtain ⟨od,md,hM,⟨dx,ho⟩,hl,hk⟩:=id hh'
 have nqo:q'≠od:=ne_of ho hl (by intro z;cases z)
 have nqm:q'≠md:=ne_of ho hk (by intro z;cases z)
 have nom:od≠md:=ne_of hl hk (by intro z;cases z)
 subst hM
 walk_at "go"
 exact ⟨Z3,dx,_,ho,T.Zd,T.Z9,_,hfl_order,.inl ⟨rfl,_,SqL.of hl⟩,od,rfl,s.L,hl,hpm,q2 _ ((Kp.of (Same.refl _)).upd (by simp)) ⟨od,md,rfl,⟨dx,by rw [upd_ne nqo];exact ho⟩,upd_same,by rw [upd_ne nom.symm];exact hk⟩⟩
theorem Z60{f:Addr}{fd:FuncData}(F:Fun K "came" "Hand.came" Z2z f fd)(T:Txt K mg Z6 Z5 Z4 Z0 Z1 Z2 Z3):FnOk P w K mg base CX0 1 f fd ["self","name"] (spR_came (T6 Z3)):=by
 have sc:FnScope ["self","name"] ["self","name"] (defScope Z2z):=by walk_at "sc"
 refine F.ok sc (fun vs H Q E h=>?_) (fun cdv A outer s H vs Q E hr h=>?_)
 · obtain ⟨_,_,_,_,_,_,_,_,rfl,_⟩:=h;rfl
 obtain ⟨q',p,n,M,s,l,ns,z,rfl,hh,hm,hz,hzl,hns,q⟩:=h
 refine ⟨_,(@pss_cons _ _ _ _ _ (ps_expr (pe_bm PySem.F.plainAttrs_list PySem.F.slot_list_append PySem.F.type_list_append mt_append (pe_fld (pv 0) rfl) (pa_cons (pv 1) pa_nil)))
  (@pss_one _ _ _ (ps_dput (hu_of hr) (pe_fld (pv 0) rfl) (pv 1) pe_bl rfl))),?_⟩
 walk_at "st"
 have line:=line_val
 obtain ⟨s,rfl⟩:∃s':H6,s=s':=⟨s,rfl⟩
 have hh':HkAt Z3 H M q' p n s:=hh
 obtain ⟨od,md,hM,⟨dx,ho⟩,hl,hk⟩:=id hh'
 have nqo:q'≠od:=ne_of ho hl (by intro z;cases z)
 have nqm:q'≠md:=ne_of ho hk (by intro z;cases z)
 have nom:od≠md:=ne_of hl hk (by intro z;cases z)
 subst hM
 have hi':HI6 ns s l:=hm
 have hlen:=hi'.k.len
 have hll:=N25.nd_len hi'.nd hi'.s
 have q2:∀H',Kp [q',od,md] H H'→HkAt Z3 H' [q',od,md] q' p n ⟨s.L++[z],putK s.k (Sum.inr z) (.bl true)⟩→Q .non H':=q
 clear q
 walk_at "go"
 refine ⟨Z3,dx,_,ho,T.Zd,T.Z9,_,hfl_order,.inl ⟨rfl,_,SqL.of hl⟩,od,_,_,rfl,rfl,hl,by rw [List.length_map];omega,?_⟩
 rw [show s.L.map V.str++[V.str z]=(s.L++[z]).map V.str by rw [List.map_append];rfl]
 have kp1:Kp [q',od,md] H (upd H od (.lst ((s.L++[z]).map V.str))):=(Kp.of (Same.refl H)).upd (by simp)
 have ho1:upd H od (.lst ((s.L++[z]).map V.str)) q'=_:=(upd_ne nqo).trans ho
 have hl1:upd H od (.lst ((s.L++[z]).map V.str)) od=some (.lst ((s.L++[z]).map V.str)):=upd_same
 have hk1:upd H od (.lst ((s.L++[z]).map V.str)) md=_:=(upd_ne nom.symm).trans hk
 generalize upd H od (.lst ((s.L++[z]).map V.str))=H1 at kp1 ho1 hl1 hk1 ⊢
 have hlp:=length_putK s.k (Sum.inr z:Key) (V.bl true)
 rename_i rest hrest
 subst hrest
 walk_at "go"
 refine ⟨Z3,dx,_,ho1,T.Zd,T.Zi,_,hfl_marked,md,rfl,_,DPut.k (k:=Sum.inr z) hk1 (by omega),?_⟩
 exact q2 _ (kp1.upd (by simp)) ⟨od,md,rfl,⟨dx,by rw [upd_ne nqm];exact ho1⟩,by rw [upd_ne nom];exact hl1,upd_same⟩
theorem Z61{f:Addr}{fd:FuncData}(F:Fun K "make_room" "make_room" Z30 f fd)(T:Txt K mg Z6 Z5 Z4 Z0 Z1 Z2 Z3)(Zr:DefM P w K mg base CX0 1 Z5 "room_left" ["self"] (sp_left Z5))(Z1v:DefM P w K mg base CX0 1 Z5 "lying" ["self"] (sp_lying Z5))(Z1w:DefM P w K mg base CX0 4 Z3 "choice" ["self","lying"] (spR_choice (T6 Z3) K))(Z1c:DefM P w K mg base CX0 4 Z2 "choice" ["self","lying"] (spR_choice (T1 Z2) K))(Z16:DefM P w K mg base CX0 4 Z1 "choice" ["self","lying"] (spR_choice (T2 Z1) K))(Z17:DefM P w K mg base CX0 4 Z0 "choice" ["self","lying"] (spR_choice (T2 Z0) K))(Z1x:DefM P w K mg base CX0 4 Z4 "choice" ["self","lying"] (spR_choice (T0 Z4) K))(Z2i:DefM P w K mg base CX0 2 Z5 "cast" ["self","name"] (sp_castG Z5))(Z33:DefM P w K mg base CX0 3 Z3 "gone" ["self","name"] (spR_gone (T6 Z3)))(Z2j:DefM P w K mg base CX0 3 Z2 "gone" ["self","name"] (spR_gone (T1 Z2)))(Z1y:DefM P w K mg base CX0 3 Z1 "gone" ["self","name"] (spR_gone (T2 Z1)))(Z1z:DefM P w K mg base CX0 3 Z0 "gone" ["self","name"] (spR_gone (T2 Z0)))(Z34:DefM P w K mg base CX0 3 Z4 "gone" ["self","name"] (spR_gone (T0 Z4))):FnOk P w K mg base CX0 5 f fd ["rule","shelf","room"] (spI_room (T5 (C5.mk Z3 Z2 Z1 Z0 Z4)) K Z6 Z5):=by
 have sc:FnScope ["rule","shelf","room","went","name"] ["rule","shelf","room"] (defScope Z30):=by walk_at "sc"
 refine F.ok sc (fun vs H Q E h=>?_) (fun cdv A outer s H vs Q E hr h=>?_)
 · obtain ⟨_,_,_,_,_,_,_,_,_,_,_,_,_,rfl,_⟩:=h;rfl
 obtain ⟨w8,H0,q',p,sh,d,M,n,need,ts,ls,s,z,rfl,hr',hm,hn,hll,htl,hcn,q⟩:=h
 refine ⟨_,(@pss_cons _ _ _ _ _ (ps_set (i:=3) sc.nd rfl (Or.inl rfl) (@pe_lst _ _ _ _ pa_nil))
  (@pss_cons _ _ _ _ _ (ps_while PassesOwn.never (pt_cmpR op_lt (pe_methS0 Zr T.Z8 hr (passS pass0) (pv 1)) (pv 2) (nomark _))
   (@pss_cons _ _ _ _ _ (ps_set (i:=4) sc.nd rfl (Or.inl rfl) (pe_methI (C:=fun w=>(T5 (C5.mk Z3 Z2 Z1 Z0 Z4) w).C) (sp:=fun w=>spR_choice (T5 (C5.mk Z3 Z2 Z1 Z0 Z4) w) K) (fun w=>by cases w;exact Z1w;exact Z1c;exact Z16;exact Z17;exact Z1x) (fun w=>by cases w;exact T.Zd;exact T.Zm;exact T.Zo;exact T.Zn;exact T.Z26) hr (passS pass0) (pv 0) (pa_cons (pe_methS0 Z1v T.Z8 hr (passS pass0) (pv 1)) pa_nil)))
   (@pss_cons _ _ _ _ _ (ps_expr (pe_methS Z2i T.Z8 hr (passS pass0) (pv 1) (pa_cons (pv 4) pa_nil)))
   (@pss_cons _ _ _ _ _ (ps_expr (pe_methI (C:=fun w=>(T5 (C5.mk Z3 Z2 Z1 Z0 Z4) w).C) (sp:=fun w=>spR_gone (T5 (C5.mk Z3 Z2 Z1 Z0 Z4) w)) (fun w=>by cases w;exact Z33;exact Z2j;exact Z1y;exact Z1z;exact Z34) (fun w=>by cases w;exact T.Zd;exact T.Zm;exact T.Zo;exact T.Zn;exact T.Z26) hr (passS pass0) (pv 0) (pa_cons (pv 4) pa_nil)))
   (@pss_one _ _ _ (ps_expr (pe_bm PySem.F.plainAttrs_list PySem.F.slot_list_append PySem.F.type_list_append mt_append (pv 3) (pa_cons (pv 4) pa_nil))))))))
  (@pss_one _ _ _ (@ps_ret _ _ _ _ (pv 3))))),?_⟩
 walk_at "st"
 have line:=line_val
 walk_at "go"
 intro w hw
 have kp0:Kp (d::M) H (upd H w (.lst [])):=Kp.of (Same.new hw)
 have hr0:=hr'.same (Same.new (o:= .lst []) hw)
 have hww:upd H w (.lst []) w=some (.lst []):=upd_same
 have nw:=hr'.free hw
 have nw0:H0 w=none:=same_none hr'.sm hw
 have nwm:w∉M:=fun h=>nw (List.mem_cons_of_mem _ h)
 have nwd:w≠d:=fun h=>nw (by rw [h];simp)
 generalize upd H w (.lst [])=H1 at kp0 hr0 hww ⊢
 rename_i rest hrest
 subst hrest
 walk_at "go"
 rename_i rest hrest
 refine while_d (m0:=ls.length) (fun m σ H5=>∃(ls':Ly) (s':((T5 (C5.mk Z3 Z2 Z1 Z0 Z4) w8)).St) (wl:List Str) (v4:Option V),σ=[some (V.ref q'),some (V.ref sh),some (V.int need),some (V.ref w),v4]∧Kp (d::M) H H5∧H5 w=some (.lst (wl.map V.str))∧RunG (T5 (C5.mk Z3 Z2 Z1 Z0 Z4) w8) K Z6 Z5 H0 H5 q' p sh d M n ts ls' s'∧((T5 (C5.mk Z3 Z2 Z1 Z0 Z4) w8)).mid (ts.map (·.1)) n z s' (lyN ls')∧gf (T5 (C5.mk Z3 Z2 Z1 Z0 Z4) w8) (rm ts) n need s (lyN ls) []=gf (T5 (C5.mk Z3 Z2 Z1 Z0 Z4) w8) (rm ts) n need s' (lyN ls') wl∧wl.length+ls'.length≤60∧((T5 (C5.mk Z3 Z2 Z1 Z0 Z4) w8)).cnt s'≤300∧m=ls'.length) ⟨ls,s,[],none,rfl,kp0,hww,hr0,hm,rfl,by simpa using hll,hcn,rfl⟩ ?_
 clear hr' hr0 hww kp0 hm
 rintro m' σ H5 ⟨ls',s',wl,v4,rfl,kp5,hw5,hr5,hm5,hf5,hl5,hcn5,rfl⟩
 have hleft:=hr5.left
 obtain ⟨⟨dx,ho⟩,hd,hnd⟩:=id hr5.shf
 walk_at "go"
 refine ⟨dx,_,ho,by rfl,_,_,_,_,hr5.shf,fun H6 sm6=>?_⟩
 have hr6:=hr5.same sm6
 have hw6:=sm6 _ _ hw5
 have kp6:=kp5.trans (Kp.of sm6)
 by_cases hlt:need≤n - N41.sm (rm ts) (lyN ls')
 · rw [if_neg (by rw [hleft];omega)]
   have e1:gf (T5 (C5.mk Z3 Z2 Z1 Z0 Z4) w8) (rm ts) n need s (lyN ls) []=(s',lyN ls',wl)∧True:=⟨hf5.trans (gf_end hlt),trivial⟩
   clear hf5
   subst hrest
   walk_at "go"
   exact q w ls' H6 kp6 hw (by rw [e1.1];exact hw6) (by rw [e1.1]) (by rw [e1.1];exact hr6)
 · rw [if_pos (by rw [hleft];omega)]
   clear hrest
   refine ⟨_,fun σ' H7 h=>h,?_⟩
   have hLne:lyN ls'≠[]:=fun e=>hlt (by rw [e,N41.sm_nil];omega)
   obtain ⟨⟨dx6,ho6⟩,hd6,hnd6⟩:=id hr6.shf
   obtain ⟨dq,fs,hoq,o1,o2,o3,hec,o4⟩:=RuleT.obj _ hr6.h
   clear hleft ho hd hnd hr5 hw5 kp5 sm6
   walk_at "go"
   refine ⟨w8,dq,_,hoq,hec,dx6,_,ho6,by rfl,_,_,_,_,hr6.shf,fun l hl=>?_⟩
   have sml:Same H6 (upd H6 l (.lst ((lyN ls').map V.str))):=Same.new hl
   have hl7:upd H6 l (.lst ((lyN ls').map V.str)) l=some (.lst ((lyN ls').map V.str)):=upd_same
   have nl:=hr6.free hl
   have hr7:=hr6.same sml
   have hw7:=sml _ _ hw6
   have kp7:=kp6.trans (Kp.of sml)
   generalize upd H6 l (.lst ((lyN ls').map V.str))=H7 at hr7 hw7 kp7 hl7 ⊢
   clear hr6 hw6 kp6 hoq ho6 hd6 hnd6 sml hl hec
   obtain ⟨hf,hm8⟩:=RuleT.i_pick _ hm5 hLne
   have hcn6:=Nat.le_trans (Nat.le_trans (RuleT.c_gone (T5 (C5.mk Z3 Z2 Z1 Z0 Z4) w8) n (RuleT.pick _ n s' (lyN ls')).1 (RuleT.pick _ n s' (lyN ls')).2) (RuleT.c_pick (T5 (C5.mk Z3 Z2 Z1 Z0 Z4) w8) n s' (lyN ls'))) hcn5
   have hlen:(lyN ls').length≤60:=by unfold lyN;rw [List.length_map];omega
   refine ⟨p,n,M,s',hr7.h,lyN ls',ts.map (·.1),z,hm5,hLne,hl7,fun h=>nl (List.mem_cons_of_mem _ h),by rw [List.length_map];exact htl,hlen,hcn5,fun H8 kp8 hh8=>?_⟩
   have hr8:=hr7.rule kp8 hh8
   have hw8:=kp8 _ _ nwm hw7
   have kp08:=kp7.trans (kp_cons (d:=d) kp8)
   have hfin':gf (T5 (C5.mk Z3 Z2 Z1 Z0 Z4) w8) (rm ts) n need s (lyN ls) []=gf (T5 (C5.mk Z3 Z2 Z1 Z0 Z4) w8) (rm ts) n need (RuleT.gone _ n (RuleT.pick _ n s' (lyN ls')).1 (RuleT.pick _ n s' (lyN ls')).2) ((lyN ls').erase (RuleT.pick _ n s' (lyN ls')).2) (wl++[(RuleT.pick _ n s' (lyN ls')).2])∧True:=⟨hf5.trans (gf_go hlt hf),trivial⟩
   clear hf5 hr7 hw7 kp7 kp8 hh8 hl7
   obtain ⟨⟨dx8,ho8⟩,hd8,hnd8⟩:=id hr8.shf
   rename_i rest2 hrest2
   subst hrest2
   walk_at "go"
   refine ⟨dx8,_,ho8,by rfl,_,_,_,_,hr8.shf,hf,fun H9 sb9 hs9=>?_⟩
   have hr9:=hr8.shelf sb9 hs9 hr8.ok.drop
   have hw9:=sb9 _ _ hw8 nwd
   obtain ⟨dq9,fs9,hoq9,o5,o6,o7,o8,heg,o9⟩:=RuleT.obj _ hr9.h
   have hnames:=lyD_names (z:=(RuleT.pick _ n s' (lyN ls')).2) hr8.ok.nd
   rename_i rest2 hrest2
   subst hrest2
   walk_at "go"
   refine ⟨w8,dq9,_,hoq9,heg,p,n,M,s',lyN ls',rfl,hr9.h,ts.map (·.1),z,hm5,hLne,by rw [List.length_map];exact htl,fun H10 kp10 hh10=>?_⟩
   have hr10:=hr9.rule kp10 hh10
   have hw10:=kp10 _ _ nwm hw9
   have kp010:Kp (d::M) H H10:=(kp08.trans (kp_of_but sb9 (by simp))).trans (kp_cons kp10)
   clear hr8 hs9 hh10 sb9 kp10 hw8 hw9 kp08 hd8 hnd8 ho8 hoq9 hr9 heg
   have hel:=List.length_erase_of_mem hf
   have hlp:0 < (lyN ls').length:=List.length_pos_of_mem hf
   have hll5:(lyN ls').length=ls'.length∧True:=⟨by unfold lyN;rw [List.length_map],trivial⟩
   have hll6:(lyD ls' (RuleT.pick _ n s' (lyN ls')).2).length+1≤ls'.length:=by
    have e:(lyN (lyD ls' (RuleT.pick _ n s' (lyN ls')).2)).length=(lyD ls' (RuleT.pick _ n s' (lyN ls')).2).length:=by unfold lyN;rw [List.length_map]
    rw [hnames]at e
    omega
   rw [← hnames]at hm8 hfin'
   rename_i rest2 hrest2
   subst hrest2
   walk_at "go"
   generalize hfe:(RuleT.pick _ n s' (lyN ls')).2=f at hf hm8 hfin' hnames hel hr10 hll6 hcn6 ⊢
   have hwl:(wl++[f]).length=wl.length+1:=by rw [List.length_append];rfl
   refine ⟨.inl ⟨rfl,_,SqL.of hw10⟩,w,_,_,rfl,rfl,hw10,by rw [List.length_map];omega,(lyD ls' f).length,by omega,kp_new kp010 hw,lyD ls' f,_,wl++[f],by rw [upd_same,List.map_append];rfl,hr10.lst (fun b o e nb=>by rw [upd_ne nb];exact e) hw10 nwm nw0,hm8,hfin'.1,by omega,hcn6,rfl⟩
theorem Z6j{f:Addr}{fd:FuncData}(F:Fun K "row_of" "row_of" Z4e f fd)(T:Txt K mg Z6 Z5 Z4 Z0 Z1 Z2 Z3)(Z2k:DefM P w K mg base CX0 3 Z3 "asked" ["self","name"] (spR_asked (T6 Z3)))(Z20:DefM P w K mg base CX0 3 Z2 "asked" ["self","name"] (spR_asked (T1 Z2)))(Z1d:DefM P w K mg base CX0 3 Z1 "asked" ["self","name"] (spR_asked (T2 Z1)))(Z1e:DefM P w K mg base CX0 3 Z0 "asked" ["self","name"] (spR_asked (T2 Z0)))(Z2l:DefM P w K mg base CX0 3 Z4 "asked" ["self","name"] (spR_asked (T0 Z4)))(Zj:DefM P w K mg base CX0 1 Z5 "holds" ["self","name"] (sp_holds Z5))(Za:DefM P w K mg base CX0 2 Z6 "room_of" ["self","name"] (sp32_room K Z6))(Z35:Def P w K mg base CX0 5 "make_room" ["rule","shelf","room"] (spI_room (T5 (C5.mk Z3 Z2 Z1 Z0 Z4)) K Z6 Z5))(Z36:DefM P w K mg base CX0 4 Z5 "put" ["self","name"] (sp_putG K Z6 Z5))(Z37:DefM P w K mg base CX0 1 Z3 "came" ["self","name"] (spR_came (T6 Z3)))(Z2m:DefM P w K mg base CX0 1 Z2 "came" ["self","name"] (spR_came (T1 Z2)))(Z21:DefM P w K mg base CX0 1 Z1 "came" ["self","name"] (spR_came (T2 Z1)))(Z22:DefM P w K mg base CX0 1 Z0 "came" ["self","name"] (spR_came (T2 Z0)))(Z38:DefM P w K mg base CX0 1 Z4 "came" ["self","name"] (spR_came (T0 Z4))):FnOk P w K mg base CX0 7 f fd ["rule","shelf","name"] (spI_row (T5 (C5.mk Z3 Z2 Z1 Z0 Z4)) K Z6 Z5):=by
 have sc:FnScope ["rule","shelf","name","went"] ["rule","shelf","name"] (defScope Z4e):=by walk_at "sc"
 refine F.ok sc (fun vs H Q E h=>?_) (fun cdv A outer s H vs Q E hr h=>?_)
 · obtain ⟨_,_,_,_,_,_,_,_,_,_,_,_,rfl,_⟩:=h;rfl
 obtain ⟨w8,H0,q',p,sh,d,M,n,ts,ls,s,z,rfl,hr',hi,nd,htl,hz,hzn,hcn,q⟩:=h
 refine ⟨_,(@pss_cons _ _ _ _ _ (ps_expr (pe_methI (C:=fun w=>(T5 (C5.mk Z3 Z2 Z1 Z0 Z4) w).C) (sp:=fun w=>spR_asked (T5 (C5.mk Z3 Z2 Z1 Z0 Z4) w)) (fun w=>by cases w;exact Z2k;exact Z20;exact Z1d;exact Z1e;exact Z2l) (fun w=>by cases w;exact T.Zd;exact T.Zm;exact T.Zo;exact T.Zn;exact T.Z26) hr (passS pass0) (pv 0) (pa_cons (pv 2) pa_nil)))
  (@pss_cons _ _ _ _ _ (ps_if (pt_val (pe_methS Zj T.Z8 hr (passS pass0) (pv 1) (pa_cons (pv 2) pa_nil)))
   (@pss_one _ _ _ (@ps_ret _ _ _ _ (pe_tup (pa_cons (pv 2) (pa_cons pe_bl (pa_cons (@pe_lst _ _ _ _ pa_nil) pa_nil))))))
   pss_nil)
  (@pss_cons _ _ _ _ _ (ps_set (i:=3) sc.nd rfl (Or.inl rfl) (pe_callD Z35 hr rfl pass0 (pa_cons (pv 0) (pa_cons (pv 1) (pa_cons (pe_methS Za T.Zv hr (passS pass0) (pe_fld (pv 1) rfl) (pa_cons (pv 2) pa_nil)) pa_nil)))))
  (@pss_cons _ _ _ _ _ (ps_expr (pe_methS Z36 T.Z8 hr (passS pass0) (pv 1) (pa_cons (pv 2) pa_nil)))
  (@pss_cons _ _ _ _ _ (ps_expr (pe_methI (C:=fun w=>(T5 (C5.mk Z3 Z2 Z1 Z0 Z4) w).C) (sp:=fun w=>spR_came (T5 (C5.mk Z3 Z2 Z1 Z0 Z4) w)) (fun w=>by cases w;exact Z37;exact Z2m;exact Z21;exact Z22;exact Z38) (fun w=>by cases w;exact T.Zd;exact T.Zm;exact T.Zo;exact T.Zn;exact T.Z26) hr (passS pass0) (pv 0) (pa_cons (pv 2) pa_nil)))
  (@pss_one _ _ _ (@ps_ret _ _ _ _ (pe_tup (pa_cons (pv 2) (pa_cons pe_bl (pa_cons (pv 3) pa_nil))))))))))),?_⟩
 walk_at "st"
 have line:=line_val
 obtain ⟨dq,fs,hoq,o1,o2,hea,o3⟩:=RuleT.obj _ hr'.h
 walk_at "go"
 refine ⟨w8,dq,_,hoq,hea,p,n,M,s,hr'.h,lyN ls,ts.map (·.1),hi,hz,by rw [List.length_map];exact htl,fun H1 kp1 hh1=>?_⟩
 have hr1:=hr'.rule kp1 hh1
 obtain ⟨⟨dx,ho⟩,hd,hnd⟩:=id hr1.shf
 have fresh:∀b,H1 b=none→H b=none:=fun b e=>kp_none kp1 (fun hm=>hr1.free e (List.mem_cons_of_mem _ hm)) e
 have hlsl:(lyN ls).length≤60:=by
  have:=N25.nd_len hr1.ok.nd hr1.ok.s
  rw [List.length_map]at this
  omega
 clear hoq hea
 rename_i rest hrest
 subst hrest
 walk_at "go"
 refine ⟨dx,_,ho,by rfl,_,_,_,_,hr1.shf,?_⟩
 by_cases hzL:z∈lyN ls
 · have e:gask (T5 (C5.mk Z3 Z2 Z1 Z0 Z4) w8) (rm ts) n (s,lyN ls) z=((RuleT.asked _ n s z,lyN ls),(z,true,[])):=by unfold gask;rw [if_pos hzL]
   rw [if_pos hzL]
   rw [e]at q
   refine ⟨by omega,fun g hg=>⟨by omega,fun t ht=>?_⟩⟩
   have s1:Same H1 (upd H1 g (.lst [])):=Same.new hg
   have k1:upd H1 g (.lst []) g=some (.lst (([]:List Str).map V.str)):=upd_same
   generalize upd H1 g (.lst [])=H2 at s1 k1 ht ⊢
   have s2:Same H2 (upd H2 t (.tup [V.str z,V.bl true,V.ref g])):=Same.new ht
   exact q t g ls _ (kp_cons (kp1.trans (Kp.of (s1.trans s2)))) (fresh t (same_none s1 ht)) (fresh g hg) upd_same (s2 _ _ k1) rfl (hr1.same (s1.trans s2))
 rw [if_neg hzL]
 have eh:gask (T5 (C5.mk Z3 Z2 Z1 Z0 Z4) w8) (rm ts) n (s,lyN ls) z=((RuleT.came _ n (gf (T5 (C5.mk Z3 Z2 Z1 Z0 Z4) w8) (rm ts) n (rm ts z) (RuleT.asked _ n s z) (lyN ls) []).1 z,(gf (T5 (C5.mk Z3 Z2 Z1 Z0 Z4) w8) (rm ts) n (rm ts z) (RuleT.asked _ n s z) (lyN ls) []).2.1++[z]),(z,false,(gf (T5 (C5.mk Z3 Z2 Z1 Z0 Z4) w8) (rm ts) n (rm ts z) (RuleT.asked _ n s z) (lyN ls) []).2.2)):=by unfold gask;rw [if_neg hzL]
 rw [eh]at q
 clear eh
 have hm1:=RuleT.i_mid _ hi hz hzL
 obtain ⟨hI,hne,hsub,hnd2,hwl⟩:=gf_pos (R:=rm ts) (n:=n) (need:=rm ts z) _ _ _ [] rfl hm1 hzn
 obtain ⟨dy,e,kvs,h1,h2,h3,h4,h5⟩:=StockAt.has hr1.x.at
 rename_i rest hrest
 subst hrest
 walk_at "go"
 refine ⟨Z5,dx,_,ho,T.Z8,T.Zw,_,sfl_stock,_,rfl,dy,flds e,h1,by rfl,_,rfl,ts,hr1.x.at,nd,hz,w8,H0,p,d,M,n,ts,ls,_,hr1,z,hm1,hzn,by unfold lyN at hlsl;rw [List.length_map]at hlsl;exact hlsl,htl,Nat.le_trans (RuleT.c_ask (T5 (C5.mk Z3 Z2 Z1 Z0 Z4) w8) n s z) (by omega),fun g ls2 H2 kp2 hg hg2 hln2 hr2=>?_⟩
 obtain ⟨⟨dx2,ho2⟩,hd2,hnd2'⟩:=id hr2.shf
 have kp02:Kp (d::M) H H2:=(kp_cons kp1).trans kp2
 have ngo:=hr1.free hg
 have ngd:g≠d:=fun h=>ngo (by rw [h];simp)
 have ngm:g∉M:=fun h=>ngo (List.mem_cons_of_mem _ h)
 have hnl:z∉lyN ls2:=fun h=>hzL (hsub z (by rw [← hln2];exact h))
 have hlen2:ls2.length≤60:=by
  have e1:(lyN ls2).length=ls2.length:=by unfold lyN;rw [List.length_map]
  rw [hln2]at e1
  omega
 have hleft2:=hr2.left
 rw [hln2]at hleft2
 generalize gf (T5 (C5.mk Z3 Z2 Z1 Z0 Z4) w8) (rm ts) n (rm ts z) (RuleT.asked _ n s z) (lyN ls) []=F at hr2 hg2 q hne hI hleft2 hln2
 obtain ⟨s2,l2,w2⟩:=F
 simp only at hr2 hg2 q hne hI hleft2 hln2
 clear hr1 hh1 kp1 h1 h2 h3 h4 h5 ho hd hnd hsub hnd2 hwl
 rename_i rest hrest
 subst hrest
 walk_at "go"
 refine ⟨dx2,_,ho2,by rfl,_,_,_,_,hr2.shf,ts,hr2.x,nd,by omega,hz,rm ts z,fun t ht e=>?_,hnl,by omega,fun H3 sb3 hs3=>?_⟩
 · obtain ⟨i,hi'⟩:=List.getElem?_of_mem ht
   rw [← e,rm_at nd hi']
 have hr3:=hr2.shelf sb3 hs3 (hr2.ok.put hnl hz)
 obtain ⟨dq3,fs3,hoq3,o4,o5,o6,o7,o8,hec,o9⟩:=RuleT.obj _ hr3.h
 have hg3:=sb3 _ _ hg2 ngd
 have hl3:lyN (ls2++[(z,rm ts z)])=l2++[z]∧True:=⟨by unfold lyN at hln2 ⊢;rw [List.map_append,hln2];rfl,trivial⟩
 rw [hln2]at hnl
 rename_i rest hrest
 subst hrest
 walk_at "go"
 refine ⟨w8,dq3,_,hoq3,hec,p,n,M,s2,hr3.h,l2,ts.map (·.1),hI,hz,hnl,by rw [List.length_map];exact htl,fun H4 kp4 hh4=>?_⟩
 have hr4:=hr3.rule kp4 hh4
 have hg4:=kp4 _ _ ngm hg3
 have kp04:Kp (d::M) H H4:=(kp02.trans (kp_of_but sb3 (by simp))).trans (kp_cons kp4)
 rename_i rest hrest
 subst hrest
 walk_at "go"
 intro t ht
 exact q t g _ _ (kp04.trans (Kp.of (Same.new ht))) (kp_none kp04 (hr4.free ht) ht) (fresh g hg) upd_same (Same.new ht _ _ hg4) hl3.1 (hr4.same (Same.new ht))
theorem Z6d{f:Addr}{fd:FuncData}(F:Fun K "book_of" "book_of" Z3t f fd)(T:Txt K mg Z6 Z5 Z4 Z0 Z1 Z2 Z3)(Z2n:Def P w K mg base CX0 4 "check_asks" ["stock","asks","places"] (N41.sp41_asks K Z6))(Z2o:DefI P w K mg base CX0 4 "Shelf" Z5 ["self","stock","places"] (sp_sinit Z5))(Z4k:Def P w K mg base CX0 7 "row_of" ["rule","shelf","name"] (spI_row (T5 (C5.mk Z3 Z2 Z1 Z0 Z4)) K Z6 Z5)):FnOk P w K mg base CX0 8 f fd ["rule","asks"] (spI_bookN (T5 (C5.mk Z3 Z2 Z1 Z0 Z4)) K Z6 Z5):=by
 have sc:FnScope ["rule","asks","shelf"] ["rule","asks"] (defScope Z3t):=by walk_at "sc"
 refine F.ok sc (fun vs H Q E h=>?_) (fun cdv A outer s H vs Q E hr h=>?_)
 · obtain ⟨_,_,_,_,_,_,_,_,_,_,rfl,_⟩:=h;rfl
 obtain ⟨w8,H0,q',p,a,M,n,ts,ys,s0,rfl,hh,hi0,hsto,sm0,hm0,nd,htl,ha,ham,hlen,hin,hrm,hn1,hn2,hcn,q⟩:=h
 refine ⟨_,(@pss_cons _ _ _ _ _ (ps_expr (pe_callD Z2n hr rfl pass0 (pa_cons (pe_fld (pv 0) rfl) (pa_cons (pv 1) (pa_cons (pe_fld (pv 0) rfl) pa_nil)))))
  (@pss_cons _ _ _ _ _ (ps_set (i:=2) sc.nd rfl (Or.inr rfl) (pe_makeS Z2o hr rfl (passS pass0) (pa_cons (pe_fld (pv 0) rfl) (pa_cons (pe_fld (pv 0) rfl) pa_nil))))
  (@pss_one _ _ _ (@ps_ret _ _ _ _ (pe_comp1 "name" [0,2] rfl rfl (pi_list (pv 1)) (fun b=>(pe_callD Z4k hr rfl pass0 (pa_cons (pv 1) (pa_cons (pv 2) (pa_cons (pv 0) pa_nil)))))))))),?_⟩
 walk_at "st"
 have line:=line_val
 have hcl:∀w,Cls K (T5 (C5.mk Z3 Z2 Z1 Z0 Z4) w).C:=fun w=>by cases w;exact T.Zd;exact T.Zm;exact T.Zo;exact T.Zn;exact T.Z26
 have hns:∀w,NoAttr K (T5 (C5.mk Z3 Z2 Z1 Z0 Z4) w).C "stock":=fun w=>by cases w;exact T.Z0e;exact T.Z04;exact T.Z01;exact T.Z00;exact T.Z0c
 have hnp:∀w,NoAttr K (T5 (C5.mk Z3 Z2 Z1 Z0 Z4) w).C "places":=fun w=>by cases w;exact T.Z05;exact T.Z02;exact T.Zu;exact T.Zt;exact T.Z03
 obtain ⟨dq,fs,hoq,hst_,hpl_,o1⟩:=RuleT.obj _ hh
 walk_at "go"
 refine ⟨_,dq,_,hoq,hcl w8,hns w8,_,hst_,_,dq,_,hoq,hcl w8,hnp w8,_,hpl_,p,rfl,n,rfl,ts,hsto.same sm0,nd,ys,ha,hlen,hin,hrm,hn1,hn2,fun H1 sm1=>?_⟩
 have hh1:=at_same sm1 hh
 have ha1:=sm1.seq ha
 obtain ⟨dq1,fs1,hoq1,hst1,hpl1,o2⟩:=RuleT.obj _ hh1
 clear hoq hst_ hpl_
 rename_i rest hrest
 subst hrest
 walk_at "go"
 refine ⟨_,dq1,_,hoq1,hcl w8,hns w8,_,hst1,_,dq1,_,hoq1,hcl w8,hnp w8,_,hpl1,fun sh dx hsh hdx hne=>⟨dx,p,rfl,n,rfl,upd_same,hn1,hn2,fun H2 d sb hdn hs2=>?_⟩⟩
 have sm2:=new_same hsh hdx sb
 have hd0:=new_none hdn
 have hd1:H0 d=none:=same_none (sm0.trans sm1) hd0
 have nsh:sh∉M:=fun h=>RuleT.live _ hh1 _ h hsh
 have ndm:d∉M:=fun h=>RuleT.live _ hh1 _ h hd0
 have hr2:RunG (T5 (C5.mk Z3 Z2 Z1 Z0 Z4) w8) K Z6 Z5 H0 H2 q' p sh d M n ts [] s0:=⟨at_same sm2 hh1,hs2,hsto,(sm0.trans sm1).trans sm2,hm0,hd1,nsh,ndm,OkL.nil⟩
 have ha2:=sm2.seq ha1
 clear hdn sb hdx hsh hne hh1 hoq1 hs2 hst1 hpl1
 rename_i rest hrest
 subst hrest
 walk_at "go"
 refine ⟨⟨_,ha2⟩,?_⟩
 have kpM:∀{H':Hp},Kp (d::M) H2 H'→Kp M H1 H':=fun {H'} k b o nb e=>k b o (fun hm=>by
  rcases List.mem_cons.mp hm with e1 | e1
  · rw [e1,hd0]at e;cases e
  · exact nb e1) (sm2 _ _ e)
 refine comp_by ys.length fun b D hD=>⟨fun i zs H'=>∃(as gs:List Addr) (ls':Ly),zs=as.map V.ref∧as.length=i∧gs.length=i∧i≤ys.length∧H' D=some (.lst zs)∧Kp (d::M) H2 H'∧lyN ls'=(gst (T5 (C5.mk Z3 Z2 Z1 Z0 Z4) w8) (rm ts) n s0 ys i).2∧RunG (T5 (C5.mk Z3 Z2 Z1 Z0 Z4) w8) K Z6 Z5 H0 H' q' p sh d M n ts ls' (gst (T5 (C5.mk Z3 Z2 Z1 Z0 Z4) w8) (rm ts) n s0 ys i).1∧gs.Nodup∧∀(j:Nat) a g,as[j]?=some a→gs[j]?=some g→a∉d::M∧g∉d::M∧a≠D∧g≠D∧H' a=some (.tup [.str (NR.grow (T5 (C5.mk Z3 Z2 Z1 Z0 Z4) w8) (rm ts) n s0 ys j).1,.bl (NR.grow (T5 (C5.mk Z3 Z2 Z1 Z0 Z4) w8) (rm ts) n s0 ys j).2.1,.ref g])∧H' g=some (.lst ((NR.grow (T5 (C5.mk Z3 Z2 Z1 Z0 Z4) w8) (rm ts) n s0 ys j).2.2.map V.str))∧H1 a=none∧H1 g=none,⟨[],[],[],rfl,rfl,rfl,Nat.zero_le _,upd_same,Kp.of (Same.new hD),rfl,hr2.same (Same.new hD),List.nodup_nil,by simp⟩,?_,?_,?_⟩
 · rintro i zs H' ⟨as,gs,ls',_,_,_,_,h,_⟩
   exact h
 · rintro zs H' ⟨as,gs,ls',rfl,e1,e2,_,hDD,kp,hln,hr3,hnd,hall⟩
   have ha3:=SqL_kp ha1 (kpM kp) ham
   refine ⟨⟨_,ha3,by rw [List.length_map];exact Nat.le_refl _⟩,?_⟩
   have hrl:=grows_len (T:=(T5 (C5.mk Z3 Z2 Z1 Z0 Z4) w8)) (R:=rm ts) (n:=n) (s0:=s0) (ys:=ys) (i:=ys.length)
   have hra:∀j,j < ys.length→(grows (T5 (C5.mk Z3 Z2 Z1 Z0 Z4) w8) (rm ts) n s0 ys ys.length)[j]?=some (NR.grow (T5 (C5.mk Z3 Z2 Z1 Z0 Z4) w8) (rm ts) n s0 ys j):=fun j hj=>by unfold grows;rw [List.getElem?_map,List.getElem?_range hj];rfl
   refine q D as gs H' ((Kp.of sm1).trans (kpM kp)) hDD (fun i a hi=>?_) ⟨SqL.of hDD,by rw [e1,hrl],by rw [e2,hrl],fun i a g r h1 h2 h3=>?_⟩ hr3.h (same_none sm1 (same_none sm2 hD)) (fun hm=>?_) hnd (fun i a g h1 h2=>?_)
   · have hil:i < as.length:=(List.getElem?_eq_some_iff.mp hi).1
     obtain ⟨_,_,_,_,k1,_⟩:=hall i a _ hi (List.getElem?_eq_getElem (show i < gs.length by omega))
     exact ⟨_,k1⟩
   · have hil:i < as.length:=(List.getElem?_eq_some_iff.mp h1).1
     obtain ⟨_,_,_,_,k1,k2,_⟩:=hall i a g h1 h2
     rw [hra i (by omega)]at h3
     cases h3
     exact ⟨SqT.of k1,SqL.of k2⟩
   · obtain ⟨j,hj⟩:=List.mem_iff_getElem?.mp hm
     have hjl:j < gs.length:=(List.getElem?_eq_some_iff.mp hj).1
     obtain ⟨_,_,_,h4,_⟩:=hall j _ _ (List.getElem?_eq_getElem (show j < as.length by omega)) hj
     exact h4 rfl
   · obtain ⟨_,h2',_,_,k1,k2,z1,z2⟩:=hall i a g h1 h2
     exact ⟨same_none sm1 z1,same_none sm1 z2,fun hm=>h2' (List.mem_cons_of_mem _ hm),k1,k2⟩
 · rintro i zs H' hi ⟨as,gs,ls',rfl,e1,e2,_,hDD,kp,hln,hr3,hnd,hall⟩
   have ha3:=SqL_kp ha1 (kpM kp) ham
   have hz:=List.getElem?_eq_getElem hi
   generalize ys[i]'hi=z at hz
   refine ⟨⟨_,V.str z,ha3,by rw [List.getElem?_map,hz];rfl⟩,fun x H3 ⟨e3,ex⟩=>?_⟩
   subst e3
   have hx:=ex _ ha3
   rw [List.getElem?_map,hz]at hx
   cases hx
   have hsi:=gst_inv (R:=rm ts) hi0 hin hrm i (by omega)
   have hzm:=List.mem_of_getElem? hz
   have e1':=Nat.le_of_eq e1
   have e1'':=Nat.le_of_eq e1.symm
   have e2':=Nat.le_of_eq e2
   have e2'':=Nat.le_of_eq e2.symm
   clear e1 e2
   have hrowi:=grow_at (T:=(T5 (C5.mk Z3 Z2 Z1 Z0 Z4) w8)) (R:=rm ts) (n:=n) (s0:=s0) hz
   have hss:=gst_succ (T:=(T5 (C5.mk Z3 Z2 Z1 Z0 Z4) w8)) (R:=rm ts) (n:=n) (s0:=s0) hz
   have hpair:(gst (T5 (C5.mk Z3 Z2 Z1 Z0 Z4) w8) (rm ts) n s0 ys i)=((gst (T5 (C5.mk Z3 Z2 Z1 Z0 Z4) w8) (rm ts) n s0 ys i).1,lyN ls')∧True:=⟨by rw [hln],trivial⟩
   walk_at "go"
   refine ⟨w8,H0,p,d,M,n,ts,ls',_,hr3,by rw [hln];exact hsi.i,nd,htl,hin z hzm,hrm z hzm,Nat.le_trans (gst_cnt i (by omega)) (by omega),fun t g ls2 H4 kp4 ht hg ht4 hg4 hln4 hr4=>?_⟩
   rw [← hpair.1]at ht4 hg4 hln4 hr4
   have hD3:D∉d::M:=hr2.free hD
   have hDD4:=kp4 _ _ hD3 hDD
   have htD:t≠D:=fun e=>by rw [e,hDD]at ht;cases ht
   have hgD:g≠D:=fun e=>by rw [e,hDD]at hg;cases hg
   have ht1:H1 t=none:=kp_none (kpM kp) (fun hm=>hr3.free ht (List.mem_cons_of_mem _ hm)) ht
   have hg1:H1 g=none:=kp_none (kpM kp) (fun hm=>hr3.free hg (List.mem_cons_of_mem _ hm)) hg
   have hndg:(gs++[g]).Nodup:=by
    rw [List.nodup_append]
    refine ⟨hnd,by simp,fun x hx y hy e=>?_⟩
    obtain ⟨j,hj⟩:=List.mem_iff_getElem?.mp hx
    have hjl:j < gs.length:=(List.getElem?_eq_some_iff.mp hj).1
    obtain ⟨_,_,_,_,_,k2,_⟩:=hall j _ _ (List.getElem?_eq_getElem (show j < as.length by omega)) hj
    rw [e,List.mem_singleton.mp hy,hg]at k2;cases k2
   refine compNext hDD4 (by rw [List.length_map];omega) hi ⟨as++[t],by rw [List.map_append];rfl,by rw [List.length_append];simp only [List.length_cons,List.length_nil];omega,gs++[g],by rw [List.length_append];simp only [List.length_cons,List.length_nil];omega,hi,upd_same,kp_new (kp.trans kp4) hD,ls2,by rw [hss];exact hln4,?_,hndg,fun j a' g' h1 h2=>?_⟩
   · rw [hss]
     exact hr4.lst (fun b o e nb=>by rw [upd_ne nb];exact e) hDD4 (fun h=>hD3 (List.mem_cons_of_mem _ h)) (same_none hr2.sm hD)
   · rcases at_snoc h1 with ⟨l1,c1⟩ | ⟨l1,c1⟩
     · rcases at_snoc h2 with ⟨l2,c2⟩ | ⟨l2,c2⟩
       · obtain ⟨n1,n2,n3,n4,k1,k2,z1,z2⟩:=hall j a' g' c1 c2
         refine ⟨n1,n2,n3,n4,?_,?_,z1,z2⟩
         · rw [upd_ne n3];exact kp4 _ _ n1 k1
         · rw [upd_ne n4];exact kp4 _ _ n2 k2
       · omega
     · rcases at_snoc h2 with ⟨l2,c2⟩ | ⟨l2,c2⟩
       · omega
       · rw [c1,c2,show j=i by omega,hrowi]
         refine ⟨hr3.free ht,hr3.free hg,htD,hgD,?_,?_,ht1,hg1⟩
         · rw [upd_ne htD];exact ht4
         · rw [upd_ne hgD];exact hg4
theorem Z67{f:Addr}{fd:FuncData}(F:Fun K "parts_of" "parts_of" Z3e f fd)(T:Txt K mg Z6 Z5 Z4 Z0 Z1 Z2 Z3)(Zp:Def P w K mg base CX0 2 "is_within" ["thing","least","most"] (sp_within K)):FnOk P w K mg base CX0 3 f fd ["asks","most"] (sp55_parts K):=by
 have sc:FnScope ["asks","most","parts","start","seen","number","name"] ["asks","most"] (defScope Z3e):=by walk_at "sc"
 refine F.ok sc (fun vs H Q E h=>?_) (fun cdv A outer s H vs Q E hr h=>?_)
 · obtain ⟨_,_,_,rfl,_⟩:=h;rfl
 obtain ⟨a,ys,m,rfl,hS,hl,hm1,hm2,q⟩:=h
 refine ⟨_,(@pss_cons _ _ _ _ _ (ps_if (pt_not (pt_val (pe_callD Zp hr rfl pass0 (pa_cons (pv 1) (pa_cons pe_int (pa_cons (pe_gint rfl T.Z06) pa_nil))))))
  (@pss_one _ _ _ ps_never)
  pss_nil)
  (@pss_cons _ _ _ _ _ (ps_set (i:=2) sc.nd rfl (Or.inl rfl) (@pe_lst _ _ _ _ pa_nil))
  (@pss_cons _ _ _ _ _ (ps_set (i:=3) sc.nd rfl (Or.inl rfl) pe_int)
  (@pss_cons _ _ _ _ _ (ps_set (i:=4) sc.nd rfl (Or.inl rfl) pe_dnewK)
  (@pss_cons _ _ _ _ _ (ps_for PassesOwn.never rfl (pi_enum rfl T.Z0i (pa_cons (pv 0) pa_nil)) (pg_tup rfl (pgs_cons (pg_name (i:=5) sc.nd rfl (Or.inl rfl)) (pgs_cons (pg_name (i:=6) sc.nd rfl (Or.inl rfl)) pgs_nil)))
   (@pss_cons _ _ _ _ _ (ps_if (PW.pt (pw_and (pt_cmp (pc_dnotin (hu_of hr) (pv 6) (pv 4))) (pw_and1 (pt_cmpR op_eq (pe_callB call_lenD rfl T.Zq PySem.boot_len (pa_cons (pv 4) pa_nil)) (pv 1) (nomark _)))))
    (@pss_cons _ _ _ _ _ (ps_expr (pe_bm PySem.F.plainAttrs_list PySem.F.slot_list_append PySem.F.type_list_append mt_append (pv 2) (pa_cons (pe_tup (pa_cons (pv 3) (pa_cons (pv 5) pa_nil))) pa_nil)))
    (@pss_cons _ _ _ _ _ (ps_set (i:=3) sc.nd rfl (Or.inl rfl) (pv 5))
    (@pss_one _ _ _ (ps_set (i:=4) sc.nd rfl (Or.inl rfl) pe_dnewK))))
    pss_nil)
   (@pss_one _ _ _ (ps_dput (hu_of hr) (pv 4) (pv 6) pe_bl rfl))))
  (@pss_cons _ _ _ _ _ (ps_if (pt_cmpR op_lt (pv 3) (pe_callB call_len_seq rfl T.Zq PySem.boot_len (pa_cons (pv 0) pa_nil)) (nomark _))
   (@pss_one _ _ _ (ps_expr (pe_bm PySem.F.plainAttrs_list PySem.F.slot_list_append PySem.F.type_list_append mt_append (pv 2) (pa_cons (pe_tup (pa_cons (pv 3) (pa_cons (pe_callB call_len_seq rfl T.Zq PySem.boot_len (pa_cons (pv 0) pa_nil)) pa_nil))) pa_nil))))
   pss_nil)
  (@pss_one _ _ _ (@ps_ret _ _ _ _ (pv 2))))))))),?_⟩
 walk_at "st"
 have line:=line_val
 walk_at "go"
 rw [if_neg (by rw [wIn_is hm1 hm2];decide)]
 refine ⟨rfl,?_⟩
 walk_at "go"
 intro p hp
 walk_at "go"
 intro d hd
 walk_at "go"
 have ndp:d≠p:=(ne_of_none upd_same hd).symm
 have hd0:H d=none:=by rw [upd_ne ndp]at hd;exact hd
 have sm0:Same H (upd (upd H p (.lst [])) d (.dK [])):=(Same.new hp).trans (Same.new hd)
 have hp0:PtsAt K (upd (upd H p (.lst [])) d (.dK [])) p []:=⟨by rw [upd_ne ndp.symm];exact upd_same,fun r hr=>by cases hr⟩
 have hd1:upd (upd H p (.lst [])) d (.dK []) d=some (.dK []):=upd_same
 generalize upd (upd H p (.lst [])) d (.dK [])=H1 at sm0 hp0 hd1 ⊢
 refine ⟨⟨_,sm0.seq hS⟩,?_⟩
 rename_i rest hrest
 refine forE_by (xs:=ys.map V.str) (fun i σ H'=>∃(rs:List Pt) (d:Addr) (kvs:List (Key×V)) (v5 v6:Option V),σ=[some (V.ref a),some (V.int m),some (V.ref p),some (V.int (pst m ys i).2.1),some (V.ref d),v5,v6]∧Same H H'∧PtsAt K H' p rs∧rs.map (·.2)=(pst m ys i).1∧H' d=some (.dK kvs)∧kvs.map (·.1)=(pst m ys i).2.2.map Sum.inr∧d≠p∧H d=none)
  ⟨[],d,[],none,none,rfl,sm0,hp0,rfl,hd1,rfl,ndp,hd0⟩ (fun i σ H' _ ⟨rs,d,kvs,v5,v6,_,sm,_⟩=>sm.seq hS) ?_ ?_
 · rintro i x σ H' t hx ⟨rs,d,kvs,v5,v6,rfl,sm,hP,hrs,hd2,hk,nd,hdn⟩ ht
   rw [List.getElem?_map]at hx
   cases hy:ys[i]? with
   | none=>rw [hy]at hx;cases hx
   | some y=>
    rw [hy]at hx
    cases hx
    have hyD:ys.getD i Str.empty=y:=by rw [List.getD_eq_getElem?_getD,hy];rfl
    have hil:i < ys.length:=(List.getElem?_eq_some_iff.mp hy).1
    have hst:pst m ys (i+1)=stp m i y (pst m ys i):=by rw [← hyD];rfl
    have hsm:=pst_small (m:=m) (ys:=ys) i
    rw [hst]
    generalize pst m ys i=ps at hrs hk hsm ⊢
    obtain ⟨p1,p2,p3⟩:=ps
    simp only at hrs hk hsm ⊢
    subst hrs
    walk_at "go"
    refine ⟨_,SqT.of upd_same,rfl,_,_,rfl,_,_,rfl,rfl,?_⟩
    have smt:Same H' (upd H' t (.tup [.int i,.str y])):=Same.new ht
    have sm2:=sm.trans smt
    have hP2:=hP.same smt
    have hd3:=smt _ _ hd2
    generalize upd H' t (.tup [.int i,.str y])=H2 at sm2 hP2 hd3 smt ⊢
    clear sm hP hd2 ht
    have hkl:=congrArg List.length hk
    rw [List.length_map,List.length_map]at hkl
    walk_at "go"
    rename_i rest2 hrest2
    have key:∀(rs2:List Pt) (d2:Addr) (kvs2:List (Key×V)) (ks2:List Str) (st2:Nat) (H3:Hp),Same H H3→PtsAt K H3 p rs2→H3 d2=some (.dK kvs2)→kvs2.map (·.1)=ks2.map Sum.inr→d2≠p→H d2=none→ks2.length≤250→
     stp m i y (rs.map (·.2),p2,p3)=(rs2.map (·.2),st2,if y∈ks2 then ks2 else ks2++[y])→rest2 [some (V.ref a),some (V.int m),some (V.ref p),some (V.int st2),some (V.ref d2),some (V.int i),some (V.str y)] H3:=by
     intro rs2 d2 kvs2 ks2 st2 H3 g1 g2 g3 g4 g5 g6 g7 e
     have g8:=congrArg List.length g4
     rw [List.length_map,List.length_map]at g8
     subst hrest2
     rw [e]
     walk_at "go"
     refine ⟨_,DPut.k (k:=Sum.inr y) g3 (by omega),N53.same_upd g1 g6,rs2,⟨by rw [upd_ne g5.symm];exact g2.1,fun r hr=>?_⟩,rfl,_,upd_same,put_both g4,g5,g6⟩
     have h1:=g2.2 r hr
     rw [upd_ne (fun z=>by rw [z,g3]at h1;cases h1)]
     exact h1
    clear hrest2
    refine ⟨_,DGet.k (k:=Sum.inr y) hd3,?_⟩
    rw [key_mem hk]
    by_cases hin:y∈p3
    · rw [if_neg (by simp [hin])]
      refine key rs d kvs p3 p2 H2 sm2 hP2 hd3 hk nd hdn (by omega) ?_
      unfold stp
      rw [if_neg (fun h=>h.1 hin)]
    · rw [if_pos (by simp [hin])]
      refine ⟨_,hd3,?_⟩
      rw [hkl]
      split
      · rename_i hlen
        have e1:stp m i y (rs.map (·.2),p2,p3)=(rs.map (·.2)++[(p2,i)],i,[y]):=by
         unfold stp
         rw [if_pos ⟨hin,hlen⟩]
        rw [List.length_map]at hsm
        clear hlen
        walk_at "go"
        refine ⟨.inl ⟨rfl,_,SqL.of hP2.1⟩,by rw [line];decide,fun t2 ht2=>?_⟩
        have npt:p≠t2:=ne_of_none hP2.1 ht2
        refine ⟨p,_,_,rfl,rfl,by rw [upd_ne npt];exact hP2.1,by rw [List.length_map];omega,?_⟩
        walk_at "go"
        have sm3:=N53.same_upd (o:= .lst ((rs.map fun r=>V.ref r.1)++[V.ref t2])) (sm2.trans (Same.new (o:= .tup [.int p2,.int i]) ht2)) hp
        have hP3:PtsAt K (upd (upd H2 t2 (.tup [.int p2,.int i])) p (.lst ((rs.map fun r=>V.ref r.1)++[V.ref t2]))) p (rs++[(t2,p2,i)]):=by
         refine ⟨by rw [upd_same,List.map_append];rfl,fun r hr=>?_⟩
         rcases List.mem_append.mp hr with hr | hr
         · have h1:=hP2.2 r hr
           have n1:r.1≠t2:=ne_of_none h1 ht2
           have n2:r.1≠p:=fun e=>by rw [e,hP2.1]at h1;cases h1
           rw [upd_ne n2,upd_ne n1];exact h1
         · rw [List.mem_singleton.mp hr,upd_ne npt.symm,upd_same]
        generalize upd (upd H2 t2 (.tup [.int p2,.int i])) p (.lst ((rs.map fun r=>V.ref r.1)++[V.ref t2]))=H3 at sm3 hP3 ⊢
        walk_at "go"
        intro d2 hd2
        have n2:d2≠p:=(ne_of_none hP3.1 hd2).symm
        refine key (rs++[(t2,p2,i)]) d2 [] [] i _ (sm3.trans (Same.new hd2)) (hP3.same (Same.new hd2)) upd_same rfl n2 (N53.none_of sm3 hd2) (by decide) ?_
        rw [e1,List.map_append]
        rfl
      · rename_i hlen
        refine key rs d kvs p3 p2 H2 sm2 hP2 hd3 hk nd hdn (by omega) ?_
        unfold stp
        rw [if_neg (fun h=>hlen h.2)]
 · rintro σ H' ⟨rs,d,kvs,v5,v6,rfl,sm,hP,hrs,hd2,hk,nd,hdn⟩
   rw [List.length_map]at hrs hk ⊢
   have hpl:=congrArg List.length hrs
   have hsm:=pst_small (m:=m) (ys:=ys) ys.length
   rw [List.length_map]at hpl
   walk_at "go"
   refine ⟨_,.inl (sm.seq hS),?_⟩
   rw [List.length_map]
   split
   · rename_i hlt
     refine ⟨.inl ⟨rfl,_,SqL.of hP.1⟩,_,.inl (sm.seq hS),by rw [line];decide,fun t ht=>?_⟩
     rw [List.length_map]
     have npt:p≠t:=ne_of_none hP.1 ht
     refine ⟨p,_,_,rfl,rfl,by rw [upd_ne npt];exact hP.1,by rw [List.length_map];omega,?_⟩
     walk_at "go"
     refine q p (rs++[(t,(pst m ys ys.length).2.1,ys.length)]) _ hp (N53.same_upd (sm.trans (Same.new ht)) hp) ⟨?_,?_⟩ ?_
     · rw [upd_same,List.map_append];rfl
     · intro r hr
       rcases List.mem_append.mp hr with hr | hr
       · have h1:=hP.2 r hr
         have n1:r.1≠t:=ne_of_none h1 ht
         have n2:r.1≠p:=fun e=>by rw [e,hP.1]at h1;cases h1
         rw [upd_ne n2,upd_ne n1];exact h1
       · rw [List.mem_singleton.mp hr,upd_ne npt.symm,upd_same]
     · rw [List.map_append,hrs]
       unfold partsOf
       rw [if_pos (by omega)]
       rfl
   · rename_i hlt
     walk_at "go"
     refine q p rs _ hp sm hP ?_
     rw [hrs]
     unfold partsOf
     rw [if_neg (by omega)]
theorem Z6e{f:Addr}{fd:FuncData}(F:Fun K "weighed" "weighed" Z3u f fd)(T:Txt K mg Z6 Z5 Z4 Z0 Z1 Z2 Z3):FnOk P w K mg base CX0 2 f fd ["book","weigh"] (sp55_weighed K):=by
 have sc:FnScope ["book","weigh"] ["book","weigh"] (defScope Z3u):=by walk_at "sc"
 refine F.ok sc (fun vs H Q E h=>?_) (fun cdv A outer s H vs Q E hr h=>?_)
 · obtain ⟨_,_,_,rfl,_⟩:=h;rfl
 obtain ⟨p,f,bs,rfl,hB,hbl,hF,q⟩:=h
 refine ⟨_,(@pss_one _ _ _ (@ps_ret _ _ _ _ (pe_callB (call_sumL rfl) rfl T.Z46 (by first | rfl | decide+kernel) (pa_cons (pe_compI "row" [1] rfl rfl (pi_list (pv 0)) (fun b=>(pt_not (pt_val (@pe_ix _ _ _ _ _ _ _ ix_tup (pv 0) pe_int (fun _ _=>rfl))))) (fun b=>(pe_callO 1 hr (pv 1) (pa_cons (@pe_ix _ _ _ _ _ _ _ ix_tup (pv 0) pe_int (fun _ _=>rfl)) pa_nil)))) pa_nil)))),?_⟩
 walk_at "st"
 have line:=line_val
 walk_at "go"
 refine ⟨⟨_,SqL.of hB.l⟩,compL_if (xs:=bs.map fun r=>V.ref r.1) (misV H) (fun _=>V.int 1) (SqL.of hB.l) (by rw [List.length_map];omega) ?_ ?_ ?_⟩
 · intro b v H5 QT hx sm q'
   obtain ⟨r,hr,rfl⟩:=List.mem_map.mp hx
   have q2:=q' H5 (Same.refl _)
   rw [misV_is (hB.t r hr)]at q2
   have g3:=sm _ _ (hB.t r hr)
   walk_at "go"
   exact ixT_of (SqT.of g3) rfl ⟨_,rfl,q2⟩
 · intro b v H5 Q' hx _ sm q'
   obtain ⟨r,hr,rfl⟩:=List.mem_map.mp hx
   have g3:=sm _ _ (hB.t r hr)
   have hF2:=hF.same sm
   walk_at "go"
   exact ixT_of (SqT.of g3) rfl ⟨hF2,q' _ (Same.refl _)⟩
 · intro D H' hD sm hD2
   rw [ones_map]at hD2
   have q2:=q H' sm
   rw [← mis_len hB.t,← ones_sumI]at q2
   exact ⟨D,rfl,_,SqL.of hD2,q2⟩
theorem Z62{f:Addr}{fd:FuncData}(F:Fun K "missed_by" "missed_by" Z0b f fd)(T:Txt K mg Z6 Z5 Z4 Z0 Z1 Z2 Z3)(Z40:Def P w K mg base CX0 2 "weighed" ["book","weigh"] (sp55_weighed K))(M:MkAt K f 399)(HB:base.BuiltinsAt mg 399):FnOk P w K mg base CX0 3 f fd ["book"] (sp55_missed 399 (⟨159,25,159,39⟩:Pos) "missed_by.<locals>.<lambda>"):=by
 have sc:FnScope ["book"] ["book"] (defScope Z0b):=by walk_at "sc"
 refine F.okC M sc (fun vs H Q E h=>?_) (fun c A outer s H vs Q E hc hr h=>?_)
 · obtain ⟨_,_,rfl,_⟩:=h;rfl
 obtain ⟨p,bs,rfl,hB,hbl,hL,q⟩:=h
 refine ⟨_,(@pss_one _ _ _ (@ps_ret _ _ _ _ (pe_callD Z40 hr rfl pass0 (pa_cons (pv 0) (pa_cons (pe_lam rfl rfl rfl hc (by decide) HB) pa_nil))))),?_⟩
 walk_at "st"
 have line:=line_val
 have eq:(cxOf CX0 P w K mg base [Str.ofString "book"] (Str.ofString "missed_by") (defScope Z0b) f (Value.ref c) A outer s H E).env.qual++Str.ofString "<lambda>"=Str.ofString "missed_by.<locals>.<lambda>":=Eq.trans (show _=(Str.ofString "missed_by"++Str.ofString ".<locals>.")++Str.ofString "<lambda>" from rfl) (by decide+kernel)
 walk_at "go"
 rw [eq]
 clear eq
 refine ⟨hL,fun f2 c2 ct H2 hf2 sb hL2 hc2 hff=>?_⟩
 walk_at "go"
 exact ⟨bs,BkAt.tk ⟨sb,hL2⟩ hL hB,hbl,⟨Str.ofString "name",_,_,_,_,_,_,c2,ct,fun _ _ _=>rfl,rfl,rfl,rfl,by decide+kernel,rfl,hff,hc2⟩,fun H3 sm3=>q _ ⟨sb.trans (.of sm3),lam_same sm3 hL2⟩⟩
theorem Z63{f:Addr}{fd:FuncData}(F:Fun K "missed_in" "missed_in" Z31 f fd)(T:Txt K mg Z6 Z5 Z4 Z0 Z1 Z2 Z3)(Z39:Def P w K mg base CX0 3 "missed_by" ["book"] (sp55_missed 399 (⟨159,25,159,39⟩:Pos) "missed_by.<locals>.<lambda>")):FnOk P w K mg base CX0 4 f fd ["book","parts"] (sp55_in K 399 (⟨159,25,159,39⟩:Pos) "missed_by.<locals>.<lambda>"):=by
 have sc:FnScope ["book","parts"] ["book","parts"] (defScope Z31):=by walk_at "sc"
 refine F.ok sc (fun vs H Q E h=>?_) (fun cdv A outer s H vs Q E hr h=>?_)
 · obtain ⟨_,_,_,_,rfl,_⟩:=h;rfl
 obtain ⟨p,r,bs,rs,rfl,hB,hbl,hP,hrl,hrs,hL,q⟩:=h
 refine ⟨_,(@pss_one _ _ _ (@ps_ret _ _ _ _ (pe_comp2 "start" "end" [0] rfl rfl (pi_list (pv 1)) (fun b=>(pe_callD Z39 hr rfl pass0 (pa_cons (pe_slice sl_list (pv 2) (po_some (pv 0)) (po_some (pv 1))) pa_nil)))))),?_⟩
 walk_at "st"
 have line:=line_val
 walk_at "go"
 have e1:(rs.map fun r=>V.ref r.1)=(rs.map fun r=>r.1).map V.ref:=by rw [List.map_map];rfl
 refine ⟨⟨_,SqL.of hP.1⟩,compL_2T (as:=rs.map fun r=>r.1) (fun i=> .int (rs.getD i pt0).2.1) (fun i=> .int (rs.getD i pt0).2.2) (fun i=> .int (mis (slB (brs bs) (rs.getD i pt0).2.1 (rs.getD i pt0).2.2))) hL (e1▸hP.1) (by rw [List.length_map];omega) (fun i c hi=>?_) (fun b i H5 Q' hi t5 q'=>?_) fun D H' hD tk hD2=>?_⟩
 · have hi2:i < rs.length:=by
    have:=(List.getElem?_eq_some_iff.mp hi).1
    rw [List.length_map]at this;exact this
   obtain ⟨g1,g2,_⟩:=pt_at hi2
   rw [g2]at hi
   cases hi
   exact hP.2 _ g1
 · rw [List.length_map]at hi
   obtain ⟨g1,_,_⟩:=pt_at hi
   generalize rs.getD i pt0=r at g1 q' ⊢
   obtain ⟨h1,h2⟩:=hrs r g1
   have hB5:=BkAt.tk t5 hL hB
   walk_at "go"
   refine ⟨_,SqL.of hB5.l,fun l hl=>?_⟩
   rw [cut_rows bs _ _ h1 h2]
   have sm6:Same H5 (upd H5 l (.lst (((bs.drop r.2.1).take (r.2.2 - r.2.1)).map fun r=>V.ref r.1))):=Same.new hl
   refine ⟨(bs.drop r.2.1).take (r.2.2 - r.2.1),⟨upd_same,fun x hx=>sm6 _ _ (hB5.t x (List.mem_of_mem_drop (List.mem_of_mem_take hx)))⟩,?_,lam_same sm6 t5.lam,fun H7 t7=>?_⟩
   · rw [List.length_take,List.length_drop];omega
   · rw [brs_sl]
     exact q' _ ((Tk.of t5.lam sm6).trans t7)
 · rw [pts_list rs fun r=>V.int (mis (slB (brs bs) r.2.1 r.2.2))]at hD2
   exact q D H' hD tk hD2
theorem Z6k{f:Addr}{fd:FuncData}(F:Fun K "_law_cell" "_law_cell" Z4f f fd)(T:Txt K mg Z6 Z5 Z4 Z0 Z1 Z2 Z3):FnOk P w K mg base CX0 1 f fd ["_law_script","_law_k"] (sp_cell K):=by
 have sc:FnScope ["_law_script","_law_k"] ["_law_script","_law_k"] (defScope Z4f):=by walk_at "sc"
 refine F.ok sc (fun vs H Q E h=>?_) (fun cdv A outer s H vs Q E hr h=>?_)
 · obtain ⟨_,_,_,rfl,_⟩:=h;rfl
 obtain ⟨a,ns,k,rfl,hS,h0,hl,q⟩:=h
 refine ⟨_,(@pss_cons _ _ _ _ _ (ps_if (pt_cmpR op_lt (pv 1) (pe_callB call_len_seq rfl T.Zq PySem.boot_len (pa_cons (pv 0) pa_nil)) (nomark _))
  (@pss_one _ _ _ (@ps_ret _ _ _ _ (@pe_ix _ _ _ _ _ _ _ ix_list (pv 0) (pv 1) (fun _ _=>rfl))))
  pss_nil)
  (@pss_one _ _ _ (@ps_ret _ _ _ _ pe_int))),?_⟩
 walk_at "st"
 walk_at "go"
 rw [List.length_map]
 split
 · rename_i hk
   exact ixL_of hS (atI_of h0 (getMap (by omega))) q
 · rename_i hk
   rw [List.getD_eq_getElem?_getD,List.getElem?_eq_none (by omega)]at q
   walk_at "go"
   exact q
theorem Z68{f:Addr}{fd:FuncData}(F:Fun K "_law_stream" "_law_stream" Z3f f fd)(T:Txt K mg Z6 Z5 Z4 Z0 Z1 Z2 Z3):FnOk P w K mg base CX0 1 f fd ["_law_cell_here","_law_many"] (sp20_stream):=by
 have sc:FnScope ["_law_cell_here","_law_many","_law_found","_law_number","_law_k"] ["_law_cell_here","_law_many"] (defScope Z3f):=by walk_at "sc"
 refine F.ok sc (fun vs H Q E h=>?_) (fun cdv A outer s H vs Q E hr h=>?_)
 · obtain ⟨_,_,rfl,_⟩:=h;rfl
 obtain ⟨c,m,rfl,hm,q⟩:=h
 refine ⟨_,(@pss_cons _ _ _ _ _ (ps_set (i:=2) sc.nd rfl (Or.inl rfl) (@pe_lst _ _ _ _ pa_nil))
  (@pss_cons _ _ _ _ _ (ps_set (i:=3) sc.nd rfl (Or.inl rfl) (pe_op op_add (pe_op op_mod (pv 0) pe_int) pe_int))
  (@pss_cons _ _ _ _ _ (ps_for PassesOwn.never rfl (pi_range1 rfl T.Z0h (pa_cons (pv 1) pa_nil)) (pg_name (i:=4) sc.nd rfl (Or.inl rfl))
   (@pss_cons _ _ _ _ _ (ps_set (i:=3) sc.nd rfl (Or.inl rfl) (pe_op op_mod (pe_op op_add (pe_op op_add (pe_op op_mul (pv 3) pe_int) (pe_op op_mul pe_int (pv 4))) pe_int) pe_int))
   (@pss_one _ _ _ (ps_expr (pe_bm PySem.F.plainAttrs_list PySem.F.slot_list_append PySem.F.type_list_append mt_append (pv 2) (pa_cons (pe_op op_fdiv (pv 3) pe_int) pa_nil))))))
  (@pss_one _ _ _ (@ps_ret _ _ _ _ (pv 2)))))),?_⟩
 walk_at "st"
 have line:=line_val
 have hx0:=Int.emod_nonneg c (show (2147483629:Int)≠0 by decide)
 have hx1:=Int.emod_lt_of_pos c (show (0:Int) < 2147483629 by decide)
 walk_at "go"
 intro p hp
 rename_i rest hrest
 subst hrest
 walk_at "go"
 refine forR_by (fun k σ H'=>∃(nu:Int) (v4:Option V) (xs:List Int),σ=[some (V.int c),some (V.int m),some (V.ref p),some (V.int nu),v4]∧0≤nu∧nu < 10 ^ 10∧H'=upd H p (.lst (xs.map V.int))∧xs.length≤k∧k≤xs.length∧∀x∈xs,0≤x) ⟨_,none,[],rfl,by omega,by omega,rfl,Nat.le_refl _,Nat.le_refl _,by simp⟩ ?_ ?_
 · rintro k σ H' hk ⟨nu,v4,xs,rfl,h0,h1,rfl,hl1,hl2,hxs⟩
   walk_at "go"
   have hy0:=Int.emod_nonneg (nu * 48271+7919 * (k:Int)+1) (show (2147483647:Int)≠0 by decide)
   have hy1:=Int.emod_lt_of_pos (nu * 48271+7919 * (k:Int)+1) (show (0:Int) < 2147483647 by decide)
   generalize (nu * 48271+7919 * (k:Int)+1) % 2147483647=u at hy0 hy1 ⊢
   refine ⟨.inl ⟨rfl,_,SqL.of upd_same⟩,cdiv_of (by decide) (by decide),p,_,_,rfl,rfl,upd_same,by rw [List.length_map];omega,by omega,by omega,xs++[u / 5],?_,by rw [List.length_append];simp only [List.length_cons,List.length_nil];omega,by rw [List.length_append];simp only [List.length_cons,List.length_nil];omega,fun x hx=>?_⟩
   · rw [upd_upd,List.map_append];rfl
   · rcases List.mem_append.mp hx with hx | hx
     · exact hxs x hx
     · rw [List.mem_singleton.mp hx];omega
 · rintro σ H' ⟨nu,v4,xs,rfl,h0,h1,rfl,hl1,hl2,hxs⟩
   walk_at "go"
   exact q p xs _ hp (Same.new hp) upd_same (by omega) hxs
theorem Z6f{f:Addr}{fd:FuncData}(F:Fun K "_law_names" "_law_names" Z3v f fd)(T:Txt K mg Z6 Z5 Z4 Z0 Z1 Z2 Z3):FnOk P w K mg base CX0 1 f fd ["_law_cell_here","_law_many"] (sp20_names):=by
 have sc:FnScope ["_law_cell_here","_law_many","_law_signs","_law_tail","_law_size","_law_at","_law_base","_law_names_here","_law_k","_law_sign"] ["_law_cell_here","_law_many"] (defScope Z3v):=by walk_at "sc"
 refine F.ok sc (fun vs H Q E h=>?_) (fun cdv A outer s H vs Q E hr h=>?_)
 · obtain ⟨_,_,rfl,_⟩:=h;rfl
 obtain ⟨c,m,rfl,hm,q⟩:=h
 refine ⟨_,(@pss_cons _ _ _ _ _ (ps_set (i:=2) sc.nd rfl (Or.inr rfl) pe_str)
  (@pss_cons _ _ _ _ _ (ps_set (i:=3) sc.nd rfl (Or.inr rfl) (pe_bm PySem.F.plainAttrs_str PySem.F.slot_str_join PySem.F.type_str_join mt_join pe_str (pa_cons (pe_comp1 "_law_k" [2,0] rfl rfl (pi_range2 rfl T.Z0h (pa_cons pe_int (pa_cons pe_int pa_nil))) (fun b=>(@pe_ix _ _ _ _ _ _ _ ix_str (pv 1) (pe_op op_mod (pe_op op_add (pe_op op_fdiv (pv 2) pe_int) (pe_op op_mulB (pe_op op_mul pe_int (pv 0)) (pv 0))) pe_int) (fun _ _=>rfl)))) pa_nil)))
  (@pss_cons _ _ _ _ _ (ps_if (pt_cmpR op_eq (pe_op op_mod (pv 0) pe_int) pe_int (nomark _))
   (@pss_one _ _ _ (@ps_ret _ _ _ _ (pe_comp1 "_law_k" [2,3,0] rfl rfl (pi_range1 rfl T.Z0h (pa_cons (pv 1) pa_nil)) (fun b=>(pe_op op_add_str (@pe_ix _ _ _ _ _ _ _ ix_str (pv 1) (pe_op op_mod (pe_op op_add (pe_op op_fdiv (pv 3) pe_int) (pe_op op_fdiv (pv 0) pe_int)) pe_int) (fun _ _=>rfl)) (pe_slice sl_str (pv 2) po_none (po_some (pe_op op_mod (pv 0) pe_int))))))))
   pss_nil)
  (@pss_cons _ _ _ _ _ (ps_set (i:=4) sc.nd rfl (Or.inl rfl) (pe_op op_add pe_int (pe_op op_mod (pe_op op_fdiv (pv 0) pe_int) pe_int)))
  (@pss_cons _ _ _ _ _ (ps_set (i:=5) sc.nd rfl (Or.inl rfl) (pe_op op_mod (pe_op op_fdiv (pv 0) pe_int) (pv 4)))
  (@pss_cons _ _ _ _ _ (ps_set (i:=6) sc.nd rfl (Or.inl rfl) (pe_op op_add_str (@pe_ix _ _ _ _ _ _ _ ix_str (pv 2) (pe_op op_mod (pe_op op_fdiv (pv 0) pe_int) pe_int) (fun _ _=>rfl)) (pe_slice sl_str (pv 3) po_none (po_some (pe_op op_sub (pv 4) pe_int)))))
  (@pss_cons _ _ _ _ _ (ps_set (i:=7) sc.nd rfl (Or.inl rfl) (@pe_lst _ _ _ _ pa_nil))
  (@pss_cons _ _ _ _ _ (ps_for PassesOwn.never rfl (pi_range1 rfl T.Z0h (pa_cons (pv 1) pa_nil)) (pg_name (i:=8) sc.nd rfl (Or.inl rfl))
   (@pss_cons _ _ _ _ _ (ps_set (i:=9) sc.nd rfl (Or.inl rfl) (@pe_ix _ _ _ _ _ _ _ ix_str (pv 2) (pe_op op_mod (pe_op op_add (pe_op op_fdiv (pv 0) pe_int) (pv 8)) pe_int) (fun _ _=>rfl)))
   (@pss_one _ _ _ (ps_expr (pe_bm PySem.F.plainAttrs_list PySem.F.slot_list_append PySem.F.type_list_append mt_append (pv 7) (pa_cons (pe_op op_add_str (pe_op op_add_str (pe_op op_add_str (pe_slice sl_str (pv 6) po_none (po_some (pv 5))) (pv 9)) (pe_slice sl_str (pv 6) (po_some (pe_op op_add (pv 5) pe_int)) po_none)) (pe_slice sl_str pe_str po_none (po_some (pe_op op_fdiv (pv 8) pe_int)))) pa_nil))))))
  (@pss_one _ _ _ (@ps_ret _ _ _ _ (pv 7))))))))))),?_⟩
 walk_at "st"
 have line:=line_val
 have bl:=both_length
 walk_at "go"
 refine compR_pure (n:=7) (fun k=>V.str ⟨#[bc ((c / 36+5 * k * k) % 36)]⟩) (by omega) (fun b k H' Q' hk sm q'=>?_) fun D hD=>?_
 · walk_at "go"
   refine ⟨⟨by omega,by omega⟩,by decide,ixS_of (by omega) (ix_bc _ (by decide) (by decide)) q'⟩
 have etl:(List.range 7).map (fun i:Nat=>V.str ⟨#[bc ((c / 36+5 * (1+(i:Int)) * (1+(i:Int))) % 36)]⟩)=(((List.range 7).map fun j:Nat=>bc ((c / 36+5 * (1+(j:Int)) * (1+(j:Int))) % 36)).map fun c=>(⟨#[c]⟩:Str)).map V.str:=by
  rw [List.map_map,List.map_map];rfl
 rw [etl]
 clear etl
 have htl:((List.range 7).map fun j:Nat=>bc ((c / 36+5 * (1+(j:Int)) * (1+(j:Int))) % 36)).length=7∧True:=⟨by rw [List.length_map,List.length_range],trivial⟩
 have hnm1:∀k,nm1 (c / 4) (fun j:Nat=>c / 36+5 * (1+(j:Int)) * (1+(j:Int))) k=bc ((c / 4+k / 8) % 26)::((List.range 7).map fun j:Nat=>bc ((c / 36+5 * (1+(j:Int)) * (1+(j:Int))) % 36)).take (k % 8):=fun k=>rfl
 have hnd:((List.range m).map fun k=>tx (nm1 (c / 4) (fun j:Nat=>c / 36+5 * (1+(j:Int)) * (1+(j:Int))) k)).Nodup:=tx_nodup fun a b ha hb e=>nm1_inj (by omega) (by omega) e
 have hnn:∀k,nameB (nm1 (c / 4) (fun j:Nat=>c / 36+5 * (1+(j:Int)) * (1+(j:Int))) k)=true:=fun k=>nm1_name
 have htc:∀x∈(List.range 7).map (fun j:Nat=>bc ((c / 36+5 * (1+(j:Int)) * (1+(j:Int))) % 36)),x∈letters++figures:=fun x hx=>by
  obtain ⟨j,_,rfl⟩:=List.mem_map.mp hx
  exact bc_both
 generalize nm1 (c / 4) (fun j:Nat=>c / 36+5 * (1+(j:Int)) * (1+(j:Int)))=N at hnm1 hnd hnn
 generalize (List.range 7).map (fun j:Nat=>bc ((c / 36+5 * (1+(j:Int)) * (1+(j:Int))) % 36))=tl at htl hnm1 htc ⊢
 have hsum:((tl.map fun c=>(⟨#[c]⟩:Str)).map (·.length)).sum≤7:=by
  rw [List.map_map,show ((·.length)∘fun c=>(⟨#[c]⟩:Str))=fun _=>1 from rfl,List.map_const',htl.1]
  decide
 refine ⟨D,rfl,tl.map fun c=>(⟨#[c]⟩:Str),SqL.of upd_same,?_,?_⟩
 · have e0:(Str.ofString "").length=0:=by decide+kernel
   rw [e0];omega
 rw [N20.join_ones]
 have smD:Same H (upd H D (.lst ((tl.map fun c=>(⟨#[c]⟩:Str)).map V.str))):=Same.new hD
 generalize upd H D (.lst ((tl.map fun c=>(⟨#[c]⟩:Str)).map V.str))=H1 at smD ⊢
 clear hD hsum
 rename_i rest hrest
 subst hrest
 walk_at "go"
 split
 · walk_at "go"
   have hzl:(tx tl).length=7∧True:=⟨by rw [T_len];exact htl.1,trivial⟩
   refine compR_pure (fun k=>V.str (tx (N k.toNat))) (by omega) (fun b k H' Q' hk sm q'=>?_) fun D hD=>?_
   · have hl7:=htl.1
     walk_at "go"
     refine ixS_of (by omega) (ix_bc _ (by decide) (by decide)) ⟨by decide,by omega,_,rfl,?_⟩
     rw [slice_to (by omega) (by omega)]
     refine ⟨by rw [len_one,T_len,List.length_take];omega,?_⟩
     rw [T_one,T_app,show ((k:Int) % 8).toNat=k % 8 by omega]
     rw [Int.zero_add,Int.toNat_natCast,hnm1]at q'
     exact q'
   · have e:(List.range m).map (fun k:Nat=>V.str (tx (N (0+(k:Int)).toNat)))=((List.range m).map fun k=>tx (N k)).map V.str:=by
      rw [List.map_map]
      refine List.map_congr_left fun k _=>?_
      rw [Int.zero_add,Int.toNat_natCast]
      rfl
     rw [e]
     refine q D ((List.range m).map fun k=>tx (N k)) _ (same_none smD hD) (smD.trans (Same.new hD)) upd_same (by simp) hnd fun y hy=>?_
     obtain ⟨k,_,rfl⟩:=List.mem_map.mp hy
     rw [T_list]
     exact hnn k
 · clear hnm1 hnd hnn N
   have hs1:1≤(1+c / 4 % 6).toNat:=by omega
   have hs6:(1+c / 4 % 6).toNat≤6:=by omega
   have h8:(1+c / 4 % 6)=((1+c / 4 % 6).toNat:Int):=by omega
   walk_at "go"
   rw [h8]
   clear h8
   generalize (1+c / 4 % 6).toNat=sz at hs1 hs6 ⊢
   have ha0:=Int.emod_nonneg (c / 24) (show (sz:Int)≠0 by omega)
   have ha1:=Int.emod_lt_of_pos (c / 24) (show (0:Int) < sz by omega)
   generalize c / 24 % (sz:Int)=at0 at ha0 ha1 ⊢
   obtain ⟨at',rfl⟩:∃at':Nat,at0=at':=⟨at0.toNat,by omega⟩
   have hl7:=htl.1
   have hzl:(tx tl).length=7∧True:=⟨by rw [T_len];exact htl.1,trivial⟩
   refine ixS_of (by omega) (ix_bc _ (by decide) (by decide)) ⟨by omega,_,rfl,?_⟩
   rw [slice_to (by omega) (by omega),show ((sz:Int) - 1).toNat=sz - 1 by omega]
   refine ⟨by rw [len_one,T_len,List.length_take];omega,?_⟩
   rw [T_one,T_app]
   have hBl:([bc (c / 36 % 26)]++tl.take (sz - 1)).length=sz∧True:=⟨by rw [List.length_append,List.length_take];simp only [List.length_cons,List.length_nil];omega,trivial⟩
   have hBc:∀x∈[bc (c / 36 % 26)]++tl.take (sz - 1),x∈letters++figures:=fun x hx=>by
    rcases List.mem_append.mp hx with hx | hx
    · rw [List.mem_singleton.mp hx];exact List.mem_append_left _ bc_let
    · exact htc x (List.mem_of_mem_take hx)
   have hBh:∃d r,[bc (c / 36 % 26)]++tl.take (sz - 1)=d::r∧d∈letters:=⟨_,_,rfl,bc_let⟩
   generalize [bc (c / 36 % 26)]++tl.take (sz - 1)=B at hBl hBc hBh ⊢
   have hB1:=hBl.1
   rename_i rest hrest
   subst hrest
   walk_at "go"
   intro p hp
   rename_i rest hrest
   subst hrest
   walk_at "go"
   rename_i rest hrest
   refine forR_by (fun k σ H'=>∃(v8 v9:Option V),σ=[some (V.int c),some (V.int m),some (V.str (Str.ofString "abcdefghijklmnopqrstuvwxyz0123456789")),some (V.str (tx tl)),some (V.int sz),some (V.int at'),some (V.str (tx B)),some (V.ref p),v8,v9]∧H'=upd H1 p (.lst (((List.range k).map fun k=>tx (nm3 B at' (c / 1296) k)).map V.str))) ⟨none,none,rfl,rfl⟩ ?_ ?_
   · clear hrest
     rintro k σ H' hk ⟨v8,v9,rfl,rfl⟩
     have hlen:(((List.range k).map fun k=>tx (nm3 B at' (c / 1296) k)).map V.str).length=k∧True:=⟨by simp,trivial⟩
     have hlen1:=hlen.1
     have hBt:(tx B).length=sz∧True:=⟨by rw [T_len];exact hB1,trivial⟩
     have hBt1:=hBt.1
     rw [List.range_succ,List.map_append,List.map_append]
     generalize hz:(((List.range k).map fun k=>tx (nm3 B at' (c / 1296) k)).map V.str)=zs at hlen1 ⊢
     clear hz hlen hBt
     walk_at "go"
     refine ixS_of (by omega) (ix_bc _ (by decide) (by decide)) ?_
     rename_i rest hrest
     subst hrest
     walk_at "go"
     have e1:Txt.slice (tx B) none (some (at':Int))=tx (B.take at'):=slice_to (by omega) (by omega)
     have e2:Txt.slice (tx B) (some ((at':Int)+1)) none=tx (B.drop (at'+1)):=by
      have:=slice_from (l:=B) (n:=(at':Int)+1) (by omega) (by omega)
      rw [show ((at':Int)+1).toNat=at'+1 by omega]at this
      exact this
     have e3:Txt.slice (Str.ofString "zz") none (some ((k:Int) / 26))=tx (List.replicate (k / 26) 122):=zz_slice (by omega)
     rw [e1,e2,e3]
     have z2:(Str.ofString "zz").length=2:=by decide+kernel
     have l1:(tx (B.take at')).length≤6:=by rw [T_len,List.length_take];omega
     have l2:(tx (B.drop (at'+1))).length≤6:=by rw [T_len,List.length_drop];omega
     have l3:(tx (List.replicate (k / 26) 122)).length≤6:=by rw [T_len,List.length_replicate];omega
     refine ⟨.inl ⟨rfl,_,SqL.of upd_same⟩,by omega,by rw [len_one];omega,by omega,by rw [len_app,len_one];omega,cdiv_of (by decide) (by decide),by omega,by rw [len_app,len_app,len_one];omega,p,_,_,rfl,rfl,upd_same,by omega,?_⟩
     rw [upd_upd,T_one,T_app,T_app,T_app]
     rfl
   · rintro σ H' ⟨v8,v9,rfl,rfl⟩
     subst hrest
     walk_at "go"
     exact q p ((List.range m).map fun k=>tx (nm3 B at' (c / 1296) k)) _ (same_none smD hp) (smD.trans (Same.new hp)) upd_same (by simp) (tx_nodup fun a b ha hb e=>nm3_inj (by omega) e) (fun y hy=>by
      obtain ⟨k,hk,rfl⟩:=List.mem_map.mp hy
      rw [T_list]
      exact nm3_name (by omega) (by omega) (by have:=List.mem_range.mp hk;omega) hBc hBh)
theorem Z69{f:Addr}{fd:FuncData}(F:Fun K "_law_things" "_law_things" Z3g f fd)(T:Txt K mg Z6 Z5 Z4 Z0 Z1 Z2 Z3)(Zf:Def P w K mg base CX0 1 "_law_cell" ["_law_script","_law_k"] (sp_cell K))(Z41:Def P w K mg base CX0 1 "_law_names" ["_law_cell_here","_law_many"] (sp20_names)):FnOk P w K mg base CX0 3 f fd ["_law_script"] (sp54_things K):=by
 have sc:FnScope ["_law_script","_law_cell_here","_law_many"] ["_law_script"] (defScope Z3g):=by walk_at "sc"
 refine F.ok sc (fun vs H Q E h=>?_) (fun cdv A outer s H vs Q E hr h=>?_)
 · obtain ⟨_,_,rfl,_⟩:=h;rfl
 obtain ⟨a,ns,rfl,hS,hl,q⟩:=h
 refine ⟨_,(@pss_cons _ _ _ _ _ (ps_set (i:=1) sc.nd rfl (Or.inl rfl) (pe_callD Zf hr rfl pass0 (pa_cons (pv 0) (pa_cons pe_int pa_nil))))
  (@pss_cons _ _ _ _ _ (ps_set (i:=2) sc.nd rfl (Or.inl rfl) (pe_op op_add pe_int (pe_op op_mod (pv 1) pe_int)))
  (@pss_cons _ _ _ _ _ (ps_if (pt_cmpR op_eq (pe_op op_mod (pe_op op_fdiv (pv 1) pe_int) pe_int) pe_int (nomark _))
   (@pss_one _ _ _ (ps_set (i:=2) sc.nd rfl (Or.inl rfl) (pe_op op_add pe_int (pe_op op_mod (pe_op op_fdiv (pv 1) pe_int) pe_int))))
   pss_nil)
  (@pss_one _ _ _ (@ps_ret _ _ _ _ (pe_callD Z41 hr rfl pass0 (pa_cons (pe_callD Zf hr rfl pass0 (pa_cons (pv 0) (pa_cons pe_int pa_nil))) (pa_cons (pv 2) pa_nil)))))))),?_⟩
 walk_at "st"
 have line:=line_val
 walk_at "go"
 rename_i rest hrest
 have key:∀m:Nat,1≤m→m≤60→rest [some (V.ref a),some (V.int (ns.getD 0 0)),some (V.int (m:Int))] H:=by
  intro m hm1 hm2
  subst hrest
  walk_at "go"
  exact ⟨m,rfl,hm2,fun p ys H' hp sm hp2 hy hnd hnm=>q p ys H' hp sm hp2 (by omega) (by omega) hnd hnm⟩
 clear hrest
 split
 · refine ⟨cdiv_of (by decide) (by decide),by decide,?_⟩
   have:=key (20+ns.getD 0 0 / 72 % 41).toNat (by omega) (by omega)
   rw [show (((20+ns.getD 0 0 / 72 % 41).toNat:Nat):Int)=20+ns.getD 0 0 / 72 % 41 by omega]at this
   exact this
 · have:=key (1+ns.getD 0 0 % 8).toNat (by omega) (by omega)
   rw [show (((1+ns.getD 0 0 % 8).toNat:Nat):Int)=1+ns.getD 0 0 % 8 by omega]at this
   exact this
theorem Z6n{f:Addr}{fd:FuncData}(F:Fun K "_law_row" "_law_row" Z4w f fd)(T:Txt K mg Z6 Z5 Z4 Z0 Z1 Z2 Z3)(Zf:Def P w K mg base CX0 1 "_law_cell" ["_law_script","_law_k"] (sp_cell K))(Z0r:Def P w K mg base CX0 1 "_law_stream" ["_law_cell_here","_law_many"] (sp20_stream)):FnOk P w K mg base CX0 3 f fd ["_law_script","_law_names_here"] (sp54_row K):=by
 have sc:FnScope ["_law_script","_law_names_here","_law_limit","_law_picks"] ["_law_script","_law_names_here"] (defScope Z4w):=by walk_at "sc"
 refine F.ok sc (fun vs H Q E h=>?_) (fun cdv A outer s H vs Q E hr h=>?_)
 · obtain ⟨_,_,_,_,rfl,_⟩:=h;rfl
 obtain ⟨a,p,ns,ys,rfl,hS,hl,hp,h1,h2,q⟩:=h
 refine ⟨_,(@pss_cons _ _ _ _ _ (ps_set (i:=2) sc.nd rfl (Or.inl rfl) pe_int)
  (@pss_cons _ _ _ _ _ (ps_if (pt_cmpR op_eq (pe_op op_mod (pe_callD Zf hr rfl pass0 (pa_cons (pv 0) (pa_cons pe_int pa_nil))) pe_int) pe_int (nomark _))
   (@pss_one _ _ _ (ps_set (i:=2) sc.nd rfl (Or.inl rfl) pe_int))
   pss_nil)
  (@pss_cons _ _ _ _ _ (ps_set (i:=3) sc.nd rfl (Or.inl rfl) (pe_op op_cat (pe_slice sl_list (pv 0) (po_some pe_int) (po_some pe_int)) (pe_callD Z0r hr rfl pass0 (pa_cons (pe_callD Zf hr rfl pass0 (pa_cons (pv 0) (pa_cons pe_int pa_nil))) (pa_cons (pe_op op_mod (pe_callD Zf hr rfl pass0 (pa_cons (pv 0) (pa_cons pe_int pa_nil))) (pv 2)) pa_nil)))))
  (@pss_one _ _ _ (@ps_ret _ _ _ _ (pe_comp1 "_law_pick" [1] rfl rfl (pi_list (pv 3)) (fun b=>(@pe_ix _ _ _ _ _ _ _ ix_list (pv 1) (pe_op op_mod (pv 0) (pe_callB call_len_seq rfl T.Zq PySem.boot_len (pa_cons (pv 1) pa_nil))) (fun _ _=>rfl))))))))),?_⟩
 walk_at "st"
 have line:=line_val
 walk_at "go"
 rename_i rest hrest
 have key:∀mo:Int,1≤mo→mo≤139→rest [some (V.ref a),some (V.ref p),some (V.int mo),none] H:=by
  intro mo hm1 hm2
  subst hrest
  walk_at "go"
  obtain ⟨cs,hcs,hcl⟩:=cut_8_68 ns
  refine ⟨_,hS,fun p0 hp0=>?_⟩
  rw [hcs]
  have s1:Same H (upd H p0 (.lst (cs.map V.int))):=Same.new hp0
  have k1:upd H p0 (.lst (cs.map V.int)) p0=some (.lst (cs.map V.int)):=upd_same
  generalize upd H p0 (.lst (cs.map V.int))=H1 at s1 k1 ⊢
  have f0:=Int.emod_nonneg (ns.getD 5 0) (show mo≠0 by omega)
  have f1:=Int.emod_lt_of_pos (ns.getD 5 0) (show 0 < mo by omega)
  refine ⟨ns,s1.seq hS,by decide,hl,ns,s1.seq hS,by decide,hl,by omega,(ns.getD 5 0 % mo).toNat,by omega,by omega,fun p1 xs H2 hp1 s2 k2 hxl hx0=>?_⟩
  have hxl1:xs.length≤138:=by rw [hxl];omega
  clear hxl
  refine ⟨p0,p1,_,_,rfl,rfl,s2 _ _ k1,k2,by rw [List.length_map,List.length_map];omega,fun p2 hp2=>?_⟩
  rw [cat_ints]
  have hpl:(cs++xs).length≤200:=by rw [List.length_append];omega
  have s3:=(s1.trans s2).trans (Same.new (o:= .lst ((cs++xs).map V.int)) hp2)
  have k3:upd H2 p2 (.lst ((cs++xs).map V.int)) p2=some (.lst ((cs++xs).map V.int)):=upd_same
  generalize upd H2 p2 (.lst ((cs++xs).map V.int))=H3 at s3 k3 ⊢
  generalize cs++xs=ps at hpl k3
  clear k1 k2 s1 s2 hp2 hp0 hcs
  have hp3:=s3 _ _ hp
  rename_i rest hrest
  subst hrest
  walk_at "go"
  refine ⟨⟨_,SqL.of k3⟩,?_⟩
  refine compL_pure (N41.ask1 ys ys.length) (SqL.of k3) (by rw [List.length_map];omega) (fun b x H4 Q' hx sm4 q'=>?_) fun D hD=>?_
  · obtain ⟨c,hc,rfl⟩:=List.mem_map.mp hx
    have hk0:=Int.emod_nonneg c (show (ys.length:Int)≠0 by omega)
    have hk1:=Int.emod_lt_of_pos c (show (0:Int) < ys.length by omega)
    have hp4:=sm4 _ _ hp3
    walk_at "go"
    refine ⟨_,.inl (SqL.of hp4),?_⟩
    rw [List.length_map]
    refine ⟨by omega,ixL_of (SqL.of hp4) (v:=V.str (ys.getD (c % (ys.length:Int)).toNat Str.empty)) ?_ q'⟩
    rw [show c % (ys.length:Int)=(((c % (ys.length:Int)).toNat:Nat):Int) by omega,Int.toNat_natCast]
    exact atI_nat (by rw [List.getElem?_map,N41.getD_s (by omega)];rfl)
  · rw [N41.ask1_list]
    exact q D _ _ (s3.trans (Same.new hD)) upd_same (by rw [List.length_map];exact hpl) (fun y hy=>by
     obtain ⟨c,hc,rfl⟩:=List.mem_map.mp hy
     have hk0:=Int.emod_nonneg c (show (ys.length:Int)≠0 by omega)
     have hk1:=Int.emod_lt_of_pos c (show (0:Int) < ys.length by omega)
     exact List.mem_of_getElem? (N41.getD_s (by omega)))
 clear hrest
 split
 · exact key 139 (by decide) (by decide)
 · exact key 30 (by decide) (by decide)
theorem Z6l{f:Addr}{fd:FuncData}(F:Fun K "_law_made" "_law_made" Z4g f fd)(T:Txt K mg Z6 Z5 Z4 Z0 Z1 Z2 Z3)(Z3a:DefI P w K mg base CX0 6 "Hand" Z3 ["self","stock","places"] (sp28_hinit Z3))(Z2p:DefI P w K mg base CX0 6 "First" Z2 ["self","stock","places"] (sp22_init Z2))(Z23:DefI P w K mg base CX0 5 "Oldest" Z1 ["self","stock","places"] (sp28_kinit K))(Z0a:DefB P w K mg base CX0 5 "Ranked" Z0 ["self","stock","places"] (sp28_kinit K))(Zc:DefB P w K mg base CX0 4 "Rule" Z4 ["self","stock","places"] (sp28_rinit K)):FnOk P w K mg base CX0 8 f fd ["_law_which","_law_stock","_law_places"] (sp54_made (C5.mk Z3 Z2 Z1 Z0 Z4)):=by
 have sc:FnScope ["_law_which","_law_stock","_law_places"] ["_law_which","_law_stock","_law_places"] (defScope Z4g):=by walk_at "sc"
 refine F.ok sc (fun vs H Q E h=>?_) (fun cdv A outer s H vs Q E hr h=>?_)
 · obtain ⟨_,_,_,rfl,_⟩:=h;rfl
 obtain ⟨w5,st,n,rfl,h1,h2,q⟩:=h
 refine ⟨_,(@pss_cons _ _ _ _ _ (ps_if (pt_cmpR op_eq (pv 0) pe_int (nomark _))
  (@pss_one _ _ _ (@ps_ret _ _ _ _ (pe_makeS Z3a hr rfl (passS pass0) (pa_cons (pv 1) (pa_cons (pv 2) pa_nil)))))
  pss_nil)
  (@pss_cons _ _ _ _ _ (ps_if (pt_cmpR op_eq (pv 0) pe_int (nomark _))
   (@pss_one _ _ _ (@ps_ret _ _ _ _ (pe_makeS Z2p hr rfl (passS pass0) (pa_cons (pv 1) (pa_cons (pv 2) pa_nil)))))
   pss_nil)
  (@pss_cons _ _ _ _ _ (ps_if (pt_cmpR op_eq (pv 0) pe_int (nomark _))
   (@pss_one _ _ _ (@ps_ret _ _ _ _ (pe_makeS Z23 hr rfl (passS pass0) (pa_cons (pv 1) (pa_cons (pv 2) pa_nil)))))
   pss_nil)
  (@pss_cons _ _ _ _ _ (ps_if (pt_cmpR op_eq (pv 0) pe_int (nomark _))
   (@pss_one _ _ _ (@ps_ret _ _ _ _ (pe_makeS Z0a.toI hr rfl (passS pass0) (pa_cons (pv 1) (pa_cons (pv 2) pa_nil)))))
   pss_nil)
  (@pss_one _ _ _ (@ps_ret _ _ _ _ (pe_makeS Zc.toI hr rfl (passS pass0) (pa_cons (pv 1) (pa_cons (pv 2) pa_nil))))))))),?_⟩
 walk_at "st"
 have line:=line_val
 cases w5 with
 | hd=>
  rw [show W5.hd.i=0 from rfl]
  walk_at "go"
  intro x dx hx hdx ne
  refine ⟨dx,upd_same,h1,h2,fun H' la pa sb hla hpa hh=>?_⟩
  exact q x [x,la,pa] H' (same_made hx hdx sb) (fun m hm=>by
   simp only [List.mem_cons,List.not_mem_nil,or_false]at hm
   rcases hm with e | e | e
   · rw [e];exact hx
   · rw [e];exact new_none hla
   · rw [e];exact new_none hpa) hh
 | fi=>
  rw [show W5.fi.i=1 from rfl]
  walk_at "go"
  intro x dx hx hdx ne
  refine ⟨dx,upd_same,h1,h2,fun H' la pa sb hla hpa hh=>?_⟩
  exact q x [x,la,pa] H' (same_made hx hdx sb) (fun m hm=>by
   simp only [List.mem_cons,List.not_mem_nil,or_false]at hm
   rcases hm with e | e | e
   · rw [e];exact hx
   · rw [e];exact new_none hla
   · rw [e];exact new_none hpa) hh
 | ol=>
  rw [show W5.ol.i=2 from rfl]
  walk_at "go"
  intro x dx hx hdx ne
  refine ⟨Z1,dx,upd_same,T.Zo,T.Z01,T.Zu,T.Zl,T.Zy,h1,h2,fun H' la sb hla nla hq hl=>?_⟩
  exact q x [x,la] H' (same_made hx hdx sb) (fun m hm=>by
   simp only [List.mem_cons,List.not_mem_nil,or_false]at hm
   rcases hm with e | e
   · rw [e];exact hx
   · rw [e];exact new_none hla) ⟨la,rfl,⟨dx,hq⟩,hl⟩
 | ra=>
  rw [show W5.ra.i=3 from rfl]
  walk_at "go"
  intro x dx hx hdx ne
  refine ⟨Z0,dx,upd_same,T.Zn,T.Z00,T.Zt,T.Zk,T.Zx,h1,h2,fun H' la sb hla nla hq hl=>?_⟩
  exact q x [x,la] H' (same_made hx hdx sb) (fun m hm=>by
   simp only [List.mem_cons,List.not_mem_nil,or_false]at hm
   rcases hm with e | e
   · rw [e];exact hx
   · rw [e];exact new_none hla) ⟨la,rfl,⟨dx,hq⟩,hl⟩
 | ru=>
  rw [show W5.ru.i=4 from rfl]
  walk_at "go"
  intro x dx hx hdx ne
  refine ⟨Z4,dx,upd_same,T.Z26,T.Z0c,T.Z03,h1,h2,fun H' sb hq=>?_⟩
  exact q x [x] H' (same_made hx hdx sb) (fun m hm=>by rw [List.mem_singleton]at hm;rw [hm];exact hx) ⟨rfl,dx,hq⟩
theorem Z5b{f:Addr}{fd:FuncData}(F:Fun K "_law_stretches" "_law_stretches" Z1r f fd)(T:Txt K mg Z6 Z5 Z4 Z0 Z1 Z2 Z3)(Z0r:Def P w K mg base CX0 1 "_law_stream" ["_law_cell_here","_law_many"] (sp20_stream)):FnOk P w K mg base CX0 3 f fd ["_law_size","_law_cell_here"] (sp54_stretches K):=by
 have sc:FnScope ["_law_size","_law_cell_here","_law_xs","_law_some","_law_k","_law_start"] ["_law_size","_law_cell_here"] (defScope Z1r):=by walk_at "sc"
 refine F.ok sc (fun vs H Q E h=>?_) (fun cdv A outer s H vs Q E hr h=>?_)
 · obtain ⟨_,_,rfl,_⟩:=h;rfl
 obtain ⟨sz,c,rfl,hz,q⟩:=h
 refine ⟨_,(@pss_cons _ _ _ _ _ (ps_set (i:=2) sc.nd rfl (Or.inl rfl) (pe_callD Z0r hr rfl pass0 (pa_cons (pv 1) (pa_cons pe_int pa_nil))))
  (@pss_cons _ _ _ _ _ (ps_set (i:=3) sc.nd rfl (Or.inl rfl) (@pe_lst _ _ _ _ (pa_cons (pe_tup (pa_cons pe_int (pa_cons (pv 0) pa_nil))) (pa_cons (pe_tup (pa_cons (pv 0) (pa_cons (pv 0) pa_nil))) pa_nil))))
  (@pss_cons _ _ _ _ _ (ps_for PassesOwn.never rfl (pi_range1 rfl T.Z0h (pa_cons pe_int pa_nil)) (pg_name (i:=4) sc.nd rfl (Or.inl rfl))
   (@pss_cons _ _ _ _ _ (ps_set (i:=5) sc.nd rfl (Or.inl rfl) (pe_op op_mod (@pe_ix _ _ _ _ _ _ _ ix_list (pv 2) (pe_op op_mul pe_int (pv 4)) (fun _ _=>rfl)) (pe_op op_add (pv 0) pe_int)))
   (@pss_one _ _ _ (ps_expr (pe_bm PySem.F.plainAttrs_list PySem.F.slot_list_append PySem.F.type_list_append mt_append (pv 3) (pa_cons (pe_tup (pa_cons (pv 5) (pa_cons (pe_op op_add (pv 5) (pe_op op_mod (@pe_ix _ _ _ _ _ _ _ ix_list (pv 2) (pe_op op_add (pe_op op_mul pe_int (pv 4)) pe_int) (fun _ _=>rfl)) (pe_op op_add (pe_op op_sub (pv 0) (pv 5)) pe_int))) pa_nil))) pa_nil))))))
  (@pss_one _ _ _ (@ps_ret _ _ _ _ (pv 3)))))),?_⟩
 walk_at "st"
 have line:=line_val
 walk_at "go"
 refine ⟨6,rfl,by decide,fun px xs H1 hpx sm1 hkx hxl hx0=>?_⟩
 rename_i rest hrest
 subst hrest
 walk_at "go"
 intro p0 hp0
 refine ⟨by omega,fun p1 hp1=>⟨by omega,fun ps hps=>?_⟩⟩
 have e1:Same H1 (upd H1 p0 (.tup [V.int 0,V.int (sz:Int)])):=Same.new hp0
 have k1:upd H1 p0 (.tup [V.int 0,V.int (sz:Int)]) p0=some (.tup [V.int 0,V.int (sz:Int)]):=upd_same
 generalize upd H1 p0 (.tup [V.int 0,V.int (sz:Int)])=H2 at e1 k1 hp1 hps ⊢
 have e2:Same H2 (upd H2 p1 (.tup [V.int (sz:Int),V.int (sz:Int)])):=Same.new hp1
 have k2:upd H2 p1 (.tup [V.int (sz:Int),V.int (sz:Int)]) p1=some (.tup [V.int (sz:Int),V.int (sz:Int)]):=upd_same
 have k12:=e2 _ _ k1
 generalize upd H2 p1 (.tup [V.int (sz:Int),V.int (sz:Int)])=H3 at e2 k2 k12 hps ⊢
 have e3:Same H3 (upd H3 ps (.lst [V.ref p0,V.ref p1])):=Same.new hps
 have k3:upd H3 ps (.lst [V.ref p0,V.ref p1]) ps=some (.lst [V.ref p0,V.ref p1]):=upd_same
 have k13:=e3 _ _ k12
 have k23:=e3 _ _ k2
 have sm3:=((sm1.trans e1).trans e2).trans e3
 have hps0:=same_none ((sm1.trans e1).trans e2) hps
 have hkx3:=((e1.trans e2).trans e3) _ _ hkx
 have npx:px≠ps:=ne_of_none ((e1.trans e2) _ _ hkx) hps
 generalize upd H3 ps (.lst [V.ref p0,V.ref p1])=H4 at k3 k13 k23 sm3 hkx3 ⊢
 have pt0:N53.PtsAt K H4 ps [(p0,0,sz),(p1,sz,sz)]:=⟨k3,fun r hr=>by
  simp only [List.mem_cons,List.not_mem_nil,or_false]at hr
  rcases hr with e | e <;> rw [e]
  · exact k13
  · exact k23⟩
 clear hp0 hp1 hps e1 e2 e3 k1 k2 k12 k3 k13 k23 hkx sm1 hpx
 rename_i rest hrest
 subst hrest
 walk_at "go"
 rename_i rest hrest
 refine forR_by (fun k σ H'=>∃(v4 v5:Option V) (rs:List N53.Pt),σ=[some (V.int (sz:Int)),some (V.int c),some (V.ref px),some (V.ref ps),v4,v5]∧Same H H'∧H' px=some (.lst (xs.map V.int))∧N53.PtsAt K H' ps rs∧rs.length=2+k∧∀r∈rs,r.2.1≤r.2.2∧r.2.2≤sz) ⟨none,none,_,rfl,sm3,hkx3,pt0,rfl,fun r hr=>by
  simp only [List.mem_cons,List.not_mem_nil,or_false]at hr
  rcases hr with e | e <;> rw [e]
  · exact ⟨Nat.zero_le _,Nat.le_refl _⟩
  · exact ⟨Nat.le_refl _,Nat.le_refl _⟩⟩ ?_ ?_
 · clear hrest pt0 sm3 hkx3
   rintro k σ H' hk ⟨v4,v5,rs,rfl,sm,kx,hP,hrl,hrs⟩
   have hxl6:xs.length=6:=hxl
   have hk3:k < 3:=hk
   have at0:atI (xs.map V.int) (2 * (k:Int))=some (V.int (xs.getD (2 * k) 0)):=by
    rw [show 2 * (k:Int)=((2 * k:Nat):Int) by omega]
    exact atI_nat (by rw [List.getElem?_map,List.getD_eq_getElem?_getD,List.getElem?_eq_getElem (by omega)];rfl)
   have at1:atI (xs.map V.int) (2 * (k:Int)+1)=some (V.int (xs.getD (2 * k+1) 0)):=by
    rw [show 2 * (k:Int)+1=((2 * k+1:Nat):Int) by omega]
    exact atI_nat (by rw [List.getElem?_map,List.getD_eq_getElem?_getD,List.getElem?_eq_getElem (by omega)];rfl)
   have hrl1:=Nat.le_of_eq hrl
   have hrl2:=Nat.le_of_eq hrl.symm
   clear hrl hxl hxl6
   walk_at "go"
   refine ixL_of (SqL.of kx) at0 ⟨_,rfl,by omega,?_⟩
   have g0:=Int.emod_nonneg (xs.getD (2 * k) 0) (show (sz:Int)+1≠0 by omega)
   have g1:=Int.emod_lt_of_pos (xs.getD (2 * k) 0) (show (0:Int) < (sz:Int)+1 by omega)
   obtain ⟨s0,hs0⟩:∃s0:Nat,xs.getD (2 * k) 0 % ((sz:Int)+1)=(s0:Int)∧True:=⟨(xs.getD (2 * k) 0 % ((sz:Int)+1)).toNat,by omega,trivial⟩
   rw [hs0.1]at g0 g1 ⊢
   clear hs0
   rename_i rest2 hrest2
   subst hrest2
   walk_at "go"
   refine ⟨.inl ⟨rfl,_,SqL.of hP.1⟩,by walk_at "side",ixL_of (SqL.of kx) at1 ⟨_,rfl,by omega,by omega,fun t ht=>?_⟩⟩
   have g2:=Int.emod_nonneg (xs.getD (2 * k+1) 0) (show (sz:Int) - (s0:Int)+1≠0 by omega)
   have g3:=Int.emod_lt_of_pos (xs.getD (2 * k+1) 0) (show (0:Int) < (sz:Int) - (s0:Int)+1 by omega)
   obtain ⟨e0,he0⟩:∃e0:Nat,(s0:Int)+xs.getD (2 * k+1) 0 % ((sz:Int) - (s0:Int)+1)=(e0:Int)∧True:=⟨(s0+xs.getD (2 * k+1) 0 % ((sz:Int) - (s0:Int)+1)).toNat,by omega,trivial⟩
   have g4:s0≤e0∧e0≤sz:=by have:=he0.1;omega
   rw [he0.1]
   clear he0 g2 g3
   have npt:ps≠t:=ne_of_none hP.1 ht
   refine ⟨ps,_,_,rfl,rfl,by rw [upd_ne npt];exact hP.1,by rw [List.length_map];omega,?_⟩
   refine ⟨N53.same_upd (sm.trans (Same.new ht)) hps0,by rw [upd_ne npx,upd_ne (ne_of_none kx ht)];exact kx,rs++[(t,s0,e0)],⟨by rw [upd_same,List.map_append];rfl,fun r hr=>?_⟩,by rw [List.length_append];show rs.length+1=_;omega,fun r hr=>?_⟩
   · rcases List.mem_append.mp hr with h | h
     · have hk:=hP.2 r h
       rw [upd_ne (ne_of hk hP.1 (by intro z;cases z)),upd_ne (ne_of_none hk ht)]
       exact hk
     · rw [List.mem_singleton.mp h,upd_ne npt.symm]
       exact upd_same
   · rcases List.mem_append.mp hr with h | h
     · exact hrs r h
     · rw [List.mem_singleton.mp h];exact g4
 · rintro σ H' ⟨v4,v5,rs,rfl,sm,kx,hP,hrl,hrs⟩
   subst hrest
   walk_at "go"
   exact q ps rs H' sm hP (by omega) hrs
theorem Z6a{f:Addr}{fd:FuncData}(F:Fun K "_law_missed" "_law_missed" Z3h f fd)(T:Txt K mg Z6 Z5 Z4 Z0 Z1 Z2 Z3):FnOk P w K mg base CX0 1 f fd ["_law_book","_law_some"] (sp54_missed K):=by
 have sc:FnScope ["_law_book","_law_some","_law_due","_law_start","_law_end","_law_many","_law_row_here"] ["_law_book","_law_some"] (defScope Z3h):=by walk_at "sc"
 refine F.ok sc (fun vs H Q E h=>?_) (fun cdv A outer s H vs Q E hr h=>?_)
 · obtain ⟨_,_,_,_,rfl,_⟩:=h;rfl
 obtain ⟨b,p,bs,rs,rfl,hB,hbl,hP,hrl,hrs,q⟩:=h
 refine ⟨_,(@pss_cons _ _ _ _ _ (ps_set (i:=2) sc.nd rfl (Or.inl rfl) (@pe_lst _ _ _ _ pa_nil))
  (@pss_cons _ _ _ _ _ (ps_for PassesOwn.never rfl (pi_list (pv 1)) (pg_tup rfl (pgs_cons (pg_name (i:=3) sc.nd rfl (Or.inl rfl)) (pgs_cons (pg_name (i:=4) sc.nd rfl (Or.inl rfl)) pgs_nil)))
   (@pss_cons _ _ _ _ _ (ps_set (i:=5) sc.nd rfl (Or.inl rfl) pe_int)
   (@pss_cons _ _ _ _ _ (ps_for PassesOwn.never rfl (pi_list (pe_slice sl_list (pv 0) (po_some (pv 3)) (po_some (pv 4)))) (pg_name (i:=6) sc.nd rfl (Or.inl rfl))
    (@pss_one _ _ _ (ps_set (i:=5) sc.nd rfl (Or.inl rfl) (pe_op op_add (pv 5) (pe_callTy call_int1 rfl T.Z44 (by first | rfl | decide+kernel) (pa_cons (pe_not (@pe_ix _ _ _ _ _ _ _ ix_tup (pv 6) pe_int (fun _ _=>rfl))) pa_nil))))))
   (@pss_one _ _ _ (ps_expr (pe_bm PySem.F.plainAttrs_list PySem.F.slot_list_append PySem.F.type_list_append mt_append (pv 2) (pa_cons (pv 5) pa_nil)))))))
  (@pss_one _ _ _ (@ps_ret _ _ _ _ (pv 2))))),?_⟩
 walk_at "st"
 have line:=line_val
 walk_at "go"
 intro du hdu
 have sm0:Same H (upd H du (.lst [])):=Same.new hdu
 have k0:upd H du (.lst []) du=some (.lst ((rs.take 0).map fun r=>V.int (N55.mis (N55.slB (N55.brs bs) r.2.1 r.2.2):Nat))):=upd_same
 generalize upd H du (.lst [])=H1 at sm0 k0 ⊢
 rename_i rest hrest
 subst hrest
 walk_at "go"
 rename_i rest hrest
 refine ⟨⟨_,SqL.of (sm0 _ _ hP.1)⟩,forL_by (xs:=rs.map fun r=>V.ref r.1) (fun i σ H'=>∃v3 v4 v5 v6:Option V,σ=[some (V.ref b),some (V.ref p),some (V.ref du),v3,v4,v5,v6]∧Same H H'∧H' du=some (.lst ((rs.take i).map fun r=>V.int (N55.mis (N55.slB (N55.brs bs) r.2.1 r.2.2):Nat)))) ⟨none,none,none,none,rfl,sm0,k0⟩ (fun i σ H' _ ⟨_,_,_,_,_,sm,_⟩=>SqL.of (sm _ _ hP.1)) ?_ ?_⟩
 · clear hrest sm0 k0
   rintro i u σ H' hu ⟨v3,v4,v5,v6,rfl,sm,k⟩
   rw [List.getElem?_map]at hu
   cases hz:rs[i]? with
   | none=>rw [hz]at hu;cases hu
   | some r=>
   rw [hz]at hu
   cases hu
   have hrm:=List.mem_of_getElem? hz
   have hi:=(List.getElem?_eq_some_iff.mp hz).1
   have hT:=sm _ _ (hP.2 r hrm)
   obtain ⟨hr1,hr2⟩:=hrs r hrm
   have htk:(rs.take (i+1)).map (fun r=>V.int (N55.mis (N55.slB (N55.brs bs) r.2.1 r.2.2):Nat))=(rs.take i).map (fun r=>V.int (N55.mis (N55.slB (N55.brs bs) r.2.1 r.2.2):Nat))++[V.int (N55.mis (N55.slB (N55.brs bs) r.2.1 r.2.2):Nat)]:=by
    rw [List.take_add_one,hz,Option.toList_some,List.map_append]
    rfl
   rw [htk]
   clear htk
   walk_at "go"
   refine ⟨_,SqT.of hT,rfl,_,_,rfl,_,_,rfl,rfl,?_⟩
   walk_at "go"
   refine ⟨_,SqL.of (sm _ _ hB.l),fun sl hsl=>?_⟩
   rw [N55.cut_rows bs _ _ hr1 hr2]
   have hbr:N55.brs ((bs.drop r.2.1).take (r.2.2 - r.2.1))=N55.slB (N55.brs bs) r.2.1 r.2.2∧True:=⟨N55.brs_sl bs r.2.1 r.2.2,trivial⟩
   have hLm:∀x∈(bs.drop r.2.1).take (r.2.2 - r.2.1),x∈bs:=fun x hx=>List.mem_of_mem_drop (List.mem_of_mem_take hx)
   have hLl:((bs.drop r.2.1).take (r.2.2 - r.2.1)).length≤200:=by rw [List.length_take,List.length_drop];omega
   generalize (bs.drop r.2.1).take (r.2.2 - r.2.1)=L at hLm hLl hbr ⊢
   have sm2:Same H' (upd H' sl (.lst (L.map fun r=>V.ref r.1))):=Same.new hsl
   have ks:upd H' sl (.lst (L.map fun r=>V.ref r.1)) sl=some (.lst (L.map fun r=>V.ref r.1)):=upd_same
   have k2:=sm2 _ _ k
   have sm3:=sm.trans sm2
   generalize upd H' sl (.lst (L.map fun r=>V.ref r.1))=H2 at sm2 ks k2 sm3 ⊢
   clear hsl k sm sm2
   rename_i rest2 hrest2
   refine ⟨⟨_,SqL.of ks⟩,forL_by (xs:=L.map fun r=>V.ref r.1) (fun j σ H'=>∃v6:Option V,σ=[some (V.ref b),some (V.ref p),some (V.ref du),some (V.int (r.2.1:Nat)),some (V.int (r.2.2:Nat)),some (V.int (N55.mis (N55.brs (L.take j)):Nat)),v6]∧H'=H2) ⟨v6,rfl,rfl⟩ (fun j σ H' _ ⟨_,_,e⟩=>by rw [e];exact SqL.of ks) ?_ ?_⟩
   · clear hrest2
     rintro j u σ H' hu ⟨v6,rfl,rfl⟩
     rw [List.getElem?_map]at hu
     cases hx:L[j]? with
     | none=>rw [hx]at hu;cases hu
     | some x=>
     rw [hx]at hu
     cases hu
     have hj:=(List.getElem?_eq_some_iff.mp hx).1
     have hX:=sm3 _ _ (hB.t x (hLm x (List.mem_of_getElem? hx)))
     have htk:N55.mis (N55.brs (L.take (j+1)))=N55.mis (N55.brs (L.take j))+if x.2.2.1=true then 0 else 1:=by
      rw [List.take_add_one,hx,Option.toList_some]
      unfold N55.brs
      rw [List.map_append]
      exact mis_snoc
     have hml:N55.mis (N55.brs (L.take j))≤200:=by
      unfold N55.mis
      refine Nat.le_trans List.countP_le_length ?_
      unfold N55.brs
      rw [List.length_map,List.length_take]
      omega
     rw [htk]
     clear htk
     walk_at "go"
     refine ixT_of (SqT.of hX) (v:=V.bl x.2.2.1) (atI_nat (j:=1) rfl) ?_
     refine ⟨_,rfl,?_,rfl⟩
     cases x.2.2.1 with
     | true=>rw [if_neg (by decide),if_pos rfl];omega
     | false=>rw [if_pos rfl,if_neg (by decide)];omega
   · rintro σ H' ⟨v6,rfl,rfl⟩
     rw [List.length_map,List.take_of_length_le (Nat.le_refl _)]
     have hml:N55.mis (N55.brs L)≤200:=by
      unfold N55.mis
      refine Nat.le_trans List.countP_le_length ?_
      unfold N55.brs
      rw [List.length_map]
      omega
     have htl:(rs.take i).length≤250:=by rw [List.length_take];omega
     subst hrest2
     walk_at "go"
     refine ⟨.inl ⟨rfl,_,SqL.of k2⟩,du,_,_,rfl,rfl,k2,by rw [List.length_map];omega,?_⟩
     exact ⟨N53.same_upd sm3 hdu,by rw [upd_same,hbr.1]⟩
 · rintro σ H' ⟨v3,v4,v5,v6,rfl,sm,k⟩
   rw [List.length_map,List.take_of_length_le (Nat.le_refl _)]at k
   subst hrest
   walk_at "go"
   exact q du H' sm k
theorem Z6g{f:Addr}{fd:FuncData}(F:Fun K "_law_apart" "_law_apart" Z3w f fd)(T:Txt K mg Z6 Z5 Z4 Z0 Z1 Z2 Z3):FnOk P w K mg base CX0 1 f fd ["_law_book","_law_asks","_law_places"] (sp54_apart K (C5.mk Z3 Z2 Z1 Z0 Z4)):=by
 have sc:FnScope ["_law_book","_law_asks","_law_places","_law_missed_here","_law_k"] ["_law_book","_law_asks","_law_places"] (defScope Z3w):=by walk_at "sc"
 refine F.ok sc (fun vs H Q E h=>?_) (fun cdv A outer s H vs Q E hr h=>?_)
 · obtain ⟨_,_,_,_,_,_,_,rfl,_⟩:=h;rfl
 obtain ⟨w5,b,a,bs,n,ts,ys,rfl,ru,q⟩:=h
 refine ⟨_,(@pss_cons _ _ _ _ _ (ps_if (PW.pt (pw_or (pt_not (pt_val (pe_callB call_isinst rfl T.Zh (by first | rfl | decide+kernel) (pa_cons (pv 0) (pa_cons (pe_bltn (v:= .ty "list") rfl T.Z0t (by first | rfl | decide+kernel) rfl) pa_nil))))) (pw_or1 (pt_cmpR op_ne (pe_callB call_len_seq rfl T.Zq PySem.boot_len (pa_cons (pv 0) pa_nil)) (pe_callB call_len_seq rfl T.Zq PySem.boot_len (pa_cons (pv 1) pa_nil)) (nomark _)))))
  (@pss_one _ _ _ (@ps_ret _ _ _ _ pe_bl))
  pss_nil)
  (@pss_cons _ _ _ _ _ (ps_set (i:=3) sc.nd rfl (Or.inl rfl) pe_dnewK)
  (@pss_cons _ _ _ _ _ (ps_for PassesOwn.never rfl (pi_range1 rfl T.Z0h (pa_cons (pe_callB call_len_seq rfl T.Zq PySem.boot_len (pa_cons (pv 1) pa_nil)) pa_nil)) (pg_name (i:=4) sc.nd rfl (Or.inl rfl))
   (@pss_cons _ _ _ _ _ (ps_if (PW.pt (pw_or (pt_cmpR op_ne (@pe_ix _ _ _ _ _ _ _ ix_tup (@pe_ix _ _ _ _ _ _ _ ix_list (pv 0) (pv 4) (fun _ _=>rfl)) pe_int (fun _ _=>rfl)) (@pe_ix _ _ _ _ _ _ _ ix_list (pv 1) (pv 4) (fun _ _=>rfl)) (nomark _)) (pw_or1 (pt_not (pt_val (pe_callB call_isinst rfl T.Zh (by first | rfl | decide+kernel) (pa_cons (@pe_ix _ _ _ _ _ _ _ ix_tup (@pe_ix _ _ _ _ _ _ _ ix_list (pv 0) (pv 4) (fun _ _=>rfl)) pe_int (fun _ _=>rfl)) (pa_cons (pe_bltn (v:= .ty "bool") rfl T.Z27 (by first | rfl | decide+kernel) rfl) pa_nil))))))))
    (@pss_one _ _ _ (@ps_ret _ _ _ _ pe_bl))
    pss_nil)
   (@pss_one _ _ _ (ps_if (pt_not (pt_val (@pe_ix _ _ _ _ _ _ _ ix_tup (@pe_ix _ _ _ _ _ _ _ ix_list (pv 0) (pv 4) (fun _ _=>rfl)) pe_int (fun _ _=>rfl))))
    (@pss_cons _ _ _ _ _ (ps_if (PW.pt (pw_and (pt_cmp (pc_din (hu_of hr) (@pe_ix _ _ _ _ _ _ _ ix_list (pv 1) (pv 4) (fun _ _=>rfl)) (pv 3))) (pw_and1 (pt_cmpR op_le (pe_lenset rfl rfl T.Zq rfl T.Z47 (pa_cons (pe_slice sl_list (pv 1) (po_some (pe_dget (hu_of hr) (pv 3) (@pe_ix _ _ _ _ _ _ _ ix_list (pv 1) (pv 4) (fun _ _=>rfl)) (fun _ _=>rfl))) (po_some (pe_op op_add (pv 4) pe_int))) pa_nil)) (pv 2) (nomark _)))))
     (@pss_one _ _ _ (@ps_ret _ _ _ _ pe_bl))
     pss_nil)
    (@pss_one _ _ _ (ps_dput (hu_of hr) (pv 3) (@pe_ix _ _ _ _ _ _ _ ix_list (pv 1) (pv 4) (fun _ _=>rfl)) (pv 4) rfl)))
    pss_nil))))
  (@pss_one _ _ _ (@ps_ret _ _ _ _ pe_bl))))),?_⟩
 walk_at "st"
 have line:=line_val
 obtain ⟨rb,rr,ra,rl,ri,ro,rt,rn⟩:=ru
 have hbl:bs.length=ys.length:=by
  have:=congrArg List.length rr
  unfold N55.brs rws at this
  rw [List.length_map,List.length_map,List.length_range]at this
  exact this
 have hbl1:=Nat.le_of_eq hbl
 have hbl2:=Nat.le_of_eq hbl.symm
 clear hbl
 walk_at "go"
 refine ⟨true,isi_lstl rb.l,?_⟩
 rw [if_neg (by decide)]
 refine ⟨_,.inl (SqL.of rb.l),_,.inl ra,?_⟩
 rw [if_neg (by rw [List.length_map,List.length_map];omega)]
 rename_i rest hrest
 subst hrest
 walk_at "go"
 intro md hmd
 have sm0:Same H (upd H md (.dK [])):=Same.new hmd
 have k0:upd H md (.dK []) md=some (.dK []):=upd_same
 generalize upd H md (.dK [])=H1 at sm0 k0 ⊢
 rename_i rest hrest
 subst hrest
 walk_at "go"
 refine ⟨_,.inl (sm0.seq ra),by rw [List.length_map];omega,by rw [List.length_map];omega,?_⟩
 rw [List.length_map]
 rename_i rest hrest
 refine forR_by (fun k σ H'=>∃(kvs:List (Key×V)) (v4:Option V),σ=[some (V.ref b),some (V.ref a),some (V.int n),some (V.ref md),v4]∧Same H H'∧H' md=some (.dK kvs)∧KeysIn kvs (ts.map (·.1))∧∀z v,valV kvs (Sum.inr z)=some v→∃i:Nat,v=V.int (i:Int)∧i < k∧ys[i]?=some z∧z∉(gst (T5 (C5.mk Z3 Z2 Z1 Z0 Z4) w5) (rm ts) n (z5 (C5.mk Z3 Z2 Z1 Z0 Z4) w5) ys i).2) ⟨[],none,rfl,sm0,k0,KeysIn.nil,fun z v h=>by simp [valV]at h⟩ ?_ ?_
 · clear hrest sm0 k0
   rintro k σ H' hk ⟨kvs,v4,rfl,sm,km,hki,hkv⟩
   have hz:=List.getElem?_eq_getElem hk
   obtain ⟨h61,h62⟩:=r6_at (T:=T5 (C5.mk Z3 Z2 Z1 Z0 Z4) w5) (s0:=z5 (C5.mk Z3 Z2 Z1 Z0 Z4) w5) (ts:=ts) (n:=n) hz
   have hzn:=ri _ (List.mem_of_getElem? hz)
   generalize ys[k]=z at hz h61 h62 hzn
   obtain ⟨x,hx⟩:∃x,bs[k]?=some x:=⟨_,List.getElem?_eq_getElem (by omega)⟩
   have hxr:(x.2.1,x.2.2.1)=((r6 (T5 (C5.mk Z3 Z2 Z1 Z0 Z4) w5) (z5 (C5.mk Z3 Z2 Z1 Z0 Z4) w5) ts n ys k).1,(r6 (T5 (C5.mk Z3 Z2 Z1 Z0 Z4) w5) (z5 (C5.mk Z3 Z2 Z1 Z0 Z4) w5) ts n ys k).2.1):=by
    have e:=congrArg (·[k]?) rr
    unfold N55.brs rws at e
    simp only [List.getElem?_map,hx,List.getElem?_range hk,Option.map_some,Option.some.injEq]at e
    exact e
   have hx1:x.2.1=z∧True:=⟨(congrArg Prod.fst hxr).trans h61,trivial⟩
   have hx2:x.2.2.1=true↔z∈(gst (T5 (C5.mk Z3 Z2 Z1 Z0 Z4) w5) (rm ts) n (z5 (C5.mk Z3 Z2 Z1 Z0 Z4) w5) ys k).2:=by rw [← h62];exact iff_of_eq (congrArg (· =true) (congrArg Prod.snd hxr))
   clear hxr h61 h62
   have hX:=sm _ _ (rb.t x (List.mem_of_getElem? hx))
   rw [hx1.1]at hX
   have hbL:=sm _ _ rb.l
   have ha':=sm.seq ra
   have atb:atI (bs.map fun r=>V.ref r.1) (k:Int)=some (V.ref x.1):=atI_nat (by rw [List.getElem?_map,hx];rfl)
   have ata:atI (ys.map V.str) (k:Int)=some (V.str z):=atI_nat (by rw [List.getElem?_map,hz];rfl)
   walk_at "go"
   refine ixL_of (SqL.of hbL) atb (ixT_of (SqT.of hX) (v:=V.str z) (atI_nat (j:=0) rfl) (ixL_of ha' ata ⟨rfl,?_⟩))
   rw [if_neg (fun h=>h rfl)]
   refine ixL_of (SqL.of hbL) atb (ixT_of (SqT.of hX) (v:=V.bl x.2.2.1) (atI_nat (j:=1) rfl) ⟨true,isi_bb,?_⟩)
   rw [if_neg (by decide)]
   rename_i rest2 hrest2
   subst hrest2
   walk_at "go"
   refine ixL_of (SqL.of hbL) atb (ixT_of (SqT.of hX) (v:=V.bl x.2.2.1) (atI_nat (j:=1) rfl) ⟨_,rfl,?_⟩)
   cases hb:x.2.2.1 with
   | true=>
    rw [if_neg (by decide)]
    exact ⟨sm,kvs,km,hki,fun u v h=>by obtain ⟨i,e,h1,h2⟩:=hkv u v h;exact ⟨i,e,by omega,h2⟩⟩
   | false=>
    rw [if_pos rfl]
    have hzm:z∉(gst (T5 (C5.mk Z3 Z2 Z1 Z0 Z4) w5) (rm ts) n (z5 (C5.mk Z3 Z2 Z1 Z0 Z4) w5) ys k).2:=fun h=>by rw [hx2.mpr h]at hb;cases hb
    walk_at "go"
    rename_i rest2 hrest2
    have key:∀H2,Same H' H2→rest2 [some (V.ref b),some (V.ref a),some (V.int n),some (V.ref md),some (V.int (k:Int))] H2:=by
     intro H2 sm2
     subst hrest2
     have hkl:=hki.len
     rw [List.length_map]at hkl
     walk_at "go"
     refine ixL_of (sm2.seq ha') ata ⟨_,DPut.k (k:=Sum.inr z) (v:=V.int (k:Int)) (sm2 _ _ km) (by omega),?_⟩
     refine ⟨N53.same_upd (sm.trans sm2) hmd,_,upd_same,hki.put hzn,fun u v h=>?_⟩
     rw [valV_put]at h
     by_cases e:u=z
     · rw [if_pos (by rw [e])]at h
       cases h
       rw [e]
       exact ⟨k,rfl,by omega,hz,hzm⟩
     · rw [if_neg (inr_ne' e)]at h
       obtain ⟨i,e,h1,h2⟩:=hkv u v h
       exact ⟨i,e,by omega,h2⟩
    clear hrest2
    have hgt:=DGet.k (k:=Sum.inr z) km
    refine ixL_of ha' ata ⟨_,hgt,?_⟩
    cases hv:valV kvs (Sum.inr z) with
    | none=>rw [if_neg (by simp)];exact key H' (Same.refl _)
    | some v=>
     obtain ⟨i,rfl,hik,hiz,him⟩:=hkv z v hv
     rw [if_pos (show (some (V.int (i:Int))).isSome=true from rfl)]
     rw [hv]at hgt
     refine ixL_of ha' ata ⟨_,hgt,_,rfl,_,ha',fun p hp=>?_⟩
     rw [show ((k:Int)+1)=((k+1:Nat):Int) by omega,cut_sl ys i (k+1) (by omega) (by omega)]
     refine ⟨_,SqL.of upd_same,Nat.le_trans N51.sl_len (by omega),?_⟩
     have hap:=apart (cv5 (C5.mk Z3 Z2 Z1 Z0 Z4) n (ts.map (·.1)) w5) ro inv5 rn ri hiz him hik hk hzm
     rw [if_neg (by omega)]
     exact key _ (Same.new hp)
 · rintro σ H' ⟨kvs,v4,rfl,sm,km,hki,hkv⟩
   subst hrest
   walk_at "go"
   exact q _ sm
theorem Z6t{f:Addr}{fd:FuncData}(F:Fun K "law" "law" Z25 f fd)(T:Txt K mg Z6 Z5 Z4 Z0 Z1 Z2 Z3)(Zf:Def P w K mg base CX0 1 "_law_cell" ["_law_script","_law_k"] (sp_cell K))(Z3l:Def P w K mg base CX0 3 "_law_things" ["_law_script"] (sp54_things K))(Z5c:Def P w K mg base CX0 3 "_law_row" ["_law_script","_law_names_here"] (sp54_row K))(Z2q:DefI P w K mg base CX0 4 "Stock" Z6 ["self","rows"] (sp_initG K Z6))(Z4l:Def P w K mg base CX0 8 "_law_made" ["_law_which","_law_stock","_law_places"] (sp54_made (C5.mk Z3 Z2 Z1 Z0 Z4)))(Z42:Def P w K mg base CX0 8 "book_of" ["rule","asks"] (spI_bookN (T5 (C5.mk Z3 Z2 Z1 Z0 Z4)) K Z6 Z5))(Z43:Def P w K mg base CX0 1 "_law_apart" ["_law_book","_law_asks","_law_places"] (sp54_apart K (C5.mk Z3 Z2 Z1 Z0 Z4)))(Z3m:Def P w K mg base CX0 3 "parts_of" ["asks","most"] (sp55_parts K))(Z24:Def P w K mg base CX0 3 "_law_stretches" ["_law_size","_law_cell_here"] (sp54_stretches K))(Z3b:Def P w K mg base CX0 4 "missed_in" ["book","parts"] (sp55_in K 399 (⟨159,25,159,39⟩:Pos) "missed_by.<locals>.<lambda>"))(Z3n:Def P w K mg base CX0 1 "_law_missed" ["_law_book","_law_some"] (sp54_missed K)):FnOk P w K mg base CX0 10 f fd ["_law_script"] (sp54_law 399 K):=by
 have sc:FnScope ["_law_script","_law_names_here","_law_asks","_law_places","_law_stock","_law_book","_law_parts","_law_some","_law_handed","_law_missed_here","_law_at","_law_part","_law_many"] ["_law_script"] (defScope Z25):=by walk_at "sc"
 refine F.ok sc (fun vs H Q E h=>?_) (fun cdv A outer s H vs Q E hr h=>?_)
 · obtain ⟨_,_,rfl,_⟩:=h;rfl
 obtain ⟨a,ns,rfl,hS,hl,hT,q⟩:=h
 refine ⟨_,(@pss_cons _ _ _ _ _ (ps_set (i:=1) sc.nd rfl (Or.inl rfl) (pe_callD Z3l hr rfl pass0 (pa_cons (pv 0) pa_nil)))
  (@pss_cons _ _ _ _ _ (ps_set (i:=2) sc.nd rfl (Or.inl rfl) (pe_callD Z5c hr rfl pass0 (pa_cons (pv 0) (pa_cons (pv 1) pa_nil))))
  (@pss_cons _ _ _ _ _ (ps_set (i:=3) sc.nd rfl (Or.inl rfl) (pe_op op_add pe_int (pe_op op_mod (pe_callD Zf hr rfl pass0 (pa_cons (pv 0) (pa_cons pe_int pa_nil))) (pe_callB call_len_seq rfl T.Zq PySem.boot_len (pa_cons (pv 1) pa_nil)))))
  (@pss_cons _ _ _ _ _ (ps_if (pt_cmpR op_eq (pe_op op_mod (pe_callD Zf hr rfl pass0 (pa_cons (pv 0) (pa_cons pe_int pa_nil))) pe_int) pe_int (nomark _))
   (@pss_one _ _ _ (ps_set (i:=3) sc.nd rfl (Or.inl rfl) (pe_callB (call_min2 rfl) rfl T.Z2r (by first | rfl | decide+kernel) (pa_cons (pv 3) (pa_cons pe_int pa_nil)))))
   pss_nil)
  (@pss_cons _ _ _ _ _ (ps_set (i:=4) sc.nd rfl (Or.inl rfl) (pe_makeS Z2q hr rfl (passS pass0) (pa_cons (pe_comp1 "_law_name" [0] rfl rfl (pi_list (pv 1)) (fun b=>(pe_tup (pa_cons (pv 0) (pa_cons (pe_op op_add pe_int (pe_op op_mod (pe_callD Zf hr rfl pass0 (pa_cons (pv 1) (pa_cons pe_int pa_nil))) pe_int)) (pa_cons pe_int pa_nil)))))) pa_nil)))
  (@pss_cons _ _ _ _ _ (ps_set (i:=5) sc.nd rfl (Or.inl rfl) (pe_callD Z42 hr rfl pass0 (pa_cons (pe_callD Z4l hr rfl pass0 (pa_cons (pe_op op_mod (pe_callD Zf hr rfl pass0 (pa_cons (pv 0) (pa_cons pe_int pa_nil))) pe_int) (pa_cons (pv 4) (pa_cons (pv 3) pa_nil)))) (pa_cons (pe_callTy call_list_of rfl T.Z0t (by first | rfl | decide+kernel) (pa_cons (pv 2) pa_nil)) pa_nil))))
  (@pss_cons _ _ _ _ _ (ps_if (pt_not (pt_val (pe_callD Z43 hr rfl pass0 (pa_cons (pv 5) (pa_cons (pv 2) (pa_cons (pv 3) pa_nil))))))
   (@pss_one _ _ _ (@ps_ret _ _ _ _ pe_bl))
   pss_nil)
  (@pss_cons _ _ _ _ _ (ps_set (i:=6) sc.nd rfl (Or.inl rfl) (pe_callD Z3m hr rfl pass0 (pa_cons (pe_callTy call_list_of rfl T.Z0t (by first | rfl | decide+kernel) (pa_cons (pv 2) pa_nil)) (pa_cons (pv 3) pa_nil))))
  (@pss_cons _ _ _ _ _ (ps_set (i:=7) sc.nd rfl (Or.inl rfl) (pe_op op_cat (pv 6) (pe_callD Z24 hr rfl pass0 (pa_cons (pe_callB call_len_seq rfl T.Zq PySem.boot_len (pa_cons (pv 2) pa_nil)) (pa_cons (pe_callD Zf hr rfl pass0 (pa_cons (pv 0) (pa_cons pe_int pa_nil))) pa_nil)))))
  (@pss_cons _ _ _ _ _ (ps_set (i:=8) sc.nd rfl (Or.inl rfl) (@pe_lst _ _ _ _ (pa_cons (pe_comp1 "_law_row_here" [] rfl rfl (pi_list (pv 5)) (fun b=>(pe_tup (pa_cons (@pe_ix _ _ _ _ _ _ _ ix_tup (pv 0) pe_int (fun _ _=>rfl)) (pa_cons (@pe_ix _ _ _ _ _ _ _ ix_tup (pv 0) pe_int (fun _ _=>rfl)) (pa_cons (pe_callTy call_list_of rfl T.Z0t (by first | rfl | decide+kernel) (pa_cons (@pe_ix _ _ _ _ _ _ _ ix_tup (pv 0) pe_int (fun _ _=>rfl)) pa_nil)) pa_nil)))))) (pa_cons (pe_callTy call_list_of rfl T.Z0t (by first | rfl | decide+kernel) (pa_cons (pv 7) pa_nil)) pa_nil))))
  (@pss_cons _ _ _ _ _ (ps_set (i:=9) sc.nd rfl (Or.inl rfl) (pe_callD Z3b hr rfl pass0 (pa_cons (@pe_ix _ _ _ _ _ _ _ ix_list (pv 8) pe_int (fun _ _=>rfl)) (pa_cons (@pe_ix _ _ _ _ _ _ _ ix_list (pv 8) pe_int (fun _ _=>rfl)) pa_nil))))
  (@pss_cons _ _ _ _ _ (ps_if (PW.pt (pw_or (pt_cmpR (op_neQ hr) (pv 9) (pe_callD Z3n hr rfl pass0 (pa_cons (pv 5) (pa_cons (pv 7) pa_nil))) (nomark _)) (pw_or1 (pt_cmpR (op_neN 3 hr) (pv 8) (@pe_lst _ _ _ _ (pa_cons (pv 5) (pa_cons (pv 7) pa_nil))) (nomark _)))))
   (@pss_one _ _ _ (@ps_ret _ _ _ _ pe_bl))
   pss_nil)
  (@pss_cons _ _ _ _ _ (ps_if (pt_cmpR op_gt (pe_callB call_len_seq rfl T.Zq PySem.boot_len (pa_cons (pe_compI "_law_many" [] rfl rfl (pi_list (pv 9)) (fun b=>(pt_val (pe_callB call_isinst rfl T.Zh (by first | rfl | decide+kernel) (pa_cons (pv 0) (pa_cons (pe_bltn (v:= .ty "bool") rfl T.Z27 (by first | rfl | decide+kernel) rfl) pa_nil))))) (fun b=>(pv 0))) pa_nil)) pe_int (nomark _))
   (@pss_one _ _ _ (@ps_ret _ _ _ _ pe_bl))
   pss_nil)
  (@pss_cons _ _ _ _ _ (ps_set (i:=10) sc.nd rfl (Or.inl rfl) pe_int)
  (@pss_cons _ _ _ _ _ (ps_for PassesOwn.never rfl (pi_zip rfl T.Z4o (pa_cons (pv 6) (pa_cons (pv 9) pa_nil))) (pg_tup rfl (pgs_cons (pg_name (i:=11) sc.nd rfl (Or.inl rfl)) (pgs_cons (pg_name (i:=12) sc.nd rfl (Or.inl rfl)) pgs_nil)))
   (@pss_cons _ _ _ _ _ (ps_if (PW.pt (pw_or (pt_cmpR op_ne (@pe_ix _ _ _ _ _ _ _ ix_tup (pv 11) pe_int (fun _ _=>rfl)) (pv 10) (nomark _)) (pw_or1 (pt_cmpR op_gt (pv 12) (pe_lenset rfl rfl T.Zq rfl T.Z47 (pa_cons (pe_slice sl_list (pv 2) (po_some (@pe_ix _ _ _ _ _ _ _ ix_tup (pv 11) pe_int (fun _ _=>rfl))) (po_some (@pe_ix _ _ _ _ _ _ _ ix_tup (pv 11) pe_int (fun _ _=>rfl)))) pa_nil)) (nomark _)))))
    (@pss_one _ _ _ (@ps_ret _ _ _ _ pe_bl))
    pss_nil)
   (@pss_one _ _ _ (ps_set (i:=10) sc.nd rfl (Or.inl rfl) (@pe_ix _ _ _ _ _ _ _ ix_tup (pv 11) pe_int (fun _ _=>rfl))))))
  (@pss_one _ _ _ (@ps_ret _ _ _ _ (pe_cmpR op_eq (pv 10) (pe_callB call_len_seq rfl T.Zq PySem.boot_len (pa_cons (pv 2) pa_nil)) (nomark _))))))))))))))))))),?_⟩
 walk_at "st"
 have line:=line_val
 walk_at "go"
 intro np us H1 hnp sm1 hkn hu1 hu2 hund hunm
 have hS1:=sm1.seq hS
 have hT1:=sm1 _ _ hT
 rename_i rest hrest
 subst hrest
 walk_at "go"
 refine ⟨us,hkn,hu1,hu2,fun ap ys H2 sm2 hka hyl hyi=>?_⟩
 have hS2:=sm2.seq hS1
 have hT2:=sm2 _ _ hT1
 have hkn2:=sm2 _ _ hkn
 clear hS1 hT1 hkn sm1 sm2 hS hT hnp
 rename_i rest hrest
 subst hrest
 walk_at "go"
 refine ⟨_,.inl (SqL.of hkn2),?_⟩
 rw [List.length_map]
 refine ⟨by omega,?_⟩
 have g0:=Int.emod_nonneg (ns.getD 3 0) (show (us.length:Int)≠0 by omega)
 have g1:=Int.emod_lt_of_pos (ns.getD 3 0) (show (0:Int) < us.length by omega)
 rename_i rest hrest
 subst hrest
 walk_at "go"
 rename_i rest hrest
 have key:∀P:Int,1≤P→P≤60→rest [some (V.ref a),some (V.ref np),some (V.ref ap),some (V.int P),none,none,none,none,none,none,none,none,none] H2:=by
  intro P hP1 hP2
  clear g0 g1
  subst hrest
  walk_at "go"
  refine ⟨⟨_,SqL.of hkn2⟩,compL_mk (fun i y H=>∃t,y=V.ref t∧SqT K H t [.str (us.getD i Str.empty),.int (1+ns.getD 2 0 % 1000),.int 1]) (fun _=>True) (fun i y H H' l zs ⟨t,e,h⟩ hl sb=>⟨t,e,SqT.butL sb hl h⟩) (SqL.of hkn2) (by rw [List.length_map];omega) (fun b i x H' Q' hx sm' _ q'=>?_) (fun D yl H4 hD sm4 hyD hyl4 hall hG=>?_)⟩
  · rw [List.getElem?_map]at hx
    cases hz:us[i]? with
    | none=>rw [hz]at hx;cases hx
    | some z=>
    rw [hz]at hx
    cases hx
    have ez:us.getD i Str.empty=z∧True:=⟨by rw [List.getD_eq_getElem?_getD,hz];rfl,trivial⟩
    rw [ez.1]at q'
    walk_at "go"
    exact ⟨ns,sm'.seq hS2,by decide,hl,by decide,by omega,fun t ht=>q' _ _ (Same.new ht) ⟨t,rfl,SqT.of upd_same⟩ trivial⟩
  · have ey:yl=(yl.map aOf).map V.ref:=by
     rw [List.map_map]
     refine (List.map_id yl).symm.trans (List.map_congr_left fun y hy=>?_)
     obtain ⟨i,hi⟩:=List.mem_iff_getElem?.mp hy
     obtain ⟨t,rfl,_⟩:=hall i y hi
     rfl
    rw [List.length_map]at hyl4
    have rows:=N41.rows41 (K:=K) (C:=fun _=>1+ns.getD 2 0 % 1000) (R:=fun _=>1) (as:=yl.map aOf) (by rw [← ey];exact hyD) (by rw [List.length_map];exact hyl4) (by omega) hund hunm (fun y hy=>⟨(by show 0≤1+ns.getD 2 0 % 1000;omega),(by show 1+ns.getD 2 0 % 1000≤10 ^ 30;omega),(by decide:(1:Int)≤1),(by decide:(1:Int)≤1000)⟩) (fun i c h=>by
     rw [List.getElem?_map]at h
     cases hy':yl[i]? with
     | none=>rw [hy']at h;cases h
     | some y=>
      rw [hy']at h
      obtain ⟨t,rfl,hs⟩:=hall i y hy'
      cases h
      exact hs)
    have hka4:=sm4 _ _ hka
    have hS4:=sm4.seq hS2
    have hT4:=sm4 _ _ hT2
    clear hall hyD ey hyl4 hD sm4 hG hka hS2 hT2 hkn2
    intro st dx hst hdx ne1
    obtain ⟨rws,r1,r2,r3,r4⟩:=rows.init
    have smx:Same H4 (upd (upd H4 dx (.own st)) st (.ins Z6 dx [])):=fun b o e=>by rw [upd_ne (ne_of_none e hst),upd_ne (ne_of_none e hdx)];exact e
    refine ⟨dx,D,rfl,upd_same,rws,by rw [r1];exact smx.seq rows.l,fun t ht=>smx.tup (r2 t ht),r3,fun H5 sb5 stk=>?_⟩
    rw [r4]at stk
    have sm5:Same H4 H5:=same_made hst hdx sb5
    have hka5:=sm5 _ _ hka4
    have hS5:=sm5.seq hS4
    have hT5:=sm5 _ _ hT4
    clear r1 r2 r3 r4 smx sb5 rows hst hdx ne1 sm5 hka4 hS4 hT4
    have htn:(N41.tsF (fun _=>1+ns.getD 2 0 % 1000) (fun _=>1) us).map (·.1)=us∧True:=⟨N41.tsF_names,trivial⟩
    have htr:∀y∈us,rm (N41.tsF (fun _=>1+ns.getD 2 0 % 1000) (fun _=>1) us) y=1:=fun y hy=>(N41.tsF_cst hund hy).2
    have htl:(N41.tsF (fun _=>1+ns.getD 2 0 % 1000) (fun _=>1) us).length≤60:=by rw [N41.tsF_len];omega
    generalize N41.tsF (fun _=>1+ns.getD 2 0 % 1000) (fun _=>1) us=ts at stk htn htr htl
    have hTn:(ts.map (·.1)).Nodup:=by rw [htn.1];exact hund
    have hTi:∀y∈ys,y∈ts.map (·.1):=fun y hy=>by rw [htn.1];exact hyi y hy
    have hr1:∀u∈ts.map (·.1),rm ts u=1:=fun u hu=>htr u (by rw [htn.1]at hu;exact hu)
    have hzR:∀z∈ys,rm ts z≤P:=fun z hz=>by rw [hr1 z (hTi z hz)];exact hP1
    clear htn htr hyi hund hunm
    obtain ⟨w5,hw5⟩:=w5_of (ns.getD 6 0)
    have hw5':ns.getD 6 0 % 5=w5.i∧True:=⟨hw5,trivial⟩
    clear hw5
    rename_i rest hrest
    subst hrest
    walk_at "go"
    refine ⟨w5,hw5'.1,hP1,by omega,fun q1 M1 Hr sm11 hM1 at1=>⟨_,.inl (SqL.of (sm11 _ _ hka5)),fun l2 hl2=>?_⟩⟩
    have sB:Same Hr (upd Hr l2 (.lst (ys.map V.str))):=Same.new hl2
    have sAB:=sm11.trans sB
    have nl2:l2∉M1:=fun h=>RuleT.live _ at1 l2 h hl2
    refine ⟨w5,H5,st,M1,P,ts,ys,_,RuleT.dep _ (fun k _ o z=>sB k o z) at1,inv5,stk,sAB,hM1,hTn,htl,SqL.of upd_same,nl2,hyl,hTi,hzR,hP1,by omega,by rw [cnt5];exact Nat.zero_le _,fun b1 as1 gs1 H12 kp12 hb1 htup1 bk1 at2 hbn1 hbg1 hgn1 hx1=>?_⟩
    have sm12:Same H5 H12:=fun x o e=>kp12 x o (fun h=>by rw [hM1 x h]at e;cases e) (sAB x o e)
    have B1:Bk6 (T5 (C5.mk Z3 Z2 Z1 Z0 Z4) w5) (z5 (C5.mk Z3 Z2 Z1 Z0 Z4) w5) H12 b1 as1 gs1 ts P ys:=⟨hb1,bk1.n.trans grows_len,bk1.m.trans grows_len,fun i a g h1 h2=>⟨(hx1 i a g h1 h2).2.2.2.1,(hx1 i a g h1 h2).2.2.2.2⟩⟩
    obtain ⟨hBk,hbr,hgl⟩:=bk5_of B1
    have hbl:(mk5 (T5 (C5.mk Z3 Z2 Z1 Z0 Z4) w5) (z5 (C5.mk Z3 Z2 Z1 Z0 Z4) w5) ts P ys as1 gs1).length≤200:=by unfold mk5;rw [List.length_map,List.length_range];exact hyl
    have hbl2:ys.length≤(mk5 (T5 (C5.mk Z3 Z2 Z1 Z0 Z4) w5) (z5 (C5.mk Z3 Z2 Z1 Z0 Z4) w5) ts P ys as1 gs1).length:=by unfold mk5;rw [List.length_map,List.length_range];exact Nat.le_refl _
    generalize mk5 (T5 (C5.mk Z3 Z2 Z1 Z0 Z4) w5) (z5 (C5.mk Z3 Z2 Z1 Z0 Z4) w5) ts P ys as1 gs1=bs at hBk hbr hgl hbl hbl2
    have hka12:=sm12 _ _ hka5
    have hS12:=sm12.seq hS5
    have hT12:=sm12 _ _ hT5
    clear sB sAB hM1 nl2 kp12 hb1 htup1 bk1 at2 hbn1 hbg1 hgn1 hx1 sm12 sm11 at1 hl2 hka5 hS5 hT5 B1 stk hw5'
    rename_i rest hrest
    subst hrest
    walk_at "go"
    have hrun:Run5 K (C5.mk Z3 Z2 Z1 Z0 Z4) w5 H12 b1 ap bs P ts ys:=⟨hBk,hbr,SqL.of hka12,hyl,hTi,hr1,htl,hP1⟩
    refine ⟨w5,bs,ts,ys,hrun,fun H13 sm13=>?_⟩
    clear hrun
    have hBk13:=hBk.same sm13
    have hgl13:∀r∈bs,∃l:List Str,H13 r.2.2.2=some (.lst (l.map V.str)):=fun r hr=>by obtain ⟨l,h⟩:=hgl r hr;exact ⟨l,sm13 _ _ h⟩
    have hka13:=sm13 _ _ hka12
    have hS13:=sm13.seq hS12
    have hT13:=sm13 _ _ hT12
    clear sm13 hBk hgl hka12 hS12 hT12
    rename_i rest hrest
    subst hrest
    walk_at "go"
    refine ⟨_,.inl (SqL.of hka13),fun l3 hl3=>⟨ys,SqL.of upd_same,by omega,hP1,by omega,fun pp rs H14 hpp sm14 hPt hrs=>?_⟩⟩
    have sm34:=(Same.new (o:= .lst (ys.map V.str)) hl3).trans sm14
    have hBk14:=hBk13.same sm34
    have hgl14:∀r∈bs,∃l:List Str,H14 r.2.2.2=some (.lst (l.map V.str)):=fun r hr=>by obtain ⟨l,h⟩:=hgl13 r hr;exact ⟨l,sm34 _ _ h⟩
    have hka14:=sm34 _ _ hka13
    have hS14:=sm34.seq hS13
    have hT14:=sm34 _ _ hT13
    have hok:=N51.parts_ok (m:=P) hP1 ys
    rw [← hrs]at hok
    clear sm34 hBk13 hgl13 hka13 hS13 hT13 hl3 sm14 hpp hrs
    rename_i rest hrest
    subst hrest
    walk_at "go"
    refine ⟨_,.inl (SqL.of hka14),ns,hS14,by decide,hl,ys.length,by rw [List.length_map],hyl,fun ps rs2 H15 sm15 hPs hr5 hrb=>?_⟩
    have hrl:=okp_len _ _ hok
    rw [List.length_map]at hrl
    have hPt15:=N53.PtsAt.same sm15 hPt
    refine ⟨pp,ps,_,_,rfl,rfl,hPt15.1,hPs.1,by rw [List.length_map,List.length_map];omega,fun so hso=>?_⟩
    have e16:Same H15 (upd H15 so (.lst ((rs++rs2).map fun r=>V.ref r.1))):=Same.new hso
    rw [← List.map_append]
    have sm16:=sm15.trans e16
    have hPso:N53.PtsAt K (upd H15 so (.lst ((rs++rs2).map fun r=>V.ref r.1))) so (rs++rs2):=⟨upd_same,fun r hr=>by
     rcases List.mem_append.mp hr with h | h
     · exact e16 _ _ (hPt15.2 r h)
     · exact e16 _ _ (hPs.2 r h)⟩
    have hbd:∀r∈rs++rs2,r.2.1≤r.2.2∧r.2.2≤ys.length:=fun r hr=>by
     rcases List.mem_append.mp hr with h | h
     · have:=okp_in _ _ hok r.2 (List.mem_map.mpr ⟨r,h,rfl⟩)
       exact ⟨this.1,this.2.1⟩
     · exact hrb r h
    have hsl:(rs++rs2).length≤250:=by rw [List.length_append];omega
    generalize upd H15 so (.lst ((rs++rs2).map fun r=>V.ref r.1))=H16 at e16 sm16 hPso ⊢
    have hBk16:=hBk14.same sm16
    have hgl16:∀r∈bs,∃l:List Str,H16 r.2.2.2=some (.lst (l.map V.str)):=fun r hr=>by obtain ⟨l,h⟩:=hgl14 r hr;exact ⟨l,sm16 _ _ h⟩
    have hka16:=sm16 _ _ hka14
    have hT16:=sm16 _ _ hT14
    have hPt16:=N53.PtsAt.same e16 hPt15
    clear hBk14 hgl14 hka14 hT14 hS14 hPt hPt15 hPs sm15 e16 sm16 hso hr5 hrb
    rename_i rest hrest
    subst hrest
    walk_at "go"
    refine ⟨⟨_,SqL.of hBk16.l⟩,compL_mkD (fun D i y H=>∃(t g:Addr) (r:N55.Bk5) (l:List Str),bs[i]?=some r∧y=V.ref t∧t≠D∧g≠D∧H t=some (.tup [.str r.2.1,.bl r.2.2.1,.ref g])∧H g=some (.lst (l.map V.str))∧H r.2.2.2=some (.lst (l.map V.str))∧r.2.2.2≠D) (fun {D i y H H'} ⟨t,g,r,l,h1,h2,h3,h4,h5,h6,h7,h8⟩ sb=>⟨t,g,r,l,h1,h2,h3,h4,sb _ _ h5 h3,sb _ _ h6 h4,sb _ _ h7 h8,h8⟩) (SqL.of hBk16.l) (by rw [List.length_map];omega) (fun b D i x H' Q' hx sm' hD0 hDz q'=>?_) (fun D yl H17 hD sm17 hyD hyl17 hall=>?_)⟩
    · rw [List.getElem?_map]at hx
      cases hz:bs[i]? with
      | none=>rw [hz]at hx;cases hx
      | some r=>
      rw [hz]at hx
      cases hx
      have hrm:=List.mem_of_getElem? hz
      have hX:=sm' _ _ (hBk16.t r hrm)
      obtain ⟨l,hl0⟩:=hgl16 r hrm
      have hl':=sm' _ _ hl0
      obtain ⟨zs,hDz⟩:=hDz
      walk_at "go"
      refine ixT_of (SqT.of hX) (v:=V.str r.2.1) (atI_nat (j:=0) rfl) (ixT_of (SqT.of hX) (v:=V.bl r.2.2.1) (atI_nat (j:=1) rfl) (ixT_of (SqT.of hX) (v:=V.ref r.2.2.2) (atI_nat (j:=2) rfl) ⟨_,rfl,_,.inl (SqL.of hl'),fun g hg=>⟨by omega,fun t ht=>?_⟩⟩))
      have e1:Same H' (upd H' g (.lst (l.map V.str))):=Same.new hg
      have e2:Same (upd H' g (.lst (l.map V.str))) (upd (upd H' g (.lst (l.map V.str))) t (.tup [V.str r.2.1,V.bl r.2.2.1,V.ref g])):=Same.new ht
      exact q' _ _ (e1.trans e2) ⟨t,g,r,l,hz,rfl,(ne_of_none (e1 _ _ hDz) ht).symm,(ne_of_none hDz hg).symm,upd_same,e2 _ _ upd_same,(e1.trans e2) _ _ hl',ne_of_none hl0 hD0⟩
    have hBk17:=hBk16.same sm17
    have hka17:=sm17 _ _ hka16
    have hT17:=sm17 _ _ hT16
    have hPt17:=N53.PtsAt.same sm17 hPt16
    have hPso17:=N53.PtsAt.same sm17 hPso
    have hgl17:∀r∈bs,∃l:List Str,H17 r.2.2.2=some (.lst (l.map V.str)):=fun r hr=>by obtain ⟨l,h⟩:=hgl16 r hr;exact ⟨l,sm17 _ _ h⟩
    rw [List.length_map]at hyl17
    clear hBk16 hka16 hT16 hPt16 hPso hgl16 sm17 hD
    walk_at "go"
    refine ⟨_,.inl (SqL.of hPso17.1),fun so2 hso2=>⟨by omega,fun hd hhd=>?_⟩⟩
    have e18:Same H17 (upd H17 so2 (.lst ((rs++rs2).map fun r=>V.ref r.1))):=Same.new hso2
    have kso2:upd H17 so2 (.lst ((rs++rs2).map fun r=>V.ref r.1)) so2=some (.lst ((rs++rs2).map fun r=>V.ref r.1)):=upd_same
    generalize upd H17 so2 (.lst ((rs++rs2).map fun r=>V.ref r.1))=H18 at e18 kso2 hhd ⊢
    have e19:Same H18 (upd H18 hd (.lst [V.ref D,V.ref so2])):=Same.new hhd
    have khd:upd H18 hd (.lst [V.ref D,V.ref so2]) hd=some (.lst [V.ref D,V.ref so2]):=upd_same
    have e79:=e18.trans e19
    have kso19:=e19 _ _ kso2
    generalize upd H18 hd (.lst [V.ref D,V.ref so2])=H19 at e19 khd e79 kso19 ⊢
    have hBk19:=hBk17.same e79
    have hka19:=e79 _ _ hka17
    have hT19:=e79 _ _ hT17
    have hPt19:=N53.PtsAt.same e79 hPt17
    have hPso19:=N53.PtsAt.same e79 hPso17
    have hyD19:=e79 _ _ hyD
    have hall19:∀i y,yl[i]?=some y→∃(t g:Addr) (r:N55.Bk5) (l:List Str),bs[i]?=some r∧y=V.ref t∧H19 t=some (.tup [.str r.2.1,.bl r.2.2.1,.ref g])∧H19 g=some (.lst (l.map V.str))∧H19 r.2.2.2=some (.lst (l.map V.str)):=fun i y h=>by
     obtain ⟨t,g,r,l,h1,h2,_,_,h5,h6,h7,_⟩:=hall i y h
     exact ⟨t,g,r,l,h1,h2,e79 _ _ h5,e79 _ _ h6,e79 _ _ h7⟩
    clear hBk17 hka17 hT17 hPt17 hPso17 hgl17 hyD hall e18 e19 e79 kso2 hhd hso2
    rename_i rest hrest
    subst hrest
    walk_at "go"
    obtain ⟨bs2,hyl2,hb2,hbr2⟩:=cp5 (H:=H19) bs yl hyl17 fun i y h=>by
     obtain ⟨t,g,r,l,h1,h2,h3,_⟩:=hall19 i y h
     exact ⟨t,g,r,h1,h2,h3⟩
    have hl2:bs2.length=bs.length:=by
     have:=congrArg List.length hbr2
     unfold N55.brs at this
     rw [List.length_map,List.length_map]at this
     exact this
    have hl2a:=Nat.le_of_eq hl2
    have hl2b:=Nat.le_of_eq hl2.symm
    clear hl2
    have hBD:N55.BkAt H19 D bs2:=⟨by rw [← hyl2];exact hyD19,hb2⟩
    have hLm:LamOk 399 (⟨159,25,159,39⟩:Pos) (Str.ofString "missed_by.<locals>.<lambda>") H19:= .inl hT19
    have hPso2:N53.PtsAt K H19 so2 (rs++rs2):=⟨kso19,hPso19.2⟩
    refine ixL_of (SqL.of khd) (v:=V.ref D) (atI_nat (j:=0) rfl) (ixL_of (SqL.of khd) (v:=V.ref so2) (atI_nat (j:=1) rfl) ⟨D,rfl,so2,rfl,bs2,hBD,by omega,rs++rs2,hPso2,hsl,fun r hr=>⟨(hbd r hr).1,Nat.le_trans (hbd r hr).2 (by omega)⟩,hLm,fun mi H20 hmi tk20 kmi=>?_⟩)
    rw [hbr2]at kmi
    have hyD20:=tk20.lst hLm hyD19
    have khd20:=tk20.lst hLm khd
    have hPso20:=N55.ptsAt_tk tk20 hLm hPso19
    have hPt20:=N55.ptsAt_tk tk20 hLm hPt19
    have hso20:=tk20.lst hLm kso19
    have hBk20:=N55.BkAt.tk tk20 hLm hBk19
    have hka20:=tk20.lst hLm hka19
    have hall20:∀i y,yl[i]?=some y→∃(t g:Addr) (r:N55.Bk5) (l:List Str),bs[i]?=some r∧y=V.ref t∧H20 t=some (.tup [.str r.2.1,.bl r.2.2.1,.ref g])∧H20 g=some (.lst (l.map V.str))∧H20 r.2.2.2=some (.lst (l.map V.str)):=fun i y h=>by
     obtain ⟨t,g,r,l,h1,h2,h5,h6,h7⟩:=hall19 i y h
     exact ⟨t,g,r,l,h1,h2,tk20.tup hLm h5,tk20.lst hLm h6,tk20.lst hLm h7⟩
    clear hall19 hyD19 khd hPso19 hPt19 kso19 hBk19 hka19 hT19 hLm hPso2 hBD hb2 tk20 hyl2 hbr2 hl2a hl2b hmi
    rename_i rest hrest
    subst hrest
    walk_at "go"
    refine ⟨bs,hBk20,hbl,rs++rs2,hPso20,hsl,fun r hr=>⟨(hbd r hr).1,Nat.le_trans (hbd r hr).2 hbl2⟩,fun md H21 sm21 kmd=>?_⟩
    have hfl:((rs++rs2).map fun r=>V.int (N55.mis (N55.slB (N55.brs bs) r.2.1 r.2.2):Nat)).all flatV=true:=List.all_eq_true.mpr fun v hv=>by obtain ⟨r,_,rfl⟩:=List.mem_map.mp hv;rfl
    refine ⟨true,⟨mi,md,_,_,rfl,rfl,.inl ⟨SqL.of (sm21 _ _ kmi),SqL.of kmd⟩,hfl,hfl,(flatEq_self hfl).symm⟩,?_⟩
    rw [if_neg (by decide)]
    refine ⟨by omega,fun pq hpq=>?_⟩
    have e22:=sm21.trans (Same.new (o:= .lst [V.ref b1,V.ref so]) hpq)
    have kpq:upd H21 pq (.lst [V.ref b1,V.ref so]) pq=some (.lst [V.ref b1,V.ref so]):=upd_same
    generalize upd H21 pq (.lst [V.ref b1,V.ref so])=H22 at e22 kpq ⊢
    refine ⟨hand_like (e22 _ _ khd20) kpq (e22 _ _ hyD20) (hBk20.same e22) hyl17 (fun i y h=>by
     obtain ⟨t,g,r,l,h1,h2,h5,h6,h7⟩:=hall20 i y h
     exact ⟨t,g,r,l,h1,h2,e22 _ _ h5,e22 _ _ h6,e22 _ _ h7⟩) (e22 _ _ hso20) (N53.PtsAt.same e22 hPso20),?_⟩
    have kmi22:=e22 _ _ kmi
    have hPt22:=N53.PtsAt.same e22 hPt20
    have hka22:=e22 _ _ hka20
    clear hBk20 hPso20 hyD20 khd20 hso20 hall20 kmi hPt20 hka20 sm21 kmd e22 kpq hpq
    rename_i rest hrest
    subst hrest
    walk_at "go"
    refine ⟨⟨_,SqL.of kmi22⟩,compL_if (fun _=>false) id (SqL.of kmi22) (by rw [List.length_map];omega) (fun b x H' QT hx sm' qt=>?_) (fun b x H' Q' hx hp sm' q'=>absurd hp (by decide)) (fun E2 H23 hE2 sm23 eE2=>?_)⟩
    · obtain ⟨r,hr,rfl⟩:=List.mem_map.mp hx
      walk_at "go"
      exact qt H' (Same.refl _)
    have kmi23:=sm23 _ _ kmi22
    have hPt23:=N53.PtsAt.same sm23 hPt22
    have hka23:=sm23 _ _ hka22
    clear kmi22 hPt22 hka22 sm23
    refine ⟨E2,rfl,_,.inl (SqL.of eE2),?_⟩
    have hfe:((rs++rs2).map fun r=>V.int (N55.mis (N55.slB (N55.brs bs) r.2.1 r.2.2):Nat)).filter (fun _=>false)=[]∧True:=⟨List.filter_eq_nil_iff.mpr (by simp),trivial⟩
    rw [hfe.1,if_neg (by decide)]
    clear hfe eE2 hE2
    rename_i rest hrest
    subst hrest
    walk_at "go"
    rename_i rest hrest
    have hrl2:(rs.map (·.2)).length=rs.length:=List.length_map ..
    refine ⟨⟨_,SqL.of hPt23.1⟩,⟨_,SqL.of kmi23⟩,forZ_le (xs:=rs.map fun r=>V.ref r.1) (ys:=(rs++rs2).map fun r=>V.int (N55.mis (N55.slB (N55.brs bs) r.2.1 r.2.2):Nat)) (by rw [List.length_map,List.length_map,List.length_append];omega) (fun i σ H'=>∃v11 v12:Option V,σ=[some (V.ref a),some (V.ref np),some (V.ref ap),some (V.int P),some (V.ref st),some (V.ref b1),some (V.ref pp),some (V.ref so),some (V.ref hd),some (V.ref mi),some (V.int (endP (rs.map (·.2)) i:Nat)),v11,v12]∧Same H23 H') ⟨none,none,rfl,Same.refl _⟩ (fun i σ H' _ ⟨_,_,_,sm⟩=>⟨SqL.of (sm _ _ hPt23.1),SqL.of (sm _ _ kmi23)⟩) ?_ ?_⟩
    · clear hrest
      rintro i x y σ H' t hx hy ⟨v11,v12,rfl,sm⟩ ht
      rw [List.getElem?_map]at hx hy
      cases hz:rs[i]? with
      | none=>rw [hz]at hx;cases hx
      | some r=>
      have hi:=(List.getElem?_eq_some_iff.mp hz).1
      rw [hz]at hx
      cases hx
      rw [List.getElem?_append_left hi,hz]at hy
      cases hy
      have hrm:=List.mem_of_getElem? hz
      have hr2:(rs.map (·.2)).getD i (0,0)=r.2:=by rw [List.getD_eq_getElem?_getD,List.getElem?_map,hz];rfl
      have hat:=okp_at _ _ hok i (by rw [List.length_map];exact hi)
      rw [hr2]at hat
      have hat2:endP (rs.map (·.2)) i=r.2.1∧True:=⟨hat.symm,trivial⟩
      have hen:endP (rs.map (·.2)) (i+1)=r.2.2∧True:=⟨by unfold endP;rw [if_neg (by omega),Nat.add_sub_cancel,hr2],trivial⟩
      obtain ⟨o1,o2,o3⟩:=okp_in _ _ hok r.2 (List.mem_map.mpr ⟨r,hrm,rfl⟩)
      have hle:=part_le (s0:=z5 (C5.mk Z3 Z2 Z1 Z0 Z4) w5) (cv5 (C5.mk Z3 Z2 Z1 Z0 Z4) P (ts.map (·.1)) w5) hr1 inv5 hP1 hTi (s:=r.2.1) o2 o3
      rw [← hbr]at hle
      rw [hat2.1,hen.1]
      clear hat hr2 hat2 hen
      have smt:=sm.trans (Same.new (o:= .tup [V.ref r.1,V.int (N55.mis (N55.slB (N55.brs bs) r.2.1 r.2.2):Nat)]) ht)
      have kt:upd H' t (.tup [V.ref r.1,V.int (N55.mis (N55.slB (N55.brs bs) r.2.1 r.2.2):Nat)]) t=some (.tup [V.ref r.1,V.int (N55.mis (N55.slB (N55.brs bs) r.2.1 r.2.2):Nat)]):=upd_same
      generalize upd H' t (.tup [V.ref r.1,V.int (N55.mis (N55.slB (N55.brs bs) r.2.1 r.2.2):Nat)])=H24 at smt kt ⊢
      have hR:=smt _ _ (hPt23.2 r hrm)
      have hka24:=smt _ _ hka23
      walk_at "go"
      refine ⟨_,SqT.of kt,rfl,_,_,rfl,_,_,rfl,rfl,?_⟩
      walk_at "go"
      refine ixT_of (SqT.of hR) (v:=V.int (r.2.1:Nat)) (atI_nat (j:=0) rfl) ⟨rfl,?_⟩
      rw [if_neg (fun h=>h rfl)]
      refine ixT_of (SqT.of hR) (v:=V.int (r.2.1:Nat)) (atI_nat (j:=0) rfl) ⟨_,rfl,ixT_of (SqT.of hR) (v:=V.int (r.2.2:Nat)) (atI_nat (j:=1) rfl) ⟨_,rfl,_,SqL.of hka24,fun pz hpz=>?_⟩⟩
      rw [cut_sl ys r.2.1 r.2.2 o1 o2]
      refine ⟨_,SqL.of upd_same,Nat.le_trans N51.sl_len (by omega),?_⟩
      rw [if_neg (by omega)]
      have smz:=smt.trans (Same.new (o:= .lst ((N51.sl ys r.2.1 r.2.2).map V.str)) hpz)
      have hRz:=smz _ _ (hPt23.2 r hrm)
      generalize upd H24 pz (.lst ((N51.sl ys r.2.1 r.2.2).map V.str))=H25 at smz hRz ⊢
      rename_i rest2 hrest2
      subst hrest2
      walk_at "go"
      exact ixT_of (SqT.of hRz) (v:=V.int (r.2.2:Nat)) (atI_nat (j:=1) rfl) ⟨rfl,smz⟩
    · rintro σ H' ⟨v11,v12,rfl,sm⟩
      rw [List.length_map]
      have hend:=okp_end _ _ hok
      rw [List.length_map]at hend
      have hen:endP (rs.map (·.2)) rs.length=ys.length:=hend
      rw [hen]
      subst hrest
      walk_at "go"
      refine ⟨_,.inl (SqL.of (sm _ _ hka23)),?_⟩
      rw [List.length_map,decide_eq_true rfl]
      exact q _
 clear hrest
 split
 · exact key _ (by split <;> omega) (by split <;> omega)
 · exact key _ (by omega) (by omega)
end
theorem all_mk{l:W.OpenLaw}{w:World}{K:W.Frag}{h:Heap}{mg:Str→Option Value}{fa f0 f1 f2 f3 f4 f5 f6 f7 f8 f9 f10 f11 f12 f13 f14 f15 f16 f17 f18 f19 f20 f21 f22 f23 f24 f25 f26 f27 f28 f29 f30 f31 f32 f33 f34 f35 f36 f37 f38 f39 f40 f41 f42 f43 f44 f45 f46 f47 f48 f49 f50 f51 f52 f53 f54 f55 f56 f57 f58 f59 f60 f61 f62 f63 f64 f65 f66 Z6 Z5 Z4 Z0 Z1 Z2 Z3:Addr}(X:K.In h)(G:h.Ns mainGlobals mg)(hfa:mg "law"=some (.ref fa))
 {od17 an17 od18 an18 od29 an29 od36 an36 od42 an42 od55 an55 od66 an66:Option Addr} {sl17 sl18 sl29 sl36 sl42 sl55 sl66:Array (Option Value)} {oc17 kV17 dc17 pm17 cd17 ct17 oc18 kV18 dc18 pm18 cd18 ct18 oc29 kV29 dc29 pm29 cd29 ct29 oc36 kV36 dc36 pm36 cd36 ct36 oc42 kV42 dc42 pm42 cd42 ct42 oc55 kV55 dc55 pm55 cd55 ct55 oc66 kV66 dc66 pm66 cd66 ct66:Value}
 {d0 d1 d2 d3 d4 d5 d6 d7 d8 d9 d10 d11 d12 d13 d14 d15 d16 d19 d20 d21 d22 d23 d24 d25 d26 d27 d28 d30 d31 d32 d33 d34 d35 d37 d38 d39 d40 d41 d43 d44 d45 d46 d47 d48 d49 d50 d51 d52 d53 d54 d56 d57 d58 d59 d60 d61 d62 d63 d64 d65:FuncData}
 (a0:W.nsIn K mainGlobals "made_of"=some (some (.ref f0))) (F0:Fun K "made_of" "made_of" Z3r f0 d0)
 (a1:W.nsIn K mainGlobals "is_name"=some (some (.ref f1))) (F1:Fun K "is_name" "is_name" Z3s f1 d1)
 (a2:W.nsIn K mainGlobals "is_whole"=some (some (.ref f2))) (F2:Fun K "is_whole" "is_whole" Z3d f2 d2)
 (a3:W.nsIn K mainGlobals "is_within"=some (some (.ref f3))) (F3:Fun K "is_within" "is_within" Z2s f3 d3)
 (a4:W.nsIn K mainGlobals "check_places"=some (some (.ref f4))) (F4:Fun K "check_places" "check_places" Z18 f4 d4)
 (a5:W.nsIn K mainGlobals "check_thing"=some (some (.ref f5))) (F5:Fun K "check_thing" "check_thing" Z1g f5 d5)
 (M6:Mk K Z6 f6) (F6:Fun K "__init__" "Stock.__init__" Z28 f6 d6)
 (M7:Meth K Z6 "has" f7) (F7:Fun K "has" "Stock.has" Z2t f7 d7)
 (M8:Meth K Z6 "thing_of" f8) (F8:Fun K "thing_of" "Stock.thing_of" Z0w f8 d8)
 (M9:Meth K Z6 "room_of" f9) (F9:Fun K "room_of" "Stock.room_of" Z13 f9 d9)
 (a10:W.nsIn K mainGlobals "check_asks"=some (some (.ref f10))) (F10:Fun K "check_asks" "check_asks" Z29 f10 d10)
 (M11:Mk K Z5 f11) (F11:Fun K "__init__" "Shelf.__init__" Z2a f11 d11)
 (M12:Meth K Z5 "lying" f12) (F12:Fun K "lying" "Shelf.lying" Z1h f12 d12)
 (M13:Meth K Z5 "holds" f13) (F13:Fun K "holds" "Shelf.holds" Z1i f13 d13)
 (M14:Meth K Z5 "room_left" f14) (F14:Fun K "room_left" "Shelf.room_left" Z0s f14 d14)
 (M15:Meth K Z5 "put" f15) (F15:Fun K "put" "Shelf.put" Z2u f15 d15)
 (M16:Meth K Z5 "cast" f16) (F16:Fun K "cast" "Shelf.cast" Z2b f16 d16)
 (a17:W.findIn K (.ref Z4) "__init__"=some (some (.ref f17))) (l17:K.lookup f17=some ⟨oc17,od17,.func (W.fnOf "__init__" "Rule.__init__" (defArgs Z0j) (defBody Z0j) (defScope Z0j) .none kV17 dc17 pm17 an17 cd17 ct17),sl17⟩) (c17:W.codeIn K cd17 "Rule.__init__"=true) (n17:W.isFn K (.ref f17)=true) (k17:W.keepIn K (.ref Z4)=true) (m17:W.makesIn K Z4=true) (kf17:W.keepIn K (.ref f17)=true)
 (fc17:W.findCls K (.ref Z4) (.type "type") "__init__"=some (.val (.ref f17))) (sc17:W.specialIn K (.ref Z4) "__getattribute__"=some (some (.builtin "type.__getattribute__"))) (rc17:W.readsIn K Z4 (.type "type")=true)
 (a18:W.findIn K (.ref Z0) "__init__"=some (some (.ref f18))) (l18:K.lookup f18=some ⟨oc18,od18,.func (W.fnOf "__init__" "Ranked.__init__" (defArgs Z07) (defBody Z07) (defScope Z07) .none kV18 dc18 pm18 an18 cd18 ct18),sl18⟩) (c18:W.codeIn K cd18 "Ranked.__init__"=true) (n18:W.isFn K (.ref f18)=true) (k18:W.keepIn K (.ref Z0)=true) (m18:W.makesIn K Z0=true) (kf18:W.keepIn K (.ref f18)=true)
 (fc18:W.findCls K (.ref Z0) (.type "type") "__init__"=some (.val (.ref f18))) (sc18:W.specialIn K (.ref Z0) "__getattribute__"=some (some (.builtin "type.__getattribute__"))) (rc18:W.readsIn K Z0 (.type "type")=true)
 (M19:Mk K Z1 f19) (F19:Fun K "__init__" "Ranked.__init__" Z1j f19 d19)
 (M20:Mk K Z2 f20) (F20:Fun K "__init__" "First.__init__" Z2c f20 d20)
 (M21:Mk K Z3 f21) (F21:Fun K "__init__" "Hand.__init__" Z2v f21 d21)
 (M22:Meth K Z4 "asked" f22) (F22:Fun K "asked" "Rule.asked" Z2d f22 d22)
 (M23:Meth K Z4 "choice" f23) (F23:Fun K "choice" "Rule.choice" Z1k f23 d23)
 (M24:Meth K Z4 "gone" f24) (F24:Fun K "gone" "Rule.gone" Z2w f24 d24)
 (M25:Meth K Z4 "came" f25) (F25:Fun K "came" "Rule.came" Z2x f25 d25)
 (M26:Meth K Z0 "number_ask" f26) (F26:Fun K "number_ask" "Ranked.number_ask" Z0k f26 d26)
 (M27:Meth K Z0 "asked" f27) (F27:Fun K "asked" "Ranked.asked" Z19 f27 d27)
 (M28:Meth K Z0 "last_of" f28) (F28:Fun K "last_of" "Ranked.last_of" Z0x f28 d28)
 (a29:W.findIn K (.ref Z0) "rank"=some (some (.ref f29))) (l29:K.lookup f29=some ⟨oc29,od29,.func (W.fnOf "rank" "Ranked.rank" (defArgs Z08) (defBody Z08) (defScope Z08) .none kV29 dc29 pm29 an29 cd29 ct29),sl29⟩) (c29:W.codeIn K cd29 "Ranked.rank"=true) (n29:W.isFn K (.ref f29)=true) (k29:W.keepIn K (.ref f29)=true)
 (gv29:W.specialIn K (.ref f29) "__get__"=some (some (.builtin "function.__get__"))) (tv29:W.takesIn K (.ref f29)=some false)
 (M30:Meth K Z0 "choice" f30) (F30:Fun K "choice" "Ranked.choice" Z14 f30 d30)
 (M31:Meth K Z0 "gone" f31) (F31:Fun K "gone" "Rule.gone" Z1l f31 d31)
 (M32:Meth K Z0 "came" f32) (F32:Fun K "came" "Rule.came" Z1m f32 d32)
 (M33:Meth K Z1 "number_ask" f33) (F33:Fun K "number_ask" "Ranked.number_ask" Z0l f33 d33)
 (M34:Meth K Z1 "asked" f34) (F34:Fun K "asked" "Ranked.asked" Z1a f34 d34)
 (M35:Meth K Z1 "last_of" f35) (F35:Fun K "last_of" "Ranked.last_of" Z0y f35 d35)
 (a36:W.findIn K (.ref Z1) "rank"=some (some (.ref f36))) (l36:K.lookup f36=some ⟨oc36,od36,.func (W.fnOf "rank" "Ranked.rank" (defArgs Z09) (defBody Z09) (defScope Z09) .none kV36 dc36 pm36 an36 cd36 ct36),sl36⟩) (c36:W.codeIn K cd36 "Ranked.rank"=true) (n36:W.isFn K (.ref f36)=true) (k36:W.keepIn K (.ref f36)=true)
 (gv36:W.specialIn K (.ref f36) "__get__"=some (some (.builtin "function.__get__"))) (tv36:W.takesIn K (.ref f36)=some false)
 (M37:Meth K Z1 "choice" f37) (F37:Fun K "choice" "Ranked.choice" Z15 f37 d37)
 (M38:Meth K Z1 "gone" f38) (F38:Fun K "gone" "Rule.gone" Z1n f38 d38)
 (M39:Meth K Z1 "came" f39) (F39:Fun K "came" "Rule.came" Z1o f39 d39)
 (M40:Meth K Z2 "number_ask" f40) (F40:Fun K "number_ask" "Ranked.number_ask" Z0p f40 d40)
 (M41:Meth K Z2 "asked" f41) (F41:Fun K "asked" "Ranked.asked" Z1p f41 d41)
 (a42:W.findIn K (.ref Z2) "rank"=some (some (.ref f42))) (l42:K.lookup f42=some ⟨oc42,od42,.func (W.fnOf "rank" "First.rank" (defArgs Z0f) (defBody Z0f) (defScope Z0f) .none kV42 dc42 pm42 an42 cd42 ct42),sl42⟩) (c42:W.codeIn K cd42 "First.rank"=true) (n42:W.isFn K (.ref f42)=true) (k42:W.keepIn K (.ref f42)=true)
 (gv42:W.specialIn K (.ref f42) "__get__"=some (some (.builtin "function.__get__"))) (tv42:W.takesIn K (.ref f42)=some false)
 (M43:Meth K Z2 "choice" f43) (F43:Fun K "choice" "Ranked.choice" Z1b f43 d43)
 (M44:Meth K Z2 "gone" f44) (F44:Fun K "gone" "Rule.gone" Z2e f44 d44)
 (M45:Meth K Z2 "came" f45) (F45:Fun K "came" "First.came" Z2f f45 d45)
 (M46:Meth K Z3 "asked" f46) (F46:Fun K "asked" "Hand.asked" Z2g f46 d46)
 (M47:Meth K Z3 "choice" f47) (F47:Fun K "choice" "Hand.choice" Z1q f47 d47)
 (M48:Meth K Z3 "gone" f48) (F48:Fun K "gone" "Hand.gone" Z2y f48 d48)
 (M49:Meth K Z3 "came" f49) (F49:Fun K "came" "Hand.came" Z2z f49 d49)
 (a50:W.nsIn K mainGlobals "make_room"=some (some (.ref f50))) (F50:Fun K "make_room" "make_room" Z30 f50 d50)
 (a51:W.nsIn K mainGlobals "row_of"=some (some (.ref f51))) (F51:Fun K "row_of" "row_of" Z4e f51 d51)
 (a52:W.nsIn K mainGlobals "book_of"=some (some (.ref f52))) (F52:Fun K "book_of" "book_of" Z3t f52 d52)
 (a53:W.nsIn K mainGlobals "parts_of"=some (some (.ref f53))) (F53:Fun K "parts_of" "parts_of" Z3e f53 d53)
 (a54:W.nsIn K mainGlobals "weighed"=some (some (.ref f54))) (F54:Fun K "weighed" "weighed" Z3u f54 d54)
 (a55:W.nsIn K mainGlobals "missed_by"=some (some (.ref f55))) (l55:K.lookup f55=some ⟨oc55,od55,.func (W.fnOf "missed_by" "missed_by" (defArgs Z0b) (defBody Z0b) (defScope Z0b) .none kV55 dc55 pm55 an55 cd55 ct55),sl55⟩) (c55:W.codeIn K cd55 "missed_by"=true) (k55:W.keepIn K (.ref f55)=true)
 {cq9:Addr} (mc55:cd55= .ref cq9) (mh55:W.codeHdIn K cq9 399=true)
 (a56:W.nsIn K mainGlobals "missed_in"=some (some (.ref f56))) (F56:Fun K "missed_in" "missed_in" Z31 f56 d56)
 (a57:W.nsIn K mainGlobals "_law_cell"=some (some (.ref f57))) (F57:Fun K "_law_cell" "_law_cell" Z4f f57 d57)
 (a58:W.nsIn K mainGlobals "_law_stream"=some (some (.ref f58))) (F58:Fun K "_law_stream" "_law_stream" Z3f f58 d58)
 (a59:W.nsIn K mainGlobals "_law_names"=some (some (.ref f59))) (F59:Fun K "_law_names" "_law_names" Z3v f59 d59)
 (a60:W.nsIn K mainGlobals "_law_things"=some (some (.ref f60))) (F60:Fun K "_law_things" "_law_things" Z3g f60 d60)
 (a61:W.nsIn K mainGlobals "_law_row"=some (some (.ref f61))) (F61:Fun K "_law_row" "_law_row" Z4w f61 d61)
 (a62:W.nsIn K mainGlobals "_law_made"=some (some (.ref f62))) (F62:Fun K "_law_made" "_law_made" Z4g f62 d62)
 (a63:W.nsIn K mainGlobals "_law_stretches"=some (some (.ref f63))) (F63:Fun K "_law_stretches" "_law_stretches" Z1r f63 d63)
 (a64:W.nsIn K mainGlobals "_law_missed"=some (some (.ref f64))) (F64:Fun K "_law_missed" "_law_missed" Z3h f64 d64)
 (a65:W.nsIn K mainGlobals "_law_apart"=some (some (.ref f65))) (F65:Fun K "_law_apart" "_law_apart" Z3w f65 d65)
 (a66:W.nsIn K mainGlobals "law"=some (some (.ref f66))) (l66:K.lookup f66=some ⟨oc66,od66,.func (W.fnOf "law" "law" (defArgs Z25) (defBody Z25) (defScope Z25) .none kV66 dc66 pm66 an66 cd66 ct66),sl66⟩) (c66:W.codeIn K cd66 "law"=true) (k66:W.keepIn K (.ref f66)=true)
 (Zq:W.nsIn K mainGlobals "len"=some none)
 (Zh:W.nsIn K mainGlobals "isinstance"=some none)
 (Z44:W.nsIn K mainGlobals "int"=some none)
 (Z27:W.nsIn K mainGlobals "bool"=some none)
 (Z4m:W.nsIn K mainGlobals "str"=some none)
 (Z0t:W.nsIn K mainGlobals "list"=some none)
 (Z45:W.nsIn K mainGlobals "tuple"=some none)
 (Z4n:W.nsIn K mainGlobals "all"=some none)
 (Z0h:W.nsIn K mainGlobals "range"=some none)
 (Z46:W.nsIn K mainGlobals "sum"=some none)
 (Z0i:W.nsIn K mainGlobals "enumerate"=some none)
 (Z4o:W.nsIn K mainGlobals "zip"=some none)
 (Z5q:W.nsIn K mainGlobals "max"=some none)
 (Z2r:W.nsIn K mainGlobals "min"=some none)
 (Z4p:W.nsIn K mainGlobals "dict"=some none)
 (Z3c:W.nsIn K mainGlobals "sorted"=some none)
 (Z47:W.nsIn K mainGlobals "set"=some none)
 {Z6h:Tok} (Z12:W.nsIn K mainGlobals "LETTERS"=some (some (.str "abcdefghijklmnopqrstuvwxyz" Z6h)))
 {Z6i:Tok} (Z1f:W.nsIn K mainGlobals "FIGURES"=some (some (.str "0123456789" Z6i)))
 {Z5p:Tok} (Z0o:W.nsIn K mainGlobals "MOST_SIGNS"=some (some (.int 8 Z5p)))
 {Z5d:Tok} (Z0g:W.nsIn K mainGlobals "MOST_THINGS"=some (some (.int 60 Z5d)))
 {Z64:Tok} (Z0u:W.nsIn K mainGlobals "MOST_ROOM"=some (some (.int 1000 Z64)))
 {Z5e:Tok} (Z06:W.nsIn K mainGlobals "MOST_PLACES"=some (some (.int 1000000 Z5e)))
 {Z65:Tok} (Z0v:W.nsIn K mainGlobals "MOST_ASKS"=some (some (.int 200 Z65)))
 (Z48:W.nsIn K mainGlobals "Stock"=some (some (.ref Z6))) (Z6q:Cls K Z6)
 (Z7:W.findIn K (.ref Z6) "things"=some none)
 (Z49:W.nsIn K mainGlobals "Shelf"=some (some (.ref Z5))) (Z6r:Cls K Z5)
 (Zw:W.findIn K (.ref Z5) "stock"=some none)
 (Zz:W.findIn K (.ref Z5) "places"=some none)
 (Zb:W.findIn K (.ref Z5) "rooms"=some none)
 (Z4u:W.nsIn K mainGlobals "Rule"=some (some (.ref Z4))) (Z6u:Cls K Z4)
 (Z0c:W.findIn K (.ref Z4) "stock"=some none)
 (Z03:W.findIn K (.ref Z4) "places"=some none)
 (Z3o:W.nsIn K mainGlobals "Ranked"=some (some (.ref Z0))) (Z6o:Cls K Z0)
 (Z00:W.findIn K (.ref Z0) "stock"=some none)
 (Zt:W.findIn K (.ref Z0) "places"=some none)
 (Zk:W.findIn K (.ref Z0) "present"=some none)
 (Zx:W.findIn K (.ref Z0) "last"=some none)
 (Z3p:W.nsIn K mainGlobals "Oldest"=some (some (.ref Z1))) (Z6p:Cls K Z1)
 (Z01:W.findIn K (.ref Z1) "stock"=some none)
 (Zu:W.findIn K (.ref Z1) "places"=some none)
 (Zl:W.findIn K (.ref Z1) "present"=some none)
 (Zy:W.findIn K (.ref Z1) "last"=some none)
 (Z4a:W.nsIn K mainGlobals "First"=some (some (.ref Z2))) (Z6s:Cls K Z2)
 (Z04:W.findIn K (.ref Z2) "stock"=some none)
 (Z02:W.findIn K (.ref Z2) "places"=some none)
 (Zg:W.findIn K (.ref Z2) "present"=some none)
 (Z0d:W.findIn K (.ref Z2) "last"=some none)
 (Zs:W.findIn K (.ref Z2) "put_at"=some none)
 (Z4v:W.nsIn K mainGlobals "Hand"=some (some (.ref Z3))) (Z6v:Cls K Z3)
 (Z0e:W.findIn K (.ref Z3) "stock"=some none)
 (Z05:W.findIn K (.ref Z3) "places"=some none)
 (Z9:W.findIn K (.ref Z3) "order"=some none)
 (Zi:W.findIn K (.ref Z3) "marked"=some none)
 :(∃c,W.codeHdIn K c 399=true)∧∃fd:FuncData,(∀(s:Shared) (v:Value),BindsTo s fd ⟨[v],[]⟩ [("_law_script",v)])∧∀base:Heap,K.In base→base.Ns mainGlobals mg→base.BuiltinsAt mg 399→FnOk l.prog w K mg base CX0 10 fa fd ["_law_script"] (sp54_law 399 K):=by
 have e:=hfa.symm.trans (W.mg_of X G a66)
 cases e
 have T:Txt K mg Z6 Z5 Z4 Z0 Z1 Z2 Z3:=⟨W.mg_of X G Z48,Z6q,Z7,W.mg_of X G Z49,Z6r,Zw,Zz,Zb,W.mg_of X G Z4u,Z6u,Z0c,Z03,W.mg_of X G Z3o,Z6o,Z00,Zt,Zk,Zx,W.mg_of X G Z3p,Z6p,Z01,Zu,Zl,Zy,W.mg_of X G Z4a,Z6s,Z04,Z02,Zg,Z0d,Zs,W.mg_of X G Z4v,Z6v,Z0e,Z05,Z9,Zi,W.mg_none_of X G Zq,W.mg_none_of X G Zh,W.mg_none_of X G Z44,W.mg_none_of X G Z27,W.mg_none_of X G Z4m,W.mg_none_of X G Z0t,W.mg_none_of X G Z45,W.mg_none_of X G Z4n,W.mg_none_of X G Z0h,W.mg_none_of X G Z46,W.mg_none_of X G Z0i,W.mg_none_of X G Z4o,W.mg_none_of X G Z5q,W.mg_none_of X G Z2r,W.mg_none_of X G Z4p,W.mg_none_of X G Z3c,W.mg_none_of X G Z47,⟨_,W.mg_of X G Z12⟩,⟨_,W.mg_of X G Z1f⟩,⟨_,W.mg_of X G Z0o⟩,⟨_,W.mg_of X G Z0g⟩,⟨_,W.mg_of X G Z0u⟩,⟨_,W.mg_of X G Z06⟩,⟨_,W.mg_of X G Z0v⟩⟩
 have F17:=fun_mk (st:=Z0j) l17 c17 kf17
 have F18:=fun_mk (st:=Z07) l18 c18 kf18
 have F29:=fun_mk (st:=Z08) l29 c29 k29
 have F36:=fun_mk (st:=Z09) l36 c36 k36
 have F42:=fun_mk (st:=Z0f) l42 c42 k42
 have F55:=fun_mk (st:=Z0b) l55 c55 k55
 have F66:=fun_mk (st:=Z25) l66 c66 k66
 refine ⟨⟨_,mh55⟩,W.fnOf "law" "law" (defArgs Z25) (defBody Z25) (defScope Z25) .none kV66 dc66 pm66 an66 cd66 ct66,fun s v=> .of_eq rfl,fun base _ _ HB=>?_⟩
 have B:Bs l.prog w K mg base:=⟨h,X,G⟩
 have Z3x:=F0.d B a0 (Z6b F0 T) (F0.e2 fun _ _ _ _ _ _ _ _=>rfl)
 have Z3y:=F1.d B a1 (Z6c F1 T Z3x) (F1.e1 fun _ _ _ _ _ _ _=>rfl)
 have Z3i:=F2.d B a2 (Z66 F2 T) (F2.e1 fun _ _ _ _ _ _ _=>rfl)
 have Zp:=F3.d B a3 (Z5s F3 T Z3i) (F3.e3 fun _ _ _ _ _ _ _ _ _=>rfl)
 have Ze:=F4.d B a4 (Z4q F4 T Zp) (F4.e1 fun _ _ _ _ _ _ _=>rfl)
 have Z1s:=F5.d B a5 (Z4x F5 T Z3y Zp) (F5.e4 fun _ _ _ _ _ _ _ _ _ _=>rfl)
 have Z2q:=F6.i B M6 Z48 (Z5f F6 T Z1s) (F6.e2 fun _ _ _ _ _ _ _ _=>rfl)
 have Z32:=F7.m B M7 (Z5t F7 T) (F7.e2 fun _ _ _ _ _ _ _ _=>rfl)
 have Z0z:=F8.m B M8 (Z4b F8 T) (F8.e2 fun _ _ _ _ _ _ _ _=>rfl)
 have Za:=F9.m B M9 (Z4h F9 T Z0z) (F9.e2 fun _ _ _ _ _ _ _ _=>rfl)
 have Z2n:=F10.d B a10 (Z5g F10 T Ze Z32 Za) (F10.e3 fun _ _ _ _ _ _ _ _ _=>rfl)
 have Z2o:=F11.i B M11 Z49 (Z5h F11 T Ze) (F11.e3 fun _ _ _ _ _ _ _ _ _=>rfl)
 have Z1v:=F12.m B M12 (Z4y F12 T) (F12.e1 fun _ _ _ _ _ _ _=>rfl)
 have Zj:=F13.m B M13 (Z4z F13 T) (F13.e2 fun _ _ _ _ _ _ _ _=>rfl)
 have Zr:=F14.m B M14 (Z3z F14 T) (F14.e1 fun _ _ _ _ _ _ _=>rfl)
 have Z36:=F15.m B M15 (Z5u F15 T Za Zj Zr) (F15.e2 fun _ _ _ _ _ _ _ _=>rfl)
 have Z2i:=F16.m B M16 (Z5i F16 T Zj) (F16.e2 fun _ _ _ _ _ _ _ _=>rfl)
 have Zc:DefB l.prog w K mg base CX0 4 "Rule" Z4 ["self","stock","places"] (sp28_rinit K):=⟨⟨f17,_,Z5v F17 T Ze,⟨m17,a17,n17,k17⟩,W.mg_of X G Z4u,F17.binds (ps:=["self","stock","places"]) fun _ _ _ _ _ _ us hl=>match us,hl with | [_,_,_],_=>rfl,fc17,kf17⟩,sc17,rc17⟩
 have Z0a:DefB l.prog w K mg base CX0 5 "Ranked" Z0 ["self","stock","places"] (sp28_kinit K):=⟨⟨f18,_,Z50 F18 T Zc,⟨m18,a18,n18,k18⟩,W.mg_of X G Z3o,F18.binds (ps:=["self","stock","places"]) fun _ _ _ _ _ _ us hl=>match us,hl with | [_,_,_],_=>rfl,fc18,kf18⟩,sc18,rc18⟩
 have Z23:=F19.i B M19 Z3p (Z51 F19 T Zc) (F19.e3 fun _ _ _ _ _ _ _ _ _=>rfl)
 have Z2p:=F20.i B M20 Z4a (Z5j F20 T Z0a) (F20.e3 fun _ _ _ _ _ _ _ _ _=>rfl)
 have Z3a:=F21.i B M21 Z4v (Z5w F21 T Zc) (F21.e3 fun _ _ _ _ _ _ _ _ _=>rfl)
 have Z2l:=F22.m B M22 (Z5k F22 T) (F22.e2 fun _ _ _ _ _ _ _ _=>rfl)
 have Z1x:=F23.m B M23 (Z52 F23 T) (F23.e2 fun _ _ _ _ _ _ _ _=>rfl)
 have Z34:=F24.m B M24 (Z5x F24 T) (F24.e2 fun _ _ _ _ _ _ _ _=>rfl)
 have Z38:=F25.m B M25 (Z5y F25 T) (F25.e2 fun _ _ _ _ _ _ _ _=>rfl)
 have Z0m:=F26.m B M26 (Z3j F26 T) (F26.e2 fun _ _ _ _ _ _ _ _=>rfl)
 have Z1e:=F27.m B M27 (Z4r F27 T Z0m) (F27.e2 fun _ _ _ _ _ _ _ _=>rfl)
 have Z10:=F28.m B M28 (Z4c F28 T) (F28.e2 fun _ _ _ _ _ _ _ _=>rfl)
 have Z1t:DefV l.prog w K mg base 2 Z0 "rank" ["self","name"] (sp21_rank Z0):=⟨⟨f29,_,Z53 F29 T Z10,⟨a29,n29,k29⟩,F29.binds (ps:=["self","name"]) fun _ _ _ _ _ _ us hl=>match us,hl with | [_,_],_=>rfl,gv29,tv29⟩⟩
 have Z17:=F30.m B M30 (Z4i F30 T Z1t) (F30.e2 fun _ _ _ _ _ _ _ _=>rfl)
 have Z1z:=F31.m B M31 (Z54 F31 T) (F31.e2 fun _ _ _ _ _ _ _ _=>rfl)
 have Z22:=F32.m B M32 (Z55 F32 T) (F32.e2 fun _ _ _ _ _ _ _ _=>rfl)
 have Z0n:=F33.m B M33 (Z3k F33 T) (F33.e2 fun _ _ _ _ _ _ _ _=>rfl)
 have Z1d:=F34.m B M34 (Z4s F34 T Z0n) (F34.e2 fun _ _ _ _ _ _ _ _=>rfl)
 have Z11:=F35.m B M35 (Z4d F35 T) (F35.e2 fun _ _ _ _ _ _ _ _=>rfl)
 have Z1u:DefV l.prog w K mg base 2 Z1 "rank" ["self","name"] (sp21_rank Z1):=⟨⟨f36,_,Z56 F36 T Z11,⟨a36,n36,k36⟩,F36.binds (ps:=["self","name"]) fun _ _ _ _ _ _ us hl=>match us,hl with | [_,_],_=>rfl,gv36,tv36⟩⟩
 have Z16:=F37.m B M37 (Z4j F37 T Z1u) (F37.e2 fun _ _ _ _ _ _ _ _=>rfl)
 have Z1y:=F38.m B M38 (Z57 F38 T) (F38.e2 fun _ _ _ _ _ _ _ _=>rfl)
 have Z21:=F39.m B M39 (Z58 F39 T) (F39.e2 fun _ _ _ _ _ _ _ _=>rfl)
 have Z0q:=F40.m B M40 (Z3q F40 T) (F40.e2 fun _ _ _ _ _ _ _ _=>rfl)
 have Z20:=F41.m B M41 (Z59 F41 T Z0q) (F41.e2 fun _ _ _ _ _ _ _ _=>rfl)
 have Z2h:DefV l.prog w K mg base 1 Z2 "rank" ["self","name"] (sp22_rank Z2):=⟨⟨f42,_,Z5l F42 T,⟨a42,n42,k42⟩,F42.binds (ps:=["self","name"]) fun _ _ _ _ _ _ us hl=>match us,hl with | [_,_],_=>rfl,gv42,tv42⟩⟩
 have Z1c:=F43.m B M43 (Z4t F43 T Z2h) (F43.e2 fun _ _ _ _ _ _ _ _=>rfl)
 have Z2j:=F44.m B M44 (Z5m F44 T) (F44.e2 fun _ _ _ _ _ _ _ _=>rfl)
 have Z2m:=F45.m B M45 (Z5n F45 T) (F45.e2 fun _ _ _ _ _ _ _ _=>rfl)
 have Z2k:=F46.m B M46 (Z5o F46 T) (F46.e2 fun _ _ _ _ _ _ _ _=>rfl)
 have Z1w:=F47.m B M47 (Z5a F47 T) (F47.e2 fun _ _ _ _ _ _ _ _=>rfl)
 have Z33:=F48.m B M48 (Z5z F48 T) (F48.e2 fun _ _ _ _ _ _ _ _=>rfl)
 have Z37:=F49.m B M49 (Z60 F49 T) (F49.e2 fun _ _ _ _ _ _ _ _=>rfl)
 have Z35:=F50.d B a50 (Z61 F50 T Zr Z1v Z1w Z1c Z16 Z17 Z1x Z2i Z33 Z2j Z1y Z1z Z34) (F50.e3 fun _ _ _ _ _ _ _ _ _=>rfl)
 have Z4k:=F51.d B a51 (Z6j F51 T Z2k Z20 Z1d Z1e Z2l Zj Za Z35 Z36 Z37 Z2m Z21 Z22 Z38) (F51.e3 fun _ _ _ _ _ _ _ _ _=>rfl)
 have Z42:=F52.d B a52 (Z6d F52 T Z2n Z2o Z4k) (F52.e2 fun _ _ _ _ _ _ _ _=>rfl)
 have Z3m:=F53.d B a53 (Z67 F53 T Zp) (F53.e2 fun _ _ _ _ _ _ _ _=>rfl)
 have Z40:=F54.d B a54 (Z6e F54 T) (F54.e2 fun _ _ _ _ _ _ _ _=>rfl)
 have Z39:Def l.prog w K mg base CX0 3 "missed_by" ["book"] (sp55_missed 399 (⟨159,25,159,39⟩:Pos) "missed_by.<locals>.<lambda>"):=⟨⟨f55,_,Z62 F55 T Z40 ⟨_,_,_,_,_,l55,mc55,mh55⟩ HB,W.mg_of X G a55,k55,F55.binds (ps:=["book"]) fun _ _ _ _ _ _ us hl=>match us,hl with | [_],_=>rfl⟩⟩
 have Z3b:=F56.d B a56 (Z63 F56 T Z39) (F56.e2 fun _ _ _ _ _ _ _ _=>rfl)
 have Zf:=F57.d B a57 (Z6k F57 T) (F57.e2 fun _ _ _ _ _ _ _ _=>rfl)
 have Z0r:=F58.d B a58 (Z68 F58 T) (F58.e2 fun _ _ _ _ _ _ _ _=>rfl)
 have Z41:=F59.d B a59 (Z6f F59 T) (F59.e2 fun _ _ _ _ _ _ _ _=>rfl)
 have Z3l:=F60.d B a60 (Z69 F60 T Zf Z41) (F60.e1 fun _ _ _ _ _ _ _=>rfl)
 have Z5c:=F61.d B a61 (Z6n F61 T Zf Z0r) (F61.e2 fun _ _ _ _ _ _ _ _=>rfl)
 have Z4l:=F62.d B a62 (Z6l F62 T Z3a Z2p Z23 Z0a Zc) (F62.e3 fun _ _ _ _ _ _ _ _ _=>rfl)
 have Z24:=F63.d B a63 (Z5b F63 T Z0r) (F63.e2 fun _ _ _ _ _ _ _ _=>rfl)
 have Z3n:=F64.d B a64 (Z6a F64 T) (F64.e2 fun _ _ _ _ _ _ _ _=>rfl)
 have Z43:=F65.d B a65 (Z6g F65 T) (F65.e3 fun _ _ _ _ _ _ _ _ _=>rfl)
 exact Z6t F66 T Zf Z3l Z5c Z2q Z4l Z42 Z43 Z3m Z24 Z3b Z3n
end K54
namespace PySem.W.Fast
theorem tw9501662729469914181:True:=⟨⟩
theorem tw5753741936057505241:True:=⟨⟩
theorem tw5286793065137349420:True:=⟨⟩
theorem tw15910458808724367470:True:=⟨⟩
theorem tw16974221404927624379:True:=⟨⟩
theorem tw13547393271202385004:True:=⟨⟩
theorem tw7311460310354119776:True:=⟨⟩
theorem tw54734680438022476:True:=⟨⟩
theorem tw12306860914456959058:True:=⟨⟩
theorem tw13228419232394110191:True:=⟨⟩
theorem tw7740159209749082567:True:=⟨⟩
theorem tw11152539914079130387:True:=⟨⟩
theorem tw14363802239601669762:True:=⟨⟩
theorem tw3213730713606383192:True:=⟨⟩
theorem tw14551179340006007531:True:=⟨⟩
theorem tw867944668254295810:True:=⟨⟩
theorem tw1406532439100347077:True:=⟨⟩
theorem tw8943544495243600738:True:=⟨⟩
theorem tw1074747092808078134:True:=⟨⟩
theorem tw6203082434281634350:True:=⟨⟩
theorem tw5104253458260284140:True:=⟨⟩
theorem tw12413380321903056968:True:=⟨⟩
theorem tw18148451028552981763:True:=⟨⟩
theorem tw17164322620544935639:True:=⟨⟩
theorem tw16052494843631644841:True:=⟨⟩
theorem tw12590386104490008932:True:=⟨⟩
theorem tw4134969694963626388:True:=⟨⟩
theorem tw4948833020249258476:True:=⟨⟩
theorem tw15108889318943327783:True:=⟨⟩
theorem tw8894886891715290332:True:=⟨⟩
theorem tw14965004439684723863:True:=⟨⟩
theorem tw12907941730750208785:True:=⟨⟩
theorem tw2135104812199372594:True:=⟨⟩
theorem tw7863257772827796685:True:=⟨⟩
theorem tw1810022228574383087:True:=⟨⟩
theorem tw1725633185521606601:True:=⟨⟩
theorem tw18178592147557450183:True:=⟨⟩
theorem tw7890919830735173308:True:=⟨⟩
theorem tw13088610235200846581:True:=⟨⟩
theorem tw3049220901690905144:True:=⟨⟩
theorem tw3009808546869938043:True:=⟨⟩
theorem tw15690180770539533892:True:=⟨⟩
theorem tw6578564013149906393:True:=⟨⟩
theorem tw13412538754477982844:True:=⟨⟩
theorem tw7215004259457241586:True:=⟨⟩
theorem tw3477297736809890292:True:=⟨⟩
theorem tw4025339854734101251:True:=⟨⟩
theorem tw7076086816331470960:True:=⟨⟩
theorem tw10446472869659235890:True:=⟨⟩
theorem tw15453534703513782229:True:=⟨⟩
theorem tw5812262190429871735:True:=⟨⟩
theorem tw10714139542330329063:True:=⟨⟩
theorem tw11713827789980931187:True:=⟨⟩
theorem tw15092934291674058697:True:=⟨⟩
theorem tw7308123631062351975:True:=⟨⟩
theorem tw7354864223545154676:True:=⟨⟩
theorem tw1621197529593713821:True:=⟨⟩
theorem tw3538962441634008261:True:=⟨⟩
theorem tw12147314499649201041:True:=⟨⟩
theorem tw1293295279592306641:True:=⟨⟩
theorem tw4814511635808134911:True:=⟨⟩
theorem tw10317270582848498305:True:=⟨⟩
theorem tw16907454763439282926:True:=⟨⟩
theorem tw1923503308801227490:True:=⟨⟩
theorem tw14714568583807059496:True:=⟨⟩
theorem tw1123764520814330744:True:=⟨⟩
theorem tw16941676374951652666:True:=⟨⟩
theorem tw2050969034479621481:True:=⟨⟩
theorem tw11715382258425440210:True:=⟨⟩
theorem tw6038488955086406124:True:=⟨⟩
theorem tw1330375967904360512:True:=⟨⟩
theorem tw17991078996737801544:True:=⟨⟩
theorem tw12152408088435527703:True:=⟨⟩
theorem tw2921085715262228585:True:=⟨⟩
theorem tw9152246501154664160:True:=⟨⟩
theorem tw11958310975819270269:True:=⟨⟩
theorem tw11917000480907292115:True:=⟨⟩
theorem tw17631949471014333223:True:=⟨⟩
theorem tw8181979928557949137:True:=⟨⟩
theorem tw12771940157801651485:True:=⟨⟩
theorem tw2218168810334447753:True:=⟨⟩
theorem tw4813008691965622444:True:=⟨⟩
theorem tw10297267861667271377:True:=⟨⟩
theorem tw12014514487177760848:True:=⟨⟩
theorem tw14471973199755807232:True:=⟨⟩
theorem tw1405263575894217083:True:=⟨⟩
theorem tw5823441771827585511:True:=⟨⟩
theorem tw1848351372282248670:True:=⟨⟩
theorem tw7364979374421971937:True:=⟨⟩
theorem tw8967471223227237839:True:=⟨⟩
theorem tw9061924446254322920:True:=⟨⟩
theorem tw16165414915477782780:True:=⟨⟩
theorem tw9670822387416662239:True:=⟨⟩
theorem tw2092835460399518944:True:=⟨⟩
theorem tw5164184063861881070:True:=⟨⟩
theorem tw2793251241839100485:True:=⟨⟩
theorem tw15515426339766171784:True:=⟨⟩
theorem tw827089819263449674:True:=⟨⟩
theorem tw16510022823833697433:True:=⟨⟩
theorem tw14241266413842325978:True:=⟨⟩
theorem tw4972376394319933539:True:=⟨⟩
theorem tw7451039806474083331:True:=⟨⟩
theorem tw2945341766814360967:True:=⟨⟩
theorem tw15426452646025423418:True:=⟨⟩
theorem tw10731879992246574929:True:=⟨⟩
theorem tw4517253322748534860:True:=⟨⟩
theorem tw4925576483621420858:True:=⟨⟩
theorem tw7933025822615542131:True:=⟨⟩
theorem tw11828325214097588212:True:=⟨⟩
theorem tw3374573344081797414:True:=⟨⟩
theorem tw18164458784903105826:True:=⟨⟩
theorem tw10194836271455543402:True:=⟨⟩
theorem tw18046289257441054200:True:=⟨⟩
theorem tw17547127542435294714:True:=⟨⟩
theorem tw3035303247887980300:True:=⟨⟩
theorem tw4077671464888639478:True:=⟨⟩
theorem tw2622398383025345287:True:=⟨⟩
theorem tw18077374116534574570:True:=⟨⟩
theorem tw11430982735329854599:True:=⟨⟩
theorem tw15861307070810812106:True:=⟨⟩
theorem tw12126709993507659112:True:=⟨⟩
theorem tw15479878586837122283:True:=⟨⟩
theorem tw16972875073219478141:True:=⟨⟩
theorem tw791134487961071924:True:=⟨⟩
theorem tw17896679662103515211:True:=⟨⟩
theorem tw7945229426898764153:True:=⟨⟩
theorem tw7386447482565132213:True:=⟨⟩
theorem tw12870440435384675439:True:=⟨⟩
theorem tw5556718239299610169:True:=⟨⟩
theorem tw1951541132000648352:True:=⟨⟩
theorem tw4483552553513480431:True:=⟨⟩
theorem tw4472233511479155514:True:=⟨⟩
theorem tw2828532259683390472:True:=⟨⟩
theorem tw8902155007198846462:True:=⟨⟩
theorem tw10956117194115116733:True:=⟨⟩
theorem tw10317586775491376185:True:=⟨⟩
theorem tw85935263268054131:True:=⟨⟩
theorem tw16911363817149196975:True:=⟨⟩
theorem tw4715636313999730468:True:=⟨⟩
theorem tw9582648762193964705:True:=⟨⟩
theorem tw16366545378763575758:True:=⟨⟩
theorem tw15356668908281376732:True:=⟨⟩
theorem tw3769659465294921678:True:=⟨⟩
theorem tw16968485848862985486:True:=⟨⟩
theorem tw4176864872194877659:True:=⟨⟩
theorem tw15631888162397450178:True:=⟨⟩
theorem tw11890368233262857828:True:=⟨⟩
theorem tw8765340230266149990:True:=⟨⟩
theorem tw1928143351063602890:True:=⟨⟩
theorem tw16918957416815673590:True:=⟨⟩
theorem tw10715935693539447343:True:=⟨⟩
theorem tw10370707268879057322:True:=⟨⟩
theorem tw1771349079582169922:True:=⟨⟩
theorem tw715093857641958441:True:=⟨⟩
theorem tw15778977323412487751:True:=⟨⟩
theorem tw11660858012073375698:True:=⟨⟩
theorem tw6154277512457387938:True:=⟨⟩
theorem tw5102982184444417459:True:=⟨⟩
theorem tw1525532862918733475:True:=⟨⟩
theorem tw397108762756183813:True:=⟨⟩
theorem tw10283842640517974991:True:=⟨⟩
theorem tw7450526039717229279:True:=⟨⟩
theorem tw8637877774228393516:True:=⟨⟩
theorem tw10278903339600555928:True:=⟨⟩
theorem tw2839991333358038074:True:=⟨⟩
theorem tw13209269256933484535:True:=⟨⟩
theorem tw7144390445424592677:True:=⟨⟩
theorem tw5348220779487908218:True:=⟨⟩
theorem tw3469673799241655428:True:=⟨⟩
theorem tw14828563040947665452:True:=⟨⟩
theorem tw4265243357350672714:True:=⟨⟩
theorem tw9855549353274685660:True:=⟨⟩
theorem tw16297692178750656850:True:=⟨⟩
theorem tw15836352766515552188:True:=⟨⟩
theorem tw7691461564544968326:True:=⟨⟩
theorem tw4528940785195313861:True:=⟨⟩
theorem tw7104275042161847921:True:=⟨⟩
theorem tw695681943206683440:True:=⟨⟩
theorem tw5595733490238213813:True:=⟨⟩
theorem tw2711655804156477022:True:=⟨⟩
theorem tw6439829019849442240:True:=⟨⟩
theorem tw7121005568837374699:True:=⟨⟩
theorem tw3301363764301179874:True:=⟨⟩
theorem tw11921689519141298737:True:=⟨⟩
theorem tw9289692360296165847:True:=⟨⟩
theorem tw15882070872923632381:True:=⟨⟩
theorem tw2954215646542506203:True:=⟨⟩
theorem tw9341403430789709558:True:=⟨⟩
theorem tw14056465195580332520:True:=⟨⟩
theorem tw15536774337096225893:True:=⟨⟩
theorem tw11237219232433647929:True:=⟨⟩
theorem tw14340424305378034899:True:=⟨⟩
theorem tw2177313512916073520:True:=⟨⟩
theorem tw6473702395684496465:True:=⟨⟩
theorem tw129325490546043139:True:=⟨⟩
theorem tw2250611231704432744:True:=⟨⟩
theorem tw16151132084872787630:True:=⟨⟩
theorem tw16651160791605504043:True:=⟨⟩
theorem tw4647708105351446761:True:=⟨⟩
theorem tw5823300911763790076:True:=⟨⟩
theorem tw14831721227687820748:True:=⟨⟩
theorem tw2476122085718186364:True:=⟨⟩
theorem tw17387692798163483914:True:=⟨⟩
theorem tw9601344766540072584:True:=⟨⟩
theorem tw2195522425833635919:True:=⟨⟩
theorem tw17205542859355846534:True:=⟨⟩
theorem tw17430472386087742959:True:=⟨⟩
theorem tw7357808572499117655:True:=⟨⟩
theorem tw4001359416026360662:True:=⟨⟩
theorem tw7435021257105520343:True:=⟨⟩
theorem tw17390638423872666341:True:=⟨⟩
theorem tw580404087388962289:True:=⟨⟩
theorem tw15030056091032213963:True:=⟨⟩
theorem tw1129670400732218164:True:=⟨⟩
theorem tw864968767483648641:True:=⟨⟩
theorem tw3632226240379675546:True:=⟨⟩
theorem tw17601471386143437921:True:=⟨⟩
theorem tw15775045351944707430:True:=⟨⟩
theorem tw1114937313472116654:True:=⟨⟩
theorem tw15104917353605750423:True:=⟨⟩
theorem tw15687284309627470674:True:=⟨⟩
theorem tw6755792678736571060:True:=⟨⟩
theorem tw7759747146494789956:True:=⟨⟩
theorem tw10179455400436600569:True:=⟨⟩
theorem tw362265181077947001:True:=⟨⟩
theorem tw10692971410552967559:True:=⟨⟩
theorem tw17813792796402623414:True:=⟨⟩
theorem tw8743404968072198138:True:=⟨⟩
theorem tw4260260332895478019:True:=⟨⟩
theorem tw12740519253503755147:True:=⟨⟩
theorem tw9502838194477991407:True:=⟨⟩
theorem tw12544290711283917126:True:=⟨⟩
theorem tw5457860569773964007:True:=⟨⟩
theorem tw5360754482193793799:True:=⟨⟩
theorem tw6994425678978037366:True:=⟨⟩
theorem tw14272039272254605915:True:=⟨⟩
theorem tw3471243318658573986:True:=⟨⟩
theorem tw3513724615973475459:True:=⟨⟩
theorem tw12300112864055429899:True:=⟨⟩
theorem tw5898312172653806372:True:=⟨⟩
theorem tw12255135332491591554:True:=⟨⟩
theorem tw14513010795244568788:True:=⟨⟩
theorem tw3348486629387644512:True:=⟨⟩
theorem tw18303937988564400688:True:=⟨⟩
theorem tw13725464442755834144:True:=⟨⟩
theorem tw9845301696986688251:True:=⟨⟩
theorem tw4795288551269759152:True:=⟨⟩
theorem tw9444088340123407732:True:=⟨⟩
theorem tw4915684756815057051:True:=⟨⟩
theorem tw287804373359521540:True:=⟨⟩
theorem tw17116630670185888239:True:=⟨⟩
theorem tw3153905162887310984:True:=⟨⟩
theorem tw13297164360451424905:True:=⟨⟩
theorem tw8101977524624740394:True:=⟨⟩
theorem tw12258319680279993763:True:=⟨⟩
theorem tw1221125191312005883:True:=⟨⟩
theorem tw13103103976874205441:True:=⟨⟩
theorem tw17859227581941271824:True:=⟨⟩
theorem tw13131460912939696259:True:=⟨⟩
theorem tw5067695363206293392:True:=⟨⟩
theorem tw11637121359933551:True:=⟨⟩
theorem tw3714060338809365167:True:=⟨⟩
theorem tw7090608545207948138:True:=⟨⟩
theorem tw3124638495697863059:True:=⟨⟩
theorem tw1993384049494497387:True:=⟨⟩
theorem tw14540276409103700501:True:=⟨⟩
theorem tw10127178693005443181:True:=⟨⟩
theorem tw6518220698752877820:True:=⟨⟩
theorem tw7949267399509715323:True:=⟨⟩
theorem tw8164970721688423707:True:=⟨⟩
theorem tw9873513892341750349:True:=⟨⟩
theorem tw11791226952699279884:True:=⟨⟩
theorem tw15384419367572318652:True:=⟨⟩
theorem tw1466407110633758588:True:=⟨⟩
theorem tw11930365803126424074:True:=⟨⟩
theorem tw4566842426340913635:True:=⟨⟩
theorem tw13560435409985704226:True:=⟨⟩
theorem tw7344533671297370866:True:=⟨⟩
theorem tw1518169862076014829:True:=⟨⟩
theorem tw15032432095955333886:True:=⟨⟩
theorem tw6686070120337753419:True:=⟨⟩
theorem tw15495372080452678445:True:=⟨⟩
theorem tw2485635416668841506:True:=⟨⟩
theorem tw2396575912905006058:True:=⟨⟩
theorem tw13157723563927035630:True:=⟨⟩
theorem tw14579215142984324227:True:=⟨⟩
theorem tw13689984871511200123:True:=⟨⟩
theorem tw8557211253436883928:True:=⟨⟩
theorem tw10283595801494702555:True:=⟨⟩
theorem tw311297568914137051:True:=⟨⟩
theorem tw5983232357645181300:True:=⟨⟩
theorem tw5860333982118018211:True:=⟨⟩
theorem tw6631407210087312752:True:=⟨⟩
theorem tw7410542244999525050:True:=⟨⟩
theorem tw14946299533161477056:True:=⟨⟩
theorem tw6075652066676465281:True:=⟨⟩
theorem tw8754378571818788156:True:=⟨⟩
theorem tw3810589098681834380:True:=⟨⟩
theorem tw974094740074892217:True:=⟨⟩
theorem tw10102081910620583984:True:=⟨⟩
theorem tw8580993286454235660:True:=⟨⟩
theorem tw8218123437177962457:True:=⟨⟩
theorem tw7114944385071425216:True:=⟨⟩
theorem tw14060834193806117275:True:=⟨⟩
theorem tw6096476236770514595:True:=⟨⟩
theorem tw7112961144312496988:True:=⟨⟩
theorem tw12052148205566623651:True:=⟨⟩
theorem tw5208794289824499717:True:=⟨⟩
theorem tw7372547404768396746:True:=⟨⟩
theorem tw3370728888827023877:True:=⟨⟩
theorem tw14634328195172880437:True:=⟨⟩
theorem tw18064235171992863502:True:=⟨⟩
theorem tw12920671562206251196:True:=⟨⟩
theorem tw14247091559974936378:True:=⟨⟩
theorem tw2025748154787417767:True:=⟨⟩
theorem tw16623135888027046824:True:=⟨⟩
theorem tw13542380131493545977:True:=⟨⟩
theorem tw2829032924111127913:True:=⟨⟩
theorem tw14498897487133229955:True:=⟨⟩
theorem tw17064751495934570594:True:=⟨⟩
theorem tw16243562294834375665:True:=⟨⟩
theorem tw1118723805036927759:True:=⟨⟩
end PySem.W.Fast
open PySem PySem.W PyProof.Rows
set_option maxRecDepth 100000 in
set_option maxHeartbeats 0 in
theorem PySem.Challenge.cw_castoff_k54_whole_each_thing_once_a_part_holds : PySem.Challenge.rw_castoff_k54_whole_each_thing_once_a_part.Holds := by
 w_on;o_law;k_head;(case hw=>w_witness2)
 k_fill
 refine L2.walk_ofKT (l:=PySem.Challenge.rw_castoff_k54_whole_each_thing_once_a_part) (n:=63) (k:=10) (x:="_law_script") (CX:=L2.CX0) (sp:=N54.sp54_law 399) (tp:=399) rfl (by decide) rfl ⟨rfl,by decide,by decide⟩ (fun w h Y=>PySem.W.km_in_of Y) (fun w h Y=>PySem.W.km_tabs_of Y _ (by simp)) (fun w=>by kernel_rfl) ?F ?S ?C
 case F=>
  intro w mg fa h KX G hmg
  refine' K54.all_mk KX G hmg ?a0 ?FF0 ?a1 ?FF1 ?a2 ?FF2 ?a3 ?FF3 ?a4 ?FF4 ?a5 ?FF5 ?MI6 ?FF6 ?MM7 ?FF7 ?MM8 ?FF8 ?MM9 ?FF9 ?a10 ?FF10 ?MI11 ?FF11 ?MM12 ?FF12 ?MM13 ?FF13 ?MM14 ?FF14 ?MM15 ?FF15 ?MM16 ?FF16 ?a17 ?l17 ?c17 ?n17 ?k17 ?m17 ?kf17 ?fc17 ?sc17 ?rc17 ?a18 ?l18 ?c18 ?n18 ?k18 ?m18 ?kf18 ?fc18 ?sc18 ?rc18 ?MI19 ?FF19 ?MI20 ?FF20 ?MI21 ?FF21 ?MM22 ?FF22 ?MM23 ?FF23 ?MM24 ?FF24 ?MM25 ?FF25 ?MM26 ?FF26 ?MM27 ?FF27 ?MM28 ?FF28 ?a29 ?l29 ?c29 ?n29 ?k29 ?gv29 ?tv29 ?MM30 ?FF30 ?MM31 ?FF31 ?MM32 ?FF32 ?MM33 ?FF33 ?MM34 ?FF34 ?MM35 ?FF35 ?a36 ?l36 ?c36 ?n36 ?k36 ?gv36 ?tv36 ?MM37 ?FF37 ?MM38 ?FF38 ?MM39 ?FF39 ?MM40 ?FF40 ?MM41 ?FF41 ?a42 ?l42 ?c42 ?n42 ?k42 ?gv42 ?tv42 ?MM43 ?FF43 ?MM44 ?FF44 ?MM45 ?FF45 ?MM46 ?FF46 ?MM47 ?FF47 ?MM48 ?FF48 ?MM49 ?FF49 ?a50 ?FF50 ?a51 ?FF51 ?a52 ?FF52 ?a53 ?FF53 ?a54 ?FF54 ?a55 ?l55 ?c55 ?k55 ?mc55 ?mh55 ?a56 ?FF56 ?a57 ?FF57 ?a58 ?FF58 ?a59 ?FF59 ?a60 ?FF60 ?a61 ?FF61 ?a62 ?FF62 ?a63 ?FF63 ?a64 ?FF64 ?a65 ?FF65 ?a66 ?l66 ?c66 ?k66 ?Zq ?Zh ?Z44 ?Z27 ?Z4m ?Z0t ?Z45 ?Z4n ?Z0h ?Z46 ?Z0i ?Z4o ?Z5q ?Z2r ?Z4p ?Z3c ?Z47 ?Z12 ?Z1f ?Z0o ?Z0g ?Z0u ?Z06 ?Z0v ?Z48 ?EE_Stock ?Z7 ?Z49 ?EE_Shelf ?Zw ?Zz ?Zb ?Z4u ?EE_Rule ?Z0c ?Z03 ?Z3o ?EE_Ranked ?Z00 ?Zt ?Zk ?Zx ?Z3p ?EE_Oldest ?Z01 ?Zu ?Zl ?Zy ?Z4a ?EE_First ?Z04 ?Z02 ?Zg ?Z0d ?Zs ?Z4v ?EE_Hand ?Z0e ?Z05 ?Z9 ?Zi
  case Z48|Z49|Z4u|Z3o|Z3p|Z4a|Z4v|a0|a1|a2|a3|a4|a5|a10|a17|l17|c17|n17|k17|m17|kf17|fc17|sc17|rc17|a18|l18|c18|n18|k18|m18|kf18|fc18|sc18|rc18|a29|l29|c29|n29|k29|gv29|tv29|a36|l36|c36|n36|k36|gv36|tv36|a42|l42|c42|n42|k42|gv42|tv42|a50|a51|a52|a53|a54|a55|l55|c55|k55=>k_is
  case mc55=>rfl
  (case mh55=>kernel_rfl)
  case a56|a57|a58|a59|a60|a61|a62|a63|a64|a65|a66|l66|c66|k66|Zq|Zh|Z44|Z27|Z4m|Z0t|Z45|Z4n|Z0h|Z46|Z0i|Z4o|Z5q|Z2r|Z4p|Z3c|Z47|Z12|Z1f|Z0o|Z0g|Z0u|Z06|Z0v|Z7|Zw|Zz|Zb|Z0c|Z03|Z00|Zt|Zk|Zx|Z01|Zu|Zl|Zy|Z04|Z02|Zg|Z0d|Zs|Z0e|Z05|Z9|Zi=>k_is
  case EE_Stock|EE_Shelf|EE_Rule|EE_Ranked|EE_Oldest|EE_First|EE_Hand|MI6|MI11|MI19|MI20|MI21=>refine' ⟨?j1,?j2,?j3,?j4⟩;case j1|j2|j3|j4=>k_is
  case MM7|MM8|MM9|MM12|MM13|MM14|MM15|MM16|MM22|MM23|MM24|MM25|MM26|MM27|MM28|MM30|MM31|MM32|MM33|MM34|MM35|MM37|MM38|MM39|MM40|MM41|MM43|MM44|MM45|MM46|MM47|MM48|MM49=>refine' ⟨?j1,?j2,?j3⟩;case j1|j2|j3=>k_is
  case FF0|FF1|FF2|FF3|FF4|FF5|FF6|FF7|FF8|FF9|FF10|FF11|FF12|FF13|FF14|FF15|FF16|FF19|FF20|FF21|FF22|FF23|FF24|FF25|FF26|FF27|FF28|FF30|FF31|FF32|FF33|FF34|FF35|FF37|FF38|FF39|FF40|FF41|FF43|FF44|FF45|FF46|FF47|FF48|FF49|FF50|FF51|FF52|FF53|FF54|FF56|FF57|FF58|FF59|FF60|FF61|FF62|FF63|FF64|FF65=>refine' L2.fun_mk ?l ?c ?k;case l|c|k=>k_is
 case S=>exact fun K H a ns hl hO hS=>⟨a,ns,rfl,hS,hl,hO.1,fun _=>rfl⟩
 case C=>exact fun H s e s' z=>z
