import PyProof.Rows.All
import Wide.All
import OpenK.AllK
import Wide.FinOn
import Lean
import PyProof.EqAt
import PyProof.EqKinds
import PyProof.TupleCall
import KE.KTryMore
import PyProof.StationsW
import PyProof.ExcBaseAll.ValueError
import PyProof.ExcClass2
import PyProof.RulesAs
import PyProof.NsDelKeeps
import KE.KIntText
import PyProof.StrWalks
import PyProof.StrBlockH
import PyProof.Rows.StrNews
import PyProof.Rows.StrJoin2
import PyProof.ConsumeWalk
import PyProof.FString
import PyProof.NeData
import KE.IntTextLaws
import PyProof.ExcInit
import PyProof.InstStoreFacts
import OpenK.KMake
import OpenK.KCls
import PyProof.ExcArgs
import PyProof.Rows.Catch
import KE.KDictList
import KE.KDictSum
import KE.KUnpack
import PyProof.MeetsSeq
import PyProof.Rows.StrInSeq3
import PyProof.SumAny
import PyProof.WalksS
import PyProof.EnumMake
import PyProof.EnumStmt
import PyProof.EnumFor
import PyProof.LayNew
import PyProof.Rows.EnumRows
import PyProof.ZipIter
import KE.KTurns
import PyProof.Rows.FactsT2
import PyProof.ConsumeS
import PyProof.WalkInts
import KE.KEqDict
import KE.KTurnsDict
import KE.KPairComp
import PyProof.StrLawsChain
import PyProof.StrLawsFirst
import KE.IntTextText
import PyProof.Rows.CatFin
import PyProof.Rows.StrClose5
import PyProof.Rows.StrFirst2
import PyProof.Ascii
import KE.KBoundM
import KE.KMinKey
import KE.KSuperObj
import PyProof.Rows.CallKwBuiltin
import KE.KRevIter
import PyProof.CollectIter
import KE.KDictOf
import KE.KItemsList
import PyProof.Rows.SortStr
import KE.KIsAll
import PySem.Challenge.RW_castoff_k61_makers_of_rules
set_option Elab.async false
set_option linter.all false
set_option maxRecDepth 100000
namespace L2
open PySem PySem.Spec PyProof.Rows
noncomputable abbrev Key:=Sum Int Str
noncomputable def keyIs:Key→Value→Bool
  | .inl k,v=>Value.isInt k v
  | .inr x,v=>Value.isStrOf x v
noncomputable def keyH(w:World):Key→Int
  | .inl k=>hashInt k
  | .inr x=>hashStr w x
theorem keyIs_shape:∀{k:Key} {v:Value},keyIs k v=true→(∃i t,k=Sum.inl i∧v=Value.int i t)∨(∃x t,k=Sum.inr x∧v=Value.str x t)
  | .inl i,v,h=>by
    obtain ⟨t,e⟩:=Value.isInt_shape (k:=i) (v:=v) h
    exact .inl ⟨i,t,rfl,e⟩
  | .inr x,v,h=>by
    obtain ⟨t,e⟩:=Value.isStrOf_shape (x:=x) (v:=v) h
    exact .inr ⟨x,t,rfl,e⟩
theorem keyIs_int(i:Int)(t:Tok):keyIs (.inl i) (.int i t)=true:=by simp [keyIs,Value.isInt]
theorem keyIs_str(x:Str)(t:Tok):keyIs (.inr x) (.str x t)=true:=by simp [keyIs,Value.isStrOf]
theorem key_ll(a b:Int):decide ((Sum.inl a:Key)=Sum.inl b)=(a==b):=by
  by_cases e:a=b
  · subst e;simp
  · have h:¬(Sum.inl a:Key)=Sum.inl b:=fun q=>e (Sum.inl.inj q)
    rw [decide_eq_false h]
    exact (beq_eq_false_iff_ne.mpr e).symm
theorem key_rr(a b:Str):decide ((Sum.inr a:Key)=Sum.inr b)=decide (a=b):=by
  by_cases e:a=b
  · subst e;simp
  · have h:¬(Sum.inr a:Key)=Sum.inr b:=fun q=>e (Sum.inr.inj q)
    rw [decide_eq_false h,decide_eq_false e]
theorem key_lr(a:Int)(b:Str):decide ((Sum.inl a:Key)=Sum.inr b)=false:=decide_eq_false (fun q=>nomatch q)
theorem key_rl(a:Str)(b:Int):decide ((Sum.inr a:Key)=Sum.inl b)=false:=decide_eq_false (fun q=>nomatch q)
noncomputable def mixKind(prog:Program)(w:World):PySem.KeyKind prog w Key where
  is:=keyIs
  hash:=keyH w
  inj:=fun v a b ha hb=>by
    rcases keyIs_shape ha with ⟨i,t,rfl,rfl⟩ | ⟨x,t,rfl,rfl⟩
    · rcases keyIs_shape hb with ⟨j,u,rfl,e⟩ | ⟨y,u,rfl,e⟩
      · injection e with e1 _;rw [e1]
      · exact nomatch e
    · rcases keyIs_shape hb with ⟨j,u,rfl,e⟩ | ⟨y,u,rfl,e⟩
      · exact nomatch e
      · injection e with e1 _;rw [e1]
  byValue:=fun k v h=>by
    rcases keyIs_shape h with ⟨i,t,rfl,rfl⟩ | ⟨x,t,rfl,rfl⟩ <;> rfl
  pyHash:=fun hv h=>by
    rcases keyIs_shape hv with ⟨i,t,rfl,rfl⟩ | ⟨x,t,rfl,rfl⟩
    · exact wpAny_pyHash_int h
    · exact wpAny_pyHash_str h
  eqBool:=fun hu hv h=>by
    rcases keyIs_shape hu with ⟨i,t,rfl,rfl⟩ | ⟨x,t,rfl,rfl⟩
    · rcases keyIs_shape hv with ⟨j,u,rfl,rfl⟩ | ⟨y,u,rfl,rfl⟩
      · rw [key_ll]at h;exact wpAny_eqBool_int h
      · rw [key_lr]at h;exact SeqAt.EqAt.int_str i t y u _ _ _ _ h
    · rcases keyIs_shape hv with ⟨j,u,rfl,rfl⟩ | ⟨y,u,rfl,rfl⟩
      · rw [key_rl]at h;exact SeqAt.EqAt.str_int x t j u _ _ _ _ h
      · rw [key_rr]at h;exact wpAny_eqBool_str h
  «strs»:=fun k x t v h=>by
    rcases keyIs_shape h with ⟨i,u,rfl,e⟩ | ⟨y,u,rfl,e⟩
    · exact nomatch e
    · injection e with e1 _
      subst e1
      cases v <;> rfl
theorem mixKind_int(prog:Program)(w:World)(i:Int)(t:Tok):(mixKind prog w).is (.inl i) (.int i t)=true:=keyIs_int i t
theorem mixKind_str(prog:Program)(w:World)(x:Str)(t:Tok):(mixKind prog w).is (.inr x) (.str x t)=true:=keyIs_str x t
end L2
namespace L2
open PySem PySem.Spec PyProof.Rows
inductive V where
  | non | bl (b:Bool) | int (i:Int) | str (x:Str) | byt (b:Array UInt8) | flt (b:UInt64) | ref (a:Addr) | ty (n:String)
  deriving DecidableEq
noncomputable def RelV:V→Value→Prop
  | .non,u=>u=Value.none
  | .bl b,u=>u=Value.bool b
  | .int i,u=>∃t,u=Value.int i t
  | .str x,u=>∃t,u=Value.str x t
  | .byt b,u=>∃t,u=Value.bytes b t
  | .flt b,u=>∃t,u=Value.float b t
  | .ref a,u=>u=Value.ref a
  | .ty n,u=>u=Value.type n
noncomputable abbrev Vals:List V→List Value→Prop:=Paired RelV
theorem Vals.length{xs:List V}{us:List Value}(r:Vals xs us):xs.length=us.length:=Paired.length r
theorem Vals.get:∀{xs:List V} {us:List Value} {i:Nat} {x:V},Vals xs us→xs[i]?=some x→∃u,us[i]?=some u∧RelV x u
  | _,_,_,_,.nil,e=>by simp at e
  | _,_,0,_,.cons r _,e=>by simp at e;subst e;exact ⟨_,rfl,r⟩
  | _,_,i+1,x,.cons _ t,e=>by
    obtain ⟨u,h1,h2⟩:=Vals.get (i:=i) (x:=x) t (by simpa using e)
    exact ⟨u,by simpa using h1,h2⟩
theorem Vals.append:∀{xs ys:List V} {us ws:List Value},Vals xs us→Vals ys ws→Vals (xs++ys) (us++ws)
  | _,_,_,_,.nil,s=>s
  | _,_,_,_,.cons r t,s=> .cons r (Vals.append t s)
theorem Vals.take:∀{xs:List V} {us:List Value} (n:Nat),Vals xs us→Vals (xs.take n) (us.take n)
  | _,_,0,_=> .nil
  | _,_,_+1,.nil=> .nil
  | _,_,n+1,.cons r t=> .cons r (Vals.take n t)
theorem Vals.drop:∀{xs:List V} {us:List Value} (n:Nat),Vals xs us→Vals (xs.drop n) (us.drop n)
  | _,_,0,r=>r
  | _,_,_+1,.nil=> .nil
  | _,_,n+1,.cons _ t=>Vals.drop n t
noncomputable def RelO:Option V→Option Value→Prop
  | some v,some u=>RelV v u
  | none,none=>True
  | _,_=>False
noncomputable def KV{κ:Type}:List (κ×V)→List (κ×Value)→Prop:=Paired fun (p:κ×V) (q:κ×Value)=>p.1=q.1∧RelV p.2 q.2
noncomputable def kV:Key→V
  | .inl i=> .int i
  | .inr x=> .str x
inductive HO where
  | lst (xs:List V)
  | tup (xs:List V)
  | dK (kvs:List (Key×V)) | dT (kvs:List (List Key×V))
  | set (S:Int→Bool) (n:Nat)
  | ins (C dx:Addr) (fs:List (Str×V))
  | own (x:Addr)
  | xd (fs:List (Str×V))
  | met (f x:Addr)
  | rng (lo hi:Int)
  | frz (o:Obj) (u:HO)
  | tbl (ps:Array Value)
  | ext (φ:Heap→Prop)
noncomputable abbrev Hp:=Addr→Option HO
noncomputable def upd(H:Hp)(a:Addr)(o:HO):Hp:=fun b=>if b=a then some o else H b
theorem upd_same{H:Hp}{a:Addr}{o:HO}:upd H a o a=some o:=by unfold upd;rw [if_pos rfl]
theorem upd_ne{H:Hp}{a b:Addr}{o:HO}(h:b≠a):upd H a o b=H b:=by unfold upd;rw [if_neg h]
theorem upd_upd{H:Hp}{a:Addr}{o u:HO}:upd (upd H a o) a u=upd H a u:=by
  funext b;unfold upd;split <;> rfl
theorem ne_of{H:Hp}{a b:Addr}{o u:HO}(h:H a=some o)(h':H b=some u)(d:o≠u):a≠b:=by
  intro e;subst e;rw [h]at h';exact d (Option.some.inj h')
theorem ne_of_none{H:Hp}{a b:Addr}{o:HO}(h:H a=some o)(h':H b=none):a≠b:=by
  intro e;subst e;rw [h]at h';cases h'
section
variable (P:Program) (w:World)
noncomputable def ObjOk(H:Hp)(h:Heap)(a:Addr):HO→Prop
  | .lst xs=>xs.length≤sizeLine∧∃(its:List Value) (n:Nat),Vals xs its∧h.get? a=some {cls:= .type "list",data:= .seq its.toArray n}
  | .tup xs=>xs.length≤sizeLine∧∃its:List Value,Vals xs its∧IsTup h a its.toArray
  | .dK kvs=>kvs.length≤sizeLine∧(a==sysModules)=false∧∃vs,KV kvs vs∧h.DictOf (mixKind P w) a vs
  | .dT kvs=>kvs.length≤sizeLine∧(a==sysModules)=false∧∃xs:List (List Key×Addr×Value),
      Paired (fun (p:List Key×V) (q:List Key×Addr×Value)=>p.1=q.1∧H q.2.1=some (.tup (p.1.map kV))∧RelV p.2 q.2.2) kvs xs∧
      ∃o es ep,h.get? a=some o∧o.ExactDict∧o.data= .dict es ep∧es.toList=xs.map (entryOfKey (tupleKind (mixKind P w)))∧(xs.map (·.1)).Nodup
  | .set S n=>h.SetOf (intKind P w) a S n
  | .ins C dx fs=>H dx=some (.own a)∧fs.length≤1000∧dx≠a∧h.get? a=some (PySem.W.instObj C dx)∧
      ∃mA,h.Ns1 dx mA∧(∀f,RelO (fs.lookup f) (mA f))∧PySem.Within mA (fs.map (·.1))
  | .own _=>∃o,h.get? a=some o
  | .xd fs=>∃mA,h.Ns1 a mA∧∀f,RelO (fs.lookup f) (mA f)
  | .rng lo hi=>∃t u v,h.get? a=some {cls:= .type "range",data:= .fields #[.int lo t,.int hi u,.int 1 v]}
  | .frz o u=>h.get? a=some o∧ObjOk H h a u
  | .tbl ps=>h.get? a=some {cls:= .none,data:= .fields ps}
  | .met f x=>h.get? a=some (PySem.W.methodObj (.ref f) (.ref x))
  | .ext φ=>φ h∧(∃o,h.get? a=some o)∧∀h1 h2:Heap,φ h1→(∀o,h1.get? a=some o→h2.get? a=some o)→φ h2
noncomputable def HOk(H:Hp)(h:Heap):Prop:=∀a o,H a=some o→ObjOk P w H h a o
end
section
variable {P:Program} {w:World} {H H':Hp} {h h':Heap} {a:Addr} {o:HO}
theorem ObjOk.lt(x:ObjOk P w H h a o):a < h.objs.size:=by
  cases o with
  | lst xs=>obtain ⟨_,_,_,_,e⟩:=x;exact Heap.lt_size e
  | tup xs=>obtain ⟨_,_,_,p⟩:=x;exact p.lt
  | dK kvs=>obtain ⟨_,_,_,_,o,_,_,e,_⟩:=x;exact Heap.lt_size e
  | dT kvs=>obtain ⟨_,_,_,_,o,_,_,e,_⟩:=x;exact Heap.lt_size e
  | set S n=>obtain ⟨o,_,_,_,e,_⟩:=x;exact Heap.lt_size e
  | ins C dx fs=>obtain ⟨_,_,_,e,_⟩:=x;exact Heap.lt_size e
  | own y=>obtain ⟨_,e⟩:=x;exact Heap.lt_size e
  | xd fs=>obtain ⟨_,⟨_,_,_,e,_⟩,_⟩:=x;exact Heap.lt_size e
  | rng lo hi=>obtain ⟨_,_,_,e⟩:=x;exact Heap.lt_size e
  | frz ob u=>obtain ⟨e,_⟩:=x;exact Heap.lt_size e
  | tbl ps=>exact Heap.lt_size (show h.get? a=some _ from x)
  | met f y=>exact Heap.lt_size (show h.get? a=some _ from x)
  | ext φ=>obtain ⟨_,⟨_,e⟩,_⟩:=x;exact Heap.lt_size e
theorem Paired.mapP{α β:Type}{F G:α→β→Prop}:∀{l₁:List α} {l₂:List β},Paired F l₁ l₂→(∀a b,F a b→G a b)→Paired G l₁ l₂
  | _,_,.nil,_=> .nil
  | _,_,.cons r t,f=> .cons (f _ _ r) (Paired.mapP t f)
theorem ObjOk.stay(x:ObjOk P w H h a o)(k:∀b u,(b=a∨H b=some (.own a))→h.get? b=some u→h'.get? b=some u)
    (ho:∀b,H b=some (.own a)→H' b=some (.own a)) (ht:∀b xs,H b=some (.tup xs)→H' b=some (.tup xs)):ObjOk P w H' h' a o:=by
  induction o with
  | lst xs=>obtain ⟨z,its,n,r,e⟩:=x;exact ⟨z,its,n,r,k _ _ (.inl rfl) e⟩
  | tup xs=>obtain ⟨z,its,r,ob,e,c⟩:=x;exact ⟨z,its,r,ob,k _ _ (.inl rfl) e,c⟩
  | dK kvs=>obtain ⟨z,y,vs,r,ob,es,ep,e,c⟩:=x;exact ⟨z,y,vs,r,ob,es,ep,k _ _ (.inl rfl) e,c⟩
  | dT kvs=>
    obtain ⟨z,y,xs,r,ob,es,ep,e,c⟩:=x
    exact ⟨z,y,xs,Paired.mapP r fun p q z=>⟨z.1,ht _ _ z.2.1,z.2.2⟩,ob,es,ep,k _ _ (.inl rfl) e,c⟩
  | set S n=>obtain ⟨ob,es,ep,t,e,c⟩:=x;exact ⟨ob,es,ep,t,k _ _ (.inl rfl) e,c⟩
  | ins C dx fs=>
    obtain ⟨d,z,ne,e,mA,⟨od,es,ep,e2,c⟩,r⟩:=x
    exact ⟨ho _ d,z,ne,k _ _ (.inl rfl) e,mA,⟨od,es,ep,k _ _ (.inr d) e2,c⟩,r⟩
  | own y=>obtain ⟨ob,e⟩:=x;exact ⟨ob,k _ _ (.inl rfl) e⟩
  | xd fs=>obtain ⟨mA,⟨od,es,ep,e,c⟩,r⟩:=x;exact ⟨mA,⟨od,es,ep,k _ _ (.inl rfl) e,c⟩,r⟩
  | rng lo hi=>obtain ⟨t,u,v,e⟩:=x;exact ⟨t,u,v,k _ _ (.inl rfl) e⟩
  | frz ob u ih=>obtain ⟨e,q⟩:=x;exact ⟨k _ _ (.inl rfl) e,ih q⟩
  | tbl ps=>
    have e:h.get? a=some {cls:= .none,data:= .fields ps}:=x
    show h'.get? a=some {cls:= .none,data:= .fields ps}
    exact k a _ (.inl rfl) e
  | met f y=>
    have e:h.get? a=some (PySem.W.methodObj (.ref f) (.ref y)):=x
    show h'.get? a=some (PySem.W.methodObj (.ref f) (.ref y))
    exact k a _ (.inl rfl) e
  | ext φ=>obtain ⟨p,⟨o,e⟩,st⟩:=x;exact ⟨st _ _ p fun o q=>k _ _ (.inl rfl) q,⟨o,k _ _ (.inl rfl) e⟩,st⟩
theorem HOk.lt(x:HOk P w H h)(e:H a=some o):a < h.objs.size:=(x a o e).lt
theorem HOk.fresh(x:HOk P w H h)(e:h.objs.size≤a):H a=none:=by
  cases q:H a with
  | none=>rfl
  | some u=>exact absurd (Nat.lt_of_lt_of_le (x.lt q) e) (Nat.lt_irrefl _)
theorem HOk.kept(x:HOk P w H h)(k:∀b u,h.get? b=some u→h'.get? b=some u):HOk P w H h':=fun a o e=>
  (x a o e).stay (fun b u _ q=>k b u q) (fun _ q=>q) fun _ _ q=>q
theorem HOk.laid(x:HOk P w H h)(k:∀b u,h.get? b=some u→h'.get? b=some u)(hp:h.objs.size≤a)(new:ObjOk P w (upd H a o) h' a o):HOk P w (upd H a o) h':=fun b u e=>by
  have hn:=x.fresh hp
  by_cases hb:b=a
  · subst hb;rw [upd_same]at e;cases e;exact new
  · rw [upd_ne hb]at e
    exact (x b u e).stay (fun c v _ q=>k c v q) (fun c q=>by rw [upd_ne (ne_of_none q hn)];exact q) fun c xs q=>by rw [upd_ne (ne_of_none q hn)];exact q
end
noncomputable def Rd(H:Hp)(a:Addr)(u:HO):Prop:=H a=some u∨∃o,H a=some (.frz o u)
theorem Rd.ok{P:Program}{w:World}{H:Hp}{h:Heap}{a:Addr}{u:HO}(r:Rd H a u)(x:HOk P w H h):ObjOk P w H h a u:=by
  rcases r with r | ⟨o,r⟩
  · exact x a u r
  · obtain ⟨_,q⟩:=x a _ r
    exact q
noncomputable def Mut:Option HO→Prop
  | some (.lst _)=>True
  | some (.dK _)=>True
  | some (.dT _)=>True
  | some (.set _ _)=>True
  | some (.ins _ _ _)=>True
  | some (.ext _)=>True
  | _=>False
section
variable {P:Program} {w:World} {H:Hp} {h h':Heap} {x e:Addr} {o':HO}
theorem HOk.write(ok:HOk P w H h)(mu:Mut (H x))(he:e=x∨H e=some (.own x))(k:∀b u,b≠e→h.get? b=some u→h'.get? b=some u)(heo:∃u,h'.get? e=some u)
    (new:ObjOk P w (upd H x o') h' x o'):HOk P w (upd H x o') h':=fun b u q=>by
  have nown:∀c y,H c=some (.own y)→c≠x:=fun c y r z=>by subst z;rw [r]at mu;exact mu
  have ntup:∀c xs,H c=some (.tup xs)→c≠x:=fun c xs r z=>by subst z;rw [r]at mu;exact mu
  by_cases hb:b=x
  · subst hb;rw [upd_same]at q;cases q;exact new
  · rw [upd_ne hb]at q
    by_cases hbe:b=e
    · have q':H b=some (.own x):=by
        rcases he with z | z
        · exact absurd (hbe.trans z) hb
        · rw [hbe];exact z
      rw [q]at q';cases q'
      obtain ⟨v,hv⟩:=heo
      exact ⟨v,by rw [hbe];exact hv⟩
    · refine (ok b u q).stay (fun c v hc r=>k c v ?_ r) (fun c r=>by rw [upd_ne (nown c b r)];exact r) fun c xs r=>by rw [upd_ne (ntup c xs r)];exact r
      rcases hc with rfl | hc
      · exact hbe
      · rintro rfl
        rcases he with z | z
        · exact nown c b hc z
        · rw [hc]at z;cases z;exact hb rfl
end
structure Un(fs ex:List Addr)(H H':Hp)(h h':Heap):Prop where
  keep:∀b o,h.get? b=some o→H b=none→b∉fs→b∉ex→h'.get? b=some o
  slot:∀b o,h.get? b=some o→H b=none→b∈fs→b∉ex→∃sl,h'.get? b=some {o with slots:=sl}
  free:∀b o,h.get? b=some o→H b=none→b∉ex→H' b=none
  there:∀b o,h.get? b=some o→b∉ex→∃o',h'.get? b=some o'
  tups:∀b xs,H b=some (.tup xs)→H' b=some (.tup xs)
  frzs:∀b o u,H b=some (.frz o u)→H' b=some (.frz o u)
  tbls:∀b ps,H b=some (.tbl ps)→∃more,H' b=some (.tbl (ps++more))
section
variable {fs fs' ex ex':List Addr} {H H1 H2:Hp} {h h1 h2 h':Heap} {a x e:Addr} {o:HO}
theorem Un.any(u:Un fs ex H H1 h h1){b:Addr}{ob:Obj}(q:h.get? b=some ob)(n:H b=none)(hx:b∉ex):∃sl,h1.get? b=some {ob with slots:=sl}:=by
  by_cases hb:b∈fs
  · exact u.slot b ob q n hb hx
  · exact ⟨ob.slots,u.keep b ob q n hb hx⟩
theorem Un.kept(k:∀b u,h.get? b=some u→h'.get? b=some u):Un fs ex H H h h':=
  ⟨fun b ob q _ _ _=>k b ob q,fun b ob q _ _ _=>⟨ob.slots,k b ob q⟩,fun _ _ _ n _=>n,fun b ob q _=>⟨ob,k b ob q⟩,fun _ _ q=>q,fun _ _ _ q=>q,fun _ ps q=>⟨#[],by rw [q];simp⟩⟩
theorem Un.refl:Un fs ex H H h h:=Un.kept fun _ _ q=>q
theorem Un.laid(k:∀b u,h.get? b=some u→h'.get? b=some u)(hp:h.objs.size≤a)(hn:H a=none):Un fs ex H (upd H a o) h h' where
  keep:=fun b u q _ _ _=>k b u q
  slot:=fun b u q _ _ _=>⟨u.slots,k b u q⟩
  free:=fun b u q n _=>by rw [upd_ne (Nat.ne_of_lt (Nat.lt_of_lt_of_le (Heap.lt_size q) hp))];exact n
  there:=fun b u q _=>⟨u,k b u q⟩
  tups:=fun b xs q=>by rw [upd_ne (ne_of_none q hn)];exact q
  frzs:=fun b u xs q=>by rw [upd_ne (ne_of_none q hn)];exact q
  tbls:=fun b ps q=>⟨#[],by rw [upd_ne (ne_of_none q hn),q];simp⟩
theorem Un.write(mu:Mut (H x))(he:e=x∨H e=some (.own x))(k:∀b u,b≠e→h.get? b=some u→h'.get? b=some u)(heo:∃u,h'.get? e=some u):Un fs ex H (upd H x o) h h':=by
  have hx:∀b,H b=none→b≠x:=fun b n z=>by subst z;rw [n]at mu;exact mu
  have hb:∀b,H b=none→b≠e:=fun b n z=>by
    subst z
    rcases he with r | r
    · exact hx b n r
    · rw [n]at r;cases r
  have hm:∀b u,H b=some u→¬Mut (some u)→b≠x:=fun b u q nm z=>by subst z;rw [q]at mu;exact nm mu
  refine ⟨fun b u q n _ _=>k b u (hb b n) q,fun b u q n _ _=>⟨u.slots,k b u (hb b n) q⟩,fun b u q n _=>by rw [upd_ne (hx b n)];exact n,fun b u q _=>?_,
    fun b xs q=>by rw [upd_ne (hm b _ q fun z=>z)];exact q,fun b u xs q=>by rw [upd_ne (hm b _ q fun z=>z)];exact q,fun b ps q=>⟨#[],by rw [upd_ne (hm b _ q fun z=>z),q];simp⟩⟩
  by_cases hbe:b=e
  · subst hbe;exact heo
  · exact ⟨u,k b u hbe q⟩
end
noncomputable def trk(h:Heap)(H:Hp):List Addr:=(List.range h.objs.size).filter fun a=>(H a).isSome
noncomputable def hidT(h:Heap)(H:Hp):Heap:=PySem.W.hideAll h (trk h H)
theorem hidT_size(h:Heap)(H:Hp):(hidT h H).objs.size=h.objs.size:=PySem.W.hideAll_size _ _
theorem hidT_get{h:Heap}{H:Hp}{b:Addr}{o:Obj}(e:h.get? b=some o)(n:H b=none):(hidT h H).get? b=some o:=
  PySem.W.hideAll_get _ e fun hm=>by
    have q:(H b).isSome=true:=(List.mem_filter.mp hm).2
    rw [n]at q;simp at q
theorem of_hidT{h:Heap}{H:Hp}{b:Addr}{o:Obj}(e:(hidT h H).get? b=some o):h.get? b=some o∧H b=none:=by
  have e':h.get? b=some o:=PySem.W.of_hideAll (trk h H) e
  refine ⟨e',?_⟩
  cases q:H b with
  | none=>rfl
  | some x=>
    have hm:b∈trk h H:=List.mem_filter.mpr ⟨List.mem_range.mpr (Heap.lt_size e'),by simp [q]⟩
    have z:(hidT h H).get? b=none:=PySem.W.hideAll_none (trk h H) hm
    rw [z]at e;cases e
noncomputable def allNews(g h:Heap)(L:Addr):List (Addr×Obj):=(List.range h.objs.size).filterMap fun a=>if a=L∨(g.get? a).isSome=true then none else (h.get? a).map fun o=>(a,o)
noncomputable def rest(g h:Heap)(L d:Addr):List (Addr×Obj):=(allNews g h L).filter fun p=>decide (p.1≠d)
end L2
namespace L2
open PySem PySem.Spec PyProof.Rows
structure Mod(K:PySem.W.Frag)(mg:Str→Option Value)(base:Heap):Prop where
  kin:K.In base
  glob:base.Ns mainGlobals mg
  blt:∃mb,base.Ns builtinsNs mb∧∀x:Str,x≠"__name__"→mb x=bootBuiltins x
  nolimit:base.NoLimit
structure Cx where
  prog:Program
  w:World
  K:PySem.W.Frag
  mg:Str→Option Value
  base:Heap
  A:Around
  N:List Str
  s₀:Shared
  H₀:Hp
  env:Env
  outer:List Env
  stack:List Env
  ex:List Addr
  fn:Str→Bool
  calm:Bool
  pn:List (Addr×Obj)
  xe:Value→Shared→Prop
noncomputable def frs(l:List Env):List Addr:=l.filterMap (·.frame)
noncomputable abbrev Cx.fs(X:Cx):List Addr:=frs X.outer
noncomputable def Vis(sc:Scope)(x:Str):Prop:=sc.names.lookup x=some .local∨sc.names.lookup x=some .cell∨sc.names.lookup x=some .free
noncomputable def Loc(sc:Scope)(x:Str):Prop:=sc.names.lookup x=some .local∨sc.names.lookup x=some .cell
noncomputable def Look(env:Env)(h:Heap)(m:Str→Option Value)(x:Str)(u:Value):Prop:=
  (env.kindOf x=some .local∧m x=some u)∨((env.kindOf x=some .cell∨env.kindOf x=some .free)∧∃c,env.cells.lookup x=some c∧h.IsCell c (some u))
structure Cx.Ok(X:Cx):Prop where
  mod:Mod X.K X.mg X.base
  kind:X.env.scope.kind= .function
  glob:X.env.globals=mainGlobals
  blt:X.env.builtins=builtinsNs
  above:X.s₀.heap.objs.size≤X.env.locals
  inj:∀x y c,X.env.cells.lookup x=some c→X.env.cells.lookup y=some c→x=y
  has:∀x,(X.env.kindOf x=some .cell∨X.env.kindOf x=some .free)→∃c,X.env.cells.lookup x=some c
  cab:∀x c,X.fn x=true→X.env.cells.lookup x=some c→X.s₀.heap.objs.size≤c
  hd:X.calm=true→X.A.handled=none
  frames:X.A.frames=some X.stack
  stk:X.stack=X.outer∨(X.stack=X.env::X.outer∧X.env.frame=some X.env.locals)
  exf:∀b∈X.ex,b≠X.env.locals∧∀x c,X.env.cells.lookup x=some c→c≠b
  bs:∀b o,X.base.get? b=some o→X.s₀.heap.get? b=some o∧X.H₀ b=none
  bsz:X.base.objs.size≤X.s₀.heap.objs.size
  noex:∀b o,X.base.get? b=some o→b∉X.ex
  exfs:∀b∈X.ex,b∉X.fs
  funs:X.s₀.heap.FunFrames X.base X.outer
  frf:∀b∈X.fs,X.H₀ b=none
structure Inv(X:Cx)(pins:List (Addr×Obj))(σ:List (Option V))(H:Hp)(s:Shared):Prop where
  ok:X.Ok
  os:s.os=X.s₀.os
  bare:AllBare s.gens
  base:Un X.fs X.ex X.H₀ H X.s₀.heap s.heap
  loc:∃m,s.heap.Ns X.env.locals m∧∀(i:Nat) (x:Str) (v:V),X.N[i]?=some x→σ[i]?=some (some v)→Vis X.env.scope x→∃u,RelV v u∧Look X.env s.heap m x u
  cell:∀x c,X.env.cells.lookup x=some c→∃v,s.heap.IsCell c v
  free:H X.env.locals=none
  freeC:∀x c,X.env.cells.lookup x=some c→H c=none
  pin:∀p∈X.pn++pins,s.heap.get? p.1=some p.2∧H p.1=none∧p.1≠X.env.locals∧p.1∉X.fs∧∀v,p.2.data≠ .cell v
  hok:HOk X.prog X.w H s.heap
  len:σ.length=X.N.length
section
variable {X:Cx} {pins:List (Addr×Obj)} {σ:List (Option V)} {H H':Hp} {s:Shared} {h':Heap}
theorem Cx.Ok.nofr(ok:X.Ok){b:Addr}{o:Obj}(e:X.base.get? b=some o):b∉X.fs:=fun hb=>by
  have:=(ok.funs.mem hb).1
  rw [e]at this;cases this
theorem Inv.bs(I:Inv X pins σ H s):∀b o,X.base.get? b=some o→s.heap.get? b=some o∧H b=none:=fun b o e=>
  ⟨I.base.keep b o (I.ok.bs b o e).1 (I.ok.bs b o e).2 (I.ok.nofr e) (I.ok.noex b o e),I.base.free b o (I.ok.bs b o e).1 (I.ok.bs b o e).2 (I.ok.noex b o e)⟩
theorem Inv.bk(I:Inv X pins σ H s):∀b o,X.base.get? b=some o→s.heap.get? b=some o:=fun b o e=>(I.bs b o e).1
theorem Inv.mod(I:Inv X pins σ H s):Mod X.K X.mg X.base:=I.ok.mod
theorem Inv.kIn(I:Inv X pins σ H s):X.K.In s.heap:=I.ok.mod.kin.keeps I.bk
theorem Inv.lt(I:Inv X pins σ H s):X.env.locals < s.heap.objs.size:=let ⟨_,hn,_⟩:=I.loc;hn.lt
theorem Inv.sz(I:Inv X pins σ H s):X.s₀.heap.objs.size≤s.heap.objs.size:=Nat.le_trans I.ok.above (Nat.le_of_lt I.lt)
theorem Inv.nofs(I:Inv X pins σ H s){a:Addr}(h:s.heap.objs.size≤a):a∉X.fs:=fun hb=>by
  obtain ⟨_,o,ho,_⟩:=I.ok.funs.mem hb
  exact absurd (Nat.lt_of_lt_of_le (Heap.lt_size ho) (Nat.le_trans I.sz h)) (Nat.lt_irrefl _)
theorem Inv.cne(I:Inv X pins σ H s):∀x c,X.env.cells.lookup x=some c→c≠X.env.locals:=fun x c e z=>by
  obtain ⟨v,o,ho,hd⟩:=I.cell x c e
  obtain ⟨m,⟨o',es,ep,ho',hd',_⟩,_⟩:=I.loc
  rw [z,ho']at ho;cases ho;rw [hd']at hd;cases hd
theorem Inv.funs(I:Inv X pins σ H s):s.heap.FunFrames X.base X.outer:=by
  have all:∀(l:List Env),(∀b∈frs l,b∈X.fs)→X.s₀.heap.FunFrames X.base l→s.heap.FunFrames X.base l:=by
    intro l
    induction l with
    | nil=>intro _ _;trivial
    | cons env r ih=>
      intro hs hl
      obtain ⟨hk,⟨L,o,hf,hn,ho,hd⟩,hr⟩:=hl
      have hL:L∈X.fs:=hs L (by unfold frs;rw [List.filterMap_cons,hf];exact List.mem_cons_self)
      obtain ⟨sl,e⟩:=I.base.slot L o ho (I.ok.frf L hL) hL fun z=>I.ok.exfs L z hL
      exact ⟨hk,⟨L,_,hf,hn,e,hd⟩,ih (fun b hb=>hs b (by unfold frs;rw [List.filterMap_cons,hf];exact List.mem_cons_of_mem _ hb)) hr⟩
  exact all X.outer (fun _ hb=>hb) I.ok.funs
theorem Inv.stack(I:Inv X pins σ H s):s.heap.FunFrames X.base X.stack:=by
  rcases I.ok.stk with e | ⟨e,hf⟩
  · rw [e];exact I.funs
  · rw [e]
    obtain ⟨m,hn,_⟩:=I.loc
    refine .cons (by rw [I.ok.kind];decide) hf hn ?_ I.funs
    exact Heap.get?_none_of_le (Nat.le_trans I.ok.bsz I.ok.above)
theorem Inv.stkSub(I:Inv X pins σ H s):∀b∈frs X.stack,b∈X.env.locals::X.fs:=fun b hb=>by
  rcases I.ok.stk with e | ⟨e,hf⟩
  · rw [e]at hb;exact List.mem_cons_of_mem _ hb
  · rw [e]at hb
    unfold frs at hb
    rw [List.filterMap_cons,hf]at hb
    exact hb
theorem Inv.stkFree(I:Inv X pins σ H s):∀b∈frs X.stack,H b=none:=fun b hb=>by
  rcases List.mem_cons.mp (I.stkSub b hb) with e | hb
  · rw [e];exact I.free
  · obtain ⟨_,o,ho,_⟩:=I.ok.funs.mem hb
    exact I.base.free b o ho (I.ok.frf b hb) fun z=>I.ok.exfs b z hb
theorem Inv.step{g':Array GenState}{t':Nat}{d':Drawn}{ch:List Addr}(I:Inv X pins σ H s)
    (hch:∀b∈ch,(b∈X.ex∨X.s₀.heap.objs.size≤b)∧b≠X.env.locals∧(∀x c,X.env.cells.lookup x=some c→c≠b)∧∀p∈X.pn++pins,p.1≠b)
    (keep:∀b o,b≠X.env.locals→b∉X.fs→b∉ch→s.heap.get? b=some o→H b=none→h'.get? b=some o)
    (slot:∀b o,b≠X.env.locals→b∈X.fs→b∉ch→s.heap.get? b=some o→H b=none→∃sl,h'.get? b=some {o with slots:=sl}) (free:∀b o,b∉ch→s.heap.get? b=some o→H b=none→H' b=none)
    (there:∀b o,b∉ch→s.heap.get? b=some o→∃o',h'.get? b=some o')
    (tups:∀b xs,H b=some (.tup xs)→H' b=some (.tup xs)) (frzs:∀b o u,H b=some (.frz o u)→H' b=some (.frz o u)) (tbls:∀b ps,H b=some (.tbl ps)→∃more,H' b=some (.tbl (ps++more)))
    (ns:∀m,s.heap.Ns X.env.locals m→h'.Ns X.env.locals m) (hok:HOk X.prog X.w H' h') (hg:AllBare g'):
    Inv X pins σ H' {s with heap:=h',gens:=g',drawn:=d',toks:=t'}:=by
  have neL:∀b o,X.s₀.heap.get? b=some o→b≠X.env.locals:=fun b o e=>Nat.ne_of_lt (Nat.lt_of_lt_of_le (Heap.lt_size e) I.ok.above)
  have neC:∀b o,X.s₀.heap.get? b=some o→b∉X.ex→b∉ch:=fun b o e hx hb=>by
    rcases (hch b hb).1 with z | z
    · exact hx z
    · exact absurd (Nat.lt_of_lt_of_le (Heap.lt_size e) z) (Nat.lt_irrefl _)
  have cellK:∀x c,X.env.cells.lookup x=some c→∀v,s.heap.IsCell c v→h'.IsCell c v:=fun x c e v ⟨o,ho,hd⟩=>by
    have nch:c∉ch:=fun z=>(hch c z).2.2.1 x c e rfl
    by_cases hc:c∈X.fs
    · obtain ⟨sl,q⟩:=slot c o (I.cne x c e) hc nch ho (I.freeC x c e)
      exact ⟨_,q,hd⟩
    · exact ⟨o,keep c o (I.cne x c e) hc nch ho (I.freeC x c e),hd⟩
  refine ⟨I.ok,I.os,hg,⟨fun b o e n hb hx=>?_,fun b o e n hb hx=>?_,fun b o e n hx=>?_,fun b o e hx=>?_,fun b xs e=>tups b xs (I.base.tups b xs e),fun b o xs e=>frzs b o xs (I.base.frzs b o xs e),fun b ps e=>?_⟩,?_,fun x c e=>?_,?_,fun x c e=>?_,fun p hp=>?_,hok,I.len⟩
  · exact keep b o (neL b o e) hb (neC b o e hx) (I.base.keep b o e n hb hx) (I.base.free b o e n hx)
  · obtain ⟨sl,e1⟩:=I.base.slot b o e n hb hx
    obtain ⟨sl',e2⟩:=slot b _ (neL b o e) hb (neC b o e hx) e1 (I.base.free b o e n hx)
    exact ⟨sl',e2⟩
  · obtain ⟨o',e1⟩:=I.base.there b o e hx
    exact free b o' (neC b o e hx) e1 (I.base.free b o e n hx)
  · obtain ⟨o',e1⟩:=I.base.there b o e hx
    exact there b o' (neC b o e hx) e1
  · obtain ⟨m1,e1⟩:=I.base.tbls b ps e
    obtain ⟨m2,e2⟩:=tbls b _ e1
    exact ⟨m1++m2,by rw [e2,Array.append_assoc]⟩
  · obtain ⟨m,hn,hl⟩:=I.loc
    refine ⟨m,ns m hn,fun i x v e1 e2 e3=>?_⟩
    obtain ⟨u,r,l⟩:=hl i x v e1 e2 e3
    refine ⟨u,r,?_⟩
    rcases l with l | ⟨k,c,e,z⟩
    · exact .inl l
    · exact .inr ⟨k,c,e,cellK x c e _ z⟩
  · obtain ⟨v,z⟩:=I.cell x c e
    exact ⟨v,cellK x c e v z⟩
  · obtain ⟨m,⟨o,_,_,ho,_⟩,_⟩:=I.loc
    exact free _ o (fun z=>(hch _ z).2.1 rfl) ho I.free
  · obtain ⟨v,o,ho,hd⟩:=I.cell x c e
    exact free c o (fun z=>(hch c z).2.2.1 x c e rfl) ho (I.freeC x c e)
  · obtain ⟨e,n,ne,nf,d⟩:=I.pin p hp
    have nch:p.1∉ch:=fun z=>(hch p.1 z).2.2.2 p hp rfl
    exact ⟨keep p.1 p.2 ne nf nch e n,free p.1 p.2 nch e n,ne,nf,d⟩
theorem Inv.un{t':Nat}(I:Inv X pins σ H s)(u:Un X.fs [] H H' s.heap h')(hok:HOk X.prog X.w H' h'):Inv X pins σ H' {s with heap:=h',toks:=t'}:=by
  obtain ⟨m,⟨o,es,ep,ho,r⟩,_⟩:=id I.loc
  obtain ⟨sl,hL⟩:=u.any ho I.free (by simp)
  exact I.step (g':=s.gens) (d':=s.drawn) (ch:=[]) (fun _ z=>nomatch z) (fun b o _ hb _ e n=>u.keep b o e n hb (by simp)) (fun b o _ hb _ e n=>u.slot b o e n hb (by simp)) (fun b o _ e n=>u.free b o e n (by simp)) (fun b o _ e=>u.there b o e (by simp)) u.tups u.frzs u.tbls (fun m' hm=>by
    obtain ⟨o',es',ep',ho',r'⟩:=hm
    rw [ho]at ho';cases ho'
    exact ⟨_,es',ep',hL,r'⟩) hok I.bare
theorem Inv.call{g':Array GenState}{t':Nat}{d':Drawn}{ch:List Addr}(I:Inv X pins σ H s)(u:Un (frs X.stack) ch H H' s.heap h')(hok:HOk X.prog X.w H' h')(hg:AllBare g')
    (hch:∀b∈ch,(b∈X.ex∨X.s₀.heap.objs.size≤b)∧b≠X.env.locals∧(∀x c,X.env.cells.lookup x=some c→c≠b)∧∀p∈X.pn++pins,p.1≠b):
    Inv X pins σ H' {s with heap:=h',gens:=g',drawn:=d',toks:=t'}:=by
  obtain ⟨m,⟨o,es,ep,ho,r⟩,_⟩:=id I.loc
  obtain ⟨sl,hL⟩:=u.any ho I.free fun z=>(hch _ z).2.1 rfl
  exact I.step (ch:=ch) hch (fun b o hL hb hc e n=>u.keep b o e n (fun z=>(List.mem_cons.mp (I.stkSub b z)).elim hL hb) hc) (fun b o _ _ hc e n=>u.any e n hc) (fun b o hc e n=>u.free b o e n hc) (fun b o hc e=>u.there b o e hc) u.tups u.frzs u.tbls (fun m' hm=>by
    obtain ⟨o',es',ep',ho',r'⟩:=hm
    rw [ho]at ho';cases ho'
    exact ⟨_,es',ep',hL,r'⟩) hok hg
theorem Inv.turned{t':Nat}{it:Addr}(I:Inv X pins σ H s)(k:∀b o,b≠it→s.heap.get? b=some o→h'.get? b=some o)(hn:H it=none)(hL:it≠X.env.locals)
    (h1:it∈X.ex∨X.s₀.heap.objs.size≤it) (h2:∀x c,X.env.cells.lookup x=some c→c≠it) (h3:∀p∈X.pn++pins,p.1≠it):Inv X pins σ H {s with heap:=h',toks:=t'}:=by
  have nit:∀b u,H b=some u→b≠it:=fun b u e z=>by rw [z,hn]at e;cases e
  refine I.step (g':=s.gens) (d':=s.drawn) (ch:=[it]) (fun b hb=>?_) (fun b o _ _ hc e _=>k b o (fun z=>hc (by simp [z])) e) (fun b o _ _ hc e _=>⟨o.slots,k b o (fun z=>hc (by simp [z])) e⟩) (fun _ _ _ _ n=>n)
    (fun b o hc e=>⟨o,k b o (fun z=>hc (by simp [z])) e⟩) (fun _ _ e=>e) (fun _ _ _ e=>e) (fun b ps e=>⟨#[],by rw [e];simp⟩) (fun m hm=>?_) (fun b u e=>?_) I.bare
  · have e:b=it:=by simpa using hb
    subst e
    exact ⟨h1,hL,h2,h3⟩
  · obtain ⟨o,es,ep,ho,r⟩:=hm
    exact ⟨o,es,ep,k _ o (Ne.symm hL) ho,r⟩
  · refine (I.hok b u e).stay (fun c v hc q=>k c v ?_ q) (fun _ q=>q) fun _ _ q=>q
    rcases hc with z | z
    · rw [z];exact nit b u e
    · exact nit c _ z
theorem Inv.tok(I:Inv X pins σ H s)(t:Nat):Inv X pins σ H {s with toks:=t}:=I.un (h':=s.heap) (t':=t) Un.refl I.hok
theorem Inv.kept{t':Nat}(I:Inv X pins σ H s)(k:∀b u,s.heap.get? b=some u→h'.get? b=some u):Inv X pins σ H {s with heap:=h',toks:=t'}:=I.un (Un.kept k) (I.hok.kept k)
theorem Inv.laid{a:Addr}{o:HO}{t':Nat}(I:Inv X pins σ H s)(k:∀b u,s.heap.get? b=some u→h'.get? b=some u)(hp:s.heap.objs.size≤a)(new:ObjOk X.prog X.w (upd H a o) h' a o):
    Inv X pins σ (upd H a o) {s with heap:=h',toks:=t'}:=I.un (Un.laid k hp (I.hok.fresh hp)) (I.hok.laid k hp new)
theorem Inv.write{x e:Addr}{o:HO}{t':Nat}(I:Inv X pins σ H s)(mu:Mut (H x))(he:e=x∨H e=some (.own x))(k:∀b u,b≠e→s.heap.get? b=some u→h'.get? b=some u)(heo:∃u,h'.get? e=some u)
    (new:ObjOk X.prog X.w (upd H x o) h' x o):Inv X pins σ (upd H x o) {s with heap:=h',toks:=t'}:=I.un (Un.write mu he k heo) (I.hok.write mu he k heo new)
theorem Inv.weak{σ':List (Option V)}(I:Inv X pins σ H s)(hl:σ'.length=σ.length)(w:∀(i:Nat) v,σ'[i]?=some (some v)→σ[i]?=some (some v)):Inv X pins σ' H s:=
  ⟨I.ok,I.os,I.bare,I.base,let ⟨m,hn,hl'⟩:=I.loc;⟨m,hn,fun i x v e1 e2 e3=>hl' i x v e1 (w i v e2) e3⟩,I.cell,I.free,I.freeC,I.pin,I.hok,hl.trans I.len⟩
theorem Inv.pins_of{pins':List (Addr×Obj)}(I:Inv X pins σ H s)(h:∀p∈pins',s.heap.get? p.1=some p.2∧H p.1=none∧p.1≠X.env.locals∧p.1∉X.fs∧∀v,p.2.data≠ .cell v):Inv X pins' σ H s:=
  ⟨I.ok,I.os,I.bare,I.base,I.loc,I.cell,I.free,I.freeC,fun p hp=>(List.mem_append.mp hp).elim (fun z=>I.pin p (List.mem_append_left _ z)) (h p),I.hok,I.len⟩
theorem nodup_ix{N:List Str}(hN:N.Nodup){i j:Nat}{x:Str}(a:N[i]?=some x)(b:N[j]?=some x):i=j:=by
  obtain ⟨h1,e1⟩:=List.getElem?_eq_some_iff.mp a
  obtain ⟨h2,e2⟩:=List.getElem?_eq_some_iff.mp b
  exact (List.getElem_inj hN).mp (e1.trans e2.symm)
theorem store_ok2{M:Model}{A:Around}{E:Value→Shared→Prop}{i:Nat}{x:Str}{v:V}{u:Value}{Q:Unit→Shared→Prop}(I:Inv X pins σ H s)(hN:X.N.Nodup)(hi:X.N[i]?=some x)(hx:Loc X.env.scope x)(r:RelV v u)
    (h:∀s',Inv X pins (σ.set i (some v)) H s'→(∃a,Heap.SameBut a s.heap s'.heap∧(a=X.env.locals∨X.env.cells.lookup x=some a))→Q () s') (hf:X.fn x=true∨X.env.scope.names.lookup x=some .local:=by first | exact .inl rfl | exact .inr rfl | assumption):wpAny M A (storeName X.env x u) Q E s:=by
  obtain ⟨m,hn,hl⟩:=id I.loc
  have hcls:(X.env.scope.kind== .class || (X.env.scope.kind== .module && X.env.locals !=X.env.globals))=false:=by rw [I.ok.kind];rfl
  have hiσ:i < σ.length:=by rw [I.len];exact (List.getElem?_eq_some_iff.mp hi).1
  have cne:=I.cne
  have tracked:∀{a:Addr} {h':Heap},(∃o,s.heap.get? a=some o∧H a=none)→Heap.SameBut a s.heap h'→HOk X.prog X.w H h':=fun {a h'} ha hs b ob e=>by
    obtain ⟨_,_,hfree⟩:=ha
    refine (I.hok b ob e).stay (fun c w' hc q=>(hs.2 c ?_).trans q) (fun _ q=>q) fun _ _ q=>q
    rintro rfl
    rcases hc with rfl | hc
    · rw [hfree]at e;cases e
    · rw [hfree]at hc;cases hc
  rcases hx with hk | hk
  · refine wpAny_storeName_local hk hn (fun h' hn' hs=>?_) hcls
    obtain ⟨oL,_,_,hoL,_⟩:=id hn
    refine h _ ⟨I.ok,I.os,I.bare,⟨fun b o e n hb hx=>?_,fun b o e n hb hx=>?_,I.base.free,fun b o e hx=>?_,I.base.tups,I.base.frzs,I.base.tbls⟩,⟨_,hn',fun j y v' e1 e2 e3=>?_⟩,fun y c e=>?_,I.free,I.freeC,fun p hp=>?_,tracked ⟨oL,hoL,I.free⟩ hs,by simpa using I.len⟩ ⟨_,hs,.inl rfl⟩
    · exact (hs.2 b (Nat.ne_of_lt (Nat.lt_of_lt_of_le (Heap.lt_size e) I.ok.above))).trans (I.base.keep b o e n hb hx)
    · obtain ⟨sl,e1⟩:=I.base.slot b o e n hb hx
      exact ⟨sl,(hs.2 b (Nat.ne_of_lt (Nat.lt_of_lt_of_le (Heap.lt_size e) I.ok.above))).trans e1⟩
    · obtain ⟨o',e1⟩:=I.base.there b o e hx
      exact ⟨o',(hs.2 b (Nat.ne_of_lt (Nat.lt_of_lt_of_le (Heap.lt_size e) I.ok.above))).trans e1⟩
    · by_cases hj:j=i
      · subst hj
        rw [hi]at e1;cases e1
        rw [List.getElem?_set_self hiσ]at e2
        cases e2
        exact ⟨u,r,.inl ⟨hk,by simp⟩⟩
      · rw [List.getElem?_set_ne (Ne.symm hj)]at e2
        obtain ⟨u',r',q⟩:=hl j y v' e1 e2 e3
        refine ⟨u',r',?_⟩
        rcases q with ⟨k,e⟩ | ⟨k,c,e,z⟩
        · refine .inl ⟨k,?_⟩
          have:y≠x:=fun e=>hj (nodup_ix hN e1 (e▸hi))
          simp [this,e]
        · exact .inr ⟨k,c,e,z.sameBut hs (cne y c e)⟩
    · obtain ⟨w',z⟩:=I.cell y c e
      exact ⟨w',z.sameBut hs (cne y c e)⟩
    · obtain ⟨e,n,ne,nf,d⟩:=I.pin p hp
      exact ⟨(hs.2 p.1 ne).trans e,n,ne,nf,d⟩
  · have hfn:X.fn x=true:=by
      rcases hf with z | z
      · exact z
      · rw [z]at hk;cases hk
    obtain ⟨c,hc⟩:=I.ok.has x (.inl hk)
    obtain ⟨w',z⟩:=I.cell x c hc
    refine wpAny_storeName_cell I.ok.kind hk hc z (fun h' hc' hs=>?_)
    obtain ⟨oc,hoc,hocd⟩:=id z
    refine h {s with heap:=h'} ⟨I.ok,I.os,I.bare,⟨fun b o e n hb hx=>?_,fun b o e n hb hx=>?_,I.base.free,fun b o e hx=>?_,I.base.tups,I.base.frzs,I.base.tbls⟩,⟨m,hn.sameBut hs (Ne.symm (cne x c hc)),fun j y v' e1 e2 e3=>?_⟩,fun y c' e=>?_,I.free,I.freeC,fun p hp=>?_,tracked ⟨oc,hoc,I.freeC x c hc⟩ hs,by simpa using I.len⟩ ⟨c,hs,.inr hc⟩
    · exact (hs.2 b (Nat.ne_of_lt (Nat.lt_of_lt_of_le (Heap.lt_size e) (I.ok.cab x c hfn hc)))).trans (I.base.keep b o e n hb hx)
    · obtain ⟨sl,e1⟩:=I.base.slot b o e n hb hx
      exact ⟨sl,(hs.2 b (Nat.ne_of_lt (Nat.lt_of_lt_of_le (Heap.lt_size e) (I.ok.cab x c hfn hc)))).trans e1⟩
    · obtain ⟨o',e1⟩:=I.base.there b o e hx
      exact ⟨o',(hs.2 b (Nat.ne_of_lt (Nat.lt_of_lt_of_le (Heap.lt_size e) (I.ok.cab x c hfn hc)))).trans e1⟩
    · by_cases hj:j=i
      · subst hj
        rw [hi]at e1;cases e1
        rw [List.getElem?_set_self hiσ]at e2
        cases e2
        exact ⟨u,r,.inr ⟨.inl hk,c,hc,hc'⟩⟩
      · rw [List.getElem?_set_ne (Ne.symm hj)]at e2
        obtain ⟨u',r',q⟩:=hl j y v' e1 e2 e3
        refine ⟨u',r',?_⟩
        rcases q with q | ⟨k,c',e,z'⟩
        · exact .inl q
        · refine .inr ⟨k,c',e,z'.sameBut hs ?_⟩
          rintro rfl
          exact hj (nodup_ix hN e1 (I.ok.inj _ _ _ e hc▸hi))
    · by_cases hcc:c'=c
      · subst hcc;exact ⟨_,hc'⟩
      · obtain ⟨w2,z2⟩:=I.cell y c' e
        exact ⟨w2,z2.sameBut hs hcc⟩
    · obtain ⟨e,n,ne,nf,d⟩:=I.pin p hp
      refine ⟨(hs.2 p.1 ?_).trans e,n,ne,nf,d⟩
      intro q
      rw [q,hoc]at e
      have q':oc=p.2:=Option.some.inj e
      exact d w' (by rw [← q'];exact hocd)
theorem store_ok{M:Model}{A:Around}{E:Value→Shared→Prop}{i:Nat}{x:Str}{v:V}{u:Value}{Q:Unit→Shared→Prop}(I:Inv X pins σ H s)(hN:X.N.Nodup)(hi:X.N[i]?=some x)(hx:Loc X.env.scope x)(r:RelV v u)
    (h:∀s',Inv X pins (σ.set i (some v)) H s'→Q () s') (hf:X.fn x=true∨X.env.scope.names.lookup x=some .local:=by first | exact .inl rfl | exact .inr rfl | assumption):wpAny M A (storeName X.env x u) Q E s:=
  store_ok2 I hN hi hx r (fun s' I' _=>h s' I') hf
theorem Inv.call'{s':Shared}{ch:List Addr}(I:Inv X pins σ H s)(ho:s'.os=s.os)(u:Un (frs X.stack) ch H H' s.heap s'.heap)(hok:HOk X.prog X.w H' s'.heap)(hg:AllBare s'.gens)
    (hch:∀b∈ch,(b∈X.ex∨X.s₀.heap.objs.size≤b)∧b≠X.env.locals∧(∀x c,X.env.cells.lookup x=some c→c≠b)∧∀p∈X.pn++pins,p.1≠b):Inv X pins σ H' s':=by
  obtain ⟨h',g',d',t',o'⟩:=s'
  have e:o'=s.os:=ho
  subst e
  exact I.call (g':=g') (t':=t') (d':=d') u hok hg hch
end
noncomputable abbrev XK:=Value→Option Addr→Hp→Prop
noncomputable abbrev St:=List (Option V)
noncomputable abbrev VK:=V→Hp→Prop
noncomputable abbrev TE:=St→Hp→VK→Prop
noncomputable abbrev TT:=St→Hp→(Bool→Hp→Prop)→Prop
noncomputable abbrev TA:=St→Hp→(List V→Hp→Prop)→Prop
structure Ends where
  nx:St→Hp→Prop
  rt:VK
  bk:St→Hp→Prop:=fun _ _=>False
  ct:St→Hp→Prop:=fun _ _=>False
noncomputable abbrev TS:=Ends→St→Hp→Prop
noncomputable def EP(X:Cx)(pins:List (Addr×Obj))(σ:St)(Q:VK)(u:Value)(s':Shared):Prop:=∃v H',Inv X pins σ H' s'∧RelV v u∧Q v H'
noncomputable def TP(X:Cx)(pins:List (Addr×Obj))(σ:St)(Q:Bool→Hp→Prop)(b:Bool)(s':Shared):Prop:=∃H',Inv X pins σ H' s'∧Q b H'
noncomputable def AP(X:Cx)(pins:List (Addr×Obj))(σ:St)(Q:List V→Hp→Prop)(us:List Value)(s':Shared):Prop:=∃vs H',Inv X pins σ H' s'∧Vals vs us∧Q vs H'
noncomputable def SP(X:Cx)(pins:List (Addr×Obj))(D:Ends)(f:Flow)(s':Shared):Prop:=
  match f with
  | .next=>∃σ' H',Inv X pins σ' H' s'∧D.nx σ' H'
  | .brk=>∃σ' H',Inv X pins σ' H' s'∧D.bk σ' H'
  | .cont=>∃σ' H',Inv X pins σ' H' s'∧D.ct σ' H'
  | .ret u=>∃v σ' H',Inv X pins σ' H' s'∧RelV v u∧D.rt v H'
noncomputable def PE(X:Cx)(e:Expr)(t:TE):Prop:=
  ∀(pins:List (Addr×Obj)) (s:Shared) (σ:St) (H:Hp) (Q:VK),Inv X pins σ H s→t σ H Q→wpAny (model X.prog X.w) X.A (eval e X.env) (EP X pins σ Q) X.xe s
noncomputable def PT(X:Cx)(e:Expr)(t:TT):Prop:=
  ∀(pins:List (Addr×Obj)) (s:Shared) (σ:St) (H:Hp) (Q:Bool→Hp→Prop),Inv X pins σ H s→t σ H Q→wpAny (model X.prog X.w) X.A (isTrue e X.env (eval e X.env)) (TP X pins σ Q) X.xe s
noncomputable def PW(X:Cx)(e:Expr)(t:TT):Prop:=
  ∀(whole:Sem Value) (pins:List (Addr×Obj)) (s:Shared) (σ:St) (H:Hp) (Q:Bool→Hp→Prop),Inv X pins σ H s→t σ H Q→wpAny (model X.prog X.w) X.A (isTrue e X.env whole) (TP X pins σ Q) X.xe s
theorem PW.pt{X:Cx}{e:Expr}{t:TT}(h:PW X e t):PT X e t:=h _
noncomputable def PA(X:Cx)(es:List Expr)(t:TA):Prop:=
  ∀(pos:Pos) (pins:List (Addr×Obj)) (s:Shared) (σ:St) (H:Hp) (Q:List V→Hp→Prop),Inv X pins σ H s→t σ H Q→wpAny (model X.prog X.w) X.A (spliced (backTo pos (starEach es X.env))) (AP X pins σ Q) X.xe s
noncomputable def PS(X:Cx)(st:Stmt)(t:TS):Prop:=
  ∀(pins:List (Addr×Obj)) (s:Shared) (σ:St) (H:Hp) (D:Ends),Inv X pins σ H s→t D σ H→wpAny (model X.prog X.w) X.A (exec st X.env) (SP X pins D) X.xe s
noncomputable def PSs(X:Cx)(st:List Stmt)(t:TS):Prop:=
  ∀(pins:List (Addr×Obj)) (s:Shared) (σ:St) (H:Hp) (D:Ends),Inv X pins σ H s→t D σ H→wpAny (model X.prog X.w) X.A (execs st X.env) (SP X pins D) X.xe s
theorem thn{α:Type}{t:Sem α}{Q Q':α→Shared→Prop}{M:Model}{A:Around}{E:Value→Shared→Prop}{s:Shared}(h:wpAny M A t Q E s)(hQ:∀a s,Q a s→Q' a s):wpAny M A t Q' E s:=wpAny_mono h hQ fun _ _ x=>x
end L2
namespace L2
open PySem PySem.Spec PyProof.Rows
section
variable {X:Cx}
noncomputable def tVar(i:Nat):TE:=fun σ H Q=>∃v,σ[i]?=some (some v)∧Q v H
noncomputable def tC(v:V):TE:=fun _ H Q=>Q v H
theorem pe_var{i:Nat}{x:Str}{pos:Pos}(hN:X.N[i]?=some x)(hv:Vis X.env.scope x)(hd:(x==("__debug__":Str))=false:=by decide)(hcd:(x==("__classdict__":Str))=false:=by decide):PE X (.Name x pos) (tVar i):=by
  intro pins s σ H Q I h
  obtain ⟨v,e,h⟩:=h
  obtain ⟨m,hn,hl⟩:=I.loc
  obtain ⟨u,r,l⟩:=hl i x v hN e hv
  have fin:EP X pins σ Q u s:=⟨v,H,I,r,h⟩
  rcases l with ⟨hk,hm⟩ | ⟨hk,c,hc,hcell⟩
  · exact wpAny_Name (wpAny_loadName_local I.ok.kind hk hn hm fin) hd
  · rcases hk with hk | hk
    · exact wpAny_Name (wpAny_loadName_cell I.ok.kind hk hc hcell fin) hd
    · exact wpAny_Name (wpAny_loadName_free I.ok.kind hk hc hcell fin hcd) hd
theorem pe_int{i j pos}:PE X (.Constant (.int i) j pos) (tC (.int i)):=fun _ _ _ H _ I h=>wpAny_Constant_int ⟨.int i,H,I.tok _,⟨_,rfl⟩,h⟩
theorem pe_bl{b j pos}:PE X (.Constant (.bool b) j pos) (tC (.bl b)):=fun _ _ _ H _ I h=>Constant_bool ⟨.bl b,H,I,rfl,h⟩
theorem pe_non{j pos}:PE X (.Constant .none j pos) (tC .non):=fun _ _ _ H _ I h=>Constant_none ⟨.non,H,I,rfl,h⟩
theorem pe_str{x j pos}:PE X (.Constant (.str x) j pos) (tC (.str x)):=fun _ _ _ H _ I h=>Calls.Constant_str ⟨.str x,H,I.tok _,⟨_,rfl⟩,h⟩
noncomputable def Gl(X:Cx)(x:Str):Prop:=X.env.kindOf x=some .globalImplicit
theorem ld_glob{E:Value→Shared→Prop}{pins:List (Addr×Obj)}{s:Shared}{σ:St}{H:Hp}{x:Str}{u:Value}{pos:Pos}{Q:Value→Shared→Prop}(I:Inv X pins σ H s)(hg:Gl X x)(hm:X.mg x=some u)(h:Q u s)
    (hd:(x==("__debug__":Str))=false:=by decide):wpAny (model X.prog X.w) X.A (eval (.Name x pos) X.env) Q E s:=
  Calls.Name_function_global I.ok.kind hg (Calls.loadGlobal_global (by rw [I.ok.glob];exact I.mod.glob.keeps I.bk) hm h) hd
theorem ld_blt{E:Value→Shared→Prop}{pins:List (Addr×Obj)}{s:Shared}{σ:St}{H:Hp}{x:Str}{u:Value}{pos:Pos}{Q:Value→Shared→Prop}(I:Inv X pins σ H s)(hg:Gl X x)(hm:X.mg x=none)(hv:bootBuiltins x=some u)(h:Q u s)
    (hn:x≠"__name__":=by decide) (hd:(x==("__debug__":Str))=false:=by decide):wpAny (model X.prog X.w) X.A (eval (.Name x pos) X.env) Q E s:=by
  obtain ⟨mb,h1,h2⟩:=I.mod.blt
  exact Calls.Name_function_global I.ok.kind hg (Calls.loadGlobal_builtin (by rw [I.ok.glob];exact I.mod.glob.keeps I.bk) hm (by rw [I.ok.blt];exact h1.keeps I.bk) ((h2 x hn).trans hv) h) hd
theorem pe_glob{x:Str}{v:V}{u:Value}{pos:Pos}(hg:Gl X x)(hm:X.mg x=some u)(r:RelV v u)(hd:(x==("__debug__":Str))=false:=by decide):PE X (.Name x pos) (tC v):=
  fun _ _ _ H _ I h=>ld_glob I hg hm ⟨v,H,I,r,h⟩ hd
theorem pe_bltn{x:Str}{v:V}{u:Value}{pos:Pos}(hg:Gl X x)(hm:X.mg x=none)(hv:bootBuiltins x=some u)(r:RelV v u)(hn:x≠"__name__":=by decide)(hd:(x==("__debug__":Str))=false:=by decide):PE X (.Name x pos) (tC v):=
  fun _ _ _ H _ I h=>ld_blt I hg hm hv ⟨v,H,I,r,h⟩ hn hd
variable {a b:Expr} {ta tb:TE} {pos:Pos}
noncomputable def PC(X:Cx)(op:CmpOp)(a b:Expr)(t:TE):Prop:=
  ∀(pins:List (Addr×Obj)) (s:Shared) (σ:St) (H:Hp) (Q:VK),Inv X pins σ H s→t σ H Q→
    wpAny (model X.prog X.w) X.A (eval a X.env) (fun v s₁=>wpAny (model X.prog X.w) X.A (eval b X.env) (fun u s₂=>wpAny (model X.prog X.w) X.A (compareOp op v u) (EP X pins σ Q) X.xe s₂) X.xe s₁) X.xe s
theorem nobehind(b:Expr){op:CmpOp}(h:op≠ .In)(h2:op≠ .NotIn):behindInMarks op b=false:=by
  have e1:(op==CmpOp.In)=false:=by cases op <;> first | rfl | exact absurd rfl h
  have e2:(op==CmpOp.NotIn)=false:=by cases op <;> first | rfl | exact absurd rfl h2
  cases b <;> simp [behindInMarks,e1,e2]
noncomputable def tB(t:TE):TT:=fun σ H Q=>t σ H fun x H1=>∃c,x= .bl c∧Q c H1
theorem pe_cmp{op:CmpOp}{t:TE}(h:PC X op a b t)(h1:behindInMarks op b=false:=by first | exact nobehind _ (by decide) (by decide) | rfl):PE X (.Compare a [op] [b] pos) t:=fun pins s σ H Q I hw=>wpAny_Compare1 (h pins s σ H Q I hw) h1
theorem pt_cmp{op:CmpOp}{t:TE}(h:PC X op a b t)(h1:behindInMarks op b=false:=by first | exact nobehind _ (by decide) (by decide) | rfl):PT X (.Compare a [op] [b] pos) (tB t):=by
  intro pins s σ H Q I hw
  refine wpAny_isTrue_Compare1 (thn (h pins s σ H _ I hw) fun v s1 h1=>thn h1 fun u s2 h2=>thn h2 fun c s3 ⟨x,H1,I1,r1,q1⟩=>?_) h1
  obtain ⟨d,rfl,q⟩:=q1
  cases r1
  exact wpAny_truthy_bool ⟨H1,I1,q⟩
theorem pt_val{e:Expr}{t:TE}(h:PE X e t)(he:∀whole,isTrue e X.env whole=(do let v ← whole;standAt e.pos;holding [v] (truthy v)):=by intro _;rfl):PT X e (tB t):=by
  intro pins s σ H Q I hw
  refine isTrue_plain (thn (h pins s σ H _ I hw) fun v s1 ⟨x,H1,I1,r1,q1⟩=>?_) (he _)
  obtain ⟨d,rfl,q⟩:=q1
  cases r1
  exact wpAny_truthy_bool ⟨H1,I1,q⟩
variable {tA tB':TT} {rest:List Expr}
noncomputable def tAnd(t u:TT):TT:=fun σ H Q=>t σ H fun c H1=>if c=true then u σ H1 Q else Q false H1
noncomputable def tOr(t u:TT):TT:=fun σ H Q=>t σ H fun c H1=>if c=true then Q true H1 else u σ H1 Q
noncomputable def tNot(t:TT):TT:=fun σ H Q=>t σ H fun c H1=>Q (!c) H1
theorem pw_or1(ha:PT X a tA):PW X (.BoolOp .Or [a] pos) tA:=by
  intro wh pins s σ H Q I h
  refine isTrue_or (thn (ha pins s σ H Q I h) fun c s1 e=>?_)
  cases c with
  | false=>exact isTrue_or_nil e
  | true=>exact e
theorem pw_or(ha:PT X a tA)(hb:PW X (.BoolOp .Or (b::rest) pos) tB'):PW X (.BoolOp .Or (a::b::rest) pos) (tOr tA tB'):=by
  intro wh pins s σ H Q I h
  refine isTrue_or (thn (ha pins s σ H _ I h) fun c s1 ⟨H1,I1,q1⟩=>?_)
  cases c with
  | true=>exact ⟨H1,I1,q1⟩
  | false=>exact hb wh pins s1 σ H1 Q I1 q1
theorem pt_not(ha:PT X a tA):PT X (.UnaryOp .Not a pos) (tNot tA):=by
  intro pins s σ H Q I h
  exact isTrue_not (ha pins s σ H (fun c H1=>Q (!c) H1) I h)
noncomputable def tAndV(ta tb:TE):TE:=fun σ H Q=>ta σ H fun x H1=>∃c,x= .bl c∧if c=true then tb σ H1 Q else Q (.bl false) H1
noncomputable def tOrV(ta tb:TE):TE:=fun σ H Q=>ta σ H fun x H1=>∃c,x= .bl c∧if c=true then Q (.bl true) H1 else tb σ H1 Q
noncomputable def tNotV(ta:TE):TE:=fun σ H Q=>ta σ H fun x H1=>∃c,x= .bl c∧Q (.bl (!c)) H1
theorem pe_one{op}{t:TE}(h:PE X a t):PE X (.BoolOp op [a] pos) t:=fun pins s σ H Q I hw=>BoolOp_one (h pins s σ H Q I hw)
theorem pe_and(ha:PE X a ta)(hb:PE X (.BoolOp .And (b::rest) pos) tb):PE X (.BoolOp .And (a::b::rest) pos) (tAndV ta tb):=by
  intro pins s σ H Q I h
  refine BoolOp_and (thn (ha pins s σ H _ I h) fun v s1 ⟨x,H1,I1,r1,q1⟩=>?_)
  obtain ⟨c,rfl,q1⟩:=q1
  cases r1
  refine wpAny_truthy_bool ?_
  cases c with
  | true=>exact hb pins s1 σ H1 Q I1 q1
  | false=>exact ⟨.bl false,H1,I1,rfl,q1⟩
theorem pe_not(ha:PE X a ta):PE X (.UnaryOp .Not a pos) (tNotV ta):=by
  intro pins s σ H Q I h
  refine UnaryOp_ (thn (ha pins s σ H _ I h) fun v s1 ⟨x,H1,I1,r1,q1⟩=>?_)
  obtain ⟨c,rfl,q1⟩:=q1
  cases r1
  exact not_of (wpAny_truthy_bool ⟨.bl (!c),H1,I1,rfl,q1⟩)
noncomputable def tIf(t:TT)(ta tb:TE):TE:=fun σ H Q=>t σ H fun c H1=>if c=true then ta σ H1 Q else tb σ H1 Q
end
end L2
namespace L2
open PySem PySem.Spec PyProof.Rows
noncomputable def SqL(K:PySem.W.Frag)(H:Hp)(a:Addr)(xs:List V):Prop:=
  Rd H a (.lst xs)∨
    ∃(o:Obj) (its:Array Value) (n:Nat),K.lookup a=some o∧o.cls= .type "list"∧o.dict=none∧o.data= .seq its n∧its.size≤sizeLine∧Vals xs its.toList
noncomputable def SqT(K:PySem.W.Frag)(H:Hp)(a:Addr)(xs:List V):Prop:=
  Rd H a (.tup xs)∨
    ∃(o:Obj) (its:Array Value) (n:Nat),K.lookup a=some o∧o.cls= .type "tuple"∧o.data= .seq its n∧its.size≤sizeLine∧Vals xs its.toList
noncomputable def absV:Value→Option V
  | .none=>some .non
  | .bool b=>some (.bl b)
  | .int i _=>some (.int i)
  | .str x _=>some (.str x)
  | .bytes b _=>some (.byt b)
  | .float b _=>some (.flt b)
  | .ref a=>some (.ref a)
  | .type n=>some (.ty n)
  | _=>none
theorem RelV.abs{x:V}{u:Value}(r:RelV x u):absV u=some x:=by
  cases x with
  | non=>cases r;rfl
  | bl _=>cases r;rfl
  | int _=>obtain ⟨t,rfl⟩:=r;rfl
  | str _=>obtain ⟨t,rfl⟩:=r;rfl
  | byt _=>obtain ⟨t,rfl⟩:=r;rfl
  | flt _=>obtain ⟨t,rfl⟩:=r;rfl
  | ref _=>cases r;rfl
  | ty _=>cases r;rfl
theorem RelV.inj{x y:V}{u:Value}(r:RelV x u)(q:RelV y u):x=y:=Option.some.inj (r.abs.symm.trans q.abs)
theorem Vals.inj:∀{xs ys:List V} {us:List Value},Vals xs us→Vals ys us→xs=ys
  | _,_,_,.nil,.nil=>rfl
  | _,_,_,.cons r t,.cons r' t'=>by rw [r.inj r',Vals.inj t t']
section
variable {X:Cx} {pins:List (Addr×Obj)} {σ:St} {H:Hp} {s:Shared} {a:Addr} {xs ys:List V}
theorem SqL.of{K:PySem.W.Frag}(h:H a=some (.lst xs)):SqL K H a xs:= .inl (.inl h)
theorem SqT.of{K:PySem.W.Frag}(h:H a=some (.tup xs)):SqT K H a xs:= .inl (.inl h)
theorem Inv.list(I:Inv X pins σ H s)(h:SqL X.K H a xs):∃its:List Value,Vals xs its∧PlainL s.heap a its.toArray∧xs.length≤sizeLine:=by
  rcases h with h | ⟨o,its,n,hk,hc,hd,hs,hz,r⟩
  · obtain ⟨z,its,n,r,e⟩:=h.ok I.hok
    exact ⟨its,r,⟨_,n,e,rfl,rfl,rfl⟩,z⟩
  · refine ⟨its.toList,r,⟨o,n,I.kIn a o hk,hc,hd,by simpa using hs⟩,?_⟩
    have e:=r.length
    simp only [Array.length_toList]at e
    omega
theorem Inv.tuple(I:Inv X pins σ H s)(h:SqT X.K H a xs):∃its:List Value,Vals xs its∧IsTup s.heap a its.toArray∧xs.length≤sizeLine:=by
  rcases h with h | ⟨o,its,n,hk,hc,hs,hz,r⟩
  · obtain ⟨z,its,r,p⟩:=h.ok I.hok
    exact ⟨its,r,p,z⟩
  · refine ⟨its.toList,r,⟨o,I.kIn a o hk,hc,n,by simpa using hs⟩,?_⟩
    have e:=r.length
    simp only [Array.length_toList]at e
    omega
theorem Inv.list_inj(I:Inv X pins σ H s)(h:SqL X.K H a xs)(h':SqL X.K H a ys):xs=ys:=by
  obtain ⟨its,r,⟨o,n,e,_,_,d⟩,_⟩:=I.list h
  obtain ⟨its',r',⟨o',n',e',_,_,d'⟩,_⟩:=I.list h'
  rw [e]at e';cases e'
  rw [d]at d'
  injection d' with d1 _
  have:its=its':=by simpa using congrArg Array.toList d1
  subst this
  exact r.inj r'
end
section
variable {X:Cx} {pins:List (Addr×Obj)} {σ:St} {H:Hp} {s:Shared} {E:Value→Shared→Prop}
end
section
variable {X:Cx} {st:Stmt} {rest:List Stmt} {t u:TS} {e:Expr} {te:TE} {pos:Pos}
noncomputable def tNext:TS:=fun D σ H=>D.nx σ H
noncomputable def tSeq(t u:TS):TS:=fun D σ H=>t {D with nx:=u D} σ H
theorem pss_nil:PSs X [] tNext:=fun _ _ σ H _ I h=>wpAny_execs_nil ⟨σ,H,I,h⟩
theorem pss_cons(h1:PS X st t)(h2:PSs X rest u):PSs X (st::rest) (tSeq t u):=by
  intro pins s σ H D I h
  refine wpAny_execs_cons (thn (h1 pins s σ H {D with nx:=u D} I h) fun f s1 q=>?_)
  cases f with
  | next=>
    obtain ⟨σ',H',I',q⟩:=q
    exact h2 pins s1 σ' H' D I' q
  | ret v=>exact q
  | brk=>exact q
  | cont=>exact q
theorem pss_one(h1:PS X st t):PSs X [st] t:=by
  intro pins s σ H D I h
  refine wpAny_execs_cons (thn (h1 pins s σ H D I h) fun f s1 q=>?_)
  cases f with
  | next=>exact wpAny_execs_nil q
  | ret v=>exact q
  | brk=>exact q
  | cont=>exact q
noncomputable def tBreak:TS:=fun D σ H=>D.bk σ H
noncomputable def tCont:TS:=fun D σ H=>D.ct σ H
theorem ps_pass:PS X (.Pass pos) tNext:=fun _ _ σ H _ I h=>wpAny_Pass ⟨σ,H,I,h⟩
theorem Inv.quiet{pins:List (Addr×Obj)}{σ:St}{H:Hp}{s:Shared}(I:Inv X pins σ H s):interactive X.env=false:=by simp [interactive,I.ok.kind]
noncomputable def tDrop(te:TE):TS:=fun D σ H=>te σ H fun _ H1=>D.nx σ H1
theorem ps_expr(he:PE X e te)(hs:swapsWith e none pos.line X.env=pure false:=by rfl):PS X (.Expr e pos) (tDrop te):=by
  intro pins s σ H D I h
  exact wpAny_Expr_any (thn (he pins s σ H _ I h) fun v s1 ⟨x,H1,I1,r1,q1⟩=>⟨σ,H1,I1,q1⟩) I.quiet hs
noncomputable def tRet(te:TE):TS:=fun D σ H=>te σ H D.rt
theorem ps_ret(he:PE X e te):PS X (.Return (some e) pos) (tRet te):=by
  intro pins s σ H D I h
  exact wpAny_Return_some (thn (he pins s σ H _ I h) fun v s1 ⟨x,H1,I1,r1,q1⟩=>⟨x,σ,H1,I1,r1,q1⟩)
noncomputable def tRetN:TS:=fun D _ H=>D.rt .non H
noncomputable def tIfS(c:TT)(t u:TS):TS:=fun D σ H=>c σ H fun b H1=>if b=true then t D σ H1 else u D σ H1
theorem ps_if{c:Expr}{a b:List Stmt}{tc:TT}(hc:PT X c tc)(ha:PSs X a t)(hb:PSs X b u):PS X (.If c a b pos) (tIfS tc t u):=by
  intro pins s σ H D I h
  refine wpAny_If (thn (hc pins s σ H _ I h) fun d s1 ⟨H1,I1,q1⟩=>?_)
  cases d with
  | true=>exact ha pins s1 σ H1 D I1 q1
  | false=>exact hb pins s1 σ H1 D I1 q1
noncomputable def tNever:TS:=fun _ _ _=>False
theorem ps_never:PS X st tNever:=fun _ _ _ _ _ _ h=>h.elim
end
noncomputable abbrev TG:=V→St→Hp→(St→Hp→Prop)→Prop
noncomputable abbrev TGs:=List V→St→Hp→(St→Hp→Prop)→Prop
noncomputable def PG(X:Cx)(target:Expr)(t:TG):Prop:=
  ∀(pins:List (Addr×Obj)) (s:Shared) (σ:St) (H:Hp) (v:V) (u:Value) (Q:St→Hp→Prop),Inv X pins σ H s→RelV v u→t v σ H Q→
    wpAny (model X.prog X.w) X.A (assign target X.env u) (fun _ s'=>∃σ' H',Inv X pins σ' H' s'∧Q σ' H') X.xe s
noncomputable def PGs(X:Cx)(ts:List Expr)(t:TGs):Prop:=
  ∀(pins:List (Addr×Obj)) (s:Shared) (σ:St) (H:Hp) (vs:List V) (us:List Value) (Q:St→Hp→Prop),Inv X pins σ H s→Vals vs us→t vs σ H Q→
    wpAny (model X.prog X.w) X.A (assignInOrder ((assignEach ts X.env).map (·.2)) us) (fun _ s'=>∃σ' H',Inv X pins σ' H' s'∧Q σ' H') X.xe s
noncomputable abbrev TSet:=V→V→V→Hp→(Hp→Prop)→Prop
noncomputable abbrev TIp:=V→V→Hp→VK→Prop
section
variable {X:Cx} {pos:Pos}
noncomputable def gName(i:Nat):TG:=fun v σ H Q=>Q (σ.set i (some v)) H
theorem pg_name{i:Nat}{x:Str}(hN:X.N.Nodup)(hi:X.N[i]?=some x)(hx:Loc X.env.scope x)(hf:X.fn x=true∨X.env.scope.names.lookup x=some .local:=by first | exact .inl rfl | exact .inr rfl | assumption):PG X (.Name x pos) (gName i):=by
  intro pins s σ H v u Q I r h
  exact wpAny_assign_Name (store_ok I hN hi hx r (fun s' I'=>⟨_,H,I',h⟩) hf)
noncomputable def gNil:TGs:=fun vs σ H Q=>vs=[]∧Q σ H
noncomputable def gCons(t:TG)(u:TGs):TGs:=fun vs σ H Q=>∃v r,vs=v::r∧t v σ H fun σ' H'=>u r σ' H' Q
theorem pgs_nil:PGs X [] gNil:=by
  intro pins s σ H vs us Q I r h
  obtain ⟨e,h⟩:=h
  subst e
  cases r
  exact assignInOrder_nil ⟨σ,H,I,h⟩
theorem pgs_cons{e:Expr}{es:List Expr}{t:TG}{u:TGs}(h1:PG X e t)(h2:PGs X es u)
    (hs:(assignEach (e::es) X.env).map (·.2)=assign e X.env::(assignEach es X.env).map (·.2):=by rfl):PGs X (e::es) (gCons t u):=by
  intro pins s σ H vs us Q I r h
  obtain ⟨v,vr,e1,h⟩:=h
  subst e1
  cases r with
  | cons r rr=>
    rw [hs]
    refine assignInOrder_cons (thn (h1 pins s σ H _ _ _ I r h) fun _ s1 ⟨σ1,H1,I1,q1⟩=>?_)
    exact h2 pins s1 σ1 H1 _ _ Q I1 rr q1
noncomputable def gTup(K:PySem.W.Frag)(n:Nat)(t:TGs):TG:=fun v σ H Q=>∃a xs,v= .ref a∧SqT K H a xs∧xs.length=n∧t xs σ H Q
theorem pg_tup{es:List Expr}{k:Nat}{t:TGs}{n:Nat}(hc:X.calm=true)(h:PGs X es t)
    (hn:(assignEach es X.env).length=n:=by rfl) (hst:(assignEach es X.env).findIdx? (·.1)=none:=by rfl):PG X (.Tuple es k pos) (gTup X.K n t):=by
  intro pins s σ H v u Q I r hw
  obtain ⟨a,xs,e1,hq,hl,hw⟩:=hw
  subst e1
  cases r
  obtain ⟨its,rv,ht,hz⟩:=I.tuple hq
  refine assign_Tuple_tuple (I.ok.hd hc) ht (by simp [hn,← hl,rv.length]) hst fun h' hx=>?_
  have I1:Inv X pins σ H {s with heap:=h'}:=I.kept (t':=s.toks) fun b o e=>hx b o (Nat.ne_of_lt (Heap.lt_size e)) e
  exact h pins _ σ H xs _ Q I1 (by simpa using rv) hw
noncomputable def gSub(to ti:TE)(t:TSet):TG:=fun v σ H Q=>to σ H fun o H1=>ti σ H1 fun i H2=>t o i v H2 fun H3=>Q σ H3
noncomputable def tAsg(te:TE)(g:TG):TS:=fun D σ H=>te σ H fun x H1=>g x σ H1 D.nx
theorem ps_set{i:Nat}{x:Str}{e:Expr}{te:TE}{pos':Pos}(hN:X.N.Nodup)(hi:X.N[i]?=some x)(hx:Loc X.env.scope x)(he:PE X e te)(hs:swapsWith e (some (.Name x pos')) pos.line X.env=pure false:=by rfl)(hf:X.fn x=true∨X.env.scope.names.lookup x=some .local:=by first | exact .inl rfl | exact .inr rfl | assumption):
    PS X (.Assign [.Name x pos'] e pos) (tAsg te (gName i)):=by
  intro pins s σ H D I h
  refine wpAny_Assign_Name (thn (he pins s σ H _ I h) fun v s1 ⟨y,H1,I1,r1,q1⟩=>?_) hs
  exact store_ok I1 hN hi hx r1 (fun s2 I2=>⟨_,H1,I2,q1⟩) hf
noncomputable def tPar(i j:Nat)(ta:TA):TS:=fun D σ H=>ta σ H fun vs H1=>∃v w,vs=[v,w]∧D.nx ((σ.set i (some v)).set j (some w)) H1
noncomputable def tAug(i:Nat)(te:TE)(ti:TIp):TS:=fun D σ H=>∃x,σ[i]?=some (some x)∧te σ H fun y H1=>ti x y H1 fun z H2=>D.nx (σ.set i (some z)) H2
noncomputable def ipI(f:Int→Int→Int):TIp:=fun x y H Q=>∃i j,x= .int i∧y= .int j∧Q (.int (f i j)) H
end
section
variable {X:Cx} {pos:Pos}
end
structure It where
  go:Nat→Hp→Prop
  yld:Nat→Hp→V→Hp→Prop
  stop:Nat→Hp→Prop
noncomputable def FpOk(X:Cx)(pins:List (Addr×Obj))(H:Hp)(b:Addr):Prop:=
  H b=none∧b≠X.env.locals∧b∉X.fs∧(b∈X.ex∨X.s₀.heap.objs.size≤b)∧(∀x c,X.env.cells.lookup x=some c→c≠b)∧∀p∈X.pn++pins,p.1≠b
theorem Inv.fpOk{X:Cx}{pins:List (Addr×Obj)}{σ:St}{H H':Hp}{s:Shared}{b:Addr}(I:Inv X pins σ H s)(hb:s.heap.objs.size≤b)(hn:H' b=none):FpOk X pins H' b:=by
  refine ⟨hn,Nat.ne_of_gt (Nat.lt_of_lt_of_le I.lt hb),I.nofs hb,.inr (Nat.le_trans I.sz hb),fun x c e z=>?_,fun p hp z=>?_⟩
  · obtain ⟨v,q⟩:=I.cell x c e
    exact absurd (Nat.lt_of_lt_of_le q.lt (by rw [z];exact hb)) (Nat.lt_irrefl _)
  · exact absurd (Nat.lt_of_lt_of_le (Heap.lt_size (I.pin p hp).1) (by rw [z];exact hb)) (Nat.lt_irrefl _)
structure Turn(P:Program)(w:World)(K:PySem.W.Frag)(tg:Expr)(J:It)(fp:List Addr)(it:Addr)(tn:Nat→Heap→Prop):Prop where
  mem:it∈fp
  obj:∀i h,tn i h→∀b∈fp,∃o,h.get? b=some o∧∀v,o.data≠ .cell v
  keep:∀i h h',tn i h→(∀b∈fp,∀o,h.get? b=some o→h'.get? b=some o)→tn i h'
  item:∀(X:Cx),X.prog=P→X.w=w→X.K=K→X.calm=true→∀(i:Nat) (pins:List (Addr×Obj)) (s:Shared) (σ:St) (H:Hp) (E:Value→Shared→Prop),Inv X pins σ H s→(∀b∈fp,FpOk X pins H b)→tn i s.heap→J.go i H→
    wpAny (model P w) X.A (pyNext (.ref it)) (fun r s1=>∃u,r=some u∧
      wpAny (model P w) X.A (letOwnedTupleGo tg (.ref it) u) (fun _ s2=>∃x H',Inv X pins σ H' s2∧RelV x u∧J.yld i H x H'∧tn (i+1) s2.heap∧∀b∈fp,H' b=none) E s1) E s
  done:∀(X:Cx),X.prog=P→X.w=w→X.K=K→X.calm=true→∀(i:Nat) (pins:List (Addr×Obj)) (s:Shared) (σ:St) (H:Hp) (E:Value→Shared→Prop),Inv X pins σ H s→(∀b∈fp,FpOk X pins H b)→tn i s.heap→J.stop i H→
    wpAny (model P w) X.A (pyNext (.ref it)) (fun r s1=>r=none∧Inv X pins σ H s1) E s
  self:∀(A:Around) (i:Nat) (s:Shared) (Q:Value→Shared→Prop) (E:Value→Shared→Prop),tn i s.heap→Q (.ref it) s→wpAny (model P w) A (pyIter (.ref it)) Q E s
noncomputable abbrev TI:=St→Hp→(It→Hp→Prop)→Prop
noncomputable def PIE(X:Cx)(pins:List (Addr×Obj))(σ:St)(tg:Expr)(R:It→Hp→Prop)(itv:Value)(s2:Shared):Prop:=
  ∃(it:Addr) (fp:List Addr) (tn:Nat→Heap→Prop) (J:It) (H':Hp),itv= .ref it∧Inv X pins σ H' s2∧Turn X.prog X.w X.K tg J fp it tn∧tn 0 s2.heap∧(∀b∈fp,FpOk X pins H' b)∧R J H'
noncomputable def PI(X:Cx)(tg iter:Expr)(wi:TI):Prop:=
  ∀(pins:List (Addr×Obj)) (s:Shared) (σ:St) (H:Hp) (R:It→Hp→Prop),Inv X pins σ H s→wi σ H R→
    wpAny (model X.prog X.w) X.A (eval iter X.env) (fun v s1=>wpAny (model X.prog X.w) X.A (pyIter v) (PIE X pins σ tg R) X.xe s1) X.xe s
theorem go_of{M:Model}{A:Around}{E:Value→Shared→Prop}{s:Shared}{tg:Expr}{it:Addr}{u:Value}{o:Obj}{n:String}{vs:Array Value}{Q:Unit→Shared→Prop}(ho:s.heap.get? it=some o)(hc:o.cls= .type n)(hd:o.data= .fields vs)
    (hn:["enumerate","zip","dict_itemiterator","dict_reverseitemiterator","odict_iterator","itertools.zip_longest","itertools.pairwise"].contains n=false) (hQ:Q () s):wpAny M A (letOwnedTupleGo tg (.ref it) u) Q E s:=by
  unfold letOwnedTupleGo
  cases tg <;> first
    | exact wpAny_pure hQ
    | (cases u <;> first
        | exact wpAny_pure hQ
        | (refine wpAny_bind (wpAny_load ho ?_)
           rw [hc,hd]
           show wpAny M A (if (["enumerate","zip","dict_itemiterator","dict_reverseitemiterator","odict_iterator","itertools.zip_longest","itertools.pairwise"].contains n && vs[0]?==some (rawInt _))=true then _ else _) Q E s
           rw [if_neg (by intro h;rw [hn,Bool.false_and]at h;cases h)]
           exact wpAny_pure hQ))
noncomputable def Itl(K:PySem.W.Frag)(a:Addr):It:=
  ⟨fun i H=>∃xs x,SqL K H a xs∧xs[i]?=some x,fun i H x H'=>H'=H∧∀xs,SqL K H a xs→xs[i]?=some x,fun i H=>∃xs,SqL K H a xs∧xs.length≤i⟩
noncomputable def Itt(K:PySem.W.Frag)(a:Addr):It:=
  ⟨fun i H=>∃xs x,SqT K H a xs∧xs[i]?=some x,fun i H x H'=>H'=H∧∀xs,SqT K H a xs→xs[i]?=some x,fun i H=>∃xs,SqT K H a xs∧xs.length≤i⟩
noncomputable def Itr(lo:Int)(n:Nat):It:=⟨fun i _=>i < n,fun i H x H'=>H'=H∧x= .int (lo+i),fun i _=>n≤i⟩
theorem turn_list{P:Program}{w:World}{K:PySem.W.Frag}{tg:Expr}(a it:Addr):Turn P w K tg (Itl K a) [it] it (fun i h=>h.IsListIter it a i) where
  mem:=by simp
  obj:=fun i h st b hb=>by
    have e:b=it:=by simpa using hb
    subst e
    obtain ⟨o,e,c,d⟩:=st
    exact ⟨o,e,fun v z=>by rw [d]at z;cases z⟩
  keep:=fun i h h' st k=>st.at fun o e=>k it (by simp) o e
  item:=by
    intro X hP hw hK hc i pins s σ H E I hf st hg
    subst hP hw hK
    obtain ⟨xs,x,hq,hx⟩:=hg
    obtain ⟨its,rv,p,hz⟩:=I.list hq
    obtain ⟨u,hu,ru⟩:=rv.get hx
    obtain ⟨f0,f1,f2,f3,f4,f5⟩:=hf it (by simp)
    refine wpAny_pyNext_list_item st p.isList (x:=u) (by simpa using hu) fun h' st' sb=>?_
    have I1:Inv X pins σ H {s with heap:=h'}:=I.turned (t':=s.toks) (fun b o hb e=>(sb.2 b hb).trans e) f0 f1 f3 f4 f5
    obtain ⟨o,e,c,d⟩:=id st'
    exact ⟨u,rfl,go_of (s:={s with heap:=h'}) e c d (by decide) ⟨x,H,I1,ru,⟨rfl,fun ys hy=>by rw [I.list_inj hy hq];exact hx⟩,st',fun b hb=>(hf b hb).1⟩⟩
  done:=by
    intro X hP hw hK hc i pins s σ H E I hf st hg
    subst hP hw hK
    obtain ⟨xs,hq,hx⟩:=hg
    obtain ⟨its,rv,p,hz⟩:=I.list hq
    obtain ⟨f0,f1,f2,f3,f4,f5⟩:=hf it (by simp)
    have hl:=rv.length
    exact wpAny_pyNext_list_end (I.ok.hd hc) st p.isList (by simp;omega) fun h' eb=>⟨rfl,I.turned (t':=s.toks) (fun b o hb e=>eb b o hb e) f0 f1 f3 f4 f5⟩
  self:=fun _ _ _ _ _ st h=>wpAny_pyIter_listiter st h
theorem turn_range{P:Program}{w:World}{K:PySem.W.Frag}{tg:Expr}(it:Addr)(lo:Int)(n:Nat):Turn P w K tg (Itr lo n) [it] it (fun i h=>IsRangeIter h it (lo+(i:Nat) * 1) ((n:Int) - (i:Nat)) 1) where
  mem:=by simp
  obj:=fun i h st b hb=>by
    have e:b=it:=by simpa using hb
    subst e
    exact ⟨_,st,fun v z=>by
      have z':Data.fields _=Data.cell v:=z
      cases z'⟩
  keep:=fun i h h' st k=>k it (by simp) _ st
  item:=by
    intro X hP hw hK hc i pins s σ H E I hf st hg
    subst hP hw hK
    obtain ⟨f0,f1,f2,f3,f4,f5⟩:=hf it (by simp)
    have W:=Walks.range (prog:=X.prog) (w:=X.w) (I.ok.hd hc) it lo 1 n
    refine W.item i s _ _ hg st fun v h' tk hv st' kk=>?_
    obtain ⟨t,rfl⟩:=hv
    have I1:Inv X pins σ H {s with heap:=h',toks:=tk}:=I.turned (fun b o hb e=>kk b o (by simpa using hb) e) f0 f1 f3 f4 f5
    refine ⟨_,rfl,go_of (s:={s with heap:=h',toks:=tk}) (n:="range_iterator") st' rfl rfl (by decide) ⟨.int (lo+i),H,I1,⟨t,?_⟩,⟨rfl,rfl⟩,st',fun b hb=>(hf b hb).1⟩⟩
    rw [Int.mul_one]
  done:=by
    intro X hP hw hK hc i pins s σ H E I hf st hg
    subst hP hw hK
    obtain ⟨f0,f1,f2,f3,f4,f5⟩:=hf it (by simp)
    exact wpAny_pyNext_range_end (I.ok.hd hc) st (by have:n≤i:=hg;omega) fun h' eb=>⟨rfl,I.turned (t':=s.toks) (fun b o hb e=>eb b o hb e) f0 f1 f3 f4 f5⟩
  self:=fun _ _ _ _ _ st h=>wpAny_pyIter_rangeiter st h
end L2
namespace L2
open PySem PySem.Spec PyProof.Rows
section
variable {X:Cx} {tg:Expr}
noncomputable def iList(K:PySem.W.Frag)(tl:TE):TI:=fun σ H R=>tl σ H fun x H1=>∃a,x= .ref a∧(∃xs,SqL K H1 a xs)∧R (Itl K a) H1
noncomputable def iTup(K:PySem.W.Frag)(tl:TE):TI:=fun σ H R=>tl σ H fun x H1=>∃a,x= .ref a∧(∃xs,SqT K H1 a xs)∧R (Itt K a) H1
theorem pi_list{l:Expr}{tl:TE}(hl:PE X l tl):PI X tg l (iList X.K tl):=by
  intro pins s σ H R I h
  refine thn (hl pins s σ H _ I h) fun v s1 ⟨x,H1,I1,r1,q1⟩=>?_
  obtain ⟨a,e,⟨xs,hq⟩,q⟩:=q1
  subst e
  cases r1
  obtain ⟨its,rv,p,hz⟩:=I1.list hq
  refine wpAny_pyIter_list p.isList ?_
  refine ⟨s1.heap.objs.size,[s1.heap.objs.size],_,_,H1,rfl,I1.kept (t':=s1.toks) fun b o e=>Heap.get?_push_of_some _ e,turn_list a _,⟨_,Heap.get?_push_size _ rfl,rfl,rfl⟩,fun b hb=>?_,q⟩
  have e:b=s1.heap.objs.size:=by simpa using hb
  subst e
  exact I1.fpOk (Nat.le_refl _) (I1.hok.fresh (Nat.le_refl _))
theorem range_it{pins:List (Addr×Obj)}{σ:St}{H:Hp}{s:Shared}{R:It→Hp→Prop}{E:Value→Shared→Prop}{lo hi:Int}{t u v:Tok}{tk:Nat}(I:Inv X pins σ H s)(h1:-(2 ^ 62)≤lo)(h2:lo < 2 ^ 62)(h3:-(2 ^ 62)≤hi)(h4:hi < 2 ^ 62)
    (q:R (Itr lo (hi - lo).toNat) H):wpAny (model X.prog X.w) X.A (pyIter (.ref s.heap.objs.size)) (PIE X pins σ tg R) E {s with heap:=s.heap.push {cls:= .type "range",data:= .fields #[.int lo t,.int hi u,.int 1 v]},toks:=tk}:=by
  refine wpAny_pyIter_range (IsRange.new ..) (small_one h1 h2 h3 h4) ?_
  have I1:Inv X pins σ H {s with heap:=s.heap.push {cls:= .type "range",data:= .fields #[.int lo t,.int hi u,.int 1 v]},toks:=tk}:=I.kept fun b o e=>Heap.get?_push_of_some _ e
  refine ⟨(s.heap.push {cls:= .type "range",data:= .fields #[.int lo t,.int hi u,.int 1 v]}).objs.size,[(s.heap.push {cls:= .type "range",data:= .fields #[.int lo t,.int hi u,.int 1 v]}).objs.size],_,_,H,rfl,
    I1.kept (t':=tk) fun b o e=>Heap.get?_push_of_some _ e,turn_range _ lo (hi - lo).toNat,?_,fun b hb=>?_,q⟩
  · have e1:lo+((0:Nat):Int) * 1=lo:=by simp
    have e2:(((hi - lo).toNat:Nat):Int) - ((0:Nat):Int)=Builtin.Range.rangeSize lo hi 1:=by rw [rangeSize_one];split <;> omega
    show IsRangeIter _ _ (lo+((0:Nat):Int) * 1) ((((hi - lo).toNat:Nat):Int) - ((0:Nat):Int)) 1
    rw [e1,e2]
    exact Heap.get?_push_size _ rfl
  · have e:b=(s.heap.push {cls:= .type "range",data:= .fields #[.int lo t,.int hi u,.int 1 v]}).objs.size:=by simpa using hb
    subst e
    exact I1.fpOk (Nat.le_refl _) (I1.hok.fresh (Nat.le_refl _))
noncomputable def iRng1(ta:TA):TI:=fun σ H R=>ta σ H fun vs H1=>∃j:Int,vs=[.int j]∧-(2 ^ 62)≤j∧j < 2 ^ 62∧R (Itr 0 j.toNat) H1
noncomputable def iRng2(ta:TA):TI:=fun σ H R=>ta σ H fun vs H1=>∃i j:Int,vs=[.int i,.int j]∧(-(2 ^ 62)≤i∧i < 2 ^ 62∧-(2 ^ 62)≤j∧j < 2 ^ 62)∧R (Itr i (j - i).toNat) H1
theorem pi_range1{a:Expr}{ta:TA}{p pos:Pos}(hg:Gl X "range")(hm:X.mg "range"=none)(ha:PA X [a] ta)(hs:starEach [a] X.env=[(false,eval a X.env)]:=by rfl):PI X tg (.Call (.Name "range" p) [a] [] pos) (iRng1 ta):=by
  intro pins s σ H R I h
  refine Call_ (ld_blt I hg hm boot_range (PyProof.Rows.callWith_type1 (thn (ha pos pins s σ H _ I h) fun us s1 ⟨vs,H1,I1,r1,q1⟩=>?_) hs rfl))
  obtain ⟨j,e,q1,q2,q⟩:=q1
  subst e
  cases r1 with
  | cons r rr=>
    cases rr
    obtain ⟨t,rfl⟩:=r
    exact call_range_1 (range_it I1 (by omega) (by omega) q1 q2 (by simpa using q))
theorem pi_range2{a b:Expr}{ta:TA}{p pos:Pos}(hg:Gl X "range")(hm:X.mg "range"=none)(ha:PA X [a,b] ta)(hs:starEach [a,b] X.env=[(false,eval a X.env),(false,eval b X.env)]:=by rfl)(hs2:starEach [b] X.env=[(false,eval b X.env)]:=by rfl):
    PI X tg (.Call (.Name "range" p) [a,b] [] pos) (iRng2 ta):=by
  intro pins s σ H R I h
  refine Call_ (ld_blt I hg hm boot_range (PyProof.Rows.callWith_type1 (thn (ha pos pins s σ H _ I h) fun us s1 ⟨vs,H1,I1,r1,q1⟩=>?_) (by rw [hs,hs2]) (by rw [hs2];rfl)))
  obtain ⟨i,j,e,⟨q1,q2,q3,q4⟩,q⟩:=q1
  subst e
  cases r1 with
  | cons r rr=>
    cases rr with
    | cons r' rr=>
      cases rr
      obtain ⟨t,rfl⟩:=r
      obtain ⟨t',rfl⟩:=r'
      exact call_range_2 (range_it I1 q1 q2 q3 q4 q)
noncomputable def tFor(wi:TI)(g:TG)(tb:TS):TS:=fun D σ H=>wi σ H fun J H1=>∃W:Nat→Nat→St→Hp→Prop,(∃m,W 0 m σ H1)∧∀i m σ H,W i m σ H→
  (J.stop i H∧D.nx σ H)∨(J.go i H∧∃N:St→Hp→Prop,(∀σ' H',N σ' H'→∃m',m' < m∧W (i+1) m' σ' H')∧∀x H',J.yld i H x H'→g x σ H' fun σ2 H2=>tb {D with nx:=N,ct:=N,bk:=D.nx} σ2 H2)
noncomputable def pinsAt(fp:List Addr)(h:Heap):List (Addr×Obj):=fp.filterMap fun b=>(h.get? b).map fun o=>(b,o)
theorem mem_pinsAt{fp:List Addr}{h:Heap}{b:Addr}{o:Obj}(hb:b∈fp)(e:h.get? b=some o):(b,o)∈pinsAt fp h:=List.mem_filterMap.mpr ⟨b,hb,by rw [e];rfl⟩
theorem of_pinsAt{fp:List Addr}{h:Heap}{p:Addr×Obj}(hp:p∈pinsAt fp h):p.1∈fp∧h.get? p.1=some p.2:=by
  obtain ⟨b,hb,e⟩:=List.mem_filterMap.mp hp
  cases q:h.get? b with
  | none=>rw [q]at e;cases e
  | some o=>
    rw [q]at e
    have e':(b,o)=p:=Option.some.inj e
    subst e'
    exact ⟨hb,q⟩
theorem Inv.pinned{pins:List (Addr×Obj)}{σ:St}{H:Hp}{s:Shared}{fp:List Addr}(I:Inv X pins σ H s)(hf:∀b∈fp,FpOk X pins H b)(ho:∀b∈fp,∃o,s.heap.get? b=some o∧∀v,o.data≠ .cell v):Inv X (pins++pinsAt fp s.heap) σ H s:=
  I.pins_of fun p hp=>(List.mem_append.mp hp).elim (fun z=>I.pin p (List.mem_append_right _ z)) fun z=>by
    obtain ⟨hb,e⟩:=of_pinsAt z
    obtain ⟨f0,f1,f2,_⟩:=hf p.1 hb
    obtain ⟨o,e',d⟩:=ho p.1 hb
    rw [e]at e';cases e'
    exact ⟨e,f0,f1,f2,d⟩
theorem Inv.unpinned{pins pl:List (Addr×Obj)}{σ:St}{H:Hp}{s:Shared}(I:Inv X (pins++pl) σ H s):Inv X pins σ H s:=I.pins_of fun p hp=>I.pin p (List.mem_append_right _ (List.mem_append_left _ hp))
theorem ps_for{iter:Expr}{body:List Stmt}{wi:TI}{g:TG}{tb:TS}{pos:Pos}(hp:PassesOwn (model X.prog X.w) X.A X.env X.xe)(hc:X.calm=true)(hi:PI X tg iter wi)(hg:PG X tg g)(hb:PSs X body tb)
    (hs:∀x,foldedSetIterable iter X.env x=pure x:=by intro _;rfl):PS X (.For tg iter body [] pos) (tFor wi g tb):=by
  intro pins s σ H D I h
  refine wpAny_For (thn (hi pins s σ H _ I h) fun v s1 h1=>thn h1 fun itv s2 h2=>?_) hs
  obtain ⟨it,fp,tn,J,H2,e,I2,T,st2,f2,W,⟨m0,w0⟩,turn⟩:=h2
  subst e
  have stat:∀{H':Hp},(∀b∈fp,H' b=none)→∀b∈fp,FpOk X pins H' b:=fun hn b hb=>⟨hn b hb,(f2 b hb).2⟩
  refine codeAny_forLoop_any (fun n s'=>∃i σ' H',Inv X pins σ' H' s'∧tn i s'.heap∧(∀b∈fp,H' b=none)∧W i n σ' H') ?_ m0 ⟨0,σ,H2,I2,st2,fun b hb=>(f2 b hb).1,w0⟩
  rintro n s3 ⟨i,σ3,H3,I3,st3,fr3,w3⟩
  rcases turn i n σ3 H3 w3 with ⟨stop,qn⟩ | ⟨go,N,hN,step⟩
  · refine wpAny_passesOwn hp (thn (T.done X rfl rfl rfl hc i pins s3 σ3 H3 X.xe I3 (stat fr3) st3 stop) fun r s4 ⟨hr,I4⟩=>?_)
    subst hr
    exact wpAny_execs_nil ⟨σ3,H3,I4,qn⟩
  · refine wpAny_passesOwn hp (thn (T.item X rfl rfl rfl hc i pins s3 σ3 H3 X.xe I3 (stat fr3) st3 go) fun r s4 ⟨u,hr,h4⟩=>?_)
    subst hr
    refine wpAny_passesOwn hp (thn h4 fun _ s5 ⟨x,H5,I5,r5,y5,st5,fr5⟩=>?_)
    have I5':=I5.pinned (stat fr5) (T.obj _ _ st5)
    refine wpAny_passesOwn hp (thn (hg _ s5 σ3 H5 x u _ I5' r5 (step x H5 y5)) fun _ s6 ⟨σ6,H6,I6,q6⟩=>?_)
    refine wpAny_passesOwn hp (thn (hb _ s6 σ6 H6 _ I6 q6) fun f s7 q7=>?_)
    have again:∀{σ7:St} {H7:Hp},Inv X (pins++pinsAt fp s5.heap) σ7 H7 s7→N σ7 H7→∃m,m < n∧∃i σ' H',Inv X pins σ' H' s7∧tn i s7.heap∧(∀b∈fp,H' b=none)∧W i m σ' H':=fun {σ7 H7} I7 n7=>by
      obtain ⟨m',hm,w7⟩:=hN σ7 H7 n7
      refine ⟨m',hm,i+1,σ7,H7,I7.unpinned,T.keep _ _ _ st5 fun b hb o e=>(I7.pin (b,o) (List.mem_append_right _ (List.mem_append_right _ (mem_pinsAt hb e)))).1,fun b hb=>?_,w7⟩
      obtain ⟨o,e,d⟩:=T.obj _ _ st5 b hb
      exact (I7.pin (b,o) (List.mem_append_right _ (List.mem_append_right _ (mem_pinsAt hb e)))).2.1
    cases f with
    | next=>obtain ⟨σ7,H7,I7,n7⟩:=q7;exact again I7 n7
    | cont=>obtain ⟨σ7,H7,I7,n7⟩:=q7;exact again I7 n7
    | brk=>obtain ⟨σ7,H7,I7,q7⟩:=q7;exact ⟨σ7,H7,I7.unpinned,q7⟩
    | ret v=>obtain ⟨x7,σ7,H7,I7,r7,q7⟩:=q7;exact ⟨x7,σ7,H7,I7.unpinned,r7,q7⟩
end
theorem for_list{K:PySem.W.Frag}{a:Addr}{xs:List V}{g:TG}{tb:TS}{D:Ends}{σ:St}{H:Hp}(Pv:Nat→St→Hp→Prop)(h0:Pv 0 σ H)(hl:∀i σ H,i≤xs.length→Pv i σ H→SqL K H a xs)
    (hs:∀i x σ H,xs[i]?=some x→Pv i σ H→g x σ H fun σ2 H2=>tb {D with nx:=Pv (i+1),ct:=Pv (i+1),bk:=D.nx} σ2 H2) (hd:∀σ H,Pv xs.length σ H→D.nx σ H):
    ∃W:Nat→Nat→St→Hp→Prop,(∃m,W 0 m σ H)∧∀i m σ H,W i m σ H→
      ((Itl K a).stop i H∧D.nx σ H)∨((Itl K a).go i H∧∃N:St→Hp→Prop,(∀σ' H',N σ' H'→∃m',m' < m∧W (i+1) m' σ' H')∧∀x H',(Itl K a).yld i H x H'→g x σ H' fun σ2 H2=>tb {D with nx:=N,ct:=N,bk:=D.nx} σ2 H2):=by
  refine ⟨fun i m σ H=>m=xs.length - i∧i≤xs.length∧Pv i σ H,⟨xs.length,by simp,Nat.zero_le _,h0⟩,?_⟩
  rintro i m σ H ⟨rfl,hi,p⟩
  have q:=hl i σ H hi p
  by_cases hlt:i < xs.length
  · refine .inr ⟨⟨xs,xs[i],q,by simp [hlt]⟩,Pv (i+1),fun σ' H' p'=>⟨xs.length - (i+1),by omega,rfl,hlt,p'⟩,fun x H' y=>?_⟩
    obtain ⟨e,y⟩:=y
    subst e
    exact hs i x σ _ (y xs q) p
  · have e:i=xs.length:=by omega
    subst e
    exact .inl ⟨⟨xs,q,Nat.le_refl _⟩,hd σ H p⟩
theorem for_range{lo:Int}{n:Nat}{g:TG}{tb:TS}{D:Ends}{σ:St}{H:Hp}(Pv:Nat→St→Hp→Prop)(h0:Pv 0 σ H)
    (hs:∀i σ H,i < n→Pv i σ H→g (.int (lo+i)) σ H fun σ2 H2=>tb {D with nx:=Pv (i+1),ct:=Pv (i+1),bk:=D.nx} σ2 H2) (hd:∀σ H,Pv n σ H→D.nx σ H):
    ∃W:Nat→Nat→St→Hp→Prop,(∃m,W 0 m σ H)∧∀i m σ H,W i m σ H→
      ((Itr lo n).stop i H∧D.nx σ H)∨((Itr lo n).go i H∧∃N:St→Hp→Prop,(∀σ' H',N σ' H'→∃m',m' < m∧W (i+1) m' σ' H')∧∀x H',(Itr lo n).yld i H x H'→g x σ H' fun σ2 H2=>tb {D with nx:=N,ct:=N,bk:=D.nx} σ2 H2):=by
  refine ⟨fun i m σ H=>m=n - i∧i≤n∧Pv i σ H,⟨n,by simp,Nat.zero_le _,h0⟩,?_⟩
  rintro i m σ H ⟨rfl,hi,p⟩
  by_cases hlt:i < n
  · refine .inr ⟨hlt,Pv (i+1),fun σ' H' p'=>⟨n - (i+1),by omega,rfl,hlt,p'⟩,fun x H' y=>?_⟩
    obtain ⟨e,y⟩:=y
    subst e y
    exact hs i σ _ hlt p
  · have e:i=n:=by omega
    subst e
    exact .inl ⟨Nat.le_refl _,hd σ H p⟩
end L2
namespace L2
open PySem PySem.Spec PyProof.Rows
noncomputable abbrev R2:=V→V→Hp→VK→Prop
noncomputable def OpR(X:Cx)(f:Value→Value→Sem Value)(r:R2):Prop:=
  ∀(pins:List (Addr×Obj)) (s:Shared) (σ:St) (H:Hp) (x y:V) (v u:Value) (Q:VK),Inv X pins σ H s→RelV x v→RelV y u→r x y H Q→
    wpAny (model X.prog X.w) X.A (f v u) (EP X pins σ Q) X.xe s
noncomputable def CallR(X:Cx)(f:Value)(r:List V→Hp→VK→Prop):Prop:=
  ∀(pins:List (Addr×Obj)) (s:Shared) (σ:St) (H:Hp) (xs:List V) (us:List Value) (Q:VK),Inv X pins σ H s→Vals xs us→r xs H Q→
    wpAny (model X.prog X.w) X.A (call f us) (EP X pins σ Q) X.xe s
noncomputable def tOp(r:R2)(ta tb:TE):TE:=fun σ H Q=>ta σ H fun x H1=>tb σ H1 fun y H2=>r x y H2 Q
noncomputable def tUn(r:V→Hp→VK→Prop)(ta:TE):TE:=fun σ H Q=>ta σ H fun x H1=>r x H1 Q
noncomputable def rI(C:Int→Int→Prop)(g:Int→Int→V):R2:=fun x y H Q=>∃i j,x= .int i∧y= .int j∧C i j∧Q (g i j) H
noncomputable def rI0(g:Int→Int→V):R2:=fun x y H Q=>∃i j,x= .int i∧y= .int j∧Q (g i j) H
noncomputable def rU(g:Int→V):V→Hp→VK→Prop:=fun x H Q=>∃i,x= .int i∧Q (g i) H
section
variable {X:Cx} {a b c:Expr} {ta tb tc:TE} {pos:Pos}
theorem binT(ha:PE X a ta)(hb:PE X b tb){pins:List (Addr×Obj)}{s:Shared}{σ:St}{H:Hp}{R:V→V→Hp→Prop}(I:Inv X pins σ H s)
    (h:ta σ H fun x H1=>tb σ H1 fun y H2=>R x y H2) {Q:Value→Shared→Prop} {f:Value→Value→Sem Value}
    (hf:∀v u s2 x y H2,Inv X pins σ H2 s2→RelV x v→RelV y u→R x y H2→wpAny (model X.prog X.w) X.A (f v u) Q X.xe s2):
    wpAny (model X.prog X.w) X.A (eval a X.env) (fun v s₁=>wpAny (model X.prog X.w) X.A (eval b X.env) (fun u s₂=>wpAny (model X.prog X.w) X.A (f v u) Q X.xe s₂) X.xe s₁) X.xe s:=by
  refine thn (ha pins s σ H _ I h) fun v s1 ⟨x,H1,I1,r1,q1⟩=>?_
  refine thn (hb pins s1 σ H1 _ I1 q1) fun u s2 ⟨y,H2,I2,r2,q2⟩=>?_
  exact hf v u s2 x y H2 I2 r1 r2 q2
theorem pe_op{op:Operator}{r:R2}(ho:OpR X (binaryOp op) r)(ha:PE X a ta)(hb:PE X b tb):PE X (.BinOp a op b pos) (tOp r ta tb):=by
  intro pins s σ H Q I h
  exact wpAny_BinOp (binT ha hb I h fun v u s2 x y H2 I2 rx ry q=>ho pins s2 σ H2 x y v u Q I2 rx ry q)
theorem opI{f:Value→Value→Sem Value}{C:Int→Int→Prop}{g:Int→Int→Int}
    (rule:∀(i j:Int) (t u:Tok) (s:Shared) (Q:Value→Shared→Prop) (E:Value→Shared→Prop),C i j→Q (.int (g i j) s.toks) {s with toks:=s.toks+1}→wpAny (model X.prog X.w) X.A (f (.int i t) (.int j u)) Q E s):
    OpR X f (rI C fun i j=> .int (g i j)):=by
  intro pins s σ H x y v u Q I rx ry h
  obtain ⟨i,j,rfl,rfl,hc,q⟩:=h
  obtain ⟨t,rfl⟩:=rx
  obtain ⟨t',rfl⟩:=ry
  exact rule i j t t' s _ _ hc ⟨.int (g i j),H,I.tok _,⟨_,rfl⟩,q⟩
theorem opI0{f:Value→Value→Sem Value}{g:Int→Int→Int}
    (rule:∀(i j:Int) (t u:Tok) (s:Shared) (Q:Value→Shared→Prop) (E:Value→Shared→Prop),Q (.int (g i j) s.toks) {s with toks:=s.toks+1}→wpAny (model X.prog X.w) X.A (f (.int i t) (.int j u)) Q E s):
    OpR X f (rI0 fun i j=> .int (g i j)):=by
  intro pins s σ H x y v u Q I rx ry h
  obtain ⟨i,j,rfl,rfl,q⟩:=h
  obtain ⟨t,rfl⟩:=rx
  obtain ⟨t',rfl⟩:=ry
  exact rule i j t t' s _ _ ⟨.int (g i j),H,I.tok _,⟨_,rfl⟩,q⟩
theorem opB0{f:Value→Value→Sem Value}{g:Int→Int→Bool}
    (rule:∀(i j:Int) (t u:Tok) (s:Shared) (Q:Value→Shared→Prop) (E:Value→Shared→Prop),Q (.bool (g i j)) s→wpAny (model X.prog X.w) X.A (f (.int i t) (.int j u)) Q E s):
    OpR X f (rI0 fun i j=> .bl (g i j)):=by
  intro pins s σ H x y v u Q I rx ry h
  obtain ⟨i,j,rfl,rfl,q⟩:=h
  obtain ⟨t,rfl⟩:=rx
  obtain ⟨t',rfl⟩:=ry
  exact rule i j t t' s _ _ ⟨.bl (g i j),H,I,rfl,q⟩
noncomputable def CDiv(i j:Int):Prop:=0 < j∧j < 1073741824
noncomputable def CPow(i j:Int):Prop:=0≤j∧j≤1000000∧i.natAbs < 2 ^ 64
noncomputable def CMul(i j:Int):Prop:=(-(2 ^ 64) < i∧i < 2 ^ 64)∨(-(2 ^ 64) < j∧j < 2 ^ 64)
theorem CMul.ok{i j:Int}(h:CMul i j):IntMulOk i j:=by
  rcases h with ⟨h1,h2⟩ | ⟨h1,h2⟩
  · exact .of_left (intBits_le_64 h1 h2)
  · exact .of_right (intBits_le_64 h1 h2)
theorem op_add:OpR X (binaryOp .Add) (rI0 fun i j=> .int (i+j)):=opI0 fun _ _ _ _ _ _ _ q=>add_int q
theorem op_sub:OpR X (binaryOp .Sub) (rI0 fun i j=> .int (i - j)):=opI0 fun _ _ _ _ _ _ _ q=>sub_int q
theorem op_mul:OpR X (binaryOp .Mult) (rI CMul fun i j=> .int (i * j)):=opI fun _ _ _ _ _ _ _ hc q=>mul_int q hc.ok
theorem op_fdiv:OpR X (binaryOp .FloorDiv) (rI CDiv fun i j=> .int (i / j)):=opI fun i j _ _ _ _ _ hc q=>by
  have h1:(0:Int) < j:=hc.1
  have h2:j < 1073741824:=hc.2
  exact floordiv_int (by omega) (by rw [Int.fdiv_eq_ediv_of_nonneg i (by omega)];exact q) (.inl (PyProof.noPylong_small (by omega)))
theorem op_mod:OpR X (binaryOp .Mod) (rI (fun _ j=>0 < j) fun i j=> .int (i % j)):=opI fun i j _ _ _ _ _ hc q=>by
  have h1:(0:Int) < j:=hc
  exact mod_int' (by omega) (by rw [Int.fmod_eq_emod_of_nonneg i (by omega)];exact q)
theorem op_pow:OpR X (binaryOp .Pow) (rI CPow fun i j=> .int (i ^ j.toNat)):=opI fun _ _ _ _ _ _ _ hc q=>pow_int_small hc.1 hc.2.1 hc.2.2 q
end
noncomputable def scal:V→V→Bool
  | .non,.non=>true | .non,.int _=>true | .int _,.non=>true | .non,.bl _=>true | .bl _,.non=>true | .non,.str _=>true | .str _,.non=>true
  | .int _,.int _=>true | .bl _,.bl _=>true | .str _,.str _=>true | .byt _,.byt _=>true
  | .int _,.str _=>true | .str _,.int _=>true | .bl _,.str _=>true | .str _,.bl _=>true
  | _,_=>false
noncomputable def rEq:R2:=fun x y H Q=>scal x y=true∧Q (.bl (decide (x=y))) H
noncomputable def rNe:R2:=fun x y H Q=>scal x y=true∧Q (.bl (!decide (x=y))) H
theorem dec_int{i j:Int}:decide (V.int i=V.int j)=(i==j):=by
  rw [Bool.eq_iff_iff]
  simp
theorem dec_bl{i j:Bool}:decide (V.bl i=V.bl j)=(i==j):=by
  rw [Bool.eq_iff_iff]
  simp
theorem dec_str{i j:Str}:decide (V.str i=V.str j)=(i==j):=by
  rw [Bool.eq_iff_iff]
  simp
theorem dec_byt{i j:Array UInt8}:decide (V.byt i=V.byt j)=(i.toList==j.toList):=by
  rw [Bool.eq_iff_iff]
  cases i
  cases j
  simp
section
variable {X:Cx} {a b c:Expr} {ta tb tc:TE} {pos:Pos}
theorem fin_bl{pins:List (Addr×Obj)}{σ:St}{H:Hp}{s:Shared}{Q:VK}{k k':Bool}(I:Inv X pins σ H s)(q:Q (.bl k) H)(e:k=k'):EP X pins σ Q (.bool k') s:=by
  subst e
  exact ⟨.bl k,H,I,rfl,q⟩
theorem op_eq:OpR X (compareOp .Eq) rEq:=by
  intro pins s σ H x y v u Q I rx ry h
  obtain ⟨hs,q⟩:=h
  cases x with
  | non=>
    cases rx
    cases y with
    | non=>cases ry;exact PySem.EqNone.eq_none_none (fin_bl I q (by simp))
    | bl j=>cases ry;exact PySem.EqNone.eq_none_bool (fin_bl I q (by simp))
    | int j=>obtain ⟨t',rfl⟩:=ry;exact PySem.EqNone.eq_none_int (fin_bl I q (by simp))
    | str j=>obtain ⟨t',rfl⟩:=ry;exact PySem.EqNone.eq_none_str (fin_bl I q (by simp))
    | _=>exact absurd (show false=true from hs) Bool.false_ne_true
  | bl i=>
    cases rx
    cases y with
    | non=>cases ry;exact PySem.EqNone.eq_bool_none (fin_bl I q (by simp))
    | bl j=>cases ry;exact eq_bool (fin_bl I q dec_bl)
    | str j=>obtain ⟨t',rfl⟩:=ry;exact PySem.EqMixed.eq_bool_str (fin_bl I q (by simp))
    | _=>exact absurd (show false=true from hs) Bool.false_ne_true
  | int i=>
    obtain ⟨t,rfl⟩:=rx
    cases y with
    | non=>cases ry;exact PySem.EqNone.eq_int_none (fin_bl I q (by simp))
    | int j=>obtain ⟨t',rfl⟩:=ry;exact eq_int (fin_bl I q dec_int)
    | str j=>obtain ⟨t',rfl⟩:=ry;exact PySem.EqMixed.eq_int_str (fin_bl I q (by simp))
    | _=>exact absurd (show false=true from hs) Bool.false_ne_true
  | str i=>
    obtain ⟨t,rfl⟩:=rx
    cases y with
    | non=>cases ry;exact PySem.EqNone.eq_str_none (fin_bl I q (by simp))
    | bl j=>cases ry;exact PySem.EqMixed.eq_str_bool (fin_bl I q (by simp))
    | int j=>obtain ⟨t',rfl⟩:=ry;exact PySem.EqMixed.eq_str_int (fin_bl I q (by simp))
    | str j=>obtain ⟨t',rfl⟩:=ry;exact eq_str (fin_bl I q dec_str)
    | _=>exact absurd (show false=true from hs) Bool.false_ne_true
  | byt i=>
    obtain ⟨t,rfl⟩:=rx
    cases y with
    | byt j=>obtain ⟨t',rfl⟩:=ry;exact PySem.W.eq_bytes (fin_bl I q dec_byt)
    | _=>exact absurd (show false=true from hs) Bool.false_ne_true
  | _=>cases y <;> exact absurd (show false=true from hs) Bool.false_ne_true
theorem op_ne:OpR X (compareOp .NotEq) rNe:=by
  intro pins s σ H x y v u Q I rx ry h
  obtain ⟨hs,q⟩:=h
  cases x with
  | non=>
    cases rx
    cases y with
    | non=>cases ry;exact PySem.EqNone.ne_none_none (fin_bl I q (by simp))
    | bl j=>cases ry;exact PySem.EqNone.ne_none_bool (fin_bl I q (by simp))
    | int j=>obtain ⟨t',rfl⟩:=ry;exact PySem.EqNone.ne_none_int (fin_bl I q (by simp))
    | str j=>obtain ⟨t',rfl⟩:=ry;exact PySem.EqNone.ne_none_str (fin_bl I q (by simp))
    | _=>exact absurd (show false=true from hs) Bool.false_ne_true
  | bl i=>
    cases rx
    cases y with
    | non=>cases ry;exact PySem.EqNone.ne_bool_none (fin_bl I q (by simp))
    | bl j=>cases ry;exact ne_bool (fin_bl I q (congrArg not dec_bl))
    | str j=>obtain ⟨t',rfl⟩:=ry;exact PySem.EqMixed.ne_bool_str (fin_bl I q (by simp))
    | _=>exact absurd (show false=true from hs) Bool.false_ne_true
  | int i=>
    obtain ⟨t,rfl⟩:=rx
    cases y with
    | non=>cases ry;exact PySem.EqNone.ne_int_none (fin_bl I q (by simp))
    | int j=>obtain ⟨t',rfl⟩:=ry;exact ne_int (fin_bl I q (congrArg not dec_int))
    | str j=>obtain ⟨t',rfl⟩:=ry;exact PySem.EqMixed.ne_int_str (fin_bl I q (by simp))
    | _=>exact absurd (show false=true from hs) Bool.false_ne_true
  | str i=>
    obtain ⟨t,rfl⟩:=rx
    cases y with
    | non=>cases ry;exact PySem.EqNone.ne_str_none (fin_bl I q (by simp))
    | bl j=>cases ry;exact PySem.EqMixed.ne_str_bool (fin_bl I q (by simp))
    | int j=>obtain ⟨t',rfl⟩:=ry;exact PySem.EqMixed.ne_str_int (fin_bl I q (by simp))
    | str j=>obtain ⟨t',rfl⟩:=ry;exact ne_str (fin_bl I q (congrArg not dec_str))
    | _=>exact absurd (show false=true from hs) Bool.false_ne_true
  | byt i=>
    obtain ⟨t,rfl⟩:=rx
    cases y with
    | byt j=>obtain ⟨t',rfl⟩:=ry;exact PySem.W.ne_bytes (fin_bl I q (congrArg not dec_byt))
    | _=>exact absurd (show false=true from hs) Bool.false_ne_true
  | _=>cases y <;> exact absurd (show false=true from hs) Bool.false_ne_true
theorem op_lt:OpR X (compareOp .Lt) (rI0 fun i j=> .bl (decide (i < j))):=opB0 fun _ _ _ _ _ _ _ q=>lt_int q
theorem op_le:OpR X (compareOp .LtE) (rI0 fun i j=> .bl (decide (i≤j))):=opB0 fun _ _ _ _ _ _ _ q=>le_int q
theorem op_gt:OpR X (compareOp .Gt) (rI0 fun i j=> .bl (decide (j < i))):=opB0 fun _ _ _ _ _ _ _ q=>gt_int q
theorem op_in_str:OpR X (compareOp .In) (fun x y H Q=>∃i j,x= .str i∧y= .str j∧Q (.bl (!(Builtin.Str.occurrences j i 0 j.length 1).isEmpty)) H):=by
  intro pins s σ H x y v u Q I rx ry h
  obtain ⟨i,j,rfl,rfl,q⟩:=h
  obtain ⟨t,rfl⟩:=rx
  obtain ⟨t',rfl⟩:=ry
  exact in_str (fin_bl I q rfl)
theorem nomark(b:Expr){op:CmpOp}(h:op≠ .In:=by decide)(h2:op≠ .NotIn:=by decide):behindInMarks op b=false:=by
  have e1:(op==CmpOp.In)=false:=by cases op <;> first | rfl | exact absurd rfl h
  have e2:(op==CmpOp.NotIn)=false:=by cases op <;> first | rfl | exact absurd rfl h2
  cases b <;> simp [behindInMarks,e1,e2]
theorem pe_cmpR{op:CmpOp}{r:R2}(ho:OpR X (compareOp op) r)(ha:PE X a ta)(hb:PE X b tb)(hm:behindInMarks op b=false):PE X (.Compare a [op] [b] pos) (tOp r ta tb):=by
  intro pins s σ H Q I h
  exact wpAny_Compare1 (binT ha hb I h fun v u s2 x y H2 I2 rx ry q=>ho pins s2 σ H2 x y v u Q I2 rx ry q) hm
noncomputable def tTest(t:TE):TT:=fun σ H Q=>t σ H fun x H'=>∃k,x= .bl k∧Q k H'
theorem pt_cmpR{op:CmpOp}{r:R2}(ho:OpR X (compareOp op) r)(ha:PE X a ta)(hb:PE X b tb)(hm:behindInMarks op b=false):PT X (.Compare a [op] [b] pos) (tTest (tOp r ta tb)):=by
  intro pins s σ H Q I h
  refine wpAny_isTrue_Compare1 (thn (ha pins s σ H _ I h) fun v s1 ⟨x,H1,I1,r1,q1⟩=>thn (hb pins s1 σ H1 _ I1 q1) fun u s2 ⟨y,H2,I2,r2,q2⟩=>
    thn (ho pins s2 σ H2 x y v u _ I2 r1 r2 q2) fun c s3 ⟨z,H3,I3,r3,k,e,q3⟩=>?_) hm
  subst e
  cases r3
  exact wpAny_truthy_bool ⟨H3,I3,q3⟩
noncomputable def tChain(r r':R2)(ta tb tc:TE):TE:=fun σ H Q=>ta σ H fun x H1=>tb σ H1 fun y H2=>r x y H2 fun z H3=>∃k,z= .bl k∧
  (if k=true then tc σ H3 fun w' H4=>r' y w' H4 Q else Q (.bl false) H3)
theorem pe_chain{op op':CmpOp}{r r':R2}(ho:OpR X (compareOp op) r)(ho':OpR X (compareOp op') r')(ha:PE X a ta)(hb:PE X b tb)(hc:PE X c tc)
    (hm:lastMarks [op,op'] [b,c]=false:=by with_unfolding_all rfl):PE X (.Compare a [op,op'] [b,c] pos) (tChain r r' ta tb tc):=by
  intro pins s σ H Q I h
  refine Compare_chain (thn (ha pins s σ H _ I h) fun v s1 ⟨x,H1,I1,r1,q1⟩=>chain_link (thn (hb pins s1 σ H1 _ I1 q1) fun u s2 ⟨y,H2,I2,r2,q2⟩=>
    thn (ho pins s2 σ H2 x y v u _ I2 r1 r2 q2) fun d s3 ⟨z,H3,I3,r3,k,e,q3⟩=>?_)) hm
  subst e
  cases r3
  refine wpAny_truthy_bool ?_
  cases k with
  | false=>exact ite_ff ⟨.bl false,H3,I3,rfl,q3⟩
  | true=>exact ite_tt (chain_last (thn (hc pins s3 σ H3 _ I3 q3) fun w' s4 ⟨z',H4,I4,r4,q4⟩=>ho' pins s4 σ H4 y z' u w' Q I4 r2 r4 q4))
theorem line63:(sizeLine:Nat) < 2 ^ 63:=by rw [sizeLine_eq];decide
theorem op_add_str:OpR X (binaryOp .Add) (fun x y H Q=>∃i j,x= .str i∧y= .str j∧i.length+j.length≤sizeLine∧Q (.str (i++j)) H):=by
  intro pins s σ H x y v u Q I rx ry h
  obtain ⟨i,j,rfl,rfl,hz,q⟩:=h
  obtain ⟨t,rfl⟩:=rx
  obtain ⟨t',rfl⟩:=ry
  exact add_str (fun t' tk=>⟨.str (i++j),H,I.tok _,⟨_,rfl⟩,q⟩) hz
theorem vals1{x:V}{us:List Value}(r:Vals [x] us):∃u,us=[u]∧RelV x u:=by
  cases r with
  | cons r1 r2=>cases r2;exact ⟨_,rfl,r1⟩
theorem vals2{x y:V}{us:List Value}(r:Vals [x,y] us):∃u w',us=[u,w']∧RelV x u∧RelV y w':=by
  cases r with
  | cons r1 r2=>
    cases r2 with
    | cons r3 r4=>cases r4;exact ⟨_,_,rfl,r1,r3⟩
theorem call_int1:CallR X (.type "int") (fun xs H Q=>(∃i,xs=[.int i]∧Q (.int i) H)∨∃k,xs=[.bl k]∧Q (.int (if k then 1 else 0)) H):=by
  intro pins s σ H xs us Q I r h
  rcases h with ⟨i,rfl,q⟩ | ⟨k,rfl,q⟩
  · obtain ⟨u,rfl,t,rfl⟩:=vals1 r
    exact call_int_int ⟨.int i,H,I,⟨_,rfl⟩,q⟩
  · obtain ⟨u,rfl,r1⟩:=vals1 r
    cases r1
    exact call_int_bool ⟨.int (if k then 1 else 0),H,I.tok _,⟨_,rfl⟩,q⟩
end
end L2
namespace L2
open PySem PySem.Spec PyProof.Rows
structure ObjM(h:Heap)(x dx C:Addr)(mA:Str→Option Value):Prop where
  obj:h.get? x=some (PySem.W.instObj C dx)
  ns:h.Ns1 dx mA
  ne:dx≠x
theorem lookIn_ns{h:Heap}{dx:Addr}{mA:Str→Option Value}(n:h.Ns1 dx mA):∃od,h.get? dx=some od∧∀name,PySem.W.lookIn name od=some (mA name):=by
  obtain ⟨o,es,ep,ho,hd,hk,_,hm⟩:=n
  refine ⟨o,ho,fun name=>?_⟩
  have e:=hm name
  unfold nsFind findBy at e
  rw [← Array.find?_toList]at e
  unfold PySem.W.lookIn
  rw [hd]
  dsimp only
  split
  · rename_i y q
    rw [q]at e
    exact congrArg some e
  · rename_i q
    rw [q]at e
    have a:es.toList.any (·.refKey)=false:=by
      rw [List.any_eq_false]
      intro y hy
      obtain ⟨z,t,hkey⟩:=hk y (Array.mem_toList_iff.mp hy)
      simp [DictEntry.refKey,hkey]
    have a':¬es.toList.any (·.refKey)=true:=by rw [a];exact Bool.false_ne_true
    rw [if_neg a']
    exact congrArg some e
theorem ObjM.look{h:Heap}{x dx C:Addr}{mA:Str→Option Value}(I:ObjM h x dx C mA):∃od,PySem.W.InstAt h x (PySem.W.instObj C dx) C (some od)∧∀name,PySem.W.lookIn name od=some (mA name):=
  let ⟨od,ho,hl⟩:=lookIn_ns I.ns
  ⟨od,⟨I.obj,rfl,rfl,ho⟩,hl⟩
section
variable {prog:Program} {w:World} {A:Around} {E:Value→Shared→Prop} {s:Shared} {K:PySem.W.Frag} {x dx C f:Addr} {mA:Str→Option Value} {name:Str} {v:Value}
theorem get_map{expr:Bool}{Q:Value→Shared→Prop}(X:K.In s.heap)(I:ObjM s.heap x dx C mA)(hg:PySem.W.plainGet K C name=true)(hh:PySem.W.hasDictIn K C=true)
    (ha:PySem.W.findIn K (.ref C) name=some none) (hv:mA name=some v) (hv':PySem.W.handedIn v=true) (h:Q v {s with toks:=s.toks+1}):
    wpAny (model prog w) A (getAttr (.ref x) name expr) Q E s:=by
  obtain ⟨od,J,hl⟩:=I.look
  exact PySem.W.get_value X J (PySem.W.plainGet_of hg).1 (PySem.W.findObj_own hh ha rfl (by rw [hl,hv])) hv' h
theorem get_meth{pl:Sem Bool}{Q:Value×List Value→Shared→Prop}(X:K.In s.heap)(I:ObjM s.heap x dx C mA)(hg:PySem.W.plainGet K C name=true)
    (hf:PySem.W.findIn K (.ref C) name=some (some (.ref f))) (ht:PySem.W.isFn K (.ref f)=true) (hv:mA name=none) (h:Q (.ref f,[.ref x]) s):
    wpAny (model prog w) A (getMethod (.ref x) name pl) Q E s:=by
  obtain ⟨od,J,hl⟩:=I.look
  exact PySem.W.method_fn X J (PySem.W.plainGet_of hg).1 (PySem.W.plainGet_of hg).2 hf (beq_iff_eq.mp ht) (by show (PySem.W.lookIn name od).map (·.isSome)=some false;rw [hl,hv];rfl) h
theorem set_map{ns:List Str}{Q:Unit→Shared→Prop}(X:K.In s.heap)(I:ObjM s.heap x dx C mA)
    (hs:PySem.W.findIn K (.ref C) "__setattr__"=some (some (.builtin "object.__setattr__"))) (hp:PySem.W.plainOver K C=true) (ht:PySem.W.takerIn K C name=some none) (hh:PySem.W.hasDictIn K C=true)
    (hw:PySem.Within mA ns) (hsz:ns.length≤sizeLine)
    (h:∀h',ObjM h' x dx C (fun y=>if y=name then some v else mA y)→Heap.SameBut dx s.heap h'→Q () {s with heap:=h',toks:=s.toks+2}):
    wpAny (model prog w) A (setAttr (.ref x) name v) Q E s:=by
  obtain ⟨od,J,hl⟩:=I.look
  refine PySem.W.set_plain X J hs (PySem.W.osa_open (s:={s with toks:=s.toks+1}) (r:=none) X J hp ht fun b=>?_)
  obtain ⟨cd,hc,hd'⟩:=PySem.W.any_some hh
  have hx:s.heap.get? x=some ⟨.ref C,some dx,.plain,#[]⟩:=I.obj
  refine wpAny_bind (wpAny_pure (wpAny_bind (wpAny_bind (wpAny_loadPart hx (wpAny_bind (PySem.W.Looks.here (s:={s with toks:=s.toks+1}) (PySem.W.looks_clsIn X hc) ?_))))))
  rw [hd']
  refine wpAny_pure (a:=some dx) (wpAny_bind (wpAny_pure (wpAny_bind ?_)))
  refine wpAny_nsSet1 (s:={s with toks:=s.toks+1}) I.ns fun h' hn2 hs2=>?_
  obtain ⟨oD,esD,epD,hoD,hdD,hcD⟩:=hn2.count (PySem.Within.cons name v hw)
  refine wpAny_bind (wpAny_lookBehind hoD (by rw [hdD];exact pastItsLine_dict (Nat.le_trans hcD (by rw [List.length_cons];omega))) ?_)
  exact wpAny_pure (h _ ⟨(hs2.2 _ (Ne.symm I.ne)).trans I.obj,hn2,I.ne⟩ hs2)
theorem make_map{R:Result→Shared→Prop}{vs:List Value}{kw:List (Str×Value)}(X:K.In s.heap)(hm:PySem.W.makesIn K C=true)
    (hi:PySem.W.findIn K (.ref C) "__init__"=some (some (.ref f))) (hf:PySem.W.typeIn K (.ref f)=some (.type "function"))
    (h:codeAny (model prog w) (A.under (.builtin "type.__call__" ⟨.ref C::vs,kw⟩)) (.call (.ref f) ⟨.ref (s.heap.objs.size+1)::vs,kw⟩) (PySem.W.InitBack (s.heap.objs.size+1) R)
      {s with heap:=(s.heap.push PySem.W.emptyDict).push (PySem.W.instObj C s.heap.objs.size)}):
    codeAny (model prog w) A (.call (.ref C) ⟨vs,kw⟩) R s:=by
  obtain ⟨hh,g,d,t,os⟩:=s
  exact PySem.W.make_core (PySem.W.makes_of X hm) (PySem.W.looks_findIn X hi) (fun self=>PySem.W.bind_fn X self hf) (.inl rfl) h
end
noncomputable def putF(f:Str)(v:V):List (Str×V)→List (Str×V)
  | []=>[(f,v)]
  | (g,x)::r=>if g=f then (g,v)::r else (g,x)::putF f v r
theorem lookup_putF(f g:Str)(v:V):∀fs:List (Str×V),(putF f v fs).lookup g=if g=f then some v else fs.lookup g
  | []=>by
    show List.lookup g [(f,v)]=_
    by_cases h:g=f
    · have hb:(g==f)=true:=beq_iff_eq.mpr h
      simp only [List.lookup,hb,if_pos h]
    · have hb:(g==f)=false:=beq_eq_false_iff_ne.mpr h
      simp only [List.lookup,hb,if_neg h]
  | (k,x)::r=>by
    have ih:=lookup_putF f g v r
    rw [show putF f v ((k,x)::r)=(if k=f then (k,v)::r else (k,x)::putF f v r) from rfl]
    by_cases hk:k=f
    · rw [if_pos hk]
      by_cases h:g=k
      · have hb:(g==k)=true:=beq_iff_eq.mpr h
        simp only [List.lookup,hb,if_pos (h.trans hk)]
      · have hb:(g==k)=false:=beq_eq_false_iff_ne.mpr h
        simp only [List.lookup,hb,if_neg (fun e:g=f=>h (e.trans hk.symm))]
    · rw [if_neg hk]
      by_cases h:g=k
      · have hb:(g==k)=true:=beq_iff_eq.mpr h
        simp only [List.lookup,hb,if_neg (fun e:g=f=>hk (h.symm.trans e))]
      · have hb:(g==k)=false:=beq_eq_false_iff_ne.mpr h
        simp only [List.lookup,hb]
        exact ih
theorem keys_putF(f:Str)(v:V):∀fs:List (Str×V),f∈(putF f v fs).map (·.1)∧∀g,g∈fs.map (·.1)→g∈(putF f v fs).map (·.1)
  | []=>⟨by simp [putF],fun g h=>by simp at h⟩
  | (k,x)::r=>by
    obtain ⟨i1,i2⟩:=keys_putF f v r
    rw [show putF f v ((k,x)::r)=(if k=f then (k,v)::r else (k,x)::putF f v r) from rfl]
    by_cases hk:k=f
    · rw [if_pos hk]
      subst hk
      exact ⟨by simp,fun g h=>by simpa using h⟩
    · rw [if_neg hk]
      refine ⟨?_,fun g h=>?_⟩
      · rw [List.map_cons]
        exact List.mem_cons_of_mem _ i1
      · rw [List.map_cons]at h ⊢
        rcases List.mem_cons.mp h with e | e
        · exact List.mem_cons.mpr (.inl e)
        · exact List.mem_cons_of_mem _ (i2 g e)
theorem length_putF(f:Str)(v:V):∀fs:List (Str×V),(putF f v fs).length≤fs.length+1
  | []=>by simp [putF]
  | (k,x)::r=>by
    have ih:=length_putF f v r
    rw [show putF f v ((k,x)::r)=(if k=f then (k,v)::r else (k,x)::putF f v r) from rfl]
    by_cases hk:k=f
    · rw [if_pos hk,List.length_cons,List.length_cons];omega
    · rw [if_neg hk,List.length_cons,List.length_cons];omega
theorem RelO.some_of{v:V}{o:Option Value}(r:RelO (some v) o):∃u,o=some u∧RelV v u:=by
  cases o with
  | none=>exact (show False from r).elim
  | some u=>exact ⟨u,rfl,r⟩
theorem RelO.none_of{o:Option Value}(r:RelO none o):o=none:=by
  cases o with
  | none=>rfl
  | some u=>exact (show False from r).elim
theorem handed_of{v:V}{u:Value}(r:RelV v u):PySem.W.handedIn u=true:=by
  cases v with
  | non=>cases (show u=Value.none from r);rfl
  | bl b=>cases (show u=Value.bool b from r);rfl
  | int i=>obtain ⟨t,e⟩:=(show ∃t,u=Value.int i t from r);cases e;rfl
  | str x=>obtain ⟨t,e⟩:=(show ∃t,u=Value.str x t from r);cases e;rfl
  | byt b=>obtain ⟨t,e⟩:=(show ∃t,u=Value.bytes b t from r);cases e;rfl
  | flt b=>obtain ⟨t,e⟩:=(show ∃t,u=Value.float b t from r);cases e;rfl
  | ref a=>cases (show u=Value.ref a from r);rfl
  | ty n=>cases (show u=Value.type n from r);rfl
section
variable {P:Program} {w:World} {H H':Hp} {h h':Heap} {a C dx:Addr} {fs fs':List (Str×V)}
theorem ins_get(hok:HOk P w H h)(e:H a=some (.ins C dx fs)):∃mA,ObjM h a dx C mA∧(∀f,RelO (fs.lookup f) (mA f))∧PySem.Within mA (fs.map (·.1))∧fs.length≤1000∧H dx=some (.own a):=by
  obtain ⟨d,z,ne,ob,mA,n,r,q⟩:=(show ObjOk P w H h a (.ins C dx fs) from hok a _ e)
  exact ⟨mA,⟨ob,n,ne⟩,r,q,z,d⟩
end
structure Cls(K:PySem.W.Frag)(C:Addr):Prop where
  pg:PySem.W.plainGet K C Str.empty=true
  hd:PySem.W.hasDictIn K C=true
  po:PySem.W.plainOver K C=true
  sa:PySem.W.findIn K (.ref C) "__setattr__"=some (some (.builtin "object.__setattr__"))
theorem Cls.get{K:PySem.W.Frag}{C:Addr}(c:Cls K C)(f:Str):PySem.W.plainGet K C f=true:=c.pg
noncomputable def NoAttr(K:PySem.W.Frag)(C:Addr)(f:Str):Prop:=PySem.W.findIn K (.ref C) f=some none
theorem NoAttr.taker{K:PySem.W.Frag}{C:Addr}{f:Str}(n:NoAttr K C f):PySem.W.takerIn K C f=some none:=by
  unfold PySem.W.takerIn
  rw [show PySem.W.findIn K (.ref C) f=some none from n]
  rfl
structure Con(K:PySem.W.Frag)(C:Addr)(f:Str)(v:V)(u:Value):Prop where
  at_:PySem.W.findIn K (.ref C) f=some (some u)
  rel:RelV v u
  get:PySem.W.specialIn K u "__get__"=some none
  cp:PySem.W.copiedNames.contains f=false
structure Meth(K:PySem.W.Frag)(C:Addr)(m:Str)(f:Addr):Prop where
  at_:PySem.W.findIn K (.ref C) m=some (some (.ref f))
  fn:PySem.W.isFn K (.ref f)=true
  kp:PySem.W.keepIn K (.ref f)=true
section
variable {X:Cx} {pins:List (Addr×Obj)} {σ:St} {H:Hp} {s:Shared} {a C dx:Addr} {fs:List (Str×V)} {f:Str} {v:V} {A:Around} {E:Value→Shared→Prop}
theorem getattr_ok{b:Bool}{Q:Value→Shared→Prop}(I:Inv X pins σ H s)(e:H a=some (.ins C dx fs))(c:Cls X.K C)(n:NoAttr X.K C f)(l:fs.lookup f=some v)
    (h:∀u s',Inv X pins σ H s'→RelV v u→Q u s'):wpAny (model X.prog X.w) A (getAttr (.ref a) f b) Q E s:=by
  obtain ⟨mA,O,r,_,_,_⟩:=ins_get I.hok e
  obtain ⟨u,hu,ru⟩:=RelO.some_of (v:=v) (o:=mA f) (by rw [← l];exact r f)
  exact get_map I.kIn O (c.get f) c.hd n hu (handed_of ru) (h u _ (I.tok _) ru)
theorem getmeth_ok{m:Str}{g:Addr}{pl:Sem Bool}{Q:Value×List Value→Shared→Prop}(I:Inv X pins σ H s)(e:H a=some (.ins C dx fs))(c:Cls X.K C)(k:Meth X.K C m g)(l:fs.lookup m=none)
    (h:Q (.ref g,[.ref a]) s):wpAny (model X.prog X.w) A (getMethod (.ref a) m pl) Q E s:=by
  obtain ⟨mA,O,r,_,_,_⟩:=ins_get I.hok e
  have hn:mA m=none:=RelO.none_of (by rw [← l];exact r m)
  exact get_meth I.kIn O (c.get m) k.at_ k.fn hn h
theorem setattr_ok{y:V}{u:Value}{Q:Unit→Shared→Prop}(I:Inv X pins σ H s)(e:H a=some (.ins C dx fs))(c:Cls X.K C)(n:NoAttr X.K C f)(hl:fs.length < 1000)(ry:RelV y u)
    (h:∀s',Inv X pins σ (upd H a (.ins C dx (putF f y fs))) s'→Q () s'):wpAny (model X.prog X.w) A (setAttr (.ref a) f u) Q E s:=by
  obtain ⟨mA,O,r,wi,_,ho⟩:=ins_get I.hok e
  have hz:(fs.map (·.1)).length≤sizeLine:=by rw [List.length_map,sizeLine_eq];omega
  refine set_map I.kIn O c.sa c.po n.taker c.hd wi hz fun h' O' sb=>h _ ?_
  have hd:∃o,h'.get? dx=some o:=let ⟨o,_,_,e',_⟩:=O'.ns;⟨o,e'⟩
  refine I.write (x:=a) (e:=dx) (by rw [e];exact True.intro) (.inr ho) (fun b q hb z=>(sb.2 b hb).trans z) hd ?_
  refine ⟨by rw [upd_ne O.ne];exact ho,?_,O.ne,O'.obj,_,O'.ns,fun g=>?_,fun g hg=>?_⟩
  · have:=length_putF f y fs;omega
  · show RelO ((putF f y fs).lookup g) (if g=f then some u else mA g)
    rw [lookup_putF]
    by_cases q:g=f
    · rw [if_pos q,if_pos q];exact ry
    · rw [if_neg q,if_neg q];exact r g
  · by_cases q:g=f
    · rw [q];exact (keys_putF f y fs).1
    · refine (keys_putF f y fs).2 g (wi g fun z=>hg ?_)
      show (if g=f then some u else mA g)=none
      rw [if_neg q];exact z
theorem Inv.made(I:Inv X pins σ H s):Inv X pins σ (upd (upd H s.heap.objs.size (.own (s.heap.objs.size+1))) (s.heap.objs.size+1) (.ins C s.heap.objs.size []))
    {s with heap:=(s.heap.push PySem.W.emptyDict).push (PySem.W.instObj C s.heap.objs.size)}:=by
  have e1:(s.heap.push PySem.W.emptyDict).get? s.heap.objs.size=some PySem.W.emptyDict:=Heap.get?_push_size s.heap rfl
  have e2:((s.heap.push PySem.W.emptyDict).push (PySem.W.instObj C s.heap.objs.size)).get? (s.heap.objs.size+1)=some (PySem.W.instObj C s.heap.objs.size):=by
    have:=Heap.get?_push_size (s.heap.push PySem.W.emptyDict) (o:=PySem.W.instObj C s.heap.objs.size) rfl
    rwa [Heap.size_push]at this
  have e3:(s.heap.push PySem.W.emptyDict).Ns s.heap.objs.size (fun _=>none):=⟨PySem.W.emptyDict,#[],_,e1,rfl,(fun e he=>absurd he (by simp)),fun _=>rfl⟩
  have I1:=I.laid (a:=s.heap.objs.size) (o:= .own (s.heap.objs.size+1)) (h':=s.heap.push PySem.W.emptyDict) (t':=s.toks) (fun b u q=>Heap.get?_push_of_some _ q) (Nat.le_refl _) ⟨_,e1⟩
  refine I1.laid (a:=s.heap.objs.size+1) (o:= .ins C s.heap.objs.size []) (t':=s.toks) (fun b u q=>Heap.get?_push_of_some _ q) (Nat.le_of_eq (Heap.size_push _ _)) ?_
  have ne:s.heap.objs.size≠s.heap.objs.size+1:=Nat.ne_of_lt (Nat.lt_succ_self _)
  refine ⟨by rw [upd_ne ne,upd_same],Nat.zero_le _,ne,e2,fun _=>none,(Heap.Ns1.of_empty e3).at fun o q=>Heap.get?_push_of_some _ q,fun _=>True.intro,fun y hy=>absurd rfl hy⟩
theorem attr_of{prog:Program}{w:World}{env:Env}{e:Expr}{f:Str}{pos:Pos}{s:Shared}{Q:Value→Shared→Prop}(hb:attributeBase e f env (eval e env)=eval e env)
    (h:wpAny (model prog w) A (eval e env) (fun o s₁=>wpAny (model prog w) A (getAttr o f true) Q E s₁) E s):wpAny (model prog w) A (eval (.Attribute e f pos) env) Q E s:=
  Attribute_any_ h (by rw [arm_eval_Attribute,hb])
end
noncomputable def tFld(K:PySem.W.Frag)(ta:TE)(f:Str):TE:=fun σ H Q=>ta σ H fun x H1=>∃a C dx fs v,x= .ref a∧H1 a=some (.ins C dx fs)∧Cls K C∧NoAttr K C f∧fs.lookup f=some v∧Q v H1
noncomputable def sFld(K:PySem.W.Frag)(ta tv:TE)(f:Str):TS:=fun D σ H=>tv σ H fun y H1=>ta σ H1 fun x H2=>∃a C dx fs,x= .ref a∧H2 a=some (.ins C dx fs)∧Cls K C∧NoAttr K C f∧fs.length < 1000∧
  D.nx σ (upd H2 a (.ins C dx (putF f y fs)))
noncomputable def InOp(X:Cx)(op:Operator)(rd:V→V→Hp→VK→Prop):Prop:=
  ∀(pins:List (Addr×Obj)) (s:Shared) (σ:St) (H:Hp) (x y:V) (u v:Value) (Q:VK),Inv X pins σ H s→RelV x u→RelV y v→rd x y H Q→wpAny (model X.prog X.w) X.A (inplaceOp op u v) (EP X pins σ Q) X.xe s
noncomputable def sFldAug(K:PySem.W.Frag)(ta tv:TE)(rd:V→V→Hp→VK→Prop)(f:Str):TS:=fun D σ H=>ta σ H fun x H1=>∃a C dx fs v,x= .ref a∧H1 a=some (.ins C dx fs)∧Cls K C∧NoAttr K C f∧fs.lookup f=some v∧
  tv σ H1 fun y H2=>rd v y H2 fun z H3=>∃dx' fs',H3 a=some (.ins C dx' fs')∧fs'.length < 1000∧D.nx σ (upd H3 a (.ins C dx' (putF f z fs')))
section
variable {X:Cx} {o e value:Expr} {f:Str} {pos pos' tpos:Pos} {ta tv:TE}
theorem pe_fld(he:PE X e ta)(hb:attributeBase e f X.env (eval e X.env)=eval e X.env):PE X (.Attribute e f pos) (tFld X.K ta f):=by
  intro pins s σ H Q I h
  refine attr_of hb (thn (he pins s σ H _ I h) fun u s1 ⟨x,H1,I1,rx,a,C,dx,fs,v,ex,ea,c,n,l,q⟩=>?_)
  subst ex
  obtain rfl:u=Value.ref a:=rx
  exact getattr_ok I1 ea c n l fun u' s2 I2 ru=>⟨v,H1,I2,ru,q⟩
theorem ps_fld(ha:PE X o ta)(hv:PE X value tv)(hs:swapsWith value (some (.Attribute o f pos')) pos.line X.env=pure false):PS X (.Assign [.Attribute o f pos'] value pos) (sFld X.K ta tv f):=by
  intro pins s σ H D I h
  refine plainObj_wpAny_Assign_Attribute (thn (hv pins s σ H _ I h) fun u s1 ⟨y,H1,I1,ry,q⟩=>thn (ha pins s1 σ H1 _ I1 q) fun ov s2 ⟨x,H2,I2,rx,a,C,dx,fs,ex,ea,c,n,l,q2⟩=>?_) hs
  subst ex
  obtain rfl:ov=Value.ref a:=rx
  exact setattr_ok I2 ea c n l ry fun s3 I3=>⟨σ,_,I3,q2⟩
theorem ps_fldaug{op:Operator}{rd:V→V→Hp→VK→Prop}(ha:PE X o ta)(hv:PE X value tv)(hop:InOp X op rd):PS X (.AugAssign (.Attribute o f tpos) op value pos) (sFldAug X.K ta tv rd f):=by
  intro pins s σ H D I h
  refine wpAny_AugAssign_AttributeAny (thn (ha pins s σ H _ I h) fun ov s1 ⟨x,H1,I1,rx,a,C,dx,fs,v,ex,ea,c,n,l,q⟩=>?_)
  subst ex
  obtain rfl:ov=Value.ref a:=rx
  refine getattr_ok I1 ea c n l fun u s2 I2 ru=>thn (hv pins s2 σ H1 _ I2 q) fun w3 s3 ⟨y,H2,I3,ry,q3⟩=>thn (hop pins s3 σ H2 v y u w3 _ I3 ru ry q3) fun w4 s4 ⟨z,H3,I4,rz,dx',fs',ea',l',q4⟩=>?_
  exact setattr_ok I4 ea' c n l' rz fun s5 I5=>⟨σ,_,I5,q4⟩
noncomputable def rAdd:V→V→Hp→VK→Prop:=fun x y H Q=>∃i j,x= .int i∧y= .int j∧Q (.int (i+j)) H
theorem in_add:InOp X .Add rAdd:=by
  rintro pins s σ H x y u v Q I rx ry ⟨i,j,rfl,rfl,q⟩
  obtain ⟨t,rfl⟩:=(show ∃t,u=Value.int i t from rx)
  obtain ⟨t',rfl⟩:=(show ∃t',v=Value.int j t' from ry)
  exact PyProof.Rows.iadd_int ⟨.int (i+j),H,I.tok _,⟨_,rfl⟩,q⟩
end
section
variable {X:Cx} {pins:List (Addr×Obj)} {σ:St} {H:Hp} {s:Shared} {A:Around} {E:Value→Shared→Prop} {Q:Value→Shared→Prop} {c:Value} {b:Bool}
inductive TyOf(K:PySem.W.Frag)(H:Hp):V→Value→Prop where
  | non:TyOf K H .non (.type "NoneType")
  | bl (x:Bool):TyOf K H (.bl x) (.type "bool")
  | int (i:Int):TyOf K H (.int i) (.type "int")
  | str (x:Str):TyOf K H (.str x) (.type "str")
  | flt (x:UInt64):TyOf K H (.flt x) (.type "float")
  | lst {a:Addr} {xs:List V} (e:H a=some (.lst xs)):TyOf K H (.ref a) (.type "list")
  | frz {a:Addr} {o:Obj} {xs:List V} (e:H a=some (.frz o (.lst xs))):TyOf K H (.ref a) (.type "list")
  | tup {a:Addr} {xs:List V} (e:H a=some (.tup xs)):TyOf K H (.ref a) (.type "tuple")
  | dK {a:Addr} {kvs:List (Key×V)} (e:H a=some (.dK kvs)):TyOf K H (.ref a) (.type "dict")
  | dT {a:Addr} {kvs:List (List Key×V)} (e:H a=some (.dT kvs)):TyOf K H (.ref a) (.type "dict")
  | ins {a C dx:Addr} {fs:List (Str×V)} (e:H a=some (.ins C dx fs)) (cl:Cls K C) (ha:PySem.W.findIn K (.ref C) "__class__"=some (some (.builtin "object.__class__")))
      (hn:PySem.W.specialIn K (.builtin "object.__class__") "__get__"=some (some (.builtin "getset_descriptor.__get__"))) (htk:PySem.W.takesIn K (.builtin "object.__class__")=some true)
      (hm:PySem.W.mroIn K C (.type "object")=some true):TyOf K H (.ref a) (.ref C)
theorem isinst_ok{x:V}{u t:Value}(I:Inv X pins σ H s)(rx:RelV x u)(ty:TyOf X.K H x t)(e:PySem.W.kitOne X.K t c=some b)(h:∀tk,Q (.bool b) {s with toks:=tk}):
    wpAny (model X.prog X.w) A (call (.builtin "isinstance") [u,c]) Q E s:=by
  cases ty with
  | non=>cases (show u=Value.none from rx);exact PySem.W.kia_one PySem.W.kitx_none I.kIn True.intro e (fun z=>nomatch z) h
  | bl y=>cases (show u=Value.bool y from rx);exact PySem.W.kia_one PySem.W.kitx_bool I.kIn True.intro e (fun z=>nomatch z) h
  | int i=>obtain ⟨t,q⟩:=(show ∃t,u=Value.int i t from rx);cases q;exact PySem.W.kia_one PySem.W.kitx_int I.kIn True.intro e (fun z=>nomatch z) h
  | str y=>obtain ⟨t,q⟩:=(show ∃t,u=Value.str y t from rx);cases q;exact PySem.W.kia_one PySem.W.kitx_str I.kIn True.intro e (fun z=>nomatch z) h
  | flt y=>obtain ⟨t,q⟩:=(show ∃t,u=Value.float y t from rx);cases q;exact PySem.W.kia_one PySem.W.kitx_float I.kIn True.intro e (fun z=>nomatch z) h
  | @lst a xs ea=>
    cases (show u=Value.ref a from rx)
    obtain ⟨_,_,n,_,h1⟩:=(show ObjOk X.prog X.w H s.heap a (.lst xs) from I.hok a _ ea)
    exact PySem.W.kia_one PySem.W.kitx_list I.kIn ⟨_,h1,rfl⟩ e (fun z=>nomatch z) h
  | @frz a ob xs ea=>
    cases (show u=Value.ref a from rx)
    obtain ⟨_,_,_,n,_,h1⟩:=(show ObjOk X.prog X.w H s.heap a (.frz ob (.lst xs)) from I.hok a _ ea)
    exact PySem.W.kia_one PySem.W.kitx_list I.kIn ⟨_,h1,rfl⟩ e (fun z=>nomatch z) h
  | @tup a xs ea=>
    cases (show u=Value.ref a from rx)
    obtain ⟨_,_,_,p⟩:=(show ObjOk X.prog X.w H s.heap a (.tup xs) from I.hok a _ ea)
    obtain ⟨o,h1,h2,_⟩:=p
    exact PySem.W.kia_one PySem.W.kitx_tuple I.kIn ⟨o,h1,h2⟩ e (fun z=>nomatch z) h
  | @dK a kvs ea=>
    cases (show u=Value.ref a from rx)
    obtain ⟨_,_,vs,_,p⟩:=(show ObjOk X.prog X.w H s.heap a (.dK kvs) from I.hok a _ ea)
    obtain ⟨o,es,ep,h1,h2,_⟩:=p
    exact PySem.W.kia_one PySem.W.kitx_dict I.kIn ⟨o,h1,h2.1⟩ e (fun z=>nomatch z) h
  | @dT a kvs ea=>
    cases (show u=Value.ref a from rx)
    obtain ⟨_,_,xs,_,o,es,ep,h1,h2,_⟩:=(show ObjOk X.prog X.w H s.heap a (.dT kvs) from I.hok a _ ea)
    exact PySem.W.kia_one PySem.W.kitx_dict I.kIn ⟨o,h1,h2.1⟩ e (fun z=>nomatch z) h
  | @ins a C dx fs ea cl ha hn htk hm=>
    cases (show u=Value.ref a from rx)
    obtain ⟨mA,O,_⟩:=ins_get I.hok ea
    obtain ⟨od,J,_⟩:=O.look
    exact PySem.W.kia_one (PySem.W.kitx_own (cl.get _) cl.hd ha hn htk hm) I.kIn J e (fun z=>nomatch z) h
end
end L2
namespace L2
open PySem PySem.Spec PyProof.Rows
structure Room(k:Nat)(A:Around):Prop where
  hd:A.handled=none
  dp:A.depth+3 * k+5 < recursionLimit
  un:A.units+16 * k+200 < cLine
theorem Room.mono{j k:Nat}{A:Around}(r:Room k A)(h:j≤k):Room j A:=⟨r.hd,by have:=r.dp;omega,by have:=r.un;omega⟩
theorem Room.deeper{k:Nat}{A:Around}(r:Room (k+1) A)(env:Env):Room k (A.deeper env):=
  ⟨r.hd,by have:=r.dp;show A.depth+1+3 * k+5 < _;omega,by have:=r.un;show A.units+3+16 * k+200 < _;omega⟩
theorem make_depth{A:Around}{C:Addr}{us:List Value}{kw:List (Str×Value)}:(A.under (.builtin "type.__call__" ⟨.ref C::us,kw⟩)).depth=A.depth+1:=by
  first | rfl | simp [Around.under,Code.weight,Code.isCreation,Code.isGuard,Code.isCaller,Code.frames,Code.isFrame,guardIds]
theorem make_units{A:Around}{C:Addr}{us:List Value}{kw:List (Str×Value)}:(A.under (.builtin "type.__call__" ⟨.ref C::us,kw⟩)).units=A.units+1:=by
  first | rfl | simp [Around.under,Code.cUnits,Code.frames,Code.isFrame]
theorem Room.make{k:Nat}{A:Around}(r:Room (k+1) A)(C:Addr)(us:List Value)(kw:List (Str×Value)):Room k (A.under (.builtin "type.__call__" ⟨.ref C::us,kw⟩)):=
  ⟨r.hd,by have:=r.dp;rw [make_depth];omega,by have:=r.un;rw [make_units];omega⟩
theorem Room.depth{k:Nat}{A:Around}(r:Room k A):A.depth < recursionLimit:=by have:=r.dp;omega
theorem Room.units{k:Nat}{A:Around}(r:Room k A):A.units+64 < cLine:=by have:=r.un;omega
noncomputable def tNil:TA:=fun _ H Q=>Q [] H
noncomputable def tCons(ta:TE)(tr:TA):TA:=fun σ H Q=>ta σ H fun x H1=>tr σ H1 fun xs H2=>Q (x::xs) H2
section
variable {X:Cx} {e:Expr} {es:List Expr} {te:TE} {t:TA} {pos:Pos}
theorem pa_nil:PA X [] tNil:=fun _ _ _ _ H Q I h=>Calls.spliced_nil ⟨[],H,I,.nil,h⟩
theorem pa_cons(ha:PE X e te)(hr:PA X es t)(hs:starEach (e::es) X.env=(false,eval e X.env)::starEach es X.env:=by rfl):PA X (e::es) (tCons te t):=by
  intro pos pins s σ H Q I h
  rw [hs]
  show wpAny _ _ (spliced ((false,eval e X.env)::backTo pos (starEach es X.env))) _ _ s
  refine Calls.spliced_cons (thn (ha pins s σ H _ I h) fun u s1 ⟨x,H1,I1,r1,q1⟩=>?_)
  exact thn (hr pos pins s1 σ H1 _ I1 q1) fun us s2 ⟨xs,H2,I2,r2,q2⟩=>⟨x::xs,H2,I2,.cons r1 r2,q2⟩
noncomputable def tTup(t:TA):TE:=fun σ H Q=>t σ H fun xs H1=>xs.length≤sizeLine∧∀p,H1 p=none→Q (.ref p) (upd H1 p (.tup xs))
noncomputable def tLst(t:TA):TE:=fun σ H Q=>t σ H fun xs H1=>xs.length≤sizeLine∧∀p,H1 p=none→Q (.ref p) (upd H1 p (.lst xs))
theorem pe_tup{x1}(h:PA X es t):PE X (.Tuple es x1 pos) (tTup t):=by
  intro pins s σ H Q I hq
  refine wpAny_Tuple_spliced (thn (h pos pins s σ H _ I hq) fun us s1 ⟨xs,H1,I1,r,z,q⟩=>⟨by rw [← r.length];exact z,?_⟩)
  have hf:H1 s1.heap.objs.size=none:=I1.hok.fresh (Nat.le_refl _)
  refine ⟨.ref s1.heap.objs.size,upd H1 s1.heap.objs.size (.tup xs),I1.laid (t':=s1.toks) (fun b u e=>Heap.get?_push_of_some _ e) (Nat.le_refl _) ?_,rfl,q _ hf⟩
  exact ⟨z,us,r,⟨_,Heap.get?_push_size _ rfl,rfl,_,rfl⟩⟩
theorem pe_lst(h:PA X es t):PE X (.List es pos) (tLst t):=by
  intro pins s σ H Q I hq
  refine wpAny_List_spliced (thn (h pos pins s σ H _ I hq) fun us s1 ⟨xs,H1,I1,r,z,q⟩=>⟨by rw [← r.length];exact z,?_⟩)
  have hf:H1 s1.heap.objs.size=none:=I1.hok.fresh (Nat.le_refl _)
  refine ⟨.ref s1.heap.objs.size,upd H1 s1.heap.objs.size (.lst xs),I1.laid (t':=s1.toks) (fun b u e=>Heap.get?_push_of_some _ e) (Nat.le_refl _) ?_,rfl,q _ hf⟩
  exact ⟨z,us,0,r,Heap.get?_push_size _ rfl⟩
end
noncomputable abbrev Sp:=List V→Hp→VK→XK→Prop
noncomputable abbrev CXT:=List Env→Hp→Shared→XK→Value→Shared→Prop
structure Env0(P:Program)(w:World)(K:PySem.W.Frag)(mg:Str→Option Value)(base:Heap)(A:Around)(outer:List Env)(s:Shared)(H:Hp):Prop where
  frames:A.frames=some outer
  mod:Mod K mg base
  bs:∀b o,base.get? b=some o→s.heap.get? b=some o∧H b=none
  bsz:base.objs.size≤s.heap.objs.size
  funs:s.heap.FunFrames base outer
  frf:∀b∈frs outer,H b=none
  hok:HOk P w H s.heap
  bare:AllBare s.gens
noncomputable def CE(outer:List Env)(P:Program)(w:World)(H:Hp)(s:Shared)(Q:VK)(u:Value)(s':Shared):Prop:=
  ∃v H',s'.os=s.os∧AllBare s'.gens∧Un (frs outer) [] H H' s.heap s'.heap∧HOk P w H' s'.heap∧RelV v u∧Q v H'
noncomputable def CR(CX:CXT)(outer:List Env)(P:Program)(w:World)(H:Hp)(s:Shared)(Q:VK)(E:XK)(r:Result)(s':Shared):Prop:=
  match r with
  | .ok (.ret u)=>CE outer P w H s Q u s'
  | .ok _=>False
  | .error e=>CX outer H s E e s'
structure FnOk(P:Program)(w:World)(K:PySem.W.Frag)(mg:Str→Option Value)(base:Heap)(CX:CXT)(k:Nat)(f:Addr)(fd:FuncData)(ps:List Str)(sp:Sp):Prop where
  len:∀vs H Q E,sp vs H Q E→vs.length=ps.length
  run:∀(A:Around) (outer:List Env) (s:Shared) (H:Hp) (args:Args) (us:List Value) (vs:List V) (Q:VK) (E:XK),Room k A→Env0 P w K mg base A outer s H→BindsTo s fd args (ps.zip us)→Vals vs us→sp vs H Q E→
    codeAny (model P w) A (.call (.ref f) args) (CR CX outer P w H s Q E) s
theorem FnOk.mono{P:Program}{w:World}{K:PySem.W.Frag}{mg:Str→Option Value}{base:Heap}{CX:CXT}{j k:Nat}{f:Addr}{fd:FuncData}{ps:List Str}{sp:Sp}(F:FnOk P w K mg base CX j f fd ps sp)(h:j≤k):
    FnOk P w K mg base CX k f fd ps sp:=⟨F.len,fun A outer s H args us vs Q E hr=>F.run A outer s H args us vs Q E (hr.mono h)⟩
theorem Env0.make{P:Program}{w:World}{K:PySem.W.Frag}{mg:Str→Option Value}{base:Heap}{A:Around}{outer:List Env}{s:Shared}{H:Hp}(e:Env0 P w K mg base A outer s H)(C:Addr)(us:List Value)(kw:List (Str×Value)):
    Env0 P w K mg base (A.under (.builtin "type.__call__" ⟨.ref C::us,kw⟩)) outer s H:=⟨by first | exact e.frames | (simpa [Around.under,Code.envs,Code.isFrame,pushEnvs] using e.frames),e.mod,e.bs,e.bsz,e.funs,e.frf,e.hok,e.bare⟩
section
variable {X:Cx} {pins:List (Addr×Obj)} {σ:St} {H:Hp} {s s':Shared}
theorem Inv.env0(I:Inv X pins σ H s):Env0 X.prog X.w X.K X.mg X.base X.A X.stack s H:=
  ⟨I.ok.frames,I.ok.mod,I.bs,Nat.le_trans I.ok.bsz I.sz,I.stack,I.stkFree,I.hok,I.bare⟩
theorem Inv.after{Q:VK}{u:Value}(I:Inv X pins σ H s)(h:CE X.stack X.prog X.w H s Q u s'):EP X pins σ Q u s':=by
  obtain ⟨v,H',os,bare,un,hok,r,q⟩:=h
  obtain ⟨hh,g,d,t,os'⟩:=s'
  obtain rfl:os'=s.os:=os
  exact ⟨v,H',I.call (h':=hh) (g':=g) (d':=d) (t':=t) (ch:=[]) un hok bare (fun b z=>absurd z (by simp)),r,q⟩
end
noncomputable def tCall(sp:Sp)(dvs:List V)(E:XK)(t:TA):TE:=fun σ H Q=>t σ H fun vs H1=>sp (vs++dvs) H1 Q E
noncomputable def Binds(K:PySem.W.Frag)(fd:FuncData)(ps:List Str)(ds:List Value):Prop:=
  ∀(s:Shared) (us:List Value),K.In s.heap→(us++ds).length=ps.length→BindsTo s fd ⟨us,[]⟩ (ps.zip (us++ds))
theorem Binds.all{K:PySem.W.Frag}{fd:FuncData}{ps:List Str}(h:∀us:List Value,us.length=ps.length→bindArgs fd ⟨us,[]⟩=pure (ps.zip us)):Binds K fd ps []:=fun s us _ hl=>by
  rw [List.append_nil]at hl ⊢
  exact .of_eq (h us hl)
noncomputable def Passes(CX:CXT)(X:Cx)(E:XK):Prop:=∀(pins:List (Addr×Obj)) (σ:St) (H:Hp) (s:Shared) (e:Value) (s':Shared),Inv X pins σ H s→CX X.stack H s E e s'→X.xe e s'
section
variable {X:Cx} {CX:CXT} {k:Nat} {f C:Addr} {fd:FuncData} {ps:List Str} {sp:Sp} {dvs:List V} {ds:List Value} {E:XK} {x m:Str} {p pos apos:Pos} {e o:Expr} {es:List Expr} {ta:TE} {t:TA}
theorem run_fn{pins:List (Addr×Obj)}{σ:St}{H:Hp}{s:Shared}{Q:VK}{us:List Value}{vs:List V}(F:FnOk X.prog X.w X.K X.mg X.base CX k f fd ps sp)(hr:Room k X.A)(hb:Binds X.K fd ps ds)(hd:Vals dvs ds)(hx:Passes CX X E)
    (I:Inv X pins σ H s) (r:Vals vs us) (h:sp (vs++dvs) H Q E):wpAny (model X.prog X.w) X.A (call (.ref f) us) (EP X pins σ Q) X.xe s:=by
  have r2:Vals (vs++dvs) (us++ds):=r.append hd
  have hl:(us++ds).length=ps.length:=by rw [← r2.length];exact F.len _ _ _ _ h
  refine wpAny_call (codeAny_mono (F.run X.A X.stack s H ⟨us,[]⟩ (us++ds) (vs++dvs) Q E hr I.env0 (hb s us I.kIn hl) r2 h) fun r s' hq=>?_)
  cases r with
  | error e=>exact hx pins σ H s e s' I hq
  | ok fl=>
    cases fl with
    | ret u=>exact I.after hq
    | next=>exact False.elim hq
    | brk=>exact False.elim hq
    | cont=>exact False.elim hq
theorem pe_call(F:FnOk X.prog X.w X.K X.mg X.base CX k f fd ps sp)(hr:Room k X.A)(hg:Gl X x)(hm:X.mg x=some (.ref f))(hk:PySem.W.keepIn X.K (.ref f)=true)(hb:Binds X.K fd ps ds)(hd:Vals dvs ds)(hx:Passes CX X E)
    (ha:PA X (e::es) t) (hdb:(x==("__debug__":Str))=false:=by decide) (he:starEach (e::es) X.env=(false,eval e X.env)::starEach es X.env:=by rfl) (hpl:(backTo pos (starEach es X.env)).any (·.1)=false:=by rfl):
    PE X (.Call (.Name x p) (e::es) [] pos) (tCall sp dvs E t):=by
  intro pins s σ H Q I h
  refine wpAny_Call_Name_kw (ld_glob I hg hm ?_ hdb)
  refine PySem.W.callWith_K (h₀:=X.base) I.ok.mod.kin hk (thn (ha pos pins s σ H _ I h) fun us s1 ⟨vs,H1,I1,r,q⟩=>⟨I1.kIn,?_⟩) he hpl
  exact run_fn F hr hb hd hx I1 r q
structure Mk(K:PySem.W.Frag)(C f:Addr):Prop where
  makes:PySem.W.makesIn K C=true
  init:PySem.W.findIn K (.ref C) "__init__"=some (some (.ref f))
  fn:PySem.W.isFn K (.ref f)=true
  kp:PySem.W.keepIn K (.ref C)=true
end
section
variable {X:Cx} {CX:CXT} {k:Nat} {f C:Addr} {fd:FuncData} {ps ks:List Str} {sp:Sp} {E:XK} {x m:Str} {p pos apos kpos:Pos} {e o:Expr} {es:List Expr} {kws:List Keyword} {te ta:TE} {t tk:TA} {nm:Option Str}
structure KBinds(K:PySem.W.Frag)(fd:FuncData)(ps ks:List Str)(g:List Value→List Value→List Value)(gV:List V→List V→List V):Prop where
  to:∀(s:Shared) (us ws:List Value),K.In s.heap→(g us ws).length=ps.length→BindsTo s fd ⟨us,ks.zip ws⟩ (ps.zip (g us ws))
  rel:∀{vs:List V} {us:List Value} {zs:List V} {ws:List Value},Vals vs us→Vals zs ws→Vals (gV vs zs) (g us ws)
variable {g:List Value→List Value→List Value} {gV:List V→List V→List V}
end
structure FnScope(N P:List Str)(sc:Scope):Prop where
  kind:sc.kind= .function
  co:sc.isCoroutine=false
  gen:sc.isGenerator=false
  nd:N.Nodup
  pre:N.take P.length=P
  par:∀x∈P,sc.names.lookup x=some .local∨sc.names.lookup x=some .cell
  nofree:∀y∈sc.names,y.2≠ .free
theorem bindL_out{kindOf:Str→Option NameKind}{x:Str}:∀{binds:List (Str×Value)} {m:Str→Option Value},(∀v,(x,v)∉binds)→bindL kindOf binds m x=m x
  | [],_,_=>rfl
  | (n,v)::r,m,h=>by
    unfold bindL
    rw [bindL_out fun w hw=>h w (List.mem_cons_of_mem _ hw)]
    split
    · have:x≠n:=by rintro rfl;exact h v List.mem_cons_self
      simp [this]
    · rfl
theorem bindC_out{kindOf:Str→Option NameKind}{x:Str}:∀{binds:List (Str×Value)} {m:Str→Option Value},(∀v,(x,v)∉binds)→bindC kindOf binds m x=m x
  | [],_,_=>rfl
  | (n,v)::r,m,h=>by
    unfold bindC
    rw [bindC_out fun w hw=>h w (List.mem_cons_of_mem _ hw)]
    split
    · rfl
    · have:x≠n:=by rintro rfl;exact h v List.mem_cons_self
      simp [this]
theorem bindL_get{kindOf:Str→Option NameKind}{x:Str}{v:Value}:∀{P:List Str} {vs:List Value} {i:Nat} {m:Str→Option Value},P.Nodup→P[i]?=some x→vs[i]?=some v→kindOf x=some .local→
    bindL kindOf (P.zip vs) m x=some v
  | [],_,_,_,_,h,_,_=>by simp at h
  | _::_,[],_,_,_,_,h,_=>by simp at h
  | p::P,w::vs,0,m,nd,h1,h2,hk=>by
    simp at h1 h2;subst h1;subst h2
    show bindL kindOf ((p,w)::P.zip vs) m p=_
    unfold bindL
    rw [bindL_out fun v hv=>(List.nodup_cons.mp nd).1 (List.of_mem_zip hv).1,if_pos hk]
    simp
  | p::P,w::vs,i+1,m,nd,h1,h2,hk=>by
    show bindL kindOf ((p,w)::P.zip vs) m x=_
    unfold bindL
    exact bindL_get (i:=i) (List.nodup_cons.mp nd).2 (by simpa using h1) (by simpa using h2) hk
theorem bindC_get{kindOf:Str→Option NameKind}{x:Str}{v:Value}:∀{P:List Str} {vs:List Value} {i:Nat} {m:Str→Option Value},P.Nodup→P[i]?=some x→vs[i]?=some v→kindOf x≠some .local→
    bindC kindOf (P.zip vs) m x=some v
  | [],_,_,_,_,h,_,_=>by simp at h
  | _::_,[],_,_,_,_,h,_=>by simp at h
  | p::P,w::vs,0,m,nd,h1,h2,hk=>by
    simp at h1 h2;subst h1;subst h2
    show bindC kindOf ((p,w)::P.zip vs) m p=_
    unfold bindC
    rw [bindC_out fun v hv=>(List.nodup_cons.mp nd).1 (List.of_mem_zip hv).1,if_neg hk]
    simp
  | p::P,w::vs,i+1,m,nd,h1,h2,hk=>by
    show bindC kindOf ((p,w)::P.zip vs) m x=_
    unfold bindC
    exact bindC_get (i:=i) (List.nodup_cons.mp nd).2 (by simpa using h1) (by simpa using h2) hk
noncomputable def start(N:List Str)(vs:List V):St:=vs.map some++List.replicate (N.length - vs.length) none
noncomputable def cxOf(CX:CXT)(P:Program)(w:World)(K:PySem.W.Frag)(mg:Str→Option Value)(base:Heap)(N:List Str)(qual:Str)(scope:Scope)(f:Addr)(cd:Value)(A:Around)(outer:List Env)(s:Shared)(H:Hp)(E:XK):Cx where
  prog:=P
  w:=w
  K:=K
  mg:=mg
  base:=base
  A:=A.deeper (envOfC qual scope s.heap.objs.size f cd)
  N:=N
  s₀:=s
  H₀:=H
  env:=envOfC qual scope s.heap.objs.size f cd
  outer:=outer
  stack:=envOfC qual scope s.heap.objs.size f cd::outer
  ex:=[]
  calm:=true
  fn:=fun _=>true
  pn:=[]
  xe:=fun e s'=>wpAny (model P w) (A.deeper (envOfC qual scope s.heap.objs.size f cd)) (leaving (envOfC qual scope s.heap.objs.size f cd) e) (fun _ s''=>CX outer H s E e s'') (fun e' s''=>CX outer H s E e' s'') s'
theorem cell_has{sc:Scope}{n:Nat}{x:Str}(h:sc.names.lookup x=some .cell):∃c,(cellsFrom n sc.names []).lookup x=some c:=by
  have q:=PySem.W.cellsFrom_some sc.names n [] (.inl h)
  exact Option.isSome_iff_exists.mp q
theorem inv_start{CX:CXT}{P:Program}{w:World}{K:PySem.W.Frag}{mg:Str→Option Value}{base:Heap}{N ps:List Str}{qual:Str}{scope:Scope}{f:Addr}{cd:Value}{A:Around}{outer:List Env}{s s1:Shared}{H:Hp}{E:XK}{us:List Value}{vs:List V}
    (S:FnScope N ps scope) (hd:A.handled=none) (e0:Env0 P w K mg base A outer s H) (hl:vs.length=ps.length) (r:Vals vs us)
    (x:InCallC s s.heap.objs.size (bindL (envOfC qual scope s.heap.objs.size f cd).kindOf (ps.zip us) fun _=>none) (cellsFrom (s.heap.objs.size+1) scope.names []) (bindC (envOfC qual scope s.heap.objs.size f cd).kindOf (ps.zip us) fun _=>none) s1):
    Inv (cxOf CX P w K mg base N qual scope f cd A outer s H E) [] (start N vs) H s1:=by
  have hpl:ps.length≤N.length:=by have:=congrArg List.length S.pre;rw [List.length_take]at this;omega
  obtain ⟨h1,tk,rfl,hk⟩:=x.done
  have noA:∀b:Addr,b∉(cxOf CX P w K mg base N qual scope f cd A outer s H E).ex:=fun b z=>absurd (show b∈([]:List Addr) from z) (by simp)
  refine ⟨⟨e0.mod,S.kind,rfl,rfl,Nat.le_refl _,fun y z c h1 h2=>?_,fun y hy=>?_,fun y c _ h=>?_,fun _=>hd,Around.frames_deeper e0.frames,.inr ⟨rfl,rfl⟩,fun b z=>absurd z (noA b),e0.bs,e0.bsz,fun b _ _=>noA b,fun b z=>absurd z (noA b),e0.funs,e0.frf⟩,
    rfl,e0.bare,Un.kept hk,⟨_,x.toInCall.ns,fun i y v h1 h2 h3=>?_⟩,fun y c h=>⟨_,x.cell y c h⟩,e0.hok.fresh (Nat.le_refl _),fun y c h=>?_,fun p hp=>absurd (show p∈([]:List (Addr×Obj)) from hp) (by simp),e0.hok.kept hk,?_⟩
  · exact name_of_addr x.apart (PySem.mem_of_lookup h1) (PySem.mem_of_lookup h2)
  · have hy:scope.names.lookup y=some .cell∨scope.names.lookup y=some .free:=hy
    rcases hy with hy | hy
    · exact cell_has hy
    · exact absurd rfl (S.nofree _ (PySem.mem_of_lookup hy))
  · exact Nat.le_of_lt (x.above y c (PySem.mem_of_lookup h))
  · have hi:i < vs.length:=by
      unfold start at h2
      by_cases hi:i < vs.length
      · exact hi
      · rw [List.getElem?_append_right (by simpa using hi)]at h2
        rw [List.getElem?_replicate]at h2
        split at h2 <;> cases h2
    have ha:vs[i]?=some v:=by
      unfold start at h2
      rw [List.getElem?_append_left (by simpa using hi),List.getElem?_map]at h2
      cases e:vs[i]? with
      | none=>rw [e]at h2;cases h2
      | some a=>rw [e]at h2;cases h2;rfl
    obtain ⟨u,hu,rv⟩:=r.get ha
    have hp:ps[i]?=some y:=by
      rw [← S.pre,List.getElem?_take_of_lt (by omega)];exact h1
    have ndP:ps.Nodup:=by rw [← S.pre];exact S.nd.sublist (List.take_sublist _ _)
    refine ⟨u,rv,?_⟩
    rcases S.par y (List.mem_of_getElem? hp) with k | k
    · exact .inl ⟨k,bindL_get ndP hp hu k⟩
    · obtain ⟨c,e⟩:=cell_has (n:=s.heap.objs.size+1) k
      refine .inr ⟨.inl k,c,e,?_⟩
      have q:=x.cell y c e
      rw [bindC_get ndP hp hu (by show scope.names.lookup y≠_;rw [k];decide)]at q
      exact q
  · exact e0.hok.fresh (Nat.le_of_lt (x.above y c (PySem.mem_of_lookup h)))
  · unfold start
    show _=N.length
    rw [List.length_append,List.length_map,List.length_replicate]
    omega
theorem fn_of{CX:CXT}{P:Program}{w:World}{K:PySem.W.Frag}{mg:Str→Option Value}{base:Heap}{k:Nat}{f:Addr}{name qual:Str}{params:Arguments}{body:List Stmt}{scope:Scope}{dV kV doc pm cdv ct oc:Value}{an od:Option Addr}
    {osl:Array (Option Value)} {N ps:List Str} {sp:Sp} (lk:K.lookup f=some ⟨oc,od,.func (PySem.W.fnOf name qual params body scope dV kV doc pm an cdv ct),osl⟩) (hcd:PySem.W.codeIn K cdv qual=true) (S:FnScope N ps scope)
    (len:∀vs H Q E,sp vs H Q E→vs.length=ps.length)
    (hbody:∀(A:Around) (outer:List Env) (s:Shared) (H:Hp) (vs:List V) (Q:VK) (E:XK),Room k (A.deeper (envOfC qual scope s.heap.objs.size f cdv))→sp vs H Q E→
      ∃t,PSs (cxOf CX P w K mg base N qual scope f cdv A outer s H E) body t∧t {nx:=fun _ H'=>Q .non H',rt:=Q} (start N vs) H):
    FnOk P w K mg base CX (k+1) f (PySem.W.fnOf name qual params body scope dV kV doc pm an cdv ct) ps sp:=by
  refine ⟨len,fun A outer s H args us vs Q E hr e0 hb r hsp=>?_⟩
  have hl:=len _ _ _ _ hsp
  have KX:K.In s.heap:=e0.mod.kin.keeps fun b o e=>(e0.bs b o e).1
  have lim:s.heap.NoLimit:=e0.mod.nolimit.keeps fun b o e=>(e0.bs b o e).1
  have hkind:∀y∈ps.zip us,scope.names.lookup y.1=some .local∨(scope.names.lookup y.1=some .cell∧((cellsFrom (s.heap.objs.size+1) scope.names []).lookup y.1).isSome=true):=fun ⟨n,v⟩ hy=>by
    rcases S.par n (List.of_mem_zip hy).1 with q | q
    · exact .inl q
    · exact .inr ⟨q,PySem.W.cellsFrom_some _ _ _ (.inl q)⟩
  refine codeAny_call_function hr.depth (KX _ _ lk) rfl S.co S.gen rfl (PySem.W.codeRec_of KX hcd) (hb _ _ _ _ ?_)
  refine wpAny_newFunctionEnv_cells S.kind hkind fun env he s1 x=>?_
  subst he
  refine ⟨lim.keeps x.toInCall.keep,codeAny_func ?_⟩
  obtain ⟨t,ht,hq⟩:=hbody A outer s H vs Q E (hr.deeper _) hsp
  have I:Inv (cxOf CX P w K mg base N qual scope f cdv A outer s H E) [] (start N vs) H s1:=inv_start S hr.hd e0 hl r x
  refine wpAny_mono (ht [] s1 (start N vs) H _ I hq) (fun fl s' hs=>?_) fun e s' hs=>hs
  have fin:∀{σ':St} {H':Hp} {v:V} {u:Value},Inv (cxOf CX P w K mg base N qual scope f cdv A outer s H E) [] σ' H' s'→RelV v u→Q v H'→CE outer P w H s Q u s':=
    fun {σ' H' v u} J rv q=>⟨v,H',J.os,J.bare,J.base,J.hok,rv,q⟩
  cases fl with
  | ret u=>
    obtain ⟨v,σ',H',J,rv,q⟩:=hs
    exact fin J rv q
  | next=>
    obtain ⟨σ',H',J,q⟩:=hs
    exact fin (v:=V.non) (u:=Value.none) J rfl q
  | brk=>
    obtain ⟨_,_,_,q⟩:=hs
    exact False.elim q
  | cont=>
    obtain ⟨_,_,_,q⟩:=hs
    exact False.elim q
end L2
namespace L2
open PySem PySem.Spec PyProof.Rows
section
variable {X:Cx} {x:Str} {p pos:Pos} {e:Expr} {es:List Expr} {t:TA} {id T:String} {r:List V→Hp→VK→Prop}
noncomputable def tCB(r:List V→Hp→VK→Prop)(t:TA):TE:=fun σ H Q=>t σ H fun vs H1=>r vs H1 Q
theorem pe_callB(hc:CallR X (.builtin id) r)(hg:Gl X x)(hm:X.mg x=none)(hv:bootBuiltins x=some (.builtin id))(ha:PA X (e::es) t)(hn:x≠"__name__":=by decide)(hdb:(x==("__debug__":Str))=false:=by decide)
    (he:starEach (e::es) X.env=(false,eval e X.env)::starEach es X.env:=by rfl) (hpl:(backTo pos (starEach es X.env)).any (·.1)=false:=by rfl):PE X (.Call (.Name x p) (e::es) [] pos) (tCB r t):=by
  intro pins s σ H Q I h
  refine wpAny_Call_Name_kw (ld_blt I hg hm hv ?_ hn hdb)
  exact PyProof.Rows.callWith_builtin1 (thn (ha pos pins s σ H _ I h) fun us s1 ⟨vs,H1,I1,r1,q1⟩=>hc pins s1 σ H1 vs us Q I1 r1 q1) he hpl
theorem pe_callTy(hc:CallR X (.type T) r)(hg:Gl X x)(hm:X.mg x=none)(hv:bootBuiltins x=some (.type T))(ha:PA X (e::es) t)(hn:x≠"__name__":=by decide)(hdb:(x==("__debug__":Str))=false:=by decide)
    (he:starEach (e::es) X.env=(false,eval e X.env)::starEach es X.env:=by rfl) (hpl:(backTo pos (starEach es X.env)).any (·.1)=false:=by rfl):PE X (.Call (.Name x p) (e::es) [] pos) (tCB r t):=by
  intro pins s σ H Q I h
  refine wpAny_Call_Name_kw (ld_blt I hg hm hv ?_ hn hdb)
  exact PyProof.Rows.callWith_type1 (thn (ha pos pins s σ H _ I h) fun us s1 ⟨vs,H1,I1,r1,q1⟩=>hc pins s1 σ H1 vs us Q I1 r1 q1) he hpl
end
end L2
namespace HT
open PySem PyProof.Rows
noncomputable def lexLt:List Int→List Int→Bool
  | [],[]=>false
  | [],_::_=>true
  | _::_,[]=>false
  | x::xs,y::ys=>if x=y then lexLt xs ys else decide (x < y)
section
open PySem.SeqAt
open PySem.AutoSeq1 (wpAny_loadPart')
open PySem.MeetsSeq PySem.MeetsSeq2 PySem.MeetsSeq3
end
section
variable {prog:Program} {w:World} {A:Around} {E:Value→Shared→Prop} {s:Shared}
noncomputable def sIx(n d:Nat):Option Int→Nat
  | none=>d
  | some v=>if v < 0 then (v+(n:Int)).toNat else min v.toNat n
end
end HT
namespace L2
open PySem PySem.Spec PyProof.Rows
noncomputable abbrev TO:=St→Hp→(Option Int→Hp→Prop)→Prop
noncomputable def PO(X:Cx)(e:Option Expr)(t:TO):Prop:=
  ∀(pins:List (Addr×Obj)) (s:Shared) (σ:St) (H:Hp) (Q:Option Int→Hp→Prop),Inv X pins σ H s→t σ H Q→
    wpAny (model X.prog X.w) X.A (evalPart e X.env) (fun u s'=>∃o H',Inv X pins σ H' s'∧IsPart u o∧Q o H') X.xe s
noncomputable def tNoPart:TO:=fun _ H Q=>Q none H
noncomputable def tPart(t:TE):TO:=fun σ H Q=>t σ H fun x H1=>∃i,x= .int i∧Q (some i) H1
section
variable {X:Cx} {e:Expr} {te:TE} {lo hi:Option Expr} {tl th:TO} {pos p2:Pos}
theorem po_some(h:PE X e te):PO X (some e) (tPart te):=by
  intro pins s σ H Q I hw
  rw [evalPart_some]
  refine thn (h pins s σ H _ I hw) fun u s1 ⟨x,H1,I1,r1,q1⟩=>?_
  obtain ⟨i,rfl,q⟩:=q1
  obtain ⟨t,rfl⟩:=r1
  exact ⟨some i,H1,I1,.int i t,q⟩
noncomputable def SlR(X:Cx)(r:V→Option Int→Option Int→Hp→VK→Prop):Prop:=
  ∀(pins:List (Addr×Obj)) (s:Shared) (σ:St) (H:Hp) (x:V) (v vl vu:Value) (lo hi:Option Int) (sl:Addr) (Q:VK),Inv X pins σ H s→RelV x v→s.heap.IsSliceOf sl vl vu .none→IsPart vl lo→IsPart vu hi→r x lo hi H Q→
    ∃T id,typeLookup (.type T) "__getitem__"=pure (some (.builtin id))∧s.TypeIs v T∧wpAny (model X.prog X.w) X.A (getItem v (.ref sl)) (EP X pins σ Q) X.xe s
noncomputable def tSl(r:V→Option Int→Option Int→Hp→VK→Prop)(te:TE)(tl th:TO):TE:=fun σ H Q=>te σ H fun x H1=>tl σ H1 fun l H2=>th σ H2 fun u H3=>r x l u H3 Q
theorem pe_slice{r:V→Option Int→Option Int→Hp→VK→Prop}(hr:SlR X r)(he:PE X e te)(hl:PO X lo tl)(hu:PO X hi th):PE X (.Subscript e (.Slice lo hi none p2) pos) (tSl r te tl th):=by
  intro pins s σ H Q I h
  refine Subscript_ (thn (he pins s σ H _ I h) fun v s1 ⟨x,H1,I1,r1,q1⟩=>?_)
  refine wpAny_Slice (thn (hl pins s1 σ H1 _ I1 q1) fun vl s2 ⟨l,H2,I2,pl,q2⟩=>thn (hu pins s2 σ H2 _ I2 q2) fun vu s3 ⟨u,H3,I3,pu,q3⟩=>?_)
  rw [evalPart_none]
  refine wpAny_pure ?_
  have I4:Inv X pins σ H3 {s3 with heap:=s3.heap.push {cls:= .type "slice",data:= .fields #[vl,vu,.none]}}:=I3.kept (t':=s3.toks) fun b ob q=>Heap.get?_push_of_some _ q
  obtain ⟨T,id,hT,ht,hg⟩:=hr pins {s3 with heap:=s3.heap.push {cls:= .type "slice",data:= .fields #[vl,vu,.none]}} σ H3 x v vl vu l u s3.heap.objs.size Q I4 r1 (Heap.IsSliceOf.new ..) pl pu q3
  show wpAny (model X.prog X.w) X.A (subscriptTail e (.Slice lo hi none p2) v (.ref s3.heap.objs.size)) (EP X pins σ Q) X.xe {s3 with heap:=s3.heap.push {cls:= .type "slice",data:= .fields #[vl,vu,.none]}}
  exact tail_any (ops:=[.ref s3.heap.objs.size,v]) ht hT hg (by with_unfolding_all rfl)
noncomputable def cutV(xs:List V)(lo hi:Option Int):List V:=(xs.drop (HT.sIx xs.length 0 lo)).take (HT.sIx xs.length xs.length hi - HT.sIx xs.length 0 lo)
theorem cutV_length(xs:List V)(lo hi:Option Int):(cutV xs lo hi).length≤xs.length:=by
  unfold cutV
  rw [List.length_take,List.length_drop]
  omega
end
end L2
namespace L2
open PySem PySem.Spec PyProof.Rows
noncomputable def ixN(n:Nat)(i:Int):Option Nat:=if 0≤i then (if i < n then some i.toNat else none) else if -(n:Int)≤i then some (i+n).toNat else none
noncomputable def atI{α:Type}(xs:List α)(i:Int):Option α:=(ixN xs.length i).bind fun j=>xs[j]?
theorem ixN_seq{n:Nat}{i:Int}{j:Nat}(h:ixN n i=some j):seqIndex? i n=some j∧j < n∧-(n:Int)≤i∧i < n:=by
  unfold ixN at h
  by_cases h0:0≤i
  · rw [if_pos h0]at h
    by_cases h1:i < n
    · rw [if_pos h1]at h
      have e:i.toNat=j:=Option.some.inj h
      exact ⟨by rw [seqIndex_of h0 h1,e],by omega,by omega,h1⟩
    · rw [if_neg h1]at h;cases h
  · rw [if_neg h0]at h
    by_cases h1:-(n:Int)≤i
    · rw [if_pos h1]at h
      have e:(i+n).toNat=j:=Option.some.inj h
      exact ⟨by rw [seqIndex_neg (by omega) h1,e],by omega,h1,by omega⟩
    · rw [if_neg h1]at h;cases h
theorem atI_get{α:Type}{xs:List α}{i:Int}{v:α}(h:atI xs i=some v):∃j,seqIndex? i xs.length=some j∧xs[j]?=some v∧j < xs.length∧-(xs.length:Int)≤i∧i < xs.length:=by
  unfold atI at h
  cases e:ixN xs.length i with
  | none=>rw [e]at h;cases h
  | some j=>
    rw [e]at h
    obtain ⟨h1,h2,h3,h4⟩:=ixN_seq e
    exact ⟨j,h1,h,h2,h3,h4⟩
theorem atI_nat{α:Type}{xs:List α}{j:Nat}{v:α}(h:xs[j]?=some v):atI xs (j:Int)=some v:=by
  have hj:j < xs.length:=(List.getElem?_eq_some_iff.mp h).1
  have e:ixN xs.length (j:Int)=some j:=by
    unfold ixN
    rw [if_pos (by omega),if_pos (by omega)];simp
  unfold atI;rw [e];exact h
noncomputable def PlainIx(b:Expr):Prop:=∀o i,subscripted b false o i=operate [o,i] (getItem o i)
noncomputable def IxR(X:Cx)(r:R2):Prop:=
  ∀(value slice:Expr) (pins:List (Addr×Obj)) (s:Shared) (σ:St) (H:Hp) (x y:V) (v u:Value) (Q:VK),Inv X pins σ H s→RelV x v→RelV y u→r x y H Q→
    subscripted slice false v u=operate [v,u] (getItem v u)→wpAny (model X.prog X.w) X.A (subscriptTail value slice v u) (EP X pins σ Q) X.xe s
noncomputable def MtR(X:Cx)(id:String)(r:V→List V→Hp→VK→Prop):Prop:=
  ∀(pins:List (Addr×Obj)) (s:Shared) (σ:St) (H:Hp) (x:V) (xs:List V) (v:Value) (us:List Value) (Q:VK),Inv X pins σ H s→RelV x v→Vals xs us→r x xs H Q→
    wpAny (model X.prog X.w) X.A (call (.builtin id) (v::us)) (EP X pins σ Q) X.xe s
section
variable {X:Cx} {a b:Expr} {ta tb:TE} {pos:Pos}
theorem pe_ix{r:R2}(hr:IxR X r)(ha:PE X a ta)(hb:PE X b tb)(hs:PlainIx b):PE X (.Subscript a b pos) (tOp r ta tb):=by
  intro pins s σ H Q I h
  exact Subscript_ (binT ha hb I h fun v u s2 x y H2 I2 rx ry q=>hr a b pins s2 σ H2 x y v u Q I2 rx ry q (hs _ _))
noncomputable def rIxL(K:PySem.W.Frag):R2:=fun x y H Q=>∃p xs i v,x= .ref p∧y= .int i∧SqL K H p xs∧atI xs i=some v∧Q v H
noncomputable def rIxT(K:PySem.W.Frag):R2:=fun x y H Q=>∃p xs i v,x= .ref p∧y= .int i∧SqT K H p xs∧atI xs i=some v∧Q v H
noncomputable def rIxS:R2:=fun x y H Q=>∃z i c,x= .str z∧y= .int i∧z.length≤sizeLine∧atI z.cps.toList i=some c∧Q (.str ⟨#[c]⟩) H
theorem ix_list:IxR X (rIxL X.K):=by
  intro value slice pins s σ H x y v u Q I rx ry h hs
  obtain ⟨p,xs,i,z,rfl,rfl,hq,he,q⟩:=h
  cases rx
  obtain ⟨t,rfl⟩:=ry
  obtain ⟨its,r,pl,hz⟩:=I.list hq
  obtain ⟨j,h1,h2,h3,h4,h5⟩:=atI_get he
  obtain ⟨w,ew,rw'⟩:=r.get h2
  have hl:=r.length
  have hn:=line63
  have fin:EP X pins σ Q w s:=⟨z,H,I,rw',q⟩
  by_cases h0:0≤i
  · have hj:i.toNat=j:=by
      rw [seqIndex_of h0 h5]at h1
      exact Option.some.inj h1
    exact item_listR pl.isList h0 (by omega) (by rw [hj];simpa using ew) fin hs
  · have hj:(i+(its.toArray.size:Int)).toNat=j:=by
      rw [seqIndex_neg (by omega) h4]at h1
      rw [List.size_toArray,← hl]
      exact Option.some.inj h1
    exact subscriptTail_builtinR (x:=w) pl.isList.typeIs slot_list_getitem.lookup
      (wpAny_getItem_list_neg (Q:=fun r s'=>r=w∧EP X pins σ Q r s') pl.isList (by omega) (by rw [List.size_toArray] <;> omega) (by omega) (by rw [hj];simpa using ew) ⟨rfl,fin⟩) hs
theorem ix_tup:IxR X (rIxT X.K):=by
  intro value slice pins s σ H x y v u Q I rx ry h hs
  obtain ⟨p,xs,i,z,rfl,rfl,hq,he,q⟩:=h
  cases rx
  obtain ⟨t,rfl⟩:=ry
  obtain ⟨its,r,pl,hz⟩:=I.tuple hq
  obtain ⟨j,h1,h2,h3,h4,h5⟩:=atI_get he
  obtain ⟨w,ew,rw'⟩:=r.get h2
  have hl:=r.length
  have hn:=line63
  have fin:EP X pins σ Q w s:=⟨z,H,I,rw',q⟩
  exact subscriptTail_builtinR (x:=w) pl.typeIs slot_tuple_getitem.lookup
    (getItem_tuple (j:=j) (Q:=fun r s'=>r=w∧EP X pins σ Q r s') pl (by omega) (by omega) (by rw [List.size_toArray,← hl];exact h1) (by simpa using ew) ⟨rfl,fin⟩) hs
theorem ix_str:IxR X rIxS:=by
  intro value slice pins s σ H x y v u Q I rx ry h hs
  obtain ⟨z,i,c,rfl,rfl,hz,he,q⟩:=h
  obtain ⟨t,rfl⟩:=rx
  obtain ⟨t',rfl⟩:=ry
  obtain ⟨j,h1,h2,h3,h4,h5⟩:=atI_get he
  have hl:z.cps.toList.length=z.length:=by simp [Str.length]
  rw [hl]at h1 h4 h5
  have hn:=line63
  exact tail_any (typeIs_str s z t) slot_str_getitem.lookup (getItem_str (c:=c) (by
    have e1:decide (i < -(2 ^ 63:Int))=false:=decide_eq_false (by omega)
    have e2:decide (i ≥ 2 ^ 63)=false:=decide_eq_false (by omega)
    rw [e1,e2,Bool.or_false]) (by rw [h1];simpa using h2) ⟨.str ⟨#[c]⟩,H,I.tok _,⟨_,rfl⟩,q⟩) hs
noncomputable def rSetL:V→V→V→Hp→(Hp→Prop)→Prop:=fun o i v H Q=>∃p xs k j,o= .ref p∧i= .int k∧H p=some (.lst xs)∧ixN xs.length k=some j∧Q (upd H p (.lst (xs.set j v)))
theorem slice_bounds(lo hi:Option Int)(n:Nat):(sliceBounds lo hi none n).1=((HT.sIx n 0 lo:Nat):Int)∧(sliceBounds lo hi none n).2.1=((HT.sIx n n hi:Nat):Int)∧(sliceBounds lo hi none n).2.2=1:=by
  refine ⟨?_,?_,rfl⟩
  · cases lo with
    | none=>simp [sliceBounds,HT.sIx]
    | some i=>
      simp only [sliceBounds,HT.sIx,Option.getD_none,show (1:Int) > 0 by decide,if_true]
      by_cases h:i < 0
      · simp only [h,if_true] <;> omega
      · simp only [h,if_false] <;> omega
  · cases hi with
    | none=>simp [sliceBounds,HT.sIx]
    | some i=>
      simp only [sliceBounds,HT.sIx,Option.getD_none,show (1:Int) > 0 by decide,if_true]
      by_cases h:i < 0
      · simp only [h,if_true] <;> omega
      · simp only [h,if_false] <;> omega
theorem slicePick_cut(its:List Value)(lo hi:Option Int):slicePick its.toArray lo hi none=((its.drop (HT.sIx its.length 0 lo)).take (HT.sIx its.length its.length hi - HT.sIx its.length 0 lo)).toArray:=by
  obtain ⟨h1,h2,h3⟩:=slice_bounds lo hi its.toArray.size
  unfold slicePick
  rw [h1,h2,h3]
  simp only [sliceRange_one,pick_run,List.size_toArray] <;> rfl
noncomputable def rSlL(K:PySem.W.Frag):V→Option Int→Option Int→Hp→VK→Prop:=fun x lo hi H Q=>∃a xs,x= .ref a∧SqL K H a xs∧∀p,H p=none→Q (.ref p) (upd H p (.lst (cutV xs lo hi)))
theorem sl_list:SlR X (rSlL X.K):=by
  intro pins s σ H x v vl vu lo hi sl Q I rx hs pl pu h
  obtain ⟨a,xs,rfl,hx,q⟩:=h
  cases rx
  obtain ⟨its,r,ht,hz⟩:=I.list hx
  have hlen:=r.length
  refine ⟨"list",_,slot_list_getitem.lookup,ht.isList.typeIs,?_⟩
  refine wpAny_getItem_list_slice ht.isList hs pl pu .none (by simp) ?_ (by rw [List.size_toArray] <;> omega)
  rw [slicePick_cut,← hlen]
  refine ⟨.ref s.heap.objs.size,_,I.laid (t':=s.toks) (o:= .lst (cutV xs lo hi)) (fun b ob q=>Heap.get?_push_of_some _ q) (Nat.le_refl _) ?_,rfl,q _ (I.hok.fresh (Nat.le_refl _))⟩
  exact ⟨Nat.le_trans (cutV_length xs lo hi) hz,_,0,(r.drop (HT.sIx xs.length 0 lo)).take (HT.sIx xs.length xs.length hi - HT.sIx xs.length 0 lo),Heap.get?_push_size _ rfl⟩
noncomputable def flatV:V→Bool
  | .non=>true
  | .bl _=>true
  | .int _=>true
  | .str _=>true
  | _=>false
noncomputable def eqV:V→V→Bool
  | .non,.non=>true
  | .bl a,.bl b=>a==b
  | .bl a,.int b=>(if a then 1 else 0)==b
  | .int a,.bl b=>a==(if b then 1 else 0)
  | .int a,.int b=>a==b
  | .str a,.str b=>a==b
  | _,_=>false
theorem eqAt_V{A:Around}{s:Shared}{y x:V}{u v:Value}(ry:RelV y u)(rx:RelV x v)(fy:flatV y=true)(fx:flatV x=true):SeqAt.EqAt A s u v (eqV y x):=by
  cases y with
  | non=>
    cases ry
    cases x with
    | non=>cases rx;exact SeqAt.EqAt.same _
    | bl b=>cases rx;exact SeqAt.EqAt.none_bool b
    | int b=>obtain ⟨t,rfl⟩:=rx;exact SeqAt.EqAt.none_int b t
    | str b=>obtain ⟨t,rfl⟩:=rx;exact SeqAt.EqAt.none_str b t
    | _=>exact absurd (show false=true from fx) Bool.false_ne_true
  | bl a=>
    cases ry
    cases x with
    | non=>cases rx;exact SeqAt.EqAt.bool_none a
    | bl b=>cases rx;exact SeqAt.EqAt.bool_bool a b
    | int b=>obtain ⟨t,rfl⟩:=rx;exact SeqAt.EqAt.bool_int a b t
    | str b=>obtain ⟨t,rfl⟩:=rx;exact SeqAt.EqAt.bool_str a b t
    | _=>exact absurd (show false=true from fx) Bool.false_ne_true
  | int a=>
    obtain ⟨t',rfl⟩:=ry
    cases x with
    | non=>cases rx;exact SeqAt.EqAt.int_none a t'
    | bl b=>cases rx;exact SeqAt.EqAt.int_bool a t' b
    | int b=>obtain ⟨t,rfl⟩:=rx;exact SeqAt.EqAt.int_int a t' b t
    | str b=>obtain ⟨t,rfl⟩:=rx;exact SeqAt.EqAt.int_str a t' b t
    | _=>exact absurd (show false=true from fx) Bool.false_ne_true
  | str a=>
    obtain ⟨t',rfl⟩:=ry
    cases x with
    | non=>cases rx;exact SeqAt.EqAt.str_none a t'
    | bl b=>cases rx;exact SeqAt.EqAt.str_bool a t' b
    | int b=>obtain ⟨t,rfl⟩:=rx;exact SeqAt.EqAt.str_int a t' b t
    | str b=>obtain ⟨t,rfl⟩:=rx;exact SeqAt.EqAt.str_str a t' b t
    | _=>exact absurd (show false=true from fx) Bool.false_ne_true
  | _=>exact absurd (show false=true from fy) Bool.false_ne_true
theorem call_len_seq:CallR X (.builtin "len") (fun xs H Q=>∃p ys,xs=[.ref p]∧(SqL X.K H p ys∨SqT X.K H p ys)∧Q (.int ys.length) H):=by
  intro pins s σ H xs us Q I r h
  obtain ⟨p,ys,rfl,hq,q⟩:=h
  obtain ⟨u,rfl,rx⟩:=vals1 r
  cases rx
  have hn:=line63
  rcases hq with hq | hq
  · obtain ⟨its,r',pl,hz⟩:=I.list hq
    have hlen:=r'.length
    exact Calls.call_len_list pl.isList (by simp only [List.size_toArray] <;> omega) ⟨.int ys.length,H,I.tok _,⟨s.toks+1,by rw [List.size_toArray,hlen]⟩,q⟩
  · obtain ⟨its,r',pl,hz⟩:=I.tuple hq
    have hlen:=r'.length
    exact len_tuple pl (by simp only [List.size_toArray] <;> omega) ⟨.int ys.length,H,I.tok _,⟨s.toks+1,by rw [List.size_toArray,hlen]⟩,q⟩
theorem call_len_str:CallR X (.builtin "len") (fun xs H Q=>∃z,xs=[.str z]∧z.length≤sizeLine∧Q (.int z.length) H):=by
  intro pins s σ H xs us Q I r h
  obtain ⟨z,rfl,hz,q⟩:=h
  obtain ⟨u,rfl,t,rfl⟩:=vals1 r
  have hn:=line63
  exact len_str (by omega) ⟨.int z.length,H,I.tok _,⟨_,rfl⟩,q⟩
theorem call_list_of:CallR X (.type "list") (fun xs H Q=>∃p ys,xs=[.ref p]∧(SqL X.K H p ys∨SqT X.K H p ys)∧∀l,H l=none→Q (.ref l) (upd H l (.lst ys))):=by
  intro pins s σ H xs us Q I r h
  obtain ⟨p,ys,rfl,hq,q⟩:=h
  obtain ⟨u,rfl,rx⟩:=vals1 r
  cases rx
  have fin:∀(its:List Value),Vals ys its→ys.length≤sizeLine→∀(h':Heap) (c':Nat),(∀b o',s.heap.get? b=some o'→h'.get? b=some o')→
      h'.get? s.heap.objs.size=some {cls:= .type "list",dict:=none,data:= .seq its.toArray c',slots:=#[]}→EP X pins σ Q (.ref s.heap.objs.size) {s with heap:=h'}:=fun its r' hz h' c' kp e=>
    ⟨.ref s.heap.objs.size,_,I.laid (t':=s.toks) kp (Nat.le_refl _) (show ObjOk X.prog X.w _ h' _ (.lst ys) from ⟨hz,its,c',r',e⟩),rfl,q _ (I.hok.fresh (Nat.le_refl _))⟩
  rcases hq with hq | hq
  · obtain ⟨its,r',pl,hz⟩:=I.list hq
    have hlen:=r'.length
    obtain ⟨o,ho,hc,n,hd⟩:=pl.isList
    exact call_list_seq p (.inl rfl) ho hc hd (fun h' c' kp e=>fin its r' hz h' c' kp e) (by simp only [List.size_toArray] <;> omega)
  · obtain ⟨its,r',pl,hz⟩:=I.tuple hq
    have hlen:=r'.length
    obtain ⟨o,ho,hc,n,hd⟩:=pl
    exact call_list_seq p (.inr rfl) ho hc hd (fun h' c' kp e=>fin its r' hz h' c' kp e) (by simp only [List.size_toArray] <;> omega)
noncomputable def tyV(K:PySem.W.Frag)(T:String)(x:V)(H:Hp):Prop:=match x with
  | .str _=>T="str"
  | .int _=>T="int"
  | .ref p=>(T="list"∧∃xs,SqL K H p xs)∨(T="tuple"∧∃o,K.lookup p=some o∧o.cls= .type "tuple"∧o.dict=none)∨
      (T="dict"∧((∃kvs,H p=some (.dK kvs))∨∃kvs,H p=some (.dT kvs)))∨(T="set"∧∃S n,H p=some (.set S n))
  | _=>False
theorem tyV_is{pins:List (Addr×Obj)}{σ:St}{H:Hp}{s:Shared}{T:String}{x:V}{v:Value}(I:Inv X pins σ H s)(r:RelV x v)(ty:tyV X.K T x H):
    s.TypeIs v T∧∀a,v= .ref a→∃ob,s.heap.get? a=some ob∧ob.dict=none:=by
  cases x with
  | str z=>
    obtain ⟨t,rfl⟩:=r
    cases (show T="str" from ty)
    exact ⟨typeIs_str s z t,fun _ e=>nomatch e⟩
  | int i=>
    obtain ⟨t,rfl⟩:=r
    cases (show T="int" from ty)
    exact ⟨typeIs_int s i t,fun _ e=>nomatch e⟩
  | ref p=>
    cases r
    rcases ty with ⟨rfl,xs,hq⟩ | ⟨rfl,o,hk,hc,hd⟩ | ⟨rfl,hk⟩ | ⟨rfl,S,n,hk⟩
    · obtain ⟨its,_,pl,_⟩:=I.list hq
      refine ⟨pl.isList.typeIs,fun a e=>?_⟩
      cases e
      obtain ⟨o,n,e,c,hd,_⟩:=pl
      exact ⟨o,e,hd⟩
    · refine ⟨⟨o,I.kIn p o hk,hc⟩,fun a e=>?_⟩
      cases e
      exact ⟨o,I.kIn _ o hk,hd⟩
    · have z:∃o,s.heap.get? p=some o∧o.ExactDict:=by
        rcases hk with ⟨kvs,hk⟩ | ⟨kvs,hk⟩
        · obtain ⟨_,_,_,_,o,_,_,e,ex,_⟩:=I.hok p _ hk
          exact ⟨o,e,ex⟩
        · obtain ⟨_,_,_,_,o,_,_,e,ex,_⟩:=I.hok p _ hk
          exact ⟨o,e,ex⟩
      obtain ⟨o,e,ex⟩:=z
      refine ⟨⟨o,e,ex.1⟩,fun a e2=>?_⟩
      cases e2
      exact ⟨o,e,ex.2.1⟩
    · obtain ⟨o,_,_,_,e,ex,_⟩:=I.hok p _ hk
      refine ⟨⟨o,e,ex.1⟩,fun a e2=>?_⟩
      cases e2
      exact ⟨o,e,ex.2.1⟩
  | _=>exact False.elim ty
noncomputable def tBM0(K:PySem.W.Frag)(T:String)(r:V→List V→Hp→VK→Prop)(to:TE):TE:=fun σ H Q=>to σ H fun x H1=>tyV K T x H1∧r x [] H1 Q
noncomputable def tBM(K:PySem.W.Frag)(T:String)(r:V→List V→Hp→VK→Prop)(to:TE)(t:TA):TE:=fun σ H Q=>to σ H fun x H1=>tyV K T x H1∧t σ H1 fun xs H2=>r x xs H2 Q
variable {o e:Expr} {es:List Expr} {to:TE} {t:TA} {name:Str} {apos cpos:Pos} {T id:String} {r:V→List V→Hp→VK→Prop}
theorem pe_bm(pa:PlainAttrs T)(slot:Slot T name id)(hty:typeOf (.builtin id)=pure (.type "method_descriptor"))(hm:MtR X id r)(ho:PE X o to)(ha:PA X (e::es) t)
    (hbase:attributeBase o name X.env (eval o X.env)=eval o X.env:=by rfl)
    (hfew:((backTo cpos (starEach (e::es) X.env)).all (fun x=>!x.1) && (backToKw cpos (keywordEach [] X.env)).all (fun x=>x.1.isSome)
      && decide ((e::es).length+([]:List Keyword).length+(if ([]:List Keyword).isEmpty then 0 else 1) < 30))=true:=by rfl)
    (hline:(apos.endLine==cpos.line)=true:=by rfl) (hs:starEach (e::es) X.env=(false,eval e X.env)::starEach es X.env:=by rfl) (hplain:(backTo cpos (starEach es X.env)).any (·.1)=false:=by rfl):
    PE X (.Call (.Attribute o name apos) (e::es) [] cpos) (tBM X.K T r to t):=by
  intro pins s σ H Q I h
  refine wpAny_Call_method_late hbase hfew hline rfl (thn (ho pins s σ H _ I h) fun v s1 ⟨x,H1,I1,r1,ty,q1⟩=>?_)
  obtain ⟨h1,h2⟩:=tyV_is I1 r1 ty
  refine ⟨T,id,pa,slot,hty,h1,h2,?_⟩
  have hA:=ha cpos pins s1 σ H1 _ I1 q1
  rw [hs]at hA ⊢
  refine Calls.callWith_builtin (by show (false || (backTo cpos (starEach es X.env)).any (·.1))=false;rw [hplain] <;> rfl) (Calls.evalArgs_plain ?_)
  exact thn hA fun us s2 ⟨vs,H2,I2,r2,q2⟩=>hm pins s2 σ H2 x vs v us Q I2 r1 r2 q2
end
end L2
namespace L2
open PySem PySem.Spec PyProof.Rows
noncomputable def MtM(X:Cx)(id:String)(r:V→List V→Hp→VK→Prop):Prop:=
  ∀(pins:List (Addr×Obj)) (s:Shared) (σ:St) (H:Hp) (x:V) (xs:List V) (v:Value) (us:List Value) (Q:VK),Inv X pins σ H s→RelV x v→Vals xs us→r x xs H Q→
    wpAny (model X.prog X.w) X.A (call (.builtin id) (v::us)) (EP X pins σ Q) X.xe s
theorem Vals.one:∀{x:V} {us:List Value},Vals [x] us→∃u,us=[u]∧RelV x u
  | _,_,.cons r .nil=>⟨_,rfl,r⟩
section
variable {X:Cx} {pins:List (Addr×Obj)} {σ:St} {H:Hp} {s:Shared} {l b:Addr} {xs ys zs:List V}
theorem Inv.lset{its its':List Value}{n:Nat}{f:Array Value→Array Value}{t':Nat}(I:Inv X pins σ H s)(hH:H l=some (.lst xs))
    (e:s.heap.get? l=some {cls:= .type "list",data:= .seq its.toArray n}) (hf:f its.toArray=its'.toArray) (hv:Vals ys its') (hz:ys.length≤sizeLine):
    Inv X pins σ (upd H l (.lst ys)) {s with heap:=s.heap.update l (Obj.mapSeq f),toks:=t'}:=by
  have q:=PySem.IsL.update e f
  rw [hf]at q
  refine I.write (x:=l) (e:=l) (by rw [hH];exact trivial) (.inl rfl) (fun b' u hb hu=>(Heap.get?_update_other s.heap (Obj.mapSeq f) (Ne.symm hb)).trans hu) ⟨_,q⟩ ?_
  exact ⟨hz,its',_,hv,q⟩
theorem Inv.lnew{its:List Value}{t':Nat}(I:Inv X pins σ H s)(hv:Vals ys its)(hz:ys.length≤sizeLine):
    Inv X pins σ (upd H s.heap.objs.size (.lst ys)) {s with heap:=s.heap.push {cls:= .type "list",data:= .seq its.toArray},toks:=t'}:=
  I.laid (fun _ _ q=>Heap.get?_push_of_some _ q) (Nat.le_refl _) ⟨hz,its,0,hv,Heap.get?_push_size _ rfl⟩
theorem Inv.fresh(I:Inv X pins σ H s):H s.heap.objs.size=none:=I.hok.fresh (Nat.le_refl _)
theorem Inv.lstM(I:Inv X pins σ H s)(hH:H l=some (.lst xs)):xs.length≤sizeLine∧∃(its:List Value) (n:Nat),Vals xs its∧xs.length=its.length∧s.heap.get? l=some {cls:= .type "list",data:= .seq its.toArray n}:=by
  obtain ⟨z,its,n,r,e⟩:=I.hok l _ hH
  exact ⟨z,its,n,r,r.length,e⟩
end
section
variable {X:Cx}
noncomputable def rAppend:V→List V→Hp→VK→Prop:=fun x vs H Q=>∃l xs y,x= .ref l∧vs=[y]∧H l=some (.lst xs)∧xs.length < sizeLine∧Q .non (upd H l (.lst (xs++[y])))
theorem mt_append:MtM X "list.append" rAppend:=by
  intro pins s σ H x vs v us Q I rx rv h
  obtain ⟨l,xs,y,rfl,rfl,hH,hz,q⟩:=h
  cases rx
  obtain ⟨u,rfl,ru⟩:=rv.one
  obtain ⟨z,its,n,r,hl,e⟩:=I.lstM hH
  refine call_meets F.slot_list_append ⟨_,e,rfl⟩ F.entry_list_append (F.args_list_append_2 _ _) (PySem.list_append l its.toArray n u (by rw [List.size_toArray];omega)) ⟨e,?_⟩
  refine ⟨.non,_,I.lset (its':=its++[u]) hH e (by simp) (r.append (.cons ru .nil)) ?_,rfl,q⟩
  rw [List.length_append,List.length_singleton]
  omega
noncomputable def rPopAt:V→List V→Hp→VK→Prop:=fun x vs H Q=>∃l xs i k y,x= .ref l∧vs=[.int i]∧H l=some (.lst xs)∧-(2 ^ 63)≤i∧i < 2 ^ 63∧seqIndex? i xs.length=some k∧xs[k]?=some y∧Q y (upd H l (.lst (xs.eraseIdx k)))
noncomputable def rCat:R2:=fun x y H Q=>∃l b xs zs,x= .ref l∧y= .ref b∧H l=some (.lst xs)∧H b=some (.lst zs)∧xs.length+zs.length≤sizeLine∧∀p,H p=none→Q (.ref p) (upd H p (.lst (xs++zs)))
theorem op_cat:OpR X (binaryOp .Add) rCat:=by
  intro pins s σ H x y v u Q I rx ry h
  obtain ⟨l,b,xs,zs,rfl,rfl,hH,hB,hz,q⟩:=h
  cases rx
  cases ry
  obtain ⟨z,its,n,r,hl,e⟩:=I.lstM hH
  obtain ⟨z2,its2,n2,r2,hl2,e2⟩:=I.lstM hB
  refine PySem.P.add_list e e2 ?_ (by rw [List.size_toArray,List.size_toArray];omega)
  have ea:its.toArray++its2.toArray=(its++its2).toArray:=by simp
  rw [ea]
  exact ⟨.ref _,_,I.lnew (t':=s.toks) (r.append r2) (by rw [List.length_append];omega),rfl,q _ I.fresh⟩
end
section
variable {prog:Program} {w:World} {A:Around} {E:Value→Shared→Prop} {s:Shared}
end
section
variable {X:Cx}
end
end L2
namespace Att
open PySem PySem.W PySem.Calls PyProof.Rows
theorem ints_of_wellAll{P:Params}{h:Heap}:∀(ns:List Int) (vs:List Value),WellAll P h vs (ns.map WData.int)→IntsAre vs ns:=by
  intro ns
  induction ns with
  | nil=>
    intro vs w
    rw [List.map_nil]at w
    cases w
    exact .nil
  | cons n ns ih=>
    intro vs w
    rw [List.map_cons]at w
    cases w with
    | cons a b=>
      cases a
      exact .cons _ _ (ih _ b)
theorem script_of{l:OpenLaw}{n:Nat}(hn:l.most=some n){P:Params}{h:Heap}{args:List WData}{vals:List Value}
    (hpre:l.row.toRowW.claim.pre args=true) (hwl:WellAll P h vals args):
    ∃a vs ns,vals=[Value.ref a]∧args=[WData.list (ns.map WData.int)]∧h.get? a=some {cls:= .type "list",data:= .seq vs.toArray}∧IntsAre vs ns∧ns.length≤n:=by
  have hsh:WShape.hasAll [] args [.list .int]=true:=(pre_splitW hpre).1
  have hc:l.pre.holds [] {args:=args}=true:=(pre_splitW hpre).2
  obtain ⟨d,r,rfl,h1,h2⟩:=hasAllW_cons hsh
  obtain rfl:=hasAllW_nil h2
  obtain ⟨xs,rfl,h3⟩:=hasW_list h1
  obtain ⟨ns,rfl⟩:=items_int h3
  have hlen:ns.length≤n:=by
    unfold OpenLaw.pre at hc
    have h4:(WTm.not (.lt (.lit (.int (n:Int))) (.len (.arg 0)))).holds [] {args:=[.list (ns.map .int)]}=true:=by
      have h4:=(holds_andW hc).1
      rw [hn]at h4
      exact h4
    have h5:=condW_of h4 (w_not (w_lt w_lit (w_len_list (w_arg rfl))))
    rw [List.length_map]at h5
    refine Nat.le_of_not_lt fun q=>?_
    have q':(n:Int) < ((ns.length:Nat):Int):=by omega
    first
      | (rw [decide_eq_true q']at h5;exact absurd h5 (by decide))
      | (simp at h5;omega)
  cases hwl with
  | cons w1 w2=>
    cases w2
    cases w1 with
    | list ho hall=>exact ⟨_,_,ns,rfl,rfl,ho,ints_of_wellAll ns _ hall,hlen⟩
theorem post_true(l:OpenLaw)(args:List WData):l.row.toRowW.claim.post args (.bool true) args=true:=
  postW_of (r:=l.row.toRowW) (X:=(true==true))
    (show WShape.has [] (.bool true) .bool=true by first | rfl | decide | simp [WShape.has,WShape.arms,WShape.armsAll])
    (show (WTm.eq .res (.lit (.bool true))).value [] {args:=args,res:=some (.bool true),after:=args}=some (.bool (true==true)) from w_eq_bool (w_res rfl) w_lit) rfl
theorem attach_call{l:OpenLaw}{n:Nat}{q:Program}{loose:List Str}{XP:(Str→Option Value)→Heap→Prop}{YP:World→Heap→Prop}{d:DefRec}
    (hn:l.most=some n) (hdf:d.params.defaults=[])
    (call:∀(w:World) (s₀ s₁:Shared) (mg mb:Str→Option Value) (fa:Addr) (o:Obj) (pm cd doc:Value) (a:Addr) (vs:List Value) (ns:List Int),
      Ground q loose [] XP w s₀ mg mb s₁.heap→YP w s₁.heap→
      s₁.heap.get? fa=some o→o.data= .func (docDef d.name d.params d.body d.scope pm cd doc)→s₁.heap.CodeRec cd d.name→mg d.name=some (.ref fa)→
      s₁.heap.get? a=some {cls:= .type "list",data:= .seq vs.toArray}→IntsAre vs ns→ns.length≤n→s₁.gens=#[]→
      codeAny (model l.prog w) callerA (.call (.ref fa) ⟨[.ref a],[]⟩) (fun r s'=>r= .ok (.ret (.bool true))∧OldK s₁.heap s'.heap∧s'.os=s₁.os∧AllBare s'.gens) s₁):
    WalkO q loose XP YP l.row.toRowW d [] (fun f vs=>PySem.call f vs):=by
  intro w s₀ s₁ mg mb G Y fa o pm cd doc dV kV ho hd hcd hD hmg hg args vals as hpre hlay hrd hwl hlo
  obtain rfl:dV= .none:=Dflts.none hD hdf
  obtain rfl:kV= .none:=Dflts.noKw hD
  obtain ⟨a,vs,ns,rfl,rfl,hobj,hints,hlen⟩:=script_of hn hpre hwl
  refine enter_call (codeAny_mono (call w s₀ s₁ mg mb fa o pm cd doc a vs ns G Y ho (fd_plain hd) hcd hmg hobj hints hlen hg) fun r s' hq=>?_)
  obtain ⟨rfl,h2,h3,h4⟩:=hq
  exact ⟨.inl ⟨.bool true,.bool true,[],rfl,fun _=>rfl,.bool true,post_true l _,fun _=>⟨List.Pairwise.nil,fun _ hm=>(nomatch hm)⟩⟩,h2,h3,h4⟩
section
variable {prog:Program} {w:World} {A:Around} {E:Value→Shared→Prop} {s:Shared} {K:Frag}
end
end Att
namespace L2
open PySem PySem.Spec PyProof.Rows
theorem vals_ints:∀{vs:List Value} {ns:List Int},IntsAre vs ns→Vals (ns.map V.int) vs
  | _,_,.nil=> .nil
  | _,_,.cons n t h=> .cons ⟨t,rfl⟩ (vals_ints h)
noncomputable def Only(H:Hp):Prop:=∀b,H b=none∨∃o xs,H b=some (.frz o (.lst xs))
theorem law_call{P:Program}{w:World}{K:PySem.W.Frag}{mg mb:Str→Option Value}{CX:CXT}{k:Nat}{fa a:Addr}{fd:FuncData}{x:Str}{sp:Sp}{s₁:Shared}{vs:List Value}{ns:List Int}
    (KX:K.In s₁.heap) (hns:s₁.heap.Ns mainGlobals mg) (hb:s₁.heap.Ns builtinsNs mb) (hbb:∀x:Str,x≠"__name__"→mb x=bootBuiltins x) (hlim:s₁.heap.NoLimit) (hg:s₁.gens=#[])
    (ha:s₁.heap.get? a=some {cls:= .type "list",data:= .seq vs.toArray}) (hi:IntsAre vs ns) (hl:ns.length≤sizeLine) (hr:Room k callerA)
    (F:∀base:Heap,K.In base→base.Ns mainGlobals mg→FnOk P w K mg base CX k fa fd [x] sp) (hbind:∀(s:Shared) (u:Value),BindsTo s fd ⟨[u],[]⟩ [(x,u)])
    (hsp:∀H:Hp,Only H→SqL K H a (ns.map V.int)→sp [.ref a] H (fun v _=>v= .bl true) fun _ _ _=>False)
    (hCX:∀H e s',CX [] H s₁ (fun _ _ _=>False) e s'→False):
    codeAny (model P w) callerA (.call (.ref fa) ⟨[.ref a],[]⟩) (fun r s'=>r= .ok (.ret (.bool true))∧OldK s₁.heap s'.heap∧s'.os=s₁.os∧AllBare s'.gens) s₁:=by
  have rv:=vals_ints hi
  have lenV:=hi.length
  have core:∀H:Hp,Only H→SqL K H a (ns.map V.int)→HOk P w H s₁.heap→(∀b,H b≠none→b=a)→(H a≠none→K.lookup a=none)→
      codeAny (model P w) callerA (.call (.ref fa) ⟨[.ref a],[]⟩) (fun r s'=>r= .ok (.ret (.bool true))∧OldK s₁.heap s'.heap∧s'.os=s₁.os∧AllBare s'.gens) s₁:=by
    intro H hO hS hok hA hK
    have base_of:∀{b:Addr} {o:Obj},s₁.heap.get? b=some o→H b=none→(hidT s₁.heap H).get? b=some o:=fun e n=>hidT_get e n
    have noA:∀{b:Addr} {o:Obj} {es:Array DictEntry} {ep:Nat},s₁.heap.get? b=some o→o.data= .dict es ep→H b=none:=fun {b o es ep} e d=>by
      cases q:H b with
      | none=>rfl
      | some u=>
        have e':b=a:=hA b (by rw [q];simp)
        subst e'
        rw [ha]at e;cases e
        have d':Data.seq vs.toArray _=Data.dict es ep:=d
        cases d'
    have nsK:∀{b:Addr} {m:Str→Option Value},s₁.heap.Ns b m→(hidT s₁.heap H).Ns b m:=fun {b m} ⟨o,es,ep,e,d,r⟩=>⟨o,es,ep,base_of e (noA e d),d,r⟩
    have hKb:K.In (hidT s₁.heap H):=fun b o e=>base_of (KX b o e) (by
      cases q:H b with
      | none=>rfl
      | some u=>
        have e':b=a:=hA b (by rw [q];simp)
        subst e'
        rw [hK (by rw [q];simp)]at e;cases e)
    have hM:Mod K mg (hidT s₁.heap H):=⟨hKb,nsK hns,⟨mb,nsK hb,hbb⟩,let ⟨mc,h1,h2⟩:=hlim;⟨mc,nsK h1,h2⟩⟩
    have e0:Env0 P w K mg (hidT s₁.heap H) callerA [] s₁ H:=⟨rfl,hM,fun b o e=>of_hidT e,Nat.le_of_eq (hidT_size _ _),trivial,fun b hb=>absurd (show b∈([]:List Addr) from hb) (by simp),hok,.of_eq hg⟩
    refine codeAny_mono ((F _ hKb (nsK hns)).run callerA [] s₁ H ⟨[.ref a],[]⟩ [.ref a] [.ref a] _ _ hr e0 (hbind s₁ (.ref a)) (.cons rfl .nil) (hsp H hO hS)) fun r s' h=>?_
    cases r with
    | error e=>exact (hCX H e s' h).elim
    | ok fl=>
      cases fl with
      | next=>exact False.elim h
      | brk=>exact False.elim h
      | cont=>exact False.elim h
      | ret u=>
        obtain ⟨v,H',os,bare,un,hok',r',q⟩:=h
        have q':v= .bl true:=q
        subst q'
        obtain rfl:u=Value.bool true:=r'
        refine ⟨rfl,OldK.of_keep fun b o e=>?_,os,bare⟩
        cases q:H b with
        | none=>exact un.keep b o e q (by intro z;exact absurd (show b∈([]:List Addr) from z) (by simp)) (by simp)
        | some u=>
          rcases hO b with z | ⟨ob,xs,z⟩
          · rw [q]at z;cases z
          · have z2:=un.frzs b ob _ z
            obtain ⟨e1,_⟩:=hok b _ z
            obtain ⟨e2,_⟩:=hok' b _ z2
            rw [e]at e1;cases e1
            exact e2
  cases hk:K.lookup a with
  | some o=>
    have e:=KX a o hk
    rw [ha]at e
    cases e
    refine core (fun _=>none) (fun _=> .inl rfl) (.inr ⟨_,vs.toArray,_,hk,rfl,rfl,rfl,by rw [List.size_toArray,lenV];exact hl,by simpa using rv⟩) (fun b u z=>by have z':(none:Option HO)=some u:=z;cases z') (fun b z=>absurd rfl z) fun z=>absurd rfl z
  | none=>
    refine core (fun b=>if b=a then some (.frz {cls:= .type "list",data:= .seq vs.toArray} (.lst (ns.map V.int))) else none) (fun b=>?_) (.inl (.inr ⟨{cls:= .type "list",data:= .seq vs.toArray},if_pos rfl⟩)) (fun b u z=>?_) (fun b z=>?_) fun _=>hk
    · by_cases hb:b=a
      · exact .inr ⟨_,_,if_pos hb⟩
      · exact .inl (if_neg hb)
    · by_cases hb:b=a
      · have z':=(if_pos hb).symm.trans z
        cases z'
        subst hb
        exact ⟨ha,by rw [List.length_map];exact hl,vs,_,rv,ha⟩
      · have z':=(if_neg hb).symm.trans z
        cases z'
    · by_cases hb:b=a
      · exact hb
      · exact absurd (if_neg hb) z
end L2
namespace L2
open PySem PySem.Spec PyProof.Rows
theorem walk_of{l:PySem.W.OpenLaw}{n k:Nat}{q:Program}{loose:List Str}{XP:(Str→Option Value)→Heap→Prop}{YP:World→Heap→Prop}{d:DefRec}{K:Params→PySem.W.Frag}{CX:World→CXT}{sp:World→Sp}{x:Str}
    (hn:l.most=some n) (hn2:n≤sizeLine) (hdf:d.params.defaults=[]) (hr:Room k callerA)
    (hY:∀(w:World) (h:Heap),YP w h→(K w.params).In h)
    (F:∀(w:World) (mg:Str→Option Value) (fa:Addr) (h:Heap),(K w.params).In h→h.Ns mainGlobals mg→mg d.name=some (.ref fa)→
      ∃fd:FuncData,(∀(s:Shared) (u:Value),BindsTo s fd ⟨[u],[]⟩ [(x,u)])∧
        ∀base:Heap,(K w.params).In base→base.Ns mainGlobals mg→FnOk l.prog w (K w.params) mg base (CX w) k fa fd [x] (sp w))
    (hsp:∀(w:World) (H:Hp) (a:Addr) (ns:List Int),ns.length≤n→Only H→SqL (K w.params) H a (ns.map V.int)→sp w [.ref a] H (fun v _=>v= .bl true) fun _ _ _=>False)
    (hCX:∀(w:World) (H:Hp) (s:Shared) (e:Value) (s':Shared),CX w [] H s (fun _ _ _=>False) e s'→False):
    PySem.W.WalkO q loose XP YP l.row.toRowW d [] (fun f vs=>PySem.call f vs):=by
  refine Att.attach_call hn hdf fun w s₀ s₁ mg mb fa o pm cd doc a vs ns G Y ho hd hcd hmg hobj hints hlen hg=>?_
  have KX:=hY w _ Y
  obtain ⟨fd,hb,hF⟩:=F w mg fa _ KX G.T.g hmg
  exact law_call KX G.T.g G.T.b G.T.builtins G.T.nolimit hg hobj hints (Nat.le_trans hlen hn2) hr hF hb (fun H hO hS=>hsp w H a ns hlen hO hS) fun H e s'=>hCX w H s₁ e s'
end L2
namespace L2
open PySem PySem.Spec PyProof.Rows
noncomputable def inClass(s:Stmt)(j:Nat):Stmt:=match s with
  | .ClassDef _ _ _ body _ _ _ _ _ _ _=>body.getD j (.Pass ⟨0,0,0,0⟩)
  | _=> .Pass ⟨0,0,0,0⟩
noncomputable def defArgs(s:Stmt):Arguments:=match s with
  | .FunctionDef _ a _ _ _ _ _ _ _ _=>a
  | _=>{posonlyargs:=[],args:=[],vararg:=none,kwonlyargs:=[],kw_defaults:=[],kwarg:=none,defaults:=[]}
noncomputable def defBody(s:Stmt):List Stmt:=match s with
  | .FunctionDef _ _ b _ _ _ _ _ _ _=>b
  | _=>[]
noncomputable def defScope(s:Stmt):Scope:=match s with
  | .FunctionDef _ _ _ _ _ _ sc _ _ _=>sc
  | _=>{kind:= .function,names:=[],isGenerator:=false,isCoroutine:=false}
noncomputable abbrev CX0:CXT:=fun _ _ _ _ _ _=>False
noncomputable abbrev E0:XK:=fun _ _ _=>False
structure Fun(K:PySem.W.Frag)(x qual:Str)(st:Stmt)(f:Addr)(fd:FuncData):Prop where
  ex:∃(oc:Value) (od:Option Addr) (kV doc pm:Value) (an:Option Addr) (cdv ct:Value) (osl:Array (Option Value)),
    fd=PySem.W.fnOf x qual (defArgs st) (defBody st) (defScope st) .none kV doc pm an cdv ct∧K.lookup f=some ⟨oc,od,.func fd,osl⟩∧PySem.W.codeIn K cdv qual=true
  kp:PySem.W.keepIn K (.ref f)=true
section
variable {P:Program} {w:World} {K:PySem.W.Frag} {mg:Str→Option Value} {base:Heap}
theorem Fun.binds{x qual:Str}{st:Stmt}{f:Addr}{fd:FuncData}{ps:List Str}(F:Fun K x qual st f fd)
    (h:∀(kV doc pm:Value) (an:Option Addr) (cdv ct:Value) (us:List Value),us.length=ps.length→bindArgs (PySem.W.fnOf x qual (defArgs st) (defBody st) (defScope st) .none kV doc pm an cdv ct) ⟨us,[]⟩=pure (ps.zip us)):Binds K fd ps []:=by
  obtain ⟨oc,od,kV,doc,pm,an,cdv,ct,osl,rfl,lk,hcd⟩:=F.ex
  exact .all (h kV doc pm an cdv ct)
theorem fun_mk{x qual:Str}{st:Stmt}{f:Addr}{oc:Value}{od an:Option Addr}{osl:Array (Option Value)}{kV doc pm cdv ct:Value}(l:K.lookup f=some ⟨oc,od,.func (PySem.W.fnOf x qual (defArgs st) (defBody st) (defScope st) .none kV doc pm an cdv ct),osl⟩)
    (c:PySem.W.codeIn K cdv qual=true) (k:PySem.W.keepIn K (.ref f)=true):Fun K x qual st f (PySem.W.fnOf x qual (defArgs st) (defBody st) (defScope st) .none kV doc pm an cdv ct):=⟨⟨oc,od,kV,doc,pm,an,cdv,ct,osl,rfl,l,c⟩,k⟩
end
theorem hu_of{A:Around}{k:Nat}(hr:Room k A):A.units+1 < cLine:=Nat.lt_of_le_of_lt (Nat.add_le_add_left (by decide:1≤64) _) hr.units
section
variable {X:Cx}
theorem pv(i:Nat){x:Str}{pos:Pos}(hN:X.N[i]?=some x:=by rfl)(hv:Vis X.env.scope x:=by first | exact Or.inl rfl | exact Or.inr (Or.inl rfl) | exact Or.inr (Or.inr rfl))(hd:(x==("__debug__":Str))=false:=by decide)
    (hcd:(x==("__classdict__":Str))=false:=by decide):PE X (.Name x pos) (tVar i):=pe_var hN hv hd hcd
end
noncomputable def Same(H H':Hp):Prop:=∀b o,H b=some o→H' b=some o
theorem Same.refl(H:Hp):Same H H:=fun _ _ h=>h
theorem Same.trans{H H1 H2:Hp}(a:Same H H1)(b:Same H1 H2):Same H H2:=fun c o h=>b c o (a c o h)
theorem Same.seq{K:PySem.W.Frag}{H H':Hp}{a:Addr}{xs:List V}(e:Same H H')(h:SqL K H a xs):SqL K H' a xs:=by
  rcases h with (h | ⟨o,h⟩) | h
  · exact .inl (.inl (e _ _ h))
  · exact .inl (.inr ⟨o,e _ _ h⟩)
  · exact .inr h
end L2
set_option Elab.async false
set_option linter.all false
set_option maxRecDepth 100000
namespace L2
open PySem PySem.Spec PyProof.Rows
section
variable {κ:Type} [DecidableEq κ]
noncomputable def valV(kvs:List (κ×V))(k:κ):Option V:=(kvs.find? fun kv=>decide (kv.1=k)).map (·.2)
noncomputable def putK(kvs:List (κ×V))(k:κ)(v:V):List (κ×V):=
  if (kvs.any fun kv=>decide (kv.1=k))=true then kvs.map (fun kv=>if kv.1=k then (kv.1,v) else kv) else kvs++[(k,v)]
noncomputable def dropK(kvs:List (κ×V))(k:κ):List (κ×V):=kvs.filter fun kv=>decide (kv.1≠k)
theorem valV_pos{p:κ×V}{r:List (κ×V)}{k:κ}(e:p.1=k):valV (p::r) k=some p.2:=by simp [valV,List.find?_cons,e]
theorem valV_neg{p:κ×V}{r:List (κ×V)}{k:κ}(e:¬p.1=k):valV (p::r) k=valV r k:=by simp [valV,List.find?_cons,e]
theorem valV_any(k:κ):∀kvs:List (κ×V),(kvs.any fun kv=>decide (kv.1=k))=(valV kvs k).isSome
  | []=>rfl
  | p::r=>by
    rw [List.any_cons]
    by_cases e:p.1=k
    · simp only [valV_pos e,decide_eq_true e,Bool.true_or,Option.isSome_some]
    · rw [valV_neg e,decide_eq_false e,Bool.false_or];exact valV_any k r
theorem valV_map(k j:κ)(y:V):∀kvs:List (κ×V),valV (kvs.map fun kv=>if kv.1=k then (kv.1,y) else kv) j=(valV kvs j).map fun x=>if j=k then y else x
  | []=>rfl
  | p::r=>by
    have ih:=valV_map k j y r
    rw [List.map_cons]
    by_cases h:p.1=k
    · rw [if_pos h]
      by_cases e:p.1=j
      · rw [valV_pos (p:=(p.1,y)) e,valV_pos e,Option.map_some,if_pos (e.symm.trans h)]
      · rw [valV_neg (p:=(p.1,y)) e,valV_neg e,ih]
    · rw [if_neg h]
      by_cases e:p.1=j
      · rw [valV_pos (p:=p) e,valV_pos e,Option.map_some,if_neg (fun z=>h (e.trans z))]
      · rw [valV_neg (p:=p) e,valV_neg e,ih]
theorem valV_snoc(k j:κ)(y:V):∀kvs:List (κ×V),valV kvs k=none→valV (kvs++[(k,y)]) j=if j=k then some y else valV kvs j
  | [],_=>by
    by_cases e:k=j
    · rw [if_pos e.symm];exact valV_pos (p:=(k,y)) e
    · rw [if_neg (fun z=>e z.symm)];exact valV_neg (p:=(k,y)) e
  | p::r,hn=>by
    rw [List.cons_append]
    have hk:¬p.1=k:=fun z=>by rw [valV_pos z]at hn;cases hn
    rw [valV_neg hk]at hn
    have ih:=valV_snoc k j y r hn
    by_cases e:p.1=j
    · rw [valV_pos e,valV_pos e,if_neg (fun z=>hk (e.trans z))]
    · rw [valV_neg e,valV_neg e,ih]
theorem valV_put(kvs:List (κ×V))(k j:κ)(y:V):valV (putK kvs k y) j=if j=k then some y else valV kvs j:=by
  unfold putK
  by_cases a:(kvs.any fun kv=>decide (kv.1=k))=true
  · rw [if_pos a,valV_map]
    rw [valV_any]at a
    by_cases e:j=k
    · obtain ⟨x,hx⟩:=Option.isSome_iff_exists.mp a
      rw [if_pos e,e,hx,Option.map_some,if_pos rfl]
    · rw [if_neg e]
      cases valV kvs j with
      | none=>rfl
      | some x=>rw [Option.map_some,if_neg e]
  · rw [if_neg a]
    refine valV_snoc k j y kvs ?_
    rw [valV_any]at a
    cases q:valV kvs k with
    | none=>rfl
    | some x=>rw [q]at a;exact (a rfl).elim
theorem length_putK(kvs:List (κ×V))(k:κ)(v:V):(putK kvs k v).length≤kvs.length+1:=by
  unfold putK
  split
  · rw [List.length_map];omega
  · rw [List.length_append,List.length_cons,List.length_nil];omega
theorem putK_new{kvs:List (κ×V)}{k:κ}(v:V)(h:valV kvs k=none):putK kvs k v=kvs++[(k,v)]:=by
  unfold putK
  rw [valV_any,h]
  exact if_neg (by decide)
theorem RelO.isSome_eq{o:Option V}{u:Option Value}(r:RelO o u):o.isSome=u.isSome:=by
  cases o with
  | none=>cases u with
    | none=>rfl
    | some _=>exact (show False from r).elim
  | some _=>cases u with
    | none=>exact (show False from r).elim
    | some _=>rfl
theorem RelO.getD{o:Option V}{u:Option Value}{d:V}{d':Value}(r:RelO o u)(rd:RelV d d'):RelV (o.getD d) (u.getD d'):=by
  cases o with
  | none=>cases u with
    | none=>exact rd
    | some _=>exact (show False from r).elim
  | some _=>cases u with
    | none=>exact (show False from r).elim
    | some _=>exact r
theorem KV.val{kvs:List (κ×V)}{vs:List (κ×Value)}(r:KV kvs vs)(k:κ):RelO (valV kvs k) (valueAt vs k):=by
  unfold KV at r
  induction r with
  | nil=>exact True.intro
  | @cons p q ps qs h t ih=>
    obtain ⟨h1,h2⟩:=h
    by_cases e:p.1=k
    · have e':q.1=k:=h1.symm.trans e
      have b:valueAt (q::qs) k=some q.2:=by simp [valueAt,List.find?_cons,e']
      rw [valV_pos e,b];exact h2
    · have e':¬q.1=k:=fun z=>e (h1.trans z)
      have b:valueAt (q::qs) k=valueAt qs k:=by simp [valueAt,List.find?_cons,e']
      rw [valV_neg e,b];exact ih
theorem KV.any{kvs:List (κ×V)}{vs:List (κ×Value)}(r:KV kvs vs)(k:κ):(kvs.any fun kv=>decide (kv.1=k))=vs.any fun kv=>decide (kv.1=k):=by
  unfold KV at r
  induction r with
  | nil=>rfl
  | cons h t ih=>rw [List.any_cons,List.any_cons,ih,h.1]
theorem KV.repl{kvs:List (κ×V)}{vs:List (κ×Value)}(r:KV kvs vs)(k:κ){y:V}{u:Value}(ry:RelV y u):
    KV (kvs.map fun kv=>if kv.1=k then (kv.1,y) else kv) (vs.map fun kv=>if kv.1=k then (kv.1,u) else kv):=by
  unfold KV at r ⊢
  induction r with
  | nil=>exact .nil
  | @cons p q ps qs h t ih=>
    rw [List.map_cons,List.map_cons]
    refine .cons ?_ ih
    obtain ⟨h1,h2⟩:=h
    by_cases e:p.1=k
    · rw [if_pos e,if_pos (h1.symm.trans e)];exact ⟨h1,ry⟩
    · rw [if_neg e,if_neg (fun z=>e (h1.trans z))];exact ⟨h1,h2⟩
theorem KV.put{kvs:List (κ×V)}{vs:List (κ×Value)}(r:KV kvs vs)(k:κ){y:V}{u:Value}(ry:RelV y u):KV (putK kvs k y) (stored vs k u):=by
  unfold putK stored
  rw [r.any k]
  by_cases e:(vs.any fun kv=>decide (kv.1=k))=true
  · rw [if_pos e,if_pos e];exact r.repl k ry
  · rw [if_neg e,if_neg e];exact Paired.snoc r ⟨rfl,ry⟩
theorem KV.length{kvs:List (κ×V)}{vs:List (κ×Value)}(r:KV kvs vs):kvs.length=vs.length:=Paired.length r
end
theorem kV_is{P:Program}{w:World}{k:Key}{u:Value}(r:RelV (kV k) u):(mixKind P w).is k u=true:=by
  cases k with
  | inl i=>obtain ⟨t,e⟩:=(show ∃t,u=Value.int i t from r);subst e;exact mixKind_int P w i t
  | inr x=>obtain ⟨t,e⟩:=(show ∃t,u=Value.str x t from r);subst e;exact mixKind_str P w x t
theorem items_are{P:Program}{w:World}:∀{ks:List Key} {us:List Value},Vals (ks.map kV) us→ItemsAre (mixKind P w) ks us
  | [],_,r=>by rw [List.map_nil]at r;cases r;exact .nil
  | k::ks,_,r=>by
    rw [List.map_cons]at r
    cases r with
    | cons h t=>exact .cons (kV_is h) (items_are t)
noncomputable abbrev KT(H:Hp):List (List Key×V)→List (List Key×Addr×Value)→Prop:=Paired fun p q=>p.1=q.1∧H q.2.1=some (.tup (p.1.map kV))∧RelV p.2 q.2.2
theorem KT.val{H:Hp}{kvs:List (List Key×V)}{xs:List (List Key×Addr×Value)}(r:KT H kvs xs)(k:List Key):RelO (valV kvs k) ((atKey xs k).map (·.2)):=by
  induction r with
  | nil=>exact True.intro
  | @cons p q ps qs h t ih=>
    obtain ⟨h1,_,h2⟩:=h
    by_cases e:p.1=k
    · have e':q.1=k:=h1.symm.trans e
      have b:atKey (q::qs) k=some q.2:=by simp [atKey,List.find?_cons,e']
      rw [valV_pos e,b];exact h2
    · have e':¬q.1=k:=fun z=>e (h1.trans z)
      have b:atKey (q::qs) k=atKey qs k:=by simp [atKey,List.find?_cons,e']
      rw [valV_neg e,b];exact ih
theorem KT.repl{H:Hp}{kvs:List (List Key×V)}{xs:List (List Key×Addr×Value)}(r:KT H kvs xs)(k:List Key){y:V}{u:Value}(ry:RelV y u):
    KT H (kvs.map fun kv=>if kv.1=k then (kv.1,y) else kv) (xs.map (putAt k u)):=by
  induction r with
  | nil=>exact .nil
  | @cons p q ps qs h t ih=>
    rw [List.map_cons,List.map_cons]
    refine .cons ?_ ih
    obtain ⟨h1,h2,h3⟩:=h
    unfold putAt
    by_cases e:p.1=k
    · rw [if_pos e,if_pos (h1.symm.trans e)];exact ⟨h1,h2,ry⟩
    · rw [if_neg e,if_neg (fun z=>e (h1.trans z))];exact ⟨h1,h2,h3⟩
theorem KT.put{H:Hp}{kvs:List (List Key×V)}{xs:List (List Key×Addr×Value)}(r:KT H kvs xs)(k:List Key){b:Addr}{y:V}{u:Value}(hb:H b=some (.tup (k.map kV)))(ry:RelV y u):
    KT H (putK kvs k y) (storedH xs k b u):=by
  have e:(kvs.any fun kv=>decide (kv.1=k))=(atKey xs k).isSome:=by
    rw [valV_any,(r.val k).isSome_eq,Option.isSome_map]
  unfold putK storedH
  rw [e]
  by_cases q:(atKey xs k).isSome=true
  · rw [if_pos q,if_pos q];exact r.repl k ry
  · rw [if_neg q,if_neg q];exact Paired.snoc r ⟨rfl,hb,ry⟩
theorem KT.keeps{H H':Hp}{kvs:List (List Key×V)}{xs:List (List Key×Addr×Value)}(r:KT H kvs xs)(ht:∀b ys,H b=some (.tup ys)→H' b=some (.tup ys)):KT H' kvs xs:=
  Paired.mapP r fun _ _ z=>⟨z.1,ht _ _ z.2.1,z.2.2⟩
section
variable {P:Program} {w:World} {H:Hp} {h:Heap} {a:Addr}
theorem rd_of{u:HO}(ok:HOk P w H h)(e:Rd H a u):ObjOk P w H h a u:=e.ok ok
theorem dk_rd{kvs:List (Key×V)}(ok:HOk P w H h)(e:Rd H a (.dK kvs)):kvs.length≤sizeLine∧(a==sysModules)=false∧∃vs,KV kvs vs∧h.DictOf (mixKind P w) a vs:=
  show ObjOk P w H h a (.dK kvs) from rd_of ok e
theorem dk_of{kvs:List (Key×V)}(ok:HOk P w H h)(e:H a=some (.dK kvs)):kvs.length≤sizeLine∧(a==sysModules)=false∧∃vs,KV kvs vs∧h.DictOf (mixKind P w) a vs:=dk_rd ok (.inl e)
theorem key_of{ks:List Key}(ok:HOk P w H h)(e:H a=some (.tup (ks.map kV))):(tupleKind (mixKind P w)).is h ks a:=by
  obtain ⟨_,its,r,o,h1,h2,n,h3⟩:=(show ObjOk P w H h a (.tup (ks.map kV)) from ok a _ e)
  exact ⟨o,its.toArray,n,h1,h2,h3,by simpa using items_are r⟩
theorem dt_rd{kvs:List (List Key×V)}(ok:HOk P w H h)(e:Rd H a (.dT kvs)):kvs.length≤sizeLine∧(a==sysModules)=false∧
    ∃xs,KT H kvs xs∧h.DictOfH (tupleKind (mixKind P w)) a xs:=by
  obtain ⟨z,y,xs,r,o,es,ep,h1,h2,h3,h4,h5⟩:=(show ObjOk P w H h a (.dT kvs) from rd_of ok e)
  refine ⟨z,y,xs,r,o,es,ep,h1,h2,h3,h4,fun x hx=>?_,h5⟩
  have all:∀{l:List (List Key×V)} {m:List (List Key×Addr×Value)},KT H l m→∀x∈m,(tupleKind (mixKind P w)).is h x.1 x.2.1:=by
    intro l m q
    induction q with
    | nil=>intro x hx;exact nomatch hx
    | @cons p q ps qs hq t ih=>
      intro x hx
      rcases List.mem_cons.mp hx with e | hx
      · subst e
        exact key_of ok (by rw [← hq.1];exact hq.2.1)
      · exact ih x hx
  exact all r x hx
theorem dt_of{kvs:List (List Key×V)}(ok:HOk P w H h)(e:H a=some (.dT kvs)):kvs.length≤sizeLine∧(a==sysModules)=false∧
    ∃xs,KT H kvs xs∧h.DictOfH (tupleKind (mixKind P w)) a xs:=dt_rd ok (.inl e)
end
noncomputable def DGet(H:Hp)(a:Addr)(y:V)(r:Option V):Prop:=
  (∃kvs k,Rd H a (.dK kvs)∧y=kV k∧r=valV kvs k)∨∃kvs k b,Rd H a (.dT kvs)∧y= .ref b∧H b=some (.tup (k.map kV))∧r=valV kvs k
noncomputable def DPut(H:Hp)(a:Addr)(y v:V)(H':Hp):Prop:=
  (∃kvs k,H a=some (.dK kvs)∧y=kV k∧kvs.length < sizeLine∧H'=upd H a (.dK (putK kvs k v)))∨
  ∃kvs k b,H a=some (.dT kvs)∧y= .ref b∧H b=some (.tup (k.map kV))∧kvs.length < sizeLine∧H'=upd H a (.dT (putK kvs k v))
theorem DGet.k{H:Hp}{a:Addr}{kvs:List (Key×V)}{k:Key}(e:H a=some (.dK kvs)):DGet H a (kV k) (valV kvs k):= .inl ⟨kvs,k,.inl e,rfl,rfl⟩
theorem DPut.k{H:Hp}{a:Addr}{kvs:List (Key×V)}{k:Key}{v:V}(e:H a=some (.dK kvs))(hl:kvs.length < sizeLine):DPut H a (kV k) v (upd H a (.dK (putK kvs k v))):= .inl ⟨kvs,k,e,rfl,hl,rfl⟩
section
variable {X:Cx} {pins:List (Addr×Obj)} {σ:St} {H:Hp} {s:Shared} {a:Addr} {y v:V} {u r:Value} {o:Option V} {A:Around} {E:Value→Shared→Prop}
theorem Inv.big(I:Inv X pins σ H s):sysModules < s.heap.objs.size:=by
  have h:mainGlobals < s.heap.objs.size:=(I.mod.glob.keeps I.bk).lt
  exact Nat.lt_trans (by decide) h
theorem d_getItem{Q:Value→Shared→Prop}(hu:A.units+1 < cLine)(I:Inv X pins σ H s)(g:DGet H a y (some v))(ry:RelV y u)(h:∀w' s',Inv X pins σ H s'→RelV v w'→Q w' s'):
    wpAny (model X.prog X.w) A (getItem (.ref a) u) Q E s:=by
  rcases g with ⟨kvs,k,e,ey,l⟩ | ⟨kvs,k,b,e,ey,eb,l⟩
  · subst ey
    obtain ⟨z,hd,vs,rel,dd⟩:=dk_rd I.hok e
    obtain ⟨w',hw,rw'⟩:=RelO.some_of (v:=v) (o:=valueAt vs k) (by rw [l];exact rel.val k)
    exact wpAny_getItem_of (kV_is ry) dd.mapOf hw (h w' _ (I.tok _) rw')
  · subst ey
    cases (show u=Value.ref b from ry)
    obtain ⟨z,hd,xs,rel,dd⟩:=dt_rd I.hok e
    obtain ⟨w',hw,rw'⟩:=RelO.some_of (v:=v) (o:=(atKey xs k).map (·.2)) (by rw [l];exact rel.val k)
    obtain ⟨p,hp,hp2⟩:=Option.map_eq_some_iff.mp hw
    refine wpAny_getItem_heap (tupleKind_room_in1 hu) (key_of I.hok eb) dd hp ?_
    rw [hp2]
    exact h w' _ (I.tok _) rw'
theorem d_in{Q:Value→Shared→Prop}(hu:A.units+1 < cLine)(I:Inv X pins σ H s)(g:DGet H a y o)(ry:RelV y u)(h:∀s',Inv X pins σ H s'→Q (.bool o.isSome) s'):
    wpAny (model X.prog X.w) A (compareOp .In u (.ref a)) Q E s:=by
  rcases g with ⟨kvs,k,e,ey,l⟩ | ⟨kvs,k,b,e,ey,eb,l⟩
  · subst ey
    obtain ⟨z,hd,vs,rel,dd⟩:=dk_rd I.hok e
    refine wpAny_in_of (kV_is ry) hd dd.mapOf ?_
    rw [← (rel.val k).isSome_eq,← l]
    exact h _ (I.tok _)
  · subst ey
    cases (show u=Value.ref b from ry)
    obtain ⟨z,hd,xs,rel,dd⟩:=dt_rd I.hok e
    refine wpAny_in_heap (tupleKind_room_in1 hu) (key_of I.hok eb) hd dd ?_
    have q:=(rel.val k).isSome_eq
    rw [Option.isSome_map]at q
    rw [← q,← l]
    exact h _ (I.tok _)
theorem d_notIn{Q:Value→Shared→Prop}(hu:A.units+1 < cLine)(I:Inv X pins σ H s)(g:DGet H a y o)(ry:RelV y u)(h:∀s',Inv X pins σ H s'→Q (.bool (!o.isSome)) s'):
    wpAny (model X.prog X.w) A (compareOp .NotIn u (.ref a)) Q E s:=by
  rcases g with ⟨kvs,k,e,ey,l⟩ | ⟨kvs,k,b,e,ey,eb,l⟩
  · subst ey
    obtain ⟨z,hd,vs,rel,dd⟩:=dk_rd I.hok e
    refine wpAny_notIn_of (kV_is ry) hd dd.mapOf ?_
    rw [← (rel.val k).isSome_eq,← l]
    exact h _ (I.tok _)
  · subst ey
    cases (show u=Value.ref b from ry)
    obtain ⟨z,hd,xs,rel,dd⟩:=dt_rd I.hok e
    refine wpAny_notIn_heap (tupleKind_room_in1 hu) (key_of I.hok eb) hd dd ?_
    have q:=(rel.val k).isSome_eq
    rw [Option.isSome_map]at q
    rw [← q,← l]
    exact h _ (I.tok _)
theorem d_write{h':Heap}{t':Nat}{ob:HO}(I:Inv X pins σ H s)(mu:Mut (H a))(hs:Heap.SameBut a s.heap h')(he:∃q,h'.get? a=some q)(new:ObjOk X.prog X.w (upd H a ob) h' a ob):
    Inv X pins σ (upd H a ob) {s with heap:=h',toks:=t'}:=
  I.write (x:=a) (e:=a) mu (.inl rfl) (fun b q hb z=>(hs.2 b hb).trans z) he new
theorem dk_new{P:Program}{w:World}{H':Hp}{h':Heap}{kvs:List (Key×V)}{vs:List (Key×Value)}(z:kvs.length≤sizeLine)(hd:(a==sysModules)=false)(rel:KV kvs vs)(dd:h'.DictOf (mixKind P w) a vs):
    ObjOk P w H' h' a (.dK kvs):=⟨z,hd,vs,rel,dd⟩
theorem d_setItem{H':Hp}{Q:Unit→Shared→Prop}(hu:A.units+1 < cLine)(I:Inv X pins σ H s)(g:DPut H a y v H')(ry:RelV y u)(rv:RelV v r)(h:∀s',Inv X pins σ H' s'→Q () s'):
    wpAny (model X.prog X.w) A (setItem (.ref a) u r) Q E s:=by
  rcases g with ⟨kvs,k,e,ey,l,eH⟩ | ⟨kvs,k,b,e,ey,eb,l,eH⟩
  · subst ey eH
    obtain ⟨z,hd,vs,rel,dd⟩:=dk_of I.hok e
    have hz:vs.length≤sizeLine:=by rw [← rel.length];exact z
    have hl:(putK kvs k v).length≤sizeLine:=by have:=length_putK kvs k v;omega
    refine wpAny_setItem_pairs (hsz:=hz) (kV_is ry) dd fun h' dd' hs=>h _ ?_
    have he:∃q,h'.get? a=some q:=let ⟨q,_,_,hq,_⟩:=dd';⟨q,hq⟩
    exact d_write I (by rw [e];exact True.intro) hs he (dk_new hl hd (rel.put k rv) dd')
  · subst ey eH
    cases (show u=Value.ref b from ry)
    obtain ⟨z,hd,xs,rel,dd⟩:=dt_of I.hok e
    have hz:xs.length≤sizeLine:=by rw [← Paired.length rel];exact z
    have hl:(putK kvs k v).length≤sizeLine:=by have:=length_putK kvs k v;omega
    refine wpAny_setItem_heap (hsz:=hz) (tupleKind_room_in1 hu) (key_of I.hok eb) dd fun h' dd' hs=>h _ ?_
    obtain ⟨q,es,ep,hq,h2,h3,h4,_,h5⟩:=dd'
    refine d_write I (by rw [e];exact True.intro) hs ⟨q,hq⟩ ⟨hl,hd,_,(rel.put k eb rv).keeps fun c ys ec=>?_,q,es,ep,hq,h2,h3,h4,h5⟩
    rw [upd_ne (ne_of ec e (fun z=>nomatch z))]
    exact ec
end
section
variable {X:Cx} {pins:List (Addr×Obj)} {σ:St} {H:Hp} {s:Shared} {a:Addr} {kvs:List (Key×V)} {k:Key} {u:Value} {A:Around} {E:Value→Shared→Prop}
theorem d_len{Q:Value→Shared→Prop}(I:Inv X pins σ H s)(e:Rd H a (.dK kvs))(h:∀t s',Inv X pins σ H s'→Q (.int kvs.length t) s'):wpAny (model X.prog X.w) A (call (.builtin "len") [.ref a]) Q E s:=by
  obtain ⟨z,hd,vs,rel,dd⟩:=dk_rd I.hok e
  refine call_len_dict hd dd (by rw [← rel.length];rw [sizeLine_eq]at z;omega) ?_
  rw [← rel.length]
  exact h _ _ (I.tok _)
end
noncomputable def NoSl(i:Expr):Prop:=∀ov iv,subscripted i false ov iv=operate [ov,iv] (getItem ov iv)
theorem subD_of{prog:Program}{w:World}{A:Around}{E:Value→Shared→Prop}{s:Shared}{env:Env}{value slice:Expr}{pos:Pos}{T id:String}{Q:Value→Shared→Prop}
    (hl:typeLookup (.type T) "__getitem__"=pure (some (.builtin id))) (hs:NoSl slice)
    (h:wpAny (model prog w) A (eval value env) (fun o s₁=>wpAny (model prog w) A (eval slice env) (fun i s₂=>s₂.TypeIs o T∧wpAny (model prog w) A (getItem o i) Q E s₂) E s₁) E s):
    wpAny (model prog w) A (eval (.Subscript value slice pos) env) Q E s:=by
  refine Subscript_ (wpAny_mono h (fun o s₁ h₁=>wpAny_mono h₁ (fun i s₂ h₂=>?_) fun _ _ x=>x) fun _ _ x=>x)
  obtain ⟨hT,h₂⟩:=h₂
  unfold subscriptTail
  refine wpAny_bind ?_
  rw [getitemInPython_of_ne hT.not_modules]
  refine wpAny_bind (wpAny_specialOf hT hl ?_)
  have fin:wpAny (model prog w) A (subscripted slice false o i) (fun r s₃=>wpAny (model prog w) A (letTemporaryGo value o r >>=fun _=>pure r) Q E s₃) E s₂:=by
    rw [hs o i]
    exact wpAny_operating (wpAny_mono h₂ (fun r s₃ h₃=>wpAny_bind (wpAny_letTemporaryGo (wpAny_pure h₃))) fun _ _ x=>x)
  first
    | exact wpAny_pure (wpAny_bind fin)
    | exact wpAny_bind (wpAny_pure (wpAny_bind fin))
    | exact wpAny_bind fin
theorem dict_typeIs{X:Cx}{pins:List (Addr×Obj)}{σ:St}{H:Hp}{s:Shared}{a:Addr}{y:V}{o:Option V}(I:Inv X pins σ H s)(g:DGet H a y o):s.TypeIs (.ref a) "dict":=by
  rcases g with ⟨kvs,k,e,_,_⟩ | ⟨kvs,k,b,e,_,_,_⟩
  · obtain ⟨_,_,vs,_,dd⟩:=dk_rd I.hok e
    exact dd.typeIs
  · obtain ⟨_,_,xs,_,dd⟩:=dt_rd I.hok e
    exact dd.typeIs
noncomputable def tDGet(td ty:TE):TE:=fun σ H Q=>td σ H fun x H1=>ty σ H1 fun y H2=>∃a v,x= .ref a∧DGet H2 a y (some v)∧Q v H2
noncomputable def tDIn(ty td:TE):TE:=fun σ H Q=>ty σ H fun y H1=>td σ H1 fun x H2=>∃a o,x= .ref a∧DGet H2 a y o∧Q (.bl o.isSome) H2
noncomputable def tDNotIn(ty td:TE):TE:=fun σ H Q=>ty σ H fun y H1=>td σ H1 fun x H2=>∃a o,x= .ref a∧DGet H2 a y o∧Q (.bl (!o.isSome)) H2
noncomputable def sDPut(td ty tv:TE):TS:=fun D σ H=>tv σ H fun v H1=>td σ H1 fun x H2=>ty σ H2 fun y H3=>∃a H4,x= .ref a∧DPut H3 a y v H4∧D.nx σ H4
section
variable {X:Cx} {o i e value:Expr} {pos pos' tpos:Pos} {td ty tv:TE}
theorem pe_dget(hu:X.A.units+1 < cLine)(ho:PE X o td)(hi:PE X i ty)(hs:NoSl i):PE X (.Subscript o i pos) (tDGet td ty):=by
  intro pins s σ H Q I h
  refine subD_of PySem.F.slot_dict_getitem.lookup hs (thn (ho pins s σ H _ I h) fun u s1 ⟨x,H1,I1,rx,q1⟩=>thn (hi pins s1 σ H1 _ I1 q1) fun iv s2 ⟨y,H2,I2,ry,a,v,ex,g,q2⟩=>?_)
  subst ex
  obtain rfl:u=Value.ref a:=rx
  exact ⟨dict_typeIs I2 g,d_getItem hu I2 g ry fun w' s3 I3 rw'=>⟨v,H2,I3,rw',q2⟩⟩
theorem pc_din(hu:X.A.units+1 < cLine)(hi:PE X i ty)(ho:PE X o td):PC X .In i o (tDIn ty td):=by
  intro pins s σ H Q I h
  refine thn (hi pins s σ H _ I h) fun iv s1 ⟨y,H1,I1,ry,q1⟩=>thn (ho pins s1 σ H1 _ I1 q1) fun u s2 ⟨x,H2,I2,rx,a,ov,ex,g,q2⟩=>?_
  subst ex
  obtain rfl:u=Value.ref a:=rx
  exact d_in hu I2 g ry fun s3 I3=>⟨.bl ov.isSome,H2,I3,rfl,q2⟩
theorem pc_dnotin(hu:X.A.units+1 < cLine)(hi:PE X i ty)(ho:PE X o td):PC X .NotIn i o (tDNotIn ty td):=by
  intro pins s σ H Q I h
  refine thn (hi pins s σ H _ I h) fun iv s1 ⟨y,H1,I1,ry,q1⟩=>thn (ho pins s1 σ H1 _ I1 q1) fun u s2 ⟨x,H2,I2,rx,a,ov,ex,g,q2⟩=>?_
  subst ex
  obtain rfl:u=Value.ref a:=rx
  exact d_notIn hu I2 g ry fun s3 I3=>⟨.bl (!ov.isSome),H2,I3,rfl,q2⟩
theorem ps_dput(hu:X.A.units+1 < cLine)(ho:PE X o td)(hi:PE X i ty)(hv:PE X value tv)(hs:swapsWith value (some (.Subscript o i pos')) pos.line X.env=pure false):
    PS X (.Assign [.Subscript o i pos'] value pos) (sDPut td ty tv):=by
  intro pins s σ H D I h
  refine wpAny_Assign_Subscript (thn (hv pins s σ H _ I h) fun r s1 ⟨v,H1,I1,rv,q1⟩=>thn (ho pins s1 σ H1 _ I1 q1) fun u s2 ⟨x,H2,I2,rx,q2⟩=>thn (hi pins s2 σ H2 _ I2 q2) fun iv s3 ⟨y,H3,I3,ry,a,H4,ex,g,q3⟩=>?_) hs
  subst ex
  obtain rfl:u=Value.ref a:=rx
  exact d_setItem hu I3 g ry rv fun s4 I4=>⟨σ,H4,I4,q3⟩
end
theorem dk_empty{P:Program}{w:World}{H:Hp}(h:Heap)(hb:sysModules < h.objs.size):ObjOk P w H (h.push {cls:= .type "dict",data:= .dict #[]}) h.objs.size (.dK []):=
  ⟨Nat.zero_le _,beq_eq_false_iff_ne.mpr (Ne.symm (Nat.ne_of_lt hb)),[],.nil,Heap.DictOf.new h⟩
noncomputable def tDNewK:TE:=fun _ H Q=>∀p,H p=none→Q (.ref p) (upd H p (.dK []))
section
variable {X:Cx} {pos:Pos}
theorem pe_dnewK:PE X (.Dict [] [] pos) tDNewK:=fun pins s σ H Q I h=>
  wpAny_Dict_empty ⟨.ref s.heap.objs.size,_,I.laid (a:=s.heap.objs.size) (o:= .dK []) (t':=s.toks) (fun _ _ q=>Heap.get?_push_of_some _ q) (Nat.le_refl _) (dk_empty s.heap I.big),rfl,h _ (I.hok.fresh (Nat.le_refl _))⟩
end
noncomputable def tPairs:List (TE×TE)→St→Hp→(List (V×V)→Hp→Prop)→Prop
  | [],_,H,Q=>Q [] H
  | (tk,tv)::r,σ,H,Q=>tk σ H fun x H1=>tv σ H1 fun y H2=>tPairs r σ H2 fun ps H3=>Q ((x,y)::ps) H3
noncomputable abbrev VV:List (V×V)→List (Value×Value)→Prop:=Paired fun p q=>RelV p.1 q.1∧RelV p.2 q.2
noncomputable def PPs(X:Cx)(pos:Pos)(keys:List (Option Expr))(values:List Expr)(trs:List (TE×TE)):Prop:=
  ∀(pins:List (Addr×Obj)) (s:Shared) (σ:St) (H:Hp) (Q:List (V×V)→Hp→Prop),Inv X pins σ H s→tPairs trs σ H Q→
    wpAny (model X.prog X.w) X.A (evalPairs (pairTrees keys values X.env pos)) (fun vs s'=>∃ps H',Inv X pins σ H' s'∧VV ps vs∧Q ps H') X.xe s
theorem pps_nil{X:Cx}{pos:Pos}:PPs X pos [] [] []:=fun pins s σ H Q I h=>pairTrees_nil_walk ⟨[],H,I,.nil,h⟩
theorem pps_cons{X:Cx}{pos:Pos}{k v:Expr}{ks:List (Option Expr)}{vs:List Expr}{tk tv:TE}{trs:List (TE×TE)}(hk:PE X k tk)(hv:PE X v tv)(hr:PPs X pos ks vs trs):
    PPs X pos (some k::ks) (v::vs) ((tk,tv)::trs):=fun pins s σ H Q I h=>
  pairTrees_cons_walk (thn (hk pins s σ H _ I h) fun u s1 ⟨x,H1,I1,rx,q1⟩=>thn (hv pins s1 σ H1 _ I1 q1) fun w2 s2 ⟨y,H2,I2,ry,q2⟩=>
    thn (hr pins s2 σ H2 _ I2 q2) fun ws s3 ⟨ps,H3,I3,rel,q3⟩=>⟨(x,y)::ps,H3,I3,.cons ⟨rx,ry⟩ rel,q3⟩)
noncomputable def mergeK(kvs more:List (Key×V)):List (Key×V):=more.foldl (fun acc kv=>putK acc kv.1 kv.2) kvs
theorem KV.merge:∀{more:List (Key×V)} {rs:List (Key×Value)} {kvs:List (Key×V)} {vs:List (Key×Value)},KV more rs→KV kvs vs→KV (mergeK kvs more) (merged vs rs):=by
  intro more rs kvs vs r
  unfold KV at r
  induction r generalizing kvs vs with
  | nil=>intro q;exact q
  | @cons p q ps qs h t ih=>
    intro r0
    have e:KV (putK kvs p.1 p.2) (stored vs q.1 q.2):=by
      have:=r0.put p.1 h.2
      rw [← h.1];exact this
    exact ih e
theorem length_mergeK:∀(more kvs:List (Key×V)),(mergeK kvs more).length≤kvs.length+more.length
  | [],kvs=>by show kvs.length≤kvs.length+0;omega
  | p::r,kvs=>by
    have h1:=length_mergeK r (putK kvs p.1 p.2)
    have h2:=length_putK kvs p.1 p.2
    show (mergeK (putK kvs p.1 p.2) r).length≤_
    rw [List.length_cons];omega
theorem carries_of{P:Program}{w:World}:∀{kvs:List (Key×V)} {ws:List (Value×Value)},VV (kvs.map fun kv=>(kV kv.1,kv.2)) ws→∃rs,Carries (mixKind P w) ws rs∧KV kvs rs
  | [],_,r=>by rw [List.map_nil]at r;cases r;exact ⟨[],True.intro,.nil⟩
  | p::kvs,_,r=>by
    rw [List.map_cons]at r
    cases r with
    | @cons a b as bs h t=>
      obtain ⟨rs,c,q⟩:=carries_of (P:=P) (w:=w) t
      obtain ⟨b1,b2⟩:=b
      exact ⟨(p.1,b2)::rs,⟨kV_is h.1,rfl,c⟩,.cons ⟨rfl,h.2⟩ q⟩
noncomputable def tDisp(trs:List (TE×TE)):TE:=fun σ H Q=>∀p,H p=none→tPairs trs σ (upd H p (.dK [])) fun ps H2=>H2 p=some (.dK [])∧∃kvs:List (Key×V),ps=kvs.map (fun kv=>(kV kv.1,kv.2))∧kvs.length≤15∧Q (.ref p) (upd H2 p (.dK (mergeK [] kvs)))
theorem pe_disp{X:Cx}{pos:Pos}{keys:List (Option Expr)}{values:List Expr}{trs:List (TE×TE)}(h:PPs X pos keys values trs)(hall:keys.all (·.isSome)=true)(hl:keys.length=values.length)(h0:keys≠[])
    (h15:keys.length≤15):PE X (.Dict keys values pos) (tDisp trs):=by
  intro pins s σ H Q I q
  have hn:=I.hok.fresh (Nat.le_refl s.heap.objs.size)
  have I1:=I.laid (a:=s.heap.objs.size) (o:= .dK []) (h':=s.heap.push {cls:= .type "dict",data:= .dict #[]}) (t':=s.toks) (fun _ _ q=>Heap.get?_push_of_some _ q) (Nat.le_refl _) (dk_empty s.heap I.big)
  refine wpAny_Dict_walk (knd:=mixKind X.prog X.w) hall hl h0 h15 (thn (h pins _ σ _ _ I1 (q _ hn)) fun ws s2 ⟨ps,H2,I2,rel,e,kvs,ep,lk,q2⟩=>?_)
  subst ep
  obtain ⟨rs,c,rk⟩:=carries_of (P:=X.prog) (w:=X.w) rel
  obtain ⟨z,hd,vs0,r0,dd⟩:=dk_of I2.hok e
  cases r0
  refine ⟨rs,c,dd,fun h' dd' hs=>⟨.ref s.heap.objs.size,_,?_,rfl,q2⟩⟩
  have hz:(mergeK [] kvs).length≤sizeLine:=by
    have h1:=length_mergeK kvs []
    rw [List.length_nil]at h1
    rw [sizeLine_eq];omega
  have he:∃q,h'.get? s.heap.objs.size=some q:=let ⟨q,_,_,hq,_⟩:=dd';⟨q,hq⟩
  exact d_write I2 (by rw [e];exact True.intro) hs he (dk_new hz hd (rk.merge .nil) dd')
structure M1(X:Cx)(o:Expr)(m:Str)(apos:Pos)(e:Expr)(cpos:Pos):Prop where
  base:attributeBase o m X.env (eval o X.env)=eval o X.env
  few:((backTo cpos (starEach [e] X.env)).all (fun x=>!x.1) && (backToKw cpos (keywordEach [] X.env)).all (fun x=>x.1.isSome)
    && decide (([e]:List Expr).length+([]:List Keyword).length+(if ([]:List Keyword).isEmpty then 0 else 1) < 30))=true
  line:(apos.endLine==cpos.line)=true
  trees:backTo cpos (starEach [e] X.env)=[(false,eval e X.env)]
structure M2(X:Cx)(o:Expr)(m:Str)(apos:Pos)(e f:Expr)(cpos:Pos):Prop where
  base:attributeBase o m X.env (eval o X.env)=eval o X.env
  few:((backTo cpos (starEach [e,f] X.env)).all (fun x=>!x.1) && (backToKw cpos (keywordEach [] X.env)).all (fun x=>x.1.isSome)
    && decide (([e,f]:List Expr).length+([]:List Keyword).length+(if ([]:List Keyword).isEmpty then 0 else 1) < 30))=true
  line:(apos.endLine==cpos.line)=true
  trees:backTo cpos (starEach [e,f] X.env)=[(false,eval e X.env),(false,eval f X.env)]
noncomputable def IsD(H:Hp)(a:Addr):Prop:=(∃kvs,Rd H a (.dK kvs))∨∃kvs,Rd H a (.dT kvs)
theorem isD_at{X:Cx}{pins:List (Addr×Obj)}{σ:St}{H:Hp}{s:Shared}{a:Addr}(I:Inv X pins σ H s)(d:IsD H a):
    s.TypeIs (.ref a) "dict"∧(∀b,Value.ref a= .ref b→∃ob,s.heap.get? b=some ob∧ob.dict=none)∧(a==sysModules)=false:=by
  rcases d with ⟨kvs,e⟩ | ⟨kvs,e⟩
  · obtain ⟨_,hd,vs,_,dd⟩:=dk_rd I.hok e
    refine ⟨dd.typeIs,fun b q=>?_,hd⟩
    cases q
    obtain ⟨ob,_,_,h1,h2,_⟩:=dd
    exact ⟨ob,h1,h2.2.1⟩
  · obtain ⟨_,hd,xs,_,dd⟩:=dt_rd I.hok e
    refine ⟨dd.typeIs,fun b q=>?_,hd⟩
    cases q
    obtain ⟨ob,_,_,h1,h2,_⟩:=dd
    exact ⟨ob,h1,h2.2.1⟩
section
variable {X:Cx} {pins:List (Addr×Obj)} {σ:St} {H:Hp} {s:Shared} {a:Addr} {y d:V} {u r:Value} {o:Option V} {A:Around} {E:Value→Shared→Prop}
theorem d_get2{Q:Value→Shared→Prop}(hu:A.units+1 < cLine)(I:Inv X pins σ H s)(g:DGet H a y o)(ry:RelV y u)(rd:RelV d r)(h:∀w' s',Inv X pins σ H s'→RelV (o.getD d) w'→Q w' s'):
    wpAny (model X.prog X.w) A (call (.builtin "dict.get") [.ref a,u,r]) Q E s:=by
  rcases g with ⟨kvs,k,e,ey,l⟩ | ⟨kvs,k,b,e,ey,eb,l⟩
  · subst ey
    obtain ⟨z,hd,vs,rel,dd⟩:=dk_rd I.hok e
    refine call_meetsIn PySem.F.slot_dict_get dd.typeIs PySem.F.entry_dict_get (PySem.F.args_dict_get_3 _ _ _) (meets_dict_get_default (mixKind X.prog X.w) a (kV_is ry) hd r) ⟨_,dd.mapOf,h _ _ (I.tok _) ?_⟩
    rw [l]
    exact (rel.val k).getD rd
  · subst ey
    cases (show u=Value.ref b from ry)
    obtain ⟨z,hd,xs,rel,dd⟩:=dt_rd I.hok e
    refine call_meetsIn PySem.F.slot_dict_get dd.typeIs PySem.F.entry_dict_get (PySem.F.args_dict_get_3 _ _ _) (meetsH_dict_get_default (tupleKind (mixKind X.prog X.w)) a b hd r) ⟨tupleKind_room_in1 hu,k,xs,key_of I.hok eb,dd,h _ _ (I.tok _) ?_⟩
    rw [l]
    exact (rel.val k).getD rd
end
noncomputable def tDGet1(td ty:TE):TE:=fun σ H Q=>td σ H fun x H1=>∃a,x= .ref a∧IsD H1 a∧ty σ H1 fun y H2=>∃o,DGet H2 a y o∧Q (o.getD .non) H2
noncomputable def tDGet2(td ty tx:TE):TE:=fun σ H Q=>td σ H fun x H1=>∃a,x= .ref a∧IsD H1 a∧ty σ H1 fun y H2=>tx σ H2 fun z H3=>∃o,DGet H3 a y o∧Q (o.getD z) H3
noncomputable def tDPop1(td ty:TE):TE:=fun σ H Q=>td σ H fun x H1=>∃a,x= .ref a∧IsD H1 a∧ty σ H1 fun y H2=>∃kvs k v,H2 a=some (.dK kvs)∧y=kV k∧valV kvs k=some v∧Q v (upd H2 a (.dK (dropK kvs k)))
section
variable {X:Cx} {o e f:Expr} {apos cpos:Pos} {td ty tx:TE}
theorem pe_dget2(hu:X.A.units+1 < cLine)(ho:PE X o td)(he:PE X e ty)(hf:PE X f tx)(m:M2 X o "get" apos e f cpos):PE X (.Call (.Attribute o "get" apos) [e,f] [] cpos) (tDGet2 td ty tx):=by
  intro pins s σ H Q I h
  refine wpAny_Call_method m.base m.few m.line PySem.F.plainAttrs_dict PySem.F.slot_dict_get PySem.F.type_dict_get (thn (ho pins s σ H _ I h) fun u s1 ⟨x,H1,I1,rx,a,ex,d,q1⟩=>?_)
  subst ex
  obtain rfl:u=Value.ref a:=rx
  obtain ⟨t1,t2,_⟩:=isD_at I1 d
  refine ⟨t1,t2,?_⟩
  rw [m.trees]
  refine Calls.callWith_builtin rfl (Calls.evalArgs_plain (Calls.spliced_cons (thn (he pins s1 σ H1 _ I1 q1) fun iv s2 ⟨y,H2,I2,ry,q2⟩=>
    Calls.spliced_cons (thn (hf pins s2 σ H2 _ I2 q2) fun fv s3 ⟨z,H3,I3,rz,ov,g,q3⟩=>Calls.spliced_nil ?_))))
  exact d_get2 hu I3 g ry rz fun w' s4 I4 rw'=>⟨_,H3,I4,rw',q3⟩
end
section
variable {X:Cx} {pins:List (Addr×Obj)} {σ:St} {H:Hp} {s:Shared} {a:Addr} {kvs:List (Key×V)} {A:Around} {E:Value→Shared→Prop}
end
section
variable {X:Cx} {pins:List (Addr×Obj)} {σ:St} {H:Hp} {s:Shared} {a:Addr} {y:V} {u:Value} {A:Around} {E:Value→Shared→Prop}
end
end L2
namespace L2
open PySem PySem.Spec PyProof.Rows
section
variable {X:Cx}
theorem call_lenD:CallR X (.builtin "len") (fun xs H Q=>∃a kvs,xs=[V.ref a]∧H a=some (.dK kvs)∧Q (.int kvs.length) H):=by
  intro pins s σ H xs us Q I r h
  obtain ⟨a,kvs,rfl,ha,q⟩:=h
  obtain ⟨u,rfl,ru⟩:=vals1 r
  cases ru
  exact d_len I (.inl ha) fun t s' I'=>⟨.int kvs.length,H,I',⟨t,rfl⟩,q⟩
end
section
variable {κ:Type} [DecidableEq κ]
theorem valV_not{kvs:List (κ×V)}{k:κ}(h:valV kvs k=none):¬k∈kvs.map (·.1):=by
  intro m
  obtain ⟨p,hp,e⟩:=List.mem_map.mp m
  have q:(kvs.any fun kv=>decide (kv.1=k))=true:=List.any_eq_true.mpr ⟨p,hp,decide_eq_true e⟩
  rw [valV_any,h]at q
  exact absurd q (by simp)
theorem valV_in{kvs:List (κ×V)}{k:κ}{v:V}(h:valV kvs k=some v):k∈kvs.map (·.1):=by
  have q:(kvs.any fun kv=>decide (kv.1=k))=true:=by
    rw [valV_any,h]
    all_goals rfl
  obtain ⟨p,hp,e⟩:=List.any_eq_true.mp q
  exact List.mem_map.mpr ⟨p,hp,of_decide_eq_true e⟩
end
end L2
set_option Elab.async false
set_option linter.all false
set_option maxRecDepth 100000
set_option maxHeartbeats 4000000
namespace L2
open PySem PySem.Spec PyProof.Rows
structure Def(P:Program)(w:World)(K:PySem.W.Frag)(mg:Str→Option Value)(base:Heap)(CX:CXT)(k:Nat)(x:Str)(ps:List Str)(sp:Sp):Prop where
  ex:∃(f:Addr) (fd:FuncData),FnOk P w K mg base CX k f fd ps sp∧mg x=some (.ref f)∧PySem.W.keepIn K (.ref f)=true∧Binds K fd ps []
noncomputable def tCallD(sp:Sp)(E:XK)(t:TA):TE:=fun σ H Q=>t σ H fun vs H1=>sp vs H1 Q E
section
variable {X:Cx} {CX:CXT} {k j:Nat} {ps:List Str} {sp:Sp} {E:XK} {x:Str} {p pos:Pos} {e:Expr} {es:List Expr} {t:TA}
theorem pe_callD(D:Def X.prog X.w X.K X.mg X.base CX j x ps sp)(hr:Room k X.A)(hg:Gl X x)(hx:Passes CX X E)(ha:PA X (e::es) t)(hj:j≤k:=by decide)
    (hdb:(x==("__debug__":Str))=false:=by decide) (he:starEach (e::es) X.env=(false,eval e X.env)::starEach es X.env:=by rfl) (hpl:(backTo pos (starEach es X.env)).any (·.1)=false:=by rfl):
    PE X (.Call (.Name x p) (e::es) [] pos) (tCallD sp E t):=by
  obtain ⟨f,fd,F,hm,hk,hb⟩:=D.ex
  intro pins s σ H Q I h
  refine pe_call (F.mono hj) hr hg hm hk hb .nil hx ha hdb he hpl pins s σ H Q I ?_
  show t σ H fun vs H1=>sp (vs++[]) H1 Q E
  have z:(fun (vs:List V) (H1:Hp)=>sp (vs++[]) H1 Q E)=fun vs H1=>sp vs H1 Q E:=by funext vs H1;rw [List.append_nil]
  rw [z]
  exact h
end
noncomputable def CBig(i j:Int):Prop:=i.natAbs < 10 ^ 100∧j.natAbs < 10 ^ 100
theorem big_pow:(10:Nat) ^ 100≤2 ^ 1000:=by decide+kernel
theorem bits_of{i:Int}(h:i.natAbs < 10 ^ 100):Builtin.Int.intBits i≤2 ^ 20:=by
  have h1:Builtin.Int.intBits i≤1000:=by
    unfold Builtin.Int.intBits
    split
    · omega
    · rename_i hne
      have:=(Nat.log2_lt (n:=i.natAbs) (k:=1000) (by simpa using hne)).mpr (Nat.lt_of_lt_of_le h big_pow)
      omega
  exact Nat.le_trans h1 (by decide)
section
variable {X:Cx}
theorem op_mulB:OpR X (binaryOp .Mult) (rI CBig fun i j=> .int (i * j)):=opI fun _ _ _ _ _ _ _ hc q=>mul_int q (.of_bits (bits_of hc.1) (bits_of hc.2))
end
noncomputable def Isi(K:PySem.W.Frag)(H:Hp)(x:V)(n:String)(b:Bool):Prop:=∃t,TyOf K H x t∧PySem.W.kitOne K t (.type n)=some b
section
variable {X:Cx}
theorem call_isinst:CallR X (.builtin "isinstance") (fun xs H Q=>∃x n b,xs=[x,.ty n]∧Isi X.K H x n b∧Q (.bl b) H):=by
  intro pins s σ H xs us Q I r h
  obtain ⟨x,n,b,rfl,⟨t,ty,e⟩,q⟩:=h
  obtain ⟨u,c,rfl,r1,r2⟩:=vals2 r
  cases r2
  exact isinst_ok I r1 ty e fun tk=>⟨.bl b,H,I.tok _,rfl,q⟩
end
section
variable {K:PySem.W.Frag} {H:Hp}
theorem isi_ii{i:Int}:Isi K H (.int i) "int" true:=⟨_,.int i,rfl⟩
theorem isi_ib{i:Int}:Isi K H (.int i) "bool" false:=⟨_,.int i,by with_unfolding_all rfl⟩
theorem isi_is{i:Int}:Isi K H (.int i) "str" false:=⟨_,.int i,by with_unfolding_all rfl⟩
theorem isi_bb{i:Bool}:Isi K H (.bl i) "bool" true:=⟨_,.bl i,rfl⟩
theorem isi_bi{i:Bool}:Isi K H (.bl i) "int" true:=⟨_,.bl i,by with_unfolding_all rfl⟩
theorem isi_bs{i:Bool}:Isi K H (.bl i) "str" false:=⟨_,.bl i,by with_unfolding_all rfl⟩
theorem isi_ss{i:Str}:Isi K H (.str i) "str" true:=⟨_,.str i,rfl⟩
theorem isi_si{i:Str}:Isi K H (.str i) "int" false:=⟨_,.str i,by with_unfolding_all rfl⟩
theorem isi_sb{i:Str}:Isi K H (.str i) "bool" false:=⟨_,.str i,by with_unfolding_all rfl⟩
theorem isi_ni:Isi K H .non "int" false:=⟨_,.non,by with_unfolding_all rfl⟩
theorem isi_ns:Isi K H .non "str" false:=⟨_,.non,by with_unfolding_all rfl⟩
theorem isi_lstl{a:Addr}{xs:List V}(e:H a=some (.lst xs)):Isi K H (.ref a) "list" true:=⟨_,.lst e,rfl⟩
theorem isi_lsts{a:Addr}{xs:List V}(e:H a=some (.lst xs)):Isi K H (.ref a) "str" false:=⟨_,.lst e,by with_unfolding_all rfl⟩
theorem isi_lsti{a:Addr}{xs:List V}(e:H a=some (.lst xs)):Isi K H (.ref a) "int" false:=⟨_,.lst e,by with_unfolding_all rfl⟩
theorem isi_lstt{a:Addr}{xs:List V}(e:H a=some (.lst xs)):Isi K H (.ref a) "tuple" false:=⟨_,.lst e,by with_unfolding_all rfl⟩
theorem isi_tupt{a:Addr}{xs:List V}(e:H a=some (.tup xs)):Isi K H (.ref a) "tuple" true:=⟨_,.tup e,rfl⟩
theorem isi_tups{a:Addr}{xs:List V}(e:H a=some (.tup xs)):Isi K H (.ref a) "str" false:=⟨_,.tup e,by with_unfolding_all rfl⟩
theorem isi_tupi{a:Addr}{xs:List V}(e:H a=some (.tup xs)):Isi K H (.ref a) "int" false:=⟨_,.tup e,by with_unfolding_all rfl⟩
theorem isi_tupl{a:Addr}{xs:List V}(e:H a=some (.tup xs)):Isi K H (.ref a) "list" false:=⟨_,.tup e,by with_unfolding_all rfl⟩
theorem isi_go{x:V}{n:String}{b:Bool}{R:Bool→Prop}(h:Isi K H x n b)(q:R b):∃b,Isi K H x n b∧R b:=⟨b,h,q⟩
theorem len_goL{p:Addr}{xs:List V}{R:List V→Prop}(h:SqL K H p xs)(q:R xs):∃ys,(SqL K H p ys∨SqT K H p ys)∧R ys:=⟨xs,.inl h,q⟩
theorem len_goT{p:Addr}{xs:List V}{R:List V→Prop}(h:SqT K H p xs)(q:R xs):∃ys,(SqL K H p ys∨SqT K H p ys)∧R ys:=⟨xs,.inr h,q⟩
theorem ixT_of{p:Addr}{xs:List V}{i:Int}{v:V}{Q:VK}(h:SqT K H p xs)(e:atI xs i=some v)(q:Q v H):rIxT K (.ref p) (.int i) H Q:=⟨p,xs,i,v,rfl,rfl,h,e,q⟩
theorem ixL_of{p:Addr}{xs:List V}{i:Int}{v:V}{Q:VK}(h:SqL K H p xs)(e:atI xs i=some v)(q:Q v H):rIxL K (.ref p) (.int i) H Q:=⟨p,xs,i,v,rfl,rfl,h,e,q⟩
end
theorem atI_of{α:Type}{xs:List α}{i:Int}{v:α}(h0:0≤i)(h:xs[i.toNat]?=some v):atI xs i=some v:=by
  unfold atI ixN
  have hl:i.toNat < xs.length:=(List.getElem?_eq_some_iff.mp h).1
  rw [if_pos h0,if_pos (show i < xs.length by omega)]
  exact h
theorem cxOf_K{CX:CXT}{P:Program}{w:World}{K:PySem.W.Frag}{mg:Str→Option Value}{base:Heap}{N:List Str}{qual:Str}{scope:Scope}{f:Addr}{cd:Value}{A:Around}{outer:List Env}{s:Shared}{H:Hp}{E:XK}:
    (cxOf CX P w K mg base N qual scope f cd A outer s H E).K=K:=rfl
theorem getMap{ns:List Int}{k:Nat}(h:k < ns.length):(ns.map V.int)[k]?=some (V.int (ns.getD k 0)):=by
  rw [List.getElem?_map,List.getD_eq_getElem?_getD,List.getElem?_eq_getElem h];rfl
theorem Same.tup{K:PySem.W.Frag}{H H':Hp}{a:Addr}{xs:List V}(e:Same H H')(h:SqT K H a xs):SqT K H' a xs:=by
  rcases h with (h | ⟨o,h⟩) | h
  · exact .inl (.inl (e _ _ h))
  · exact .inl (.inr ⟨o,e _ _ h⟩)
  · exact .inr h
theorem Same.new{H:Hp}{p:Addr}{o:HO}(h:H p=none):Same H (upd H p o):=fun b u e=>by
  rw [upd_ne (ne_of_none e h)];exact e
section
variable {σ:St} {H:Hp} {Q:VK} {QT:Bool→Hp→Prop} {QA:List V→Hp→Prop} {D:Ends} {K:PySem.W.Frag}
theorem rd_asg{te:TE}{g:TG}:tAsg te g D σ H=te σ H fun x H1=>g x σ H1 D.nx:=rfl
theorem rd_var{i:Nat}:tVar i σ H Q=∃v,σ[i]?=some (some v)∧Q v H:=rfl
theorem rd_c{v:V}:tC v σ H Q=Q v H:=rfl
theorem rd_op{r:R2}{ta tb:TE}:tOp r ta tb σ H Q=ta σ H fun x H1=>tb σ H1 fun y H2=>r x y H2 Q:=rfl
theorem rd_I0{g:Int→Int→V}{x y:V}:rI0 g x y H Q=∃i j,x= .int i∧y= .int j∧Q (g i j) H:=rfl
theorem rd_I{C:Int→Int→Prop}{g:Int→Int→V}{x y:V}:rI C g x y H Q=∃i j,x= .int i∧y= .int j∧C i j∧Q (g i j) H:=rfl
theorem rd_U{g:Int→V}{x:V}:rU g x H Q=∃i,x= .int i∧Q (g i) H:=rfl
theorem rd_name{i:Nat}{v:V}{N:St→Hp→Prop}:gName i v σ H N=N (σ.set i (some v)) H:=rfl
theorem rd_ifS{c:TT}{t u:TS}:tIfS c t u D σ H=c σ H fun b H1=>if b=true then t D σ H1 else u D σ H1:=rfl
theorem rd_test{t:TE}:tTest t σ H QT=t σ H fun x H'=>∃k,x= .bl k∧QT k H':=rfl
theorem rd_b{t:TE}:tB t σ H QT=t σ H fun x H1=>∃c,x= .bl c∧QT c H1:=rfl
theorem rd_ret{te:TE}:tRet te D σ H=te σ H D.rt:=rfl
theorem rd_retN:tRetN D σ H=D.rt .non H:=rfl
theorem rd_next:tNext D σ H=D.nx σ H:=rfl
theorem rd_break:tBreak D σ H=D.bk σ H:=rfl
theorem rd_cont:tCont D σ H=D.ct σ H:=rfl
theorem rd_cb{r:List V→Hp→VK→Prop}{t:TA}:tCB r t σ H Q=t σ H fun vs H1=>r vs H1 Q:=rfl
theorem rd_cons{ta:TE}{tr:TA}:tCons ta tr σ H QA=ta σ H fun x H1=>tr σ H1 fun xs H2=>QA (x::xs) H2:=rfl
theorem rd_nil:tNil σ H QA=QA [] H:=rfl
theorem rd_call{sp:Sp}{E:XK}{t:TA}:tCallD sp E t σ H Q=t σ H fun vs H1=>sp vs H1 Q E:=rfl
theorem rd_not{t:TT}:tNot t σ H QT=t σ H fun c H1=>QT (!c) H1:=rfl
theorem rd_or{t u:TT}:tOr t u σ H QT=t σ H fun c H1=>if c=true then QT true H1 else u σ H1 QT:=rfl
theorem rd_and{t u:TT}:tAnd t u σ H QT=t σ H fun c H1=>if c=true then u σ H1 QT else QT false H1:=rfl
theorem rd_andV{ta tb:TE}:tAndV ta tb σ H Q=ta σ H fun x H1=>∃c,x= .bl c∧if c=true then tb σ H1 Q else Q (.bl false) H1:=rfl
theorem rd_orV{ta tb:TE}:tOrV ta tb σ H Q=ta σ H fun x H1=>∃c,x= .bl c∧if c=true then Q (.bl true) H1 else tb σ H1 Q:=rfl
theorem rd_notV{ta:TE}:tNotV ta σ H Q=ta σ H fun x H1=>∃c,x= .bl c∧Q (.bl (!c)) H1:=rfl
theorem rd_if{t:TT}{ta tb:TE}:tIf t ta tb σ H Q=t σ H fun c H1=>if c=true then ta σ H1 Q else tb σ H1 Q:=rfl
theorem rd_un{r:V→Hp→VK→Prop}{ta:TE}:tUn r ta σ H Q=ta σ H fun x H1=>r x H1 Q:=rfl
theorem rd_eq{x y:V}:rEq x y H Q=(scal x y=true∧Q (.bl (decide (x=y))) H):=rfl
theorem rd_ne{x y:V}:rNe x y H Q=(scal x y=true∧Q (.bl (!decide (x=y))) H):=rfl
theorem rd_par{i j:Nat}{ta:TA}:tPar i j ta D σ H=ta σ H fun vs H1=>∃v w,vs=[v,w]∧D.nx ((σ.set i (some v)).set j (some w)) H1:=rfl
theorem rd_tup{t:TA}:tTup t σ H Q=t σ H fun xs H1=>xs.length≤sizeLine∧∀p,H1 p=none→Q (.ref p) (upd H1 p (.tup xs)):=rfl
theorem rd_lst{t:TA}:tLst t σ H Q=t σ H fun xs H1=>xs.length≤sizeLine∧∀p,H1 p=none→Q (.ref p) (upd H1 p (.lst xs)):=rfl
theorem rd_never:tNever D σ H=False:=rfl
theorem rd_drop{te:TE}:tDrop te D σ H=te σ H fun _ H1=>D.nx σ H1:=rfl
theorem rd_gcons{t:TG}{u:TGs}{vs:List V}{N:St→Hp→Prop}:gCons t u vs σ H N=∃v r,vs=v::r∧t v σ H fun σ' H'=>u r σ' H' N:=rfl
theorem rd_gnil{vs:List V}{N:St→Hp→Prop}:gNil vs σ H N=(vs=[]∧N σ H):=rfl
theorem rd_gsub{to ti:TE}{t:TSet}{v:V}{N:St→Hp→Prop}:gSub to ti t v σ H N=to σ H fun o H1=>ti σ H1 fun i H2=>t o i v H2 fun H3=>N σ H3:=rfl
theorem rd_chain{r r':R2}{ta tb tc:TE}:tChain r r' ta tb tc σ H Q=ta σ H fun x H1=>tb σ H1 fun y H2=>r x y H2 fun z H3=>∃k,z= .bl k∧
  (if k=true then tc σ H3 fun w' H4=>r' y w' H4 Q else Q (.bl false) H3):=rfl
theorem rd_rng1{ta:TA}{R:It→Hp→Prop}:iRng1 ta σ H R=ta σ H fun vs H1=>∃j:Int,vs=[.int j]∧-(2 ^ 62)≤j∧j < 2 ^ 62∧R (Itr 0 j.toNat) H1:=rfl
theorem rd_rng2{ta:TA}{R:It→Hp→Prop}:iRng2 ta σ H R=ta σ H fun vs H1=>∃i j:Int,vs=[.int i,.int j]∧(-(2 ^ 62)≤i∧i < 2 ^ 62∧-(2 ^ 62)≤j∧j < 2 ^ 62)∧R (Itr i (j - i).toNat) H1:=rfl
theorem rd_ilist{tl:TE}{R:It→Hp→Prop}:iList K tl σ H R=tl σ H fun x H1=>∃a,x= .ref a∧(∃xs,SqL K H1 a xs)∧R (Itl K a) H1:=rfl
theorem rd_itup{tl:TE}{R:It→Hp→Prop}:iTup K tl σ H R=tl σ H fun x H1=>∃a,x= .ref a∧(∃xs,SqT K H1 a xs)∧R (Itt K a) H1:=rfl
noncomputable def ForTail(g:TG)(tb:TS)(D:Ends)(σ:St):It→Hp→Prop:=fun J H1=>∃W:Nat→Nat→St→Hp→Prop,(∃m,W 0 m σ H1)∧∀i m σ H,W i m σ H→
  (J.stop i H∧D.nx σ H)∨(J.go i H∧∃N:St→Hp→Prop,(∀σ' H',N σ' H'→∃m',m' < m∧W (i+1) m' σ' H')∧∀x H',J.yld i H x H'→g x σ H' fun σ2 H2=>tb {D with nx:=N,ct:=N,bk:=D.nx} σ2 H2)
theorem rd_for'{wi:TI}{g:TG}{tb:TS}:tFor wi g tb D σ H=wi σ H (ForTail g tb D σ):=rfl
theorem forR_by{lo:Int}{n:Nat}{g:TG}{tb:TS}(Pv:Nat→St→Hp→Prop)(h0:Pv 0 σ H)
    (hs:∀i σ H,i < n→Pv i σ H→g (.int (lo+i)) σ H fun σ2 H2=>tb {D with nx:=Pv (i+1),ct:=Pv (i+1),bk:=D.nx} σ2 H2) (hd:∀σ H,Pv n σ H→D.nx σ H):ForTail g tb D σ (Itr lo n) H:=for_range Pv h0 hs hd
theorem forL_by{a:Addr}{xs:List V}{g:TG}{tb:TS}(Pv:Nat→St→Hp→Prop)(h0:Pv 0 σ H)(hl:∀i σ H,i≤xs.length→Pv i σ H→SqL K H a xs)
    (hs:∀i x σ H,xs[i]?=some x→Pv i σ H→g x σ H fun σ2 H2=>tb {D with nx:=Pv (i+1),ct:=Pv (i+1),bk:=D.nx} σ2 H2) (hd:∀σ H,Pv xs.length σ H→D.nx σ H):ForTail g tb D σ (Itl K a) H:=for_list Pv h0 hl hs hd
theorem seq_go{t u:TS}(h:∀rest:St→Hp→Prop,rest=u D→t {D with nx:=rest} σ H):tSeq t u D σ H:=h _ rfl
theorem leaf_go{rest r:St→Hp→Prop}(h:rest=r)(q:r σ H):rest σ H:=by rw [h];exact q
theorem cell_go{a:Addr}{ns:List Int}{k:Int}{R:List Int→Prop}(h:SqL K H a (ns.map V.int))(h0:0≤k)(hl:ns.length≤63)(q:R ns):∃x:List Int,SqL K H a (x.map V.int)∧0≤k∧x.length≤63∧R x:=⟨ns,h,h0,hl,q⟩
theorem cdiv_of{i j:Int}(h1:0 < j)(h2:j < 1073741824):CDiv i j:=⟨h1,h2⟩
theorem cpow_of{i j:Int}(h1:0≤j)(h2:j≤1000000)(h3:i.natAbs < 2 ^ 64):CPow i j:=⟨h1,h2,h3⟩
theorem cmul_l{i j:Int}(h1:-(2 ^ 64) < i)(h2:i < 2 ^ 64):CMul i j:= .inl ⟨h1,h2⟩
theorem cmul_r{i j:Int}(h1:-(2 ^ 64) < j)(h2:j < 2 ^ 64):CMul i j:= .inr ⟨h1,h2⟩
end
end L2
set_option Elab.async false
set_option linter.all false
set_option maxRecDepth 100000
set_option maxHeartbeats 4000000
namespace L2
open PySem PySem.Spec PyProof.Rows
section
variable {P:Program} {w:World} {H:Hp} {h:Heap} {a:Addr} {o:HO}
theorem ObjOk.there(x:ObjOk P w H h a o):∃ob,h.get? a=some ob:=by
  cases o with
  | lst xs=>obtain ⟨_,_,_,_,e⟩:=x;exact ⟨_,e⟩
  | tup xs=>obtain ⟨_,_,_,_,e,_⟩:=x;exact ⟨_,e⟩
  | dK kvs=>obtain ⟨_,_,_,_,_,_,_,e,_⟩:=x;exact ⟨_,e⟩
  | dT kvs=>obtain ⟨_,_,_,_,_,_,_,e,_⟩:=x;exact ⟨_,e⟩
  | set S n=>obtain ⟨_,_,_,_,e,_⟩:=x;exact ⟨_,e⟩
  | ins C dx fs=>obtain ⟨_,_,_,e,_⟩:=x;exact ⟨_,e⟩
  | own y=>exact x
  | xd fs=>obtain ⟨_,⟨_,_,_,e,_⟩,_⟩:=x;exact ⟨_,e⟩
  | rng lo hi=>obtain ⟨_,_,_,e⟩:=x;exact ⟨_,e⟩
  | frz ob u=>exact ⟨_,x.1⟩
  | tbl ps=>exact ⟨_,x⟩
  | met f y=>exact ⟨_,x⟩
  | ext φ=>exact x.2.1
theorem HOk.there(x:HOk P w H h)(e:H a=some o):∃ob,h.get? a=some ob:=(x a o e).there
end
noncomputable def Spares(fs:List Addr)(H':Hp)(g h B:Heap):Prop:=∀b o,h.get? b=some o→b∉fs→(H' b≠none∨∃u,g.get? b=some u)→B.get? b=some o
section
variable {P:Program} {w:World}
theorem stay_of{fs:List Addr}{H0 H':Hp}{g h h3 B:Heap}(u:Un fs [] H0 H' g h)(ok:HOk P w H' h)
    (hfr:∀b∈fs,∃o,g.get? b=some o∧∀vs,o.data≠ .fields vs) (hf0:∀b∈fs,H0 b=none) (hB:Spares fs H' g h B) (st:B.StaysIn h3) (up:h.UpToSlots h3):
    Un fs [] H0 H' g h3∧HOk P w H' h3∧Spares fs H' g h3 B:=by
  have fr':∀b∈fs,H' b=none:=fun b hb=>by
    obtain ⟨o,ho,_⟩:=hfr b hb
    exact u.free b o ho (hf0 b hb) (by simp)
  have tr:∀b o,H' b=some o→b∉fs:=fun b o e hb=>by rw [fr' b hb]at e;cases e
  have kp:∀b ob,h.get? b=some ob→b∉fs→(H' b≠none∨∃u,g.get? b=some u)→h3.get? b=some ob:=fun b ob e n c=>st b ob (hB b ob e n c)
  have sl:∀b o,g.get? b=some o→H0 b=none→b∈fs→b∉([]:List Addr)→∃sl,h3.get? b=some {o with slots:=sl}:=fun b o e n hb hx=>by
    obtain ⟨sl,e1⟩:=u.slot b o e n hb hx
    obtain ⟨o',e',d⟩:=hfr b hb
    rw [e]at e';cases e'
    obtain ⟨sl2,e2⟩:=up b _ e1 d
    exact ⟨sl2,e2⟩
  refine ⟨⟨fun b o e n hb hx=>kp b o (u.keep b o e n hb hx) hb (.inr ⟨o,e⟩),sl,u.free,fun b o e hx=>?_,u.tups,u.frzs,u.tbls⟩,fun a o e=>?_,fun b o e hb c=>?_⟩
  · by_cases hb:b∈fs
    · obtain ⟨s1,e1⟩:=sl b o e (hf0 b hb) hb hx
      exact ⟨_,e1⟩
    · obtain ⟨o',e1⟩:=u.there b o e hx
      exact ⟨o',kp b o' e1 hb (.inr ⟨o,e⟩)⟩
  · refine (ok a o e).stay (fun b v hc q=>kp b v q ?_ (.inl ?_)) (fun _ q=>q) fun _ _ q=>q
    · rcases hc with rfl | hc
      · exact tr _ _ e
      · exact tr _ _ hc
    · rcases hc with rfl | hc
      · rw [e];simp
      · rw [hc];simp
  · have z:∃o1,h.get? b=some o1:=by
      rcases c with c | ⟨u0,e0⟩
      · cases q:H' b with
        | none=>exact absurd q c
        | some v=>exact ok.there q
      · exact u.there b u0 e0 (by simp)
    obtain ⟨o1,e1⟩:=z
    have e2:=kp b o1 e1 hb c
    rw [e]at e2;cases e2
    exact hB b o e1 hb c
end
section
variable {X:Cx} {pins:List (Addr×Obj)} {σ:St} {H1 H2:Hp} {s1:Shared} {h2 h3 B:Heap}
theorem Inv.frm(I:Inv X pins σ H1 s1):∀b∈frs X.stack,∃o,s1.heap.get? b=some o∧∀vs,o.data≠ .fields vs:=fun b hb=>(I.stack.mem hb).2
theorem leave_of(I:Inv X pins σ H1 s1)(hex:X.ex=[])(u:Un (frs X.stack) [] H1 H2 s1.heap h2)(ok:HOk X.prog X.w H2 h2)(hB:Spares (frs X.stack) H2 s1.heap h2 B)(st:B.StaysIn h3)(up:h2.UpToSlots h3):
    Un X.fs [] X.H₀ H2 X.s₀.heap h3∧HOk X.prog X.w H2 h3∧Spares X.fs H2 X.s₀.heap h3 B:=by
  obtain ⟨U,ok3,hB3⟩:=stay_of u ok I.frm I.stkFree hB st up
  have bs:=I.base
  rw [hex]at bs
  have nl:∀b o,X.s₀.heap.get? b=some o→b≠X.env.locals:=fun b o e=>Nat.ne_of_lt (Nat.lt_of_lt_of_le (Heap.lt_size e) I.ok.above)
  have ns:∀b o,X.s₀.heap.get? b=some o→b∉X.fs→b∉frs X.stack:=fun b o e n hb=>(List.mem_cons.mp (I.stkSub b hb)).elim (nl b o e) n
  have sub:∀b∈X.fs,b∈frs X.stack:=fun b hb=>by
    rcases I.ok.stk with e | ⟨e,hf⟩
    · rw [e];exact hb
    · rw [e];unfold frs;rw [List.filterMap_cons,hf];exact List.mem_cons_of_mem _ hb
  have nt:∀b,H2 b≠none→b∉frs X.stack:=fun b c hb=>by
    obtain ⟨o,ho,_⟩:=I.frm b hb
    exact c (U.free b o ho (I.stkFree b hb) (by simp))
  refine ⟨⟨fun b o e n hb hx=>?_,fun b o e n hb hx=>?_,fun b o e n hx=>?_,fun b o e hx=>?_,fun b xs e=>U.tups b xs (bs.tups b xs e),fun b o v e=>U.frzs b o v (bs.frzs b o v e),fun b ps e=>?_⟩,ok3,fun b o e hb c=>?_⟩
  · exact U.keep b o (bs.keep b o e n hb hx) (bs.free b o e n hx) (ns b o e hb) hx
  · obtain ⟨sl,e1⟩:=bs.slot b o e n hb hx
    obtain ⟨sl2,e2⟩:=U.slot b _ e1 (bs.free b o e n hx) (sub b hb) hx
    exact ⟨sl2,e2⟩
  · obtain ⟨o',e1⟩:=bs.there b o e hx
    exact U.free b o' e1 (bs.free b o e n hx) hx
  · obtain ⟨o',e1⟩:=bs.there b o e hx
    exact U.there b o' e1 hx
  · obtain ⟨m1,e1⟩:=bs.tbls b ps e
    obtain ⟨m2,e2⟩:=U.tbls b _ e1
    exact ⟨m1++m2,by rw [e2,Array.append_assoc]⟩
  · rcases c with c | ⟨v,e0⟩
    · exact hB3 b o e (nt b c) (.inl c)
    · obtain ⟨o',e1⟩:=bs.there b v e0 (by simp)
      exact hB3 b o e (ns b v e0 hb) (.inr ⟨o',e1⟩)
end
section
variable {P:Program} {w:World} {K:PySem.W.Frag} {mg:Str→Option Value} {base:Heap} {N:List Str} {qual:Str} {scope:Scope} {f:Addr} {cd:Value} {A:Around} {outer:List Env} {s:Shared} {H:Hp} {E:XK}
end
end L2
set_option Elab.async false
set_option linter.all false
set_option maxRecDepth 100000
set_option maxHeartbeats 4000000
namespace L2
open PySem PySem.Spec PyProof.Rows
structure ExcC(K:PySem.W.Frag)(C:Addr):Prop where
  at_:∀h:Heap,K.In h→∃(nm q:Str) (N:Addr) (bs bm:List Value) (hdct:Bool) (sn:List Str) (sub:List Value) (ab:Bool) (col:Option Bool) (dd:Option Addr) (k0 k1 k2 k3 k5:Option Value) (mN:Str→Option Value),
    h.get? C=some (excClassObj nm q C N bs bm hdct sn sub ab col dd k0 k1 k2 k3 k5 "ValueError.__new__")∧h.Ns N mN∧mN "__init__"=none∧
    OwnTail h [.type "ValueError",.type "Exception",.type "BaseException",.type "object"] bm
noncomputable def tRaise(C:Addr)(EE:St→XK)(t:TA):TS:=fun _ σ H=>t σ H fun vs H1=>vs.length≤sizeLine∧∀x,H1 x=none→EE σ (.ref C) (some x) H1
section
variable {X:Cx} {EE:St→XK} {C:Addr} {x:Str} {np cpos pos:Pos} {e:Expr} {es:List Expr} {t:TA}
end
section
variable {P:Program} {w:World} {K:PySem.W.Frag} {mg:Str→Option Value} {base:Heap} {N:List Str} {qual:Str} {scope:Scope} {f:Addr} {cd:Value} {A:Around} {outer:List Env} {s:Shared} {H:Hp} {E:XK}
end
noncomputable def PassesS(CX:CXT)(X:Cx)(EE:St→XK):Prop:=∀(pins:List (Addr×Obj)) (σ:St) (H:Hp) (s:Shared) (e:Value) (s':Shared),Inv X pins σ H s→CX X.stack H s (EE σ) e s'→X.xe e s'
noncomputable def tCallE(sp:Sp)(EE:St→XK)(t:TA):TE:=fun σ H Q=>t σ H fun vs H1=>sp vs H1 Q (EE σ)
section
variable {X:Cx} {CX:CXT} {k j:Nat} {ps:List Str} {sp:Sp} {EE:St→XK} {x:Str} {p pos:Pos} {e:Expr} {es:List Expr} {t:TA}
theorem pe_callE(D:Def X.prog X.w X.K X.mg X.base CX j x ps sp)(hr:Room k X.A)(hg:Gl X x)(hx:PassesS CX X EE)(ha:PA X (e::es) t)(hj:j≤k:=by decide)
    (hdb:(x==("__debug__":Str))=false:=by decide) (he:starEach (e::es) X.env=(false,eval e X.env)::starEach es X.env:=by rfl) (hpl:(backTo pos (starEach es X.env)).any (·.1)=false:=by rfl):
    PE X (.Call (.Name x p) (e::es) [] pos) (tCallE sp EE t):=by
  obtain ⟨f,fd,F,hm,hk,hb⟩:=D.ex
  intro pins s σ H Q I h
  refine wpAny_Call_Name_kw (ld_glob I hg hm ?_ hdb)
  refine PySem.W.callWith_K (h₀:=X.base) I.ok.mod.kin hk (thn (ha pos pins s σ H _ I h) fun us s1 ⟨vs,H1,I1,r,q⟩=>⟨I1.kIn,?_⟩) he hpl
  have hl:us.length=ps.length:=by rw [← r.length];exact F.len _ _ _ _ q
  have hb':BindsTo s1 fd ⟨us,[]⟩ (ps.zip us):=by
    have z:=hb s1 us I1.kIn (by rw [List.append_nil];exact hl)
    rw [List.append_nil]at z
    exact z
  refine wpAny_call (codeAny_mono (F.run X.A X.stack s1 H1 ⟨us,[]⟩ us vs Q (EE σ) (hr.mono hj) I1.env0 hb' r q) fun rs s' hq=>?_)
  cases rs with
  | error ev=>exact hx pins σ H1 s1 ev s' I1 hq
  | ok fl=>
    cases fl with
    | ret u=>exact I1.after hq
    | next=>exact False.elim hq
    | brk=>exact False.elim hq
    | cont=>exact False.elim hq
end
structure Air(X:Cx)(pins:List (Addr×Obj))(σ:St)(H:Hp)(x:Addr)(cls:Value)(s:Shared):Prop where
  ex:∃(H0:Hp) (s0:Shared) (a0:Value) (B:Heap),Inv X pins σ H0 s0∧s.os=s0.os∧AllBare s.gens∧Un (frs X.stack) [] H0 H s0.heap s.heap∧HOk X.prog X.w H s.heap∧
    Heap.FlyingW B X.stack x cls a0 s.heap∧Spares (frs X.stack) H s0.heap s.heap B∧H x=none∧s0.heap.get? x=none
section
variable {X:Cx} {pins:List (Addr×Obj)} {σ:St} {H:Hp} {x:Addr} {cls:Value} {s:Shared}
theorem Air.inv(Z:Air X pins σ H x cls s):Inv X pins σ H s:=by
  obtain ⟨H0,s0,a0,B,I,os,bare,u,ok,fl,hB,hx,hn⟩:=Z.ex
  exact I.call' os u ok bare fun b hb=>absurd hb (by simp)
theorem Air.obj(Z:Air X pins σ H x cls s):∃ob vs,s.heap.get? x=some ob∧ob.cls=cls∧ob.data= .fields vs:=by
  obtain ⟨H0,s0,a0,B,I,os,bare,u,ok,fl,hB,hx,hn⟩:=Z.ex
  obtain ⟨oe,vs,h1,h2,h3,_⟩:=fl.first
  exact ⟨oe,vs,h1,h2,h3⟩
end
noncomputable abbrev Cx.sui(X:Cx)(x:Addr):Cx:={X with A:=X.A.mark (some (.ref x)),calm:=false,xe:=fun _ _=>False}
section
variable {X:Cx} {pins:List (Addr×Obj)} {σ:St} {H:Hp} {x:Addr} {cls:Value} {s:Shared}
theorem Cx.Ok.sui(ok:X.Ok)(x:Addr):(X.sui x).Ok:=
  ⟨ok.mod,ok.kind,ok.glob,ok.blt,ok.above,ok.inj,ok.has,ok.cab,fun z=>(by cases z),ok.frames,ok.stk,ok.exf,ok.bs,ok.bsz,ok.noex,ok.exfs,ok.funs,ok.frf⟩
theorem Inv.sui(I:Inv X pins σ H s)(x:Addr):Inv (X.sui x) pins σ H s:=⟨I.ok.sui x,I.os,I.bare,I.base,I.loc,I.cell,I.free,I.freeC,I.pin,I.hok,I.len⟩
theorem Inv.unsui(I0:X.Ok)(I:Inv (X.sui x) pins σ H s):Inv X pins σ H s:=⟨I0,I.os,I.bare,I.base,I.loc,I.cell,I.free,I.freeC,I.pin,I.hok,I.len⟩
theorem SP.unsui(I0:X.Ok){D:Ends}{f:Flow}{s':Shared}(h:SP (X.sui x) pins D f s'):SP X pins D f s':=by
  cases f with
  | next=>obtain ⟨σ',H',I,q⟩:=h;exact ⟨σ',H',I.unsui I0,q⟩
  | brk=>obtain ⟨σ',H',I,q⟩:=h;exact ⟨σ',H',I.unsui I0,q⟩
  | cont=>obtain ⟨σ',H',I,q⟩:=h;exact ⟨σ',H',I.unsui I0,q⟩
  | ret u=>obtain ⟨v,σ',H',I,r,q⟩:=h;exact ⟨v,σ',H',I.unsui I0,r,q⟩
end
noncomputable abbrev TH:=Value→Addr→TS
noncomputable def hNil:TH:=fun _ _ _ _ _=>False
section
variable {X:Cx} {C:Str} {c:Value} {np pos:Pos} {b₀:Stmt} {suite:List Stmt} {rest:List ExceptHandler} {ts:TS} {tr:TH}
theorem clause_test{pins:List (Addr×Obj)}{s:Shared}{σ:St}{H:Hp}{x:Addr}{cls:Value}{b:Bool}{R:Result→Shared→Prop}(Z:Air X pins σ H x cls s)(hv:∀(Q:Value→Shared→Prop) (E:Value→Shared→Prop),Q c s→wpAny (model X.prog X.w) (X.A.mark (some (.ref x))) (eval (.Name C np) X.env) Q E s)
    (e:PySem.W.exmOne X.K cls c=some b) (h:R (.ok (if b then .brk else .next)) s):
    codeAny (model X.prog X.w) (X.A.mark (some (.ref x))) (.handlers (.ref x) [.ExceptHandler (some (.Name C np)) none [] pos] X.env) R s:=by
  refine codeAny_handlers_test (hv _ _ ?_)
  obtain ⟨ob,vs,h1,h2,_⟩:=Z.obj
  have LT:PySem.W.Looks (model X.prog X.w) s.heap (typeOf (.ref x)) cls:=h2▸(PySem.W.Looks.ld h1).andThen .now
  exact (PySem.W.exm_one Z.inv.kIn LT e).here h
end
noncomputable def excO(x:Addr)(cls:Value):HO:= .ext fun h=>∃ob vs,h.get? x=some ob∧ob.cls=cls∧ob.data= .fields vs
section
variable {X:Cx} {pins:List (Addr×Obj)} {σ:St} {H:Hp} {x:Addr} {cls:Value} {s:Shared}
theorem name_goes{i:Nat}{n:Str}{M:Model}{A:Around}{E:Value→Shared→Prop}{pos:Pos}{Q:Unit→Shared→Prop}(I:Inv X pins σ H s)(hN:X.N.Nodup)(hi:X.N[i]?=some n)(hl:X.env.kindOf n=some .local)
    (h:∀s',Inv X pins (σ.set i none) H s'→Q () s'):wpAny M A (do bindName X.env n .none;unbindBehindTheSuite X.env n pos) Q E s:=by
  obtain ⟨m,hn,hm⟩:=id I.loc
  refine wpAny_nameGoes_keeps hl hn (by rw [I.ok.kind];rfl) fun h' v hn' hs=>h _ ?_
  obtain ⟨oL,_,_,hoL,_⟩:=id hn
  have nL:∀b o,X.s₀.heap.get? b=some o→b≠X.env.locals:=fun b o e=>Nat.ne_of_lt (Nat.lt_of_lt_of_le (Heap.lt_size e) I.ok.above)
  refine ⟨I.ok,I.os,I.bare,⟨fun b o e n hb hx=>(hs.2 b (nL b o e)).trans (I.base.keep b o e n hb hx),fun b o e n hb hx=>?_,I.base.free,fun b o e hx=>?_,I.base.tups,I.base.frzs,I.base.tbls⟩,⟨_,hn',fun j y v' e1 e2 e3=>?_⟩,fun y c e=>?_,I.free,I.freeC,fun p hp=>?_,fun b o e=>?_,by simpa using I.len⟩
  · obtain ⟨sl,e1⟩:=I.base.slot b o e n hb hx
    exact ⟨sl,(hs.2 b (nL b o e)).trans e1⟩
  · obtain ⟨o',e1⟩:=I.base.there b o e hx
    exact ⟨o',(hs.2 b (nL b o e)).trans e1⟩
  · have hj:j≠i:=by
      rintro rfl
      by_cases hlt:j < σ.length
      · rw [List.getElem?_set_self hlt]at e2;cases e2
      · rw [List.getElem?_eq_none (by rw [List.length_set];omega)]at e2;cases e2
    rw [List.getElem?_set_ne (Ne.symm hj)]at e2
    obtain ⟨u',r',q⟩:=hm j y v' e1 e2 e3
    refine ⟨u',r',?_⟩
    rcases q with ⟨k,e⟩ | ⟨k,c,e,z⟩
    · have ny:y≠n:=fun z=>hj (nodup_ix hN e1 (z▸hi))
      exact .inl ⟨k,by simp [ny,e]⟩
    · exact .inr ⟨k,c,e,z.sameBut hs (I.cne y c e)⟩
  · obtain ⟨w',z⟩:=I.cell y c e
    exact ⟨w',z.sameBut hs (I.cne y c e)⟩
  · obtain ⟨e,n1,ne,nf,d⟩:=I.pin p hp
    exact ⟨(hs.2 p.1 ne).trans e,n1,ne,nf,d⟩
  · refine (I.hok b o e).stay (fun c w' hc q=>(hs.2 c ?_).trans q) (fun _ q=>q) fun _ _ q=>q
    rintro rfl
    rcases hc with z | hc
    · rw [← z,I.free]at e;cases e
    · rw [I.free]at hc;cases hc
end
noncomputable def endsAs(i:Nat)(D:Ends):Ends:={nx:=fun σ H=>D.nx (σ.set i none) H,rt:=D.rt,bk:=fun σ H=>D.bk (σ.set i none) H,ct:=fun σ H=>D.ct (σ.set i none) H}
section
variable {X:Cx} {C n:Str} {c:Value} {i:Nat} {np pos:Pos} {b₀:Stmt} {suite:List Stmt} {rest:List ExceptHandler} {ts:TS} {tr:TH}
end
noncomputable abbrev Cx.tryX(X:Cx)(pn:List (Addr×Obj))(xe:Value→Shared→Prop):Cx:={X with pn:=pn,xe:=xe}
section
variable {X:Cx} {body:List Stmt} {h₀:ExceptHandler} {hs:List ExceptHandler} {pos:Pos} {tb:(St→XK)→TS} {th:TH} {pins:List (Addr×Obj)} {σ:St} {H:Hp} {s:Shared} {pn:List (Addr×Obj)} {xe:Value→Shared→Prop}
theorem Inv.tryIn(I:Inv X pins σ H s)(xe:Value→Shared→Prop):Inv (X.tryX (X.pn++pins) xe) [] σ H s:=
  ⟨⟨I.ok.mod,I.ok.kind,I.ok.glob,I.ok.blt,I.ok.above,I.ok.inj,I.ok.has,I.ok.cab,I.ok.hd,I.ok.frames,I.ok.stk,I.ok.exf,I.ok.bs,I.ok.bsz,I.ok.noex,I.ok.exfs,I.ok.funs,I.ok.frf⟩,I.os,I.bare,I.base,I.loc,I.cell,I.free,I.freeC,fun p hp=>I.pin p (by simpa using hp),I.hok,I.len⟩
theorem Inv.tryOut{pl:List (Addr×Obj)}(I0:X.Ok)(I:Inv (X.tryX (X.pn++pins) xe) pl σ H s):Inv X pins σ H s:=
  ⟨I0,I.os,I.bare,I.base,I.loc,I.cell,I.free,I.freeC,fun p hp=>I.pin p (List.mem_append_left _ hp),I.hok,I.len⟩
theorem SP.tryOut{pl:List (Addr×Obj)}(I0:X.Ok){D:Ends}{f:Flow}{s':Shared}(h:SP (X.tryX (X.pn++pins) xe) pl D f s'):SP X pins D f s':=by
  cases f with
  | next=>obtain ⟨σ',H',I,q⟩:=h;exact ⟨σ',H',I.tryOut I0,q⟩
  | brk=>obtain ⟨σ',H',I,q⟩:=h;exact ⟨σ',H',I.tryOut I0,q⟩
  | cont=>obtain ⟨σ',H',I,q⟩:=h;exact ⟨σ',H',I.tryOut I0,q⟩
  | ret u=>obtain ⟨v,σ',H',I,r,q⟩:=h;exact ⟨v,σ',H',I.tryOut I0,r,q⟩
end
end L2
set_option Elab.async false
set_option linter.all false
set_option maxRecDepth 100000
set_option maxHeartbeats 4000000
namespace L2
open PySem PySem.Spec PyProof.Rows PySem.W
noncomputable def rIsiE(K:Frag):List V→Hp→VK→Prop:=fun xs H Q=>∃p cls n,xs=[.ref p,.ty n]∧H p=some (excO p cls)∧kitOne K cls (.type n)=some true∧Q (.bl true) H
section
variable {X:Cx}
end
noncomputable def strKeysB(es:Array DictEntry):Bool:=es.toList.all fun e=>match e.key with
  | .str _ _=>true
  | _=>false
theorem strKeys_of{es:Array DictEntry}(h:strKeysB es=true):StrKeys es:=fun e he=>by
  have z:=List.all_eq_true.mp h e (by simpa using he)
  cases k:e.key with
  | str n t=>exact ⟨n,t,rfl⟩
  | _=>rw [k]at z;cases z
theorem ns_of{K:Frag}{h:Heap}{N:Addr}{oc:Value}{od:Option Addr}{es:Array DictEntry}{ep:Nat}{sl:Array (Option Value)}(X:K.In h)(l:K.lookup N=some ⟨oc,od,.dict es ep,sl⟩)(k:strKeysB es=true):h.Ns N (nsFind es):=
  ⟨_,es,ep,X _ _ l,rfl,strKeys_of k,fun _=>rfl⟩
theorem excC_of{K:Frag}{C N A:Addr}{nm q:Str}{bs:List Value}{hdct:Bool}{sn:List Str}{sub:List Value}{ab:Bool}{col:Option Bool}{dd:Option Addr}{k0 k1 k2 k3 k5:Option Value}{oc c0 oc2:Value}{od dA od2:Option Addr}{es es2:Array DictEntry}{ep ep2:Nat}{sl slA sl2:Array (Option Value)}{cdA:ClassData}
    (lC:K.lookup C=some (excClassObj nm q C N bs [.ref A,.type "ValueError",.type "Exception",.type "BaseException",.type "object"] hdct sn sub ab col dd k0 k1 k2 k3 k5 "ValueError.__new__"))
    (lN:K.lookup N=some ⟨oc,od,.dict es ep,sl⟩) (sN:strKeysB es=true) (iN:nsFind es "__init__"=none) (lA:K.lookup A=some ⟨c0,dA,.cls cdA,slA⟩) (lNA:K.lookup cdA.ns=some ⟨oc2,od2,.dict es2 ep2,sl2⟩) (sNA:strKeysB es2=true) (iNA:nsFind es2 "__init__"=none):ExcC K C:=
  ⟨fun h X=>⟨nm,q,N,bs,_,hdct,sn,sub,ab,col,dd,k0,k1,k2,k3,k5,nsFind es,X _ _ lC,ns_of X lN sN,iN,.own (X _ _ lA) (ns_of X lNA sNA) iNA .base⟩⟩
theorem exm_ref{K:Frag}{C:Addr}{cls:Value}{b:Bool}{cd:ClassData}(s1:subIn K (.ref C) (.type "BaseException")=some true)(c1:clsIn K C=some cd)(t1:typeIn K (.ref C)=some (.type "type"))(s2:subIn K cls (.ref C)=some b):exmOne K cls (.ref C)=some b:=by
  unfold exmOne kitCls
  dsimp only
  rw [s1,c1,t1]
  exact s2
theorem kit_sub{K:Frag}{C:Addr}{T:String}{b:Bool}(m:kitMeta T=true)(s:subIn K (.ref C) (.type T)=some b):kitOne K (.ref C) (.type T)=some b:=by
  unfold kitOne kitCls
  rw [if_neg (by simp)]
  dsimp only
  rw [if_pos m]
  exact s
theorem kit_VE{K:Frag}{C:Addr}{b:Bool}(s:subIn K (.ref C) (.type "ValueError")=some b):kitOne K (.ref C) (.type "ValueError")=some b:=kit_sub (by decide+kernel) s
section
variable {σ:St} {H:Hp} {Q:VK} {D:Ends} {K:Frag}
theorem rd_raise{C:Addr}{EE:St→XK}{t:TA}:tRaise C EE t D σ H=t σ H fun vs H1=>vs.length≤sizeLine∧∀x,H1 x=none→EE σ (.ref C) (some x) H1:=rfl
theorem rd_callE{sp:Sp}{EE:St→XK}{t:TA}:tCallE sp EE t σ H Q=t σ H fun vs H1=>sp vs H1 Q (EE σ):=rfl
theorem rd_hnil{cls:Value}{x:Addr}:hNil cls x D σ H=False:=rfl
theorem rd_ends{i:Nat}:endsAs i D={nx:=fun σ H=>D.nx (σ.set i none) H,rt:=D.rt,bk:=fun σ H=>D.bk (σ.set i none) H,ct:=fun σ H=>D.ct (σ.set i none) H}:=rfl
theorem rd_isiE{xs:List V}:rIsiE K xs H Q=∃p cls n,xs=[.ref p,.ty n]∧H p=some (excO p cls)∧kitOne K cls (.type n)=some true∧Q (.bl true) H:=rfl
end
end L2
set_option Elab.async false
set_option linter.all false
set_option maxRecDepth 100000
set_option maxHeartbeats 4000000
namespace L2
open PySem PySem.Spec PyProof.Rows
theorem compLoop_any{prog:Program}{w:World}{A:Around}{R:Result→Shared→Prop}{s:Shared}{elt target iter:Expr}{ifs:List Expr}{scope:Scope}{pos:Pos}{it acc:Value}{env:Env}(I:Nat→Shared→Prop)
    (turn:∀n s,I n s→wpAny (model prog w) A (pyNext it) (fun r s₁=>match r with
      | none=>R (.ok .next) s₁
      | some v=>wpAny (model prog w) A (letOwnedTupleGo target it v) (fun _ s₁=>wpAny (model prog w) A (assign target env v) (fun _ s₂=>
          wpAny (model prog w) A (forIn ifs true fun c r=>if r=true then do let ok ← isTrue c env (eval c env);pure (ForInStep.yield ok) else pure (ForInStep.yield r)) (fun ok s₃=>
            if ok=true then wpAny (model prog w) A (eval elt env) (fun x s₄=>
              wpAny (model prog w) A (call (.builtin "list.append") [acc,x]) (fun _ s₅=>∃m,m < n∧I m s₅) (notedBy (model prog w) A env fun e s'=>R (.error e) s') s₄) (notedBy (model prog w) A env fun e s'=>R (.error e) s') s₃
            else ∃m,m < n∧I m s₃) (notedBy (model prog w) A env fun e s'=>R (.error e) s') s₂) (notedBy (model prog w) A env fun e s'=>R (.error e) s') s₁) (notedBy (model prog w) A env fun e s'=>R (.error e) s') s₁) (notedBy (model prog w) A env fun e s'=>R (.error e) s') s)
    (n:Nat) (h:I n s):
    codeAny (model prog w) A (.compLoop (.ListComp elt [⟨target,iter,ifs,0⟩] scope pos) 0 it acc env) R s:=by
  refine codeAny_loop rfl I (fun n s hI=>?_) n h
  show wpAny _ A ((compTurn (.ListComp elt [⟨target,iter,ifs,0⟩] scope pos) 0 it acc env).onRaise (fun x=>do noteFrame x env;theTreesLotGoes x)) _ _ s
  refine wpAny_noted ?_
  rw [compTurn_list]
  refine wpAny_bind (wpAny_standAt (wpAny_bind (wpAny_mono (turn n s hI) (fun r s₁ h₁=>?_) fun _ _ h'=>h')))
  cases r with
  | none=>exact wpAny_pure h₁
  | some v=>
    refine wpAny_bind (wpAny_mono h₁ (fun _ s₁ h₁=>?_) fun _ _ h'=>h')
    refine wpAny_bind (wpAny_mono h₁ (fun _ s₂ h₂=>wpAny_bind (wpAny_mono h₂ (fun ok s₃ h₃=>?_) fun _ _ h'=>h')) fun _ _ h'=>h')
    cases ok with
    | false=>exact wpAny_pure ⟨rfl,h₃⟩
    | true=>
      exact wpAny_bind (wpAny_bind (wpAny_mono h₃ (fun x s₄ h₄=>wpAny_bind (wpAny_mono h₄ (fun _ s₅ h₅=>wpAny_pure (wpAny_pure ⟨rfl,h₅⟩)) fun _ _ h'=>h')) fun _ _ h'=>h'))
noncomputable def clo(env:Env):List (Str×NameKind)→List (Str×Addr)→List (Str×Addr)
  | [],cs=>cs
  | (n,k)::r,cs=>clo env r (if (k== .free)=true then (match env.cells.lookup n with | some c=>(n,c)::cs | none=>cs) else cs)
theorem clo_loop{env:Env}:∀(names:List (Str×NameKind)) (cs:List (Str×Addr)),(∀y∈names,y.2= .free→∃c,env.cells.lookup y.1=some c)→
    (forIn (m:=Sem) names cs fun (x:Str×NameKind) (r:List (Str×Addr))=>match x with | (name,kind)=>if (kind== .free)=true then do let c ← cellOf env name;pure (ForInStep.yield ((name,c)::r)) else pure (ForInStep.yield r))=pure (clo env names cs)
  | [],cs,_=>rfl
  | (n,k)::r,cs,h=>by
    rw [List.forIn_cons]
    have ih:=fun cs=>clo_loop r cs fun y hy=>h y (List.mem_cons_of_mem _ hy)
    by_cases hk:(k==NameKind.free)=true
    · obtain ⟨c,hc⟩:=h (n,k) List.mem_cons_self (by simpa using hk)
      have e:cellOf env n=pure c:=by unfold cellOf;rw [show env.cells.lookup n=some c from hc]
      simp only [hk,if_true,e,clo]
      rw [show env.cells.lookup n=some c from hc]
      exact ih _
    · simp only [hk,clo]
      exact ih _
theorem clo_closure{scope:Scope}{env:Env}(h:∀y∈scope.names,y.2= .free→∃c,env.cells.lookup y.1=some c):closureFor scope env=pure (clo env scope.names []):=by
  unfold closureFor
  show (forIn (m:=Sem) scope.names ([]:List (Str×Addr)) _ >>=fun r=>pure r)=_
  rw [clo_loop scope.names [] h]
  rfl
theorem clo_cells{env:Env}{x:Str}{c:Addr}:∀(names:List (Str×NameKind)) (cs:List (Str×Addr)),(clo env names cs).lookup x=some c→env.cells.lookup x=some c∨cs.lookup x=some c
  | [],cs,h=> .inr h
  | (n,k)::r,cs,h=>by
    unfold clo at h
    rcases clo_cells r _ h with q | q
    · exact .inl q
    · split at q
      · split at q
        · rename_i c' hc
          rw [List.lookup_cons]at q
          cases hx:x==n with
          | true=>
            rw [hx]at q
            have e:x=n:=by simpa using hx
            subst e
            simp only [Option.some.injEq]at q
            subst q
            exact .inl hc
          | false=>rw [hx]at q;exact .inr q
        · exact .inr q
      · exact .inr q
theorem clo_has{env:Env}{x:Str}{c:Addr}(hc:env.cells.lookup x=some c):∀(names:List (Str×NameKind)) (cs:List (Str×Addr)),(cs.lookup x=some c∨(cs.lookup x=none∧(x,NameKind.free)∈names))→(clo env names cs).lookup x=some c
  | [],cs,h=>by
    rcases h with h | ⟨_,h⟩
    · exact h
    · cases h
  | (n,k)::r,cs,h=>by
    unfold clo
    refine clo_has hc r _ ?_
    by_cases hx:x=n
    · subst hx
      by_cases hk:(k==NameKind.free)=true
      · rw [if_pos hk,hc]
        exact .inl (by simp [List.lookup_cons])
      · rw [if_neg hk]
        rcases h with h | ⟨h1,h2⟩
        · exact .inl h
        · refine .inr ⟨h1,?_⟩
          rcases List.mem_cons.mp h2 with e | e
          · cases e;exact absurd rfl hk
          · exact e
    · have hb:(x==n)=false:=by simpa using hx
      have key:∀cs':List (Str×Addr),cs'.lookup x=cs.lookup x→(cs'.lookup x=some c∨(cs'.lookup x=none∧(x,NameKind.free)∈r)):=fun cs' e=>by
        rw [e]
        rcases h with h | ⟨h1,h2⟩
        · exact .inl h
        · refine .inr ⟨h1,?_⟩
          rcases List.mem_cons.mp h2 with e | e
          · cases e;exact absurd rfl hx
          · exact e
      refine key _ ?_
      split
      · split
        · simp [List.lookup_cons,hb]
        · rfl
      · rfl
theorem relabel_kind{env:Env}{k':NameKind}:∀{names:List (Str×NameKind)} {x:Str},(∀y∈names,y.2≠ .cell)→
    (names.map fun (n,k)=>if (k==NameKind.free && env.scope.kind== .function && env.kindOf n==some .cell) then (n,NameKind.cell) else (n,k)).lookup x=some k'→(k'= .cell∨k'= .free)→(x,NameKind.free)∈names
  | [],_,_,h,_=>by simp at h
  | (n,k)::r,x,hc,h,hk=>by
    have ih:=@relabel_kind env k' r x (fun y hy=>hc y (List.mem_cons_of_mem _ hy))
    have h':List.lookup x ((if (k==NameKind.free && env.scope.kind== .function && env.kindOf n==some .cell)=true then (n,NameKind.cell) else (n,k))::(r.map fun (n,k)=>if (k==NameKind.free && env.scope.kind== .function && env.kindOf n==some .cell) then (n,NameKind.cell) else (n,k)))=some k':=h
    by_cases hx:x=n
    · subst hx
      by_cases q:(k==NameKind.free && env.scope.kind== .function && env.kindOf x==some .cell)=true
      · have:k= .free:=by simp only [Bool.and_eq_true,beq_iff_eq]at q;exact q.1.1
        subst this
        exact List.mem_cons_self
      · rw [if_neg q,List.lookup_cons]at h'
        simp only [beq_self_eq_true]at h'
        have e:k=k':=Option.some.inj h'
        rcases hk with z | z
        · exact absurd (e.trans z) (hc (x,k) List.mem_cons_self)
        · rw [e.trans z];exact List.mem_cons_self
    · have hb:(x==n)=false:=by simpa using hx
      refine List.mem_cons_of_mem _ (ih ?_ hk)
      split at h'
      · rw [List.lookup_cons,hb]at h';exact h'
      · rw [List.lookup_cons,hb]at h';exact h'
theorem lookup_relabel_free{env:Env}:∀{names:List (Str×NameKind)} {x:Str},names.lookup x=some .free→
    (names.map fun (n,k)=>if (k==NameKind.free && env.scope.kind== .function && env.kindOf n==some .cell) then (n,NameKind.cell) else (n,k)).lookup x=some .cell∨
    (names.map fun (n,k)=>if (k==NameKind.free && env.scope.kind== .function && env.kindOf n==some .cell) then (n,NameKind.cell) else (n,k)).lookup x=some .free
  | [],_,h=>by simp at h
  | (n,k)::r,x,h=>by
    have ih:=@lookup_relabel_free env r x
    show List.lookup x ((if (k==NameKind.free && env.scope.kind== .function && env.kindOf n==some .cell)=true then (n,NameKind.cell) else (n,k))::_)=_∨List.lookup x ((if (k==NameKind.free && env.scope.kind== .function && env.kindOf n==some .cell)=true then (n,NameKind.cell) else (n,k))::_)=_
    cases hx:x==n with
    | true=>
      simp only [List.lookup_cons,hx]at h
      cases h
      split
      · left;simp [List.lookup_cons,hx]
      · right;simp [List.lookup_cons,hx]
    | false=>
      simp only [List.lookup_cons,hx]at h
      split
      · simp only [List.lookup_cons,hx];exact ih h
      · simp only [List.lookup_cons,hx];exact ih h
structure Blk where
  s:Shared
  H:Hp
  C:Addr
  fp:List Addr
noncomputable abbrev Cx.blk(X:Cx)(scope:Scope)(N':List Str)(b:Blk):Cx:=
  {X with N:=N',s₀:=b.s,H₀:=b.H,env:=compEnvC scope (clo X.env scope.names []) b.C X.env,outer:=X.stack,ex:=b.fp,fn:=fun _=>false,pn:=[],xe:=fun _ _=>False}
noncomputable def around(N:List Str)(fs:List Nat):List Str:=fs.map fun j=>N.getD j ""
noncomputable def compOkB(N:List Str)(esc scope:Scope)(xs:List Str)(fs:List Nat):Bool:=
  decide (xs++around N fs).Nodup && (match scope.kind with | .function=>true | _=>false) && xs.all (fun x=>decide (scope.names.lookup x=some .local)) &&
  scope.names.all (fun y=>decide (y.2≠ .cell) && (!decide (y.2= .local) || decide (scope.names.lookup y.1=some .local)) && (!decide (y.2= .free) || decide (esc.names.lookup y.1=some .cell) || decide (esc.names.lookup y.1=some .free))) &&
  fs.all fun j=>decide (j < N.length) && decide (scope.names.lookup (N.getD j "")=some .free)
structure CompOk(N:List Str)(esc scope:Scope)(xs:List Str)(fs:List Nat):Prop where
  nd:(xs++around N fs).Nodup
  kind:scope.kind= .function
  own:∀x∈xs,scope.names.lookup x=some .local
  cell:∀y∈scope.names,y.2≠ .cell
  names:∀y∈scope.names,y.2= .local→scope.names.lookup y.1=some .local
  free:∀y∈scope.names,y.2= .free→esc.names.lookup y.1=some .cell∨esc.names.lookup y.1=some .free
  fs:∀j∈fs,j < N.length∧scope.names.lookup (N.getD j "")=some .free
theorem compOk_of{N:List Str}{esc scope:Scope}{xs:List Str}{fs:List Nat}(h:compOkB N esc scope xs fs=true):CompOk N esc scope xs fs:=by
  unfold compOkB at h
  simp only [Bool.and_eq_true,decide_eq_true_eq,List.all_eq_true]at h
  obtain ⟨⟨⟨⟨h1,h2⟩,h3⟩,h4⟩,h5⟩:=h
  refine ⟨h1,?_,h3,fun y hy=>(h4 y hy).1.1,fun y hy e=>?_,fun y hy e=>?_,h5⟩
  · split at h2
    · assumption
    · cases h2
  · have:=(h4 y hy).1.2
    simpa [e] using this
  · have:=(h4 y hy).2
    simpa [e] using this
section
variable {X:Cx} {pins:List (Addr×Obj)} {σ:St} {H:Hp} {s:Shared} {scope:Scope} {xs:List Str} {fs:List Nat} {fp:List Addr} {C:Addr}
theorem blk_ok(I:Inv X pins σ H s)(O:CompOk X.N X.env.scope scope xs fs)(hf:∀b∈fp,FpOk X pins H b)(hC:s.heap.objs.size≤C)(hfp:∀b∈fp,b < s.heap.objs.size):(X.blk scope (xs++around X.N fs) ⟨s,H,C,fp⟩).Ok:=by
  have hcl:∀x c,(clo X.env scope.names []).lookup x=some c→X.env.cells.lookup x=some c:=fun x c e=>by
    rcases clo_cells _ _ e with q | q
    · exact q
    · cases q
  have hsz:∀b o,X.base.get? b=some o→b < X.s₀.heap.objs.size:=fun b o e=>Nat.lt_of_lt_of_le (Heap.lt_size e) I.ok.bsz
  refine ⟨I.ok.mod,O.kind,I.ok.glob,I.ok.blt,hC,fun x y c h1 h2=>I.ok.inj x y c (hcl x c h1) (hcl y c h2),fun x hx=>?_,fun x c z=>(by cases z),I.ok.hd,I.ok.frames,.inl rfl,fun b hb=>⟨Nat.ne_of_lt (Nat.lt_of_lt_of_le (hfp b hb) hC),fun x c e=>(hf b hb).2.2.2.2.1 x c (hcl x c e)⟩,I.bs,Nat.le_trans I.ok.bsz I.sz,fun b o e hb=>?_,fun b hb hs=>?_,I.stack,I.stkFree⟩
  · have hm:(x,NameKind.free)∈scope.names:=by
      rcases hx with hx | hx
      · exact relabel_kind (env:=X.env) O.cell (show (scope.names.map _).lookup x=some NameKind.cell from hx) (.inl rfl)
      · exact relabel_kind (env:=X.env) O.cell (show (scope.names.map _).lookup x=some NameKind.free from hx) (.inr rfl)
    obtain ⟨c,hc⟩:=I.ok.has x (O.free _ hm rfl)
    exact ⟨c,clo_has hc _ _ (.inr ⟨rfl,hm⟩)⟩
  · obtain ⟨_,_,_,h4,_⟩:=hf b hb
    rcases h4 with h4 | h4
    · exact I.ok.noex b o e h4
    · exact absurd (Nat.lt_of_lt_of_le (hsz b o e) h4) (Nat.lt_irrefl _)
  · obtain ⟨_,h2,h3,_⟩:=hf b hb
    exact (List.mem_cons.mp (I.stkSub b hs)).elim h2 h3
theorem blk_in{h1:Heap}{t:Nat}{D:Addr}{m:Str→Option Value}(I:Inv X pins σ H s)(O:CompOk X.N X.env.scope scope xs fs)(hf:∀b∈fp,FpOk X pins H b)(hD:s.heap.objs.size≤D)(hC:s.heap.objs.size≤C)(hfp:∀b∈fp,b < s.heap.objs.size)(hDC:D≠C)
    (k:∀b u,s.heap.get? b=some u→h1.get? b=some u) (hDo:h1.get? D=some {cls:= .type "list",data:= .seq #[] 0}) (hn:h1.Ns C m):
    Inv (X.blk scope (xs++around X.N fs) ⟨s,H,C,fp⟩) [] (xs.map (fun _=>none)++fs.map fun j=>σ.getD j none) (upd H D (.lst [])) {s with heap:=h1,toks:=t}:=by
  have hcl:∀x c,(clo X.env scope.names []).lookup x=some c→X.env.cells.lookup x=some c:=fun x c e=>by
    rcases clo_cells _ _ e with q | q
    · exact q
    · cases q
  have ok:=blk_ok (C:=C) I O hf hC hfp
  have hnD:H D=none:=I.hok.fresh hD
  refine ⟨ok,rfl,I.bare,Un.laid k hD hnD,⟨m,hn,fun i x v e1 e2 e3=>?_⟩,fun x c e=>?_,?_,fun x c e=>?_,fun p hp=>absurd (show p∈([]:List (Addr×Obj)) from hp) (by simp),I.hok.laid k hD ⟨Nat.zero_le _,[],0,.nil,hDo⟩,by simp [around]⟩
  · by_cases hi:i < xs.length
    · rw [List.getElem?_append_left (by simpa using hi),List.getElem?_map]at e2
      cases q:xs[i]? with
      | none=>rw [q]at e2;cases e2
      | some a=>rw [q]at e2;cases e2
    · have hi:xs.length≤i:=Nat.le_of_not_lt hi
      rw [List.getElem?_append_right (by simpa using hi)]at e1 e2
      unfold around at e1
      rw [List.length_map]at e2
      rw [List.getElem?_map]at e1 e2
      cases q:fs[i - xs.length]? with
      | none=>rw [q]at e2;cases e2
      | some j=>
        rw [q]at e1 e2
        simp only [Option.map_some,Option.some.injEq]at e1 e2
        obtain ⟨hj,hl⟩:=O.fs j (List.mem_of_getElem? q)
        obtain ⟨m0,_,hl0⟩:=I.loc
        have e1':X.N[j]?=some x:=by rw [← e1,List.getD_eq_getElem?_getD,List.getElem?_eq_getElem hj];rfl
        have e2':σ[j]?=some (some v):=by
          rw [List.getD_eq_getElem?_getD]at e2
          cases z:σ[j]? with
          | none=>rw [z]at e2;cases e2
          | some y=>rw [z]at e2;simp only [Option.getD_some]at e2;rw [e2]
        rw [e1]at hl
        have hm:(x,NameKind.free)∈scope.names:=PySem.mem_of_lookup hl
        have hk:=O.free _ hm rfl
        obtain ⟨u,r,l⟩:=hl0 j x v e1' e2' (hk.elim (fun z=> .inr (.inl z)) fun z=> .inr (.inr z))
        refine ⟨u,r,?_⟩
        rcases l with ⟨z,_⟩ | ⟨_,c,hc,cell⟩
        · have z':X.env.scope.names.lookup x=some .local:=z
          rcases hk with hk | hk <;> (rw [z']at hk;cases hk)
        · refine .inr ⟨?_,c,clo_has hc _ _ (.inr ⟨rfl,hm⟩),?_⟩
          · exact lookup_relabel_free (env:=X.env) hl
          · obtain ⟨o,ho,hd⟩:=cell
            exact ⟨o,k _ _ ho,hd⟩
  · obtain ⟨v,o,ho,hd⟩:=I.cell x c (hcl x c e)
    exact ⟨v,o,k _ _ ho,hd⟩
  · show upd H D (.lst []) C=none
    rw [upd_ne (Ne.symm hDC)];exact I.hok.fresh hC
  · obtain ⟨v,q⟩:=I.cell x c (hcl x c e)
    rw [upd_ne (Nat.ne_of_lt (Nat.lt_of_lt_of_le q.lt hD))]
    exact I.freeC x c (hcl x c e)
theorem blk_out{N':List Str}{σ':St}{H':Hp}{s':Shared}{h2:Heap}{pl:List (Addr×Obj)}(I:Inv X pins σ H s)(hf:∀b∈fp,FpOk X pins H b)(hC:s.heap.objs.size≤C)(J:Inv (X.blk scope N' ⟨s,H,C,fp⟩) pl σ' H' s')(sb:Heap.SameBut C s'.heap h2):
    Inv X pins σ H' {s' with heap:=h2}:=by
  have u:=J.base
  have ne:∀b o,s.heap.get? b=some o→b≠C:=fun b o e=>Nat.ne_of_lt (Nat.lt_of_lt_of_le (Heap.lt_size e) hC)
  refine I.call' (ch:=fp) J.os ⟨fun b o e n h1 h2=>(sb.2 b (ne b o e)).trans (u.keep b o e n h1 h2),fun b o e n h1 h2=>?_,u.free,fun b o e hx=>?_,u.tups,u.frzs,u.tbls⟩ (fun a o e=>?_) J.bare fun b hb=>?_
  · obtain ⟨sl,q⟩:=u.slot b o e n h1 h2
    exact ⟨sl,(sb.2 b (ne b o e)).trans q⟩
  · obtain ⟨o',q⟩:=u.there b o e hx
    exact ⟨o',(sb.2 b (ne b o e)).trans q⟩
  · have fr:H' C=none:=J.free
    refine (J.hok a o e).stay (fun b v hc q=>(sb.2 b ?_).trans q) (fun _ q=>q) fun _ _ q=>q
    rcases hc with rfl | hc
    · exact ne_of_none e fr
    · exact ne_of_none hc fr
  · obtain ⟨_,h2,h3,h4,h5,h6⟩:=hf b hb
    exact ⟨h4,h2,h5,h6⟩
end
end L2
set_option Elab.async false
set_option linter.all false
set_option maxRecDepth 100000
set_option maxHeartbeats 4000000
namespace L2
open PySem PySem.Spec PyProof.Rows
noncomputable def Kept(σ σ':St):Prop:=∀(i:Nat) (v:V),σ[i]?=some (some v)→σ'[i]?=some (some v)
noncomputable def PTs(X:Cx)(ifs:List Expr)(t:TT):Prop:=
  ∀(pins:List (Addr×Obj)) (s:Shared) (σ:St) (H:Hp) (Q:Bool→Hp→Prop),Inv X pins σ H s→t σ H Q→
    wpAny (model X.prog X.w) X.A (forIn ifs true fun c r=>if r=true then do let ok ← isTrue c X.env (eval c X.env);pure (ForInStep.yield ok) else pure (ForInStep.yield r)) (TP X pins σ Q) X.xe s
noncomputable def tYes:TT:=fun _ H Q=>Q true H
theorem pts_nil{X:Cx}:PTs X [] tYes:=fun _ _ _ H _ I h=>wpAny_tests_nil ⟨H,I,h⟩
theorem pts_one{X:Cx}{c:Expr}{t:TT}(hc:PT X c t):PTs X [c] t:=fun pins s σ H Q I h=>wpAny_tests_one (hc pins s σ H Q I h)
noncomputable def CompTail(σ0:St)(g:Blk→TG)(tt:Blk→TT)(te:Blk→TE)(Q:VK)(J:It)(H1:Hp):Prop:=∀(b:Blk) (D:Addr),H1 D=none→∃W:Nat→Nat→List V→Hp→Prop,(∃m,W 0 m [] (upd H1 D (.lst [])))∧∀i m ys H2,W i m ys H2→H2 D=some (.lst ys)∧
  ((J.stop i H2∧Q (.ref D) H2)∨(J.go i H2∧∀x H3,J.yld i H2 x H3→g b x σ0 H3 fun σ6 H6=>Kept σ0 σ6∧tt b σ6 H6 fun ok H7=>
    if ok=true then te b σ6 H7 fun y H8=>H8 D=some (.lst ys)∧ys.length < sizeLine∧∃m',m' < m∧W (i+1) m' (ys++[y]) (upd H8 D (.lst (ys++[y])))
    else ∃m',m' < m∧W (i+1) m' ys H7))
noncomputable def tComp(wi:TI)(n:Nat)(fs:List Nat)(g:Blk→TG)(tt:Blk→TT)(te:Blk→TE):TE:=fun σ H Q=>wi σ H (CompTail (List.replicate n none++fs.map fun j=>σ.getD j none) g tt te Q)
section
variable {X:Cx} {pins:List (Addr×Obj)} {σ:St} {scope:Scope} {xs:List Str} {fs:List Nat} {elt tg iter:Expr} {ifs:List Expr} {pos:Pos} {wi:TI} {g:Blk→TG} {tt:Blk→TT} {te:Blk→TE}
theorem turned_of{H:Hp}{s:Shared}{C:Addr}{h2:Heap}(I:Inv X pins σ H s)(F:FpOk X pins H C)(sb:Heap.SameBut C s.heap h2):Inv X pins σ H {s with heap:=h2}:=
  I.turned (t':=s.toks) (fun b o hb e=>(sb.2 b hb).trans e) F.1 F.2.1 F.2.2.2.1 F.2.2.2.2.1 F.2.2.2.2.2
theorem comp_run{Q:VK}{itv:Value}{s2:Shared}{E:Value→Shared→Prop}{RR:Value→Addr→Result→Shared→Prop}(hc:X.calm=true)(O:CompOk X.N X.env.scope scope xs fs)
    (hg:∀b,PG (X.blk scope (xs++around X.N fs) b) tg (g b)) (ht:∀b,PTs (X.blk scope (xs++around X.N fs) b) ifs (tt b)) (he:∀b,PE (X.blk scope (xs++around X.N fs) b) elt (te b))
    (h:PIE X pins σ tg (CompTail (List.replicate xs.length none++fs.map fun j=>σ.getD j none) g tt te Q) itv s2)
    (hR:∀D C s' m H',s'.heap.Ns C m→Inv X pins σ H' s'→Q (.ref D) H'→FpOk X pins H' C→RR (.ref D) C (.ok .next) s'):
    wpAny (model X.prog X.w) X.A (newList []) (fun acc s₃=>wpAny (model X.prog X.w) X.A (newFunctionEnv scope X.env.globals (clo X.env scope.names []) [] X.env.qual none .none (some X.env)) (fun cenv s₄=>
      codeAny (model X.prog X.w) X.A (.compStart (.ListComp elt [⟨tg,iter,ifs,0⟩] scope pos) 0 itv acc {cenv with scope:=relabel scope X.env}) (RR acc cenv.locals) s₄) E s₃) E s2:=by
  obtain ⟨it,fp,tn,J,H2,rfl,I2,T,st2,f2,rd⟩:=h
  have hfp:∀b∈fp,b < s2.heap.objs.size:=fun b hb=>by
    obtain ⟨o,e,_⟩:=T.obj _ _ st2 b hb
    exact Heap.lt_size e
  refine wpAny_newObj_type (wpAny_newFunctionEnv O.cell (by intro y hy;simp at hy) (fun h₁ hns₁ hsb₁=>?_) O.kind)
  dsimp only at hns₁ hsb₁ ⊢
  generalize hH2:s2.heap.push {cls:= .type "list",dict:=none,data:= .seq ([]:List Value).toArray}=HH at hns₁ hsb₁ ⊢
  have hC:HH.objs.size=s2.heap.objs.size+1:=by rw [← hH2,Heap.size_push]
  have hDC:s2.heap.objs.size≠HH.objs.size:=by rw [hC];exact Nat.ne_of_lt (Nat.lt_succ_self _)
  have hCle:s2.heap.objs.size≤HH.objs.size:=by rw [hC];exact Nat.le_succ _
  have old:∀b o,s2.heap.get? b=some o→h₁.get? b=some o:=fun b o e=>hsb₁.extBut b o (by rw [hC];exact Nat.ne_of_lt (Nat.lt_succ_of_lt (Heap.lt_size e))) (Heap.get?_push_of_some _ (hH2▸Heap.get?_push_of_some _ e))
  have hacc:h₁.get? s2.heap.objs.size=some {cls:= .type "list",data:= .seq #[] 0}:=hsb₁.extBut _ _ hDC (Heap.get?_push_of_some _ (hH2▸Heap.get?_push_size _ rfl))
  obtain ⟨W,⟨m0,w0⟩,turn⟩:=rd ⟨s2,H2,HH.objs.size,fp⟩ s2.heap.objs.size I2.fresh
  have I3:=blk_in (t:=s2.toks+([]:List (Str×Value)).length) I2 O f2 (Nat.le_refl _) hCle hfp hDC old hacc hns₁
  rw [show xs.map (fun _=>(none:Option V))=List.replicate xs.length none from List.map_const' ..]at I3
  generalize hX:X.blk scope (xs++around X.N fs) ⟨s2,H2,HH.objs.size,fp⟩=X' at I3
  have stat:∀{H':Hp},(∀b∈fp,H' b=none)→∀b∈fp,FpOk X' [] H' b:=fun hn b hb=>by
    subst hX
    refine ⟨hn b hb,?_,?_,.inl hb,fun x c e=>?_,fun p hp=>absurd hp (by simp)⟩
    · exact (I3.ok.exf b hb).1
    · exact I3.ok.exfs b hb
    · exact (I3.ok.exf b hb).2 x c e
  have fr3:∀b∈fp,upd H2 s2.heap.objs.size (.lst []) b=none:=fun b hb=>by
    rw [upd_ne (Nat.ne_of_lt (hfp b hb))];exact (f2 b hb).1
  have ccell:∀y c,X.env.cells.lookup y=some c→c≠HH.objs.size:=fun y c e=>by
    obtain ⟨v,q⟩:=I2.cell y c e
    exact Nat.ne_of_lt (Nat.lt_of_lt_of_le q.lt hCle)
  have cloc:HH.objs.size≠X.env.locals:=(Nat.ne_of_lt (Nat.lt_of_lt_of_le I2.lt hCle)).symm
  have eP:X'.prog=X.prog:=by rw [← hX]
  have ew:X'.w=X.w:=by rw [← hX]
  have eK:X'.K=X.K:=by rw [← hX]
  have eA:X'.A=X.A:=by rw [← hX]
  have ec:X'.calm=true:=by rw [← hX];exact hc
  have ex:X'.xe=fun _ _=>False:=by rw [← hX]
  have een:X'.env=compEnvC scope (clo X.env scope.names []) HH.objs.size X.env:=by rw [← hX]
  have hg':=hg ⟨s2,H2,HH.objs.size,fp⟩
  have ht':=ht ⟨s2,H2,HH.objs.size,fp⟩
  have he':=he ⟨s2,H2,HH.objs.size,fp⟩
  rw [hX]at hg' ht' he'
  have st1:tn 0 h₁:=T.keep _ _ _ st2 fun b hb o e=>old b o e
  have loop:∀s₃:Shared,s₃={s2 with heap:=h₁,toks:=s2.toks+([]:List (Str×Value)).length}→
      codeAny (model X.prog X.w) X.A (.compLoop (.ListComp elt [⟨tg,iter,ifs,0⟩] scope pos) 0 (.ref it) (.ref s2.heap.objs.size) (compEnvC scope (clo X.env scope.names []) HH.objs.size X.env))
        (RR (.ref s2.heap.objs.size) HH.objs.size) s₃:=by
    rintro s₃ rfl
    refine compLoop_any (fun n s'=>∃i ys H',Inv X' [] (List.replicate xs.length none++fs.map fun j=>σ.getD j none) H' s'∧tn i s'.heap∧(∀b∈fp,H' b=none)∧W i n ys H') ?_ m0 ⟨0,[],_,I3,st1,fr3,w0⟩
    rintro n s4 ⟨i,ys,H4,I4,st4,fr4,w4⟩
    obtain ⟨hD4,tn4⟩:=turn i n ys H4 w4
    rcases tn4 with ⟨stop,qn⟩ | ⟨go,step⟩
    · have td:=T.done X' eP ew eK ec i [] s4 _ H4 (notedBy (model X.prog X.w) X.A (compEnvC scope (clo X.env scope.names []) HH.objs.size X.env) fun e s'=>RR (.ref s2.heap.objs.size) HH.objs.size (.error e) s') I4 (stat fr4) st4 stop
      rw [eA]at td
      refine thn td fun r s5 ⟨hr,I5⟩=>?_
      subst hr
      obtain ⟨m5,hn5,_⟩:=I5.loc
      rw [een]at hn5
      have fr5:H4 HH.objs.size=none:=by have:=I5.free;rw [een]at this;exact this
      rw [← hX]at I5
      exact hR _ _ _ m5 H4 hn5 (blk_out I2 f2 hCle I5 (Heap.SameBut.refl ..)) qn (I2.fpOk hCle fr5)
    · have ti:=T.item X' eP ew eK ec i [] s4 _ H4 (notedBy (model X.prog X.w) X.A (compEnvC scope (clo X.env scope.names []) HH.objs.size X.env) fun e s'=>RR (.ref s2.heap.objs.size) HH.objs.size (.error e) s') I4 (stat fr4) st4 go
      rw [eA]at ti
      refine thn ti fun r s5 ⟨u,hr,h5⟩=>?_
      subst hr
      refine thn h5 fun _ s6 ⟨x,H6,I6,r6,y6,st6,fr6⟩=>?_
      have I6':=I6.pinned (stat fr6) (T.obj _ _ st6)
      have g1:=hg' _ s6 _ H6 x u _ I6' r6 (step x H6 y6)
      rw [eP,ew,eA,een,ex]at g1
      refine wpAny_mono g1 (fun _ s7 ⟨σ7,H7,I7,kp7,q7⟩=>?_) fun _ _ z=>z.elim
      have t1:=ht' _ s7 σ7 H7 _ I7 q7
      rw [eP,ew,eA,een,ex]at t1
      have back:∀{H9:Hp} {s9:Shared},Inv X' ([]++pinsAt fp s6.heap) σ7 H9 s9→Inv X' [] (List.replicate xs.length none++fs.map fun j=>σ.getD j none) H9 s9∧tn (i+1) s9.heap∧∀b∈fp,H9 b=none:=fun {H9 s9} I9=>by
        refine ⟨I9.unpinned.weak ?_ kp7,T.keep _ _ _ st6 fun b hb o e=>(I9.pin (b,o) (List.mem_append_right _ (List.mem_append_right _ (mem_pinsAt hb e)))).1,fun b hb=>?_⟩
        · rw [I9.len,I4.len]
        · obtain ⟨o,e,d⟩:=T.obj _ _ st6 b hb
          exact (I9.pin (b,o) (List.mem_append_right _ (List.mem_append_right _ (mem_pinsAt hb e)))).2.1
      refine wpAny_mono t1 (fun ok s8 ⟨H8,I8,q8⟩=>?_) fun _ _ z=>z.elim
      cases ok with
      | false=>
        rw [if_neg Bool.false_ne_true]at q8 ⊢
        obtain ⟨m',hm,w8⟩:=q8
        obtain ⟨b1,b2,b3⟩:=back I8
        exact ⟨m',hm,i+1,ys,H8,b1,b2,b3,w8⟩
      | true=>
        rw [if_pos rfl]at q8 ⊢
        have e1:=he' _ s8 σ7 H8 _ I8 q8
        rw [eP,ew,eA,een,ex]at e1
        refine wpAny_mono e1 (fun uy s9 ⟨y,H9,I9,r9,hD9,hz,m',hm,w9⟩=>?_) fun _ _ z=>z.elim
        have a1:=mt_append (X:=X') (pins:=[]++pinsAt fp s6.heap) (s:=s9) (σ:=σ7) (H:=H9) (x:= .ref s2.heap.objs.size) (xs:=[y]) (v:= .ref s2.heap.objs.size) (us:=[uy]) (Q:=fun _ H'=>H'=upd H9 s2.heap.objs.size (.lst (ys++[y]))) I9 rfl (.cons r9 .nil) ⟨_,ys,y,rfl,rfl,hD9,hz,rfl⟩
        rw [eP,ew,eA,ex]at a1
        refine wpAny_mono a1 (fun _ s10 ⟨_,H10,I10,_,e10⟩=>?_) fun _ _ z=>z.elim
        subst e10
        obtain ⟨b1,b2,b3⟩:=back I10
        exact ⟨m',hm,i+1,_,_,b1,b2,b3,w9⟩
  exact codeAny_compStart_list (loop _ rfl) (T.self _ 0 _ _ _ st1 (loop _ rfl))
theorem pe_compG(hc:X.calm=true)(hok:compOkB X.N X.env.scope scope xs fs=true)(hi:PI X tg iter wi)
    (hg:∀b,PG (X.blk scope (xs++around X.N fs) b) tg (g b)) (ht:∀b,PTs (X.blk scope (xs++around X.N fs) b) ifs (tt b)) (he:∀b,PE (X.blk scope (xs++around X.N fs) b) elt (te b))
    (hs:∀x,foldedSetIterable iter X.env x=pure x:=by intro _;rfl):
    PE X (.ListComp elt [⟨tg,iter,ifs,0⟩] scope pos) (tComp wi xs.length fs g tt te):=by
  intro pins s σ H Q I h
  have O:=compOk_of hok
  rw [eval_ListComp]
  refine wpAny_comprehension_free (use:=none) rfl hs (clo_closure fun y hy hf=>I.ok.has _ (O.free y hy hf)) O.kind O.names (thn (hi pins s σ H _ I h) fun v s1 h1=>thn h1 fun itv s2 h2=>?_)
  exact comp_run (RR:=fun acc C=>compPost (model X.prog X.w) X.A X.xe none (EP X pins σ Q) acc C) hc O hg ht he h2 fun D C s' m H' hn I' q F=>⟨m,hn,fun h2 sb=>⟨.ref D,H',turned_of I' F sb,rfl,q⟩⟩
theorem ps_comp{y:Str}{py:Pos}{i:Nat}(hN:X.N.Nodup)(hy:X.N[i]?=some y)(hyl:X.env.kindOf y=some .local)(hc:X.calm=true)(hok:compOkB X.N X.env.scope scope xs fs=true)(hi:PI X tg iter wi)
    (hg:∀b,PG (X.blk scope (xs++around X.N fs) b) tg (g b)) (ht:∀b,PTs (X.blk scope (xs++around X.N fs) b) ifs (tt b)) (he:∀b,PE (X.blk scope (xs++around X.N fs) b) elt (te b)) {spos:Pos}
    (hsw:swapsWith (.ListComp elt [⟨tg,iter,ifs,0⟩] scope pos) (some (.Name y py)) spos.line X.env=pure true:=by rfl)
    (hs:∀x,foldedSetIterable iter X.env x=pure x:=by intro _;rfl):
    PS X (.Assign [.Name y py] (.ListComp elt [⟨tg,iter,ifs,0⟩] scope pos) spos) (tAsg (tComp wi xs.length fs g tt te) (gName i)):=by
  intro pins s σ H D I h
  have O:=compOk_of hok
  rw [exec_Assign_Name_used _ _ _ _ hsw]
  refine wpAny_bind (wpAny_standAt (wpAny_bind ?_))
  show wpAny _ X.A (do let _ ← comprehension (.ListComp elt [⟨tg,iter,ifs,0⟩] scope pos) scope X.env _ (newList []) false (eval iter X.env) (some (assign (.Name y py) X.env))) _ _ s
  refine wpAny_bind (wpAny_mono (wpAny_comprehension_free (use:=some (assign (.Name y py) X.env)) (Q:=fun _ s'=>SP X pins D .next s') rfl hs (clo_closure fun y hy hf=>I.ok.has _ (O.free y hy hf)) O.kind O.names
    (thn (hi pins s σ H _ I h) fun v s1 h1=>thn h1 fun itv s2 h2=>?_)) (fun _ s' hq=>wpAny_pure (wpAny_pure hq)) fun _ _ e=>e)
  refine comp_run (RR:=fun acc C=>compPost (model X.prog X.w) X.A X.xe (some (assign (.Name y py) X.env)) (fun _ s'=>SP X pins D .next s') acc C) hc O hg ht he h2 fun D' C s' m H' hn I0 q0 F=>?_
  show wpAny _ X.A (assign (.Name y py) X.env (.ref D')) _ _ _
  refine wpAny_assign_Name (store_ok2 I0 hN hy (.inl hyl) (v:= .ref D') rfl (fun s3 I3 hsb=>?_) (.inr hyl))
  obtain ⟨a,sb3,ha⟩:=hsb
  have haC:C≠a:=by
    rcases ha with rfl | ha
    · exact F.2.1
    · exact (F.2.2.2.2.1 y a ha).symm
  exact ⟨m,hn.sameBut sb3 haC,fun h4 sb4=>⟨_,H',turned_of I3 F sb4,q0⟩⟩
end
end L2
set_option Elab.async false
set_option linter.all false
set_option maxRecDepth 100000
set_option maxHeartbeats 4000000
namespace L2
open PySem PySem.Spec PyProof.Rows
noncomputable def Its(z:Str):It:=⟨fun i _=>i < z.cps.size,fun i H x H'=>H'=H∧∃c,z.cps[i]?=some c∧x= .str ⟨#[c]⟩,fun i _=>z.cps.size≤i⟩
noncomputable def iStr(tl:TE):TI:=fun σ H R=>tl σ H fun x H1=>∃z,x= .str z∧R (Its z) H1
section
variable {P:Program} {w:World} {K:PySem.W.Frag} {tg:Expr}
theorem turn_str(ty:String)(hty:ty="str_ascii_iterator"∨ty="str_iterator")(z:Str)(t:Tok)(it:Addr):Turn P w K tg (Its z) [it] it (fun i h=>i≤z.cps.size∧h.IsStrIter it ty z t i) where
  mem:=by simp
  obj:=fun i h st b hb=>by
    have e:b=it:=by simpa using hb
    subst e
    obtain ⟨o,e,c,d⟩:=st.2
    exact ⟨o,e,fun v z=>by rw [d]at z;cases z⟩
  keep:=fun i h h' st k=>⟨st.1,by obtain ⟨o,e,r⟩:=st.2;exact ⟨o,k it (by simp) o e,r⟩⟩
  item:=by
    intro X hP hw hK hc i pins s σ H E I hf st hg
    subst hP hw hK
    obtain ⟨f0,f1,f2,f3,f4,f5⟩:=hf it (by simp)
    have W:Walks X.prog X.w X.A it [it] [it] z.cps.size (SignAt z) (fun i h=>h.IsStrIter it ty z t i):=by
      rcases hty with rfl | rfl
      · exact Walks.strAscii (I.ok.hd hc) it z t
      · exact Walks.strWide (I.ok.hd hc) it z t
    refine W.item i s _ _ hg st.2 fun v h' tk hv st' kk=>?_
    obtain ⟨c,u,hcc,rfl⟩:=hv
    have I1:Inv X pins σ H {s with heap:=h',toks:=tk}:=I.turned (fun b o hb e=>kk b o (by simpa using hb) e) f0 f1 f3 f4 f5
    obtain ⟨o,e,cc,d⟩:=id st'
    refine ⟨_,rfl,go_of (s:={s with heap:=h',toks:=tk}) (n:=ty) e cc d (by rcases hty with rfl | rfl <;> decide) ⟨.str ⟨#[c]⟩,H,I1,⟨u,rfl⟩,⟨rfl,c,hcc,rfl⟩,⟨hg,st'⟩,fun b hb=>(hf b hb).1⟩⟩
  done:=by
    intro X hP hw hK hc i pins s σ H E I hf st hg
    subst hP hw hK
    obtain ⟨f0,f1,f2,f3,f4,f5⟩:=hf it (by simp)
    have W:Walks X.prog X.w X.A it [it] [it] z.cps.size (SignAt z) (fun i h=>h.IsStrIter it ty z t i):=by
      rcases hty with rfl | rfl
      · exact Walks.strAscii (I.ok.hd hc) it z t
      · exact Walks.strWide (I.ok.hd hc) it z t
    have hi:i=z.cps.size:=Nat.le_antisymm st.1 hg
    subst hi
    exact W.done s _ _ st.2 fun h' tk kk=>⟨rfl,I.turned (fun b o hb e=>kk b o (by simpa using hb) e) f0 f1 f3 f4 f5⟩
  self:=fun _ _ _ _ _ st h=>by
    rcases hty with rfl | rfl
    · exact wpAny_pyIter_striter_ascii st.2 h
    · exact wpAny_pyIter_striter_wide st.2 h
end
section
variable {X:Cx} {tg:Expr}
theorem pi_str{l:Expr}{tl:TE}(hl:PE X l tl):PI X tg l (iStr tl):=by
  intro pins s σ H R I h
  refine thn (hl pins s σ H _ I h) fun v s1 ⟨x,H1,I1,r1,q1⟩=>?_
  obtain ⟨z,e,q⟩:=q1
  subst e
  obtain ⟨t,rfl⟩:=r1
  have fin:∀ty,(ty="str_ascii_iterator"∨ty="str_iterator")→PIE X pins σ tg R (.ref s1.heap.objs.size) {s1 with heap:=s1.heap.push {cls:= .type ty,data:= .fields #[.str z t,.int 0 0]}}:=fun ty hty=>by
    refine ⟨s1.heap.objs.size,[s1.heap.objs.size],_,_,H1,rfl,I1.kept (t':=s1.toks) fun b o e=>Heap.get?_push_of_some _ e,turn_str ty hty z t _,⟨Nat.zero_le _,_,Heap.get?_push_size _ rfl,rfl,rfl⟩,fun b hb=>?_,q⟩
    have e:b=s1.heap.objs.size:=by simpa using hb
    subst e
    exact I1.fpOk (Nat.le_refl _) I1.fresh
  cases ha:z.cps.all (· < 128)
  · exact wpAny_pyIter_wide ha (fin _ (.inr rfl))
  · exact wpAny_pyIter_ascii ha (fin _ (.inl rfl))
noncomputable def rSlS:V→Option Int→Option Int→Hp→VK→Prop:=fun x lo hi H Q=>∃z,x= .str z∧z.length≤sizeLine∧Q (.str (Txt.slice z lo hi)) H
noncomputable def rJoin(K:PySem.W.Frag):V→List V→Hp→VK→Prop:=fun x vs H Q=>∃z p ys,x= .str z∧vs=[.ref p]∧SqL K H p (ys.map V.str)∧(ys.map (·.length)).sum+ys.length * z.length≤16777216∧Q (.str (Txt.join z ys)) H
noncomputable def rFind:V→List V→Hp→VK→Prop:=fun x vs H Q=>∃z y,x= .str z∧vs=[.str y]∧Q (.int (Txt.find z y)) H
noncomputable def rSplit:V→List V→Hp→VK→Prop:=fun x vs H Q=>∃z y,x= .str z∧vs=[.str y]∧(y.length==0)=false∧z.length+2≤sizeLine∧∀p,H p=none→Q (.ref p) (upd H p (.lst ((Txt.split z y).map V.str)))
noncomputable def rMulS:R2:=fun x y H Q=>∃z n,x= .str z∧y= .int n∧MulOk z n∧Q (.str (Txt.mul z n)) H
theorem op_mulS:OpR X (binaryOp .Mult) rMulS:=by
  intro pins s σ H x y v u Q I rx ry h
  obtain ⟨z,n,rfl,rfl,hok,q⟩:=h
  obtain ⟨t,rfl⟩:=rx
  obtain ⟨t2,rfl⟩:=ry
  exact SB.mul hok fun t' k=>⟨.str _,H,I.tok k,⟨t',rfl⟩,q⟩
noncomputable def rAll(K:PySem.W.Frag):List V→Hp→VK→Prop:=fun xs H Q=>∃(p:Addr) (bs:List Bool),xs=[.ref p]∧SqL K H p (bs.map V.bl)∧Q (.bl (bs.all id)) H
theorem call_all(hc:X.calm=true):CallR X (.builtin "all") (rAll X.K):=by
  intro pins s σ H xs us Q I r h
  obtain ⟨p,bs,rfl,hp,q⟩:=h
  obtain ⟨u,rfl,ru⟩:=vals1 r
  cases ru
  obtain ⟨its,r,pl,hz⟩:=I.list hp
  have hlt:p < s.heap.objs.size:=by obtain ⟨o,n,e,_⟩:=pl;exact Heap.lt_size e
  refine call_all_walk (wpAny_pyIter_list pl.isList ⟨s.heap.objs.size,_,_,_,_,_,fun i=>bs.getD i true,rfl,Walks.list (show X.A.in1.handled=none from I.ok.hd hc) s.heap.objs.size p (Nat.ne_of_lt hlt) its.toArray,⟨⟨_,Heap.get?_push_size _ rfl,rfl,rfl⟩,pl.isList.push _⟩,?_,fun h' tk kk=>?_⟩)
  · intro i v s' Q' E' hP hQ'
    have hP:its.toArray[i]?=some v:=hP
    have hlen:=r.length
    rw [List.length_map]at hlen
    have hi:i < bs.length:=by
      have:=(Array.getElem?_eq_some_iff.mp hP).1
      rw [List.size_toArray]at this
      omega
    obtain ⟨u,hu,ru⟩:=r.get (i:=i) (x:=V.bl (bs[i])) (by simp [hi])
    have e:u=v:=by
      have:its[i]?=some v:=by simpa using hP
      rw [hu]at this;exact Option.some.inj this
    subst e
    cases ru
    dsimp only at hQ'
    rw [List.getD_eq_getElem?_getD,List.getElem?_eq_getElem hi]at hQ'
    exact wpAny_pure hQ'
  · refine ⟨.bl _,H,I.kept (t':=tk) fun b o e=>kk b o ?_ (Heap.get?_push_of_some _ e),rfl,?_⟩
    · simpa using Nat.ne_of_lt (Heap.lt_size e)
    · have hlen:=r.length
      rw [List.length_map]at hlen
      have:((List.range its.toArray.size).all fun i=>bs.getD i true)=bs.all id:=by
        rw [List.size_toArray,← hlen]
        rw [Bool.eq_iff_iff,List.all_eq_true,List.all_eq_true]
        constructor
        · intro h x hx
          obtain ⟨i,hi,rfl⟩:=List.mem_iff_getElem.mp hx
          have:=h i (by simpa using hi)
          simpa [List.getD_eq_getElem?_getD,List.getElem?_eq_getElem hi] using this
        · intro h i hi
          have hi:i < bs.length:=by simpa using hi
          rw [List.getD_eq_getElem?_getD,List.getElem?_eq_getElem hi]
          exact h _ (List.getElem_mem hi)
      rw [this];exact q
end
noncomputable abbrev TJ:=Str→St→Hp→(Str→Hp→Prop)→Prop
noncomputable def jNil:TJ:=fun acc _ H Q=>Q acc H
noncomputable def jCons(te:TE)(tr:TJ):TJ:=fun acc σ H Q=>te σ H fun x H1=>∃y,x= .str y∧(acc++y).length≤sizeLine∧tr (acc++y) σ H1 Q
noncomputable def tFstr(t:TJ):TE:=fun σ H Q=>t Str.empty σ H fun out H1=>out.length≤sizeLine∧Q (.str out) H1
noncomputable def tFmt(te:TE):TE:=fun σ H Q=>te σ H fun x H1=>(∃z,x= .str z∧z.length≤sizeLine∧Q (.str z) H1)∨∃i,x= .int i∧i.natAbs.log2 < 1920∧Q (.str (toString i)) H1
noncomputable def tFmtR(te:TE):TE:=fun σ H Q=>te σ H fun x H1=>∃z,x= .str z∧(PySem.reprText z).length≤sizeLine∧Q (.str (PySem.reprText z)) H1
section
variable {X:Cx} {e v₁ v₂:Expr} {es:List Expr} {te:TE} {tr t:TJ} {pos:Pos}
end
end L2
set_option Elab.async false
set_option linter.all false
set_option maxRecDepth 100000
set_option maxHeartbeats 4000000
namespace L2
open PySem PySem.Spec PyProof.Rows
noncomputable abbrev tComp1(wi:TI)(fs:List Nat)(te:Blk→TE):TE:=tComp wi 1 fs (fun _=>gName 0) (fun _=>tYes) te
section
variable {X:Cx} {scope:Scope} {x:Str} {px:Pos} {fs:List Nat} {elt iter:Expr} {pos:Pos} {wi:TI} {te:Blk→TE}
theorem pg_own(hok:compOkB X.N X.env.scope scope [x] fs=true)(b:Blk):PG (X.blk scope ([x]++around X.N fs) b) (.Name x px) (gName 0):=
  pg_name (compOk_of hok).nd rfl (.inl (lookup_relabel_local ((compOk_of hok).own x (by simp)))) (.inr (lookup_relabel_local ((compOk_of hok).own x (by simp))))
theorem pe_comp1(x:Str)(fs:List Nat)(hc:X.calm=true)(hok:compOkB X.N X.env.scope scope [x] fs=true)(hi:PI X (.Name x px) iter wi)(he:∀b,PE (X.blk scope ([x]++around X.N fs) b) elt (te b))
    (hs:∀x,foldedSetIterable iter X.env x=pure x:=by intro _;rfl):PE X (.ListComp elt [⟨.Name x px,iter,[],0⟩] scope pos) (tComp1 wi fs te):=
  pe_compG (xs:=[x]) (g:=fun _=>gName 0) (tt:=fun _=>tYes) hc hok hi (pg_own hok) (fun _=>pts_nil) he hs
theorem ps_comp1{y:Str}{py:Pos}{i:Nat}{spos:Pos}(x:Str)(fs:List Nat)(hN:X.N.Nodup)(hy:X.N[i]?=some y)(hyl:X.env.kindOf y=some .local)(hc:X.calm=true)(hok:compOkB X.N X.env.scope scope [x] fs=true)(hi:PI X (.Name x px) iter wi)(he:∀b,PE (X.blk scope ([x]++around X.N fs) b) elt (te b))
    (hsw:swapsWith (.ListComp elt [⟨.Name x px,iter,[],0⟩] scope pos) (some (.Name y py)) spos.line X.env=pure true:=by rfl)
    (hs:∀x,foldedSetIterable iter X.env x=pure x:=by intro _;rfl):PS X (.Assign [.Name y py] (.ListComp elt [⟨.Name x px,iter,[],0⟩] scope pos) spos) (tAsg (tComp1 wi fs te) (gName i)):=
  ps_comp (xs:=[x]) (g:=fun _=>gName 0) (tt:=fun _=>tYes) hN hy hyl hc hok hi (pg_own hok) (fun _=>pts_nil) he hsw hs
end
theorem kept0{x:Option V}{r:St}:Kept (none::r) (x::r):=fun i v e=>by
  cases i with
  | zero=>cases e
  | succ i=>exact e
section
variable {K:PySem.W.Frag} {tail:St} {te:Blk→TE} {Q:VK} {H1:Hp}
noncomputable def CompNext(D:Addr)(n i:Nat)(ys:List V)(Pv:Nat→List V→Hp→Prop):VK:=fun y H4=>H4 D=some (.lst ys)∧ys.length < sizeLine∧∃m',m' < n - i∧(m'=n - (i+1)∧i+1≤n∧Pv (i+1) (ys++[y]) (upd H4 D (.lst (ys++[y]))))
theorem compNext{D:Addr}{n i:Nat}{ys:List V}{Pv:Nat→List V→Hp→Prop}{y:V}{H4:Hp}(h1:H4 D=some (.lst ys))(h2:ys.length < sizeLine)(h3:i < n)(h4:Pv (i+1) (ys++[y]) (upd H4 D (.lst (ys++[y])))):CompNext D n i ys Pv y H4:=
  ⟨h1,h2,n - (i+1),by omega,rfl,h3,h4⟩
theorem comp_by{J:It}(n:Nat)
    (h:∀(b:Blk) (D:Addr),H1 D=none→∃Pv:Nat→List V→Hp→Prop,Pv 0 [] (upd H1 D (.lst []))∧(∀i ys H,Pv i ys H→H D=some (.lst ys))∧(∀ys H,Pv n ys H→J.stop n H∧Q (.ref D) H)∧
      ∀i ys H,i < n→Pv i ys H→J.go i H∧∀x H3,J.yld i H x H3→te b (some x::tail) H3 (CompNext D n i ys Pv)):CompTail (none::tail) (fun _=>gName 0) (fun _=>tYes) te Q J H1:=by
  intro b D hD
  obtain ⟨Pv,p0,p1,p2,p3⟩:=h b D hD
  refine ⟨fun i m ys H=>m=n - i∧i≤n∧Pv i ys H,⟨n,rfl,Nat.zero_le _,p0⟩,?_⟩
  rintro i m ys H ⟨rfl,hi,p⟩
  refine ⟨p1 i ys H p,?_⟩
  by_cases hlt:i < n
  · obtain ⟨go,st⟩:=p3 i ys H hlt p
    refine .inr ⟨go,fun x H3 y=>⟨kept0,?_⟩⟩
    exact st x H3 y
  · have e:i=n:=by omega
    subst e
    exact .inl (p2 ys H p)
theorem same_new{D:Addr}{o:HO}(h:H1 D=none):Same H1 (upd H1 D o):=fun b u e=>by rw [upd_ne (ne_of_none e h)];exact e
theorem compS_pure{z:Str}(f:Nat→V)(hz:z.cps.size≤sizeLine)(he:∀b c H Q',c∈z.cps.toList→Same H1 H→Q' (f c) H→te b (some (.str ⟨#[c]⟩)::tail) H Q')
    (q:∀D,H1 D=none→Q (.ref D) (upd H1 D (.lst (z.cps.toList.map f)))):CompTail (none::tail) (fun _=>gName 0) (fun _=>tYes) te Q (Its z) H1:=by
  refine comp_by z.cps.size (fun b D hD=>⟨fun i ys H=>i≤z.cps.size∧ys=(z.cps.toList.take i).map f∧H=upd H1 D (.lst ys),⟨Nat.zero_le _,rfl,rfl⟩,?_,?_,?_⟩)
  · rintro i ys H ⟨hi,rfl,rfl⟩
    exact upd_same
  · rintro ys H ⟨_,rfl,rfl⟩
    refine ⟨Nat.le_refl _,?_⟩
    have e:z.cps.toList.take z.cps.size=z.cps.toList:=List.take_of_length_le (by simp)
    rw [e];exact q D hD
  · rintro i ys H hi ⟨_,rfl,rfl⟩
    refine ⟨hi,fun x H3 ⟨e3,c,hc,ex⟩=>?_⟩
    subst e3 ex
    have hc':z.cps.toList[i]?=some c:=by simpa using hc
    refine he b c _ _ (List.mem_of_getElem? hc') (same_new hD) (compNext upd_same (by rw [List.length_map,List.length_take,Array.length_toList];omega) hi ⟨hi,?_,?_⟩)
    · rw [List.take_add_one,hc'];simp
    · funext a;by_cases ha:a=D <;> simp [upd,ha]
theorem compL_pure{a:Addr}{xs:List V}(f:V→V)(hS:SqL K H1 a xs)(hz:xs.length≤sizeLine)(he:∀b x H Q',x∈xs→Same H1 H→Q' (f x) H→te b (some x::tail) H Q')
    (q:∀D,H1 D=none→Q (.ref D) (upd H1 D (.lst (xs.map f)))):CompTail (none::tail) (fun _=>gName 0) (fun _=>tYes) te Q (Itl K a) H1:=by
  refine comp_by xs.length (fun b D hD=>⟨fun i ys H=>i≤xs.length∧ys=(xs.take i).map f∧H=upd H1 D (.lst ys),⟨Nat.zero_le _,rfl,rfl⟩,?_,?_,?_⟩)
  · rintro i ys H ⟨hi,rfl,rfl⟩
    exact upd_same
  · rintro ys H ⟨_,rfl,rfl⟩
    refine ⟨⟨xs,(same_new hD).seq hS,Nat.le_refl _⟩,?_⟩
    rw [List.take_length];exact q D hD
  · rintro i ys H hi ⟨_,rfl,rfl⟩
    refine ⟨⟨xs,xs[i],(same_new hD).seq hS,by simp [hi]⟩,fun x H3 ⟨e3,ex⟩=>?_⟩
    subst e3
    have hc':=ex xs ((same_new hD).seq hS)
    refine he b x _ _ (List.mem_of_getElem? hc') (same_new hD) (compNext upd_same (by rw [List.length_map,List.length_take];omega) hi ⟨hi,?_,?_⟩)
    · rw [List.take_add_one,hc'];simp
    · funext a;by_cases ha:a=D <;> simp [upd,ha]
theorem compR_pure{lo:Int}{n:Nat}(f:Int→V)(hz:n≤sizeLine)(he:∀b (i:Nat) H Q',i < n→Same H1 H→Q' (f (lo+i)) H→te b (some (.int (lo+i))::tail) H Q')
    (q:∀D,H1 D=none→Q (.ref D) (upd H1 D (.lst ((List.range n).map fun (i:Nat)=>f (lo+(i:Int)))))):CompTail (none::tail) (fun _=>gName 0) (fun _=>tYes) te Q (Itr lo n) H1:=by
  refine comp_by n (fun b D hD=>⟨fun i ys H=>i≤n∧ys=(List.range i).map (fun (i:Nat)=>f (lo+(i:Int)))∧H=upd H1 D (.lst ys),⟨Nat.zero_le _,rfl,rfl⟩,?_,?_,?_⟩)
  · rintro i ys H ⟨hi,rfl,rfl⟩
    exact upd_same
  · rintro ys H ⟨_,rfl,rfl⟩
    exact ⟨Nat.le_refl _,q D hD⟩
  · rintro i ys H hi ⟨_,rfl,rfl⟩
    refine ⟨hi,fun x H3 ⟨e3,ex⟩=>?_⟩
    subst e3 ex
    refine he b i _ _ hi (same_new hD) (compNext upd_same (by rw [List.length_map,List.length_range];omega) hi ⟨hi,?_,?_⟩)
    · rw [List.range_succ];simp
    · funext a;by_cases ha:a=D <;> simp [upd,ha]
end
section
variable {σ:St} {H:Hp} {Q:VK} {D:Ends} {K:PySem.W.Frag}
theorem rd_comp{wi:TI}{fs:List Nat}{te:Blk→TE}:tComp1 wi fs te σ H Q=wi σ H (CompTail (none::fs.map fun j=>σ.getD j none) (fun _=>gName 0) (fun _=>tYes) te Q):=rfl
theorem rd_istr{tl:TE}{R:It→Hp→Prop}:iStr tl σ H R=tl σ H fun x H1=>∃z,x= .str z∧R (Its z) H1:=rfl
theorem rd_sl{r:V→Option Int→Option Int→Hp→VK→Prop}{te:TE}{tl th:TO}:tSl r te tl th σ H Q=te σ H fun x H1=>tl σ H1 fun l H2=>th σ H2 fun u H3=>r x l u H3 Q:=rfl
theorem rd_noPart{QO:Option Int→Hp→Prop}:tNoPart σ H QO=QO none H:=rfl
theorem rd_part{t:TE}{QO:Option Int→Hp→Prop}:tPart t σ H QO=t σ H fun x H1=>∃i,x= .int i∧QO (some i) H1:=rfl
theorem rd_slS{x:V}{lo hi:Option Int}:rSlS x lo hi H Q=∃z,x= .str z∧z.length≤sizeLine∧Q (.str (Txt.slice z lo hi)) H:=rfl
theorem rd_slL{x:V}{lo hi:Option Int}:rSlL K x lo hi H Q=∃a xs,x= .ref a∧SqL K H a xs∧∀p,H p=none→Q (.ref p) (upd H p (.lst (cutV xs lo hi))):=rfl
theorem rd_bm{T:String}{r:V→List V→Hp→VK→Prop}{to:TE}{t:TA}:tBM K T r to t σ H Q=to σ H fun x H1=>tyV K T x H1∧t σ H1 fun xs H2=>r x xs H2 Q:=rfl
theorem rd_bm0{T:String}{r:V→List V→Hp→VK→Prop}{to:TE}:tBM0 K T r to σ H Q=to σ H fun x H1=>tyV K T x H1∧r x [] H1 Q:=rfl
theorem tyV_str{z:Str}:tyV K "str" (.str z) H=True:=eq_true rfl
theorem rd_join{x:V}{vs:List V}:rJoin K x vs H Q=∃z p ys,x= .str z∧vs=[.ref p]∧SqL K H p (ys.map V.str)∧(ys.map (·.length)).sum+ys.length * z.length≤16777216∧Q (.str (Txt.join z ys)) H:=rfl
theorem rd_find{x:V}{vs:List V}:rFind x vs H Q=∃z y,x= .str z∧vs=[.str y]∧Q (.int (Txt.find z y)) H:=rfl
theorem rd_split{x:V}{vs:List V}:rSplit x vs H Q=∃z y,x= .str z∧vs=[.str y]∧(y.length==0)=false∧z.length+2≤sizeLine∧∀p,H p=none→Q (.ref p) (upd H p (.lst ((Txt.split z y).map V.str))):=rfl
theorem rd_all{xs:List V}:rAll K xs H Q=∃(p:Addr) (bs:List Bool),xs=[.ref p]∧SqL K H p (bs.map V.bl)∧Q (.bl (bs.all id)) H:=rfl
theorem rd_mulS{x y:V}:rMulS x y H Q=∃z n,x= .str z∧y= .int n∧MulOk z n∧Q (.str (Txt.mul z n)) H:=rfl
theorem rd_jnil{acc:Str}{QS:Str→Hp→Prop}:jNil acc σ H QS=QS acc H:=rfl
theorem rd_jcons{te:TE}{tr:TJ}{acc:Str}{QS:Str→Hp→Prop}:jCons te tr acc σ H QS=te σ H fun x H1=>∃y,x= .str y∧(acc++y).length≤sizeLine∧tr (acc++y) σ H1 QS:=rfl
theorem rd_fstr{t:TJ}:tFstr t σ H Q=t Str.empty σ H fun out H1=>out.length≤sizeLine∧Q (.str out) H1:=rfl
theorem rd_fmtR{te:TE}:tFmtR te σ H Q=te σ H fun x H1=>∃z,x= .str z∧(PySem.reprText z).length≤sizeLine∧Q (.str (PySem.reprText z)) H1:=rfl
theorem rd_fmt{te:TE}:tFmt te σ H Q=te σ H fun x H1=>(∃z,x= .str z∧z.length≤sizeLine∧Q (.str z) H1)∨∃i,x= .int i∧i.natAbs.log2 < 1920∧Q (.str (toString i)) H1:=rfl
theorem rd_dnewK:tDNewK σ H Q=∀p,H p=none→Q (.ref p) (upd H p (.dK [])):=rfl
theorem ixS_of{z:Str}{i:Int}{c:Nat}(hz:z.length≤sizeLine)(e:atI z.cps.toList i=some c)(q:Q (.str ⟨#[c]⟩) H):rIxS (.str z) (.int i) H Q:=⟨z,i,c,rfl,rfl,hz,e,q⟩
theorem blk_K{X:Cx}{scope:Scope}{N':List Str}{b:Blk}:(X.blk scope N' b).K=X.K:=rfl
end
section
variable {X:Cx} {x:Str} {pos:Pos}
theorem pe_gint{i:Int}(hg:Gl X x)(hm:∃t,X.mg x=some (.int i t))(hd:(x==("__debug__":Str))=false:=by decide):PE X (.Name x pos) (tC (.int i)):=by
  obtain ⟨t,hm⟩:=hm
  exact pe_glob hg hm ⟨t,rfl⟩ hd
theorem pe_gstr{z:Str}(hg:Gl X x)(hm:∃t,X.mg x=some (.str z t))(hd:(x==("__debug__":Str))=false:=by decide):PE X (.Name x pos) (tC (.str z)):=by
  obtain ⟨t,hm⟩:=hm
  exact pe_glob hg hm ⟨t,rfl⟩ hd
end
theorem line_val:sizeLine=16777216:=by decide
theorem len_app{a b:Str}:(a++b).length=a.length+b.length:=strLen_append a b
theorem len_one{c:Nat}:(⟨#[c]⟩:Str).length=1:=rfl
theorem str_len{z:Str}:z.cps.toList.length=z.length:=by simp [Str.length]
theorem app_list{a b:Str}:(a++b).cps.toList=a.cps.toList++b.cps.toList:=by
  show (a.cps++b.cps).toList=_
  simp
theorem script_go{K:PySem.W.Frag}{H:Hp}{a:Addr}{ns:List Int}{R:List Int→Prop}(h:SqL K H a (ns.map V.int))(hl:ns.length≤63)(q:R ns):∃x:List Int,SqL K H a (x.map V.int)∧x.length≤63∧R x:=⟨ns,h,hl,q⟩
noncomputable def hasS(z y:Str):Bool:=!(Builtin.Str.occurrences z y 0 z.length 1).isEmpty
theorem hasS_one{z:Str}{c:Nat}:hasS z ⟨#[c]⟩=decide (c∈z.cps.toList):=StrLaws.found_one z c
noncomputable def rInS:R2:=fun x y H Q=>∃i j,x= .str i∧y= .str j∧Q (.bl (hasS j i)) H
noncomputable def rNotInS:R2:=fun x y H Q=>∃i j,x= .str i∧y= .str j∧Q (.bl (!hasS j i)) H
theorem op_inS{X:Cx}:OpR X (compareOp .In) rInS:=op_in_str
theorem rd_inS{x y:V}{H:Hp}{Q:VK}:rInS x y H Q=∃i j,x= .str i∧y= .str j∧Q (.bl (hasS j i)) H:=rfl
theorem rd_notinS{x y:V}{H:Hp}{Q:VK}:rNotInS x y H Q=∃i j,x= .str i∧y= .str j∧Q (.bl (!hasS j i)) H:=rfl
theorem at_0{α:Type}{c:α}{r:List α}:atI (c::r) 0=some c:=atI_of (by decide) rfl
end L2
set_option Elab.async false
set_option linter.all false
set_option maxRecDepth 100000
set_option maxHeartbeats 4000000
namespace L2
open PySem PySem.Spec PyProof.Rows
noncomputable def flatEq(xs ys:List V):Bool:=match xs,ys with
  | [],[]=>true
  | x::xs,y::ys=>eqV x y && flatEq xs ys
  | _,_=>false
theorem flatEq_len:∀{xs ys:List V},xs.length≠ys.length→flatEq xs ys=false
  | [],[],h=>absurd rfl h
  | [],_::_,_=>rfl
  | _::_,[],_=>rfl
  | x::xs,y::ys,h=>by
    unfold flatEq
    rw [flatEq_len (fun e=>h (by simp [e])),Bool.and_false]
theorem flatEq_all:∀{xs ys:List V},xs.length=ys.length→flatEq xs ys=(List.range xs.length).all fun i=>eqV (xs.getD i .non) (ys.getD i .non)
  | [],[],_=>rfl
  | [],_::_,h=>by cases h
  | _::_,[],h=>by cases h
  | x::xs,y::ys,h=>by
    unfold flatEq
    rw [flatEq_all (by simpa using h),List.length_cons,List.range_succ_eq_map,List.all_cons,List.all_map]
    rfl
theorem eqV_str{x y:Str}:eqV (.str x) (.str y)=decide (x=y):=rfl
theorem flatEq_strs:∀{xs ys:List Str},flatEq (xs.map V.str) (ys.map V.str)=decide (xs=ys)
  | [],[]=>rfl
  | [],_::_=>rfl
  | _::_,[]=>rfl
  | x::xs,y::ys=>by
    show (eqV (.str x) (.str y) && flatEq (xs.map V.str) (ys.map V.str))=_
    rw [flatEq_strs,eqV_str]
    by_cases h:x=y
    · subst h;simp
    · simp [h]
noncomputable def EqQ(K:PySem.W.Frag)(H:Hp)(x y:V)(r:Bool):Prop:=∃a b xs ys,x= .ref a∧y= .ref b∧((SqL K H a xs∧SqL K H b ys)∨(SqT K H a xs∧SqT K H b ys))∧xs.all flatV=true∧ys.all flatV=true∧r=flatEq xs ys
section
variable {X:Cx} {pins:List (Addr×Obj)} {σ:St} {H:Hp} {s:Shared}
theorem flat_items{xs ys:List V}{us ws:List Value}{A:Around}(rx:Vals xs us)(ry:Vals ys ws)(fx:xs.all flatV=true)(fy:ys.all flatV=true):
    ∀j (h1:j < us.toArray.size) (h2:j < ws.toArray.size),SeqAt.EqAt A s us.toArray[j] ws.toArray[j] (eqV (xs.getD j .non) (ys.getD j .non)):=by
  intro j h1 h2
  have lx:=rx.length
  have ly:=ry.length
  rw [List.size_toArray]at h1 h2
  have hx:j < xs.length:=by omega
  have hy:j < ys.length:=by omega
  obtain ⟨u,hu,ru⟩:=rx.get (i:=j) (x:=xs[j]) (by simp [hx])
  obtain ⟨w,hw,rw'⟩:=ry.get (i:=j) (x:=ys[j]) (by simp [hy])
  have eu:us.toArray[j]=u:=by
    have:=List.getElem?_eq_getElem h1
    rw [this]at hu
    simpa using hu
  have ew:ws.toArray[j]=w:=by
    have:=List.getElem?_eq_getElem h2
    rw [this]at hw
    simpa using hw
  rw [eu,ew,List.getD_eq_getElem?_getD,List.getD_eq_getElem?_getD,List.getElem?_eq_getElem hx,List.getElem?_eq_getElem hy]
  exact eqAt_V ru rw' (List.all_eq_true.mp fx _ (List.getElem_mem hx)) (List.all_eq_true.mp fy _ (List.getElem_mem hy))
theorem eqQ_rc{x y:V}{u v:Value}{r:Bool}{A:Around}(I:Inv X pins σ H s)(rx:RelV x u)(ry:RelV y v)(h:EqQ X.K H x y r)(hu:A.units < cLine):SeqAt.RcAt A s u v r:=by
  obtain ⟨a,b,xs,ys,rfl,rfl,hq,fx,fy,rfl⟩:=h
  cases rx
  cases ry
  rcases hq with ⟨h1,h2⟩ | ⟨h1,h2⟩
  · obtain ⟨us,r1,p1,z1⟩:=I.list h1
    obtain ⟨ws,r2,p2,z2⟩:=I.list h2
    have lx:=r1.length
    have ly:=r2.length
    by_cases hl:xs.length=ys.length
    · rw [flatEq_all hl]
      have:=SeqAt.RcAt.lists p1.isList p2.isList (by simp;omega) hu (flat_items r1 r2 fx fy)
      rw [List.size_toArray,← lx]at this
      exact this
    · rw [flatEq_len hl]
      exact SeqAt.RcAt.lists_lengths p1.isList p2.isList (by simp;omega) hu
  · obtain ⟨us,r1,p1,z1⟩:=I.tuple h1
    obtain ⟨ws,r2,p2,z2⟩:=I.tuple h2
    have lx:=r1.length
    have ly:=r2.length
    have:=SeqAt.RcAt.tuples (show s.heap.IsTuple a us.toArray from p1) (show s.heap.IsTuple b ws.toArray from p2) hu (flat_items r1 r2 fx fy)
    rw [List.size_toArray,List.size_toArray,← lx,← ly]at this
    by_cases hl:xs.length=ys.length
    · rw [flatEq_all hl]
      rw [hl,Nat.min_self,beq_self_eq_true,Bool.and_true]at this
      rw [hl];exact this
    · rw [flatEq_len hl]
      rw [beq_eq_false_iff_ne.mpr hl,Bool.and_false]at this
      exact this
theorem eqQ_ne{x y:V}{u v:Value}{r:Bool}{A:Around}(I:Inv X pins σ H s)(rx:RelV x u)(ry:RelV y v)(h:EqQ X.K H x y r)(hu:A.units < cLine):SeqAt.RcNeAt A s u v (!r):=by
  obtain ⟨a,b,xs,ys,rfl,rfl,hq,fx,fy,rfl⟩:=h
  cases rx
  cases ry
  rcases hq with ⟨h1,h2⟩ | ⟨h1,h2⟩
  · obtain ⟨us,r1,p1,z1⟩:=I.list h1
    obtain ⟨ws,r2,p2,z2⟩:=I.list h2
    have lx:=r1.length
    have ly:=r2.length
    by_cases hl:xs.length=ys.length
    · rw [flatEq_all hl]
      have:=SeqAt.RcNeAt.lists p1.isList p2.isList (by simp;omega) hu (flat_items r1 r2 fx fy)
      rw [List.size_toArray,← lx]at this
      exact this
    · rw [flatEq_len hl]
      exact SeqAt.RcNeAt.lists_lengths p1.isList p2.isList (by simp;omega) hu
  · obtain ⟨us,r1,p1,z1⟩:=I.tuple h1
    obtain ⟨ws,r2,p2,z2⟩:=I.tuple h2
    have lx:=r1.length
    have ly:=r2.length
    have:=SeqAt.RcNeAt.tuples (show s.heap.IsTuple a us.toArray from p1) (show s.heap.IsTuple b ws.toArray from p2) hu (flat_items r1 r2 fx fy)
    rw [List.size_toArray,List.size_toArray,← lx,← ly]at this
    by_cases hl:xs.length=ys.length
    · rw [flatEq_all hl]
      rw [hl,Nat.min_self,beq_self_eq_true,Bool.and_true]at this
      rw [hl];exact this
    · rw [flatEq_len hl]
      rw [beq_eq_false_iff_ne.mpr hl,Bool.and_false]at this
      exact this
noncomputable def rEqQ(K:PySem.W.Frag):R2:=fun x y H Q=>∃r,EqQ K H x y r∧Q (.bl r) H
noncomputable def rNeQ(K:PySem.W.Frag):R2:=fun x y H Q=>∃r,EqQ K H x y r∧Q (.bl (!r)) H
theorem op_eqQ{k:Nat}(hr:Room k X.A):OpR X (compareOp .Eq) (rEqQ X.K):=by
  intro pins s σ H x y v u Q I rx ry h
  obtain ⟨r,e,q⟩:=h
  exact eqQ_rc I rx ry e (Nat.lt_of_le_of_lt (by omega) hr.un) X.prog X.w X.xe _ ⟨.bl r,H,I,rfl,q⟩
theorem op_neQ{k:Nat}(hr:Room k X.A):OpR X (compareOp .NotEq) (rNeQ X.K):=by
  intro pins s σ H x y v u Q I rx ry h
  obtain ⟨r,e,q⟩:=h
  exact eqQ_ne I rx ry e (Nat.lt_of_le_of_lt (by omega) hr.un) X.prog X.w X.xe _ ⟨.bl (!r),H,I,rfl,q⟩
end
section
variable {K:PySem.W.Frag} {H:Hp} {Q:VK} {x y:V}
theorem rd_eqQ:rEqQ K x y H Q=∃r,EqQ K H x y r∧Q (.bl r) H:=rfl
theorem rd_neQ:rNeQ K x y H Q=∃r,EqQ K H x y r∧Q (.bl (!r)) H:=rfl
theorem all_strs{xs:List Str}:(xs.map V.str).all flatV=true:=by
  rw [List.all_map]
  exact List.all_eq_true.mpr fun _ _=>rfl
theorem eqQ_strs{a b:Addr}{xs ys:List Str}(h1:SqL K H a (xs.map V.str))(h2:SqL K H b (ys.map V.str)):EqQ K H (.ref a) (.ref b) (decide (xs=ys)):=⟨a,b,_,_,rfl,rfl,.inl ⟨h1,h2⟩,all_strs,all_strs,flatEq_strs.symm⟩
end
end L2
set_option Elab.async false
set_option linter.all false
set_option maxRecDepth 100000
set_option maxHeartbeats 4000000
namespace L2
open PySem PySem.Spec PyProof.Rows
structure TryB where
  pn:List (Addr×Obj)
  xe:Value→Shared→Prop
  EE:St→XK
noncomputable def tTryV(tb:TryB→TS)(th:TH):TS:=fun D σ H=>∀(pn:List (Addr×Obj)) (xe:Value→Shared→Prop),tb ⟨pn,xe,fun σ' cls ox H'=>∃x,ox=some x∧th cls x D σ' H'⟩ D σ H
noncomputable def hClsV(K:PySem.W.Frag)(c:Value)(ts:Addr→TS)(tr:TH):TH:=fun cls x D σ H=>∃b,PySem.W.exmOne K cls c=some b∧if b=true then ts x D σ H else tr cls x D σ H
noncomputable def hAsV(K:PySem.W.Frag)(c:Value)(i:Nat)(ts:Addr→TS)(tr:TH):TH:=fun cls x D σ H=>∃b,PySem.W.exmOne K cls c=some b∧if b=true then ts x (endsAs i D) (σ.set i (some (.ref x))) (upd H x (excO x cls)) else tr cls x D σ H
section
variable {X:Cx} {C n:Str} {c:Value} {i:Nat} {np pos:Pos} {b₀:Stmt} {suite:List Stmt} {rest:List ExceptHandler} {ts:Addr→TS} {tr:TH}
end
section
variable {σ:St} {H:Hp} {D:Ends} {K:PySem.W.Frag}
theorem rd_tryV{tb:TryB→TS}{th:TH}:tTryV tb th D σ H=∀(pn:List (Addr×Obj)) (xe:Value→Shared→Prop),tb ⟨pn,xe,fun σ' cls ox H'=>∃x,ox=some x∧th cls x D σ' H'⟩ D σ H:=rfl
theorem rd_hclsV{c cls:Value}{x:Addr}{ts:Addr→TS}{tr:TH}:hClsV K c ts tr cls x D σ H=∃b,PySem.W.exmOne K cls c=some b∧if b=true then ts x D σ H else tr cls x D σ H:=rfl
theorem rd_hasV{c cls:Value}{i:Nat}{x:Addr}{ts:Addr→TS}{tr:TH}:hAsV K c i ts tr cls x D σ H=∃b,PySem.W.exmOne K cls c=some b∧if b=true then ts x (endsAs i D) (σ.set i (some (.ref x))) (upd H x (excO x cls)) else tr cls x D σ H:=rfl
theorem tryX_K{X:Cx}{pn:List (Addr×Obj)}{xe:Value→Shared→Prop}:(X.tryX pn xe).K=X.K:=rfl
theorem sui_K{X:Cx}{x:Addr}:(X.sui x).K=X.K:=rfl
end
end L2
set_option Elab.async false
set_option linter.all false
set_option maxRecDepth 100000
set_option maxHeartbeats 4000000
namespace L2
open PySem PySem.Spec PyProof.Rows
structure DefM(P:Program)(w:World)(K:PySem.W.Frag)(mg:Str→Option Value)(base:Heap)(CX:CXT)(k:Nat)(C:Addr)(m:Str)(ps:List Str)(sp:Sp):Prop where
  ex:∃(f:Addr) (fd:FuncData),FnOk P w K mg base CX k f fd ps sp∧Meth K C m f∧Binds K fd ps []
structure DefI(P:Program)(w:World)(K:PySem.W.Frag)(mg:Str→Option Value)(base:Heap)(CX:CXT)(k:Nat)(x:Str)(C:Addr)(ps:List Str)(sp:Sp):Prop where
  ex:∃(f:Addr) (fd:FuncData),FnOk P w K mg base CX k f fd ps sp∧Mk K C f∧mg x=some (.ref C)∧Binds K fd ps []
noncomputable def tMethE(C:Addr)(m:Str)(sp:Sp)(EE:St→XK)(ta:TE)(t:TA):TE:=fun σ H Q=>ta σ H fun x H1=>∃a dx fs,x= .ref a∧H1 a=some (.ins C dx fs)∧fs.lookup m=none∧t σ H1 fun vs H2=>sp (x::vs) H2 Q (EE σ)
noncomputable def tMakeE(C:Addr)(sp:Sp)(EE:St→XK)(t:TA):TE:=fun σ H Q=>t σ H fun vs H1=>∀x dx,H1 x=none→H1 dx=none→dx≠x→sp (.ref x::vs) (upd (upd H1 dx (.own x)) x (.ins C dx [])) (fun v H2=>v= .non∧Q (.ref x) H2) (EE σ)
section
variable {X:Cx} {CX:CXT} {k j:Nat} {f C:Addr} {fd:FuncData} {ps:List Str} {sp:Sp} {EE:St→XK} {E:XK} {x m:Str} {p pos apos:Pos} {e o:Expr} {es:List Expr} {ta:TE} {t:TA}
theorem passS(h:Passes CX X E):PassesS CX X fun _=>E:=fun pins σ H s e s' I hc=>h pins σ H s e s' I hc
theorem run_fnS{pins:List (Addr×Obj)}{σ:St}{H:Hp}{s:Shared}{Q:VK}{us:List Value}{vs:List V}(F:FnOk X.prog X.w X.K X.mg X.base CX k f fd ps sp)(hr:Room k X.A)(hb:Binds X.K fd ps [])(hx:PassesS CX X EE)
    (I:Inv X pins σ H s) (r:Vals vs us) (h:sp vs H Q (EE σ)):wpAny (model X.prog X.w) X.A (call (.ref f) us) (EP X pins σ Q) X.xe s:=by
  have hl:us.length=ps.length:=by rw [← r.length];exact F.len _ _ _ _ h
  have hb':=hb s us I.kIn (by simpa using hl)
  rw [List.append_nil]at hb'
  refine wpAny_call (codeAny_mono (F.run X.A X.stack s H ⟨us,[]⟩ us vs Q (EE σ) hr I.env0 hb' r h) fun r s' hq=>?_)
  cases r with
  | error e=>exact hx pins σ H s e s' I hq
  | ok fl=>
    cases fl with
    | ret u=>exact I.after hq
    | next=>exact False.elim hq
    | brk=>exact False.elim hq
    | cont=>exact False.elim hq
theorem pe_methS{pl:Sem Bool}(D:DefM X.prog X.w X.K X.mg X.base CX j C m ps sp)(c:Cls X.K C)(hr:Room k X.A)(hx:PassesS CX X EE)(he:PE X o ta)(ha:PA X (e::es) t)(hj:j≤k:=by decide)
    (hst:starEach (e::es) X.env=(false,eval e X.env)::starEach es X.env:=by rfl) (hpl:(backTo pos (starEach es X.env)).any (·.1)=false:=by rfl)
    (ht:eval (.Call (.Attribute o m apos) (e::es) [] pos) X.env=(do
      let ov ← eval o X.env
      standAt apos.atName
      let (f,first) ← holding [ov] (getMethod ov m pl)
      callWith pos f first (backTo pos (starEach (e::es) X.env)) (backToKw pos (keywordEach [] X.env))):=by rfl):
    PE X (.Call (.Attribute o m apos) (e::es) [] pos) (tMethE C m sp EE ta t):=by
  obtain ⟨f,fd,F,hm,hb⟩:=D.ex
  intro pins s σ H Q I h
  refine PySem.W.methodCall_KW (pl:=pl) (thn (he pins s σ H _ I h) fun u s1 ⟨x,H1,I1,rx,a,dx,fs,ex,ea,l,q⟩=>?_) ht
  subst ex
  obtain rfl:u=Value.ref a:=rx
  refine getmeth_ok I1 ea c hm l ?_
  refine PySem.W.callWith_K (first:=[.ref a]) (h₀:=X.base) I.ok.mod.kin hm.kp (thn (ha pos pins s1 σ H1 _ I1 q) fun us s2 ⟨vs,H2,I2,r,q2⟩=>⟨I2.kIn,?_⟩) hst hpl
  exact run_fnS (us:= .ref a::us) (vs:= .ref a::vs) (F.mono hj) hr hb hx I2 (.cons rfl r) q2
theorem pe_methS0{pl:Sem Bool}(D:DefM X.prog X.w X.K X.mg X.base CX j C m ps sp)(c:Cls X.K C)(hr:Room k X.A)(hx:PassesS CX X EE)(he:PE X o ta)(hj:j≤k:=by decide)
    (ht:eval (.Call (.Attribute o m apos) [] [] pos) X.env=(do
      let ov ← eval o X.env
      standAt apos.atName
      let (f,first) ← holding [ov] (getMethod ov m pl)
      callWith pos f first (backTo pos (starEach [] X.env)) (backToKw pos (keywordEach [] X.env))):=by rfl):
    PE X (.Call (.Attribute o m apos) [] [] pos) (tMethE C m sp EE ta tNil):=by
  obtain ⟨f,fd,F,hm,hb⟩:=D.ex
  intro pins s σ H Q I h
  refine PySem.W.methodCall_KW (pl:=pl) (thn (he pins s σ H _ I h) fun u s1 ⟨x,H1,I1,rx,a,dx,fs,ex,ea,l,q⟩=>?_) ht
  subst ex
  obtain rfl:u=Value.ref a:=rx
  refine getmeth_ok I1 ea c hm l ?_
  exact PySem.W.callWith_K0 (first:=[.ref a]) I1.kIn hm.kp (run_fnS (us:=[.ref a]) (vs:=[.ref a]) (F.mono hj) hr hb hx I1 (.cons rfl .nil) q)
theorem pe_makeS(D:DefI X.prog X.w X.K X.mg X.base CX j x C ps sp)(hr:Room k X.A)(hg:Gl X x)(hx:PassesS CX X EE)(ha:PA X (e::es) t)(hj:j+1≤k:=by decide)(hdb:(x==("__debug__":Str))=false:=by decide)
    (he:starEach (e::es) X.env=(false,eval e X.env)::starEach es X.env:=by rfl) (hpl:(backTo pos (starEach es X.env)).any (·.1)=false:=by rfl):
    PE X (.Call (.Name x p) (e::es) [] pos) (tMakeE C sp EE t):=by
  obtain ⟨f,fd,F,M,hm,hb⟩:=D.ex
  intro pins s0 σ H0 Q I0 h
  refine wpAny_Call_Name_kw (ld_glob I0 hg hm ?_ hdb)
  refine PySem.W.callWith_K (h₀:=X.base) I0.ok.mod.kin M.kp (thn (ha pos pins s0 σ H0 _ I0 h) fun us s ⟨vs,H,I,r,q⟩=>⟨I.kIn,?_⟩) he hpl
  have hq:=q (s.heap.objs.size+1) s.heap.objs.size (I.hok.fresh (Nat.le_succ _)) (I.hok.fresh (Nat.le_refl _)) (Nat.ne_of_lt (Nat.lt_succ_self _))
  have I2:=Inv.made (C:=C) I
  have r2:Vals (V.ref (s.heap.objs.size+1)::vs) (Value.ref (s.heap.objs.size+1)::us):= .cons rfl r
  have hl:(Value.ref (s.heap.objs.size+1)::us).length=ps.length:=by
    rw [← r2.length];exact F.len _ _ _ _ hq
  have hb':=fun s' (h':X.K.In s'.heap)=>hb s' (Value.ref (s.heap.objs.size+1)::us) h' (by simpa using hl)
  have hr':Room (j+1) X.A:=hr.mono hj
  refine wpAny_call (make_map (f:=f) I.kIn M.makes M.init (beq_iff_eq.mp M.fn) (codeAny_mono (F.run _ X.stack _ _ ⟨Value.ref (s.heap.objs.size+1)::us,[]⟩ (Value.ref (s.heap.objs.size+1)::us) _ _ (EE σ) (hr'.make C us [])
    (I2.env0.make C us []) (by have:=hb' _ I2.kIn;rw [List.append_nil]at this;exact this) r2 hq) fun r s' hq'=>?_))
  cases r with
  | error e=>exact hx pins σ _ _ e s' I2 hq'
  | ok fl=>
    cases fl with
    | ret u=>
      obtain ⟨v,H',I3,rv,ev,q3⟩:=I2.after hq'
      subst ev
      exact ⟨rv,⟨V.ref (s.heap.objs.size+1),H',I3,rfl,q3⟩⟩
    | next=>exact False.elim hq'
    | brk=>exact False.elim hq'
    | cont=>exact False.elim hq'
end
section
variable {σ:St} {H:Hp} {Q:VK} {D:Ends} {K:PySem.W.Frag}
theorem rd_methE{C:Addr}{m:Str}{sp:Sp}{EE:St→XK}{ta:TE}{t:TA}:tMethE C m sp EE ta t σ H Q=ta σ H fun x H1=>∃a dx fs,x= .ref a∧H1 a=some (.ins C dx fs)∧fs.lookup m=none∧t σ H1 fun vs H2=>sp (x::vs) H2 Q (EE σ):=rfl
theorem rd_makeE{C:Addr}{sp:Sp}{EE:St→XK}{t:TA}:tMakeE C sp EE t σ H Q=t σ H fun vs H1=>∀x dx,H1 x=none→H1 dx=none→dx≠x→sp (.ref x::vs) (upd (upd H1 dx (.own x)) x (.ins C dx [])) (fun v H2=>v= .non∧Q (.ref x) H2) (EE σ):=rfl
theorem rd_fld{ta:TE}{f:Str}:tFld K ta f σ H Q=ta σ H fun x H1=>∃a C dx fs v,x= .ref a∧H1 a=some (.ins C dx fs)∧Cls K C∧NoAttr K C f∧fs.lookup f=some v∧Q v H1:=rfl
theorem rd_sfld{ta tv:TE}{f:Str}:sFld K ta tv f D σ H=tv σ H fun y H1=>ta σ H1 fun x H2=>∃a C dx fs,x= .ref a∧H2 a=some (.ins C dx fs)∧Cls K C∧NoAttr K C f∧fs.length < 1000∧D.nx σ (upd H2 a (.ins C dx (putF f y fs))):=rfl
theorem rd_din{ty td:TE}:tDIn ty td σ H Q=ty σ H fun y H1=>td σ H1 fun x H2=>∃a o,x= .ref a∧DGet H2 a y o∧Q (.bl o.isSome) H2:=rfl
theorem rd_dnotin{ty td:TE}:tDNotIn ty td σ H Q=ty σ H fun y H1=>td σ H1 fun x H2=>∃a o,x= .ref a∧DGet H2 a y o∧Q (.bl (!o.isSome)) H2:=rfl
theorem rd_dget{td ty:TE}:tDGet td ty σ H Q=td σ H fun x H1=>ty σ H1 fun y H2=>∃a v,x= .ref a∧DGet H2 a y (some v)∧Q v H2:=rfl
theorem rd_dput{td ty tv:TE}:sDPut td ty tv D σ H=tv σ H fun v H1=>td σ H1 fun x H2=>ty σ H2 fun y H3=>∃a H4,x= .ref a∧DPut H3 a y v H4∧D.nx σ H4:=rfl
theorem rd_gtup{n:Nat}{t:TGs}{v:V}{N:St→Hp→Prop}:gTup K n t v σ H N=∃a xs,v= .ref a∧SqT K H a xs∧xs.length=n∧t xs σ H N:=rfl
end
theorem le_app{a b:Str}{n:Nat}(h1:a.length≤n / 2)(h2:b.length≤n / 2):(a++b).length≤n:=by
  rw [len_app];omega
end L2
set_option linter.all false
set_option maxHeartbeats 1000000
namespace N1
open PySem L2
noncomputable def letters:List Nat:=List.range' 97 26
noncomputable def figures:List Nat:=List.range' 48 10
theorem let_list:(Str.ofString "abcdefghijklmnopqrstuvwxyz").cps.toList=letters:=by decide+kernel
theorem fig_list:(Str.ofString "0123456789").cps.toList=figures:=by decide+kernel
theorem both_list:(Str.ofString "abcdefghijklmnopqrstuvwxyz0123456789").cps.toList=letters++figures:=by decide+kernel
theorem both_len:(letters++figures).length=36:=by decide
noncomputable def headIn(l:List Nat)(s:List Nat):Bool:=match l with
  | []=>false
  | c::_=>decide (c∈s)
noncomputable def nameB(l:List Nat):Bool:=decide (1≤l.length) && decide (l.length≤8) && headIn l letters && l.all fun c=>decide (c∈letters++figures)
end N1
set_option linter.all false
set_option maxHeartbeats 1000000
namespace N1
open PySem L2
end N1
set_option linter.all false
set_option maxHeartbeats 1000000
namespace N1
open PySem L2
noncomputable def tx(l:List Nat):Str:=⟨l.toArray⟩
theorem T_list{l:List Nat}:(tx l).cps.toList=l:=by simp [tx]
theorem T_eq{z:Str}:tx z.cps.toList=z:=by cases z;simp [tx]
theorem T_inj{a b:List Nat}(h:tx a=tx b):a=b:=by rw [← T_list (l:=a),h,T_list]
theorem T_app{a b:List Nat}:tx a++tx b=tx (a++b):=by
  have h:=app_list (a:=tx a) (b:=tx b)
  rw [T_list,T_list]at h
  rw [← T_eq (z:=tx a++tx b),h]
theorem T_len{l:List Nat}:(tx l).length=l.length:=by rw [← str_len,T_list]
theorem T_one{c:Nat}:(⟨#[c]⟩:Str)=tx [c]:=rfl
noncomputable def grow(ps:List (List Nat))(d:Nat):List (List Nat):=ps.dropLast++[ps.getLastD []++[d]]
inductive AskR where
  | ok (ps:List (List Nat))
  | many
  | noname
noncomputable def Low(z:Str):Prop:=∀c∈z.cps.toList,c < 1000
theorem both_length:(Str.ofString "abcdefghijklmnopqrstuvwxyz0123456789").length=36:=by decide+kernel
noncomputable def bc(i:Int):Nat:=(letters++figures).getD i.toNat 0
theorem ix_bc(i:Int){k:Int}(h0:0 < k)(h1:k≤36):atI (Str.ofString "abcdefghijklmnopqrstuvwxyz0123456789").cps.toList (i % k)=some (bc (i % k)):=by
  have h2:=Int.emod_lt_of_pos i h0
  have h3:=Int.emod_nonneg i (show k≠0 by omega)
  refine atI_of h3 ?_
  have h4:(i % k).toNat < (letters++figures).length:=by rw [both_len];omega
  unfold bc
  rw [both_list,List.getD_eq_getElem?_getD,List.getElem?_eq_getElem h4]
  rfl
end N1
set_option linter.all false
set_option maxHeartbeats 1000000
namespace N1
open PySem PySem.Spec PyProof.Rows L2
noncomputable def sp_cell(K:PySem.W.Frag):Sp:=fun vs H Q _=>∃(a:Addr) (ns:List Int) (k:Int),vs=[.ref a,.int k]∧SqL K H a (ns.map V.int)∧0≤k∧ns.length≤63∧Q (.int (ns.getD k.toNat 0)) H
noncomputable def sp_made:Sp:=fun vs H Q _=>∃(z w:Str),vs=[.str z,.str w]∧z.length≤sizeLine∧∀H',Same H H'→Q (.bl (z.cps.toList.all fun c=>decide (c∈w.cps.toList))) H'
noncomputable def sp_is_name(K:PySem.W.Frag):Sp:=fun vs H Q _=>∃(x:V),vs=[x]∧((∃z:Str,x= .str z∧z.length≤sizeLine∧∀H',Same H H'→Q (.bl (nameB z.cps.toList)) H')∨(Isi K H x "str" false∧Q (.bl false) H))
noncomputable def sp_law(K:PySem.W.Frag):Sp:=fun vs H Q _=>∃(a:Addr) (ns:List Int),vs=[.ref a]∧SqL K H a (ns.map V.int)∧ns.length≤63∧∀H',Q (.bl true) H'
end N1
set_option linter.all false
set_option maxHeartbeats 1000000
namespace N1
open PySem PySem.Spec PyProof.Rows L2
inductive StE where
  | noname | twice | nonum | many
noncomputable def nOk:V→Bool
  | .str z=>nameB z.cps.toList
  | _=>false
noncomputable def sOf:V→Str
  | .str z=>z
  | _=>Str.empty
noncomputable def wIn(lo hi:Int):V→Bool
  | .int i=>decide (lo≤i) && decide (i≤hi)
  | _=>false
noncomputable abbrev Rw:=Addr×V×V×V
noncomputable def rowR(ks:List Str)(n c r:V):Option StE:=if nOk n=false then some .noname else if sOf n∈ks then some .twice else if wIn 0 (10 ^ 30) c=false then some .nonum else if wIn 1 1000 r=false then some .nonum else none
noncomputable def stockR(ks:List Str):List Rw→Option StE
  | []=>none
  | t::rs=>match rowR ks t.2.1 t.2.2.1 t.2.2.2 with
    | some e=>some e
    | none=>stockR (ks++[sOf t.2.1]) rs
noncomputable def initR(rs:List Rw):Option StE:=if 60 < rs.length then some .many else stockR [] rs
theorem num_isi{K:PySem.W.Frag}{H:Hp}{v:V}(h:flatV v=true):∃b c,Isi K H v "int" b∧(b=true→Isi K H v "bool" c)∧((b && !c)=true→∃i,v= .int i)∧((b && !c)=false→∀i,v≠ .int i):=by
  cases v with
  | non=>exact ⟨false,false,isi_ni,fun h=>by (cases h),fun h=>by (cases h),fun _ i h=>by cases h⟩
  | bl b=>exact ⟨true,true,isi_bi,fun _=>isi_bb,fun h=>by (cases h),fun _ i h=>by cases h⟩
  | int i=>exact ⟨true,false,isi_ii,fun _=>isi_ib,fun _=>⟨i,rfl⟩,fun h=>by cases h⟩
  | str z=>exact ⟨false,false,isi_si,fun h=>by (cases h),fun h=>by (cases h),fun _ i h=>by cases h⟩
  | _=>cases h
noncomputable def sp_is_whole(K:PySem.W.Frag):Sp:=fun vs H Q _=>∃(x:V) (b c:Bool),vs=[x]∧Isi K H x "int" b∧(b=true→Isi K H x "bool" c)∧Q (.bl (b && !c)) H
noncomputable def sp_within(K:PySem.W.Frag):Sp:=fun vs H Q _=>∃(v:V) (lo hi:Int),vs=[v,.int lo,.int hi]∧flatV v=true∧Q (.bl (wIn lo hi v)) H
noncomputable def SameBut(p:Addr)(H H':Hp):Prop:=∀b o,H b=some o→b≠p→H' b=some o
theorem SameBut.trans{p:Addr}{H H1 H2:Hp}(h1:SameBut p H H1)(h2:SameBut p H1 H2):SameBut p H H2:=fun b o e n=>h2 b o (h1 b o e n) n
theorem sameBut_upd{p:Addr}{H:Hp}{o:HO}:SameBut p H (upd H p o):=fun b u e n=>by rw [upd_ne n];exact e
noncomputable abbrev Th:=Str×Int×Int
noncomputable def flds(d:Addr):List (Str×V):=putF "things" (.ref d) []
structure StockAt(K:PySem.W.Frag)(C:Addr)(H:Hp)(p:Addr)(ts:List Th):Prop where
  ex:∃(dx d:Addr) (kvs:List (Key×V)),H p=some (.ins C dx (flds d))∧H d=some (.dK kvs)∧kvs.map (·.1)=ts.map (fun t=>Sum.inr t.1)∧
    ∀(i:Nat) (t:Th),ts[i]?=some t→∃a,kvs[i]?=some (Sum.inr t.1,.ref a)∧SqT K H a [.int i,.int t.2.1,.int t.2.2]
theorem StockAt.same{K:PySem.W.Frag}{C:Addr}{H H':Hp}{p:Addr}{ts:List Th}(s:Same H H')(h:StockAt K C H p ts):StockAt K C H' p ts:=by
  obtain ⟨dx,d,kvs,h1,h2,h3,h4⟩:=h.ex
  refine ⟨dx,d,kvs,s _ _ h1,s _ _ h2,h3,fun i t e=>?_⟩
  obtain ⟨a,e1,e2⟩:=h4 i t e
  exact ⟨a,e1,s.tup e2⟩
noncomputable def iOf:V→Int
  | .int i=>i
  | _=>0
noncomputable def thOf(t:Rw):Th:=(sOf t.2.1,iOf t.2.2.1,iOf t.2.2.2)
theorem SqT.but{K:PySem.W.Frag}{H H':Hp}{p a C dx:Addr}{fs:List (Str×V)}{xs:List V}(s:SameBut p H H')(hp:H p=some (.ins C dx fs))(h:SqT K H a xs):SqT K H' a xs:=by
  rcases h with (h | ⟨o,h⟩) | h
  · exact .inl (.inl (s _ _ h (ne_of h hp (by intro z;cases z))))
  · exact .inl (.inr ⟨o,s _ _ h (ne_of h hp (by intro z;cases z))⟩)
  · exact .inr h
theorem SqL.but{K:PySem.W.Frag}{H H':Hp}{p a C dx:Addr}{fs:List (Str×V)}{xs:List V}(s:SameBut p H H')(hp:H p=some (.ins C dx fs))(h:SqL K H a xs):SqL K H' a xs:=by
  rcases h with (h | ⟨o,h⟩) | h
  · exact .inl (.inl (s _ _ h (ne_of h hp (by intro z;cases z))))
  · exact .inl (.inr ⟨o,s _ _ h (ne_of h hp (by intro z;cases z))⟩)
  · exact .inr h
theorem key_mem{kvs:List (Key×V)}{ks:List Str}{z:Str}(h:kvs.map (·.1)=ks.map Sum.inr):(valV kvs (Sum.inr z)).isSome=decide (z∈ks):=by
  have e:(Sum.inr z:Key)∈kvs.map (·.1)↔z∈ks:=by
    rw [h,List.mem_map]
    constructor
    · rintro ⟨a,ha,e⟩;injection e with e;subst e;exact ha
    · intro h;exact ⟨z,h,rfl⟩
  cases hv:valV kvs (Sum.inr z:Key) with
  | none=>rw [decide_eq_false fun q=>valV_not hv (e.mpr q)];rfl
  | some v=>rw [decide_eq_true (e.mp (valV_in hv))];rfl
theorem flds_things{d:Addr}:(flds d).lookup ("things":Str)=some (V.ref d):=by
  unfold flds
  rw [lookup_putF,if_pos rfl]
theorem rowR_none{ks:List Str}{n co r:V}(h:rowR ks n co r=none):∃z c q,n= .str z∧co= .int c∧r= .int q∧¬z∈ks∧nameB z.cps.toList=true∧0≤c∧c≤10 ^ 30∧1≤q∧q≤1000:=by
  unfold rowR at h
  split at h
  · cases h
  rename_i h1
  split at h
  · cases h
  rename_i h2
  split at h
  · cases h
  rename_i h3
  split at h
  · cases h
  rename_i h4
  cases n with
  | str z=>
    cases co with
    | int c=>
      cases r with
      | int q=>
        simp only [wIn,Bool.and_eq_false_iff,decide_eq_false_iff_not,not_or,Decidable.not_not]at h3 h4
        exact ⟨z,c,q,rfl,rfl,rfl,h2,by simpa [nOk] using h1,h3.1,h3.2,h4.1,h4.2⟩
      | _=>exact absurd rfl h4
    | _=>exact absurd rfl h3
  | _=>exact absurd rfl h1
theorem stockR_step{ks:List Str}{rs:List Rw}{i:Nat}{t:Rw}(h:rs[i]?=some t):stockR ks (rs.drop i)=match rowR ks t.2.1 t.2.2.1 t.2.2.2 with
    | some e=>some e
    | none=>stockR (ks++[sOf t.2.1]) (rs.drop (i+1)):=by
  have e:rs.drop i=t::rs.drop (i+1):=by
    obtain ⟨hi,rfl⟩:=List.getElem?_eq_some_iff.mp h
    exact List.drop_eq_getElem_cons hi
  rw [e]
  rfl
noncomputable def nmsOf(rs:List Rw):List Str:=rs.map fun t=>sOf t.2.1
structure MidAt(K:PySem.W.Frag)(H:Hp)(d:Addr)(rs:List Rw):Prop where
  ex:∃kvs:List (Key×V),H d=some (.dK kvs)∧kvs.map (·.1)=(nmsOf rs).map Sum.inr∧∀(j:Nat) (t:Rw),rs[j]?=some t→∃a,kvs[j]?=some (Sum.inr (sOf t.2.1),.ref a)∧SqT K H a [.int j,.int (iOf t.2.2.1),.int (iOf t.2.2.2)]
theorem MidAt.snoc{K:PySem.W.Frag}{H:Hp}{d a:Addr}{rs:List Rw}{t:Rw}{kvs:List (Key×V)}{c q:Int}{z:Str}(h1:H d=some (.dK kvs))(h2:kvs.map (·.1)=(nmsOf rs).map Sum.inr)
    (h3:∀(j:Nat) (t:Rw),rs[j]?=some t→∃a,kvs[j]?=some (Sum.inr (sOf t.2.1),.ref a)∧SqT K H a [.int j,.int (iOf t.2.2.1),.int (iOf t.2.2.2)])
    (e1:t.2.1= .str z) (e2:t.2.2.1= .int c) (e3:t.2.2.2= .int q) (nz:¬z∈nmsOf rs) (ha:H a=some (.tup [.int kvs.length,.int c,.int q])):
    MidAt K (upd H d (.dK (putK kvs (Sum.inr z) (.ref a)))) d (rs++[t]):=by
  have hl:kvs.length=rs.length:=by
    have:=congrArg List.length h2
    simpa [nmsOf] using this
  have hv:valV kvs (Sum.inr z:Key)=none:=by
    have:=key_mem (z:=z) h2
    rw [decide_eq_false nz]at this
    cases h:valV kvs (Sum.inr z:Key) with
    | none=>rfl
    | some v=>rw [h]at this;cases this
  have keep2:∀{b:Addr} {xs:List V} {o:List (Key×V)},SqT K H b xs→SqT K (upd H d (.dK o)) b xs:=fun {b xs o} h=>by
    rcases h with (h | ⟨o',h⟩) | h
    · exact .inl (.inl (by rw [upd_ne (ne_of h h1 (by intro z;cases z))];exact h))
    · exact .inl (.inr ⟨_,by rw [upd_ne (ne_of h h1 (by intro z;cases z))];exact h⟩)
    · exact .inr h
  refine ⟨_,upd_same,?_,fun j t' hj=>?_⟩
  · rw [putK_new _ hv,List.map_append,h2]
    simp [nmsOf,e1,sOf]
  · rw [putK_new _ hv]
    by_cases hlt:j < rs.length
    · rw [List.getElem?_append_left hlt]at hj
      obtain ⟨b,e,hb⟩:=h3 j t' hj
      exact ⟨b,by rw [List.getElem?_append_left (by omega)];exact e,keep2 hb⟩
    · rw [List.getElem?_append_right (by omega)]at hj
      have hj0:j - rs.length=0:=by
        have:=(List.getElem?_eq_some_iff.mp hj).1
        simp at this;omega
      rw [hj0]at hj
      cases hj
      have ej:j=rs.length:=by omega
      subst ej
      refine ⟨a,?_,?_⟩
      · rw [← hl,List.getElem?_append_right (by omega)];simp [e1,sOf]
      · rw [e2,e3]
        refine keep2 (SqT.of ?_)
        rw [ha,hl];rfl
end N1
set_option linter.all false
set_option maxHeartbeats 1000000
namespace L2
open PySem PySem.Spec PyProof.Rows
section
variable {X:Cx} {pins:List (Addr×Obj)} {σ:St} {H:Hp} {s:Shared}
theorem pa_consK{c:Const}{j pos}{es:List Expr}{te:TE}{t:TA}(ha:PE X (.Constant c j pos) te)(hr:PA X es t):PA X (.Constant c j pos::es) (tCons te t):=pa_cons ha hr rfl
theorem pa_consT{x j}{l es:List Expr}{te:TE}{t:TA}(ha:PE X (.Tuple l x j) te)(hr:PA X es t):PA X (.Tuple l x j::es) (tCons te t):=pa_cons ha hr rfl
end
theorem rd_setL{o i v:V}{H:Hp}{Q:Hp→Prop}:rSetL o i v H Q=∃p xs k j,o= .ref p∧i= .int k∧H p=some (.lst xs)∧ixN xs.length k=some j∧Q (upd H p (.lst (xs.set j v))):=rfl
end L2
namespace N5
open PySem PySem.Spec PyProof.Rows L2 N1
noncomputable def md(j:Nat):Int:=if j=0 then 26 else 36
noncomputable def sgn(F:Nat→Int)(at':Int)(k j:Nat):Nat:=bc ((F j+if (j:Int)=at' then (k:Int) else 0) % md j)
noncomputable def nmL(F:Nat→Int)(at':Int)(long k:Nat):List Nat:=(List.range long).map (sgn F at' k)
theorem bc_let{i:Int}:bc (i % 26)∈letters:=by
  have h1:=Int.emod_nonneg i (show (26:Int)≠0 by decide)
  have h2:=Int.emod_lt_of_pos i (show (0:Int) < 26 by decide)
  unfold bc
  generalize i % 26=x at *
  have h3:x.toNat < letters.length:=by simp [letters];omega
  rw [List.getD_eq_getElem?_getD,List.getElem?_append_left h3,List.getElem?_eq_getElem h3]
  exact List.getElem_mem h3
theorem bc_both{i:Int}:bc (i % 36)∈letters++figures:=by
  have h1:=Int.emod_nonneg i (show (36:Int)≠0 by decide)
  have h2:=Int.emod_lt_of_pos i (show (0:Int) < 36 by decide)
  unfold bc
  generalize i % 36=x at *
  have h3:x.toNat < (letters++figures).length:=by rw [both_len];omega
  rw [List.getD_eq_getElem?_getD,List.getElem?_eq_getElem h3]
  exact List.getElem_mem h3
theorem bc_inj{x y:Int}(hx0:0≤x)(hx:x < 36)(hy0:0≤y)(hy:y < 36)(h:bc x=bc y):x=y:=by
  have key:∀a:Fin 36,∀b:Fin 36,(letters++figures).getD a.val 0=(letters++figures).getD b.val 0→a=b:=by decide+kernel
  have:=key ⟨x.toNat,by omega⟩ ⟨y.toNat,by omega⟩ h
  have:=congrArg Fin.val this
  simp at this
  omega
theorem nmL_name{F:Nat→Int}{at':Int}{long k:Nat}(h1:1≤long)(h2:long≤8):nameB (nmL F at' long k)=true:=by
  obtain ⟨n,rfl⟩:∃n,long=n+1:=⟨long - 1,by omega⟩
  have hall:∀c∈nmL F at' (n+1) k,c∈letters++figures:=by
    intro c hc
    obtain ⟨j,_,rfl⟩:=List.mem_map.mp hc
    have hm:md j=26∨md j=36:=by unfold md;split <;> simp
    unfold sgn
    rcases hm with hm | hm <;> rw [hm]
    · exact List.mem_append_left _ bc_let
    · exact bc_both
  have hl:(nmL F at' (n+1) k).length=n+1:=by simp [nmL]
  have hh:headIn (nmL F at' (n+1) k) letters=true:=by
    unfold nmL
    rw [List.range_succ_eq_map,List.map_cons]
    show decide (sgn F at' k 0∈letters)=true
    rw [decide_eq_true_eq]
    unfold sgn md
    rw [if_pos rfl]
    exact bc_let
  unfold nameB
  rw [hl,hh,decide_eq_true h1,decide_eq_true h2]
  simp only [Bool.true_and]
  exact List.all_eq_true.mpr fun c hc=>decide_eq_true (hall c hc)
theorem nmL_inj{F:Nat→Int}{at':Int}{long k k':Nat}(h0:0≤at')(h1:at' < long)(hk:k < 26)(hk':k' < 26)(h:nmL F at' long k=nmL F at' long k'):k=k':=by
  have hl:at'.toNat < long:=by omega
  have e:=congrArg (fun l=>l[at'.toNat]?) h
  simp only [nmL,List.getElem?_map,List.getElem?_range hl,Option.map_some,Option.some.injEq]at e
  unfold sgn at e
  rw [if_pos (by omega),if_pos (by omega)]at e
  have hm:md at'.toNat=26∨md at'.toNat=36:=by unfold md;split <;> simp
  rcases hm with hm | hm <;> rw [hm]at e
  · have:=bc_inj (by omega) (by omega) (by omega) (by omega) e
    omega
  · have:=bc_inj (by omega) (by omega) (by omega) (by omega) e
    omega
structure Good(ys:List Str)(i:Nat)(t:Rw):Prop where
  n:∃z,ys[i]?=some z∧t.2.1= .str z
  c:∃c,t.2.2.1= .int c∧0≤c∧c≤10 ^ 30
  r:∃r,t.2.2.2= .int r∧1≤r∧r≤1000
structure Kind(ys:List Str)(i:Nat)(ways:Int)(t:Rw):Prop where
  n1:ways % 2=1→nOk t.2.1=false
  n2:ways % 2=0→ways / 2 % 2=1∧0 < i→∃j z,j < i∧ys[j]?=some z∧t.2.1= .str z
  n3:ways % 2=0→¬(ways / 2 % 2=1∧0 < i)→∃z,ys[i]?=some z∧t.2.1= .str z
  c1:ways / 4 % 2=1→wIn 0 (10 ^ 30) t.2.2.1=false
  c2:ways / 4 % 2=0→wIn 0 (10 ^ 30) t.2.2.1=true
  r1:ways / 8 % 2=1→wIn 1 1000 t.2.2.2=false
  r2:ways / 8 % 2=0→wIn 1 1000 t.2.2.2=true
theorem ne1:Str.ofString "no name"≠Str.ofString "nothing":=by decide+kernel
theorem SqT.butL{K:PySem.W.Frag}{H H':Hp}{p a:Addr}{zs:List V}{xs:List V}(s:SameBut p H H')(hp:H p=some (.lst zs))(h:SqT K H a xs):SqT K H' a xs:=by
  rcases h with (h | ⟨o,h⟩) | h
  · exact .inl (.inl (s _ _ h (ne_of h hp (by intro z;cases z))))
  · exact .inl (.inr ⟨o,s _ _ h (ne_of h hp (by intro z;cases z))⟩)
  · exact .inr h
theorem same_made{H H':Hp}{x dx C:Addr}(hx:H x=none)(hd:H dx=none)(s:SameBut x (upd (upd H dx (.own x)) x (.ins C dx [])) H'):Same H H':=fun b o e=>by
  have n1:=ne_of_none e hx
  have n2:=ne_of_none e hd
  exact s b o (by rw [upd_ne n1,upd_ne n2];exact e) n1
theorem name_len{z:Str}(h:nameB z.cps.toList=true):z.length≤8:=by
  unfold nameB at h
  simp only [Bool.and_eq_true,decide_eq_true_eq]at h
  have:=h.1.1.2
  rw [str_len]at this;exact this
end N5
set_option Elab.async false
set_option linter.all false
set_option maxRecDepth 100000
set_option maxHeartbeats 4000000
namespace L2
open PySem PySem.Spec PyProof.Rows
open Sem (wp)
section
variable {Pg:Program} {w:World} {A:Around} {E:Value→Shared→Prop} {h:Heap} {g:Array GenState} {d:Drawn} {t:Nat} {os:OsState}
variable {nm q:Str} {C N:Addr} {bs bm bmB:List Value} {hd:Bool} {sn:List Str} {su:List Value} {ab:Bool} {co:Option Bool} {dd:Option Addr} {k0 k1 k2 k3 k5:Option Value} {B nw ni:String}
noncomputable abbrev bareExc(h:Heap)(C:Addr):Obj:={cls:= .ref C,data:= .fields #[.ref h.objs.size,.none,.none,.none,.bool false,.none]}
noncomputable abbrev twoMore(h:Heap)(C:Addr)(rest:List Value):Heap:=(h.push {cls:= .type "tuple",data:= .seq rest.toArray}).push (bareExc h C)
theorem keep2{rest:List Value}:∀b o,h.get? b=some o→(twoMore h C rest).get? b=some o:=fun _ _ e=>Heap.get?_push_of_some _ (Heap.get?_push_of_some _ e)
end
section
open PySem.W PySem.Builtin PySem.Builtin.ObjectAttr
variable {Pg:Program} {w:World} {A:Around} {R:Result→Shared→Prop} {s:Shared} {K:Frag} {x C B:Addr} {ox:Obj} {od:Option Obj} {cd:ClassData} {f:Str} {tk:Tok} {v:Value}
noncomputable abbrev veTail:List Value:=[.type "ValueError",.type "Exception",.type "BaseException",.type "object"]
end
noncomputable def exO(n:Bool)(x C:Addr)(od:Option Addr):HO:= .ext fun h=>∃vs sl,h.get? x=some ⟨.ref C,od,.fields vs,sl⟩∧(n=true→∃t,vs=#[.ref t,.none,.none,.none,.bool false,.none])
noncomputable def exD(dx:Addr)(fs:List (Str×V)):HO:= .ext fun h=>fs.length≤1000∧∃mA,h.Ns1 dx mA∧(∀f,RelO (fs.lookup f) (mA f))∧PySem.Within mA (fs.map (·.1))
section
variable {X:Cx} {pins:List (Addr×Obj)} {σ:St} {H:Hp} {x:Addr} {s:Shared} {h':Heap} {o:HO} {t':Nat}
theorem Inv.born(I:Inv X pins σ H s)(hex:X.ex=[])(k:∀b u,s.heap.get? b=some u→h'.get? b=some u)(hn:s.heap.get? x=none)(new:ObjOk X.prog X.w (upd H x o) h' x o):Inv X pins σ (upd H x o) {s with heap:=h',toks:=t'}:=by
  have J:Inv X pins σ H {s with heap:=h',toks:=t'}:=I.kept k
  have hx:H x=none:=by
    cases q:H x with
    | none=>rfl
    | some v=>obtain ⟨o1,e1⟩:=I.hok.there q;rw [hn]at e1;cases e1
  have n0:X.s₀.heap.get? x=none:=by
    cases q:X.s₀.heap.get? x with
    | none=>rfl
    | some v=>obtain ⟨o1,e1⟩:=I.base.there x v q (by rw [hex];simp);rw [hn]at e1;cases e1
  have nl:x≠X.env.locals:=by
    rintro rfl
    obtain ⟨m,⟨o1,es,ep,e,_⟩,_⟩:=I.loc
    rw [hn]at e;cases e
  have nc:∀y c,X.env.cells.lookup y=some c→c≠x:=by
    rintro y c hc rfl
    obtain ⟨v,o1,e,_⟩:=I.cell y c hc
    rw [hn]at e;cases e
  have np:∀p∈X.pn++pins,p.1≠x:=fun p hp z=>by
    have e:=(I.pin p hp).1
    rw [z,hn]at e;cases e
  refine ⟨J.ok,J.os,J.bare,⟨J.base.keep,J.base.slot,fun b o e n hb=>?_,J.base.there,fun b xs e=>?_,fun b o v e=>?_,fun b ps e=>?_⟩,J.loc,J.cell,?_,fun y c hc=>?_,fun p hp=>?_,fun b u e=>?_,J.len⟩
  · rw [upd_ne (by rintro rfl;rw [n0]at e;cases e)];exact J.base.free b o e n hb
  · have e1:=J.base.tups b xs e;rw [upd_ne (ne_of_none e1 hx)];exact e1
  · have e1:=J.base.frzs b o v e;rw [upd_ne (ne_of_none e1 hx)];exact e1
  · obtain ⟨m,e1⟩:=J.base.tbls b ps e;exact ⟨m,by rw [upd_ne (ne_of_none e1 hx)];exact e1⟩
  · rw [upd_ne nl.symm];exact J.free
  · rw [upd_ne (nc y c hc)];exact J.freeC y c hc
  · obtain ⟨a1,a2,a3,a4,a5⟩:=J.pin p hp
    exact ⟨a1,by rw [upd_ne (np p hp)];exact a2,a3,a4,a5⟩
  · by_cases hb:b=x
    · subst hb
      rw [upd_same]at e;cases e
      exact new
    · rw [upd_ne hb]at e
      exact (J.hok b u e).stay (fun _ _ _ q=>q) (fun c q=>by rw [upd_ne (ne_of_none q hx)];exact q) fun c xs q=>by rw [upd_ne (ne_of_none q hx)];exact q
theorem exO_ok{P:Program}{w:World}{n:Bool}{C:Addr}{od:Option Addr}{vs:Array Value}{sl:Array (Option Value)}(e:h'.get? x=some ⟨.ref C,od,.fields vs,sl⟩)(hv:n=true→∃t,vs=#[.ref t,.none,.none,.none,.bool false,.none]):ObjOk P w H h' x (exO n x C od):=
  ⟨⟨vs,sl,e,hv⟩,⟨_,e⟩,fun _ _ ⟨v1,s1,e1,q1⟩ k=>⟨v1,s1,k _ e1,q1⟩⟩
end
noncomputable def tExc(C:Addr)(t:TA):TE:=fun σ H Q=>t σ H fun vs H1=>vs.length≤sizeLine∧∀x,H1 x=none→Q (.ref x) (upd H1 x (exO true x C none))
section
variable {X:Cx} {C:Addr} {x:Str} {p pos:Pos} {e:Expr} {es:List Expr} {t:TA}
theorem pe_exc(M:ExcC X.K C)(hex:X.ex=[])(kp:PySem.W.keepIn X.K (.ref C)=true)(hg:Gl X x)(hm:X.mg x=some (.ref C))(ha:PA X (e::es) t)(hdb:(x==("__debug__":Str))=false:=by decide)
    (he:starEach (e::es) X.env=(false,eval e X.env)::starEach es X.env:=by rfl) (hpl:(backTo pos (starEach es X.env)).any (·.1)=false:=by rfl):
    PE X (.Call (.Name x p) (e::es) [] pos) (tExc C t):=by
  intro pins s0 σ H0 Q I0 h
  refine wpAny_Call_Name_kw (ld_glob I0 hg hm ?_ hdb)
  refine PySem.W.callWith_K (h₀:=X.base) I0.ok.mod.kin kp (thn (ha pos pins s0 σ H0 _ I0 h) fun us s ⟨vs,H,I,r,z,q⟩=>⟨I.kIn,?_⟩) he hpl
  obtain ⟨nm,qn,N,bs,bm,hd,sn,su,ab,co,dd,k0,k1,k2,k3,k5,mN,c1,c2,c3,c4⟩:=M.at_ s.heap I.kIn
  obtain ⟨hp,gn,dr,tk,os⟩:=s
  refine wpAny_call_exc_subT PySem.F.excBase_ValueError c4 c1 c2 c3 (fun h' y hy=>?_) (by show us.length≤sizeLine;rw [← r.length];exact z)
  obtain ⟨t0,e1,_,_⟩:=hy.there
  have nv:true=true→∃t,(#[.ref t0,.none,.none,.none,.bool false,.none]:Array Value)=#[.ref t,.none,.none,.none,.bool false,.none]:=fun _=>⟨t0,rfl⟩
  have hy0:H y=none:=by
    cases w':H y with
    | none=>rfl
    | some v=>obtain ⟨o1,e2⟩:=I.hok.there w';rw [hy.new]at e2;cases e2
  exact ⟨.ref y,_,I.born hex hy.keeps hy.new (exO_ok e1 nv),rfl,q y hy0⟩
end
structure ExcG(K:PySem.W.Frag)(C:Addr):Prop where
  ga:PySem.W.findIn K (.ref C) "__getattribute__"=some (some (.builtin "BaseException.__getattribute__"))
  gh:PySem.W.findIn K (.ref C) "__getattr__"=some none
structure ExcQ(K:PySem.W.Frag)(C B:Addr):Prop extends ExcG K C where
  cd:∃cd:ClassData,PySem.W.clsIn K C=some cd∧cd.mro= .ref C:: .ref B::veTail∧cd.hasDict=true
  sa:PySem.W.findIn K (.ref C) "__setattr__"=some (some (.builtin "object.__setattr__"))
section
variable {X:Cx} {pins:List (Addr×Obj)} {σ:St} {H:Hp} {s:Shared} {nw:Bool} {a dx C B:Addr} {fs:List (Str×V)} {f:Str} {v:V} {A:Around} {E:Value→Shared→Prop}
end
section
variable {X:Cx} {pins:List (Addr×Obj)} {σ:St} {H H1:Hp} {s s1:Shared} {x:Addr} {o:HO}
theorem Inv.track(I:Inv X pins σ H1 s1)(hex:X.ex=[])(hn:s1.heap.get? x=none)(J:Inv X pins σ H s)(hx:H x=none)(new:ObjOk X.prog X.w (upd H x o) s.heap x o):Inv X pins σ (upd H x o) s:=by
  have n0:X.s₀.heap.get? x=none:=by
    cases q:X.s₀.heap.get? x with
    | none=>rfl
    | some v=>obtain ⟨o1,e1⟩:=I.base.there x v q (by rw [hex];simp);rw [hn]at e1;cases e1
  have nl:x≠X.env.locals:=by
    rintro rfl
    obtain ⟨m,⟨o1,es,ep,e,_⟩,_⟩:=I.loc
    rw [hn]at e;cases e
  have nc:∀y c,X.env.cells.lookup y=some c→c≠x:=by
    rintro y c hc rfl
    obtain ⟨v,o1,e,_⟩:=I.cell y c hc
    rw [hn]at e;cases e
  have np:∀p∈X.pn++pins,p.1≠x:=fun p hp z=>by
    have e:=(I.pin p hp).1
    rw [z,hn]at e;cases e
  refine ⟨J.ok,J.os,J.bare,⟨J.base.keep,J.base.slot,fun b o e n hb=>?_,J.base.there,fun b xs e=>?_,fun b o v e=>?_,fun b ps e=>?_⟩,J.loc,J.cell,?_,fun y c hc=>?_,fun p hp=>?_,fun b u e=>?_,J.len⟩
  · rw [upd_ne (by rintro rfl;rw [n0]at e;cases e)];exact J.base.free b o e n hb
  · have e1:=J.base.tups b xs e;rw [upd_ne (ne_of_none e1 hx)];exact e1
  · have e1:=J.base.frzs b o v e;rw [upd_ne (ne_of_none e1 hx)];exact e1
  · obtain ⟨m,e1⟩:=J.base.tbls b ps e;exact ⟨m,by rw [upd_ne (ne_of_none e1 hx)];exact e1⟩
  · rw [upd_ne nl.symm];exact J.free
  · rw [upd_ne (nc y c hc)];exact J.freeC y c hc
  · obtain ⟨a1,a2,a3,a4,a5⟩:=J.pin p hp
    exact ⟨a1,by rw [upd_ne (np p hp)];exact a2,a3,a4,a5⟩
  · by_cases hb:b=x
    · subst hb
      rw [upd_same]at e;cases e
      exact new
    · rw [upd_ne hb]at e
      exact (J.hok b u e).stay (fun _ _ _ q=>q) (fun c q=>by rw [upd_ne (ne_of_none q hx)];exact q) fun c xs q=>by rw [upd_ne (ne_of_none q hx)];exact q
end
noncomputable def tFldX(K:PySem.W.Frag)(ta:TE)(f:Str):TE:=fun σ H Q=>ta σ H fun x H1=>∃nw a C B dx fs v,x= .ref a∧H1 a=some (exO nw a C (some dx))∧H1 dx=some (exD dx fs)∧ExcQ K C B∧PySem.W.findIn K (.ref C) f=some none∧fs.lookup f=some v∧Q v H1
noncomputable def sFldX(K:PySem.W.Frag)(ta tv:TE)(f:Str):TS:=fun D σ H=>tv σ H fun y H1=>ta σ H1 fun x H2=>∃nw a C B,x= .ref a∧ExcQ K C B∧PySem.W.findIn K (.ref C) f=some none∧
  ((H2 a=some (exO nw a C none)∧∀dx,H2 dx=none→D.nx σ (upd (upd H2 a (exO nw a C (some dx))) dx (exD dx (putF f y []))))∨
   ∃dx fs,H2 a=some (exO nw a C (some dx))∧H2 dx=some (exD dx fs)∧fs.length < 1000∧D.nx σ (upd H2 dx (exD dx (putF f y fs))))
noncomputable def tMethX(C:Addr)(m:Str)(sp:Sp)(EE:St→XK)(ta:TE):TE:=fun σ H Q=>ta σ H fun x H1=>∃nw a,x= .ref a∧(H1 a=some (exO nw a C none)∨∃dx fs,H1 a=some (exO nw a C (some dx))∧H1 dx=some (exD dx fs)∧fs.lookup m=none)∧sp [x] H1 Q (EE σ)
section
variable {X:Cx} {CX:CXT} {k j:Nat} {C B:Addr} {ps:List Str} {sp:Sp} {EE:St→XK} {f m:Str} {pos pos' apos:Pos} {e o value:Expr} {ta tv:TE}
end
structure MkX(K:PySem.W.Frag)(C f:Addr):Prop where
  at_:∀h:Heap,K.In h→∃(nm q:Str) (N:Addr) (bs bm:List Value) (hd:Bool) (sn:List Str) (su:List Value) (ab:Bool) (co:Option Bool) (dd:Option Addr) (k0 k1 k2 k3 k5:Option Value) (mN:Str→Option Value),
    h.get? C=some (excClassObj nm q C N bs bm hd sn su ab co dd k0 k1 k2 k3 k5 "ValueError.__new__")∧h.Ns N mN∧mN "__init__"=some (.ref f)∧OwnTail h veTail bm
  fn:∃oI:Obj,K.lookup f=some oI∧oI.cls= .type "function"
  kp:PySem.W.keepIn K (.ref C)=true
structure DefX(P:Program)(w:World)(K:PySem.W.Frag)(mg:Str→Option Value)(base:Heap)(CX:CXT)(k:Nat)(x:Str)(C:Addr)(ps:List Str)(sp:Sp):Prop where
  ex:∃(f:Addr) (fd:FuncData),FnOk P w K mg base CX k f fd ps sp∧MkX K C f∧mg x=some (.ref C)∧Binds K fd ps []
noncomputable def tExcI(C:Addr)(sp:Sp)(EE:St→XK)(t:TA):TE:=fun σ H Q=>t σ H fun vs H1=>vs.length≤sizeLine∧∀x,H1 x=none→sp (.ref x::vs) (upd H1 x (exO true x C none)) (fun v H2=>v= .non∧Q (.ref x) H2) (EE σ)
section
variable {X:Cx} {CX:CXT} {k j:Nat} {C:Addr} {ps:List Str} {sp:Sp} {EE:St→XK} {x:Str} {p pos:Pos} {e:Expr} {es:List Expr} {t:TA}
end
end L2
set_option Elab.async false
set_option linter.all false
set_option maxRecDepth 100000
set_option maxHeartbeats 4000000
namespace L2
open PySem PySem.Spec PyProof.Rows
open Sem (wp)
noncomputable def Lies(h:Heap)(x C:Addr)(od:Option Addr):Prop:=∃vs sl,h.get? x=some ⟨.ref C,od,.fields vs,sl⟩
section
variable {M:Model} {A:Around} {E:Value→Shared→Prop} {s:Shared} {base:Heap} {env:Env} {outer l:List Env} {L x C:Addr} {od:Option Addr} {vs:Array Value} {sl:Array (Option Value)} {a0 fl:Value} {Q:Unit→Shared→Prop}
theorem entry2{g1:Heap}{oT:Obj}{ts:Array Value}(tT:oT.data= .fields ts)(t3:ts[3]?=some fl)(ff:s.heap.FunFrames base l)(ex:s.heap.get? x=some ⟨.ref C,od,.fields vs,sl⟩)
    (s1:Heap.SlotsOnly (l.filterMap (·.frame)) s.heap g1) (y1:g1.get? x=some ⟨.ref C,od,.fields vs,sl⟩) (b1:base.StaysIn g1) (bx:base.get? x=none) (z1:1 < vs.size) (z0:vs[0]?=some a0)
    (q:∀h',Heap.NotedW base l x (.ref C) a0 fl s.heap h'→Lies h' x C od→Q () {s with heap:=h'}):
    wpAny M A (setField (.ref x) 1 (.ref g1.objs.size)) Q E {s with heap:=g1.push oT}:=by
  have y2:=Heap.get?_push_of_some oT y1
  have nT:g1.objs.size≠x:=Nat.ne_of_gt (Heap.lt_size y1)
  have y3:((g1.push oT).update x (Obj.mapFields (·.setIfInBounds 1 (.ref g1.objs.size)))).get? x=some ⟨.ref C,od,.fields (vs.setIfInBounds 1 (.ref g1.objs.size)),sl⟩:=Heap.get?_update_self _ y2 rfl
  have kp:∀b o,b≠x→g1.get? b=some o→((g1.push oT).update x (Obj.mapFields (·.setIfInBounds 1 (.ref g1.objs.size)))).get? b=some o:=fun b o nb e=>(Heap.get?_update_other _ _ (Ne.symm nb)).trans (Heap.get?_push_of_some _ e)
  have nr:∀b o,s.heap.get? b=some o→(∀us,o.data≠ .fields us)→b≠x:=fun b o e n z=>by rw [z,ex]at e;cases e;exact n vs rfl
  refine wpAny_setField y2 rfl z1 (q _ ⟨fun b o e=>kp b o (fun z=>by rw [z,bx]at e;cases e) (b1 b o e),ff.of_keeps fun b o e n=>?_,?_,fun b o e n=>?_⟩ ⟨_,_,y3⟩)
  · obtain ⟨r,e1⟩:=s1.2.2 b o e;exact ⟨_,kp b _ (nr b o e n) e1,rfl⟩
  · exact ⟨_,_,g1.objs.size,oT,ts,y3,⟨rfl,by rw [Array.getElem?_setIfInBounds_ne (by decide)];exact z0⟩,rfl,by simp [z1],b1.fresh,nT,(Heap.get?_update_other _ _ (Ne.symm nT)).trans (Heap.get?_push_size g1 (Obj.isFreed_of_fields tT)),tT,t3⟩
  · obtain ⟨r,e1⟩:=s1.2.2 b o e;exact ⟨r,kp b _ (nr b o e n) e1⟩
theorem entryD{hv:Value}{nx:Bool}(fr:A.frames=some (env::outer))(ff:s.heap.FunFrames base (env::outer))(el:env.frame=some L)
    (ex:s.heap.get? x=some ⟨.ref C,od,.fields vs,sl⟩) (bs:base.StaysIn s.heap) (bx:base.get? x=none) (z1:1 < vs.size) (z0:vs[0]?=some a0)
    (q:∀h',Heap.NotedW base (env::outer) x (.ref C) a0 (rawInt L) s.heap h'→Lies h' x C od→Q () {s with heap:=h'}):
    wpAny M A (do let a ← frameOf env;let pl ← entryPlaceOf L nx;let b ← EntryCells.newEntry hv a .none (rawInt L) .none pl;setField (.ref x) 1 b) Q E s:=by
  have nf:x∉(env::outer).filterMap (·.frame):=fun hm=>by
    obtain ⟨_,o1,e1,n1⟩:=ff.mem hm
    rw [ex]at e1;cases e1;exact n1 vs rfl
  refine wpAny_bind (wpAny_frameOf_fun fr ff el fun g1 s1=>wpAny_bind (wpAny_entryPlaceOf fun pl ip=>?_))
  unfold EntryCells.newEntry newFields
  refine wpAny_bind (wpAny_newObj_type ?_ (ip.sizeOk5 _ _ _ _ _))
  have y1:=(s1.2.1 x nf).trans ex
  have b1:base.StaysIn g1:=fun b o e=>(s1.2.1 b fun hm=>by rw [(ff.mem hm).1]at e;cases e).trans (bs b o e)
  refine entry2 (s:=s) (fl:=rawInt L) rfl ?_ ff ex s1 y1 b1 bx z1 z0 q
  first | (simp;done) | (rcases ip with rfl | ⟨_,_,_,_,_,_,_,rfl⟩ <;> simp)
theorem landD(bs:base.StaysIn s.heap)(ff:s.heap.FunFrames base l)(tr:s.heap.TracedAtW base x (.ref C) a0 fl)(ly:Lies s.heap x C od)
    (q:∀h',base.StaysIn h'→h'.FunFrames base l→h'.TracedW base x (.ref C) a0→s.heap.UpToSlots h'→Lies h' x C od→Q () {s with heap:=h'}):wpAny M A (setFlight (.ref x) none) Q E s:=by
  obtain ⟨oe,ws,T,oT,ts,e1,c1,d1,d2,n1,n2,e3,d3,t3⟩:=tr
  obtain ⟨v2,s2,l1⟩:=ly
  have z3:3 < ts.size:=(Array.getElem?_eq_some_iff.mp t3).1
  unfold setFlight
  refine wpAny_bind (wpAny_field e1 d1 d2 ?_)
  rw [if_pos (show (Value.ref T !=Value.none)=true from by simp)]
  have oth:∀b,b≠T→(s.heap.update T (Obj.mapFields (·.setIfInBounds 3 ((none:Option Addr).elim Value.none fun f=>rawInt f)))).get? b=s.heap.get? b:=fun b nb=>Heap.get?_update_other _ _ (Ne.symm nb)
  have nr:∀b o,s.heap.get? b=some o→(∀us,o.data≠ .fields us)→b≠T:=fun b o e n z=>by rw [z,e3]at e;cases e;exact n ts d3
  refine wpAny_setField e3 d3 z3 (q _ (fun b o e=>(oth b fun z=>by rw [z,n1]at e;cases e).trans (bs b o e)) (ff.of_keeps fun b o e n=>⟨o,(oth b (nr b o e n)).trans e,rfl⟩) ?_ (fun b o e n=>⟨o.slots,(oth b (nr b o e n)).trans e⟩) ⟨v2,s2,(oth x (Ne.symm n2)).trans l1⟩)
  exact ⟨oe,ws,T,_,_,(oth x (Ne.symm n2)).trans e1,c1,d1,d2,n1,n2,Heap.get?_update_self _ e3 (Obj.isFreed_of_fields (Obj.data_mapFields d3 _)),Obj.data_mapFields d3 _,by simp [z3]⟩
theorem noteD(fr:A.frames=some (env::outer))(ff:s.heap.FunFrames base (env::outer))(el:env.frame=some L)(tr:s.heap.TracedW base x (.ref C) a0)(bs:base.StaysIn s.heap)(bx:base.get? x=none)(ly:Lies s.heap x C od)
    (q:∀h',Heap.NotedW base (env::outer) x (.ref C) a0 (rawInt L) s.heap h'→Lies h' x C od→Q () {s with heap:=h'}):wpAny M A (noteFrame (.ref x) env) Q E s:=by
  obtain ⟨oe,ws,T,oT,ts,e1,⟨c1,c2⟩,d1,d2,n1,n2,e3,d3,t3⟩:=tr
  obtain ⟨v2,s2,l1⟩:=ly
  rw [l1]at e1;cases e1;cases d1
  unfold noteFrame
  simp only [el]
  refine wpAny_bind (wpAny_field l1 rfl d2 ?_)
  rw [if_pos (show (Value.ref T !=Value.none)=true from by simp)]
  refine wpAny_bind (wpAny_field e3 d3 t3 ?_)
  rw [if_neg (show ¬((Value.none==rawInt L)=true) from by simp [rawInt])]
  refine wpAny_bind (wpAny_setField e3 d3 (Array.getElem?_eq_some_iff.mp t3).1 ?_)
  have oth:∀b,b≠T→(s.heap.update T (Obj.mapFields (·.setIfInBounds 3 Value.none))).get? b=s.heap.get? b:=fun b nb=>Heap.get?_update_other _ _ (Ne.symm nb)
  have nr:∀b o,s.heap.get? b=some o→(∀us,o.data≠ .fields us)→b≠T:=fun b o e n z=>by rw [z,e3]at e;cases e;exact n ts d3
  refine entryD fr (ff.of_keeps fun b o e n=>⟨o,(oth b (nr b o e n)).trans e,rfl⟩) el ((oth x (Ne.symm n2)).trans l1) (fun b o e=>(oth b fun z=>by rw [z,n1]at e;cases e).trans (bs b o e)) bx (Array.getElem?_eq_some_iff.mp d2).1 c2 fun h' N ly'=>q h' ⟨N.1,N.2.1,N.2.2.1,fun b o e n=>N.2.2.2 b o ((oth b (nr b o e n)).trans e) n⟩ ly'
noncomputable def FlyD(base:Heap)(l:List Env)(x C:Addr)(od:Option Addr)(a0:Value)(h:Heap):Prop:=Heap.FlyingW base l x (.ref C) a0 h∧Lies h x C od
theorem leavesD(fr:A.frames=some (env::outer))(el:env.frame=some L)(f:FlyD base (env::outer) x C od a0 s.heap)(q:∀h',FlyD base outer x C od a0 h'→s.heap.UpToSlots h'→Q () {s with heap:=h'}):wpAny M A (leaving env (.ref x)) Q E s:=by
  obtain ⟨⟨f1,f2,f3,f4⟩,ly⟩:=f
  unfold leaving
  refine wpAny_bind (noteD fr f3 el f4 f1 f2 ly fun h1 N l1=>landD (s:={s with heap:=h1}) N.1 N.2.1 N.2.2.1 l1 fun h2 b2 g2 t2 u2 l2=>?_)
  obtain ⟨_,_,g3⟩:=g2
  exact q h2 ⟨⟨b2,f2,g3,t2⟩,l2⟩ (Heap.UpToSlots.trans N.2.2.2 u2)
theorem leavesD1{t:Addr}(fr:A.frames=some (env::outer))(el:env.frame=some L)(bs:base.StaysIn s.heap)(ff:s.heap.FunFrames base (env::outer))(bx:base.get? x=none)(ex:s.heap.get? x=some ⟨.ref C,od,.fields #[.ref t,.none,.none,.none,.bool false,.none],sl⟩)
    (q:∀h',FlyD base outer x C od (.ref t) h'→s.heap.UpToSlots h'→Q () {s with heap:=h'}):wpAny M A (leaving env (.ref x)) Q E s:=by
  unfold leaving noteFrame
  simp only [el]
  refine wpAny_bind (wpAny_bind (wpAny_field ex rfl (x:= .none) rfl ?_))
  rw [if_neg (by decide)]
  refine entryD fr ff el ex bs bx (by simp) rfl fun h1 N l1=>landD (s:={s with heap:=h1}) N.1 N.2.1 N.2.2.1 l1 fun h2 b2 g2 t2 u2 l2=>?_
  obtain ⟨_,_,g3⟩:=g2
  exact q h2 ⟨⟨b2,bx,g3,t2⟩,l2⟩ (Heap.UpToSlots.trans N.2.2.2 u2)
end
noncomputable def CXF(P:Program)(w:World):CXT:=fun outer H s E e s'=>∃(x C:Addr) (od:Option Addr) (a0:Value) (H':Hp) (B:Heap),e= .ref x∧s'.os=s.os∧AllBare s'.gens∧Un (frs outer) [] H H' s.heap s'.heap∧HOk P w H' s'.heap∧
  FlyD B outer x C od a0 s'.heap∧Spares (frs outer) H' s.heap s'.heap B∧H' x=none∧s.heap.get? x=none∧E (.ref C) (some x) (upd H' x (exO false x C od))
noncomputable def rem(H:Hp)(x:Addr):Hp:=fun b=>if b=x then none else H b
theorem rem_ne{H:Hp}{x b:Addr}(n:b≠x):rem H x b=H b:=if_neg n
theorem rem_same{H:Hp}{x:Addr}:rem H x x=none:=if_pos rfl
theorem upd_rem{H:Hp}{x:Addr}{o:HO}:upd (rem H x) x o=upd H x o:=by
  funext b
  by_cases h:b=x
  · subst h;rw [upd_same,upd_same]
  · rw [upd_ne h,upd_ne h,rem_ne h]
section
variable {X:Cx} {pins:List (Addr×Obj)} {σ:St} {H2:Hp} {s2:Shared} {h3:Heap} {n:Bool} {x C:Addr} {od:Option Addr}
theorem leaveX(I:Inv X pins σ H2 s2)(hex:X.ex=[])(hx:H2 x=some (exO n x C od))(x0:X.s₀.heap.get? x=none)(st:(PySem.W.hideAll s2.heap (x::frs X.stack)).StaysIn h3)(up:s2.heap.UpToSlots h3):
    Un X.fs [] X.H₀ (rem H2 x) X.s₀.heap h3∧HOk X.prog X.w (rem H2 x) h3∧Spares X.fs (rem H2 x) X.s₀.heap h3 (PySem.W.hideAll s2.heap (x::frs X.stack)):=by
  have bs:=I.base
  rw [hex]at bs
  have nl:∀b o,X.s₀.heap.get? b=some o→b≠X.env.locals:=fun b o e=>Nat.ne_of_lt (Nat.lt_of_lt_of_le (Heap.lt_size e) I.ok.above)
  have ns:∀b o,X.s₀.heap.get? b=some o→b∉X.fs→b∉frs X.stack:=fun b o e n hb=>(List.mem_cons.mp (I.stkSub b hb)).elim (nl b o e) n
  have nx:∀b o,X.s₀.heap.get? b=some o→b≠x:=fun b o e z=>by rw [z,x0]at e;cases e
  have sub:∀b∈X.fs,b∈frs X.stack:=fun b hb=>by
    rcases I.ok.stk with e | ⟨e,hf⟩
    · rw [e];exact hb
    · rw [e];unfold frs;rw [List.filterMap_cons,hf];exact List.mem_cons_of_mem _ hb
  have hid:∀b o,s2.heap.get? b=some o→b≠x→b∉frs X.stack→(PySem.W.hideAll s2.heap (x::frs X.stack)).get? b=some o:=fun b o e n1 n2=>PySem.W.hideAll_get _ e (fun z=>(List.mem_cons.mp z).elim n1 n2)
  have kp:∀b o,s2.heap.get? b=some o→b≠x→b∉frs X.stack→h3.get? b=some o:=fun b o e n1 n2=>st b o (hid b o e n1 n2)
  have tr:∀b o,H2 b=some o→b∉frs X.stack:=fun b o e hb=>by rw [I.stkFree b hb]at e;cases e
  have sl:∀b o,X.s₀.heap.get? b=some o→X.H₀ b=none→b∈X.fs→b∉([]:List Addr)→∃r,h3.get? b=some {o with slots:=r}:=fun b o e n hb hx=>by
    obtain ⟨r1,e1⟩:=bs.slot b o e n hb hx
    obtain ⟨o',e',d⟩:=I.frm b (sub b hb)
    rw [e1]at e';cases e'
    obtain ⟨r2,e2⟩:=up b _ e1 d
    exact ⟨r2,e2⟩
  have th:∀b o,X.s₀.heap.get? b=some o→∃o',s2.heap.get? b=some o':=fun b o e=>bs.there b o e (by simp)
  refine ⟨⟨fun b o e n hb hx=>kp b o (bs.keep b o e n hb hx) (nx b o e) (ns b o e hb),sl,fun b o e n hx=>?_,fun b o e hx=>?_,fun b xs e=>?_,fun b o v e=>?_,fun b ps e=>?_⟩,fun a o e=>?_,fun b o e hb c=>?_⟩
  · rw [rem_ne (nx b o e)];exact bs.free b o e n hx
  · obtain ⟨o',e1⟩:=th b o e
    by_cases hb:b∈frs X.stack
    · obtain ⟨o2,e2,d⟩:=I.frm b hb
      rw [e1]at e2;cases e2
      obtain ⟨r2,e3⟩:=up b _ e1 d
      exact ⟨_,e3⟩
    · exact ⟨o',kp b o' e1 (nx b o e) hb⟩
  · have e1:=bs.tups b xs e
    rw [rem_ne (fun z=>by rw [z,hx]at e1;cases e1)];exact e1
  · have e1:=bs.frzs b o v e
    rw [rem_ne (fun z=>by rw [z,hx]at e1;cases e1)];exact e1
  · obtain ⟨m1,e1⟩:=bs.tbls b ps e
    exact ⟨m1,by rw [rem_ne (fun z=>by rw [z,hx]at e1;cases e1)];exact e1⟩
  · have na:a≠x:=fun z=>by rw [z,rem_same]at e;cases e
    rw [rem_ne na]at e
    refine (I.hok a o e).stay (fun b v hc q=>?_) (fun b q=>?_) fun b xs q=>?_
    · rcases hc with rfl | hc
      · exact kp _ _ q na (tr _ _ e)
      · exact kp _ _ q (fun z=>by rw [z,hx]at hc;cases hc) (tr _ _ hc)
    · rw [rem_ne (fun z=>by rw [z,hx]at q;cases q)];exact q
    · rw [rem_ne (fun z=>by rw [z,hx]at q;cases q)];exact q
  · have w:∃o1,s2.heap.get? b=some o1∧b≠x∧b∉frs X.stack:=by
      rcases c with c | ⟨u0,e0⟩
      · cases q:rem H2 x b with
        | none=>exact absurd q c
        | some v=>
          have nb:b≠x:=fun z=>by rw [z,rem_same]at q;cases q
          rw [rem_ne nb]at q
          obtain ⟨o1,e1⟩:=I.hok.there q
          exact ⟨o1,e1,nb,tr _ _ q⟩
      · obtain ⟨o1,e1⟩:=th b u0 e0
        exact ⟨o1,e1,nx b u0 e0,ns b u0 e0 hb⟩
    obtain ⟨o1,e1,n1,n2⟩:=w
    have e2:=kp b o1 e1 n1 n2
    rw [e]at e2;cases e2
    exact hid b o e1 n1 n2
end
section
variable {P:Program} {w:World} {K:PySem.W.Frag} {mg:Str→Option Value} {base:Heap} {N:List Str} {qual:Str} {scope:Scope} {f:Addr} {cd:Value} {A:Around} {outer:List Env} {s:Shared} {H:Hp} {E:XK}
theorem raise_outF{pins:List (Addr×Obj)}{σ:St}{H2:Hp}{s2:Shared}{x C:Addr}{od:Option Addr}(I:Inv (cxOf (CXF P w) P w K mg base N qual scope f cd A outer s H E) pins σ H2 s2)
    (hx:H2 x=some (exO true x C od)) (h0:H x=none) (q:E (.ref C) (some x) (upd H2 x (exO false x C od))):(cxOf (CXF P w) P w K mg base N qual scope f cd A outer s H E).xe (.ref x) s2:=by
  have x0:s.heap.get? x=none:=by
    cases z:s.heap.get? x with
    | none=>rfl
    | some v=>
      have e:=I.base.free x v z h0 (by intro c;exact absurd (show x∈([]:List Addr) from c) (by simp))
      rw [hx]at e;cases e
  obtain ⟨vs,sl,e1,nv⟩:=(I.hok x _ hx).1
  obtain ⟨t,rfl⟩:=nv rfl
  have hin:∀env∈(cxOf (CXF P w) P w K mg base N qual scope f cd A outer s H E).stack,∀a,env.frame=some a→a∈x::frs (cxOf (CXF P w) P w K mg base N qual scope f cd A outer s H E).stack:=fun env he a ha=>List.mem_cons_of_mem _ (List.mem_filterMap.mpr ⟨env,he,ha⟩)
  refine leavesD1 (base:=PySem.W.hideAll s2.heap (x::frs (cxOf (CXF P w) P w K mg base N qual scope f cd A outer s H E).stack)) I.ok.frames rfl (fun b o e=>PySem.W.of_hideAll _ e) (PySem.W.funFrames_hide I.stack hin) (PySem.W.hideAll_none _ (List.mem_cons_self ..)) e1 fun h3 fl up=>?_
  obtain ⟨U,ok3,hB3⟩:=leaveX I rfl hx x0 fl.1.1 up
  exact ⟨x,C,od,.ref t,rem H2 x,_,rfl,I.os,I.bare,U,ok3,fl,hB3,rem_same,x0,by rw [upd_rem];exact q⟩
theorem pass_onF:Passes (CXF P w) (cxOf (CXF P w) P w K mg base N qual scope f cd A outer s H E) E:=by
  intro pins σ H1 s1 e s2 I h
  obtain ⟨x,C,od,a0,H2,B,rfl,os,bare,u,ok,fl,hB,hx,hnew,q⟩:=h
  refine leavesD (base:=B) I.ok.frames rfl fl fun h3 fl3 up=>?_
  obtain ⟨U,ok3,hB3⟩:=leave_of I rfl u ok hB fl3.1.1 up
  refine ⟨x,C,od,a0,H2,B,rfl,os.trans I.os,bare,U,ok3,fl3,hB3,hx,?_,q⟩
  cases z:s.heap.get? x with
  | none=>rfl
  | some v=>
    obtain ⟨o1,e1⟩:=I.base.there x v z (by intro c;exact absurd (show x∈([]:List Addr) from c) (by simp))
    rw [hnew]at e1;cases e1
theorem own_outF:PassesOwn (model P w) (A.deeper (envOfC qual scope s.heap.objs.size f cd)) (envOfC qual scope s.heap.objs.size f cd) (cxOf (CXF P w) P w K mg base N qual scope f cd A outer s H E).xe:=PassesOwn.leaving
theorem Fun.okF{x:Str}{st:Stmt}{fd:FuncData}{ps:List Str}{k:Nat}{sp:Sp}(F:Fun K x qual st f fd)(S:FnScope N ps (defScope st))(len:∀vs H Q E,sp vs H Q E→vs.length=ps.length)
    (hbody:∀(cdv:Value) (A:Around) (outer:List Env) (s:Shared) (H:Hp) (vs:List V) (Q:VK) (E:XK),Room k (A.deeper (envOfC qual (defScope st) s.heap.objs.size f cdv))→sp vs H Q E→
      ∃t,PSs (cxOf (CXF P w) P w K mg base N qual (defScope st) f cdv A outer s H E) (defBody st) t∧t {nx:=fun _ H'=>Q .non H',rt:=Q} (start N vs) H):FnOk P w K mg base (CXF P w) (k+1) f fd ps sp:=by
  obtain ⟨oc,od,kV,doc,pm,an,cdv,ct,osl,rfl,lk,hcd⟩:=F.ex
  exact fn_of lk hcd S len fun A outer s H vs Q E hr hsp=>hbody cdv A outer s H vs Q E hr hsp
noncomputable def RaisesF(X:Cx)(H₀:Hp)(EE:St→XK):Prop:=∀(pins:List (Addr×Obj)) (σ:St) (H2:Hp) (s2:Shared) (x C:Addr) (od:Option Addr),
  Inv X pins σ H2 s2→H2 x=some (exO true x C od)→H₀ x=none→EE σ (.ref C) (some x) (upd H2 x (exO false x C od))→X.xe (.ref x) s2
theorem raisesF:RaisesF (cxOf (CXF P w) P w K mg base N qual scope f cd A outer s H E) H (fun _=>E):=fun _ _ _ _ _ _ _ I hx h0 q=>raise_outF I hx h0 q
theorem pass_noF{Y:Cx}:Passes (CXF P w) Y fun _ _ _=>False:=fun _ _ _ _ _ _ _ h=>by
  obtain ⟨_,_,_,_,_,_,_,_,_,_,_,_,_,_,_,z⟩:=h
  exact z.elim
end
structure ExK(K:PySem.W.Frag)(C:Addr):Prop where
  at_:∀h:Heap,K.In h→∃(nm q:Str) (N:Addr) (bs bm:List Value) (hd:Bool) (sn:List Str) (su:List Value) (ab:Bool) (co:Option Bool) (dd:Option Addr) (k0 k1 k2 k3 k5:Option Value) (nw:String),
    h.get? C=some (excClassObj nm q C N bs bm hd sn su ab co dd k0 k1 k2 k3 k5 nw)∧bm.contains (.type "BaseException")=true
theorem ExcC.k{K:PySem.W.Frag}{C:Addr}(M:ExcC K C):ExK K C:=⟨fun h X=>by
  obtain ⟨nm,q,N,bs,bm,hd,sn,su,ab,co,dd,k0,k1,k2,k3,k5,mN,c1,c2,c3,c4⟩:=M.at_ h X
  exact ⟨nm,q,N,bs,bm,hd,sn,su,ab,co,dd,k0,k1,k2,k3,k5,_,c1,c4.hasType (by decide)⟩⟩
noncomputable def tRaiseP(P:St→Addr→Hp→Prop)(ta:TE):TS:=fun _ σ H=>ta σ H fun v H2=>∃x,v= .ref x∧P σ x H2
section
variable {X:Cx} {H₀:Hp} {EE:St→XK} {C:Addr} {e:Expr} {ta:TE} {pos:Pos}
theorem ps_raiseP{P:St→Addr→Hp→Prop}(hP:∀σ x H2,P σ x H2→∃od,H2 x=some (exO true x C od)∧H₀ x=none∧EE σ (.ref C) (some x) (upd H2 x (exO false x C od)))(k:ExK X.K C)(hc:X.calm=true)(hx:RaisesF X H₀ EE)(he:PE X e ta):
    PS X (.Raise (some e) none pos) (tRaiseP P ta):=by
  intro pins s σ H D I h
  rw [arm_exec_Raise]
  refine wpAny_bind (wpAny_standAt ?_)
  show wpAny _ _ (raiseStmt X.env (some (do let v ← eval e X.env;standAt pos;pure v)) none) _ _ _
  unfold raiseStmt
  refine wpAny_bind (wpAny_bind (wpAny_mono (he pins s σ H _ I h) (fun v s1 hv=>wpAny_bind (wpAny_standAt (wpAny_pure ?_))) fun _ _ z=>z))
  obtain ⟨v',H2,I2,rx,x,ev,hp⟩:=hv
  obtain ⟨od,hx2,h0,q⟩:=hP σ x H2 hp
  subst ev
  cases (show v=Value.ref x from rx)
  obtain ⟨nm,qn,N,bs,bm,hd,sn,su,ab,co,dd,k0,k1,k2,k3,k5,nw,c1,c2⟩:=k.at_ s1.heap I2.kIn
  obtain ⟨vs,sl,e1,nv⟩:=(I2.hok x _ hx2).1
  obtain ⟨t,rfl⟩:=nv rfl
  have fin:=hx pins σ H2 s1 x C od I2 hx2 h0 q
  have hB:(Value.ref C::bm).contains (.type "BaseException")=true:=by rw [List.contains_cons,c2,Bool.or_true]
  obtain ⟨hp',g,d,tk,os⟩:=s1
  repeat (first | with_reducible refine wpAny_loadPart_at e1 ?_ | with_reducible refine wpAny_loadPart_at c1 ?_ | (with_reducible refine wpAny_isSubtype_exc c1 ?_;rw [hB]) | wp_step)
  exact wpAny_raiseNew_none (I.ok.hd hc) fin
end
noncomputable def pN(C:Addr)(H₀:Hp)(EE:St→XK):St→Addr→Hp→Prop:=fun σ x H2=>H2 x=some (exO true x C none)∧H₀ x=none∧EE σ (.ref C) (some x) (upd H2 x (exO false x C none))
noncomputable def pI(C:Addr)(H₀:Hp)(EE:St→XK):St→Addr→Hp→Prop:=fun σ x H2=>∃od,H2 x=some (exO true x C od)∧H₀ x=none∧EE σ (.ref C) (some x) (upd H2 x (exO false x C od))
section
variable {X:Cx} {H₀:Hp} {CX:CXT} {EE:St→XK} {k j:Nat} {C:Addr} {ps:List Str} {sp:Sp} {x:Str} {np cpos pos:Pos} {e:Expr} {es:List Expr} {t:TA}
theorem ps_raiseF(M:ExcC X.K C)(hex:X.ex=[])(kp:PySem.W.keepIn X.K (.ref C)=true)(hc:X.calm=true)(hg:Gl X x)(hm:X.mg x=some (.ref C))(hx:RaisesF X H₀ EE)(ha:PA X (e::es) t)(hdb:(x==("__debug__":Str))=false:=by decide)
    (he:starEach (e::es) X.env=(false,eval e X.env)::starEach es X.env:=by rfl) (hpl:(backTo cpos (starEach es X.env)).any (·.1)=false:=by rfl):
    PS X (.Raise (some (.Call (.Name x np) (e::es) [] cpos)) none pos) (tRaiseP (pN C H₀ EE) (tExc C t)):=
  ps_raiseP (fun _ _ _ h=>⟨none,h⟩) M.k hc hx (pe_exc M hex kp hg hm ha hdb he hpl)
end
section
variable {σ:St} {H H₀:Hp} {Q:VK} {D:Ends} {K:PySem.W.Frag} {C:Addr} {EE:St→XK} {t:TA} {sp:Sp}
theorem rd_raiseF:tRaiseP (pN C H₀ EE) (tExc C t) D σ H=t σ H fun vs H1=>vs.length≤sizeLine∧∀x,H1 x=none→H₀ x=none∧EE σ (.ref C) (some x) (upd H1 x (exO false x C none)):=by
  unfold tRaiseP pN tExc
  simp only [V.ref.injEq,exists_eq_left',upd_same,upd_upd,true_and]
theorem rd_raiseI:tRaiseP (pI C H₀ EE) (tExcI C sp EE t) D σ H=t σ H fun vs H1=>vs.length≤sizeLine∧∀x,H1 x=none→sp (.ref x::vs) (upd H1 x (exO true x C none)) (fun v H2=>v= .non∧∃od,H2 x=some (exO true x C od)∧H₀ x=none∧EE σ (.ref C) (some x) (upd H2 x (exO false x C od))) (EE σ):=by
  unfold tRaiseP pI tExcI
  simp only [V.ref.injEq,exists_eq_left']
end
section
variable {X:Cx} {pins:List (Addr×Obj)} {σ:St} {H:Hp} {x C:Addr} {od:Option Addr} {s:Shared}
theorem Air.landD(Z:Air X pins σ H x (.ref C) s)(ly:Lies s.heap x C od){M:Model}{A:Around}{Q:Unit→Shared→Prop}{E:Value→Shared→Prop}(h:∀s',Air X pins σ H x (.ref C) s'→Lies s'.heap x C od→Q () s'):wpAny M A (setFlight (.ref x) none) Q E s:=by
  obtain ⟨H0,s0,a0,B,I,os,bare,u,ok,fl,hB,hx,hn⟩:=Z.ex
  refine L2.landD fl.1 fl.2.2.1 fl.2.2.2.at ly fun h2 b2 g2 t2 u2 l2=>h _ ?_ l2
  obtain ⟨U,ok3,hB3⟩:=stay_of u ok I.frm I.stkFree hB b2 u2
  exact ⟨H0,s0,a0,B,I,os,bare,U,ok3,⟨b2,fl.2.1,g2,t2⟩,hB3,hx,hn⟩
theorem Air.trackF(Z:Air X pins σ H x (.ref C) s)(ly:Lies s.heap x C od)(hex:X.ex=[]):Inv X pins σ (upd H x (exO false x C od)) s:=by
  obtain ⟨H0,s0,a0,B,I0,os,bare,u,ok,fl,hB,hx,hn⟩:=Z.ex
  obtain ⟨vs,sl,e⟩:=ly
  exact Inv.track (H1:=H0) (s1:=s0) I0 hex hn Z.inv hx (exO_ok e fun z=>by cases z)
end
noncomputable def PHF(X:Cx)(hs:List ExceptHandler)(th:TH):Prop:=∀(pins:List (Addr×Obj)) (s:Shared) (σ:St) (H:Hp) (x C:Addr) (od:Option Addr) (D:Ends),Air X pins σ H x (.ref C) s→Lies s.heap x C od→th (.ref C) x D σ (upd H x (exO false x C od))→
  wpAny (model X.prog X.w) X.A (handleBy (.ref x) X.env hs) (SP X pins D) X.xe s
noncomputable def hAsF(K:PySem.W.Frag)(c:Value)(i:Nat)(ts:Addr→TS)(tr:TH):TH:=fun cls x D σ H=>∃b,PySem.W.exmOne K cls c=some b∧if b=true then ts x (endsAs i D) (σ.set i (some (.ref x))) H else tr cls x D σ H
section
variable {X:Cx} {Cn n:Str} {c:Value} {i:Nat} {np pos:Pos} {b₀:Stmt} {suite:List Stmt} {rest:List ExceptHandler} {ts:Addr→TS} {tr:TH}
theorem ph_nilF:PHF X [] hNil:=fun _ _ _ _ _ _ _ _ _ _ h=>h.elim
theorem ph_asF(hex:X.ex=[])(hN:X.N.Nodup)(hi:X.N[i]?=some n)(hl:X.env.kindOf n=some .local)(hg:Gl X Cn)(hm:X.mg Cn=some c)(hs:∀x,PSs (X.sui x) (b₀::suite) (ts x))(hr:PHF X rest tr)(hdb:(Cn==("__debug__":Str))=false:=by decide):
    PHF X (.ExceptHandler (some (.Name Cn np)) (some n) (b₀::suite) pos::rest) (hAsF X.K c i ts tr):=by
  intro pins s σ H x C od D Z ly h
  obtain ⟨b,e,h⟩:=h
  refine wpAny_handleBy_cons (clause_test (c:=c) Z (fun Q E q=>ld_glob (X:=X.sui x) (Z.inv.sui x) hg hm q hdb) e ?_) (by intro q;cases q)
  cases b with
  | false=>exact hr pins s σ H x C od D Z ly h
  | true=>
    refine codeAny_handlers_suite_as (Z.landD ly fun s' Z' ly'=>?_)
    refine store_ok (X:=X) (Z'.trackF ly' hex) hN hi (.inl hl) (v:= .ref x) rfl (fun s2 I2=>?_) (.inr hl)
    refine wpAny_mono (hs x pins s2 _ _ _ (I2.sui x) h) (fun f s3 q=>?_) fun _ _ q=>False.elim q
    have q':=q.unsui Z.inv.ok
    show wpAny _ _ _ _ _ _
    cases f with
    | next=>obtain ⟨σ',H',I3,q3⟩:=q';exact name_goes I3 hN hi hl fun s4 I4=>⟨_,H',I4,q3⟩
    | brk=>obtain ⟨σ',H',I3,q3⟩:=q';exact name_goes I3 hN hi hl fun s4 I4=>⟨_,H',I4,q3⟩
    | cont=>obtain ⟨σ',H',I3,q3⟩:=q';exact name_goes I3 hN hi hl fun s4 I4=>⟨_,H',I4,q3⟩
    | ret u=>obtain ⟨v,σ',H',I3,r3,q3⟩:=q';exact name_goes I3 hN hi hl fun s4 I4=>⟨v,_,H',I4,r3,q3⟩
theorem ps_tryF{body:List Stmt}{h₀:ExceptHandler}{hs:List ExceptHandler}{tb:TryB→TS}{th:TH}(hst:X.stack=X.env::X.outer)(hfr:X.env.frame=some X.env.locals)
    (hb:∀t:TryB,PassesS (CXF X.prog X.w) (X.tryX t.pn t.xe) t.EE→PSs (X.tryX t.pn t.xe) body (tb t)) (hh:PHF X (h₀::hs) th):
    PS X (.Try body (h₀::hs) [] [] pos) (tTryV tb th):=by
  intro pins s σ H D I h
  refine wpAny_Try_except ?_
  have P1:PassesS (CXF X.prog X.w) (X.tryX (X.pn++pins) (fun e s'=>∃σ H' x C od,e= .ref x∧Air X pins σ H' x (.ref C) s'∧Lies s'.heap x C od∧th (.ref C) x D σ (upd H' x (exO false x C od)))) (fun σ' cls ox H'=>∃x,ox=some x∧th cls x D σ' H'):=by
    intro pl σ1 H1 s1 e s2 I1 hc
    obtain ⟨x,C,od,a0,H2,B,rfl,os,bare,u,ok,fl,hB,hx,hn,⟨y,hy,q⟩⟩:=hc
    cases hy
    exact ⟨σ1,H2,x,C,od,rfl,⟨H1,s1,a0,B,I1.tryOut I.ok,os,bare,u,ok,fl.1,hB,hx,hn⟩,fl.2,q⟩
  refine wpAny_mono (hb ⟨_,_,_⟩ P1 [] s σ H D (I.tryIn _) (h _ _)) (fun f s1 q=>?_) fun e s1 q=>?_
  · have q':=q.tryOut I.ok
    cases f with
    | next=>exact wpAny_execs_nil q'
    | brk=>exact q'
    | cont=>exact q'
    | ret u=>exact q'
  · obtain ⟨σ1,H1,x,C,od,rfl,Z,ly,q⟩:=q
    have fr:X.A.frames=some (X.env::X.outer):=by rw [← hst];exact I.ok.frames
    obtain ⟨H0,s0,a0,B,I0,os,bare,u,ok,fl,hB,hx,hn⟩:=Z.ex
    have fl':=fl
    rw [hst]at fl'
    obtain ⟨f1,f2,f3,f4⟩:=fl'
    refine noteD fr f3 hfr f4 f1 f2 ly fun h1 N1 l1=>landD (s:={s1 with heap:=h1}) N1.1 N1.2.1 N1.2.2.1 l1 fun h3 b3 g3 t3 u3 l3=>?_
    have fl3:Heap.FlyingW B X.stack x (.ref C) a0 h3:=by rw [hst];exact ⟨b3,f2,g3,t3⟩
    obtain ⟨U,ok3,hB3⟩:=stay_of u ok I0.frm I0.stkFree hB b3 (Heap.UpToSlots.trans N1.2.2.2 u3)
    exact hh pins _ σ1 H1 x C od D ⟨H0,s0,a0,B,I0,os,bare,U,ok3,fl3,hB3,hx,hn⟩ l3 q
end
section
variable {σ:St} {H:Hp} {D:Ends} {K:PySem.W.Frag}
theorem rd_hasF{c cls:Value}{i:Nat}{x:Addr}{ts:Addr→TS}{tr:TH}:hAsF K c i ts tr cls x D σ H=∃b,PySem.W.exmOne K cls c=some b∧if b=true then ts x (endsAs i D) (σ.set i (some (.ref x))) H else tr cls x D σ H:=rfl
theorem rd_fldX{Q:VK}{ta:TE}{f:Str}:tFldX K ta f σ H Q=ta σ H fun x H1=>∃nw a C B dx fs v,x= .ref a∧H1 a=some (exO nw a C (some dx))∧H1 dx=some (exD dx fs)∧ExcQ K C B∧PySem.W.findIn K (.ref C) f=some none∧fs.lookup f=some v∧Q v H1:=rfl
theorem rd_sfldX{ta tv:TE}{f:Str}:sFldX K ta tv f D σ H=tv σ H fun y H1=>ta σ H1 fun x H2=>∃nw a C B,x= .ref a∧ExcQ K C B∧PySem.W.findIn K (.ref C) f=some none∧
  ((H2 a=some (exO nw a C none)∧∀dx,H2 dx=none→D.nx σ (upd (upd H2 a (exO nw a C (some dx))) dx (exD dx (putF f y []))))∨
   ∃dx fs,H2 a=some (exO nw a C (some dx))∧H2 dx=some (exD dx fs)∧fs.length < 1000∧D.nx σ (upd H2 dx (exD dx (putF f y fs)))):=rfl
theorem rd_methX{C:Addr}{m:Str}{sp:Sp}{EE:St→XK}{ta:TE}{Q:VK}:tMethX C m sp EE ta σ H Q=ta σ H fun x H1=>∃nw a,x= .ref a∧(H1 a=some (exO nw a C none)∨∃dx fs,H1 a=some (exO nw a C (some dx))∧H1 dx=some (exD dx fs)∧fs.lookup m=none)∧sp [x] H1 Q (EE σ):=rfl
theorem rd_exc{C:Addr}{t:TA}{Q:VK}:tExc C t σ H Q=t σ H fun vs H1=>vs.length≤sizeLine∧∀x,H1 x=none→Q (.ref x) (upd H1 x (exO true x C none)):=rfl
theorem rd_excI{C:Addr}{sp:Sp}{EE:St→XK}{t:TA}{Q:VK}:tExcI C sp EE t σ H Q=t σ H fun vs H1=>vs.length≤sizeLine∧∀x,H1 x=none→sp (.ref x::vs) (upd H1 x (exO true x C none)) (fun v H2=>v= .non∧Q (.ref x) H2) (EE σ):=rfl
end
section
open PySem.W
theorem walk_ofKF{l:PySem.W.OpenLaw}{n k:Nat}{q:Program}{loose:List Str}{XP:(Str→Option Value)→Heap→Prop}{YP:World→Heap→Prop}{d:DefRec}{K:Params→PySem.W.Frag}{sp:PySem.W.Frag→Sp}{x:Str}
    (hn:l.most=some n) (hn2:n≤sizeLine) (hdf:d.params.defaults=[]) (hr:Room k callerA) (hY:∀(w:World) (h:Heap),YP w h→(K w.params).In h)
    (F:∀(w:World) (mg:Str→Option Value) (fa:Addr) (h:Heap),(K w.params).In h→h.Ns mainGlobals mg→mg d.name=some (.ref fa)→
      ∃fd:FuncData,(∀(s:Shared) (u:Value),BindsTo s fd ⟨[u],[]⟩ [(x,u)])∧∀base:Heap,(K w.params).In base→base.Ns mainGlobals mg→FnOk l.prog w (K w.params) mg base (CXF l.prog w) k fa fd [x] (sp (K w.params)))
    (hsp:∀(K:PySem.W.Frag) (H:Hp) (a:Addr) (ns:List Int),ns.length≤n→Only H→SqL K H a (ns.map V.int)→sp K [.ref a] H (fun v _=>v= .bl true) fun _ _ _=>False):
    PySem.W.WalkO q loose XP YP l.row.toRowW d [] (fun f vs=>PySem.call f vs):=
  walk_of (K:=K) (CX:=fun w=>CXF l.prog w) (sp:=fun w=>sp (K w.params)) hn hn2 hdf hr hY F (fun w H a ns h1 h2 h3=>hsp (K w.params) H a ns h1 h2 h3) fun _ _ _ _ _ ⟨_,_,_,_,_,_,_,_,_,_,_,_,_,_,_,z⟩=>z
end
section
open PySem.W
variable {K:Frag} {C N A f:Addr} {nm q:Str} {bs:List Value} {hdct:Bool} {sn:List Str} {sub:List Value} {ab:Bool} {col:Option Bool} {dd:Option Addr} {k0 k1 k2 k3 k5:Option Value} {oc c0 oc2:Value} {od dA od2:Option Addr} {es es2:Array DictEntry} {ep ep2:Nat} {sl slA sl2:Array (Option Value)} {cdA:ClassData} {nw:String}
end
end L2
set_option Elab.async false
set_option linter.all false
set_option maxRecDepth 100000
set_option maxHeartbeats 4000000
namespace L2
open PySem PySem.Spec PyProof.Rows
theorem kV_of{P:Program}{w:World}{k:Key}{u:Value}(h:(mixKind P w).is k u=true):RelV (kV k) u:=by
  cases k with
  | inl i=>
    cases u <;> first | (exact absurd h (by intro z;cases z)) | skip
    rename_i j t
    have e:j=i:=by simpa [mixKind,keyIs,Value.isInt] using h
    exact ⟨t,by rw [e]⟩
  | inr x=>
    cases u <;> first | (exact absurd h (by intro z;cases z)) | skip
    rename_i j t
    have e:j=x:=by simpa [mixKind,keyIs,Value.isStrOf] using h
    exact ⟨t,by rw [e]⟩
theorem vals_at:∀{xs:List V} {us:List Value},xs.length=us.length→(∀(j:Nat) (u:Value),us[j]?=some u→∃x,xs[j]?=some x∧RelV x u)→Vals xs us
  | [],[],_,_=> .nil
  | x::xs,u::us,hl,h=>by
    obtain ⟨y,e,r⟩:=h 0 u rfl
    cases e
    exact .cons r (vals_at (by simpa using hl) fun j v e=>h (j+1) v e)
theorem paired_get{α β:Type}{F:α→β→Prop}:∀{l:List α} {m:List β},Paired F l m→∀{i:Nat} {b:β},m[i]?=some b→∃a,l[i]?=some a∧F a b
  | _,_,.cons r t,0,b,e=>by cases e;exact ⟨_,rfl,r⟩
  | _,_,.cons r t,i+1,b,e=>paired_get t (i:=i) e
noncomputable def viewO(v d:Addr):HO:= .ext fun h=>h.IsValuesView v d
noncomputable def rListD:List V→Hp→VK→Prop:=fun xs H Q=>∃a kvs,xs=[.ref a]∧H a=some (.dK kvs)∧∀l,H l=none→Q (.ref l) (upd H l (.lst (kvs.map fun p=>kV p.1)))
noncomputable def rValues:V→List V→Hp→VK→Prop:=fun x vs H Q=>∃a kvs,x= .ref a∧vs=[]∧H a=some (.dK kvs)∧∀v,H v=none→Q (.ref v) (upd H v (viewO v a))
noncomputable def rSumV:List V→Hp→VK→Prop:=fun xs H Q=>∃(v d:Addr) (kvs:List (Key×V)) (is:List Int),xs=[.ref v]∧H v=some (viewO v d)∧H d=some (.dK kvs)∧kvs.map (·.2)=is.map V.int∧Q (.int is.sum) H
noncomputable def rRemove:V→List V→Hp→VK→Prop:=fun x vs H Q=>∃(l:Addr) (ys:List Str) (z:Str),x= .ref l∧vs=[.str z]∧H l=some (.lst (ys.map V.str))∧z∈ys∧Q .non (upd H l (.lst ((ys.erase z).map V.str)))
section
variable {X:Cx}
theorem call_listD(hc:X.calm=true):CallR X (.type "list") rListD:=by
  intro pins s σ H xs us Q I r h
  obtain ⟨a,kvs,rfl,ha,q⟩:=h
  obtain ⟨u,rfl,rx⟩:=vals1 r
  cases rx
  obtain ⟨z,lo,ws,rel,ob,es,ep,e1,e2⟩:=I.hok a _ ha
  have dat:s.heap.DictAt (mixKind X.prog X.w) a ws ep:=⟨ob,es,e1,e2⟩
  refine PySem.W.kdl_call (PySem.W.kdl_dict (knd:=mixKind X.prog X.w) (kvs:=ws) (ep:=ep) lo) (I.ok.hd hc) dat (by rw [← rel.length];exact z) fun h' tk acc c' kp e hi=>?_
  have hv:Vals (kvs.map fun p=>kV p.1) acc.toList:=by
    have h1:=hi.1
    have h2:=rel.length
    refine vals_at (by rw [List.length_map];exact h2.trans (h1.symm.trans (Array.length_toList (xs:=acc)).symm)) fun j u ej=>?_
    obtain ⟨k,x,ek,hk⟩:=hi.2 j u (by rw [← Array.getElem?_toList];exact ej)
    obtain ⟨p,ep',hp⟩:=paired_get rel ek
    exact ⟨kV p.1,by rw [List.getElem?_map,ep'];rfl,by rw [hp.1];exact kV_of hk⟩
  refine ⟨.ref s.heap.objs.size,_,I.laid (t':=tk) kp (Nat.le_refl _) (show ObjOk X.prog X.w _ h' _ (.lst (kvs.map fun p=>kV p.1)) from ⟨by rw [List.length_map];exact z,acc.toList,c',hv,?_⟩),rfl,q _ I.fresh⟩
  rw [Array.toArray_toList];exact e
noncomputable def gLst(K:PySem.W.Frag)(n:Nat)(t:TGs):TG:=fun v σ H Q=>∃a xs,v= .ref a∧SqL K H a xs∧xs.length=n∧t xs σ H Q
noncomputable def rIsB:R2:=fun x y H Q=>∃a b,x= .bl a∧y= .bl b∧Q (.bl (a==b)) H
noncomputable def rIsNB:R2:=fun x y H Q=>∃a b,x= .bl a∧y= .bl b∧Q (.bl (!(a==b))) H
end
section
variable {σ:St} {H:Hp} {Q:VK} {xs:List V} {x y:V}
theorem rd_glst{K:PySem.W.Frag}{n:Nat}{t:TGs}{v:V}{N:St→Hp→Prop}:gLst K n t v σ H N=∃a xs,v= .ref a∧SqL K H a xs∧xs.length=n∧t xs σ H N:=rfl
theorem rd_dpop1{td ty:TE}:tDPop1 td ty σ H Q=td σ H fun x H1=>∃a,x= .ref a∧IsD H1 a∧ty σ H1 fun y H2=>∃kvs k v,H2 a=some (.dK kvs)∧y=kV k∧valV kvs k=some v∧Q v (upd H2 a (.dK (dropK kvs k))):=rfl
theorem rd_dget2{td ty tx:TE}:tDGet2 td ty tx σ H Q=td σ H fun x H1=>∃a,x= .ref a∧IsD H1 a∧ty σ H1 fun y H2=>tx σ H2 fun z H3=>∃o,DGet H3 a y o∧Q (o.getD z) H3:=rfl
theorem rd_popAt:rPopAt x xs H Q=∃l ys i k y,x= .ref l∧xs=[.int i]∧H l=some (.lst ys)∧-(2 ^ 63)≤i∧i < 2 ^ 63∧seqIndex? i ys.length=some k∧ys[k]?=some y∧Q y (upd H l (.lst (ys.eraseIdx k))):=rfl
theorem rd_listD:rListD xs H Q=∃a kvs,xs=[.ref a]∧H a=some (.dK kvs)∧∀l,H l=none→Q (.ref l) (upd H l (.lst (kvs.map fun p=>kV p.1))):=rfl
theorem rd_values:rValues x xs H Q=∃a kvs,x= .ref a∧xs=[]∧H a=some (.dK kvs)∧∀v,H v=none→Q (.ref v) (upd H v (viewO v a)):=rfl
theorem rd_sumV:rSumV xs H Q=∃(v d:Addr) (kvs:List (Key×V)) (is:List Int),xs=[.ref v]∧H v=some (viewO v d)∧H d=some (.dK kvs)∧kvs.map (·.2)=is.map V.int∧Q (.int is.sum) H:=rfl
theorem rd_remove:rRemove x xs H Q=∃(l:Addr) (ys:List Str) (z:Str),x= .ref l∧xs=[.str z]∧H l=some (.lst (ys.map V.str))∧z∈ys∧Q .non (upd H l (.lst ((ys.erase z).map V.str))):=rfl
theorem rd_isB:rIsB x y H Q=∃a b,x= .bl a∧y= .bl b∧Q (.bl (a==b)) H:=rfl
theorem rd_isnB:rIsNB x y H Q=∃a b,x= .bl a∧y= .bl b∧Q (.bl (!(a==b))) H:=rfl
end
section
variable {i j:Int} {a b:Bool} {x y:Str}
theorem sc_nn:scal .non .non=true:=rfl
theorem sc_ni:scal .non (.int j)=true:=rfl
theorem sc_in:scal (.int i) .non=true:=rfl
theorem sc_nb:scal .non (.bl b)=true:=rfl
theorem sc_bn:scal (.bl a) .non=true:=rfl
theorem sc_ns:scal .non (.str y)=true:=rfl
theorem sc_sn:scal (.str x) .non=true:=rfl
theorem sc_ii:scal (.int i) (.int j)=true:=rfl
theorem sc_bb:scal (.bl a) (.bl b)=true:=rfl
theorem sc_ss:scal (.str x) (.str y)=true:=rfl
theorem sc_is:scal (.int i) (.str y)=true:=rfl
theorem sc_si:scal (.str x) (.int j)=true:=rfl
theorem sc_bs:scal (.bl a) (.str y)=true:=rfl
theorem sc_sb:scal (.str x) (.bl b)=true:=rfl
end
end L2
set_option linter.all false
set_option maxHeartbeats 1000000
namespace L2
open PySem PySem.Spec PyProof.Rows N1 N5
section
variable {K:PySem.W.Frag} {tail:St} {te:Blk→TE} {Q:VK} {H1:Hp}
noncomputable def OffLists(P:V→Hp→Prop):Prop:=∀y H H' l zs,P y H→H l=some (.lst zs)→SameBut l H H'→P y H'
theorem compR_mk{lo:Int}{n:Nat}(P:Nat→V→Hp→Prop)(hP:∀i,OffLists (P i))(hz:n≤sizeLine)(he:∀b (i:Nat) H Q',i < n→Same H1 H→(∀y H',Same H H'→P i y H'→Q' y H')→te b (some (.int (lo+i))::tail) H Q')
    (q:∀D ys H',H1 D=none→Same H1 H'→H' D=some (.lst ys)→ys.length=n→(∀i y,ys[i]?=some y→P i y H')→Q (.ref D) H'):CompTail (none::tail) (fun _=>gName 0) (fun _=>tYes) te Q (Itr lo n) H1:=by
  refine comp_by n (fun b D hD=>⟨fun i ys H=>i≤n∧ys.length=i∧H D=some (.lst ys)∧Same H1 H∧∀j y,ys[j]?=some y→P j y H,⟨Nat.zero_le _,rfl,upd_same,same_new hD,fun j y e=>by simp at e⟩,?_,?_,?_⟩)
  · rintro i ys H ⟨hi,_,h,_⟩
    exact h
  · rintro ys H ⟨_,hl,h,sm,hall⟩
    exact ⟨Nat.le_refl _,q D ys H hD sm h hl hall⟩
  · rintro i ys H hi ⟨_,hl,h,sm,hall⟩
    refine ⟨hi,fun x H3 ⟨e3,ex⟩=>?_⟩
    subst e3 ex
    refine he b i _ _ hi sm fun y H4 sm4 py=>?_
    have h4:=sm4 _ _ h
    have sb:SameBut D H4 (upd H4 D (.lst (ys++[y]))):=sameBut_upd
    refine compNext h4 (by omega) hi ⟨hi,by rw [List.length_append,hl];rfl,upd_same,fun c o e=>?_,fun j y' e=>?_⟩
    · rw [upd_ne (ne_of_none e hD)];exact sm4 _ _ (sm _ _ e)
    · by_cases hj:j < ys.length
      · rw [List.getElem?_append_left hj]at e
        have:=hall j y' e
        exact hP j _ _ _ _ _ this h fun c o e n=>by rw [upd_ne n];exact sm4 _ _ e
      · rw [List.getElem?_append_right (by omega)]at e
        have hj0:j=i:=by have:=(List.getElem?_eq_some_iff.mp e).1;simp at this;omega
        subst hj0
        rw [show j - ys.length=0 by omega]at e
        cases e
        exact hP j _ _ _ _ _ py h4 sb
end
end L2
namespace N4
open PySem PySem.Spec PyProof.Rows L2 N1 N5
noncomputable def sp_checkG(K:PySem.W.Frag):Sp:=fun vs H Q _=>∃(n co r:V) (e:Addr) (kvs:List (Key×V)) (ks:List Str),vs=[n,co,r,.ref e]∧H e=some (.dK kvs)∧kvs.map (·.1)=ks.map Sum.inr∧rowR ks n co r=none∧∀H',Same H H'→Q .non H'
noncomputable def sp_initG(K:PySem.W.Frag)(C:Addr):Sp:=fun vs H Q _=>∃(p dx ra:Addr) (rs:List Rw),vs=[.ref p,.ref ra]∧H p=some (.ins C dx [])∧SqL K H ra (rs.map fun t=>V.ref t.1)∧(∀t∈rs,SqT K H t.1 [t.2.1,t.2.2.1,t.2.2.2])∧initR rs=none∧
  ∀H',SameBut p H H'→StockAt K C H' p (rs.map thOf)→Q .non H'
theorem initR_none{rs:List Rw}(h:initR rs=none):rs.length≤60∧stockR [] rs=none:=by
  unfold initR at h
  split at h
  · cases h
  · exact ⟨by omega,h⟩
theorem wIn_ok{lo hi c:Int}(h1:lo≤c)(h2:c≤hi):wIn lo hi (.int c)=true:=by
  show (decide (lo≤c) && decide (c≤hi))=true
  rw [decide_eq_true h1,decide_eq_true h2];rfl
theorem stockR_ok:∀(rs:List Rw) (ks:List Str),(∀t∈rs,∃z c q,t.2.1= .str z∧t.2.2.1= .int c∧t.2.2.2= .int q∧nameB z.cps.toList=true∧0≤c∧c≤10 ^ 30∧1≤q∧q≤1000)→(ks++rs.map fun t=>sOf t.2.1).Nodup→stockR ks rs=none
  | [],_,_,_=>rfl
  | t::rs,ks,h,nd=>by
    obtain ⟨z,c,q,e1,e2,e3,hn,h1,h2,h3,h4⟩:=h t (List.mem_cons_self ..)
    have hz:¬z∈ks:=fun hz=>by
      rw [List.map_cons,List.nodup_append]at nd
      exact nd.2.2 z hz (sOf t.2.1) (List.mem_cons_self ..) (by rw [e1];rfl)
    have r0:rowR ks t.2.1 t.2.2.1 t.2.2.2=none:=by
      unfold rowR
      rw [e1,e2,e3]
      rw [if_neg (by show ¬nameB z.cps.toList=false;rw [hn];decide),if_neg (show ¬sOf (.str z)∈ks from hz),if_neg (by rw [wIn_ok h1 h2];decide),if_neg (by rw [wIn_ok h3 h4];decide)]
    unfold stockR
    rw [r0]
    refine stockR_ok rs _ (fun t' ht=>h t' (List.mem_cons_of_mem _ ht)) ?_
    rw [List.append_assoc]
    exact nd
theorem valV_nth{kvs:List (Key×V)}{i:Nat}{k:Key}{v:V}(nd:(kvs.map (·.1)).Nodup)(e:kvs[i]?=some (k,v)):valV kvs k=some v:=by
  induction kvs generalizing i with
  | nil=>rw [List.getElem?_nil]at e;cases e
  | cons p r ih=>
    cases i with
    | zero=>cases e;exact valV_pos rfl
    | succ i=>
      rw [List.map_cons,List.nodup_cons]at nd
      have hm:(k,v)∈r:=List.mem_of_getElem? e
      rw [valV_neg (fun z=>nd.1 (by rw [z];exact List.mem_map_of_mem (f:=(·.1)) hm))]
      exact ih nd.2 e
theorem inr_nodup{ks:List Str}(h:ks.Nodup):(ks.map (Sum.inr:Str→Key)).Nodup:=by
  unfold List.Nodup at *
  rw [List.pairwise_map]
  exact h.imp fun n e=>n (by injection e)
section
variable {K:PySem.W.Frag} {C:Addr} {H H':Hp} {p:Addr} {ts:List Th} {z:Str}
theorem StockAt.has(h:StockAt K C H p ts):∃dx d kvs,H p=some (.ins C dx (flds d))∧H d=some (.dK kvs)∧(kvs.map fun q=>kV q.1)=ts.map (fun t=>V.str t.1)∧(∀z,(valV kvs (Sum.inr z)).isSome=decide (z∈ts.map (·.1)))∧
    ((ts.map (·.1)).Nodup→∀(i:Nat) (t:Th),ts[i]?=some t→∃a,valV kvs (Sum.inr t.1)=some (.ref a)∧SqT K H a [.int i,.int t.2.1,.int t.2.2]):=by
  obtain ⟨dx,d,kvs,h1,h2,h3,h4⟩:=h.ex
  have h3':kvs.map (·.1)=(ts.map (·.1)).map Sum.inr:=by rw [h3,List.map_map];rfl
  refine ⟨dx,d,kvs,h1,h2,?_,fun z=>key_mem h3',fun nd i t e=>?_⟩
  · have:=congrArg (List.map kV) h3
    rw [List.map_map,List.map_map]at this
    exact this
  · obtain ⟨a,e1,e2⟩:=h4 i t e
    exact ⟨a,valV_nth (by rw [h3'];exact inr_nodup nd) e1,e2⟩
end
noncomputable def pick(w:Nat)(i:Nat)(t:Th):Int:=if w=0 then i else if w=1 then t.2.1 else t.2.2
noncomputable def sp_has(K:PySem.W.Frag)(C:Addr):Sp:=fun vs H Q _=>∃(p:Addr) (ts:List Th) (z:Str),vs=[.ref p,.str z]∧StockAt K C H p ts∧Q (.bl (decide (z∈ts.map (·.1)))) H
noncomputable def sp_nms(K:PySem.W.Frag)(C:Addr):Sp:=fun vs H Q _=>∃(p:Addr) (ts:List Th),vs=[.ref p]∧StockAt K C H p ts∧∀l,H l=none→Q (.ref l) (upd H l (.lst ((ts.map (·.1)).map V.str)))
theorem mem_nth{ts:List Th}{z:Str}(h:z∈ts.map (·.1)):∃(i:Nat) (t:Th),ts[i]?=some t∧t.1=z:=by
  obtain ⟨t,ht,e⟩:=List.mem_map.mp h
  obtain ⟨i,hi⟩:=List.mem_iff_getElem?.mp ht
  exact ⟨i,t,hi,e⟩
end N4
set_option linter.all false
set_option maxHeartbeats 1000000
namespace N4
open PySem PySem.Spec PyProof.Rows L2 N1 N5
structure RowsAt(K:PySem.W.Frag)(H:Hp)(r:Addr)(as:List Addr)(ts:List Th):Prop where
  l:SqL K H r (as.map V.ref)
  n:as.length=ts.length
  m:ts.length≤60
  at_:∀(i:Nat) (a:Addr) (t:Th),as[i]?=some a→ts[i]?=some t→SqT K H a [.str t.1,.int t.2.1,.int t.2.2]
  ok:∀t∈ts,nameB t.1.cps.toList=true∧0≤t.2.1∧t.2.1≤10 ^ 30∧1≤t.2.2∧t.2.2≤1000
  nd:(ts.map (·.1)).Nodup
noncomputable def rwOf(a:Addr)(t:Th):Rw:=(a,.str t.1,.int t.2.1,.int t.2.2)
theorem RowsAt.init{K:PySem.W.Frag}{H:Hp}{r:Addr}{as:List Addr}{ts:List Th}(h:RowsAt K H r as ts):∃rs:List Rw,rs.map (fun t=>V.ref t.1)=as.map V.ref∧(∀t∈rs,SqT K H t.1 [t.2.1,t.2.2.1,t.2.2.2])∧initR rs=none∧rs.map thOf=ts:=by
  have hn:=h.n
  have gt:∀(i:Nat) (x:Addr×Th),(as.zip ts)[i]?=some x→as[i]?=some x.1∧ts[i]?=some x.2:=fun i x e=>by
    rw [List.getElem?_zip_eq_some]at e;exact e
  have e1:((as.zip ts).map fun x=>rwOf x.1 x.2).map thOf=ts:=by
    rw [List.map_map]
    have:(thOf∘fun x:Addr×Th=>rwOf x.1 x.2)=Prod.snd:=by funext x;rfl
    rw [this,List.map_snd_zip (by omega)]
  refine ⟨(as.zip ts).map fun x=>rwOf x.1 x.2,?_,?_,?_,e1⟩
  · rw [List.map_map]
    have:((fun t:Rw=>V.ref t.1)∘fun x:Addr×Th=>rwOf x.1 x.2)=V.ref∘Prod.fst:=by funext x;rfl
    rw [this,← List.map_map,List.map_fst_zip (by omega)]
  · intro t ht
    obtain ⟨x,hx,rfl⟩:=List.mem_map.mp ht
    obtain ⟨i,hi⟩:=List.mem_iff_getElem?.mp hx
    obtain ⟨h1,h2⟩:=gt i x hi
    exact h.at_ i x.1 x.2 h1 h2
  · unfold initR
    rw [if_neg (by rw [List.length_map,List.length_zip];have:=h.m;omega)]
    refine stockR_ok _ _ (fun t ht=>?_) ?_
    · obtain ⟨x,hx,rfl⟩:=List.mem_map.mp ht
      obtain ⟨i,hi⟩:=List.mem_iff_getElem?.mp hx
      obtain ⟨h1,h2⟩:=gt i x hi
      obtain ⟨o1,o2,o3,o4,o5⟩:=h.ok x.2 (List.mem_of_getElem? h2)
      exact ⟨x.2.1,x.2.2.1,x.2.2.2,rfl,rfl,rfl,o1,o2,o3,o4,o5⟩
    · rw [List.nil_append,List.map_map]
      have:((fun t:Rw=>sOf t.2.1)∘fun x:Addr×Th=>rwOf x.1 x.2)=(fun t:Th=>t.1)∘Prod.snd:=by funext x;rfl
      rw [this,← List.map_map,List.map_snd_zip (by omega)]
      exact h.nd
end N4
set_option linter.all false
set_option maxHeartbeats 1000000
namespace L2
open PySem PySem.Spec PyProof.Rows PySem.W
noncomputable def rSumL(K:PySem.W.Frag):List V→Hp→VK→Prop:=fun xs H Q=>∃(p:Addr) (is:List Int),xs=[.ref p]∧SqL K H p (is.map V.int)∧Q (.int is.sum) H
theorem preSum_is(is:List Int):preSum (fun i=>is.getD i 0) is.length=is.sum:=by
  have key:∀n,n≤is.length→preSum (fun i=>is.getD i 0) n=(is.take n).sum:=by
    intro n
    induction n with
    | zero=>intro _;rfl
    | succ n ih=>
      intro h
      have e:is.take (n+1)=is.take n++[is.getD n 0]:=by
        rw [List.take_add_one,List.getD_eq_getElem?_getD,List.getElem?_eq_getElem (by omega)]
        rfl
      rw [preSum,ih (by omega),e,List.sum_append]
      simp
  have:=key is.length (Nat.le_refl _)
  rwa [List.take_length]at this
section
variable {X:Cx}
theorem call_sumL(hc:X.calm=true):CallR X (.builtin "sum") (rSumL X.K):=by
  intro pins s σ H xs us Q I r h
  obtain ⟨p,is,rfl,hp,q⟩:=h
  obtain ⟨u,rfl,ru⟩:=vals1 r
  cases ru
  obtain ⟨its,r,pl,hz⟩:=I.list hp
  have hlt:p < s.heap.objs.size:=by obtain ⟨o,n,e,_⟩:=pl;exact Heap.lt_size e
  have hlen:=r.length
  rw [List.length_map]at hlen
  refine call_sum_walkAnyS (wpAny_pyIter_list pl.isList ⟨s.heap.objs.size,_,_,_,_,_,_,fun i=>is.getD i 0,rfl,(Walks.list (show X.A.in1.handled=none from I.ok.hd hc) s.heap.objs.size p (Nat.ne_of_lt hlt) its.toArray).toS,⟨⟨_,Heap.get?_push_size _ rfl,rfl,rfl⟩,pl.isList.push _⟩,fun b hb=>?_,fun i v hP=>?_,fun s' t' hmv=>?_⟩)
  · show b < (s.heap.push _).objs.size
    rw [Heap.size_push]
    rcases List.mem_cons.mp hb with e | hb
    · rw [e];exact Nat.lt_succ_self _
    · rw [List.mem_singleton.mp hb];exact Nat.lt_succ_of_lt hlt
  · have hP:its.toArray[i]?=some v:=hP
    have hi:i < is.length:=by
      have:=(Array.getElem?_eq_some_iff.mp hP).1
      rw [List.size_toArray]at this
      omega
    obtain ⟨u,hu,ru⟩:=r.get (i:=i) (x:=V.int (is[i])) (by simp [hi])
    have e:u=v:=by
      have:its[i]?=some v:=by simpa using hP
      rw [hu]at this;exact Option.some.inj this
    subst e
    show ∃t,u=Value.int (is.getD i 0) t
    rw [List.getD_eq_getElem?_getD,List.getElem?_eq_getElem hi]
    exact ru
  · have hk:∀b o,s.heap.get? b=some o→s'.heap.get? b=some o:=fun b o e=>
      hmv.heap b o (fun hI=>absurd (Heap.lt_size e) (by rw [List.mem_singleton.mp hI];exact Nat.lt_irrefl _)) (Heap.get?_push_of_some _ e)
    rw [Moved.eq_with hmv]
    refine ⟨.int is.sum,H,I.kept (t':=s'.toks) hk,⟨t',?_⟩,q⟩
    rw [List.size_toArray,← hlen,preSum_is]
end
section
variable {σ:St} {H:Hp} {Q:VK} {D:Ends} {K:PySem.W.Frag} {xs:List V} {x y:V}
theorem rd_sumL:rSumL K xs H Q=∃(p:Addr) (is:List Int),xs=[.ref p]∧SqL K H p (is.map V.int)∧Q (.int is.sum) H:=rfl
theorem rd_ipI{f:Int→Int→Int}:ipI f x y H Q=∃i j,x= .int i∧y= .int j∧Q (.int (f i j)) H:=rfl
end
section
open PySem.W
variable {K:Frag} {C D:Addr} {cd:ClassData}
theorem kit_own{b:Bool}(self:subIn K (.ref C) (.ref C)=some true)(cl:clsIn K D=some cd)(ty:typeIn K (.ref D)=some (.type "type"))(s:subIn K (.ref C) (.ref D)=some b):kitOne K (.ref C) (.ref D)=some b:=by
  by_cases e:C=D
  · subst e
    rw [self]at s
    cases s
    unfold kitOne
    rw [if_pos (by simp)]
  · unfold kitOne kitCls
    rw [if_neg (by simp [e])]
    dsimp only
    rw [cl,ty]
    exact s
end
end L2
namespace N31
open PySem PySem.Spec PyProof.Rows L2 N1 N5
noncomputable def fldN(l:Addr):List (Str×V):=putF "numbers" (.ref l) []
structure SumsAt(C:Addr)(H:Hp)(p l:Addr)(is:List Int):Prop where
  o:∃dx,H p=some (.ins C dx (fldN l))
  l:H l=some (.lst (is.map V.int))
end N31
set_option Elab.async false
set_option linter.all false
set_option maxRecDepth 100000
set_option maxHeartbeats 4000000
namespace L2
open PySem PySem.Spec PyProof.Rows
theorem Inv.turned2{X:Cx}{pins:List (Addr×Obj)}{σ:St}{H:Hp}{s:Shared}{h':Heap}{t':Nat}{fp:List Addr}(I:Inv X pins σ H s)(k:∀b o,b∉fp→s.heap.get? b=some o→h'.get? b=some o)(hf:∀it∈fp,FpOk X pins H it):
    Inv X pins σ H {s with heap:=h',toks:=t'}:=by
  have nit:∀b u,H b=some u→b∉fp:=fun b u e z=>by rw [(hf b z).1]at e;cases e
  refine I.step (g':=s.gens) (d':=s.drawn) (ch:=fp) (fun b hb=>?_) (fun b o _ _ hc e _=>k b o hc e) (fun b o _ _ hc e _=>⟨o.slots,k b o hc e⟩) (fun _ _ _ _ n=>n)
    (fun b o hc e=>⟨o,k b o hc e⟩) (fun _ _ e=>e) (fun _ _ _ e=>e) (fun b ps e=>⟨#[],by rw [e];simp⟩) (fun m hm=>?_) (fun b u e=>?_) I.bare
  · obtain ⟨_,h1,_,h2,h3,h4⟩:=hf b hb
    exact ⟨h2,h1,h3,h4⟩
  · obtain ⟨o,es,ep,ho,r⟩:=hm
    exact ⟨o,es,ep,k _ o (fun z=>(hf _ z).2.1 rfl) ho,r⟩
  · refine (I.hok b u e).stay (fun c v hc q=>k c v ?_ q) (fun _ q=>q) fun _ _ q=>q
    rcases hc with z | z
    · rw [z];exact nit b u e
    · exact nit c _ z
noncomputable def Ite(K:PySem.W.Frag)(a:Addr):It:=
  ⟨fun i H=>∃xs x,SqL K H a xs∧xs[i]?=some x,fun i H y H'=>∃t x,y= .ref t∧H t=none∧H'=upd H t (.tup [.int i,x])∧∀xs,SqL K H a xs→xs[i]?=some x,fun i H=>∃xs,SqL K H a xs∧xs.length≤i⟩
noncomputable def tnE(e it a:Addr)(i:Nat)(h:Heap):Prop:=(∃old,IsEnum h e it i old)∧h.IsListIter it a i
theorem turn_enum{P:Program}{w:World}{K:PySem.W.Frag}{es:List Expr}{k:Nat}{pos:Pos}(a e it:Addr)(ne:e≠it):Turn P w K (.Tuple es k pos) (Ite K a) [e,it] e (tnE e it a) where
  mem:=by simp
  obj:=fun i h st b hb=>by
    obtain ⟨⟨old,h1⟩,o,h2,c,d⟩:=st
    have hb:b=e∨b=it:=by simpa using hb
    rcases hb with rfl | rfl
    · exact ⟨_,h1,fun v z=>by cases z⟩
    · exact ⟨o,h2,fun v z=>by rw [d]at z;cases z⟩
  keep:=fun i h h' st kk=>by
    obtain ⟨⟨old,h1⟩,h2⟩:=st
    exact ⟨⟨old,kk e (by simp) _ h1⟩,h2.at fun o q=>kk it (by simp) o q⟩
  item:=by
    intro X hP hw hK hc i pins s σ H E I hf st hg
    subst hP hw hK
    obtain ⟨xs,x,hq,hx⟩:=hg
    obtain ⟨its,rv,p,hz⟩:=I.list hq
    obtain ⟨u,hu,ru⟩:=rv.get hx
    obtain ⟨⟨old,h1⟩,h2⟩:=st
    have hlt:e < s.heap.objs.size:=Heap.lt_size h1
    have hit:it < s.heap.objs.size:=by obtain ⟨o,q,_⟩:=id h2;exact Heap.lt_size q
    refine wpAny_pyNext_enum_item h1 h2 p.isList (x:=u) (by simpa using hu) ne fun h' eo it' ht hs hk=>?_
    refine ⟨_,rfl,wpAny_letOwnedTupleGo_enum (s:={s with heap:=h',toks:=s.toks+1}) eo fun h3 e3 sb=>?_⟩
    have hf0:H s.heap.objs.size=none:=I.hok.fresh (Nat.le_refl _)
    have nt:∀b∈[e,it],b≠s.heap.objs.size:=fun b hb=>by
      have hb:b=e∨b=it:=by simpa using hb
      rcases hb with rfl | rfl
      · exact Nat.ne_of_lt hlt
      · exact Nat.ne_of_lt hit
    have I0:Inv X pins σ (upd H s.heap.objs.size (.tup [.int i,x])) {s with heap:=s.heap.push {cls:= .type "tuple",data:= .seq #[.int i s.toks,u]},toks:=s.toks+1}:=
      I.laid (fun b u e=>Heap.get?_push_of_some _ e) (Nat.le_refl _) ⟨by simp [sizeLine];try decide,[.int i s.toks,u],.cons ⟨_,rfl⟩ (.cons ru .nil),⟨_,Heap.get?_push_size _ rfl,rfl,_,rfl⟩⟩
    have hfp:∀b∈[e,it],FpOk X pins (upd H s.heap.objs.size (.tup [.int i,x])) b:=fun b hb=>by
      obtain ⟨f0,f1,f2,f3,f4,f5⟩:=hf b hb
      exact ⟨by rw [upd_ne (nt b hb)];exact f0,f1,f2,f3,f4,f5⟩
    have I1:Inv X pins σ (upd H s.heap.objs.size (.tup [.int i,x])) {s with heap:=h3,toks:=s.toks+1}:=by
      refine Inv.turned2 (s:={s with heap:=s.heap.push {cls:= .type "tuple",data:= .seq #[.int i s.toks,u]},toks:=s.toks+1}) (t':=s.toks+1) I0 (fun b o hb q=>?_) hfp
      have hb':b≠e∧b≠it:=by simpa using hb
      refine (sb.2 b hb'.1).trans ?_
      rcases Heap.get?_push_cases q with ⟨rfl,rfl⟩ | q2
      · exact ht
      · exact hk b o hb'.1 hb'.2 q2
    refine ⟨.ref s.heap.objs.size,upd H s.heap.objs.size (.tup [.int i,x]),I1,rfl,⟨_,x,rfl,hf0,rfl,fun ys hy=>by rw [I.list_inj hy hq];exact hx⟩,⟨⟨u,?_⟩,?_⟩,fun b hb=>(hfp b hb).1⟩
    · show IsEnum h3 e it ((i+1:Nat):Int) u
      rw [show ((i+1:Nat):Int)=(i:Int)+1 from rfl]
      exact e3
    · exact it'.at fun o q=>(sb.2 it (Ne.symm ne)).trans q
  done:=by
    intro X hP hw hK hc i pins s σ H E I hf st hg
    subst hP hw hK
    obtain ⟨xs,hq,hx⟩:=hg
    obtain ⟨its,rv,p,hz⟩:=I.list hq
    obtain ⟨⟨old,h1⟩,h2⟩:=st
    have hl:=rv.length
    exact wpAny_pyNext_enum_end (I.ok.hd hc) h1 h2 p.isList (by simp;omega) fun h' eb=>⟨rfl,Inv.turned2 (t':=s.toks) I (fun b o hb q=>eb b o (fun z=>hb (by simp [z])) q) hf⟩
  self:=fun _ _ _ _ _ st h=>wpAny_pyIter_enum st.1.choose_spec h
section
variable {X:Cx}
noncomputable def iEnum(K:PySem.W.Frag)(ta:TA):TI:=fun σ H R=>ta σ H fun vs H1=>∃a,vs=[.ref a]∧(∃xs,SqL K H1 a xs)∧R (Ite K a) H1
theorem pi_enum{l:Expr}{ta:TA}{p pos pp:Pos}{es:List Expr}{k:Nat}(hg:Gl X "enumerate")(hm:X.mg "enumerate"=none)(ha:PA X [l] ta)(hs:starEach [l] X.env=[(false,eval l X.env)]:=by rfl):PI X (.Tuple es k pp) (.Call (.Name "enumerate" p) [l] [] pos) (iEnum X.K ta):=by
  intro pins s σ H R I h
  refine Call_ (ld_blt I hg hm boot_enumerate (PyProof.Rows.callWith_type1 (thn (ha pos pins s σ H _ I h) fun us s1 ⟨vs,H1,I1,r1,q1⟩=>?_) hs rfl))
  obtain ⟨a,e,⟨xs,hq⟩,q⟩:=q1
  subst e
  cases r1 with
  | cons r rr=>
    cases rr
    cases r
    obtain ⟨its,rv,p',hz⟩:=I1.list hq
    refine call_enumerate_list p'.isList fun h' h1 h2 h3 h4=>?_
    refine wpAny_pyIter_enum h1 ?_
    refine ⟨_,[s1.heap.objs.size+1,s1.heap.objs.size],_,_,H1,rfl,I1.kept (t':=s1.toks) h4,turn_enum a _ _ (Nat.succ_ne_self _),⟨⟨_,h1⟩,h2⟩,fun b hb=>?_,q⟩
    have hb:b=s1.heap.objs.size+1∨b=s1.heap.objs.size:=by simpa using hb
    rcases hb with rfl | rfl
    · exact I1.fpOk (Nat.le_succ _) (I1.hok.fresh (Nat.le_succ _))
    · exact I1.fpOk (Nat.le_refl _) (I1.hok.fresh (Nat.le_refl _))
end
section
variable {K:PySem.W.Frag} {σ:St} {H:Hp} {D:Ends}
theorem rd_ienum{ta:TA}{R:It→Hp→Prop}:iEnum K ta σ H R=ta σ H fun vs H1=>∃a,vs=[.ref a]∧(∃xs,SqL K H1 a xs)∧R (Ite K a) H1:=rfl
theorem forE_by{a:Addr}{xs:List V}{g:TG}{tb:TS}(Pv:Nat→St→Hp→Prop)(h0:Pv 0 σ H)(hl:∀i σ H,i≤xs.length→Pv i σ H→SqL K H a xs)
    (hs:∀i x σ H t,xs[i]?=some x→Pv i σ H→H t=none→g (.ref t) σ (upd H t (.tup [.int i,x])) fun σ2 H2=>tb {D with nx:=Pv (i+1),ct:=Pv (i+1),bk:=D.nx} σ2 H2) (hd:∀σ H,Pv xs.length σ H→D.nx σ H):ForTail g tb D σ (Ite K a) H:=by
  refine ⟨fun i m σ H=>i≤xs.length∧m=xs.length - i∧Pv i σ H,⟨_,Nat.zero_le _,rfl,h0⟩,fun i m σ H ⟨hi,hm,hP⟩=>?_⟩
  have hq:=hl i σ H hi hP
  cases hx:xs[i]? with
  | none=>
    have hn:xs.length≤i:=by simpa using hx
    have e:i=xs.length:=Nat.le_antisymm hi hn
    subst e
    exact .inl ⟨⟨xs,hq,Nat.le_refl _⟩,hd σ H hP⟩
  | some x=>
    have hlt:i < xs.length:=(List.getElem?_eq_some_iff.mp hx).1
    refine .inr ⟨⟨xs,x,hq,hx⟩,Pv (i+1),fun σ' H' h=>⟨xs.length - (i+1),by omega,by omega,rfl,h⟩,?_⟩
    rintro y H' ⟨t,x',rfl,ht,rfl,hy⟩
    have e:=(hy xs hq).symm.trans hx
    cases e
    exact hs i x σ H t hx hP ht
end
end L2
set_option Elab.async false
set_option linter.all false
set_option maxRecDepth 100000
set_option maxHeartbeats 4000000
namespace L2
open PySem PySem.Spec PyProof.Rows
noncomputable def Itz(K:PySem.W.Frag)(a b:Addr):It:=
  ⟨fun i H=>∃xs ys x y,SqL K H a xs∧SqL K H b ys∧xs[i]?=some x∧ys[i]?=some y,fun i H v H'=>∃t x y,v= .ref t∧H t=none∧H'=upd H t (.tup [x,y])∧(∀xs,SqL K H a xs→xs[i]?=some x)∧∀ys,SqL K H b ys→ys[i]?=some y,
    fun i H=>∃xs ys,SqL K H a xs∧SqL K H b ys∧(xs.length≤i∨ys.length≤i)⟩
section
variable {X:Cx}
noncomputable def iZip(K:PySem.W.Frag)(ta:TA):TI:=fun σ H R=>ta σ H fun vs H1=>∃a b,vs=[.ref a,.ref b]∧(∃xs,SqL K H1 a xs)∧(∃ys,SqL K H1 b ys)∧R (Itz K a b) H1
end
section
variable {K:PySem.W.Frag} {σ:St} {H:Hp} {D:Ends}
theorem rd_izip{ta:TA}{R:It→Hp→Prop}:iZip K ta σ H R=ta σ H fun vs H1=>∃a b,vs=[.ref a,.ref b]∧(∃xs,SqL K H1 a xs)∧(∃ys,SqL K H1 b ys)∧R (Itz K a b) H1:=rfl
end
end L2
set_option Elab.async false
set_option linter.all false
set_option maxRecDepth 100000
set_option maxHeartbeats 1000000
namespace N32
open PySem PySem.Spec PyProof.Rows L2 N1 N5 N31
noncomputable def lastIx(ys:List Str)(z:Str):Nat→Option Nat
  | 0=>none
  | n+1=>if ys.getD n Str.empty=z then some n else lastIx ys z n
noncomputable def ear(ys:List Str)(i:Nat):Option Nat:=lastIx ys (ys.getD i Str.empty) i
noncomputable def W(R:Str→Int)(ys:List Str)(n j:Nat):Int:=if lastIx ys (ys.getD j Str.empty) n=some j then R (ys.getD j Str.empty) else 0
noncomputable def tl(f:Nat→Int)(b n:Nat):Int:=((List.range' b (n - b)).map f).sum
noncomputable def dep(R:Str→Int)(ys:List Str)(n:Nat):Option Int:=(ear ys n).map fun b=>tl (W R ys n) b n
end N32
namespace N32
open PySem PySem.Spec PyProof.Rows L2 N1 N5 N31 N4
noncomputable def rm(ts:List Th)(z:Str):Int:=((ts.find? fun t=>decide (t.1=z)).map (·.2.2)).getD 0
theorem rm_at{ts:List Th}(nd:(ts.map (·.1)).Nodup){i:Nat}{t:Th}(h:ts[i]?=some t):rm ts t.1=t.2.2:=by
  induction ts generalizing i with
  | nil=>simp at h
  | cons u r ih=>
    rw [List.map_cons,List.nodup_cons]at nd
    cases i with
    | zero=>
      rw [List.getElem?_cons_zero]at h
      cases h
      simp [rm]
    | succ i=>
      rw [List.getElem?_cons_succ]at h
      have ne:¬u.1=t.1:=fun e=>nd.1 (by rw [e];exact List.mem_map.mpr ⟨t,List.mem_of_getElem? h,rfl⟩)
      have:=ih nd.2 h
      unfold rm at this ⊢
      rw [List.find?_cons_of_neg (by simpa using ne)]
      exact this
noncomputable def sp32_check:Sp:=fun vs H Q _=>∃(i:Int),vs=[.int i]∧1≤i∧i≤1000000∧Q .non H
noncomputable def sp32_thing(K:PySem.W.Frag)(C:Addr):Sp:=fun vs H Q _=>∃(p:Addr) (ts:List Th) (z:Str),vs=[.ref p,.str z]∧StockAt K C H p ts∧(ts.map (·.1)).Nodup∧z∈ts.map (·.1)∧∀(i:Nat) (t:Th),ts[i]?=some t→t.1=z→∀a,SqT K H a [.int i,.int t.2.1,.int t.2.2]→Q (.ref a) H
noncomputable def sp32_room(K:PySem.W.Frag)(C:Addr):Sp:=fun vs H Q _=>∃(p:Addr) (ts:List Th) (z:Str),vs=[.ref p,.str z]∧StockAt K C H p ts∧(ts.map (·.1)).Nodup∧z∈ts.map (·.1)∧Q (.int (rm ts z)) H
section
variable {K:PySem.W.Frag} {σ:L2.St} {H:Hp} {Q:VK}
theorem rd_dget1{td ty:TE}:tDGet1 td ty σ H Q=td σ H fun x H1=>∃a,x= .ref a∧IsD H1 a∧ty σ H1 fun y H2=>∃o,DGet H2 a y o∧Q (o.getD .non) H2:=rfl
theorem rd_disp1{tk tv:TE}:tDisp [(tk,tv)] σ H Q=∀p,H p=none→tk σ (upd H p (.dK [])) fun x H1=>tv σ H1 fun y H2=>H2 p=some (.dK [])∧∃kvs:List (Key×V),[(x,y)]=kvs.map (fun kv=>(kV kv.1,kv.2))∧kvs.length≤15∧Q (.ref p) (upd H2 p (.dK (mergeK [] kvs))):=rfl
end
end N32
namespace N32
open PySem PySem.Spec PyProof.Rows L2 N1 N5 N31 N4
theorem cut_anyI(ns:List Int)(lo hi:Option Int):∃cs:List Int,cutV (ns.map V.int) lo hi=cs.map V.int∧cs.length≤ns.length:=by
  unfold cutV
  rw [← List.map_drop,← List.map_take]
  refine ⟨_,rfl,?_⟩
  rw [List.length_take,List.length_drop]
  omega
end N32
namespace N32
open PySem PySem.Spec PyProof.Rows L2 N1 N5 N31 N4
noncomputable def rmK(ns:List Int)(mo:Int)(j:Nat):Int:=1+(ns.getD 2 0 / 2).fdiv ((j:Int)+1) % mo
end N32
set_option linter.all false
namespace K03
theorem exact_fdiv{n d:Int}(h:d ∣ n)(hd:d≠0):d * n.fdiv d=n:=by
  obtain ⟨q,rfl⟩:=h
  rw [Int.mul_fdiv_cancel_left _ hd]
theorem lowest{n m d:Int}(hm:m≠0)(hd:d.natAbs=Int.gcd n m)(hs:0 < d↔0 < m):
    n.fdiv d * m=n * m.fdiv d∧0 < m.fdiv d∧Int.gcd (n.fdiv d) (m.fdiv d)=1∧(n.fdiv d).natAbs≤n.natAbs∧(m.fdiv d).natAbs≤m.natAbs:=by
  have hg:0 < Int.gcd n m:=Nat.pos_of_ne_zero fun z=>hm (Int.gcd_eq_zero_iff.mp z).2
  have hd0:d≠0:=by intro z;subst z;simp at hd;omega
  have dn:d ∣ n:=by
    rw [← Int.natAbs_dvd_natAbs,hd];exact Nat.gcd_dvd_left n.natAbs m.natAbs
  have dm:d ∣ m:=by
    rw [← Int.natAbs_dvd_natAbs,hd];exact Nat.gcd_dvd_right n.natAbs m.natAbs
  have e1:=exact_fdiv dn hd0
  have e2:=exact_fdiv dm hd0
  generalize n.fdiv d=t at *
  generalize m.fdiv d=b at *
  have hb0:b≠0:=by rintro rfl;simp at e2;exact hm e2.symm
  refine ⟨?_,?_,?_,?_,?_⟩
  · rw [← e1,← e2];simp only [Int.mul_assoc,Int.mul_comm,Int.mul_left_comm]
  · by_cases hp:0 < d
    · have:0 < m:=hs.mp hp
      rw [← e2]at this
      rw [Int.mul_comm]at this;exact Int.pos_of_mul_pos_left this hp
    · have hn:¬0 < m:=fun z=>hp (hs.mpr z)
      have hd1:d < 0:=by omega
      rw [← e2]at hn
      refine Decidable.byContradiction fun hb=>?_
      have hb1:b < 0:=by omega
      exact hn (Int.mul_pos_of_neg_of_neg hd1 hb1)
  · have:Int.gcd n m=d.natAbs * Int.gcd t b:=by rw [← e1,← e2,Int.gcd_mul_left]
    rw [← hd]at this
    have hp:0 < d.natAbs:=by omega
    have h2:d.natAbs * Int.gcd t b=d.natAbs * 1:=by omega
    exact Nat.eq_of_mul_eq_mul_left hp h2
  · rw [← e1,Int.natAbs_mul];exact Nat.le_mul_of_pos_left _ (by omega)
  · rw [← e2,Int.natAbs_mul];exact Nat.le_mul_of_pos_left _ (by omega)
end K03
set_option Elab.async false
set_option linter.all false
set_option maxRecDepth 100000
set_option maxHeartbeats 1000000
open PySem PySem.Spec PyProof.Rows L2 N1 N5 N31 N4 N32
namespace N41
noncomputable def seg(T:List Int)(a b:Nat):Int:=((T.take b).drop a).sum
noncomputable def leastAt(c r:Str→Int)(T:List Int)(S:Int)(ys:List Str)(n:Nat):Int:=
  match ear ys n with
  | none=>c (ys.getD n Str.empty) * S
  | some e=>min (c (ys.getD n Str.empty) * S) (r (ys.getD n Str.empty) * seg T (e+1) n)
noncomputable def fl(c r:Str→Int)(T:List Int)(S P:Int)(ys:List Str):Nat→Int
  | 0=>0
  | n+1=>fl c r T S P ys n+(leastAt c r T S ys n - T.getD n 0 * (P - r (ys.getD n Str.empty)))
noncomputable def sm(f:Str→Int)(L:List Str):Int:=(L.map f).sum
noncomputable def cr(r:Str→Int)(T:List Int)(ys:List Str)(n:Nat)(y:Str):Int:=
  match lastIx ys y n with
  | none=>0
  | some j=>r y * seg T (j+1) n
structure Pays(c r:Str→Int)(T:List Int)(S P:Int)(ys:List Str)(n:Nat)(L:List Str)(paid:Int):Prop where
  nd:L.Nodup
  fit:sm r L≤P
  asked:∀y∈L,(lastIx ys y n).isSome=true
  le:fl c r T S P ys n+sm (cr r T ys n) L≤paid * S
section
variable {c r:Str→Int} {T:List Int} {S P:Int} {ys:List Str} {n:Nat} {L M:List Str} {paid:Int}
end
end N41
namespace N41
noncomputable def cst(ts:List Th)(z:Str):Int:=((ts.find? fun t=>decide (t.1=z)).map (·.2.1)).getD 0
structure PrAt(K:PySem.W.Frag)(H:Hp)(p:Addr)(ps:List (Int×Int)):Prop where
  ex:∃as:List Addr,SqL K H p (as.map V.ref)∧as.length=ps.length∧∀(i:Nat) (a:Addr) (q:Int×Int),as[i]?=some a→ps[i]?=some q→SqT K H a [.int q.1,.int q.2]
noncomputable def sp41_div:Sp:=fun vs H Q _=>∃(i j:Int),vs=[.int i,.int j]∧Q (.int (Int.gcd i j)) H
noncomputable def sp41_asks(K:PySem.W.Frag)(C:Addr):Sp:=fun vs H Q _=>∃(p a:Addr) (pl:Int) (ts:List Th) (ys:List Str),vs=[.ref p,.ref a,.int pl]∧StockAt K C H p ts∧(ts.map (·.1)).Nodup∧SqL K H a (ys.map V.str)∧ys.length≤200∧(∀y∈ys,y∈ts.map (·.1))∧(∀y∈ys,rm ts y≤pl)∧1≤pl∧pl≤1000000∧∀H',Same H H'→Q (.bl true) H'
noncomputable def sp41_cost(K:PySem.W.Frag)(C:Addr):Sp:=fun vs H Q _=>∃(p:Addr) (ts:List Th) (z:Str),vs=[.ref p,.str z]∧StockAt K C H p ts∧(ts.map (·.1)).Nodup∧z∈ts.map (·.1)∧Q (.int (cst ts z)) H
end N41
set_option Elab.async false
set_option linter.all false
set_option maxRecDepth 100000
set_option maxHeartbeats 4000000
namespace L2
open PySem PySem.Spec PyProof.Rows
noncomputable abbrev tComp1I(wi:TI)(fs:List Nat)(tt:Blk→TT)(te:Blk→TE):TE:=tComp wi 1 fs (fun _=>gName 0) tt te
noncomputable abbrev g2(K:PySem.W.Frag):Blk→TG:=fun _=>gTup K 2 (gCons (gName 0) (gCons (gName 1) gNil))
noncomputable abbrev tComp2(K:PySem.W.Frag)(wi:TI)(fs:List Nat)(tt:Blk→TT)(te:Blk→TE):TE:=tComp wi 2 fs (g2 K) tt te
section
variable {X:Cx} {scope:Scope} {x y:Str} {px py pt:Pos} {n:Nat} {fs:List Nat} {elt iter c:Expr} {pos:Pos} {wi:TI} {tt:Blk→TT} {te:Blk→TE}
end
section
variable {K:PySem.W.Frag} {tail:St} {tt:Blk→TT} {te:Blk→TE} {Q:VK} {H1:Hp} {σ:St} {H:Hp}
theorem rd_compI{wi:TI}{fs:List Nat}:tComp1I wi fs tt te σ H Q=wi σ H (CompTail (none::fs.map fun j=>σ.getD j none) (fun _=>gName 0) tt te Q):=rfl
theorem rd_comp2{wi:TI}{fs:List Nat}:tComp2 K wi fs tt te σ H Q=wi σ H (CompTail (none::none::fs.map fun j=>σ.getD j none) (g2 K) tt te Q):=rfl
theorem same_put{H H':Hp}{p:Addr}{o:HO}(s:Same H H')(h:H p=none):Same H (upd H' p o):=fun b u e=>by
  rw [upd_ne (ne_of_none e h)];exact s b u e
end
end L2
namespace L2
open PySem PySem.Spec PyProof.Rows
section
variable {X:Cx}
end
end L2
namespace L2
open PySem PySem.Spec PyProof.Rows
section
variable {X:Cx} {scope:Scope} {x y v:Str} {px py pt pv':Pos} {n i:Nat} {fs:List Nat} {elt iter c:Expr} {pos spos:Pos} {wi:TI} {tt:Blk→TT} {te:Blk→TE}
theorem ps_compI(x:Str)(fs:List Nat)(hN:X.N.Nodup)(hy:X.N[i]?=some v)(hyl:X.env.kindOf v=some .local)(hc:X.calm=true)(hok:compOkB X.N X.env.scope scope [x] fs=true)(hi:PI X (.Name x px) iter wi)(ht:∀b,PT (X.blk scope ([x]++around X.N fs) b) c (tt b))(he:∀b,PE (X.blk scope ([x]++around X.N fs) b) elt (te b))
    (hsw:swapsWith (.ListComp elt [⟨.Name x px,iter,[c],0⟩] scope pos) (some (.Name v pv')) spos.line X.env=pure true:=by rfl)
    (hs:∀x,foldedSetIterable iter X.env x=pure x:=by intro _;rfl):PS X (.Assign [.Name v pv'] (.ListComp elt [⟨.Name x px,iter,[c],0⟩] scope pos) spos) (tAsg (tComp1I wi fs tt te) (gName i)):=
  ps_comp (xs:=[x]) (g:=fun _=>gName 0) (tt:=tt) hN hy hyl hc hok hi (pg_own hok) (fun b=>pts_one (ht b)) he hsw hs
end
end L2
set_option linter.all false
set_option maxHeartbeats 1000000
namespace L2
open PySem PySem.Spec PyProof.Rows PySem.W
noncomputable def rMaxL(K:PySem.W.Frag):List V→Hp→VK→Prop:=fun xs H Q=>∃(p:Addr) (is:List Int),xs=[.ref p]∧SqL K H p (is.map V.int)∧is≠[]∧∀v∈is,(∀x∈is,x≤v)→Q (.int v) H
theorem best_gt(val:Nat→Int):∀k,argBest (fun i j=>decide (val i > val j)) k≤k∧∀j,j≤k→val j≤val (argBest (fun i j=>decide (val i > val j)) k):=by
  intro k
  induction k with
  | zero=>exact ⟨Nat.le_refl _,fun j hj=>by rw [Nat.le_zero.mp hj];exact Int.le_refl _⟩
  | succ k ih=>
    unfold argBest
    split
    · rename_i h
      have h:=of_decide_eq_true h
      refine ⟨Nat.le_refl _,fun j hj=>?_⟩
      by_cases e:j=k+1
      · rw [e];exact Int.le_refl _
      · have:=ih.2 j (by omega);omega
    · rename_i h
      have h:¬(val (k+1) > _):=fun z=>h (decide_eq_true z)
      refine ⟨Nat.le_succ_of_le ih.1,fun j hj=>?_⟩
      by_cases e:j=k+1
      · rw [e];omega
      · exact ih.2 j (by omega)
theorem best_lt(val:Nat→Int):∀k,argBest (fun i j=>decide (val i < val j)) k≤k∧∀j,j≤k→val (argBest (fun i j=>decide (val i < val j)) k)≤val j:=by
  intro k
  induction k with
  | zero=>exact ⟨Nat.le_refl _,fun j hj=>by rw [Nat.le_zero.mp hj];exact Int.le_refl _⟩
  | succ k ih=>
    unfold argBest
    split
    · rename_i h
      have h:=of_decide_eq_true h
      refine ⟨Nat.le_refl _,fun j hj=>?_⟩
      by_cases e:j=k+1
      · rw [e];exact Int.le_refl _
      · have:=ih.2 j (by omega);omega
    · rename_i h
      have h:¬(val (k+1) < _):=fun z=>h (decide_eq_true z)
      refine ⟨Nat.le_succ_of_le ih.1,fun j hj=>?_⟩
      by_cases e:j=k+1
      · rw [e];omega
      · exact ih.2 j (by omega)
section
variable {X:Cx}
theorem ints_at{is:List Int}{its:List Value}(r:Vals (is.map V.int) its){i:Nat}{v:Value}(hP:its.toArray[i]?=some v):i < is.length∧∃t,v=Value.int (is.getD i 0) t:=by
  have hlen:=r.length
  rw [List.length_map]at hlen
  have hi:i < is.length:=by
    have:=(Array.getElem?_eq_some_iff.mp hP).1
    rw [List.size_toArray]at this
    omega
  obtain ⟨u,hu,ru⟩:=r.get (i:=i) (x:=V.int (is[i])) (by simp [hi])
  have e:u=v:=by
    have:its[i]?=some v:=by simpa using hP
    rw [hu]at this;exact Option.some.inj this
  subst e
  refine ⟨hi,?_⟩
  rw [List.getD_eq_getElem?_getD,List.getElem?_eq_getElem hi]
  exact ru
theorem call_maxL(hc:X.calm=true):CallR X (.builtin "max") (rMaxL X.K):=by
  intro pins s σ H xs us Q I r h
  obtain ⟨p,is,rfl,hp,hne,q⟩:=h
  obtain ⟨u,rfl,ru⟩:=vals1 r
  cases ru
  obtain ⟨its,r,pl,hz⟩:=I.list hp
  have hlt:p < s.heap.objs.size:=by obtain ⟨o,n,e,_⟩:=pl;exact Heap.lt_size e
  have hlen:=r.length
  rw [List.length_map]at hlen
  have hpos:0 < is.length:=List.length_pos_iff.mpr hne
  have hb:=best_gt (fun i=>is.getD i 0) (is.length - 1)
  refine call_max_walkS (wpAny_pyIter_list pl.isList ⟨s.heap.objs.size,_,_,_,_,_,_,fun i j=>decide (is.getD i 0 > is.getD j 0),rfl,(Walks.list (show X.A.in1.handled=none from I.ok.hd hc) s.heap.objs.size p (Nat.ne_of_lt hlt) its.toArray).toS,⟨⟨_,Heap.get?_push_size _ rfl,rfl,rfl⟩,pl.isList.push _⟩,fun b hb=>?_,by rw [List.size_toArray];omega,CmpOf.ints_gt (fun i=>is.getD i 0) (fun i v hP=>(ints_at r hP).2),fun v s' hP hmv=>?_⟩)
  · show b < (s.heap.push _).objs.size
    rw [Heap.size_push]
    rcases List.mem_cons.mp hb with e | hb
    · rw [e];exact Nat.lt_succ_self _
    · rw [List.mem_singleton.mp hb];exact Nat.lt_succ_of_lt hlt
  · have hk:∀b o,s.heap.get? b=some o→s'.heap.get? b=some o:=fun b o e=>
      hmv.heap b o (fun hI=>absurd (Heap.lt_size e) (by rw [List.mem_singleton.mp hI];exact Nat.lt_irrefl _)) (Heap.get?_push_of_some _ e)
    rw [Moved.eq_with hmv]
    rw [List.size_toArray,← hlen]at hP
    obtain ⟨hi,t,rfl⟩:=ints_at r hP
    refine ⟨V.int _,H,I.kept (t':=s'.toks) hk,⟨t,rfl⟩,q _ ?_ fun x hx=>?_⟩
    · rw [List.getD_eq_getElem?_getD,List.getElem?_eq_getElem hi];exact List.getElem_mem hi
    · obtain ⟨j,hj⟩:=List.mem_iff_getElem?.mp hx
      have hjl:=(List.getElem?_eq_some_iff.mp hj).1
      have:=hb.2 j (by omega)
      rw [show is.getD j 0=x by rw [List.getD_eq_getElem?_getD,hj];rfl]at this
      exact this
end
section
variable {K:PySem.W.Frag} {H:Hp} {Q:VK} {xs:List V}
theorem rd_maxL:rMaxL K xs H Q=∃(p:Addr) (is:List Int),xs=[.ref p]∧SqL K H p (is.map V.int)∧is≠[]∧∀v∈is,(∀x∈is,x≤v)→Q (.int v) H:=rfl
end
section
variable {X:Cx}
noncomputable def rEqD:R2:=fun x y H Q=>∃(a b:Addr) (kvs:List (Key×V)),x= .ref a∧y= .ref b∧H a=some (.dK kvs)∧H b=some (.dK [])∧Q (.bl (decide (kvs.length=0))) H
theorem op_eqD{k:Nat}(hr:Room k X.A):OpR X (compareOp .Eq) rEqD:=by
  intro pins s σ H x y v u Q I rx ry h
  obtain ⟨a,b,kvs,rfl,rfl,h1,h2,q⟩:=h
  cases rx
  cases ry
  obtain ⟨z1,l1,vs,r1,d1⟩:=I.hok a _ h1
  obtain ⟨z2,l2,ws,r2,d2⟩:=I.hok b _ h2
  have e1:=r1.length
  have e2:([]:List (Key×V)).length=ws.length:=r2.length
  have hu:X.A.units < cLine:=Nat.lt_of_le_of_lt (by omega) hr.un
  refine PySem.W.keq_eq (r:=true) l1 l2 d1 d2 hu (fun e=>?_) ?_
  · have:vs=[]:=List.length_eq_zero_iff.mp (by rw [e,← e2];rfl)
    subst this
    exact .nil
  · refine ⟨.bl (decide (kvs.length=0)),H,I,?_,q⟩
    show Value.bool _=Value.bool _
    rw [← e2,Bool.and_true,← e1]
    rfl
end
end L2
set_option Elab.async false
set_option linter.all false
set_option maxRecDepth 100000
set_option maxHeartbeats 4000000
namespace L2
open PySem PySem.Spec PyProof.Rows
noncomputable def itemsO(v d:Addr):HO:= .ext fun h=>h.IsItemsView v d
noncomputable def Iti(o:Obj)(d:Addr):It:=
  ⟨fun i H=>∃kvs p,H d=some (.frz o (.dK kvs))∧kvs[i]?=some p,fun i H v H'=>∃t k x,v= .ref t∧H t=none∧H'=upd H t (.tup [kV k,x])∧∀kvs,H d=some (.frz o (.dK kvs))→kvs[i]?=some (k,x),
    fun i H=>∃kvs,H d=some (.frz o (.dK kvs))∧kvs.length≤i⟩
section
variable {X:Cx}
noncomputable def rItems:V→List V→Hp→VK→Prop:=fun x vs H Q=>∃a kvs,x= .ref a∧vs=[]∧H a=some (.dK kvs)∧∀v,H v=none→Q (.ref v) (upd H v (itemsO v a))
noncomputable def iView(tv:TE):TI:=fun σ H R=>tv σ H fun x H1=>∃v d kvs,x= .ref v∧H1 v=some (itemsO v d)∧H1 d=some (.dK kvs)∧∀o,R (Iti o d) (upd H1 d (.frz o (.dK kvs)))
end
section
variable {K:PySem.W.Frag} {tail:St} {te:Blk→TE} {Q:VK} {H1:Hp} {σ:St} {H:Hp}
theorem rd_items{x:V}{vs:List V}:rItems x vs H Q=∃a kvs,x= .ref a∧vs=[]∧H a=some (.dK kvs)∧∀v,H v=none→Q (.ref v) (upd H v (itemsO v a)):=rfl
theorem rd_iview{tv:TE}{R:It→Hp→Prop}:iView tv σ H R=tv σ H fun x H1=>∃v d kvs,x= .ref v∧H1 v=some (itemsO v d)∧H1 d=some (.dK kvs)∧∀o,R (Iti o d) (upd H1 d (.frz o (.dK kvs))):=rfl
end
end L2
set_option Elab.async false
set_option linter.all false
set_option maxRecDepth 100000
set_option maxHeartbeats 1000000
namespace L2
open PySem PySem.Spec PyProof.Rows
theorem rd_augN{σ:St}{H:Hp}{D:Ends}{i:Nat}{te:TE}{ti:TIp}:tAug i te ti D σ H=∃x,σ[i]?=some (some x)∧te σ H fun y H1=>ti x y H1 fun z H2=>D.nx (σ.set i (some z)) H2:=rfl
end L2
namespace N41
open PySem PySem.Spec PyProof.Rows L2 N1 N5 N31 N4 N32
noncomputable def nmR(c:Int)(k:Nat):List Nat:=List.replicate (1+k % 8) (bc ((c+(k:Int) / 8) % 26))
theorem nmR_name{c:Int}{k:Nat}:nameB (nmR c k)=true:=by
  have hb:bc ((c+(k:Int) / 8) % 26)∈letters:=bc_let
  unfold nmR
  generalize bc ((c+(k:Int) / 8) % 26)=x at hb ⊢
  have hl:1+k % 8≤8:=by omega
  obtain ⟨n,hn⟩:∃n,1+k % 8=n+1:=⟨k % 8,by omega⟩
  rw [hn]at hl ⊢
  unfold nameB
  have e1:(List.replicate (n+1) x).length=n+1:=List.length_replicate ..
  simp only [Bool.and_eq_true,decide_eq_true_eq,e1]
  refine ⟨⟨⟨by omega,by omega⟩,?_⟩,?_⟩
  all_goals first | (rw [List.replicate_succ];unfold headIn;simp [hb];done) | (rw [List.all_eq_true];intro y hy;rw [(List.mem_replicate.mp hy).2];simp [hb];done) | (simp [List.replicate_succ,hb];done) | simp_all
theorem nmR_inj{c:Int}{k k':Nat}(hk:k < 16)(hk':k' < 16)(h:nmR c k=nmR c k'):k=k':=by
  have h1:=congrArg List.length h
  unfold nmR at h1 h
  rw [List.length_replicate,List.length_replicate]at h1
  have h2:bc ((c+(k:Int) / 8) % 26)=bc ((c+(k':Int) / 8) % 26):=by
    rw [← h1,show 1+k % 8=(k % 8)+1 by omega,List.replicate_succ,List.replicate_succ]at h
    exact (List.cons.inj h).1
  have h3:=bc_inj (Int.emod_nonneg _ (by decide)) (Int.lt_of_lt_of_le (Int.emod_lt_of_pos _ (by decide)) (by decide)) (Int.emod_nonneg _ (by decide)) (Int.lt_of_lt_of_le (Int.emod_lt_of_pos _ (by decide)) (by decide)) h2
  omega
noncomputable def nmB(w:Bool)(c:Int)(at':Int)(L:Nat)(k:Nat):List Nat:=if w then nmL (fun j:Nat=>c+5 * (j:Int)) at' L k else nmR c k
noncomputable def nmsB(w:Bool)(c:Int)(at':Int)(L m:Nat):List Str:=(List.range m).map fun k=>tx (nmB w c at' L k)
theorem nmsB_nodup{w:Bool}{c at':Int}{L m:Nat}(h0:0≤at')(h1:at' < L)(hm:m≤16):(nmsB w c at' L m).Nodup:=by
  unfold nmsB List.Nodup
  rw [List.pairwise_map]
  refine List.Pairwise.imp_of_mem (R:=fun a b=>a≠b) ?_ List.nodup_range
  intro a b ha hb hab e
  have ha':=List.mem_range.mp ha
  have hb':=List.mem_range.mp hb
  have e':=T_inj e
  unfold nmB at e'
  cases w with
  | true=>exact hab (nmL_inj h0 h1 (by omega) (by omega) e')
  | false=>exact hab (nmR_inj (by omega) (by omega) e')
theorem nmsB_name{w:Bool}{c at':Int}{L m:Nat}(h1:1≤L)(h2:L≤8):∀y∈nmsB w c at' L m,nameB y.cps.toList=true:=fun y hy=>by
  unfold nmsB at hy
  obtain ⟨k,_,rfl⟩:=List.mem_map.mp hy
  rw [T_list]
  unfold nmB
  cases w with
  | true=>exact nmL_name h1 h2
  | false=>exact nmR_name
noncomputable def sp41_names:Sp:=fun vs H Q _=>∃(i:Int) (m:Nat),vs=[.int i,.int m]∧m≤9∧∀(p:Addr) (ys:List Str) (H':Hp),H p=none→Same H H'→H' p=some (.lst (ys.map V.str))→ys.length≤m→m≤ys.length→ys.Nodup→(∀y∈ys,nameB y.cps.toList=true)→Q (.ref p) H'
noncomputable def sp41_mixed:Sp:=fun vs H Q _=>∃(c k:Int),vs=[.int c,.int k]∧∀v:Int,0≤v→v < 2147483629→Q (.int v) H
noncomputable def sp41_lroom:Sp:=fun vs H Q _=>∃(c k:Int),vs=[.int c,.int k]∧∀v:Int,1≤v→v≤1000→Q (.int v) H
noncomputable def sp41_lplaces:Sp:=fun vs H Q _=>∃(c w t:Int),vs=[.int c,.int w,.int t]∧1≤w∧w≤1000∧0≤t∧t≤100000∧∀v:Int,w≤v→v≤1000000→Q (.int v) H
theorem fold_rep{x:Nat}:∀(n:Nat) (acc:Array Nat),(List.replicate n #[x]).foldl (· ++·) acc=acc++(List.replicate n x).toArray:=by
  intro n
  induction n with
  | zero=>intro acc;simp
  | succ n ih=>
    intro acc
    rw [List.replicate_succ,List.foldl_cons,ih,List.replicate_succ]
    apply Array.toList_inj.mp
    simp
theorem mul_rep{x:Nat}{n:Int}(h:1≤n):Txt.mul ⟨#[x]⟩ n=tx (List.replicate n.toNat x):=by
  unfold Txt.mul
  rw [if_neg (by omega)]
  by_cases e:n=1
  · subst e;rfl
  · rw [if_neg (by rw [len_one];simp [e])]
    show (⟨_⟩:Str)=⟨_⟩
    congr 1
    rw [fold_rep]
    simp
theorem mul_okR{x:Nat}{n:Int}(h0:0≤n)(h:n≤8):MulOk ⟨#[x]⟩ n:=by
  have hc:n=0∨n=1∨n=2∨n=3∨n=4∨n=5∨n=6∨n=7∨n=8:=by omega
  unfold MulOk
  rw [len_one]
  rcases hc with rfl | rfl | rfl | rfl | rfl | rfl | rfl | rfl | rfl <;> exact ⟨by decide,by decide,by decide+kernel⟩
theorem nmL_s{F:Nat→Int}{at':Int}{j k:Nat}:nmL F at' (j+1) k=nmL F at' j k++[sgn F at' k j]:=by unfold nmL;rw [List.range_succ,List.map_append];rfl
theorem nmL_l{F:Nat→Int}{at':Int}{L k:Nat}:(nmL F at' L k).length=L:=by simp [nmL]
theorem nmL_one{c at':Int}{k:Nat}:nmL (fun j:Nat=>c+5 * (j:Int)) at' 1 k=[bc ((c+(k:Int) * (if at'=0 then 1 else 0)) % 26)]:=by
  rw [nmL_s]
  show []++_=_
  unfold sgn md
  rw [List.nil_append,if_pos rfl]
  congr 3
  by_cases h:at'=0
  · rw [if_pos (by rw [h];rfl),if_pos h];simp
  · rw [if_neg (fun e=>h e.symm),if_neg h];simp
theorem nmL_more{c at':Int}{k j:Nat}:nmL (fun j:Nat=>c+5 * (j:Int)) at' (1+j+1) k=nmL (fun j:Nat=>c+5 * (j:Int)) at' (1+j) k++[bc ((c+5 * (1+(j:Int))+(k:Int) * (if 1+(j:Int)=at' then 1 else 0)) % 36)]:=by
  rw [nmL_s]
  congr 2
  unfold sgn md
  have e:((1+j:Nat):Int)=1+(j:Int):=by omega
  rw [e,if_neg (show ¬(1+j=0) by omega)]
  congr 2
  by_cases h:1+(j:Int)=at'
  · rw [if_pos h,if_pos h];simp
  · rw [if_neg h,if_neg h];simp
theorem nmsB_succ{w:Bool}{c at':Int}{L k:Nat}:nmsB w c at' L (k+1)=nmsB w c at' L k++[tx (nmB w c at' L k)]:=by
  unfold nmsB;rw [List.range_succ,List.map_append];rfl
noncomputable def ask1S(ys:List Str)(m:Nat)(c:Int):Str:=ys.getD (c % (m:Int)).toNat Str.empty
noncomputable def ask1(ys:List Str)(m:Nat):V→V
  | .int c=> .str (ask1S ys m c)
  | _=> .non
theorem ask1_list{ys:List Str}{m:Nat}{cs:List Int}:(cs.map V.int).map (ask1 ys m)=(cs.map (ask1S ys m)).map V.str:=by
  rw [List.map_map,List.map_map];rfl
structure PrI(K:PySem.W.Frag)(H:Hp)(as:List Addr)(ps:List (Int×Int)):Prop where
  n:as.length=ps.length
  it:∀(i:Nat) (a:Addr) (q:Int×Int),as[i]?=some a→ps[i]?=some q→SqT K H a [.int q.1,.int q.2]
end N41
namespace L2
open PySem PySem.Spec PyProof.Rows
end L2
set_option linter.all false
set_option maxHeartbeats 1000000
namespace N6
open PySem PySem.Spec PyProof.Rows L2 N1 N5 N4
noncomputable def sfl(p d:Addr)(n:Int):List (Str×V):=putF "rooms" (.ref d) (putF "places" (.int n) (putF "stock" (.ref p) []))
noncomputable abbrev Ly:=List (Str×Int)
noncomputable def lyK(ls:Ly):List (Key×V):=ls.map fun x=>(Sum.inr x.1,.int x.2)
noncomputable def lyN(ls:Ly):List Str:=ls.map (·.1)
noncomputable def lyS(ls:Ly):Int:=(ls.map (·.2)).sum
structure ShelfAt(S:Addr)(H:Hp)(q p d:Addr)(n:Int)(ls:Ly):Prop where
  o:∃dx,H q=some (.ins S dx (sfl p d n))
  d:H d=some (.dK (lyK ls))
  nd:(lyN ls).Nodup
structure StockX(K:PySem.W.Frag)(C:Addr)(H:Hp)(p:Addr)(ts:List Th)(d:Addr):Prop where
  ex:∃(dx e:Addr) (kvs:List (Key×V)),e≠d∧H p=some (.ins C dx (flds e))∧H e=some (.dK kvs)∧kvs.map (·.1)=ts.map (fun t=>Sum.inr t.1)∧
    ∀(i:Nat) (t:Th),ts[i]?=some t→∃a,kvs[i]?=some (Sum.inr t.1,.ref a)∧SqT K H a [.int i,.int t.2.1,.int t.2.2]
section
variable {K:PySem.W.Frag} {C S:Addr} {H H':Hp} {p q d:Addr} {ts:List Th} {n:Int} {ls:Ly} {z:Str}
noncomputable def lyD(ls:Ly)(z:Str):Ly:=ls.filter fun x=>decide (x.1≠z)
end
noncomputable def Err0(C:Addr)(H':Hp)(x:Addr):Prop:=H' x=some (exO false x C none)
noncomputable def sp_sinit(S:Addr):Sp:=fun vs H Q _=>∃(q dx p:Addr) (n:Int),vs=[.ref q,.ref p,.int n]∧H q=some (.ins S dx [])∧1≤n∧n≤1000000∧∀H' d,SameBut q H H'→H d=none→ShelfAt S H' q p d n []→Q .non H'
noncomputable def sp_lying(S:Addr):Sp:=fun vs H Q _=>∃(q p d:Addr) (n:Int) (ls:Ly),vs=[.ref q]∧ShelfAt S H q p d n ls∧∀l,H l=none→Q (.ref l) (upd H l (.lst ((lyN ls).map V.str)))
noncomputable def sp_holds(S:Addr):Sp:=fun vs H Q _=>∃(q p d:Addr) (n:Int) (ls:Ly) (z:Str),vs=[.ref q,.str z]∧ShelfAt S H q p d n ls∧Q (.bl (decide (z∈lyN ls))) H
noncomputable def sp_left(S:Addr):Sp:=fun vs H Q _=>∃(q p d:Addr) (n:Int) (ls:Ly),vs=[.ref q]∧ShelfAt S H q p d n ls∧∀H',Same H H'→Q (.int (n - lyS ls)) H'
end N6
set_option linter.all false
set_option maxHeartbeats 1000000
namespace N6
open PySem PySem.Spec PyProof.Rows L2 N1 N5 N4
theorem getD_str{ys:List Str}{i:Nat}(h:i < ys.length):ys[i]?=some (ys.getD i Str.empty):=by
  rw [List.getD_eq_getElem?_getD,List.getElem?_eq_getElem h];rfl
noncomputable def aOf:V→Addr
  | .ref a=>a
  | _=>0
noncomputable def sp_mix:Sp:=fun vs H Q _=>∃c k:Int,vs=[.int c,.int k]∧0≤k∧k≤1000∧∀v:Int,0≤v→Q (.int v) H
end N6
set_option Elab.async false
set_option linter.all false
set_option maxHeartbeats 1000000
namespace N6
open PySem PySem.Spec PyProof.Rows L2 N1 N5 N4
noncomputable def sp_thingG(K:PySem.W.Frag)(C:Addr):Sp:=fun vs H Q _=>∃(p:Addr) (ts:List Th) (z:Str),vs=[.ref p,.str z]∧StockAt K C H p ts∧(ts.map (·.1)).Nodup∧z∈ts.map (·.1)∧∀(i:Nat) (t:Th),ts[i]?=some t→t.1=z→∀a,SqT K H a [.int i,.int t.2.1,.int t.2.2]→Q (.ref a) H
noncomputable def sp_roomG(K:PySem.W.Frag)(C:Addr):Sp:=fun vs H Q _=>∃(p:Addr) (ts:List Th) (z:Str),vs=[.ref p,.str z]∧StockAt K C H p ts∧(ts.map (·.1)).Nodup∧z∈ts.map (·.1)∧∀(i:Nat) (t:Th),ts[i]?=some t→t.1=z→Q (.int t.2.2) H
noncomputable def sp_putG(K:PySem.W.Frag)(C S:Addr):Sp:=fun vs H Q _=>∃(q p d:Addr) (n:Int) (ls:Ly) (ts:List Th) (z:Str) (r:Int),vs=[.ref q,.str z]∧ShelfAt S H q p d n ls∧StockX K C H p ts d∧(ts.map (·.1)).Nodup∧ls.length≤1000∧
  z∈ts.map (·.1)∧(∀t∈ts,t.1=z→t.2.2=r)∧¬z∈lyN ls∧r≤n - lyS ls∧∀H',SameBut d H H'→ShelfAt S H' q p d n (ls++[(z,r)])→Q .non H'
noncomputable def sp_castG(S:Addr):Sp:=fun vs H Q _=>∃(q p d:Addr) (n:Int) (ls:Ly) (z:Str),vs=[.ref q,.str z]∧ShelfAt S H q p d n ls∧z∈lyN ls∧∀H',SameBut d H H'→ShelfAt S H' q p d n (lyD ls z)→Q .non H'
end N6
set_option Elab.async false
set_option linter.all false
set_option maxRecDepth 100000
set_option maxHeartbeats 4000000
namespace L2
open PySem PySem.Spec PyProof.Rows
section
variable {M:Model} {A:Around} {E:Value→Shared→Prop} {s:Shared} {base:Heap} {env:Env} {outer l:List Env} {L e:Addr} {cls a0 fl:Value}
end
section
variable {X:Cx} {pins:List (Addr×Obj)} {σ:St} {scope:Scope} {xs:List Str} {fs:List Nat} {elt tg iter:Expr} {ifs:List Expr} {pos:Pos} {wi:TI} {g:Blk→TG} {tt:Blk→TT} {te:Blk→TE}
end
end L2
set_option linter.all false
set_option maxHeartbeats 1000000
namespace N08
open PySem PySem.Builtin PySem.Builtin.Str PySem.StrLaws
section
variable (x y:Str)
end
open PySem.NumText
end N08
namespace L2
open PySem PySem.Spec PyProof.Rows N1 N5
theorem eqV_self{x:V}(h:flatV x=true):eqV x x=true:=by
  cases x with
  | non=>rfl
  | bl b=>cases b <;> rfl
  | int i=>exact beq_self_eq_true i
  | str z=>rw [eqV_str];simp
  | _=>cases h
theorem flatEq_self:∀{xs:List V},xs.all flatV=true→flatEq xs xs=true
  | [],_=>rfl
  | x::xs,h=>by
    rw [List.all_cons,Bool.and_eq_true]at h
    show (eqV x x && flatEq xs xs)=true
    rw [eqV_self h.1,flatEq_self h.2];rfl
section
variable {X:Cx}
end
section
variable {K:PySem.W.Frag} {tail:St} {te:Blk→TE} {Q:VK} {H1:Hp}
end
section
variable {K:PySem.W.Frag} {tail:St} {te:Blk→TE} {Q:VK} {H1:Hp}
end
section
variable {K:PySem.W.Frag} {H:Hp} {Q:VK} {xs:List V} {x y:V}
end
end L2
namespace N8
open PySem PySem.Spec PyProof.Rows L2 N1 N5 N08
inductive Pc where
  | line | num | ok (t:Th)
inductive R8 where
  | line | num | st (e:StE) | ok (ts:List Th)
noncomputable def rwOf(a:Addr)(t:Th):Rw:=(a,.str t.1,.int t.2.1,.int t.2.2)
end N8
namespace N8
open PySem PySem.Spec PyProof.Rows L2 N1 N5 N08
section
variable {K:PySem.W.Frag} {C:Addr} {H H':Hp} {p:Addr} {ts:List Th} {z:Str}
end
end N8
namespace L2
open PySem PySem.Spec PyProof.Rows
noncomputable abbrev g3(K:PySem.W.Frag):Blk→TG:=fun _=>gTup K 3 (gCons (gName 0) (gCons (gName 1) (gCons (gName 2) gNil)))
noncomputable abbrev tComp3(K:PySem.W.Frag)(wi:TI)(fs:List Nat)(te:Blk→TE):TE:=tComp wi 3 fs (g3 K) (fun _=>tYes) te
section
variable {X:Cx} {scope:Scope} {x y z:Str} {px py pz pt:Pos} {n:Nat} {fs:List Nat} {elt iter:Expr} {pos:Pos} {wi:TI} {te:Blk→TE}
end
section
variable {K:PySem.W.Frag} {tail:St} {te:Blk→TE} {Q:VK} {H1:Hp} {σ:St} {H:Hp}
theorem rd_comp3{wi:TI}{fs:List Nat}:tComp3 K wi fs te σ H Q=wi σ H (CompTail (none::none::none::fs.map fun j=>σ.getD j none) (g3 K) (fun _=>tYes) te Q):=rfl
end
end L2
namespace N8
open PySem PySem.Spec PyProof.Rows L2 N1 N5 N08
open PySem.Builtin.Str (strSub strKind)
end N8
namespace N8
open PySem PySem.Spec PyProof.Rows L2 N1 N5 N08
end N8
namespace N8
open PySem PySem.Spec PyProof.Rows L2 N1 N5 N08
end N8
namespace N8
open PySem PySem.Spec PyProof.Rows L2 N1 N5 N08
end N8
namespace N8
open PySem PySem.Spec PyProof.Rows L2 N1 N5 N08
end N8
namespace N8
open PySem PySem.Spec PyProof.Rows L2 N1 N5 N08
end N8
namespace N8
open PySem PySem.Spec PyProof.Rows L2 N1 N5 N08
end N8
namespace N8
open PySem PySem.Spec PyProof.Rows L2 N1 N5 N08
end N8
set_option Elab.async false
set_option linter.all false
set_option maxRecDepth 100000
set_option maxHeartbeats 1000000
namespace L2
open PySem PySem.Spec PyProof.Rows N1 N5
section
variable {X:Cx}
end
section
variable {K:PySem.W.Frag} {tail:St} {te:Blk→TE} {Q:VK} {H1:Hp}
end
end L2
namespace N12
open PySem PySem.Spec PyProof.Rows L2 N1 N5 N4 N6
noncomputable def sp12_names:Sp:=fun vs H Q _=>∃(i:Int) (m:Nat),vs=[.int i,.int m]∧m≤26∧∀(p:Addr) (ys:List Str) (H':Hp),H p=none→Same H H'→H' p=some (.lst (ys.map V.str))→ys.length≤m→m≤ys.length→ys.Nodup→(∀y∈ys,nameB y.cps.toList=true)→Q (.ref p) H'
end N12
set_option Elab.async false
set_option linter.all false
set_option maxRecDepth 100000
set_option maxHeartbeats 1000000
namespace N41
open PySem PySem.Spec PyProof.Rows L2 N1 N5 N31 N4 N32
structure PaysA(c r:Str→Int)(P:Int)(ys:List Str)(n:Nat)(L:List Str)(paid:Int):Prop where
  nd:L.Nodup
  fit:sm r L≤P
  asked:∀y∈L,(lastIx ys y n).isSome=true
  all:∀(T:List Int) (S:Int),(∀t∈T,0≤t)→T.length=ys.length→Pays c r T S P ys n L paid
section
variable {c r:Str→Int} {P:Int} {ys:List Str} {n:Nat} {L M:List Str} {paid:Int}
end
theorem nd_len{L ys:List Str}(nd:L.Nodup)(h:∀u∈L,u∈ys):L.length≤ys.length:=List.Nodup.length_le_of_subset nd h
end N41
set_option Elab.async false
set_option linter.all false
set_option maxRecDepth 100000
set_option maxHeartbeats 4000000
namespace L2
open PySem PySem.Spec PyProof.Rows
noncomputable def LikeN(K:PySem.W.Frag):Nat→Hp→V→V→Prop
  | 0,_,x,y=>x=y∧flatV x=true
  | n+1,H,x,y=>LikeN K n H x y∨∃a b xs ys,x= .ref a∧y= .ref b∧((SqL K H a xs∧SqL K H b ys)∨(SqT K H a xs∧SqT K H b ys))∧xs.length=ys.length∧∀(i:Nat) (x' y':V),xs[i]?=some x'→ys[i]?=some y'→LikeN K n H x' y'
noncomputable def LikeR(K:PySem.W.Frag)(n:Nat)(H:Hp)(x y:V):Prop:=∃a b xs ys,x= .ref a∧y= .ref b∧((SqL K H a xs∧SqL K H b ys)∨(SqT K H a xs∧SqT K H b ys))∧xs.length=ys.length∧∀(i:Nat) (x' y':V),xs[i]?=some x'→ys[i]?=some y'→LikeN K n H x' y'
section
variable {X:Cx} {pins:List (Addr×Obj)} {σ:St} {H:Hp} {s:Shared}
noncomputable def rEqN(K:PySem.W.Frag)(n:Nat):R2:=fun x y H Q=>LikeR K n H x y∧Q (.bl true) H
noncomputable def rNeN(K:PySem.W.Frag)(n:Nat):R2:=fun x y H Q=>LikeR K n H x y∧Q (.bl false) H
theorem rd_eqN{K:PySem.W.Frag}{H:Hp}{Q:VK}{x y:V}{n:Nat}:rEqN K n x y H Q=(LikeR K n H x y∧Q (.bl true) H):=rfl
theorem rd_neN{K:PySem.W.Frag}{H:Hp}{Q:VK}{x y:V}{n:Nat}:rNeN K n x y H Q=(LikeR K n H x y∧Q (.bl false) H):=rfl
end
end L2
set_option linter.all false
set_option maxHeartbeats 1000000
namespace L2
open PySem PySem.Spec PyProof.Rows PySem.W
noncomputable def rMaxV:List V→Hp→VK→Prop:=fun xs H Q=>∃(v d:Addr) (kvs:List (Key×V)) (is:List Int),xs=[.ref v]∧H v=some (viewO v d)∧H d=some (.dK kvs)∧kvs.map (·.2)=is.map V.int∧is≠[]∧∀m∈is,(∀x∈is,x≤m)→Q (.int m) H
section
variable {X:Cx}
theorem rd_maxV{xs:List V}{H:Hp}{Q:VK}:rMaxV xs H Q=∃(v d:Addr) (kvs:List (Key×V)) (is:List Int),xs=[.ref v]∧H v=some (viewO v d)∧H d=some (.dK kvs)∧kvs.map (·.2)=is.map V.int∧is≠[]∧∀m∈is,(∀x∈is,x≤m)→Q (.int m) H:=rfl
end
end L2
set_option Elab.async false
set_option linter.all false
set_option maxRecDepth 100000
set_option maxHeartbeats 1000000
namespace N14
open PySem PySem.Spec PyProof.Rows L2 N1 N5 N4 N6 N12 N32
noncomputable abbrev Row:=Str×Bool×List Str
noncomputable def lyDs(ls:Ly)(gone:List Str):Ly:=gone.foldl lyD ls
noncomputable def okG(z:Str):Ly→List Str→Prop
  | _,[]=>True
  | ls,o::r=>o≠z∧o∈lyN ls∧okG z (lyD ls o) r
noncomputable def okRow(R:Str→Int)(n:Int)(ls:Ly)(z:Str)(row:Row):Prop:=row.1=z∧row.2.1=decide (z∈lyN ls)∧okG z ls row.2.2∧(z∉lyN ls→R z≤n - lyS (lyDs ls row.2.2))
noncomputable def stepL(R:Str→Int)(ls:Ly)(z:Str)(gone:List Str):Ly:=if z∈lyN ls then lyDs ls gone else lyDs ls gone++[(z,R z)]
noncomputable def lastL(R:Str→Int):Ly→List (Str×List Str)→Ly
  | ls,[]=>ls
  | ls,(z,g)::r=>lastL R (stepL R ls z g) r
structure BookAt(K:PySem.W.Frag)(H:Hp)(b:Addr)(as gs:List Addr)(rs:List Row):Prop where
  l:SqL K H b (as.map V.ref)
  n:as.length=rs.length
  m:gs.length=rs.length
  t:∀(i:Nat) (a g:Addr) (r:Row),as[i]?=some a→gs[i]?=some g→rs[i]?=some r→SqT K H a [.str r.1,.bl r.2.1,.ref g]∧SqL K H g (r.2.2.map V.str)
noncomputable def sp14_casts(K:PySem.W.Frag)(S:Addr):Sp:=fun vs H Q _=>∃(q p d g:Addr) (n:Int) (ls:Ly) (z:Str) (gone:List Str),vs=[.ref q,.str z,.ref g]∧ShelfAt S H q p d n ls∧SqL K H g (gone.map V.str)∧okG z ls gone∧
  ∀H',SameBut d H H'→ShelfAt S H' q p d n (lyDs ls gone)→Q (.bl true) H'
noncomputable def sp14_serves(K:PySem.W.Frag)(C S:Addr):Sp:=fun vs H Q _=>∃(q p d r g:Addr) (n:Int) (ls:Ly) (ts:List Th) (z:Str) (row:Row),vs=[.ref q,.str z,.ref r]∧ShelfAt S H q p d n ls∧StockX K C H p ts d∧(ts.map (·.1)).Nodup∧z∈ts.map (·.1)∧ls.length≤500∧SqT K H r [.str row.1,.bl row.2.1,.ref g]∧SqL K H g (row.2.2.map V.str)∧okRow (rm ts) n ls z row∧
  ∀H',SameBut d H H'→ShelfAt S H' q p d n (stepL (rm ts) ls z row.2.2)→Q (.bl true) H'
noncomputable def zipG(ys:List Str)(rs:List Row):List (Str×List Str):=ys.zip (rs.map (·.2.2))
noncomputable def stL(R:Str→Int)(ys:List Str)(rs:List Row)(i:Nat):Ly:=lastL R [] ((zipG ys rs).take i)
structure Lawful(R:Str→Int)(n:Int)(ys:List Str)(rs:List Row):Prop where
  len:ys.length=rs.length
  row:∀{i:Nat} {z:Str} {r:Row},ys[i]?=some z→rs[i]?=some r→okRow R n (stL R ys rs i) z r
structure Told(H H':Hp)(l:Addr)(qs:List Addr)(W:Nat→Ly)(n:Nat):Prop where
  L:H' l=some (.lst (qs.map V.ref))
  N:qs.length=n
  d:(l::qs).Nodup
  q:∀(j:Nat) (q:Addr),qs[j]?=some q→H q=none∧H' q=some (.lst ((lyN (W (j+1))).map V.str))
noncomputable def sp14_after(K:PySem.W.Frag)(C:Addr):Sp:=fun vs H Q _=>∃(p a b:Addr) (n:Int) (ts:List Th) (ys:List Str) (as gs:List Addr) (rs:List Row),vs=[.ref p,.ref a,.int n,.ref b]∧StockAt K C H p ts∧(ts.map (·.1)).Nodup∧SqL K H a (ys.map V.str)∧ys.length≤200∧(∀y∈ys,y∈ts.map (·.1))∧(∀y∈ys,rm ts y≤n)∧1≤n∧n≤1000000∧
  BookAt K H b as gs rs∧Lawful (rm ts) n ys rs∧∀l qs H',H l=none→Same H H'→Told H H' l qs (stL (rm ts) ys rs) ys.length→Q (.ref l) H'
theorem same_none{H H':Hp}{d:Addr}(s:Same H H')(h:H' d=none):H d=none:=by
  cases e:H d with
  | none=>rfl
  | some o=>rw [s _ _ e]at h;cases h
structure OkL(R:Str→Int)(ns:List Str)(ls:Ly):Prop where
  nd:(lyN ls).Nodup
  r:∀x∈ls,x.2=R x.1
  s:∀u∈lyN ls,u∈ns
noncomputable def Kp(M:List Addr)(H H':Hp):Prop:=∀b o,b∉M→H b=some o→H' b=some o
theorem Kp.trans{M:List Addr}{H H1 H2:Hp}(h1:Kp M H H1)(h2:Kp M H1 H2):Kp M H H2:=fun b o n e=>h2 b o n (h1 b o n e)
theorem Kp.of{M:List Addr}{H H1:Hp}(h:Same H H1):Kp M H H1:=fun b o _ e=>h b o e
theorem Kp.upd{M:List Addr}{H H1:Hp}{p:Addr}{o:HO}(h:Kp M H H1)(hp:p∈M):Kp M H (upd H1 p o):=fun b u n e=>by
  have hb:b≠p:=fun e2=>n (by rw [e2];exact hp)
  rw [upd_ne hb];exact h b u n e
structure RunAt(M:List Addr)(H:Hp)(as gs es:List Addr)(R:Str→Int)(ys:List Str)(rs:List Row):Prop where
  n:as.length=rs.length
  m:gs.length=rs.length
  k:es.length=rs.length
  t:∀(i:Nat) (a g:Addr) (r:Row),as[i]?=some a→gs[i]?=some g→rs[i]?=some r→a∉M∧g∉M∧H a=some (.tup [.str r.1,.bl r.2.1,.ref g])∧H g=some (.lst (r.2.2.map V.str))
  q:∀(j:Nat) (x:Addr),es[j]?=some x→x∉M∧H x=some (.lst ((lyN (stL R ys rs (j+1))).map V.str))
structure Beh(H:Hp)(l:Addr)(es:List Addr)(W:Nat→Ly)(n:Nat):Prop where
  L:H l=some (.lst (es.map V.ref))
  N:es.length=n
  q:∀(j:Nat) (x:Addr),es[j]?=some x→H x=some (.lst ((lyN (W (j+1))).map V.str))
structure New(H H':Hp)(h:Addr)(as gs:List Addr)(rs:List Row):Prop where
  L:H' h=some (.lst (as.map V.ref))
  f:H h=none
  n:as.length=rs.length
  m:gs.length=rs.length
  t:∀(i:Nat) (a g:Addr) (r:Row),as[i]?=some a→gs[i]?=some g→rs[i]?=some r→H a=none∧H g=none∧g≠h∧H' a=some (.tup [.str r.1,.bl r.2.1,.ref g])∧H' g=some (.lst (r.2.2.map V.str))
theorem ints_of:∀(ys:List V),(∀(i:Nat) y,ys[i]?=some y→∃v:Int,y= .int v)→∃cs:List Int,ys=cs.map V.int∧cs.length=ys.length
  | [],_=>⟨[],rfl,rfl⟩
  | y::r,h=>by
    obtain ⟨v,e⟩:=h 0 y rfl
    obtain ⟨cs,e1,e2⟩:=ints_of r fun i z hz=>h (i+1) z hz
    exact ⟨v::cs,by rw [e,e1];rfl,by simp [e2]⟩
noncomputable def ask1(ys:List Str)(m:Nat)(c:Int):Str:=ys.getD (c % (m:Int)).toNat Str.empty
end N14
set_option Elab.async false
set_option linter.all false
set_option maxRecDepth 100000
set_option maxHeartbeats 1000000
namespace L2
open PySem PySem.Spec PyProof.Rows
structure DefB(P:Program)(w:World)(K:PySem.W.Frag)(mg:Str→Option Value)(base:Heap)(CX:CXT)(k:Nat)(x:Str)(C:Addr)(ps:List Str)(sp:Sp):Prop where
  ex:∃(f:Addr) (fd:FuncData),FnOk P w K mg base CX k f fd ps sp∧Mk K C f∧mg x=some (.ref C)∧Binds K fd ps []∧PySem.W.findCls K (.ref C) (.type "type") "__init__"=some (.val (.ref f))∧PySem.W.keepIn K (.ref f)=true
  sp:PySem.W.specialIn K (.ref C) "__getattribute__"=some (some (.builtin "type.__getattribute__"))
  rd:PySem.W.readsIn K C (.type "type")=true
noncomputable def tCallS(sp:Sp)(EE:St→XK)(t:TA):TE:=fun σ H Q=>t σ H fun vs H1=>sp vs H1 Q (EE σ)
section
variable {X:Cx} {CX:CXT} {k j:Nat} {C:Addr} {ps:List Str} {sp:Sp} {EE:St→XK} {x:Str} {pos apos:Pos} {e o:Expr} {es:List Expr} {t:TA}
theorem pe_initC{pl:Sem Bool}(D:DefB X.prog X.w X.K X.mg X.base CX j x C ps sp)(hr:Room k X.A)(hx:PassesS CX X EE)(he:PE X o (tC (.ref C)))(ha:PA X (e::es) t)(hj:j≤k:=by decide)
    (hst:starEach (e::es) X.env=(false,eval e X.env)::starEach es X.env:=by rfl) (hpl:(backTo pos (starEach es X.env)).any (·.1)=false:=by rfl)
    (ht:eval (.Call (.Attribute o "__init__" apos) (e::es) [] pos) X.env=(do
      let ov ← eval o X.env
      standAt apos.atName
      let (f,first) ← holding [ov] (getMethod ov "__init__" pl)
      callWith pos f first (backTo pos (starEach (e::es) X.env)) (backToKw pos (keywordEach [] X.env))):=by rfl):
    PE X (.Call (.Attribute o "__init__" apos) (e::es) [] pos) (tCallS sp EE t):=by
  obtain ⟨f,fd,F,M,hm,hb,hc,hk⟩:=D.ex
  intro pins s σ H Q I h
  refine PySem.W.methodCall_KW (pl:=pl) (thn (he pins s σ H (fun v H1=>v= .ref C∧t σ H1 fun vs H2=>sp vs H2 Q (EE σ)) I ⟨rfl,h⟩) fun u s1 ⟨x,H1,I1,rx,q⟩=>?_) ht
  obtain ⟨rfl,q⟩:=q
  obtain rfl:u=Value.ref C:=rx
  refine PySem.W.method_cls I1.kIn D.sp (PySem.W.cls_value I1.kIn D.rd hc rfl ?_)
  have I2:=I1.tok (s1.toks+1)
  exact PySem.W.callWith_K (first:=[]) (h₀:=X.base) I.ok.mod.kin hk (thn (ha pos pins _ σ H1 _ I2 q) fun us s2 ⟨vs,H2,I3,r,q2⟩=>⟨I3.kIn,run_fnS (us:=us) (vs:=vs) (F.mono hj) hr hb hx I3 r q2⟩) hst hpl
theorem rd_callS{σ:St}{H:Hp}{Q:VK}:tCallS sp EE t σ H Q=t σ H fun vs H1=>sp vs H1 Q (EE σ):=rfl
end
end L2
namespace L2
open PySem PySem.Spec PyProof.Rows
noncomputable def ipM:TIp:=fun x y H Q=>∃i j,x= .int i∧y= .int j∧CMul i j∧Q (.int (i * j)) H
theorem rd_ipM{x y:V}{H:Hp}{Q:VK}:ipM x y H Q=∃i j,x= .int i∧y= .int j∧CMul i j∧Q (.int (i * j)) H:=rfl
end L2
set_option Elab.async false
set_option linter.all false
set_option maxRecDepth 100000
set_option maxHeartbeats 1000000
namespace L2
open PySem PySem.Spec PyProof.Rows
section
variable {X:Cx} {pins:List (Addr×Obj)} {σ:St} {H:Hp} {s:Shared} {a C dx g:Addr} {fs:List (Str×V)} {m:Str} {A:Around} {E:Value→Shared→Prop}
end
section
variable {X:Cx} {CX:CXT} {k:Nat} {f a q:Addr} {fd:FuncData} {ps:List Str} {sp:Sp} {EE:St→XK}
end
end L2
set_option Elab.async false
set_option linter.all false
set_option maxRecDepth 100000
set_option maxHeartbeats 1000000
namespace L2
open PySem PySem.Spec PyProof.Rows
section
variable {X:Cx} {k:Nat} {f a q:Addr} {fd:FuncData} {ps:List Str} {sp:Sp}
end
noncomputable def btK(kf:Nat→List Int):Nat→Nat→Bool:=fun i j=>HT.lexLt (kf i) (kf j)
section
variable {X:Cx} {pins:List (Addr×Obj)} {σ:St} {k:Nat} {g a q mo it S:Addr} {fd:FuncData} {ps:List Str} {sp:Sp} {H0:Hp} {xs:List V} {kf:Nat→List Int} {R:Result→Shared→Prop}
end
section
variable {X:Cx} {pins:List (Addr×Obj)} {σ:St} {k:Nat} {g a q mo:Addr} {fd:FuncData} {ps:List Str} {sp:Sp} {H:Hp} {s:Shared} {xs:List V} {kf:Nat→List Int} {Q:VK}
end
structure DefV(P:Program)(w:World)(K:PySem.W.Frag)(mg:Str→Option Value)(base:Heap)(k:Nat)(C:Addr)(m:Str)(ps:List Str)(sp:Sp):Prop where
  ex:∃(f:Addr) (fd:FuncData),FnOk P w K mg base CX0 k f fd ps sp∧Meth K C m f∧Binds K fd ps []∧PySem.W.specialIn K (.ref f) "__get__"=some (some (.builtin "function.__get__"))∧PySem.W.takesIn K (.ref f)=some false
noncomputable def tMinK(K:PySem.W.Frag)(C:Addr)(m:Str)(sp:Sp)(ta:TA)(to:TE):TE:=fun σ H Q=>ta σ H fun vs H1=>to σ H1 fun o H2=>∃(a q dx:Addr) (fs:List (Str×V)) (xs:List V) (kf:Nat→List Int),vs=[.ref a]∧o= .ref q∧H2 q=some (.ins C dx fs)∧fs.lookup m=none∧SqL K H2 a xs∧xs≠[]∧
  (∀i v,xs[i]?=some v→∀H',Same H2 H'→sp [.ref q,v] H' (fun u H''=>Same H' H''∧∃t,u= .ref t∧H'' t=some (.tup ((kf i).map V.int))) E0)∧∀v H',Same H2 H'→xs[argBest (btK kf) (xs.length - 1)]?=some v→Q v H'
section
variable {X:Cx} {k j:Nat} {C:Addr} {ps:List Str} {sp:Sp} {m:Str} {x:Str} {p pos apos kp:Pos} {e o:Expr} {t:TA} {to:TE}
theorem rd_minK{K:PySem.W.Frag}{σ:St}{H:Hp}{Q:VK}:tMinK K C m sp t to σ H Q=t σ H fun vs H1=>to σ H1 fun o H2=>∃(a q dx:Addr) (fs:List (Str×V)) (xs:List V) (kf:Nat→List Int),vs=[.ref a]∧o= .ref q∧H2 q=some (.ins C dx fs)∧fs.lookup m=none∧SqL K H2 a xs∧xs≠[]∧
  (∀i v,xs[i]?=some v→∀H',Same H2 H'→sp [.ref q,v] H' (fun u H''=>Same H' H''∧∃t,u= .ref t∧H'' t=some (.tup ((kf i).map V.int))) E0)∧∀v H',Same H2 H'→xs[argBest (btK kf) (xs.length - 1)]?=some v→Q v H':=rfl
end
end L2
set_option Elab.async false
set_option linter.all false
set_option maxRecDepth 100000
set_option maxHeartbeats 1000000
namespace N20
open PySem PySem.Spec PyProof.Rows L2 N1 N5 N4 N6 N12 N32 N14
noncomputable def sp20_stream:Sp:=fun vs H Q _=>∃(c:Int) (m:Nat),vs=[.int c,.int m]∧m≤1000∧∀(p:Addr) (xs:List Int) (H':Hp),H p=none→Same H H'→H' p=some (.lst (xs.map V.int))→xs.length=m→(∀x∈xs,0≤x)→Q (.ref p) H'
noncomputable def sp20_names:Sp:=fun vs H Q _=>∃(c:Int) (m:Nat),vs=[.int c,.int m]∧m≤60∧∀(p:Addr) (ys:List Str) (H':Hp),H p=none→Same H H'→H' p=some (.lst (ys.map V.str))→ys.length=m→ys.Nodup→(∀y∈ys,nameB y.cps.toList=true)→Q (.ref p) H'
noncomputable def sp20_rows(K:PySem.W.Frag):Sp:=fun vs H Q _=>∃(a:Addr) (ns:List Int),vs=[.ref a]∧SqL K H a (ns.map V.int)∧ns.length≤63∧
  ∀(r:Addr) (as:List Addr) (ts:List Th) (H':Hp),Same H H'→H' r=some (.lst (as.map V.ref))→RowsAt K H' r as ts→1≤ts.length→Q (.ref r) H'
noncomputable def sp20_places(K:PySem.W.Frag):Sp:=fun vs H Q _=>∃(r:Addr) (c:Int) (as:List Addr) (ts:List Th),vs=[.ref r,.int c]∧RowsAt K H r as ts∧1≤ts.length∧∀(n:Int) (H':Hp),Same H H'→1≤n→n≤1000000→(∀t∈ts,t.2.2≤n)→Q (.int n) H'
noncomputable def sp20_asks(K:PySem.W.Frag):Sp:=fun vs H Q _=>∃(a r:Addr) (ns:List Int) (as:List Addr) (ts:List Th),vs=[.ref a,.ref r]∧SqL K H a (ns.map V.int)∧ns.length≤63∧RowsAt K H r as ts∧1≤ts.length∧
  ∀(p:Addr) (ys:List Str) (H':Hp),Same H H'→H' p=some (.lst (ys.map V.str))→ys.length≤200→(∀y∈ys,y∈ts.map (·.1))→Q (.ref p) H'
noncomputable def rmK(ts:List Th):List (Key×V):=ts.map fun t=>(Sum.inr t.1,.int t.2.2)
noncomputable def sp20_rooms(K:PySem.W.Frag):Sp:=fun vs H Q _=>∃(r:Addr) (as:List Addr) (ts:List Th),vs=[.ref r]∧RowsAt K H r as ts∧∀(e:Addr) (H':Hp),Same H H'→H' e=some (.dK (rmK ts))→Q (.ref e) H'
noncomputable def sp20_same(K:PySem.W.Frag):Sp:=fun vs H Q _=>∃(x y:Addr) (as gs as2 gs2:List Addr) (rs:List N14.Row),vs=[.ref x,.ref y]∧H x=some (.lst (as.map V.ref))∧(∀(i:Nat) a,as[i]?=some a→∃xs,H a=some (.tup xs))∧BookAt K H x as gs rs∧BookAt K H y as2 gs2 rs∧rs.length≤200∧∀H',Same H H'→Q (.bl true) H'
end N20
namespace N20
open PySem PySem.Spec PyProof.Rows L2 N1 N5 N4 N6 N12 N32 N14
end N20
set_option Elab.async false
set_option linter.all false
set_option maxRecDepth 100000
set_option maxHeartbeats 1000000
namespace N71
open PySem PySem.Spec PyProof.Rows L2 N1 N5 N4 N6 N12
structure TwA where
  st:Addr
  si:Addr
  ro:Addr
  he:Addr
  la:Addr
  so:Addr
  en:Addr
  fi:Addr
structure Tfs(x:TwA)(pd:Int)(fs:List (Str×V)):Prop where
  st:fs.lookup (Str.ofString "stock")=some (.ref x.st)
  si:fs.lookup (Str.ofString "sizes")=some (.ref x.si)
  ro:fs.lookup (Str.ofString "row")=some (.ref x.ro)
  he:fs.lookup (Str.ofString "held")=some (.ref x.he)
  la:fs.lookup (Str.ofString "late")=some (.ref x.la)
  so:fs.lookup (Str.ofString "store")=some (.ref x.so)
  en:fs.lookup (Str.ofString "entries")=some (.ref x.en)
  fi:fs.lookup (Str.ofString "finds")=some (.ref x.fi)
  pd:fs.lookup (Str.ofString "paid")=some (.int pd)
  n:fs.length < 500
  m:∀m∈[Str.ofString "levels",Str.ofString "stored",Str.ofString "shelf_of",Str.ofString "fetch",Str.ofString "come",Str.ofString "fall_off",Str.ofString "write",Str.ofString "settle",Str.ofString "read",Str.ofString "keep",Str.ofString "rest",Str.ofString "ahead",Str.ofString "diary",Str.ofString "found",Str.ofString "spent"],fs.lookup m=none
structure TwS where
  zs:List Int
  R:List Str
  kh:List (Key×V)
  kl:List (Key×V)
  ks:List (Key×V)
  es:List V
  ff:List Int
  pd:Int
structure TwAt(C:Addr)(H:Hp)(t:Addr)(x:TwA)(s:TwS):Prop where
  o:∃dx fs,H t=some (.ins C dx fs)∧Tfs x s.pd fs
  si:H x.si=some (.lst (s.zs.map V.int))
  ro:H x.ro=some (.lst (s.R.map V.str))
  he:H x.he=some (.dK s.kh)
  la:H x.la=some (.dK s.kl)
  so:H x.so=some (.dK s.ks)
  en:H x.en=some (.lst s.es)
  fi:H x.fi=some (.lst (s.ff.map V.int))
  d1:x.he≠x.la
  d2:x.he≠x.so
  d3:x.la≠x.so
  l1:x.ro≠x.si
  l2:x.ro≠x.en
  l3:x.ro≠x.fi
  l4:x.si≠x.en
  l5:x.si≠x.fi
  l6:x.en≠x.fi
noncomputable def own(t:Addr)(x:TwA):List Addr:=[t,x.ro,x.he,x.la,x.so,x.en,x.fi]
section
variable {C:Addr} {H:Hp} {t:Addr} {x:TwA} {s:TwS}
end
structure StockT(K:PySem.W.Frag)(S:Addr)(H:Hp)(p:Addr)(ts:List Th)(L:List Addr):Prop where
  ex:∃(dx d:Addr) (kvs:List (Key×V)),H p=some (.ins S dx (flds d))∧H d=some (.dK kvs)∧p∉L∧d∉L∧kvs.map (·.1)=ts.map (fun t=>Sum.inr t.1)∧
    ∀(i:Nat) (t:Th),ts[i]?=some t→∃a,kvs[i]?=some (Sum.inr t.1,.ref a)∧((Rd H a (.tup [.int i,.int t.2.1,.int t.2.2])∧a∉L)∨∀H',SqT K H' a [.int i,.int t.2.1,.int t.2.2])
structure TwL(s:TwS)(B:Nat)(hd:Str→Prop):Prop where
  h:∀y,hd y→∃i:Int,valV s.kh (Sum.inr y)=some (.int i)
  l:∀y,(valV s.kl (Sum.inr y)).isSome=true→hd y
  st:∀y v,valV s.ks (Sum.inr y)=some v→∃i:Int,v= .int i
  n1:s.kh.length≤B
  n2:s.kl.length≤B
  n3:s.ks.length≤B
  n4:s.es.length≤B
  b:B≤100000
noncomputable def pre(zs:List Int)(i:Nat):Int:=(zs.take i).sum
structure Tow(K:PySem.W.Frag)(C S:Addr)(H:Hp)(t:Addr)(x:TwA)(s:TwS)(ts:List Th)(B:Nat):Prop where
  tw:TwAt C H t x s
  sk:StockT K S H x.st ts (own t x)
  l:TwL s B (fun y=>y∈s.R)
  nd:s.R.Nodup
  rs:(s.R.length:Int)≤s.zs.sum
  z1:1≤s.zs.length
  zl:s.zs.length≤6
  zz:∀z∈s.zs,1≤z∧z≤1000000
  rn:∀y∈s.R,y∈ts.map (·.1)
  tn:(ts.map (·.1)).Nodup
  tl:ts.length≤59
  ff:s.ff.length=s.zs.length+1
noncomputable def f1(x:TwA):List (Str×V):=putF (Str.ofString "sizes") (.ref x.si) (putF (Str.ofString "stock") (.ref x.st) [])
noncomputable def f3(x:TwA):List (Str×V):=putF (Str.ofString "late") (.ref x.la) (putF (Str.ofString "held") (.ref x.he) (putF (Str.ofString "row") (.ref x.ro) (f1 x)))
noncomputable def f6(x:TwA):List (Str×V):=putF (Str.ofString "paid") (.int 0) (putF (Str.ofString "finds") (.ref x.fi) (putF (Str.ofString "entries") (.ref x.en) (putF (Str.ofString "store") (.ref x.so) (f3 x))))
end N71
namespace L2
open PySem PySem.Spec PyProof.Rows
end L2
namespace L2
open PySem PySem.Spec PyProof.Rows
section
variable {K:PySem.W.Frag} {σ:St} {H:Hp} {D:Ends} {Q:VK}
theorem rd_fldaug{ta tv:TE}{rd:V→V→Hp→VK→Prop}{f:Str}:sFldAug K ta tv rd f D σ H=ta σ H fun x H1=>∃a C dx fs v,x= .ref a∧H1 a=some (.ins C dx fs)∧Cls K C∧NoAttr K C f∧fs.lookup f=some v∧
  tv σ H1 fun y H2=>rd v y H2 fun z H3=>∃dx' fs',H3 a=some (.ins C dx' fs')∧fs'.length < 1000∧D.nx σ (upd H3 a (.ins C dx' (putF f z fs'))):=rfl
end
end L2
namespace L2
open PySem PySem.Spec PyProof.Rows N1 N5
section
variable {X:Cx}
end
end L2
namespace N71
open PySem PySem.Spec PyProof.Rows L2 N1 N5 N4 N6 N12
end N71
set_option Elab.async false
set_option linter.all false
set_option maxRecDepth 100000
set_option maxHeartbeats 1000000
namespace L2
open PySem PySem.Spec PyProof.Rows
section
variable {X:Cx}
end
end L2
namespace N53
open PySem PySem.Spec PyProof.Rows L2 N1 N5
noncomputable def stp(m:Int)(i:Nat)(y:Str)(s:List (Nat×Nat)×Nat×List Str):List (Nat×Nat)×Nat×List Str:=
  if y∉s.2.2∧(s.2.2.length:Int)=m then (s.1++[(s.2.1,i)],i,[y]) else (s.1,s.2.1,if y∈s.2.2 then s.2.2 else s.2.2++[y])
noncomputable def lst1(m:Int)(y:Str)(s:Nat×List Str):Nat×List Str:=
  let t:=if s.1=0∨(y∉s.2∧(s.2.length:Int)=m) then (s.1+1,[]) else s
  (t.1,if y∈t.2 then t.2 else t.2++[y])
noncomputable def lst(m:Int)(ys:List Str):Nat→Nat×List Str
  | 0=>(0,[])
  | i+1=>lst1 m (ys.getD i Str.empty) (lst m ys i)
end N53
namespace N53
open PySem PySem.Spec PyProof.Rows L2 N1 N5
theorem put_both{kvs:List (Key×V)}{ks:List Str}{z:Str}{v:V}(h:kvs.map (·.1)=ks.map Sum.inr):(putK kvs (Sum.inr z) v).map (·.1)=(if z∈ks then ks else ks++[z]).map Sum.inr:=by
  have hm:=key_mem (z:=z) h
  by_cases hz:z∈ks
  · rw [if_pos hz,← h]
    unfold putK
    rw [valV_any,hm,decide_eq_true hz,if_pos rfl,List.map_map]
    refine List.map_congr_left fun e _=>?_
    show (if e.1=Sum.inr z then (e.1,v) else e).1=e.1
    split <;> rfl
  · rw [if_neg hz,putK_new v (by rw [decide_eq_false hz]at hm;simpa using hm),List.map_append,List.map_append,h]
    rfl
end N53
set_option linter.all false
set_option maxRecDepth 100000
set_option maxHeartbeats 1000000
namespace L2
open PySem PySem.Spec PyProof.Rows PySem.W
section
variable {prog:Program} {w:World} {A:Around} {E:Value→Shared→Prop} {s:Shared}
end
section
variable {X:Cx}
end
end L2
set_option Elab.async false
set_option linter.all false
set_option maxRecDepth 100000
set_option maxHeartbeats 1000000
namespace L2
open PySem PySem.Spec PyProof.Rows
section
variable {K:PySem.W.Frag} {D:Ends} {σ:St} {H:Hp}
end
end L2
namespace N18
open PySem PySem.Spec PyProof.Rows L2 N1 N5 N4 N6 N12 N32 N14
noncomputable abbrev Row:=N14.Row
noncomputable def UpTo(R:Str→Int)(n:Int)(ys:List Str)(rs:List Row)(i:Nat):Prop:=∀(j:Nat) (z:Str) (r:Row),j < i→ys[j]?=some z→rs[j]?=some r→okRow R n (stL R ys rs j) z r
structure Fault(R:Str→Int)(n:Int)(ys:List Str)(rs:List Row)(i:Nat):Prop where
  u:UpTo R n ys rs i
  l:i≤ys.length
  m:i≤rs.length
  b:(∃z r,ys[i]?=some z∧rs[i]?=some r∧¬okRow R n (stL R ys rs i) z r)∨((ys.length≤i∨rs.length≤i)∧ys.length≠rs.length)
structure Bk(H:Hp)(b:Addr)(as gs:List Addr)(rs:List Row):Prop where
  L:H b=some (.lst (as.map V.ref))
  n:as.length=rs.length
  m:gs.length=rs.length
  t:∀(i:Nat) (a g:Addr) (r:Row),as[i]?=some a→gs[i]?=some g→rs[i]?=some r→g≠b∧H a=some (.tup [.str r.1,.bl r.2.1,.ref g])∧H g=some (.lst (r.2.2.map V.str))
end N18
namespace N18
open PySem PySem.Spec PyProof.Rows L2 N1 N5 N4 N6 N12 N32 N14
structure RunB(M:List Addr)(H:Hp)(as gs:List Addr)(rs:List Row):Prop where
  n:as.length=rs.length
  m:gs.length=rs.length
  t:∀(i:Nat) (a g:Addr) (r:Row),as[i]?=some a→gs[i]?=some g→rs[i]?=some r→a∉M∧g∉M∧H a=some (.tup [.str r.1,.bl r.2.1,.ref g])∧H g=some (.lst (r.2.2.map V.str))
end N18
set_option Elab.async false
set_option linter.all false
set_option maxRecDepth 100000
set_option maxHeartbeats 1000000
namespace N25
open PySem PySem.Spec PyProof.Rows L2 N1 N5 N4 N6 N12 N32 N14 N20
noncomputable def hgo(R:Str→Int)(n need:Int):Nat→List Str→List Str→List Str→List Str×List Str×List Str
  | 0,L,D,w=>(L,D,w)
  | _+1,[],D,w=>([],D,w)
  | k+1,f::r,D,w=>if need≤n - N41.sm R (f::r) then (f::r,D,w) else if f∈D then hgo R n need k (r++[f]) (D.erase f) w else hgo R n need k r D (w++[f])
noncomputable def hfin(R:Str→Int)(n need:Int)(L D w:List Str):List Str×List Str×List Str:=hgo R n need (L.length+D.length) L D w
section
variable {R:Str→Int} {n need:Int} {L D w r:List Str} {f:Str}
end
noncomputable def mkD(D:List Str)(z:Str):List Str:=if z∈D then D else D++[z]
structure HI(ns L D:List Str):Prop where
  ln:L.Nodup
  dn:D.Nodup
  s:∀z∈D,z∈L
  i:∀z∈L,z∈ns
noncomputable def hask(R:Str→Int)(n:Int)(s:List Str×List Str)(z:Str):(List Str×List Str)×N14.Row:=
  if z∈s.1 then ((s.1,mkD s.2 z),(z,true,[])) else (((hfin R n (R z) s.1 s.2 []).1++[z],mkD (hfin R n (R z) s.1 s.2 []).2.1 z),(z,false,(hfin R n (R z) s.1 s.2 []).2.2))
noncomputable def hst(R:Str→Int)(n:Int)(ys:List Str)(i:Nat):List Str×List Str:=(ys.take i).foldl (fun s z=>(hask R n s z).1) ([],[])
noncomputable def hrow(R:Str→Int)(n:Int)(ys:List Str)(i:Nat):N14.Row:=(hask R n (hst R n ys i) (ys.getD i Str.empty)).2
noncomputable def hfl(p od md:Addr)(n:Int):List (Str×V):=putF "marked" (.ref md) (putF "order" (.ref od) (putF "places" (.int n) (putF "stock" (.ref p) [])))
theorem hfl_stock{p od md:Addr}{n:Int}:(hfl p od md n).lookup ("stock":Str)=some (V.ref p):=by
  unfold hfl
  rw [lookup_putF,if_neg (by decide),lookup_putF,if_neg (by decide),lookup_putF,if_neg (by decide),lookup_putF,if_pos rfl]
theorem hfl_places{p od md:Addr}{n:Int}:(hfl p od md n).lookup ("places":Str)=some (V.int n):=by
  unfold hfl
  rw [lookup_putF,if_neg (by decide),lookup_putF,if_neg (by decide),lookup_putF,if_pos rfl]
noncomputable def MkAt(kvs:List (Key×V))(D:List Str):Prop:=∀z:Str,(valV kvs (Sum.inr z)).isSome=decide (z∈D)
theorem inr_ne'{y z:Str}(h:y≠z):(Sum.inr y:Key)≠Sum.inr z:=fun e=>h (by injection e)
structure HandAt(C:Addr)(H:Hp)(q p od md:Addr)(n:Int)(L D:List Str)(B:Nat):Prop where
  o:∃dx,H q=some (.ins C dx (hfl p od md n))
  l:H od=some (.lst (L.map V.str))
  m:∃kvs,H md=some (.dK kvs)∧MkAt kvs D∧kvs.length≤B
section
variable {C:Addr} {H H':Hp} {q p od md:Addr} {n:Int} {L D:List Str} {B:Nat}
end
structure RunS(K:PySem.W.Frag)(C S G:Addr)(H:Hp)(q p od md sh d:Addr)(n:Int)(ts:List Th)(ls:Ly)(L D:List Str)(B:Nat):Prop where
  h:HandAt G H q p od md n L D B
  s:ShelfAt S H sh p d n ls
  x:StockX K C H p ts d
  y:StockX K C H p ts md
  ne:d≠md
  pm:(lyN ls).Perm L
  ok:OkL (rm ts) (ts.map (·.1)) ls
section
variable {K:PySem.W.Frag} {C S G:Addr} {H H':Hp} {q p od md sh d:Addr} {n:Int} {ts:List Th} {ls:Ly} {L D:List Str} {B:Nat}
end
end N25
namespace N25
open PySem PySem.Spec PyProof.Rows L2 N1 N5 N4 N6 N12 N32 N14 N20
section
variable {K:PySem.W.Frag} {C S G:Addr} {H H' H1 H2:Hp} {q p od md sh d w:Addr} {n:Int} {ts:List Th} {ls:Ly} {L D:List Str} {B:Nat}
end
end N25
namespace N25
open PySem PySem.Spec PyProof.Rows L2 N1 N5 N4 N6 N12 N32 N14 N20
theorem nd_len{L M:List Str}(h:L.Nodup)(hs:∀z∈L,z∈M):L.length≤M.length:=by
  induction L generalizing M with
  | nil=>exact Nat.zero_le _
  | cons x r ih=>
    obtain ⟨hx,hr⟩:=List.nodup_cons.mp h
    have hm:=hs x (List.mem_cons_self ..)
    have:=ih (M:=M.erase x) hr fun z hz=>(List.mem_erase_of_ne (fun e=>hx (by rw [← e];exact hz))).mpr (hs z (List.mem_cons_of_mem _ hz))
    rw [List.length_erase_of_mem hm]at this
    have hp:0 < M.length:=List.length_pos_of_mem hm
    rw [List.length_cons]
    omega
end N25
namespace N25
open PySem PySem.Spec PyProof.Rows L2 N1 N5 N4 N6 N12 N32 N14 N20
structure MkL(kvs:List (Key×V))(L D:List Str)(B:Nat):Prop where
  v:∀z∈L,valV kvs (Sum.inr z)=some (.bl (decide (z∈D)))
  k:∃ks:List Str,kvs.map (·.1)=ks.map Sum.inr∧ks.length≤B
end N25
namespace N25
open PySem PySem.Spec PyProof.Rows L2 N1 N5 N4 N6 N12 N32 N14 N20 N18
end N25
namespace N25
open PySem PySem.Spec PyProof.Rows L2
end N25
set_option Elab.async false
set_option linter.all false
set_option maxRecDepth 100000
set_option maxHeartbeats 1000000
namespace NR
open PySem PySem.Spec PyProof.Rows L2 N1 N5 N4 N6 N12 N32 N14 N20 N18 N25
structure RuleT where
  C:Addr
  St:Type
  At:Hp→List Addr→Addr→Addr→Int→St→Prop
  asked:Int→St→Str→St
  pick:Int→St→List Str→St×Str
  gone:Int→St→Str→St
  came:Int→St→Str→St
  inv:List Str→Int→St→List Str→Prop
  mid:List Str→Int→Str→St→List Str→Prop
  dep:∀{H H':Hp} {M:List Addr} {q p:Addr} {n:Int} {s:St},(∀m∈M,∀o,H m=some o→H' m=some o)→At H M q p n s→At H' M q p n s
  live:∀{H:Hp} {M:List Addr} {q p:Addr} {n:Int} {s:St},At H M q p n s→∀m∈M,H m≠none
  obj:∀{H:Hp} {M:List Addr} {q p:Addr} {n:Int} {s:St},At H M q p n s→∃dx fs,H q=some (.ins C dx fs)∧fs.lookup ("stock":Str)=some (.ref p)∧fs.lookup ("places":Str)=some (.int n)∧fs.lookup ("asked":Str)=none∧fs.lookup ("choice":Str)=none∧fs.lookup ("gone":Str)=none∧fs.lookup ("came":Str)=none∧fs.lookup ("nests":Str)=none
  i_hit:∀{ns:List Str} {n:Int} {s:St} {l:List Str} {z:Str},inv ns n s l→z∈ns→z∈l→inv ns n (asked n s z) l
  i_mid:∀{ns:List Str} {n:Int} {s:St} {l:List Str} {z:Str},inv ns n s l→z∈ns→z∉l→mid ns n z (asked n s z) l
  i_pick:∀{ns:List Str} {n:Int} {s:St} {l:List Str} {z:Str},mid ns n z s l→l≠[]→(pick n s l).2∈l∧mid ns n z (gone n (pick n s l).1 (pick n s l).2) (l.erase (pick n s l).2)
  i_came:∀{ns:List Str} {n:Int} {s:St} {l:List Str} {z:Str},mid ns n z s l→z∈ns→z∉l→inv ns n (came n s z) (l++[z])
  cnt:St→Nat:=fun _=>0
  c_ask:∀n s z,cnt (asked n s z)≤cnt s+1:=by exact fun _ _ _=>Nat.zero_le _
  c_pick:∀n s l,cnt (pick n s l).1≤cnt s:=by exact fun _ _ _=>Nat.zero_le _
  c_gone:∀n s z,cnt (gone n s z)≤cnt s:=by exact fun _ _ _=>Nat.zero_le _
  c_came:∀n s z,cnt (came n s z)≤cnt s:=by exact fun _ _ _=>Nat.zero_le _
noncomputable def gfin(T:RuleT)(R:Str→Int)(n need:Int):Nat→T.St→List Str→List Str→T.St×List Str×List Str
  | 0,s,l,w=>(s,l,w)
  | k+1,s,l,w=>if need≤n - N41.sm R l then (s,l,w) else gfin T R n need k (T.gone n (T.pick n s l).1 (T.pick n s l).2) (l.erase (T.pick n s l).2) (w++[(T.pick n s l).2])
noncomputable def gf(T:RuleT)(R:Str→Int)(n need:Int)(s:T.St)(l w:List Str):T.St×List Str×List Str:=gfin T R n need l.length s l w
section
variable {T:RuleT} {R:Str→Int} {n need:Int} {s:T.St} {l w ns:List Str} {z:Str}
end
noncomputable def gask(T:RuleT)(R:Str→Int)(n:Int)(s:T.St×List Str)(z:Str):(T.St×List Str)×N14.Row:=
  if z∈s.2 then ((T.asked n s.1 z,s.2),(z,true,[]))
  else ((T.came n (gf T R n (R z) (T.asked n s.1 z) s.2 []).1 z,(gf T R n (R z) (T.asked n s.1 z) s.2 []).2.1++[z]),(z,false,(gf T R n (R z) (T.asked n s.1 z) s.2 []).2.2))
noncomputable def gst(T:RuleT)(R:Str→Int)(n:Int)(s0:T.St)(ys:List Str)(i:Nat):T.St×List Str:=(ys.take i).foldl (fun s z=>(gask T R n s z).1) (s0,[])
noncomputable def grow(T:RuleT)(R:Str→Int)(n:Int)(s0:T.St)(ys:List Str)(i:Nat):N14.Row:=(gask T R n (gst T R n s0 ys i) (ys.getD i Str.empty)).2
noncomputable def grows(T:RuleT)(R:Str→Int)(n:Int)(s0:T.St)(ys:List Str)(i:Nat):List N14.Row:=(List.range i).map (grow T R n s0 ys)
section
variable {T:RuleT} {R:Str→Int} {n:Int} {s0:T.St} {ys ns:List Str} {i:Nat} {z:Str}
theorem mem_eq{u v:Str}{l:List Str}(e:u=v)(h:u∈l):v∈l:=e▸h
structure GI(T:RuleT)(ns:List Str)(n:Int)(s:T.St×List Str):Prop where
  i:T.inv ns n s.1 s.2
  nd:s.2.Nodup
  s:∀u∈s.2,u∈ns
end
structure RunG(T:RuleT)(K:PySem.W.Frag)(C S:Addr)(H0 H:Hp)(q p sh d:Addr)(M:List Addr)(n:Int)(ts:List Th)(ls:Ly)(s:T.St):Prop where
  h:T.At H M q p n s
  shf:ShelfAt S H sh p d n ls
  st:StockAt K C H0 p ts
  sm:Same H0 H
  n0:∀m∈M,H0 m=none
  nd:H0 d=none
  nsh:sh∉M
  ndm:d∉M
  ok:OkL (rm ts) (ts.map (·.1)) ls
section
variable {T:RuleT} {K:PySem.W.Frag} {C S:Addr} {H0 H H' H1 H2:Hp} {q p sh d w:Addr} {M:List Addr} {n:Int} {ts:List Th} {ls:Ly} {s s':T.St}
end
noncomputable def spR_nests(T:RuleT)(b:Bool):Sp:=fun vs H Q _=>∃(q:Addr),vs=[.ref q]∧Q (.bl b) H
noncomputable def spR_asked(T:RuleT):Sp:=fun vs H Q _=>∃(q p:Addr) (n:Int) (M:List Addr) (s:T.St) (l ns:List Str) (z:Str),vs=[.ref q,.str z]∧T.At H M q p n s∧T.inv ns n s l∧z∈ns∧ns.length≤60∧∀H',Kp M H H'→T.At H' M q p n (T.asked n s z)→Q .non H'
noncomputable def spR_choice(T:RuleT)(K:PySem.W.Frag):Sp:=fun vs H Q _=>∃(q p a:Addr) (n:Int) (M:List Addr) (s:T.St) (l ns:List Str) (z:Str),vs=[.ref q,.ref a]∧T.At H M q p n s∧T.mid ns n z s l∧l≠[]∧H a=some (.lst (l.map V.str))∧a∉M∧ns.length≤60∧l.length≤60∧T.cnt s≤300∧∀H',Kp M H H'→T.At H' M q p n (T.pick n s l).1→Q (.str (T.pick n s l).2) H'
noncomputable def spR_gone(T:RuleT):Sp:=fun vs H Q _=>∃(q p:Addr) (n:Int) (M:List Addr) (s:T.St) (l ns:List Str) (z:Str),vs=[.ref q,.str (T.pick n s l).2]∧T.At H M q p n (T.pick n s l).1∧T.mid ns n z s l∧l≠[]∧ns.length≤60∧∀H',Kp M H H'→T.At H' M q p n (T.gone n (T.pick n s l).1 (T.pick n s l).2)→Q .non H'
noncomputable def spR_came(T:RuleT):Sp:=fun vs H Q _=>∃(q p:Addr) (n:Int) (M:List Addr) (s:T.St) (l ns:List Str) (z:Str),vs=[.ref q,.str z]∧T.At H M q p n s∧T.mid ns n z s l∧z∈ns∧z∉l∧ns.length≤60∧∀H',Kp M H H'→T.At H' M q p n (T.came n s z)→Q .non H'
noncomputable def spR_room(T:RuleT)(K:PySem.W.Frag)(C S:Addr):Sp:=fun vs H Q _=>∃(H0:Hp) (q p sh d:Addr) (M:List Addr) (n need:Int) (ts:List Th) (ls:Ly) (s:T.St) (z:Str),vs=[.ref q,.ref sh,.int need]∧RunG T K C S H0 H q p sh d M n ts ls s∧T.mid (ts.map (·.1)) n z s (lyN ls)∧need≤n∧ls.length≤60∧ts.length≤60∧T.cnt s≤300∧
  ∀(w:Addr) (ls':Ly) (H':Hp),Kp (d::M) H H'→H w=none→H' w=some (.lst ((gf T (rm ts) n need s (lyN ls) []).2.2.map V.str))→lyN ls'=(gf T (rm ts) n need s (lyN ls) []).2.1→RunG T K C S H0 H' q p sh d M n ts ls' (gf T (rm ts) n need s (lyN ls) []).1→Q (.ref w) H'
noncomputable def spR_row(T:RuleT)(K:PySem.W.Frag)(C S:Addr):Sp:=fun vs H Q _=>∃(H0:Hp) (q p sh d:Addr) (M:List Addr) (n:Int) (ts:List Th) (ls:Ly) (s:T.St) (z:Str),vs=[.ref q,.ref sh,.str z]∧RunG T K C S H0 H q p sh d M n ts ls s∧T.inv (ts.map (·.1)) n s (lyN ls)∧(ts.map (·.1)).Nodup∧ts.length≤60∧z∈ts.map (·.1)∧rm ts z≤n∧T.cnt s≤299∧
  ∀(t g:Addr) (ls':Ly) (H':Hp),Kp (d::M) H H'→H t=none→H g=none→H' t=some (.tup [.str (gask T (rm ts) n (s,lyN ls) z).2.1,.bl (gask T (rm ts) n (s,lyN ls) z).2.2.1,.ref g])→H' g=some (.lst ((gask T (rm ts) n (s,lyN ls) z).2.2.2.map V.str))→lyN ls'=(gask T (rm ts) n (s,lyN ls) z).1.2→RunG T K C S H0 H' q p sh d M n ts ls' (gask T (rm ts) n (s,lyN ls) z).1.1→Q (.ref t) H'
noncomputable def spR_book(T:RuleT)(K:PySem.W.Frag)(C S:Addr):Sp:=fun vs H Q _=>∃(H0:Hp) (q p a:Addr) (M:List Addr) (n:Int) (ts:List Th) (ys:List Str) (s0:T.St),vs=[.ref q,.ref a]∧T.At H M q p n s0∧T.inv (ts.map (·.1)) n s0 []∧StockAt K C H0 p ts∧Same H0 H∧(∀m∈M,H0 m=none)∧(ts.map (·.1)).Nodup∧ts.length≤60∧SqL K H a (ys.map V.str)∧a∉M∧ys.length≤200∧(∀y∈ys,y∈ts.map (·.1))∧(∀y∈ys,rm ts y≤n)∧1≤n∧n≤1000000∧T.cnt s0≤50∧
  ∀(b:Addr) (as gs:List Addr) (H':Hp),Kp M H H'→H' b=some (.lst (as.map V.ref))→(∀(i:Nat) a,as[i]?=some a→∃xs,H' a=some (.tup xs))→BookAt K H' b as gs (grows T (rm ts) n s0 ys ys.length)→T.At H' M q p n (gst T (rm ts) n s0 ys ys.length).1→Q (.ref b) H'
end NR
set_option Elab.async false
set_option linter.all false
set_option maxRecDepth 100000
set_option maxHeartbeats 1000000
namespace L2
open PySem PySem.Spec PyProof.Rows
section
variable {X:Cx} {CX:CXT} {k j:Nat} {C:Bool→Addr} {ps:List Str} {sp:Bool→Sp} {EE:St→XK} {m:Str} {pos apos:Pos} {e o:Expr} {es:List Expr} {ta:TE} {t:TA}
end
end L2
namespace N22
open PySem PySem.Spec PyProof.Rows L2 N1 N5 N4 N6 N12 N32 N14 N20 N18 N25 NR
noncomputable def rf0(p:Addr)(n:Int):List (Str×V):=putF "places" (.int n) (putF "stock" (.ref p) [])
noncomputable def rf1(p:Addr)(n k:Int)(la pa:Addr):List (Str×V):=putF "put_at" (.ref pa) (putF "last" (.ref la) (putF "present" (.int k) (rf0 p n)))
theorem headD_mem{l:List Str}(h:l≠[]):l.headD Str.empty∈l:=by
  cases l with
  | nil=>exact absurd rfl h
  | cons x r=>exact List.mem_cons_self ..
structure S1 where
  k:Int
  la:List (Key×V)
  pu:List (Key×V)
noncomputable def pv(s:S1)(z:Str):Int:=match valV s.pu (Sum.inr z) with
  | some (.int i)=>i
  | _=>0
noncomputable def KeysIn(kvs:List (Key×V))(ns:List Str):Prop:=∃ks:List Str,kvs.map (·.1)=ks.map Sum.inr∧ks.Nodup∧∀z∈ks,z∈ns
theorem KeysIn.nil{ns:List Str}:KeysIn [] ns:=⟨[],rfl,List.nodup_nil,by simp⟩
theorem KeysIn.len{kvs:List (Key×V)}{ns:List Str}(h:KeysIn kvs ns):kvs.length≤ns.length:=by
  obtain ⟨ks,e,nd,s⟩:=h
  have:=congrArg List.length e
  rw [List.length_map,List.length_map]at this
  have:=nd_len nd s
  omega
theorem KeysIn.put{kvs:List (Key×V)}{ns:List Str}{z:Str}{v:V}(h:KeysIn kvs ns)(hz:z∈ns):KeysIn (putK kvs (Sum.inr z) v) ns:=by
  obtain ⟨ks,e,nd,s⟩:=h
  refine ⟨if z∈ks then ks else ks++[z],N53.put_both e,?_,?_⟩
  · split
    · exact nd
    · rename_i hn
      rw [List.nodup_append]
      exact ⟨nd,by simp,fun a ha b hb e2=>hn (mem_eq (e2.trans (List.mem_singleton.mp hb)) ha)⟩
  · intro u hu
    split at hu
    · exact s u hu
    · rcases List.mem_append.mp hu with hu | hu
      · exact s u hu
      · rw [List.mem_singleton.mp hu];exact hz
structure FI(ns:List Str)(s:S1)(l:List Str)(B:Int):Prop where
  a:KeysIn s.la ns
  b:KeysIn s.pu ns
  v:∀z∈l,∃i,valV s.pu (Sum.inr z)=some (.int i)∧i≤B
  o:l.Pairwise fun x y=>pv s x < pv s y
theorem pv_at{s:S1}{z:Str}{i:Int}(h:valV s.pu (Sum.inr z)=some (.int i)):pv s z=i:=by unfold pv;rw [h]
noncomputable def f1ask(s:S1)(z:Str):S1:=⟨s.k+1,putK s.la (Sum.inr z) (.int (s.k+1)),s.pu⟩
noncomputable def f1came(s:S1)(z:Str):S1:=⟨s.k,s.la,putK s.pu (Sum.inr z) (.int s.k)⟩
theorem FI.ask{ns:List Str}{s:S1}{l:List Str}{z:Str}{B:Int}(h:FI ns s l B)(hz:z∈ns):FI ns (f1ask s z) l B:=⟨h.a.put hz,h.b,h.v,h.o⟩
theorem FI.mono{ns:List Str}{s:S1}{l:List Str}{B B':Int}(h:FI ns s l B)(hb:B≤B'):FI ns s l B':=⟨h.a,h.b,fun z hz=>(h.v z hz).imp fun _ e=>⟨e.1,Int.le_trans e.2 hb⟩,h.o⟩
theorem FI.drop{ns:List Str}{s:S1}{l:List Str}{z:Str}{B:Int}(h:FI ns s l B):FI ns s (l.erase z) B:=
  ⟨h.a,h.b,fun u hu=>h.v u (List.mem_of_mem_erase hu),h.o.sublist List.erase_sublist⟩
theorem FI.came{ns:List Str}{s:S1}{l:List Str}{z:Str}(h:FI ns s l (s.k - 1))(hz:z∈ns)(hn:z∉l):FI ns (f1came s z) (l++[z]) s.k:=by
  have hne:∀u∈l,(Sum.inr u:Key)≠Sum.inr z:=fun u hu e=>hn (by injection e with e;rw [← e];exact hu)
  have hold:∀u∈l,valV (putK s.pu (Sum.inr z) (.int s.k)) (Sum.inr u)=valV s.pu (Sum.inr u):=fun u hu=>by rw [valV_put,if_neg (hne u hu)]
  have hnew:valV (putK s.pu (Sum.inr z) (.int s.k)) (Sum.inr z)=some (.int s.k):=by rw [valV_put,if_pos rfl]
  have pold:∀u∈l,pv (f1came s z) u=pv s u:=fun u hu=>by
    unfold pv f1came
    simp only
    rw [hold u hu]
  refine ⟨h.a,h.b.put hz,fun u hu=>?_,?_⟩
  · rcases List.mem_append.mp hu with hu | hu
    · obtain ⟨i,e,hi⟩:=h.v u hu
      exact ⟨i,(hold u hu).trans e,by omega⟩
    · rw [List.mem_singleton.mp hu]
      exact ⟨s.k,hnew,Int.le_refl _⟩
  · rw [List.pairwise_append]
    refine ⟨?_,List.pairwise_singleton ..,fun u hu y hy=>?_⟩
    · exact h.o.imp_of_mem fun hx hy hxy=>by rw [pold _ hx,pold _ hy];exact hxy
    · rw [List.mem_singleton]at hy
      rw [hy,pold u hu]
      obtain ⟨i,e,hi⟩:=h.v u hu
      rw [pv_at e,pv_at (s:=f1came s z) hnew]
      omega
noncomputable def FAt(C:Addr)(H:Hp)(M:List Addr)(q p:Addr)(n:Int)(s:S1):Prop:=∃la pa,M=[q,la,pa]∧la≠pa∧(∃dx,H q=some (.ins C dx (rf1 p n s.k la pa)))∧H la=some (.dK s.la)∧H pa=some (.dK s.pu)
noncomputable def T1(C:Addr):RuleT where
  C:=C
  St:=S1
  At:=FAt C
  asked:=fun _ s z=>f1ask s z
  pick:=fun _ s l=>(s,l.headD Str.empty)
  gone:=fun _ s _=>s
  came:=fun _ s z=>f1came s z
  inv:=fun ns _ s l=>FI ns s l s.k
  mid:=fun ns _ _ s l=>FI ns s l (s.k - 1)
  dep:=fun e ⟨la,pa,hM,d,⟨dx,ho⟩,h1,h2⟩=>by
    rw [hM]at e
    exact ⟨la,pa,hM,d,⟨dx,e _ (by simp) _ ho⟩,e _ (by simp) _ h1,e _ (by simp) _ h2⟩
  live:=fun ⟨la,pa,hM,d,⟨dx,ho⟩,h1,h2⟩ m hm e=>by
    rw [hM]at hm
    simp only [List.mem_cons,List.not_mem_nil,or_false]at hm
    rcases hm with e1 | e1 | e1
    · rw [e1,ho]at e;cases e
    · rw [e1,h1]at e;cases e
    · rw [e1,h2]at e;cases e
  obj:=fun ⟨la,pa,hM,d,⟨dx,ho⟩,h1,h2⟩=>⟨dx,_,ho,by rfl,by rfl,by rfl,by rfl,by rfl,by rfl,by rfl⟩
  i_hit:=fun {ns n s l z} h hz _=>(FI.ask h hz).mono (show s.k≤s.k+1 by omega)
  i_mid:=fun {ns n s l z} h hz _=>(FI.ask h hz).mono (show s.k≤s.k+1 - 1 by omega)
  i_pick:=fun h hl=>⟨headD_mem hl,FI.drop h⟩
  i_came:=fun h hz hn=>FI.came h hz hn
noncomputable def sp22_init(C:Addr):Sp:=fun vs H Q _=>∃(q dx p:Addr) (n:Int),vs=[.ref q,.ref p,.int n]∧H q=some (.ins C dx [])∧1≤n∧n≤1000000∧∀H' la pa,SameBut q H H'→H la=none→H pa=none→FAt C H' [q,la,pa] q p n ⟨0,[],[]⟩→Q .non H'
noncomputable def sp22_number(C:Addr):Sp:=fun vs H Q _=>∃(q p:Addr) (n:Int) (M:List Addr) (s:S1) (z:Str),vs=[.ref q,.str z]∧FAt C H M q p n s∧s.la.length≤1000∧∀H',Kp M H H'→FAt C H' M q p n (f1ask s z)→Q .non H'
noncomputable def sp22_rank(C:Addr):Sp:=fun vs H Q _=>∃(q p:Addr) (n:Int) (M:List Addr) (s:S1) (z:Str) (i:Int),vs=[.ref q,.str z]∧FAt C H M q p n s∧valV s.pu (Sum.inr z)=some (.int i)∧∀t,H t=none→Q (.ref t) (upd H t (.tup [.int i]))
noncomputable def spR2_room(T:Bool→RuleT)(K:PySem.W.Frag)(C S:Addr):Sp:=fun vs H Q E=>∃b,spR_room (T b) K C S vs H Q E
noncomputable def spR2_row(T:Bool→RuleT)(K:PySem.W.Frag)(C S:Addr):Sp:=fun vs H Q E=>∃b,spR_row (T b) K C S vs H Q E
noncomputable def spR2_book(T:Bool→RuleT)(K:PySem.W.Frag)(C S:Addr):Sp:=fun vs H Q E=>∃b,spR_book (T b) K C S vs H Q E
section
variable {p la pa:Addr} {n k k':Int}
end
end N22
set_option Elab.async false
set_option linter.all false
set_option maxRecDepth 100000
set_option maxHeartbeats 1000000
namespace N21
open PySem PySem.Spec PyProof.Rows L2 N1 N5 N4 N6 N12 N32 N14 N20 N18 N25 NR N22
structure S2 where
  k:Int
  la:List (Key×V)
noncomputable def lv(s:S2)(z:Str):Int:=match valV s.la (Sum.inr z) with
  | some (.int i)=>i
  | _=>0
theorem lv_at{s:S2}{z:Str}{i:Int}(h:valV s.la (Sum.inr z)=some (.int i)):lv s z=i:=by unfold lv;rw [h]
noncomputable def lmin(v:Str→Int)(l:List Str):Str:=l.getD (argBest (fun i j=>decide (v (l.getD i Str.empty) < v (l.getD j Str.empty))) (l.length - 1)) Str.empty
theorem lmin_ok{v:Str→Int}{l:List Str}(h:l≠[]):lmin v l∈l∧∀u∈l,v (lmin v l)≤v u:=by
  have hl0:0 < l.length:=List.length_pos_iff.mpr h
  have hb:=best_lt (fun i=>v (l.getD i Str.empty)) (l.length - 1)
  unfold lmin
  generalize argBest (fun i j=>decide (v (l.getD i Str.empty) < v (l.getD j Str.empty))) (l.length - 1)=m at hb
  have hm:m < l.length:=by omega
  refine ⟨?_,fun u hu=>?_⟩
  · rw [List.getD_eq_getElem?_getD,List.getElem?_eq_getElem hm];exact List.getElem_mem hm
  · obtain ⟨j,hj⟩:=List.mem_iff_getElem?.mp hu
    have hjl:=(List.getElem?_eq_some_iff.mp hj).1
    have:=hb.2 j (by omega)
    rw [show l.getD j Str.empty=u by rw [List.getD_eq_getElem?_getD,hj];rfl]at this
    exact this
structure LI(ns:List Str)(s:S2)(l:List Str):Prop where
  a:KeysIn s.la ns
  v:∀z∈l,∃i,valV s.la (Sum.inr z)=some (.int i)∧i≤s.k
  o:l.Pairwise fun x y=>lv s x≠lv s y
noncomputable def ask2(s:S2)(z:Str):S2:=⟨s.k+1,putK s.la (Sum.inr z) (.int (s.k+1))⟩
theorem ask_old{s:S2}{z u:Str}(h:u≠z):valV (ask2 s z).la (Sum.inr u)=valV s.la (Sum.inr u):=by
  unfold ask2;simp only;rw [valV_put,if_neg (inr_ne' h)]
theorem ask_new{s:S2}{z:Str}:valV (ask2 s z).la (Sum.inr z)=some (.int (s.k+1)):=by
  unfold ask2;simp only;rw [valV_put,if_pos rfl]
theorem lv_old{s:S2}{z u:Str}(h:u≠z):lv (ask2 s z) u=lv s u:=by unfold lv;rw [ask_old h]
theorem lv_new{s:S2}{z:Str}:lv (ask2 s z) z=s.k+1:=lv_at ask_new
theorem LI.le{ns:List Str}{s:S2}{l:List Str}(h:LI ns s l):∀z∈l,lv s z≤s.k:=fun z hz=>by
  obtain ⟨i,e,hi⟩:=h.v z hz
  rw [lv_at e];exact hi
theorem LI.ask{ns:List Str}{s:S2}{l:List Str}{z:Str}(h:LI ns s l)(hz:z∈ns):LI ns (ask2 s z) l:=by
  refine ⟨h.a.put hz,fun u hu=>?_,h.o.imp_of_mem fun {x y} hx hy hxy=>?_⟩
  · by_cases e:u=z
    · rw [e];exact ⟨_,ask_new,Int.le_refl _⟩
    · obtain ⟨i,e1,e2⟩:=h.v u hu
      exact ⟨i,(ask_old e).trans e1,by show i≤s.k+1;omega⟩
  · have lx:=h.le x hx
    have ly:=h.le y hy
    by_cases ex:x=z
    · by_cases ey:y=z
      · exact absurd (by rw [ex,ey]) hxy
      · rw [ex,lv_new,lv_old ey];omega
    · by_cases ey:y=z
      · rw [ey,lv_new,lv_old ex];omega
      · rw [lv_old ex,lv_old ey];exact hxy
theorem LI.drop{ns:List Str}{s:S2}{l:List Str}{z:Str}(h:LI ns s l):LI ns s (l.erase z):=
  ⟨h.a,fun u hu=>h.v u (List.mem_of_mem_erase hu),h.o.sublist List.erase_sublist⟩
structure LM(ns:List Str)(z:Str)(s:S2)(l:List Str):Prop where
  i:LI ns s l
  z:valV s.la (Sum.inr z)=some (.int s.k)
  b:∀u∈l,lv s u < s.k
theorem LI.mid{ns:List Str}{s:S2}{l:List Str}{z:Str}(h:LI ns s l)(hz:z∈ns)(hn:z∉l):LM ns z (ask2 s z) l:=
  ⟨h.ask hz,ask_new,fun u hu=>by
    have:=h.le u hu
    have e:lv (ask2 s z) u=lv s u:=lv_old (fun e=>hn (by rw [← e];exact hu))
    show lv (ask2 s z) u < s.k+1
    omega⟩
theorem LM.came{ns:List Str}{s:S2}{l:List Str}{z:Str}(h:LM ns z s l):LI ns s (l++[z]):=by
  refine ⟨h.i.a,fun u hu=>?_,?_⟩
  · rcases List.mem_append.mp hu with hu | hu
    · exact h.i.v u hu
    · rw [List.mem_singleton.mp hu];exact ⟨_,h.z,Int.le_refl _⟩
  · rw [List.pairwise_append]
    refine ⟨h.i.o,List.pairwise_singleton ..,fun u hu y hy=>?_⟩
    rw [List.mem_singleton.mp hy,lv_at h.z]
    have:=h.b u hu
    omega
noncomputable def rf2(p:Addr)(n k:Int)(la:Addr):List (Str×V):=putF "last" (.ref la) (putF "present" (.int k) (rf0 p n))
noncomputable def OAt(C:Addr)(H:Hp)(M:List Addr)(q p:Addr)(n:Int)(s:S2):Prop:=∃la,M=[q,la]∧(∃dx,H q=some (.ins C dx (rf2 p n s.k la)))∧H la=some (.dK s.la)
noncomputable def T2(C:Addr):RuleT where
  C:=C
  St:=S2
  At:=OAt C
  asked:=fun _ s z=>ask2 s z
  pick:=fun _ s l=>(s,lmin (lv s) l)
  gone:=fun _ s _=>s
  came:=fun _ s _=>s
  inv:=fun ns _ s l=>LI ns s l
  mid:=fun ns _ z s l=>LM ns z s l
  dep:=fun e ⟨la,hM,⟨dx,ho⟩,h1⟩=>by
    rw [hM]at e
    exact ⟨la,hM,⟨dx,e _ (by simp) _ ho⟩,e _ (by simp) _ h1⟩
  live:=fun ⟨la,hM,⟨dx,ho⟩,h1⟩ m hm e=>by
    rw [hM]at hm
    simp only [List.mem_cons,List.not_mem_nil,or_false]at hm
    rcases hm with e1 | e1
    · rw [e1,ho]at e;cases e
    · rw [e1,h1]at e;cases e
  obj:=fun ⟨la,hM,⟨dx,ho⟩,h1⟩=>⟨dx,_,ho,by rfl,by rfl,by rfl,by rfl,by rfl,by rfl,by rfl⟩
  i_hit:=fun h hz _=>LI.ask h hz
  i_mid:=fun h hz hn=>LI.mid h hz hn
  i_pick:=fun h hl=>⟨(lmin_ok hl).1,LI.drop h.i,h.z,fun u hu=>h.b u (List.mem_of_mem_erase hu)⟩
  i_came:=fun h _ _=>LM.came h
noncomputable def RT2(c1 c2:Addr)(b:Bool):RuleT:=bif b then T2 c1 else T2 c2
structure Sim(T T':RuleT)(f:T.St→T'.St):Prop where
  a:∀n s z,T'.asked n (f s) z=f (T.asked n s z)
  p1:∀n s l,(T'.pick n (f s) l).1=f (T.pick n s l).1
  p2:∀n s l,(T'.pick n (f s) l).2=(T.pick n s l).2
  g:∀n s z,T'.gone n (f s) z=f (T.gone n s z)
  c:∀n s z,T'.came n (f s) z=f (T.came n s z)
section
variable {T T':RuleT} {f:T.St→T'.St} {R:Str→Int} {n:Int}
end
noncomputable def s20:S2:=⟨0,[]⟩
noncomputable def st2(c1 c2:Addr):(b:Bool)→(T2 c1).St→(RT2 c1 c2 b).St
  | true,s=>s
  | false,s=>s
section
variable {p la:Addr} {n k k':Int}
theorem rf2_len:(rf2 p n k la).length=4:=by rfl
end
noncomputable def sp21_number(C:Addr):Sp:=fun vs H Q _=>∃(q p:Addr) (n:Int) (M:List Addr) (s:S2) (z:Str),vs=[.ref q,.str z]∧OAt C H M q p n s∧s.la.length≤1000∧∀H',Kp M H H'→OAt C H' M q p n (ask2 s z)→Q .non H'
noncomputable def sp21_last(C:Addr):Sp:=fun vs H Q _=>∃(q p:Addr) (n:Int) (M:List Addr) (s:S2) (z:Str) (i:Int),vs=[.ref q,.str z]∧OAt C H M q p n s∧valV s.la (Sum.inr z)=some (.int i)∧Q (.int i) H
noncomputable def sp21_rank(C:Addr):Sp:=fun vs H Q _=>∃(q p:Addr) (n:Int) (M:List Addr) (s:S2) (z:Str) (i:Int),vs=[.ref q,.str z]∧OAt C H M q p n s∧valV s.la (Sum.inr z)=some (.int i)∧∀t,H t=none→Q (.ref t) (upd H t (.tup [.int i]))
noncomputable def spR_bookN(T:RuleT)(K:PySem.W.Frag)(C S:Addr):Sp:=fun vs H Q _=>∃(H0:Hp) (q p a:Addr) (M:List Addr) (n:Int) (ts:List Th) (ys:List Str) (s0:T.St),vs=[.ref q,.ref a]∧T.At H M q p n s0∧T.inv (ts.map (·.1)) n s0 []∧StockAt K C H0 p ts∧Same H0 H∧(∀m∈M,H0 m=none)∧(ts.map (·.1)).Nodup∧ts.length≤60∧SqL K H a (ys.map V.str)∧a∉M∧ys.length≤200∧(∀y∈ys,y∈ts.map (·.1))∧(∀y∈ys,rm ts y≤n)∧1≤n∧n≤1000000∧T.cnt s0≤50∧
  ∀(b:Addr) (as gs:List Addr) (H':Hp),Kp M H H'→H' b=some (.lst (as.map V.ref))→(∀(i:Nat) a,as[i]?=some a→∃xs,H' a=some (.tup xs))→BookAt K H' b as gs (grows T (rm ts) n s0 ys ys.length)→T.At H' M q p n (gst T (rm ts) n s0 ys ys.length).1→H b=none→b∉gs→gs.Nodup→(∀(i:Nat) a g,as[i]?=some a→gs[i]?=some g→H a=none∧H g=none∧g∉M∧H' a=some (.tup [.str (NR.grow T (rm ts) n s0 ys i).1,.bl (NR.grow T (rm ts) n s0 ys i).2.1,.ref g])∧H' g=some (.lst ((NR.grow T (rm ts) n s0 ys i).2.2.map V.str)))→Q (.ref b) H'
structure LineI(s:S2)(l line:List Str):Prop where
  p:line.Perm l
  o:line.Pairwise fun x y=>lv s x < lv s y
end N21
set_option Elab.async false
set_option linter.all false
set_option maxRecDepth 100000
set_option maxHeartbeats 1000000
namespace N24
open PySem PySem.Spec PyProof.Rows L2 N1 N5 N4 N6 N12 N32 N14 N20 N18 N25 NR N22 N21
noncomputable def nx(ys:List Str)(j:Nat)(z:Str):Nat:=min (j+(ys.drop j).findIdx fun y=>decide (y=z)) ys.length
theorem nx_at{ys:List Str}{j t:Nat}{z:Str}(h:ys[j+t]?=some z)(hno:∀u,u < t→ys[j+u]?≠some z):nx ys j z=j+t:=by
  unfold nx
  have hl:=(List.getElem?_eq_some_iff.mp h).1
  have hd:t < (ys.drop j).length:=by rw [List.length_drop];omega
  have e:(ys.drop j).findIdx (fun y=>decide (y=z))=t:=by
    rw [List.findIdx_eq hd]
    refine ⟨?_,fun u hu=>?_⟩
    · have:=(List.getElem?_eq_some_iff.mp h).2
      rw [List.getElem_drop];exact decide_eq_true this
    · have:=hno u hu
      rw [List.getElem?_eq_getElem (show j+u < ys.length by omega)]at this
      rw [List.getElem_drop];exact decide_eq_false (fun e=>this (by rw [e]))
  rw [e];omega
theorem nx_end{ys:List Str}{j:Nat}{z:Str}(hno:∀u,j+u < ys.length→ys[j+u]?≠some z):nx ys j z=ys.length:=by
  unfold nx
  have e:(ys.drop j).findIdx (fun y=>decide (y=z))=(ys.drop j).length:=by
    rw [List.findIdx_eq_length]
    intro y hy
    obtain ⟨u,hu⟩:=List.mem_iff_getElem?.mp hy
    rw [List.getElem?_drop]at hu
    have hl:=(List.getElem?_eq_some_iff.mp hu).1
    exact decide_eq_false (fun e=>hno u hl (by rw [hu,e]))
  rw [e,List.length_drop];omega
noncomputable def rkF(ys:List Str)(s:S2)(z:Str):List Int:=[0 - ((nx ys s.k.toNat z:Int)+1),lv s z]
noncomputable def fmin(ys:List Str)(s:S2)(l:List Str):Str:=l.getD (argBest (btK fun i=>rkF ys s (l.getD i Str.empty)) (l.length - 1)) Str.empty
theorem lex2{a b c d:Int}:HT.lexLt [a,b] [c,d]=decide (a < c∨(a=c∧b < d)):=by
  show (if a=c then (if b=d then false else decide (b < d)) else decide (a < c))=_
  by_cases h:a=c
  · rw [if_pos h]
    by_cases h2:b=d
    · rw [if_pos h2];symm;exact decide_eq_false (by omega)
    · rw [if_neg h2]
      by_cases h3:b < d
      · rw [decide_eq_true h3];symm;exact decide_eq_true (by omega)
      · rw [decide_eq_false h3];symm;exact decide_eq_false (by omega)
  · rw [if_neg h]
    by_cases h3:a < c
    · rw [decide_eq_true h3];symm;exact decide_eq_true (by omega)
    · rw [decide_eq_false h3];symm;exact decide_eq_false (by omega)
theorem best2(a b:Nat→Int):∀k,argBest (btK fun i=>[a i,b i]) k≤k∧∀j,j≤k→¬(a j < a (argBest (btK fun i=>[a i,b i]) k)∨(a j=a (argBest (btK fun i=>[a i,b i]) k)∧b j < b (argBest (btK fun i=>[a i,b i]) k))):=by
  intro k
  induction k with
  | zero=>exact ⟨Nat.le_refl _,fun j hj=>by rw [Nat.le_zero.mp hj];show ¬(a 0 < a 0∨(a 0=a 0∧b 0 < b 0));omega⟩
  | succ k ih=>
    have e:argBest (btK fun i=>[a i,b i]) (k+1)=if HT.lexLt [a (k+1),b (k+1)] [a (argBest (btK fun i=>[a i,b i]) k),b (argBest (btK fun i=>[a i,b i]) k)]=true then k+1 else argBest (btK fun i=>[a i,b i]) k:=rfl
    rw [e,lex2]
    generalize argBest (btK fun i=>[a i,b i]) k=m at ih
    split
    · rename_i h
      have h:=of_decide_eq_true h
      refine ⟨Nat.le_refl _,fun j hj=>?_⟩
      by_cases e:j=k+1
      · rw [e];omega
      · have:=ih.2 j (by omega);omega
    · rename_i h
      have h:¬(a (k+1) < a m∨(a (k+1)=a m∧b (k+1) < b m)):=fun z=>h (decide_eq_true z)
      refine ⟨Nat.le_succ_of_le ih.1,fun j hj=>?_⟩
      by_cases e:j=k+1
      · rw [e];exact h
      · exact ih.2 j (by omega)
theorem fmin_ok{ys:List Str}{s:S2}{l:List Str}(h:l≠[]):fmin ys s l∈l∧∀u∈l,nx ys s.k.toNat u < nx ys s.k.toNat (fmin ys s l)∨(nx ys s.k.toNat u=nx ys s.k.toNat (fmin ys s l)∧lv s (fmin ys s l)≤lv s u):=by
  have hl0:0 < l.length:=List.length_pos_iff.mpr h
  have hb:=best2 (fun i=>0 - ((nx ys s.k.toNat (l.getD i Str.empty):Int)+1)) (fun i=>lv s (l.getD i Str.empty)) (l.length - 1)
  unfold fmin
  have e:(fun i=>rkF ys s (l.getD i Str.empty))=fun i=>[0 - ((nx ys s.k.toNat (l.getD i Str.empty):Int)+1),lv s (l.getD i Str.empty)]:=rfl
  rw [e]
  generalize argBest (btK fun i=>[0 - ((nx ys s.k.toNat (l.getD i Str.empty):Int)+1),lv s (l.getD i Str.empty)]) (l.length - 1)=m at hb
  have hm:m < l.length:=by omega
  refine ⟨?_,fun u hu=>?_⟩
  · rw [List.getD_eq_getElem?_getD,List.getElem?_eq_getElem hm];exact List.getElem_mem hm
  · obtain ⟨j,hj⟩:=List.mem_iff_getElem?.mp hu
    have hjl:=(List.getElem?_eq_some_iff.mp hj).1
    have:=hb.2 j (by omega)
    rw [show l.getD j Str.empty=u by rw [List.getD_eq_getElem?_getD,hj];rfl]at this
    omega
noncomputable def rf3(p:Addr)(n k:Int)(la ak:Addr):List (Str×V):=putF "asks" (.ref ak) (rf2 p n k la)
noncomputable def QAt(C:Addr)(ys:List Str)(H:Hp)(M:List Addr)(q p:Addr)(n:Int)(s:S2):Prop:=∃la ak,M=[q,la,ak]∧(∃dx,H q=some (.ins C dx (rf3 p n s.k la ak)))∧H la=some (.dK s.la)∧H ak=some (.lst (ys.map V.str))
noncomputable def T3(C:Addr)(ys:List Str):RuleT where
  C:=C
  St:=S2
  At:=QAt C ys
  asked:=fun _ s z=>ask2 s z
  pick:=fun _ s l=>(s,fmin ys s l)
  gone:=fun _ s _=>s
  came:=fun _ s _=>s
  inv:=fun ns _ s l=>LI ns s l∧0≤s.k
  mid:=fun ns _ z s l=>LM ns z s l∧0≤s.k
  dep:=fun e ⟨la,ak,hM,⟨dx,ho⟩,h1,h2⟩=>by
    rw [hM]at e
    exact ⟨la,ak,hM,⟨dx,e _ (by simp) _ ho⟩,e _ (by simp) _ h1,e _ (by simp) _ h2⟩
  live:=fun ⟨la,ak,hM,⟨dx,ho⟩,h1,h2⟩ m hm e=>by
    rw [hM]at hm
    simp only [List.mem_cons,List.not_mem_nil,or_false]at hm
    rcases hm with e1 | e1 | e1
    · rw [e1,ho]at e;cases e
    · rw [e1,h1]at e;cases e
    · rw [e1,h2]at e;cases e
  obj:=fun ⟨la,ak,hM,⟨dx,ho⟩,h1,h2⟩=>⟨dx,_,ho,by rfl,by rfl,by rfl,by rfl,by rfl,by rfl,by rfl⟩
  i_hit:=fun {ns n s l z} h hz _=>⟨LI.ask h.1 hz,by show 0≤s.k+1;have:=h.2;omega⟩
  i_mid:=fun {ns n s l z} h hz hn=>⟨LI.mid h.1 hz hn,by show 0≤s.k+1;have:=h.2;omega⟩
  i_pick:=fun h hl=>⟨(fmin_ok hl).1,⟨LI.drop h.1.i,h.1.z,fun u hu=>h.1.b u (List.mem_of_mem_erase hu)⟩,h.2⟩
  i_came:=fun h _ _=>⟨LM.came h.1,h.2⟩
  cnt:=fun s=>s.k.toNat
  c_ask:=fun n s z=>by show (s.k+1).toNat≤s.k.toNat+1;omega
  c_pick:=fun n s l=>Nat.le_refl _
  c_gone:=fun n s z=>Nat.le_refl _
  c_came:=fun n s z=>Nat.le_refl _
section
variable {p la ak:Addr} {n k k':Int}
theorem rf3_len:(rf3 p n k la ak).length=5:=by rfl
theorem rf3_present:(rf3 p n k la ak).lookup ("present":Str)=some (V.int k):=by rfl
theorem rf3_last:(rf3 p n k la ak).lookup ("last":Str)=some (V.ref la):=by rfl
theorem rf3_asks:(rf3 p n k la ak).lookup ("asks":Str)=some (V.ref ak):=by rfl
end
noncomputable def sp24_init(K:PySem.W.Frag)(S C:Addr):Sp:=fun vs H Q _=>∃(q dx p a:Addr) (n:Int) (ts:List Th) (ys:List Str),vs=[.ref q,.ref p,.int n,.ref a]∧H q=some (.ins C dx [])∧StockAt K S H p ts∧(ts.map (·.1)).Nodup∧SqL K H a (ys.map V.str)∧ys.length≤200∧(∀y∈ys,y∈ts.map (·.1))∧(∀y∈ys,rm ts y≤n)∧1≤n∧n≤1000000∧a≠q∧∀H' la ak,SameBut q H H'→H la=none→H ak=none→QAt C ys H' [q,la,ak] q p n s20→Q .non H'
noncomputable def sp24_number(C:Addr):Sp:=fun vs H Q _=>∃(q p:Addr) (n:Int) (M:List Addr) (s:S2) (z:Str) (ys:List Str),vs=[.ref q,.str z]∧QAt C ys H M q p n s∧s.la.length≤1000∧∀H',Kp M H H'→QAt C ys H' M q p n (ask2 s z)→Q .non H'
noncomputable def sp24_last(C:Addr):Sp:=fun vs H Q _=>∃(q p:Addr) (n:Int) (M:List Addr) (s:S2) (z:Str) (i:Int) (ys:List Str),vs=[.ref q,.str z]∧QAt C ys H M q p n s∧valV s.la (Sum.inr z)=some (.int i)∧Q (.int i) H
noncomputable def sp24_coming(C:Addr):Sp:=fun vs H Q _=>∃(q p:Addr) (n:Int) (M:List Addr) (s:S2) (z:Str) (ys:List Str),vs=[.ref q,.str z]∧QAt C ys H M q p n s∧0≤s.k∧s.k≤1000000∧ys.length≤1000∧Q (.int ((nx ys s.k.toNat z:Int)+1)) H
noncomputable def sp24_rank(C:Addr):Sp:=fun vs H Q _=>∃(q p:Addr) (n:Int) (M:List Addr) (s:S2) (z:Str) (ys:List Str),vs=[.ref q,.str z]∧QAt C ys H M q p n s∧0≤s.k∧s.k≤1000000∧ys.length≤1000∧(∃i:Int,valV s.la (Sum.inr z)=some (.int i))∧∀t,H t=none→Q (.ref t) (upd H t (.tup ((rkF ys s z).map V.int)))
structure LawD(ys:List Str)(i:Nat)(s:S2)(l:List Str)(kc kl:List (Key×V)):Prop where
  k:s.k=(i:Int)
  c:∀z∈l,valV kc (Sum.inr z)=some (.int (nx ys i z:Int))
  m:∀z∈l,valV kl (Sum.inr z)=some (.int (lv s z - 1))
noncomputable def spR_asked3(C:Addr):Sp:=fun vs H Q E=>∃ys,spR_asked (T3 C ys) vs H Q E
noncomputable def spR_choice3(C:Addr)(K:PySem.W.Frag):Sp:=fun vs H Q E=>∃ys:List Str,ys.length≤1000∧spR_choice (T3 C ys) K vs H Q E
noncomputable def spR_gone3(C:Addr):Sp:=fun vs H Q E=>∃ys,spR_gone (T3 C ys) vs H Q E
noncomputable def spR_came3(C:Addr):Sp:=fun vs H Q E=>∃ys,spR_came (T3 C ys) vs H Q E
end N24
set_option Elab.async false
set_option linter.all false
set_option maxRecDepth 100000
set_option maxHeartbeats 4000000
namespace L2
open PySem PySem.Spec PyProof.Rows
noncomputable def rDictOf:List V→Hp→VK→Prop:=fun xs H Q=>∃a kvs,xs=[.ref a]∧H a=some (.dK kvs)∧∀l,H l=none→Q (.ref l) (upd H l (.dK kvs))
section
variable {X:Cx}
theorem call_dictOf:CallR X (.type "dict") rDictOf:=by
  intro pins s σ H xs us Q I r h
  obtain ⟨a,kvs,rfl,ha,q⟩:=h
  obtain ⟨u,rfl,rx⟩:=vals1 r
  cases rx
  obtain ⟨z,lo,ws,rel,dd⟩:=I.hok a _ ha
  refine kt_call_dict (knd:=mixKind X.prog X.w) lo dd (by rw [← rel.length];exact z) fun h' hd hs=>?_
  have hk:∀b o,s.heap.get? b=some o→h'.get? b=some o:=fun b o e=>(hs.2 b (Nat.ne_of_lt (Heap.lt_size e))).trans (Heap.get?_push_of_some _ e)
  have nm:(s.heap.objs.size==sysModules)=false:=beq_false_of_ne (Nat.ne_of_gt I.big)
  exact ⟨.ref s.heap.objs.size,_,I.laid (t':=s.toks) hk (Nat.le_refl _) (show ObjOk X.prog X.w _ h' _ (.dK kvs) from ⟨z,nm,ws,rel,hd⟩),rfl,q _ I.fresh⟩
end
section
variable {H:Hp} {Q:VK} {x:V} {xs:List V}
theorem rd_dictOf:rDictOf xs H Q=∃a kvs,xs=[.ref a]∧H a=some (.dK kvs)∧∀l,H l=none→Q (.ref l) (upd H l (.dK kvs)):=rfl
end
end L2
set_option Elab.async false
set_option linter.all false
set_option maxRecDepth 100000
set_option maxHeartbeats 4000000
namespace L2
open PySem PySem.Spec PyProof.Rows
structure FunD(K:PySem.W.Frag)(x qual:Str)(st:Stmt)(f:Addr)(fd:FuncData)(dv:List Value):Prop where
  ex:∃(oc:Value) (od:Option Addr) (dT:Addr) (ob:Obj) (n:Nat) (kV doc pm:Value) (an:Option Addr) (cdv ct:Value) (osl:Array (Option Value)),
    fd=PySem.W.fnOf x qual (defArgs st) (defBody st) (defScope st) (.ref dT) kV doc pm an cdv ct∧K.lookup f=some ⟨oc,od,.func fd,osl⟩∧PySem.W.codeIn K cdv qual=true∧K.lookup dT=some ob∧ob.data= .seq dv.toArray n
  kp:PySem.W.keepIn K (.ref f)=true
section
variable {P:Program} {w:World} {K:PySem.W.Frag} {mg:Str→Option Value} {base:Heap} {x qual:Str} {st:Stmt} {f:Addr} {fd:FuncData} {dv:List Value} {N ps:List Str} {k:Nat} {sp:Sp}
theorem FunD.binds{p1 p2 p3 p4:Str}{d:Value}(F:FunD K x qual st f fd [d])
    (h:∀(dT:Addr) (kV doc pm:Value) (an:Option Addr) (cdv ct a b c:Value),∃k,bindArgs (PySem.W.fnOf x qual (defArgs st) (defBody st) (defScope st) (.ref dT) kV doc pm an cdv ct) ⟨[a,b,c],[]⟩=seqItems? (.ref dT) >>=k∧k (some [d].toArray)=pure [(p1,a),(p2,b),(p3,c),(p4,d)]):Binds K fd [p1,p2,p3,p4] [d]:=by
  obtain ⟨oc,od,dT,ob,n,kV,doc,pm,an,cdv,ct,osl,rfl,lk,hcd,hT,hs⟩:=F.ex
  intro s us X hl
  have hl':us.length=3:=by simpa using hl
  match us,hl' with
  | [a,b,c],_=>
    obtain ⟨k,h1,h2⟩:=h dT kV doc pm an cdv ct a b c
    exact PySem.W.binds_K X rfl hT hs h1 h2
noncomputable def g31:List Value→List Value→List Value
  | [a,b,c],[d]=>[a,b,c,d]
  | _,_=>[]
noncomputable def gV31:List V→List V→List V
  | [a,b,c],[d]=>[a,b,c,d]
  | _,_=>[]
theorem gV31_at{a b c d:V}:gV31 [a,b,c] [d]=[a,b,c,d]:=rfl
theorem g31_rel{vs zs:List V}{us ws:List Value}(r:Vals vs us)(rz:Vals zs ws):Vals (gV31 vs zs) (g31 us ws):=by
  cases r with
  | nil=>exact .nil
  | cons r1 r=>cases r with
    | nil=>exact .nil
    | cons r2 r=>cases r with
      | nil=>exact .nil
      | cons r3 r=>cases r with
        | nil=>cases rz with
          | nil=>exact .nil
          | cons r4 rz=>cases rz with
            | nil=>exact .cons r1 (.cons r2 (.cons r3 (.cons r4 .nil)))
            | cons r5 rz=>exact .nil
        | cons r5 r=>cases rz <;> exact .nil
theorem FunD.kbinds{p1 p2 p3 p4:Str}{d0:Value}(F:FunD K x qual st f fd [d0])
    (h:∀(dT:Addr) (kV doc pm:Value) (an:Option Addr) (cdv ct a b c d:Value),∃k,bindArgs (PySem.W.fnOf x qual (defArgs st) (defBody st) (defScope st) (.ref dT) kV doc pm an cdv ct) ⟨[a,b,c],[(p4,d)]⟩=seqItems? (.ref dT) >>=k∧k (some [d0].toArray)=pure [(p1,a),(p2,b),(p3,c),(p4,d)]):KBinds K fd [p1,p2,p3,p4] [p4] g31 gV31:=by
  obtain ⟨oc,od,dT,ob,n,kV,doc,pm,an,cdv,ct,osl,rfl,lk,hcd,hT,hs⟩:=F.ex
  refine ⟨fun s us ws X hl=>?_,g31_rel⟩
  match us,ws,hl with
  | [a,b,c],[d],_=>
    obtain ⟨k,h1,h2⟩:=h dT kV doc pm an cdv ct a b c d
    exact PySem.W.binds_K X rfl hT hs h1 h2
theorem FunD.full{p1 p2 p3 p4:Str}{d0:Value}(F:FunD K x qual st f fd [d0])
    (h:∀(dT:Addr) (kV doc pm:Value) (an:Option Addr) (cdv ct a b c d:Value),∃k,bindArgs (PySem.W.fnOf x qual (defArgs st) (defBody st) (defScope st) (.ref dT) kV doc pm an cdv ct) ⟨[a,b,c,d],[]⟩=seqItems? (.ref dT) >>=k∧k (some [d0].toArray)=pure [(p1,a),(p2,b),(p3,c),(p4,d)]):Binds K fd [p1,p2,p3,p4] []:=by
  obtain ⟨oc,od,dT,ob,n,kV,doc,pm,an,cdv,ct,osl,rfl,lk,hcd,hT,hs⟩:=F.ex
  intro s us X hl
  have hl':us.length=4:=by simpa using hl
  match us,hl' with
  | [a,b,c,d],_=>
    obtain ⟨k,h1,h2⟩:=h dT kV doc pm an cdv ct a b c d
    exact PySem.W.binds_K X rfl hT hs h1 h2
theorem funD_mk{oc:Value}{od an:Option Addr}{osl:Array (Option Value)}{dT:Addr}{kV doc pm cdv ct:Value}{ob:Obj}{n:Nat}(l:K.lookup f=some ⟨oc,od,.func (PySem.W.fnOf x qual (defArgs st) (defBody st) (defScope st) (.ref dT) kV doc pm an cdv ct),osl⟩)
    (c:PySem.W.codeIn K cdv qual=true) (k:PySem.W.keepIn K (.ref f)=true) (hT:K.lookup dT=some ob) (hs:ob.data= .seq dv.toArray n):FunD K x qual st f (PySem.W.fnOf x qual (defArgs st) (defBody st) (defScope st) (.ref dT) kV doc pm an cdv ct) dv:=⟨⟨oc,od,dT,ob,n,kV,doc,pm,an,cdv,ct,osl,rfl,l,c,hT,hs⟩,k⟩
end
structure DefIK(P:Program)(w:World)(K:PySem.W.Frag)(mg:Str→Option Value)(base:Heap)(CX:CXT)(k:Nat)(x:Str)(C:Addr)(ps:List Str)(kn:Str)(dvs:List V)(sp:Sp):Prop where
  ex:∃(f:Addr) (fd:FuncData) (ds:List Value),FnOk P w K mg base CX k f fd ps sp∧Mk K C f∧mg x=some (.ref C)∧Vals dvs ds∧Binds K fd ps ds∧KBinds K fd ps [kn] g31 gV31∧Binds K fd ps []
noncomputable def tMakeD(C:Addr)(sp:Sp)(dvs:List V)(EE:St→XK)(t:TA):TE:=fun σ H Q=>t σ H fun vs H1=>∀x dx,H1 x=none→H1 dx=none→dx≠x→sp (.ref x::(vs++dvs)) (upd (upd H1 dx (.own x)) x (.ins C dx [])) (fun v H2=>v= .non∧Q (.ref x) H2) (EE σ)
noncomputable def tMakeK(C:Addr)(sp:Sp)(EE:St→XK)(t tk:TA):TE:=fun σ H Q=>t σ H fun vs H1=>tk σ H1 fun zs H2=>∀x dx,H2 x=none→H2 dx=none→dx≠x→sp (gV31 (.ref x::vs) zs) (upd (upd H2 dx (.own x)) x (.ins C dx [])) (fun v H3=>v= .non∧Q (.ref x) H3) (EE σ)
section
variable {X:Cx} {CX:CXT} {k j:Nat} {f C:Addr} {fd:FuncData} {ps:List Str} {sp:Sp} {EE:St→XK} {x kn:Str} {p pos kpos:Pos} {e ke:Expr} {es:List Expr} {kws:List Keyword} {t tk:TA} {te:TE} {dvs:List V}
theorem make_run{pins:List (Addr×Obj)}{σ:St}{H:Hp}{s:Shared}{Q:VK}{us ws:List Value}{vs:List V}{kw:List (Str×Value)}(M:Mk X.K C f)(F:FnOk X.prog X.w X.K X.mg X.base CX j f fd ps sp)(hr:Room (j+1) X.A)
    (hx:PassesS CX X EE) (I:Inv X pins σ H s) (g:Value→List Value) (gv:V→List V) (hb:∀s',X.K.In s'.heap→∀a,(g (.ref a)).length=ps.length→BindsTo s' fd ⟨.ref a::us,kw⟩ (ps.zip (g (.ref a)))) (rel:∀a,Vals (gv (.ref a)) (g (.ref a)))
    (q:∀x dx,H x=none→H dx=none→dx≠x→sp (gv (.ref x)) (upd (upd H dx (.own x)) x (.ins C dx [])) (fun v H2=>v= .non∧Q (.ref x) H2) (EE σ)):
    wpAny (model X.prog X.w) X.A (call (.ref C) us kw) (EP X pins σ Q) X.xe s:=by
  have hq:=q (s.heap.objs.size+1) s.heap.objs.size (I.hok.fresh (Nat.le_succ _)) (I.hok.fresh (Nat.le_refl _)) (Nat.ne_of_lt (Nat.lt_succ_self _))
  have I2:=Inv.made (C:=C) I
  have r2:=rel (s.heap.objs.size+1)
  have hl:(g (.ref (s.heap.objs.size+1))).length=ps.length:=by
    rw [← r2.length];exact F.len _ _ _ _ hq
  refine wpAny_call (make_map (f:=f) I.kIn M.makes M.init (beq_iff_eq.mp M.fn) (codeAny_mono (F.run _ X.stack _ _ ⟨Value.ref (s.heap.objs.size+1)::us,kw⟩ (g (.ref (s.heap.objs.size+1))) _ _ (EE σ) (hr.make C us kw)
    (I2.env0.make C us kw) (hb _ I2.kIn _ hl) r2 hq) fun r s' hq'=>?_))
  cases r with
  | error e=>exact hx pins σ _ _ e s' I2 hq'
  | ok fl=>
    cases fl with
    | ret u=>
      obtain ⟨v,H',I3,rv,ev,q3⟩:=I2.after hq'
      subst ev
      exact ⟨rv,⟨V.ref (s.heap.objs.size+1),H',I3,rfl,q3⟩⟩
    | next=>exact False.elim hq'
    | brk=>exact False.elim hq'
    | cont=>exact False.elim hq'
theorem pe_makeD(D:DefIK X.prog X.w X.K X.mg X.base CX j x C ps kn dvs sp)(hr:Room k X.A)(hg:Gl X x)(hx:PassesS CX X EE)(ha:PA X (e::es) t)(hj:j+1≤k:=by decide)(hdb:(x==("__debug__":Str))=false:=by decide)
    (he:starEach (e::es) X.env=(false,eval e X.env)::starEach es X.env:=by rfl) (hpl:(backTo pos (starEach es X.env)).any (·.1)=false:=by rfl):
    PE X (.Call (.Name x p) (e::es) [] pos) (tMakeD C sp dvs EE t):=by
  obtain ⟨f,fd,ds,F,M,hm,hd,hb,_⟩:=D.ex
  intro pins s0 σ H0 Q I0 h
  refine wpAny_Call_Name_kw (ld_glob I0 hg hm ?_ hdb)
  refine PySem.W.callWith_K (h₀:=X.base) I0.ok.mod.kin M.kp (thn (ha pos pins s0 σ H0 _ I0 h) fun us s ⟨vs,H,I,r,q⟩=>⟨I.kIn,?_⟩) he hpl
  exact make_run (ws:=[]) (vs:=vs) M F (hr.mono hj) hx I (fun a=>a::(us++ds)) (fun a=>a::(vs++dvs)) (fun s' X' a hl=>hb s' (.ref a::us) X' hl) (fun a=> .cons rfl (r.append hd)) q
theorem rd_makeD{σ:St}{H:Hp}{Q:VK}:tMakeD C sp dvs EE t σ H Q=t σ H fun vs H1=>∀x dx,H1 x=none→H1 dx=none→dx≠x→sp (.ref x::(vs++dvs)) (upd (upd H1 dx (.own x)) x (.ins C dx [])) (fun v H2=>v= .non∧Q (.ref x) H2) (EE σ):=rfl
theorem rd_makeK{σ:St}{H:Hp}{Q:VK}:tMakeK C sp EE t tk σ H Q=t σ H fun vs H1=>tk σ H1 fun zs H2=>∀x dx,H2 x=none→H2 dx=none→dx≠x→sp (gV31 (.ref x::vs) zs) (upd (upd H2 dx (.own x)) x (.ins C dx [])) (fun v H3=>v= .non∧Q (.ref x) H3) (EE σ):=rfl
end
end L2
set_option Elab.async false
set_option linter.all false
set_option maxRecDepth 100000
set_option maxHeartbeats 1000000
namespace N23
open PySem PySem.Spec PyProof.Rows L2 N1 N5 N4 N6 N12 N32 N14 N20 N18 N25 NR N22 N21 N24
noncomputable def tvK(d:List (Key×V))(k:Key):Int:=match valV d k with
  | some (.int i)=>i
  | _=>0
theorem tvK_at{d:List (Key×V)}{k:Key}{i:Int}(h:valV d k=some (.int i)):tvK d k=i:=by unfold tvK;rw [h]
noncomputable def stepH(d:List (Key×V))(k:Key):List (Key×V):=putK d k (.int (tvK d k / 2))
noncomputable def hvi(d:List (Key×V))(i:Nat):List (Key×V):=((d.map (·.1)).take i).foldl stepH d
noncomputable def hvd(d:List (Key×V)):List (Key×V):=hvi d d.length
theorem hvi_succ{d:List (Key×V)}{i:Nat}{k:Key}(h:(d.map (·.1))[i]?=some k):hvi d (i+1)=stepH (hvi d i) k:=by
  unfold hvi
  rw [List.take_add_one,h,List.foldl_append];rfl
structure TI(ns:List Str)(d:List (Key×V)):Prop where
  k:KeysIn d ns
  v:∀k v,valV d k=some v→∃i:Int,v= .int i
theorem TI.nil{ns:List Str}:TI ns []:=⟨KeysIn.nil,fun k v h=>by cases h⟩
theorem TI.put{ns:List Str}{d:List (Key×V)}{z:Str}{i:Int}(h:TI ns d)(hz:z∈ns):TI ns (putK d (Sum.inr z) (.int i)):=
  ⟨h.k.put hz,fun k v e=>by
    rw [valV_put]at e
    split at e
    · cases e;exact ⟨i,rfl⟩
    · exact h.v k v e⟩
theorem TI.keys{ns:List Str}{d:List (Key×V)}(h:TI ns d):∃ks:List Str,d.map (·.1)=ks.map Sum.inr∧(∀z∈ks,z∈ns):=let ⟨ks,a,_,b⟩:=h.k;⟨ks,a,b⟩
theorem valV_some{d:List (Key×V)}{k:Key}(h:k∈d.map (·.1)):∃v,valV d k=some v:=by
  have:(valV d k).isSome=true:=by
    rw [← valV_any]
    obtain ⟨p,hp,e⟩:=List.mem_map.mp h
    exact List.any_eq_true.mpr ⟨p,hp,decide_eq_true e⟩
  exact Option.isSome_iff_exists.mp this
theorem hvi_ok{ns:List Str}{d:List (Key×V)}(h:TI ns d):∀i,TI ns (hvi d i)∧∀k,(∃j:Int,valV d k=some (.int j))→∃j:Int,valV (hvi d i) k=some (.int j):=by
  obtain ⟨ks,e,hin⟩:=h.keys
  intro i
  induction i with
  | zero=>exact ⟨h,fun k hk=>hk⟩
  | succ i ih=>
    cases hk:(d.map (·.1))[i]? with
    | none=>
      have:hvi d (i+1)=hvi d i:=by unfold hvi;rw [List.take_add_one,hk,Option.toList_none,List.append_nil]
      rw [this];exact ih
    | some k=>
      rw [hvi_succ hk]
      obtain ⟨z,hz,rfl⟩:∃z,z∈ks∧Sum.inr z=k:=by
        have:=List.mem_of_getElem? hk
        rw [e]at this
        exact List.mem_map.mp this
      refine ⟨ih.1.put (hin z hz),fun k hk'=>?_⟩
      unfold stepH
      rw [valV_put]
      split
      · exact ⟨_,rfl⟩
      · exact ih.2 k hk'
theorem TI.at_{ns:List Str}{d:List (Key×V)}{z:Str}(h:TI ns d)(hz:Sum.inr z∈d.map (·.1))(i:Nat):valV (hvi d i) (Sum.inr z)=some (.int (tvK (hvi d i) (Sum.inr z))):=by
  obtain ⟨v,hv⟩:=valV_some hz
  obtain ⟨j,rfl⟩:=h.v _ _ hv
  obtain ⟨j2,h2⟩:=(hvi_ok h i).2 _ ⟨j,hv⟩
  rw [tvK_at h2];exact h2
theorem TI.get{ns:List Str}{d:List (Key×V)}{k:Key}(h:TI ns d):(valV d k).getD (V.int 0)=V.int (tvK d k):=by
  unfold tvK
  cases e:valV d k with
  | none=>rfl
  | some v=>obtain ⟨i,rfl⟩:=h.v _ _ e;rfl
theorem keys_str{d:List (Key×V)}{ks:List Str}(h:d.map (·.1)=ks.map Sum.inr):d.map (fun p=>kV p.1)=ks.map V.str:=by
  have:d.map (fun p=>kV p.1)=(d.map (·.1)).map kV:=by rw [List.map_map];rfl
  rw [this,h,List.map_map];rfl
noncomputable def tbl(e k:Int)(d:List (Key×V)):List (Key×V):=if k % e=0 then hvd d else d
noncomputable def cnt4(e k:Int)(d:List (Key×V))(z:Str):List (Key×V):=putK (tbl e k d) (Sum.inr z) (.int (tvK (tbl e k d) (Sum.inr z)+1))
theorem tbl_ok{ns:List Str}{d:List (Key×V)}{e k:Int}(h:TI ns d):TI ns (tbl e k d)∧∀q,(∃j:Int,valV d q=some (.int j))→∃j:Int,valV (tbl e k d) q=some (.int j):=by
  unfold tbl
  split
  · exact hvi_ok h _
  · exact ⟨h,fun _ x=>x⟩
theorem cnt4_ok{ns:List Str}{d:List (Key×V)}{e k:Int}{z:Str}(h:TI ns d)(hz:z∈ns):TI ns (cnt4 e k d z)∧(∀u:Str,(∃j:Int,valV d (Sum.inr u)=some (.int j))→∃j:Int,valV (cnt4 e k d z) (Sum.inr u)=some (.int j))∧∃j:Int,valV (cnt4 e k d z) (Sum.inr z)=some (.int j):=by
  obtain ⟨a,b⟩:=tbl_ok (e:=e) (k:=k) h
  refine ⟨a.put hz,fun u hu=>?_,?_⟩
  · unfold cnt4
    rw [valV_put]
    split
    · exact ⟨_,rfl⟩
    · exact b _ hu
  · unfold cnt4
    rw [valV_put,if_pos rfl];exact ⟨_,rfl⟩
structure S4 where
  b:S2
  ta:List (Key×V)
  e:Int
noncomputable def ask4(s:S4)(z:Str):S4:=⟨ask2 s.b z,cnt4 s.e s.b.k s.ta z,s.e⟩
noncomputable def rkH(s:S4)(z:Str):List Int:=[tvK s.ta (Sum.inr z),lv s.b z]
noncomputable def hmin(s:S4)(l:List Str):Str:=l.getD (argBest (btK fun i=>rkH s (l.getD i Str.empty)) (l.length - 1)) Str.empty
theorem hmin_ok{s:S4}{l:List Str}(h:l≠[]):hmin s l∈l∧∀u∈l,tvK s.ta (Sum.inr (hmin s l)) < tvK s.ta (Sum.inr u)∨(tvK s.ta (Sum.inr (hmin s l))=tvK s.ta (Sum.inr u)∧lv s.b (hmin s l)≤lv s.b u):=by
  have hl0:0 < l.length:=List.length_pos_iff.mpr h
  have hb:=best2 (fun i=>tvK s.ta (Sum.inr (l.getD i Str.empty))) (fun i=>lv s.b (l.getD i Str.empty)) (l.length - 1)
  unfold hmin
  have e:(fun i=>rkH s (l.getD i Str.empty))=fun i=>[tvK s.ta (Sum.inr (l.getD i Str.empty)),lv s.b (l.getD i Str.empty)]:=rfl
  rw [e]
  generalize argBest (btK fun i=>[tvK s.ta (Sum.inr (l.getD i Str.empty)),lv s.b (l.getD i Str.empty)]) (l.length - 1)=m at hb
  have hm:m < l.length:=by omega
  refine ⟨?_,fun u hu=>?_⟩
  · rw [List.getD_eq_getElem?_getD,List.getElem?_eq_getElem hm];exact List.getElem_mem hm
  · obtain ⟨j,hj⟩:=List.mem_iff_getElem?.mp hu
    have hjl:=(List.getElem?_eq_some_iff.mp hj).1
    have:=hb.2 j (by omega)
    rw [show l.getD j Str.empty=u by rw [List.getD_eq_getElem?_getD,hj];rfl]at this
    omega
structure CI(ns:List Str)(s:S4)(l:List Str):Prop where
  t:TI ns s.ta
  v:∀z∈l,∃j:Int,valV s.ta (Sum.inr z)=some (.int j)
  e1:1≤s.e
  e2:s.e≤200
theorem CI.ask{ns:List Str}{s:S4}{l:List Str}{z:Str}(h:CI ns s l)(hz:z∈ns):CI ns (ask4 s z) l:=
  let c:=cnt4_ok (e:=s.e) (k:=s.b.k) h.t hz
  ⟨c.1,fun u hu=>c.2.1 u (h.v u hu),h.e1,h.e2⟩
theorem CI.drop{ns:List Str}{s:S4}{l:List Str}{z:Str}(h:CI ns s l):CI ns s (l.erase z):=⟨h.t,fun u hu=>h.v u (List.mem_of_mem_erase hu),h.e1,h.e2⟩
noncomputable def rf4(p:Addr)(n k:Int)(la:Addr)(e:Int)(ta:Addr):List (Str×V):=putF "tally" (.ref ta) (putF "turn" (.int e) (rf2 p n k la))
noncomputable def GAt(C:Addr)(H:Hp)(M:List Addr)(q p:Addr)(n:Int)(s:S4):Prop:=∃la ta,M=[q,la,ta]∧(∃dx,H q=some (.ins C dx (rf4 p n s.b.k la s.e ta)))∧H la=some (.dK s.b.la)∧H ta=some (.dK s.ta)∧la≠ta
noncomputable def T4(C:Addr):RuleT where
  C:=C
  St:=S4
  At:=GAt C
  asked:=fun _ s z=>ask4 s z
  pick:=fun _ s l=>(s,hmin s l)
  gone:=fun _ s _=>s
  came:=fun _ s _=>s
  inv:=fun ns _ s l=>LI ns s.b l∧CI ns s l
  mid:=fun ns _ z s l=>LM ns z s.b l∧CI ns s l∧∃j:Int,valV s.ta (Sum.inr z)=some (.int j)
  dep:=fun e ⟨la,ta,hM,⟨dx,ho⟩,h1,h2,hne⟩=>by
    rw [hM]at e
    exact ⟨la,ta,hM,⟨dx,e _ (by simp) _ ho⟩,e _ (by simp) _ h1,e _ (by simp) _ h2,hne⟩
  live:=fun ⟨la,ta,hM,⟨dx,ho⟩,h1,h2,hne⟩ m hm e=>by
    rw [hM]at hm
    simp only [List.mem_cons,List.not_mem_nil,or_false]at hm
    rcases hm with e1 | e1 | e1
    · rw [e1,ho]at e;cases e
    · rw [e1,h1]at e;cases e
    · rw [e1,h2]at e;cases e
  obj:=fun ⟨la,ta,hM,⟨dx,ho⟩,h1,h2,hne⟩=>⟨dx,_,ho,by rfl,by rfl,by rfl,by rfl,by rfl,by rfl,by rfl⟩
  i_hit:=fun {ns n s l z} h hz _=>⟨LI.ask h.1 hz,h.2.ask hz⟩
  i_mid:=fun {ns n s l z} h hz hn=>⟨LI.mid h.1 hz hn,h.2.ask hz,(cnt4_ok (e:=s.e) (k:=s.b.k) h.2.t hz).2.2⟩
  i_pick:=fun h hl=>⟨(hmin_ok hl).1,⟨LI.drop h.1.i,h.1.z,fun u hu=>h.1.b u (List.mem_of_mem_erase hu)⟩,h.2.1.drop,h.2.2⟩
  i_came:=fun {ns n s l z} h _ _=>⟨LM.came h.1,h.2.1.t,fun u hu=>(List.mem_append.mp hu).elim (h.2.1.v u) (fun e=>by rw [List.mem_singleton.mp e];exact h.2.2),h.2.1.e1,h.2.1.e2⟩
section
variable {p la ta:Addr} {n k k' e:Int}
theorem rf4_len:(rf4 p n k la e ta).length=6:=by rfl
theorem rf4_present:(rf4 p n k la e ta).lookup ("present":Str)=some (V.int k):=by rfl
theorem rf4_last:(rf4 p n k la e ta).lookup ("last":Str)=some (V.ref la):=by rfl
theorem rf4_turn:(rf4 p n k la e ta).lookup ("turn":Str)=some (V.int e):=by rfl
theorem rf4_tally:(rf4 p n k la e ta).lookup ("tally":Str)=some (V.ref ta):=by rfl
end
noncomputable def s40(e:Int):S4:=⟨s20,[],e⟩
noncomputable def sp23_init(C:Addr):Sp:=fun vs H Q _=>∃(q dx p:Addr) (n e:Int),vs=[.ref q,.ref p,.int n,.int e]∧H q=some (.ins C dx [])∧1≤n∧n≤1000000∧1≤e∧e≤200∧∀H' la ta,SameBut q H H'→H la=none→H ta=none→GAt C H' [q,la,ta] q p n (s40 e)→Q .non H'
noncomputable def sp23_halve(C:Addr):Sp:=fun vs H Q _=>∃(q p:Addr) (n:Int) (M:List Addr) (s:S4) (ns:List Str),vs=[.ref q]∧GAt C H M q p n s∧TI ns s.ta∧ns.length≤1000∧∀H',Kp M H H'→GAt C H' M q p n ⟨s.b,hvd s.ta,s.e⟩→Q .non H'
noncomputable def sp23_number(C:Addr):Sp:=fun vs H Q _=>∃(q p:Addr) (n:Int) (M:List Addr) (s:S4) (z:Str),vs=[.ref q,.str z]∧GAt C H M q p n s∧s.b.la.length≤1000∧∀H',Kp M H H'→GAt C H' M q p n ⟨ask2 s.b z,s.ta,s.e⟩→Q .non H'
noncomputable def sp23_last(C:Addr):Sp:=fun vs H Q _=>∃(q p:Addr) (n:Int) (M:List Addr) (s:S4) (z:Str) (i:Int),vs=[.ref q,.str z]∧GAt C H M q p n s∧valV s.b.la (Sum.inr z)=some (.int i)∧Q (.int i) H
noncomputable def sp23_counts(C:Addr):Sp:=fun vs H Q _=>∃(q p:Addr) (n:Int) (M:List Addr) (s:S4),vs=[.ref q]∧GAt C H M q p n s∧∀r,H r=none→Q (.ref r) (upd H r (.dK s.ta))
noncomputable def sp23_rank(C:Addr):Sp:=fun vs H Q _=>∃(q p:Addr) (n:Int) (M:List Addr) (s:S4) (z:Str),vs=[.ref q,.str z]∧GAt C H M q p n s∧(∃i:Int,valV s.b.la (Sum.inr z)=some (.int i))∧(∃j:Int,valV s.ta (Sum.inr z)=some (.int j))∧∀t,H t=none→Q (.ref t) (upd H t (.tup ((rkH s z).map V.int)))
structure LawH(i:Nat)(s:S4)(l:List Str)(kl:List (Key×V)):Prop where
  k:s.b.k=(i:Int)
  m:∀z∈l,valV kl (Sum.inr z)=some (.int (lv s.b z - 1))
  c:i=0→s.ta=[]
theorem inv40{C:Addr}{ns:List Str}{n e:Int}(h1:1≤e)(h2:e≤200):(T4 C).inv ns n (s40 e) []:=⟨⟨KeysIn.nil,by simp,List.Pairwise.nil⟩,⟨TI.nil,by simp,h1,h2⟩⟩
end N23
set_option Elab.async false
set_option linter.all false
set_option maxRecDepth 100000
set_option maxHeartbeats 1000000
namespace L2
open PySem PySem.Spec PyProof.Rows
noncomputable def tMethI{ι:Type}(C:ι→Addr)(m:Str)(sp:ι→Sp)(EE:St→XK)(ta:TE)(t:TA):TE:=fun σ H Q=>ta σ H fun x H1=>∃b a dx fs,x= .ref a∧H1 a=some (.ins (C b) dx fs)∧fs.lookup m=none∧t σ H1 fun vs H2=>sp b (x::vs) H2 Q (EE σ)
section
variable {ι:Type} {X:Cx} {CX:CXT} {k j:Nat} {C:ι→Addr} {ps:List Str} {sp:ι→Sp} {EE:St→XK} {m:Str} {pos apos:Pos} {e o:Expr} {es:List Expr} {ta:TE} {t:TA}
theorem rd_methI{σ:St}{H:Hp}{Q:VK}:tMethI C m sp EE ta t σ H Q=ta σ H fun x H1=>∃b a dx fs,x= .ref a∧H1 a=some (.ins (C b) dx fs)∧fs.lookup m=none∧t σ H1 fun vs H2=>sp b (x::vs) H2 Q (EE σ):=rfl
end
noncomputable def rNeDD:R2:=fun x y H Q=>∃a b kvs,x= .ref a∧y= .ref b∧H a=some (.dK kvs)∧H b=some (.dK kvs)∧(∀p∈kvs,flatV p.2=true)∧Q (.bl false) H
section
variable {X:Cx}
theorem rd_neDD{x y:V}{H:Hp}{Q:VK}:rNeDD x y H Q=∃a b kvs,x= .ref a∧y= .ref b∧H a=some (.dK kvs)∧H b=some (.dK kvs)∧(∀p∈kvs,flatV p.2=true)∧Q (.bl false) H:=rfl
end
end L2
set_option Elab.async false
set_option linter.all false
set_option maxRecDepth 100000
set_option maxHeartbeats 1000000
namespace L2
open PySem PySem.Spec PyProof.Rows PySem.W
noncomputable def rIsiO(K:PySem.W.Frag):List V→Hp→VK→Prop:=fun xs H Q=>∃(p C dx D:Addr) (fs:List (Str×V)),xs=[.ref p,.ref D]∧H p=some (.ins C dx fs)∧PySem.W.kitOne K (.ref C) (.ref D)=some true∧Q (.bl true) H
section
variable {X:Cx}
end
theorem rd_isiO{K:PySem.W.Frag}{xs:List V}{H:Hp}{Q:VK}:rIsiO K xs H Q=∃(p C dx D:Addr) (fs:List (Str×V)),xs=[.ref p,.ref D]∧H p=some (.ins C dx fs)∧PySem.W.kitOne K (.ref C) (.ref D)=some true∧Q (.bl true) H:=rfl
end L2
set_option Elab.async false
set_option linter.all false
set_option maxRecDepth 100000
set_option maxHeartbeats 1000000
namespace L2
open PySem PySem.Spec PyProof.Rows
noncomputable def rSortS(K:PySem.W.Frag):List V→Hp→VK→Prop:=fun xs H Q=>∃(p:Addr) (ys:List Str),xs=[.ref p]∧SqL K H p (ys.map V.str)∧ys.length < 64∧∀(q:Addr) (zs:List Str),H q=none→zs.Perm ys→sortedS zs=true→Q (.ref q) (upd H q (.lst (zs.map V.str)))
section
variable {X:Cx}
end
theorem rd_sortS{K:PySem.W.Frag}{xs:List V}{H:Hp}{Q:VK}:rSortS K xs H Q=∃(p:Addr) (ys:List Str),xs=[.ref p]∧SqL K H p (ys.map V.str)∧ys.length < 64∧∀(q:Addr) (zs:List Str),H q=none→zs.Perm ys→sortedS zs=true→Q (.ref q) (upd H q (.lst (zs.map V.str))):=rfl
end L2
set_option Elab.async false
set_option linter.all false
set_option maxRecDepth 100000
set_option maxHeartbeats 1000000
namespace N26
open PySem PySem.Spec PyProof.Rows L2 N1 N5 N4 N6 N12 N32 N14 N20 N18 N25 NR
structure R4 where
  a:List Str
  b:List Str
  p:List Str
  q:List Str
  k:Int
  r:Bool
noncomputable def stp(x y:Nat):Int:=if (x:Int).fdiv (y:Int) > 1 then (x:Int).fdiv (y:Int) else 1
noncomputable def mn(n x:Int):Int:=if x < n then x else n
noncomputable def mx(x:Int):Int:=if x > 0 then x else 0
noncomputable def rpush(n:Int)(L:List Str)(z:Str):List Str:=if ((L++[z]).length:Int) > n then (L++[z]).eraseIdx 0 else L++[z]
noncomputable def rback(n:Int)(s:R4)(z:Str):R4:=
  if z∈s.p then ⟨s.a,s.b,s.p.erase z,s.q,mn n (s.k+stp s.q.length s.p.length),true⟩
  else if z∈s.q then ⟨s.a,s.b,s.p,s.q.erase z,mx (s.k - stp s.p.length s.q.length),true⟩
  else ⟨s.a,s.b,s.p,s.q,s.k,false⟩
noncomputable def cnt(s:R4)(u:Str):Nat:=s.a.count u+s.b.count u+s.p.count u+s.q.count u
structure RI(ns:List Str)(n:Int)(s:R4)(l:List Str):Prop where
  c:∀u,cnt s u≤1
  i:∀u,0 < cnt s u→u∈ns
  pm:l.Perm (s.a++s.b)
  k0:0≤s.k
  pn:(s.p.length:Int)≤n
  qn:(s.q.length:Int)≤n
  n1:1≤n
noncomputable def rfd(p l1 l2 l3 l4:Addr)(n k:Int)(r:Bool):List (Str×V):=putF "returns" (.bl r) (putF "bound" (.int k) (putF "past_again" (.ref l4) (putF "past_once" (.ref l3) (putF "again" (.ref l2) (putF "once" (.ref l1) (putF "places" (.int n) (putF "stock" (.ref p) [])))))))
section
variable {p l1 l2 l3 l4:Addr} {n k k':Int} {r r':Bool}
end
structure Row4(C:Addr)(H:Hp)(q p l1 l2 l3 l4:Addr)(n:Int)(s:R4):Prop where
  o:∃dx,H q=some (.ins C dx (rfd p l1 l2 l3 l4 n s.k s.r))
  h1:H l1=some (.lst (s.a.map V.str))
  h2:H l2=some (.lst (s.b.map V.str))
  h3:H l3=some (.lst (s.p.map V.str))
  h4:H l4=some (.lst (s.q.map V.str))
  d12:l1≠l2
  d13:l1≠l3
  d14:l1≠l4
  d23:l2≠l3
  d24:l2≠l4
  d34:l3≠l4
section
variable {C:Addr} {H H':Hp} {q p l1 l2 l3 l4:Addr} {n:Int} {s:R4} {L:List Str}
end
noncomputable def sp26_init(C:Addr):Sp:=fun vs H Q _=>∃(q dx p:Addr) (n:Int),vs=[.ref q,.ref p,.int n]∧H q=some (.ins C dx [])∧1≤n∧n≤1000000∧∀H' l1 l2 l3 l4,SameBut q H H'→H l1=none→H l2=none→H l3=none→H l4=none→Row4 C H' q p l1 l2 l3 l4 n ⟨[],[],[],[],0,false⟩→Q .non H'
noncomputable def sp26_move:Sp:=fun vs H Q _=>∃(z:Str) (a b:Addr) (L N:List Str),vs=[.str z,.ref a,.ref b]∧H a=some (.lst (L.map V.str))∧z∈L∧upd H a (.lst ((L.erase z).map V.str)) b=some (.lst (N.map V.str))∧N.length≤1000∧Q .non (upd (upd H a (.lst ((L.erase z).map V.str))) b (.lst ((N++[z]).map V.str)))
noncomputable def sp26_step:Sp:=fun vs H Q _=>∃(a b:Addr) (L N:List Str),vs=[.ref a,.ref b]∧H a=some (.lst (L.map V.str))∧H b=some (.lst (N.map V.str))∧0 < N.length∧N.length≤1000∧Q (.int (stp L.length N.length)) H
noncomputable def sp26_back(C:Addr):Sp:=fun vs H Q _=>∃(q p l1 l2 l3 l4:Addr) (n:Int) (s:R4) (z:Str),vs=[.ref q,.str z]∧Row4 C H q p l1 l2 l3 l4 n s∧(z∈s.p∨z∈s.q)∧s.p.length≤1000∧s.q.length≤1000∧s.r=true∧∀H',Kp [q,l1,l2,l3,l4] H H'→Row4 C H' q p l1 l2 l3 l4 n (rback n s z)→Q .non H'
noncomputable def sp26_leave(C:Addr):Sp:=fun vs H Q _=>∃(q p l1 l2 l3 l4 a b:Addr) (n:Int) (s:R4) (z:Str) (L N:List Str),vs=[.ref q,.str z,.ref a,.ref b]∧Row4 C H q p l1 l2 l3 l4 n s∧H a=some (.lst (L.map V.str))∧z∈L∧H b=some (.lst (N.map V.str))∧a≠b∧N.length≤1000∧Q .non (upd (upd H a (.lst ((L.erase z).map V.str))) b (.lst ((rpush n N z).map V.str)))
noncomputable def sp26_rows(C:Addr):Sp:=fun vs H Q _=>∃(q p l1 l2 l3 l4:Addr) (n:Int) (s:R4),vs=[.ref q]∧Row4 C H q p l1 l2 l3 l4 n s∧∀(t m1 m2 m3 m4:Addr) H',Same H H'→H m1=none→H m2=none→H m3=none→H m4=none→m1≠m2→m1≠m3→m1≠m4→m2≠m3→m2≠m4→m3≠m4→H' t=some (.tup [.ref m1,.ref m2,.ref m3,.ref m4,.int s.k])→H' m1=some (.lst (s.a.map V.str))→H' m2=some (.lst (s.b.map V.str))→H' m3=some (.lst (s.p.map V.str))→H' m4=some (.lst (s.q.map V.str))→Q (.ref t) H'
structure FourAt(H:Hp)(f m1 m2 m3 m4:Addr)(s:R4):Prop where
  hf:H f=some (.lst [.ref m1,.ref m2,.ref m3,.ref m4])
  h1:H m1=some (.lst (s.a.map V.str))
  h2:H m2=some (.lst (s.b.map V.str))
  h3:H m3=some (.lst (s.p.map V.str))
  h4:H m4=some (.lst (s.q.map V.str))
  ne:[f,m1,m2,m3,m4].Nodup
noncomputable def l4(s:R4)(j:Nat):List Str:=match j with
  | 0=>s.a
  | 1=>s.b
  | 2=>s.p
  | _=>s.q
structure FourM(H:Hp)(f:Addr)(ms:List Addr)(s:R4):Prop where
  hf:H f=some (.lst (ms.map V.ref))
  len:ms.length=4
  h:∀j m,ms[j]?=some m→H m=some (.lst ((l4 s j).map V.str))
  ne:(f::ms).Nodup
section
variable {H H':Hp} {f m:Addr} {ms:List Addr} {s s':R4} {i:Nat} {L:List Str}
end
noncomputable def rem(n:Int)(s:R4)(z:Str):R4:=
  if z∈s.a then ⟨s.a.erase z,s.b,s.p,s.q,s.k,false⟩ else if z∈s.b then ⟨s.a,s.b.erase z,s.p,s.q,s.k,false⟩ else rback n s z
structure TelAt(H H':Hp)(t:Addr)(tl:List V)(gl:List Addr)(s:R4)(i:Nat):Prop where
  sm:Same H H'
  ht:H' t=some (.tup tl)
  n:∀g∈gl,H g=none
  ne:gl.Nodup
  h:∀j g,i≤j→gl[j]?=some g→H' g=some (.lst ((l4 s j).map V.str))
end N26
set_option Elab.async false
set_option linter.all false
set_option maxRecDepth 100000
set_option maxHeartbeats 1000000
namespace N28
open PySem PySem.Spec PyProof.Rows L2 N1 N5 N4 N6 N12 N32 N14 N20 N18 N25 NR N22 N21 N24 N23 N26
structure H6 where
  L:List Str
  k:List (Key×V)
noncomputable def hrot:Nat→H6→H6
  | 0,s=>s
  | m+1,s=>match s.L with
    | []=>s
    | f::r=>if (valV s.k (Sum.inr f)).isSome=true then hrot m ⟨r++[f],dropK s.k (Sum.inr f)⟩ else s
noncomputable def hpk(s:H6):H6:=hrot s.k.length s
theorem hrot_cons{m:Nat}{f:Str}{r:List Str}{k:List (Key×V)}:hrot (m+1) ⟨f::r,k⟩=if (valV k (Sum.inr f)).isSome=true then hrot m ⟨r++[f],dropK k (Sum.inr f)⟩ else ⟨f::r,k⟩:=rfl
theorem KeysIn.drop{kvs:List (Key×V)}{ns:List Str}{z:Str}(h:KeysIn kvs ns):KeysIn (dropK kvs (Sum.inr z)) ns:=by
  obtain ⟨ks,e,nd,s⟩:=h
  refine ⟨ks.filter (fun u=>decide (u≠z)),?_,nd.filter _,fun u hu=>s u (List.mem_filter.mp hu).1⟩
  unfold dropK
  clear nd s
  induction kvs generalizing ks with
  | nil=>cases ks with
    | nil=>rfl
    | cons a b=>cases e
  | cons p q ih=>
    cases ks with
    | nil=>cases e
    | cons a b=>
      rw [List.map_cons,List.map_cons]at e
      obtain ⟨e1,e2⟩:=List.cons.inj e
      have:=ih b e2
      by_cases ha:a=z
      · rw [List.filter_cons_of_neg (by rw [e1,ha];simp),List.filter_cons_of_neg (by rw [ha];simp)];exact this
      · rw [List.filter_cons_of_pos (by rw [e1];simp [ha]),List.filter_cons_of_pos (by simp [ha]),List.map_cons,List.map_cons,this,e1]
structure HI6(ns:List Str)(s:H6)(l:List Str):Prop where
  k:KeysIn s.k ns
  p:s.L.Perm l
  nd:s.L.Nodup
  s:∀u∈s.L,u∈ns
theorem hrot_inv{ns l:List Str}:∀(m:Nat) (s:H6),HI6 ns s l→HI6 ns (hrot m s) l:=by
  intro m
  induction m with
  | zero=>exact fun s h=>h
  | succ m ih=>
    intro s h
    obtain ⟨L,k⟩:=s
    cases L with
    | nil=>exact h
    | cons f r=>
      rw [hrot_cons]
      split
      · have hp:(r++[f]).Perm (f::r):=List.perm_append_singleton ..
        exact ih _ ⟨KeysIn.drop h.k,hp.trans h.p,hp.nodup_iff.mpr h.nd,fun u hu=>h.s u (hp.mem_iff.mp hu)⟩
      · exact h
noncomputable def HkAt(C:Addr)(H:Hp)(M:List Addr)(q p:Addr)(n:Int)(s:H6):Prop:=∃od md,M=[q,od,md]∧(∃dx,H q=some (.ins C dx (hfl p od md n)))∧H od=some (.lst (s.L.map V.str))∧H md=some (.dK s.k)
noncomputable def ask6(s:H6)(z:Str):H6:=if z∈s.L then ⟨s.L,putK s.k (Sum.inr z) (.bl true)⟩ else s
noncomputable def T6(C:Addr):RuleT where
  C:=C
  St:=H6
  At:=HkAt C
  asked:=fun _ s z=>ask6 s z
  pick:=fun _ s _=>(hpk s,(hpk s).L.headD Str.empty)
  gone:=fun _ s z=>⟨s.L.erase z,s.k⟩
  came:=fun _ s z=>⟨s.L++[z],putK s.k (Sum.inr z) (.bl true)⟩
  inv:=fun ns _ s l=>HI6 ns s l
  mid:=fun ns _ _ s l=>HI6 ns s l
  dep:=fun e ⟨od,md,hM,⟨dx,ho⟩,h1,h2⟩=>by
    subst hM
    exact ⟨od,md,rfl,⟨dx,e _ (by simp) _ ho⟩,e _ (by simp) _ h1,e _ (by simp) _ h2⟩
  live:=fun ⟨od,md,hM,⟨dx,ho⟩,h1,h2⟩ m hm e=>by
    subst hM
    simp only [List.mem_cons,List.not_mem_nil,or_false]at hm
    rcases hm with e1 | e1 | e1
    · rw [e1,ho]at e;cases e
    · rw [e1,h1]at e;cases e
    · rw [e1,h2]at e;cases e
  obj:=fun ⟨od,md,hM,⟨dx,ho⟩,h1,h2⟩=>⟨dx,_,ho,hfl_stock,hfl_places,by rfl,by rfl,by rfl,by rfl,by rfl⟩
  i_hit:=fun {ns n s l z} h hn hz=>by
    show HI6 ns (ask6 s z) l
    unfold ask6
    split
    · exact ⟨h.k.put hn,h.p,h.nd,h.s⟩
    · exact h
  i_mid:=fun {ns n s l z} h hn hz=>by
    show HI6 ns (ask6 s z) l
    unfold ask6
    split
    · exact ⟨h.k.put hn,h.p,h.nd,h.s⟩
    · exact h
  i_pick:=fun {ns n s l z} h hl=>by
    have h2:HI6 ns (hpk s) l:=hrot_inv _ _ h
    have hm:(hpk s).L.headD Str.empty∈(hpk s).L:=by
      cases e:(hpk s).L with
      | nil=>have:=h2.p;rw [e]at this;exact absurd (List.nil_perm.mp this) hl
      | cons f r=>exact List.mem_cons_self ..
    exact ⟨h2.p.mem_iff.mp hm,h2.k,h2.p.erase _,h2.nd.erase _,fun u hu=>h2.s u (List.mem_of_mem_erase hu)⟩
  i_came:=fun {ns n s l z} h hn hz=>by
    refine ⟨h.k.put hn,h.p.append_right _,?_,fun u hu=>?_⟩
    · show (s.L++[z]).Nodup
      rw [List.nodup_append]
      refine ⟨h.nd,by simp,fun a ha b hb e=>hz (h.p.mem_iff.mp ?_)⟩
      rw [List.mem_singleton]at hb
      rw [← hb,← e];exact ha
    · rcases List.mem_append.mp hu with hu | hu
      · exact h.s u hu
      · rw [List.mem_singleton.mp hu];exact hn
noncomputable def s60:H6:=⟨[],[]⟩
inductive W8 where
  | ru | ra | ol | fi | ha
  | fa (ys:List Str) (h:ys.length≤1000)
  | hd | ro
structure C8 where
  ru:Addr
  ra:Addr
  ol:Addr
  fi:Addr
  ha:Addr
  fa:Addr
  hd:Addr
  ro:Addr
section
variable {P:Program} {w:World} {K:PySem.W.Frag} {mg:Str→Option Value} {base:Heap} {CX:CXT} {k:Nat} {C:Addr} {m:Str} {ps:List Str} {sp sp':Sp}
end
noncomputable def spI_room{ι:Type}(T:ι→RuleT)(K:PySem.W.Frag)(C S:Addr):Sp:=fun vs H Q E=>∃b,spR_room (T b) K C S vs H Q E
noncomputable def spI_row{ι:Type}(T:ι→RuleT)(K:PySem.W.Frag)(C S:Addr):Sp:=fun vs H Q E=>∃b,spR_row (T b) K C S vs H Q E
noncomputable def sp28_rinit(K:PySem.W.Frag):Sp:=fun vs H Q _=>∃(X q dx p:Addr) (n:Int),vs=[.ref q,.ref p,.int n]∧H q=some (.ins X dx [])∧Cls K X∧NoAttr K X "stock"∧NoAttr K X "places"∧1≤n∧n≤1000000∧∀H',SameBut q H H'→H' q=some (.ins X dx (rf0 p n))→Q .non H'
noncomputable def sp28_kinit(K:PySem.W.Frag):Sp:=fun vs H Q _=>∃(X q dx p:Addr) (n:Int),vs=[.ref q,.ref p,.int n]∧H q=some (.ins X dx [])∧Cls K X∧(NoAttr K X "stock"∧NoAttr K X "places")∧NoAttr K X "present"∧NoAttr K X "last"∧1≤n∧n≤1000000∧∀H' la,SameBut q H H'→H la=none→la≠q→H' q=some (.ins X dx (rf2 p n 0 la))→H' la=some (.dK [])→Q .non H'
noncomputable def sp28_hinit(C:Addr):Sp:=fun vs H Q _=>∃(q dx p:Addr) (n:Int),vs=[.ref q,.ref p,.int n]∧H q=some (.ins C dx [])∧1≤n∧n≤1000000∧∀H' od md,SameBut q H H'→H od=none→H md=none→HkAt C H' [q,od,md] q p n s60→Q .non H'
inductive Wk(R:Str→Int)(n need:Int):List Str→List Str→List Str→Prop
  | nil {l:List Str} (h:need≤n - N41.sm R l):Wk R n need l [] l
  | cons {l w l':List Str} {x:Str} (hx:x∈l) (h:¬need≤n - N41.sm R l) (t:Wk R n need (l.erase x) w l'):Wk R n need l (x::w) l'
section
variable {T:RuleT} {R:Str→Int} {n:Int} {s0:T.St} {ys ns:List Str}
end
structure BkN(TT:RuleT)(H:Hp)(b:Addr)(as gs:List Addr)(R:Str→Int)(n:Int)(s0:TT.St)(ys:List Str):Prop where
  L:H b=some (.lst (as.map V.ref))
  ln:as.length=ys.length
  m:gs.length=ys.length
  t:∀(i:Nat) (a g:Addr),as[i]?=some a→gs[i]?=some g→H a=some (.tup [.str (NR.grow TT R n s0 ys i).1,.bl (NR.grow TT R n s0 ys i).2.1,.ref g])∧H g=some (.lst ((NR.grow TT R n s0 ys i).2.2.map V.str))
structure Sd(a rd ly bk:Addr)(M:List Addr):Prop where
  xa:a∉M
  xr:rd∉M
  xl:ly∉M
  xb:bk∉M
  lb:ly≠bk
  al:a≠ly
  rl:rd≠ly
  ab:a≠bk
  rb:rd≠bk
structure Ld(TT:RuleT)(H:Hp)(q p a rd ly bk:Addr)(M:List Addr)(n:Int)(ts:List Th)(ys:List Str)(s:TT.St)(l:List Str)(as gs:List Addr)(rs:List N14.Row):Prop where
  h:TT.At H M q p n s
  ha:H a=some (.lst (ys.map V.str))
  hr:H rd=some (.dK (N20.rmK ts))
  hl:H ly=some (.lst (l.map V.str))
  hb:H bk=some (.lst (as.map V.ref))
  run:RunB (ly::bk::M) H as gs rs
section
variable {TT:RuleT} {H H':Hp} {q p a rd ly bk:Addr} {M:List Addr} {n:Int} {ts:List Th} {ys l l':List Str} {s s':TT.St} {as gs:List Addr} {rs:List N14.Row}
end
noncomputable def spI_bookN{ι:Type}(T:ι→RuleT)(K:PySem.W.Frag)(C S:Addr):Sp:=fun vs H Q E=>∃b,spR_bookN (T b) K C S vs H Q E
end N28
set_option Elab.async false
set_option linter.all false
set_option maxRecDepth 100000
set_option maxHeartbeats 1000000
namespace NQ
open K03
noncomputable def rt(U v:Int):Int×Int:=(v.fdiv (Int.gcd v U:Nat),U.fdiv (Int.gcd v U:Nat))
section
variable {U W v w i x y:Int}
theorem rt_all(h:0 < U):(rt U v).1 * U=v * (rt U v).2∧0 < (rt U v).2∧Int.gcd (rt U v).1 (rt U v).2=1∧(rt U v).1.natAbs≤v.natAbs∧(rt U v).2.natAbs≤U.natAbs:=by
  have hg:0 < Int.gcd v U:=Nat.pos_of_ne_zero fun z=>by have:=(Int.gcd_eq_zero_iff.mp z).2;omega
  exact lowest (d:=((Int.gcd v U:Nat):Int)) (by omega) (Int.natAbs_natCast _) ⟨fun _=>h,fun _=>by omega⟩
theorem dvd_cop{a b c:Int}(h:b ∣ a * c)(g:Int.gcd a b=1):b ∣ c:=by
  rw [← Int.natAbs_dvd_natAbs]at h ⊢
  rw [Int.natAbs_mul]at h
  exact Nat.Coprime.dvd_of_dvd_mul_left (show Nat.gcd b.natAbs a.natAbs=1 by rw [Nat.gcd_comm];exact g) h
theorem rt_uniq{p:Int×Int}(h:0 < U)(h1:0 < p.2)(h2:Int.gcd p.1 p.2=1)(h3:p.1 * U=v * p.2):p=rt U v:=by
  obtain ⟨c1,c2,c3,_⟩:=rt_all (v:=v) h
  generalize rt U v=q at c1 c2 c3
  have e:p.1 * q.2=q.1 * p.2:=by
    have:(p.1 * q.2) * U=(q.1 * p.2) * U:=by
      have a1:(p.1 * q.2) * U=(p.1 * U) * q.2:=by simp only [Int.mul_assoc,Int.mul_comm,Int.mul_left_comm]
      have a2:(q.1 * p.2) * U=(q.1 * U) * p.2:=by simp only [Int.mul_assoc,Int.mul_comm,Int.mul_left_comm]
      rw [a1,a2,h3,c1]
      simp only [Int.mul_assoc,Int.mul_comm,Int.mul_left_comm]
    exact Int.eq_of_mul_eq_mul_right (by omega) this
  have d1:p.2 ∣ q.2:=by
    have:p.2 ∣ p.1 * q.2:=by rw [e];exact Int.dvd_mul_left ..
    exact dvd_cop this h2
  have d2:q.2 ∣ p.2:=by
    have:q.2 ∣ q.1 * p.2:=by rw [← e];exact Int.dvd_mul_left ..
    exact dvd_cop this c3
  have e2:p.2=q.2:=Int.dvd_antisymm (by omega) (by omega) d1 d2
  have e1:p.1=q.1:=by
    rw [e2]at e
    exact Int.eq_of_mul_eq_mul_right (by omega) e
  exact Prod.ext e1 e2
theorem rt_zero(hU:0 < U):rt U 0=(0,1):=(rt_uniq hU (p:=(0,1)) (by decide) (by decide) (by simp)).symm
end
end NQ
set_option Elab.async false
set_option linter.all false
set_option maxRecDepth 100000
set_option maxHeartbeats 4000000
namespace L2
open PySem PySem.Spec PyProof.Rows
noncomputable def Itk(o:Obj)(d:Addr):It:=
  ⟨fun i H=>∃kvs p,H d=some (.frz o (.dK kvs))∧kvs[i]?=some p,fun i H v H'=>H'=H∧∀kvs,H d=some (.frz o (.dK kvs))→∃p,kvs[i]?=some p∧v=kV p.1,
    fun i H=>∃kvs,H d=some (.frz o (.dK kvs))∧kvs.length≤i⟩
section
variable {X:Cx}
noncomputable def iDict(tl:TE):TI:=fun σ H R=>tl σ H fun x H1=>∃d kvs,x= .ref d∧((H1 d=some (.dK kvs)∧∀o,R (Itk o d) (upd H1 d (.frz o (.dK kvs))))∨∃o,H1 d=some (.frz o (.dK kvs))∧R (Itk o d) H1)
end
section
variable {σ:St} {H:Hp} {D:Ends}
theorem rd_idict{tl:TE}{R:It→Hp→Prop}:iDict tl σ H R=tl σ H fun x H1=>∃d kvs,x= .ref d∧((H1 d=some (.dK kvs)∧∀o,R (Itk o d) (upd H1 d (.frz o (.dK kvs))))∨∃o,H1 d=some (.frz o (.dK kvs))∧R (Itk o d) H1):=rfl
end
end L2
set_option Elab.async false
set_option linter.all false
set_option maxRecDepth 100000
set_option maxHeartbeats 1000000
namespace L2
open PySem PySem.Spec PyProof.Rows
section
variable {X:Cx} {pins:List (Addr×Obj)} {σ:St} {H:Hp} {s:Shared}
noncomputable def Thw(H0:Hp)(R:Hp→Prop)(H:Hp):Prop:=R H∨∃d o u,H d=some (.frz o u)∧(∀o' u',H0 d≠some (.frz o' u'))∧R (upd H d u)
noncomputable def tThaw(H0:Hp)(t:TS):TS:=fun D σ H=>t {D with nx:=fun σ H=>Thw H0 (D.nx σ) H,rt:=fun v H=>Thw H0 (D.rt v) H} σ H
end
theorem rd_thaw{H0:Hp}{t:TS}{D:Ends}{σ:St}{H:Hp}:tThaw H0 t D σ H=t {D with nx:=fun σ H=>Thw H0 (D.nx σ) H,rt:=fun v H=>Thw H0 (D.rt v) H} σ H:=rfl
section
variable {tail:St} {te:Blk→TE} {Q:VK} {H1:Hp}
end
end L2
set_option Elab.async false
set_option linter.all false
set_option maxRecDepth 100000
set_option maxHeartbeats 1000000
namespace L2
open PySem PySem.Spec PyProof.Rows
section
open PySem.W
variable {K:Frag} {C N:Addr} {nm q:Str} {bs:List Value} {hdct:Bool} {sn:List Str} {sub:List Value} {ab:Bool} {col:Option Bool} {dd:Option Addr} {k0 k1 k2 k3 k5:Option Value} {oc:Value} {od:Option Addr} {es:Array DictEntry} {ep:Nat} {sl:Array (Option Value)}
end
end L2
set_option Elab.async false
set_option linter.all false
set_option maxRecDepth 100000
set_option maxHeartbeats 1000000
namespace L2
open PySem PySem.Spec PyProof.Rows
section
variable {X:Cx}
end
end L2
namespace N57
open PySem PySem.Spec PyProof.Rows L2 N1 N5 N4 N6 N12 N32 N14 N20 NQ
noncomputable def RtA(H:Hp)(a:Addr)(U v:Int):Prop:=H a=some (.tup [.int (rt U v).1,.int (rt U v).2])
noncomputable def RtsA(H:Hp)(us:List Addr)(U:Int)(rs:List Int):Prop:=us.length=rs.length∧∀(i:Nat) (a:Addr) (v:Int),us[i]?=some a→rs[i]?=some v→RtA H a U v
structure Un(U:Int)(ts:List Th):Prop where
  p:0 < U
  b:U≤10 ^ 180
  r:∀t∈ts,1≤t.2.2∧t.2.2≤1000∧t.2.2 ∣ U
  c:∀t∈ts,0≤t.2.1∧t.2.1≤10 ^ 30
noncomputable def Bd(v:Int):Prop:=0≤v∧v≤10 ^ 230
noncomputable def sh(U:Int)(ts:List Th)(z:Str):Int:=N41.cst ts z * (U / rm ts z)
noncomputable def N74s{α:Type}(f:Str→α)(z:Str)(v:α):Str→α:=fun y=>if y=z then v else f y
structure DuX where
  rp:Addr
  dd:Addr
  rr:Addr
structure DuS where
  r:Int
  ks:List Str
  f:Str→Int
  rs:List Int
structure Dfs(p:Addr)(n:Int)(x:DuX)(fs:List (Str×V)):Prop where
  st:fs.lookup (Str.ofString "stock")=some (.ref p)
  pl:fs.lookup (Str.ofString "places")=some (.int n)
  re:fs.lookup (Str.ofString "reached")=some (.ref x.rp)
  du:fs.lookup (Str.ofString "dues")=some (.ref x.dd)
  ri:fs.lookup (Str.ofString "rises")=some (.ref x.rr)
  n:fs.length < 500
  m:∀m∈[Str.ofString "asked",Str.ofString "owe",Str.ofString "choice",Str.ofString "gone",Str.ofString "came",Str.ofString "level",Str.ofString "due_of",Str.ofString "prices"],fs.lookup m=none
structure DuAt(C:Addr)(U:Int)(H:Hp)(q p:Addr)(n:Int)(x:DuX)(s:DuS):Prop where
  o:∃dx fs,H q=some (.ins C dx fs)∧Dfs p n x fs
  rp:RtA H x.rp U s.r
  dd:∃kvs,H x.dd=some (.dK kvs)∧kvs.map (·.1)=s.ks.map Sum.inr∧∀y∈s.ks,∃a,valV kvs (Sum.inr y)=some (.ref a)∧RtA H a U (s.f y)
  rr:∃us,H x.rr=some (.lst (us.map V.ref))∧RtsA H us U s.rs
  nd:s.ks.Nodup
  b:Bd s.r∧(∀y∈s.ks,Bd (s.f y))∧(∀v∈s.rs,Bd v)
  l:s.ks.length≤100∧s.rs.length≤1000
section
variable {C:Addr} {U:Int} {H H':Hp} {q p:Addr} {n:Int} {x:DuX} {s:DuS} {us:List Addr} {rs:List Int} {ts:List Th}
noncomputable def DuM(q:Addr)(x:DuX):List Addr:=[q,x.dd,x.rr]
end
section
variable {C:Addr} {U:Int} {H H':Hp} {q p:Addr} {n:Int} {x:DuX} {s:DuS} {us:List Addr} {rs:List Int} {ts:List Th} {z:Str} {a:Addr}
end
noncomputable def sp57_ratio:Sp:=fun vs H Q _=>∃(i j:Int),vs=[.int i,.int j]∧0 < j∧j < 10 ^ 1000∧∀p,H p=none→Q (.ref p) (upd H p (.tup [.int (rt j i).1,.int (rt j i).2]))
noncomputable def sp57_plus:Sp:=fun vs H Q _=>∃(a b:Addr) (U x y:Int),vs=[.ref a,.ref b]∧RtA H a U x∧RtA H b U y∧0 < U∧U≤10 ^ 180∧(x.natAbs≤10 ^ 240∧y.natAbs≤10 ^ 240)∧∀p,H p=none→Q (.ref p) (upd H p (.tup [.int (rt U (x+y)).1,.int (rt U (x+y)).2]))
noncomputable def sp57_minus:Sp:=fun vs H Q _=>∃(a b:Addr) (U x y:Int),vs=[.ref a,.ref b]∧RtA H a U x∧RtA H b U y∧0 < U∧U≤10 ^ 180∧(x.natAbs≤10 ^ 240∧y.natAbs≤10 ^ 240)∧∀p,H p=none→Q (.ref p) (upd H p (.tup [.int (rt U (x - y)).1,.int (rt U (x - y)).2]))
noncomputable def sp57_under:Sp:=fun vs H Q _=>∃(a b:Addr) (U x y:Int),vs=[.ref a,.ref b]∧RtA H a U x∧RtA H b U y∧0 < U∧U≤10 ^ 180∧(x.natAbs≤10 ^ 240∧y.natAbs≤10 ^ 240)∧Q (.bl (decide (x < y))) H
noncomputable def sp57_rinit(K:PySem.W.Frag)(C:Addr):Sp:=fun vs H Q _=>∃(q dx p:Addr) (n:Int),vs=[.ref q,.ref p,.int n]∧H q=some (.ins C dx [])∧1≤n∧n≤1000000∧∀H',SameBut q H H'→H' q=some (.ins C dx [(Str.ofString "stock",.ref p),(Str.ofString "places",.int n)])→Q .non H'
noncomputable def sp57_init(C:Addr):Sp:=fun vs H Q _=>∃(q dx p:Addr) (n U:Int),vs=[.ref q,.ref p,.int n]∧H q=some (.ins C dx [])∧1≤n∧n≤1000000∧0 < U∧∀(x:DuX) (H':Hp),SameBut q H H'→(∀b∈[x.dd,x.rr],H b=none)→DuAt C U H' q p n x ⟨0,[],fun _=>0,[]⟩→Q .non H'
noncomputable def sp57_owe(K:PySem.W.Frag)(C S:Addr):Sp:=fun vs H Q _=>∃(q p:Addr) (n U:Int) (x:DuX) (s:DuS) (z:Str) (ts:List Th),vs=[.ref q,.str z]∧DuAt C U H q p n x s∧StockAt K S H p ts∧(ts.map (·.1)).Nodup∧z∈ts.map (·.1)∧z∉s.ks∧Un U ts∧s.ks.length < 100∧s.r≤10 ^ 229∧
  ∀H',Kp (DuM q x) H H'→DuAt C U H' q p n x ⟨s.r,s.ks++[z],N74s s.f z (s.r+sh U ts z),s.rs⟩→Q .non H'
noncomputable def askS(U:Int)(ts:List Th)(s:DuS)(z:Str):DuS:=if z∈s.ks then ⟨s.r,s.ks.erase z++[z],N74s s.f z (s.r+sh U ts z),s.rs++[0]⟩ else ⟨s.r,s.ks,s.f,s.rs++[0]⟩
noncomputable def goneS(s:DuS)(z:Str):DuS:=⟨s.f z,s.ks.erase z,s.f,s.rs.set (s.rs.length - 1) (s.rs.getLastD 0+(s.f z - s.r))⟩
noncomputable def sp57_asked(K:PySem.W.Frag)(C S:Addr):Sp:=fun vs H Q _=>∃(q p:Addr) (n U:Int) (x:DuX) (s:DuS) (z:Str) (ts:List Th),vs=[.ref q,.str z]∧DuAt C U H q p n x s∧StockAt K S H p ts∧(∀H',Kp (DuM q x) H H'→StockAt K S H' p ts)∧(ts.map (·.1)).Nodup∧z∈ts.map (·.1)∧Un U ts∧s.rs.length < 1000∧s.r≤10 ^ 229∧
  ∀H',Kp (DuM q x) H H'→DuAt C U H' q p n x (askS U ts s z)→Q .non H'
noncomputable def sp57_choice(C:Addr):Sp:=fun vs H Q _=>∃(q p l:Addr) (n U:Int) (x:DuX) (s:DuS),vs=[.ref q,.ref l]∧DuAt C U H q p n x s∧0 < U∧U≤10 ^ 180∧s.ks≠[]∧∀(z:Str) (H':Hp),Same H H'→z∈s.ks→(∀y∈s.ks,s.f z≤s.f y)→Q (.str z) H'
noncomputable def sp57_gone(C:Addr):Sp:=fun vs H Q _=>∃(q p:Addr) (n U:Int) (x:DuX) (s:DuS) (z:Str),vs=[.ref q,.str z]∧DuAt C U H q p n x s∧0 < U∧U≤10 ^ 180∧z∈s.ks∧1≤s.rs.length∧Bd (s.rs.getLastD 0+(s.f z - s.r))∧
  ∀(a:Addr) (H':Hp),Kp (DuM q x) H H'→DuAt C U H' q p n {x with rp:=a} (goneS s z)→Q .non H'
noncomputable def sp57_level(C:Addr):Sp:=fun vs H Q _=>∃(q p:Addr) (n U:Int) (x:DuX) (s:DuS),vs=[.ref q]∧DuAt C U H q p n x s∧Q (.ref x.rp) H
noncomputable def sp57_due(C N:Addr):Sp:=fun vs H Q E=>∃(q p:Addr) (n U:Int) (x:DuX) (s:DuS) (z:Str),vs=[.ref q,.str z]∧DuAt C U H q p n x s∧(reprText z).length≤1000∧(z∈s.ks→∀a,RtA H a U (s.f z)→Q (.ref a) H)∧(z∉s.ks→∀H' e,Same H H'→H' e=none→E (.ref N) (some e) H')
noncomputable def sp57_prices(C:Addr):Sp:=fun vs H Q _=>∃(q p:Addr) (n U:Int) (x:DuX) (s:DuS),vs=[.ref q]∧DuAt C U H q p n x s∧∀(l:Addr) (us:List Addr),H l=none→RtsA H us U s.rs→Q (.ref l) (upd H l (.lst (us.map V.ref)))
noncomputable def CrA(K:PySem.W.Frag)(H:Hp)(a:Addr)(U x:Int):Prop:=∃t b:Int,SqT K H a [.int t,.int b]∧0 < b∧t * U=x * b∧t.natAbs≤10 ^ 240∧b.natAbs≤10 ^ 180
noncomputable def sp57_rows(K:PySem.W.Frag):Sp:=fun vs H Q _=>∃(a:Addr) (ns:List Int),vs=[.ref a]∧SqL K H a (ns.map V.int)∧ns.length≤63∧
  ∀(r:Addr) (as:List Addr) (ts:List Th) (H':Hp),Same H H'→H' r=some (.lst (as.map V.ref))→RowsAt K H' r as ts→1≤ts.length→(∀t∈ts,t.2.1 < 1000)→Q (.ref r) H'
noncomputable def sp57_priced(K:PySem.W.Frag):Sp:=fun vs H Q _=>∃(r:Addr) (c:Int) (as:List Addr) (ts:List Th),vs=[.ref r,.int c]∧RowsAt K H r as ts∧1≤ts.length∧(∀t∈ts,t.2.1 < 1000)∧
  ∀(r':Addr) (as':List Addr) (ts':List Th) (H':Hp),Same H H'→H' r'=some (.lst (as'.map V.ref))→RowsAt K H' r' as' ts'→1≤ts'.length→Q (.ref r') H'
noncomputable def sp57_whole:Sp:=fun vs H Q _=>∃i:Int,vs=[.int i]∧Q (.bl true) H
noncomputable def sp57_shared:Sp:=fun vs H Q _=>∃(i j:Int),vs=[.int i,.int j]∧0≤j∧Q (.int (Int.gcd i j)) H
noncomputable def sp57_lratio:Sp:=fun vs H Q _=>∃(a:Addr) (U v:Int),vs=[.ref a]∧RtA H a U v∧0 < U∧Q (.bl true) H
noncomputable def sp57_lunder:Sp:=fun vs H Q _=>∃(a b:Addr) (U x y:Int),vs=[.ref a,.ref b]∧RtA H a U x∧RtA H b U y∧0 < U∧U≤10 ^ 180∧(x.natAbs≤10 ^ 240∧y.natAbs≤10 ^ 240)∧Q (.bl (decide (x < y))) H
noncomputable def sp57_lsum(K:PySem.W.Frag):Sp:=fun vs H Q _=>∃(a b c:Addr) (U x y:Int),vs=[.ref a,.ref b,.ref c]∧CrA K H a U (x+y)∧CrA K H b U x∧CrA K H c U y∧0 < U∧Q (.bl true) H
structure LdA(H:Hp)(ld:Addr)(U:Int)(kvs:List (Key×V))(ks:List Str)(f:Str→Int):Prop where
  d:H ld=some (.dK kvs)
  k:kvs.map (·.1)=ks.map Sum.inr
  v:∀y∈ks,∃a,valV kvs (Sum.inr y)=some (.ref a)∧RtA H a U (f y)
  nd:ks.Nodup
noncomputable def sp57_lleast:Sp:=fun vs H Q _=>∃(ld:Addr) (z:Str) (U:Int) (kvs:List (Key×V)) (ks:List Str) (f:Str→Int),vs=[.ref ld,.str z]∧LdA H ld U kvs ks f∧0 < U∧U≤10 ^ 180∧(∀y∈ks,Bd (f y))∧z∈ks∧(∀y∈ks,f z≤f y)∧ks.length≤100∧∀H',Same H H'→Q (.bl true) H'
noncomputable def sp57_not(C:Addr):Sp:=fun vs H Q _=>∃(q p:Addr) (n U:Int) (x:DuX) (s:DuS) (z:Str),vs=[.ref q,.str z]∧DuAt C U H q p n x s∧(reprText z).length≤1000∧z∉s.ks∧∀H',Same H H'→Q (.bl true) H'
theorem _root_.N4.RowsAt.snoc{K:PySem.W.Frag}{H H':Hp}{l a:Addr}{as:List Addr}{ts:List Th}{t:Th}{xs:List V}(h:RowsAt K H l as ts)(hl:H l=some (.lst xs))(sb:SameBut l H H')(hl':H' l=some (.lst ((as++[a]).map V.ref)))(ha:SqT K H' a [.str t.1,.int t.2.1,.int t.2.2])(ok:nameB t.1.cps.toList=true∧0≤t.2.1∧t.2.1≤10 ^ 30∧1≤t.2.2∧t.2.2≤1000)(hn:t.1∉ts.map (·.1))(hm:ts.length < 60):RowsAt K H' l (as++[a]) (ts++[t]):=by
  refine ⟨SqL.of hl',by rw [List.length_append,List.length_append,h.n];rfl,by rw [List.length_append];simp only [List.length_cons,List.length_nil];omega,fun i b u e1 e2=>?_,fun u hu=>?_,?_⟩
  · by_cases hi:i < as.length
    · rw [List.getElem?_append_left hi]at e1
      rw [List.getElem?_append_left (by rw [← h.n];exact hi)]at e2
      exact SqT.butL sb hl (h.at_ i b u e1 e2)
    · rw [List.getElem?_append_right (by omega)]at e1
      rw [List.getElem?_append_right (by rw [← h.n];omega)]at e2
      have h0:i - as.length=0:=by
        have:=(List.getElem?_eq_some_iff.mp e1).1
        simp at this;omega
      rw [h0]at e1
      rw [← h.n,h0]at e2
      cases e1
      cases e2
      exact ha
  · rcases List.mem_append.mp hu with hu | hu
    · exact h.ok u hu
    · rw [List.mem_singleton.mp hu];exact ok
  · rw [List.map_append]
    exact List.nodup_append.mpr ⟨h.nd,by simp,fun x hx y hy e=>hn (by have h1:y=t.1:=List.mem_singleton.mp hy;rw [← h1,← e];exact hx)⟩
structure Low(k:Int)(s:DuS):Prop where
  a:0≤s.r
  b:s.r≤k * 10 ^ 210
  c:∀y∈s.ks,s.r≤s.f y∧s.f y≤k * 10 ^ 210
structure Mt(q:Addr)(x:DuX)(ld rd:Addr):Prop where
  n1:ld≠x.dd
  n2:rd≠x.dd
  n3:ld≠rd
noncomputable def sp57_lprices(K:PySem.W.Frag):Sp:=fun vs H Q _=>∃(fo ke be le:Addr) (us ws:List Addr) (rs:List Int) (U r r':Int),vs=[.ref fo,.ref ke,.ref be,.ref le]∧H fo=some (.lst (us.map V.ref))∧H ke=some (.lst (ws.map V.ref))∧RtsA H us U (rs++[r' - r])∧RtsA H ws U rs∧RtA H be U r∧RtA H le U r'∧0 < U∧U≤10 ^ 180∧Bd r∧Bd r'∧r≤r'∧rs.length≤1000∧∀H',Same H H'→Q (.bl true) H'
noncomputable def sp57_ldues(K:PySem.W.Frag)(C:Addr):Sp:=fun vs H Q _=>∃(q p ld th le:Addr) (n U:Int) (x:DuX) (s:DuS) (z:Str) (ts:List Th) (kvs:List (Key×V)) (ks:List Str) (fl:Str→Int),vs=[.ref q,.str z,.ref ld,.ref th,.ref le]∧DuAt C U H q p n x s∧(ts.map (·.1)).Nodup∧Un U ts∧z∈ts.map (·.1)∧z∈s.ks∧s.f z=s.r+sh U ts z∧(∀y∈s.ks,s.r≤s.f y)∧(∀y∈s.ks,(reprText y).length≤1000)∧LdA H ld U kvs ks fl∧(∀y∈ks,y∈s.ks∧(y≠z→fl y=s.f y))∧SqT K H th [.str z,.int (N41.cst ts z),.int (rm ts z)]∧RtA H le U s.r∧ld≠x.dd∧ks.length < 100∧
  ∀(H':Hp) (kvs':List (Key×V)),Kp [ld] H H'→LdA H' ld U kvs' (if z∈ks then ks else ks++[z]) s.f→Q (.bl true) H'
structure SvI(C:Addr)(U:Int)(H0:Hp)(q p ld rd:Addr)(n k:Int)(x:DuX)(s:DuS)(ts:List Th)(H':Hp)(x':DuX)(s':DuS)(kvs':List (Key×V))(ks':List Str)(rv be:Addr):Prop where
  kp:Kp (ld::DuM q x) H0 H'
  d:DuAt C U H' q p n x' s'
  e1:x'.dd=x.dd
  e2:x'.rr=x.rr
  l:LdA H' ld U kvs' ks' s.f
  pm:ks'.Perm s'.ks
  lo:Low k s'
  f:s'.f=s.f
  su:∀y∈s'.ks,y∈s.ks
  le:s.r≤s'.r
  rs:s'.rs=s.rs.set (s.rs.length - 1) (s'.r - s.r)
  rv:RtA H' rv U s'.r
  rd:H' rd=some (.dK (N20.rmK ts))
  be:RtA H' be U s.r
section
variable {C:Addr} {U:Int} {H0 H' H2:Hp} {q p ld rd:Addr} {n k:Int} {x x':DuX} {s s':DuS} {ts:List Th} {kvs':List (Key×V)} {ks':List Str} {rv be:Addr}
end
open Classical in
noncomputable def Im(L:List Addr)(H:Hp):Hp:=fun b=>if b∈L then none else H b
structure LwI(K:PySem.W.Frag)(C S:Addr)(U:Int)(H8 H:Hp)(q st ld ke be e td al:Addr)(n:Int)(x:DuX)(L:List Addr)(ts:List Th)(as:List Addr)(tks:List (Key×V))(ys:List Str)(s:DuS)(kvs:List (Key×V))(ks:List Str)(ws:List Addr)(i:Nat):Prop where
  sm:Same H8 H
  d:DuAt C U H q st n x s
  eL:ld::DuM q x=L
  l:LdA H ld U kvs ks s.f
  pm:ks.Perm s.ks
  lo:Low i s
  nm:∀y∈s.ks,y∈ts.map (·.1)
  rl:s.rs.length=i
  kn:ke∉L
  be:RtA H be U s.r
  ke:H ke=some (.lst (ws.map V.ref))
  ws:RtsA H ws U s.rs
  e:Im L H e=some (.dK (N20.rmK ts))
  td:Im L H td=some (.dK tks)
  al:Im L H al=some (.lst (ys.map V.str))
  tp:∀(j:Nat) (pa:Addr) (t:Th),as[j]?=some pa→ts[j]?=some t→SqT K (Im L H) pa [.str t.1,.int t.2.1,.int t.2.2]
end N57
set_option Elab.async false
set_option linter.all false
set_option maxRecDepth 100000
set_option maxHeartbeats 1000000
namespace L2
open PySem PySem.Spec PyProof.Rows
noncomputable def OptV:Option V→Option Value→Prop
  | none,o=>o=none
  | some v,o=>∃u,o=some u∧RelV v u
structure KTab(P:Params)(K:PySem.W.Frag)(a:Addr)(x:Str)(o:Option V):Prop where
  lo:(a==sysModules)=false
  ex:∃es n,K.lookup a=some ⟨.type "dict",none,.dict es n,#[]⟩∧PySem.W.KeysLit P es.toList∧OptV o (findBy Value.isStrOf es x)
theorem ktab_of{P:Params}{K:PySem.W.Frag}{a:Addr}{x:Str}{o:Option V}{r:Option Value}{es:Array DictEntry}{n:Nat}(lo:(a==sysModules)=false)(hl:K.lookup a=some ⟨.type "dict",none,.dict es n,#[]⟩)(hk:PySem.W.KeysLit P es.toList)(e:PySem.W.nsIn K a x=some r)(q:OptV o r):KTab P K a x o:=
  ⟨lo,es,n,hl,hk,by rw [PySem.W.find_K hl e];exact q⟩
noncomputable def tKGet(P:Params)(K:PySem.W.Frag)(td ty:TE):TE:=fun σ H Q=>td σ H fun x H1=>ty σ H1 fun y H2=>∃a w v,x= .ref a∧y= .str w∧KTab P K a w (some v)∧Q v H2
noncomputable def tKNin(P:Params)(K:PySem.W.Frag)(ty td:TE):TE:=fun σ H Q=>ty σ H fun y H1=>td σ H1 fun x H2=>∃a w o,x= .ref a∧y= .str w∧KTab P K a w o∧Q (.bl (!o.isSome)) H2
section
variable {X:Cx} {o i:Expr} {td ty:TE} {pos:Pos}
theorem pe_kget(ho:PE X o td)(hi:PE X i ty)(hs:NoSl i):PE X (.Subscript o i pos) (tKGet X.w.params X.K td ty):=by
  intro pins s σ H Q I h
  refine subD_of PySem.F.slot_dict_getitem.lookup hs (thn (ho pins s σ H _ I h) fun u s1 ⟨x,H1,I1,rx,q1⟩=>thn (hi pins s1 σ H1 _ I1 q1) fun iv s2 ⟨y,H2,I2,ry,a,w,v,ex,ey,g,q2⟩=>?_)
  subst ex
  subst ey
  obtain rfl:u=Value.ref a:=rx
  obtain ⟨t,rfl⟩:=ry
  obtain ⟨es,n,hl,hk,hf⟩:=g.ex
  have hm:=PySem.W.mapOf_K (prog:=X.prog) (w:=X.w) I2.kIn hl hk
  obtain ⟨r,e1,e2⟩:=hf
  exact ⟨hm.typeIs,wpAny_getItem_of (strKind_is X.prog X.w w t) hm e1 ⟨v,H2,I2.tok _,e2,q2⟩⟩
theorem pc_knin(hi:PE X i ty)(ho:PE X o td):PC X .NotIn i o (tKNin X.w.params X.K ty td):=by
  intro pins s σ H Q I h
  refine thn (hi pins s σ H _ I h) fun iv s1 ⟨y,H1,I1,ry,q1⟩=>thn (ho pins s1 σ H1 _ I1 q1) fun u s2 ⟨x,H2,I2,rx,a,w,ov,ex,ey,g,q2⟩=>?_
  subst ex
  subst ey
  obtain rfl:u=Value.ref a:=rx
  obtain ⟨t,rfl⟩:=ry
  obtain ⟨es,n,hl,hk,hf⟩:=g.ex
  have hm:=PySem.W.mapOf_K (prog:=X.prog) (w:=X.w) I2.kIn hl hk
  refine wpAny_notIn_of (strKind_is X.prog X.w w t) g.lo hm ⟨.bl (!ov.isSome),H2,I2.tok _,?_,q2⟩
  show Value.bool _=Value.bool _
  cases ov with
  | none=>rw [show findBy Value.isStrOf es w=none from hf];rfl
  | some v=>obtain ⟨r,e1,_⟩:=hf;rw [e1];rfl
theorem rd_kget{P:Params}{K:PySem.W.Frag}{σ:St}{H:Hp}{Q:VK}:tKGet P K td ty σ H Q=td σ H fun x H1=>ty σ H1 fun y H2=>∃a w v,x= .ref a∧y= .str w∧KTab P K a w (some v)∧Q v H2:=rfl
theorem rd_knin{P:Params}{K:PySem.W.Frag}{σ:St}{H:Hp}{Q:VK}:tKNin P K ty td σ H Q=ty σ H fun y H1=>td σ H1 fun x H2=>∃a w o,x= .ref a∧y= .str w∧KTab P K a w o∧Q (.bl (!o.isSome)) H2:=rfl
end
noncomputable def tCallF{ι:Type}(fa:ι→Addr)(sp:ι→Sp)(E:XK)(tv:TE)(t:TA):TE:=fun σ H Q=>tv σ H fun x H1=>∃b,x= .ref (fa b)∧t σ H1 fun vs H2=>sp b vs H2 Q E
section
variable {ι:Type} {X:Cx} {CX:CXT} {k j:Nat} {fa:ι→Addr} {nm:ι→Str} {ps:List Str} {sp:ι→Sp} {E:XK} {x:Str} {p pos:Pos} {e:Expr} {es:List Expr} {tv:TE} {t:TA}
theorem pe_callF(D:∀b,Def X.prog X.w X.K X.mg X.base CX j (nm b) ps (sp b))(hf:∀b,X.mg (nm b)=some (.ref (fa b)))(hr:Room k X.A)(hx:Passes CX X E)(hv:PE X (.Name x p) tv)(ha:PA X (e::es) t)(hj:j≤k:=by decide)
    (he:starEach (e::es) X.env=(false,eval e X.env)::starEach es X.env:=by rfl) (hpl:(backTo pos (starEach es X.env)).any (·.1)=false:=by rfl):
    PE X (.Call (.Name x p) (e::es) [] pos) (tCallF fa sp E tv t):=by
  intro pins s σ H Q I h
  refine wpAny_Call_Name_kw (thn (hv pins s σ H _ I h) fun u s1 ⟨y,H1,I1,ry,b,ey,q1⟩=>?_)
  obtain ⟨f,fd,F,hm,hk,hb⟩:=(D b).ex
  obtain rfl:f=fa b:=by rw [hf b]at hm;cases hm;rfl
  subst ey
  obtain rfl:u=Value.ref (fa b):=ry
  refine PySem.W.callWith_K (h₀:=X.base) I.ok.mod.kin hk (thn (ha pos pins s1 σ H1 _ I1 q1) fun us s2 ⟨vs,H2,I2,r,q2⟩=>⟨I2.kIn,?_⟩) he hpl
  refine run_fn (F.mono hj) hr hb .nil hx I2 r ?_
  rw [List.append_nil]
  exact q2
theorem rd_callF{σ:St}{H:Hp}{Q:VK}:tCallF fa sp E tv t σ H Q=tv σ H fun x H1=>∃b,x= .ref (fa b)∧t σ H1 fun vs H2=>sp b vs H2 Q E:=rfl
end
end L2
set_option Elab.async false
set_option linter.all false
set_option maxRecDepth 100000
set_option maxHeartbeats 1000000
namespace L2
open PySem PySem.Spec PyProof.Rows
section
variable {prog:Program} {w:World} {A:Around} {R:Result→Shared→Prop} {I:Addr} {fp wr:List Addr} {n:Nat} {P:Nat→Value→Prop} {St:Nat→Heap→Prop} {d:Value}
noncomputable abbrev dfl(d:Value):List (Str×Value):=[(Str.ofString "default",d)]
theorem minD_loop(W:Walks prog w A.in1 I fp wr n P St)(bt:Nat→Nat→Bool)(hcmp:CmpOf prog w A.in1 .Lt P bt)(S:Addr)(hSf:S∉fp):
    ∀(k j:Nat) (s:Shared) (vb:Value) (c:Nat),n - (j+1)=k→j+1≤n→St (j+1) s.heap→P (argBest bt j) vb→
    s.heap.get? S=some {cls:= .type "list",dict:=none,data:= .seq #[vb,vb] c,slots:=#[]}→
    (∀v h' tk,P (argBest bt (n - 1)) v→(∀b o,b∉wr→b≠S→s.heap.get? b=some o→h'.get? b=some o)→R (.ok (.ret v)) {s with heap:=h',toks:=tk})→
    codeAny (model prog w) A (.builtin "min.loop" ⟨[.ref I,.none,.ref S],dfl d⟩) R s:=by
  have hSw:S∉wr:=fun h=>hSf (W.sub _ h)
  have hname:(toString "min"++toString ".loop":String)="min.loop":=by decide
  intro k
  induction k with
  | zero=>
    intro j s vb c hk hj hst hPb hS hR
    have hin:j+1=n:=by omega
    refine codeAny_builtin PySem.F.entry_min_loop ?_
    rw [Around.under_plainId PySem.F.plain_min_loop _]
    show wpAny _ A.in1 (seqItems? (.ref S) >>=_) _ _ s
    refine wpAny_bind (wpAny_seqItems hS rfl ?_)
    show wpAny _ A.in1 (tryCatch (pyNext (.ref I)) _ >>=_) _ _ s
    refine wpAny_bind (wpAny_tryCatch (W.done s _ _ (hin▸hst) fun h' tk hk'=>?_))
    have hS':=hk' S _ hSw hS
    show wpAny _ A.in1 (updateSeq S (fun _=>#[]) >>=_) _ _ _
    refine wpAny_bind (wpAny_updateSeq hS' rfl (wpAny_bind (wpAny_letGo (wpAny_pure ?_))))
    exact hR vb _ tk (by rw [← hin];exact hPb) fun b o hbw hbS e=>(Heap.get?_update_other _ _ (Ne.symm hbS)).trans (hk' b o hbw e)
  | succ k ih=>
    intro j s vb c hk hj hst hPb hS hR
    have hlt:j+1 < n:=by omega
    refine codeAny_builtin PySem.F.entry_min_loop ?_
    rw [Around.under_plainId PySem.F.plain_min_loop _]
    show wpAny _ A.in1 (seqItems? (.ref S) >>=_) _ _ s
    refine wpAny_bind (wpAny_seqItems hS rfl ?_)
    show wpAny _ A.in1 (tryCatch (pyNext (.ref I)) _ >>=_) _ _ s
    refine wpAny_bind (wpAny_tryCatch (W.item (j+1) s _ _ hlt hst fun v h' tk hP hst' hk'=>?_))
    have hS':=hk' S _ hSw hS
    show wpAny _ A.in1 (tryCatch (holding [v,v] (richCompare .Lt v vb >>=_)) _ >>=_) _ _ _
    refine wpAny_bind (wpAny_tryCatch (wpAny_holding (wpAny_bind (hcmp (j+1) (argBest bt j) v vb _ _ _ hP hPb ?_))))
    refine wpAny_bind (wpAny_holding (wpAny_truthy_bool (wpAny_bind (wpAny_letGo (wpAny_pure ?_)))))
    cases hb:bt (j+1) (argBest bt j) with
    | true=>
      simp only [if_true]
      refine wpAny_bind (wpAny_updateSeq hS' rfl (wpAny_bind (wpAny_letGo ?_)))
      rw [hname]
      refine wpAny_pure ⟨plainId_quiet PySem.F.plain_min_loop _,ih (j+1) _ v _ (by omega) hlt (W.frame _ _ _ hst' fun b hbf o e=>?_) (by simp only [argBest,hb,if_true];exact hP) (Heap.get?_update_self _ hS' rfl)
        fun v' h'' tk'' hP' hk''=>?_⟩
      · exact (Heap.get?_update_other _ _ (fun h:S=b=>hSf (by rw [h];exact hbf))).trans e
      · exact hR v' h'' tk'' hP' fun b o hbw hbS e=>hk'' b o hbw hbS ((Heap.get?_update_other _ _ (Ne.symm hbS)).trans (hk' b o hbw e))
    | false=>
      simp only [Bool.false_eq_true,if_false]
      refine wpAny_bind (wpAny_letGo ?_)
      rw [hname]
      exact wpAny_pure ⟨plainId_quiet PySem.F.plain_min_loop _,ih (j+1) _ vb c (by omega) hlt hst' (by simp only [argBest,hb,Bool.false_eq_true,if_false];exact hPb) hS' fun v' h'' tk'' hP' hk''=>
        hR v' h'' tk'' hP' fun b o hbw hbS e=>hk'' b o hbw hbS (hk' b o hbw e)⟩
theorem minD_first(W:Walks prog w A.in1 I fp wr n P St)(bt:Nat→Nat→Bool)(hcmp:CmpOf prog w A.in1 .Lt P bt)(S:Addr)(hSf:S∉fp){s:Shared}{c:Nat}(hst:St 0 s.heap)
    (hS:s.heap.get? S=some {cls:= .type "list",dict:=none,data:= .seq #[] c,slots:=#[]})
    (hR:∀v h' tk,(if n=0 then v=d else P (argBest bt (n - 1)) v)→(∀b o,b∉wr→b≠S→s.heap.get? b=some o→h'.get? b=some o)→R (.ok (.ret v)) {s with heap:=h',toks:=tk}):
    codeAny (model prog w) A (.builtin "min.loop" ⟨[.ref I,.none,.ref S],dfl d⟩) R s:=by
  have hSw:S∉wr:=fun h=>hSf (W.sub _ h)
  have hname:(toString "min"++toString ".loop":String)="min.loop":=by decide
  refine codeAny_builtin PySem.F.entry_min_loop ?_
  rw [Around.under_plainId PySem.F.plain_min_loop _]
  show wpAny _ A.in1 (seqItems? (.ref S) >>=_) _ _ s
  refine wpAny_bind (wpAny_seqItems hS rfl ?_)
  show wpAny _ A.in1 (tryCatch (pyNext (.ref I)) _ >>=_) _ _ s
  by_cases hn:n=0
  · refine wpAny_bind (wpAny_tryCatch (W.done s _ _ (hn▸hst) fun h' tk hk'=>?_))
    show wpAny _ A.in1 (rule _ >>=fun _=>ret d) _ _ _
    refine wpAny_bind (wpAny_rule (wpAny_pure ?_))
    exact hR d _ tk (by rw [if_pos hn]) fun b o hbw _ e=>hk' b o hbw e
  refine wpAny_bind (wpAny_tryCatch (W.item 0 s _ _ (Nat.pos_of_ne_zero hn) hst fun v h' tk hP hst' hk'=>?_))
  have hS':=hk' S _ hSw hS
  show wpAny _ A.in1 (updateSeq S (fun _=>#[v,v]) >>=_) _ _ _
  refine wpAny_bind (wpAny_updateSeq hS' rfl ?_)
  rw [hname]
  refine wpAny_pure ⟨plainId_quiet PySem.F.plain_min_loop _,minD_loop W bt hcmp S hSf _ 0 _ v _ rfl (Nat.pos_of_ne_zero hn) (W.frame _ _ _ hst' fun b hbf o e=>?_) hP (Heap.get?_update_self _ hS' rfl) fun v' h'' tk'' hP' hk''=>?_⟩
  · exact (Heap.get?_update_other _ _ (fun h:S=b=>hSf (by rw [h];exact hbf))).trans e
  · exact hR v' h'' tk'' (by rw [if_neg hn];exact hP') fun b o hbw hbS e=>hk'' b o hbw hbS ((Heap.get?_update_other _ _ (Ne.symm hbS)).trans (hk' b o hbw e))
end
theorem args_minD(a v:Value):argsOk "min" ⟨[a],[(Str.ofString "default",v)]⟩:=by unfold argsOk;kernel_rfl
section
variable {prog:Program} {w:World} {A:Around} {E:Value→Shared→Prop} {s:Shared} {d:Value}
theorem call_minD{x:Value}{Q:Value→Shared→Prop}
    (h:wpAny (model prog w) A.in1 (pyIter x) (fun it s₂=>∃I fp wr n P St bt,it= .ref I∧Walks prog w A.in1 I fp wr n P St∧St 0 s₂.heap∧(∀b∈fp,b < s₂.heap.objs.size)∧CmpOf prog w A.in1 .Lt P bt∧
      ∀v h' tk,(if n=0 then v=d else P (argBest bt (n - 1)) v)→(∀b o,b∉wr→s₂.heap.get? b=some o→h'.get? b=some o)→Q v {s₂ with heap:=h',toks:=tk}) E s):
    wpAny (model prog w) A (call (.builtin "min") [x] [(Str.ofString "default",d)]) Q E s:=by
  have hname:(toString "min"++toString ".loop":String)="min.loop":=by decide
  refine kmk_tree PySem.F.kind_min PySem.F.plain_min PySem.F.entry_min (args_minD _ _) ?_
  show wpAny _ A.in1 (Builtin.Builtins.bindParams "min" ["key","default"] 0 ⟨[],[(Str.ofString "default",d)]⟩ >>=_) _ _ s
  refine wpAny_bind (wpAny_of_eq (show Builtin.Builtins.bindParams "min" ["key","default"] 0 ⟨[],[(Str.ofString "default",d)]⟩=pure [none,some d] from rfl) ?_)
  refine wpAny_bind (wpAny_pure ?_)
  refine wpAny_bind (wpAny_mono h (fun it s₂ h₂=>?_) fun _ _ e=>e)
  obtain ⟨I,fp,wr,n,P,St,bt,rfl,W,hst,hfp,hcmp,hQ⟩:=h₂
  refine wpAny_bind (wpAny_newObj_type ?_)
  have hSf:s₂.heap.objs.size∉fp:=fun hm=>Nat.lt_irrefl _ (hfp _ hm)
  rw [hname]
  refine wpAny_pure ⟨plainId_quiet PySem.F.plain_min_loop _,minD_first W bt hcmp s₂.heap.objs.size hSf (W.frame _ _ _ hst fun b _ o e=>Heap.get?_push_of_some _ e) (Heap.get?_push_size _ rfl) fun v h' tk hP hk=>?_⟩
  exact hQ v h' tk hP fun b o hbw e=>hk b o hbw (Nat.ne_of_lt (Heap.lt_size e)) (Heap.get?_push_of_some _ e)
end
noncomputable def tMinD(K:PySem.W.Frag)(t:TA)(td:TE):TE:=fun σ H Q=>t σ H fun vs H1=>td σ H1 fun d H2=>∃(a:Addr) (is:List Int),vs=[.ref a]∧SqL K H2 a (is.map V.int)∧(is=[]→Q d H2)∧∀m∈is,(∀x∈is,m≤x)→Q (.int m) H2
section
variable {X:Cx} {k:Nat} {x:Str} {p pos kp:Pos} {e o:Expr} {t:TA} {td:TE}
theorem pe_minD(hr:Room k X.A)(hg:Gl X x)(hm:X.mg x=none)(hv:bootBuiltins x=some (.builtin "min"))(ha:PA X [e] t)(ho:PE X o td)(hn:x≠"__name__":=by decide)(hdb:(x==("__debug__":Str))=false:=by decide)
    (he:backTo pos (starEach [e] X.env)=(false,eval e X.env)::backTo pos (starEach [] X.env):=by rfl) (hpl:(backTo pos (starEach [e] X.env)).any (·.1)=false:=by rfl):
    PE X (.Call (.Name x p) [e] [⟨some (Str.ofString "default"),o,kp⟩] pos) (tMinD X.K t td):=by
  intro pins s σ H Q I h
  refine wpAny_Call_Name_kw (ld_blt I hg hm hv ?_ hn hdb)
  refine callWith_kw (thn (ha pos pins s σ H _ I h) fun us s1 ⟨vs,H1,I1,r1,q1⟩=>?_) he hpl
  refine kws_cons (thn (ho pins s1 σ H1 _ I1 q1) fun u s2 ⟨y,H2,I2,ry,a,is,ev,hq,q0,qm⟩=>kws_nil ?_)
  subst ev
  obtain ⟨u',rfl,ru⟩:=vals1 r1
  obtain rfl:u'=Value.ref a:=ru
  obtain ⟨its,r,pl,hz⟩:=I2.list hq
  have hlt:a < s2.heap.objs.size:=by obtain ⟨o,n,e,_⟩:=pl;exact Heap.lt_size e
  have hlen:=r.length
  rw [List.length_map]at hlen
  have hb:=best_lt (fun i=>is.getD i 0) (is.length - 1)
  refine call_minD (wpAny_pyIter_list pl.isList ⟨s2.heap.objs.size,_,_,_,_,_,fun i j=>decide (is.getD i 0 < is.getD j 0),rfl,Walks.list (show X.A.in1.handled=none from hr.hd) s2.heap.objs.size a (Nat.ne_of_lt hlt) its.toArray,⟨⟨_,Heap.get?_push_size _ rfl,rfl,rfl⟩,pl.isList.push _⟩,fun b hb=>?_,CmpOf.ints_lt (fun i=>is.getD i 0) (fun i v hP=>(ints_at r hP).2),fun v h' tk hP hmv=>?_⟩)
  · show b < (s2.heap.push _).objs.size
    rw [Heap.size_push]
    rcases List.mem_cons.mp hb with e | hb
    · rw [e];exact Nat.lt_succ_self _
    · rw [List.mem_singleton.mp hb];exact Nat.lt_succ_of_lt hlt
  · have hk:∀b o,s2.heap.get? b=some o→h'.get? b=some o:=fun b o e=>
      hmv b o (fun hI=>absurd (Heap.lt_size e) (by rw [List.mem_singleton.mp hI];exact Nat.lt_irrefl _)) (Heap.get?_push_of_some _ e)
    rw [List.size_toArray,← hlen]at hP
    by_cases hz:is.length=0
    · rw [if_pos hz]at hP
      subst hP
      exact ⟨y,H2,I2.kept (t':=tk) hk,ry,q0 (List.length_eq_zero_iff.mp hz)⟩
    · rw [if_neg hz]at hP
      obtain ⟨hi,t,rfl⟩:=ints_at r hP
      refine ⟨V.int _,H2,I2.kept (t':=tk) hk,⟨t,rfl⟩,qm _ ?_ fun x hx=>?_⟩
      · rw [List.getD_eq_getElem?_getD,List.getElem?_eq_getElem hi];exact List.getElem_mem hi
      · obtain ⟨j,hj⟩:=List.mem_iff_getElem?.mp hx
        have hjl:=(List.getElem?_eq_some_iff.mp hj).1
        have:=hb.2 j (by omega)
        rw [show is.getD j 0=x by rw [List.getD_eq_getElem?_getD,hj];rfl]at this
        exact this
theorem rd_minD{K:PySem.W.Frag}{σ:St}{H:Hp}{Q:VK}:tMinD K t td σ H Q=t σ H fun vs H1=>td σ H1 fun d H2=>∃(a:Addr) (is:List Int),vs=[.ref a]∧SqL K H2 a (is.map V.int)∧(is=[]→Q d H2)∧∀m∈is,(∀x∈is,m≤x)→Q (.int m) H2:=rfl
end
end L2
set_option Elab.async false
set_option linter.all false
set_option maxRecDepth 100000
set_option maxHeartbeats 1000000
namespace L2
open PySem PySem.Spec PyProof.Rows
noncomputable def rEqDD:R2:=fun x y H Q=>∃a b kvs,x= .ref a∧y= .ref b∧H a=some (.dK kvs)∧H b=some (.dK kvs)∧(∀p∈kvs,flatV p.2=true)∧Q (.bl true) H
section
variable {X:Cx}
theorem op_eqDD{k:Nat}(hr:Room k X.A):OpR X (compareOp .Eq) rEqDD:=by
  intro pins s σ H x y v u Q I rx ry h
  obtain ⟨a,b,kvs,rfl,rfl,h1,h2,fl,q⟩:=h
  cases rx
  cases ry
  obtain ⟨z1,l1,vs,r1,d1⟩:=I.hok a _ h1
  obtain ⟨z2,l2,ws,r2,d2⟩:=I.hok b _ h2
  have e1:=r1.length
  have e2:=r2.length
  have hu:X.A.units < cLine:=Nat.lt_of_le_of_lt (by omega) hr.un
  have hn:(ws.map (·.1)).Nodup:=let ⟨_,_,_,_,_,_,_,_,hn⟩:=d2;hn
  have hits:∀(n:Nat),n≤vs.length→PySem.W.KeqHits X.A.in1 s ws (vs.drop (vs.length - n)) true:=by
    intro n
    induction n with
    | zero=>intro _;rw [Nat.sub_zero,List.drop_length];exact .nil
    | succ n ih=>
      intro hle
      have hi:vs.length - (n+1) < vs.length:=by omega
      rw [List.drop_eq_getElem_cons hi,show vs.length - (n+1)+1=vs.length - n by omega]
      have hv:=List.getElem?_eq_getElem hi
      obtain ⟨p,hp,hpk,hpv⟩:=paired_get r1 hv
      have hj:vs.length - (n+1) < ws.length:=by omega
      have hw:=List.getElem?_eq_getElem hj
      obtain ⟨p2,hp2,hpk2,hpv2⟩:=paired_get r2 hw
      rw [hp]at hp2
      cases hp2
      have f:=fl p (List.mem_of_getElem? hp)
      have heq:=eqAt_V (A:=X.A.in1) (s:=s) hpv hpv2 f f
      rw [eqV_self f]at heq
      have hva:valueAt ws (vs[vs.length - (n+1)]).1=some (ws[vs.length - (n+1)]).2:=by
        refine valueAt_of_get hn (i:=vs.length - (n+1)) ?_
        rw [hw,← hpk,hpk2]
      exact PySem.W.KeqHits.hit (e:=true) (b:=true) hva heq (ih (by omega))
  have hh:=hits vs.length (Nat.le_refl _)
  rw [Nat.sub_self,List.drop_zero]at hh
  refine PySem.W.keq_eq (r:=true) l1 l2 d1 d2 hu (fun _=>hh) ?_
  refine ⟨.bl true,H,I,?_,q⟩
  show Value.bool _=Value.bool _
  rw [show (vs.length==ws.length)=true from beq_iff_eq.mpr (by omega)]
  rfl
theorem rd_eqDD{x y:V}{H:Hp}{Q:VK}:rEqDD x y H Q=∃a b kvs,x= .ref a∧y= .ref b∧H a=some (.dK kvs)∧H b=some (.dK kvs)∧(∀p∈kvs,flatV p.2=true)∧Q (.bl true) H:=rfl
end
end L2
set_option Elab.async false
set_option linter.all false
set_option maxRecDepth 100000
set_option maxHeartbeats 1000000
namespace L2
open PySem PySem.Spec PyProof.Rows PySem.W
structure ClsA(K:PySem.W.Frag)(C:Addr):Prop where
  ca:PySem.W.findIn K (.ref C) "__class__"=some (some (.builtin "object.__class__"))
  gs:PySem.W.specialIn K (.builtin "object.__class__") "__get__"=some (some (.builtin "getset_descriptor.__get__"))
  tk:PySem.W.takesIn K (.builtin "object.__class__")=some true
  mo:PySem.W.mroIn K C (.type "object")=some true
noncomputable def rIsiB(K:PySem.W.Frag):List V→Hp→VK→Prop:=fun xs H Q=>∃(p C dx D:Addr) (fs:List (Str×V)) (b:Bool),xs=[.ref p,.ref D]∧H p=some (.ins C dx fs)∧Cls K C∧ClsA K C∧PySem.W.kitOne K (.ref C) (.ref D)=some b∧Q (.bl b) H
section
variable {X:Cx}
theorem call_isiB:CallR X (.builtin "isinstance") (rIsiB X.K):=by
  intro pins s σ H xs us Q I r h
  obtain ⟨p,C,dx,D,fs,b,rfl,hp,c1,c2,e,q⟩:=h
  obtain ⟨u,c,rfl,r1,r2⟩:=vals2 r
  cases r1
  cases r2
  obtain ⟨mA,ob,_⟩:=ins_get I.hok hp
  obtain ⟨od,J,_⟩:=ob.look
  exact PySem.W.kia_one (kitx_own (c1.get _) c1.hd c2.ca c2.gs c2.tk c2.mo) I.kIn J e (by intro z;cases z) fun tk=>⟨.bl b,H,I.tok _,rfl,q⟩
end
theorem rd_isiB{K:PySem.W.Frag}{xs:List V}{H:Hp}{Q:VK}:rIsiB K xs H Q=∃(p C dx D:Addr) (fs:List (Str×V)) (b:Bool),xs=[.ref p,.ref D]∧H p=some (.ins C dx fs)∧Cls K C∧ClsA K C∧PySem.W.kitOne K (.ref C) (.ref D)=some b∧Q (.bl b) H:=rfl
end L2
set_option Elab.async false
set_option linter.all false
set_option maxRecDepth 100000
set_option maxHeartbeats 4000000
namespace L2
open PySem PySem.Spec PyProof.Rows
structure ExcI(K:PySem.W.Frag)(C:Addr):Prop where
  ga:PySem.W.findIn K (.ref C) "__getattribute__"=some (some (.builtin "BaseException.__getattribute__"))
  gh:PySem.W.findIn K (.ref C) "__getattr__"=some none
  ca:PySem.W.findIn K (.ref C) "__class__"=some (some (.builtin "object.__class__"))
  gs:PySem.W.specialIn K (.builtin "object.__class__") "__get__"=some (some (.builtin "getset_descriptor.__get__"))
  tk:PySem.W.takesIn K (.builtin "object.__class__")=some true
  mb:PySem.W.mroIn K C (.type "BaseException")=some true
  mo:PySem.W.mroIn K C (.type "object")=some true
  cl:∃cd:ClassData,PySem.W.clsIn K C=some cd
section
open PySem.W PySem.Builtin PySem.Builtin.ObjectAttr
variable {Pg:Program} {w:World} {A:Around} {s:Shared} {K:Frag} {x C:Addr} {ox:Obj} {od:Option Obj}
theorem class_exc{Q:Option Value→Shared→Prop}{E:Value→Shared→Prop}(X:K.In s.heap)(J:PySem.W.InstAt s.heap x ox C od)(q:ExcI K C)(h:Q (some (.ref C)) {s with toks:=s.toks+1}):
    wpAny (model Pg w) A (getAttr? (.ref x) "__class__") Q E s:=by
  obtain ⟨cd,hc⟩:=q.cl
  have hf:findObj K C od "__class__"=some (.bind (.builtin "getset_descriptor.__get__") (.builtin "object.__class__")):=by
    unfold findObj
    rw [hc,q.ca]
    simp only [Option.bind_some]
    rw [q.gs]
    simp only [Option.bind_some]
    rw [q.tk]
    rfl
  obtain ⟨hp,g,d,t,os⟩:=s
  have l0:=J.type (M:=model Pg w)
  have l1:=looks_findIn (M:=model Pg w) X q.ga
  have l2:=looks_findIn (M:=model Pg w) X q.gh
  have l3:=looks_find (M:=model Pg w) X J hf
  have sub:Looks (model Pg w) hp (isInstance (.ref x) (.type "BaseException")) true:=J.type.andThen (looks_mroIn X q.mb)
  unfold getAttr? getAttrBy? getAttrBy;refine wpAny_bind (wpAny_mkText (wpAny_bind (wpAny_attempt (wpAny_holding (wpAny_bind (l0.at (wpAny_bind (l1.at ?_))))))))
  have b1:=PySem.F.excAttr_ValueError.ga.bind (.ref x)
  have b3:(Value.builtin "BaseException.__getattribute__"==Value.builtin "object.__getattribute__")=false:=by decide+kernel
  have b4:(onTheHeap (Value.ref C) && Value.builtin "BaseException.__getattribute__"==Value.builtin "object.__getattribute__")=false:=by rw [b3];rfl
  show wpAny _ _ (if (onTheHeap (Value.ref C) && Value.builtin "BaseException.__getattribute__"==Value.builtin "object.__getattribute__")=true then _ else _) _ _ _
  rw [if_neg (by rw [b4];decide)]
  unfold getAttrByItsOwn hookBefore
  rw [if_pos (show onTheHeap (Value.ref C)=true from rfl)]
  refine wpAny_bind (l2.at ?_)
  (repeat (any_goals (first | assumption | wp_step)));refine codeAny_call_builtin PySem.F.excAttr_ValueError.ga.plain PySem.F.entry_bexc_ga (@check_slot (model Pg w) _ _ _ "BaseException.__getattribute__" "BaseException" "__getattribute__" (.ref x) [.str "__class__" t] [] _ (by decide+kernel) (by decide+kernel) sub (PySem.F.args_bexc_ga _ _) ?_)
  unfold Builtin.«object.__getattribute__»;repeat (any_goals (first | assumption | with_reducible refine l0.at ?_ | with_reducible refine l3.at ?_ | wp_step))
  refine class_get X J q.mo ?_
  show wpAny _ _ (ret (Value.ref C)) _ _ _
  refine wpAny_pure ?_
  show wpAny _ _ (handedOut (Value.ref C)) _ _ _
  rw [handedOut_of rfl];exact wpAny_pure (wpAny_pure h)
theorem kitx_exc(q:ExcI K C):KitX K (.ref x) (.ref C) (fun h=>∃ox od,PySem.W.InstAt h x ox C od) where
  ty:=fun _ _ _ ⟨_,_,I⟩=>I.type
  it:=fun _ _ X _=>by
    obtain ⟨cd,hc⟩:=q.cl
    unfold clsIn at hc
    split at hc
    · rename_i c' d' cd' sl' ho
      intro A' Q' E' s' k z
      unfold isType loadHead
      exact wpAny_bind (wpAny_loadPart (k _ _ (X _ _ ho)) (wpAny_pure z))
    · cases hc
  ne:=fun _ b0 _ _ _ _ X hb=>by
    obtain ⟨cd,hc⟩:=q.cl
    refine Bool.eq_false_iff.mpr fun zz=>?_
    have e:C=b0:=Value.ref.inj (beq_iff_eq.mp zz)
    subst e;unfold clsIn at hc
    split at hc
    · rename_i c' d' cd' sl' ho
      have y0:=(X _ _ ho).symm.trans hb;cases y0
    · cases hc
  ca:=fun X ⟨_,_,I⟩ k=>class_exc X I q k
end
noncomputable def rIsiX(K:PySem.W.Frag):List V→Hp→VK→Prop:=fun xs H Q=>∃(n:Bool) (p C:Addr) (od:Option Addr) (c:V) (u:Value) (b:Bool),xs=[.ref p,c]∧RelV c u∧(∀u',RelV c u'→u'=u)∧H p=some (exO n p C od)∧(∀dx,od=some dx→∃fs,H dx=some (exD dx fs))∧ExcI K C∧PySem.W.kitOne K (.ref C) u=some b∧Q (.bl b) H
section
variable {X:Cx}
theorem call_isiX:CallR X (.builtin "isinstance") (rIsiX X.K):=by
  intro pins s σ H xs us Q I r h
  obtain ⟨n,p,C,od,c,u,b,rfl,rc,un,hp,hd,q,e,z⟩:=h
  obtain ⟨v,u2,rfl,r1,r2⟩:=vals2 r
  cases (show v=Value.ref p from r1)
  cases un _ r2
  obtain ⟨vs,sl,e1,_⟩:=(I.hok p _ hp).1
  have J:∃ox od,PySem.W.InstAt s.heap p ox C od:=by
    cases od with
    | none=>exact ⟨_,none,e1,rfl,rfl,trivial⟩
    | some dx=>
      obtain ⟨fs,hdx⟩:=hd dx rfl
      obtain ⟨o,ho⟩:=I.hok.there hdx
      exact ⟨_,some o,e1,rfl,rfl,ho⟩
  exact PySem.W.kia_one (kitx_exc q) I.kIn J e (by intro z;cases z) fun tk=>⟨.bl b,H,I.tok _,rfl,z⟩
end
noncomputable def tMethA(G:Addr→Str→Prop)(sp:Str→Sp)(m:Str)(EE:St→XK)(ta:TE):TE:=fun σ H Q=>ta σ H fun x H1=>∃nw a C i,G C i∧x= .ref a∧(H1 a=some (exO nw a C none)∨∃dx fs,H1 a=some (exO nw a C (some dx))∧H1 dx=some (exD dx fs)∧fs.lookup m=none)∧sp i [x] H1 Q (EE σ)
section
variable {X:Cx} {CX:CXT} {k j:Nat} {G:Addr→Str→Prop} {sp:Str→Sp} {ps:List Str} {EE:St→XK} {m:Str} {pos apos:Pos} {o:Expr} {ta:TE}
end
section
open PySem.W
variable {K:Frag} {C D:Addr} {cd:ClassData}
theorem kit_self:kitOne K (.ref C) (.ref C)=some true:=by
  unfold kitOne
  rw [if_pos (by simp)]
theorem kit_ref{b:Bool}(self:subIn K (.ref C) (.ref C)=some true)(cl:clsIn K D=some cd)(ty:typeIn K (.ref D)=some (.type "type"))(s:subIn K (.ref C) (.ref D)=some b):kitOne K (.ref C) (.ref D)=some b:=by
  by_cases e:C=D
  · subst e
    rw [self]at s
    rw [kit_self,s]
  · unfold kitOne kitCls
    rw [if_neg (by simp [e])]
    dsimp only
    rw [cl,ty]
    exact s
end
section
variable {σ:St} {H:Hp} {Q:VK} {K:PySem.W.Frag}
theorem rd_methA{G:Addr→Str→Prop}{sp:Str→Sp}{m:Str}{EE:St→XK}{ta:TE}:tMethA G sp m EE ta σ H Q=ta σ H fun x H1=>∃nw a C i,G C i∧x= .ref a∧(H1 a=some (exO nw a C none)∨∃dx fs,H1 a=some (exO nw a C (some dx))∧H1 dx=some (exD dx fs)∧fs.lookup m=none)∧sp i [x] H1 Q (EE σ):=rfl
noncomputable def ExAt(H:Hp)(p C:Addr):Prop:=∃n,H p=some (exO n p C none)∨∃dx fs,H p=some (exO n p C (some dx))∧H dx=some (exD dx fs)∧fs.lookup ("word":Str)=none
theorem isiX_go{p C D:Addr}{b:Bool}(h:ExAt H p C)(q:ExcI K C)(e:PySem.W.kitOne K (.ref C) (.ref D)=some b)(z:Q (.bl b) H):rIsiX K [.ref p,.ref D] H Q:=by
  obtain ⟨n,h | ⟨dx,fs,h1,h2,h3⟩⟩:=h
  · exact ⟨n,p,C,none,_,_,b,rfl,rfl,fun u r=>r,h,fun dx e=>(by cases e),q,e,z⟩
  · exact ⟨n,p,C,some dx,_,_,b,rfl,rfl,fun u r=>r,h1,fun dy e=>by cases e;exact ⟨fs,h2⟩,q,e,z⟩
theorem isiX_ty{p C:Addr}{n':String}{b:Bool}(h:ExAt H p C)(q:ExcI K C)(e:PySem.W.kitOne K (.ref C) (.type n')=some b)(z:Q (.bl b) H):rIsiX K [.ref p,.ty n'] H Q:=by
  obtain ⟨n,h | ⟨dx,fs,h1,h2,h3⟩⟩:=h
  · exact ⟨n,p,C,none,_,_,b,rfl,rfl,fun u r=>r,h,fun dx e=>(by cases e),q,e,z⟩
  · exact ⟨n,p,C,some dx,_,_,b,rfl,rfl,fun u r=>r,h1,fun dy e=>by cases e;exact ⟨fs,h2⟩,q,e,z⟩
end
section
open PySem.W
variable {K:Frag} {C N:Addr} {nm q:Str} {bs:List Value} {hdct:Bool} {sn:List Str} {sub:List Value} {ab:Bool} {col:Option Bool} {dd:Option Addr} {k0 k1 k2 k3 k5:Option Value} {oc:Value} {od:Option Addr} {es:Array DictEntry} {ep:Nat} {sl:Array (Option Value)}
noncomputable def RowL(K:Frag)(C:Addr)(k:Nat):Nat→List Addr→Prop
  | _,[]=>True
  | i,D::ds=>kitOne K (.ref C) (.ref D)=some (decide (i=k))∧RowL K C k (i+1) ds
structure RowI(K:Frag)(ds:List Addr)(CE C:Addr)(k:Nat):Prop where
  q:ExcI K C
  ce:kitOne K (.ref C) (.ref CE)=some true
  ve:kitOne K (.ref C) (.type "ValueError")=some true
  row:RowL K C k 0 ds
end
end L2
set_option Elab.async false
set_option linter.all false
set_option maxRecDepth 100000
set_option maxHeartbeats 1000000
namespace L2
open PySem PySem.Spec PyProof.Rows
theorem FunD.okF{P:Program}{w:World}{K:PySem.W.Frag}{mg:Str→Option Value}{base:Heap}{x qual:Str}{st:Stmt}{f:Addr}{fd:FuncData}{dv:List Value}{N ps:List Str}{k:Nat}{sp:Sp}(F:FunD K x qual st f fd dv)(S:FnScope N ps (defScope st))(len:∀vs H Q E,sp vs H Q E→vs.length=ps.length)
    (hbody:∀(cdv:Value) (A:Around) (outer:List Env) (s:Shared) (H:Hp) (vs:List V) (Q:VK) (E:XK),Room k (A.deeper (envOfC qual (defScope st) s.heap.objs.size f cdv))→sp vs H Q E→
      ∃t,PSs (cxOf (CXF P w) P w K mg base N qual (defScope st) f cdv A outer s H E) (defBody st) t∧t {nx:=fun _ H'=>Q .non H',rt:=Q} (start N vs) H):FnOk P w K mg base (CXF P w) (k+1) f fd ps sp:=by
  obtain ⟨oc,od,dT,ob,n,kV,doc,pm,an,cdv,ct,osl,rfl,lk,hcd,_⟩:=F.ex
  exact fn_of lk hcd S len fun A outer s H vs Q E hr hsp=>hbody cdv A outer s H vs Q E hr hsp
theorem compR_ifc{c:Int}{tail:St}{tt:Blk→TT}{te:Blk→TE}{Q:VK}{H1:Hp}{n:Nat}(p:Nat→Bool)(f:Nat→V)(hz:n≤sizeLine)
    (ht:∀b (i:Nat) H QT,i < n→Same H1 H→(∀H',Same H H'→QT (p i) H')→tt b (some (.int (c+(i:Int)))::tail) H QT)
    (he:∀b (i:Nat) H Q',i < n→p i=true→Same H1 H→(∀H',Same H H'→Q' (f i) H')→te b (some (.int (c+(i:Int)))::tail) H Q')
    (q:∀D H',H1 D=none→Same H1 H'→H' D=some (.lst (((List.range n).filter p).map f))→Q (.ref D) H'):CompTail (none::tail) (fun _=>gName 0) tt te Q (Itr c n) H1:=by
  intro b D hD
  refine ⟨fun i m ys H=>m=n - i∧i≤n∧ys=((List.range i).filter p).map f∧H D=some (.lst ys)∧Same H1 H,⟨_,rfl,Nat.zero_le _,rfl,upd_same,same_new hD⟩,?_⟩
  rintro i m ys H ⟨rfl,hi,rfl,hd,sm⟩
  refine ⟨hd,?_⟩
  by_cases hlt:i < n
  · refine .inr ⟨hlt,fun x H3 ⟨e3,ex⟩=>⟨kept0,?_⟩⟩
    subst e3 ex
    have hl:(((List.range i).filter p).map f).length≤i:=by
      rw [List.length_map];exact Nat.le_trans (List.length_filter_le _ _) (by rw [List.length_range];omega)
    have htk:(List.range (i+1)).filter p=(List.range i).filter p++[i].filter p:=by rw [List.range_succ,List.filter_append]
    refine ht b i _ _ hlt sm fun H7 s7=>?_
    by_cases hp:p i=true
    · rw [if_pos hp]
      refine he b i H7 _ hlt hp (sm.trans s7) fun H8 s8=>?_
      have hd8:=(s7.trans s8) _ _ hd
      refine ⟨hd8,by omega,n - (i+1),by omega,rfl,hlt,?_,upd_same,same_put ((sm.trans s7).trans s8) hD⟩
      rw [htk,List.filter_cons_of_pos hp,List.filter_nil,List.map_append];rfl
    · rw [if_neg hp]
      refine ⟨n - (i+1),by omega,rfl,hlt,?_,s7 _ _ hd,sm.trans s7⟩
      rw [htk,List.filter_cons_of_neg hp,List.filter_nil,List.append_nil]
  · have e:i=n:=by omega
    subst e
    exact .inl ⟨Nat.le_refl _,q D H hD sm hd⟩
end L2
namespace N61
open PySem PySem.Spec PyProof.Rows L2 N1 N5 N4 N6 N12 N32 N14 N20 N18 N25 NR N22 N21 N24 N23 N26 N28
inductive W7 | ol | fi | ha | fa | hn | rw | du
  deriving DecidableEq
noncomputable def W7.i:W7→Int
  | .ol=>0 | .fi=>1 | .ha=>2 | .fa=>3 | .hn=>4 | .rw=>5 | .du=>6
noncomputable def W7.wd:W7→Str
  | .ol=>"oldest" | .fi=>"first" | .ha=>"halving" | .fa=>"farthest" | .hn=>"hand" | .rw=>"rows" | .du=>"dues"
noncomputable def W7.mk:W7→Str
  | .ol=>"make_oldest" | .fi=>"make_first" | .ha=>"make_halving" | .fa=>"make_farthest" | .hn=>"make_hand" | .rw=>"make_rows" | .du=>"make_dues"
structure A7 where
  ol:Addr
  fi:Addr
  ha:Addr
  fa:Addr
  hn:Addr
  rw:Addr
  du:Addr
noncomputable def A7.at(c:A7):W7→Addr
  | .ol=>c.ol | .fi=>c.fi | .ha=>c.ha | .fa=>c.fa | .hn=>c.hn | .rw=>c.rw | .du=>c.du
theorem w7_of{i:Int}(h0:0≤i)(h1:i < 7):∃w:W7,w.i=i:=by
  have:i=0∨i=1∨i=2∨i=3∨i=4∨i=5∨i=6:=by omega
  rcases this with e | e | e | e | e | e | e
  · exact ⟨.ol,e.symm⟩
  · exact ⟨.fi,e.symm⟩
  · exact ⟨.ha,e.symm⟩
  · exact ⟨.fa,e.symm⟩
  · exact ⟨.hn,e.symm⟩
  · exact ⟨.rw,e.symm⟩
  · exact ⟨.du,e.symm⟩
noncomputable def all7:List W7:=[.ol,.fi,.ha,.fa,.hn,.rw,.du]
structure Md(c:A7)(H:Hp)(w:W7)(q st:Addr)(n:Int)(M:List Addr)(ys:List Str):Prop where
  ob:∃dx fs,H q=some (.ins (c.at w) dx fs)∧fs.lookup ("stock":Str)=some (.ref st)∧fs.lookup ("places":Str)=some (.int n)
  ha:w= .ha→GAt c.ha H M q st n (s40 8)
  fa:w= .fa→QAt c.fa ys H M q st n s20
theorem Md.same{c:A7}{H H':Hp}{w:W7}{q st:Addr}{n:Int}{M:List Addr}{ys:List Str}(h:Md c H w q st n M ys)(s:Same H H'):Md c H' w q st n M ys:=
  ⟨let ⟨dx,fs,a,b⟩:=h.ob;⟨dx,fs,s _ _ a,b⟩,fun e=>(T4 c.ha).dep (fun m _ o z=>s m o z) (h.ha e),fun e=>(T3 c.fa ys).dep (fun m _ o z=>s m o z) (h.fa e)⟩
noncomputable def sp61_mk(c:A7)(K:PySem.W.Frag)(S:Addr)(w:W7):Sp:=fun vs H Q _=>∃(st a:Addr) (n:Int) (ts:List Th) (ys:List Str),vs=[.ref st,.int n,.ref a]∧StockAt K S H st ts∧(ts.map (·.1)).Nodup∧H a=some (.lst (ys.map V.str))∧ys.length≤200∧(∀y∈ys,y∈ts.map (·.1))∧(∀y∈ys,rm ts y≤n)∧1≤n∧n≤1000000∧
  ∀(q:Addr) (M:List Addr) (H':Hp),Same H H'→H q=none→(∀m∈M,H m=none)→Md c H' w q st n M ys→Q (.ref q) H'
inductive Odd7(H:Hp):V→Prop
  | none:Odd7 H .non
  | bl:Odd7 H (.bl true)
  | int {i:Int}:Odd7 H (.int i)
  | seq {p:Addr} {vs:List V} (h:H p=some (.tup vs)∨H p=some (.lst vs)):Odd7 H (.ref p)
noncomputable def texts7:List Str:=["","Oldest","oldest ","row","first\n"]
noncomputable def sp61_maker(f:A7)(N:Addr):Sp:=fun vs H Q E=>∃v,vs=[v]∧((∃w:W7,v= .str w.wd∧Q (.ref (f.at w)) H)∨((Odd7 H v∨∃z∈texts7,v= .str z)∧∀H' e,Same H H'→H e=none→Err0 N H' e→E (.ref N) (some e) H'))
noncomputable def sp61_kinds(c:A7):Sp:=fun vs H Q _=>∃(w:W7) (q dx:Addr) (fs:List (Str×V)),vs=[.ref q]∧H q=some (.ins (c.at w) dx fs)∧∀(p:Addr) (H':Hp),Same H H'→H p=none→H' p=some (.lst (all7.map fun u=>V.bl (decide (u=w))))→Q (.ref p) H'
noncomputable def sp61_halving(C:Addr):Sp:=fun vs H Q _=>∃(q1 q2 p1 p2:Addr) (n1 n2:Int) (M1 M2:List Addr) (z:Str),vs=[.ref q1,.ref q2,.str z]∧GAt C H M1 q1 p1 n1 (s40 8)∧GAt C H M2 q2 p2 n2 (s40 8)∧(∀m∈M1,m∉M2)∧∀H',Kp M1 H H'→Q (.bl true) H'
noncomputable def sp61_farthest(K:PySem.W.Frag)(C:Addr):Sp:=fun vs H Q _=>∃(q p a l:Addr) (n:Int) (M:List Addr) (ys ns:List Str),vs=[.ref q,.ref a,.ref l]∧QAt C ys H M q p n s20∧H a=some (.lst (ys.map V.str))∧H l=some (.lst (ns.map V.str))∧a∉M∧l∉M∧(∀y∈ys,y∈ns)∧ys.length≤200∧ns.length≤9∧∀H',Kp M H H'→Q (.bl true) H'
noncomputable def sp61_last(C:Addr):Sp:=fun vs H Q _=>∃(q p:Addr) (n:Int) (M:List Addr) (s:S2) (z:Str) (ys:List Str),vs=[.ref q,.str z]∧QAt C ys H M q p n s∧(∀v,valV s.la (Sum.inr z)=some v→∃i:Int,v= .int i)∧Q (.int (lv s z)) H
noncomputable def sp61_rank(C:Addr):Sp:=fun vs H Q _=>∃(q p:Addr) (n:Int) (M:List Addr) (s:S2) (z:Str) (ys:List Str),vs=[.ref q,.str z]∧QAt C ys H M q p n s∧0≤s.k∧s.k≤1000000∧ys.length≤1000∧(∀v,valV s.la (Sum.inr z)=some v→∃i:Int,v= .int i)∧∀t,H t=none→Q (.ref t) (upd H t (.tup ((rkF ys s z).map V.int)))
noncomputable def sp61_refused:Sp:=fun vs H Q _=>∃v,vs=[v]∧(Odd7 H v∨∃z∈texts7,v= .str z)∧∀H',Same H H'→Q (.bl true) H'
noncomputable def h61(z:Str):Nat→S4
  | 0=>s40 8
  | k+1=>ask4 (h61 z k) z
theorem ask_one{s:S4}{z:Str}{j:Int}(h:s.ta=[(Sum.inr z,.int j)]):(ask4 s z).ta=[(Sum.inr z,.int ((if s.b.k % s.e=0 then j / 2 else j)+1))]:=by
  have hv:∀i:Int,tvK ([(Sum.inr z,V.int i)]:List (Key×V)) (Sum.inr z)=i:=fun i=>tvK_at (valV_pos rfl)
  have hp:∀i i':Int,putK ([(Sum.inr z,V.int i)]:List (Key×V)) (Sum.inr z) (.int i')=[(Sum.inr z,.int i')]:=fun i i'=>by simp [putK]
  have hh:hvd [(Sum.inr z,V.int j)]=[((Sum.inr z:Key),V.int (j / 2))]:=by
    show stepH [(Sum.inr z,V.int j)] (Sum.inr z)=_
    unfold stepH
    rw [hv,hp]
  show cnt4 s.e s.b.k s.ta z=_
  unfold cnt4 tbl
  rw [h]
  split
  · rw [hh,hv,hp]
  · rw [hv,hp]
theorem h61_k{z:Str}:∀k:Nat,(h61 z k).b.k=k∧(h61 z k).e=8
  | 0=>⟨rfl,rfl⟩
  | k+1=>⟨by show (h61 z k).b.k+1=_;rw [(h61_k k).1];omega,(h61_k k).2⟩
theorem h61_1{z:Str}:(h61 z 1).ta=[(Sum.inr z,.int 1)]:=by
  show cnt4 8 0 [] z=_
  unfold cnt4 tbl
  rw [if_pos (by decide)]
  rfl
theorem h61_s{z:Str}{k:Nat}{j:Int}(h:(h61 z k).ta=[(Sum.inr z,.int j)]):(h61 z (k+1)).ta=[(Sum.inr z,.int ((if (k:Int) % 8=0 then j / 2 else j)+1))]:=by
  have:=ask_one h
  rw [(h61_k k).1,(h61_k k).2]at this
  exact this
theorem h61_9{z:Str}:(h61 z 9).ta=[(Sum.inr z,.int 5)]:=
  h61_s (k:=8) (h61_s (k:=7) (h61_s (k:=6) (h61_s (k:=5) (h61_s (k:=4) (h61_s (k:=3) (h61_s (k:=2) (h61_s (k:=1) h61_1)))))))
theorem h61_inv{C:Addr}{z:Str}{ns:List Str}{n:Int}(hz:z∈ns):∀k:Nat,(T4 C).inv ns n (h61 z (k+1)) [z]
  | 0=>(T4 C).i_came (l:=[]) ((T4 C).i_mid (l:=[]) (inv40 (by decide) (by decide)) hz (by simp)) hz (by simp)
  | k+1=>(T4 C).i_hit (h61_inv hz k) hz (by simp)
section
variable {H H':Hp} {x dx:Addr} {o:HO}
theorem mk_same(h1:H x=none)(h2:H dx=none)(s:SameBut x (upd (upd H dx (.own x)) x o) H'):Same H H':=fun b ob e=>by
  have n1:b≠x:=fun e2=>by rw [e2,h1]at e;cases e
  have n2:b≠dx:=fun e2=>by rw [e2,h2]at e;cases e
  exact s b ob (by rw [upd_ne n1,upd_ne n2];exact e) n1
theorem mk_old(h1:H x=none)(h2:H dx=none):Same H (upd (upd H dx (.own x)) x o):=fun b ob e=>by
  have n1:b≠x:=fun e2=>by rw [e2,h1]at e;cases e
  have n2:b≠dx:=fun e2=>by rw [e2,h2]at e;cases e
  rw [upd_ne n1,upd_ne n2];exact e
theorem mk_none(h1:H x=none)(h2:H dx=none){l:Addr}(h:upd (upd H dx (.own x)) x o l=none):H l=none:=by
  cases e:H l with
  | none=>rfl
  | some ob=>rw [mk_old (o:=o) h1 h2 _ _ e]at h;cases h
end
structure Tab7(P:Params)(K:PySem.W.Frag)(a:Addr)(f:A7):Prop where
  w:∀w:W7,KTab P K a w.wd (some (.ref (f.at w)))
  no:∀z∈texts7,KTab P K a z none
noncomputable def ltr(ys:List Str)(z:Str):List Int:=((List.range (ys.length - 1)).filter fun i=>decide (ys[1+i]?=some z)).map fun i:Nat=>(i:Int)+2
theorem ltr_mem{ys:List Str}{z:Str}{u:Nat}(h:ys[1+u]?=some z):(u:Int)+2∈ltr ys z:=by
  have hl:=(List.getElem?_eq_some_iff.mp h).1
  exact List.mem_map.mpr ⟨u,List.mem_filter.mpr ⟨List.mem_range.mpr (by omega),decide_eq_true h⟩,rfl⟩
theorem ltr_nil{ys:List Str}{z:Str}(h:ltr ys z=[]):nx ys 1 z=ys.length:=nx_end fun u _ e=>by
  have:=ltr_mem e
  rw [h]at this
  cases this
theorem ltr_min{ys:List Str}{z:Str}{m:Int}(h:m∈ltr ys z)(hm:∀x∈ltr ys z,m≤x):m=(nx ys 1 z:Int)+1:=by
  obtain ⟨i,hi,rfl⟩:=List.mem_map.mp h
  have e:=of_decide_eq_true (List.mem_filter.mp hi).2
  rw [nx_at (j:=1) (t:=i) e fun u hu e2=>by have:=hm _ (ltr_mem e2);omega]
  omega
noncomputable def ts61(ys:List Str)(rs:List Int):List Th:=(List.range ys.length).map fun i:Nat=>(ys.getD i Str.empty,(i:Int),rs.getD i 0)
theorem ts61_len(ys:List Str)(rs:List Int):(ts61 ys rs).length=ys.length:=by unfold ts61;rw [List.length_map,List.length_range]
theorem ts61_at{ys:List Str}{rs:List Int}{i:Nat}(h:i < ys.length):(ts61 ys rs)[i]?=some (ys.getD i Str.empty,(i:Int),rs.getD i 0):=by
  unfold ts61;rw [List.getElem?_map,List.getElem?_range h];rfl
theorem ts61_names(ys:List Str)(rs:List Int):(ts61 ys rs).map (·.1)=ys:=by
  refine List.ext_getElem? fun i=>?_
  rw [List.getElem?_map]
  by_cases h:i < ys.length
  · rw [ts61_at h,getD_str h];rfl
  · rw [List.getElem?_eq_none (by rw [ts61_len];omega),List.getElem?_eq_none (by omega)];rfl
theorem rm61{ys:List Str}{rs:List Int}(nd:ys.Nodup)(hl:rs.length=ys.length){n:Int}(hb:∀r∈rs,r≤n){y:Str}(hy:y∈ys):rm (ts61 ys rs) y≤n:=by
  obtain ⟨i,hi⟩:=List.mem_iff_getElem?.mp hy
  have hil:=(List.getElem?_eq_some_iff.mp hi).1
  have h:=rm_at (by rw [ts61_names];exact nd) (ts61_at (rs:=rs) hil)
  have e:=getD_str hil
  rw [hi]at e
  cases e
  rw [h]
  show rs.getD i 0≤n
  refine hb _ ?_
  rw [List.getD_eq_getElem?_getD,List.getElem?_eq_getElem (show i < rs.length by omega)]
  exact List.getElem_mem _
theorem rows61{K:PySem.W.Frag}{H:Hp}{D:Addr}{yl:List V}{ys:List Str}{rs:List Int}(hD:H D=some (.lst yl))(hl:yl.length=ys.length)(hm:ys.length≤60)(nd:ys.Nodup)(hn:∀y∈ys,nameB y.cps.toList=true)(hr:∀i,i < ys.length→1≤rs.getD i 0∧rs.getD i 0≤1000)
    (hall:∀i y,yl[i]?=some y→∃t,y=V.ref t∧SqT K H t [.str (ys.getD i Str.empty),.int (i:Int),.int (rs.getD i 0)]):∃as,yl=as.map V.ref∧RowsAt K H D as (ts61 ys rs):=by
  have e:yl=(yl.map aOf).map V.ref:=by
    rw [List.map_map]
    refine (List.map_id yl).symm.trans (List.map_congr_left fun y hy=>?_)
    obtain ⟨i,hi⟩:=List.mem_iff_getElem?.mp hy
    obtain ⟨t,rfl,_⟩:=hall i y hi
    rfl
  have hlen:=ts61_len ys rs
  refine ⟨yl.map aOf,e,⟨by rw [← e];exact SqL.of hD,by rw [List.length_map,hlen,hl],by rw [hlen];exact hm,fun i a t h1 h2=>?_,fun t ht=>?_,by rw [ts61_names];exact nd⟩⟩
  · have hi:i < ys.length:=by rw [← hlen];exact (List.getElem?_eq_some_iff.mp h2).1
    rw [ts61_at hi]at h2
    cases h2
    rw [List.getElem?_map]at h1
    cases hy':yl[i]? with
    | none=>rw [hy']at h1;cases h1
    | some y=>
      rw [hy']at h1
      obtain ⟨t,rfl,hs⟩:=hall i y hy'
      cases h1
      exact hs
  · obtain ⟨i,hi⟩:=List.mem_iff_getElem?.mp ht
    have hil:i < ys.length:=by rw [← hlen];exact (List.getElem?_eq_some_iff.mp hi).1
    rw [ts61_at hil]at hi
    cases hi
    refine ⟨hn _ (List.mem_of_getElem? (getD_str hil)),Int.natCast_nonneg i,?_,hr i hil⟩
    show (i:Int)≤10 ^ 30
    have:(60:Int)≤10 ^ 30:=by decide
    omega
theorem kinds61(w:W7):(all7.map fun u=>V.bl (decide (u=w)))=(List.range 7).map fun i:Nat=>V.bl (decide ((i:Int)=w.i)):=by cases w <;> rfl
theorem word61(w:W7):atI [V.str "oldest",V.str "first",V.str "halving",V.str "farthest",V.str "hand",V.str "rows",V.str "dues"] w.i=some (V.str w.wd):=by cases w <;> rfl
theorem sum61:∀rs:List Int,(∀r∈rs,1≤r∧r≤1000)→0≤rs.sum∧rs.sum≤1000 * rs.length
  | [],_=>by decide
  | r::rs,h=>by
    have h1:=h r (by simp)
    have h2:=sum61 rs (fun x hx=>h x (by simp [hx]))
    rw [List.sum_cons,List.length_cons]
    omega
end N61
set_option Elab.async false
set_option linter.all false
set_option maxRecDepth 100000
set_option maxHeartbeats 4000000
namespace K61
open PySem PySem.Spec PyProof.Rows L2 N1 N5 N4 N6 N12 N32 N41 N14 N20 N18 N25 NR N22 N21 N24 N23 N26 N28 NQ N57 N61
local macro_rules | `(tactic| walk_at "rd") => `(tactic| simp only [rd_asg, rd_var, rd_c, rd_op, rd_I0, rd_I, rd_U, rd_name, rd_ifS, rd_test, rd_b, rd_ret, rd_retN, rd_next, rd_break, rd_cont, rd_cb, rd_cons, rd_nil, rd_call, rd_not, rd_or, rd_and, rd_andV, rd_orV, rd_notV, rd_if, rd_un, rd_eq, rd_ne, rd_par, rd_tup, rd_lst, rd_never, rd_drop, rd_gcons, rd_gnil, rd_gsub, rd_chain, rd_rng1, rd_rng2, rd_ilist, rd_itup, rd_for', sc_nn, sc_ni, sc_in, sc_nb, sc_bn, sc_ns, sc_sn, sc_ii, sc_bb, sc_ss, sc_is, sc_si, sc_bs, sc_sb, rd_comp, rd_istr, rd_sl, rd_noPart, rd_part, rd_slS, rd_slL, rd_bm, rd_bm0, tyV_str, rd_join, rd_find, rd_split, rd_all, rd_mulS, rd_jnil, rd_jcons, rd_fstr, rd_fmt, rd_fmtR, rd_dnewK, true_implies, false_implies, Bool.false_and, Bool.true_and, Bool.and_true, Bool.and_false, Bool.false_or, Bool.true_or, Bool.or_true, Bool.or_false, rd_eqQ, rd_neQ, rd_methE, rd_makeE, rd_fld, rd_sfld, rd_din, rd_dnotin, rd_dget, rd_dput, rd_gtup, rd_inS, rd_notinS, hasS_one, blk_K, Int.zero_add, Int.toNat_natCast, upd_upd, List.map_cons, List.map_nil, List.getD_cons_zero, List.getD_cons_succ, cxOf_K, List.length_cons, List.length_nil, List.getElem?_cons_zero, List.getElem?_cons_succ, List.set_cons_zero, List.set_cons_succ, Option.some.injEq, V.int.injEq, V.bl.injEq, V.str.injEq, V.ref.injEq, V.ty.injEq, exists_eq_left', exists_eq_left, exists_and_left, exists_eq, exists_eq', List.cons.injEq, and_true, true_and, decide_eq_true_eq, Bool.not_eq_true', decide_eq_false_iff_not, reduceCtorEq, exists_const, Bool.true_eq_false, Bool.false_eq_true, if_true, if_false, ite_true, ite_false, Bool.not_true, Bool.not_false, decide_true, decide_false, Bool.not_not, false_and, and_false, exists_false, false_or, or_false, true_or, or_true, and_assoc, not_true_eq_false, not_false_eq_true, Int.reduceToNat, Nat.reduceAdd, rd_raiseF, rd_raiseI, rd_hasF, rd_fldX, rd_sfldX, rd_methX, rd_exc, rd_excI, rd_listD, rd_values, rd_sumV, rd_remove, rd_isB, rd_isnB, rd_dpop1, rd_dget2, rd_popAt, rd_glst, rd_methA, rd_tryV, rd_hclsV, rd_hasV, tryX_K, sui_K, rd_raise, rd_callE, rd_hnil, rd_ends, rd_isiE, exists_eq_right, sp_cell, sp_made, sp_is_name, sp_law, sp_is_whole, sp_within, sp_checkG, sp_initG, sp_has, sp_thingG, sp_roomG, sp32_room, sp32_thing, sp32_check, N41.sp41_asks, sp_putG, sp_castG, rd_listD, rd_values, rd_sumV, rd_remove, rd_dpop1, sp_nms, sp_sinit, sp_lying, sp_holds, sp_left, rd_ienum, rd_izip, sp_mix, sp12_names, rd_items, rd_iview, sp14_casts, sp14_serves, sp14_after, rd_comp3, rd_popAt, rd_compI, rd_comp2, rd_maxL, rd_maxV, rd_neN, rd_setL, rd_dget1, sp20_stream, sp20_names, sp20_rows, sp20_places, sp20_asks, sp20_rooms, sp20_same, rd_callS, rd_sumL, rd_minK, spR_nests, spR_asked, spR_choice, spR_gone, spR_came, spR2_room, spR2_row, spR2_book, spR_room, spR_row, spR_book, rd_fldaug, rd_dget2, rAdd, rd_augN, rd_ipI, rd_isnB, rd_isiO, rd_sortS, sp21_number, sp21_last, sp21_rank, sp22_number, sp22_rank, sp22_init, sp23_init, sp23_halve, sp23_number, sp23_last, sp23_rank, sp24_init, sp24_number, sp24_coming, sp24_last, sp24_rank, spR_asked3, spR_choice3, spR_gone3, spR_came3, sp26_init, sp26_move, sp26_step, sp26_back, sp26_leave, sp26_rows, spI_room, spI_row, spI_bookN, spR_bookN, rd_makeD, rd_makeK, gV31_at, rd_dictOf, rd_methI, rd_neDD, rd_ipM, List.cons_append, List.nil_append, sp41_div, sp41_cost, sp57_ratio, sp57_plus, sp57_minus, sp57_under, sp57_rinit, sp57_init, sp57_owe, sp57_asked, sp57_choice, sp57_gone, sp57_level, sp57_due, sp57_prices, rd_eqN, sp57_rows, sp57_priced, sp57_whole, sp57_shared, sp57_lratio, sp57_lunder, sp57_lsum, sp57_lleast, sp57_not, rd_thaw, rd_idict, sp57_lprices, sp57_ldues, sp28_rinit, sp28_kinit, sp28_hinit, sp61_mk, sp61_maker, sp61_kinds, sp61_halving, sp61_farthest, sp61_last, sp61_rank, sp61_refused, sp23_counts, sp41_mixed, sp41_names, sp41_lroom, sp41_lplaces, rd_disp1, rd_kget, rd_knin, rd_callF, rd_minD, rd_eqDD, rd_isiB])
local macro_rules | `(tactic| walk_at "hp") => `(tactic| first | with_reducible assumption | exact upd_same | (rw [upd_ne (by first | with_reducible assumption | exact ne_of_none (by with_reducible assumption) (by with_reducible assumption))]; first | with_reducible assumption | exact upd_same))
local macro_rules | `(tactic| walk_at "sq") => `(tactic| (repeat' first | with_reducible assumption | exact SqT.of upd_same | exact SqL.of upd_same | refine' Same.tup (Same.new (by with_reducible assumption)) ?_ | refine' Same.seq (Same.new (by with_reducible assumption)) ?_))
local macro_rules | `(tactic| walk_at "isi") => `(tactic| first | exact isi_ii | exact isi_ib | exact isi_bb | exact isi_is | exact isi_ss | exact isi_si | exact isi_sb | exact isi_bi | exact isi_bs | exact isi_ni | exact isi_ns | exact isi_tupt (by walk_at "hp") | exact isi_lstl (by walk_at "hp") | exact isi_tupl (by walk_at "hp") | exact isi_lstt (by walk_at "hp") | exact isi_tups (by walk_at "hp") | exact isi_lsts (by walk_at "hp") | exact isi_tupi (by walk_at "hp") | exact isi_lsti (by walk_at "hp"))
local macro_rules | `(tactic| walk_at "slen") => `(tactic| first | omega | decide +kernel | (refine le_app ?_ ?_ <;> walk_at "slen"))
local macro_rules | `(tactic| walk_at "side") => `(tactic| first | with_reducible assumption | with_reducible exact cdiv_of (by omega) (by omega) | with_reducible exact cpow_of (by decide) (by decide) (by decide) | with_reducible exact cmul_l (by omega) (by omega) | with_reducible exact cmul_r (by omega) (by omega) | omega | decide | decide +kernel | (have := line_val; omega) | (simp only [len_app, len_one, line_val]; omega) | (rw [line_val]; walk_at "slen"; done))
local macro_rules | `(tactic| walk_at "go1") => `(tactic| first | walk_at "rd" | ((with_reducible refine And.intro ?_ ?_); (focus (walk_at "side"; done))) | ((with_reducible apply isi_go); (focus (walk_at "isi"; done))) | ((with_reducible apply ixT_of); (focus (walk_at "sq"; done)); (focus rfl)) | ((with_reducible apply ixL_of); (focus (walk_at "sq"; done)); (focus rfl)) | ((with_reducible apply len_goT); (focus (walk_at "sq"; done))) | ((with_reducible apply len_goL); (focus (walk_at "sq"; done))) | ((with_reducible apply script_go); (focus (walk_at "sq"; done)); (focus (assumption; done))) | ((with_reducible apply cell_go); (focus (walk_at "sq"; done)); (focus (decide; done)); (focus (assumption; done))) | (intro (_ : List (Addr × PySem.Obj)) (_ : PySem.Value → PySem.Shared → Prop)) | with_reducible refine seq_go fun _ _ => ?_ | (refine leaf_go (by with_reducible assumption) ?_; subst_vars))
local macro_rules | `(tactic| walk_at "go") => `(tactic| repeat walk_at "go1")
noncomputable def top(i:Nat):Stmt:=PySem.Challenge.pw_castoff_k61_makers_of_rules.main.body.getD i (.Pass ⟨0,0,0,0⟩)
structure Txt(K:PySem.W.Frag)(mg:Str→Option Value)(xCastError xNoRule xNoNumber xStock xRule xRanked xOldest xFirst xHalving xFarthest xHand xRows xDues xmake_oldest xmake_first xmake_halving xmake_farthest xmake_hand xmake_rows xmake_dues xMAKERS:Addr):Prop where
  c_Stock:mg "Stock"=some (.ref xStock)
  cl_Stock:Cls K xStock
  n_Stock_things:NoAttr K xStock "things"
  c_Rule:mg "Rule"=some (.ref xRule)
  cl_Rule:Cls K xRule
  n_Rule_stock:NoAttr K xRule "stock"
  n_Rule_places:NoAttr K xRule "places"
  c_Ranked:mg "Ranked"=some (.ref xRanked)
  cl_Ranked:Cls K xRanked
  n_Ranked_stock:NoAttr K xRanked "stock"
  n_Ranked_places:NoAttr K xRanked "places"
  n_Ranked_present:NoAttr K xRanked "present"
  n_Ranked_last:NoAttr K xRanked "last"
  c_Oldest:mg "Oldest"=some (.ref xOldest)
  cl_Oldest:Cls K xOldest
  n_Oldest_stock:NoAttr K xOldest "stock"
  n_Oldest_places:NoAttr K xOldest "places"
  n_Oldest_present:NoAttr K xOldest "present"
  n_Oldest_last:NoAttr K xOldest "last"
  c_First:mg "First"=some (.ref xFirst)
  cl_First:Cls K xFirst
  n_First_stock:NoAttr K xFirst "stock"
  n_First_places:NoAttr K xFirst "places"
  n_First_present:NoAttr K xFirst "present"
  n_First_last:NoAttr K xFirst "last"
  n_First_put_at:NoAttr K xFirst "put_at"
  c_Halving:mg "Halving"=some (.ref xHalving)
  cl_Halving:Cls K xHalving
  n_Halving_stock:NoAttr K xHalving "stock"
  n_Halving_places:NoAttr K xHalving "places"
  n_Halving_present:NoAttr K xHalving "present"
  n_Halving_last:NoAttr K xHalving "last"
  n_Halving_turn:NoAttr K xHalving "turn"
  n_Halving_tally:NoAttr K xHalving "tally"
  c_Farthest:mg "Farthest"=some (.ref xFarthest)
  cl_Farthest:Cls K xFarthest
  n_Farthest_stock:NoAttr K xFarthest "stock"
  n_Farthest_places:NoAttr K xFarthest "places"
  n_Farthest_present:NoAttr K xFarthest "present"
  n_Farthest_last:NoAttr K xFarthest "last"
  n_Farthest_asks:NoAttr K xFarthest "asks"
  c_Hand:mg "Hand"=some (.ref xHand)
  cl_Hand:Cls K xHand
  n_Hand_stock:NoAttr K xHand "stock"
  n_Hand_places:NoAttr K xHand "places"
  n_Hand_order:NoAttr K xHand "order"
  n_Hand_marked:NoAttr K xHand "marked"
  c_Rows:mg "Rows"=some (.ref xRows)
  cl_Rows:Cls K xRows
  n_Rows_stock:NoAttr K xRows "stock"
  n_Rows_places:NoAttr K xRows "places"
  n_Rows_once:NoAttr K xRows "once"
  n_Rows_again:NoAttr K xRows "again"
  n_Rows_past_once:NoAttr K xRows "past_once"
  n_Rows_past_again:NoAttr K xRows "past_again"
  n_Rows_bound:NoAttr K xRows "bound"
  n_Rows_returns:NoAttr K xRows "returns"
  c_Dues:mg "Dues"=some (.ref xDues)
  cl_Dues:Cls K xDues
  n_Dues_stock:NoAttr K xDues "stock"
  n_Dues_places:NoAttr K xDues "places"
  n_Dues_reached:NoAttr K xDues "reached"
  n_Dues_dues:NoAttr K xDues "dues"
  n_Dues_rises:NoAttr K xDues "rises"
  c_CastError:mg "CastError"=some (.ref xCastError)
  c_NoRule:mg "NoRule"=some (.ref xNoRule)
  x_NoRule:ExcC K xNoRule
  k_NoRule:PySem.W.keepIn K (.ref xNoRule)=true
  c_NoNumber:mg "NoNumber"=some (.ref xNoNumber)
  g_NoRule:ExcG K xNoRule
  r_NoRule:RowI K [xNoRule,xNoNumber] xCastError xNoRule 0
  m_NoRule_CastError:PySem.W.exmOne K (.ref xNoRule) (.ref xCastError)=some true
  ia_Dues:ClsA K xDues
  ia_Farthest:ClsA K xFarthest
  ia_First:ClsA K xFirst
  ia_Halving:ClsA K xHalving
  ia_Hand:ClsA K xHand
  ia_Oldest:ClsA K xOldest
  ia_Rows:ClsA K xRows
  i_Oldest_Oldest:PySem.W.kitOne K (.ref xOldest) (.ref xOldest)=some true
  i_Oldest_First:PySem.W.kitOne K (.ref xOldest) (.ref xFirst)=some false
  i_Oldest_Halving:PySem.W.kitOne K (.ref xOldest) (.ref xHalving)=some false
  i_Oldest_Farthest:PySem.W.kitOne K (.ref xOldest) (.ref xFarthest)=some false
  i_Oldest_Hand:PySem.W.kitOne K (.ref xOldest) (.ref xHand)=some false
  i_Oldest_Rows:PySem.W.kitOne K (.ref xOldest) (.ref xRows)=some false
  i_Oldest_Dues:PySem.W.kitOne K (.ref xOldest) (.ref xDues)=some false
  i_First_Oldest:PySem.W.kitOne K (.ref xFirst) (.ref xOldest)=some false
  i_First_First:PySem.W.kitOne K (.ref xFirst) (.ref xFirst)=some true
  i_First_Halving:PySem.W.kitOne K (.ref xFirst) (.ref xHalving)=some false
  i_First_Farthest:PySem.W.kitOne K (.ref xFirst) (.ref xFarthest)=some false
  i_First_Hand:PySem.W.kitOne K (.ref xFirst) (.ref xHand)=some false
  i_First_Rows:PySem.W.kitOne K (.ref xFirst) (.ref xRows)=some false
  i_First_Dues:PySem.W.kitOne K (.ref xFirst) (.ref xDues)=some false
  i_Halving_Oldest:PySem.W.kitOne K (.ref xHalving) (.ref xOldest)=some false
  i_Halving_First:PySem.W.kitOne K (.ref xHalving) (.ref xFirst)=some false
  i_Halving_Halving:PySem.W.kitOne K (.ref xHalving) (.ref xHalving)=some true
  i_Halving_Farthest:PySem.W.kitOne K (.ref xHalving) (.ref xFarthest)=some false
  i_Halving_Hand:PySem.W.kitOne K (.ref xHalving) (.ref xHand)=some false
  i_Halving_Rows:PySem.W.kitOne K (.ref xHalving) (.ref xRows)=some false
  i_Halving_Dues:PySem.W.kitOne K (.ref xHalving) (.ref xDues)=some false
  i_Farthest_Oldest:PySem.W.kitOne K (.ref xFarthest) (.ref xOldest)=some false
  i_Farthest_First:PySem.W.kitOne K (.ref xFarthest) (.ref xFirst)=some false
  i_Farthest_Halving:PySem.W.kitOne K (.ref xFarthest) (.ref xHalving)=some false
  i_Farthest_Farthest:PySem.W.kitOne K (.ref xFarthest) (.ref xFarthest)=some true
  i_Farthest_Hand:PySem.W.kitOne K (.ref xFarthest) (.ref xHand)=some false
  i_Farthest_Rows:PySem.W.kitOne K (.ref xFarthest) (.ref xRows)=some false
  i_Farthest_Dues:PySem.W.kitOne K (.ref xFarthest) (.ref xDues)=some false
  i_Hand_Oldest:PySem.W.kitOne K (.ref xHand) (.ref xOldest)=some false
  i_Hand_First:PySem.W.kitOne K (.ref xHand) (.ref xFirst)=some false
  i_Hand_Halving:PySem.W.kitOne K (.ref xHand) (.ref xHalving)=some false
  i_Hand_Farthest:PySem.W.kitOne K (.ref xHand) (.ref xFarthest)=some false
  i_Hand_Hand:PySem.W.kitOne K (.ref xHand) (.ref xHand)=some true
  i_Hand_Rows:PySem.W.kitOne K (.ref xHand) (.ref xRows)=some false
  i_Hand_Dues:PySem.W.kitOne K (.ref xHand) (.ref xDues)=some false
  i_Rows_Oldest:PySem.W.kitOne K (.ref xRows) (.ref xOldest)=some false
  i_Rows_First:PySem.W.kitOne K (.ref xRows) (.ref xFirst)=some false
  i_Rows_Halving:PySem.W.kitOne K (.ref xRows) (.ref xHalving)=some false
  i_Rows_Farthest:PySem.W.kitOne K (.ref xRows) (.ref xFarthest)=some false
  i_Rows_Hand:PySem.W.kitOne K (.ref xRows) (.ref xHand)=some false
  i_Rows_Rows:PySem.W.kitOne K (.ref xRows) (.ref xRows)=some true
  i_Rows_Dues:PySem.W.kitOne K (.ref xRows) (.ref xDues)=some false
  i_Dues_Oldest:PySem.W.kitOne K (.ref xDues) (.ref xOldest)=some false
  i_Dues_First:PySem.W.kitOne K (.ref xDues) (.ref xFirst)=some false
  i_Dues_Halving:PySem.W.kitOne K (.ref xDues) (.ref xHalving)=some false
  i_Dues_Farthest:PySem.W.kitOne K (.ref xDues) (.ref xFarthest)=some false
  i_Dues_Hand:PySem.W.kitOne K (.ref xDues) (.ref xHand)=some false
  i_Dues_Rows:PySem.W.kitOne K (.ref xDues) (.ref xRows)=some false
  i_Dues_Dues:PySem.W.kitOne K (.ref xDues) (.ref xDues)=some true
  c_make_oldest:mg "make_oldest"=some (.ref xmake_oldest)
  c_make_first:mg "make_first"=some (.ref xmake_first)
  c_make_halving:mg "make_halving"=some (.ref xmake_halving)
  c_make_farthest:mg "make_farthest"=some (.ref xmake_farthest)
  c_make_hand:mg "make_hand"=some (.ref xmake_hand)
  c_make_rows:mg "make_rows"=some (.ref xmake_rows)
  c_make_dues:mg "make_dues"=some (.ref xmake_dues)
  c_MAKERS:mg "MAKERS"=some (.ref xMAKERS)
  z_len:mg "len"=none
  z_isinstance:mg "isinstance"=none
  z_int:mg "int"=none
  z_bool:mg "bool"=none
  z_str:mg "str"=none
  z_list:mg "list"=none
  z_tuple:mg "tuple"=none
  z_all:mg "all"=none
  z_range:mg "range"=none
  z_sum:mg "sum"=none
  z_enumerate:mg "enumerate"=none
  z_zip:mg "zip"=none
  z_max:mg "max"=none
  z_min:mg "min"=none
  z_dict:mg "dict"=none
  z_ValueError:mg "ValueError"=none
  g_LETTERS:∃t,mg "LETTERS"=some (.str "abcdefghijklmnopqrstuvwxyz" t)
  g_FIGURES:∃t,mg "FIGURES"=some (.str "0123456789" t)
  g_MOST_SIGNS:∃t,mg "MOST_SIGNS"=some (.int 8 t)
  g_MOST_THINGS:∃t,mg "MOST_THINGS"=some (.int 60 t)
  g_MOST_ROOM:∃t,mg "MOST_ROOM"=some (.int 1000 t)
  g_MOST_PLACES:∃t,mg "MOST_PLACES"=some (.int 1000000 t)
  g_MOST_ASKS:∃t,mg "MOST_ASKS"=some (.int 200 t)
  g_MOST_TURN:∃t,mg "MOST_TURN"=some (.int 200 t)
section
variable {P:Program} {w:World} {K:PySem.W.Frag} {mg:Str→Option Value} {base:Heap} {xCastError xNoRule xNoNumber xStock xRule xRanked xOldest xFirst xHalving xFarthest xHand xRows xDues xmake_oldest xmake_first xmake_halving xmake_farthest xmake_hand xmake_rows xmake_dues xMAKERS:Addr}
noncomputable abbrev s_made_of:Stmt:=top 25
noncomputable abbrev s_is_name:Stmt:=top 26
noncomputable abbrev s_is_whole:Stmt:=top 11
noncomputable abbrev s_is_within:Stmt:=top 12
noncomputable abbrev s_check_places:Stmt:=top 18
noncomputable abbrev s_check_thing:Stmt:=top 27
noncomputable abbrev s_Stock_init:Stmt:=inClass (top 28) 0
noncomputable abbrev s_Stock_has:Stmt:=inClass (top 28) 2
noncomputable abbrev s_Stock_thing_of:Stmt:=inClass (top 28) 3
noncomputable abbrev s_Stock_room_of:Stmt:=inClass (top 28) 6
noncomputable abbrev s_check_asks:Stmt:=top 31
noncomputable abbrev s_Stock_names:Stmt:=inClass (top 28) 1
noncomputable abbrev s_Rule_init:Stmt:=inClass (top 34) 0
noncomputable abbrev s_Ranked_init:Stmt:=inClass (top 35) 0
noncomputable abbrev s_Oldest_init:Stmt:=inClass (top 35) 0
noncomputable abbrev s_First_init:Stmt:=inClass (top 37) 0
noncomputable abbrev s_Halving_init:Stmt:=inClass (top 38) 0
noncomputable abbrev s_Farthest_init:Stmt:=inClass (top 39) 0
noncomputable abbrev s_Hand_init:Stmt:=inClass (top 43) 0
noncomputable abbrev s_Rows_init:Stmt:=inClass (top 46) 0
noncomputable abbrev s_Dues_init:Stmt:=inClass (top 41) 0
noncomputable abbrev s_Halving_halve:Stmt:=inClass (top 38) 2
noncomputable abbrev s_Halving_number_ask:Stmt:=inClass (top 35) 2
noncomputable abbrev s_Halving_asked:Stmt:=inClass (top 38) 3
noncomputable abbrev s_Halving_came:Stmt:=inClass (top 34) 5
noncomputable abbrev s_Halving_counts:Stmt:=inClass (top 38) 4
noncomputable abbrev s_Farthest_number_ask:Stmt:=inClass (top 35) 2
noncomputable abbrev s_Farthest_coming_of:Stmt:=inClass (top 39) 2
noncomputable abbrev s_Farthest_asked:Stmt:=inClass (top 35) 1
noncomputable abbrev s_Farthest_came:Stmt:=inClass (top 34) 5
noncomputable abbrev s_Farthest_last_of:Stmt:=inClass (top 35) 3
noncomputable abbrev s_Farthest_rank:Stmt:=inClass (top 39) 3
noncomputable abbrev s_make_oldest:Stmt:=top 48
noncomputable abbrev s_make_first:Stmt:=top 49
noncomputable abbrev s_make_halving:Stmt:=top 50
noncomputable abbrev s_make_farthest:Stmt:=top 51
noncomputable abbrev s_make_hand:Stmt:=top 52
noncomputable abbrev s_make_rows:Stmt:=top 53
noncomputable abbrev s_make_dues:Stmt:=top 54
noncomputable abbrev s_maker_of:Stmt:=top 56
noncomputable abbrev s_l_cell_at:Stmt:=top 58
noncomputable abbrev s_l_mixed:Stmt:=top 59
noncomputable abbrev s_l_names:Stmt:=top 60
noncomputable abbrev s_l_room:Stmt:=top 61
noncomputable abbrev s_l_places:Stmt:=top 62
noncomputable abbrev s_l_kinds:Stmt:=top 63
noncomputable abbrev s_l_halving_good:Stmt:=top 64
noncomputable abbrev s_l_farthest_good:Stmt:=top 65
noncomputable abbrev s_l_refused:Stmt:=top 66
noncomputable abbrev s_law:Stmt:=top 67
theorem ok_made_of{f:Addr}{fd:FuncData}(F:Fun K "made_of" "made_of" s_made_of f fd)(T:Txt K mg xCastError xNoRule xNoNumber xStock xRule xRanked xOldest xFirst xHalving xFarthest xHand xRows xDues xmake_oldest xmake_first xmake_halving xmake_farthest xmake_hand xmake_rows xmake_dues xMAKERS):FnOk P w K mg base (CXF P w) 1 f fd ["text","signs"] (sp_made):=by
  have sc:FnScope ["text","signs"] ["text","signs"] (defScope s_made_of):=⟨rfl,rfl,rfl,by decide+kernel,rfl,by decide+kernel,by decide+kernel⟩
  refine F.okF sc (fun vs H Q E h=>?_) (fun cdv A outer s H vs Q E hr h=>?_)
  · obtain ⟨z,w,rfl,hz,q⟩:=h;rfl
  obtain ⟨z,w,rfl,hz,q⟩:=h
  refine ⟨_,(@pss_one _ _ _ (@ps_ret _ _ _ _ (pe_callB (call_all rfl) rfl T.z_all (by first | rfl | decide+kernel) (pa_cons (pe_comp1 "sign" [1] rfl rfl (pi_str (pv 0)) (fun b=>(pe_cmpR op_inS (pv 0) (pv 1) (by with_unfolding_all rfl)))) pa_nil)))),?_⟩
  rw [show start ["text","signs"] [V.str z,V.str w]=[some (V.str z),some (V.str w)] from rfl]
  walk_at "go"
  refine compS_pure (fun c=>V.bl (decide (c∈w.cps.toList))) hz (fun b c H' Q' hc sm q'=>?_) fun D hD=>?_
  · walk_at "go"
    exact q'
  · refine ⟨_,rfl,z.cps.toList.map fun c=>decide (c∈w.cps.toList),?_,?_⟩
    · rw [List.map_map];exact SqL.of upd_same
    · rw [List.all_map];exact q _ (Same.new hD)
theorem ok_is_name{f:Addr}{fd:FuncData}(F:Fun K "is_name" "is_name" s_is_name f fd)(T:Txt K mg xCastError xNoRule xNoNumber xStock xRule xRanked xOldest xFirst xHalving xFarthest xHand xRows xDues xmake_oldest xmake_first xmake_halving xmake_farthest xmake_hand xmake_rows xmake_dues xMAKERS)(D_made_of:Def P w K mg base (CXF P w) 1 "made_of" ["text","signs"] (sp_made)):FnOk P w K mg base (CXF P w) 2 f fd ["thing"] (sp_is_name K):=by
  have sc:FnScope ["thing"] ["thing"] (defScope s_is_name):=⟨rfl,rfl,rfl,by decide+kernel,rfl,by decide+kernel,by decide+kernel⟩
  refine F.okF sc (fun vs H Q E h=>?_) (fun cdv A outer s H vs Q E hr h=>?_)
  · obtain ⟨x,rfl,hx⟩:=h;rfl
  obtain ⟨x,rfl,hx⟩:=h
  refine ⟨_,(@pss_cons _ _ _ _ _ (ps_if (pt_not (pt_val (pe_callB call_isinst rfl T.z_isinstance (by first | rfl | decide+kernel) (pa_cons (pv 0) (pa_cons (pe_bltn (v:= .ty "str") rfl T.z_str (by first | rfl | decide+kernel) rfl) pa_nil)))))
      (@pss_one _ _ _ (@ps_ret _ _ _ _ pe_bl))
      pss_nil)
    (@pss_cons _ _ _ _ _ (ps_if (PW.pt (pw_or (pt_cmpR op_lt (pe_callB call_len_str rfl T.z_len PySem.boot_len (pa_cons (pv 0) pa_nil)) pe_int (nomark _)) (pw_or1 (pt_cmpR op_gt (pe_callB call_len_str rfl T.z_len PySem.boot_len (pa_cons (pv 0) pa_nil)) (pe_gint rfl T.g_MOST_SIGNS) (nomark _)))))
      (@pss_one _ _ _ (@ps_ret _ _ _ _ pe_bl))
      pss_nil)
    (@pss_one _ _ _ (@ps_ret _ _ _ _ (pe_and (pe_cmpR op_inS (@pe_ix _ _ _ _ _ _ _ ix_str (pv 0) pe_int (fun _ _=>rfl)) (pe_gstr rfl T.g_LETTERS) (by with_unfolding_all rfl)) (pe_one (pe_callD D_made_of hr rfl pass_onF (pa_cons (pv 0) (pa_cons (pe_op op_add_str (pe_gstr rfl T.g_LETTERS) (pe_gstr rfl T.g_FIGURES)) pa_nil))))))))),?_⟩
  rw [show start ["thing"] [x]=[some (x)] from rfl]
  rcases hx with ⟨z,rfl,hz,q⟩ | ⟨hi,q⟩
  · walk_at "go"
    have hl:=str_len (z:=z)
    split
    · rename_i h1
      have e:nameB z.cps.toList=false:=by unfold nameB;rw [decide_eq_false (show ¬1≤z.cps.toList.length by omega)];rfl
      rw [e]at q;exact q _ (Same.refl H)
    · rename_i h1
      refine ⟨hz,?_⟩
      split
      · have e:nameB z.cps.toList=false:=by unfold nameB;rw [decide_eq_false (show ¬z.cps.toList.length≤8 by omega),Bool.and_false];rfl
        rw [e]at q;exact q _ (Same.refl H)
      · rename_i h2
        obtain ⟨c,r,hcr⟩:∃c r,z.cps.toList=c::r:=by
          cases h:z.cps.toList with
          | nil=>rw [h]at hl;simp at hl;omega
          | cons c r=>exact ⟨c,r,rfl⟩
        have hn:nameB z.cps.toList=(decide (c∈letters) && z.cps.toList.all fun c=>decide (c∈letters++figures)):=by
          unfold nameB;rw [decide_eq_true (show 1≤z.cps.toList.length by omega),decide_eq_true (show z.cps.toList.length≤8 by omega)];rw [hcr];rfl
        rw [hn]at q
        walk_at "go"
        refine ixS_of hz (by rw [hcr];exact at_0) ?_
        walk_at "go"
        rw [let_list]
        split
        · rename_i hc
          rw [decide_eq_true hc,Bool.true_and]at q
          walk_at "go"
          rw [app_list,let_list,fig_list]
          exact q
        · rename_i hc
          rw [decide_eq_false hc,Bool.false_and]at q
          exact q _ (Same.refl H)
  · walk_at "go"
    refine ⟨_,hi,?_⟩
    walk_at "go"
    exact q
theorem ok_is_whole{f:Addr}{fd:FuncData}(F:Fun K "is_whole" "is_whole" s_is_whole f fd)(T:Txt K mg xCastError xNoRule xNoNumber xStock xRule xRanked xOldest xFirst xHalving xFarthest xHand xRows xDues xmake_oldest xmake_first xmake_halving xmake_farthest xmake_hand xmake_rows xmake_dues xMAKERS):FnOk P w K mg base (CXF P w) 1 f fd ["thing"] (sp_is_whole K):=by
  have sc:FnScope ["thing"] ["thing"] (defScope s_is_whole):=⟨rfl,rfl,rfl,by decide+kernel,rfl,by decide+kernel,by decide+kernel⟩
  refine F.okF sc (fun vs H Q E h=>?_) (fun cdv A outer s H vs Q E hr h=>?_)
  · obtain ⟨x,b,c,rfl,h1,h2,q⟩:=h;rfl
  obtain ⟨x,b,c,rfl,h1,h2,q⟩:=h
  refine ⟨_,(@pss_one _ _ _ (@ps_ret _ _ _ _ (pe_and (pe_callB call_isinst rfl T.z_isinstance (by first | rfl | decide+kernel) (pa_cons (pv 0) (pa_cons (pe_bltn (v:= .ty "int") rfl T.z_int (by first | rfl | decide+kernel) rfl) pa_nil))) (pe_one (pe_not (pe_callB call_isinst rfl T.z_isinstance (by first | rfl | decide+kernel) (pa_cons (pv 0) (pa_cons (pe_bltn (v:= .ty "bool") rfl T.z_bool (by first | rfl | decide+kernel) rfl) pa_nil)))))))),?_⟩
  rw [show start ["thing"] [x]=[some (x)] from rfl]
  walk_at "go"
  refine ⟨_,h1,?_⟩
  cases b
  · walk_at "go"
    exact q
  · walk_at "go"
    refine ⟨_,h2 rfl,?_⟩
    walk_at "go"
    exact q
theorem ok_is_within{f:Addr}{fd:FuncData}(F:Fun K "is_within" "is_within" s_is_within f fd)(T:Txt K mg xCastError xNoRule xNoNumber xStock xRule xRanked xOldest xFirst xHalving xFarthest xHand xRows xDues xmake_oldest xmake_first xmake_halving xmake_farthest xmake_hand xmake_rows xmake_dues xMAKERS)(D_is_whole:Def P w K mg base (CXF P w) 1 "is_whole" ["thing"] (sp_is_whole K)):FnOk P w K mg base (CXF P w) 2 f fd ["thing","least","most"] (sp_within K):=by
  have sc:FnScope ["thing","least","most"] ["thing","least","most"] (defScope s_is_within):=⟨rfl,rfl,rfl,by decide+kernel,rfl,by decide+kernel,by decide+kernel⟩
  refine F.okF sc (fun vs H Q E h=>?_) (fun cdv A outer s H vs Q E hr h=>?_)
  · obtain ⟨v,lo,hi,rfl,hv,q⟩:=h;rfl
  obtain ⟨v,lo,hi,rfl,hv,q⟩:=h
  refine ⟨_,(@pss_one _ _ _ (@ps_ret _ _ _ _ (pe_and (pe_callD D_is_whole hr rfl pass_onF (pa_cons (pv 0) pa_nil)) (pe_one (pe_chain op_le op_le (pv 1) (pv 0) (pv 2)))))),?_⟩
  rw [show start ["thing","least","most"] [v,V.int lo,V.int hi]=[some (v),some (V.int lo),some (V.int hi)] from rfl]
  obtain ⟨b,c,h1,h2,h3,h4⟩:=num_isi (K:=K) (H:=H) hv
  walk_at "go"
  refine ⟨b,h1,c,h2,?_⟩
  split
  · rename_i h
    obtain ⟨i,rfl⟩:=h3 h
    simp only [wIn]at q
    walk_at "go"
    split
    · rename_i h'
      rw [decide_eq_true h',Bool.true_and]at q;exact q
    · rename_i h'
      rw [decide_eq_false h',Bool.false_and]at q;exact q
  · rename_i h
    have e:wIn lo hi v=false:=by
      cases v with
      | int i=>exact absurd rfl (h4 (by simpa using h) i)
      | _=>rfl
    rw [e]at q;exact q
theorem ok_check_places{f:Addr}{fd:FuncData}(F:Fun K "check_places" "check_places" s_check_places f fd)(T:Txt K mg xCastError xNoRule xNoNumber xStock xRule xRanked xOldest xFirst xHalving xFarthest xHand xRows xDues xmake_oldest xmake_first xmake_halving xmake_farthest xmake_hand xmake_rows xmake_dues xMAKERS)(D_is_within:Def P w K mg base (CXF P w) 2 "is_within" ["thing","least","most"] (sp_within K)):FnOk P w K mg base (CXF P w) 3 f fd ["places"] (sp32_check):=by
  have sc:FnScope ["places"] ["places"] (defScope s_check_places):=⟨rfl,rfl,rfl,by decide+kernel,rfl,by decide+kernel,by decide+kernel⟩
  refine F.okF sc (fun vs H Q E h=>?_) (fun cdv A outer s H vs Q E hr h=>?_)
  · obtain ⟨i,rfl,h1,h2,q⟩:=h;rfl
  obtain ⟨i,rfl,h1,h2,q⟩:=h
  refine ⟨_,(@pss_one _ _ _ (ps_if (pt_not (pt_val (pe_callD D_is_within hr rfl pass_onF (pa_cons (pv 0) (pa_cons pe_int (pa_cons (pe_gint rfl T.g_MOST_PLACES) pa_nil))))))
      (@pss_one _ _ _ ps_never)
      pss_nil)),?_⟩
  rw [show start ["places"] [V.int i]=[some (V.int i)] from rfl]
  walk_at "go"
  rw [if_neg (by rw [wIn_ok h1 h2];decide)]
  exact ⟨rfl,q⟩
theorem ok_check_thing{f:Addr}{fd:FuncData}(F:Fun K "check_thing" "check_thing" s_check_thing f fd)(T:Txt K mg xCastError xNoRule xNoNumber xStock xRule xRanked xOldest xFirst xHalving xFarthest xHand xRows xDues xmake_oldest xmake_first xmake_halving xmake_farthest xmake_hand xmake_rows xmake_dues xMAKERS)(D_is_name:Def P w K mg base (CXF P w) 2 "is_name" ["thing"] (sp_is_name K))(D_is_within:Def P w K mg base (CXF P w) 2 "is_within" ["thing","least","most"] (sp_within K)):FnOk P w K mg base (CXF P w) 3 f fd ["name","cost","room","earlier"] (sp_checkG K):=by
  have sc:FnScope ["name","cost","room","earlier"] ["name","cost","room","earlier"] (defScope s_check_thing):=⟨rfl,rfl,rfl,by decide+kernel,rfl,by decide+kernel,by decide+kernel⟩
  refine F.okF sc (fun vs H Q E h=>?_) (fun cdv A outer s H vs Q E hr h=>?_)
  · obtain ⟨n,co,r,e,kvs,ks,rfl,he,hk,hrow,q⟩:=h;rfl
  obtain ⟨n,co,r,e,kvs,ks,rfl,he,hk,hrow,q⟩:=h
  refine ⟨_,(@pss_cons _ _ _ _ _ (ps_if (pt_not (pt_val (pe_callD D_is_name hr rfl pass_onF (pa_cons (pv 0) pa_nil))))
      (@pss_one _ _ _ ps_never)
      pss_nil)
    (@pss_cons _ _ _ _ _ (ps_if (pt_cmp (pc_din (hu_of hr) (pv 0) (pv 3)))
      (@pss_one _ _ _ ps_never)
      pss_nil)
    (@pss_cons _ _ _ _ _ (ps_if (pt_not (pt_val (pe_callD D_is_within hr rfl pass_onF (pa_cons (pv 1) (pa_cons pe_int (pa_cons (pe_op op_pow pe_int pe_int) pa_nil))))))
      (@pss_one _ _ _ ps_never)
      pss_nil)
    (@pss_one _ _ _ (ps_if (pt_not (pt_val (pe_callD D_is_within hr rfl pass_onF (pa_cons (pv 2) (pa_cons pe_int (pa_cons (pe_gint rfl T.g_MOST_ROOM) pa_nil))))))
      (@pss_one _ _ _ ps_never)
      pss_nil))))),?_⟩
  rw [show start ["name","cost","room","earlier"] [n,co,r,V.ref e]=[some (n),some (co),some (r),some (V.ref e)] from rfl]
  obtain ⟨z,c,w,rfl,rfl,rfl,nz,hb,h1,h2,h3,h4⟩:=rowR_none hrow
  have line:=line_val
  have hz8:=name_len hb
  walk_at "go"
  intro H1 sm1
  rw [hb]
  have he1:=sm1 _ _ he
  walk_at "go"
  refine ⟨_,DGet.k (k:=Sum.inr z) he1,?_⟩
  rw [key_mem hk,decide_eq_false nz]
  walk_at "go"
  refine ⟨rfl,?_⟩
  split
  · rename_i h
    exact absurd h (by rw [wIn_ok h1 h2];decide)
  · walk_at "go"
    refine ⟨rfl,?_⟩
    split
    · rename_i h
      exact absurd h (by rw [wIn_ok h3 h4];decide)
    · walk_at "go"
      exact q _ sm1
theorem ok_Stock_init{f:Addr}{fd:FuncData}(F:Fun K "__init__" "Stock.__init__" s_Stock_init f fd)(T:Txt K mg xCastError xNoRule xNoNumber xStock xRule xRanked xOldest xFirst xHalving xFarthest xHand xRows xDues xmake_oldest xmake_first xmake_halving xmake_farthest xmake_hand xmake_rows xmake_dues xMAKERS)(D_check_thing:Def P w K mg base (CXF P w) 3 "check_thing" ["name","cost","room","earlier"] (sp_checkG K)):FnOk P w K mg base (CXF P w) 4 f fd ["self","rows"] (sp_initG K xStock):=by
  have sc:FnScope ["self","rows","name","cost","room"] ["self","rows"] (defScope s_Stock_init):=⟨rfl,rfl,rfl,by decide+kernel,rfl,by decide+kernel,by decide+kernel⟩
  refine F.okF sc (fun vs H Q E h=>?_) (fun cdv A outer s H vs Q E hr h=>?_)
  · obtain ⟨p,dx,ra,rs,rfl,hp,hrs,hall,er,q⟩:=h;rfl
  obtain ⟨p,dx,ra,rs,rfl,hp,hrs,hall,er,q⟩:=h
  refine ⟨_,(@pss_cons _ _ _ _ _ (ps_if (pt_cmpR op_gt (pe_callB call_len_seq rfl T.z_len PySem.boot_len (pa_cons (pv 1) pa_nil)) (pe_gint rfl T.g_MOST_THINGS) (nomark _))
      (@pss_one _ _ _ ps_never)
      pss_nil)
    (@pss_cons _ _ _ _ _ (ps_fld (pv 0) pe_dnewK rfl)
    (@pss_one _ _ _ (ps_for own_outF rfl (pi_list (pv 1)) (pg_tup rfl (pgs_cons (pg_name (i:=2) sc.nd rfl (Or.inl rfl)) (pgs_cons (pg_name (i:=3) sc.nd rfl (Or.inl rfl)) (pgs_cons (pg_name (i:=4) sc.nd rfl (Or.inl rfl)) pgs_nil))))
      (@pss_cons _ _ _ _ _ (ps_expr (pe_callD D_check_thing hr rfl pass_onF (pa_cons (pv 2) (pa_cons (pv 3) (pa_cons (pv 4) (pa_cons (pe_fld (pv 0) rfl) pa_nil))))))
      (@pss_one _ _ _ (ps_dput (hu_of hr) (pe_fld (pv 0) rfl) (pv 2) (pe_tup (pa_cons (pe_callB call_lenD rfl T.z_len PySem.boot_len (pa_cons (pe_fld (pv 0) rfl) pa_nil)) (pa_cons (pv 3) (pa_cons (pv 4) pa_nil)))) rfl))))))),?_⟩
  rw [show start ["self","rows","name","cost","room"] [V.ref p,V.ref ra]=[some (V.ref p),some (V.ref ra),none,none,none] from rfl]
  have line:=line_val
  obtain ⟨hl60,hstk⟩:=initR_none er
  walk_at "go"
  rw [List.length_map]
  split
  · rename_i h
    exact absurd h (by omega)
  · rename_i h
    walk_at "go"
    intro d hd
    have npd:p≠d:=ne_of_none hp hd
    walk_at "go"
    refine ⟨xStock,dx,[],by rw [upd_ne npd];exact hp,T.cl_Stock,T.n_Stock_things,by decide,?_⟩
    have sb0:SameBut p H (upd (upd H d (.dK [])) p (.ins xStock dx (flds d))):=fun b o e n=>by rw [upd_ne n,upd_ne (ne_of_none e hd)];exact e
    have hp0:upd (upd H d (.dK [])) p (.ins xStock dx (flds d)) p=some (.ins xStock dx (flds d)):=upd_same
    have hd0:upd (upd H d (.dK [])) p (.ins xStock dx (flds d)) d=some (.dK []):=by rw [upd_ne npd.symm,upd_same]
    unfold flds at sb0 hp0 hd0
    generalize upd (upd H d (HO.dK [])) p (HO.ins xStock dx (putF (Str.ofString "things") (V.ref d) []))=H0 at sb0 hp0 hd0 ⊢
    walk_at "go"
    refine ⟨⟨_,SqL.but sb0 hp hrs⟩,?_⟩
    refine forL_by (xs:=rs.map fun t=>V.ref t.1) (fun i σ H'=>∃v1 v2 v3,σ=[some (V.ref p),some (V.ref ra),v1,v2,v3]∧SameBut p H H'∧H' p=some (.ins xStock dx (flds d))∧MidAt K H' d (rs.take i)∧stockR (nmsOf (rs.take i)) (rs.drop i)=none) ⟨none,none,none,rfl,sb0,hp0,⟨[],hd0,rfl,fun j t e=>by simp at e⟩,by rw [List.take_zero,List.drop_zero];exact hstk⟩ (fun i σ H' _ h_=>by obtain ⟨v1,v2,v3,_,sb,_⟩:=h_;exact SqL.but sb hp hrs) ?_ ?_
    · rintro i x σ H' hx ⟨v1,v2,v3,rfl,sb,hp',⟨kvs,hd',hk,hm⟩,hst⟩
      rw [List.getElem?_map]at hx
      cases ht:rs[i]? with
      | none=>rw [ht]at hx;cases hx
      | some t=>
        rw [ht]at hx
        simp only [Option.map_some,Option.some.injEq]at hx
        subst hx
        have hi:i < rs.length:=(List.getElem?_eq_some_iff.mp ht).1
        have r1:=SqT.but sb hp (hall t (List.mem_of_getElem? ht))
        rw [stockR_step ht]at hst
        have hkl:kvs.length=i:=by
          have:=congrArg List.length hk
          simp [nmsOf]at this;omega
        cases hrow:rowR (nmsOf (rs.take i)) t.2.1 t.2.2.1 t.2.2.2 with
        | some e=>rw [hrow]at hst;cases hst
        | none=>
          rw [hrow]at hst
          obtain ⟨z,c,q',e1,e2,e3,nz,hb,_⟩:=rowR_none hrow
          walk_at "go"
          refine ⟨_,r1,rfl,?_⟩
          walk_at "go"
          refine ⟨xStock,dx,flds d,hp',T.cl_Stock,T.n_Stock_things,_,flds_things,d,rfl,kvs,hd',_,hk,hrow,fun H1 sm1=>?_⟩
          rw [e1,e2,e3]
          have hp1:=sm1 _ _ hp'
          have hd1:=sm1 _ _ hd'
          walk_at "go"
          refine ⟨xStock,dx,flds d,hp1,T.cl_Stock,T.n_Stock_things,_,flds_things,?_⟩
          walk_at "go"
          refine ⟨kvs,hd1,by omega,fun t2 ht2=>?_⟩
          have np2:p≠t2:=ne_of_none hp1 ht2
          have nd2:d≠t2:=ne_of_none hd1 ht2
          have hd2:upd H1 t2 (.tup [.int kvs.length,.int c,.int q']) d=some (.dK kvs):=by rw [upd_ne nd2];exact hd1
          refine ⟨xStock,dx,flds d,by rw [upd_ne np2];exact hp1,T.cl_Stock,T.n_Stock_things,_,flds_things,d,rfl,_,DPut.k (k:=Sum.inr z) hd2 (by omega),?_,?_,?_,?_⟩
          · intro b o eb nb
            have h1:=sm1 _ _ (sb b o eb nb)
            rw [upd_ne (ne_of_none eb hd),upd_ne (ne_of_none h1 ht2)]
            exact h1
          · rw [upd_ne npd,upd_ne np2];exact hp1
          · rw [List.take_add_one,ht]
            refine MidAt.snoc hd2 hk (fun j t' e=>?_) e1 e2 e3 nz upd_same
            obtain ⟨a,q1,q2⟩:=hm j t' e
            exact ⟨a,q1,(sm1.trans (Same.new ht2)).tup q2⟩
          · rw [List.take_add_one,ht]
            have e:nmsOf (rs.take kvs.length++(some t).toList)=nmsOf (rs.take kvs.length)++[sOf t.2.1]:=by unfold nmsOf;simp
            rw [e];exact hst
    · rintro σ H' ⟨v1,v2,v3,rfl,sb,hp',⟨kvs,hd',hk,hm⟩,hst⟩
      simp only [List.length_map,List.take_length,List.drop_length]at hk hm hst
      show Q V.non H'
      refine q _ sb ⟨dx,d,kvs,hp',hd',?_,fun i t ht=>?_⟩
      · rw [hk];unfold nmsOf;rw [List.map_map,List.map_map];rfl
      · rw [List.getElem?_map]at ht
        cases hr:rs[i]? with
        | none=>rw [hr]at ht;cases ht
        | some t'=>
          rw [hr]at ht
          simp only [Option.map_some,Option.some.injEq]at ht
          subst ht
          exact hm i t' hr
theorem ok_Stock_has{f:Addr}{fd:FuncData}(F:Fun K "has" "Stock.has" s_Stock_has f fd)(T:Txt K mg xCastError xNoRule xNoNumber xStock xRule xRanked xOldest xFirst xHalving xFarthest xHand xRows xDues xmake_oldest xmake_first xmake_halving xmake_farthest xmake_hand xmake_rows xmake_dues xMAKERS):FnOk P w K mg base (CXF P w) 1 f fd ["self","name"] (sp_has K xStock):=by
  have sc:FnScope ["self","name"] ["self","name"] (defScope s_Stock_has):=⟨rfl,rfl,rfl,by decide+kernel,rfl,by decide+kernel,by decide+kernel⟩
  refine F.okF sc (fun vs H Q E h=>?_) (fun cdv A outer s H vs Q E hr h=>?_)
  · obtain ⟨p,ts,z,rfl,hs,q⟩:=h;rfl
  obtain ⟨p,ts,z,rfl,hs,q⟩:=h
  refine ⟨_,(@pss_one _ _ _ (@ps_ret _ _ _ _ (pe_cmp (pc_din (hu_of hr) (pv 1) (pe_fld (pv 0) rfl))))),?_⟩
  rw [show start ["self","name"] [V.ref p,V.str z]=[some (V.ref p),some (V.str z)] from rfl]
  obtain ⟨dx,d,kvs,h1,h2,h3,h4,h5⟩:=StockAt.has hs
  walk_at "go"
  refine ⟨xStock,dx,flds d,h1,T.cl_Stock,T.n_Stock_things,_,flds_things,d,rfl,_,DGet.k (k:=Sum.inr z) h2,?_⟩
  rw [h4]
  exact q
theorem ok_Stock_thing_of{f:Addr}{fd:FuncData}(F:Fun K "thing_of" "Stock.thing_of" s_Stock_thing_of f fd)(T:Txt K mg xCastError xNoRule xNoNumber xStock xRule xRanked xOldest xFirst xHalving xFarthest xHand xRows xDues xmake_oldest xmake_first xmake_halving xmake_farthest xmake_hand xmake_rows xmake_dues xMAKERS):FnOk P w K mg base (CXF P w) 1 f fd ["self","name"] (sp32_thing K xStock):=by
  have sc:FnScope ["self","name"] ["self","name"] (defScope s_Stock_thing_of):=⟨rfl,rfl,rfl,by decide+kernel,rfl,by decide+kernel,by decide+kernel⟩
  refine F.okF sc (fun vs H Q E h=>?_) (fun cdv A outer s H vs Q E hr h=>?_)
  · obtain ⟨p,ts,z,rfl,hs,nd,hz,q⟩:=h;rfl
  obtain ⟨p,ts,z,rfl,hs,nd,hz,q⟩:=h
  refine ⟨_,(@pss_cons _ _ _ _ _ (ps_if (pt_cmp (pc_dnotin (hu_of hr) (pv 1) (pe_fld (pv 0) rfl)))
      (@pss_one _ _ _ ps_never)
      pss_nil)
    (@pss_one _ _ _ (@ps_ret _ _ _ _ (pe_dget (hu_of hr) (pe_fld (pv 0) rfl) (pv 1) (fun _ _=>rfl))))),?_⟩
  rw [show start ["self","name"] [V.ref p,V.str z]=[some (V.ref p),some (V.str z)] from rfl]
  obtain ⟨dx,d,kvs,h1,h2,h3,h4,h5⟩:=StockAt.has hs
  have line:=line_val
  walk_at "go"
  refine ⟨xStock,dx,flds d,h1,T.cl_Stock,T.n_Stock_things,_,flds_things,d,rfl,_,DGet.k (k:=Sum.inr z) h2,?_⟩
  rw [h4,decide_eq_true hz]
  obtain ⟨i,t,ht,rfl⟩:=mem_nth hz
  obtain ⟨a,e1,e2⟩:=h5 nd i t ht
  walk_at "go"
  refine ⟨xStock,dx,flds d,h1,T.cl_Stock,T.n_Stock_things,_,flds_things,?_⟩
  walk_at "go"
  refine ⟨V.ref a,by rw [← e1];exact DGet.k (k:=Sum.inr t.1) h2,?_⟩
  exact q i t ht rfl a e2
theorem ok_Stock_room_of{f:Addr}{fd:FuncData}(F:Fun K "room_of" "Stock.room_of" s_Stock_room_of f fd)(T:Txt K mg xCastError xNoRule xNoNumber xStock xRule xRanked xOldest xFirst xHalving xFarthest xHand xRows xDues xmake_oldest xmake_first xmake_halving xmake_farthest xmake_hand xmake_rows xmake_dues xMAKERS)(D_Stock_thing_of:DefM P w K mg base (CXF P w) 1 xStock "thing_of" ["self","name"] (sp32_thing K xStock)):FnOk P w K mg base (CXF P w) 2 f fd ["self","name"] (sp32_room K xStock):=by
  have sc:FnScope ["self","name"] ["self","name"] (defScope s_Stock_room_of):=⟨rfl,rfl,rfl,by decide+kernel,rfl,by decide+kernel,by decide+kernel⟩
  refine F.okF sc (fun vs H Q E h=>?_) (fun cdv A outer s H vs Q E hr h=>?_)
  · obtain ⟨p,ts,z,rfl,hs,nd,hz,q⟩:=h;rfl
  obtain ⟨p,ts,z,rfl,hs,nd,hz,q⟩:=h
  refine ⟨_,(@pss_one _ _ _ (@ps_ret _ _ _ _ (@pe_ix _ _ _ _ _ _ _ ix_tup (pe_methS D_Stock_thing_of T.cl_Stock hr (passS pass_onF) (pv 0) (pa_cons (pv 1) pa_nil)) pe_int (fun _ _=>rfl)))),?_⟩
  rw [show start ["self","name"] [V.ref p,V.str z]=[some (V.ref p),some (V.str z)] from rfl]
  obtain ⟨dx,d,kvs,h1,h2,h3,h4,h5⟩:=StockAt.has hs
  walk_at "go"
  refine ⟨dx,flds d,h1,by rfl,?_⟩
  walk_at "go"
  refine ⟨ts,hs,nd,hz,fun i t ht e a ha=>?_⟩
  subst e
  refine ixT_of ha rfl ?_
  rw [rm_at nd ht]at q
  exact q
theorem ok_check_asks{f:Addr}{fd:FuncData}(F:Fun K "check_asks" "check_asks" s_check_asks f fd)(T:Txt K mg xCastError xNoRule xNoNumber xStock xRule xRanked xOldest xFirst xHalving xFarthest xHand xRows xDues xmake_oldest xmake_first xmake_halving xmake_farthest xmake_hand xmake_rows xmake_dues xMAKERS)(D_check_places:Def P w K mg base (CXF P w) 3 "check_places" ["places"] (sp32_check))(D_Stock_has:DefM P w K mg base (CXF P w) 1 xStock "has" ["self","name"] (sp_has K xStock))(D_Stock_room_of:DefM P w K mg base (CXF P w) 2 xStock "room_of" ["self","name"] (sp32_room K xStock)):FnOk P w K mg base (CXF P w) 4 f fd ["stock","asks","places"] (N41.sp41_asks K xStock):=by
  have sc:FnScope ["stock","asks","places","number","name"] ["stock","asks","places"] (defScope s_check_asks):=⟨rfl,rfl,rfl,by decide+kernel,rfl,by decide+kernel,by decide+kernel⟩
  refine F.okF sc (fun vs H Q E h=>?_) (fun cdv A outer s H vs Q E hr h=>?_)
  · obtain ⟨p,a,pl,ts,ys,rfl,hs,nd,hS,hl,hin,hw,h1,h2,q⟩:=h;rfl
  obtain ⟨p,a,pl,ts,ys,rfl,hs,nd,hS,hl,hin,hw,h1,h2,q⟩:=h
  refine ⟨_,(@pss_cons _ _ _ _ _ (ps_expr (pe_callD D_check_places hr rfl pass_onF (pa_cons (pv 2) pa_nil)))
    (@pss_cons _ _ _ _ _ (ps_if (pt_cmpR op_gt (pe_callB call_len_seq rfl T.z_len PySem.boot_len (pa_cons (pv 1) pa_nil)) (pe_gint rfl T.g_MOST_ASKS) (nomark _))
      (@pss_one _ _ _ ps_never)
      pss_nil)
    (@pss_cons _ _ _ _ _ (ps_for own_outF rfl (pi_enum rfl T.z_enumerate (pa_cons (pv 1) pa_nil)) (pg_tup rfl (pgs_cons (pg_name (i:=3) sc.nd rfl (Or.inl rfl)) (pgs_cons (pg_name (i:=4) sc.nd rfl (Or.inl rfl)) pgs_nil)))
      (@pss_cons _ _ _ _ _ (ps_if (pt_not (pt_val (pe_methS D_Stock_has T.cl_Stock hr (passS pass_onF) (pv 0) (pa_cons (pv 4) pa_nil))))
        (@pss_one _ _ _ ps_never)
        pss_nil)
      (@pss_one _ _ _ (ps_if (pt_cmpR op_gt (pe_methS D_Stock_room_of T.cl_Stock hr (passS pass_onF) (pv 0) (pa_cons (pv 4) pa_nil)) (pv 2) (nomark _))
        (@pss_one _ _ _ ps_never)
        pss_nil))))
    (@pss_one _ _ _ (@ps_ret _ _ _ _ pe_bl))))),?_⟩
  rw [show start ["stock","asks","places","number","name"] [V.ref p,V.ref a,V.int pl]=[some (V.ref p),some (V.ref a),some (V.int pl),none,none] from rfl]
  have line:=line_val
  walk_at "go"
  rw [List.length_map,if_neg (by omega)]
  walk_at "go"
  refine ⟨⟨_,hS⟩,?_⟩
  rename_i rest hrest
  refine forE_by (xs:=ys.map V.str) (fun i σ H'=>∃v3 v4,σ=[some (V.ref p),some (V.ref a),some (V.int pl),v3,v4]∧Same H H') ⟨none,none,rfl,Same.refl _⟩ (fun i σ H' _ ⟨v3,v4,_,sm⟩=>sm.seq hS) ?_ ?_
  · rintro i x σ H' t hx ⟨v3,v4,rfl,sm⟩ ht
    rw [List.getElem?_map]at hx
    cases hy:ys[i]? with
    | none=>rw [hy]at hx;cases hx
    | some y=>
      rw [hy]at hx
      cases hx
      have hyin:=hin y (List.mem_of_getElem? hy)
      walk_at "go"
      refine ⟨_,SqT.of upd_same,rfl,_,_,rfl,_,_,rfl,rfl,?_⟩
      have sm2:=sm.trans (Same.new (o:= .tup [.int i,.str y]) ht)
      generalize upd H' t (.tup [.int i,.str y])=H2 at sm2 ⊢
      have hs2:=StockAt.same sm2 hs
      obtain ⟨dx,d,kvs,g1,g2,_⟩:=StockAt.has hs2
      walk_at "go"
      refine ⟨dx,flds d,g1,by rfl,ts,hs2,?_⟩
      rw [if_neg (fun h=>h hyin)]
      walk_at "go"
      refine ⟨dx,flds d,g1,by rfl,ts,hs2,nd,hyin,?_⟩
      rw [if_neg (by have:=hw y (List.mem_of_getElem? hy);omega)]
      exact sm2
  · rintro σ H' ⟨v3,v4,rfl,sm⟩
    walk_at "go"
    exact q _ sm
theorem ok_Stock_names{f:Addr}{fd:FuncData}(F:Fun K "names" "Stock.names" s_Stock_names f fd)(T:Txt K mg xCastError xNoRule xNoNumber xStock xRule xRanked xOldest xFirst xHalving xFarthest xHand xRows xDues xmake_oldest xmake_first xmake_halving xmake_farthest xmake_hand xmake_rows xmake_dues xMAKERS):FnOk P w K mg base (CXF P w) 1 f fd ["self"] (sp_nms K xStock):=by
  have sc:FnScope ["self"] ["self"] (defScope s_Stock_names):=⟨rfl,rfl,rfl,by decide+kernel,rfl,by decide+kernel,by decide+kernel⟩
  refine F.okF sc (fun vs H Q E h=>?_) (fun cdv A outer s H vs Q E hr h=>?_)
  · obtain ⟨p,ts,rfl,hs,q⟩:=h;rfl
  obtain ⟨p,ts,rfl,hs,q⟩:=h
  refine ⟨_,(@pss_one _ _ _ (@ps_ret _ _ _ _ (pe_callTy (call_listD rfl) rfl T.z_list (by first | rfl | decide+kernel) (pa_cons (pe_fld (pv 0) rfl) pa_nil)))),?_⟩
  rw [show start ["self"] [V.ref p]=[some (V.ref p)] from rfl]
  obtain ⟨dx,d,kvs,h1,h2,h3,h4,h5⟩:=StockAt.has hs
  walk_at "go"
  refine ⟨xStock,dx,flds d,h1,T.cl_Stock,T.n_Stock_things,_,flds_things,?_⟩
  walk_at "go"
  refine ⟨_,h2,fun l hl=>?_⟩
  rw [h3]
  have:=q l hl
  rw [List.map_map]at this
  exact this
theorem ok_Rule_init{f:Addr}{fd:FuncData}(F:Fun K "__init__" "Rule.__init__" s_Rule_init f fd)(T:Txt K mg xCastError xNoRule xNoNumber xStock xRule xRanked xOldest xFirst xHalving xFarthest xHand xRows xDues xmake_oldest xmake_first xmake_halving xmake_farthest xmake_hand xmake_rows xmake_dues xMAKERS)(D_check_places:Def P w K mg base (CXF P w) 3 "check_places" ["places"] (sp32_check)):FnOk P w K mg base (CXF P w) 4 f fd ["self","stock","places"] (sp28_rinit K):=by
  have sc:FnScope ["self","stock","places"] ["self","stock","places"] (defScope s_Rule_init):=⟨rfl,rfl,rfl,by decide+kernel,rfl,by decide+kernel,by decide+kernel⟩
  refine F.okF sc (fun vs H Q E h=>?_) (fun cdv A outer s H vs Q E hr h=>?_)
  · obtain ⟨X,q',dx,p,n,rfl,hq,hcl,hns,hnp,h1,h2,q⟩:=h;rfl
  obtain ⟨X,q',dx,p,n,rfl,hq,hcl,hns,hnp,h1,h2,q⟩:=h
  refine ⟨_,(@pss_cons _ _ _ _ _ (ps_expr (pe_callD D_check_places hr rfl pass_onF (pa_cons (pv 2) pa_nil)))
    (@pss_cons _ _ _ _ _ (ps_fld (pv 0) (pv 1) rfl)
    (@pss_one _ _ _ (ps_fld (pv 0) (pv 2) rfl)))),?_⟩
  rw [show start ["self","stock","places"] [V.ref q',V.ref p,V.int n]=[some (V.ref q'),some (V.ref p),some (V.int n)] from rfl]
  walk_at "go"
  refine ⟨X,dx,[],hq,hcl,hns,by decide,?_⟩
  walk_at "go"
  refine ⟨X,dx,_,upd_same,hcl,hnp,by simp [putF],?_⟩
  walk_at "go"
  exact q _ (fun b o e nb=>by rw [upd_ne nb];exact e) upd_same
theorem ok_Ranked_init{f:Addr}{fd:FuncData}(F:Fun K "__init__" "Ranked.__init__" s_Ranked_init f fd)(T:Txt K mg xCastError xNoRule xNoNumber xStock xRule xRanked xOldest xFirst xHalving xFarthest xHand xRows xDues xmake_oldest xmake_first xmake_halving xmake_farthest xmake_hand xmake_rows xmake_dues xMAKERS)(D_Rule_init:DefB P w K mg base (CXF P w) 4 "Rule" xRule ["self","stock","places"] (sp28_rinit K)):FnOk P w K mg base (CXF P w) 5 f fd ["self","stock","places"] (sp28_kinit K):=by
  have sc:FnScope ["self","stock","places"] ["self","stock","places"] (defScope s_Ranked_init):=⟨rfl,rfl,rfl,by decide+kernel,rfl,by decide+kernel,by decide+kernel⟩
  refine F.okF sc (fun vs H Q E h=>?_) (fun cdv A outer s H vs Q E hr h=>?_)
  · obtain ⟨X,q',dx,p,n,rfl,hq,hcl,⟨hns,hnp⟩,hpr,hla5,h1,h2,q⟩:=h;rfl
  obtain ⟨X,q',dx,p,n,rfl,hq,hcl,⟨hns,hnp⟩,hpr,hla5,h1,h2,q⟩:=h
  refine ⟨_,(@pss_cons _ _ _ _ _ (ps_expr (pe_initC D_Rule_init hr (passS pass_onF) (pe_glob (v:= .ref xRule) rfl T.c_Rule rfl) (pa_cons (pv 0) (pa_cons (pv 1) (pa_cons (pv 2) pa_nil)))))
    (@pss_cons _ _ _ _ _ (ps_fld (pv 0) pe_int rfl)
    (@pss_one _ _ _ (ps_fld (pv 0) pe_dnewK rfl)))),?_⟩
  rw [show start ["self","stock","places"] [V.ref q',V.ref p,V.int n]=[some (V.ref q'),some (V.ref p),some (V.int n)] from rfl]
  have line:=line_val
  walk_at "go"
  refine ⟨X,dx,hq,hcl,hns,hnp,h1,h2,fun H1 sb1 hq1=>?_⟩
  rename_i rest hrest
  subst hrest
  walk_at "go"
  refine ⟨X,dx,_,hq1,hcl,hpr,by rw [show (rf0 p n).length=2 from rfl];decide,?_⟩
  have sb2:SameBut q' H1 (upd H1 q' (.ins X dx (putF "present" (V.int 0) (rf0 p n)))):=fun b o e nb=>by rw [upd_ne nb];exact e
  have hq2:upd H1 q' (.ins X dx (putF "present" (V.int 0) (rf0 p n))) q'=some (.ins X dx (putF "present" (V.int 0) (rf0 p n))):=upd_same
  generalize upd H1 q' (.ins X dx (putF "present" (V.int 0) (rf0 p n)))=H2 at sb2 hq2 ⊢
  rename_i rest hrest
  subst hrest
  walk_at "go"
  intro la hla
  have n1:la≠q':=fun e=>by rw [e,hq2]at hla;cases hla
  refine ⟨X,dx,_,by rw [upd_ne n1.symm];exact hq2,hcl,hla5,by rw [show (putF "present" (V.int 0) (rf0 p n)).length=3 from rfl];decide,?_⟩
  have sb12:=sb1.trans sb2
  have hla0:H la=none:=by
    cases e2:H la with
    | none=>rfl
    | some o=>rw [sb12 _ _ e2 n1]at hla;cases hla
  walk_at "go"
  exact q _ la (fun b o e nb=>by rw [upd_ne nb,upd_ne (fun e2=>by rw [e2,hla0]at e;cases e)];exact sb12 _ _ e nb) hla0 n1 upd_same (by rw [upd_ne n1,upd_same])
theorem ok_Oldest_init{f:Addr}{fd:FuncData}(F:Fun K "__init__" "Ranked.__init__" s_Oldest_init f fd)(T:Txt K mg xCastError xNoRule xNoNumber xStock xRule xRanked xOldest xFirst xHalving xFarthest xHand xRows xDues xmake_oldest xmake_first xmake_halving xmake_farthest xmake_hand xmake_rows xmake_dues xMAKERS)(D_Rule_init:DefB P w K mg base (CXF P w) 4 "Rule" xRule ["self","stock","places"] (sp28_rinit K)):FnOk P w K mg base (CXF P w) 5 f fd ["self","stock","places"] (sp28_kinit K):=by
  have sc:FnScope ["self","stock","places"] ["self","stock","places"] (defScope s_Oldest_init):=⟨rfl,rfl,rfl,by decide+kernel,rfl,by decide+kernel,by decide+kernel⟩
  refine F.okF sc (fun vs H Q E h=>?_) (fun cdv A outer s H vs Q E hr h=>?_)
  · obtain ⟨X,q',dx,p,n,rfl,hq,hcl,⟨hns,hnp⟩,hpr,hla5,h1,h2,q⟩:=h;rfl
  obtain ⟨X,q',dx,p,n,rfl,hq,hcl,⟨hns,hnp⟩,hpr,hla5,h1,h2,q⟩:=h
  refine ⟨_,(@pss_cons _ _ _ _ _ (ps_expr (pe_initC D_Rule_init hr (passS pass_onF) (pe_glob (v:= .ref xRule) rfl T.c_Rule rfl) (pa_cons (pv 0) (pa_cons (pv 1) (pa_cons (pv 2) pa_nil)))))
    (@pss_cons _ _ _ _ _ (ps_fld (pv 0) pe_int rfl)
    (@pss_one _ _ _ (ps_fld (pv 0) pe_dnewK rfl)))),?_⟩
  rw [show start ["self","stock","places"] [V.ref q',V.ref p,V.int n]=[some (V.ref q'),some (V.ref p),some (V.int n)] from rfl]
  have line:=line_val
  walk_at "go"
  refine ⟨X,dx,hq,hcl,hns,hnp,h1,h2,fun H1 sb1 hq1=>?_⟩
  rename_i rest hrest
  subst hrest
  walk_at "go"
  refine ⟨X,dx,_,hq1,hcl,hpr,by rw [show (rf0 p n).length=2 from rfl];decide,?_⟩
  have sb2:SameBut q' H1 (upd H1 q' (.ins X dx (putF "present" (V.int 0) (rf0 p n)))):=fun b o e nb=>by rw [upd_ne nb];exact e
  have hq2:upd H1 q' (.ins X dx (putF "present" (V.int 0) (rf0 p n))) q'=some (.ins X dx (putF "present" (V.int 0) (rf0 p n))):=upd_same
  generalize upd H1 q' (.ins X dx (putF "present" (V.int 0) (rf0 p n)))=H2 at sb2 hq2 ⊢
  rename_i rest hrest
  subst hrest
  walk_at "go"
  intro la hla
  have n1:la≠q':=fun e=>by rw [e,hq2]at hla;cases hla
  refine ⟨X,dx,_,by rw [upd_ne n1.symm];exact hq2,hcl,hla5,by rw [show (putF "present" (V.int 0) (rf0 p n)).length=3 from rfl];decide,?_⟩
  have sb12:=sb1.trans sb2
  have hla0:H la=none:=by
    cases e2:H la with
    | none=>rfl
    | some o=>rw [sb12 _ _ e2 n1]at hla;cases hla
  walk_at "go"
  exact q _ la (fun b o e nb=>by rw [upd_ne nb,upd_ne (fun e2=>by rw [e2,hla0]at e;cases e)];exact sb12 _ _ e nb) hla0 n1 upd_same (by rw [upd_ne n1,upd_same])
theorem ok_First_init{f:Addr}{fd:FuncData}(F:Fun K "__init__" "First.__init__" s_First_init f fd)(T:Txt K mg xCastError xNoRule xNoNumber xStock xRule xRanked xOldest xFirst xHalving xFarthest xHand xRows xDues xmake_oldest xmake_first xmake_halving xmake_farthest xmake_hand xmake_rows xmake_dues xMAKERS)(D_Ranked_init:DefB P w K mg base (CXF P w) 5 "Ranked" xRanked ["self","stock","places"] (sp28_kinit K)):FnOk P w K mg base (CXF P w) 6 f fd ["self","stock","places"] (sp22_init xFirst):=by
  have sc:FnScope ["self","stock","places"] ["self","stock","places"] (defScope s_First_init):=⟨rfl,rfl,rfl,by decide+kernel,rfl,by decide+kernel,by decide+kernel⟩
  refine F.okF sc (fun vs H Q E h=>?_) (fun cdv A outer s H vs Q E hr h=>?_)
  · obtain ⟨q',dx,p,n,rfl,hq,h1,h2,q⟩:=h;rfl
  obtain ⟨q',dx,p,n,rfl,hq,h1,h2,q⟩:=h
  refine ⟨_,(@pss_cons _ _ _ _ _ (ps_expr (pe_initC D_Ranked_init hr (passS pass_onF) (pe_glob (v:= .ref xRanked) rfl T.c_Ranked rfl) (pa_cons (pv 0) (pa_cons (pv 1) (pa_cons (pv 2) pa_nil)))))
    (@pss_one _ _ _ (ps_fld (pv 0) pe_dnewK rfl))),?_⟩
  rw [show start ["self","stock","places"] [V.ref q',V.ref p,V.int n]=[some (V.ref q'),some (V.ref p),some (V.int n)] from rfl]
  have line:=line_val
  walk_at "go"
  refine ⟨xFirst,dx,hq,T.cl_First,T.n_First_stock,T.n_First_places,T.n_First_present,T.n_First_last,h1,h2,fun H1 la sb1 hla n1 hq1' hl1=>?_⟩
  have hq1:H1 q'=some (.ins xFirst dx (putF "last" (V.ref la) (putF "present" (V.int 0) (rf0 p n)))):=hq1'
  clear hq1'
  rename_i rest hrest
  subst hrest
  walk_at "go"
  intro pa hpa
  have n2:pa≠q':=fun e=>by rw [e,hq1]at hpa;cases hpa
  have n3:la≠pa:=fun e=>by rw [← e,hl1]at hpa;cases hpa
  refine ⟨xFirst,dx,_,by rw [upd_ne n2.symm];exact hq1,T.cl_First,T.n_First_put_at,by rw [show (putF "last" (V.ref la) (putF "present" (V.int 0) (rf0 p n))).length=4 from rfl];decide,?_⟩
  have hpa0:H pa=none:=by
    cases e2:H pa with
    | none=>rfl
    | some o=>rw [sb1 _ _ e2 n2]at hpa;cases hpa
  walk_at "go"
  exact q _ la pa (fun b o e nb=>by rw [upd_ne nb,upd_ne (fun e2=>by rw [e2,hpa0]at e;cases e)];exact sb1 _ _ e nb) hla hpa0 ⟨la,pa,rfl,n3,⟨dx,upd_same⟩,by rw [upd_ne n1,upd_ne n3];exact hl1,by rw [upd_ne n2,upd_same]⟩
theorem ok_Halving_init{dtk:Tok}{f:Addr}{fd:FuncData}(F:FunD K "__init__" "Halving.__init__" s_Halving_init f fd [.int 8 dtk])(T:Txt K mg xCastError xNoRule xNoNumber xStock xRule xRanked xOldest xFirst xHalving xFarthest xHand xRows xDues xmake_oldest xmake_first xmake_halving xmake_farthest xmake_hand xmake_rows xmake_dues xMAKERS)(D_is_within:Def P w K mg base (CXF P w) 2 "is_within" ["thing","least","most"] (sp_within K))(D_Ranked_init:DefB P w K mg base (CXF P w) 5 "Ranked" xRanked ["self","stock","places"] (sp28_kinit K)):FnOk P w K mg base (CXF P w) 6 f fd ["self","stock","places","turn"] (sp23_init xHalving):=by
  have sc:FnScope ["self","stock","places","turn"] ["self","stock","places","turn"] (defScope s_Halving_init):=⟨rfl,rfl,rfl,by decide+kernel,rfl,by decide+kernel,by decide+kernel⟩
  refine F.okF sc (fun vs H Q E h=>?_) (fun cdv A outer s H vs Q E hr h=>?_)
  · obtain ⟨q',dx,p,n,e,rfl,hq,h1,h2,h3,h4,q⟩:=h;rfl
  obtain ⟨q',dx,p,n,e,rfl,hq,h1,h2,h3,h4,q⟩:=h
  refine ⟨_,(@pss_cons _ _ _ _ _ (ps_expr (pe_initC D_Ranked_init hr (passS pass_onF) (pe_glob (v:= .ref xRanked) rfl T.c_Ranked rfl) (pa_cons (pv 0) (pa_cons (pv 1) (pa_cons (pv 2) pa_nil)))))
    (@pss_cons _ _ _ _ _ (ps_if (pt_not (pt_val (pe_callD D_is_within hr rfl pass_onF (pa_cons (pv 3) (pa_cons pe_int (pa_cons (pe_gint rfl T.g_MOST_TURN) pa_nil))))))
      (@pss_one _ _ _ ps_never)
      pss_nil)
    (@pss_cons _ _ _ _ _ (ps_fld (pv 0) (pv 3) rfl)
    (@pss_one _ _ _ (ps_fld (pv 0) pe_dnewK rfl))))),?_⟩
  rw [show start ["self","stock","places","turn"] [V.ref q',V.ref p,V.int n,V.int e]=[some (V.ref q'),some (V.ref p),some (V.int n),some (V.int e)] from rfl]
  have line:=line_val
  walk_at "go"
  refine ⟨xHalving,dx,hq,T.cl_Halving,T.n_Halving_stock,T.n_Halving_places,T.n_Halving_present,T.n_Halving_last,h1,h2,fun H1 la sb1 hla n1 hq1 hl1=>?_⟩
  have hq1':H1 q'=some (.ins xHalving dx (rf2 p n 0 la)):=hq1
  clear hq1
  rename_i rest hrest
  subst hrest
  walk_at "go"
  rw [if_neg (by rw [wIn_ok h3 h4];decide)]
  refine ⟨rfl,?_⟩
  walk_at "go"
  refine ⟨xHalving,dx,_,hq1',T.cl_Halving,T.n_Halving_turn,by rw [rf2_len];decide,?_⟩
  have sb2:SameBut q' H1 (upd H1 q' (.ins xHalving dx (putF "turn" (V.int e) (rf2 p n 0 la)))):=fun b o e nb=>by rw [upd_ne nb];exact e
  have hq2:upd H1 q' (.ins xHalving dx (putF "turn" (V.int e) (rf2 p n 0 la))) q'=some (.ins xHalving dx (putF "turn" (V.int e) (rf2 p n 0 la))):=upd_same
  have hl2:upd H1 q' (.ins xHalving dx (putF "turn" (V.int e) (rf2 p n 0 la))) la=some (.dK []):=by rw [upd_ne n1];exact hl1
  generalize upd H1 q' (.ins xHalving dx (putF "turn" (V.int e) (rf2 p n 0 la)))=H2 at sb2 hq2 hl2 ⊢
  rename_i rest hrest
  subst hrest
  walk_at "go"
  intro ta hta
  have n2:ta≠q':=fun e=>by rw [e,hq2]at hta;cases hta
  have n3:la≠ta:=fun e=>by rw [← e,hl2]at hta;cases hta
  refine ⟨xHalving,dx,_,by rw [upd_ne n2.symm];exact hq2,T.cl_Halving,T.n_Halving_tally,by rw [show (putF "turn" (V.int e) (rf2 p n 0 la)).length=5 from rfl];decide,?_⟩
  have sb12:=sb1.trans sb2
  have hta0:H ta=none:=by
    cases e2:H ta with
    | none=>rfl
    | some o=>rw [sb12 _ _ e2 n2]at hta;cases hta
  walk_at "go"
  exact q _ la ta (fun b o e nb=>by rw [upd_ne nb,upd_ne (fun e2=>by rw [e2,hta0]at e;cases e)];exact sb12 _ _ e nb) hla hta0 ⟨la,ta,rfl,⟨dx,upd_same⟩,by rw [upd_ne n1,upd_ne n3];exact hl2,by rw [upd_ne n2,upd_same];rfl,n3⟩
theorem ok_Farthest_init{f:Addr}{fd:FuncData}(F:Fun K "__init__" "Farthest.__init__" s_Farthest_init f fd)(T:Txt K mg xCastError xNoRule xNoNumber xStock xRule xRanked xOldest xFirst xHalving xFarthest xHand xRows xDues xmake_oldest xmake_first xmake_halving xmake_farthest xmake_hand xmake_rows xmake_dues xMAKERS)(D_check_asks:Def P w K mg base (CXF P w) 4 "check_asks" ["stock","asks","places"] (N41.sp41_asks K xStock))(D_Ranked_init:DefB P w K mg base (CXF P w) 5 "Ranked" xRanked ["self","stock","places"] (sp28_kinit K)):FnOk P w K mg base (CXF P w) 6 f fd ["self","stock","places","asks"] (sp24_init K xStock xFarthest):=by
  have sc:FnScope ["self","stock","places","asks"] ["self","stock","places","asks"] (defScope s_Farthest_init):=⟨rfl,rfl,rfl,by decide+kernel,rfl,by decide+kernel,by decide+kernel⟩
  refine F.okF sc (fun vs H Q E h=>?_) (fun cdv A outer s H vs Q E hr h=>?_)
  · obtain ⟨q',dx,p,a,n,ts,ys,rfl,hq,hsto,nd,ha,hlen,hin,hrm,h1,h2,naq,q⟩:=h;rfl
  obtain ⟨q',dx,p,a,n,ts,ys,rfl,hq,hsto,nd,ha,hlen,hin,hrm,h1,h2,naq,q⟩:=h
  refine ⟨_,(@pss_cons _ _ _ _ _ (ps_expr (pe_callD D_check_asks hr rfl pass_onF (pa_cons (pv 1) (pa_cons (pv 3) (pa_cons (pv 2) pa_nil)))))
    (@pss_cons _ _ _ _ _ (ps_expr (pe_initC D_Ranked_init hr (passS pass_onF) (pe_glob (v:= .ref xRanked) rfl T.c_Ranked rfl) (pa_cons (pv 0) (pa_cons (pv 1) (pa_cons (pv 2) pa_nil)))))
    (@pss_one _ _ _ (ps_fld (pv 0) (pe_callTy call_list_of rfl T.z_list (by first | rfl | decide+kernel) (pa_cons (pv 3) pa_nil)) rfl)))),?_⟩
  rw [show start ["self","stock","places","asks"] [V.ref q',V.ref p,V.int n,V.ref a]=[some (V.ref q'),some (V.ref p),some (V.int n),some (V.ref a)] from rfl]
  have line:=line_val
  walk_at "go"
  refine ⟨ts,hsto,nd,ys,ha,hlen,hin,hrm,h1,h2,fun H0 sm0=>?_⟩
  have hq0:=sm0 _ _ hq
  have ha0:=sm0.seq ha
  rename_i rest hrest
  subst hrest
  walk_at "go"
  refine ⟨xFarthest,dx,hq0,T.cl_Farthest,T.n_Farthest_stock,T.n_Farthest_places,T.n_Farthest_present,T.n_Farthest_last,h1,h2,fun H1 la sb1 hla n1 hq1' hl1=>?_⟩
  have hq1:H1 q'=some (.ins xFarthest dx (putF "last" (V.ref la) (putF "present" (V.int 0) (rf0 p n)))):=hq1'
  clear hq1'
  have ha1:SqL K H1 a (ys.map V.str):=by
    rcases ha0 with (h | ⟨o,h⟩) | h
    · exact .inl (.inl (sb1 _ _ h naq))
    · exact .inl (.inr ⟨o,sb1 _ _ h naq⟩)
    · exact .inr h
  rename_i rest hrest
  subst hrest
  walk_at "go"
  intro ak hak
  have n2:ak≠q':=fun e=>by rw [e,hq1]at hak;cases hak
  have n3:la≠ak:=fun e=>by rw [← e,hl1]at hak;cases hak
  refine ⟨xFarthest,dx,_,by rw [upd_ne n2.symm];exact hq1,T.cl_Farthest,T.n_Farthest_asks,by rw [show (putF "last" (V.ref la) (putF "present" (V.int 0) (rf0 p n))).length=4 from rfl];decide,?_⟩
  have hak0:H ak=none:=by
    cases e2:H ak with
    | none=>rfl
    | some o=>rw [sb1 _ _ (sm0 _ _ e2) n2]at hak;cases hak
  exact q _ la ak (fun b o e nb=>by rw [upd_ne nb,upd_ne (fun e2=>by rw [e2,hak0]at e;cases e)];exact sb1 _ _ (sm0 _ _ e) nb) (same_none sm0 hla) hak0 ⟨la,ak,rfl,⟨dx,upd_same⟩,by rw [upd_ne n1,upd_ne n3];exact hl1,by rw [upd_ne n2,upd_same]⟩
theorem ok_Hand_init{f:Addr}{fd:FuncData}(F:Fun K "__init__" "Hand.__init__" s_Hand_init f fd)(T:Txt K mg xCastError xNoRule xNoNumber xStock xRule xRanked xOldest xFirst xHalving xFarthest xHand xRows xDues xmake_oldest xmake_first xmake_halving xmake_farthest xmake_hand xmake_rows xmake_dues xMAKERS)(D_Rule_init:DefB P w K mg base (CXF P w) 4 "Rule" xRule ["self","stock","places"] (sp28_rinit K)):FnOk P w K mg base (CXF P w) 6 f fd ["self","stock","places"] (sp28_hinit xHand):=by
  have sc:FnScope ["self","stock","places"] ["self","stock","places"] (defScope s_Hand_init):=⟨rfl,rfl,rfl,by decide+kernel,rfl,by decide+kernel,by decide+kernel⟩
  refine F.okF sc (fun vs H Q E h=>?_) (fun cdv A outer s H vs Q E hr h=>?_)
  · obtain ⟨q',dx,p,n,rfl,hq,h1,h2,q⟩:=h;rfl
  obtain ⟨q',dx,p,n,rfl,hq,h1,h2,q⟩:=h
  refine ⟨_,(@pss_cons _ _ _ _ _ (ps_expr (pe_initC D_Rule_init hr (passS pass_onF) (pe_glob (v:= .ref xRule) rfl T.c_Rule rfl) (pa_cons (pv 0) (pa_cons (pv 1) (pa_cons (pv 2) pa_nil)))))
    (@pss_cons _ _ _ _ _ (ps_fld (pv 0) (@pe_lst _ _ _ _ pa_nil) rfl)
    (@pss_one _ _ _ (ps_fld (pv 0) pe_dnewK rfl)))),?_⟩
  rw [show start ["self","stock","places"] [V.ref q',V.ref p,V.int n]=[some (V.ref q'),some (V.ref p),some (V.int n)] from rfl]
  have line:=line_val
  walk_at "go"
  refine ⟨xHand,dx,hq,T.cl_Hand,T.n_Hand_stock,T.n_Hand_places,h1,h2,fun H1 sb1 hq1'=>?_⟩
  have hq1:H1 q'=some (.ins xHand dx (putF "places" (V.int n) (putF "stock" (V.ref p) []))):=hq1'
  clear hq1'
  have back:∀b,b≠q'→H1 b=none→H b=none:=fun b nb e=>by
    cases e2:H b with
    | none=>rfl
    | some o=>rw [sb1 _ _ e2 nb]at e;cases e
  rename_i rest hrest
  subst hrest
  walk_at "go"
  intro od hod
  have n1:od≠q':=fun e=>by rw [e,hq1]at hod;cases hod
  have fl1:(putF "places" (V.int n) (putF "stock" (V.ref p) [])).length≤2:=by
    have e1:=length_putF "places" (V.int n) (putF "stock" (V.ref p) [])
    have e2:=length_putF "stock" (V.ref p) []
    simp at *;omega
  refine ⟨xHand,dx,_,by rw [upd_ne n1.symm];exact hq1,T.cl_Hand,T.n_Hand_order,by omega,?_⟩
  rename_i rest hrest
  subst hrest
  walk_at "go"
  intro md hmd
  have n2:md≠q':=fun e=>by rw [e,upd_same]at hmd;cases hmd
  have n3:md≠od:=fun e=>by rw [upd_ne n2,e,upd_same]at hmd;cases hmd
  have hmd1:H1 md=none:=by rw [upd_ne n2,upd_ne n3]at hmd;exact hmd
  have fl2:(putF "order" (V.ref od) (putF "places" (V.int n) (putF "stock" (V.ref p) []))).length≤3:=by
    have e1:=length_putF "order" (V.ref od) (putF "places" (V.int n) (putF "stock" (V.ref p) []))
    omega
  refine ⟨xHand,dx,_,by rw [upd_ne n2.symm,upd_same],T.cl_Hand,T.n_Hand_marked,by omega,?_⟩
  walk_at "go"
  refine q _ od md (fun b o e nb=>?_) (back od n1 hod) (back md n2 hmd1) ⟨od,md,rfl,⟨dx,upd_same⟩,?_,?_⟩
  · have e1:=sb1 _ _ e nb
    rw [upd_ne nb,upd_ne (ne_of_none e1 hmd1),upd_ne nb,upd_ne (ne_of_none e1 hod)]
    exact e1
  · rw [upd_ne n1,upd_ne n3.symm,upd_ne n1,upd_same];rfl
  · rw [upd_ne n2,upd_same];rfl
theorem ok_Rows_init{f:Addr}{fd:FuncData}(F:Fun K "__init__" "Rows.__init__" s_Rows_init f fd)(T:Txt K mg xCastError xNoRule xNoNumber xStock xRule xRanked xOldest xFirst xHalving xFarthest xHand xRows xDues xmake_oldest xmake_first xmake_halving xmake_farthest xmake_hand xmake_rows xmake_dues xMAKERS)(D_Rule_init:DefB P w K mg base (CXF P w) 4 "Rule" xRule ["self","stock","places"] (sp28_rinit K)):FnOk P w K mg base (CXF P w) 6 f fd ["self","stock","places"] (sp26_init xRows):=by
  have sc:FnScope ["self","stock","places"] ["self","stock","places"] (defScope s_Rows_init):=⟨rfl,rfl,rfl,by decide+kernel,rfl,by decide+kernel,by decide+kernel⟩
  refine F.okF sc (fun vs H Q E h=>?_) (fun cdv A outer s H vs Q E hr h=>?_)
  · obtain ⟨q',dx,p,n,rfl,hq,h1,h2,q⟩:=h;rfl
  obtain ⟨q',dx,p,n,rfl,hq,h1,h2,q⟩:=h
  refine ⟨_,(@pss_cons _ _ _ _ _ (ps_expr (pe_initC D_Rule_init hr (passS pass_onF) (pe_glob (v:= .ref xRule) rfl T.c_Rule rfl) (pa_cons (pv 0) (pa_cons (pv 1) (pa_cons (pv 2) pa_nil)))))
    (@pss_cons _ _ _ _ _ (ps_fld (pv 0) (@pe_lst _ _ _ _ pa_nil) rfl)
    (@pss_cons _ _ _ _ _ (ps_fld (pv 0) (@pe_lst _ _ _ _ pa_nil) rfl)
    (@pss_cons _ _ _ _ _ (ps_fld (pv 0) (@pe_lst _ _ _ _ pa_nil) rfl)
    (@pss_cons _ _ _ _ _ (ps_fld (pv 0) (@pe_lst _ _ _ _ pa_nil) rfl)
    (@pss_cons _ _ _ _ _ (ps_fld (pv 0) pe_int rfl)
    (@pss_one _ _ _ (ps_fld (pv 0) pe_bl rfl)))))))),?_⟩
  rw [show start ["self","stock","places"] [V.ref q',V.ref p,V.int n]=[some (V.ref q'),some (V.ref p),some (V.int n)] from rfl]
  have line:=line_val
  walk_at "go"
  refine ⟨xRows,dx,hq,T.cl_Rows,T.n_Rows_stock,T.n_Rows_places,h1,h2,fun H1 sb1 hq1'=>?_⟩
  have hq1:H1 q'=some (.ins xRows dx (putF "places" (V.int n) (putF "stock" (V.ref p) []))):=hq1'
  clear hq1'
  have back:∀b,b≠q'→H1 b=none→H b=none:=fun b nb e=>by
    cases e2:H b with
    | none=>rfl
    | some o=>rw [sb1 _ _ e2 nb]at e;cases e
  rename_i rest hrest
  subst hrest
  walk_at "go"
  intro m1 hm1
  have n1:m1≠q':=fun e=>by rw [e,hq1]at hm1;cases hm1
  refine ⟨xRows,dx,_,by rw [upd_ne n1.symm];exact hq1,T.cl_Rows,T.n_Rows_once,by rw [show (putF "places" (V.int n) (putF "stock" (V.ref p) [])).length=2 from rfl];decide,?_⟩
  have sb2:SameBut q' H1 (upd (upd H1 m1 (.lst [])) q' (.ins xRows dx (putF "once" (V.ref m1) (putF "places" (V.int n) (putF "stock" (V.ref p) []))))):=fun b o e nb=>by
    rw [upd_ne nb,upd_ne (ne_of_none e hm1)];exact e
  have hq2:(upd (upd H1 m1 (.lst [])) q' (.ins xRows dx (putF "once" (V.ref m1) (putF "places" (V.int n) (putF "stock" (V.ref p) []))))) q'=some (.ins xRows dx (putF "once" (V.ref m1) (putF "places" (V.int n) (putF "stock" (V.ref p) [])))):=upd_same
  have k1_2:(upd (upd H1 m1 (.lst [])) q' (.ins xRows dx (putF "once" (V.ref m1) (putF "places" (V.int n) (putF "stock" (V.ref p) []))))) m1=some (.lst []):=by rw [upd_ne n1,upd_same]
  generalize upd (upd H1 m1 (.lst [])) q' (.ins xRows dx (putF "once" (V.ref m1) (putF "places" (V.int n) (putF "stock" (V.ref p) []))))=H2 at sb2 hq2 k1_2 ⊢
  rename_i rest hrest
  subst hrest
  walk_at "go"
  intro m2 hm2
  have n2:m2≠q':=fun e=>by rw [e,hq2]at hm2;cases hm2
  refine ⟨xRows,dx,_,by rw [upd_ne n2.symm];exact hq2,T.cl_Rows,T.n_Rows_again,by rw [show (putF "once" (V.ref m1) (putF "places" (V.int n) (putF "stock" (V.ref p) []))).length=3 from rfl];decide,?_⟩
  have sb3:SameBut q' H2 (upd (upd H2 m2 (.lst [])) q' (.ins xRows dx (putF "again" (V.ref m2) (putF "once" (V.ref m1) (putF "places" (V.int n) (putF "stock" (V.ref p) [])))))):=fun b o e nb=>by
    rw [upd_ne nb,upd_ne (ne_of_none e hm2)];exact e
  have hq3:(upd (upd H2 m2 (.lst [])) q' (.ins xRows dx (putF "again" (V.ref m2) (putF "once" (V.ref m1) (putF "places" (V.int n) (putF "stock" (V.ref p) [])))))) q'=some (.ins xRows dx (putF "again" (V.ref m2) (putF "once" (V.ref m1) (putF "places" (V.int n) (putF "stock" (V.ref p) []))))):=upd_same
  have k2_3:(upd (upd H2 m2 (.lst [])) q' (.ins xRows dx (putF "again" (V.ref m2) (putF "once" (V.ref m1) (putF "places" (V.int n) (putF "stock" (V.ref p) [])))))) m2=some (.lst []):=by rw [upd_ne n2,upd_same]
  generalize upd (upd H2 m2 (.lst [])) q' (.ins xRows dx (putF "again" (V.ref m2) (putF "once" (V.ref m1) (putF "places" (V.int n) (putF "stock" (V.ref p) [])))))=H3 at sb3 hq3 k2_3 ⊢
  have k1_3:=sb3 _ _ k1_2 n1
  have z2:H1 m2=none:=by
    cases e2:H1 m2 with
    | none=>rfl
    | some o=>rw [sb2 _ _ e2 n2]at hm2;cases hm2
  rename_i rest hrest
  subst hrest
  walk_at "go"
  intro m3 hm3
  have n3:m3≠q':=fun e=>by rw [e,hq3]at hm3;cases hm3
  refine ⟨xRows,dx,_,by rw [upd_ne n3.symm];exact hq3,T.cl_Rows,T.n_Rows_past_once,by rw [show (putF "again" (V.ref m2) (putF "once" (V.ref m1) (putF "places" (V.int n) (putF "stock" (V.ref p) [])))).length=4 from rfl];decide,?_⟩
  have sb4:SameBut q' H3 (upd (upd H3 m3 (.lst [])) q' (.ins xRows dx (putF "past_once" (V.ref m3) (putF "again" (V.ref m2) (putF "once" (V.ref m1) (putF "places" (V.int n) (putF "stock" (V.ref p) []))))))):=fun b o e nb=>by
    rw [upd_ne nb,upd_ne (ne_of_none e hm3)];exact e
  have hq4:(upd (upd H3 m3 (.lst [])) q' (.ins xRows dx (putF "past_once" (V.ref m3) (putF "again" (V.ref m2) (putF "once" (V.ref m1) (putF "places" (V.int n) (putF "stock" (V.ref p) []))))))) q'=some (.ins xRows dx (putF "past_once" (V.ref m3) (putF "again" (V.ref m2) (putF "once" (V.ref m1) (putF "places" (V.int n) (putF "stock" (V.ref p) [])))))):=upd_same
  have k3_4:(upd (upd H3 m3 (.lst [])) q' (.ins xRows dx (putF "past_once" (V.ref m3) (putF "again" (V.ref m2) (putF "once" (V.ref m1) (putF "places" (V.int n) (putF "stock" (V.ref p) []))))))) m3=some (.lst []):=by rw [upd_ne n3,upd_same]
  generalize upd (upd H3 m3 (.lst [])) q' (.ins xRows dx (putF "past_once" (V.ref m3) (putF "again" (V.ref m2) (putF "once" (V.ref m1) (putF "places" (V.int n) (putF "stock" (V.ref p) []))))))=H4 at sb4 hq4 k3_4 ⊢
  have k1_4:=sb4 _ _ k1_3 n1
  have k2_4:=sb4 _ _ k2_3 n2
  have z3:H1 m3=none:=by
    cases e2:H1 m3 with
    | none=>rfl
    | some o=>rw [(sb2.trans sb3) _ _ e2 n3]at hm3;cases hm3
  rename_i rest hrest
  subst hrest
  walk_at "go"
  intro m4 hm4
  have n4:m4≠q':=fun e=>by rw [e,hq4]at hm4;cases hm4
  refine ⟨xRows,dx,_,by rw [upd_ne n4.symm];exact hq4,T.cl_Rows,T.n_Rows_past_again,by rw [show (putF "past_once" (V.ref m3) (putF "again" (V.ref m2) (putF "once" (V.ref m1) (putF "places" (V.int n) (putF "stock" (V.ref p) []))))).length=5 from rfl];decide,?_⟩
  have sb5:SameBut q' H4 (upd (upd H4 m4 (.lst [])) q' (.ins xRows dx (putF "past_again" (V.ref m4) (putF "past_once" (V.ref m3) (putF "again" (V.ref m2) (putF "once" (V.ref m1) (putF "places" (V.int n) (putF "stock" (V.ref p) [])))))))):=fun b o e nb=>by
    rw [upd_ne nb,upd_ne (ne_of_none e hm4)];exact e
  have hq5:(upd (upd H4 m4 (.lst [])) q' (.ins xRows dx (putF "past_again" (V.ref m4) (putF "past_once" (V.ref m3) (putF "again" (V.ref m2) (putF "once" (V.ref m1) (putF "places" (V.int n) (putF "stock" (V.ref p) [])))))))) q'=some (.ins xRows dx (putF "past_again" (V.ref m4) (putF "past_once" (V.ref m3) (putF "again" (V.ref m2) (putF "once" (V.ref m1) (putF "places" (V.int n) (putF "stock" (V.ref p) []))))))):=upd_same
  have k4_5:(upd (upd H4 m4 (.lst [])) q' (.ins xRows dx (putF "past_again" (V.ref m4) (putF "past_once" (V.ref m3) (putF "again" (V.ref m2) (putF "once" (V.ref m1) (putF "places" (V.int n) (putF "stock" (V.ref p) [])))))))) m4=some (.lst []):=by rw [upd_ne n4,upd_same]
  generalize upd (upd H4 m4 (.lst [])) q' (.ins xRows dx (putF "past_again" (V.ref m4) (putF "past_once" (V.ref m3) (putF "again" (V.ref m2) (putF "once" (V.ref m1) (putF "places" (V.int n) (putF "stock" (V.ref p) [])))))))=H5 at sb5 hq5 k4_5 ⊢
  have k1_5:=sb5 _ _ k1_4 n1
  have k2_5:=sb5 _ _ k2_4 n2
  have k3_5:=sb5 _ _ k3_4 n3
  have z4:H1 m4=none:=by
    cases e2:H1 m4 with
    | none=>rfl
    | some o=>rw [((sb2.trans sb3).trans sb4) _ _ e2 n4]at hm4;cases hm4
  rename_i rest hrest
  subst hrest
  walk_at "go"
  refine ⟨xRows,dx,_,hq5,T.cl_Rows,T.n_Rows_bound,by rw [show (putF "past_again" (V.ref m4) (putF "past_once" (V.ref m3) (putF "again" (V.ref m2) (putF "once" (V.ref m1) (putF "places" (V.int n) (putF "stock" (V.ref p) [])))))).length=6 from rfl];decide,?_⟩
  rename_i rest hrest
  subst hrest
  walk_at "go"
  refine ⟨xRows,dx,_,upd_same,T.cl_Rows,T.n_Rows_returns,by rw [show (putF "bound" (V.int 0) (putF "past_again" (V.ref m4) (putF "past_once" (V.ref m3) (putF "again" (V.ref m2) (putF "once" (V.ref m1) (putF "places" (V.int n) (putF "stock" (V.ref p) []))))))).length=7 from rfl];decide,?_⟩
  have e12:m1≠m2:=fun e=>by rw [← e]at hm2;rw [k1_2]at hm2;cases hm2
  have e13:m1≠m3:=fun e=>by rw [← e]at hm3;rw [k1_3]at hm3;cases hm3
  have e14:m1≠m4:=fun e=>by rw [← e]at hm4;rw [k1_4]at hm4;cases hm4
  have e23:m2≠m3:=fun e=>by rw [← e]at hm3;rw [k2_3]at hm3;cases hm3
  have e24:m2≠m4:=fun e=>by rw [← e]at hm4;rw [k2_4]at hm4;cases hm4
  have e34:m3≠m4:=fun e=>by rw [← e]at hm4;rw [k3_4]at hm4;cases hm4
  have sball:=(((sb1.trans sb2).trans sb3).trans sb4).trans sb5
  walk_at "go"
  refine q _ m1 m2 m3 m4 (fun b o e nb=>?_) (back _ n1 hm1) (back _ n2 z2) (back _ n3 z3) (back _ n4 z4) ⟨⟨dx,upd_same⟩,?_,?_,?_,?_,e12,e13,e14,e23,e24,e34⟩
  · rw [upd_ne nb]
    try rw [upd_ne nb]
    exact sball _ _ e nb
  · rw [upd_ne n1]
    try rw [upd_ne n1]
    exact k1_5
  · rw [upd_ne n2]
    try rw [upd_ne n2]
    exact k2_5
  · rw [upd_ne n3]
    try rw [upd_ne n3]
    exact k3_5
  · rw [upd_ne n4]
    try rw [upd_ne n4]
    exact k4_5
theorem ok_Dues_init{f:Addr}{fd:FuncData}(F:Fun K "__init__" "Dues.__init__" s_Dues_init f fd)(T:Txt K mg xCastError xNoRule xNoNumber xStock xRule xRanked xOldest xFirst xHalving xFarthest xHand xRows xDues xmake_oldest xmake_first xmake_halving xmake_farthest xmake_hand xmake_rows xmake_dues xMAKERS)(D_Rule_init:DefB P w K mg base (CXF P w) 4 "Rule" xRule ["self","stock","places"] (sp28_rinit K)):FnOk P w K mg base (CXF P w) 6 f fd ["self","stock","places"] (sp57_init xDues):=by
  have sc:FnScope ["self","stock","places"] ["self","stock","places"] (defScope s_Dues_init):=⟨rfl,rfl,rfl,by decide+kernel,rfl,by decide+kernel,by decide+kernel⟩
  refine F.okF sc (fun vs H Q E h=>?_) (fun cdv A outer s H vs Q E hr h=>?_)
  · obtain ⟨q',dx,p,n,U,rfl,hq,h1,h2,hU,q⟩:=h;rfl
  obtain ⟨q',dx,p,n,U,rfl,hq,h1,h2,hU,q⟩:=h
  refine ⟨_,(@pss_cons _ _ _ _ _ (ps_expr (pe_initC D_Rule_init hr (passS pass_onF) (pe_glob (v:= .ref xRule) rfl T.c_Rule rfl) (pa_cons (pv 0) (pa_cons (pv 1) (pa_cons (pv 2) pa_nil)))))
    (@pss_cons _ _ _ _ _ (ps_fld (pv 0) (pe_tup (pa_cons pe_int (pa_cons pe_int pa_nil))) rfl)
    (@pss_cons _ _ _ _ _ (ps_fld (pv 0) pe_dnewK rfl)
    (@pss_one _ _ _ (ps_fld (pv 0) (@pe_lst _ _ _ _ pa_nil) rfl))))),?_⟩
  rw [show start ["self","stock","places"] [V.ref q',V.ref p,V.int n]=[some (V.ref q'),some (V.ref p),some (V.int n)] from rfl]
  have line:=line_val
  walk_at "go"
  refine ⟨xDues,dx,hq,T.cl_Dues,T.n_Dues_stock,T.n_Dues_places,h1,h2,fun H1 sb1 hq1=>?_⟩
  replace hq1:H1 q'=some (.ins xDues dx [(Str.ofString "stock",V.ref p),(Str.ofString "places",V.int n)]):=hq1
  rename_i rest hrest
  subst hrest
  walk_at "go"
  intro rp hrp
  have n1:q'≠rp:=ne_of_none hq1 hrp
  refine ⟨xDues,dx,_,by rw [upd_ne n1];exact hq1,T.cl_Dues,T.n_Dues_reached,by show 2 < 1000;decide,?_⟩
  have hq2:upd (upd H1 rp (.tup [V.int 0,V.int 1])) q' (.ins xDues dx (putF (Str.ofString "reached") (V.ref rp) [(Str.ofString "stock",V.ref p),(Str.ofString "places",V.int n)])) q'=some (.ins xDues dx [(Str.ofString "stock",V.ref p),(Str.ofString "places",V.int n),(Str.ofString "reached",V.ref rp)]):=upd_same
  have hrp2:upd (upd H1 rp (.tup [V.int 0,V.int 1])) q' (.ins xDues dx (putF (Str.ofString "reached") (V.ref rp) [(Str.ofString "stock",V.ref p),(Str.ofString "places",V.int n)])) rp=some (.tup [V.int 0,V.int 1]):=by rw [upd_ne n1.symm,upd_same]
  have sb2:SameBut q' H (upd (upd H1 rp (.tup [V.int 0,V.int 1])) q' (.ins xDues dx (putF (Str.ofString "reached") (V.ref rp) [(Str.ofString "stock",V.ref p),(Str.ofString "places",V.int n)]))):=fun b o e nb=>by
    have e1:=sb1 _ _ e nb
    rw [upd_ne nb,upd_ne (ne_of_none e1 hrp)];exact e1
  generalize upd (upd H1 rp (.tup [V.int 0,V.int 1])) q' (.ins xDues dx (putF (Str.ofString "reached") (V.ref rp) [(Str.ofString "stock",V.ref p),(Str.ofString "places",V.int n)]))=H2 at hq2 hrp2 sb2 ⊢
  clear sb1 hq1 hrp
  rename_i rest hrest
  subst hrest
  walk_at "go"
  intro dd hdd
  have n2:q'≠dd:=ne_of_none hq2 hdd
  have n3:rp≠dd:=ne_of_none hrp2 hdd
  refine ⟨xDues,dx,_,by rw [upd_ne n2];exact hq2,T.cl_Dues,T.n_Dues_dues,by show 3 < 1000;decide,?_⟩
  have hq3:upd (upd H2 dd (.dK [])) q' (.ins xDues dx (putF (Str.ofString "dues") (V.ref dd) [(Str.ofString "stock",V.ref p),(Str.ofString "places",V.int n),(Str.ofString "reached",V.ref rp)])) q'=some (.ins xDues dx [(Str.ofString "stock",V.ref p),(Str.ofString "places",V.int n),(Str.ofString "reached",V.ref rp),(Str.ofString "dues",V.ref dd)]):=upd_same
  have hrp3:upd (upd H2 dd (.dK [])) q' (.ins xDues dx (putF (Str.ofString "dues") (V.ref dd) [(Str.ofString "stock",V.ref p),(Str.ofString "places",V.int n),(Str.ofString "reached",V.ref rp)])) rp=some (.tup [V.int 0,V.int 1]):=by rw [upd_ne n1.symm,upd_ne n3];exact hrp2
  have hdd3:upd (upd H2 dd (.dK [])) q' (.ins xDues dx (putF (Str.ofString "dues") (V.ref dd) [(Str.ofString "stock",V.ref p),(Str.ofString "places",V.int n),(Str.ofString "reached",V.ref rp)])) dd=some (.dK []):=by rw [upd_ne n2.symm,upd_same]
  have sb3:SameBut q' H (upd (upd H2 dd (.dK [])) q' (.ins xDues dx (putF (Str.ofString "dues") (V.ref dd) [(Str.ofString "stock",V.ref p),(Str.ofString "places",V.int n),(Str.ofString "reached",V.ref rp)]))):=fun b o e nb=>by
    have e1:=sb2 _ _ e nb
    rw [upd_ne nb,upd_ne (ne_of_none e1 hdd)];exact e1
  have hdd0:H dd=none:=by
    cases k:H dd with
    | none=>rfl
    | some o=>rw [sb2 _ _ k n2.symm]at hdd;cases hdd
  generalize upd (upd H2 dd (.dK [])) q' (.ins xDues dx (putF (Str.ofString "dues") (V.ref dd) [(Str.ofString "stock",V.ref p),(Str.ofString "places",V.int n),(Str.ofString "reached",V.ref rp)]))=H3 at hq3 hrp3 hdd3 sb3 ⊢
  clear sb2 hq2 hrp2 hdd
  rename_i rest hrest
  subst hrest
  walk_at "go"
  intro rr hrr
  have n4:q'≠rr:=ne_of_none hq3 hrr
  have hrr0:H rr=none:=by
    cases k:H rr with
    | none=>rfl
    | some o=>rw [sb3 _ _ k n4.symm]at hrr;cases hrr
  refine ⟨xDues,dx,_,by rw [upd_ne n4];exact hq3,T.cl_Dues,T.n_Dues_rises,by show 4 < 1000;decide,?_⟩
  walk_at "go"
  refine q ⟨rp,dd,rr⟩ _ (fun b o e nb=>?_) (fun b hb=>?_) ⟨⟨dx,_,upd_same,⟨by rfl,by rfl,by rfl,by rfl,by rfl,by show 5 < 500;decide,fun m hm=>?_⟩⟩,?_,⟨[],?_,rfl,fun y hy=>by cases hy⟩,⟨[],?_,rfl,fun i a v h=>by simp at h⟩,List.nodup_nil,⟨⟨by decide,by decide⟩,(fun y hy=>by cases hy),(fun v hv=>by cases hv)⟩,by decide,by decide⟩
  · have e1:=sb3 _ _ e nb
    rw [upd_ne nb,upd_ne (ne_of_none e1 hrr)];exact e1
  · simp only [List.mem_cons,List.not_mem_nil,or_false]at hb
    rcases hb with e | e <;> rw [e]
    · exact hdd0
    · exact hrr0
  · have hm':m=Str.ofString "asked"∨m=Str.ofString "owe"∨m=Str.ofString "choice"∨m=Str.ofString "gone"∨m=Str.ofString "came"∨m=Str.ofString "level"∨m=Str.ofString "due_of"∨m=Str.ofString "prices":=by simpa using hm
    rcases hm' with e | e | e | e | e | e | e | e <;> rw [e] <;> rfl
  · show _=some (HO.tup [V.int (rt U 0).1,V.int (rt U 0).2])
    rw [rt_zero hU,upd_ne n1.symm,upd_ne (ne_of_none hrp3 hrr)];exact hrp3
  · rw [upd_ne n2.symm,upd_ne (ne_of_none hdd3 hrr)];exact hdd3
  · rw [upd_ne n4.symm,upd_same];rfl
theorem ok_Halving_halve{f:Addr}{fd:FuncData}(F:Fun K "halve" "Halving.halve" s_Halving_halve f fd)(T:Txt K mg xCastError xNoRule xNoNumber xStock xRule xRanked xOldest xFirst xHalving xFarthest xHand xRows xDues xmake_oldest xmake_first xmake_halving xmake_farthest xmake_hand xmake_rows xmake_dues xMAKERS):FnOk P w K mg base (CXF P w) 1 f fd ["self"] (sp23_halve xHalving):=by
  have sc:FnScope ["self","name"] ["self"] (defScope s_Halving_halve):=⟨rfl,rfl,rfl,by decide+kernel,rfl,by decide+kernel,by decide+kernel⟩
  refine F.okF sc (fun vs H Q E h=>?_) (fun cdv A outer s H vs Q E hr h=>?_)
  · obtain ⟨q',p,n,M,s,ns,rfl,hh,ht,hns,q⟩:=h;rfl
  obtain ⟨q',p,n,M,s,ns,rfl,hh,ht,hns,q⟩:=h
  refine ⟨_,(@pss_one _ _ _ (ps_for own_outF rfl (pi_list (pe_callTy (call_listD rfl) rfl T.z_list (by first | rfl | decide+kernel) (pa_cons (pe_fld (pv 0) rfl) pa_nil))) (pg_name (i:=1) sc.nd rfl (Or.inl rfl))
      (@pss_one _ _ _ (ps_dput (hu_of hr) (pe_fld (pv 0) rfl) (pv 1) (pe_op op_fdiv (pe_dget (hu_of hr) (pe_fld (pv 0) rfl) (pv 1) (fun _ _=>rfl)) pe_int) rfl)))),?_⟩
  rw [show start ["self","name"] [V.ref q']=[some (V.ref q'),none] from rfl]
  have line:=line_val
  obtain ⟨la,ta,hM,⟨dx,ho⟩,hla,hta,hne⟩:=hh
  have hM2:M=[q',la,ta]∧True:=⟨hM,trivial⟩
  clear hM
  have nq1:q'≠la:=fun e=>by rw [e,hla]at ho;cases ho
  have nq2:q'≠ta:=fun e=>by rw [e,hta]at ho;cases ho
  obtain ⟨ks,hks,hin⟩:=ht.keys
  have hkl:s.ta.length=ks.length∧True:=⟨by have:=congrArg List.length hks;simpa using this,trivial⟩
  have hlen:=ht.k.len
  walk_at "go"
  refine ⟨xHalving,dx,_,ho,T.cl_Halving,T.n_Halving_tally,_,rf4_tally,ta,rfl,_,hta,fun l hl=>?_⟩
  rw [keys_str hks]
  have sml:Same H (upd H l (.lst (ks.map V.str))):=Same.new hl
  have hll:upd H l (.lst (ks.map V.str)) l=some (.lst (ks.map V.str)):=upd_same
  have ho1:=sml _ _ ho
  have hla1:=sml _ _ hla
  have hta1:=sml _ _ hta
  have nlt:l≠ta:=fun e=>by rw [e,hta]at hl;cases hl
  generalize upd H l (.lst (ks.map V.str))=H1 at sml hll ho1 hla1 hta1 ⊢
  refine ⟨⟨_,SqL.of hll⟩,?_⟩
  refine forL_by (xs:=ks.map V.str) (fun i σ H'=>∃(v1:Option V),σ=[some (V.ref q'),v1]∧Kp M H H'∧H' l=some (.lst (ks.map V.str))∧H' q'=some (.ins xHalving dx (rf4 p n s.b.k la s.e ta))∧H' la=some (.dK s.b.la)∧H' ta=some (.dK (hvi s.ta i))) ⟨none,rfl,Kp.of sml,hll,ho1,hla1,hta1⟩ (fun i σ H' _ ⟨_,_,_,h,_⟩=>SqL.of h) ?_ ?_
  · rintro i v σ H' hu ⟨v1,rfl,kp,hL,hO,hLa,hTa⟩
    rw [List.getElem?_map]at hu
    cases hz:ks[i]? with
    | none=>rw [hz]at hu;cases hu
    | some z=>
    rw [hz]at hu
    cases hu
    have hkz:(s.ta.map (·.1))[i]?=some (Sum.inr z):=by rw [hks,List.getElem?_map,hz];rfl
    have hval:=ht.at_ (List.mem_of_getElem? hkz) i
    have hsu:hvi s.ta (i+1)=putK (hvi s.ta i) (Sum.inr z) (.int (tvK (hvi s.ta i) (Sum.inr z) / 2))∧True:=⟨hvi_succ hkz,trivial⟩
    have hln:=(hvi_ok ht i).1.k.len
    clear hkz
    have nqt:q'≠ta:=nq2
    walk_at "go"
    refine ⟨xHalving,dx,_,hO,T.cl_Halving,T.n_Halving_tally,_,rf4_tally,ta,rfl,_,by rw [← hval];exact DGet.k (k:=Sum.inr z) hTa,_,rfl,cdiv_of (by decide) (by decide),xHalving,dx,_,hO,T.cl_Halving,T.n_Halving_tally,_,rf4_tally,ta,rfl,_,DPut.k (k:=Sum.inr z) hTa (by omega),kp.upd (by rw [hM2.1];simp),by rw [upd_ne nlt];exact hL,by rw [upd_ne nqt];exact hO,by rw [upd_ne hne];exact hLa,by rw [upd_same,hsu.1]⟩
  · rintro σ H' ⟨v1,rfl,kp,hL,hO,hLa,hTa⟩
    rw [List.length_map,← hkl.1]at hTa
    walk_at "go"
    exact q H' kp ⟨la,ta,hM2.1,⟨dx,hO⟩,hLa,hTa,hne⟩
theorem ok_Halving_number_ask{f:Addr}{fd:FuncData}(F:Fun K "number_ask" "Ranked.number_ask" s_Halving_number_ask f fd)(T:Txt K mg xCastError xNoRule xNoNumber xStock xRule xRanked xOldest xFirst xHalving xFarthest xHand xRows xDues xmake_oldest xmake_first xmake_halving xmake_farthest xmake_hand xmake_rows xmake_dues xMAKERS):FnOk P w K mg base (CXF P w) 1 f fd ["self","name"] (sp23_number xHalving):=by
  have sc:FnScope ["self","name"] ["self","name"] (defScope s_Halving_number_ask):=⟨rfl,rfl,rfl,by decide+kernel,rfl,by decide+kernel,by decide+kernel⟩
  refine F.okF sc (fun vs H Q E h=>?_) (fun cdv A outer s H vs Q E hr h=>?_)
  · obtain ⟨q',p,n,M,s,z,rfl,hh,hl,q⟩:=h;rfl
  obtain ⟨q',p,n,M,s,z,rfl,hh,hl,q⟩:=h
  refine ⟨_,(@pss_cons _ _ _ _ _ (ps_fldaug (pv 0) pe_int in_add)
    (@pss_one _ _ _ (ps_dput (hu_of hr) (pe_fld (pv 0) rfl) (pv 1) (pe_fld (pv 0) rfl) rfl))),?_⟩
  rw [show start ["self","name"] [V.ref q',V.str z]=[some (V.ref q'),some (V.str z)] from rfl]
  have line:=line_val
  obtain ⟨la,ta,hM,⟨dx,ho⟩,hla,hta,hne⟩:=hh
  have hM2:M=[q',la,ta]∧True:=⟨hM,trivial⟩
  clear hM
  have nq1:q'≠la:=fun e=>by rw [e,hla]at ho;cases ho
  have nq2:q'≠ta:=fun e=>by rw [e,hta]at ho;cases ho
  walk_at "go"
  refine ⟨xHalving,dx,_,ho,T.cl_Halving,T.n_Halving_present,_,rf4_present,s.b.k,rfl,dx,_,ho,by rw [rf4_len];decide,?_⟩
  have ho1:upd H q' (.ins xHalving dx (rf4 p n (s.b.k+1) la s.e ta)) q'=some (.ins xHalving dx (rf4 p n (s.b.k+1) la s.e ta)):=upd_same
  have hla1:upd H q' (.ins xHalving dx (rf4 p n (s.b.k+1) la s.e ta)) la=some (.dK s.b.la):=by rw [upd_ne nq1.symm];exact hla
  have hta1:upd H q' (.ins xHalving dx (rf4 p n (s.b.k+1) la s.e ta)) ta=some (.dK s.ta):=by rw [upd_ne nq2.symm];exact hta
  have kp1:Kp M H (upd H q' (.ins xHalving dx (rf4 p n (s.b.k+1) la s.e ta))):=(Kp.of (Same.refl H)).upd (by rw [hM2.1];simp)
  rename_i rest hrest
  show rest _ (upd H q' (.ins xHalving dx (rf4 p n (s.b.k+1) la s.e ta)))
  generalize upd H q' (.ins xHalving dx (rf4 p n (s.b.k+1) la s.e ta))=H1 at ho1 hla1 hta1 kp1 ⊢
  have hlp:=length_putK s.b.la (Sum.inr z:Key) (V.int (s.b.k+1))
  subst hrest
  walk_at "go"
  exact ⟨xHalving,dx,_,ho1,T.cl_Halving,T.n_Halving_present,_,rf4_present,xHalving,dx,_,ho1,T.cl_Halving,T.n_Halving_last,_,rf4_last,la,rfl,_,DPut.k (k:=Sum.inr z) hla1 (by omega),q _ (kp1.upd (by rw [hM2.1];simp)) ⟨la,ta,hM2.1,⟨dx,by rw [upd_ne nq1];exact ho1⟩,upd_same,by rw [upd_ne hne.symm];exact hta1,hne⟩⟩
theorem ok_Halving_asked{f:Addr}{fd:FuncData}(F:Fun K "asked" "Halving.asked" s_Halving_asked f fd)(T:Txt K mg xCastError xNoRule xNoNumber xStock xRule xRanked xOldest xFirst xHalving xFarthest xHand xRows xDues xmake_oldest xmake_first xmake_halving xmake_farthest xmake_hand xmake_rows xmake_dues xMAKERS)(D_Halving_halve:DefM P w K mg base (CXF P w) 1 xHalving "halve" ["self"] (sp23_halve xHalving))(D_Halving_number_ask:DefM P w K mg base (CXF P w) 1 xHalving "number_ask" ["self","name"] (sp23_number xHalving)):FnOk P w K mg base (CXF P w) 3 f fd ["self","name"] (spR_asked (T4 xHalving)):=by
  have sc:FnScope ["self","name"] ["self","name"] (defScope s_Halving_asked):=⟨rfl,rfl,rfl,by decide+kernel,rfl,by decide+kernel,by decide+kernel⟩
  refine F.okF sc (fun vs H Q E h=>?_) (fun cdv A outer s H vs Q E hr h=>?_)
  · obtain ⟨q',p,n,M,s,l,ns,z,rfl,hh,hi,hz,hns,q⟩:=h;rfl
  obtain ⟨q',p,n,M,s,l,ns,z,rfl,hh,hi,hz,hns,q⟩:=h
  refine ⟨_,(@pss_cons _ _ _ _ _ (ps_if (pt_cmpR op_eq (pe_op op_mod (pe_fld (pv 0) rfl) (pe_fld (pv 0) rfl)) pe_int (nomark _))
      (@pss_one _ _ _ (ps_expr (pe_methS0 D_Halving_halve T.cl_Halving hr (passS pass_onF) (pv 0))))
      pss_nil)
    (@pss_cons _ _ _ _ _ (ps_expr (pe_methS D_Halving_number_ask T.cl_Halving hr (passS pass_onF) (pv 0) (pa_cons (pv 1) pa_nil)))
    (@pss_one _ _ _ (ps_dput (hu_of hr) (pe_fld (pv 0) rfl) (pv 1) (pe_op op_add (pe_dget2 (hu_of hr) (pe_fld (pv 0) rfl) (pv 1) pe_int ⟨rfl,rfl,rfl,rfl⟩) pe_int) rfl)))),?_⟩
  rw [show start ["self","name"] [V.ref q',V.str z]=[some (V.ref q'),some (V.str z)] from rfl]
  have line:=line_val
  have hh':GAt xHalving H M q' p n s:=hh
  obtain ⟨la,ta,hM,⟨dx,ho⟩,hla,hta,hne⟩:=id hh'
  have hM2:M=[q',la,ta]∧True:=⟨hM,trivial⟩
  clear hM
  have hlen:=hi.1.a.len
  have hci:CI ns s l:=hi.2
  have he1:=hci.e1
  walk_at "go"
  refine ⟨xHalving,dx,_,ho,T.cl_Halving,T.n_Halving_present,_,rf4_present,xHalving,dx,_,ho,T.cl_Halving,T.n_Halving_turn,_,rf4_turn,s.b.k,rfl,s.e,rfl,by omega,?_⟩
  rename_i rest hrest
  have key:∀H1,Kp M H H1→GAt xHalving H1 M q' p n ⟨s.b,tbl s.e s.b.k s.ta,s.e⟩→rest [some (V.ref q'),some (V.str z)] H1:=by
    intro H1 kp1 h1
    have hti:=(tbl_ok (e:=s.e) (k:=s.b.k) hci.t).1
    have htl:=hti.k.len
    obtain ⟨la1,ta1,hM1,⟨dx1,ho1⟩,hla1,hta1,hne1⟩:=id h1
    clear hM1 hla1 hta1 hne1
    subst hrest
    walk_at "go"
    refine ⟨dx1,_,ho1,by rfl,p,n,M,_,h1,by show s.b.la.length≤1000;omega,fun H2 kp2 h2=>?_⟩
    obtain ⟨la2,ta2,hM3,⟨dx2,ho2⟩,hla2,hta2,hne2⟩:=id h2
    have hM4:M=[q',la2,ta2]∧True:=⟨hM3,trivial⟩
    clear hM3
    rename_i rest hrest
    subst hrest
    have nq2':q'≠ta2:=fun e=>by rw [e,hta2]at ho2;cases ho2
    have hlp:=length_putK (tbl s.e s.b.k s.ta) (Sum.inr z:Key) (V.int (tvK (tbl s.e s.b.k s.ta) (Sum.inr z)+1))
    walk_at "go"
    exact ⟨xHalving,dx2,_,ho2,T.cl_Halving,T.n_Halving_tally,_,rf4_tally,ta2,rfl,.inl ⟨_,.inl hta2⟩,_,DGet.k (k:=Sum.inr z) hta2,_,hti.get,xHalving,dx2,_,ho2,T.cl_Halving,T.n_Halving_tally,_,rf4_tally,ta2,rfl,_,DPut.k (k:=Sum.inr z) hta2 (by show (tbl s.e s.b.k s.ta).length < _;omega),q _ ((kp1.trans kp2).upd (by rw [hM4.1];simp)) ⟨la2,ta2,hM4.1,⟨dx2,by rw [upd_ne nq2'];exact ho2⟩,by rw [upd_ne hne2];exact hla2,upd_same,hne2⟩⟩
  clear hrest
  by_cases hk:s.b.k % s.e=0
  · rw [if_pos hk]
    refine ⟨dx,_,ho,by rfl,p,n,M,s,hh',ns,hci.t,by omega,fun H1 kp1 h1=>key H1 kp1 ?_⟩
    unfold tbl
    rw [if_pos hk];exact h1
  · rw [if_neg hk]
    refine key H (Kp.of (Same.refl H)) ?_
    unfold tbl
    rw [if_neg hk];exact hh'
theorem ok_Halving_came{f:Addr}{fd:FuncData}(F:Fun K "came" "Rule.came" s_Halving_came f fd)(T:Txt K mg xCastError xNoRule xNoNumber xStock xRule xRanked xOldest xFirst xHalving xFarthest xHand xRows xDues xmake_oldest xmake_first xmake_halving xmake_farthest xmake_hand xmake_rows xmake_dues xMAKERS):FnOk P w K mg base (CXF P w) 1 f fd ["self","name"] (spR_came (T4 xHalving)):=by
  have sc:FnScope ["self","name"] ["self","name"] (defScope s_Halving_came):=⟨rfl,rfl,rfl,by decide+kernel,rfl,by decide+kernel,by decide+kernel⟩
  refine F.okF sc (fun vs H Q E h=>?_) (fun cdv A outer s H vs Q E hr h=>?_)
  · obtain ⟨q',p,n,M,s,l,ns,z,rfl,hh,hm,hz,hzl,hns,q⟩:=h;rfl
  obtain ⟨q',p,n,M,s,l,ns,z,rfl,hh,hm,hz,hzl,hns,q⟩:=h
  refine ⟨_,(@pss_one _ _ _ ps_pass),?_⟩
  rw [show start ["self","name"] [V.ref q',V.str z]=[some (V.ref q'),some (V.str z)] from rfl]
  walk_at "go"
  exact q _ (Kp.of (Same.refl _)) hh
theorem ok_Halving_counts{f:Addr}{fd:FuncData}(F:Fun K "counts" "Halving.counts" s_Halving_counts f fd)(T:Txt K mg xCastError xNoRule xNoNumber xStock xRule xRanked xOldest xFirst xHalving xFarthest xHand xRows xDues xmake_oldest xmake_first xmake_halving xmake_farthest xmake_hand xmake_rows xmake_dues xMAKERS):FnOk P w K mg base (CXF P w) 1 f fd ["self"] (sp23_counts xHalving):=by
  have sc:FnScope ["self"] ["self"] (defScope s_Halving_counts):=⟨rfl,rfl,rfl,by decide+kernel,rfl,by decide+kernel,by decide+kernel⟩
  refine F.okF sc (fun vs H Q E h=>?_) (fun cdv A outer s H vs Q E hr h=>?_)
  · obtain ⟨q',p,n,M,s,rfl,hh,q⟩:=h;rfl
  obtain ⟨q',p,n,M,s,rfl,hh,q⟩:=h
  refine ⟨_,(@pss_one _ _ _ (@ps_ret _ _ _ _ (pe_callTy call_dictOf rfl T.z_dict (by first | rfl | decide+kernel) (pa_cons (pe_fld (pv 0) rfl) pa_nil)))),?_⟩
  rw [show start ["self"] [V.ref q']=[some (V.ref q')] from rfl]
  have line:=line_val
  obtain ⟨la,ta,hM,⟨dx,ho⟩,hla,hta,hne⟩:=hh
  clear hM
  walk_at "go"
  exact ⟨xHalving,dx,_,ho,T.cl_Halving,T.n_Halving_tally,_,rf4_tally,ta,rfl,_,hta,q⟩
theorem ok_Farthest_number_ask{f:Addr}{fd:FuncData}(F:Fun K "number_ask" "Ranked.number_ask" s_Farthest_number_ask f fd)(T:Txt K mg xCastError xNoRule xNoNumber xStock xRule xRanked xOldest xFirst xHalving xFarthest xHand xRows xDues xmake_oldest xmake_first xmake_halving xmake_farthest xmake_hand xmake_rows xmake_dues xMAKERS):FnOk P w K mg base (CXF P w) 1 f fd ["self","name"] (sp24_number xFarthest):=by
  have sc:FnScope ["self","name"] ["self","name"] (defScope s_Farthest_number_ask):=⟨rfl,rfl,rfl,by decide+kernel,rfl,by decide+kernel,by decide+kernel⟩
  refine F.okF sc (fun vs H Q E h=>?_) (fun cdv A outer s H vs Q E hr h=>?_)
  · obtain ⟨q',p,n,M,s,z,ys,rfl,hh,hl,q⟩:=h;rfl
  obtain ⟨q',p,n,M,s,z,ys,rfl,hh,hl,q⟩:=h
  refine ⟨_,(@pss_cons _ _ _ _ _ (ps_fldaug (pv 0) pe_int in_add)
    (@pss_one _ _ _ (ps_dput (hu_of hr) (pe_fld (pv 0) rfl) (pv 1) (pe_fld (pv 0) rfl) rfl))),?_⟩
  rw [show start ["self","name"] [V.ref q',V.str z]=[some (V.ref q'),some (V.str z)] from rfl]
  have line:=line_val
  obtain ⟨la,ak,hM,⟨dx,ho⟩,hla,hak⟩:=hh
  have hM2:M=[q',la,ak]∧True:=⟨hM,trivial⟩
  clear hM
  have nq1:q'≠la:=fun e=>by rw [e,hla]at ho;cases ho
  have nq2:q'≠ak:=fun e=>by rw [e,hak]at ho;cases ho
  have nla:la≠ak:=fun e=>by rw [e,hak]at hla;cases hla
  walk_at "go"
  refine ⟨xFarthest,dx,_,ho,T.cl_Farthest,T.n_Farthest_present,_,rf3_present,s.k,rfl,dx,_,ho,by rw [rf3_len];decide,?_⟩
  have ho1:upd H q' (.ins xFarthest dx (rf3 p n (s.k+1) la ak)) q'=some (.ins xFarthest dx (rf3 p n (s.k+1) la ak)):=upd_same
  have hla1:upd H q' (.ins xFarthest dx (rf3 p n (s.k+1) la ak)) la=some (.dK s.la):=by rw [upd_ne nq1.symm];exact hla
  have hak1:upd H q' (.ins xFarthest dx (rf3 p n (s.k+1) la ak)) ak=some (.lst (ys.map V.str)):=by rw [upd_ne nq2.symm];exact hak
  have kp1:Kp M H (upd H q' (.ins xFarthest dx (rf3 p n (s.k+1) la ak))):=(Kp.of (Same.refl H)).upd (by rw [hM2.1];simp)
  rename_i rest hrest
  show rest _ (upd H q' (.ins xFarthest dx (rf3 p n (s.k+1) la ak)))
  generalize upd H q' (.ins xFarthest dx (rf3 p n (s.k+1) la ak))=H1 at ho1 hla1 hak1 kp1 ⊢
  have hlp:=length_putK s.la (Sum.inr z:Key) (V.int (s.k+1))
  subst hrest
  walk_at "go"
  exact ⟨xFarthest,dx,_,ho1,T.cl_Farthest,T.n_Farthest_present,_,rf3_present,xFarthest,dx,_,ho1,T.cl_Farthest,T.n_Farthest_last,_,rf3_last,la,rfl,_,DPut.k (k:=Sum.inr z) hla1 (by omega),q _ (kp1.upd (by rw [hM2.1];simp)) ⟨la,ak,hM2.1,⟨dx,by rw [upd_ne nq1];exact ho1⟩,upd_same,by rw [upd_ne nla.symm];exact hak1⟩⟩
theorem ok_Farthest_coming_of{f:Addr}{fd:FuncData}(F:Fun K "coming_of" "Farthest.coming_of" s_Farthest_coming_of f fd)(T:Txt K mg xCastError xNoRule xNoNumber xStock xRule xRanked xOldest xFirst xHalving xFarthest xHand xRows xDues xmake_oldest xmake_first xmake_halving xmake_farthest xmake_hand xmake_rows xmake_dues xMAKERS):FnOk P w K mg base (CXF P w) 1 f fd ["self","name"] (sp24_coming xFarthest):=by
  have sc:FnScope ["self","name","before"] ["self","name"] (defScope s_Farthest_coming_of):=⟨rfl,rfl,rfl,by decide+kernel,rfl,by decide+kernel,by decide+kernel⟩
  refine F.okF sc (fun vs H Q E h=>?_) (fun cdv A outer s H vs Q E hr h=>?_)
  · obtain ⟨q',p,n,M,s,z,ys,rfl,hh,hk0,hk1,hlen,q⟩:=h;rfl
  obtain ⟨q',p,n,M,s,z,ys,rfl,hh,hk0,hk1,hlen,q⟩:=h
  refine ⟨_,(@pss_cons _ _ _ _ _ (ps_for own_outF rfl (pi_range2 rfl T.z_range (pa_cons (pe_fld (pv 0) rfl) (pa_cons (pe_callB call_len_seq rfl T.z_len PySem.boot_len (pa_cons (pe_fld (pv 0) rfl) pa_nil)) pa_nil))) (pg_name (i:=2) sc.nd rfl (Or.inl rfl))
      (@pss_one _ _ _ (ps_if (pt_cmpR op_eq (@pe_ix _ _ _ _ _ _ _ ix_list (pe_fld (pv 0) rfl) (pv 2) (fun _ _=>rfl)) (pv 1) (nomark _))
        (@pss_one _ _ _ (@ps_ret _ _ _ _ (pe_op op_add (pv 2) pe_int)))
        pss_nil)))
    (@pss_one _ _ _ (@ps_ret _ _ _ _ (pe_op op_add (pe_callB call_len_seq rfl T.z_len PySem.boot_len (pa_cons (pe_fld (pv 0) rfl) pa_nil)) pe_int)))),?_⟩
  rw [show start ["self","name","before"] [V.ref q',V.str z]=[some (V.ref q'),some (V.str z),none] from rfl]
  have line:=line_val
  obtain ⟨la,ak,hM,⟨dx,ho⟩,hla,hak⟩:=hh
  clear hM
  walk_at "go"
  refine ⟨xFarthest,dx,_,ho,T.cl_Farthest,T.n_Farthest_present,_,rf3_present,xFarthest,dx,_,ho,T.cl_Farthest,T.n_Farthest_asks,_,rf3_asks,?_⟩
  refine ⟨ak,rfl,_,.inl (SqL.of hak),s.k,rfl,by omega,by omega,by rw [List.length_map];omega,by rw [List.length_map];omega,?_⟩
  rw [List.length_map]
  have hkn:s.k=((s.k.toNat:Nat):Int)∧True:=⟨by omega,trivial⟩
  rename_i rest hrest
  refine forR_by (fun i σ H'=>∃v2:Option V,σ=[some (V.ref q'),some (V.str z),v2]∧H'=H∧∀u,u < i→ys[s.k.toNat+u]?≠some z) ⟨none,rfl,rfl,fun u hu=>absurd hu (Nat.not_lt_zero _)⟩ ?_ ?_
  · clear hrest
    rintro i σ H' hi ⟨v2,rfl,rfl,hno⟩
    have hil:s.k.toNat+i < ys.length:=by omega
    have hy:=List.getElem?_eq_getElem hil
    generalize ys[s.k.toNat+i]=y at hy
    walk_at "go"
    refine ⟨xFarthest,dx,_,ho,T.cl_Farthest,T.n_Farthest_asks,_,rf3_asks,ixL_of (SqL.of hak) (v:=V.str y) (by rw [show s.k+(i:Int)=((s.k.toNat+i:Nat):Int) by omega];exact atI_nat (by rw [List.getElem?_map,hy];rfl)) ?_⟩
    refine ⟨rfl,?_⟩
    by_cases e:y=z
    · rw [if_pos (by rw [e])]
      rw [e]at hy
      rw [nx_at hy hno]at q
      rw [show s.k+(i:Int)+1=((s.k.toNat+i:Nat):Int)+1 by omega]
      exact q
    · rw [if_neg (fun h=>e (by injection h))]
      refine ⟨rfl,fun u hu=>?_⟩
      by_cases eu:u=i
      · rw [eu,hy];exact fun h=>e (Option.some.inj h)
      · exact hno u (by omega)
  · rintro σ H' ⟨v2,rfl,rfl,hno⟩
    rw [nx_end (fun u hu=>hno u (by omega))]at q
    subst hrest
    walk_at "go"
    refine ⟨xFarthest,dx,_,ho,T.cl_Farthest,T.n_Farthest_asks,_,rf3_asks,ak,rfl,_,.inl (SqL.of hak),?_⟩
    rw [List.length_map]
    exact q
theorem ok_Farthest_asked{f:Addr}{fd:FuncData}(F:Fun K "asked" "Ranked.asked" s_Farthest_asked f fd)(T:Txt K mg xCastError xNoRule xNoNumber xStock xRule xRanked xOldest xFirst xHalving xFarthest xHand xRows xDues xmake_oldest xmake_first xmake_halving xmake_farthest xmake_hand xmake_rows xmake_dues xMAKERS)(D_Farthest_number_ask:DefM P w K mg base (CXF P w) 1 xFarthest "number_ask" ["self","name"] (sp24_number xFarthest)):FnOk P w K mg base (CXF P w) 3 f fd ["self","name"] (spR_asked3 xFarthest):=by
  have sc:FnScope ["self","name"] ["self","name"] (defScope s_Farthest_asked):=⟨rfl,rfl,rfl,by decide+kernel,rfl,by decide+kernel,by decide+kernel⟩
  refine F.okF sc (fun vs H Q E h=>?_) (fun cdv A outer s H vs Q E hr h=>?_)
  · obtain ⟨ys,q',p,n,M,s,l,ns,z,rfl,hh,hi,hz,hns,q⟩:=h;rfl
  obtain ⟨ys,q',p,n,M,s,l,ns,z,rfl,hh,hi,hz,hns,q⟩:=h
  refine ⟨_,(@pss_one _ _ _ (ps_expr (pe_methS D_Farthest_number_ask T.cl_Farthest hr (passS pass_onF) (pv 0) (pa_cons (pv 1) pa_nil)))),?_⟩
  rw [show start ["self","name"] [V.ref q',V.str z]=[some (V.ref q'),some (V.str z)] from rfl]
  have line:=line_val
  have hh':QAt xFarthest ys H M q' p n s:=hh
  obtain ⟨la,ak,hM,⟨dx,ho⟩,hla,hak⟩:=id hh'
  have hlen:=hi.1.a.len
  walk_at "go"
  exact ⟨dx,_,ho,by rfl,p,n,M,s,ys,hh',by omega,fun H1 kp1 h1=>q H1 kp1 h1⟩
theorem ok_Farthest_came{f:Addr}{fd:FuncData}(F:Fun K "came" "Rule.came" s_Farthest_came f fd)(T:Txt K mg xCastError xNoRule xNoNumber xStock xRule xRanked xOldest xFirst xHalving xFarthest xHand xRows xDues xmake_oldest xmake_first xmake_halving xmake_farthest xmake_hand xmake_rows xmake_dues xMAKERS):FnOk P w K mg base (CXF P w) 1 f fd ["self","name"] (spR_came3 xFarthest):=by
  have sc:FnScope ["self","name"] ["self","name"] (defScope s_Farthest_came):=⟨rfl,rfl,rfl,by decide+kernel,rfl,by decide+kernel,by decide+kernel⟩
  refine F.okF sc (fun vs H Q E h=>?_) (fun cdv A outer s H vs Q E hr h=>?_)
  · obtain ⟨ys,q',p,n,M,s,l,ns,z,rfl,hh,hm,hz,hzl,hns,q⟩:=h;rfl
  obtain ⟨ys,q',p,n,M,s,l,ns,z,rfl,hh,hm,hz,hzl,hns,q⟩:=h
  refine ⟨_,(@pss_one _ _ _ ps_pass),?_⟩
  rw [show start ["self","name"] [V.ref q',V.str z]=[some (V.ref q'),some (V.str z)] from rfl]
  walk_at "go"
  exact q _ (Kp.of (Same.refl _)) hh
theorem ok_Farthest_last_of{f:Addr}{fd:FuncData}(F:Fun K "last_of" "Ranked.last_of" s_Farthest_last_of f fd)(T:Txt K mg xCastError xNoRule xNoNumber xStock xRule xRanked xOldest xFirst xHalving xFarthest xHand xRows xDues xmake_oldest xmake_first xmake_halving xmake_farthest xmake_hand xmake_rows xmake_dues xMAKERS):FnOk P w K mg base (CXF P w) 1 f fd ["self","name"] (sp61_last xFarthest):=by
  have sc:FnScope ["self","name"] ["self","name"] (defScope s_Farthest_last_of):=⟨rfl,rfl,rfl,by decide+kernel,rfl,by decide+kernel,by decide+kernel⟩
  refine F.okF sc (fun vs H Q E h=>?_) (fun cdv A outer s H vs Q E hr h=>?_)
  · obtain ⟨q',p,n,M,s,z,ys,rfl,hh,hv,q⟩:=h;rfl
  obtain ⟨q',p,n,M,s,z,ys,rfl,hh,hv,q⟩:=h
  refine ⟨_,(@pss_one _ _ _ (@ps_ret _ _ _ _ (pe_dget2 (hu_of hr) (pe_fld (pv 0) rfl) (pv 1) pe_int ⟨rfl,rfl,rfl,rfl⟩))),?_⟩
  rw [show start ["self","name"] [V.ref q',V.str z]=[some (V.ref q'),some (V.str z)] from rfl]
  have line:=line_val
  obtain ⟨la,ak,hM,⟨dx,ho⟩,hla,hak⟩:=hh
  clear hM
  walk_at "go"
  refine ⟨xFarthest,dx,_,ho,T.cl_Farthest,T.n_Farthest_last,_,rf3_last,la,rfl,.inl ⟨_,.inl hla⟩,_,DGet.k (k:=Sum.inr z) hla,?_⟩
  have e:(valV s.la (Sum.inr z)).getD (V.int 0)=V.int (lv s z):=by
    unfold lv
    cases k:valV s.la (Sum.inr z) with
    | none=>rfl
    | some v=>
      obtain ⟨i,rfl⟩:=hv v k
      rfl
  rw [e]
  exact q
theorem ok_Farthest_rank{f:Addr}{fd:FuncData}(F:Fun K "rank" "Farthest.rank" s_Farthest_rank f fd)(T:Txt K mg xCastError xNoRule xNoNumber xStock xRule xRanked xOldest xFirst xHalving xFarthest xHand xRows xDues xmake_oldest xmake_first xmake_halving xmake_farthest xmake_hand xmake_rows xmake_dues xMAKERS)(D_Farthest_coming_of:DefM P w K mg base (CXF P w) 1 xFarthest "coming_of" ["self","name"] (sp24_coming xFarthest))(D_Farthest_last_of:DefM P w K mg base (CXF P w) 1 xFarthest "last_of" ["self","name"] (sp61_last xFarthest)):FnOk P w K mg base (CXF P w) 2 f fd ["self","name"] (sp61_rank xFarthest):=by
  have sc:FnScope ["self","name"] ["self","name"] (defScope s_Farthest_rank):=⟨rfl,rfl,rfl,by decide+kernel,rfl,by decide+kernel,by decide+kernel⟩
  refine F.okF sc (fun vs H Q E h=>?_) (fun cdv A outer s H vs Q E hr h=>?_)
  · obtain ⟨q',p,n,M,s,z,ys,rfl,hh,hk0,hk1,hl,hv,q⟩:=h;rfl
  obtain ⟨q',p,n,M,s,z,ys,rfl,hh,hk0,hk1,hl,hv,q⟩:=h
  refine ⟨_,(@pss_one _ _ _ (@ps_ret _ _ _ _ (pe_tup (pa_cons (pe_op op_sub pe_int (pe_methS D_Farthest_coming_of T.cl_Farthest hr (passS pass_onF) (pv 0) (pa_cons (pv 1) pa_nil))) (pa_cons (pe_methS D_Farthest_last_of T.cl_Farthest hr (passS pass_onF) (pv 0) (pa_cons (pv 1) pa_nil)) pa_nil))))),?_⟩
  rw [show start ["self","name"] [V.ref q',V.str z]=[some (V.ref q'),some (V.str z)] from rfl]
  have line:=line_val
  obtain ⟨la,ak,hM,⟨dx,ho⟩,hla,hak⟩:=id hh
  clear hM
  walk_at "go"
  refine ⟨dx,_,ho,by rfl,p,n,M,s,ys,hh,hk0,hk1,hl,dx,_,ho,by rfl,p,n,M,s,ys,hh,hv,by omega,fun t ht=>?_⟩
  exact q t ht
theorem ok_make_oldest{f:Addr}{fd:FuncData}(F:Fun K "make_oldest" "make_oldest" s_make_oldest f fd)(T:Txt K mg xCastError xNoRule xNoNumber xStock xRule xRanked xOldest xFirst xHalving xFarthest xHand xRows xDues xmake_oldest xmake_first xmake_halving xmake_farthest xmake_hand xmake_rows xmake_dues xMAKERS)(D_Oldest_init:DefI P w K mg base (CXF P w) 5 "Oldest" xOldest ["self","stock","places"] (sp28_kinit K)):FnOk P w K mg base (CXF P w) 8 f fd ["stock","places","asks"] (sp61_mk (A7.mk xOldest xFirst xHalving xFarthest xHand xRows xDues) K xStock .ol):=by
  have sc:FnScope ["stock","places","asks"] ["stock","places","asks"] (defScope s_make_oldest):=⟨rfl,rfl,rfl,by decide+kernel,rfl,by decide+kernel,by decide+kernel⟩
  refine F.okF sc (fun vs H Q E h=>?_) (fun cdv A outer s H vs Q E hr h=>?_)
  · obtain ⟨st,a,n,ts,ys,rfl,hst,nd,ha,hl,hin,hrm,h1,h2,q⟩:=h;rfl
  obtain ⟨st,a,n,ts,ys,rfl,hst,nd,ha,hl,hin,hrm,h1,h2,q⟩:=h
  refine ⟨_,(@pss_one _ _ _ (@ps_ret _ _ _ _ (pe_makeS D_Oldest_init hr rfl (passS pass_onF) (pa_cons (pv 0) (pa_cons (pv 1) pa_nil))))),?_⟩
  rw [show start ["stock","places","asks"] [V.ref st,V.int n,V.ref a]=[some (V.ref st),some (V.int n),some (V.ref a)] from rfl]
  walk_at "go"
  intro x dx hx hd hne
  refine ⟨xOldest,dx,upd_same,T.cl_Oldest,T.n_Oldest_stock,T.n_Oldest_places,T.n_Oldest_present,T.n_Oldest_last,h1,h2,fun H' la sb hla n1 hq hl=>?_⟩
  exact q x [] H' (mk_same hx hd sb) hx (fun m hm=>by cases hm) ⟨⟨dx,_,hq,by rfl,by rfl⟩,(fun e=>by cases e),(fun e=>by cases e)⟩
theorem ok_make_first{f:Addr}{fd:FuncData}(F:Fun K "make_first" "make_first" s_make_first f fd)(T:Txt K mg xCastError xNoRule xNoNumber xStock xRule xRanked xOldest xFirst xHalving xFarthest xHand xRows xDues xmake_oldest xmake_first xmake_halving xmake_farthest xmake_hand xmake_rows xmake_dues xMAKERS)(D_First_init:DefI P w K mg base (CXF P w) 6 "First" xFirst ["self","stock","places"] (sp22_init xFirst)):FnOk P w K mg base (CXF P w) 8 f fd ["stock","places","asks"] (sp61_mk (A7.mk xOldest xFirst xHalving xFarthest xHand xRows xDues) K xStock .fi):=by
  have sc:FnScope ["stock","places","asks"] ["stock","places","asks"] (defScope s_make_first):=⟨rfl,rfl,rfl,by decide+kernel,rfl,by decide+kernel,by decide+kernel⟩
  refine F.okF sc (fun vs H Q E h=>?_) (fun cdv A outer s H vs Q E hr h=>?_)
  · obtain ⟨st,a,n,ts,ys,rfl,hst,nd,ha,hl,hin,hrm,h1,h2,q⟩:=h;rfl
  obtain ⟨st,a,n,ts,ys,rfl,hst,nd,ha,hl,hin,hrm,h1,h2,q⟩:=h
  refine ⟨_,(@pss_one _ _ _ (@ps_ret _ _ _ _ (pe_makeS D_First_init hr rfl (passS pass_onF) (pa_cons (pv 0) (pa_cons (pv 1) pa_nil))))),?_⟩
  rw [show start ["stock","places","asks"] [V.ref st,V.int n,V.ref a]=[some (V.ref st),some (V.int n),some (V.ref a)] from rfl]
  walk_at "go"
  intro x dx hx hd hne
  refine ⟨dx,upd_same,h1,h2,fun H' la pa sb hla hpa hg=>?_⟩
  obtain ⟨_,_,e1,e2,e3,_⟩:=(T1 xFirst).obj (s:=⟨0,[],[]⟩) hg
  exact q x [] H' (mk_same hx hd sb) hx (fun m hm=>by cases hm) ⟨⟨_,_,e1,e2,e3⟩,(fun e=>by cases e),(fun e=>by cases e)⟩
theorem ok_make_halving{f:Addr}{fd:FuncData}(F:Fun K "make_halving" "make_halving" s_make_halving f fd)(T:Txt K mg xCastError xNoRule xNoNumber xStock xRule xRanked xOldest xFirst xHalving xFarthest xHand xRows xDues xmake_oldest xmake_first xmake_halving xmake_farthest xmake_hand xmake_rows xmake_dues xMAKERS)(D_Halving_init:DefIK P w K mg base (CXF P w) 6 "Halving" xHalving ["self","stock","places","turn"] "turn" [V.int 8] (sp23_init xHalving)):FnOk P w K mg base (CXF P w) 8 f fd ["stock","places","asks"] (sp61_mk (A7.mk xOldest xFirst xHalving xFarthest xHand xRows xDues) K xStock .ha):=by
  have sc:FnScope ["stock","places","asks"] ["stock","places","asks"] (defScope s_make_halving):=⟨rfl,rfl,rfl,by decide+kernel,rfl,by decide+kernel,by decide+kernel⟩
  refine F.okF sc (fun vs H Q E h=>?_) (fun cdv A outer s H vs Q E hr h=>?_)
  · obtain ⟨st,a,n,ts,ys,rfl,hst,nd,ha,hl,hin,hrm,h1,h2,q⟩:=h;rfl
  obtain ⟨st,a,n,ts,ys,rfl,hst,nd,ha,hl,hin,hrm,h1,h2,q⟩:=h
  refine ⟨_,(@pss_one _ _ _ (@ps_ret _ _ _ _ (pe_makeD D_Halving_init hr rfl (passS pass_onF) (pa_cons (pv 0) (pa_cons (pv 1) pa_nil))))),?_⟩
  rw [show start ["stock","places","asks"] [V.ref st,V.int n,V.ref a]=[some (V.ref st),some (V.int n),some (V.ref a)] from rfl]
  walk_at "go"
  intro x dx hx hd hne
  refine ⟨dx,upd_same,h1,h2,by decide,by decide,fun H' la ta sb hla hta hg=>?_⟩
  obtain ⟨_,_,e1,e2,e3,_⟩:=(T4 xHalving).obj hg
  exact q x [x,la,ta] H' (mk_same hx hd sb) hx (fun m hm=>by simp only [List.mem_cons,List.not_mem_nil,or_false]at hm;rcases hm with e | e | e <;> rw [e];exact hx;exact mk_none hx hd hla;exact mk_none hx hd hta) ⟨⟨_,_,e1,e2,e3⟩,(fun _=>hg),(fun e=>by cases e)⟩
theorem ok_make_farthest{f:Addr}{fd:FuncData}(F:Fun K "make_farthest" "make_farthest" s_make_farthest f fd)(T:Txt K mg xCastError xNoRule xNoNumber xStock xRule xRanked xOldest xFirst xHalving xFarthest xHand xRows xDues xmake_oldest xmake_first xmake_halving xmake_farthest xmake_hand xmake_rows xmake_dues xMAKERS)(D_Farthest_init:DefI P w K mg base (CXF P w) 6 "Farthest" xFarthest ["self","stock","places","asks"] (sp24_init K xStock xFarthest)):FnOk P w K mg base (CXF P w) 8 f fd ["stock","places","asks"] (sp61_mk (A7.mk xOldest xFirst xHalving xFarthest xHand xRows xDues) K xStock .fa):=by
  have sc:FnScope ["stock","places","asks"] ["stock","places","asks"] (defScope s_make_farthest):=⟨rfl,rfl,rfl,by decide+kernel,rfl,by decide+kernel,by decide+kernel⟩
  refine F.okF sc (fun vs H Q E h=>?_) (fun cdv A outer s H vs Q E hr h=>?_)
  · obtain ⟨st,a,n,ts,ys,rfl,hst,nd,ha,hl,hin,hrm,h1,h2,q⟩:=h;rfl
  obtain ⟨st,a,n,ts,ys,rfl,hst,nd,ha,hl,hin,hrm,h1,h2,q⟩:=h
  refine ⟨_,(@pss_one _ _ _ (@ps_ret _ _ _ _ (pe_makeS D_Farthest_init hr rfl (passS pass_onF) (pa_cons (pv 0) (pa_cons (pv 1) (pa_cons (pv 2) pa_nil)))))),?_⟩
  rw [show start ["stock","places","asks"] [V.ref st,V.int n,V.ref a]=[some (V.ref st),some (V.int n),some (V.ref a)] from rfl]
  walk_at "go"
  intro x dx hx hd hne
  have so:=mk_old (o:= .ins xFarthest dx []) hx hd
  refine ⟨dx,upd_same,ts,hst.same so,nd,ys,SqL.of (so _ _ ha),hl,hin,hrm,h1,h2,(fun e=>by rw [e,hx]at ha;cases ha),fun H' la ak sb hla hak hg=>?_⟩
  obtain ⟨_,_,e1,e2,e3,_⟩:=(T3 xFarthest ys).obj hg
  exact q x [x,la,ak] H' (mk_same hx hd sb) hx (fun m hm=>by simp only [List.mem_cons,List.not_mem_nil,or_false]at hm;rcases hm with e | e | e <;> rw [e];exact hx;exact mk_none hx hd hla;exact mk_none hx hd hak) ⟨⟨_,_,e1,e2,e3⟩,(fun e=>by cases e),(fun _=>hg)⟩
theorem ok_make_hand{f:Addr}{fd:FuncData}(F:Fun K "make_hand" "make_hand" s_make_hand f fd)(T:Txt K mg xCastError xNoRule xNoNumber xStock xRule xRanked xOldest xFirst xHalving xFarthest xHand xRows xDues xmake_oldest xmake_first xmake_halving xmake_farthest xmake_hand xmake_rows xmake_dues xMAKERS)(D_Hand_init:DefI P w K mg base (CXF P w) 6 "Hand" xHand ["self","stock","places"] (sp28_hinit xHand)):FnOk P w K mg base (CXF P w) 8 f fd ["stock","places","asks"] (sp61_mk (A7.mk xOldest xFirst xHalving xFarthest xHand xRows xDues) K xStock .hn):=by
  have sc:FnScope ["stock","places","asks"] ["stock","places","asks"] (defScope s_make_hand):=⟨rfl,rfl,rfl,by decide+kernel,rfl,by decide+kernel,by decide+kernel⟩
  refine F.okF sc (fun vs H Q E h=>?_) (fun cdv A outer s H vs Q E hr h=>?_)
  · obtain ⟨st,a,n,ts,ys,rfl,hst,nd,ha,hl,hin,hrm,h1,h2,q⟩:=h;rfl
  obtain ⟨st,a,n,ts,ys,rfl,hst,nd,ha,hl,hin,hrm,h1,h2,q⟩:=h
  refine ⟨_,(@pss_one _ _ _ (@ps_ret _ _ _ _ (pe_makeS D_Hand_init hr rfl (passS pass_onF) (pa_cons (pv 0) (pa_cons (pv 1) pa_nil))))),?_⟩
  rw [show start ["stock","places","asks"] [V.ref st,V.int n,V.ref a]=[some (V.ref st),some (V.int n),some (V.ref a)] from rfl]
  walk_at "go"
  intro x dx hx hd hne
  refine ⟨dx,upd_same,h1,h2,fun H' od md sb hod hmd hg=>?_⟩
  obtain ⟨_,_,e1,e2,e3,_⟩:=(T6 xHand).obj (s:=s60) hg
  exact q x [] H' (mk_same hx hd sb) hx (fun m hm=>by cases hm) ⟨⟨_,_,e1,e2,e3⟩,(fun e=>by cases e),(fun e=>by cases e)⟩
theorem ok_make_rows{f:Addr}{fd:FuncData}(F:Fun K "make_rows" "make_rows" s_make_rows f fd)(T:Txt K mg xCastError xNoRule xNoNumber xStock xRule xRanked xOldest xFirst xHalving xFarthest xHand xRows xDues xmake_oldest xmake_first xmake_halving xmake_farthest xmake_hand xmake_rows xmake_dues xMAKERS)(D_Rows_init:DefI P w K mg base (CXF P w) 6 "Rows" xRows ["self","stock","places"] (sp26_init xRows)):FnOk P w K mg base (CXF P w) 8 f fd ["stock","places","asks"] (sp61_mk (A7.mk xOldest xFirst xHalving xFarthest xHand xRows xDues) K xStock .rw):=by
  have sc:FnScope ["stock","places","asks"] ["stock","places","asks"] (defScope s_make_rows):=⟨rfl,rfl,rfl,by decide+kernel,rfl,by decide+kernel,by decide+kernel⟩
  refine F.okF sc (fun vs H Q E h=>?_) (fun cdv A outer s H vs Q E hr h=>?_)
  · obtain ⟨st,a,n,ts,ys,rfl,hst,nd,ha,hl,hin,hrm,h1,h2,q⟩:=h;rfl
  obtain ⟨st,a,n,ts,ys,rfl,hst,nd,ha,hl,hin,hrm,h1,h2,q⟩:=h
  refine ⟨_,(@pss_one _ _ _ (@ps_ret _ _ _ _ (pe_makeS D_Rows_init hr rfl (passS pass_onF) (pa_cons (pv 0) (pa_cons (pv 1) pa_nil))))),?_⟩
  rw [show start ["stock","places","asks"] [V.ref st,V.int n,V.ref a]=[some (V.ref st),some (V.int n),some (V.ref a)] from rfl]
  walk_at "go"
  intro x dx hx hd hne
  refine ⟨dx,upd_same,h1,h2,fun H' l1 l2 l3 l4 sb _ _ _ _ hg=>?_⟩
  obtain ⟨dx',e1⟩:=hg.o
  exact q x [] H' (mk_same hx hd sb) hx (fun m hm=>by cases hm) ⟨⟨_,_,e1,by rfl,by rfl⟩,(fun e=>by cases e),(fun e=>by cases e)⟩
theorem ok_make_dues{f:Addr}{fd:FuncData}(F:Fun K "make_dues" "make_dues" s_make_dues f fd)(T:Txt K mg xCastError xNoRule xNoNumber xStock xRule xRanked xOldest xFirst xHalving xFarthest xHand xRows xDues xmake_oldest xmake_first xmake_halving xmake_farthest xmake_hand xmake_rows xmake_dues xMAKERS)(D_Dues_init:DefI P w K mg base (CXF P w) 6 "Dues" xDues ["self","stock","places"] (sp57_init xDues)):FnOk P w K mg base (CXF P w) 8 f fd ["stock","places","asks"] (sp61_mk (A7.mk xOldest xFirst xHalving xFarthest xHand xRows xDues) K xStock .du):=by
  have sc:FnScope ["stock","places","asks"] ["stock","places","asks"] (defScope s_make_dues):=⟨rfl,rfl,rfl,by decide+kernel,rfl,by decide+kernel,by decide+kernel⟩
  refine F.okF sc (fun vs H Q E h=>?_) (fun cdv A outer s H vs Q E hr h=>?_)
  · obtain ⟨st,a,n,ts,ys,rfl,hst,nd,ha,hl,hin,hrm,h1,h2,q⟩:=h;rfl
  obtain ⟨st,a,n,ts,ys,rfl,hst,nd,ha,hl,hin,hrm,h1,h2,q⟩:=h
  refine ⟨_,(@pss_one _ _ _ (@ps_ret _ _ _ _ (pe_makeS D_Dues_init hr rfl (passS pass_onF) (pa_cons (pv 0) (pa_cons (pv 1) pa_nil))))),?_⟩
  rw [show start ["stock","places","asks"] [V.ref st,V.int n,V.ref a]=[some (V.ref st),some (V.int n),some (V.ref a)] from rfl]
  walk_at "go"
  intro x dx hx hd hne
  refine ⟨dx,upd_same,h1,h2,1,by decide,fun u H' sb _ hg=>?_⟩
  obtain ⟨dx',fs,e1,hf⟩:=hg.o
  exact q x [] H' (mk_same hx hd sb) hx (fun m hm=>by cases hm) ⟨⟨_,_,e1,hf.st,hf.pl⟩,(fun e=>by cases e),(fun e=>by cases e)⟩
theorem ok_maker_of{f:Addr}{fd:FuncData}(F:Fun K "maker_of" "maker_of" s_maker_of f fd)(T:Txt K mg xCastError xNoRule xNoNumber xStock xRule xRanked xOldest xFirst xHalving xFarthest xHand xRows xDues xmake_oldest xmake_first xmake_halving xmake_farthest xmake_hand xmake_rows xmake_dues xMAKERS)(D_tab:Tab7 w.params K xMAKERS (A7.mk xmake_oldest xmake_first xmake_halving xmake_farthest xmake_hand xmake_rows xmake_dues)):FnOk P w K mg base (CXF P w) 2 f fd ["word"] (sp61_maker (A7.mk xmake_oldest xmake_first xmake_halving xmake_farthest xmake_hand xmake_rows xmake_dues) xNoRule):=by
  have sc:FnScope ["word"] ["word"] (defScope s_maker_of):=⟨rfl,rfl,rfl,by decide+kernel,rfl,by decide+kernel,by decide+kernel⟩
  refine F.okF sc (fun vs H Q E h=>?_) (fun cdv A outer s H vs Q E hr h=>?_)
  · obtain ⟨v,rfl,h⟩:=h;rfl
  obtain ⟨v,rfl,h⟩:=h
  refine ⟨_,(@pss_cons _ _ _ _ _ (ps_if (PW.pt (pw_or (pt_not (pt_val (pe_callB call_isinst rfl T.z_isinstance (by first | rfl | decide+kernel) (pa_cons (pv 0) (pa_cons (pe_bltn (v:= .ty "str") rfl T.z_str (by first | rfl | decide+kernel) rfl) pa_nil))))) (pw_or1 (pt_cmp (pc_knin (pv 0) (pe_glob (v:= .ref xMAKERS) rfl T.c_MAKERS rfl))))))
      (@pss_one _ _ _ (ps_raiseF T.x_NoRule rfl T.k_NoRule rfl rfl T.c_NoRule raisesF (pa_cons pe_str pa_nil)))
      pss_nil)
    (@pss_one _ _ _ (@ps_ret _ _ _ _ (pe_kget (pe_glob (v:= .ref xMAKERS) rfl T.c_MAKERS rfl) (pv 0) (fun _ _=>rfl))))),?_⟩
  rw [show start ["word"] [v]=[some (v)] from rfl]
  have line:=line_val
  rcases h with ⟨w7,rfl,q⟩ | ⟨hv,qe⟩
  · walk_at "go"
    refine ⟨_,D_tab.w w7,?_⟩
    rw [if_neg (by simp)]
    rename_i rest hrest
    subst hrest
    walk_at "go"
    exact ⟨_,D_tab.w w7,q⟩
  · walk_at "go"
    have fin:1≤sizeLine∧∀x,H x=none→H x=none∧E (Value.ref xNoRule) (some x) (upd H x (exO false x xNoRule none)):=⟨by omega,fun x hx=>⟨hx,qe _ x (Same.new hx) hx upd_same⟩⟩
    rcases hv with hv | ⟨z,hz,rfl⟩
    · refine ⟨false,?_,?_⟩
      · cases hv with
        | none=>exact isi_ns
        | bl=>exact isi_bs
        | int=>exact isi_is
        | seq h=>
          rcases h with h | h
          · exact isi_tups h
          · exact isi_lsts h
      · rw [if_pos rfl]
        exact fin
    · refine ⟨true,isi_ss,?_⟩
      rw [if_neg (by decide)]
      refine ⟨z,rfl,none,D_tab.no z hz,?_⟩
      rw [if_pos (by rfl)]
      exact fin
theorem ok_l_cell_at{f:Addr}{fd:FuncData}(F:Fun K "_law_cell_at" "_law_cell_at" s_l_cell_at f fd)(T:Txt K mg xCastError xNoRule xNoNumber xStock xRule xRanked xOldest xFirst xHalving xFarthest xHand xRows xDues xmake_oldest xmake_first xmake_halving xmake_farthest xmake_hand xmake_rows xmake_dues xMAKERS):FnOk P w K mg base (CXF P w) 1 f fd ["_law_script","_law_k"] (sp_cell K):=by
  have sc:FnScope ["_law_script","_law_k"] ["_law_script","_law_k"] (defScope s_l_cell_at):=⟨rfl,rfl,rfl,by decide+kernel,rfl,by decide+kernel,by decide+kernel⟩
  refine F.okF sc (fun vs H Q E h=>?_) (fun cdv A outer s H vs Q E hr h=>?_)
  · obtain ⟨a,ns,k,rfl,hS,h0,hl,q⟩:=h;rfl
  obtain ⟨a,ns,k,rfl,hS,h0,hl,q⟩:=h
  refine ⟨_,(@pss_cons _ _ _ _ _ (ps_if (pt_cmpR op_lt (pv 1) (pe_callB call_len_seq rfl T.z_len PySem.boot_len (pa_cons (pv 0) pa_nil)) (nomark _))
      (@pss_one _ _ _ (@ps_ret _ _ _ _ (@pe_ix _ _ _ _ _ _ _ ix_list (pv 0) (pv 1) (fun _ _=>rfl))))
      pss_nil)
    (@pss_one _ _ _ (@ps_ret _ _ _ _ pe_int))),?_⟩
  rw [show start ["_law_script","_law_k"] [V.ref a,V.int k]=[some (V.ref a),some (V.int k)] from rfl]
  walk_at "go"
  rw [List.length_map]
  split
  · rename_i hk
    exact ixL_of hS (atI_of h0 (getMap (by omega))) q
  · rename_i hk
    rw [List.getD_eq_getElem?_getD,List.getElem?_eq_none (by omega)]at q
    walk_at "go"
    exact q
theorem ok_l_mixed{f:Addr}{fd:FuncData}(F:Fun K "_law_mixed" "_law_mixed" s_l_mixed f fd)(T:Txt K mg xCastError xNoRule xNoNumber xStock xRule xRanked xOldest xFirst xHalving xFarthest xHand xRows xDues xmake_oldest xmake_first xmake_halving xmake_farthest xmake_hand xmake_rows xmake_dues xMAKERS):FnOk P w K mg base (CXF P w) 1 f fd ["_law_cell","_law_k"] (sp41_mixed):=by
  have sc:FnScope ["_law_cell","_law_k","_law_number"] ["_law_cell","_law_k"] (defScope s_l_mixed):=⟨rfl,rfl,rfl,by decide+kernel,rfl,by decide+kernel,by decide+kernel⟩
  refine F.okF sc (fun vs H Q E h=>?_) (fun cdv A outer s H vs Q E hr h=>?_)
  · obtain ⟨c,k,rfl,q⟩:=h;rfl
  obtain ⟨c,k,rfl,q⟩:=h
  refine ⟨_,(@pss_cons _ _ _ _ _ (ps_set (i:=2) sc.nd rfl (Or.inl rfl) (pe_op op_mod (pe_op op_mul (pe_op op_add (pv 0) (pe_op op_mul pe_int (pv 1))) pe_int) pe_int))
    (@pss_one _ _ _ (@ps_ret _ _ _ _ (pe_op op_mod (pe_op op_mulB (pv 2) (pv 2)) pe_int)))),?_⟩
  rw [show start ["_law_cell","_law_k","_law_number"] [V.int c,V.int k]=[some (V.int c),some (V.int k),none] from rfl]
  have h0:=Int.emod_nonneg ((c+7919 * k) * 48271) (show (2147483647:Int)≠0 by decide)
  have h1:=Int.emod_lt_of_pos ((c+7919 * k) * 48271) (show (0:Int) < 2147483647 by decide)
  walk_at "go"
  exact ⟨⟨by omega,by omega⟩,by decide,q _ (Int.emod_nonneg _ (by decide)) (Int.emod_lt_of_pos _ (by decide))⟩
theorem ok_l_names{f:Addr}{fd:FuncData}(F:Fun K "_law_names" "_law_names" s_l_names f fd)(T:Txt K mg xCastError xNoRule xNoNumber xStock xRule xRanked xOldest xFirst xHalving xFarthest xHand xRows xDues xmake_oldest xmake_first xmake_halving xmake_farthest xmake_hand xmake_rows xmake_dues xMAKERS):FnOk P w K mg base (CXF P w) 1 f fd ["_law_cell","_law_many"] (sp41_names):=by
  have sc:FnScope ["_law_cell","_law_many","_law_signs","_law_size","_law_at","_law_far","_law_names_here","_law_k","_law_name","_law_j"] ["_law_cell","_law_many"] (defScope s_l_names):=⟨rfl,rfl,rfl,by decide+kernel,rfl,by decide+kernel,by decide+kernel⟩
  refine F.okF sc (fun vs H Q E h=>?_) (fun cdv A outer s H vs Q E hr h=>?_)
  · obtain ⟨i,m,rfl,hm,q⟩:=h;rfl
  obtain ⟨i,m,rfl,hm,q⟩:=h
  refine ⟨_,(@pss_cons _ _ _ _ _ (ps_set (i:=2) sc.nd rfl (Or.inl rfl) pe_str)
    (@pss_cons _ _ _ _ _ (ps_set (i:=3) sc.nd rfl (Or.inl rfl) (pe_op op_add pe_int (pe_op op_mod (pv 0) pe_int)))
    (@pss_cons _ _ _ _ _ (ps_set (i:=4) sc.nd rfl (Or.inl rfl) (pe_op op_mod (pe_op op_fdiv (pv 0) pe_int) (pv 3)))
    (@pss_cons _ _ _ _ _ (ps_set (i:=5) sc.nd rfl (Or.inl rfl) (pe_op op_mod (pe_op op_fdiv (pv 0) pe_int) pe_int))
    (@pss_cons _ _ _ _ _ (ps_set (i:=6) sc.nd rfl (Or.inl rfl) (@pe_lst _ _ _ _ pa_nil))
    (@pss_cons _ _ _ _ _ (ps_for own_outF rfl (pi_range1 rfl T.z_range (pa_cons (pv 1) pa_nil)) (pg_name (i:=7) sc.nd rfl (Or.inl rfl))
      (@pss_cons _ _ _ _ _ (ps_set (i:=8) sc.nd rfl (Or.inl rfl) (pe_op op_mulS (@pe_ix _ _ _ _ _ _ _ ix_str (pv 2) (pe_op op_mod (pe_op op_add (pv 5) (pe_op op_fdiv (pv 7) pe_int)) pe_int) (fun _ _=>rfl)) (pe_op op_add pe_int (pe_op op_mod (pv 7) pe_int))))
      (@pss_cons _ _ _ _ _ (ps_if (pt_cmpR op_gt (pe_op op_mod (pe_op op_fdiv (pv 0) pe_int) pe_int) pe_int (nomark _))
        (@pss_cons _ _ _ _ _ (ps_set (i:=8) sc.nd rfl (Or.inl rfl) (@pe_ix _ _ _ _ _ _ _ ix_str (pv 2) (pe_op op_mod (pe_op op_add (pv 5) (pe_op op_mulB (pv 7) (pe_callTy call_int1 rfl T.z_int (by first | rfl | decide+kernel) (pa_cons (pe_cmpR op_eq (pv 4) pe_int (nomark _)) pa_nil)))) pe_int) (fun _ _=>rfl)))
        (@pss_one _ _ _ (ps_for own_outF rfl (pi_range2 rfl T.z_range (pa_cons pe_int (pa_cons (pv 3) pa_nil))) (pg_name (i:=9) sc.nd rfl (Or.inl rfl))
          (@pss_one _ _ _ (ps_set (i:=8) sc.nd rfl (Or.inl rfl) (pe_op op_add_str (pv 8) (@pe_ix _ _ _ _ _ _ _ ix_str (pv 2) (pe_op op_mod (pe_op op_add (pe_op op_add (pv 5) (pe_op op_mul pe_int (pv 9))) (pe_op op_mulB (pv 7) (pe_callTy call_int1 rfl T.z_int (by first | rfl | decide+kernel) (pa_cons (pe_cmpR op_eq (pv 9) (pv 4) (nomark _)) pa_nil)))) pe_int) (fun _ _=>rfl))))))))
        pss_nil)
      (@pss_one _ _ _ (ps_expr (pe_bm PySem.F.plainAttrs_list PySem.F.slot_list_append PySem.F.type_list_append mt_append (pv 6) (pa_cons (pv 8) pa_nil)))))))
    (@pss_one _ _ _ (@ps_ret _ _ _ _ (pv 6))))))))),?_⟩
  rw [show start ["_law_cell","_law_many","_law_signs","_law_size","_law_at","_law_far","_law_names_here","_law_k","_law_name","_law_j"] [V.int i,V.int m]=[some (V.int i),some (V.int m),none,none,none,none,none,none,none,none] from rfl]
  have line:=line_val
  have bl:=both_length
  have hL1:1≤(1+i % 8).toNat:=by omega
  have hL8:(1+i % 8).toNat≤8:=by omega
  have h8:(1+i % 8)=((1+i % 8).toNat:Int):=by omega
  walk_at "go"
  rw [h8]
  clear h8
  generalize (1+i % 8).toNat=L at hL1 hL8 ⊢
  have ha0:=Int.emod_nonneg (i / 8) (show (L:Int)≠0 by omega)
  have ha1:=Int.emod_lt_of_pos (i / 8) (show (0:Int) < L by omega)
  walk_at "go"
  generalize i / 8 % (L:Int)=at' at ha0 ha1 ⊢
  have hf0:=Int.emod_nonneg (i / 192) (show (26:Int)≠0 by decide)
  generalize i / 192 % 26=fr at hf0 ⊢
  intro p hp
  walk_at "go"
  refine forR_by (fun k σ H'=>∃(v7 v8 v9:Option V),σ=[some (V.int i),some (V.int m),some (V.str (Str.ofString "abcdefghijklmnopqrstuvwxyz0123456789")),some (V.int L),some (V.int at'),some (V.int fr),some (V.ref p),v7,v8,v9]∧H'=upd H p (.lst ((nmsB (decide (0 < i / 64 % 3)) fr at' L k).map V.str))) ⟨none,none,none,rfl,rfl⟩ ?_ ?_
  · rintro k σ H' hk ⟨v7,v8,v9,rfl,rfl⟩
    have hlen:((nmsB (decide (0 < i / 64 % 3)) fr at' L k).map V.str).length=k:=by simp [nmsB]
    walk_at "go"
    refine ixS_of (by omega) (ix_bc _ (by decide) (by decide)) ?_
    walk_at "go"
    refine ⟨mul_okR (by omega) (by omega),?_⟩
    rw [mul_rep (by omega),show (1+(k:Int) % 8).toNat=1+k % 8 by omega]
    rename_i rest hrest
    subst hrest
    walk_at "go"
    rename_i rest hrest
    have key:∀(z:List Nat) (w9:Option V),nmB (decide (0 < i / 64 % 3)) fr at' L k=z→rest [some (V.int i),some (V.int m),some (V.str (Str.ofString "abcdefghijklmnopqrstuvwxyz0123456789")),some (V.int L),some (V.int at'),some (V.int fr),some (V.ref p),some (V.int k),some (V.str (tx z)),w9] (upd H p (.lst ((nmsB (decide (0 < i / 64 % 3)) fr at' L k).map V.str))):=by
      intro z w9 hz
      rw [← hz]
      clear hz
      subst hrest
      walk_at "go"
      refine ⟨.inl ⟨rfl,_,SqL.of upd_same⟩,p,_,_,rfl,rfl,upd_same,by rw [hlen];omega,?_⟩
      walk_at "go"
      rw [nmsB_succ,List.map_append]
      rfl
    clear hrest
    split
    · rename_i hw
      have ew:nmB (decide (0 < i / 64 % 3)) fr at' L k=nmL (fun j:Nat=>fr+5 * (j:Int)) at' L k:=by unfold nmB;rw [decide_eq_true hw];rfl
      rw [ew]at key
      walk_at "go"
      refine ⟨⟨by omega,by split <;> decide⟩,by decide,ixS_of (by omega) (ix_bc _ (by decide) (by decide)) ?_⟩
      rw [T_one,← nmL_one]
      rename_i rest2 hrest2
      subst hrest2
      walk_at "go"
      refine forR_by (fun j σ H'=>∃(w9:Option V),σ=[some (V.int i),some (V.int m),some (V.str (Str.ofString "abcdefghijklmnopqrstuvwxyz0123456789")),some (V.int L),some (V.int at'),some (V.int fr),some (V.ref p),some (V.int k),some (V.str (tx (nmL (fun j:Nat=>fr+5 * (j:Int)) at' (1+j) k))),w9]∧H'=upd H p (.lst ((nmsB (decide (0 < i / 64 % 3)) fr at' L k).map V.str))) ⟨_,rfl,rfl⟩ ?_ ?_
      · rintro j σ H' hj ⟨w9,rfl,rfl⟩
        have hzl:(tx (nmL (fun j:Nat=>fr+5 * (j:Int)) at' (1+j) k)).length≤8:=by rw [T_len,nmL_l];omega
        rw [show 1+(j+1)=1+j+1 by omega,nmL_more]
        generalize nmL (fun j:Nat=>fr+5 * (j:Int)) at' (1+j) k=zl at hzl ⊢
        walk_at "go"
        refine ⟨⟨by omega,by split <;> decide⟩,by decide,ixS_of (by omega) (ix_bc _ (by decide) (by decide)) ⟨_,rfl,by rw [len_one];omega,?_,rfl⟩⟩
        rw [T_one,T_app]
      · rintro σ H' ⟨w9,rfl,rfl⟩
        rw [show 1+((L:Int) - 1).toNat=L by omega]
        exact key _ _ rfl
    · rename_i hw
      exact key _ _ (by unfold nmB;rw [if_neg (by simp;omega)];rfl)
  · rintro σ H' ⟨v7,v8,v9,rfl,rfl⟩
    walk_at "go"
    exact q p _ _ hp (Same.new hp) upd_same (by simp [nmsB]) (by simp [nmsB]) (nmsB_nodup ha0 ha1 (by omega)) (nmsB_name hL1 hL8)
theorem ok_l_room{f:Addr}{fd:FuncData}(F:Fun K "_law_room" "_law_room" s_l_room f fd)(T:Txt K mg xCastError xNoRule xNoNumber xStock xRule xRanked xOldest xFirst xHalving xFarthest xHand xRows xDues xmake_oldest xmake_first xmake_halving xmake_farthest xmake_hand xmake_rows xmake_dues xMAKERS)(D_l_mixed:Def P w K mg base (CXF P w) 1 "_law_mixed" ["_law_cell","_law_k"] (sp41_mixed)):FnOk P w K mg base (CXF P w) 2 f fd ["_law_cell","_law_k"] (sp41_lroom):=by
  have sc:FnScope ["_law_cell","_law_k","_law_number"] ["_law_cell","_law_k"] (defScope s_l_room):=⟨rfl,rfl,rfl,by decide+kernel,rfl,by decide+kernel,by decide+kernel⟩
  refine F.okF sc (fun vs H Q E h=>?_) (fun cdv A outer s H vs Q E hr h=>?_)
  · obtain ⟨c,k,rfl,q⟩:=h;rfl
  obtain ⟨c,k,rfl,q⟩:=h
  refine ⟨_,(@pss_cons _ _ _ _ _ (ps_set (i:=2) sc.nd rfl (Or.inl rfl) (pe_callD D_l_mixed hr rfl pass_onF (pa_cons (pe_op op_fdiv (pv 0) pe_int) (pa_cons (pv 1) pa_nil))))
    (@pss_cons _ _ _ _ _ (ps_if (pt_cmpR op_eq (pe_op op_mod (pv 0) pe_int) pe_int (nomark _))
      (@pss_one _ _ _ (@ps_ret _ _ _ _ pe_int))
      pss_nil)
    (@pss_cons _ _ _ _ _ (ps_if (pt_cmpR op_eq (pe_op op_mod (pv 0) pe_int) pe_int (nomark _))
      (@pss_one _ _ _ (@ps_ret _ _ _ _ (pe_op op_add pe_int (pe_op op_mod (pv 2) pe_int))))
      pss_nil)
    (@pss_one _ _ _ (@ps_ret _ _ _ _ (pe_op op_add pe_int (pe_op op_mod (pv 2) pe_int))))))),?_⟩
  rw [show start ["_law_cell","_law_k","_law_number"] [V.int c,V.int k]=[some (V.int c),some (V.int k),none] from rfl]
  have line:=line_val
  walk_at "go"
  intro v hv0 hv1
  walk_at "go"
  by_cases h:c % 4=0
  · rw [if_pos h];exact q _ (by omega) (by omega)
  rw [if_neg h]
  rename_i r hr'
  subst hr'
  walk_at "go"
  by_cases h:c % 4=1
  · rw [if_pos h];exact ⟨by decide,q _ (by omega) (by omega)⟩
  rw [if_neg h]
  rename_i r hr'
  subst hr'
  walk_at "go"
  exact q _ (by omega) (by omega)
theorem ok_l_places{f:Addr}{fd:FuncData}(F:Fun K "_law_places" "_law_places" s_l_places f fd)(T:Txt K mg xCastError xNoRule xNoNumber xStock xRule xRanked xOldest xFirst xHalving xFarthest xHand xRows xDues xmake_oldest xmake_first xmake_halving xmake_farthest xmake_hand xmake_rows xmake_dues xMAKERS):FnOk P w K mg base (CXF P w) 1 f fd ["_law_cell","_law_widest","_law_total"] (sp41_lplaces):=by
  have sc:FnScope ["_law_cell","_law_widest","_law_total"] ["_law_cell","_law_widest","_law_total"] (defScope s_l_places):=⟨rfl,rfl,rfl,by decide+kernel,rfl,by decide+kernel,by decide+kernel⟩
  refine F.okF sc (fun vs H Q E h=>?_) (fun cdv A outer s H vs Q E hr h=>?_)
  · obtain ⟨c,w,t,rfl,hw1,hw2,ht0,ht1,q⟩:=h;rfl
  obtain ⟨c,w,t,rfl,hw1,hw2,ht0,ht1,q⟩:=h
  refine ⟨_,(@pss_cons _ _ _ _ _ (ps_if (pt_cmpR op_eq (pe_op op_mod (pv 0) pe_int) pe_int (nomark _))
      (@pss_one _ _ _ (@ps_ret _ _ _ _ (pv 1)))
      pss_nil)
    (@pss_cons _ _ _ _ _ (ps_if (pt_cmpR op_eq (pe_op op_mod (pv 0) pe_int) pe_int (nomark _))
      (@pss_one _ _ _ (@ps_ret _ _ _ _ (pe_op op_pow pe_int pe_int)))
      pss_nil)
    (@pss_cons _ _ _ _ _ (ps_if (pt_cmpR op_eq (pe_op op_mod (pv 0) pe_int) pe_int (nomark _))
      (@pss_one _ _ _ (@ps_ret _ _ _ _ (pe_op op_add (pv 1) (pe_op op_mod (pe_op op_fdiv (pv 0) pe_int) (pe_op op_add (pv 2) pe_int)))))
      pss_nil)
    (@pss_one _ _ _ (@ps_ret _ _ _ _ (pe_op op_add (pv 1) (pe_op op_mod (pe_op op_fdiv (pv 0) pe_int) pe_int))))))),?_⟩
  rw [show start ["_law_cell","_law_widest","_law_total"] [V.int c,V.int w,V.int t]=[some (V.int c),some (V.int w),some (V.int t)] from rfl]
  have line:=line_val
  have hb0:=Int.emod_nonneg (c / 6) (show (t+1:Int)≠0 by omega)
  have hb1:=Int.emod_lt_of_pos (c / 6) (show (0:Int) < t+1 by omega)
  walk_at "go"
  by_cases h:c % 6=0
  · rw [if_pos h];exact q _ (by omega) (by omega)
  rw [if_neg h]
  rename_i r hr'
  subst hr'
  walk_at "go"
  by_cases h:c % 6=1
  · rw [if_pos h]
    have e6:(10:Int) ^ 6=1000000:=by decide
    exact ⟨cpow_of (by omega) (by omega) (by decide),q _ (by rw [e6];omega) (by decide)⟩
  rw [if_neg h]
  rename_i r hr'
  subst hr'
  walk_at "go"
  by_cases h:c % 6=2
  · rw [if_pos h]
    refine ⟨cdiv_of (by omega) (by omega),by omega,q _ (by omega) (by omega)⟩
  rw [if_neg h]
  rename_i r hr'
  subst hr'
  walk_at "go"
  exact q _ (by omega) (by omega)
theorem ok_l_kinds{f:Addr}{fd:FuncData}(F:Fun K "_law_kinds" "_law_kinds" s_l_kinds f fd)(T:Txt K mg xCastError xNoRule xNoNumber xStock xRule xRanked xOldest xFirst xHalving xFarthest xHand xRows xDues xmake_oldest xmake_first xmake_halving xmake_farthest xmake_hand xmake_rows xmake_dues xMAKERS):FnOk P w K mg base (CXF P w) 1 f fd ["_law_rule"] (sp61_kinds (A7.mk xOldest xFirst xHalving xFarthest xHand xRows xDues)):=by
  have sc:FnScope ["_law_rule","_law_found"] ["_law_rule"] (defScope s_l_kinds):=⟨rfl,rfl,rfl,by decide+kernel,rfl,by decide+kernel,by decide+kernel⟩
  refine F.okF sc (fun vs H Q E h=>?_) (fun cdv A outer s H vs Q E hr h=>?_)
  · obtain ⟨w7,q',dx,fs,rfl,hq,q⟩:=h;rfl
  obtain ⟨w7,q',dx,fs,rfl,hq,q⟩:=h
  refine ⟨_,(@pss_cons _ _ _ _ _ (ps_set (i:=1) sc.nd rfl (Or.inl rfl) (@pe_lst _ _ _ _ (pa_cons (pe_callB call_isiB rfl T.z_isinstance (by first | rfl | decide+kernel) (pa_cons (pv 0) (pa_cons (pe_glob (v:= .ref xOldest) rfl T.c_Oldest rfl) pa_nil))) (pa_cons (pe_callB call_isiB rfl T.z_isinstance (by first | rfl | decide+kernel) (pa_cons (pv 0) (pa_cons (pe_glob (v:= .ref xFirst) rfl T.c_First rfl) pa_nil))) (pa_cons (pe_callB call_isiB rfl T.z_isinstance (by first | rfl | decide+kernel) (pa_cons (pv 0) (pa_cons (pe_glob (v:= .ref xHalving) rfl T.c_Halving rfl) pa_nil))) pa_nil)))))
    (@pss_cons _ _ _ _ _ (ps_set (i:=1) sc.nd rfl (Or.inl rfl) (pe_op op_cat (pv 1) (@pe_lst _ _ _ _ (pa_cons (pe_callB call_isiB rfl T.z_isinstance (by first | rfl | decide+kernel) (pa_cons (pv 0) (pa_cons (pe_glob (v:= .ref xFarthest) rfl T.c_Farthest rfl) pa_nil))) (pa_cons (pe_callB call_isiB rfl T.z_isinstance (by first | rfl | decide+kernel) (pa_cons (pv 0) (pa_cons (pe_glob (v:= .ref xHand) rfl T.c_Hand rfl) pa_nil))) (pa_cons (pe_callB call_isiB rfl T.z_isinstance (by first | rfl | decide+kernel) (pa_cons (pv 0) (pa_cons (pe_glob (v:= .ref xRows) rfl T.c_Rows rfl) pa_nil))) pa_nil))))))
    (@pss_one _ _ _ (@ps_ret _ _ _ _ (pe_op op_cat (pv 1) (@pe_lst _ _ _ _ (pa_cons (pe_callB call_isiB rfl T.z_isinstance (by first | rfl | decide+kernel) (pa_cons (pv 0) (pa_cons (pe_glob (v:= .ref xDues) rfl T.c_Dues rfl) pa_nil))) pa_nil))))))),?_⟩
  rw [show start ["_law_rule","_law_found"] [V.ref q']=[some (V.ref q'),none] from rfl]
  have line:=line_val
  have hc:Cls K ((A7.mk xOldest xFirst xHalving xFarthest xHand xRows xDues).at w7)∧ClsA K ((A7.mk xOldest xFirst xHalving xFarthest xHand xRows xDues).at w7):=by cases w7;exact ⟨T.cl_Oldest,T.ia_Oldest⟩;exact ⟨T.cl_First,T.ia_First⟩;exact ⟨T.cl_Halving,T.ia_Halving⟩;exact ⟨T.cl_Farthest,T.ia_Farthest⟩;exact ⟨T.cl_Hand,T.ia_Hand⟩;exact ⟨T.cl_Rows,T.ia_Rows⟩;exact ⟨T.cl_Dues,T.ia_Dues⟩
  have hi:PySem.W.kitOne K (.ref ((A7.mk xOldest xFirst xHalving xFarthest xHand xRows xDues).at w7)) (.ref xOldest)=some (decide (W7.ol=w7))∧PySem.W.kitOne K (.ref ((A7.mk xOldest xFirst xHalving xFarthest xHand xRows xDues).at w7)) (.ref xFirst)=some (decide (W7.fi=w7))∧PySem.W.kitOne K (.ref ((A7.mk xOldest xFirst xHalving xFarthest xHand xRows xDues).at w7)) (.ref xHalving)=some (decide (W7.ha=w7))∧PySem.W.kitOne K (.ref ((A7.mk xOldest xFirst xHalving xFarthest xHand xRows xDues).at w7)) (.ref xFarthest)=some (decide (W7.fa=w7))∧PySem.W.kitOne K (.ref ((A7.mk xOldest xFirst xHalving xFarthest xHand xRows xDues).at w7)) (.ref xHand)=some (decide (W7.hn=w7))∧PySem.W.kitOne K (.ref ((A7.mk xOldest xFirst xHalving xFarthest xHand xRows xDues).at w7)) (.ref xRows)=some (decide (W7.rw=w7))∧PySem.W.kitOne K (.ref ((A7.mk xOldest xFirst xHalving xFarthest xHand xRows xDues).at w7)) (.ref xDues)=some (decide (W7.du=w7)):=by cases w7;exact ⟨T.i_Oldest_Oldest,T.i_Oldest_First,T.i_Oldest_Halving,T.i_Oldest_Farthest,T.i_Oldest_Hand,T.i_Oldest_Rows,T.i_Oldest_Dues⟩;exact ⟨T.i_First_Oldest,T.i_First_First,T.i_First_Halving,T.i_First_Farthest,T.i_First_Hand,T.i_First_Rows,T.i_First_Dues⟩;exact ⟨T.i_Halving_Oldest,T.i_Halving_First,T.i_Halving_Halving,T.i_Halving_Farthest,T.i_Halving_Hand,T.i_Halving_Rows,T.i_Halving_Dues⟩;exact ⟨T.i_Farthest_Oldest,T.i_Farthest_First,T.i_Farthest_Halving,T.i_Farthest_Farthest,T.i_Farthest_Hand,T.i_Farthest_Rows,T.i_Farthest_Dues⟩;exact ⟨T.i_Hand_Oldest,T.i_Hand_First,T.i_Hand_Halving,T.i_Hand_Farthest,T.i_Hand_Hand,T.i_Hand_Rows,T.i_Hand_Dues⟩;exact ⟨T.i_Rows_Oldest,T.i_Rows_First,T.i_Rows_Halving,T.i_Rows_Farthest,T.i_Rows_Hand,T.i_Rows_Rows,T.i_Rows_Dues⟩;exact ⟨T.i_Dues_Oldest,T.i_Dues_First,T.i_Dues_Halving,T.i_Dues_Farthest,T.i_Dues_Hand,T.i_Dues_Rows,T.i_Dues_Dues⟩
  obtain ⟨i1,i2,i3,i4,i5,i6,i7⟩:=hi
  walk_at "go"
  refine ⟨_,_,_,hq,hc.1,hc.2,_,i1,_,_,_,hq,hc.1,hc.2,_,i2,_,_,_,hq,hc.1,hc.2,_,i3,by omega,fun l1 hl1=>?_⟩
  have s1:Same H (upd H l1 (.lst [V.bl (decide (W7.ol=w7)),V.bl (decide (W7.fi=w7)),V.bl (decide (W7.ha=w7))])):=Same.new hl1
  have e1:upd H l1 (.lst [V.bl (decide (W7.ol=w7)),V.bl (decide (W7.fi=w7)),V.bl (decide (W7.ha=w7))]) l1=some (.lst [V.bl (decide (W7.ol=w7)),V.bl (decide (W7.fi=w7)),V.bl (decide (W7.ha=w7))]):=upd_same
  generalize upd H l1 (.lst [V.bl (decide (W7.ol=w7)),V.bl (decide (W7.fi=w7)),V.bl (decide (W7.ha=w7))])=H1 at s1 e1 ⊢
  have hq1:=s1 _ _ hq
  rename_i rest hrest
  subst hrest
  walk_at "go"
  refine ⟨_,_,_,hq1,hc.1,hc.2,_,i4,_,_,_,hq1,hc.1,hc.2,_,i5,_,_,_,hq1,hc.1,hc.2,_,i6,by omega,fun m1 hm1=>?_⟩
  have t1:Same H1 (upd H1 m1 (.lst [V.bl (decide (W7.fa=w7)),V.bl (decide (W7.hn=w7)),V.bl (decide (W7.rw=w7))])):=Same.new hm1
  refine ⟨l1,m1,_,_,rfl,rfl,t1 _ _ e1,upd_same,by simp;omega,fun l2 hl2=>?_⟩
  simp only [List.cons_append,List.nil_append]
  have s2:Same H (upd (upd H1 m1 (.lst [V.bl (decide (W7.fa=w7)),V.bl (decide (W7.hn=w7)),V.bl (decide (W7.rw=w7))])) l2 (.lst [V.bl (decide (W7.ol=w7)),V.bl (decide (W7.fi=w7)),V.bl (decide (W7.ha=w7)),V.bl (decide (W7.fa=w7)),V.bl (decide (W7.hn=w7)),V.bl (decide (W7.rw=w7))])):=(s1.trans t1).trans (Same.new hl2)
  have e2:upd (upd H1 m1 (.lst [V.bl (decide (W7.fa=w7)),V.bl (decide (W7.hn=w7)),V.bl (decide (W7.rw=w7))])) l2 (.lst [V.bl (decide (W7.ol=w7)),V.bl (decide (W7.fi=w7)),V.bl (decide (W7.ha=w7)),V.bl (decide (W7.fa=w7)),V.bl (decide (W7.hn=w7)),V.bl (decide (W7.rw=w7))]) l2=some (.lst [V.bl (decide (W7.ol=w7)),V.bl (decide (W7.fi=w7)),V.bl (decide (W7.ha=w7)),V.bl (decide (W7.fa=w7)),V.bl (decide (W7.hn=w7)),V.bl (decide (W7.rw=w7))]):=upd_same
  generalize upd (upd H1 m1 (.lst [V.bl (decide (W7.fa=w7)),V.bl (decide (W7.hn=w7)),V.bl (decide (W7.rw=w7))])) l2 (.lst [V.bl (decide (W7.ol=w7)),V.bl (decide (W7.fi=w7)),V.bl (decide (W7.ha=w7)),V.bl (decide (W7.fa=w7)),V.bl (decide (W7.hn=w7)),V.bl (decide (W7.rw=w7))])=H2 at s2 e2 ⊢
  have hq2:=s2 _ _ hq
  rename_i rest hrest
  subst hrest
  walk_at "go"
  refine ⟨_,_,_,hq2,hc.1,hc.2,_,i7,by omega,fun m2 hm2=>?_⟩
  have t2:Same H2 (upd H2 m2 (.lst [V.bl (decide (W7.du=w7))])):=Same.new hm2
  refine ⟨l2,m2,_,_,rfl,rfl,t2 _ _ e2,upd_same,by simp;omega,fun l3 hl3=>?_⟩
  have s3:=(s2.trans t2).trans (Same.new (o:= .lst [V.bl (decide (W7.ol=w7)),V.bl (decide (W7.fi=w7)),V.bl (decide (W7.ha=w7)),V.bl (decide (W7.fa=w7)),V.bl (decide (W7.hn=w7)),V.bl (decide (W7.rw=w7)),V.bl (decide (W7.du=w7))]) hl3)
  exact q l3 _ s3 (by
    cases e:H l3 with
    | none=>rfl
    | some o=>rw [(s2.trans t2) _ _ e]at hl3;cases hl3) upd_same
theorem ok_l_halving_good{f:Addr}{fd:FuncData}(F:Fun K "_law_halving_good" "_law_halving_good" s_l_halving_good f fd)(T:Txt K mg xCastError xNoRule xNoNumber xStock xRule xRanked xOldest xFirst xHalving xFarthest xHand xRows xDues xmake_oldest xmake_first xmake_halving xmake_farthest xmake_hand xmake_rows xmake_dues xMAKERS)(D_Halving_asked:DefM P w K mg base (CXF P w) 3 xHalving "asked" ["self","name"] (spR_asked (T4 xHalving)))(D_Halving_came:DefM P w K mg base (CXF P w) 1 xHalving "came" ["self","name"] (spR_came (T4 xHalving)))(D_Halving_counts:DefM P w K mg base (CXF P w) 1 xHalving "counts" ["self"] (sp23_counts xHalving)):FnOk P w K mg base (CXF P w) 5 f fd ["_law_rule","_law_other","_law_name"] (sp61_halving xHalving):=by
  have sc:FnScope ["_law_rule","_law_other","_law_name","_law_k"] ["_law_rule","_law_other","_law_name"] (defScope s_l_halving_good):=⟨rfl,rfl,rfl,by decide+kernel,rfl,by decide+kernel,by decide+kernel⟩
  refine F.okF sc (fun vs H Q E h=>?_) (fun cdv A outer s H vs Q E hr h=>?_)
  · obtain ⟨q1,q2,p1,p2,n1,n2,M1,M2,z,rfl,g1,g2,dj,q⟩:=h;rfl
  obtain ⟨q1,q2,p1,p2,n1,n2,M1,M2,z,rfl,g1,g2,dj,q⟩:=h
  refine ⟨_,(@pss_cons _ _ _ _ _ (ps_for own_outF rfl (pi_range1 rfl T.z_range (pa_cons pe_int pa_nil)) (pg_name (i:=3) sc.nd rfl (Or.inl rfl))
      (@pss_cons _ _ _ _ _ (ps_expr (pe_methS D_Halving_asked T.cl_Halving hr (passS pass_onF) (pv 0) (pa_cons (pv 2) pa_nil)))
      (@pss_one _ _ _ (ps_if (pt_cmpR op_eq (pv 3) pe_int (nomark _))
        (@pss_one _ _ _ (ps_expr (pe_methS D_Halving_came T.cl_Halving hr (passS pass_onF) (pv 0) (pa_cons (pv 2) pa_nil))))
        pss_nil))))
    (@pss_one _ _ _ (@ps_ret _ _ _ _ (pe_and (pe_cmpR (op_eqDD hr) (pe_methS0 D_Halving_counts T.cl_Halving hr (passS pass_onF) (pv 0)) (@pe_disp _ _ _ _ _ (@pps_cons _ _ _ _ _ _ _ _ _ (pv 2) pe_int pps_nil) rfl rfl (by simp) (by decide)) (nomark _)) (pe_one (pe_cmpR (op_eqD hr) (pe_methS0 D_Halving_counts T.cl_Halving hr (passS pass_onF) (pv 1)) pe_dnewK (nomark _))))))),?_⟩
  rw [show start ["_law_rule","_law_other","_law_name","_law_k"] [V.ref q1,V.ref q2,V.str z]=[some (V.ref q1),some (V.ref q2),some (V.str z),none] from rfl]
  have line:=line_val
  walk_at "go"
  rename_i rest hrest
  refine forR_by (fun k σ H'=>∃v3:Option V,σ=[some (V.ref q1),some (V.ref q2),some (V.str z),v3]∧Kp M1 H H'∧GAt xHalving H' M1 q1 p1 n1 (h61 z k)) ⟨none,rfl,.of (Same.refl H),g1⟩ ?_ ?_
  · rintro k σ H' hk ⟨v3,rfl,kp,hg⟩
    obtain ⟨la,ta,hM,⟨dx,ho⟩,hla,hta,hne⟩:=id hg
    clear hM
    cases k with
    | zero=>
      walk_at "go"
      have i0:(T4 xHalving).inv [z] n1 (h61 z 0) []:=inv40 (by decide) (by decide)
      refine ⟨dx,_,ho,by rfl,p1,n1,M1,h61 z 0,hg,[],[z],i0,by simp,by simp,fun H2 kp2 hg2=>?_⟩
      have m0:(T4 xHalving).mid [z] n1 z (h61 z 1) []:=(T4 xHalving).i_mid i0 (by simp) (by simp)
      rename_i rest2 hrest2
      subst hrest2
      obtain ⟨la2,ta2,hM2,⟨dx2,ho2⟩,_⟩:=id hg2
      clear hM2
      walk_at "go"
      refine ⟨dx2,_,ho2,by rfl,p1,n1,M1,h61 z 1,hg2,[],[z],m0,by simp,by simp,by simp,fun H3 kp3 hg3=>?_⟩
      exact ⟨(kp.trans kp2).trans kp3,hg3⟩
    | succ k=>
      walk_at "go"
      refine ⟨dx,_,ho,by rfl,p1,n1,M1,h61 z (k+1),hg,[z],[z],h61_inv (by simp) k,by simp,by simp,fun H2 kp2 hg2=>?_⟩
      rename_i rest2 hrest2
      subst hrest2
      walk_at "go"
      rw [if_neg (by omega)]
      exact ⟨kp.trans kp2,hg2⟩
  · rintro σ H' ⟨v3,rfl,kp,hg⟩
    subst hrest
    obtain ⟨la,ta,hM,⟨dx,ho⟩,hla,hta,hne⟩:=id hg
    clear hM
    walk_at "go"
    have ht9:(h61 z 9).ta=[(Sum.inr z,.int 5)]:=h61_9
    refine ⟨dx,_,ho,by rfl,p1,n1,M1,h61 z 9,hg,fun r hr0=>?_⟩
    rw [ht9]
    walk_at "go"
    intro p hp
    have nrp:p≠r:=fun e=>by rw [e,upd_same]at hp;cases hp
    have hp0:H' p=none:=by rw [upd_ne nrp]at hp;exact hp
    have sA:Same H' (upd (upd H' r (.dK [((Sum.inr z:Key),V.int 5)])) p (.dK (mergeK [] [((Sum.inr z:Key),V.int 5)]))):=fun b o e=>by rw [upd_ne (ne_of_none e hp0),upd_ne (ne_of_none e hr0)];exact e
    have gA:GAt xHalving H' M2 q2 p2 n2 (s40 8):=(T4 xHalving).dep (fun m hm o e=>kp m o (fun h=>dj m h hm) e) g2
    have gB:GAt xHalving (upd (upd H' r (.dK [((Sum.inr z:Key),V.int 5)])) p (.dK (mergeK [] [((Sum.inr z:Key),V.int 5)]))) M2 q2 p2 n2 (s40 8):=(T4 xHalving).dep (fun m _ o e=>sA m o e) gA
    obtain ⟨_,_,hM3,⟨dx3,ho3⟩,_⟩:=id gB
    clear hM3
    refine ⟨upd_same,[(Sum.inr z,V.int 5)],rfl,by show 1≤15;decide,[(Sum.inr z,V.int 5)],by rw [upd_ne nrp.symm,upd_same],by rw [upd_same];rfl,by simp [flatV],dx3,_,ho3,by rfl,p2,n2,M2,s40 8,gB,fun r1 hr1 l1 hl1=>?_⟩
    have n5:l1≠r1:=fun e=>by rw [e,upd_same]at hl1;cases hl1
    refine ⟨r1,l1,[],rfl,rfl,by rw [upd_ne n5.symm,upd_same];rfl,upd_same,?_⟩
    exact q _ (kp.trans (Kp.of ((sA.trans (Same.new hr1)).trans (Same.new hl1))))
theorem ok_l_farthest_good{f:Addr}{fd:FuncData}(F:Fun K "_law_farthest_good" "_law_farthest_good" s_l_farthest_good f fd)(T:Txt K mg xCastError xNoRule xNoNumber xStock xRule xRanked xOldest xFirst xHalving xFarthest xHand xRows xDues xmake_oldest xmake_first xmake_halving xmake_farthest xmake_hand xmake_rows xmake_dues xMAKERS)(D_Farthest_asked:DefM P w K mg base (CXF P w) 3 xFarthest "asked" ["self","name"] (spR_asked3 xFarthest))(D_Farthest_came:DefM P w K mg base (CXF P w) 1 xFarthest "came" ["self","name"] (spR_came3 xFarthest))(D_Farthest_rank:DefM P w K mg base (CXF P w) 2 xFarthest "rank" ["self","name"] (sp61_rank xFarthest)):FnOk P w K mg base (CXF P w) 5 f fd ["_law_rule","_law_asks","_law_names_here"] (sp61_farthest K xFarthest):=by
  have sc:FnScope ["_law_rule","_law_asks","_law_names_here","_law_name","_law_later","_law_coming"] ["_law_rule","_law_asks","_law_names_here"] (defScope s_l_farthest_good):=⟨rfl,rfl,rfl,by decide+kernel,rfl,by decide+kernel,by decide+kernel⟩
  refine F.okF sc (fun vs H Q E h=>?_) (fun cdv A outer s H vs Q E hr h=>?_)
  · obtain ⟨q',p,a,l,n,M,ys,ns,rfl,g,ha,hl,nam,nlm,hin,hly,hln,q⟩:=h;rfl
  obtain ⟨q',p,a,l,n,M,ys,ns,rfl,g,ha,hl,nam,nlm,hin,hly,hln,q⟩:=h
  refine ⟨_,(@pss_cons _ _ _ _ _ (ps_if (pt_cmpR (op_eqQ hr) (pv 1) (@pe_lst _ _ _ _ pa_nil) (nomark _))
      (@pss_one _ _ _ (@ps_ret _ _ _ _ pe_bl))
      pss_nil)
    (@pss_cons _ _ _ _ _ (ps_expr (pe_methS D_Farthest_asked T.cl_Farthest hr (passS pass_onF) (pv 0) (pa_cons (@pe_ix _ _ _ _ _ _ _ ix_list (pv 1) pe_int (fun _ _=>rfl)) pa_nil)))
    (@pss_cons _ _ _ _ _ (ps_expr (pe_methS D_Farthest_came T.cl_Farthest hr (passS pass_onF) (pv 0) (pa_cons (@pe_ix _ _ _ _ _ _ _ ix_list (pv 1) pe_int (fun _ _=>rfl)) pa_nil)))
    (@pss_cons _ _ _ _ _ (ps_for own_outF rfl (pi_list (pv 2)) (pg_name (i:=3) sc.nd rfl (Or.inr rfl))
      (@pss_cons _ _ _ _ _ (ps_compI (i:=4) "_law_k" [3,1] sc.nd rfl rfl rfl rfl (pi_range2 rfl T.z_range (pa_cons pe_int (pa_cons (pe_callB call_len_seq rfl T.z_len PySem.boot_len (pa_cons (pv 1) pa_nil)) pa_nil))) (fun b=>(pt_cmpR op_eq (@pe_ix _ _ _ _ _ _ _ ix_list (pv 2) (pv 0) (fun _ _=>rfl)) (pv 1) (nomark _))) (fun b=>(pe_op op_add (pv 0) pe_int)))
      (@pss_cons _ _ _ _ _ (ps_set (i:=5) sc.nd rfl (Or.inl rfl) (pe_minD hr rfl T.z_min (by first | rfl | decide+kernel) (pa_cons (pv 4) pa_nil) (pe_op op_add (pe_callB call_len_seq rfl T.z_len PySem.boot_len (pa_cons (pv 1) pa_nil)) pe_int)))
      (@pss_one _ _ _ (ps_if (pt_cmpR (op_neQ hr) (pe_methS D_Farthest_rank T.cl_Farthest hr (passS pass_onF) (pv 0) (pa_cons (pv 3) pa_nil)) (pe_tup (pa_cons (pe_op op_sub pe_int (pv 5)) (pa_cons (pe_callTy call_int1 rfl T.z_int (by first | rfl | decide+kernel) (pa_cons (pe_cmpR op_eq (pv 3) (@pe_ix _ _ _ _ _ _ _ ix_list (pv 1) pe_int (fun _ _=>rfl)) (nomark _)) pa_nil)) pa_nil))) (nomark _))
        (@pss_one _ _ _ (@ps_ret _ _ _ _ pe_bl))
        pss_nil)))))
    (@pss_one _ _ _ (@ps_ret _ _ _ _ pe_bl)))))),?_⟩
  rw [show start ["_law_rule","_law_asks","_law_names_here","_law_name","_law_later","_law_coming"] [V.ref q',V.ref a,V.ref l]=[some (V.ref q'),some (V.ref a),some (V.ref l),none,none,none] from rfl]
  have line:=line_val
  walk_at "go"
  rename_i rest hrest
  intro p0 hp0
  have s0:Same H (upd H p0 (.lst [])):=Same.new hp0
  have e0:EqQ K (upd H p0 (.lst [])) (V.ref a) (V.ref p0) (decide (ys=[])):=eqQ_strs (SqL.of (s0 _ _ ha)) (SqL.of (xs:=([]:List Str).map V.str) upd_same)
  refine ⟨_,e0,?_⟩
  by_cases hy:ys=[]
  · rw [if_pos (decide_eq_true hy)]
    exact q _ (.of s0)
  rw [if_neg (by simpa using hy)]
  generalize upd H p0 (.lst [])=H0 at s0 ⊢
  clear e0
  replace g:QAt xFarthest ys H0 M q' p n s20:=(T3 xFarthest ys).dep (fun m _ o e=>s0 m o e) g
  have ha0:=s0 _ _ ha
  have hl0:=s0 _ _ hl
  obtain ⟨y0,r,rfl⟩:=List.exists_cons_of_ne_nil hy
  subst hrest
  obtain ⟨la,ak,hM,⟨dx,ho⟩,hla,hak⟩:=id g
  clear hM
  walk_at "go"
  have i0:(T3 xFarthest (y0::r)).inv ns n s20 []:=⟨⟨KeysIn.nil,by simp,List.Pairwise.nil⟩,by decide⟩
  have hy0:y0∈ns:=hin y0 (by simp)
  refine ⟨dx,_,ho,by rfl,ixL_of (SqL.of ha0) (v:=V.str y0) (atI_nat (j:=0) rfl) ⟨y0::r,p,n,M,s20,[],ns,y0,rfl,g,i0,hy0,by omega,fun H1 kp1 g1=>?_⟩⟩
  have m0:(T3 xFarthest (y0::r)).mid ns n y0 (ask2 s20 y0) []:=(T3 xFarthest (y0::r)).i_mid i0 hy0 (by simp)
  have ha1:=kp1 _ _ nam ha0
  have hl1:=kp1 _ _ nlm hl0
  clear ho hla hak
  rename_i rest2 hrest2
  subst hrest2
  obtain ⟨la1,ak1,hM1,⟨dx1,ho1⟩,hla1,hak1⟩:=id g1
  clear hM1
  walk_at "go"
  refine ⟨dx1,_,ho1,by rfl,ixL_of (SqL.of ha1) (v:=V.str y0) (atI_nat (j:=0) rfl) ⟨y0::r,p,n,M,ask2 s20 y0,[],ns,y0,rfl,g1,m0,hy0,by simp,by omega,fun H2 kp2 g2=>?_⟩⟩
  have ha2:=kp2 _ _ nam ha1
  have hl2:=kp2 _ _ nlm hl1
  clear ho1 hla1 hak1
  rename_i rest3 hrest3
  subst hrest3
  walk_at "go"
  rename_i rest4 hrest4
  refine ⟨⟨_,SqL.of hl2⟩,forL_by (xs:=ns.map V.str) (fun i σ H'=>∃(v3 v4 v5:Option V),σ=[some (V.ref q'),some (V.ref a),some (V.ref l),v3,v4,v5]∧Same H2 H') ⟨none,none,none,rfl,Same.refl H2⟩ (fun i σ H' _ h_=>by obtain ⟨_,_,_,_,sm⟩:=h_;exact SqL.of (sm _ _ hl2)) ?_ ?_⟩
  · clear hrest4
    rintro i v σ H' hv ⟨v3,v4,v5,rfl,sm⟩
    obtain ⟨z,hz,rfl⟩:∃z,z∈ns∧v=V.str z:=by
      rw [List.getElem?_map]at hv
      cases k:ns[i]? with
      | none=>rw [k]at hv;cases hv
      | some z=>rw [k]at hv;cases hv;exact ⟨z,List.mem_of_getElem? k,rfl⟩
    walk_at "go"
    have haH:=sm _ _ ha2
    refine ⟨_,.inl (SqL.of haH),by decide,by decide,by omega,by rw [List.length_map];omega,?_⟩
    rw [List.length_map,show ((((y0::r).length:Nat):Int) - 1).toNat=(y0::r).length - 1 by omega]
    refine compR_ifc (fun i=>decide ((y0::r)[1+i]?=some z)) (fun i=>V.int ((i:Int)+2)) (by omega) (fun b i H5 QT hi sm5 qt=>?_) (fun b i H5 Q' hi hp sm5 qt=>?_) (fun D H5 hD sm5 hD5=>?_)
    · walk_at "go"
      have hlt:1+i < (y0::r).length:=by omega
      obtain ⟨y,hy⟩:∃y,(y0::r)[1+i]?=some y:=⟨_,List.getElem?_eq_getElem hlt⟩
      rw [show (1+(i:Int))=((1+i:Nat):Int) by omega]
      refine ixL_of (SqL.of (sm5 _ _ haH)) (v:=V.str y) (atI_nat (j:=1+i) (by rw [List.getElem?_map,hy];rfl)) ⟨rfl,?_⟩
      have:=qt H5 (Same.refl _)
      rw [hy]at this
      rw [show decide (V.str y=V.str z)=decide (some y=some z) by simp]
      exact this
    · walk_at "go"
      have:=qt H5 (Same.refl _)
      rw [show (i:Int)+2=1+i+1 by omega]at this
      exact this
    · rename_i rest5 hrest5
      subst hrest5
      have hD':H5 D=some (.lst ((ltr (y0::r) z).map V.int)):=by
        rw [hD5];unfold ltr;rw [List.map_map];rfl
      walk_at "go"
      rename_i rest6 hrest6
      suffices key:rest6 [some (V.ref q'),some (V.ref a),some (V.ref l),some (V.str z),some (V.ref D),some (V.int ((nx (y0::r) 1 z:Int)+1))] H5 by
        refine ⟨_,.inl (SqL.of (sm5 _ _ haH)),ltr (y0::r) z,SqL.of hD',fun e=>?_,fun m hm hmin=>?_⟩
        · rw [ltr_nil e]at key
          rw [List.length_map];exact key
        · rw [ltr_min hm hmin];exact key
      subst hrest6
      have g5:QAt xFarthest (y0::r) H5 M q' p n (ask2 s20 y0):=(T3 xFarthest (y0::r)).dep (fun m _ o e=>(sm.trans sm5) m o e) g2
      obtain ⟨la5,ak5,hM5,⟨dx5,ho5⟩,_,_⟩:=id g5
      clear hM5
      have hv5:∀v,valV (ask2 s20 y0).la (Sum.inr z)=some v→∃i:Int,v=V.int i:=fun v e=>by
        by_cases hz0:z=y0
        · rw [hz0,ask_new]at e;cases e;exact ⟨_,rfl⟩
        · rw [ask_old hz0]at e;cases e
      have hlv:lv (ask2 s20 y0) z=(if V.str z=V.str y0 then 1 else 0):=by
        by_cases hz0:z=y0
        · rw [hz0,lv_new,if_pos rfl];rfl
        · rw [lv_old hz0,if_neg (fun e=>hz0 (by cases e;rfl))];rfl
      walk_at "go"
      refine ⟨dx5,_,ho5,by rfl,p,n,M,ask2 s20 y0,y0::r,g5,(show (0:Int)≤0+1 by decide),(show (0:Int)+1≤1000000 by decide),by omega,hv5,fun t ht=>?_⟩
      have st:Same H5 (upd H5 t (.tup ((rkF (y0::r) (ask2 s20 y0) z).map V.int))):=Same.new ht
      have et:upd H5 t (.tup ((rkF (y0::r) (ask2 s20 y0) z).map V.int)) t=some (.tup [V.int (0 - ((nx (y0::r) 1 z:Int)+1)),V.int (lv (ask2 s20 y0) z)]):=upd_same
      rw [hlv]at et
      generalize upd H5 t (.tup ((rkF (y0::r) (ask2 s20 y0) z).map V.int))=H6 at st et ⊢
      refine ixL_of (SqL.of (st _ _ (sm5 _ _ haH))) (v:=V.str y0) (atI_nat (j:=0) rfl) ?_
      refine ⟨rfl,by omega,fun p5 hp5=>?_⟩
      refine ⟨true,⟨t,p5,_,_,rfl,rfl,.inr ⟨SqT.of (by rw [upd_ne (ne_of_none et hp5)];exact et),SqT.of upd_same⟩,rfl,rfl,(flatEq_self (by rfl)).symm⟩,?_⟩
      rw [if_neg (by decide)]
      exact ((sm.trans sm5).trans st).trans (Same.new hp5)
  · rintro σ H' ⟨v3,v4,v5,rfl,sm⟩
    subst hrest4
    walk_at "go"
    exact q _ ((Kp.of s0).trans ((kp1.trans kp2).trans (Kp.of sm)))
theorem ok_l_refused{f:Addr}{fd:FuncData}(F:Fun K "_law_refused" "_law_refused" s_l_refused f fd)(T:Txt K mg xCastError xNoRule xNoNumber xStock xRule xRanked xOldest xFirst xHalving xFarthest xHand xRows xDues xmake_oldest xmake_first xmake_halving xmake_farthest xmake_hand xmake_rows xmake_dues xMAKERS)(D_maker_of:Def P w K mg base (CXF P w) 2 "maker_of" ["word"] (sp61_maker (A7.mk xmake_oldest xmake_first xmake_halving xmake_farthest xmake_hand xmake_rows xmake_dues) xNoRule)):FnOk P w K mg base (CXF P w) 4 f fd ["_law_thing"] (sp61_refused):=by
  have sc:FnScope ["_law_thing","_law_told","e"] ["_law_thing"] (defScope s_l_refused):=⟨rfl,rfl,rfl,by decide+kernel,rfl,by decide+kernel,by decide+kernel⟩
  refine F.okF sc (fun vs H Q E h=>?_) (fun cdv A outer s H vs Q E hr h=>?_)
  · obtain ⟨v,rfl,hv,q⟩:=h;rfl
  obtain ⟨v,rfl,hv,q⟩:=h
  refine ⟨_,(@pss_cons _ _ _ _ _ (ps_set (i:=1) sc.nd rfl (Or.inl rfl) pe_bl)
    (@pss_cons _ _ _ _ _ (ps_tryF rfl rfl (fun t hp=>(@pss_one _ _ _ (ps_expr (pe_callE D_maker_of hr rfl hp (pa_cons (pv 0) pa_nil)))))
      (ph_asF (i:=2) rfl sc.nd rfl rfl rfl T.c_CastError (fun x=>(@pss_one _ _ _ (ps_set (i:=1) sc.nd rfl (Or.inl rfl) (pe_and (pe_callB call_isiX rfl T.z_isinstance (by first | rfl | decide+kernel) (pa_cons (pv 2) (pa_cons (pe_glob (v:= .ref xNoRule) rfl T.c_NoRule rfl) pa_nil))) (pe_and (pe_not (pe_callB call_isiX rfl T.z_isinstance (by first | rfl | decide+kernel) (pa_cons (pv 2) (pa_cons (pe_glob (v:= .ref xNoNumber) rfl T.c_NoNumber rfl) pa_nil)))) (pe_one (pe_callB call_isiX rfl T.z_isinstance (by first | rfl | decide+kernel) (pa_cons (pv 2) (pa_cons (pe_bltn (v:= .ty "ValueError") rfl T.z_ValueError (by first | rfl | decide+kernel) rfl) pa_nil))))))))) ph_nilF))
    (@pss_one _ _ _ (@ps_ret _ _ _ _ (pv 1))))),?_⟩
  rw [show start ["_law_thing","_law_told","e"] [v]=[some (v),none,none] from rfl]
  have line:=line_val
  walk_at "go"
  refine .inr ⟨hv,fun H' e sm he her=>⟨_,T.m_NoRule_CastError,?_⟩⟩
  rw [if_pos rfl]
  obtain ⟨qi,ce,ve,f0,f1,_⟩:=T.r_NoRule
  have hp:ExAt H' e xNoRule:=⟨false,.inl her⟩
  refine isiX_go hp qi f0 ⟨_,rfl,?_⟩
  rw [if_pos (by decide)]
  refine isiX_go hp qi f1 ⟨_,rfl,?_⟩
  rw [if_pos (by decide)]
  exact isiX_ty hp qi ve (q _ sm)
theorem ok_law{f:Addr}{fd:FuncData}(F:Fun K "law" "law" s_law f fd)(T:Txt K mg xCastError xNoRule xNoNumber xStock xRule xRanked xOldest xFirst xHalving xFarthest xHand xRows xDues xmake_oldest xmake_first xmake_halving xmake_farthest xmake_hand xmake_rows xmake_dues xMAKERS)(D_l_cell_at:Def P w K mg base (CXF P w) 1 "_law_cell_at" ["_law_script","_law_k"] (sp_cell K))(D_l_refused:Def P w K mg base (CXF P w) 4 "_law_refused" ["_law_thing"] (sp61_refused))(D_l_names:Def P w K mg base (CXF P w) 1 "_law_names" ["_law_cell","_law_many"] (sp41_names))(D_l_room:Def P w K mg base (CXF P w) 2 "_law_room" ["_law_cell","_law_k"] (sp41_lroom))(D_l_places:Def P w K mg base (CXF P w) 1 "_law_places" ["_law_cell","_law_widest","_law_total"] (sp41_lplaces))(D_Stock_init:DefI P w K mg base (CXF P w) 4 "Stock" xStock ["self","rows"] (sp_initG K xStock))(D_Stock_names:DefM P w K mg base (CXF P w) 1 xStock "names" ["self"] (sp_nms K xStock))(D_maker_of:Def P w K mg base (CXF P w) 2 "maker_of" ["word"] (sp61_maker (A7.mk xmake_oldest xmake_first xmake_halving xmake_farthest xmake_hand xmake_rows xmake_dues) xNoRule))(D_l_kinds:Def P w K mg base (CXF P w) 1 "_law_kinds" ["_law_rule"] (sp61_kinds (A7.mk xOldest xFirst xHalving xFarthest xHand xRows xDues)))(D_l_halving_good:Def P w K mg base (CXF P w) 5 "_law_halving_good" ["_law_rule","_law_other","_law_name"] (sp61_halving xHalving))(D_l_farthest_good:Def P w K mg base (CXF P w) 5 "_law_farthest_good" ["_law_rule","_law_asks","_law_names_here"] (sp61_farthest K xFarthest))(D_make_oldest:Def P w K mg base (CXF P w) 8 "make_oldest" ["stock","places","asks"] (sp61_mk (A7.mk xOldest xFirst xHalving xFarthest xHand xRows xDues) K xStock .ol))(D_make_first:Def P w K mg base (CXF P w) 8 "make_first" ["stock","places","asks"] (sp61_mk (A7.mk xOldest xFirst xHalving xFarthest xHand xRows xDues) K xStock .fi))(D_make_halving:Def P w K mg base (CXF P w) 8 "make_halving" ["stock","places","asks"] (sp61_mk (A7.mk xOldest xFirst xHalving xFarthest xHand xRows xDues) K xStock .ha))(D_make_farthest:Def P w K mg base (CXF P w) 8 "make_farthest" ["stock","places","asks"] (sp61_mk (A7.mk xOldest xFirst xHalving xFarthest xHand xRows xDues) K xStock .fa))(D_make_hand:Def P w K mg base (CXF P w) 8 "make_hand" ["stock","places","asks"] (sp61_mk (A7.mk xOldest xFirst xHalving xFarthest xHand xRows xDues) K xStock .hn))(D_make_rows:Def P w K mg base (CXF P w) 8 "make_rows" ["stock","places","asks"] (sp61_mk (A7.mk xOldest xFirst xHalving xFarthest xHand xRows xDues) K xStock .rw))(D_make_dues:Def P w K mg base (CXF P w) 8 "make_dues" ["stock","places","asks"] (sp61_mk (A7.mk xOldest xFirst xHalving xFarthest xHand xRows xDues) K xStock .du)):FnOk P w K mg base (CXF P w) 10 f fd ["_law_script"] (sp_law K):=by
  have sc:FnScope ["_law_script","_law_odd","_law_many","_law_names_here","_law_rooms","_law_stock","_law_asks","_law_places_here","_law_word","_law_make","_law_rule","_law_other","_law_one"] ["_law_script"] (defScope s_law):=⟨rfl,rfl,rfl,by decide+kernel,rfl,by decide+kernel,by decide+kernel⟩
  refine F.okF sc (fun vs H Q E h=>?_) (fun cdv A outer s H vs Q E hr h=>?_)
  · obtain ⟨a,ns,rfl,hS,hl,q⟩:=h;rfl
  obtain ⟨a,ns,rfl,hS,hl,q⟩:=h
  refine ⟨_,(@pss_cons _ _ _ _ _ (@ps_set _ _ 1 _ _ _ _ sc.nd rfl (Or.inl rfl) (@pe_lst _ _ _ _ (@pa_consK _ _ _ _ _ _ _ pe_str (@pa_consK _ _ _ _ _ _ _ pe_str (@pa_consK _ _ _ _ _ _ _ pe_str (@pa_consK _ _ _ _ _ _ _ pe_str (@pa_consK _ _ _ _ _ _ _ pe_str (@pa_consK _ _ _ _ _ _ _ pe_non (@pa_consK _ _ _ _ _ _ _ pe_bl (@pa_consK _ _ _ _ _ _ _ pe_int (@pa_consT _ _ _ _ _ _ _ (pe_tup (pa_cons pe_str pa_nil)) (pa_cons (@pe_lst _ _ _ _ (pa_cons pe_str pa_nil)) pa_nil))))))))))) (by rfl) (by first | exact .inl rfl | exact .inr rfl))
    (@pss_cons _ _ _ _ _ (ps_if (pt_not (pt_val (pe_callD D_l_refused hr rfl pass_onF (pa_cons (@pe_ix _ _ _ _ _ _ _ ix_list (pv 1) (pe_op op_mod (pe_op op_fdiv (pe_callD D_l_cell_at hr rfl pass_onF (pa_cons (pv 0) (pa_cons pe_int pa_nil))) pe_int) pe_int) (fun _ _=>rfl)) pa_nil))))
      (@pss_one _ _ _ (@ps_ret _ _ _ _ pe_bl))
      pss_nil)
    (@pss_cons _ _ _ _ _ (ps_set (i:=2) sc.nd rfl (Or.inr rfl) (pe_op op_add pe_int (pe_op op_mod (pe_callD D_l_cell_at hr rfl pass_onF (pa_cons (pv 0) (pa_cons pe_int pa_nil))) pe_int)))
    (@pss_cons _ _ _ _ _ (ps_set (i:=3) sc.nd rfl (Or.inr rfl) (pe_callD D_l_names hr rfl pass_onF (pa_cons (pe_callD D_l_cell_at hr rfl pass_onF (pa_cons (pv 0) (pa_cons pe_int pa_nil))) (pa_cons (pv 2) pa_nil))))
    (@pss_cons _ _ _ _ _ (ps_set (i:=4) sc.nd rfl (Or.inr rfl) (pe_comp1 "_law_k" [0] rfl rfl (pi_range1 rfl T.z_range (pa_cons (pv 2) pa_nil)) (fun b=>(pe_callD D_l_room hr rfl pass_noF (pa_cons (pe_callD D_l_cell_at hr rfl pass_noF (pa_cons (pv 1) (pa_cons pe_int pa_nil))) (pa_cons (pv 0) pa_nil))))))
    (@pss_cons _ _ _ _ _ (ps_set (i:=5) sc.nd rfl (Or.inl rfl) (pe_makeS D_Stock_init hr rfl (passS pass_onF) (pa_cons (pe_comp1 "_law_k" [3,4] rfl rfl (pi_range1 rfl T.z_range (pa_cons (pv 2) pa_nil)) (fun b=>(pe_tup (pa_cons (@pe_ix _ _ _ _ _ _ _ ix_list (pv 1) (pv 0) (fun _ _=>rfl)) (pa_cons (pv 0) (pa_cons (@pe_ix _ _ _ _ _ _ _ ix_list (pv 2) (pv 0) (fun _ _=>rfl)) pa_nil)))))) pa_nil)))
    (@pss_cons _ _ _ _ _ (ps_comp1 (i:=6) "_law_cell" [3,2] sc.nd rfl rfl rfl rfl (pi_list (pe_slice sl_list (pv 0) (po_some pe_int) (po_some pe_int))) (fun b=>(@pe_ix _ _ _ _ _ _ _ ix_list (pv 1) (pe_op op_mod (pv 0) (pv 2)) (fun _ _=>rfl))))
    (@pss_cons _ _ _ _ _ (ps_set (i:=7) sc.nd rfl (Or.inl rfl) (pe_callD D_l_places hr rfl pass_onF (pa_cons (pe_callD D_l_cell_at hr rfl pass_onF (pa_cons (pv 0) (pa_cons pe_int pa_nil))) (pa_cons (pe_callB (call_maxL rfl) rfl T.z_max (by first | rfl | decide+kernel) (pa_cons (pv 4) pa_nil)) (pa_cons (pe_callB (call_sumL rfl) rfl T.z_sum (by first | rfl | decide+kernel) (pa_cons (pv 4) pa_nil)) pa_nil)))))
    (@pss_cons _ _ _ _ _ (ps_set (i:=8) sc.nd rfl (Or.inr rfl) (pe_op op_mod (pe_callD D_l_cell_at hr rfl pass_onF (pa_cons (pv 0) (pa_cons pe_int pa_nil))) pe_int))
    (@pss_cons _ _ _ _ _ (ps_set (i:=9) sc.nd rfl (Or.inl rfl) (pe_callD D_maker_of hr rfl pass_onF (pa_cons (@pe_ix _ _ _ _ _ _ _ ix_list (@pe_lst _ _ _ _ (@pa_consK _ _ _ _ _ _ _ pe_str (@pa_consK _ _ _ _ _ _ _ pe_str (@pa_consK _ _ _ _ _ _ _ pe_str (@pa_consK _ _ _ _ _ _ _ pe_str (@pa_consK _ _ _ _ _ _ _ pe_str (@pa_consK _ _ _ _ _ _ _ pe_str (@pa_consK _ _ _ _ _ _ _ pe_str pa_nil)))))))) (pv 8) (fun _ _=>rfl)) pa_nil)))
    (@pss_cons _ _ _ _ _ (ps_set (i:=10) sc.nd rfl (Or.inl rfl) (pe_callF (fa:=(A7.mk xmake_oldest xmake_first xmake_halving xmake_farthest xmake_hand xmake_rows xmake_dues).at) (nm:=W7.mk) (sp:=sp61_mk (A7.mk xOldest xFirst xHalving xFarthest xHand xRows xDues) K xStock) (fun w=>by cases w;exact D_make_oldest;exact D_make_first;exact D_make_halving;exact D_make_farthest;exact D_make_hand;exact D_make_rows;exact D_make_dues) (fun w=>by cases w;exact T.c_make_oldest;exact T.c_make_first;exact T.c_make_halving;exact T.c_make_farthest;exact T.c_make_hand;exact T.c_make_rows;exact T.c_make_dues) hr pass_onF (pv 9) (pa_cons (pv 5) (pa_cons (pv 7) (pa_cons (pe_callTy call_list_of rfl T.z_list (by first | rfl | decide+kernel) (pa_cons (pv 6) pa_nil)) pa_nil)))))
    (@pss_cons _ _ _ _ _ (ps_set (i:=11) sc.nd rfl (Or.inl rfl) (pe_callF (fa:=(A7.mk xmake_oldest xmake_first xmake_halving xmake_farthest xmake_hand xmake_rows xmake_dues).at) (nm:=W7.mk) (sp:=sp61_mk (A7.mk xOldest xFirst xHalving xFarthest xHand xRows xDues) K xStock) (fun w=>by cases w;exact D_make_oldest;exact D_make_first;exact D_make_halving;exact D_make_farthest;exact D_make_hand;exact D_make_rows;exact D_make_dues) (fun w=>by cases w;exact T.c_make_oldest;exact T.c_make_first;exact T.c_make_halving;exact T.c_make_farthest;exact T.c_make_hand;exact T.c_make_rows;exact T.c_make_dues) hr pass_onF (pv 9) (pa_cons (pv 5) (pa_cons (pv 7) (pa_cons (pe_callTy call_list_of rfl T.z_list (by first | rfl | decide+kernel) (pa_cons (pv 6) pa_nil)) pa_nil)))))
    (@pss_cons _ _ _ _ _ (ps_for own_outF rfl (pi_list (@pe_lst _ _ _ _ (pa_cons (pv 10) (pa_cons (pv 11) pa_nil)))) (pg_name (i:=12) sc.nd rfl (Or.inl rfl))
      (@pss_cons _ _ _ _ _ (ps_if (pt_cmpR (op_neQ hr) (pe_callD D_l_kinds hr rfl pass_onF (pa_cons (pv 12) pa_nil)) (pe_comp1 "_law_k" [8] rfl rfl (pi_range1 rfl T.z_range (pa_cons pe_int pa_nil)) (fun b=>(pe_cmpR op_eq (pv 0) (pv 1) (nomark _)))) (nomark _))
        (@pss_one _ _ _ (@ps_ret _ _ _ _ pe_bl))
        pss_nil)
      (@pss_one _ _ _ (ps_if (PW.pt (pw_or (pt_cmpR op_ne (pe_fld (pv 12) rfl) (pv 7) (nomark _)) (pw_or1 (pt_cmpR (op_neQ hr) (pe_methS0 D_Stock_names T.cl_Stock hr (passS pass_onF) (pe_fld (pv 12) rfl)) (pv 3) (nomark _)))))
        (@pss_one _ _ _ (@ps_ret _ _ _ _ pe_bl))
        pss_nil))))
    (@pss_cons _ _ _ _ _ (ps_if (pt_cmpR op_eq (pv 8) pe_int (nomark _))
      (@pss_one _ _ _ (@ps_ret _ _ _ _ (pe_callD D_l_halving_good hr rfl pass_onF (pa_cons (pv 10) (pa_cons (pv 11) (pa_cons (@pe_ix _ _ _ _ _ _ _ ix_list (pv 3) pe_int (fun _ _=>rfl)) pa_nil))))))
      pss_nil)
    (@pss_cons _ _ _ _ _ (ps_if (pt_cmpR op_eq (pv 8) pe_int (nomark _))
      (@pss_one _ _ _ (@ps_ret _ _ _ _ (pe_and (pe_callD D_l_farthest_good hr rfl pass_onF (pa_cons (pv 10) (pa_cons (pv 6) (pa_cons (pv 3) pa_nil)))) (pe_one (pe_callD D_l_farthest_good hr rfl pass_onF (pa_cons (pv 11) (pa_cons (pv 6) (pa_cons (pv 3) pa_nil))))))))
      pss_nil)
    (@pss_one _ _ _ (@ps_ret _ _ _ _ pe_bl))))))))))))))))),?_⟩
  rw [show start ["_law_script","_law_odd","_law_many","_law_names_here","_law_rooms","_law_stock","_law_asks","_law_places_here","_law_word","_law_make","_law_rule","_law_other","_law_one"] [V.ref a]=[some (V.ref a),none,none,none,none,none,none,none,none,none,none,none,none] from rfl]
  have line:=line_val
  walk_at "go"
  intro p1 hp1
  refine ⟨by omega,fun p2 hp2=>⟨by omega,fun p3 hp3=>?_⟩⟩
  rename_i rest hrest
  suffices key:∀(H1:Hp) (L:List V),Same H H1→L.length=10→H1 p3=some (.lst L)→(∀v∈L,Odd7 H1 v∨∃z∈texts7,v= .str z)→rest [some (V.ref a),some (V.ref p3),none,none,none,none,none,none,none,none,none,none,none] H1 by
    have h12:=ne_of_none (show upd H p1 (.tup [V.str "oldest"]) p1=some (.tup [V.str "oldest"]) from upd_same) hp2
    have h13:=ne_of_none (show upd (upd H p1 (.tup [V.str "oldest"])) p2 (.lst [V.str "first"]) p1=some (.tup [V.str "oldest"]) by rw [upd_ne h12];exact upd_same) hp3
    have h23:=ne_of_none (show upd (upd H p1 (.tup [V.str "oldest"])) p2 (.lst [V.str "first"]) p2=some (.lst [V.str "first"]) from upd_same) hp3
    refine key _ _ (((Same.new hp1).trans (Same.new hp2)).trans (Same.new hp3)) rfl upd_same (fun v hv=>?_)
    simp only [List.mem_cons,List.not_mem_nil,or_false]at hv
    rcases hv with e | e | e | e | e | e | e | e | e | e <;> rw [e]
    · exact .inr ⟨_,by simp [texts7],rfl⟩
    · exact .inr ⟨_,by simp [texts7],rfl⟩
    · exact .inr ⟨_,by simp [texts7],rfl⟩
    · exact .inr ⟨_,by simp [texts7],rfl⟩
    · exact .inr ⟨_,by simp [texts7],rfl⟩
    · exact .inl .none
    · exact .inl .bl
    · exact .inl .int
    · exact .inl (.seq (.inl (by rw [upd_ne h13,upd_ne h12];exact upd_same)))
    · exact .inl (.seq (.inr (by rw [upd_ne h23];exact upd_same)))
  intro H1 L sm1 hL hp31 hodd
  subst hrest
  have hS1:=sm1.seq hS
  clear hp1 hp2 hp3
  walk_at "go"
  have hj0:0≤ns.getD 4 0 / 7 % 10∧ns.getD 4 0 / 7 % 10 < 10:=⟨by omega,by omega⟩
  generalize ns.getD 4 0 / 7 % 10=j at hj0 ⊢
  obtain ⟨v,hv⟩:∃v,L[j.toNat]?=some v:=⟨_,List.getElem?_eq_getElem (by omega)⟩
  rw [show j=((j.toNat:Nat):Int) by omega]
  refine ixL_of (SqL.of hp31) (v:=v) (atI_nat hv) ⟨hodd v (List.mem_of_getElem? hv),fun H2 sm2=>?_⟩
  have hS2:=sm2.seq hS1
  clear hv hodd hp31 hS hS1 sm1 hj0 sm2 hL
  rename_i rest hrest
  subst hrest
  walk_at "go"
  obtain ⟨m,hm⟩:∃m:Nat,(m:Int)=1+ns.getD 2 0 % 9:=⟨(1+ns.getD 2 0 % 9).toNat,by omega⟩
  have hm1:1≤m:=by omega
  have hm9:m≤9:=by omega
  rw [← hm]
  clear hm
  refine ⟨m,rfl,hm9,fun np ys H3 hnp sm3 hny hy1 hy2 ynd hyn=>?_⟩
  have hS3:=sm3.seq hS2
  clear hS2 sm3 hnp
  rename_i rest hrest
  subst hrest
  walk_at "go"
  refine compR_mk (fun i y _=>∃r:Int,y=V.int r∧1≤r∧r≤1000) (fun i y H H' l zs h hl sb=>h) (by omega) (fun b i H' Q' hi sm' q'=>?_) fun D yl H4 hD sm4 hD4 hyl hall=>?_
  · walk_at "go"
    exact ⟨ns,sm'.seq hS3,by decide,hl,fun v h0 h1=>q' _ _ (Same.refl H') ⟨v,rfl,h0,h1⟩⟩
  obtain ⟨rs,rfl,hrl⟩:=ints_of yl (fun i y h=>by obtain ⟨r,e,_⟩:=hall i y h;exact ⟨r,e⟩)
  have hrb:∀r∈rs,1≤r∧r≤1000:=fun r hr=>by
    obtain ⟨i,hi⟩:=List.mem_iff_getElem?.mp hr
    obtain ⟨r',e,h⟩:=hall i (V.int r) (by rw [List.getElem?_map,hi];rfl)
    cases e
    exact h
  have hrl':rs.length≤m∧m≤rs.length:=by rw [List.length_map]at hyl;omega
  clear hall hyl hrl hD
  have hS4:=sm4.seq hS3
  have hny4:=sm4 _ _ hny
  clear hS3 hny sm4
  rename_i rest hrest
  subst hrest
  walk_at "go"
  refine compR_mk (fun i y H=>∃t,y=V.ref t∧SqT K H t [.str (ys.getD i Str.empty),.int (i:Int),.int (rs.getD i 0)]) (fun i y H H' l zs ⟨t,e,h⟩ hl sb=>⟨t,e,SqT.butL sb hl h⟩) (by omega) (fun b i H' Q' hi sm' q'=>?_) fun D2 yl H5 hD sm5 hyD hyl hall=>?_
  · have hr0:rs[i]?=some (rs.getD i 0):=by rw [List.getD_eq_getElem?_getD,List.getElem?_eq_getElem (show i < rs.length by omega)];rfl
    walk_at "go"
    refine ixL_of (SqL.of (sm' _ _ hny4)) (v:=V.str (ys.getD i Str.empty)) (atI_nat (by rw [List.getElem?_map,getD_str (by omega)];rfl)) ?_
    refine ixL_of (SqL.of (sm' _ _ hD4)) (v:=V.int (rs.getD i 0)) (atI_nat (by rw [List.getElem?_map,hr0];rfl)) ?_
    exact ⟨by omega,fun t ht=>q' _ _ (Same.new ht) ⟨t,rfl,SqT.of upd_same⟩⟩
  obtain ⟨as,rfl,rows⟩:=rows61 (rs:=rs) hyD (by omega) (by omega) ynd hyn (fun i hi=>by
    have hr0:rs[i]?=some (rs.getD i 0):=by rw [List.getD_eq_getElem?_getD,List.getElem?_eq_getElem (show i < rs.length by omega)];rfl
    exact hrb _ (List.mem_of_getElem? hr0)) hall
  have hny5:=sm5 _ _ hny4
  have hS5:=sm5.seq hS4
  have hD5:=sm5 _ _ hD4
  clear hall hyD hyl hny4 hS4 hD4 hD sm5
  intro st dx hst hdx ne1
  obtain ⟨rws,e1,e2,e3,e4⟩:=rows.init
  have smx:Same H5 (upd (upd H5 dx (.own st)) st (.ins xStock dx [])):=fun b o e=>by rw [upd_ne (ne_of_none e hst),upd_ne (ne_of_none e hdx)];exact e
  refine ⟨dx,D2,rfl,upd_same,rws,by rw [e1];exact smx.seq rows.l,fun t ht=>smx.tup (e2 t ht),e3,fun H6 sb6 stk=>?_⟩
  rw [e4]at stk
  have sm6:Same H5 H6:=same_made hst hdx sb6
  have hny6:=sm6 _ _ hny5
  have hS6:=sm6.seq hS5
  have hD6:=sm6 _ _ hD5
  clear e1 e2 e3 e4 smx sm6 sb6 rows hny5 hS5 hD5 hst hdx ne1
  have htn:(ts61 ys rs).map (·.1)=ys∧True:=⟨ts61_names ys rs,trivial⟩
  have htr:∀n:Int,(∀r∈rs,r≤n)→∀y∈ys,rm (ts61 ys rs) y≤n:=fun n h y hy=>rm61 ynd (by omega) h hy
  generalize ts61 ys rs=ts at stk htn htr
  rename_i rest hrest
  subst hrest
  walk_at "go"
  refine ⟨_,hS6,fun cp hcp=>?_⟩
  obtain ⟨cs,hcs,hcl⟩:=cut_anyI ns (some 5) (some 65)
  rw [hcs]
  clear hcs
  have smc:Same H6 (upd H6 cp (.lst (cs.map V.int))):=Same.new hcp
  refine ⟨⟨_,SqL.of upd_same⟩,?_⟩
  refine compL_pure (ask1 ys m) (SqL.of upd_same) (by rw [List.length_map];omega) (fun b x H' Q' hx sm' q'=>?_) fun D7 hD7=>?_
  · obtain ⟨c,hc,rfl⟩:=List.mem_map.mp hx
    have hk0:=Int.emod_nonneg c (show (m:Int)≠0 by omega)
    have hk1:=Int.emod_lt_of_pos c (show (0:Int) < m by omega)
    walk_at "go"
    refine ixL_of (SqL.of (sm' _ _ (smc _ _ hny6))) (v:=V.str (ys.getD (c % (m:Int)).toNat Str.empty)) ?_ q'
    rw [show c % (m:Int)=(((c % (m:Int)).toNat:Nat):Int) by omega,Int.toNat_natCast]
    exact atI_nat (by rw [List.getElem?_map,getD_str (by omega)];rfl)
  rw [ask1_list]
  have smD:=smc.trans (Same.new (o:= .lst ((cs.map (ask1S ys m)).map V.str)) hD7)
  have hzin:∀y∈cs.map (ask1S ys m),y∈ys:=fun y hy=>by
    obtain ⟨c,_,rfl⟩:=List.mem_map.mp hy
    have hk0:=Int.emod_nonneg c (show (m:Int)≠0 by omega)
    have hk1:=Int.emod_lt_of_pos c (show (0:Int) < m by omega)
    exact List.mem_of_getElem? (getD_str (by omega))
  have hzl:(cs.map (ask1S ys m)).length≤200:=by rw [List.length_map];omega
  have hap:upd (upd H6 cp (.lst (cs.map V.int))) D7 (.lst ((cs.map (ask1S ys m)).map V.str)) D7=some (.lst ((cs.map (ask1S ys m)).map V.str)):=upd_same
  generalize upd (upd H6 cp (.lst (cs.map V.int))) D7 (.lst ((cs.map (ask1S ys m)).map V.str))=H7 at smD hap ⊢
  generalize cs.map (ask1S ys m)=zs at hzin hzl hap
  clear hD7 smc hcp hcl
  have hny7:=smD _ _ hny6
  have hS7:=smD.seq hS6
  have hD7:=smD _ _ hD6
  have stk7:=StockAt.same smD stk
  clear hny6 hS6 hD6 stk smD
  rename_i rest hrest
  subst hrest
  walk_at "go"
  have hsum:=sum61 rs hrb
  refine ⟨rs,SqL.of hD7,(fun e=>by rw [e]at hrl';simp at hrl';omega),fun v hv hmax=>⟨rs,SqL.of hD7,(hrb v hv).1,(hrb v hv).2,hsum.1,by omega,fun n hn0 hn1=>?_⟩⟩
  have hn:1≤n∧n≤1000000:=⟨by have:=(hrb v hv).1;omega,hn1⟩
  have hrm:∀y∈zs,rm ts y≤n:=fun y hy=>htr n (fun r hr=>by have:=hmax r hr;omega) y (hzin y hy)
  clear hsum htr hv hmax hn0 hn1 hD7
  rename_i rest hrest
  subst hrest
  walk_at "go"
  obtain ⟨w7,hw⟩:=w7_of (i:=ns.getD 4 0 % 7) (by omega) (by omega)
  rw [← hw]
  clear hw
  intro wp hwp
  refine ixL_of (SqL.of upd_same) (word61 w7) (.inl ⟨w7,rfl,?_⟩)
  have smp:=Same.new (o:= .lst [V.str "oldest",V.str "first",V.str "halving",V.str "farthest",V.str "hand",V.str "rows",V.str "dues"]) hwp
  generalize upd H7 wp (.lst [V.str "oldest",V.str "first",V.str "halving",V.str "farthest",V.str "hand",V.str "rows",V.str "dues"])=H8 at smp ⊢
  have hny8:=smp _ _ hny7
  have hap8:=smp _ _ hap
  have stk8:=StockAt.same smp stk7
  clear hny7 hap hS7 stk7 smp hwp
  have hTn:(ts.map (·.1)).Nodup:=by rw [htn.1];exact ynd
  have hTi:∀y∈zs,y∈ts.map (·.1):=fun y hy=>by rw [htn.1];exact hzin y hy
  rename_i rest hrest
  subst hrest
  walk_at "go"
  refine ⟨w7,rfl,_,.inl (SqL.of hap8),fun l1 hl1=>?_⟩
  have smL:=Same.new (o:= .lst (zs.map V.str)) hl1
  have eL:upd H8 l1 (.lst (zs.map V.str)) l1=some (.lst (zs.map V.str)):=upd_same
  generalize upd H8 l1 (.lst (zs.map V.str))=H9 at smL eL ⊢
  have hny9:=smL _ _ hny8
  have hap9:=smL _ _ hap8
  have stk9:=StockAt.same smL stk8
  clear hny8 hap8 stk8 smL hl1
  refine ⟨ts,stk9,hTn,zs,eL,hzl,hTi,hrm,hn.1,hn.2,fun q1 M1 H10 sm10 hq1 hM1 md1=>?_⟩
  have hny10:=sm10 _ _ hny9
  have hap10:=sm10 _ _ hap9
  have stk10:=StockAt.same sm10 stk9
  have na1:np∉M1∧D7∉M1:=⟨(fun h=>by rw [hM1 _ h]at hny9;cases hny9),(fun h=>by rw [hM1 _ h]at hap9;cases hap9)⟩
  clear hny9 hap9 stk9 sm10 hM1 hq1 eL
  rename_i rest hrest
  subst hrest
  walk_at "go"
  refine ⟨w7,rfl,_,.inl (SqL.of hap10),fun l1 hl1=>?_⟩
  have smL:=Same.new (o:= .lst (zs.map V.str)) hl1
  have eL:upd H10 l1 (.lst (zs.map V.str)) l1=some (.lst (zs.map V.str)):=upd_same
  generalize upd H10 l1 (.lst (zs.map V.str))=H11 at smL eL ⊢
  have hny11:=smL _ _ hny10
  have hap11:=smL _ _ hap10
  have stk11:=StockAt.same smL stk10
  have md11:=md1.same smL
  clear hny10 hap10 stk10 smL hl1 md1
  refine ⟨ts,stk11,hTn,zs,eL,hzl,hTi,hrm,hn.1,hn.2,fun q2 M2 H12 sm12 hq2 hM2 md2=>?_⟩
  have hny12:=sm12 _ _ hny11
  have hap12:=sm12 _ _ hap11
  have stk12:=StockAt.same sm12 stk11
  have na2:np∉M2∧D7∉M2:=⟨(fun h=>by rw [hM2 _ h]at hny11;cases hny11),(fun h=>by rw [hM2 _ h]at hap11;cases hap11)⟩
  have dj:(∀k,H11 k≠none→k∉M2)∧True:=⟨fun k hk h=>hk (hM2 _ h),trivial⟩
  have md12:=md11.same sm12
  have dja:w7= .ha→∀k∈M1,k∉M2:=fun e k hk=>dj.1 k (by
    obtain ⟨la,ta,hM,⟨dx,ho⟩,hla,hta,hne⟩:=md11.ha e
    rw [hM]at hk
    simp only [List.mem_cons,List.not_mem_nil,or_false]at hk
    rcases hk with e | e | e <;> rw [e]
    · rw [ho];intro z;cases z
    · rw [hla];intro z;cases z
    · rw [hta];intro z;cases z)
  have djf:w7= .fa→∀k∈M1,k∉M2:=fun e k hk=>dj.1 k (by
    obtain ⟨la,ak,hM,⟨dx,ho⟩,hla,hak⟩:=md11.fa e
    rw [hM]at hk
    simp only [List.mem_cons,List.not_mem_nil,or_false]at hk
    rcases hk with e | e | e <;> rw [e]
    · rw [ho];intro z;cases z
    · rw [hla];intro z;cases z
    · rw [hak];intro z;cases z)
  clear hny11 hap11 stk11 sm12 hM2 hq2 eL md11 dj
  rename_i rest hrest
  subst hrest
  walk_at "go"
  intro lp hlp
  have smL:=Same.new (o:= .lst [V.ref q1,V.ref q2]) hlp
  have eL:upd H12 lp (.lst [V.ref q1,V.ref q2]) lp=some (.lst [V.ref q1,V.ref q2]):=upd_same
  generalize upd H12 lp (.lst [V.ref q1,V.ref q2])=H13 at smL eL ⊢
  have hny13:=smL _ _ hny12
  have hap13:=smL _ _ hap12
  have stk13:=StockAt.same smL stk12
  have ma:=md12.same smL
  have mb:=md2.same smL
  clear hny12 hap12 stk12 smL hlp md12 md2
  rename_i rest hrest
  refine ⟨⟨_,SqL.of eL⟩,forL_by (xs:=[V.ref q1,V.ref q2]) (fun i σ H'=>∃v12:Option V,σ=[some (V.ref a),some (V.ref p3),some (V.int ↑m),some (V.ref np),some (V.ref D),some (V.ref st),some (V.ref D7),some (V.int n),some (V.int w7.i),some (V.ref ((A7.mk xmake_oldest xmake_first xmake_halving xmake_farthest xmake_hand xmake_rows xmake_dues).at w7)),some (V.ref q1),some (V.ref q2),v12]∧Same H13 H') ⟨none,rfl,Same.refl H13⟩ (fun i σ H' _ h_=>by obtain ⟨_,_,sm⟩:=h_;exact SqL.of (sm _ _ eL)) ?_ ?_⟩
  · clear hrest
    rintro i v σ H' hv ⟨v12,rfl,sm⟩
    obtain ⟨q0,M0,rfl,md⟩:∃q0 M0,v=V.ref q0∧Md (A7.mk xOldest xFirst xHalving xFarthest xHand xRows xDues) H' w7 q0 st n M0 zs:=by
      have:=List.mem_of_getElem? hv
      simp only [List.mem_cons,List.not_mem_nil,or_false]at this
      rcases this with e | e
      · exact ⟨q1,M1,e,ma.same sm⟩
      · exact ⟨q2,M2,e,mb.same sm⟩
    obtain ⟨dx,fs,ho,hf1,hf2⟩:=md.ob
    walk_at "go"
    refine ⟨w7,dx,fs,ho,fun kp Hk smk hkp hk=>?_⟩
    refine ⟨by decide,by decide,?_⟩
    refine compR_pure (n:=7) (fun i=>V.bl (decide ((i:Int)=w7.i))) (by omega) (fun b i H2 Q' hi sm2 q'=>?_) fun D2 hD2=>?_
    · walk_at "go"
      have h:=q'
      simp only [Int.zero_add]at h
      exact h
    have ek:(List.range 7).map (fun i:Nat=>V.bl (decide ((0:Int)+(i:Int)=w7.i)))=all7.map fun u=>V.bl (decide (u=w7)):=by rw [kinds61];simp only [Int.zero_add]
    rw [ek]
    refine ⟨true,⟨kp,D2,_,_,rfl,rfl,.inl ⟨SqL.of (by rw [upd_ne (ne_of_none hk hD2)];exact hk),SqL.of upd_same⟩,rfl,rfl,(flatEq_self (by rfl)).symm⟩,?_⟩
    rw [if_neg (by decide)]
    have smD:=smk.trans (Same.new (o:= .lst (all7.map fun u=>V.bl (decide (u=w7)))) hD2)
    generalize upd Hk D2 (.lst (all7.map fun u=>V.bl (decide (u=w7))))=H2 at smD ⊢
    clear hk hkp smk hD2 ek
    have ho2:=smD _ _ ho
    rename_i rest hrest
    subst hrest
    walk_at "go"
    have hc:Cls K ((A7.mk xOldest xFirst xHalving xFarthest xHand xRows xDues).at w7)∧NoAttr K ((A7.mk xOldest xFirst xHalving xFarthest xHand xRows xDues).at w7) "places"∧NoAttr K ((A7.mk xOldest xFirst xHalving xFarthest xHand xRows xDues).at w7) "stock":=by
      cases w7
      · exact ⟨T.cl_Oldest,T.n_Oldest_places,T.n_Oldest_stock⟩
      · exact ⟨T.cl_First,T.n_First_places,T.n_First_stock⟩
      · exact ⟨T.cl_Halving,T.n_Halving_places,T.n_Halving_stock⟩
      · exact ⟨T.cl_Farthest,T.n_Farthest_places,T.n_Farthest_stock⟩
      · exact ⟨T.cl_Hand,T.n_Hand_places,T.n_Hand_stock⟩
      · exact ⟨T.cl_Rows,T.n_Rows_places,T.n_Rows_stock⟩
      · exact ⟨T.cl_Dues,T.n_Dues_places,T.n_Dues_stock⟩
    refine ⟨_,_,_,ho2,hc.1,hc.2.1,_,hf2,rfl,?_⟩
    rw [if_neg (by simp)]
    have stk2:=StockAt.same (sm.trans smD) stk13
    have hny2:=(sm.trans smD) _ _ hny13
    obtain ⟨sdx,sfs,so1,so2⟩:∃sdx sfs,H2 st=some (.ins xStock sdx sfs)∧sfs.lookup ("names":Str)=none:=by
      obtain ⟨sdx,sd,_,s1,s2⟩:=stk2
      exact ⟨_,_,s1,rfl⟩
    refine ⟨_,_,_,ho2,hc.1,hc.2.2,_,hf1,st,rfl,sdx,sfs,so1,so2,st,rfl,ts,stk2,fun nl hnl=>?_⟩
    rw [htn.1]
    refine ⟨_,eqQ_strs (SqL.of upd_same) (SqL.of (by rw [upd_ne (ne_of_none hny2 hnl)];exact hny2)),?_⟩
    rw [if_neg (by simp)]
    exact (sm.trans smD).trans (Same.new hnl)
  · rintro σ H' ⟨v12,rfl,sm⟩
    subst hrest
    have hny:=sm _ _ hny13
    have hap:=sm _ _ hap13
    have mA:=ma.same sm
    have mB:=mb.same sm
    clear hny13 hap13 stk13 ma mb sm eL
    walk_at "go"
    rename_i rest hrest
    by_cases h2:w7.i=2
    · rw [if_pos h2]
      have e:w7= .ha∧True:=⟨by cases w7 <;> first | rfl | exact absurd h2 (by decide),trivial⟩
      exact ixL_of (SqL.of hny) (v:=V.str (ys.getD 0 Str.empty)) (atI_nat (j:=0) (by rw [List.getElem?_map,getD_str (by omega)];rfl)) ⟨st,st,n,n,M1,M2,ys.getD 0 Str.empty,rfl,mA.ha e.1,mB.ha e.1,dja e.1,fun H2 _=>q H2⟩
    · rw [if_neg h2]
      subst hrest
      walk_at "go"
      rename_i rest hrest
      by_cases h3:w7.i=3
      · rw [if_pos h3]
        have e:w7= .fa∧True:=⟨by cases w7 <;> first | rfl | exact absurd h3 (by decide),trivial⟩
        refine ⟨st,n,M1,zs,mA.fa e.1,hap,ys,hny,na1.2,na1.1,hzin,hzl,by omega,fun H2 kp=>?_⟩
        exact ⟨st,n,M2,zs,(T3 xFarthest zs).dep (fun k hk o z=>kp k o (fun h=>djf e.1 k h hk) z) (mB.fa e.1),kp _ _ na1.2 hap,ys,kp _ _ na1.1 hny,na2.2,na2.1,hzin,hzl,by omega,fun H3 _=>q H3⟩
      · rw [if_neg h3]
        subst hrest
        walk_at "go"
        exact q _
end
theorem all_mk{l:PySem.W.OpenLaw}{w:World}{K:PySem.W.Frag}{h:Heap}{mg:Str→Option Value}{fa f0 f1 f2 f3 f4 f5 f6 f7 f8 f9 f10 f11 f12 f13 f14 f15 f16 f17 f18 f19 f20 f21 f22 f23 f24 f25 f26 f27 f28 f29 f30 f31 f32 f33 f34 f35 f36 f37 f38 f39 f40 f41 f42 f43 f44 f45 f46 f47 f48 f49 xCastError xNoRule xNoNumber xStock xRule xRanked xOldest xFirst xHalving xFarthest xHand xRows xDues xmake_oldest xmake_first xmake_halving xmake_farthest xmake_hand xmake_rows xmake_dues xMAKERS:Addr}(X:K.In h)(G:h.Ns mainGlobals mg)(hfa:mg "law"=some (.ref fa))
    {od0 an0 od1 an1 od2 an2 od3 an3 od4 an4 od5 an5 od6 an6 od7 an7 od8 an8 od9 an9 od10 an10 od11 an11 od12 an12 od13 an13 od14 an14 od15 an15 od16 an16 od17 an17 od18 an18 od19 an19 od20 an20 od21 an21 od22 an22 od23 an23 od24 an24 od25 an25 od26 an26 od27 an27 od28 an28 od29 an29 od30 an30 od31 an31 od32 an32 od33 an33 od34 an34 od35 an35 od36 an36 od37 an37 od38 an38 od39 an39 od40 an40 od41 an41 od42 an42 od43 an43 od44 an44 od45 an45 od46 an46 od47 an47 od48 an48 od49 an49:Option Addr} {sl0 sl1 sl2 sl3 sl4 sl5 sl6 sl7 sl8 sl9 sl10 sl11 sl12 sl13 sl14 sl15 sl16 sl17 sl18 sl19 sl20 sl21 sl22 sl23 sl24 sl25 sl26 sl27 sl28 sl29 sl30 sl31 sl32 sl33 sl34 sl35 sl36 sl37 sl38 sl39 sl40 sl41 sl42 sl43 sl44 sl45 sl46 sl47 sl48 sl49:Array (Option Value)} {oc0 kV0 dc0 pm0 cd0 ct0 oc1 kV1 dc1 pm1 cd1 ct1 oc2 kV2 dc2 pm2 cd2 ct2 oc3 kV3 dc3 pm3 cd3 ct3 oc4 kV4 dc4 pm4 cd4 ct4 oc5 kV5 dc5 pm5 cd5 ct5 oc6 kV6 dc6 pm6 cd6 ct6 oc7 kV7 dc7 pm7 cd7 ct7 oc8 kV8 dc8 pm8 cd8 ct8 oc9 kV9 dc9 pm9 cd9 ct9 oc10 kV10 dc10 pm10 cd10 ct10 oc11 kV11 dc11 pm11 cd11 ct11 oc12 kV12 dc12 pm12 cd12 ct12 oc13 kV13 dc13 pm13 cd13 ct13 oc14 kV14 dc14 pm14 cd14 ct14 oc15 kV15 dc15 pm15 cd15 ct15 oc16 kV16 dc16 pm16 cd16 ct16 oc17 kV17 dc17 pm17 cd17 ct17 oc18 kV18 dc18 pm18 cd18 ct18 oc19 kV19 dc19 pm19 cd19 ct19 oc20 kV20 dc20 pm20 cd20 ct20 oc21 kV21 dc21 pm21 cd21 ct21 oc22 kV22 dc22 pm22 cd22 ct22 oc23 kV23 dc23 pm23 cd23 ct23 oc24 kV24 dc24 pm24 cd24 ct24 oc25 kV25 dc25 pm25 cd25 ct25 oc26 kV26 dc26 pm26 cd26 ct26 oc27 kV27 dc27 pm27 cd27 ct27 oc28 kV28 dc28 pm28 cd28 ct28 oc29 kV29 dc29 pm29 cd29 ct29 oc30 kV30 dc30 pm30 cd30 ct30 oc31 kV31 dc31 pm31 cd31 ct31 oc32 kV32 dc32 pm32 cd32 ct32 oc33 kV33 dc33 pm33 cd33 ct33 oc34 kV34 dc34 pm34 cd34 ct34 oc35 kV35 dc35 pm35 cd35 ct35 oc36 kV36 dc36 pm36 cd36 ct36 oc37 kV37 dc37 pm37 cd37 ct37 oc38 kV38 dc38 pm38 cd38 ct38 oc39 kV39 dc39 pm39 cd39 ct39 oc40 kV40 dc40 pm40 cd40 ct40 oc41 kV41 dc41 pm41 cd41 ct41 oc42 kV42 dc42 pm42 cd42 ct42 oc43 kV43 dc43 pm43 cd43 ct43 oc44 kV44 dc44 pm44 cd44 ct44 oc45 kV45 dc45 pm45 cd45 ct45 oc46 kV46 dc46 pm46 cd46 ct46 oc47 kV47 dc47 pm47 cd47 ct47 oc48 kV48 dc48 pm48 cd48 ct48 oc49 kV49 dc49 pm49 cd49 ct49:Value}
    (a0:PySem.W.nsIn K mainGlobals "made_of"=some (some (.ref f0))) (l0:K.lookup f0=some ⟨oc0,od0,.func (PySem.W.fnOf "made_of" "made_of" (defArgs s_made_of) (defBody s_made_of) (defScope s_made_of) .none kV0 dc0 pm0 an0 cd0 ct0),sl0⟩) (c0:PySem.W.codeIn K cd0 "made_of"=true) (k0:PySem.W.keepIn K (.ref f0)=true)
    (a1:PySem.W.nsIn K mainGlobals "is_name"=some (some (.ref f1))) (l1:K.lookup f1=some ⟨oc1,od1,.func (PySem.W.fnOf "is_name" "is_name" (defArgs s_is_name) (defBody s_is_name) (defScope s_is_name) .none kV1 dc1 pm1 an1 cd1 ct1),sl1⟩) (c1:PySem.W.codeIn K cd1 "is_name"=true) (k1:PySem.W.keepIn K (.ref f1)=true)
    (a2:PySem.W.nsIn K mainGlobals "is_whole"=some (some (.ref f2))) (l2:K.lookup f2=some ⟨oc2,od2,.func (PySem.W.fnOf "is_whole" "is_whole" (defArgs s_is_whole) (defBody s_is_whole) (defScope s_is_whole) .none kV2 dc2 pm2 an2 cd2 ct2),sl2⟩) (c2:PySem.W.codeIn K cd2 "is_whole"=true) (k2:PySem.W.keepIn K (.ref f2)=true)
    (a3:PySem.W.nsIn K mainGlobals "is_within"=some (some (.ref f3))) (l3:K.lookup f3=some ⟨oc3,od3,.func (PySem.W.fnOf "is_within" "is_within" (defArgs s_is_within) (defBody s_is_within) (defScope s_is_within) .none kV3 dc3 pm3 an3 cd3 ct3),sl3⟩) (c3:PySem.W.codeIn K cd3 "is_within"=true) (k3:PySem.W.keepIn K (.ref f3)=true)
    (a4:PySem.W.nsIn K mainGlobals "check_places"=some (some (.ref f4))) (l4:K.lookup f4=some ⟨oc4,od4,.func (PySem.W.fnOf "check_places" "check_places" (defArgs s_check_places) (defBody s_check_places) (defScope s_check_places) .none kV4 dc4 pm4 an4 cd4 ct4),sl4⟩) (c4:PySem.W.codeIn K cd4 "check_places"=true) (k4:PySem.W.keepIn K (.ref f4)=true)
    (a5:PySem.W.nsIn K mainGlobals "check_thing"=some (some (.ref f5))) (l5:K.lookup f5=some ⟨oc5,od5,.func (PySem.W.fnOf "check_thing" "check_thing" (defArgs s_check_thing) (defBody s_check_thing) (defScope s_check_thing) .none kV5 dc5 pm5 an5 cd5 ct5),sl5⟩) (c5:PySem.W.codeIn K cd5 "check_thing"=true) (k5:PySem.W.keepIn K (.ref f5)=true)
    (a6:PySem.W.findIn K (.ref xStock) "__init__"=some (some (.ref f6))) (l6:K.lookup f6=some ⟨oc6,od6,.func (PySem.W.fnOf "__init__" "Stock.__init__" (defArgs s_Stock_init) (defBody s_Stock_init) (defScope s_Stock_init) .none kV6 dc6 pm6 an6 cd6 ct6),sl6⟩) (c6:PySem.W.codeIn K cd6 "Stock.__init__"=true) (n6:PySem.W.isFn K (.ref f6)=true) (k6:PySem.W.keepIn K (.ref xStock)=true) (m6:PySem.W.makesIn K xStock=true) (kf6:PySem.W.keepIn K (.ref f6)=true)
    (a7:PySem.W.findIn K (.ref xStock) "has"=some (some (.ref f7))) (l7:K.lookup f7=some ⟨oc7,od7,.func (PySem.W.fnOf "has" "Stock.has" (defArgs s_Stock_has) (defBody s_Stock_has) (defScope s_Stock_has) .none kV7 dc7 pm7 an7 cd7 ct7),sl7⟩) (c7:PySem.W.codeIn K cd7 "Stock.has"=true) (n7:PySem.W.isFn K (.ref f7)=true) (k7:PySem.W.keepIn K (.ref f7)=true)
    (a8:PySem.W.findIn K (.ref xStock) "thing_of"=some (some (.ref f8))) (l8:K.lookup f8=some ⟨oc8,od8,.func (PySem.W.fnOf "thing_of" "Stock.thing_of" (defArgs s_Stock_thing_of) (defBody s_Stock_thing_of) (defScope s_Stock_thing_of) .none kV8 dc8 pm8 an8 cd8 ct8),sl8⟩) (c8:PySem.W.codeIn K cd8 "Stock.thing_of"=true) (n8:PySem.W.isFn K (.ref f8)=true) (k8:PySem.W.keepIn K (.ref f8)=true)
    (a9:PySem.W.findIn K (.ref xStock) "room_of"=some (some (.ref f9))) (l9:K.lookup f9=some ⟨oc9,od9,.func (PySem.W.fnOf "room_of" "Stock.room_of" (defArgs s_Stock_room_of) (defBody s_Stock_room_of) (defScope s_Stock_room_of) .none kV9 dc9 pm9 an9 cd9 ct9),sl9⟩) (c9:PySem.W.codeIn K cd9 "Stock.room_of"=true) (n9:PySem.W.isFn K (.ref f9)=true) (k9:PySem.W.keepIn K (.ref f9)=true)
    (a10:PySem.W.nsIn K mainGlobals "check_asks"=some (some (.ref f10))) (l10:K.lookup f10=some ⟨oc10,od10,.func (PySem.W.fnOf "check_asks" "check_asks" (defArgs s_check_asks) (defBody s_check_asks) (defScope s_check_asks) .none kV10 dc10 pm10 an10 cd10 ct10),sl10⟩) (c10:PySem.W.codeIn K cd10 "check_asks"=true) (k10:PySem.W.keepIn K (.ref f10)=true)
    (a11:PySem.W.findIn K (.ref xStock) "names"=some (some (.ref f11))) (l11:K.lookup f11=some ⟨oc11,od11,.func (PySem.W.fnOf "names" "Stock.names" (defArgs s_Stock_names) (defBody s_Stock_names) (defScope s_Stock_names) .none kV11 dc11 pm11 an11 cd11 ct11),sl11⟩) (c11:PySem.W.codeIn K cd11 "Stock.names"=true) (n11:PySem.W.isFn K (.ref f11)=true) (k11:PySem.W.keepIn K (.ref f11)=true)
    (a12:PySem.W.findIn K (.ref xRule) "__init__"=some (some (.ref f12))) (l12:K.lookup f12=some ⟨oc12,od12,.func (PySem.W.fnOf "__init__" "Rule.__init__" (defArgs s_Rule_init) (defBody s_Rule_init) (defScope s_Rule_init) .none kV12 dc12 pm12 an12 cd12 ct12),sl12⟩) (c12:PySem.W.codeIn K cd12 "Rule.__init__"=true) (n12:PySem.W.isFn K (.ref f12)=true) (k12:PySem.W.keepIn K (.ref xRule)=true) (m12:PySem.W.makesIn K xRule=true) (kf12:PySem.W.keepIn K (.ref f12)=true)
    (fc12:PySem.W.findCls K (.ref xRule) (.type "type") "__init__"=some (.val (.ref f12))) (sc12:PySem.W.specialIn K (.ref xRule) "__getattribute__"=some (some (.builtin "type.__getattribute__"))) (rc12:PySem.W.readsIn K xRule (.type "type")=true)
    (a13:PySem.W.findIn K (.ref xRanked) "__init__"=some (some (.ref f13))) (l13:K.lookup f13=some ⟨oc13,od13,.func (PySem.W.fnOf "__init__" "Ranked.__init__" (defArgs s_Ranked_init) (defBody s_Ranked_init) (defScope s_Ranked_init) .none kV13 dc13 pm13 an13 cd13 ct13),sl13⟩) (c13:PySem.W.codeIn K cd13 "Ranked.__init__"=true) (n13:PySem.W.isFn K (.ref f13)=true) (k13:PySem.W.keepIn K (.ref xRanked)=true) (m13:PySem.W.makesIn K xRanked=true) (kf13:PySem.W.keepIn K (.ref f13)=true)
    (fc13:PySem.W.findCls K (.ref xRanked) (.type "type") "__init__"=some (.val (.ref f13))) (sc13:PySem.W.specialIn K (.ref xRanked) "__getattribute__"=some (some (.builtin "type.__getattribute__"))) (rc13:PySem.W.readsIn K xRanked (.type "type")=true)
    (a14:PySem.W.findIn K (.ref xOldest) "__init__"=some (some (.ref f14))) (l14:K.lookup f14=some ⟨oc14,od14,.func (PySem.W.fnOf "__init__" "Ranked.__init__" (defArgs s_Oldest_init) (defBody s_Oldest_init) (defScope s_Oldest_init) .none kV14 dc14 pm14 an14 cd14 ct14),sl14⟩) (c14:PySem.W.codeIn K cd14 "Ranked.__init__"=true) (n14:PySem.W.isFn K (.ref f14)=true) (k14:PySem.W.keepIn K (.ref xOldest)=true) (m14:PySem.W.makesIn K xOldest=true) (kf14:PySem.W.keepIn K (.ref f14)=true)
    (a15:PySem.W.findIn K (.ref xFirst) "__init__"=some (some (.ref f15))) (l15:K.lookup f15=some ⟨oc15,od15,.func (PySem.W.fnOf "__init__" "First.__init__" (defArgs s_First_init) (defBody s_First_init) (defScope s_First_init) .none kV15 dc15 pm15 an15 cd15 ct15),sl15⟩) (c15:PySem.W.codeIn K cd15 "First.__init__"=true) (n15:PySem.W.isFn K (.ref f15)=true) (k15:PySem.W.keepIn K (.ref xFirst)=true) (m15:PySem.W.makesIn K xFirst=true) (kf15:PySem.W.keepIn K (.ref f15)=true)
    {dt16:Addr} {dk16:Tok} {dn16:Nat} {dq16:Value} {de16:Option Addr} {ds16:Array (Option Value)}
    (a16:PySem.W.findIn K (.ref xHalving) "__init__"=some (some (.ref f16))) (l16:K.lookup f16=some ⟨oc16,od16,.func (PySem.W.fnOf "__init__" "Halving.__init__" (defArgs s_Halving_init) (defBody s_Halving_init) (defScope s_Halving_init) (.ref dt16) kV16 dc16 pm16 an16 cd16 ct16),sl16⟩) (c16:PySem.W.codeIn K cd16 "Halving.__init__"=true) (ld16:K.lookup dt16=some ⟨dq16,de16,.seq #[.int 8 dk16] dn16,ds16⟩) (n16:PySem.W.isFn K (.ref f16)=true) (k16:PySem.W.keepIn K (.ref xHalving)=true) (m16:PySem.W.makesIn K xHalving=true) (kf16:PySem.W.keepIn K (.ref f16)=true)
    (a17:PySem.W.findIn K (.ref xFarthest) "__init__"=some (some (.ref f17))) (l17:K.lookup f17=some ⟨oc17,od17,.func (PySem.W.fnOf "__init__" "Farthest.__init__" (defArgs s_Farthest_init) (defBody s_Farthest_init) (defScope s_Farthest_init) .none kV17 dc17 pm17 an17 cd17 ct17),sl17⟩) (c17:PySem.W.codeIn K cd17 "Farthest.__init__"=true) (n17:PySem.W.isFn K (.ref f17)=true) (k17:PySem.W.keepIn K (.ref xFarthest)=true) (m17:PySem.W.makesIn K xFarthest=true) (kf17:PySem.W.keepIn K (.ref f17)=true)
    (a18:PySem.W.findIn K (.ref xHand) "__init__"=some (some (.ref f18))) (l18:K.lookup f18=some ⟨oc18,od18,.func (PySem.W.fnOf "__init__" "Hand.__init__" (defArgs s_Hand_init) (defBody s_Hand_init) (defScope s_Hand_init) .none kV18 dc18 pm18 an18 cd18 ct18),sl18⟩) (c18:PySem.W.codeIn K cd18 "Hand.__init__"=true) (n18:PySem.W.isFn K (.ref f18)=true) (k18:PySem.W.keepIn K (.ref xHand)=true) (m18:PySem.W.makesIn K xHand=true) (kf18:PySem.W.keepIn K (.ref f18)=true)
    (a19:PySem.W.findIn K (.ref xRows) "__init__"=some (some (.ref f19))) (l19:K.lookup f19=some ⟨oc19,od19,.func (PySem.W.fnOf "__init__" "Rows.__init__" (defArgs s_Rows_init) (defBody s_Rows_init) (defScope s_Rows_init) .none kV19 dc19 pm19 an19 cd19 ct19),sl19⟩) (c19:PySem.W.codeIn K cd19 "Rows.__init__"=true) (n19:PySem.W.isFn K (.ref f19)=true) (k19:PySem.W.keepIn K (.ref xRows)=true) (m19:PySem.W.makesIn K xRows=true) (kf19:PySem.W.keepIn K (.ref f19)=true)
    (a20:PySem.W.findIn K (.ref xDues) "__init__"=some (some (.ref f20))) (l20:K.lookup f20=some ⟨oc20,od20,.func (PySem.W.fnOf "__init__" "Dues.__init__" (defArgs s_Dues_init) (defBody s_Dues_init) (defScope s_Dues_init) .none kV20 dc20 pm20 an20 cd20 ct20),sl20⟩) (c20:PySem.W.codeIn K cd20 "Dues.__init__"=true) (n20:PySem.W.isFn K (.ref f20)=true) (k20:PySem.W.keepIn K (.ref xDues)=true) (m20:PySem.W.makesIn K xDues=true) (kf20:PySem.W.keepIn K (.ref f20)=true)
    (a21:PySem.W.findIn K (.ref xHalving) "halve"=some (some (.ref f21))) (l21:K.lookup f21=some ⟨oc21,od21,.func (PySem.W.fnOf "halve" "Halving.halve" (defArgs s_Halving_halve) (defBody s_Halving_halve) (defScope s_Halving_halve) .none kV21 dc21 pm21 an21 cd21 ct21),sl21⟩) (c21:PySem.W.codeIn K cd21 "Halving.halve"=true) (n21:PySem.W.isFn K (.ref f21)=true) (k21:PySem.W.keepIn K (.ref f21)=true)
    (a22:PySem.W.findIn K (.ref xHalving) "number_ask"=some (some (.ref f22))) (l22:K.lookup f22=some ⟨oc22,od22,.func (PySem.W.fnOf "number_ask" "Ranked.number_ask" (defArgs s_Halving_number_ask) (defBody s_Halving_number_ask) (defScope s_Halving_number_ask) .none kV22 dc22 pm22 an22 cd22 ct22),sl22⟩) (c22:PySem.W.codeIn K cd22 "Ranked.number_ask"=true) (n22:PySem.W.isFn K (.ref f22)=true) (k22:PySem.W.keepIn K (.ref f22)=true)
    (a23:PySem.W.findIn K (.ref xHalving) "asked"=some (some (.ref f23))) (l23:K.lookup f23=some ⟨oc23,od23,.func (PySem.W.fnOf "asked" "Halving.asked" (defArgs s_Halving_asked) (defBody s_Halving_asked) (defScope s_Halving_asked) .none kV23 dc23 pm23 an23 cd23 ct23),sl23⟩) (c23:PySem.W.codeIn K cd23 "Halving.asked"=true) (n23:PySem.W.isFn K (.ref f23)=true) (k23:PySem.W.keepIn K (.ref f23)=true)
    (a24:PySem.W.findIn K (.ref xHalving) "came"=some (some (.ref f24))) (l24:K.lookup f24=some ⟨oc24,od24,.func (PySem.W.fnOf "came" "Rule.came" (defArgs s_Halving_came) (defBody s_Halving_came) (defScope s_Halving_came) .none kV24 dc24 pm24 an24 cd24 ct24),sl24⟩) (c24:PySem.W.codeIn K cd24 "Rule.came"=true) (n24:PySem.W.isFn K (.ref f24)=true) (k24:PySem.W.keepIn K (.ref f24)=true)
    (a25:PySem.W.findIn K (.ref xHalving) "counts"=some (some (.ref f25))) (l25:K.lookup f25=some ⟨oc25,od25,.func (PySem.W.fnOf "counts" "Halving.counts" (defArgs s_Halving_counts) (defBody s_Halving_counts) (defScope s_Halving_counts) .none kV25 dc25 pm25 an25 cd25 ct25),sl25⟩) (c25:PySem.W.codeIn K cd25 "Halving.counts"=true) (n25:PySem.W.isFn K (.ref f25)=true) (k25:PySem.W.keepIn K (.ref f25)=true)
    (a26:PySem.W.findIn K (.ref xFarthest) "number_ask"=some (some (.ref f26))) (l26:K.lookup f26=some ⟨oc26,od26,.func (PySem.W.fnOf "number_ask" "Ranked.number_ask" (defArgs s_Farthest_number_ask) (defBody s_Farthest_number_ask) (defScope s_Farthest_number_ask) .none kV26 dc26 pm26 an26 cd26 ct26),sl26⟩) (c26:PySem.W.codeIn K cd26 "Ranked.number_ask"=true) (n26:PySem.W.isFn K (.ref f26)=true) (k26:PySem.W.keepIn K (.ref f26)=true)
    (a27:PySem.W.findIn K (.ref xFarthest) "coming_of"=some (some (.ref f27))) (l27:K.lookup f27=some ⟨oc27,od27,.func (PySem.W.fnOf "coming_of" "Farthest.coming_of" (defArgs s_Farthest_coming_of) (defBody s_Farthest_coming_of) (defScope s_Farthest_coming_of) .none kV27 dc27 pm27 an27 cd27 ct27),sl27⟩) (c27:PySem.W.codeIn K cd27 "Farthest.coming_of"=true) (n27:PySem.W.isFn K (.ref f27)=true) (k27:PySem.W.keepIn K (.ref f27)=true)
    (a28:PySem.W.findIn K (.ref xFarthest) "asked"=some (some (.ref f28))) (l28:K.lookup f28=some ⟨oc28,od28,.func (PySem.W.fnOf "asked" "Ranked.asked" (defArgs s_Farthest_asked) (defBody s_Farthest_asked) (defScope s_Farthest_asked) .none kV28 dc28 pm28 an28 cd28 ct28),sl28⟩) (c28:PySem.W.codeIn K cd28 "Ranked.asked"=true) (n28:PySem.W.isFn K (.ref f28)=true) (k28:PySem.W.keepIn K (.ref f28)=true)
    (a29:PySem.W.findIn K (.ref xFarthest) "came"=some (some (.ref f29))) (l29:K.lookup f29=some ⟨oc29,od29,.func (PySem.W.fnOf "came" "Rule.came" (defArgs s_Farthest_came) (defBody s_Farthest_came) (defScope s_Farthest_came) .none kV29 dc29 pm29 an29 cd29 ct29),sl29⟩) (c29:PySem.W.codeIn K cd29 "Rule.came"=true) (n29:PySem.W.isFn K (.ref f29)=true) (k29:PySem.W.keepIn K (.ref f29)=true)
    (a30:PySem.W.findIn K (.ref xFarthest) "last_of"=some (some (.ref f30))) (l30:K.lookup f30=some ⟨oc30,od30,.func (PySem.W.fnOf "last_of" "Ranked.last_of" (defArgs s_Farthest_last_of) (defBody s_Farthest_last_of) (defScope s_Farthest_last_of) .none kV30 dc30 pm30 an30 cd30 ct30),sl30⟩) (c30:PySem.W.codeIn K cd30 "Ranked.last_of"=true) (n30:PySem.W.isFn K (.ref f30)=true) (k30:PySem.W.keepIn K (.ref f30)=true)
    (a31:PySem.W.findIn K (.ref xFarthest) "rank"=some (some (.ref f31))) (l31:K.lookup f31=some ⟨oc31,od31,.func (PySem.W.fnOf "rank" "Farthest.rank" (defArgs s_Farthest_rank) (defBody s_Farthest_rank) (defScope s_Farthest_rank) .none kV31 dc31 pm31 an31 cd31 ct31),sl31⟩) (c31:PySem.W.codeIn K cd31 "Farthest.rank"=true) (n31:PySem.W.isFn K (.ref f31)=true) (k31:PySem.W.keepIn K (.ref f31)=true)
    (a32:PySem.W.nsIn K mainGlobals "make_oldest"=some (some (.ref f32))) (l32:K.lookup f32=some ⟨oc32,od32,.func (PySem.W.fnOf "make_oldest" "make_oldest" (defArgs s_make_oldest) (defBody s_make_oldest) (defScope s_make_oldest) .none kV32 dc32 pm32 an32 cd32 ct32),sl32⟩) (c32:PySem.W.codeIn K cd32 "make_oldest"=true) (k32:PySem.W.keepIn K (.ref f32)=true)
    (a33:PySem.W.nsIn K mainGlobals "make_first"=some (some (.ref f33))) (l33:K.lookup f33=some ⟨oc33,od33,.func (PySem.W.fnOf "make_first" "make_first" (defArgs s_make_first) (defBody s_make_first) (defScope s_make_first) .none kV33 dc33 pm33 an33 cd33 ct33),sl33⟩) (c33:PySem.W.codeIn K cd33 "make_first"=true) (k33:PySem.W.keepIn K (.ref f33)=true)
    (a34:PySem.W.nsIn K mainGlobals "make_halving"=some (some (.ref f34))) (l34:K.lookup f34=some ⟨oc34,od34,.func (PySem.W.fnOf "make_halving" "make_halving" (defArgs s_make_halving) (defBody s_make_halving) (defScope s_make_halving) .none kV34 dc34 pm34 an34 cd34 ct34),sl34⟩) (c34:PySem.W.codeIn K cd34 "make_halving"=true) (k34:PySem.W.keepIn K (.ref f34)=true)
    (a35:PySem.W.nsIn K mainGlobals "make_farthest"=some (some (.ref f35))) (l35:K.lookup f35=some ⟨oc35,od35,.func (PySem.W.fnOf "make_farthest" "make_farthest" (defArgs s_make_farthest) (defBody s_make_farthest) (defScope s_make_farthest) .none kV35 dc35 pm35 an35 cd35 ct35),sl35⟩) (c35:PySem.W.codeIn K cd35 "make_farthest"=true) (k35:PySem.W.keepIn K (.ref f35)=true)
    (a36:PySem.W.nsIn K mainGlobals "make_hand"=some (some (.ref f36))) (l36:K.lookup f36=some ⟨oc36,od36,.func (PySem.W.fnOf "make_hand" "make_hand" (defArgs s_make_hand) (defBody s_make_hand) (defScope s_make_hand) .none kV36 dc36 pm36 an36 cd36 ct36),sl36⟩) (c36:PySem.W.codeIn K cd36 "make_hand"=true) (k36:PySem.W.keepIn K (.ref f36)=true)
    (a37:PySem.W.nsIn K mainGlobals "make_rows"=some (some (.ref f37))) (l37:K.lookup f37=some ⟨oc37,od37,.func (PySem.W.fnOf "make_rows" "make_rows" (defArgs s_make_rows) (defBody s_make_rows) (defScope s_make_rows) .none kV37 dc37 pm37 an37 cd37 ct37),sl37⟩) (c37:PySem.W.codeIn K cd37 "make_rows"=true) (k37:PySem.W.keepIn K (.ref f37)=true)
    (a38:PySem.W.nsIn K mainGlobals "make_dues"=some (some (.ref f38))) (l38:K.lookup f38=some ⟨oc38,od38,.func (PySem.W.fnOf "make_dues" "make_dues" (defArgs s_make_dues) (defBody s_make_dues) (defScope s_make_dues) .none kV38 dc38 pm38 an38 cd38 ct38),sl38⟩) (c38:PySem.W.codeIn K cd38 "make_dues"=true) (k38:PySem.W.keepIn K (.ref f38)=true)
    (a39:PySem.W.nsIn K mainGlobals "maker_of"=some (some (.ref f39))) (l39:K.lookup f39=some ⟨oc39,od39,.func (PySem.W.fnOf "maker_of" "maker_of" (defArgs s_maker_of) (defBody s_maker_of) (defScope s_maker_of) .none kV39 dc39 pm39 an39 cd39 ct39),sl39⟩) (c39:PySem.W.codeIn K cd39 "maker_of"=true) (k39:PySem.W.keepIn K (.ref f39)=true)
    (a40:PySem.W.nsIn K mainGlobals "_law_cell_at"=some (some (.ref f40))) (l40:K.lookup f40=some ⟨oc40,od40,.func (PySem.W.fnOf "_law_cell_at" "_law_cell_at" (defArgs s_l_cell_at) (defBody s_l_cell_at) (defScope s_l_cell_at) .none kV40 dc40 pm40 an40 cd40 ct40),sl40⟩) (c40:PySem.W.codeIn K cd40 "_law_cell_at"=true) (k40:PySem.W.keepIn K (.ref f40)=true)
    (a41:PySem.W.nsIn K mainGlobals "_law_mixed"=some (some (.ref f41))) (l41:K.lookup f41=some ⟨oc41,od41,.func (PySem.W.fnOf "_law_mixed" "_law_mixed" (defArgs s_l_mixed) (defBody s_l_mixed) (defScope s_l_mixed) .none kV41 dc41 pm41 an41 cd41 ct41),sl41⟩) (c41:PySem.W.codeIn K cd41 "_law_mixed"=true) (k41:PySem.W.keepIn K (.ref f41)=true)
    (a42:PySem.W.nsIn K mainGlobals "_law_names"=some (some (.ref f42))) (l42:K.lookup f42=some ⟨oc42,od42,.func (PySem.W.fnOf "_law_names" "_law_names" (defArgs s_l_names) (defBody s_l_names) (defScope s_l_names) .none kV42 dc42 pm42 an42 cd42 ct42),sl42⟩) (c42:PySem.W.codeIn K cd42 "_law_names"=true) (k42:PySem.W.keepIn K (.ref f42)=true)
    (a43:PySem.W.nsIn K mainGlobals "_law_room"=some (some (.ref f43))) (l43:K.lookup f43=some ⟨oc43,od43,.func (PySem.W.fnOf "_law_room" "_law_room" (defArgs s_l_room) (defBody s_l_room) (defScope s_l_room) .none kV43 dc43 pm43 an43 cd43 ct43),sl43⟩) (c43:PySem.W.codeIn K cd43 "_law_room"=true) (k43:PySem.W.keepIn K (.ref f43)=true)
    (a44:PySem.W.nsIn K mainGlobals "_law_places"=some (some (.ref f44))) (l44:K.lookup f44=some ⟨oc44,od44,.func (PySem.W.fnOf "_law_places" "_law_places" (defArgs s_l_places) (defBody s_l_places) (defScope s_l_places) .none kV44 dc44 pm44 an44 cd44 ct44),sl44⟩) (c44:PySem.W.codeIn K cd44 "_law_places"=true) (k44:PySem.W.keepIn K (.ref f44)=true)
    (a45:PySem.W.nsIn K mainGlobals "_law_kinds"=some (some (.ref f45))) (l45:K.lookup f45=some ⟨oc45,od45,.func (PySem.W.fnOf "_law_kinds" "_law_kinds" (defArgs s_l_kinds) (defBody s_l_kinds) (defScope s_l_kinds) .none kV45 dc45 pm45 an45 cd45 ct45),sl45⟩) (c45:PySem.W.codeIn K cd45 "_law_kinds"=true) (k45:PySem.W.keepIn K (.ref f45)=true)
    (a46:PySem.W.nsIn K mainGlobals "_law_halving_good"=some (some (.ref f46))) (l46:K.lookup f46=some ⟨oc46,od46,.func (PySem.W.fnOf "_law_halving_good" "_law_halving_good" (defArgs s_l_halving_good) (defBody s_l_halving_good) (defScope s_l_halving_good) .none kV46 dc46 pm46 an46 cd46 ct46),sl46⟩) (c46:PySem.W.codeIn K cd46 "_law_halving_good"=true) (k46:PySem.W.keepIn K (.ref f46)=true)
    (a47:PySem.W.nsIn K mainGlobals "_law_farthest_good"=some (some (.ref f47))) (l47:K.lookup f47=some ⟨oc47,od47,.func (PySem.W.fnOf "_law_farthest_good" "_law_farthest_good" (defArgs s_l_farthest_good) (defBody s_l_farthest_good) (defScope s_l_farthest_good) .none kV47 dc47 pm47 an47 cd47 ct47),sl47⟩) (c47:PySem.W.codeIn K cd47 "_law_farthest_good"=true) (k47:PySem.W.keepIn K (.ref f47)=true)
    (a48:PySem.W.nsIn K mainGlobals "_law_refused"=some (some (.ref f48))) (l48:K.lookup f48=some ⟨oc48,od48,.func (PySem.W.fnOf "_law_refused" "_law_refused" (defArgs s_l_refused) (defBody s_l_refused) (defScope s_l_refused) .none kV48 dc48 pm48 an48 cd48 ct48),sl48⟩) (c48:PySem.W.codeIn K cd48 "_law_refused"=true) (k48:PySem.W.keepIn K (.ref f48)=true)
    (a49:PySem.W.nsIn K mainGlobals "law"=some (some (.ref f49))) (l49:K.lookup f49=some ⟨oc49,od49,.func (PySem.W.fnOf "law" "law" (defArgs s_law) (defBody s_law) (defScope s_law) .none kV49 dc49 pm49 an49 cd49 ct49),sl49⟩) (c49:PySem.W.codeIn K cd49 "law"=true) (k49:PySem.W.keepIn K (.ref f49)=true)
    (z_len:PySem.W.nsIn K mainGlobals "len"=some none)
    (z_isinstance:PySem.W.nsIn K mainGlobals "isinstance"=some none)
    (z_int:PySem.W.nsIn K mainGlobals "int"=some none)
    (z_bool:PySem.W.nsIn K mainGlobals "bool"=some none)
    (z_str:PySem.W.nsIn K mainGlobals "str"=some none)
    (z_list:PySem.W.nsIn K mainGlobals "list"=some none)
    (z_tuple:PySem.W.nsIn K mainGlobals "tuple"=some none)
    (z_all:PySem.W.nsIn K mainGlobals "all"=some none)
    (z_range:PySem.W.nsIn K mainGlobals "range"=some none)
    (z_sum:PySem.W.nsIn K mainGlobals "sum"=some none)
    (z_enumerate:PySem.W.nsIn K mainGlobals "enumerate"=some none)
    (z_zip:PySem.W.nsIn K mainGlobals "zip"=some none)
    (z_max:PySem.W.nsIn K mainGlobals "max"=some none)
    (z_min:PySem.W.nsIn K mainGlobals "min"=some none)
    (z_dict:PySem.W.nsIn K mainGlobals "dict"=some none)
    (z_ValueError:PySem.W.nsIn K mainGlobals "ValueError"=some none)
    {tk_LETTERS:Tok} (g_LETTERS:PySem.W.nsIn K mainGlobals "LETTERS"=some (some (.str "abcdefghijklmnopqrstuvwxyz" tk_LETTERS)))
    {tk_FIGURES:Tok} (g_FIGURES:PySem.W.nsIn K mainGlobals "FIGURES"=some (some (.str "0123456789" tk_FIGURES)))
    {tk_MOST_SIGNS:Tok} (g_MOST_SIGNS:PySem.W.nsIn K mainGlobals "MOST_SIGNS"=some (some (.int 8 tk_MOST_SIGNS)))
    {tk_MOST_THINGS:Tok} (g_MOST_THINGS:PySem.W.nsIn K mainGlobals "MOST_THINGS"=some (some (.int 60 tk_MOST_THINGS)))
    {tk_MOST_ROOM:Tok} (g_MOST_ROOM:PySem.W.nsIn K mainGlobals "MOST_ROOM"=some (some (.int 1000 tk_MOST_ROOM)))
    {tk_MOST_PLACES:Tok} (g_MOST_PLACES:PySem.W.nsIn K mainGlobals "MOST_PLACES"=some (some (.int 1000000 tk_MOST_PLACES)))
    {tk_MOST_ASKS:Tok} (g_MOST_ASKS:PySem.W.nsIn K mainGlobals "MOST_ASKS"=some (some (.int 200 tk_MOST_ASKS)))
    {tk_MOST_TURN:Tok} (g_MOST_TURN:PySem.W.nsIn K mainGlobals "MOST_TURN"=some (some (.int 200 tk_MOST_TURN)))
    (a_Stock:PySem.W.nsIn K mainGlobals "Stock"=some (some (.ref xStock))) (pg_Stock:PySem.W.plainGet K xStock Str.empty=true) (hd_Stock:PySem.W.hasDictIn K xStock=true) (po_Stock:PySem.W.plainOver K xStock=true) (sa_Stock:PySem.W.findIn K (.ref xStock) "__setattr__"=some (some (.builtin "object.__setattr__")))
    (n_Stock_things:PySem.W.findIn K (.ref xStock) "things"=some none)
    (a_Rule:PySem.W.nsIn K mainGlobals "Rule"=some (some (.ref xRule))) (pg_Rule:PySem.W.plainGet K xRule Str.empty=true) (hd_Rule:PySem.W.hasDictIn K xRule=true) (po_Rule:PySem.W.plainOver K xRule=true) (sa_Rule:PySem.W.findIn K (.ref xRule) "__setattr__"=some (some (.builtin "object.__setattr__")))
    (n_Rule_stock:PySem.W.findIn K (.ref xRule) "stock"=some none)
    (n_Rule_places:PySem.W.findIn K (.ref xRule) "places"=some none)
    (a_Ranked:PySem.W.nsIn K mainGlobals "Ranked"=some (some (.ref xRanked))) (pg_Ranked:PySem.W.plainGet K xRanked Str.empty=true) (hd_Ranked:PySem.W.hasDictIn K xRanked=true) (po_Ranked:PySem.W.plainOver K xRanked=true) (sa_Ranked:PySem.W.findIn K (.ref xRanked) "__setattr__"=some (some (.builtin "object.__setattr__")))
    (n_Ranked_stock:PySem.W.findIn K (.ref xRanked) "stock"=some none)
    (n_Ranked_places:PySem.W.findIn K (.ref xRanked) "places"=some none)
    (n_Ranked_present:PySem.W.findIn K (.ref xRanked) "present"=some none)
    (n_Ranked_last:PySem.W.findIn K (.ref xRanked) "last"=some none)
    (a_Oldest:PySem.W.nsIn K mainGlobals "Oldest"=some (some (.ref xOldest))) (pg_Oldest:PySem.W.plainGet K xOldest Str.empty=true) (hd_Oldest:PySem.W.hasDictIn K xOldest=true) (po_Oldest:PySem.W.plainOver K xOldest=true) (sa_Oldest:PySem.W.findIn K (.ref xOldest) "__setattr__"=some (some (.builtin "object.__setattr__")))
    (n_Oldest_stock:PySem.W.findIn K (.ref xOldest) "stock"=some none)
    (n_Oldest_places:PySem.W.findIn K (.ref xOldest) "places"=some none)
    (n_Oldest_present:PySem.W.findIn K (.ref xOldest) "present"=some none)
    (n_Oldest_last:PySem.W.findIn K (.ref xOldest) "last"=some none)
    (a_First:PySem.W.nsIn K mainGlobals "First"=some (some (.ref xFirst))) (pg_First:PySem.W.plainGet K xFirst Str.empty=true) (hd_First:PySem.W.hasDictIn K xFirst=true) (po_First:PySem.W.plainOver K xFirst=true) (sa_First:PySem.W.findIn K (.ref xFirst) "__setattr__"=some (some (.builtin "object.__setattr__")))
    (n_First_stock:PySem.W.findIn K (.ref xFirst) "stock"=some none)
    (n_First_places:PySem.W.findIn K (.ref xFirst) "places"=some none)
    (n_First_present:PySem.W.findIn K (.ref xFirst) "present"=some none)
    (n_First_last:PySem.W.findIn K (.ref xFirst) "last"=some none)
    (n_First_put_at:PySem.W.findIn K (.ref xFirst) "put_at"=some none)
    (a_Halving:PySem.W.nsIn K mainGlobals "Halving"=some (some (.ref xHalving))) (pg_Halving:PySem.W.plainGet K xHalving Str.empty=true) (hd_Halving:PySem.W.hasDictIn K xHalving=true) (po_Halving:PySem.W.plainOver K xHalving=true) (sa_Halving:PySem.W.findIn K (.ref xHalving) "__setattr__"=some (some (.builtin "object.__setattr__")))
    (n_Halving_stock:PySem.W.findIn K (.ref xHalving) "stock"=some none)
    (n_Halving_places:PySem.W.findIn K (.ref xHalving) "places"=some none)
    (n_Halving_present:PySem.W.findIn K (.ref xHalving) "present"=some none)
    (n_Halving_last:PySem.W.findIn K (.ref xHalving) "last"=some none)
    (n_Halving_turn:PySem.W.findIn K (.ref xHalving) "turn"=some none)
    (n_Halving_tally:PySem.W.findIn K (.ref xHalving) "tally"=some none)
    (a_Farthest:PySem.W.nsIn K mainGlobals "Farthest"=some (some (.ref xFarthest))) (pg_Farthest:PySem.W.plainGet K xFarthest Str.empty=true) (hd_Farthest:PySem.W.hasDictIn K xFarthest=true) (po_Farthest:PySem.W.plainOver K xFarthest=true) (sa_Farthest:PySem.W.findIn K (.ref xFarthest) "__setattr__"=some (some (.builtin "object.__setattr__")))
    (n_Farthest_stock:PySem.W.findIn K (.ref xFarthest) "stock"=some none)
    (n_Farthest_places:PySem.W.findIn K (.ref xFarthest) "places"=some none)
    (n_Farthest_present:PySem.W.findIn K (.ref xFarthest) "present"=some none)
    (n_Farthest_last:PySem.W.findIn K (.ref xFarthest) "last"=some none)
    (n_Farthest_asks:PySem.W.findIn K (.ref xFarthest) "asks"=some none)
    (a_Hand:PySem.W.nsIn K mainGlobals "Hand"=some (some (.ref xHand))) (pg_Hand:PySem.W.plainGet K xHand Str.empty=true) (hd_Hand:PySem.W.hasDictIn K xHand=true) (po_Hand:PySem.W.plainOver K xHand=true) (sa_Hand:PySem.W.findIn K (.ref xHand) "__setattr__"=some (some (.builtin "object.__setattr__")))
    (n_Hand_stock:PySem.W.findIn K (.ref xHand) "stock"=some none)
    (n_Hand_places:PySem.W.findIn K (.ref xHand) "places"=some none)
    (n_Hand_order:PySem.W.findIn K (.ref xHand) "order"=some none)
    (n_Hand_marked:PySem.W.findIn K (.ref xHand) "marked"=some none)
    (a_Rows:PySem.W.nsIn K mainGlobals "Rows"=some (some (.ref xRows))) (pg_Rows:PySem.W.plainGet K xRows Str.empty=true) (hd_Rows:PySem.W.hasDictIn K xRows=true) (po_Rows:PySem.W.plainOver K xRows=true) (sa_Rows:PySem.W.findIn K (.ref xRows) "__setattr__"=some (some (.builtin "object.__setattr__")))
    (n_Rows_stock:PySem.W.findIn K (.ref xRows) "stock"=some none)
    (n_Rows_places:PySem.W.findIn K (.ref xRows) "places"=some none)
    (n_Rows_once:PySem.W.findIn K (.ref xRows) "once"=some none)
    (n_Rows_again:PySem.W.findIn K (.ref xRows) "again"=some none)
    (n_Rows_past_once:PySem.W.findIn K (.ref xRows) "past_once"=some none)
    (n_Rows_past_again:PySem.W.findIn K (.ref xRows) "past_again"=some none)
    (n_Rows_bound:PySem.W.findIn K (.ref xRows) "bound"=some none)
    (n_Rows_returns:PySem.W.findIn K (.ref xRows) "returns"=some none)
    (a_Dues:PySem.W.nsIn K mainGlobals "Dues"=some (some (.ref xDues))) (pg_Dues:PySem.W.plainGet K xDues Str.empty=true) (hd_Dues:PySem.W.hasDictIn K xDues=true) (po_Dues:PySem.W.plainOver K xDues=true) (sa_Dues:PySem.W.findIn K (.ref xDues) "__setattr__"=some (some (.builtin "object.__setattr__")))
    (n_Dues_stock:PySem.W.findIn K (.ref xDues) "stock"=some none)
    (n_Dues_places:PySem.W.findIn K (.ref xDues) "places"=some none)
    (n_Dues_reached:PySem.W.findIn K (.ref xDues) "reached"=some none)
    (n_Dues_dues:PySem.W.findIn K (.ref xDues) "dues"=some none)
    (n_Dues_rises:PySem.W.findIn K (.ref xDues) "rises"=some none)
    (a_CastError:PySem.W.nsIn K mainGlobals "CastError"=some (some (.ref xCastError)))
    (a_NoRule:PySem.W.nsIn K mainGlobals "NoRule"=some (some (.ref xNoRule)))
    (a_NoNumber:PySem.W.nsIn K mainGlobals "NoNumber"=some (some (.ref xNoNumber)))
    {cA oA:Value} {dA eA:Option Addr} {cdA:ClassData} {slA smA:Array (Option Value)} {esA:Array DictEntry} {epA:Nat} (lA:K.lookup xCastError=some ⟨cA,dA,.cls cdA,slA⟩) (lNA:K.lookup cdA.ns=some ⟨oA,eA,.dict esA epA,smA⟩) (sNA:strKeysB esA=true) (iNA:nsFind esA "__init__"=none)
    {nm_NoRule q_NoRule:Str} {N_NoRule:Addr} {bs_NoRule:List Value} {hd_NoRule:Bool} {sn_NoRule:List Str} {su_NoRule:List Value} {ab_NoRule:Bool} {co_NoRule:Option Bool} {dd_NoRule:Option Addr} {k0_NoRule k1_NoRule k2_NoRule k3_NoRule k5_NoRule:Option Value} {oc_NoRule:Value} {od_NoRule:Option Addr} {es_NoRule:Array DictEntry} {ep_NoRule:Nat} {sl_NoRule:Array (Option Value)}
    (lC_NoRule:K.lookup xNoRule=some (excClassObj nm_NoRule q_NoRule xNoRule N_NoRule bs_NoRule [.ref xCastError,.type "ValueError",.type "Exception",.type "BaseException",.type "object"] hd_NoRule sn_NoRule su_NoRule ab_NoRule co_NoRule dd_NoRule k0_NoRule k1_NoRule k2_NoRule k3_NoRule k5_NoRule "ValueError.__new__")) (lN_NoRule:K.lookup N_NoRule=some ⟨oc_NoRule,od_NoRule,.dict es_NoRule ep_NoRule,sl_NoRule⟩) (sN_NoRule:strKeysB es_NoRule=true) (iN_NoRule:nsFind es_NoRule "__init__"=none)
    (kc_NoRule:PySem.W.keepIn K (.ref xNoRule)=true)
    (ga_NoRule:PySem.W.findIn K (.ref xNoRule) "__getattribute__"=some (some (.builtin "BaseException.__getattribute__"))) (gh_NoRule:PySem.W.findIn K (.ref xNoRule) "__getattr__"=some none)
    (gs_:PySem.W.specialIn K (.builtin "object.__class__") "__get__"=some (some (.builtin "getset_descriptor.__get__"))) (tk_:PySem.W.takesIn K (.builtin "object.__class__")=some true)
    {wd_NoRule:ClassData} (wc_NoRule:PySem.W.clsIn K xNoRule=some wd_NoRule) (wt_NoRule:PySem.W.typeIn K (.ref xNoRule)=some (.type "type"))
    {wd_NoNumber:ClassData} (wc_NoNumber:PySem.W.clsIn K xNoNumber=some wd_NoNumber) (wt_NoNumber:PySem.W.typeIn K (.ref xNoNumber)=some (.type "type"))
    {wd_CastError:ClassData} (wc_CastError:PySem.W.clsIn K xCastError=some wd_CastError) (wt_CastError:PySem.W.typeIn K (.ref xCastError)=some (.type "type"))
    (wa_NoRule:PySem.W.findIn K (.ref xNoRule) "__class__"=some (some (.builtin "object.__class__"))) (wb_NoRule:PySem.W.mroIn K xNoRule (.type "BaseException")=some true) (wo_NoRule:PySem.W.mroIn K xNoRule (.type "object")=some true) (ws_NoRule:PySem.W.subIn K (.ref xNoRule) (.ref xNoRule)=some true) (wv_NoRule:PySem.W.subIn K (.ref xNoRule) (.type "ValueError")=some true) (we_NoRule:PySem.W.subIn K (.ref xNoRule) (.ref xCastError)=some true)
    (w_NoRule_NoRule:PySem.W.subIn K (.ref xNoRule) (.ref xNoRule)=some true)
    (w_NoRule_NoNumber:PySem.W.subIn K (.ref xNoRule) (.ref xNoNumber)=some false)
    {cc_CastError:ClassData} (b_CastError:PySem.W.subIn K (.ref xCastError) (.type "BaseException")=some true) (cl_CastError:PySem.W.clsIn K xCastError=some cc_CastError) (ty_CastError:PySem.W.typeIn K (.ref xCastError)=some (.type "type"))
    (s_NoRule_CastError:PySem.W.subIn K (.ref xNoRule) (.ref xCastError)=some true)
    {cc_Dues:ClassData} (cl_Dues:PySem.W.clsIn K xDues=some cc_Dues) (ty_Dues:PySem.W.typeIn K (.ref xDues)=some (.type "type"))
    {cc_Farthest:ClassData} (cl_Farthest:PySem.W.clsIn K xFarthest=some cc_Farthest) (ty_Farthest:PySem.W.typeIn K (.ref xFarthest)=some (.type "type"))
    {cc_First:ClassData} (cl_First:PySem.W.clsIn K xFirst=some cc_First) (ty_First:PySem.W.typeIn K (.ref xFirst)=some (.type "type"))
    {cc_Halving:ClassData} (cl_Halving:PySem.W.clsIn K xHalving=some cc_Halving) (ty_Halving:PySem.W.typeIn K (.ref xHalving)=some (.type "type"))
    {cc_Hand:ClassData} (cl_Hand:PySem.W.clsIn K xHand=some cc_Hand) (ty_Hand:PySem.W.typeIn K (.ref xHand)=some (.type "type"))
    {cc_Oldest:ClassData} (cl_Oldest:PySem.W.clsIn K xOldest=some cc_Oldest) (ty_Oldest:PySem.W.typeIn K (.ref xOldest)=some (.type "type"))
    {cc_Rows:ClassData} (cl_Rows:PySem.W.clsIn K xRows=some cc_Rows) (ty_Rows:PySem.W.typeIn K (.ref xRows)=some (.type "type"))
    (wa_Dues:PySem.W.findIn K (.ref xDues) "__class__"=some (some (.builtin "object.__class__"))) (wo_Dues:PySem.W.mroIn K xDues (.type "object")=some true)
    (wa_Farthest:PySem.W.findIn K (.ref xFarthest) "__class__"=some (some (.builtin "object.__class__"))) (wo_Farthest:PySem.W.mroIn K xFarthest (.type "object")=some true)
    (wa_First:PySem.W.findIn K (.ref xFirst) "__class__"=some (some (.builtin "object.__class__"))) (wo_First:PySem.W.mroIn K xFirst (.type "object")=some true)
    (wa_Halving:PySem.W.findIn K (.ref xHalving) "__class__"=some (some (.builtin "object.__class__"))) (wo_Halving:PySem.W.mroIn K xHalving (.type "object")=some true)
    (wa_Hand:PySem.W.findIn K (.ref xHand) "__class__"=some (some (.builtin "object.__class__"))) (wo_Hand:PySem.W.mroIn K xHand (.type "object")=some true)
    (wa_Oldest:PySem.W.findIn K (.ref xOldest) "__class__"=some (some (.builtin "object.__class__"))) (wo_Oldest:PySem.W.mroIn K xOldest (.type "object")=some true)
    (wa_Rows:PySem.W.findIn K (.ref xRows) "__class__"=some (some (.builtin "object.__class__"))) (wo_Rows:PySem.W.mroIn K xRows (.type "object")=some true)
    (s_Dues_Dues:PySem.W.subIn K (.ref xDues) (.ref xDues)=some true)
    (s_Dues_Farthest:PySem.W.subIn K (.ref xDues) (.ref xFarthest)=some false)
    (s_Dues_First:PySem.W.subIn K (.ref xDues) (.ref xFirst)=some false)
    (s_Dues_Halving:PySem.W.subIn K (.ref xDues) (.ref xHalving)=some false)
    (s_Dues_Hand:PySem.W.subIn K (.ref xDues) (.ref xHand)=some false)
    (s_Dues_Oldest:PySem.W.subIn K (.ref xDues) (.ref xOldest)=some false)
    (s_Dues_Rows:PySem.W.subIn K (.ref xDues) (.ref xRows)=some false)
    (s_Farthest_Dues:PySem.W.subIn K (.ref xFarthest) (.ref xDues)=some false)
    (s_Farthest_Farthest:PySem.W.subIn K (.ref xFarthest) (.ref xFarthest)=some true)
    (s_Farthest_First:PySem.W.subIn K (.ref xFarthest) (.ref xFirst)=some false)
    (s_Farthest_Halving:PySem.W.subIn K (.ref xFarthest) (.ref xHalving)=some false)
    (s_Farthest_Hand:PySem.W.subIn K (.ref xFarthest) (.ref xHand)=some false)
    (s_Farthest_Oldest:PySem.W.subIn K (.ref xFarthest) (.ref xOldest)=some false)
    (s_Farthest_Rows:PySem.W.subIn K (.ref xFarthest) (.ref xRows)=some false)
    (s_First_Dues:PySem.W.subIn K (.ref xFirst) (.ref xDues)=some false)
    (s_First_Farthest:PySem.W.subIn K (.ref xFirst) (.ref xFarthest)=some false)
    (s_First_First:PySem.W.subIn K (.ref xFirst) (.ref xFirst)=some true)
    (s_First_Halving:PySem.W.subIn K (.ref xFirst) (.ref xHalving)=some false)
    (s_First_Hand:PySem.W.subIn K (.ref xFirst) (.ref xHand)=some false)
    (s_First_Oldest:PySem.W.subIn K (.ref xFirst) (.ref xOldest)=some false)
    (s_First_Rows:PySem.W.subIn K (.ref xFirst) (.ref xRows)=some false)
    (s_Halving_Dues:PySem.W.subIn K (.ref xHalving) (.ref xDues)=some false)
    (s_Halving_Farthest:PySem.W.subIn K (.ref xHalving) (.ref xFarthest)=some false)
    (s_Halving_First:PySem.W.subIn K (.ref xHalving) (.ref xFirst)=some false)
    (s_Halving_Halving:PySem.W.subIn K (.ref xHalving) (.ref xHalving)=some true)
    (s_Halving_Hand:PySem.W.subIn K (.ref xHalving) (.ref xHand)=some false)
    (s_Halving_Oldest:PySem.W.subIn K (.ref xHalving) (.ref xOldest)=some false)
    (s_Halving_Rows:PySem.W.subIn K (.ref xHalving) (.ref xRows)=some false)
    (s_Hand_Dues:PySem.W.subIn K (.ref xHand) (.ref xDues)=some false)
    (s_Hand_Farthest:PySem.W.subIn K (.ref xHand) (.ref xFarthest)=some false)
    (s_Hand_First:PySem.W.subIn K (.ref xHand) (.ref xFirst)=some false)
    (s_Hand_Halving:PySem.W.subIn K (.ref xHand) (.ref xHalving)=some false)
    (s_Hand_Hand:PySem.W.subIn K (.ref xHand) (.ref xHand)=some true)
    (s_Hand_Oldest:PySem.W.subIn K (.ref xHand) (.ref xOldest)=some false)
    (s_Hand_Rows:PySem.W.subIn K (.ref xHand) (.ref xRows)=some false)
    (s_Oldest_Dues:PySem.W.subIn K (.ref xOldest) (.ref xDues)=some false)
    (s_Oldest_Farthest:PySem.W.subIn K (.ref xOldest) (.ref xFarthest)=some false)
    (s_Oldest_First:PySem.W.subIn K (.ref xOldest) (.ref xFirst)=some false)
    (s_Oldest_Halving:PySem.W.subIn K (.ref xOldest) (.ref xHalving)=some false)
    (s_Oldest_Hand:PySem.W.subIn K (.ref xOldest) (.ref xHand)=some false)
    (s_Oldest_Oldest:PySem.W.subIn K (.ref xOldest) (.ref xOldest)=some true)
    (s_Oldest_Rows:PySem.W.subIn K (.ref xOldest) (.ref xRows)=some false)
    (s_Rows_Dues:PySem.W.subIn K (.ref xRows) (.ref xDues)=some false)
    (s_Rows_Farthest:PySem.W.subIn K (.ref xRows) (.ref xFarthest)=some false)
    (s_Rows_First:PySem.W.subIn K (.ref xRows) (.ref xFirst)=some false)
    (s_Rows_Halving:PySem.W.subIn K (.ref xRows) (.ref xHalving)=some false)
    (s_Rows_Hand:PySem.W.subIn K (.ref xRows) (.ref xHand)=some false)
    (s_Rows_Oldest:PySem.W.subIn K (.ref xRows) (.ref xOldest)=some false)
    (s_Rows_Rows:PySem.W.subIn K (.ref xRows) (.ref xRows)=some true)
    (a_make_oldest:PySem.W.nsIn K mainGlobals "make_oldest"=some (some (.ref xmake_oldest)))
    (a_make_first:PySem.W.nsIn K mainGlobals "make_first"=some (some (.ref xmake_first)))
    (a_make_halving:PySem.W.nsIn K mainGlobals "make_halving"=some (some (.ref xmake_halving)))
    (a_make_farthest:PySem.W.nsIn K mainGlobals "make_farthest"=some (some (.ref xmake_farthest)))
    (a_make_hand:PySem.W.nsIn K mainGlobals "make_hand"=some (some (.ref xmake_hand)))
    (a_make_rows:PySem.W.nsIn K mainGlobals "make_rows"=some (some (.ref xmake_rows)))
    (a_make_dues:PySem.W.nsIn K mainGlobals "make_dues"=some (some (.ref xmake_dues)))
    (a_MAKERS:PySem.W.nsIn K mainGlobals "MAKERS"=some (some (.ref xMAKERS)))
    {eT_MAKERS:Array DictEntry} {nT_MAKERS:Nat} (lT_MAKERS:K.lookup xMAKERS=some ⟨.type "dict",none,.dict eT_MAKERS nT_MAKERS,#[]⟩) (kT_MAKERS:PySem.W.KeysLit w.params eT_MAKERS.toList) (oT_MAKERS:(xMAKERS==sysModules)=false)
    (wT0_MAKERS:PySem.W.nsIn K xMAKERS "oldest"=some (some (.ref xmake_oldest)))
    (wT1_MAKERS:PySem.W.nsIn K xMAKERS "first"=some (some (.ref xmake_first)))
    (wT2_MAKERS:PySem.W.nsIn K xMAKERS "halving"=some (some (.ref xmake_halving)))
    (wT3_MAKERS:PySem.W.nsIn K xMAKERS "farthest"=some (some (.ref xmake_farthest)))
    (wT4_MAKERS:PySem.W.nsIn K xMAKERS "hand"=some (some (.ref xmake_hand)))
    (wT5_MAKERS:PySem.W.nsIn K xMAKERS "rows"=some (some (.ref xmake_rows)))
    (wT6_MAKERS:PySem.W.nsIn K xMAKERS "dues"=some (some (.ref xmake_dues)))
    (wT7_MAKERS:PySem.W.nsIn K xMAKERS ""=some none)
    (wT8_MAKERS:PySem.W.nsIn K xMAKERS "Oldest"=some none)
    (wT9_MAKERS:PySem.W.nsIn K xMAKERS "oldest "=some none)
    (wT10_MAKERS:PySem.W.nsIn K xMAKERS "row"=some none)
    (wT11_MAKERS:PySem.W.nsIn K xMAKERS "first\n"=some none)
    :∃fd:FuncData,(∀(s:Shared) (v:Value),BindsTo s fd ⟨[v],[]⟩ [("_law_script",v)])∧∀base:Heap,K.In base→base.Ns mainGlobals mg→FnOk l.prog w K mg base (CXF l.prog w) 10 fa fd ["_law_script"] (sp_law K):=by
  have e:=hfa.symm.trans (PySem.W.mg_of X G a49)
  cases e
  have T:Txt K mg xCastError xNoRule xNoNumber xStock xRule xRanked xOldest xFirst xHalving xFarthest xHand xRows xDues xmake_oldest xmake_first xmake_halving xmake_farthest xmake_hand xmake_rows xmake_dues xMAKERS:=⟨PySem.W.mg_of X G a_Stock,⟨pg_Stock,hd_Stock,po_Stock,sa_Stock⟩,n_Stock_things,PySem.W.mg_of X G a_Rule,⟨pg_Rule,hd_Rule,po_Rule,sa_Rule⟩,n_Rule_stock,n_Rule_places,PySem.W.mg_of X G a_Ranked,⟨pg_Ranked,hd_Ranked,po_Ranked,sa_Ranked⟩,n_Ranked_stock,n_Ranked_places,n_Ranked_present,n_Ranked_last,PySem.W.mg_of X G a_Oldest,⟨pg_Oldest,hd_Oldest,po_Oldest,sa_Oldest⟩,n_Oldest_stock,n_Oldest_places,n_Oldest_present,n_Oldest_last,PySem.W.mg_of X G a_First,⟨pg_First,hd_First,po_First,sa_First⟩,n_First_stock,n_First_places,n_First_present,n_First_last,n_First_put_at,PySem.W.mg_of X G a_Halving,⟨pg_Halving,hd_Halving,po_Halving,sa_Halving⟩,n_Halving_stock,n_Halving_places,n_Halving_present,n_Halving_last,n_Halving_turn,n_Halving_tally,PySem.W.mg_of X G a_Farthest,⟨pg_Farthest,hd_Farthest,po_Farthest,sa_Farthest⟩,n_Farthest_stock,n_Farthest_places,n_Farthest_present,n_Farthest_last,n_Farthest_asks,PySem.W.mg_of X G a_Hand,⟨pg_Hand,hd_Hand,po_Hand,sa_Hand⟩,n_Hand_stock,n_Hand_places,n_Hand_order,n_Hand_marked,PySem.W.mg_of X G a_Rows,⟨pg_Rows,hd_Rows,po_Rows,sa_Rows⟩,n_Rows_stock,n_Rows_places,n_Rows_once,n_Rows_again,n_Rows_past_once,n_Rows_past_again,n_Rows_bound,n_Rows_returns,PySem.W.mg_of X G a_Dues,⟨pg_Dues,hd_Dues,po_Dues,sa_Dues⟩,n_Dues_stock,n_Dues_places,n_Dues_reached,n_Dues_dues,n_Dues_rises,PySem.W.mg_of X G a_CastError,PySem.W.mg_of X G a_NoRule,excC_of lC_NoRule lN_NoRule sN_NoRule iN_NoRule lA lNA sNA iNA,kc_NoRule,PySem.W.mg_of X G a_NoNumber,⟨ga_NoRule,gh_NoRule⟩,⟨⟨ga_NoRule,gh_NoRule,wa_NoRule,gs_,tk_,wb_NoRule,wo_NoRule,⟨_,wc_NoRule⟩⟩,kit_ref ws_NoRule wc_CastError wt_CastError we_NoRule,kit_VE wv_NoRule,kit_ref ws_NoRule wc_NoRule wt_NoRule w_NoRule_NoRule,kit_ref ws_NoRule wc_NoNumber wt_NoNumber w_NoRule_NoNumber,trivial⟩,exm_ref b_CastError cl_CastError ty_CastError s_NoRule_CastError,⟨wa_Dues,gs_,tk_,wo_Dues⟩,⟨wa_Farthest,gs_,tk_,wo_Farthest⟩,⟨wa_First,gs_,tk_,wo_First⟩,⟨wa_Halving,gs_,tk_,wo_Halving⟩,⟨wa_Hand,gs_,tk_,wo_Hand⟩,⟨wa_Oldest,gs_,tk_,wo_Oldest⟩,⟨wa_Rows,gs_,tk_,wo_Rows⟩,kit_own s_Oldest_Oldest cl_Oldest ty_Oldest s_Oldest_Oldest,kit_own s_Oldest_Oldest cl_First ty_First s_Oldest_First,kit_own s_Oldest_Oldest cl_Halving ty_Halving s_Oldest_Halving,kit_own s_Oldest_Oldest cl_Farthest ty_Farthest s_Oldest_Farthest,kit_own s_Oldest_Oldest cl_Hand ty_Hand s_Oldest_Hand,kit_own s_Oldest_Oldest cl_Rows ty_Rows s_Oldest_Rows,kit_own s_Oldest_Oldest cl_Dues ty_Dues s_Oldest_Dues,kit_own s_First_First cl_Oldest ty_Oldest s_First_Oldest,kit_own s_First_First cl_First ty_First s_First_First,kit_own s_First_First cl_Halving ty_Halving s_First_Halving,kit_own s_First_First cl_Farthest ty_Farthest s_First_Farthest,kit_own s_First_First cl_Hand ty_Hand s_First_Hand,kit_own s_First_First cl_Rows ty_Rows s_First_Rows,kit_own s_First_First cl_Dues ty_Dues s_First_Dues,kit_own s_Halving_Halving cl_Oldest ty_Oldest s_Halving_Oldest,kit_own s_Halving_Halving cl_First ty_First s_Halving_First,kit_own s_Halving_Halving cl_Halving ty_Halving s_Halving_Halving,kit_own s_Halving_Halving cl_Farthest ty_Farthest s_Halving_Farthest,kit_own s_Halving_Halving cl_Hand ty_Hand s_Halving_Hand,kit_own s_Halving_Halving cl_Rows ty_Rows s_Halving_Rows,kit_own s_Halving_Halving cl_Dues ty_Dues s_Halving_Dues,kit_own s_Farthest_Farthest cl_Oldest ty_Oldest s_Farthest_Oldest,kit_own s_Farthest_Farthest cl_First ty_First s_Farthest_First,kit_own s_Farthest_Farthest cl_Halving ty_Halving s_Farthest_Halving,kit_own s_Farthest_Farthest cl_Farthest ty_Farthest s_Farthest_Farthest,kit_own s_Farthest_Farthest cl_Hand ty_Hand s_Farthest_Hand,kit_own s_Farthest_Farthest cl_Rows ty_Rows s_Farthest_Rows,kit_own s_Farthest_Farthest cl_Dues ty_Dues s_Farthest_Dues,kit_own s_Hand_Hand cl_Oldest ty_Oldest s_Hand_Oldest,kit_own s_Hand_Hand cl_First ty_First s_Hand_First,kit_own s_Hand_Hand cl_Halving ty_Halving s_Hand_Halving,kit_own s_Hand_Hand cl_Farthest ty_Farthest s_Hand_Farthest,kit_own s_Hand_Hand cl_Hand ty_Hand s_Hand_Hand,kit_own s_Hand_Hand cl_Rows ty_Rows s_Hand_Rows,kit_own s_Hand_Hand cl_Dues ty_Dues s_Hand_Dues,kit_own s_Rows_Rows cl_Oldest ty_Oldest s_Rows_Oldest,kit_own s_Rows_Rows cl_First ty_First s_Rows_First,kit_own s_Rows_Rows cl_Halving ty_Halving s_Rows_Halving,kit_own s_Rows_Rows cl_Farthest ty_Farthest s_Rows_Farthest,kit_own s_Rows_Rows cl_Hand ty_Hand s_Rows_Hand,kit_own s_Rows_Rows cl_Rows ty_Rows s_Rows_Rows,kit_own s_Rows_Rows cl_Dues ty_Dues s_Rows_Dues,kit_own s_Dues_Dues cl_Oldest ty_Oldest s_Dues_Oldest,kit_own s_Dues_Dues cl_First ty_First s_Dues_First,kit_own s_Dues_Dues cl_Halving ty_Halving s_Dues_Halving,kit_own s_Dues_Dues cl_Farthest ty_Farthest s_Dues_Farthest,kit_own s_Dues_Dues cl_Hand ty_Hand s_Dues_Hand,kit_own s_Dues_Dues cl_Rows ty_Rows s_Dues_Rows,kit_own s_Dues_Dues cl_Dues ty_Dues s_Dues_Dues,PySem.W.mg_of X G a_make_oldest,PySem.W.mg_of X G a_make_first,PySem.W.mg_of X G a_make_halving,PySem.W.mg_of X G a_make_farthest,PySem.W.mg_of X G a_make_hand,PySem.W.mg_of X G a_make_rows,PySem.W.mg_of X G a_make_dues,PySem.W.mg_of X G a_MAKERS,PySem.W.mg_none_of X G z_len,PySem.W.mg_none_of X G z_isinstance,PySem.W.mg_none_of X G z_int,PySem.W.mg_none_of X G z_bool,PySem.W.mg_none_of X G z_str,PySem.W.mg_none_of X G z_list,PySem.W.mg_none_of X G z_tuple,PySem.W.mg_none_of X G z_all,PySem.W.mg_none_of X G z_range,PySem.W.mg_none_of X G z_sum,PySem.W.mg_none_of X G z_enumerate,PySem.W.mg_none_of X G z_zip,PySem.W.mg_none_of X G z_max,PySem.W.mg_none_of X G z_min,PySem.W.mg_none_of X G z_dict,PySem.W.mg_none_of X G z_ValueError,⟨_,PySem.W.mg_of X G g_LETTERS⟩,⟨_,PySem.W.mg_of X G g_FIGURES⟩,⟨_,PySem.W.mg_of X G g_MOST_SIGNS⟩,⟨_,PySem.W.mg_of X G g_MOST_THINGS⟩,⟨_,PySem.W.mg_of X G g_MOST_ROOM⟩,⟨_,PySem.W.mg_of X G g_MOST_PLACES⟩,⟨_,PySem.W.mg_of X G g_MOST_ASKS⟩,⟨_,PySem.W.mg_of X G g_MOST_TURN⟩⟩
  have F0:=fun_mk (st:=s_made_of) l0 c0 k0
  have F1:=fun_mk (st:=s_is_name) l1 c1 k1
  have F2:=fun_mk (st:=s_is_whole) l2 c2 k2
  have F3:=fun_mk (st:=s_is_within) l3 c3 k3
  have F4:=fun_mk (st:=s_check_places) l4 c4 k4
  have F5:=fun_mk (st:=s_check_thing) l5 c5 k5
  have F6:=fun_mk (st:=s_Stock_init) l6 c6 kf6
  have F7:=fun_mk (st:=s_Stock_has) l7 c7 k7
  have F8:=fun_mk (st:=s_Stock_thing_of) l8 c8 k8
  have F9:=fun_mk (st:=s_Stock_room_of) l9 c9 k9
  have F10:=fun_mk (st:=s_check_asks) l10 c10 k10
  have F11:=fun_mk (st:=s_Stock_names) l11 c11 k11
  have F12:=fun_mk (st:=s_Rule_init) l12 c12 kf12
  have F13:=fun_mk (st:=s_Ranked_init) l13 c13 kf13
  have F14:=fun_mk (st:=s_Oldest_init) l14 c14 kf14
  have F15:=fun_mk (st:=s_First_init) l15 c15 kf15
  have F16:=funD_mk (st:=s_Halving_init) (dv:=[.int 8 dk16]) l16 c16 kf16 ld16 rfl
  have F17:=fun_mk (st:=s_Farthest_init) l17 c17 kf17
  have F18:=fun_mk (st:=s_Hand_init) l18 c18 kf18
  have F19:=fun_mk (st:=s_Rows_init) l19 c19 kf19
  have F20:=fun_mk (st:=s_Dues_init) l20 c20 kf20
  have F21:=fun_mk (st:=s_Halving_halve) l21 c21 k21
  have F22:=fun_mk (st:=s_Halving_number_ask) l22 c22 k22
  have F23:=fun_mk (st:=s_Halving_asked) l23 c23 k23
  have F24:=fun_mk (st:=s_Halving_came) l24 c24 k24
  have F25:=fun_mk (st:=s_Halving_counts) l25 c25 k25
  have F26:=fun_mk (st:=s_Farthest_number_ask) l26 c26 k26
  have F27:=fun_mk (st:=s_Farthest_coming_of) l27 c27 k27
  have F28:=fun_mk (st:=s_Farthest_asked) l28 c28 k28
  have F29:=fun_mk (st:=s_Farthest_came) l29 c29 k29
  have F30:=fun_mk (st:=s_Farthest_last_of) l30 c30 k30
  have F31:=fun_mk (st:=s_Farthest_rank) l31 c31 k31
  have F32:=fun_mk (st:=s_make_oldest) l32 c32 k32
  have F33:=fun_mk (st:=s_make_first) l33 c33 k33
  have F34:=fun_mk (st:=s_make_halving) l34 c34 k34
  have F35:=fun_mk (st:=s_make_farthest) l35 c35 k35
  have F36:=fun_mk (st:=s_make_hand) l36 c36 k36
  have F37:=fun_mk (st:=s_make_rows) l37 c37 k37
  have F38:=fun_mk (st:=s_make_dues) l38 c38 k38
  have F39:=fun_mk (st:=s_maker_of) l39 c39 k39
  have F40:=fun_mk (st:=s_l_cell_at) l40 c40 k40
  have F41:=fun_mk (st:=s_l_mixed) l41 c41 k41
  have F42:=fun_mk (st:=s_l_names) l42 c42 k42
  have F43:=fun_mk (st:=s_l_room) l43 c43 k43
  have F44:=fun_mk (st:=s_l_places) l44 c44 k44
  have F45:=fun_mk (st:=s_l_kinds) l45 c45 k45
  have F46:=fun_mk (st:=s_l_halving_good) l46 c46 k46
  have F47:=fun_mk (st:=s_l_farthest_good) l47 c47 k47
  have F48:=fun_mk (st:=s_l_refused) l48 c48 k48
  have F49:=fun_mk (st:=s_law) l49 c49 k49
  refine ⟨PySem.W.fnOf "law" "law" (defArgs s_law) (defBody s_law) (defScope s_law) .none kV49 dc49 pm49 an49 cd49 ct49,fun s v=> .of_eq rfl,fun base _ _=>?_⟩
  have D_made_of:Def l.prog w K mg base (CXF l.prog w) 1 "made_of" ["text","signs"] (sp_made):=⟨⟨f0,_,ok_made_of F0 T,PySem.W.mg_of X G a0,k0,F0.binds (ps:=["text","signs"]) fun _ _ _ _ _ _ us hl=>match us,hl with | [_,_],_=>rfl⟩⟩
  have D_is_name:Def l.prog w K mg base (CXF l.prog w) 2 "is_name" ["thing"] (sp_is_name K):=⟨⟨f1,_,ok_is_name F1 T D_made_of,PySem.W.mg_of X G a1,k1,F1.binds (ps:=["thing"]) fun _ _ _ _ _ _ us hl=>match us,hl with | [_],_=>rfl⟩⟩
  have D_is_whole:Def l.prog w K mg base (CXF l.prog w) 1 "is_whole" ["thing"] (sp_is_whole K):=⟨⟨f2,_,ok_is_whole F2 T,PySem.W.mg_of X G a2,k2,F2.binds (ps:=["thing"]) fun _ _ _ _ _ _ us hl=>match us,hl with | [_],_=>rfl⟩⟩
  have D_is_within:Def l.prog w K mg base (CXF l.prog w) 2 "is_within" ["thing","least","most"] (sp_within K):=⟨⟨f3,_,ok_is_within F3 T D_is_whole,PySem.W.mg_of X G a3,k3,F3.binds (ps:=["thing","least","most"]) fun _ _ _ _ _ _ us hl=>match us,hl with | [_,_,_],_=>rfl⟩⟩
  have D_check_places:Def l.prog w K mg base (CXF l.prog w) 3 "check_places" ["places"] (sp32_check):=⟨⟨f4,_,ok_check_places F4 T D_is_within,PySem.W.mg_of X G a4,k4,F4.binds (ps:=["places"]) fun _ _ _ _ _ _ us hl=>match us,hl with | [_],_=>rfl⟩⟩
  have D_check_thing:Def l.prog w K mg base (CXF l.prog w) 3 "check_thing" ["name","cost","room","earlier"] (sp_checkG K):=⟨⟨f5,_,ok_check_thing F5 T D_is_name D_is_within,PySem.W.mg_of X G a5,k5,F5.binds (ps:=["name","cost","room","earlier"]) fun _ _ _ _ _ _ us hl=>match us,hl with | [_,_,_,_],_=>rfl⟩⟩
  have D_Stock_init:DefI l.prog w K mg base (CXF l.prog w) 4 "Stock" xStock ["self","rows"] (sp_initG K xStock):=⟨⟨f6,_,ok_Stock_init F6 T D_check_thing,⟨m6,a6,n6,k6⟩,PySem.W.mg_of X G a_Stock,F6.binds (ps:=["self","rows"]) fun _ _ _ _ _ _ us hl=>match us,hl with | [_,_],_=>rfl⟩⟩
  have D_Stock_has:DefM l.prog w K mg base (CXF l.prog w) 1 xStock "has" ["self","name"] (sp_has K xStock):=⟨⟨f7,_,ok_Stock_has F7 T,⟨a7,n7,k7⟩,F7.binds (ps:=["self","name"]) fun _ _ _ _ _ _ us hl=>match us,hl with | [_,_],_=>rfl⟩⟩
  have D_Stock_thing_of:DefM l.prog w K mg base (CXF l.prog w) 1 xStock "thing_of" ["self","name"] (sp32_thing K xStock):=⟨⟨f8,_,ok_Stock_thing_of F8 T,⟨a8,n8,k8⟩,F8.binds (ps:=["self","name"]) fun _ _ _ _ _ _ us hl=>match us,hl with | [_,_],_=>rfl⟩⟩
  have D_Stock_room_of:DefM l.prog w K mg base (CXF l.prog w) 2 xStock "room_of" ["self","name"] (sp32_room K xStock):=⟨⟨f9,_,ok_Stock_room_of F9 T D_Stock_thing_of,⟨a9,n9,k9⟩,F9.binds (ps:=["self","name"]) fun _ _ _ _ _ _ us hl=>match us,hl with | [_,_],_=>rfl⟩⟩
  have D_check_asks:Def l.prog w K mg base (CXF l.prog w) 4 "check_asks" ["stock","asks","places"] (N41.sp41_asks K xStock):=⟨⟨f10,_,ok_check_asks F10 T D_check_places D_Stock_has D_Stock_room_of,PySem.W.mg_of X G a10,k10,F10.binds (ps:=["stock","asks","places"]) fun _ _ _ _ _ _ us hl=>match us,hl with | [_,_,_],_=>rfl⟩⟩
  have D_Stock_names:DefM l.prog w K mg base (CXF l.prog w) 1 xStock "names" ["self"] (sp_nms K xStock):=⟨⟨f11,_,ok_Stock_names F11 T,⟨a11,n11,k11⟩,F11.binds (ps:=["self"]) fun _ _ _ _ _ _ us hl=>match us,hl with | [_],_=>rfl⟩⟩
  have D_Rule_init:DefB l.prog w K mg base (CXF l.prog w) 4 "Rule" xRule ["self","stock","places"] (sp28_rinit K):=⟨⟨f12,_,ok_Rule_init F12 T D_check_places,⟨m12,a12,n12,k12⟩,PySem.W.mg_of X G a_Rule,F12.binds (ps:=["self","stock","places"]) fun _ _ _ _ _ _ us hl=>match us,hl with | [_,_,_],_=>rfl,fc12,kf12⟩,sc12,rc12⟩
  have D_Ranked_init:DefB l.prog w K mg base (CXF l.prog w) 5 "Ranked" xRanked ["self","stock","places"] (sp28_kinit K):=⟨⟨f13,_,ok_Ranked_init F13 T D_Rule_init,⟨m13,a13,n13,k13⟩,PySem.W.mg_of X G a_Ranked,F13.binds (ps:=["self","stock","places"]) fun _ _ _ _ _ _ us hl=>match us,hl with | [_,_,_],_=>rfl,fc13,kf13⟩,sc13,rc13⟩
  have D_Oldest_init:DefI l.prog w K mg base (CXF l.prog w) 5 "Oldest" xOldest ["self","stock","places"] (sp28_kinit K):=⟨⟨f14,_,ok_Oldest_init F14 T D_Rule_init,⟨m14,a14,n14,k14⟩,PySem.W.mg_of X G a_Oldest,F14.binds (ps:=["self","stock","places"]) fun _ _ _ _ _ _ us hl=>match us,hl with | [_,_,_],_=>rfl⟩⟩
  have D_First_init:DefI l.prog w K mg base (CXF l.prog w) 6 "First" xFirst ["self","stock","places"] (sp22_init xFirst):=⟨⟨f15,_,ok_First_init F15 T D_Ranked_init,⟨m15,a15,n15,k15⟩,PySem.W.mg_of X G a_First,F15.binds (ps:=["self","stock","places"]) fun _ _ _ _ _ _ us hl=>match us,hl with | [_,_,_],_=>rfl⟩⟩
  have D_Halving_init:DefIK l.prog w K mg base (CXF l.prog w) 6 "Halving" xHalving ["self","stock","places","turn"] "turn" [V.int 8] (sp23_init xHalving):=⟨⟨f16,_,_,ok_Halving_init F16 T D_is_within D_Ranked_init,⟨m16,a16,n16,k16⟩,PySem.W.mg_of X G a_Halving,.cons ⟨_,rfl⟩ .nil,F16.binds fun _ _ _ _ _ _ _ _ _ _=>⟨_,rfl,rfl⟩,F16.kbinds fun _ _ _ _ _ _ _ _ _ _ _=>⟨_,rfl,rfl⟩,F16.full fun _ _ _ _ _ _ _ _ _ _ _=>⟨_,rfl,rfl⟩⟩⟩
  have D_Farthest_init:DefI l.prog w K mg base (CXF l.prog w) 6 "Farthest" xFarthest ["self","stock","places","asks"] (sp24_init K xStock xFarthest):=⟨⟨f17,_,ok_Farthest_init F17 T D_check_asks D_Ranked_init,⟨m17,a17,n17,k17⟩,PySem.W.mg_of X G a_Farthest,F17.binds (ps:=["self","stock","places","asks"]) fun _ _ _ _ _ _ us hl=>match us,hl with | [_,_,_,_],_=>rfl⟩⟩
  have D_Hand_init:DefI l.prog w K mg base (CXF l.prog w) 6 "Hand" xHand ["self","stock","places"] (sp28_hinit xHand):=⟨⟨f18,_,ok_Hand_init F18 T D_Rule_init,⟨m18,a18,n18,k18⟩,PySem.W.mg_of X G a_Hand,F18.binds (ps:=["self","stock","places"]) fun _ _ _ _ _ _ us hl=>match us,hl with | [_,_,_],_=>rfl⟩⟩
  have D_Rows_init:DefI l.prog w K mg base (CXF l.prog w) 6 "Rows" xRows ["self","stock","places"] (sp26_init xRows):=⟨⟨f19,_,ok_Rows_init F19 T D_Rule_init,⟨m19,a19,n19,k19⟩,PySem.W.mg_of X G a_Rows,F19.binds (ps:=["self","stock","places"]) fun _ _ _ _ _ _ us hl=>match us,hl with | [_,_,_],_=>rfl⟩⟩
  have D_Dues_init:DefI l.prog w K mg base (CXF l.prog w) 6 "Dues" xDues ["self","stock","places"] (sp57_init xDues):=⟨⟨f20,_,ok_Dues_init F20 T D_Rule_init,⟨m20,a20,n20,k20⟩,PySem.W.mg_of X G a_Dues,F20.binds (ps:=["self","stock","places"]) fun _ _ _ _ _ _ us hl=>match us,hl with | [_,_,_],_=>rfl⟩⟩
  have D_Halving_halve:DefM l.prog w K mg base (CXF l.prog w) 1 xHalving "halve" ["self"] (sp23_halve xHalving):=⟨⟨f21,_,ok_Halving_halve F21 T,⟨a21,n21,k21⟩,F21.binds (ps:=["self"]) fun _ _ _ _ _ _ us hl=>match us,hl with | [_],_=>rfl⟩⟩
  have D_Halving_number_ask:DefM l.prog w K mg base (CXF l.prog w) 1 xHalving "number_ask" ["self","name"] (sp23_number xHalving):=⟨⟨f22,_,ok_Halving_number_ask F22 T,⟨a22,n22,k22⟩,F22.binds (ps:=["self","name"]) fun _ _ _ _ _ _ us hl=>match us,hl with | [_,_],_=>rfl⟩⟩
  have D_Halving_asked:DefM l.prog w K mg base (CXF l.prog w) 3 xHalving "asked" ["self","name"] (spR_asked (T4 xHalving)):=⟨⟨f23,_,ok_Halving_asked F23 T D_Halving_halve D_Halving_number_ask,⟨a23,n23,k23⟩,F23.binds (ps:=["self","name"]) fun _ _ _ _ _ _ us hl=>match us,hl with | [_,_],_=>rfl⟩⟩
  have D_Halving_came:DefM l.prog w K mg base (CXF l.prog w) 1 xHalving "came" ["self","name"] (spR_came (T4 xHalving)):=⟨⟨f24,_,ok_Halving_came F24 T,⟨a24,n24,k24⟩,F24.binds (ps:=["self","name"]) fun _ _ _ _ _ _ us hl=>match us,hl with | [_,_],_=>rfl⟩⟩
  have D_Halving_counts:DefM l.prog w K mg base (CXF l.prog w) 1 xHalving "counts" ["self"] (sp23_counts xHalving):=⟨⟨f25,_,ok_Halving_counts F25 T,⟨a25,n25,k25⟩,F25.binds (ps:=["self"]) fun _ _ _ _ _ _ us hl=>match us,hl with | [_],_=>rfl⟩⟩
  have D_Farthest_number_ask:DefM l.prog w K mg base (CXF l.prog w) 1 xFarthest "number_ask" ["self","name"] (sp24_number xFarthest):=⟨⟨f26,_,ok_Farthest_number_ask F26 T,⟨a26,n26,k26⟩,F26.binds (ps:=["self","name"]) fun _ _ _ _ _ _ us hl=>match us,hl with | [_,_],_=>rfl⟩⟩
  have D_Farthest_coming_of:DefM l.prog w K mg base (CXF l.prog w) 1 xFarthest "coming_of" ["self","name"] (sp24_coming xFarthest):=⟨⟨f27,_,ok_Farthest_coming_of F27 T,⟨a27,n27,k27⟩,F27.binds (ps:=["self","name"]) fun _ _ _ _ _ _ us hl=>match us,hl with | [_,_],_=>rfl⟩⟩
  have D_Farthest_asked:DefM l.prog w K mg base (CXF l.prog w) 3 xFarthest "asked" ["self","name"] (spR_asked3 xFarthest):=⟨⟨f28,_,ok_Farthest_asked F28 T D_Farthest_number_ask,⟨a28,n28,k28⟩,F28.binds (ps:=["self","name"]) fun _ _ _ _ _ _ us hl=>match us,hl with | [_,_],_=>rfl⟩⟩
  have D_Farthest_came:DefM l.prog w K mg base (CXF l.prog w) 1 xFarthest "came" ["self","name"] (spR_came3 xFarthest):=⟨⟨f29,_,ok_Farthest_came F29 T,⟨a29,n29,k29⟩,F29.binds (ps:=["self","name"]) fun _ _ _ _ _ _ us hl=>match us,hl with | [_,_],_=>rfl⟩⟩
  have D_Farthest_last_of:DefM l.prog w K mg base (CXF l.prog w) 1 xFarthest "last_of" ["self","name"] (sp61_last xFarthest):=⟨⟨f30,_,ok_Farthest_last_of F30 T,⟨a30,n30,k30⟩,F30.binds (ps:=["self","name"]) fun _ _ _ _ _ _ us hl=>match us,hl with | [_,_],_=>rfl⟩⟩
  have D_Farthest_rank:DefM l.prog w K mg base (CXF l.prog w) 2 xFarthest "rank" ["self","name"] (sp61_rank xFarthest):=⟨⟨f31,_,ok_Farthest_rank F31 T D_Farthest_coming_of D_Farthest_last_of,⟨a31,n31,k31⟩,F31.binds (ps:=["self","name"]) fun _ _ _ _ _ _ us hl=>match us,hl with | [_,_],_=>rfl⟩⟩
  have D_make_oldest:Def l.prog w K mg base (CXF l.prog w) 8 "make_oldest" ["stock","places","asks"] (sp61_mk (A7.mk xOldest xFirst xHalving xFarthest xHand xRows xDues) K xStock .ol):=⟨⟨f32,_,ok_make_oldest F32 T D_Oldest_init,PySem.W.mg_of X G a32,k32,F32.binds (ps:=["stock","places","asks"]) fun _ _ _ _ _ _ us hl=>match us,hl with | [_,_,_],_=>rfl⟩⟩
  have D_make_first:Def l.prog w K mg base (CXF l.prog w) 8 "make_first" ["stock","places","asks"] (sp61_mk (A7.mk xOldest xFirst xHalving xFarthest xHand xRows xDues) K xStock .fi):=⟨⟨f33,_,ok_make_first F33 T D_First_init,PySem.W.mg_of X G a33,k33,F33.binds (ps:=["stock","places","asks"]) fun _ _ _ _ _ _ us hl=>match us,hl with | [_,_,_],_=>rfl⟩⟩
  have D_make_halving:Def l.prog w K mg base (CXF l.prog w) 8 "make_halving" ["stock","places","asks"] (sp61_mk (A7.mk xOldest xFirst xHalving xFarthest xHand xRows xDues) K xStock .ha):=⟨⟨f34,_,ok_make_halving F34 T D_Halving_init,PySem.W.mg_of X G a34,k34,F34.binds (ps:=["stock","places","asks"]) fun _ _ _ _ _ _ us hl=>match us,hl with | [_,_,_],_=>rfl⟩⟩
  have D_make_farthest:Def l.prog w K mg base (CXF l.prog w) 8 "make_farthest" ["stock","places","asks"] (sp61_mk (A7.mk xOldest xFirst xHalving xFarthest xHand xRows xDues) K xStock .fa):=⟨⟨f35,_,ok_make_farthest F35 T D_Farthest_init,PySem.W.mg_of X G a35,k35,F35.binds (ps:=["stock","places","asks"]) fun _ _ _ _ _ _ us hl=>match us,hl with | [_,_,_],_=>rfl⟩⟩
  have D_make_hand:Def l.prog w K mg base (CXF l.prog w) 8 "make_hand" ["stock","places","asks"] (sp61_mk (A7.mk xOldest xFirst xHalving xFarthest xHand xRows xDues) K xStock .hn):=⟨⟨f36,_,ok_make_hand F36 T D_Hand_init,PySem.W.mg_of X G a36,k36,F36.binds (ps:=["stock","places","asks"]) fun _ _ _ _ _ _ us hl=>match us,hl with | [_,_,_],_=>rfl⟩⟩
  have D_make_rows:Def l.prog w K mg base (CXF l.prog w) 8 "make_rows" ["stock","places","asks"] (sp61_mk (A7.mk xOldest xFirst xHalving xFarthest xHand xRows xDues) K xStock .rw):=⟨⟨f37,_,ok_make_rows F37 T D_Rows_init,PySem.W.mg_of X G a37,k37,F37.binds (ps:=["stock","places","asks"]) fun _ _ _ _ _ _ us hl=>match us,hl with | [_,_,_],_=>rfl⟩⟩
  have D_make_dues:Def l.prog w K mg base (CXF l.prog w) 8 "make_dues" ["stock","places","asks"] (sp61_mk (A7.mk xOldest xFirst xHalving xFarthest xHand xRows xDues) K xStock .du):=⟨⟨f38,_,ok_make_dues F38 T D_Dues_init,PySem.W.mg_of X G a38,k38,F38.binds (ps:=["stock","places","asks"]) fun _ _ _ _ _ _ us hl=>match us,hl with | [_,_,_],_=>rfl⟩⟩
  have D_tab:Tab7 w.params K xMAKERS (A7.mk xmake_oldest xmake_first xmake_halving xmake_farthest xmake_hand xmake_rows xmake_dues):=⟨fun w=>by cases w;exact ktab_of oT_MAKERS lT_MAKERS kT_MAKERS wT0_MAKERS ⟨_,rfl,rfl⟩;exact ktab_of oT_MAKERS lT_MAKERS kT_MAKERS wT1_MAKERS ⟨_,rfl,rfl⟩;exact ktab_of oT_MAKERS lT_MAKERS kT_MAKERS wT2_MAKERS ⟨_,rfl,rfl⟩;exact ktab_of oT_MAKERS lT_MAKERS kT_MAKERS wT3_MAKERS ⟨_,rfl,rfl⟩;exact ktab_of oT_MAKERS lT_MAKERS kT_MAKERS wT4_MAKERS ⟨_,rfl,rfl⟩;exact ktab_of oT_MAKERS lT_MAKERS kT_MAKERS wT5_MAKERS ⟨_,rfl,rfl⟩;exact ktab_of oT_MAKERS lT_MAKERS kT_MAKERS wT6_MAKERS ⟨_,rfl,rfl⟩,fun z hz=>by simp only [texts7,List.mem_cons,List.not_mem_nil,or_false]at hz;rcases hz with e | e | e | e | e <;> rw [e];exact ktab_of oT_MAKERS lT_MAKERS kT_MAKERS wT7_MAKERS rfl;exact ktab_of oT_MAKERS lT_MAKERS kT_MAKERS wT8_MAKERS rfl;exact ktab_of oT_MAKERS lT_MAKERS kT_MAKERS wT9_MAKERS rfl;exact ktab_of oT_MAKERS lT_MAKERS kT_MAKERS wT10_MAKERS rfl;exact ktab_of oT_MAKERS lT_MAKERS kT_MAKERS wT11_MAKERS rfl⟩
  have D_maker_of:Def l.prog w K mg base (CXF l.prog w) 2 "maker_of" ["word"] (sp61_maker (A7.mk xmake_oldest xmake_first xmake_halving xmake_farthest xmake_hand xmake_rows xmake_dues) xNoRule):=⟨⟨f39,_,ok_maker_of F39 T D_tab,PySem.W.mg_of X G a39,k39,F39.binds (ps:=["word"]) fun _ _ _ _ _ _ us hl=>match us,hl with | [_],_=>rfl⟩⟩
  have D_l_cell_at:Def l.prog w K mg base (CXF l.prog w) 1 "_law_cell_at" ["_law_script","_law_k"] (sp_cell K):=⟨⟨f40,_,ok_l_cell_at F40 T,PySem.W.mg_of X G a40,k40,F40.binds (ps:=["_law_script","_law_k"]) fun _ _ _ _ _ _ us hl=>match us,hl with | [_,_],_=>rfl⟩⟩
  have D_l_mixed:Def l.prog w K mg base (CXF l.prog w) 1 "_law_mixed" ["_law_cell","_law_k"] (sp41_mixed):=⟨⟨f41,_,ok_l_mixed F41 T,PySem.W.mg_of X G a41,k41,F41.binds (ps:=["_law_cell","_law_k"]) fun _ _ _ _ _ _ us hl=>match us,hl with | [_,_],_=>rfl⟩⟩
  have D_l_names:Def l.prog w K mg base (CXF l.prog w) 1 "_law_names" ["_law_cell","_law_many"] (sp41_names):=⟨⟨f42,_,ok_l_names F42 T,PySem.W.mg_of X G a42,k42,F42.binds (ps:=["_law_cell","_law_many"]) fun _ _ _ _ _ _ us hl=>match us,hl with | [_,_],_=>rfl⟩⟩
  have D_l_room:Def l.prog w K mg base (CXF l.prog w) 2 "_law_room" ["_law_cell","_law_k"] (sp41_lroom):=⟨⟨f43,_,ok_l_room F43 T D_l_mixed,PySem.W.mg_of X G a43,k43,F43.binds (ps:=["_law_cell","_law_k"]) fun _ _ _ _ _ _ us hl=>match us,hl with | [_,_],_=>rfl⟩⟩
  have D_l_places:Def l.prog w K mg base (CXF l.prog w) 1 "_law_places" ["_law_cell","_law_widest","_law_total"] (sp41_lplaces):=⟨⟨f44,_,ok_l_places F44 T,PySem.W.mg_of X G a44,k44,F44.binds (ps:=["_law_cell","_law_widest","_law_total"]) fun _ _ _ _ _ _ us hl=>match us,hl with | [_,_,_],_=>rfl⟩⟩
  have D_l_kinds:Def l.prog w K mg base (CXF l.prog w) 1 "_law_kinds" ["_law_rule"] (sp61_kinds (A7.mk xOldest xFirst xHalving xFarthest xHand xRows xDues)):=⟨⟨f45,_,ok_l_kinds F45 T,PySem.W.mg_of X G a45,k45,F45.binds (ps:=["_law_rule"]) fun _ _ _ _ _ _ us hl=>match us,hl with | [_],_=>rfl⟩⟩
  have D_l_halving_good:Def l.prog w K mg base (CXF l.prog w) 5 "_law_halving_good" ["_law_rule","_law_other","_law_name"] (sp61_halving xHalving):=⟨⟨f46,_,ok_l_halving_good F46 T D_Halving_asked D_Halving_came D_Halving_counts,PySem.W.mg_of X G a46,k46,F46.binds (ps:=["_law_rule","_law_other","_law_name"]) fun _ _ _ _ _ _ us hl=>match us,hl with | [_,_,_],_=>rfl⟩⟩
  have D_l_farthest_good:Def l.prog w K mg base (CXF l.prog w) 5 "_law_farthest_good" ["_law_rule","_law_asks","_law_names_here"] (sp61_farthest K xFarthest):=⟨⟨f47,_,ok_l_farthest_good F47 T D_Farthest_asked D_Farthest_came D_Farthest_rank,PySem.W.mg_of X G a47,k47,F47.binds (ps:=["_law_rule","_law_asks","_law_names_here"]) fun _ _ _ _ _ _ us hl=>match us,hl with | [_,_,_],_=>rfl⟩⟩
  have D_l_refused:Def l.prog w K mg base (CXF l.prog w) 4 "_law_refused" ["_law_thing"] (sp61_refused):=⟨⟨f48,_,ok_l_refused F48 T D_maker_of,PySem.W.mg_of X G a48,k48,F48.binds (ps:=["_law_thing"]) fun _ _ _ _ _ _ us hl=>match us,hl with | [_],_=>rfl⟩⟩
  exact ok_law F49 T D_l_cell_at D_l_refused D_l_names D_l_room D_l_places D_Stock_init D_Stock_names D_maker_of D_l_kinds D_l_halving_good D_l_farthest_good D_make_oldest D_make_first D_make_halving D_make_farthest D_make_hand D_make_rows D_make_dues
end K61
theorem PySem.W.Fast.tw2136122527401887302:True:=trivial
theorem PySem.W.Fast.tw6647359836311151368:True:=trivial
theorem PySem.W.Fast.tw13757785585373210186:True:=trivial
theorem PySem.W.Fast.tw2683624572348615508:True:=trivial
theorem PySem.W.Fast.tw2605926880480531633:True:=trivial
theorem PySem.W.Fast.tw5990235872827830240:True:=trivial
theorem PySem.W.Fast.tw5578719484265649189:True:=trivial
theorem PySem.W.Fast.tw9560658443227563986:True:=trivial
theorem PySem.W.Fast.tw6262257675561988643:True:=trivial
theorem PySem.W.Fast.tw16368996572776780488:True:=trivial
theorem PySem.W.Fast.tw881555331275499745:True:=trivial
theorem PySem.W.Fast.tw15841625570748714927:True:=trivial
theorem PySem.W.Fast.tw13138722669748510637:True:=trivial
theorem PySem.W.Fast.tw12090334744823172470:True:=trivial
theorem PySem.W.Fast.tw2926484791048380108:True:=trivial
theorem PySem.W.Fast.tw17715718267795108891:True:=trivial
theorem PySem.W.Fast.tw2457134690076834447:True:=trivial
theorem PySem.W.Fast.tw7232707045638742764:True:=trivial
theorem PySem.W.Fast.tw1464510850640377985:True:=trivial
theorem PySem.W.Fast.tw91975333905906215:True:=trivial
theorem PySem.W.Fast.tw15797181951792772425:True:=trivial
theorem PySem.W.Fast.tw16826818760192651798:True:=trivial
theorem PySem.W.Fast.tw12532547668239962481:True:=trivial
theorem PySem.W.Fast.tw16819400605663783987:True:=trivial
theorem PySem.W.Fast.tw10269670745644473709:True:=trivial
theorem PySem.W.Fast.tw15162564720350240744:True:=trivial
theorem PySem.W.Fast.tw9437446497162511407:True:=trivial
theorem PySem.W.Fast.tw13485012981846171826:True:=trivial
theorem PySem.W.Fast.tw4917290657767101913:True:=trivial
theorem PySem.W.Fast.tw9687862217995122428:True:=trivial
theorem PySem.W.Fast.tw18203754096542680779:True:=trivial
theorem PySem.W.Fast.tw9869592927184279156:True:=trivial
theorem PySem.W.Fast.tw15104514827787469425:True:=trivial
theorem PySem.W.Fast.tw1665492017741284736:True:=trivial
theorem PySem.W.Fast.tw8421774736135962158:True:=trivial
theorem PySem.W.Fast.tw10098189530477457001:True:=trivial
theorem PySem.W.Fast.tw1322127128911899032:True:=trivial
theorem PySem.W.Fast.tw9731390444423743981:True:=trivial
theorem PySem.W.Fast.tw1381926639066991291:True:=trivial
theorem PySem.W.Fast.tw4231673879457290292:True:=trivial
theorem PySem.W.Fast.tw4815963620612533219:True:=trivial
theorem PySem.W.Fast.tw17978633453694782607:True:=trivial
theorem PySem.W.Fast.tw14036452903913907534:True:=trivial
theorem PySem.W.Fast.tw13484981619209361865:True:=trivial
theorem PySem.W.Fast.tw7074326056350220253:True:=trivial
theorem PySem.W.Fast.tw15548510783749279536:True:=trivial
theorem PySem.W.Fast.tw4033177164540158138:True:=trivial
theorem PySem.W.Fast.tw11047034902409336147:True:=trivial
theorem PySem.W.Fast.tw18427903731172562972:True:=trivial
theorem PySem.W.Fast.tw15390094977899536487:True:=trivial
theorem PySem.W.Fast.tw4759340827121310382:True:=trivial
theorem PySem.W.Fast.tw8260566188347910502:True:=trivial
open PySem PySem.W PyProof.Rows
set_option maxRecDepth 100000 in
set_option maxHeartbeats 0 in
theorem PySem.Challenge.cw_castoff_k61_makers_of_rules_holds : PySem.Challenge.rw_castoff_k61_makers_of_rules.Holds := by
  w_on;o_law;k_head;(case hw=>w_witness2)
  k_fill
  refine L2.walk_ofKF (l:=PySem.Challenge.rw_castoff_k61_makers_of_rules) (n:=63) (k:=10) (x:="_law_script") (sp:=N1.sp_law) rfl (by decide) rfl ⟨rfl,by decide,by decide⟩ (fun w h Y=>PySem.W.kIn_of Y) ?F ?S
  case F=>
    intro w mg fa h KX G hmg
    refine' K61.all_mk KX G hmg ?a0 ?l0 ?c0 ?k0 ?a1 ?l1 ?c1 ?k1 ?a2 ?l2 ?c2 ?k2 ?a3 ?l3 ?c3 ?k3 ?a4 ?l4 ?c4 ?k4 ?a5 ?l5 ?c5 ?k5 ?a6 ?l6 ?c6 ?n6 ?k6 ?m6 ?kf6 ?a7 ?l7 ?c7 ?n7 ?k7 ?a8 ?l8 ?c8 ?n8 ?k8 ?a9 ?l9 ?c9 ?n9 ?k9 ?a10 ?l10 ?c10 ?k10 ?a11 ?l11 ?c11 ?n11 ?k11 ?a12 ?l12 ?c12 ?n12 ?k12 ?m12 ?kf12 ?fc12 ?sc12 ?rc12 ?a13 ?l13 ?c13 ?n13 ?k13 ?m13 ?kf13 ?fc13 ?sc13 ?rc13 ?a14 ?l14 ?c14 ?n14 ?k14 ?m14 ?kf14 ?a15 ?l15 ?c15 ?n15 ?k15 ?m15 ?kf15 ?a16 ?l16 ?c16 ?ld16 ?n16 ?k16 ?m16 ?kf16 ?a17 ?l17 ?c17 ?n17 ?k17 ?m17 ?kf17 ?a18 ?l18 ?c18 ?n18 ?k18 ?m18 ?kf18 ?a19 ?l19 ?c19 ?n19 ?k19 ?m19 ?kf19 ?a20 ?l20 ?c20 ?n20 ?k20 ?m20 ?kf20 ?a21 ?l21 ?c21 ?n21 ?k21 ?a22 ?l22 ?c22 ?n22 ?k22 ?a23 ?l23 ?c23 ?n23 ?k23 ?a24 ?l24 ?c24 ?n24 ?k24 ?a25 ?l25 ?c25 ?n25 ?k25 ?a26 ?l26 ?c26 ?n26 ?k26 ?a27 ?l27 ?c27 ?n27 ?k27 ?a28 ?l28 ?c28 ?n28 ?k28 ?a29 ?l29 ?c29 ?n29 ?k29 ?a30 ?l30 ?c30 ?n30 ?k30 ?a31 ?l31 ?c31 ?n31 ?k31 ?a32 ?l32 ?c32 ?k32 ?a33 ?l33 ?c33 ?k33 ?a34 ?l34 ?c34 ?k34 ?a35 ?l35 ?c35 ?k35 ?a36 ?l36 ?c36 ?k36 ?a37 ?l37 ?c37 ?k37 ?a38 ?l38 ?c38 ?k38 ?a39 ?l39 ?c39 ?k39 ?a40 ?l40 ?c40 ?k40 ?a41 ?l41 ?c41 ?k41 ?a42 ?l42 ?c42 ?k42 ?a43 ?l43 ?c43 ?k43 ?a44 ?l44 ?c44 ?k44 ?a45 ?l45 ?c45 ?k45 ?a46 ?l46 ?c46 ?k46 ?a47 ?l47 ?c47 ?k47 ?a48 ?l48 ?c48 ?k48 ?a49 ?l49 ?c49 ?k49 ?z_len ?z_isinstance ?z_int ?z_bool ?z_str ?z_list ?z_tuple ?z_all ?z_range ?z_sum ?z_enumerate ?z_zip ?z_max ?z_min ?z_dict ?z_ValueError ?g_LETTERS ?g_FIGURES ?g_MOST_SIGNS ?g_MOST_THINGS ?g_MOST_ROOM ?g_MOST_PLACES ?g_MOST_ASKS ?g_MOST_TURN ?a_Stock ?pg_Stock ?hd_Stock ?po_Stock ?sa_Stock ?n_Stock_things ?a_Rule ?pg_Rule ?hd_Rule ?po_Rule ?sa_Rule ?n_Rule_stock ?n_Rule_places ?a_Ranked ?pg_Ranked ?hd_Ranked ?po_Ranked ?sa_Ranked ?n_Ranked_stock ?n_Ranked_places ?n_Ranked_present ?n_Ranked_last ?a_Oldest ?pg_Oldest ?hd_Oldest ?po_Oldest ?sa_Oldest ?n_Oldest_stock ?n_Oldest_places ?n_Oldest_present ?n_Oldest_last ?a_First ?pg_First ?hd_First ?po_First ?sa_First ?n_First_stock ?n_First_places ?n_First_present ?n_First_last ?n_First_put_at ?a_Halving ?pg_Halving ?hd_Halving ?po_Halving ?sa_Halving ?n_Halving_stock ?n_Halving_places ?n_Halving_present ?n_Halving_last ?n_Halving_turn ?n_Halving_tally ?a_Farthest ?pg_Farthest ?hd_Farthest ?po_Farthest ?sa_Farthest ?n_Farthest_stock ?n_Farthest_places ?n_Farthest_present ?n_Farthest_last ?n_Farthest_asks ?a_Hand ?pg_Hand ?hd_Hand ?po_Hand ?sa_Hand ?n_Hand_stock ?n_Hand_places ?n_Hand_order ?n_Hand_marked ?a_Rows ?pg_Rows ?hd_Rows ?po_Rows ?sa_Rows ?n_Rows_stock ?n_Rows_places ?n_Rows_once ?n_Rows_again ?n_Rows_past_once ?n_Rows_past_again ?n_Rows_bound ?n_Rows_returns ?a_Dues ?pg_Dues ?hd_Dues ?po_Dues ?sa_Dues ?n_Dues_stock ?n_Dues_places ?n_Dues_reached ?n_Dues_dues ?n_Dues_rises ?a_CastError ?a_NoRule ?a_NoNumber ?lA ?lNA ?sNA ?iNA ?lC_NoRule ?lN_NoRule ?sN_NoRule ?iN_NoRule ?kc_NoRule ?ga_NoRule ?gh_NoRule ?gs_ ?tk_ ?wc_NoRule ?wt_NoRule ?wc_NoNumber ?wt_NoNumber ?wc_CastError ?wt_CastError ?wa_NoRule ?wb_NoRule ?wo_NoRule ?ws_NoRule ?wv_NoRule ?we_NoRule ?w_NoRule_NoRule ?w_NoRule_NoNumber ?b_CastError ?cl_CastError ?ty_CastError ?s_NoRule_CastError ?cl_Dues ?ty_Dues ?cl_Farthest ?ty_Farthest ?cl_First ?ty_First ?cl_Halving ?ty_Halving ?cl_Hand ?ty_Hand ?cl_Oldest ?ty_Oldest ?cl_Rows ?ty_Rows ?wa_Dues ?wo_Dues ?wa_Farthest ?wo_Farthest ?wa_First ?wo_First ?wa_Halving ?wo_Halving ?wa_Hand ?wo_Hand ?wa_Oldest ?wo_Oldest ?wa_Rows ?wo_Rows ?s_Dues_Dues ?s_Dues_Farthest ?s_Dues_First ?s_Dues_Halving ?s_Dues_Hand ?s_Dues_Oldest ?s_Dues_Rows ?s_Farthest_Dues ?s_Farthest_Farthest ?s_Farthest_First ?s_Farthest_Halving ?s_Farthest_Hand ?s_Farthest_Oldest ?s_Farthest_Rows ?s_First_Dues ?s_First_Farthest ?s_First_First ?s_First_Halving ?s_First_Hand ?s_First_Oldest ?s_First_Rows ?s_Halving_Dues ?s_Halving_Farthest ?s_Halving_First ?s_Halving_Halving ?s_Halving_Hand ?s_Halving_Oldest ?s_Halving_Rows ?s_Hand_Dues ?s_Hand_Farthest ?s_Hand_First ?s_Hand_Halving ?s_Hand_Hand ?s_Hand_Oldest ?s_Hand_Rows ?s_Oldest_Dues ?s_Oldest_Farthest ?s_Oldest_First ?s_Oldest_Halving ?s_Oldest_Hand ?s_Oldest_Oldest ?s_Oldest_Rows ?s_Rows_Dues ?s_Rows_Farthest ?s_Rows_First ?s_Rows_Halving ?s_Rows_Hand ?s_Rows_Oldest ?s_Rows_Rows ?a_make_oldest ?a_make_first ?a_make_halving ?a_make_farthest ?a_make_hand ?a_make_rows ?a_make_dues ?a_MAKERS ?lT_MAKERS ?kT_MAKERS ?oT_MAKERS ?wT0_MAKERS ?wT1_MAKERS ?wT2_MAKERS ?wT3_MAKERS ?wT4_MAKERS ?wT5_MAKERS ?wT6_MAKERS ?wT7_MAKERS ?wT8_MAKERS ?wT9_MAKERS ?wT10_MAKERS ?wT11_MAKERS
    (case a_Stock=>k_is)
    (case a_Rule=>k_is)
    (case a_Ranked=>k_is)
    (case a_Oldest=>k_is)
    (case a_First=>k_is)
    (case a_Halving=>k_is)
    (case a_Farthest=>k_is)
    (case a_Hand=>k_is)
    (case a_Rows=>k_is)
    (case a_Dues=>k_is)
    (case a_CastError=>k_is)
    (case a_NoRule=>k_is)
    (case a_NoNumber=>k_is)
    (case a_make_oldest=>k_is)
    (case a_make_first=>k_is)
    (case a_make_halving=>k_is)
    (case a_make_farthest=>k_is)
    (case a_make_hand=>k_is)
    (case a_make_rows=>k_is)
    (case a_make_dues=>k_is)
    (case a_MAKERS=>k_is)
    (case a0=>k_is)
    (case l0=>k_is)
    (case c0=>k_is)
    (case k0=>k_is)
    (case a1=>k_is)
    (case l1=>k_is)
    (case c1=>k_is)
    (case k1=>k_is)
    (case a2=>k_is)
    (case l2=>k_is)
    (case c2=>k_is)
    (case k2=>k_is)
    (case a3=>k_is)
    (case l3=>k_is)
    (case c3=>k_is)
    (case k3=>k_is)
    (case a4=>k_is)
    (case l4=>k_is)
    (case c4=>k_is)
    (case k4=>k_is)
    (case a5=>k_is)
    (case l5=>k_is)
    (case c5=>k_is)
    (case k5=>k_is)
    (case a6=>k_is)
    (case l6=>k_is)
    (case c6=>k_is)
    (case n6=>k_is)
    (case k6=>k_is)
    (case m6=>k_is)
    (case kf6=>k_is)
    (case a7=>k_is)
    (case l7=>k_is)
    (case c7=>k_is)
    (case n7=>k_is)
    (case k7=>k_is)
    (case a8=>k_is)
    (case l8=>k_is)
    (case c8=>k_is)
    (case n8=>k_is)
    (case k8=>k_is)
    (case a9=>k_is)
    (case l9=>k_is)
    (case c9=>k_is)
    (case n9=>k_is)
    (case k9=>k_is)
    (case a10=>k_is)
    (case l10=>k_is)
    (case c10=>k_is)
    (case k10=>k_is)
    (case a11=>k_is)
    (case l11=>k_is)
    (case c11=>k_is)
    (case n11=>k_is)
    (case k11=>k_is)
    (case a12=>k_is)
    (case l12=>k_is)
    (case c12=>k_is)
    (case n12=>k_is)
    (case k12=>k_is)
    (case m12=>k_is)
    (case kf12=>k_is)
    (case fc12=>k_is)
    (case sc12=>k_is)
    (case rc12=>k_is)
    (case a13=>k_is)
    (case l13=>k_is)
    (case c13=>k_is)
    (case n13=>k_is)
    (case k13=>k_is)
    (case m13=>k_is)
    (case kf13=>k_is)
    (case fc13=>k_is)
    (case sc13=>k_is)
    (case rc13=>k_is)
    (case a14=>k_is)
    (case l14=>k_is)
    (case c14=>k_is)
    (case n14=>k_is)
    (case k14=>k_is)
    (case m14=>k_is)
    (case kf14=>k_is)
    (case a15=>k_is)
    (case l15=>k_is)
    (case c15=>k_is)
    (case n15=>k_is)
    (case k15=>k_is)
    (case m15=>k_is)
    (case kf15=>k_is)
    (case a16=>k_is)
    (case l16=>k_is)
    (case c16=>k_is)
    (case ld16=>k_is)
    (case n16=>k_is)
    (case k16=>k_is)
    (case m16=>k_is)
    (case kf16=>k_is)
    (case a17=>k_is)
    (case l17=>k_is)
    (case c17=>k_is)
    (case n17=>k_is)
    (case k17=>k_is)
    (case m17=>k_is)
    (case kf17=>k_is)
    (case a18=>k_is)
    (case l18=>k_is)
    (case c18=>k_is)
    (case n18=>k_is)
    (case k18=>k_is)
    (case m18=>k_is)
    (case kf18=>k_is)
    (case a19=>k_is)
    (case l19=>k_is)
    (case c19=>k_is)
    (case n19=>k_is)
    (case k19=>k_is)
    (case m19=>k_is)
    (case kf19=>k_is)
    (case a20=>k_is)
    (case l20=>k_is)
    (case c20=>k_is)
    (case n20=>k_is)
    (case k20=>k_is)
    (case m20=>k_is)
    (case kf20=>k_is)
    (case a21=>k_is)
    (case l21=>k_is)
    (case c21=>k_is)
    (case n21=>k_is)
    (case k21=>k_is)
    (case a22=>k_is)
    (case l22=>k_is)
    (case c22=>k_is)
    (case n22=>k_is)
    (case k22=>k_is)
    (case a23=>k_is)
    (case l23=>k_is)
    (case c23=>k_is)
    (case n23=>k_is)
    (case k23=>k_is)
    (case a24=>k_is)
    (case l24=>k_is)
    (case c24=>k_is)
    (case n24=>k_is)
    (case k24=>k_is)
    (case a25=>k_is)
    (case l25=>k_is)
    (case c25=>k_is)
    (case n25=>k_is)
    (case k25=>k_is)
    (case a26=>k_is)
    (case l26=>k_is)
    (case c26=>k_is)
    (case n26=>k_is)
    (case k26=>k_is)
    (case a27=>k_is)
    (case l27=>k_is)
    (case c27=>k_is)
    (case n27=>k_is)
    (case k27=>k_is)
    (case a28=>k_is)
    (case l28=>k_is)
    (case c28=>k_is)
    (case n28=>k_is)
    (case k28=>k_is)
    (case a29=>k_is)
    (case l29=>k_is)
    (case c29=>k_is)
    (case n29=>k_is)
    (case k29=>k_is)
    (case a30=>k_is)
    (case l30=>k_is)
    (case c30=>k_is)
    (case n30=>k_is)
    (case k30=>k_is)
    (case a31=>k_is)
    (case l31=>k_is)
    (case c31=>k_is)
    (case n31=>k_is)
    (case k31=>k_is)
    (case a32=>k_is)
    (case l32=>k_is)
    (case c32=>k_is)
    (case k32=>k_is)
    (case a33=>k_is)
    (case l33=>k_is)
    (case c33=>k_is)
    (case k33=>k_is)
    (case a34=>k_is)
    (case l34=>k_is)
    (case c34=>k_is)
    (case k34=>k_is)
    (case a35=>k_is)
    (case l35=>k_is)
    (case c35=>k_is)
    (case k35=>k_is)
    (case a36=>k_is)
    (case l36=>k_is)
    (case c36=>k_is)
    (case k36=>k_is)
    (case a37=>k_is)
    (case l37=>k_is)
    (case c37=>k_is)
    (case k37=>k_is)
    (case a38=>k_is)
    (case l38=>k_is)
    (case c38=>k_is)
    (case k38=>k_is)
    (case a39=>k_is)
    (case l39=>k_is)
    (case c39=>k_is)
    (case k39=>k_is)
    (case a40=>k_is)
    (case l40=>k_is)
    (case c40=>k_is)
    (case k40=>k_is)
    (case a41=>k_is)
    (case l41=>k_is)
    (case c41=>k_is)
    (case k41=>k_is)
    (case a42=>k_is)
    (case l42=>k_is)
    (case c42=>k_is)
    (case k42=>k_is)
    (case a43=>k_is)
    (case l43=>k_is)
    (case c43=>k_is)
    (case k43=>k_is)
    (case a44=>k_is)
    (case l44=>k_is)
    (case c44=>k_is)
    (case k44=>k_is)
    (case a45=>k_is)
    (case l45=>k_is)
    (case c45=>k_is)
    (case k45=>k_is)
    (case a46=>k_is)
    (case l46=>k_is)
    (case c46=>k_is)
    (case k46=>k_is)
    (case a47=>k_is)
    (case l47=>k_is)
    (case c47=>k_is)
    (case k47=>k_is)
    (case a48=>k_is)
    (case l48=>k_is)
    (case c48=>k_is)
    (case k48=>k_is)
    (case a49=>k_is)
    (case l49=>k_is)
    (case c49=>k_is)
    (case k49=>k_is)
    (case z_len=>k_is)
    (case z_isinstance=>k_is)
    (case z_int=>k_is)
    (case z_bool=>k_is)
    (case z_str=>k_is)
    (case z_list=>k_is)
    (case z_tuple=>k_is)
    (case z_all=>k_is)
    (case z_range=>k_is)
    (case z_sum=>k_is)
    (case z_enumerate=>k_is)
    (case z_zip=>k_is)
    (case z_max=>k_is)
    (case z_min=>k_is)
    (case z_dict=>k_is)
    (case z_ValueError=>k_is)
    (case g_LETTERS=>k_is)
    (case g_FIGURES=>k_is)
    (case g_MOST_SIGNS=>k_is)
    (case g_MOST_THINGS=>k_is)
    (case g_MOST_ROOM=>k_is)
    (case g_MOST_PLACES=>k_is)
    (case g_MOST_ASKS=>k_is)
    (case g_MOST_TURN=>k_is)
    (case pg_Stock=>k_is)
    (case hd_Stock=>k_is)
    (case po_Stock=>k_is)
    (case sa_Stock=>k_is)
    (case n_Stock_things=>k_is)
    (case pg_Rule=>k_is)
    (case hd_Rule=>k_is)
    (case po_Rule=>k_is)
    (case sa_Rule=>k_is)
    (case n_Rule_stock=>k_is)
    (case n_Rule_places=>k_is)
    (case pg_Ranked=>k_is)
    (case hd_Ranked=>k_is)
    (case po_Ranked=>k_is)
    (case sa_Ranked=>k_is)
    (case n_Ranked_stock=>k_is)
    (case n_Ranked_places=>k_is)
    (case n_Ranked_present=>k_is)
    (case n_Ranked_last=>k_is)
    (case pg_Oldest=>k_is)
    (case hd_Oldest=>k_is)
    (case po_Oldest=>k_is)
    (case sa_Oldest=>k_is)
    (case n_Oldest_stock=>k_is)
    (case n_Oldest_places=>k_is)
    (case n_Oldest_present=>k_is)
    (case n_Oldest_last=>k_is)
    (case pg_First=>k_is)
    (case hd_First=>k_is)
    (case po_First=>k_is)
    (case sa_First=>k_is)
    (case n_First_stock=>k_is)
    (case n_First_places=>k_is)
    (case n_First_present=>k_is)
    (case n_First_last=>k_is)
    (case n_First_put_at=>k_is)
    (case pg_Halving=>k_is)
    (case hd_Halving=>k_is)
    (case po_Halving=>k_is)
    (case sa_Halving=>k_is)
    (case n_Halving_stock=>k_is)
    (case n_Halving_places=>k_is)
    (case n_Halving_present=>k_is)
    (case n_Halving_last=>k_is)
    (case n_Halving_turn=>k_is)
    (case n_Halving_tally=>k_is)
    (case pg_Farthest=>k_is)
    (case hd_Farthest=>k_is)
    (case po_Farthest=>k_is)
    (case sa_Farthest=>k_is)
    (case n_Farthest_stock=>k_is)
    (case n_Farthest_places=>k_is)
    (case n_Farthest_present=>k_is)
    (case n_Farthest_last=>k_is)
    (case n_Farthest_asks=>k_is)
    (case pg_Hand=>k_is)
    (case hd_Hand=>k_is)
    (case po_Hand=>k_is)
    (case sa_Hand=>k_is)
    (case n_Hand_stock=>k_is)
    (case n_Hand_places=>k_is)
    (case n_Hand_order=>k_is)
    (case n_Hand_marked=>k_is)
    (case pg_Rows=>k_is)
    (case hd_Rows=>k_is)
    (case po_Rows=>k_is)
    (case sa_Rows=>k_is)
    (case n_Rows_stock=>k_is)
    (case n_Rows_places=>k_is)
    (case n_Rows_once=>k_is)
    (case n_Rows_again=>k_is)
    (case n_Rows_past_once=>k_is)
    (case n_Rows_past_again=>k_is)
    (case n_Rows_bound=>k_is)
    (case n_Rows_returns=>k_is)
    (case pg_Dues=>k_is)
    (case hd_Dues=>k_is)
    (case po_Dues=>k_is)
    (case sa_Dues=>k_is)
    (case n_Dues_stock=>k_is)
    (case n_Dues_places=>k_is)
    (case n_Dues_reached=>k_is)
    (case n_Dues_dues=>k_is)
    (case n_Dues_rises=>k_is)
    (case lA=>k_is)
    (case lNA=>k_is)
    (case sNA=>rfl)
    (case iNA=>rfl)
    (case lC_NoRule=>k_is)
    (case lN_NoRule=>k_is)
    (case sN_NoRule=>rfl)
    (case iN_NoRule=>rfl)
    (case kc_NoRule=>k_is)
    (case ga_NoRule=>k_is)
    (case gh_NoRule=>k_is)
    (case gs_=>k_is)
    (case tk_=>k_is)
    (case wc_NoRule=>k_is)
    (case wt_NoRule=>k_is)
    (case wc_NoNumber=>k_is)
    (case wt_NoNumber=>k_is)
    (case wc_CastError=>k_is)
    (case wt_CastError=>k_is)
    (case wa_NoRule=>k_is)
    (case wb_NoRule=>k_is)
    (case wo_NoRule=>k_is)
    (case ws_NoRule=>k_is)
    (case wv_NoRule=>k_is)
    (case we_NoRule=>k_is)
    (case w_NoRule_NoRule=>k_is)
    (case w_NoRule_NoNumber=>k_is)
    (case b_CastError=>k_is)
    (case cl_CastError=>k_is)
    (case ty_CastError=>k_is)
    (case s_NoRule_CastError=>k_is)
    (case cl_Dues=>k_is)
    (case ty_Dues=>k_is)
    (case cl_Farthest=>k_is)
    (case ty_Farthest=>k_is)
    (case cl_First=>k_is)
    (case ty_First=>k_is)
    (case cl_Halving=>k_is)
    (case ty_Halving=>k_is)
    (case cl_Hand=>k_is)
    (case ty_Hand=>k_is)
    (case cl_Oldest=>k_is)
    (case ty_Oldest=>k_is)
    (case cl_Rows=>k_is)
    (case ty_Rows=>k_is)
    (case wa_Dues=>k_is)
    (case wo_Dues=>k_is)
    (case wa_Farthest=>k_is)
    (case wo_Farthest=>k_is)
    (case wa_First=>k_is)
    (case wo_First=>k_is)
    (case wa_Halving=>k_is)
    (case wo_Halving=>k_is)
    (case wa_Hand=>k_is)
    (case wo_Hand=>k_is)
    (case wa_Oldest=>k_is)
    (case wo_Oldest=>k_is)
    (case wa_Rows=>k_is)
    (case wo_Rows=>k_is)
    (case s_Dues_Dues=>k_is)
    (case s_Dues_Farthest=>k_is)
    (case s_Dues_First=>k_is)
    (case s_Dues_Halving=>k_is)
    (case s_Dues_Hand=>k_is)
    (case s_Dues_Oldest=>k_is)
    (case s_Dues_Rows=>k_is)
    (case s_Farthest_Dues=>k_is)
    (case s_Farthest_Farthest=>k_is)
    (case s_Farthest_First=>k_is)
    (case s_Farthest_Halving=>k_is)
    (case s_Farthest_Hand=>k_is)
    (case s_Farthest_Oldest=>k_is)
    (case s_Farthest_Rows=>k_is)
    (case s_First_Dues=>k_is)
    (case s_First_Farthest=>k_is)
    (case s_First_First=>k_is)
    (case s_First_Halving=>k_is)
    (case s_First_Hand=>k_is)
    (case s_First_Oldest=>k_is)
    (case s_First_Rows=>k_is)
    (case s_Halving_Dues=>k_is)
    (case s_Halving_Farthest=>k_is)
    (case s_Halving_First=>k_is)
    (case s_Halving_Halving=>k_is)
    (case s_Halving_Hand=>k_is)
    (case s_Halving_Oldest=>k_is)
    (case s_Halving_Rows=>k_is)
    (case s_Hand_Dues=>k_is)
    (case s_Hand_Farthest=>k_is)
    (case s_Hand_First=>k_is)
    (case s_Hand_Halving=>k_is)
    (case s_Hand_Hand=>k_is)
    (case s_Hand_Oldest=>k_is)
    (case s_Hand_Rows=>k_is)
    (case s_Oldest_Dues=>k_is)
    (case s_Oldest_Farthest=>k_is)
    (case s_Oldest_First=>k_is)
    (case s_Oldest_Halving=>k_is)
    (case s_Oldest_Hand=>k_is)
    (case s_Oldest_Oldest=>k_is)
    (case s_Oldest_Rows=>k_is)
    (case s_Rows_Dues=>k_is)
    (case s_Rows_Farthest=>k_is)
    (case s_Rows_First=>k_is)
    (case s_Rows_Halving=>k_is)
    (case s_Rows_Hand=>k_is)
    (case s_Rows_Oldest=>k_is)
    (case s_Rows_Rows=>k_is)
    (case lT_MAKERS=>k_is)
    (case kT_MAKERS=>exact ⟨⟨_,_,rfl,rfl⟩,⟨_,_,rfl,rfl⟩,⟨_,_,rfl,rfl⟩,⟨_,_,rfl,rfl⟩,⟨_,_,rfl,rfl⟩,⟨_,_,rfl,rfl⟩,⟨_,_,rfl,rfl⟩,trivial⟩)
    (case oT_MAKERS=>first | k_is | rfl | decide)
    (case wT0_MAKERS=>k_is)
    (case wT1_MAKERS=>k_is)
    (case wT2_MAKERS=>k_is)
    (case wT3_MAKERS=>k_is)
    (case wT4_MAKERS=>k_is)
    (case wT5_MAKERS=>k_is)
    (case wT6_MAKERS=>k_is)
    (case wT7_MAKERS=>k_is)
    (case wT8_MAKERS=>k_is)
    (case wT9_MAKERS=>k_is)
    (case wT10_MAKERS=>k_is)
    (case wT11_MAKERS=>k_is)
  case S=>exact fun K H a ns hl hO hS=>⟨a,ns,rfl,hS,hl,fun _=>rfl⟩
